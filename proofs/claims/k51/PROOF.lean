import PyProof.Rows.All
import Wide.All
import OpenK.AllK
import Wide.FinOn
import Lean
import PyProof.EqAt
import PyProof.EqKinds
import PyProof.TupleCall
import PyProof.ExcArgsOwn
import PyProof.ExcAttrAll.ValueError
import PyProof.ListMulRoad
import PyProof.Rows.Range3
import KE.KDictLaws
import PyProof.Rows.CallKwBuiltin
import PyProof.Rows.SortRuns
import KE.KDictSum
import PyProof.Rows.SetFrom
import PySem.Challenge.RW_drawndown_k51_least_relations
set_option Elab.async false
set_option linter.all false
set_option maxRecDepth 100000
set_option maxHeartbeats 1000000
set_option exponentiation.threshold 5000
open PySem PySem.Spec PyProof.Rows
abbrev _a:=@wpAny_bind
abbrev _b:=@List.getElem?_eq_some_iff
abbrev _c:=@List.mem_of_getElem?
abbrev _d:=@Nat.le_refl
abbrev _e:=@wpAny_pure
abbrev _f:=@Heap.get?_push_of_some
abbrev _g:=@if_pos
abbrev _h:=@wpS_bind
abbrev _i:=@if_neg
abbrev _j:=@List.mem_cons
abbrev _k:=@List.size_toArray
abbrev _l:=@decide_eq_true_eq
abbrev _m:=@List.length_map
abbrev _n:=@wpS_pure
abbrev _o:=@Heap.lt_size
abbrev _p:=@List.length_cons
abbrev _q:=@List.length_append
abbrev _r:=@List.getElem?_eq_getElem
abbrev _s:=@Heap.get?_push_size
abbrev _t:=@List.map_cons
abbrev _u:=@Bool.and_eq_true
abbrev _v:=@List.getElem?_append_right
abbrev _w:=@Nat.lt_of_lt_of_le
abbrev _x:=@List.mem_map
abbrev _y:=@List.mem_append_right
abbrev _z:=@List.append_assoc
abbrev _A:=@Option.some.inj
abbrev _B:=@List.getElem?_append_left
abbrev _C:=@Nat.ne_of_lt
abbrev _D:=@Option.map_eq_some_iff
abbrev _E:=@wpAny_mono
abbrev _F:=@List.mem_cons_of_mem
abbrev _G:=@Bool.false_eq_true
abbrev _H:=@Nat.le_trans
abbrev _I:=@List.mem_filter
abbrev _J:=@List.length_nil
abbrev _K:=@List.getElem?_set_ne
abbrev _L:=@List.mem_append
abbrev _M:=@Option.some.injEq
abbrev _N:=@List.getElem?_set_self
abbrev _O:=@List.getElem?_map
abbrev _P:=@if_true
abbrev _Q:=@Nat.zero_add
abbrev _R:=@Classical.byContradiction
abbrev _S:=@List.take_append_drop
abbrev _T:=@List.mem_cons_self
abbrev _U:=@List.mem_of_mem_take
abbrev _V:=@List.getD_eq_getElem?_getD
abbrev _W:=@PassesOwn.never
abbrev _X:=@Array.length_toList
abbrev _Y:=@List.take_of_length_le
abbrev _Z:=@List.length_take
abbrev _aa:=@List.cons_append
abbrev _ab:=@List.all_eq_true
abbrev _ac:=@wpAny_newObj_type
abbrev _ad:=@Function.comp_def
abbrev _ae:=@decide_eq_false_iff_not
abbrev _af:=@List.getElem?_cons_zero
abbrev _ag:=@if_false
abbrev _ah:=@List.mem_iff_getElem
abbrev _ai:=@Array.toList_push
abbrev _aj:=@List.getElem?_take_of_lt
abbrev _ak:=@PyProof.Rows.slot_tuple_getitem
abbrev _al:=@PySem.mem_of_lookup
abbrev _am:=@List.lookup_cons
abbrev _an:=@List.not_mem_nil
abbrev _ao:=@wpAny_call_entry
abbrev _ap:=@Nat.pow_le_pow_left
abbrev _aq:=@List.length_filter_le
abbrev _ar:=@Nat.le_of_lt
abbrev _as:=@PyProof.Rows.callWith_type1
abbrev _at:=@Nat.lt_succ_of_lt
abbrev _au:=@List.map_map
abbrev _av:=@wpAny_callSpecial?_slot
abbrev _aw:=@Heap.size_push
abbrev _ax:=@List.mem_singleton
abbrev _ay:=@decide_eq_false
abbrev _az:=@wpAny_holding
abbrev _aA:=@Option.bind_some
abbrev _aB:=@List.mem_or_eq_of_mem_set
abbrev _aC:=@wpAny_field
abbrev _aD:=@List.length_singleton
abbrev _aE:=@List.foldl_cons
abbrev _aF:=@wpS_forRange
abbrev _aG:=@wpAny_rule
abbrev _aH:=@Int.emod_lt_of_pos
abbrev _aI:=@PySem.F.called_set
abbrev _aJ:=@List.mem_append_left
abbrev _aK:=@List.getElem_inj
abbrev _aL:=@List.getElem?_cons_succ
abbrev _aM:=@Int.eq_ofNat_of_zero_le
abbrev _aN:=@Nat.mul_le_mul_right
abbrev _aO:=@wpAny_standAt
abbrev _aP:=@wpAny_truthy_bool
abbrev _aQ:=@List.flatMap_append
abbrev _aR:=@List.nodup_cons
abbrev _aS:=@Option.map_some
abbrev _aT:=@Nat.zero_le
abbrev _aU:=@List.map_append
abbrev _aV:=@List.drop_eq_getElem_cons
abbrev _aW:=@List.prefix_refl
abbrev _aX:=@wpS_modify
abbrev _aY:=@Nat.lt_irrefl
abbrev _aZ:=@Nat.mul_le_mul
abbrev _a0:=@Nat.div_le_of_le_mul
abbrev _a1:=@Int.sub_mul
abbrev _a2:=@List.pairwise_map
abbrev _a3:=@Bool.not_eq_true'
abbrev _a4:=@Int.emod_nonneg
abbrev _a5:=@congrArg
abbrev _a6:=@Heap.get?_update_other
abbrev _a7:=@Array.getD_eq_getD_getElem?
abbrev _a8:=@Int.mul_comm
abbrev _a9:=@Nat.le_mul_of_pos_left
abbrev _ba:=@Nat.lt_succ_self
abbrev _bb:=@wpAny_askSetting
abbrev _bc:=@List.mem_range
abbrev _bd:=@Calls.spliced_cons
abbrev _be:=@wpAny_Call_Name_kw
abbrev _bf:=@F.slot_tuple_iterator_next
abbrev _bg:=@wpAny_seqItems
abbrev _bh:=@wpAny_setField_rec
abbrev _bi:=@List.pairwise_cons
abbrev _bj:=@List.perm_ext_iff_of_nodup
abbrev _bk:=@Heap.get?_update_self
abbrev _bl:=@PySem.F.slot_dict_get
abbrev _bm:=@List.pairwise_flatMap
abbrev _bn:=@List.exists_mem_of_ne_nil
abbrev _bo:=@wpAny_passesOwn
abbrev _bp:=@Ne.symm
abbrev _bq:=@Int.toNat_natCast
abbrev _br:=@Nat.lt_of_succ_lt
abbrev _bs:=@Around.under_plainId
abbrev _bt:=@List.mem_of_mem_drop
abbrev _bu:=@wpAny_comprehension_free
abbrev _bv:=@List.Pairwise.imp_of_mem
abbrev _bw:=@List.eq_of_mem_replicate
abbrev _bx:=@List.getElem_mem
abbrev _by:=@Option.bind_eq_some_iff
abbrev _bz:=@List.mem_flatMap
abbrev _bA:=@Bool.false_ne_true
abbrev _bB:=@SeqAt.canLay_of_shaped
abbrev _bC:=@Array.append_empty
abbrev _bD:=@List.find?_cons
abbrev _bE:=@codeAny_builtin
abbrev _bF:=@W.kia_one
abbrev _bG:=@Bool.and_true
abbrev _bH:=@Bool.true_and
abbrev _bI:=@Prod.mk.injEq
abbrev _bJ:=@wpAny_setState_of
abbrev _bK:=@decide_eq_true
abbrev _bL:=@Nat.pow_le_pow_right
abbrev _bM:=@List.exists_cons_of_ne_nil
abbrev _bN:=@wpS_mono
abbrev _bO:=@Array.perm_iff_toList_perm
abbrev _bP:=@mirror_perm
abbrev _bQ:=@or_false
abbrev _bR:=@Int.natAbs_mul
abbrev _bS:=@codeAny_mono
abbrev _bT:=@List.length_drop
abbrev _bU:=@Nat.mul_comm
abbrev _bV:=@Heap.SameBut.update
abbrev _bW:=@PySem.F.args_tuple_add_2
abbrev _bX:=@Bool.not_true
abbrev _bY:=@List.of_mem_zip
abbrev _bZ:=@beq_iff_eq
abbrev _b0:=@List.lookup_append
abbrev _b1:=@List.findIdx?_cons
abbrev _b2:=@sizeLine_eq
abbrev _b3:=@PySem.F.entry_tuple_add
abbrev _b4:=@PySem.F.args_dict_get_3
abbrev _b5:=@PySem.F.plainAttrs_dict
abbrev _b6:=@PySem.F.plainAttrs_list
abbrev _b7:=@List.pairwise_singleton
abbrev _b8:=@F.plain_set_update_loop
abbrev _b9:=@wpAny_assign_Name
abbrev _ca:=@Nat.ne_of_gt
abbrev _cb:=@Calls.spliced_nil
abbrev _cc:=@PySem.F.slot_tuple_add
abbrev _cd:=@Calls.callWith_builtin
abbrev _ce:=@PySem.F.entry_dict_get
abbrev _cf:=@wpAny_setField
abbrev _cg:=@PySem.F.slot_list_iadd
abbrev _ch:=@wpS_get
abbrev _ci:=@List.take_succ
abbrev _cj:=@Array.getElem?_extract
abbrev _ck:=@Nat.add_zero
abbrev _cl:=@List.zipWith_cons_cons
abbrev _cm:=@of_decide_eq_true
abbrev _cn:=@Array.toList_eraseIdxIfInBounds
abbrev _co:=@List.length_replicate
abbrev _cp:=@exec_Assign_Name_used
abbrev _cq:=@List.perm_append_comm
abbrev _cr:=@List.set_append_right
abbrev _cs:=@List.drop_length
abbrev _ct:=@Option.getD_some
abbrev _cu:=@Int.mul_assoc
abbrev _cv:=@Calls.evalArgs_plain
abbrev _cw:=@wpAny_of_eq
abbrev _cx:=@wpAny_updateSeq_pair
abbrev _cy:=@wpAny_execs_nil
abbrev _cz:=@List.append_nil
abbrev _cA:=@wpAny_loadPart'
abbrev _cB:=@pushCells_keeps
abbrev _cD:=@F.slot_zip_next
abbrev _cG:=@Int.natCast_add
abbrev _cH:=@Int.natCast_mul
abbrev _cI:=@beq_eq_false_iff_ne
abbrev _cJ:=@List.filterMap_cons
abbrev _cK:=@List.getElem?_range
abbrev _cL:=@List.filter_eq_self
abbrev _cM:=@List.map_eq_nil_iff
abbrev _cN:=@Int.toNat_of_nonneg
abbrev _cO:=@wpAny_typeOf
abbrev _cR:=@assignInOrder_cons
abbrev _cS:=@Bool.false_and
abbrev _cT:=@List.mem_filterMap
abbrev _cU:=@Option.isSome_some
abbrev _cV:=@wpS_lift
abbrev _cW:=@Array.size_extract
abbrev _cX:=@Bool.not_eq_false'
abbrev _cZ:=@List.ne_nil_of_mem
abbrev _c3:=@List.take_sublist
abbrev _c4:=@Nat.le_of_succ_le
abbrev _c5:=@wpAny_pyIter_list
abbrev _c6:=@Int.gcd_dvd_right
abbrev _c7:=@bne_self_eq_false
abbrev _c8:=@Heap.get?_push_ne
abbrev _c9:=@List.length_range
abbrev _da:=@List.take_add_one
abbrev _de:=@wpAny_attempt
abbrev _df:=@wpAny_onRaise
abbrev _dg:=@Int.dvd_trans
abbrev _dj:=@noFill_tuple_add
abbrev _dl:=@List.zipIdx_cons
abbrev _dm:=@wpAny_isInstance
abbrev _dn:=@Nat.le_add_right
abbrev _dp:=@Int.gcd_dvd_left
abbrev _du:=@call_meetsIn
abbrev _dw:=@Nat.pow_succ
abbrev _dx:=@getElem?_pos
abbrev _dz:=@Int.zero_mul
noncomputable section
namespace Dd
noncomputable def dArgs(s:Stmt):Arguments:=match s with
 | .FunctionDef _ a _ _ _ _ _ _ _ _=>a | _=>{posonlyargs:=[],args:=[],vararg:=none,kwonlyargs:=[],kw_defaults:=[],kwarg:=none,defaults:=[]}
noncomputable def ze8(s:Stmt):List Stmt:=match s with
 | .FunctionDef _ _ b _ _ _ _ _ _ _=>b | _=>[]
noncomputable def zb1(s:Stmt):Scope:=match s with
 | .FunctionDef _ _ _ _ _ _ sc _ _ _=>sc | _=>{kind:=.function,names:=[],isGenerator:=false,isCoroutine:=false}
noncomputable def z53(h:Heap)(a:Addr):W.Frag:=match h.get? a with | some o=>[(a,o)] | none=>[]
noncomputable def zh2(h:Heap)(g:W.Frag)(x:Str):W.Frag:=match W.nsIn g mainGlobals x with
 | some (some (.ref f))=>z53 h f++(match h.get? f with
   | some ⟨_,_,.func fd,_⟩=>(match fd.code with | .ref c=>z53 h c | _=>[]) | some ⟨_,_,.cls cd,_⟩=>z53 h cd.ns | _=>[]) | _=>[]
noncomputable def gat(h:Heap)(ns:List Str):W.Frag:=z53 h mainGlobals++ns.flatMap (zh2 h (z53 h mainGlobals))
abbrev FV:=Str×Str×Arguments×FuncBody×Scope×Addr×List (Str×Addr)×Value×Addr×Bool×Bool
noncomputable def zcw(K:W.Frag)(x:Str):Option FV:=match W.nsIn K mainGlobals x with
 | some (some (.ref f))=>(match K.lookup f with
   | some ⟨_,_,.func fd,_⟩=>some (fd.name,fd.qualname,fd.params,fd.body,fd.scope,fd.globals,fd.closure,fd.defaults,fd.builtins,W.codeIn K fd.code fd.qualname,W.keepIn K (.ref f)) | _=>none) | _=>none
noncomputable def zfN(x:Str)(st:Stmt):Option FV:=some (x,x,dArgs st,.stmts (ze8 st),zb1 st,mainGlobals,[],.none,builtinsNs,true,true)
noncomputable def zc0(K:W.Frag)(x:Str):Bool:=match W.nsIn K mainGlobals x with | some none=>true | _=>false
noncomputable def zcV(K:W.Frag)(x:Str):Option Int:=match W.nsIn K mainGlobals x with | some (some (.int i _))=>some i | _=>none
noncomputable def sameRef:Value->Option (Option Value)->Bool
 | .ref f,some (some (.ref g))=>f==g | _,_=>false
noncomputable def zf7:Value->Option Str
 | .str k _=>some k | _=>none
noncomputable def z8g:Value->Bool
 | .type c=>c=="dict" | _=>false
noncomputable def zdn(K:W.Frag):List DictEntry->List Str->List (Int×Option Str×Bool)
 | e::es,y::ys=>(e.hash,zf7 e.key,sameRef e.val (W.nsIn K mainGlobals y))::zdn K es ys | [],[]=>[] | _,_=>[(0,none,false)]
noncomputable def zgc(K:W.Frag)(x:Str)(ys:List Str):Option (Bool×Bool×Bool×Bool×List (Int×Option Str×Bool)):=match W.nsIn K mainGlobals x with
 | some (some (.ref a))=>(match K.lookup a with
   | some ⟨c,d,.dict es _,sl⟩=>some (z8g c,d.isNone,sl.size==0,a==sysModules,zdn K es.toList ys) | _=>none) | _=>none
noncomputable def zhm(w:World)(tb:List (Str×Str)):Option (Bool×Bool×Bool×Bool×List (Int×Option Str×Bool)):=some (true,true,true,false,tb.map λp=>(PyData.keyHash w.params p.1,some p.1,true))
noncomputable def zeQ:List Value->Option (List Int)
 | []=>some [] | .int i _::r=>(zeQ r).map (i::·) | _=>none
noncomputable def z9H:Value->Bool
 | .type c=>c=="tuple" | _=>false
noncomputable def zfE(K:W.Frag)(x:Str):Option (Bool×Option (List Int)):=match W.nsIn K mainGlobals x with
 | some (some (.ref a))=>(match K.lookup a with
   | some ⟨c,_,.seq its _,_⟩=>some (z9H c,zeQ its.toList) | _=>none) | _=>none
noncomputable def bmV:List Value:=[.type "ValueError",.type "Exception",.type "BaseException",.type "object"]
noncomputable def z8K(K:W.Frag)(C:Addr):Bool:=match K.lookup C with | some ⟨.type t,_,.cls _,_⟩=>t=="type" | _=>false
noncomputable def zfD(K:W.Frag)(x:Str):Bool:=match W.nsIn K mainGlobals x with
 | some (some (.ref C))=>W.excIn K C bmV "ValueError.__new__"&&(W.findIn K (.ref C) "__getattribute__"==some (some (.builtin "BaseException.__getattribute__"))&&(W.findIn K (.ref C) "__getattr__"==some none && (W.findIn K (.ref C) "__class__"==some (some (.builtin "object.__class__"))&&(W.mroIn K C (.type "object")==some true&&(W.mroIn K C (.type "BaseException")==some true&&(z8K K C&&W.kitOne K (.ref C) (.type "ValueError")==some true)))))) | _=>false
noncomputable def zdD(K:W.Frag)(x y:Str):Option (Option Bool×Option Bool):=match W.nsIn K mainGlobals x,W.nsIn K mainGlobals y with
 | some (some (.ref C)),some (some (.ref D))=>some (W.mroIn K C (.ref D),W.kitOne K (.ref C) (.ref D)) | _,_=>none
abbrev Obs:=List (Option FV)×List Bool×List (Option Int)×List (Option (Bool×Bool×Bool×Bool×List (Int×Option Str×Bool)))×List (Option (Bool×Option (List Int)))×List Bool×List (Option (Option Bool×Option Bool))
structure Ask where
 fs:List (Str×Stmt)
 bs:List Str
 cs:List (Str×Int)
 ts:List (Str×List (Str×Str))
 us:List (Str×List Int)
 xs:List Str
 ps:List ((Str×Str)×Bool)
noncomputable def z9Q(q:Ask)(K:W.Frag):Obs:=(q.fs.map λp=>zcw K p.1,q.bs.map (zc0 K),q.cs.map λp=>zcV K p.1,q.ts.map (λp=>zgc K p.1 (p.2.map (·.2))),q.us.map (λp=>zfE K p.1),q.xs.map (zfD K),q.ps.map λp=>zdD K p.1.1 p.1.2)
noncomputable def obsS(q:Ask)(s:Shared):Obs:=z9Q q (gat s.heap (q.fs.map (·.1)++q.ts.map (·.1)++q.us.map (·.1)++q.xs))
noncomputable def valS(q:Ask)(w:World):Obs:=(q.fs.map λp=>zfN p.1 p.2,q.bs.map λ_=>true,q.cs.map λp=>some p.2,q.ts.map (λp=>zhm w p.2),q.us.map (λp=>some (true,some p.2)),q.xs.map λ_=>true,q.ps.map λp=>some (some p.2,some p.2))
noncomputable def z1j(tb:String->Option Builtin)(p:Program)(w:World)(n₀:Nat)(ann:Option Value):Nat->W.SharedT->Thread->Option W.SharedT
 | 0,_,_=>none | n+1,s,t=>match W.through t with
  | true=>some s | false=>match W.stepOk n₀ ann t with
   | false=>none | true=>match W.stepT (denote tb) p w s t with
    | some (s',t')=>z1j tb p w n₀ ann n s' t' | none=>none
noncomputable def zdN(l:List Obj):W.BT×Nat:=l.foldl (λa o=>(a.1.ins a.2 o,a.2+1)) (W.BT.nil,0)
def zdu(P:Params):W.BT:=(zdN (W.boot_heap P).objs.toList).1
end Dd
namespace K51
open Dd
noncomputable def top(i:Nat):Stmt:=PySem.Challenge.pw_drawndown_k51_least_relations.main.body.getD i (.Pass ⟨0,0,0,0⟩)
abbrev jg:Stmt:=top 7
abbrev qW:Stmt:=top 9
noncomputable abbrev wQ:Stmt:=top 10
abbrev qT:Stmt:=top 15
abbrev z14:Stmt:=top 19
abbrev z1q:Stmt:=top 20
abbrev vL:Stmt:=top 27
abbrev jm:Stmt:=top 28
noncomputable abbrev qE:Stmt:=top 29
noncomputable abbrev uS:Stmt:=top 30
noncomputable abbrev uk:Stmt:=top 32
noncomputable abbrev ja:Stmt:=top 33
abbrev vV:Stmt:=top 37
abbrev uH:Stmt:=top 8
abbrev wu:Stmt:=top 21
abbrev ud:Stmt:=top 31
noncomputable abbrev wW:Stmt:=top 34
noncomputable abbrev um:Stmt:=top 35
abbrev z1y:Stmt:=top 12
noncomputable abbrev vt:Stmt:=top 36
noncomputable abbrev vR:Stmt:=top 38
abbrev qU:Stmt:=top 13
abbrev jc:Stmt:=top 39
abbrev uM:Stmt:=top 18
abbrev qr:Stmt:=top 22
abbrev qf:Stmt:=top 23
abbrev vP:Stmt:=top 24
abbrev vU:Stmt:=top 25
noncomputable abbrev z1X:Stmt:=top 40
def askQ:Ask:=⟨[(("is_whole":Str),jg), (("has_size":Str),qW), (("tuples_between":Str),wQ), (("together":Str),qT), (("weight":Str),z14), (("length":Str),z1q), (("_law_cell_at":Str),vL), (("_law_pot":Str),jm), (("_law_take":Str),qE), (("_law_whole":Str),uS), (("_law_common":Str),uk), (("_law_sum":Str),ja), (("_law_so_long":Str),vV), (("are_wholes":Str),uH), (("relations_within":Str),wu), (("_law_same":Str),ud), (("_law_small_lot":Str),wW), (("_law_halves":Str),um), (("is_lot":Str),z1y), (("_law_weighing":Str),vt), (("_law_lasting":Str),vR), (("want_lot":Str),qU), (("_law_due":Str),jc), (("want_small":Str),uM), (("by_weight":Str),qr), (("by_length":Str),qf), (("least_weight":Str),vP), (("least_length":Str),vU), (("law":Str),z1X)], [("abs":Str),("all":Str),("bool":Str),("int":Str),("isinstance":Str),("len":Str),("list":Str),("max":Str),("min":Str),("range":Str),("set":Str),("sorted":Str),("str":Str),("sum":Str),("tuple":Str),("zip":Str)], [(("LEAST_SIZE":Str),(2:Int)),(("MOST_NUMBER":Str),(1000:Int)),(("MOST_SIZE":Str),(4:Int))], [], [], [], []⟩
noncomputable def qv:Program:=W.view PySem.Challenge.pw_drawndown_k51_least_relations [40]
noncomputable def looseQ:List Str:=[("DrawError":Str),("NoLot":Str),("TooMany":Str),("LEAST_SIZE":Str),("MOST_SIZE":Str),("is_whole":Str),("are_wholes":Str),("has_size":Str),("tuples_between":Str),("is_lot":Str),("want_lot":Str),("together":Str),("MOST_NUMBER":Str),("want_small":Str),("weight":Str),("length":Str),("relations_within":Str),("by_weight":Str),("by_length":Str),("least_weight":Str),("least_length":Str),("_law_cell_at":Str),("_law_pot":Str),("_law_take":Str),("_law_whole":Str),("_law_same":Str),("_law_common":Str),("_law_sum":Str),("_law_small_lot":Str),("_law_halves":Str),("_law_weighing":Str),("_law_so_long":Str),("_law_lasting":Str),("_law_due":Str)]
noncomputable def lvQ:List (Str×W.WData):=[]
noncomputable def xtQ:Shared->Bool:=λs=>W.xlAt qv lvQ s&&W.recOk (W.RowW.records (W.OpenRow.toRowW (W.OpenLaw.row PySem.Challenge.rw_drawndown_k51_least_relations))) s
theorem zhq:∀w:World,W.absHeap (zdu w.params) 11 (W.boot_heap w.params).life=W.boot_heap w.params:=by
 intro w;kernel_rfl
theorem bsz:∀w:World,((W.boot_heap w.params).isNs mainGlobals&&(Array.mk []:Array GenState).size==0,(W.boot_heap w.params).objs.size,(W.boot_heap w.params).nsMap mainGlobals "__annotations__")=(true,11,(some (.ref 6))):=by
 intro w;kernel_rfl
def zgR(w v:World)(os:OsState):Option W.SharedT:=z1j treeTable PySem.Challenge.pw_drawndown_k51_least_relations v 11 (some (.ref 6)) 3138 ⟨zdu w.params,11,(W.boot_heap w.params).life,Array.mk [],W.boot_drawn,W.boot_toks,os⟩ (W.topStub PySem.Challenge.pw_drawndown_k51_least_relations)
def zgl(w:World)(s:W.SharedT):Bool:=W.staticsOk (importedModules PySem.Challenge.pw_drawndown_k51_least_relations.main.body) (W.boot_heap w.params) s.abs.heap&&W.namesBound PySem.Challenge.pw_drawndown_k51_least_relations s.abs.heap&&W.gensDone s.abs&&W.laidKept (W.boot_heap w.params) s.abs.heap
noncomputable def seenQ(s:Shared):=W.openSeen qv looseQ (importedModules PySem.Challenge.pw_drawndown_k51_least_relations.main.body) xtQ true s
set_option maxRecDepth 1000000 in
theorem z9M:∀(w:World)(os:OsState),(zgR w w os).map (λs=>(zgl w s,obsS askQ s.abs))=some (true,valS askQ w):=by
 intro w os;kernel_rfl
set_option maxRecDepth 1000000 in
theorem za5:∀(w:World)(os:OsState),(zgR w w os).map (λs=>seenQ s.abs)=some (W.openGood qv looseQ):=by
 intro w os;kernel_rfl
set_option maxRecDepth 1000000 in
theorem said_:W.OpenLaw.wellSaid PySem.Challenge.rw_drawndown_k51_least_relations=true:=by kernel_rfl
end K51
namespace L2
abbrev Key:=Sum Int Str
noncomputable def z71:Key->Value->Bool
 | .inl k,v=>Value.isInt k v | .inr x,v=>Value.isStrOf x v
noncomputable def zi9(w:World):Key->Int
 | .inl k=>hashInt k | .inr x=>hashStr w x
theorem xf:∀{k:Key} {v:Value},z71 k v=true->(∃i t,k=Sum.inl i/\v=Value.int i t)\/(∃x t,k=Sum.inr x/\v=Value.str x t)
 | .inl i,v,h=>by
  obtain⟨t,e⟩:=Value.isInt_shape (k:=i) (v:=v) h;exact .inl ⟨i,t,rfl,e⟩ | .inr x,v,h=>by
  obtain⟨t,e⟩:=Value.isStrOf_shape (x:=x) (v:=v) h;exact .inr ⟨x,t,rfl,e⟩
theorem z7F(i:Int)(t:Tok):z71 (.inl i) (.int i t)=true:=by simp[z71,Value.isInt]
theorem z8R(x:Str)(t:Tok):z71 (.inr x) (.str x t)=true:=by simp[z71,Value.isStrOf]
theorem zf6(a b:Int):decide ((Sum.inl a:Key)=Sum.inl b)=(a==b):=by
 by_cases e:a=b;·subst e;simp
 ·have h:¬ (Sum.inl a:Key)=Sum.inl b:=λq=>e (Sum.inl.inj q);rw[_ay h];exact (_cI.mpr e).symm
theorem zfc(a b:Str):decide ((Sum.inr a:Key)=Sum.inr b)=decide (a=b):=by
 by_cases e:a=b;·subst e;simp
 ·have h:¬ (Sum.inr a:Key)=Sum.inr b:=λq=>e (Sum.inr.inj q);rw[_ay h,_ay e]
theorem zdI(a:Int)(b:Str):decide ((Sum.inl a:Key)=Sum.inr b)=false:=_ay (λq=>nomatch q)
theorem zdO(a:Str)(b:Int):decide ((Sum.inr a:Key)=Sum.inl b)=false:=_ay (λq=>nomatch q)
noncomputable def xq(prog:Program)(w:World):PySem.KeyKind prog w Key where
 is:=z71;hash:=zi9 w;inj:=λv a b ha hb=>by
  rcases xf ha with⟨i,t,rfl,rfl⟩ | ⟨x,t,rfl,rfl⟩
  ·rcases xf hb with⟨j,u,rfl,e⟩ | ⟨y,u,rfl,e⟩;·injection e with e1 _;rw[e1]
   ·exact nomatch e
  ·rcases xf hb with⟨j,u,rfl,e⟩ | ⟨y,u,rfl,e⟩;·exact nomatch e
   ·injection e with e1 _;rw[e1]
 byValue:=λk v h=>by rcases xf h with⟨i,t,rfl,rfl⟩ | ⟨x,t,rfl,rfl⟩<;>rfl
 pyHash:=λhv h=>by
  rcases xf hv with⟨i,t,rfl,rfl⟩ | ⟨x,t,rfl,rfl⟩;·exact wpAny_pyHash_int h
  ·exact wpAny_pyHash_str h
 eqBool:=λhu hv h=>by
  rcases xf hu with⟨i,t,rfl,rfl⟩ | ⟨x,t,rfl,rfl⟩
  ·rcases xf hv with⟨j,u,rfl,rfl⟩ | ⟨y,u,rfl,rfl⟩;·rw[zf6]at h;exact wpAny_eqBool_int h
   ·rw[zdI]at h;exact SeqAt.EqAt.int_str i t y u _ _ _ _ h
  ·rcases xf hv with⟨j,u,rfl,rfl⟩ | ⟨y,u,rfl,rfl⟩;·rw[zdO]at h;exact SeqAt.EqAt.str_int x t j u _ _ _ _ h
   ·rw[zfc]at h;exact wpAny_eqBool_str h
 «strs» := λk x t v h=>by
  rcases xf h with⟨i,u,rfl,e⟩ | ⟨y,u,rfl,e⟩;·exact nomatch e
  ·injection e with e1 _;subst e1;cases v<;>rfl
theorem z4U(prog:Program)(w:World)(i:Int)(t:Tok):(xq prog w).is (.inl i) (.int i t)=true:=z7F i t
theorem z56(prog:Program)(w:World)(x:Str)(t:Tok):(xq prog w).is (.inr x) (.str x t)=true:=z8R x t
inductive V where | non | bl (b:Bool) | int (i:Int) | str (x:Str) | byt (b:Array UInt8) | flt (b:UInt64) | ref (a:Addr) | ty (n:String) deriving DecidableEq
def xL:V->Value->Prop
 | .non,u=>u=Value.none | .bl b,u=>u=Value.bool b | .int i,u=>∃t,u=Value.int i t | .str x,u=>∃t,u=Value.str x t | .byt b,u=>∃t,u=Value.bytes b t | .flt b,u=>∃t,u=Value.float b t | .ref a,u=>u=Value.ref a | .ty n,u=>u=Value.type n
abbrev xt:List V->List Value->Prop:=Paired xL
theorem xt.length{xs:List V}{us:List Value}(r:xt xs us):xs.length=us.length:=Paired.length r
theorem xt.get:∀{xs:List V} {us:List Value} {i:Nat} {x:V},xt xs us->xs[i]? = some x->∃u,us[i]? = some u/\xL x u
 | _,_,_,_,.nil,e=>by simp at e | _,_,0,_,.cons r _,e=>by simp at e;subst e;exact⟨_,rfl,r⟩ | _,_,i+1,x,.cons _ t,e=>by
  obtain⟨u,h1,h2⟩:=xt.get (i:=i) (x:=x) t (by simpa using e);exact⟨u,by simpa using h1,h2⟩
theorem xt.set{x:V}{u:Value}(r:xL x u):∀{xs:List V}{us:List Value}(i:Nat),xt xs us->xt (xs.set i x) (us.set i u)
 | _,_,_,.nil=>.nil | _,_,0,.cons _ t=>.cons r t | _,_,i+1,.cons q t=>.cons q (xt.set r i t)
theorem xt.append:∀{xs ys:List V}{us ws:List Value},xt xs us->xt ys ws->xt (xs++ys) (us++ws)
 | _,_,_,_,.nil,s=>s | _,_,_,_,.cons r t,s=>.cons r (xt.append t s)
theorem xt.take:∀{xs:List V}{us:List Value}(n:Nat),xt xs us->xt (xs.take n) (us.take n)
 | _,_,0,_=>.nil | _,_,_+1,.nil=>.nil | _,_,n+1,.cons r t=>.cons r (xt.take n t)
theorem xt.drop:∀{xs:List V}{us:List Value}(n:Nat),xt xs us->xt (xs.drop n) (us.drop n)
 | _,_,0,r=>r | _,_,_+1,.nil=>.nil | _,_,n+1,.cons _ t=>xt.drop n t
def zcU:Option V->Option Value->Prop
 | some v,some u=>xL v u | none,none=>True | _,_=>False
def KV{κ:Type}:List (κ×V)->List (κ×Value)->Prop:=Paired λ(p:κ×V)(q:κ×Value)=>p.1=q.1/\xL p.2 q.2
noncomputable def kV:Key->V
 | .inl i=>.int i | .inr x=>.str x
inductive HO where | lst (xs:List V) | tup (xs:List V) | dK (kvs:List (Key×V)) | dT (kvs:List (List Key×V)) | set (S:Int->Bool)(n:Nat) | ins (C dx:Addr)(fs:List (Str×V)) | own (x:Addr) | xd (fs:List (Str×V)) | met (f x:Addr) | rng (lo hi:Int) | frz (o:Obj)(u:HO) | tbl (ps:Array Value) | ext (φ:Heap->Prop)
abbrev Hp:=Addr->Option HO
noncomputable def upd(H:Hp)(a:Addr)(o:HO):Hp:=λb=>if b=a then some o else H b
theorem zu{H:Hp}{a:Addr}{o:HO}:upd H a o a=some o:=by unfold upd;rw[_g rfl]
theorem zf{H:Hp}{a b:Addr}{o:HO}(h:b≠a):upd H a o b=H b:=by unfold upd;rw[_i h]
theorem z2I{H:Hp}{a:Addr}{o u:HO}:upd (upd H a o) a u=upd H a u:=by funext b;unfold upd;split<;>rfl
theorem yN{H:Hp}{a b:Addr}{o:HO}(h:H a=some o)(h':H b=none):a≠b:=by intro e;subst e;rw[h]at h';cases h'
def z9s(h:Heap)(a:Addr)(items:Array Value):Prop:=∃o,h.get? a=some o/\o.cls=.type "tuple"/\o.dict=none/\∃n,o.data=.seq items n
theorem z9s.tup{h:Heap}{a:Addr}{items:Array Value}(x:z9s h a items):IsTup h a items:=let ⟨o,e,c,_,r⟩:=x;⟨o,e,c,r⟩
theorem z9s.new(h:Heap)(items:Array Value):z9s (h.push {cls:=.type "tuple",data:=.seq items}) h.objs.size items:=⟨_,_s _ rfl,rfl,rfl,_,rfl⟩
theorem z9s.lt{h:Heap}{a:Addr}{items:Array Value}(x:z9s h a items):a<h.objs.size:=x.tup.lt
section
variable (P:Program)(w:World)
def wc(H:Hp)(h:Heap)(a:Addr):HO->Prop
 | .lst xs=>xs.length<=sizeLine/\∃(its:List Value)(n:Nat),xt xs its/\h.get? a=some {cls:=.type "list",data:=.seq its.toArray n} | .tup xs=>xs.length<=sizeLine/\∃its:List Value,xt xs its/\z9s h a its.toArray | .dK kvs=>kvs.length<=sizeLine/\(a==sysModules)=false/\∃vs,KV kvs vs/\h.DictOf (xq P w) a vs | .dT kvs=>kvs.length<=sizeLine/\(a==sysModules)=false/\∃xs:List (List Key×Addr×Value), Paired (λ(p:List Key×V)(q:List Key×Addr×Value)=>p.1=q.1/\H q.2.1=some (.tup (p.1.map kV))/\xL p.2 q.2.2) kvs xs/\ ∃o es ep,h.get? a=some o/\o.ExactDict/\o.data=.dict es ep/\es.toList=xs.map (entryOfKey (tupleKind (xq P w)))/\(xs.map (·.1)).Nodup | .set S n=>h.SetOf (intKind P w) a S n | .ins C dx fs=>H dx=some (.own a)/\fs.length<=1000/\dx≠a/\h.get? a=some (W.instObj C dx)/\ ∃mA,h.Ns1 dx mA/\(∀f,zcU (fs.lookup f) (mA f))/\PySem.Within mA (fs.map (·.1)) | .own _=>∃o,h.get? a=some o | .xd fs=>∃mA,h.Ns1 a mA/\∀f,zcU (fs.lookup f) (mA f) | .rng lo hi=>∃t u v,h.get? a=some {cls:=.type "range",data:=.fields #[.int lo t,.int hi u,.int 1 v]} | .frz o u=>h.get? a=some o/\wc H h a u | .tbl ps=>h.get? a=some {cls:=.none,data:=.fields ps} | .met f x=>h.get? a=some (W.methodObj (.ref f) (.ref x)) | .ext φ=>φ h/\(∃o,h.get? a=some o)/\∀h1 h2:Heap,φ h1->(∀o,h1.get? a=some o->h2.get? a=some o)->φ h2
def HOk(H:Hp)(h:Heap):Prop:=∀a o,H a=some o->wc P w H h a o
end
section
variable {P:Program}{w:World}{H H':Hp}{h h':Heap}{a:Addr}{o:HO}
theorem wc.lt(x:wc P w H h a o):a<h.objs.size:=by cases o with
 | lst xs=>obtain⟨_,_,_,_,e⟩:=x;exact _o e | tup xs=>obtain⟨_,_,_,p⟩:=x;exact p.lt | dK kvs=>obtain⟨_,_,_,_,o,_,_,e,_⟩:=x;exact _o e | dT kvs=>obtain⟨_,_,_,_,o,_,_,e,_⟩:=x;exact _o e | set S n=>obtain⟨o,_,_,_,e,_⟩:=x;exact _o e | ins C dx fs=>obtain⟨_,_,_,e,_⟩:=x;exact _o e | own y=>obtain⟨_,e⟩:=x;exact _o e | xd fs=>obtain⟨_,⟨_,_,_,e,_⟩,_⟩:=x;exact _o e | rng lo hi=>obtain⟨_,_,_,e⟩:=x;exact _o e | frz ob u=>obtain⟨e,_⟩:=x;exact _o e | tbl ps=>exact _o (show h.get? a=some _ from x) | met f y=>exact _o (show h.get? a=some _ from x) | ext φ=>obtain⟨_,⟨_,e⟩,_⟩:=x;exact _o e
theorem Paired.mapP{α β:Type}{F G:α->β->Prop}:∀{l₁:List α}{l₂:List β},Paired F l₁ l₂->(∀a b,F a b->G a b)->Paired G l₁ l₂
 | _,_,.nil,_=>.nil | _,_,.cons r t,f=>.cons (f _ _ r) (Paired.mapP t f)
theorem wc.stay(x:wc P w H h a o)(k:∀b u,(b=a\/H b=some (.own a))->h.get? b=some u->h'.get? b=some u) (ho:∀b,H b=some (.own a)->H' b=some (.own a))(ht:∀b xs,H b=some (.tup xs)->H' b=some (.tup xs)):wc P w H' h' a o:=by induction o with
 | lst xs=>obtain⟨z,its,n,r,e⟩:=x;exact⟨z,its,n,r,k _ _ (.inl rfl) e⟩ | tup xs=>obtain⟨z,its,r,ob,e,c⟩:=x;exact⟨z,its,r,ob,k _ _ (.inl rfl) e,c⟩ | dK kvs=>obtain⟨z,y,vs,r,ob,es,ep,e,c⟩:=x;exact⟨z,y,vs,r,ob,es,ep,k _ _ (.inl rfl) e,c⟩ | dT kvs=>
  obtain⟨z,y,xs,r,ob,es,ep,e,c⟩:=x;exact⟨z,y,xs,Paired.mapP r λp q z=>⟨z.1,ht _ _ z.2.1,z.2.2⟩,ob,es,ep,k _ _ (.inl rfl) e,c⟩ | set S n=>obtain⟨ob,es,ep,t,e,c⟩:=x;exact⟨ob,es,ep,t,k _ _ (.inl rfl) e,c⟩ | ins C dx fs=>
  obtain⟨d,z,ne,e,mA,⟨od,es,ep,e2,c⟩,r⟩:=x;exact⟨ho _ d,z,ne,k _ _ (.inl rfl) e,mA,⟨od,es,ep,k _ _ (.inr d) e2,c⟩,r⟩ | own y=>obtain⟨ob,e⟩:=x;exact⟨ob,k _ _ (.inl rfl) e⟩ | xd fs=>obtain⟨mA,⟨od,es,ep,e,c⟩,r⟩:=x;exact⟨mA,⟨od,es,ep,k _ _ (.inl rfl) e,c⟩,r⟩ | rng lo hi=>obtain⟨t,u,v,e⟩:=x;exact⟨t,u,v,k _ _ (.inl rfl) e⟩ | frz ob u ih=>obtain⟨e,q⟩:=x;exact⟨k _ _ (.inl rfl) e,ih q⟩ | tbl ps=>
  have e:h.get? a=some {cls:=.none,data:=.fields ps}:=x;show h'.get? a=some {cls:=.none,data:=.fields ps};exact k a _ (.inl rfl) e | met f y=>
  have e:h.get? a=some (W.methodObj (.ref f) (.ref y)):=x;show h'.get? a=some (W.methodObj (.ref f) (.ref y));exact k a _ (.inl rfl) e | ext φ=>obtain⟨p,⟨o,e⟩,st⟩:=x;exact⟨st _ _ p λo q=>k _ _ (.inl rfl) q,⟨o,k _ _ (.inl rfl) e⟩,st⟩
theorem HOk.lt(x:HOk P w H h)(e:H a=some o):a<h.objs.size:=(x a o e).lt
theorem HOk.fresh(x:HOk P w H h)(e:h.objs.size<=a):H a=none:=by cases q:H a with
 | none=>rfl | some u=>exact absurd (_w (x.lt q) e) (_aY _)
theorem HOk.kept(x:HOk P w H h)(k:∀b u,h.get? b=some u->h'.get? b=some u):HOk P w H h':=λa o e=> (x a o e).stay (λb u _ q=>k b u q) (λ_ q=>q) λ_ _ q=>q
theorem HOk.laid(x:HOk P w H h)(k:∀b u,h.get? b=some u->h'.get? b=some u)(hp:h.objs.size<=a)(new:wc P w (upd H a o) h' a o):HOk P w (upd H a o) h':=λb u e=>by
 have hn:=x.fresh hp;by_cases hb:b=a;·subst hb;rw[zu]at e;cases e;exact new
 ·rw[zf hb]at e;exact (x b u e).stay (λc v _ q=>k c v q) (λc q=>by rw[zf (yN q hn)];exact q) λc xs q=>by rw[zf (yN q hn)];exact q
end
def Rd(H:Hp)(a:Addr)(u:HO):Prop:=H a=some u\/∃o,H a=some (.frz o u)
theorem Rd.ok{P:Program}{w:World}{H:Hp}{h:Heap}{a:Addr}{u:HO}(r:Rd H a u)(x:HOk P w H h):wc P w H h a u:=by
 rcases r with r | ⟨o,r⟩;·exact x a u r
 ·obtain⟨_,q⟩:=x a _ r;exact q
def Mut:Option HO->Prop
 | some (.lst _)=>True | some (.dK _)=>True | some (.dT _)=>True | some (.set _ _)=>True | some (.ins _ _ _)=>True | some (.ext _)=>True | _=>False
section
variable {P:Program}{w:World}{H:Hp}{h h':Heap}{x e:Addr}{o':HO}
theorem HOk.write(ok:HOk P w H h)(mu:Mut (H x))(he:e=x\/H e=some (.own x))(k:∀b u,b≠e->h.get? b=some u->h'.get? b=some u)(heo:∃u,h'.get? e=some u) (new:wc P w (upd H x o') h' x o'):HOk P w (upd H x o') h':=λb u q=>by
 have nown:∀c y,H c=some (.own y)->c≠x:=λc y r z=>by subst z;rw[r]at mu;exact mu
 have ntup:∀c xs,H c=some (.tup xs)->c≠x:=λc xs r z=>by subst z;rw[r]at mu;exact mu
 by_cases hb:b=x;·subst hb;rw[zu]at q;cases q;exact new
 ·rw[zf hb]at q;by_cases hbe:b=e
  ·have q':H b=some (.own x):=by
    rcases he with z | z;·exact absurd (hbe.trans z) hb
    ·rw[hbe];exact z
   rw[q]at q';cases q';obtain⟨v,hv⟩:=heo;exact⟨v,by rw[hbe];exact hv⟩
  ·refine (ok b u q).stay (λc v hc r=>k c v ?_ r) (λc r=>by rw[zf (nown c b r)];exact r) λc xs r=>by rw[zf (ntup c xs r)];exact r
   rcases hc with rfl | hc;·exact hbe
   ·rintro rfl;rcases he with z | z;·exact nown c b hc z
    ·rw[hc]at z;cases z;exact hb rfl
end
structure Un(fs ex:List Addr)(H H':Hp)(h h':Heap):Prop where
 keep:∀b o,h.get? b=some o->H b=none->b∉fs->b∉ex->h'.get? b=some o
 slot:∀b o,h.get? b=some o->H b=none->b∈fs->b∉ex->∃sl,h'.get? b=some {o with slots:=sl}
 free:∀b o,h.get? b=some o->H b=none->b∉ex->H' b=none
 there:∀b o,h.get? b=some o->b∉ex->∃o',h'.get? b=some o'
 tups:∀b xs,H b=some (.tup xs)->H' b=some (.tup xs)
 frzs:∀b o u,H b=some (.frz o u)->H' b=some (.frz o u)
 tbls:∀b ps,H b=some (.tbl ps)->∃more,H' b=some (.tbl (ps++more))
section
variable {fs fs' ex ex':List Addr}{H H1 H2:Hp}{h h1 h2 h':Heap}{a x e:Addr}{o:HO}
theorem Un.any(u:Un fs ex H H1 h h1){b:Addr}{ob:Obj}(q:h.get? b=some ob)(n:H b=none)(hx:b∉ex):∃sl,h1.get? b=some {ob with slots:=sl}:=by
 by_cases hb:b∈fs;·exact u.slot b ob q n hb hx
 ·exact⟨ob.slots,u.keep b ob q n hb hx⟩
theorem Un.kept(k:∀b u,h.get? b=some u->h'.get? b=some u):Un fs ex H H h h':= ⟨λb ob q _ _ _=>k b ob q,λb ob q _ _ _=>⟨ob.slots,k b ob q⟩,λ_ _ _ n _=>n,λb ob q _=>⟨ob,k b ob q⟩,λ_ _ q=>q,λ_ _ _ q=>q,λ_ ps q=>⟨#[],by rw[q];simp⟩⟩
theorem Un.refl:Un fs ex H H h h:=Un.kept λ_ _ q=>q
theorem Un.laid(k:∀b u,h.get? b=some u->h'.get? b=some u)(hp:h.objs.size<=a)(hn:H a=none):Un fs ex H (upd H a o) h h' where
 keep:=λb u q _ _ _=>k b u q;slot:=λb u q _ _ _=>⟨u.slots,k b u q⟩;free:=λb u q n _=>by rw[zf (_C (_w (_o q) hp))];exact n
 there:=λb u q _=>⟨u,k b u q⟩;tups:=λb xs q=>by rw[zf (yN q hn)];exact q
 frzs:=λb u xs q=>by rw[zf (yN q hn)];exact q
 tbls:=λb ps q=>⟨#[],by rw[zf (yN q hn),q];simp⟩
theorem Un.write(mu:Mut (H x))(he:e=x\/H e=some (.own x))(k:∀b u,b≠e->h.get? b=some u->h'.get? b=some u)(heo:∃u,h'.get? e=some u):Un fs ex H (upd H x o) h h':=by
 have hx:∀b,H b=none->b≠x:=λb n z=>by subst z;rw[n]at mu;exact mu
 have hb:∀b,H b=none->b≠e:=λb n z=>by
  subst z;rcases he with r | r;·exact hx b n r
  ·rw[n]at r;cases r
 have hm:∀b u,H b=some u->¬ Mut (some u)->b≠x:=λb u q nm z=>by subst z;rw[q]at mu;exact nm mu
 refine⟨λb u q n _ _=>k b u (hb b n) q,λb u q n _ _=>⟨u.slots,k b u (hb b n) q⟩,λb u q n _=>by rw[zf (hx b n)];exact n,λb u q _=>?_, λb xs q=>by rw[zf (hm b _ q λz=>z)];exact q,λb u xs q=>by rw[zf (hm b _ q λz=>z)];exact q,λb ps q=>⟨#[],by rw[zf (hm b _ q λz=>z),q];simp⟩⟩;by_cases hbe:b=e;·subst hbe;exact heo
 ·exact⟨u,k b u hbe q⟩
end
noncomputable def trk(h:Heap)(H:Hp):List Addr:=(List.range h.objs.size).filter λa=>(H a).isSome
noncomputable def z9S(h:Heap)(H:Hp):Heap:=W.hideAll h (trk h H)
theorem z7w(h:Heap)(H:Hp):(z9S h H).objs.size=h.objs.size:=W.hideAll_size _ _
theorem z9R{h:Heap}{H:Hp}{b:Addr}{o:Obj}(e:h.get? b=some o)(n:H b=none):(z9S h H).get? b=some o:= W.hideAll_get _ e λhm=>by
  have q:(H b).isSome=true:=(_I.mp hm).2;rw[n]at q;simp at q
theorem zcX{h:Heap}{H:Hp}{b:Addr}{o:Obj}(e:(z9S h H).get? b=some o):h.get? b=some o/\H b=none:=by
 have e':h.get? b=some o:=W.of_hideAll (trk h H) e;refine⟨e',?_⟩;cases q:H b with
 | none=>rfl | some x=>
  have hm:b∈trk h H:=_I.mpr ⟨_bc.mpr (_o e'),by simp[q]⟩;have z:(z9S h H).get? b=none:=W.hideAll_none (trk h H) hm;rw[z]at e;cases e
noncomputable def zcx(g h:Heap)(L:Addr):List (Addr×Obj):=(List.range h.objs.size).filterMap λa=>if a=L\/(g.get? a).isSome=true then none else (h.get? a).map λo=>(a,o)
noncomputable def z6C(g h:Heap)(L d:Addr):List (Addr×Obj):=(zcx g h L).filter λp=>decide (p.1≠d)
structure Mod(K:W.Frag)(mg:Str->Option Value)(base:Heap):Prop where
 kin:K.In base
 glob:base.Ns mainGlobals mg
 blt:∃mb,base.Ns builtinsNs mb/\∀x:Str,x≠"__name__"->mb x=bootBuiltins x
 nolimit:base.NoLimit
structure Cx where
 prog:Program
 w:World
 K:W.Frag
 mg:Str->Option Value
 base:Heap
 A:Around
 N:List Str
 s₀:Shared
 H₀:Hp
 env:Env
 outer:List Env
 stack:List Env
 ex:List Addr
 fn:Str->Bool
 calm:Bool
 pn:List (Addr×Obj)
 xe:Value->Shared->Prop
noncomputable def frs(l:List Env):List Addr:=l.filterMap (·.frame)
noncomputable abbrev Cx.fs(X:Cx):List Addr:=frs X.outer
def Vis(sc:Scope)(x:Str):Prop:=sc.names.lookup x=some .local\/sc.names.lookup x=some .cell\/sc.names.lookup x=some .free
def Loc(sc:Scope)(x:Str):Prop:=sc.names.lookup x=some .local\/sc.names.lookup x=some .cell
def zhG(env:Env)(h:Heap)(m:Str->Option Value)(x:Str)(u:Value):Prop:= (env.kindOf x=some .local/\m x=some u)\/((env.kindOf x=some .cell\/env.kindOf x=some .free)/\∃c,env.cells.lookup x=some c/\h.IsCell c (some u))
structure Cx.Ok(X:Cx):Prop where
 mod:Mod X.K X.mg X.base
 kind:X.env.scope.kind=.function
 glob:X.env.globals=mainGlobals
 blt:X.env.builtins=builtinsNs
 above:X.s₀.heap.objs.size<=X.env.locals
 inj:∀x y c,X.env.cells.lookup x=some c->X.env.cells.lookup y=some c->x=y
 has:∀x,(X.env.kindOf x=some .cell\/X.env.kindOf x=some .free)->∃c,X.env.cells.lookup x=some c
 cab:∀x c,X.fn x=true->X.env.cells.lookup x=some c->X.s₀.heap.objs.size<=c
 hd:X.calm=true->X.A.handled=none
 frames:X.A.frames=some X.stack
 stk:X.stack=X.outer\/(X.stack=X.env::X.outer/\X.env.frame=some X.env.locals)
 exf:∀b∈X.ex,b≠X.env.locals/\∀x c,X.env.cells.lookup x=some c->c≠b
 bs:∀b o,X.base.get? b=some o->X.s₀.heap.get? b=some o/\X.H₀ b=none
 bsz:X.base.objs.size<=X.s₀.heap.objs.size
 noex:∀b o,X.base.get? b=some o->b∉X.ex
 exfs:∀b∈X.ex,b∉X.fs
 funs:X.s₀.heap.FunFrames X.base X.outer
 frf:∀b∈X.fs,X.H₀ b=none
structure Inv(X:Cx)(pins:List (Addr×Obj))(O:List (Option V))(H:Hp)(s:Shared):Prop where
 ok:X.Ok
 os:s.os=X.s₀.os
 bare:AllBare s.gens
 base:Un X.fs X.ex X.H₀ H X.s₀.heap s.heap
 loc:∃m,s.heap.Ns X.env.locals m/\∀(i:Nat)(x:Str)(v:V),X.N[i]? = some x->O[i]? = some (some v)->Vis X.env.scope x->∃u,xL v u/\zhG X.env s.heap m x u
 cell:∀x c,X.env.cells.lookup x=some c->∃v,s.heap.IsCell c v
 free:H X.env.locals=none
 freeC:∀x c,X.env.cells.lookup x=some c->H c=none
 pin:∀p∈X.pn++pins,s.heap.get? p.1=some p.2/\H p.1=none/\p.1≠X.env.locals/\p.1∉X.fs/\∀v,p.2.data≠.cell v
 hok:HOk X.prog X.w H s.heap
 len:O.length=X.N.length
section
variable {X:Cx}{pins:List (Addr×Obj)}{O:List (Option V)}{H H':Hp}{s:Shared}{h':Heap}
theorem Cx.Ok.nofr(ok:X.Ok){b:Addr}{o:Obj}(e:X.base.get? b=some o):b∉X.fs:=λhb=>by
 have:=(ok.funs.mem hb).1;rw[e]at this;cases this
theorem Inv.bs(I:Inv X pins O H s):∀b o,X.base.get? b=some o->s.heap.get? b=some o/\H b=none:=λb o e=> ⟨I.base.keep b o (I.ok.bs b o e).1 (I.ok.bs b o e).2 (I.ok.nofr e) (I.ok.noex b o e),I.base.free b o (I.ok.bs b o e).1 (I.ok.bs b o e).2 (I.ok.noex b o e)⟩
theorem Inv.bk(I:Inv X pins O H s):∀b o,X.base.get? b=some o->s.heap.get? b=some o:=λb o e=>(I.bs b o e).1
theorem Inv.mod(I:Inv X pins O H s):Mod X.K X.mg X.base:=I.ok.mod
theorem Inv.kIn(I:Inv X pins O H s):X.K.In s.heap:=I.ok.mod.kin.keeps I.bk
theorem Inv.fr(I:Inv X pins O H s):∃m,Fr X.base X.env.locals s.heap m:= let ⟨m,hn,_⟩:=I.loc;⟨m,hn,I.bk,_H I.ok.bsz I.ok.above⟩
theorem Inv.lt(I:Inv X pins O H s):X.env.locals<s.heap.objs.size:=let ⟨_,hn,_⟩:=I.loc;hn.lt
theorem Inv.sz(I:Inv X pins O H s):X.s₀.heap.objs.size<=s.heap.objs.size:=_H I.ok.above (_ar I.lt)
theorem Inv.nofs(I:Inv X pins O H s){a:Addr}(h:s.heap.objs.size<=a):a∉X.fs:=λhb=>by
 obtain⟨_,o,ho,_⟩:=I.ok.funs.mem hb;exact absurd (_w (_o ho) (_H I.sz h)) (_aY _)
theorem Inv.cne(I:Inv X pins O H s):∀x c,X.env.cells.lookup x=some c->c≠X.env.locals:=λx c e z=>by
 obtain⟨v,o,ho,hd⟩:=I.cell x c e;obtain⟨m,⟨o',es,ep,ho',hd',_⟩,_⟩:=I.loc;rw[z,ho']at ho;cases ho;rw[hd']at hd;cases hd
theorem Inv.funs(I:Inv X pins O H s):s.heap.FunFrames X.base X.outer:=by
 have all:∀(l:List Env),(∀b∈frs l,b∈X.fs)->X.s₀.heap.FunFrames X.base l->s.heap.FunFrames X.base l:=by
  intro l;induction l with
  | nil=>intro _ _;trivial | cons env r ih=>
   intro hs hl;obtain⟨hk,⟨L,o,hf,hn,ho,hd⟩,hr⟩:=hl;have hL:L∈X.fs:=hs L (by unfold frs;rw[_cJ,hf];exact _T);obtain⟨sl,e⟩:=I.base.slot L o ho (I.ok.frf L hL) hL λz=>I.ok.exfs L z hL;exact⟨hk,⟨L,_,hf,hn,e,hd⟩,ih (λb hb=>hs b (by unfold frs;rw[_cJ,hf];exact _F _ hb)) hr⟩
 exact all X.outer (λ_ hb=>hb) I.ok.funs
theorem Inv.stack(I:Inv X pins O H s):s.heap.FunFrames X.base X.stack:=by
 rcases I.ok.stk with e | ⟨e,hf⟩;·rw[e];exact I.funs
 ·rw[e];obtain⟨m,hn,_⟩:=I.loc;refine .cons (by rw[I.ok.kind];decide) hf hn ?_ I.funs;exact Heap.get?_none_of_le (_H I.ok.bsz I.ok.above)
theorem Inv.stkSub(I:Inv X pins O H s):∀b∈frs X.stack,b∈X.env.locals::X.fs:=λb hb=>by
 rcases I.ok.stk with e | ⟨e,hf⟩;·rw[e]at hb;exact _F _ hb
 ·rw[e]at hb;unfold frs at hb;rw[_cJ,hf]at hb;exact hb
theorem Inv.stkFree(I:Inv X pins O H s):∀b∈frs X.stack,H b=none:=λb hb=>by
 rcases _j.mp (I.stkSub b hb) with e | hb;·rw[e];exact I.free
 ·obtain⟨_,o,ho,_⟩:=I.ok.funs.mem hb;exact I.base.free b o ho (I.ok.frf b hb) λz=>I.ok.exfs b z hb
theorem Inv.step{g':Array GenState}{t':Nat}{d':Drawn}{ch:List Addr}(I:Inv X pins O H s) (hch:∀b∈ch,(b∈X.ex\/X.s₀.heap.objs.size<=b)/\b≠X.env.locals/\(∀x c,X.env.cells.lookup x=some c->c≠b)/\∀p∈X.pn++pins,p.1≠b) (keep:∀b o,b≠X.env.locals->b∉X.fs->b∉ch->s.heap.get? b=some o->H b=none->h'.get? b=some o) (slot:∀b o,b≠X.env.locals->b∈X.fs->b∉ch->s.heap.get? b=some o->H b=none->∃sl,h'.get? b=some {o with slots:=sl})(free:∀b o,b∉ch->s.heap.get? b=some o->H b=none->H' b=none) (there:∀b o,b∉ch->s.heap.get? b=some o->∃o',h'.get? b=some o') (tups:∀b xs,H b=some (.tup xs)->H' b=some (.tup xs))(frzs:∀b o u,H b=some (.frz o u)->H' b=some (.frz o u))(tbls:∀b ps,H b=some (.tbl ps)->∃more,H' b=some (.tbl (ps++more))) (ns:∀m,s.heap.Ns X.env.locals m->h'.Ns X.env.locals m)(hok:HOk X.prog X.w H' h')(hg:AllBare g'): Inv X pins O H' {s with heap:=h',gens:=g',drawn:=d',toks:=t'}:=by
 have neL:∀b o,X.s₀.heap.get? b=some o->b≠X.env.locals:=λb o e=>_C (_w (_o e) I.ok.above);have neC:∀b o,X.s₀.heap.get? b=some o->b∉X.ex->b∉ch:=λb o e hx hb=>by
  rcases (hch b hb).1 with z | z;·exact hx z
  ·exact absurd (_w (_o e) z) (_aY _)
 have cellK:∀x c,X.env.cells.lookup x=some c->∀v,s.heap.IsCell c v->h'.IsCell c v:=λx c e v ⟨o,ho,hd⟩=>by
  have nch:c∉ch:=λz=>(hch c z).2.2.1 x c e rfl;by_cases hc:c∈X.fs
  ·obtain⟨sl,q⟩:=slot c o (I.cne x c e) hc nch ho (I.freeC x c e);exact⟨_,q,hd⟩
  ·exact⟨o,keep c o (I.cne x c e) hc nch ho (I.freeC x c e),hd⟩
 refine⟨I.ok,I.os,hg,⟨λb o e n hb hx=>?_,λb o e n hb hx=>?_,λb o e n hx=>?_,λb o e hx=>?_,λb xs e=>tups b xs (I.base.tups b xs e),λb o xs e=>frzs b o xs (I.base.frzs b o xs e),λb ps e=>?_⟩,?_,λx c e=>?_,?_,λx c e=>?_,λp hp=>?_,hok,I.len⟩;·exact keep b o (neL b o e) hb (neC b o e hx) (I.base.keep b o e n hb hx) (I.base.free b o e n hx)
 ·obtain⟨sl,e1⟩:=I.base.slot b o e n hb hx;obtain⟨sl',e2⟩:=slot b _ (neL b o e) hb (neC b o e hx) e1 (I.base.free b o e n hx);exact⟨sl',e2⟩
 ·obtain⟨o',e1⟩:=I.base.there b o e hx;exact free b o' (neC b o e hx) e1 (I.base.free b o e n hx)
 ·obtain⟨o',e1⟩:=I.base.there b o e hx;exact there b o' (neC b o e hx) e1
 ·obtain⟨m1,e1⟩:=I.base.tbls b ps e;obtain⟨m2,e2⟩:=tbls b _ e1;exact⟨m1++m2,by rw[e2,Array.append_assoc]⟩
 ·obtain⟨m,hn,hl⟩:=I.loc;refine⟨m,ns m hn,λi x v e1 e2 e3=>?_⟩;obtain⟨u,r,l⟩:=hl i x v e1 e2 e3;refine⟨u,r,?_⟩;rcases l with l | ⟨k,c,e,z⟩;·exact .inl l
  ·exact .inr ⟨k,c,e,cellK x c e _ z⟩
 ·obtain⟨v,z⟩:=I.cell x c e;exact⟨v,cellK x c e v z⟩
 ·obtain⟨m,⟨o,_,_,ho,_⟩,_⟩:=I.loc;exact free _ o (λz=>(hch _ z).2.1 rfl) ho I.free
 ·obtain⟨v,o,ho,hd⟩:=I.cell x c e;exact free c o (λz=>(hch c z).2.2.1 x c e rfl) ho (I.freeC x c e)
 ·obtain⟨e,n,ne,nf,d⟩:=I.pin p hp;have nch:p.1∉ch:=λz=>(hch p.1 z).2.2.2 p hp rfl;exact⟨keep p.1 p.2 ne nf nch e n,free p.1 p.2 nch e n,ne,nf,d⟩
theorem Inv.un {t':Nat} (I:Inv X pins O H s) (u:Un X.fs [] H H' s.heap h') (hok:HOk X.prog X.w H' h'):Inv X pins O H' {s with heap:=h',toks:=t'}:=by
 obtain⟨m,⟨o,es,ep,ho,r⟩,_⟩:=id I.loc;obtain⟨sl,hL⟩:=u.any ho I.free (by simp);exact I.step (g':=s.gens) (d':=s.drawn) (ch:=[]) (λ_ z=>nomatch z) (λb o _ hb _ e n=>u.keep b o e n hb (by simp)) (λb o _ hb _ e n=>u.slot b o e n hb (by simp)) (λb o _ e n=>u.free b o e n (by simp)) (λb o _ e=>u.there b o e (by simp)) u.tups u.frzs u.tbls (λm' hm=>by
  obtain⟨o',es',ep',ho',r'⟩:=hm;rw[ho]at ho';cases ho';exact⟨_,es',ep',hL,r'⟩) hok I.bare
theorem Inv.call{g':Array GenState}{t':Nat}{d':Drawn}{ch:List Addr}(I:Inv X pins O H s)(u:Un (frs X.stack) ch H H' s.heap h')(hok:HOk X.prog X.w H' h')(hg:AllBare g') (hch:∀b∈ch,(b∈X.ex\/X.s₀.heap.objs.size<=b)/\b≠X.env.locals/\(∀x c,X.env.cells.lookup x=some c->c≠b)/\∀p∈X.pn++pins,p.1≠b): Inv X pins O H' {s with heap:=h',gens:=g',drawn:=d',toks:=t'}:=by
 obtain⟨m,⟨o,es,ep,ho,r⟩,_⟩:=id I.loc;obtain⟨sl,hL⟩:=u.any ho I.free λz=>(hch _ z).2.1 rfl;exact I.step (ch:=ch) hch (λb o hL hb hc e n=>u.keep b o e n (λz=>(_j.mp (I.stkSub b z)).elim hL hb) hc) (λb o _ _ hc e n=>u.any e n hc) (λb o hc e n=>u.free b o e n hc) (λb o hc e=>u.there b o e hc) u.tups u.frzs u.tbls (λm' hm=>by
  obtain⟨o',es',ep',ho',r'⟩:=hm;rw[ho]at ho';cases ho';exact⟨_,es',ep',hL,r'⟩) hok hg
theorem Inv.turned {t':Nat} {it:Addr} (I:Inv X pins O H s) (k:∀b o,b≠it->s.heap.get? b=some o->h'.get? b=some o) (hn:H it=none) (hL:it≠X.env.locals) (h1:it∈X.ex\/X.s₀.heap.objs.size<=it) (h2:∀x c,X.env.cells.lookup x=some c->c≠it) (h3:∀p∈X.pn++pins,p.1≠it):Inv X pins O H {s with heap:=h',toks:=t'}:=by
 have nit:∀b u,H b=some u->b≠it:=λb u e z=>by rw[z,hn]at e;cases e
 refine I.step (g':=s.gens) (d':=s.drawn) (ch:=[it]) (λb hb=>?_) (λb o _ _ hc e _=>k b o (λz=>hc (by simp[z])) e) (λb o _ _ hc e _=>⟨o.slots,k b o (λz=>hc (by simp[z])) e⟩) (λ_ _ _ _ n=>n) (λb o hc e=>⟨o,k b o (λz=>hc (by simp[z])) e⟩) (λ_ _ e=>e) (λ_ _ _ e=>e) (λb ps e=>⟨#[],by rw[e];simp⟩) (λm hm=>?_) (λb u e=>?_) I.bare
 ·have e:b=it:=by simpa using hb
  subst e;exact⟨h1,hL,h2,h3⟩
 ·obtain⟨o,es,ep,ho,r⟩:=hm;exact⟨o,es,ep,k _ o (_bp hL) ho,r⟩
 ·refine (I.hok b u e).stay (λc v hc q=>k c v ?_ q) (λ_ q=>q) λ_ _ q=>q;rcases hc with z | z;·rw[z];exact nit b u e
  ·exact nit c _ z
theorem Inv.tok (I:Inv X pins O H s) (t:Nat):Inv X pins O H {s with toks:=t}:=I.un (h':=s.heap) (t':=t) Un.refl I.hok
theorem Inv.kept{t':Nat}(I:Inv X pins O H s)(k:∀b u,s.heap.get? b=some u->h'.get? b=some u):Inv X pins O H {s with heap:=h',toks:=t'}:=I.un (Un.kept k) (I.hok.kept k)
theorem Inv.laid {a:Addr} {o:HO} {t':Nat} (I:Inv X pins O H s) (k:∀b u,s.heap.get? b=some u->h'.get? b=some u) (hp:s.heap.objs.size<=a) (new:wc X.prog X.w (upd H a o) h' a o): Inv X pins O (upd H a o) {s with heap:=h',toks:=t'}:=I.un (Un.laid k hp (I.hok.fresh hp)) (I.hok.laid k hp new)
theorem Inv.write {x e:Addr} {o:HO} {t':Nat} (I:Inv X pins O H s) (mu:Mut (H x)) (he:e=x\/H e=some (.own x)) (k:∀b u,b≠e->s.heap.get? b=some u->h'.get? b=some u) (heo:∃u,h'.get? e=some u) (new:wc X.prog X.w (upd H x o) h' x o):Inv X pins O (upd H x o) {s with heap:=h',toks:=t'}:=I.un (Un.write mu he k heo) (I.hok.write mu he k heo new)
theorem Inv.weak{O':List (Option V)}(I:Inv X pins O H s)(hl:O'.length=O.length)(w:∀(i:Nat) v,O'[i]? = some (some v)->O[i]? = some (some v)):Inv X pins O' H s:= ⟨I.ok,I.os,I.bare,I.base,let ⟨m,hn,hl'⟩:=I.loc;⟨m,hn,λi x v e1 e2 e3=>hl' i x v e1 (w i v e2) e3⟩,I.cell,I.free,I.freeC,I.pin,I.hok,hl.trans I.len⟩
theorem Inv.pins_of{pins':List (Addr×Obj)}(I:Inv X pins O H s)(h:∀p∈pins',s.heap.get? p.1=some p.2/\H p.1=none/\p.1≠X.env.locals/\p.1∉X.fs/\∀v,p.2.data≠.cell v):Inv X pins' O H s:= ⟨I.ok,I.os,I.bare,I.base,I.loc,I.cell,I.free,I.freeC,λp hp=>(_L.mp hp).elim (λz=>I.pin p (_aJ _ z)) (h p),I.hok,I.len⟩
theorem z5G{N:List Str}(hN:N.Nodup){i j:Nat}{x:Str}(a:N[i]? = some x)(b:N[j]? = some x):i=j:=by
 obtain⟨h1,e1⟩:=_b.mp a;obtain⟨h2,e2⟩:=_b.mp b;exact (_aK hN).mp (e1.trans e2.symm)
theorem jR{M:Model}{A:Around}{E:Value->Shared->Prop}{i:Nat}{x:Str}{v:V}{u:Value}{Q:Unit->Shared->Prop}(I:Inv X pins O H s)(hN:X.N.Nodup)(hi:X.N[i]? = some x)(hx:Loc X.env.scope x)(r:xL v u) (h:∀s',Inv X pins (O.set i (some v)) H s'->(∃a,Heap.SameBut a s.heap s'.heap/\(a=X.env.locals\/X.env.cells.lookup x=some a))->Q () s')(hf:X.fn x=true\/X.env.scope.names.lookup x=some .local:=by first | exact .inl rfl | exact .inr rfl | assumption):wpAny M A (storeName X.env x u) Q E s:=by
 obtain⟨m,hn,hl⟩:=id I.loc;have hcls:(X.env.scope.kind==.class||(X.env.scope.kind==.module&&X.env.locals != X.env.globals))=false:=by rw[I.ok.kind];rfl
 have hiO:i<O.length:=by rw[I.len];exact (_b.mp hi).1
 have cne:=I.cne;have tracked:∀{a:Addr}{h':Heap},(∃o,s.heap.get? a=some o/\H a=none)->Heap.SameBut a s.heap h'->HOk X.prog X.w H h':=λ{a h'} ha hs b ob e=>by
  obtain⟨_,_,hfree⟩:=ha;refine (I.hok b ob e).stay (λc w' hc q=>(hs.2 c ?_).trans q) (λ_ q=>q) λ_ _ q=>q;rintro rfl;rcases hc with rfl | hc;·rw[hfree]at e;cases e
  ·rw[hfree]at hc;cases hc
 rcases hx with hk | hk
 ·refine wpAny_storeName_local hk hn (λh' hn' hs=>?_) hcls;obtain⟨oL,_,_,hoL,_⟩:=id hn;refine h _ ⟨I.ok,I.os,I.bare,⟨λb o e n hb hx=>?_,λb o e n hb hx=>?_,I.base.free,λb o e hx=>?_,I.base.tups,I.base.frzs,I.base.tbls⟩,⟨_,hn',λj y v' e1 e2 e3=>?_⟩,λy c e=>?_,I.free,I.freeC,λp hp=>?_,tracked ⟨oL,hoL,I.free⟩ hs,by simpa using I.len⟩ ⟨_,hs,.inl rfl⟩;·exact (hs.2 b (_C (_w (_o e) I.ok.above))).trans (I.base.keep b o e n hb hx)
  ·obtain⟨sl,e1⟩:=I.base.slot b o e n hb hx;exact⟨sl,(hs.2 b (_C (_w (_o e) I.ok.above))).trans e1⟩
  ·obtain⟨o',e1⟩:=I.base.there b o e hx;exact⟨o',(hs.2 b (_C (_w (_o e) I.ok.above))).trans e1⟩
  ·by_cases hj:j=i
   ·subst hj;rw[hi]at e1;cases e1;rw[_N hiO]at e2;cases e2;exact⟨u,r,.inl ⟨hk,by simp⟩⟩
   ·rw[_K (_bp hj)]at e2;obtain⟨u',r',q⟩:=hl j y v' e1 e2 e3;refine⟨u',r',?_⟩;rcases q with⟨k,e⟩ | ⟨k,c,e,z⟩
    ·refine .inl ⟨k,?_⟩;have:y≠x:=λe=>hj (z5G hN e1 (e ▸ hi));simp[this,e]
    ·exact .inr ⟨k,c,e,z.sameBut hs (cne y c e)⟩
  ·obtain⟨w',z⟩:=I.cell y c e;exact⟨w',z.sameBut hs (cne y c e)⟩
  ·obtain⟨e,n,ne,nf,d⟩:=I.pin p hp;exact⟨(hs.2 p.1 ne).trans e,n,ne,nf,d⟩
 ·have hfn:X.fn x=true:=by
   rcases hf with z | z;·exact z
   ·rw[z]at hk;cases hk
  obtain⟨c,hc⟩:=I.ok.has x (.inl hk);obtain⟨w',z⟩:=I.cell x c hc;refine wpAny_storeName_cell I.ok.kind hk hc z (λh' hc' hs=>?_);obtain⟨oc,hoc,hocd⟩:=id z;refine h {s with heap:=h'} ⟨I.ok,I.os,I.bare,⟨λb o e n hb hx=>?_,λb o e n hb hx=>?_,I.base.free,λb o e hx=>?_,I.base.tups,I.base.frzs,I.base.tbls⟩,⟨m,hn.sameBut hs (_bp (cne x c hc)),λj y v' e1 e2 e3=>?_⟩,λy c' e=>?_,I.free,I.freeC,λp hp=>?_,tracked ⟨oc,hoc,I.freeC x c hc⟩ hs,by simpa using I.len⟩ ⟨c,hs,.inr hc⟩;·exact (hs.2 b (_C (_w (_o e) (I.ok.cab x c hfn hc)))).trans (I.base.keep b o e n hb hx)
  ·obtain⟨sl,e1⟩:=I.base.slot b o e n hb hx;exact⟨sl,(hs.2 b (_C (_w (_o e) (I.ok.cab x c hfn hc)))).trans e1⟩
  ·obtain⟨o',e1⟩:=I.base.there b o e hx;exact⟨o',(hs.2 b (_C (_w (_o e) (I.ok.cab x c hfn hc)))).trans e1⟩
  ·by_cases hj:j=i
   ·subst hj;rw[hi]at e1;cases e1;rw[_N hiO]at e2;cases e2;exact⟨u,r,.inr ⟨.inl hk,c,hc,hc'⟩⟩
   ·rw[_K (_bp hj)]at e2;obtain⟨u',r',q⟩:=hl j y v' e1 e2 e3;refine⟨u',r',?_⟩;rcases q with q | ⟨k,c',e,z'⟩;·exact .inl q
    ·refine .inr ⟨k,c',e,z'.sameBut hs ?_⟩;rintro rfl;exact hj (z5G hN e1 (I.ok.inj _ _ _ e hc ▸ hi))
  ·by_cases hcc:c'=c;·subst hcc;exact⟨_,hc'⟩
   ·obtain⟨w2,z2⟩:=I.cell y c' e;exact⟨w2,z2.sameBut hs hcc⟩
  ·obtain⟨e,n,ne,nf,d⟩:=I.pin p hp;refine⟨(hs.2 p.1 ?_).trans e,n,ne,nf,d⟩;intro q;rw[q,hoc]at e;have q':oc=p.2:=_A e;exact d w' (by rw[<- q'];exact hocd)
theorem jP{M:Model}{A:Around}{E:Value->Shared->Prop}{i:Nat}{x:Str}{v:V}{u:Value}{Q:Unit->Shared->Prop}(I:Inv X pins O H s)(hN:X.N.Nodup)(hi:X.N[i]? = some x)(hx:Loc X.env.scope x)(r:xL v u) (h:∀s',Inv X pins (O.set i (some v)) H s'->Q () s')(hf:X.fn x=true\/X.env.scope.names.lookup x=some .local:=by first | exact .inl rfl | exact .inr rfl | assumption):wpAny M A (storeName X.env x u) Q E s:= jR I hN hi hx r (λs' I' _=>h s' I') hf
theorem Inv.call' {s':Shared} {ch:List Addr} (I:Inv X pins O H s) (ho:s'.os=s.os) (u:Un (frs X.stack) ch H H' s.heap s'.heap) (hok:HOk X.prog X.w H' s'.heap) (hg:AllBare s'.gens) (hch:∀b∈ch,(b∈X.ex\/X.s₀.heap.objs.size<=b)/\b≠X.env.locals/\(∀x c,X.env.cells.lookup x=some c->c≠b)/\∀p∈X.pn++pins,p.1≠b):Inv X pins O H' s':=by
 obtain⟨h',g',d',t',o'⟩:=s';have e:o'=s.os:=ho;subst e;exact I.call (g':=g') (t':=t') (d':=d') u hok hg hch
end
abbrev XK:=Value->Option Addr->Hp->Prop
abbrev St:=List (Option V)
abbrev VK:=V->Hp->Prop
abbrev TE:=St->Hp->VK->Prop
abbrev TT:=St->Hp->(Bool->Hp->Prop)->Prop
abbrev TA:=St->Hp->(List V->Hp->Prop)->Prop
structure z8v where
 nx:St->Hp->Prop
 rt:VK
 bk:St->Hp->Prop:=λ_ _=>False
 ct:St->Hp->Prop:=λ_ _=>False
abbrev TS:=z8v->St->Hp->Prop
def EP(X:Cx)(pins:List (Addr×Obj))(O:St)(Q:VK)(u:Value)(s':Shared):Prop:=∃v H',Inv X pins O H' s'/\xL v u/\Q v H'
def TP(X:Cx)(pins:List (Addr×Obj))(O:St)(Q:Bool->Hp->Prop)(b:Bool)(s':Shared):Prop:=∃H',Inv X pins O H' s'/\Q b H'
def AP(X:Cx)(pins:List (Addr×Obj))(O:St)(Q:List V->Hp->Prop)(us:List Value)(s':Shared):Prop:=∃vs H',Inv X pins O H' s'/\xt vs us/\Q vs H'
def SP(X:Cx)(pins:List (Addr×Obj))(D:z8v)(f:Flow)(s':Shared):Prop:= match f with
 | .next=>∃O' H',Inv X pins O' H' s'/\D.nx O' H' | .brk=>∃O' H',Inv X pins O' H' s'/\D.bk O' H' | .cont=>∃O' H',Inv X pins O' H' s'/\D.ct O' H' | .ret u=>∃v O' H',Inv X pins O' H' s'/\xL v u/\D.rt v H'
def PE(X:Cx)(e:Expr)(t:TE):Prop:= ∀(pins:List (Addr×Obj))(s:Shared)(O:St)(H:Hp)(Q:VK),Inv X pins O H s->t O H Q->wpAny (model X.prog X.w) X.A (eval e X.env) (EP X pins O Q) X.xe s
def PT(X:Cx)(e:Expr)(t:TT):Prop:= ∀(pins:List (Addr×Obj))(s:Shared)(O:St)(H:Hp)(Q:Bool->Hp->Prop),Inv X pins O H s->t O H Q->wpAny (model X.prog X.w) X.A (isTrue e X.env (eval e X.env)) (TP X pins O Q) X.xe s
def PW(X:Cx)(e:Expr)(t:TT):Prop:= ∀(whole:Sem Value)(pins:List (Addr×Obj))(s:Shared)(O:St)(H:Hp)(Q:Bool->Hp->Prop),Inv X pins O H s->t O H Q->wpAny (model X.prog X.w) X.A (isTrue e X.env whole) (TP X pins O Q) X.xe s
theorem PW.pt{X:Cx}{e:Expr}{t:TT}(h:PW X e t):PT X e t:=h _
def PA(X:Cx)(es:List Expr)(t:TA):Prop:= ∀(pos:Pos)(pins:List (Addr×Obj))(s:Shared)(O:St)(H:Hp)(Q:List V->Hp->Prop),Inv X pins O H s->t O H Q->wpAny (model X.prog X.w) X.A (spliced (backTo pos (starEach es X.env))) (AP X pins O Q) X.xe s
def PS(X:Cx)(st:Stmt)(t:TS):Prop:= ∀(pins:List (Addr×Obj))(s:Shared)(O:St)(H:Hp)(D:z8v),Inv X pins O H s->t D O H->wpAny (model X.prog X.w) X.A (exec st X.env) (SP X pins D) X.xe s
def PSs(X:Cx)(st:List Stmt)(t:TS):Prop:= ∀(pins:List (Addr×Obj))(s:Shared)(O:St)(H:Hp)(D:z8v),Inv X pins O H s->t D O H->wpAny (model X.prog X.w) X.A (execs st X.env) (SP X pins D) X.xe s
theorem thn{α:Type}{t:Sem α}{Q Q':α->Shared->Prop}{M:Model}{A:Around}{E:Value->Shared->Prop}{s:Shared}(h:wpAny M A t Q E s)(hQ:∀a s,Q a s->Q' a s):wpAny M A t Q' E s:=_E h hQ λ_ _ x=>x
section
variable {X:Cx}
theorem bin{a b:Expr}{ta tb:TE}(ha:PE X a ta)(hb:PE X b tb){pins:List (Addr×Obj)}{s:Shared}{O:St}{H:Hp}{R:V->V->Hp->Prop}(I:Inv X pins O H s)(h:ta O H λx H1=>tb O H1 λy H2=>R x y H2) {α:Type}{Q:α->Shared->Prop}{f:Value->Value->Sem α} (hf:∀v u s2 x y H2,Inv X pins O H2 s2->xL x v->xL y u->R x y H2->wpAny (model X.prog X.w) X.A (f v u) Q X.xe s2): wpAny (model X.prog X.w) X.A (eval a X.env) (λv s₁=>wpAny (model X.prog X.w) X.A (eval b X.env) (λu s₂=>wpAny (model X.prog X.w) X.A (f v u) Q X.xe s₂) X.xe s₁) X.xe s:=by
 refine thn (ha pins s O H _ I h) λv s1 ⟨x,H1,I1,r1,q1⟩=>?_;refine thn (hb pins s1 O H1 _ I1 q1) λu s2 ⟨y,H2,I2,r2,q2⟩=>?_;exact hf v u s2 x y H2 I2 r1 r2 q2
def z7u(i:Nat):TE:=λO H Q=>∃v,O[i]? = some (some v)/\Q v H
def tC(v:V):TE:=λ_ H Q=>Q v H
theorem kI{i:Nat}{x:Str}{pos:Pos}(hN:X.N[i]? = some x)(hv:Vis X.env.scope x)(hd:(x==("__debug__":Str))=false:=by decide)(hcd:(x==("__classdict__":Str))=false:=by decide):PE X (.Name x pos) (z7u i):=by
 intro pins s O H Q I h;obtain⟨v,e,h⟩:=h;obtain⟨m,hn,hl⟩:=I.loc;obtain⟨u,r,l⟩:=hl i x v hN e hv;have fin:EP X pins O Q u s:=⟨v,H,I,r,h⟩;rcases l with⟨hk,hm⟩ | ⟨hk,c,hc,hcell⟩;·exact wpAny_Name (wpAny_loadName_local I.ok.kind hk hn hm fin) hd
 ·rcases hk with hk | hk;·exact wpAny_Name (wpAny_loadName_cell I.ok.kind hk hc hcell fin) hd
  ·exact wpAny_Name (wpAny_loadName_free I.ok.kind hk hc hcell fin hcd) hd
theorem zfd{i j pos}:PE X (.Constant (.int i) j pos) (tC (.int i)):=λ_ _ _ H _ I h=>wpAny_Constant_int ⟨.int i,H,I.tok _,⟨_,rfl⟩,h⟩
theorem zgd{b j pos}:PE X (.Constant (.bool b) j pos) (tC (.bl b)):=λ_ _ _ H _ I h=>Constant_bool ⟨.bl b,H,I,rfl,h⟩
theorem zeA{j pos}:PE X (.Constant .none j pos) (tC .non):=λ_ _ _ H _ I h=>Constant_none ⟨.non,H,I,rfl,h⟩
def Gl(X:Cx)(x:Str):Prop:=X.env.kindOf x=some .globalImplicit
theorem z9k{E:Value->Shared->Prop}{pins:List (Addr×Obj)}{s:Shared}{O:St}{H:Hp}{x:Str}{u:Value}{pos:Pos}{Q:Value->Shared->Prop}(I:Inv X pins O H s)(hg:Gl X x)(hm:X.mg x=some u)(h:Q u s) (hd:(x==("__debug__":Str))=false:=by decide):wpAny (model X.prog X.w) X.A (eval (.Name x pos) X.env) Q E s:= Calls.Name_function_global I.ok.kind hg (Calls.loadGlobal_global (by rw[I.ok.glob];exact I.mod.glob.keeps I.bk) hm h) hd
theorem kS{E:Value->Shared->Prop}{pins:List (Addr×Obj)}{s:Shared}{O:St}{H:Hp}{x:Str}{u:Value}{pos:Pos}{Q:Value->Shared->Prop}(I:Inv X pins O H s)(hg:Gl X x)(hm:X.mg x=none)(hv:bootBuiltins x=some u)(h:Q u s) (hn:x≠"__name__":=by decide)(hd:(x==("__debug__":Str))=false:=by decide):wpAny (model X.prog X.w) X.A (eval (.Name x pos) X.env) Q E s:=by
 obtain⟨mb,h1,h2⟩:=I.mod.blt;exact Calls.Name_function_global I.ok.kind hg (Calls.loadGlobal_builtin (by rw[I.ok.glob];exact I.mod.glob.keeps I.bk) hm (by rw[I.ok.blt];exact h1.keeps I.bk) ((h2 x hn).trans hv) h) hd
theorem z8I{x:Str}{v:V}{u:Value}{pos:Pos}(hg:Gl X x)(hm:X.mg x=some u)(r:xL v u)(hd:(x==("__debug__":Str))=false:=by decide):PE X (.Name x pos) (tC v):= λ_ _ _ H _ I h=>z9k I hg hm ⟨v,H,I,r,h⟩ hd
theorem zc2{x:Str}{v:V}{u:Value}{pos:Pos}(hg:Gl X x)(hm:X.mg x=none)(hv:bootBuiltins x=some u)(r:xL v u)(hn:x≠"__name__":=by decide)(hd:(x==("__debug__":Str))=false:=by decide):PE X (.Name x pos) (tC v):= λ_ _ _ H _ I h=>kS I hg hm hv ⟨v,H,I,r,h⟩ hn hd
variable {a b:Expr}{ta tb:TE}{pos:Pos}
def PC(X:Cx)(op:CmpOp)(a b:Expr)(t:TE):Prop:= ∀(pins:List (Addr×Obj))(s:Shared)(O:St)(H:Hp)(Q:VK),Inv X pins O H s->t O H Q-> wpAny (model X.prog X.w) X.A (eval a X.env) (λv s₁=>wpAny (model X.prog X.w) X.A (eval b X.env) (λu s₂=>wpAny (model X.prog X.w) X.A (compareOp op v u) (EP X pins O Q) X.xe s₂) X.xe s₁) X.xe s
def tB(t:TE):TT:=λO H Q=>t O H λx H1=>∃c,x=.bl c/\Q c H1
theorem zhj{op:CmpOp}{t:TE}(h:PC X op a b t)(h1:behindInMarks op b=false:=by first | exact nobehind _ (by decide) (by decide) | rfl):PT X (.Compare a [op] [b] pos) (tB t):=by
 intro pins s O H Q I hw;refine wpAny_isTrue_Compare1 (thn (h pins s O H _ I hw) λv s1 h1=>thn h1 λu s2 h2=>thn h2 λc s3 ⟨x,H1,I1,r1,q1⟩=>?_) h1;obtain⟨d,rfl,q⟩:=q1;cases r1;exact _aP ⟨H1,I1,q⟩
theorem zeO{e:Expr}{t:TE}(h:PE X e t)(he:∀whole,isTrue e X.env whole=(do let v <- whole;standAt e.pos;holding [v] (truthy v)):=by intro _;rfl):PT X e (tB t):=by
 intro pins s O H Q I hw;refine isTrue_plain (thn (h pins s O H _ I hw) λv s1 ⟨x,H1,I1,r1,q1⟩=>?_) (he _);obtain⟨d,rfl,q⟩:=q1;cases r1;exact _aP ⟨H1,I1,q⟩
variable {tA tB':TT}{z6C:List Expr}
def tOr(t u:TT):TT:=λO H Q=>t O H λc H1=>if c=true then Q true H1 else u O H1 Q
def zi6(t:TT):TT:=λO H Q=>t O H λc H1=>Q (!c) H1
theorem zeg(ha:PT X a tA):PW X (.BoolOp .Or [a] pos) tA:=by
 intro wh pins s O H Q I h;refine isTrue_or (thn (ha pins s O H Q I h) λc s1 e=>?_);cases c with
 | false=>exact isTrue_or_nil e | true=>exact e
theorem zgf(ha:PT X a tA)(hb:PW X (.BoolOp .Or (b::z6C) pos) tB'):PW X (.BoolOp .Or (a::b::z6C) pos) (tOr tA tB'):=by
 intro wh pins s O H Q I h;refine isTrue_or (thn (ha pins s O H _ I h) λc s1 ⟨H1,I1,q1⟩=>?_);cases c with
 | true=>exact⟨H1,I1,q1⟩ | false=>exact hb wh pins s1 O H1 Q I1 q1
theorem zdG(ha:PT X a tA):PT X (.UnaryOp .Not a pos) (zi6 tA):=by
 intro pins s O H Q I h;exact isTrue_not (ha pins s O H (λc H1=>Q (!c) H1) I h)
def zfK(ta tb:TE):TE:=λO H Q=>ta O H λx H1=>∃c,x=.bl c/\if c=true then tb O H1 Q else Q (.bl false) H1
def zg7(ta:TE):TE:=λO H Q=>ta O H λx H1=>∃c,x=.bl c/\Q (.bl (!c)) H1
theorem zdY{op}{t:TE}(h:PE X a t):PE X (.BoolOp op [a] pos) t:=λpins s O H Q I hw=>BoolOp_one (h pins s O H Q I hw)
theorem zdi(ha:PE X a ta)(hb:PE X (.BoolOp .And (b::z6C) pos) tb):PE X (.BoolOp .And (a::b::z6C) pos) (zfK ta tb):=by
 intro pins s O H Q I h;refine BoolOp_and (thn (ha pins s O H _ I h) λv s1 ⟨x,H1,I1,r1,q1⟩=>?_);obtain⟨c,rfl,q1⟩:=q1;cases r1;refine _aP ?_;cases c with
 | true=>exact hb pins s1 O H1 Q I1 q1 | false=>exact⟨.bl false,H1,I1,rfl,q1⟩
theorem zeY(ha:PE X a ta):PE X (.UnaryOp .Not a pos) (zg7 ta):=by
 intro pins s O H Q I h;refine UnaryOp_ (thn (ha pins s O H _ I h) λv s1 ⟨x,H1,I1,r1,q1⟩=>?_);obtain⟨c,rfl,q1⟩:=q1;cases r1;exact not_of (_aP ⟨.bl (!c),H1,I1,rfl,q1⟩)
end
def SqL(K:W.Frag)(H:Hp)(a:Addr)(xs:List V):Prop:= Rd H a (.lst xs)\/ ∃(o:Obj)(its:Array Value)(n:Nat),K.lookup a=some o/\o.cls=.type "list"/\o.dict=none/\o.data=.seq its n/\its.size<=sizeLine/\xt xs its.toList
def SqT(K:W.Frag)(H:Hp)(a:Addr)(xs:List V):Prop:= Rd H a (.tup xs)\/ ∃(o:Obj)(its:Array Value)(n:Nat),K.lookup a=some o/\o.cls=.type "tuple"/\o.data=.seq its n/\its.size<=sizeLine/\xt xs its.toList
noncomputable def zib:Value->Option V
 | .none=>some .non | .bool b=>some (.bl b) | .int i _=>some (.int i) | .str x _=>some (.str x) | .bytes b _=>some (.byt b) | .float b _=>some (.flt b) | .ref a=>some (.ref a) | .type n=>some (.ty n) | _=>none
theorem xL.abs{x:V}{u:Value}(r:xL x u):zib u=some x:=by cases x with
 | non=>cases r;rfl | bl _=>cases r;rfl | int _=>obtain⟨t,rfl⟩:=r;rfl | str _=>obtain⟨t,rfl⟩:=r;rfl | byt _=>obtain⟨t,rfl⟩:=r;rfl | flt _=>obtain⟨t,rfl⟩:=r;rfl | ref _=>cases r;rfl | ty _=>cases r;rfl
theorem xL.inj{x y:V}{u:Value}(r:xL x u)(q:xL y u):x=y:=_A (r.abs.symm.trans q.abs)
theorem xt.inj:∀{xs ys:List V}{us:List Value},xt xs us->xt ys us->xs=ys
 | _,_,_,.nil,.nil=>rfl | _,_,_,.cons r t,.cons r' t'=>by rw[r.inj r',xt.inj t t']
section
variable {X:Cx}{pins:List (Addr×Obj)}{O:St}{H:Hp}{s:Shared}{a:Addr}{xs ys:List V}
theorem Inv.list(I:Inv X pins O H s)(h:SqL X.K H a xs):∃its:List Value,xt xs its/\PlainL s.heap a its.toArray/\xs.length<=sizeLine:=by
 rcases h with h | ⟨o,its,n,hk,hc,hd,hs,hz,r⟩
 ·obtain⟨z,its,n,r,e⟩:=h.ok I.hok;exact⟨its,r,⟨_,n,e,rfl,rfl,rfl⟩,z⟩
 ·refine⟨its.toList,r,⟨o,n,I.kIn a o hk,hc,hd,by simpa using hs⟩,?_⟩;have e:=r.length;simp only[_X]at e;omega
theorem Inv.tuple(I:Inv X pins O H s)(h:SqT X.K H a xs):∃its:List Value,xt xs its/\IsTup s.heap a its.toArray/\xs.length<=sizeLine:=by
 rcases h with h | ⟨o,its,n,hk,hc,hs,hz,r⟩
 ·obtain⟨z,its,r,p⟩:=h.ok I.hok;exact⟨its,r,p.tup,z⟩
 ·refine⟨its.toList,r,⟨o,I.kIn a o hk,hc,n,by simpa using hs⟩,?_⟩;have e:=r.length;simp only[_X]at e;omega
theorem Inv.list_inj(I:Inv X pins O H s)(h:SqL X.K H a xs)(h':SqL X.K H a ys):xs=ys:=by
 obtain⟨its,r,⟨o,n,e,_,_,d⟩,_⟩:=I.list h;obtain⟨its',r',⟨o',n',e',_,_,d'⟩,_⟩:=I.list h';rw[e]at e';cases e';rw[d]at d';injection d' with d1 _;have:its=its':=by simpa using _a5 Array.toList d1
 subst this;exact r.inj r'
theorem Inv.tuple_inj(I:Inv X pins O H s)(h:SqT X.K H a xs)(h':SqT X.K H a ys):xs=ys:=by
 obtain⟨its,r,⟨o,e,_,n,d⟩,_⟩:=I.tuple h;obtain⟨its',r',⟨o',e',_,n',d'⟩,_⟩:=I.tuple h';rw[e]at e';cases e';rw[d]at d';injection d' with d1 _;have:its=its':=by simpa using _a5 Array.toList d1
 subst this;exact r.inj r'
end
noncomputable abbrev Cx.wish(X:Cx)(E:Value->Shared->Prop):Cx:={X with xe:=E}
noncomputable abbrev Cx.nox(X:Cx):Cx:=X.wish λ_ _=>False
theorem Cx.Ok.wish{X:Cx}(ok:X.Ok)(E:Value->Shared->Prop):(X.wish E).Ok:= ⟨ok.mod,ok.kind,ok.glob,ok.blt,ok.above,ok.inj,ok.has,ok.cab,ok.hd,ok.frames,ok.stk,ok.exf,ok.bs,ok.bsz,ok.noex,ok.exfs,ok.funs,ok.frf⟩
theorem Cx.Ok.unwish{X:Cx}{E:Value->Shared->Prop}(ok:(X.wish E).Ok):X.Ok:= ⟨ok.mod,ok.kind,ok.glob,ok.blt,ok.above,ok.inj,ok.has,ok.cab,ok.hd,ok.frames,ok.stk,ok.exf,ok.bs,ok.bsz,ok.noex,ok.exfs,ok.funs,ok.frf⟩
section
variable {X:Cx}{pins:List (Addr×Obj)}{O:St}{H:Hp}{s:Shared}{E:Value->Shared->Prop}
theorem Inv.wish(I:Inv X pins O H s)(E:Value->Shared->Prop):Inv (X.wish E) pins O H s:=⟨I.ok.wish E,I.os,I.bare,I.base,I.loc,I.cell,I.free,I.freeC,I.pin,I.hok,I.len⟩
theorem Inv.unwish(I:Inv (X.wish E) pins O H s):Inv X pins O H s:=⟨I.ok.unwish,I.os,I.bare,I.base,I.loc,I.cell,I.free,I.freeC,I.pin,I.hok,I.len⟩
theorem SP.unwish{D:z8v}{f:Flow}{s':Shared}(h:SP (X.wish E) pins D f s'):SP X pins D f s':=by cases f with
 | next=>obtain⟨O',H',I,q⟩:=h;exact⟨O',H',I.unwish,q⟩ | brk=>obtain⟨O',H',I,q⟩:=h;exact⟨O',H',I.unwish,q⟩ | cont=>obtain⟨O',H',I,q⟩:=h;exact⟨O',H',I.unwish,q⟩ | ret u=>obtain⟨v,O',H',I,r,q⟩:=h;exact⟨v,O',H',I.unwish,r,q⟩
theorem PSs.nox{st:List Stmt}{t:TS}(h:PSs X.nox st t):PSs X st t:=λpins s O H D I hw=> _E (h pins s O H D (I.wish _) hw) (λ_ _ q=>q.unwish) λ_ _ z=>False.elim z
end
section
variable {X:Cx}{st:Stmt}{z6C:List Stmt}{t u:TS}{e:Expr}{te:TE}{pos:Pos}
def zfU:TS:=λD O H=>D.nx O H
def zgV(t u:TS):TS:=λD O H=>t {D with nx:=u D} O H
theorem zbN:PSs X [] zfU:=λ_ _ O H _ I h=>_cy ⟨O,H,I,h⟩
theorem z2r(h1:PS X st t)(h2:PSs X z6C u):PSs X (st::z6C) (zgV t u):=by
 intro pins s O H D I h;refine wpAny_execs_cons (thn (h1 pins s O H {D with nx:=u D} I h) λf s1 q=>?_);cases f with
 | next=>
  obtain⟨O',H',I',q⟩:=q;exact h2 pins s1 O' H' D I' q | ret v=>exact q | brk=>exact q | cont=>exact q
theorem zbM(h1:PS X st t):PSs X [st] t:=by
 intro pins s O H D I h;refine wpAny_execs_cons (thn (h1 pins s O H D I h) λf s1 q=>?_);cases f with
 | next=>exact _cy q | ret v=>exact q | brk=>exact q | cont=>exact q
theorem Inv.quiet{pins:List (Addr×Obj)}{O:St}{H:Hp}{s:Shared}(I:Inv X pins O H s):interactive X.env=false:=by simp[interactive,I.ok.kind]
def zg9(te:TE):TS:=λD O H=>te O H λ_ H1=>D.nx O H1
theorem zcn(he:PE X e te)(hs:swapsWith e none pos.line X.env=pure false:=by rfl):PS X (.Expr e pos) (zg9 te):=by
 intro pins s O H D I h;exact wpAny_Expr_any (thn (he pins s O H _ I h) λv s1 ⟨x,H1,I1,r1,q1⟩=>⟨O,H1,I1,q1⟩) I.quiet hs
def zhH(te:TE):TS:=λD O H=>te O H D.rt
theorem zdH(he:PE X e te):PS X (.Return (some e) pos) (zhH te):=by
 intro pins s O H D I h;exact wpAny_Return_some (thn (he pins s O H _ I h) λv s1 ⟨x,H1,I1,r1,q1⟩=>⟨x,O,H1,I1,r1,q1⟩)
def zi8(c:TT)(t u:TS):TS:=λD O H=>c O H λb H1=>if b=true then t D O H1 else u D O H1
theorem zgz{c:Expr}{a b:List Stmt}{tc:TT}(hc:PT X c tc)(ha:PSs X a t)(hb:PSs X b u):PS X (.If c a b pos) (zi8 tc t u):=by
 intro pins s O H D I h;refine wpAny_If (thn (hc pins s O H _ I h) λd s1 ⟨H1,I1,q1⟩=>?_);cases d with
 | true=>exact ha pins s1 O H1 D I1 q1 | false=>exact hb pins s1 O H1 D I1 q1
def zdr:TS:=λ_ _ _=>False
theorem z9D:PS X st zdr:=λ_ _ _ _ _ _ h=>h.elim
end
abbrev TG:=V->St->Hp->(St->Hp->Prop)->Prop
abbrev TGs:=List V->St->Hp->(St->Hp->Prop)->Prop
def PG(X:Cx)(target:Expr)(t:TG):Prop:= ∀(pins:List (Addr×Obj))(s:Shared)(O:St)(H:Hp)(v:V)(u:Value)(Q:St->Hp->Prop),Inv X pins O H s->xL v u->t v O H Q-> wpAny (model X.prog X.w) X.A (assign target X.env u) (λ_ s'=>∃O' H',Inv X pins O' H' s'/\Q O' H') X.xe s
def PGs(X:Cx)(ts:List Expr)(t:TGs):Prop:= ∀(pins:List (Addr×Obj))(s:Shared)(O:St)(H:Hp)(vs:List V)(us:List Value)(Q:St->Hp->Prop),Inv X pins O H s->xt vs us->t vs O H Q-> wpAny (model X.prog X.w) X.A (assignInOrder ((assignEach ts X.env).map (·.2)) us) (λ_ s'=>∃O' H',Inv X pins O' H' s'/\Q O' H') X.xe s
abbrev zgh:=V->V->V->Hp->(Hp->Prop)->Prop
def zhe(X:Cx)(t:zgh):Prop:= ∀(pins:List (Addr×Obj))(s:Shared)(O:St)(H:Hp)(o i v:V)(ov iv u:Value)(Q:Hp->Prop),Inv X pins O H s->xL o ov->xL i iv->xL v u->t o i v H Q-> wpAny (model X.prog X.w) X.A (setItem ov iv u) (λ_ s'=>∃H',Inv X pins O H' s'/\Q H') X.xe s
abbrev TIp:=V->V->Hp->VK->Prop
def PIp(X:Cx)(op:Operator)(t:TIp):Prop:= ∀(pins:List (Addr×Obj))(s:Shared)(O:St)(H:Hp)(x y:V)(v u:Value)(Q:VK),Inv X pins O H s->xL x v->xL y u->t x y H Q-> wpAny (model X.prog X.w) X.A (inplaceOp op v u) (EP X pins O Q) X.xe s
section
variable {X:Cx}{pos:Pos}
def kW(i:Nat):TG:=λv O H Q=>Q (O.set i (some v)) H
theorem yk{i:Nat}{x:Str}(hN:X.N.Nodup)(hi:X.N[i]? = some x)(hx:Loc X.env.scope x)(hf:X.fn x=true\/X.env.scope.names.lookup x=some .local:=by first | exact .inl rfl | exact .inr rfl | assumption):PG X (.Name x pos) (kW i):=by
 intro pins s O H v u Q I r h;exact _b9 (jP I hN hi hx r (λs' I'=>⟨_,H,I',h⟩) hf)
def zgY:TGs:=λvs O H Q=>vs=[]/\Q O H
def zcf(t:TG)(u:TGs):TGs:=λvs O H Q=>∃v r,vs=v::r/\t v O H λO' H'=>u r O' H' Q
theorem zcB:PGs X [] zgY:=by
 intro pins s O H vs us Q I r h;obtain⟨e,h⟩:=h;subst e;cases r;exact assignInOrder_nil ⟨O,H,I,h⟩
theorem z6t{e:Expr}{es:List Expr}{t:TG}{u:TGs}(h1:PG X e t)(h2:PGs X es u) (hs:(assignEach (e::es) X.env).map (·.2)=assign e X.env::(assignEach es X.env).map (·.2):=by rfl):PGs X (e::es) (zcf t u):=by
 intro pins s O H vs us Q I r h;obtain⟨v,vr,e1,h⟩:=h;subst e1;cases r with | cons r rr=>
  rw[hs];refine _cR (thn (h1 pins s O H _ _ _ I r h) λ_ s1 ⟨O1,H1,I1,q1⟩=>?_);exact h2 pins s1 O1 H1 _ _ Q I1 rr q1
def zhf(K:W.Frag)(n:Nat)(t:TGs):TG:=λv O H Q=>∃a xs,v=.ref a/\SqT K H a xs/\xs.length=n/\t xs O H Q
theorem zeI{es:List Expr}{k:Nat}{t:TGs}{n:Nat}(hc:X.calm=true)(h:PGs X es t) (hn:(assignEach es X.env).length=n:=by rfl)(hst:(assignEach es X.env).findIdx? (·.1)=none:=by rfl):PG X (.Tuple es k pos) (zhf X.K n t):=by
 intro pins s O H v u Q I r hw;obtain⟨a,xs,e1,hq,hl,hw⟩:=hw;subst e1;cases r;obtain⟨its,rv,ht,hz⟩:=I.tuple hq;refine assign_Tuple_tuple (I.ok.hd hc) ht (by simp[hn,<- hl,rv.length]) hst λh' hx=>?_;have I1:Inv X pins O H {s with heap:=h'}:=I.kept (t':=s.toks) λb o e=>hx b o (_C (_o e)) e;exact h pins _ O H xs _ Q I1 (by simpa using rv) hw
def zi0(to ti:TE)(t:zgh):TG:=λv O H Q=>to O H λo H1=>ti O H1 λi H2=>t o i v H2 λH3=>Q O H3
theorem zda{o i:Expr}{to ti:TE}{t:zgh}(ho:PE X o to)(hi:PE X i ti)(hs:zhe X t) (ha:∀v,assign (.Subscript o i pos) X.env v=(do
   let ov <- holding [v] (eval o X.env) let iv <- holding [v,ov] (eval i X.env)
   standAt pos
   holding [v,ov,iv] (setItem ov iv v)
   release [v,ov,iv] []):=by intro _;rfl):PG X (.Subscript o i pos) (zi0 to ti t):=by
 intro pins s O H v u Q I r h;rw[ha];refine _a (_az (thn (ho pins s O H _ I h) λov s1 ⟨x,H1,I1,r1,q1⟩=>?_));refine _a (_az (thn (hi pins s1 O H1 _ I1 q1) λiv s2 ⟨y,H2,I2,r2,q2⟩=>?_));refine _a (_aO (_a (_az (thn (hs pins s2 O H2 x y v ov iv u _ I2 r1 r2 r q2) λ_ s3 ⟨H3,I3,q3⟩=>?_))));exact wpAny_release ⟨O,H3,I3,q3⟩
def zfJ(te:TE)(g:TG):TS:=λD O H=>te O H λx H1=>g x O H1 D.nx
theorem zee{tg e:Expr}{te:TE}{g:TG}(he:PE X e te)(hg:PG X tg g)(hs:swapsWithSole [tg] e pos.line X.env=pure false:=by rfl)(hw:swappedStores [tg] e X.env=pure none:=by rfl) (h1:(assignEach [tg] X.env).map (·.2)=[assign tg X.env]:=by rfl):PS X (.Assign [tg] e pos) (zfJ te g):=by
 intro pins s O H D I h;refine wpAny_Assign_stores (thn (he pins s O H _ I h) λv s1 ⟨x,H1,I1,r1,q1⟩=>?_) hs hw;rw[h1];exact thn (hg pins s1 O H1 x v _ I1 r1 q1) λ_ s2 q=>q
theorem zfa{i:Nat}{x:Str}{e:Expr}{te:TE}{pos':Pos}(hN:X.N.Nodup)(hi:X.N[i]? = some x)(hx:Loc X.env.scope x)(he:PE X e te)(hs:swapsWith e (some (.Name x pos')) pos.line X.env=pure false:=by rfl)(hf:X.fn x=true\/X.env.scope.names.lookup x=some .local:=by first | exact .inl rfl | exact .inr rfl | assumption): PS X (.Assign [.Name x pos'] e pos) (zfJ te (kW i)):=by
 intro pins s O H D I h;refine wpAny_Assign_Name (thn (he pins s O H _ I h) λv s1 ⟨y,H1,I1,r1,q1⟩=>?_) hs;exact jP I1 hN hi hx r1 (λs2 I2=>⟨_,H1,I2,q1⟩) hf
def zho(i j:Nat)(ta:TA):TS:=λD O H=>ta O H λvs H1=>∃v w,vs=[v,w]/\D.nx ((O.set i (some v)).set j (some w)) H1
theorem zek {i j:Nat} {x y:Str} {a b:Expr} {ta:TA} {px py pt:Pos} {kt k2 pt2} (hc:X.calm=true) (hN:X.N.Nodup) (hi:X.N[i]? = some x) (hj:X.N[j]? = some y) (hij:i≠j) (hx:X.env.scope.names.lookup x=some .local) (hy:X.env.scope.names.lookup y=some .local) (ha:PA X [a,b] ta) (hw:swappedStores [.Tuple [.Name x px,.Name y py] kt pt] (.Tuple [a,b] k2 pt2) X.env=pure (some [x,y])) (hs:swapsWithSole [.Tuple [.Name x px,.Name y py] kt pt] (.Tuple [a,b] k2 pt2) pos.line X.env=pure false:=by rfl): PS X (.Assign [.Tuple [.Name x px,.Name y py] kt pt] (.Tuple [a,b] k2 pt2) pos) (zho i j ta):=by
 intro pins s O H D I h;rw[exec_Assign_arm];refine _a (_aO ?_);rw[hs];refine _a (_e ?_);rw[_i (by decide)];refine _a (Tuple_ (thn (ha _ pins s O H _ I h) λus s1 ⟨vs,H1,I1,r1,q1⟩=>?_));obtain⟨v,w,e1,q1⟩:=q1;subst e1;obtain⟨u1,u2,rfl,rv,rw'⟩:∃u1 u2,us=[u1,u2]/\xL v u1/\xL w u2:=by cases r1 with | cons p q=> cases q with | cons p' q'=>
    cases q';exact⟨_,_,rfl,p,p'⟩
 refine _ac ?_ (by show 2<=sizeLine;decide);have I2:Inv X pins O H1 {s1 with heap:=s1.heap.push {cls:=.type "tuple",data:=.seq [u1,u2].toArray}}:=I1.kept (t':=s1.toks) λb o e=>_f _ e;rw[hw];refine _a (_e ?_);show wpAny (model X.prog X.w) X.A (do rule "assign.swapped-stores";let items <- unpackItems (.ref s1.heap.objs.size) 2 none;assignInOrder [λv=>bindName X.env y v,λv=>bindName X.env x v] items.reverse;pure Flow.next) _ _ _;refine _a (_aG (_a (unpackItems_tuple (items:=#[u1,u2]) (I.ok.hd hc) (IsTup.new s1.heap _) λh' hx'=>?_)));have I3:=I2.kept (h':=h') (t':=s1.toks) λb o e=>hx' b o (_C (_o e)) e;show wpAny _ _ (assignInOrder [λv=>bindName X.env y v,λv=>bindName X.env x v] [u2,u1] >>= λ_=>pure Flow.next) _ _ _;refine _a (_cR (wpAny_bindName (jP I3 hN hj (.inl hy) rw' (λs2 I4=>?_) (.inr hy))));refine _cR (wpAny_bindName (jP I4 hN hi (.inl hx) rv (λs3 I5=>assignInOrder_nil (_e ?_)) (.inr hx)));rw[List.set_comm _ _ (_bp hij)]at I5;exact⟨_,H1,I5,q1⟩
def zia(i:Nat)(te:TE)(ti:TIp):TS:=λD O H=>∃x,O[i]? = some (some x)/\te O H λy H1=>ti x y H1 λz H2=>D.nx (O.set i (some z)) H2
theorem zfm{i:Nat}{x:Str}{e:Expr}{te:TE}{op:Operator}{ti:TIp}{pos':Pos}(hN:X.N.Nodup)(hi:X.N[i]? = some x)(hx:Loc X.env.scope x)(he:PE X e te)(ho:PIp X op ti)(hf:X.fn x=true\/X.env.scope.names.lookup x=some .local:=by first | exact .inl rfl | exact .inr rfl | assumption): PS X (.AugAssign (.Name x pos') op e pos) (zia i te ti):=by
 intro pins s O H D I h;obtain⟨v,e1,h⟩:=h;obtain⟨m,hn,hl⟩:=I.loc;have vis:Vis X.env.scope x:=by rcases hx with k | k;exact .inl k;exact .inr (.inl k)
 obtain⟨u,r,l⟩:=hl i x v hi e1 vis;refine wpAny_AugAssign_Name ?_;have go:wpAny (model X.prog X.w) X.A (eval e X.env) (λw s₂=>wpAny (model X.prog X.w) X.A (inplaceOp op u w) (λr s₃=>wpAny (model X.prog X.w) X.A (storeName X.env x r) (λ_=>SP X pins D .next) X.xe s₃) X.xe s₂) X.xe s:=by
  refine thn (he pins s O H _ I h) λw s1 ⟨y,H1,I1,r1,q1⟩=>?_;refine thn (ho pins s1 O H1 v y u w _ I1 r r1 q1) λz s2 ⟨zv,H2,I2,r2,q2⟩=>?_;exact jP I2 hN hi hx r2 (λs3 I3=>⟨_,H2,I3,q2⟩) hf
 rcases l with⟨hk,hm⟩ | ⟨hk,c,hc,hcell⟩;·exact wpAny_loadName_local I.ok.kind hk hn hm go
 ·rcases hk with hk | hk;·exact wpAny_loadName_cell I.ok.kind hk hc hcell go
  ·rcases hx with k | k
   ·have:X.env.scope.names.lookup x=some .free:=hk;rw[k]at this;cases this
   ·have:X.env.scope.names.lookup x=some .free:=hk;rw[k]at this;cases this
end
section
variable {X:Cx}{pos:Pos}
def zdM(c:TT)(tb:TS):TS:=λD O H=>∃W:Nat->St->Hp->Prop,(∃m,W m O H)/\∀m O H,W m O H-> c O H λb H1=>if b=true then ∃N:St->Hp->Prop,(∀O' H',N O' H'->∃m',m'<m/\W m' O' H')/\tb {D with nx:=N,ct:=N,bk:=D.nx} O H1 else D.nx O H1
theorem zay{c:Expr}{body:List Stmt}{tc:TT}{tb:TS}(hp:PassesOwn (model X.prog X.w) X.A X.env X.xe)(hc:PT X c tc)(hb:PSs X body tb):PS X (.While c body [] pos) (zdM tc tb):=by
 intro pins s O H D I h;obtain⟨W,⟨m0,w0⟩,turn⟩:=h;refine wpAny_While (codeAny_whileLoop (λn s'=>∃O' H',Inv X pins O' H' s'/\W n O' H') ?_ m0 ⟨O,H,I,w0⟩);rintro n s1 ⟨O1,H1,I1,w1⟩;refine _bo hp (thn (hc pins s1 O1 H1 _ I1 (turn n O1 H1 w1)) λb s2 ⟨H2,I2,q2⟩=>?_);cases b with
 | true=>
  obtain⟨N,hN,q2⟩:=q2;rw[_g rfl];refine _bo hp (thn (hb pins s2 O1 H2 _ I2 q2) λf s3 q3=>?_);cases f with
  | next=>
   obtain⟨O3,H3,I3,n3⟩:=q3;obtain⟨m',hm,w3⟩:=hN O3 H3 n3;exact⟨m',hm,O3,H3,I3,w3⟩ | cont=>
   obtain⟨O3,H3,I3,n3⟩:=q3;obtain⟨m',hm,w3⟩:=hN O3 H3 n3;exact⟨m',hm,O3,H3,I3,w3⟩ | brk=>exact q3 | ret v=>exact q3
 | false=>
  rw[_i _bA];exact _cy ⟨O1,H2,I2,q2⟩
end
structure It where
 go:Nat->Hp->Prop
 yld:Nat->Hp->V->Hp->Prop
 stop:Nat->Hp->Prop
def z2h(X:Cx)(pins:List (Addr×Obj))(H:Hp)(b:Addr):Prop:= H b=none/\b≠X.env.locals/\b∉X.fs/\(b∈X.ex\/X.s₀.heap.objs.size<=b)/\(∀x c,X.env.cells.lookup x=some c->c≠b)/\∀p∈X.pn++pins,p.1≠b
theorem Inv.fpOk{X:Cx}{pins:List (Addr×Obj)}{O:St}{H H':Hp}{s:Shared}{b:Addr}(I:Inv X pins O H s)(hb:s.heap.objs.size<=b)(hn:H' b=none):z2h X pins H' b:=by
 refine⟨hn,_ca (_w I.lt hb),I.nofs hb,.inr (_H I.sz hb),λx c e z=>?_,λp hp z=>?_⟩
 ·obtain⟨v,q⟩:=I.cell x c e;exact absurd (_w q.lt (by rw[z];exact hb)) (_aY _)
 ·exact absurd (_w (_o (I.pin p hp).1) (by rw[z];exact hb)) (_aY _)
structure zbW(P:Program)(w:World)(K:W.Frag)(tg:Expr)(J:It)(fp:List Addr)(it:Addr)(tn:Nat->Heap->Prop):Prop where
 mem:it∈fp
 obj:∀i h,tn i h->∀b∈fp,∃o,h.get? b=some o/\∀v,o.data≠.cell v
 keep:∀i h h',tn i h->(∀b∈fp,∀o,h.get? b=some o->h'.get? b=some o)->tn i h'
 item:∀(X:Cx),X.prog=P->X.w=w->X.K=K->X.calm=true->∀(i:Nat)(pins:List (Addr×Obj))(s:Shared)(O:St)(H:Hp)(E:Value->Shared->Prop),Inv X pins O H s->(∀b∈fp,z2h X pins H b)->tn i s.heap->J.go i H-> wpAny (model P w) X.A (pyNext (.ref it)) (λr s1=>∃u,r=some u/\ wpAny (model P w) X.A (letOwnedTupleGo tg (.ref it) u) (λ_ s2=>∃x H',Inv X pins O H' s2/\xL x u/\J.yld i H x H'/\tn (i+1) s2.heap/\∀b∈fp,H' b=none) E s1) E s
 done:∀(X:Cx),X.prog=P->X.w=w->X.K=K->X.calm=true->∀(i:Nat)(pins:List (Addr×Obj))(s:Shared)(O:St)(H:Hp)(E:Value->Shared->Prop),Inv X pins O H s->(∀b∈fp,z2h X pins H b)->tn i s.heap->J.stop i H-> wpAny (model P w) X.A (pyNext (.ref it)) (λr s1=>r=none/\Inv X pins O H s1) E s
 self:∀(A:Around)(i:Nat)(s:Shared)(Q:Value->Shared->Prop)(E:Value->Shared->Prop),tn i s.heap->Q (.ref it) s->wpAny (model P w) A (pyIter (.ref it)) Q E s
abbrev TI:=St->Hp->(It->Hp->Prop)->Prop
def PIE(X:Cx)(pins:List (Addr×Obj))(O:St)(tg:Expr)(R:It->Hp->Prop)(itv:Value)(s2:Shared):Prop:= ∃(it:Addr)(fp:List Addr)(tn:Nat->Heap->Prop)(J:It)(H':Hp),itv=.ref it/\Inv X pins O H' s2/\zbW X.prog X.w X.K tg J fp it tn/\tn 0 s2.heap/\(∀b∈fp,z2h X pins H' b)/\R J H'
def PI(X:Cx)(tg iter:Expr)(wi:TI):Prop:= ∀(pins:List (Addr×Obj))(s:Shared)(O:St)(H:Hp)(R:It->Hp->Prop),Inv X pins O H s->wi O H R-> wpAny (model X.prog X.w) X.A (eval iter X.env) (λv s1=>wpAny (model X.prog X.w) X.A (pyIter v) (PIE X pins O tg R) X.xe s1) X.xe s
theorem zbF{M:Model}{A:Around}{E:Value->Shared->Prop}{s:Shared}{tg:Expr}{it:Addr}{u:Value}{o:Obj}{n:String}{vs:Array Value}{Q:Unit->Shared->Prop}(ho:s.heap.get? it=some o)(hc:o.cls=.type n)(hd:o.data=.fields vs) (hn:["enumerate","zip","dict_itemiterator","dict_reverseitemiterator","odict_iterator","itertools.zip_longest","itertools.pairwise"].contains n=false)(hQ:Q () s):wpAny M A (letOwnedTupleGo tg (.ref it) u) Q E s:=by
  unfold letOwnedTupleGo;cases tg<;>first
    | exact _e hQ | (cases u<;>first
        | exact _e hQ
        | (refine _a (wpAny_load ho ?_);rw[hc,hd];show wpAny M A (if (["enumerate","zip","dict_itemiterator","dict_reverseitemiterator","odict_iterator","itertools.zip_longest","itertools.pairwise"].contains n&&vs[0]? == some (rawInt _))=true then _ else _) Q E s;rw[_i (by intro h;rw[hn,_cS]at h;cases h)];exact _e hQ))
noncomputable def Itl(K:W.Frag)(a:Addr):It:= ⟨λi H=>∃xs x,SqL K H a xs/\xs[i]? = some x,λi H x H'=>H'=H/\∀xs,SqL K H a xs->xs[i]? = some x,λi H=>∃xs,SqL K H a xs/\xs.length<=i⟩
noncomputable def Itt(K:W.Frag)(a:Addr):It:= ⟨λi H=>∃xs x,SqT K H a xs/\xs[i]? = some x,λi H x H'=>H'=H/\∀xs,SqT K H a xs->xs[i]? = some x,λi H=>∃xs,SqT K H a xs/\xs.length<=i⟩
noncomputable def Itr(lo:Int)(n:Nat):It:=⟨λi _=>i<n,λi H x H'=>H'=H/\x=.int (lo+i),λi _=>n<=i⟩
theorem z8x{P:Program}{w:World}{K:W.Frag}{tg:Expr}(a it:Addr):zbW P w K tg (Itl K a) [it] it (λi h=>h.IsListIter it a i) where
 mem:=by simp
 obj:=λi h st b hb=>by
  have e:b=it:=by simpa using hb
  subst e;obtain⟨o,e,c,d⟩:=st;exact⟨o,e,λv z=>by rw[d]at z;cases z⟩
 keep:=λi h h' st k=>st.at λo e=>k it (by simp) o e;item:=by
  intro X hP hw hK hc i pins s O H E I hf st hg;subst hP hw hK;obtain⟨xs,x,hq,hx⟩:=hg;obtain⟨its,rv,p,hz⟩:=I.list hq;obtain⟨u,hu,ru⟩:=rv.get hx;obtain⟨f0,f1,f2,f3,f4,f5⟩:=hf it (by simp);refine wpAny_pyNext_list_item st p.isList (x:=u) (by simpa using hu) λh' st' sb=>?_;have I1:Inv X pins O H {s with heap:=h'}:=I.turned (t':=s.toks) (λb o hb e=>(sb.2 b hb).trans e) f0 f1 f3 f4 f5;obtain⟨o,e,c,d⟩:=id st';exact⟨u,rfl,zbF (s:={s with heap:=h'}) e c d (by decide) ⟨x,H,I1,ru,⟨rfl,λys hy=>by rw[I.list_inj hy hq];exact hx⟩,st',λb hb=>(hf b hb).1⟩⟩
 done:=by
  intro X hP hw hK hc i pins s O H E I hf st hg;subst hP hw hK;obtain⟨xs,hq,hx⟩:=hg;obtain⟨its,rv,p,hz⟩:=I.list hq;obtain⟨f0,f1,f2,f3,f4,f5⟩:=hf it (by simp);have hl:=rv.length;exact wpAny_pyNext_list_end (I.ok.hd hc) st p.isList (by simp;omega) λh' eb=>⟨rfl,I.turned (t':=s.toks) (λb o hb e=>eb b o hb e) f0 f1 f3 f4 f5⟩
 self:=λ_ _ _ _ _ st h=>wpAny_pyIter_listiter st h
theorem z7g {P:Program} {w:World} {K:W.Frag} {tg:Expr} (a it:Addr):zbW P w K tg (Itt K a) [it] it (λi h=>h.IsTupleIter it a i) where
 mem:=by simp
 obj:=λi h st b hb=>by
  have e:b=it:=by simpa using hb
  subst e;obtain⟨o,e,c,d⟩:=st;exact⟨o,e,λv z=>by rw[d]at z;cases z⟩
 keep:=λi h h' st k=>st.at λo e=>k it (by simp) o e;item:=by
  intro X hP hw hK hc i pins s O H E I hf st hg;subst hP hw hK;obtain⟨xs,x,hq,hx⟩:=hg;obtain⟨its,rv,p,hz⟩:=I.tuple hq;obtain⟨u,hu,ru⟩:=rv.get hx;obtain⟨f0,f1,f2,f3,f4,f5⟩:=hf it (by simp);refine wpAny_pyNext_tuple_item st (show s.heap.IsTuple a its.toArray from p) (x:=u) (by simpa using hu) λh' st' sb=>?_;have I1:Inv X pins O H {s with heap:=h'}:=I.turned (t':=s.toks) (λb o hb e=>(sb.2 b hb).trans e) f0 f1 f3 f4 f5;obtain⟨o,e,c,d⟩:=id st';exact⟨u,rfl,zbF (s:={s with heap:=h'}) e c d (by decide) ⟨x,H,I1,ru,⟨rfl,λys hy=>by rw[I.tuple_inj hy hq];exact hx⟩,st',λb hb=>(hf b hb).1⟩⟩
 done:=by
  intro X hP hw hK hc i pins s O H E I hf st hg;subst hP hw hK;obtain⟨xs,hq,hx⟩:=hg;obtain⟨its,rv,p,hz⟩:=I.tuple hq;obtain⟨f0,f1,f2,f3,f4,f5⟩:=hf it (by simp);have hl:=rv.length;exact wpAny_pyNext_tuple_end (I.ok.hd hc) st (show s.heap.IsTuple a its.toArray from p) (by simp;omega) λh' eb=>⟨rfl,I.turned (t':=s.toks) (λb o hb e=>eb b o hb e) f0 f1 f3 f4 f5⟩
 self:=λ_ _ _ _ _ st h=>wpAny_pyIter_tupleiter st h
theorem z6Q {P:Program} {w:World} {K:W.Frag} {tg:Expr} (it:Addr) (lo:Int) (n:Nat):zbW P w K tg (Itr lo n) [it] it (λi h=>IsRangeIter h it (lo+(i:Nat)*1) ((n:Int)-(i:Nat)) 1) where
 mem:=by simp
 obj:=λi h st b hb=>by
  have e:b=it:=by simpa using hb
  subst e;exact⟨_,st,λv z=>by
   have z':Data.fields _=Data.cell v:=z;cases z'⟩
 keep:=λi h h' st k=>k it (by simp) _ st;item:=by
  intro X hP hw hK hc i pins s O H E I hf st hg;subst hP hw hK;obtain⟨f0,f1,f2,f3,f4,f5⟩:=hf it (by simp);have W:=Walks.range (prog:=X.prog) (w:=X.w) (I.ok.hd hc) it lo 1 n;refine W.item i s _ _ hg st λv h' tk hv st' kk=>?_;obtain⟨t,rfl⟩:=hv;have I1:Inv X pins O H {s with heap:=h',toks:=tk}:=I.turned (λb o hb e=>kk b o (by simpa using hb) e) f0 f1 f3 f4 f5;refine⟨_,rfl,zbF (s:={s with heap:=h',toks:=tk}) (n:="range_iterator") st' rfl rfl (by decide) ⟨.int (lo+i),H,I1,⟨t,?_⟩,⟨rfl,rfl⟩,st',λb hb=>(hf b hb).1⟩⟩;rw[Int.mul_one]
 done:=by
  intro X hP hw hK hc i pins s O H E I hf st hg;subst hP hw hK;obtain⟨f0,f1,f2,f3,f4,f5⟩:=hf it (by simp);exact wpAny_pyNext_range_end (I.ok.hd hc) st (by have:n<=i:=hg;omega) λh' eb=>⟨rfl,I.turned (t':=s.toks) (λb o hb e=>eb b o hb e) f0 f1 f3 f4 f5⟩
 self:=λ_ _ _ _ _ st h=>wpAny_pyIter_rangeiter st h
section
variable {X:Cx}{tg:Expr}
theorem z5C{pins:List (Addr×Obj)}{O:St}{H:Hp}{s:Shared}{R:It->Hp->Prop}{E:Value->Shared->Prop}{lo hi:Int}{t u v:Tok}{tk:Nat}(I:Inv X pins O H s)(h1:-(2 ^ 62)<=lo)(h2:lo<2 ^ 62)(h3:-(2 ^ 62)<=hi)(h4:hi<2 ^ 62) (q:R (Itr lo (hi-lo).toNat) H):wpAny (model X.prog X.w) X.A (pyIter (.ref s.heap.objs.size)) (PIE X pins O tg R) E {s with heap:=s.heap.push {cls:=.type "range",data:=.fields #[.int lo t,.int hi u,.int 1 v]},toks:=tk}:=by
 refine wpAny_pyIter_range (IsRange.new ..) (small_one h1 h2 h3 h4) ?_;have I1:Inv X pins O H {s with heap:=s.heap.push {cls:=.type "range",data:=.fields #[.int lo t,.int hi u,.int 1 v]},toks:=tk}:=I.kept λb o e=>_f _ e;refine⟨(s.heap.push {cls:=.type "range",data:=.fields #[.int lo t,.int hi u,.int 1 v]}).objs.size,[(s.heap.push {cls:=.type "range",data:=.fields #[.int lo t,.int hi u,.int 1 v]}).objs.size],_,_,H,rfl, I1.kept (t':=tk) λb o e=>_f _ e,z6Q _ lo (hi-lo).toNat,?_,λb hb=>?_,q⟩
 ·have e1:lo+((0:Nat):Int)*1=lo:=by simp
  have e2:(((hi-lo).toNat:Nat):Int)-((0:Nat):Int)=Builtin.Range.rangeSize lo hi 1:=by rw[rangeSize_one];split<;>omega
  show IsRangeIter _ _ (lo+((0:Nat):Int)*1) ((((hi-lo).toNat:Nat):Int)-((0:Nat):Int)) 1;rw[e1,e2];exact _s _ rfl
 ·have e:b=(s.heap.push {cls:=.type "range",data:=.fields #[.int lo t,.int hi u,.int 1 v]}).objs.size:=by simpa using hb
  subst e;exact I1.fpOk (_d _) (I1.hok.fresh (_d _))
def zfG(ta:TA):TI:=λO H R=>ta O H λvs H1=>∃j:Int,vs=[.int j]/\-(2 ^ 62)<=j/\j<2 ^ 62/\R (Itr 0 j.toNat) H1
def zg3(ta:TA):TI:=λO H R=>ta O H λvs H1=>∃i j:Int,vs=[.int i,.int j]/\(-(2 ^ 62)<=i/\i<2 ^ 62/\-(2 ^ 62)<=j/\j<2 ^ 62)/\R (Itr i (j-i).toNat) H1
theorem z9i{a:Expr}{ta:TA}{p pos:Pos}(hg:Gl X "range")(hm:X.mg "range"=none)(ha:PA X [a] ta)(hs:starEach [a] X.env=[(false,eval a X.env)]:=by rfl):PI X tg (.Call (.Name "range" p) [a] [] pos) (zfG ta):=by
 intro pins s O H R I h;refine Call_ (kS I hg hm boot_range (_as (thn (ha pos pins s O H _ I h) λus s1 ⟨vs,H1,I1,r1,q1⟩=>?_) hs rfl));obtain⟨j,e,q1,q2,q⟩:=q1;subst e;cases r1 with | cons r rr=>
  cases rr;obtain⟨t,rfl⟩:=r;exact call_range_1 (z5C I1 (by omega) (by omega) q1 q2 (by simpa using q))
theorem z8a{a b:Expr}{ta:TA}{p pos:Pos}(hg:Gl X "range")(hm:X.mg "range"=none)(ha:PA X [a,b] ta)(hs:starEach [a,b] X.env=[(false,eval a X.env),(false,eval b X.env)]:=by rfl)(hs2:starEach [b] X.env=[(false,eval b X.env)]:=by rfl): PI X tg (.Call (.Name "range" p) [a,b] [] pos) (zg3 ta):=by
 intro pins s O H R I h;refine Call_ (kS I hg hm boot_range (_as (thn (ha pos pins s O H _ I h) λus s1 ⟨vs,H1,I1,r1,q1⟩=>?_) (by rw[hs,hs2]) (by rw[hs2];rfl)));obtain⟨i,j,e,⟨q1,q2,q3,q4⟩,q⟩:=q1;subst e;cases r1 with | cons r rr=> cases rr with | cons r' rr=>
   cases rr;obtain⟨t,rfl⟩:=r;obtain⟨t',rfl⟩:=r';exact call_range_2 (z5C I1 q1 q2 q3 q4 q)
def zhY(wi:TI)(g:TG)(tb:TS):TS:=λD O H=>wi O H λJ H1=>∃W:Nat->Nat->St->Hp->Prop,(∃m,W 0 m O H1)/\∀i m O H,W i m O H-> (J.stop i H/\D.nx O H)\/(J.go i H/\∃N:St->Hp->Prop,(∀O' H',N O' H'->∃m',m'<m/\W (i+1) m' O' H')/\∀x H',J.yld i H x H'->g x O H' λO2 H2=>tb {D with nx:=N,ct:=N,bk:=D.nx} O2 H2)
noncomputable def z2a(fp:List Addr)(h:Heap):List (Addr×Obj):=fp.filterMap λb=>(h.get? b).map λo=>(b,o)
theorem uA{fp:List Addr}{h:Heap}{b:Addr}{o:Obj}(hb:b∈fp)(e:h.get? b=some o):(b,o)∈z2a fp h:=_cT.mpr ⟨b,hb,by rw[e];rfl⟩
theorem z8k{fp:List Addr}{h:Heap}{p:Addr×Obj}(hp:p∈z2a fp h):p.1∈fp/\h.get? p.1=some p.2:=by
 obtain⟨b,hb,e⟩:=_cT.mp hp;cases q:h.get? b with
 | none=>rw[q]at e;cases e | some o=>
  rw[q]at e;have e':(b,o)=p:=_A e;subst e';exact⟨hb,q⟩
theorem Inv.pinned{pins:List (Addr×Obj)}{O:St}{H:Hp}{s:Shared}{fp:List Addr}(I:Inv X pins O H s)(hf:∀b∈fp,z2h X pins H b)(ho:∀b∈fp,∃o,s.heap.get? b=some o/\∀v,o.data≠.cell v):Inv X (pins++z2a fp s.heap) O H s:= I.pins_of λp hp=>(_L.mp hp).elim (λz=>I.pin p (_y _ z)) λz=>by
  obtain⟨hb,e⟩:=z8k z;obtain⟨f0,f1,f2,_⟩:=hf p.1 hb;obtain⟨o,e',d⟩:=ho p.1 hb;rw[e]at e';cases e';exact⟨e,f0,f1,f2,d⟩
theorem Inv.unpinned{pins pl:List (Addr×Obj)}{O:St}{H:Hp}{s:Shared}(I:Inv X (pins++pl) O H s):Inv X pins O H s:=I.pins_of λp hp=>I.pin p (_y _ (_aJ _ hp))
theorem zen{iter:Expr}{body:List Stmt}{wi:TI}{g:TG}{tb:TS}{pos:Pos}(hp:PassesOwn (model X.prog X.w) X.A X.env X.xe)(hc:X.calm=true)(hi:PI X tg iter wi)(hg:PG X tg g)(hb:PSs X body tb) (hs:∀x,foldedSetIterable iter X.env x=pure x:=by intro _;rfl):PS X (.For tg iter body [] pos) (zhY wi g tb):=by
 intro pins s O H D I h;refine wpAny_For (thn (hi pins s O H _ I h) λv s1 h1=>thn h1 λitv s2 h2=>?_) hs;obtain⟨it,fp,tn,J,H2,e,I2,T,st2,f2,W,⟨m0,w0⟩,turn⟩:=h2;subst e;have stat:∀{H':Hp},(∀b∈fp,H' b=none)->∀b∈fp,z2h X pins H' b:=λhn b hb=>⟨hn b hb,(f2 b hb).2⟩;refine codeAny_forLoop_any (λn s'=>∃i O' H',Inv X pins O' H' s'/\tn i s'.heap/\(∀b∈fp,H' b=none)/\W i n O' H') ?_ m0 ⟨0,O,H2,I2,st2,λb hb=>(f2 b hb).1,w0⟩;rintro n s3 ⟨i,O3,H3,I3,st3,fr3,w3⟩;rcases turn i n O3 H3 w3 with⟨stop,qn⟩ | ⟨go,N,hN,step⟩
 ·refine _bo hp (thn (T.done X rfl rfl rfl hc i pins s3 O3 H3 X.xe I3 (stat fr3) st3 stop) λr s4 ⟨hr,I4⟩=>?_);subst hr;exact _cy ⟨O3,H3,I4,qn⟩
 ·refine _bo hp (thn (T.item X rfl rfl rfl hc i pins s3 O3 H3 X.xe I3 (stat fr3) st3 go) λr s4 ⟨u,hr,h4⟩=>?_);subst hr;refine _bo hp (thn h4 λ_ s5 ⟨x,H5,I5,r5,y5,st5,fr5⟩=>?_);have I5':=I5.pinned (stat fr5) (T.obj _ _ st5);refine _bo hp (thn (hg _ s5 O3 H5 x u _ I5' r5 (step x H5 y5)) λ_ s6 ⟨O6,H6,I6,q6⟩=>?_);refine _bo hp (thn (hb _ s6 O6 H6 _ I6 q6) λf s7 q7=>?_);have again:∀{O7:St}{H7:Hp},Inv X (pins++z2a fp s5.heap) O7 H7 s7->N O7 H7->∃m,m<n/\∃i O' H',Inv X pins O' H' s7/\tn i s7.heap/\(∀b∈fp,H' b=none)/\W i m O' H':=λ{O7 H7} I7 n7=>by
   obtain⟨m',hm,w7⟩:=hN O7 H7 n7;refine⟨m',hm,i+1,O7,H7,I7.unpinned,T.keep _ _ _ st5 λb hb o e=>(I7.pin (b,o) (_y _ (_y _ (uA hb e)))).1,λb hb=>?_,w7⟩;obtain⟨o,e,d⟩:=T.obj _ _ st5 b hb;exact (I7.pin (b,o) (_y _ (_y _ (uA hb e)))).2.1
  cases f with
  | next=>obtain⟨O7,H7,I7,n7⟩:=q7;exact again I7 n7 | cont=>obtain⟨O7,H7,I7,n7⟩:=q7;exact again I7 n7 | brk=>obtain⟨O7,H7,I7,q7⟩:=q7;exact⟨O7,H7,I7.unpinned,q7⟩ | ret v=>obtain⟨x7,O7,H7,I7,r7,q7⟩:=q7;exact⟨x7,O7,H7,I7.unpinned,r7,q7⟩
end
abbrev R2:=V->V->Hp->VK->Prop
def OpR(X:Cx)(f:Value->Value->Sem Value)(r:R2):Prop:= ∀(pins:List (Addr×Obj))(s:Shared)(O:St)(H:Hp)(x y:V)(v u:Value)(Q:VK),Inv X pins O H s->xL x v->xL y u->r x y H Q-> wpAny (model X.prog X.w) X.A (f v u) (EP X pins O Q) X.xe s
def UnR(X:Cx)(f:Value->Sem Value)(r:V->Hp->VK->Prop):Prop:= ∀(pins:List (Addr×Obj))(s:Shared)(O:St)(H:Hp)(x:V)(v:Value)(Q:VK),Inv X pins O H s->xL x v->r x H Q-> wpAny (model X.prog X.w) X.A (f v) (EP X pins O Q) X.xe s
def wA(X:Cx)(f:Value)(r:List V->Hp->VK->Prop):Prop:= ∀(pins:List (Addr×Obj))(s:Shared)(O:St)(H:Hp)(xs:List V)(us:List Value)(Q:VK),Inv X pins O H s->xt xs us->r xs H Q-> wpAny (model X.prog X.w) X.A (call f us) (EP X pins O Q) X.xe s
def zi7(X:Cx)(r:V->Hp->(Bool->Hp->Prop)->Prop):Prop:= ∀(pins:List (Addr×Obj))(s:Shared)(O:St)(H:Hp)(x:V)(v:Value)(Q:Bool->Hp->Prop),Inv X pins O H s->xL x v->r x H Q-> wpAny (model X.prog X.w) X.A (truthy v) (TP X pins O Q) X.xe s
def tOp(r:R2)(ta tb:TE):TE:=λO H Q=>ta O H λx H1=>tb O H1 λy H2=>r x y H2 Q
def tUn(r:V->Hp->VK->Prop)(ta:TE):TE:=λO H Q=>ta O H λx H1=>r x H1 Q
def rI(C:Int->Int->Prop)(g:Int->Int->V):R2:=λx y H Q=>∃i j,x=.int i/\y=.int j/\C i j/\Q (g i j) H
def rI0(g:Int->Int->V):R2:=λx y H Q=>∃i j,x=.int i/\y=.int j/\Q (g i j) H
def rU(g:Int->V):V->Hp->VK->Prop:=λx H Q=>∃i,x=.int i/\Q (g i) H
section
variable {X:Cx}{a b c:Expr}{ta tb tc:TE}{pos:Pos}
theorem zgy(ha:PE X a ta)(hb:PE X b tb){pins:List (Addr×Obj)}{s:Shared}{O:St}{H:Hp}{R:V->V->Hp->Prop}(I:Inv X pins O H s) (h:ta O H λx H1=>tb O H1 λy H2=>R x y H2){Q:Value->Shared->Prop}{f:Value->Value->Sem Value} (hf:∀v u s2 x y H2,Inv X pins O H2 s2->xL x v->xL y u->R x y H2->wpAny (model X.prog X.w) X.A (f v u) Q X.xe s2): wpAny (model X.prog X.w) X.A (eval a X.env) (λv s₁=>wpAny (model X.prog X.w) X.A (eval b X.env) (λu s₂=>wpAny (model X.prog X.w) X.A (f v u) Q X.xe s₂) X.xe s₁) X.xe s:=by
 refine thn (ha pins s O H _ I h) λv s1 ⟨x,H1,I1,r1,q1⟩=>?_;refine thn (hb pins s1 O H1 _ I1 q1) λu s2 ⟨y,H2,I2,r2,q2⟩=>?_;exact hf v u s2 x y H2 I2 r1 r2 q2
theorem zdd{op:Operator}{r:R2}(ho:OpR X (binaryOp op) r)(ha:PE X a ta)(hb:PE X b tb):PE X (.BinOp a op b pos) (tOp r ta tb):=by
 intro pins s O H Q I h;exact wpAny_BinOp (zgy ha hb I h λv u s2 x y H2 I2 rx ry q=>ho pins s2 O H2 x y v u Q I2 rx ry q)
theorem zgq{op:UnaryOp}{r:V->Hp->VK->Prop}(ho:UnR X (unaryOp op) r)(ha:PE X a ta):PE X (.UnaryOp op a pos) (tUn r ta):=by
 intro pins s O H Q I h;exact UnaryOp_ (thn (ha pins s O H _ I h) λv s1 ⟨x,H1,I1,r1,q1⟩=>ho pins s1 O H1 x v Q I1 r1 q1)
theorem opI {f:Value->Value->Sem Value} {C:Int->Int->Prop} {g:Int->Int->Int} (rule:∀(i j:Int) (t u:Tok) (s:Shared) (Q:Value->Shared->Prop) (E:Value->Shared->Prop),C i j->Q (.int (g i j) s.toks) {s with toks:=s.toks+1}->wpAny (model X.prog X.w) X.A (f (.int i t) (.int j u)) Q E s): OpR X f (rI C λi j=>.int (g i j)):=by
 intro pins s O H x y v u Q I rx ry h;obtain⟨i,j,rfl,rfl,hc,q⟩:=h;obtain⟨t,rfl⟩:=rx;obtain⟨t',rfl⟩:=ry;exact rule i j t t' s _ _ hc ⟨.int (g i j),H,I.tok _,⟨_,rfl⟩,q⟩
theorem zh7 {f:Value->Value->Sem Value} {g:Int->Int->Int} (rule:∀(i j:Int) (t u:Tok) (s:Shared) (Q:Value->Shared->Prop) (E:Value->Shared->Prop),Q (.int (g i j) s.toks) {s with toks:=s.toks+1}->wpAny (model X.prog X.w) X.A (f (.int i t) (.int j u)) Q E s): OpR X f (rI0 λi j=>.int (g i j)):=by
 intro pins s O H x y v u Q I rx ry h;obtain⟨i,j,rfl,rfl,q⟩:=h;obtain⟨t,rfl⟩:=rx;obtain⟨t',rfl⟩:=ry;exact rule i j t t' s _ _ ⟨.int (g i j),H,I.tok _,⟨_,rfl⟩,q⟩
theorem zfw{f:Value->Value->Sem Value}{g:Int->Int->Bool} (rule:∀(i j:Int)(t u:Tok)(s:Shared)(Q:Value->Shared->Prop)(E:Value->Shared->Prop),Q (.bool (g i j)) s->wpAny (model X.prog X.w) X.A (f (.int i t) (.int j u)) Q E s): OpR X f (rI0 λi j=>.bl (g i j)):=by
 intro pins s O H x y v u Q I rx ry h;obtain⟨i,j,rfl,rfl,q⟩:=h;obtain⟨t,rfl⟩:=rx;obtain⟨t',rfl⟩:=ry;exact rule i j t t' s _ _ ⟨.bl (g i j),H,I,rfl,q⟩
def zhu(i j:Int):Prop:=0<=j/\j<=1000000/\i.natAbs<2 ^ 64
theorem zem:OpR X (binaryOp .Add) (rI0 λi j=>.int (i+j)):=zh7 λ_ _ _ _ _ _ _ q=>add_int q
theorem zdl:OpR X (binaryOp .Sub) (rI0 λi j=>.int (i-j)):=zh7 λ_ _ _ _ _ _ _ q=>sub_int q
theorem zdw:OpR X (binaryOp .Mod) (rI (λ_ j=>0<j) λi j=>.int (i % j)):=opI λi j _ _ _ _ _ hc q=>by
 have h1:(0:Int)<j:=hc;exact mod_int' (by omega) (by rw[Int.fmod_eq_emod_of_nonneg i (by omega)];exact q)
theorem zeS:OpR X (binaryOp .Pow) (rI zhu λi j=>.int (i ^ j.toNat)):=opI λ_ _ _ _ _ _ _ hc q=>pow_int_small hc.1 hc.2.1 hc.2.2 q
theorem unI {f:Value->Sem Value} {g:Int->Int} (rule:∀(i:Int) (t:Tok) (s:Shared) (Q:Value->Shared->Prop) (E:Value->Shared->Prop),Q (.int (g i) s.toks) {s with toks:=s.toks+1}->wpAny (model X.prog X.w) X.A (f (.int i t)) Q E s): UnR X f (rU λi=>.int (g i)):=by
 intro pins s O H x v Q I rx h;obtain⟨i,rfl,q⟩:=h;obtain⟨t,rfl⟩:=rx;exact rule i t s _ _ ⟨.int (g i),H,I.tok _,⟨_,rfl⟩,q⟩
theorem zdZ:UnR X (unaryOp .USub) (rU λi=>.int (-i)):=unI λ_ _ _ _ _ q=>neg_int q
end
section
variable {X:Cx}{a b c:Expr}{ta tb tc:TE}{pos:Pos}
theorem zdS{pins:List (Addr×Obj)}{O:St}{H:Hp}{s:Shared}{Q:VK}{k k':Bool}(I:Inv X pins O H s)(q:Q (.bl k) H)(e:k=k'):EP X pins O Q (.bool k') s:=by
 subst e;exact⟨.bl k,H,I,rfl,q⟩
theorem zgt:OpR X (compareOp .Lt) (rI0 λi j=>.bl (decide (i<j))):=zfw λ_ _ _ _ _ _ _ q=>lt_int q
theorem zfy:OpR X (compareOp .LtE) (rI0 λi j=>.bl (decide (i<=j))):=zfw λ_ _ _ _ _ _ _ q=>le_int q
theorem zfX:OpR X (compareOp .Gt) (rI0 λi j=>.bl (decide (j<i))):=zfw λ_ _ _ _ _ _ _ q=>gt_int q
theorem zg5:OpR X (compareOp .GtE) (rI0 λi j=>.bl (decide (j<=i))):=zfw λ_ _ _ _ _ _ _ q=>ge_int q
theorem zde:OpR X (compareOp .Is) (λx y H Q=>y=.non/\Q (.bl (decide (x=.non))) H):=by
 intro pins s O H x y v u Q I rx ry h;obtain⟨rfl,q⟩:=h;cases ry;refine is_none_gen (zdS I q ?_);cases x<;>first
  | (cases rx;rfl) | (obtain⟨t,rfl⟩:=rx;rfl)
theorem OpR.or{f:Value->Value->Sem Value}{r r':R2}(h:OpR X f r)(h':OpR X f r'):OpR X f (λx y H Q=>r x y H Q\/r' x y H Q):=by
 intro pins s O H x y v u Q I rx ry q;rcases q with q | q;·exact h pins s O H x y v u Q I rx ry q
 ·exact h' pins s O H x y v u Q I rx ry q
theorem zbq(b:Expr){op:CmpOp}(h:op≠.In:=by decide)(h2:op≠.NotIn:=by decide):behindInMarks op b=false:=by
 have e1:(op==CmpOp.In)=false:=by cases op<;>first | rfl | exact absurd rfl h
 have e2:(op==CmpOp.NotIn)=false:=by cases op<;>first | rfl | exact absurd rfl h2
 cases b<;>simp[behindInMarks,e1,e2]
theorem zcC{op:CmpOp}{r:R2}(ho:OpR X (compareOp op) r)(ha:PE X a ta)(hb:PE X b tb)(hm:behindInMarks op b=false):PE X (.Compare a [op] [b] pos) (tOp r ta tb):=by
 intro pins s O H Q I h;exact wpAny_Compare1 (zgy ha hb I h λv u s2 x y H2 I2 rx ry q=>ho pins s2 O H2 x y v u Q I2 rx ry q) hm
def zef(t:TE):TT:=λO H Q=>t O H λx H'=>∃k,x=.bl k/\Q k H'
theorem zbU{op:CmpOp}{r:R2}(ho:OpR X (compareOp op) r)(ha:PE X a ta)(hb:PE X b tb)(hm:behindInMarks op b=false):PT X (.Compare a [op] [b] pos) (zef (tOp r ta tb)):=by
 intro pins s O H Q I h;refine wpAny_isTrue_Compare1 (thn (ha pins s O H _ I h) λv s1 ⟨x,H1,I1,r1,q1⟩=>thn (hb pins s1 O H1 _ I1 q1) λu s2 ⟨y,H2,I2,r2,q2⟩=> thn (ho pins s2 O H2 x y v u _ I2 r1 r2 q2) λc s3 ⟨z,H3,I3,r3,k,e,q3⟩=>?_) hm;subst e;cases r3;exact _aP ⟨H3,I3,q3⟩
def zaX(r r':R2)(ta tb tc:TE):TE:=λO H Q=>ta O H λx H1=>tb O H1 λy H2=>r x y H2 λz H3=>∃k,z=.bl k/\ (if k=true then tc O H3 λw' H4=>r' y w' H4 Q else Q (.bl false) H3)
theorem zaa{op op':CmpOp}{r r':R2}(ho:OpR X (compareOp op) r)(ho':OpR X (compareOp op') r')(ha:PE X a ta)(hb:PE X b tb)(hc:PE X c tc) (hm:lastMarks [op,op'] [b,c]=false:=by with_unfolding_all rfl):PE X (.Compare a [op,op'] [b,c] pos) (zaX r r' ta tb tc):=by
 intro pins s O H Q I h;refine Compare_chain (thn (ha pins s O H _ I h) λv s1 ⟨x,H1,I1,r1,q1⟩=>chain_link (thn (hb pins s1 O H1 _ I1 q1) λu s2 ⟨y,H2,I2,r2,q2⟩=> thn (ho pins s2 O H2 x y v u _ I2 r1 r2 q2) λd s3 ⟨z,H3,I3,r3,k,e,q3⟩=>?_)) hm;subst e;cases r3;refine _aP ?_;cases k with
 | false=>exact ite_ff ⟨.bl false,H3,I3,rfl,q3⟩ | true=>exact ite_tt (chain_last (thn (hc pins s3 O H3 _ I3 q3) λw' s4 ⟨z',H4,I4,r4,q4⟩=>ho' pins s4 O H4 y z' u w' Q I4 r2 r4 q4))
def zhh(K:W.Frag)(x:V)(H:Hp)(k:Bool):Prop:= match x with
 | .non=>k=false | .bl b=>k=b | .int i=>k=(i != 0) | .str y=>y.length<=sizeLine/\k=((y.length:Int) != 0) | .byt y=>y.size<=sizeLine/\k=((y.size:Int) != 0) | .ref p=>(∃xs,SqL K H p xs/\k=!xs.isEmpty)\/(∃xs,SqT K H p xs/\k=!xs.isEmpty)\/∃kvs,H p=some (.dK kvs)/\k=!kvs.isEmpty | _=>False
theorem z7c{κ:Type}{kvs:List (κ×V)}{vs:List (κ×Value)}(r:KV kvs vs):(!vs.isEmpty)=!kvs.isEmpty:=by cases r<;>rfl
theorem z1W{xs:List V}{its:List Value}(r:xt xs its):(!its.toArray.isEmpty)=!xs.isEmpty:=by cases r<;>simp
theorem z46:(sizeLine:Nat)<2 ^ 63:=by rw[_b2];decide
theorem ze0:zi7 X (λx H Q=>∃k,zhh X.K x H k/\Q k H):=by
 intro pins s O H x v Q I rx h;obtain⟨k,e,q⟩:=h;have hl:=z46;have hs:sizeLine=16777216:=_b2;cases x with
 | non=>
  cases rx;have e':k=false:=e;subst e';exact truthy_none ⟨H,I,q⟩ | bl b=>
  cases rx;have e':k=b:=e;subst e';exact _aP ⟨H,I,q⟩ | int i=>
  obtain⟨t,rfl⟩:=rx;have e':k=(i != 0):=e;subst e';exact PySem.P.truthy_int ⟨H,I,q⟩ | str y=>
  obtain⟨t,rfl⟩:=rx;obtain⟨hy,e'⟩:y.length<=sizeLine/\k=((y.length:Int) != 0):=e;subst e';exact PySem.P.truthy_str (by omega) ⟨H,I.tok _,q⟩ | byt y=>
  obtain⟨t,rfl⟩:=rx;obtain⟨hy,e'⟩:y.size<=sizeLine/\k=((y.size:Int) != 0):=e;subst e';exact W.truthy_bytes (by omega) ⟨H,I.tok _,q⟩ | ref p=>
  cases rx;have e':(∃xs,SqL X.K H p xs/\k=!xs.isEmpty)\/(∃xs,SqT X.K H p xs/\k=!xs.isEmpty)\/∃kvs,H p=some (.dK kvs)/\k=!kvs.isEmpty:=e;rcases e' with⟨xs,hx,e'⟩ | ⟨xs,hx,e'⟩ | ⟨kvs,hx,e'⟩
  ·subst e';obtain⟨its,r,pl,hz⟩:=I.list hx;have hlen:=r.length;exact wpAny_truthy_list pl.isList (by simp only[_k];omega) ⟨H,I.tok _,by rw[z1W r];exact q⟩
  ·subst e';obtain⟨its,r,pl,hz⟩:=I.tuple hx;have hlen:=r.length;exact truthy_tuple pl (by simp only[_k];omega) ⟨H,I.tok _,by rw[z1W r];exact q⟩
  ·subst e';obtain⟨hz,hS,vs,r,m⟩:kvs.length<=sizeLine/\(p==sysModules)=false/\∃vs,KV kvs vs/\s.heap.DictOf (xq X.prog X.w) p vs:=I.hok p _ hx;have hlen:kvs.length=vs.length:=Paired.length r;exact wpAny_truthy_dict hS m (by omega) ⟨H,I.tok _,by rw[z7c r];exact q⟩ | _=>exact (show False from e).elim
theorem z9P(ha:PE X a ta)(he:∀whole,isTrue a X.env whole=(do let v <- whole;standAt a.pos;holding [v] (truthy v))): PT X a (λO H Q=>ta O H λx H'=>∃k,zhh X.K x H' k/\Q k H'):=by
 intro pins s O H Q I h;exact isTrue_plain (thn (ha pins s O H _ I h) λv s1 ⟨x,H1,I1,r1,q1⟩=>ze0 pins s1 O H1 x v Q I1 r1 q1) (he _)
theorem vals1{x:V}{us:List Value}(r:xt [x] us):∃u,us=[u]/\xL x u:=by cases r with | cons r1 r2=>cases r2;exact⟨_,rfl,r1⟩
theorem vals2{x y:V}{us:List Value}(r:xt [x,y] us):∃u w',us=[u,w']/\xL x u/\xL y w':=by cases r with | cons r1 r2=> cases r2 with | cons r3 r4=>cases r4;exact⟨_,_,rfl,r1,r3⟩
theorem z9J:wA X (.builtin "abs") (λxs H Q=>∃i,xs=[.int i]/\Q (.int (if i<0 then -i else i)) H):=by
 intro pins s O H xs us Q I r h;obtain⟨i,rfl,q⟩:=h;obtain⟨u,rfl,t,rfl⟩:=vals1 r;exact call_abs_int λu tk=>⟨.int (if i<0 then -i else i),H,I.tok _,⟨_,rfl⟩,q⟩
theorem z8y(hc:X.calm=true):wA X (.builtin "max") (λxs H Q=>∃i j,xs=[.int i,.int j]/\Q (.int (if j > i then j else i)) H):=by
 intro pins s O H xs us Q I r h;obtain⟨i,j,rfl,q⟩:=h;obtain⟨u,w',rfl,⟨t,rfl⟩,⟨t',rfl⟩⟩:=vals2 r;refine max_two_ints (I.ok.hd hc) λh' tk k=>⟨_,H,I.kept k,?_,q⟩;by_cases hj:j > i;·rw[_g hj,_g hj];exact⟨_,rfl⟩
 ·rw[_i hj,_i hj];exact⟨_,rfl⟩
theorem z7D(hc:X.calm=true):wA X (.builtin "min") (λxs H Q=>∃i j,xs=[.int i,.int j]/\Q (.int (if j<i then j else i)) H):=by
 intro pins s O H xs us Q I r h;obtain⟨i,j,rfl,q⟩:=h;obtain⟨u,w',rfl,⟨t,rfl⟩,⟨t',rfl⟩⟩:=vals2 r;refine min_two_ints (I.ok.hd hc) λh' tk k=>⟨_,H,I.kept k,?_,q⟩;by_cases hj:j<i;·rw[_g hj,_g hj];exact⟨_,rfl⟩
 ·rw[_i hj,_i hj];exact⟨_,rfl⟩
end
structure zgD(h:Heap)(x dx C:Addr)(mA:Str->Option Value):Prop where
 obj:h.get? x=some (W.instObj C dx)
 ns:h.Ns1 dx mA
 ne:dx≠x
theorem z8W{h:Heap}{dx:Addr}{mA:Str->Option Value}(n:h.Ns1 dx mA):∃od,h.get? dx=some od/\∀name,W.lookIn name od=some (mA name):=by
 obtain⟨o,es,ep,ho,hd,hk,_,hm⟩:=n;refine⟨o,ho,λname=>?_⟩;have e:=hm name;unfold nsFind findBy at e;rw[<- Array.find?_toList]at e;unfold W.lookIn;rw[hd];dsimp only;split
 ·rename_i y q;rw[q]at e;exact _a5 some e
 ·rename_i q;rw[q]at e;have a:es.toList.any (·.refKey)=false:=by
   rw[List.any_eq_false];intro y hy;obtain⟨z,t,hkey⟩:=hk y (Array.mem_toList_iff.mp hy);simp[DictEntry.refKey,hkey]
  have a':¬ es.toList.any (·.refKey)=true:=by rw[a];exact _bA
  rw[_i a'];exact _a5 some e
theorem zgD.look{h:Heap}{x dx C:Addr}{mA:Str->Option Value}(I:zgD h x dx C mA):∃od,W.InstAt h x (W.instObj C dx) C (some od)/\∀name,W.lookIn name od=some (mA name):= let ⟨od,ho,hl⟩:=z8W I.ns;⟨od,⟨I.obj,rfl,rfl,ho⟩,hl⟩
section
variable {P:Program}{w:World}{H H':Hp}{h h':Heap}{a C dx:Addr}{fs fs':List (Str×V)}
theorem zce(hok:HOk P w H h)(e:H a=some (.ins C dx fs)):∃mA,zgD h a dx C mA/\(∀f,zcU (fs.lookup f) (mA f))/\PySem.Within mA (fs.map (·.1))/\fs.length<=1000/\H dx=some (.own a):=by
 obtain⟨d,z,ne,ob,mA,n,r,q⟩:=(show wc P w H h a (.ins C dx fs) from hok a _ e);exact⟨mA,⟨ob,n,ne⟩,r,q,z,d⟩
end
structure Cls(K:W.Frag)(C:Addr):Prop where
 pg:W.plainGet K C Str.empty=true
 hd:W.hasDictIn K C=true
 po:W.plainOver K C=true
 sa:W.findIn K (.ref C) "__setattr__"=some (some (.builtin "object.__setattr__"))
theorem Cls.get{K:W.Frag}{C:Addr}(c:Cls K C)(f:Str):W.plainGet K C f=true:=c.pg
section
variable {X:Cx}{pins:List (Addr×Obj)}{O:St}{H:Hp}{s:Shared}{A:Around}{E:Value->Shared->Prop}{Q:Value->Shared->Prop}{c:Value}{b:Bool}
inductive z6v(K:W.Frag)(H:Hp):V->Value->Prop where | non:z6v K H .non (.type "NoneType") | bl (x:Bool):z6v K H (.bl x) (.type "bool") | int (i:Int):z6v K H (.int i) (.type "int") | str (x:Str):z6v K H (.str x) (.type "str") | flt (x:UInt64):z6v K H (.flt x) (.type "float") | lst {a:Addr}{xs:List V}(e:H a=some (.lst xs)):z6v K H (.ref a) (.type "list") | frz {a:Addr}{o:Obj}{xs:List V}(e:H a=some (.frz o (.lst xs))):z6v K H (.ref a) (.type "list") | tup {a:Addr}{xs:List V}(e:H a=some (.tup xs)):z6v K H (.ref a) (.type "tuple") | dK {a:Addr}{kvs:List (Key×V)}(e:H a=some (.dK kvs)):z6v K H (.ref a) (.type "dict") | dT {a:Addr}{kvs:List (List Key×V)}(e:H a=some (.dT kvs)):z6v K H (.ref a) (.type "dict") | ins {a C dx:Addr}{fs:List (Str×V)}(e:H a=some (.ins C dx fs))(cl:Cls K C)(ha:W.findIn K (.ref C) "__class__"=some (some (.builtin "object.__class__"))) (hn:W.specialIn K (.builtin "object.__class__") "__get__"=some (some (.builtin "getset_descriptor.__get__")))(htk:W.takesIn K (.builtin "object.__class__")=some true) (hm:W.mroIn K C (.type "object")=some true):z6v K H (.ref a) (.ref C)
theorem z8b {x:V} {u t:Value} (I:Inv X pins O H s) (rx:xL x u) (ty:z6v X.K H x t) (e:W.kitOne X.K t c=some b) (h:∀tk,Q (.bool b) {s with toks:=tk}): wpAny (model X.prog X.w) A (call (.builtin "isinstance") [u,c]) Q E s:=by cases ty with
 | non=>cases (show u=Value.none from rx);exact _bF W.kitx_none I.kIn True.intro e (λz=>nomatch z) h | bl y=>cases (show u=Value.bool y from rx);exact _bF W.kitx_bool I.kIn True.intro e (λz=>nomatch z) h | int i=>obtain⟨t,q⟩:=(show ∃t,u=Value.int i t from rx);cases q;exact _bF W.kitx_int I.kIn True.intro e (λz=>nomatch z) h | str y=>obtain⟨t,q⟩:=(show ∃t,u=Value.str y t from rx);cases q;exact _bF W.kitx_str I.kIn True.intro e (λz=>nomatch z) h | flt y=>obtain⟨t,q⟩:=(show ∃t,u=Value.float y t from rx);cases q;exact _bF W.kitx_float I.kIn True.intro e (λz=>nomatch z) h | @lst a xs ea=>
  cases (show u=Value.ref a from rx);obtain⟨_,_,n,_,h1⟩:=(show wc X.prog X.w H s.heap a (.lst xs) from I.hok a _ ea);exact _bF W.kitx_list I.kIn ⟨_,h1,rfl⟩ e (λz=>nomatch z) h | @frz a ob xs ea=>
  cases (show u=Value.ref a from rx);obtain⟨_,_,_,n,_,h1⟩:=(show wc X.prog X.w H s.heap a (.frz ob (.lst xs)) from I.hok a _ ea);exact _bF W.kitx_list I.kIn ⟨_,h1,rfl⟩ e (λz=>nomatch z) h | @tup a xs ea=>
  cases (show u=Value.ref a from rx);obtain⟨_,_,_,p⟩:=(show wc X.prog X.w H s.heap a (.tup xs) from I.hok a _ ea);obtain⟨o,h1,h2,_⟩:=p;exact _bF W.kitx_tuple I.kIn ⟨o,h1,h2⟩ e (λz=>nomatch z) h | @dK a kvs ea=>
  cases (show u=Value.ref a from rx);obtain⟨_,_,vs,_,p⟩:=(show wc X.prog X.w H s.heap a (.dK kvs) from I.hok a _ ea);obtain⟨o,es,ep,h1,h2,_⟩:=p;exact _bF W.kitx_dict I.kIn ⟨o,h1,h2.1⟩ e (λz=>nomatch z) h | @dT a kvs ea=>
  cases (show u=Value.ref a from rx);obtain⟨_,_,xs,_,o,es,ep,h1,h2,_⟩:=(show wc X.prog X.w H s.heap a (.dT kvs) from I.hok a _ ea);exact _bF W.kitx_dict I.kIn ⟨o,h1,h2.1⟩ e (λz=>nomatch z) h | @ins a C dx fs ea cl ha hn htk hm=>
  cases (show u=Value.ref a from rx);obtain⟨mA,Oo,_⟩:=zce I.hok ea;obtain⟨od,J,_⟩:=Oo.look;exact _bF (W.kitx_own (cl.get _) cl.hd ha hn htk hm) I.kIn J e (λz=>nomatch z) h
end
structure z1D(k:Nat)(A:Around):Prop where
 hd:A.handled=none
 dp:A.depth+3*k+5<recursionLimit
 un:A.units+16*k+200<cLine
 gd:A.guards=some []
theorem z1D.mono{j k:Nat}{A:Around}(r:z1D k A)(h:j<=k):z1D j A:=⟨r.hd,by have:=r.dp;omega,by have:=r.un;omega,r.gd⟩
theorem z1D.deeper{k:Nat}{A:Around}(r:z1D (k+1) A)(env:Env):z1D k (A.deeper env):= ⟨r.hd,by have:=r.dp;show A.depth+1+3*k+5<_;omega,by have:=r.un;show A.units+3+16*k+200<_;omega,r.gd⟩
theorem z1D.depth{k:Nat}{A:Around}(r:z1D k A):A.depth<recursionLimit:=by have:=r.dp;omega
theorem z1D.units{k:Nat}{A:Around}(r:z1D k A):A.units+64<cLine:=by have:=r.un;omega
def zfT:TA:=λ_ H Q=>Q [] H
def zdU(ta:TE)(tr:TA):TA:=λO H Q=>ta O H λx H1=>tr O H1 λxs H2=>Q (x::xs) H2
section
variable {X:Cx}{e:Expr}{es:List Expr}{te:TE}{t:TA}{pos:Pos}
theorem uz:PA X [] zfT:=λ_ _ _ _ H Q I h=>_cb ⟨[],H,I,.nil,h⟩
theorem wU(ha:PE X e te)(hr:PA X es t)(hs:starEach (e::es) X.env=(false,eval e X.env)::starEach es X.env:=by rfl):PA X (e::es) (zdU te t):=by
 intro pos pins s O H Q I h;rw[hs];show wpAny _ _ (spliced ((false,eval e X.env)::backTo pos (starEach es X.env))) _ _ s;refine _bd (thn (ha pins s O H _ I h) λu s1 ⟨x,H1,I1,r1,q1⟩=>?_);exact thn (hr pos pins s1 O H1 _ I1 q1) λus s2 ⟨xs,H2,I2,r2,q2⟩=>⟨x::xs,H2,I2,.cons r1 r2,q2⟩
def zhI(t:TA):TE:=λO H Q=>t O H λxs H1=>xs.length<=sizeLine/\∀p,H1 p=none->Q (.ref p) (upd H1 p (.tup xs))
def zfF(t:TA):TE:=λO H Q=>t O H λxs H1=>xs.length<=sizeLine/\∀p,H1 p=none->Q (.ref p) (upd H1 p (.lst xs))
theorem zdE{x1}(h:PA X es t):PE X (.Tuple es x1 pos) (zhI t):=by
 intro pins s O H Q I hq;refine wpAny_Tuple_spliced (thn (h pos pins s O H _ I hq) λus s1 ⟨xs,H1,I1,r,z,q⟩=>⟨by rw[<- r.length];exact z,?_⟩);have hf:H1 s1.heap.objs.size=none:=I1.hok.fresh (_d _);refine⟨.ref s1.heap.objs.size,upd H1 s1.heap.objs.size (.tup xs),I1.laid (t':=s1.toks) (λb u e=>_f _ e) (_d _) ?_,rfl,q _ hf⟩;exact⟨z,us,r,⟨_,_s _ rfl,rfl,rfl,_,rfl⟩⟩
theorem z1t(h:PA X es t):PE X (.List es pos) (zfF t):=by
 intro pins s O H Q I hq;refine wpAny_List_spliced (thn (h pos pins s O H _ I hq) λus s1 ⟨xs,H1,I1,r,z,q⟩=>⟨by rw[<- r.length];exact z,?_⟩);have hf:H1 s1.heap.objs.size=none:=I1.hok.fresh (_d _);refine⟨.ref s1.heap.objs.size,upd H1 s1.heap.objs.size (.lst xs),I1.laid (t':=s1.toks) (λb u e=>_f _ e) (_d _) ?_,rfl,q _ hf⟩;exact⟨z,us,0,r,_s _ rfl⟩
end
abbrev Sp:=List V->Hp->VK->XK->Prop
abbrev CXT:=List Env->Hp->Shared->XK->Value->Shared->Prop
structure zfo(P:Program)(w:World)(K:W.Frag)(mg:Str->Option Value)(base:Heap)(A:Around)(outer:List Env)(s:Shared)(H:Hp):Prop where
 frames:A.frames=some outer
 mod:Mod K mg base
 bs:∀b o,base.get? b=some o->s.heap.get? b=some o/\H b=none
 bsz:base.objs.size<=s.heap.objs.size
 funs:s.heap.FunFrames base outer
 frf:∀b∈frs outer,H b=none
 hok:HOk P w H s.heap
 bare:AllBare s.gens
def CE(outer:List Env)(P:Program)(w:World)(H:Hp)(s:Shared)(Q:VK)(u:Value)(s':Shared):Prop:= ∃v H',s'.os=s.os/\AllBare s'.gens/\Un (frs outer) [] H H' s.heap s'.heap/\HOk P w H' s'.heap/\xL v u/\Q v H'
def CR(CX:CXT)(outer:List Env)(P:Program)(w:World)(H:Hp)(s:Shared)(Q:VK)(E:XK)(r:Result)(s':Shared):Prop:= match r with
 | .ok (.ret u)=>CE outer P w H s Q u s' | .ok _=>False | .error e=>CX outer H s E e s'
structure z3J(P:Program)(w:World)(K:W.Frag)(mg:Str->Option Value)(base:Heap)(CX:CXT)(k:Nat)(f:Addr)(fd:FuncData)(ps:List Str)(sp:Sp):Prop where
 len:∀vs H Q E,sp vs H Q E->vs.length=ps.length
 run:∀(A:Around)(outer:List Env)(s:Shared)(H:Hp)(args:Args)(us:List Value)(vs:List V)(Q:VK)(E:XK),z1D k A->zfo P w K mg base A outer s H->BindsTo s fd args (ps.zip us)->xt vs us->sp vs H Q E-> codeAny (model P w) A (.call (.ref f) args) (CR CX outer P w H s Q E) s
theorem z3J.mono{P:Program}{w:World}{K:W.Frag}{mg:Str->Option Value}{base:Heap}{CX:CXT}{j k:Nat}{f:Addr}{fd:FuncData}{ps:List Str}{sp:Sp}(F:z3J P w K mg base CX j f fd ps sp)(h:j<=k): z3J P w K mg base CX k f fd ps sp:=⟨F.len,λA outer s H args us vs Q E hr=>F.run A outer s H args us vs Q E (hr.mono h)⟩
theorem z3J.imp{P:Program}{w:World}{K:W.Frag}{mg:Str->Option Value}{base:Heap}{CX:CXT}{k:Nat}{f:Addr}{fd:FuncData}{ps:List Str}{sp sp':Sp}(F:z3J P w K mg base CX k f fd ps sp) (h:∀vs H Q E,sp' vs H Q E->sp vs H Q E):z3J P w K mg base CX k f fd ps sp':= ⟨λvs H Q E q=>F.len vs H Q E (h _ _ _ _ q),λA outer s H args us vs Q E hr he hb hv hs=>F.run A outer s H args us vs Q E hr he hb hv (h _ _ _ _ hs)⟩
section
variable {X:Cx}{pins:List (Addr×Obj)}{O:St}{H:Hp}{s s':Shared}
theorem Inv.env0(I:Inv X pins O H s):zfo X.prog X.w X.K X.mg X.base X.A X.stack s H:= ⟨I.ok.frames,I.ok.mod,I.bs,_H I.ok.bsz I.sz,I.stack,I.stkFree,I.hok,I.bare⟩
theorem Inv.after {Q:VK} {u:Value} (I:Inv X pins O H s) (h:CE X.stack X.prog X.w H s Q u s'):EP X pins O Q u s':=by
 obtain⟨v,H',os,bare,un,hok,r,q⟩:=h;obtain⟨hh,g,d,t,os'⟩:=s';obtain rfl:os'=s.os:=os;exact⟨v,H',I.call (h':=hh) (g':=g) (d':=d) (t':=t) (ch:=[]) un hok bare (λb z=>absurd z (by simp)),r,q⟩
end
def zfL(sp:Sp)(dvs:List V)(E:XK)(t:TA):TE:=λO H Q=>t O H λvs H1=>sp (vs++dvs) H1 Q E
def Binds(K:W.Frag)(fd:FuncData)(ps:List Str)(ds:List Value):Prop:= ∀(s:Shared)(us:List Value),K.In s.heap->(us++ds).length=ps.length->BindsTo s fd ⟨us,[]⟩ (ps.zip (us++ds))
theorem Binds.all{K:W.Frag}{fd:FuncData}{ps:List Str}(h:∀us:List Value,us.length=ps.length->bindArgs fd ⟨us,[]⟩=pure (ps.zip us)):Binds K fd ps []:=λs us _ hl=>by
 rw[_cz]at hl ⊢;exact .of_eq (h us hl)
def Passes(CX:CXT)(X:Cx)(E:XK):Prop:=∀(pins:List (Addr×Obj))(O:St)(H:Hp)(s:Shared)(e:Value)(s':Shared),Inv X pins O H s->CX X.stack H s E e s'->X.xe e s'
section
variable {X:Cx}{CX:CXT}{k:Nat}{f C:Addr}{fd:FuncData}{ps:List Str}{sp:Sp}{dvs:List V}{ds:List Value}{E:XK}{x m:Str}{p pos apos:Pos}{e o:Expr}{es:List Expr}{ta:TE}{t:TA}
theorem zbw{pins:List (Addr×Obj)}{O:St}{H:Hp}{s:Shared}{Q:VK}{us:List Value}{vs:List V}(F:z3J X.prog X.w X.K X.mg X.base CX k f fd ps sp)(hr:z1D k X.A)(hb:Binds X.K fd ps ds)(hd:xt dvs ds)(hx:Passes CX X E) (I:Inv X pins O H s)(r:xt vs us)(h:sp (vs++dvs) H Q E):wpAny (model X.prog X.w) X.A (call (.ref f) us) (EP X pins O Q) X.xe s:=by
 have r2:xt (vs++dvs) (us++ds):=r.append hd;have hl:(us++ds).length=ps.length:=by rw[<- r2.length];exact F.len _ _ _ _ h
 refine wpAny_call (_bS (F.run X.A X.stack s H ⟨us,[]⟩ (us++ds) (vs++dvs) Q E hr I.env0 (hb s us I.kIn hl) r2 h) λr s' hq=>?_);cases r with
 | error e=>exact hx pins O H s e s' I hq | ok fl=> cases fl with
  | ret u=>exact I.after hq | next=>exact False.elim hq | brk=>exact False.elim hq | cont=>exact False.elim hq
theorem zbR (F:z3J X.prog X.w X.K X.mg X.base CX k f fd ps sp) (hr:z1D k X.A) (hg:Gl X x) (hm:X.mg x=some (.ref f)) (hk:W.keepIn X.K (.ref f)=true) (hb:Binds X.K fd ps ds) (hd:xt dvs ds) (hx:Passes CX X E) (ha:PA X (e::es) t) (hdb:(x==("__debug__":Str))=false:=by decide) (he:starEach (e::es) X.env=(false,eval e X.env)::starEach es X.env:=by rfl) (hpl:(backTo pos (starEach es X.env)).any (·.1)=false:=by rfl): PE X (.Call (.Name x p) (e::es) [] pos) (zfL sp dvs E t):=by
 intro pins s O H Q I h;refine _be (z9k I hg hm ?_ hdb);refine W.callWith_K (h₀:=X.base) I.ok.mod.kin hk (thn (ha pos pins s O H _ I h) λus s1 ⟨vs,H1,I1,r,q⟩=>⟨I1.kIn,?_⟩) he hpl;exact zbw F hr hb hd hx I1 r q
end
structure zN(N P:List Str)(sc:Scope):Prop where
 kind:sc.kind=.function
 co:sc.isCoroutine=false
 gen:sc.isGenerator=false
 nd:N.Nodup
 pre:N.take P.length=P
 par:∀x∈P,sc.names.lookup x=some .local\/sc.names.lookup x=some .cell
 nofree:∀y∈sc.names,y.2≠.free
theorem z4i{kindOf:Str->Option NameKind}{x:Str}:∀{binds:List (Str×Value)}{m:Str->Option Value},(∀v,(x,v)∉binds)->bindL kindOf binds m x=m x
 | [],_,_=>rfl | (n,v)::r,m,h=>by
  unfold bindL;rw[z4i λw hw=>h w (_F _ hw)];split
  ·have:x≠n:=by rintro rfl;exact h v _T
   simp[this]
  ·rfl
theorem z4N{kindOf:Str->Option NameKind}{x:Str}:∀{binds:List (Str×Value)}{m:Str->Option Value},(∀v,(x,v)∉binds)->bindC kindOf binds m x=m x
 | [],_,_=>rfl | (n,v)::r,m,h=>by
  unfold bindC;rw[z4N λw hw=>h w (_F _ hw)];split;·rfl
  ·have:x≠n:=by rintro rfl;exact h v _T
   simp[this]
theorem z3Y{kindOf:Str->Option NameKind}{x:Str}{v:Value}:∀{P:List Str}{vs:List Value}{i:Nat}{m:Str->Option Value},P.Nodup->P[i]? = some x->vs[i]? = some v->kindOf x=some .local-> bindL kindOf (P.zip vs) m x=some v
 | [],_,_,_,_,h,_,_=>by simp at h | _::_,[],_,_,_,_,h,_=>by simp at h | p::P,w::vs,0,m,nd,h1,h2,hk=>by
  simp at h1 h2;subst h1;subst h2;show bindL kindOf ((p,w)::P.zip vs) m p=_;unfold bindL;rw[z4i λv hv=>(_aR.mp nd).1 (_bY hv).1,_g hk];simp | p::P,w::vs,i+1,m,nd,h1,h2,hk=>by
  show bindL kindOf ((p,w)::P.zip vs) m x=_;unfold bindL;exact z3Y (i:=i) (_aR.mp nd).2 (by simpa using h1) (by simpa using h2) hk
theorem z4L{kindOf:Str->Option NameKind}{x:Str}{v:Value}:∀{P:List Str}{vs:List Value}{i:Nat}{m:Str->Option Value},P.Nodup->P[i]? = some x->vs[i]? = some v->kindOf x≠some .local-> bindC kindOf (P.zip vs) m x=some v
 | [],_,_,_,_,h,_,_=>by simp at h | _::_,[],_,_,_,_,h,_=>by simp at h | p::P,w::vs,0,m,nd,h1,h2,hk=>by
  simp at h1 h2;subst h1;subst h2;show bindC kindOf ((p,w)::P.zip vs) m p=_;unfold bindC;rw[z4N λv hv=>(_aR.mp nd).1 (_bY hv).1,_i hk];simp | p::P,w::vs,i+1,m,nd,h1,h2,hk=>by
  show bindC kindOf ((p,w)::P.zip vs) m x=_;unfold bindC;exact z4L (i:=i) (_aR.mp nd).2 (by simpa using h1) (by simpa using h2) hk
noncomputable def start(N:List Str)(vs:List V):St:=vs.map some++List.replicate (N.length-vs.length) none
noncomputable def z9v(CX:CXT)(P:Program)(w:World)(K:W.Frag)(mg:Str->Option Value)(base:Heap)(N:List Str)(qual:Str)(scope:Scope)(f:Addr)(cd:Value)(A:Around)(outer:List Env)(s:Shared)(H:Hp)(E:XK):Cx where
 prog:=P;w:=w;K:=K;mg:=mg;base:=base;A:=A.deeper (envOfC qual scope s.heap.objs.size f cd);N:=N;s₀:=s;H₀:=H;env:=envOfC qual scope s.heap.objs.size f cd;outer:=outer;stack:=envOfC qual scope s.heap.objs.size f cd::outer;ex:=[];calm:=A.handled.isNone;fn:=λ_=>true;pn:=[];xe:=λe s'=>wpAny (model P w) (A.deeper (envOfC qual scope s.heap.objs.size f cd)) (leaving (envOfC qual scope s.heap.objs.size f cd) e) (λ_ s''=>CX outer H s E e s'') (λe' s''=>CX outer H s E e' s'') s'
theorem z0m{sc:Scope}{n:Nat}{x:Str}(h:sc.names.lookup x=some .cell):∃c,(cellsFrom n sc.names []).lookup x=some c:=by
 have q:=W.cellsFrom_some sc.names n [] (.inl h);exact Option.isSome_iff_exists.mp q
theorem z8r{CX:CXT}{P:Program}{w:World}{K:W.Frag}{mg:Str->Option Value}{base:Heap}{N ps:List Str}{qual:Str}{scope:Scope}{f:Addr}{cd:Value}{A:Around}{outer:List Env}{s s1:Shared}{H:Hp}{E:XK}{us:List Value}{vs:List V} (S:zN N ps scope)(e0:zfo P w K mg base A outer s H)(hl:vs.length=ps.length)(r:xt vs us) (x:InCallC s s.heap.objs.size (bindL (envOfC qual scope s.heap.objs.size f cd).kindOf (ps.zip us) λ_=>none) (cellsFrom (s.heap.objs.size+1) scope.names []) (bindC (envOfC qual scope s.heap.objs.size f cd).kindOf (ps.zip us) λ_=>none) s1): Inv (z9v CX P w K mg base N qual scope f cd A outer s H E) [] (start N vs) H s1:=by
 have hpl:ps.length<=N.length:=by have:=_a5 List.length S.pre;rw[_Z]at this;omega
 obtain⟨h1,tk,rfl,hk⟩:=x.done;have noA:∀b:Addr,b∉(z9v CX P w K mg base N qual scope f cd A outer s H E).ex:=λb z=>absurd (show b∈([]:List Addr) from z) (by simp);refine⟨⟨e0.mod,S.kind,rfl,rfl,_d _,λy z c h1 h2=>?_,λy hy=>?_,λy c _ h=>?_,λh=>Option.isNone_iff_eq_none.mp h,Around.frames_deeper e0.frames,.inr ⟨rfl,rfl⟩,λb z=>absurd z (noA b),e0.bs,e0.bsz,λb _ _=>noA b,λb z=>absurd z (noA b),e0.funs,e0.frf⟩, rfl,e0.bare,Un.kept hk,⟨_,x.toInCall.ns,λi y v h1 h2 h3=>?_⟩,λy c h=>⟨_,x.cell y c h⟩,e0.hok.fresh (_d _),λy c h=>?_,λp hp=>absurd (show p∈([]:List (Addr×Obj)) from hp) (by simp),e0.hok.kept hk,?_⟩;·exact name_of_addr x.apart (_al h1) (_al h2)
 ·have hy:scope.names.lookup y=some .cell\/scope.names.lookup y=some .free:=hy;rcases hy with hy | hy;·exact z0m hy
  ·exact absurd rfl (S.nofree _ (_al hy))
 ·exact _ar (x.above y c (_al h))
 ·have hi:i<vs.length:=by
   unfold start at h2;by_cases hi:i<vs.length;·exact hi
   ·rw[_v (by simpa using hi)]at h2;rw[List.getElem?_replicate]at h2;split at h2<;>cases h2
  have ha:vs[i]? = some v:=by
   unfold start at h2;rw[_B (by simpa using hi),_O]at h2;cases e:vs[i]? with
   | none=>rw[e]at h2;cases h2 | some a=>rw[e]at h2;cases h2;rfl
  obtain⟨u,hu,rv⟩:=r.get ha;have hp:ps[i]? = some y:=by rw[<- S.pre,_aj (by omega)];exact h1
  have ndP:ps.Nodup:=by rw[<- S.pre];exact S.nd.sublist (_c3 _ _)
  refine⟨u,rv,?_⟩;rcases S.par y (_c hp) with k | k;·exact .inl ⟨k,z3Y ndP hp hu k⟩
  ·obtain⟨c,e⟩:=z0m (n:=s.heap.objs.size+1) k;refine .inr ⟨.inl k,c,e,?_⟩;have q:=x.cell y c e;rw[z4L ndP hp hu (by show scope.names.lookup y≠_;rw[k];decide)]at q;exact q
 ·exact e0.hok.fresh (_ar (x.above y c (_al h)))
 ·unfold start;show _=N.length;rw[_q,_m,_co];omega
theorem zfA {CX:CXT} {P:Program} {w:World} {K:W.Frag} {mg:Str->Option Value} {base:Heap} {k:Nat} {f:Addr} {name qual:Str} {params:Arguments} {body:List Stmt} {scope:Scope} {dV kV doc pm cdv ct oc:Value} {an od:Option Addr} {osl:Array (Option Value)} {N ps:List Str} {sp:Sp} (lk:K.lookup f=some ⟨oc,od,.func (W.fnOf name qual params body scope dV kV doc pm an cdv ct),osl⟩) (hcd:W.codeIn K cdv qual=true) (S:zN N ps scope) (len:∀vs H Q E,sp vs H Q E->vs.length=ps.length) (hbody:∀(A:Around) (outer:List Env) (s:Shared) (H:Hp) (vs:List V) (Q:VK) (E:XK),z1D k (A.deeper (envOfC qual scope s.heap.objs.size f cdv))->sp vs H Q E-> ∃t,PSs (z9v CX P w K mg base N qual scope f cdv A outer s H E) body t/\t {nx:=λ_ H'=>Q .non H',rt:=Q} (start N vs) H): z3J P w K mg base CX (k+1) f (W.fnOf name qual params body scope dV kV doc pm an cdv ct) ps sp:=by
 refine⟨len,λA outer s H args us vs Q E hr e0 hb r hsp=>?_⟩;have hl:=len _ _ _ _ hsp;have KX:K.In s.heap:=e0.mod.kin.keeps λb o e=>(e0.bs b o e).1;have lim:s.heap.NoLimit:=e0.mod.nolimit.keeps λb o e=>(e0.bs b o e).1;have hkind:∀y∈ps.zip us,scope.names.lookup y.1=some .local\/(scope.names.lookup y.1=some .cell/\((cellsFrom (s.heap.objs.size+1) scope.names []).lookup y.1).isSome=true):=λ⟨n,v⟩ hy=>by
  rcases S.par n (_bY hy).1 with q | q;·exact .inl q
  ·exact .inr ⟨q,W.cellsFrom_some _ _ _ (.inl q)⟩
 refine codeAny_call_function hr.depth (KX _ _ lk) rfl S.co S.gen rfl (W.codeRec_of KX hcd) (hb _ _ _ _ ?_);refine wpAny_newFunctionEnv_cells S.kind hkind λenv he s1 x=>?_;subst he;refine⟨lim.keeps x.toInCall.keep,codeAny_func ?_⟩;obtain⟨t,ht,hq⟩:=hbody A outer s H vs Q E (hr.deeper _) hsp;have I:Inv (z9v CX P w K mg base N qual scope f cdv A outer s H E) [] (start N vs) H s1:=z8r S e0 hl r x;refine _E (ht [] s1 (start N vs) H _ I hq) (λfl s' hs=>?_) λe s' hs=>hs;have fin:∀{O':St} {H':Hp} {v:V} {u:Value},Inv (z9v CX P w K mg base N qual scope f cdv A outer s H E) [] O' H' s'->xL v u->Q v H'->CE outer P w H s Q u s':= λ{O' H' v u} J rv q=>⟨v,H',J.os,J.bare,J.base,J.hok,rv,q⟩;cases fl with
 | ret u=>
  obtain⟨v,O',H',J,rv,q⟩:=hs;exact fin J rv q | next=>
  obtain⟨O',H',J,q⟩:=hs;exact fin (v:=V.non) (u:=Value.none) J rfl q | brk=>
  obtain⟨_,_,_,q⟩:=hs;exact False.elim q | cont=>
  obtain⟨_,_,_,q⟩:=hs;exact False.elim q
section
variable {X:Cx}{x:Str}{p pos:Pos}{e:Expr}{es:List Expr}{t:TA}{id T:String}{r:List V->Hp->VK->Prop}
def tCB(r:List V->Hp->VK->Prop)(t:TA):TE:=λO H Q=>t O H λvs H1=>r vs H1 Q
theorem z3y (hc:wA X (.builtin id) r) (hg:Gl X x) (hm:X.mg x=none) (hv:bootBuiltins x=some (.builtin id)) (ha:PA X (e::es) t) (hn:x≠"__name__":=by decide) (hdb:(x==("__debug__":Str))=false:=by decide) (he:starEach (e::es) X.env=(false,eval e X.env)::starEach es X.env:=by rfl) (hpl:(backTo pos (starEach es X.env)).any (·.1)=false:=by rfl):PE X (.Call (.Name x p) (e::es) [] pos) (tCB r t):=by
 intro pins s O H Q I h;refine _be (kS I hg hm hv ?_ hn hdb);exact PyProof.Rows.callWith_builtin1 (thn (ha pos pins s O H _ I h) λus s1 ⟨vs,H1,I1,r1,q1⟩=>hc pins s1 O H1 vs us Q I1 r1 q1) he hpl
theorem z4v (hc:wA X (.type T) r) (hg:Gl X x) (hm:X.mg x=none) (hv:bootBuiltins x=some (.type T)) (ha:PA X (e::es) t) (hn:x≠"__name__":=by decide) (hdb:(x==("__debug__":Str))=false:=by decide) (he:starEach (e::es) X.env=(false,eval e X.env)::starEach es X.env:=by rfl) (hpl:(backTo pos (starEach es X.env)).any (·.1)=false:=by rfl):PE X (.Call (.Name x p) (e::es) [] pos) (tCB r t):=by
 intro pins s O H Q I h;refine _be (kS I hg hm hv ?_ hn hdb);exact _as (thn (ha pos pins s O H _ I h) λus s1 ⟨vs,H1,I1,r1,q1⟩=>hc pins s1 O H1 vs us Q I1 r1 q1) he hpl
end
end L2
namespace HT
section
open PySem.SeqAt
open PySem.AutoSeq1 (wpAny_loadPart')
open PySem.MeetsSeq PySem.MeetsSeq2 PySem.MeetsSeq3
end
section
variable {prog:Program}{w:World}{A:Around}{E:Value->Shared->Prop}{s:Shared}
theorem zcq {t b:Addr} {vs ws:List Value} {Q:Value->Shared->Prop} (ht:IsTup s.heap t vs.toArray) (hb:IsTup s.heap b ws.toArray) (hv:vs≠[]) (h1:ws=[]->Q (.ref t) s) (h2:ws≠[]->Q (.ref s.heap.objs.size) {s with heap:=s.heap.push {cls:=.type "tuple",data:=.seq (vs++ws).toArray}}) (hsz:vs.length+ws.length<=sizeLine):wpAny (model prog w) A (binaryOp .Add (.ref t) (.ref b)) Q E s:=by
 obtain⟨⟨cls,dd,data,sl⟩,ho,hc,n,hd⟩:=id ht;obtain⟨⟨cls2,dd2,data2,sl2⟩,ho2,hc2,n2,hd2⟩:=id hb;simp only at hc hd hc2 hd2;subst hc hd hc2 hd2;have e:vs.toArray++ws.toArray=(vs++ws).toArray:=by simp
 by_cases hw:ws=[]
 ·exact concat_meets ⟨_,ho,rfl⟩ ⟨_,ho2,rfl⟩ _dj seq_tuple_add _cc _b3 (_bW _ _) (tuple_addW1 t b vs.toArray ws.toArray n n2 dd dd2 sl sl2 (by simpa using hv) (by simp[hw])) ⟨ho,ho2,h1 hw⟩
 ·refine concat_meets ⟨_,ho,rfl⟩ ⟨_,ho2,rfl⟩ _dj seq_tuple_add _cc _b3 (_bW _ _) (tuple_addW2 t b vs.toArray ws.toArray n n2 dd dd2 sl sl2 (by simpa using hv) (by simpa using hw) (by rw[_k,_k];exact hsz)) ⟨ho,ho2,?_⟩;rw[e];exact h2 hw
noncomputable def sIx(n d:Nat):Option Int->Nat
 | none=>d | some v=>if v<0 then (v+(n:Int)).toNat else min v.toNat n
theorem z5T(n d:Nat):sIx n d none=d:=rfl
theorem z8l(n d k:Nat):sIx n d (some (k:Int))=min k n:=by
 show (if (k:Int)<0 then ((k:Int)+(n:Int)).toNat else min (k:Int).toNat n)=min k n;rw[_i (by omega),_bq]
theorem zed(n d:Nat)(hd:d<=n)(o:Option Int):sIx n d o<=n:=by cases o with
 | none=>exact hd | some v=>
  show (if v<0 then (v+(n:Int)).toNat else min v.toNat n)<=n;by_cases hv:v<0;·rw[_g hv];omega
  ·rw[_i hv];exact Nat.min_le_right _ _
theorem z7J(v:Int)(n d:Nat):(if v<0 then max (v+(n:Int)) 0 else min v (n:Int))=((sIx n d (some v):Nat):Int):=by
 show (if v<0 then max (v+(n:Int)) 0 else min v (n:Int))=(((if v<0 then (v+(n:Int)).toNat else min v.toNat n):Nat):Int);by_cases hv:v<0;·simp only[_g hv];omega
 ·simp only[_i hv];omega
theorem z6N(lo hi:Option Int)(n:Nat):Builtin.Slice.sliceAdjust lo hi 1 (n:Int)=(((sIx n 0 lo:Nat):Int),(sIx n n hi:Int)):=by
 have h1:¬ ((1:Int)<0):=by omega
 unfold Builtin.Slice.sliceAdjust;simp only[h1,_ag];refine Prod.ext ?_ ?_;·cases lo with
  | none=>rfl | some v=>exact z7J v n 0
 ·cases hi with
  | none=>rfl | some v=>exact z7J v n n
theorem z75 (i j:Nat):Builtin.Slice.slicePlaces (i:Int) (j:Int) 1=j-i:=by
 unfold Builtin.Slice.slicePlaces;have h1:(1:Int) > 0:=by omega
 simp only[h1,_P,Int.ediv_one];split<;>omega
theorem z2g{v:Value}{o:Option Int}{Q:Option Int->Shared->Prop}(p:IsPart v o)(h:Q o s):wpAny (model prog w) A (Builtin.Slice.slicePartIndex v) Q E s:=by cases p with
 | none=>exact slicePart_none h | int i t=>exact slicePart_int h
theorem uZ{sl:Addr}{vl vu:Value}{lo hi:Option Int}{n:Nat}{Q:Int×Int×Nat->Shared->Prop}(hs:s.heap.IsSliceOf sl vl vu .none)(pl:IsPart vl lo)(pu:IsPart vu hi) (h:Q (((sIx n 0 lo:Nat):Int),1,sIx n n hi-sIx n 0 lo) s):wpAny (model prog w) A (Builtin.Slice.sliceApplied (.ref sl) (pure (n:Int))) Q E s:=by
 obtain⟨os,hos,hcs,hds⟩:=id hs;unfold Builtin.Slice.sliceApplied Builtin.Slice.sliceFields;refine _a (_a (_aC hos hds (x:=vl) rfl (_a (_aC hos hds (x:=vu) rfl (_a (_aC hos hds (x:=.none) rfl (_e ?_)))))));refine _a (slicePart_none ?_);show wpAny _ _ (if ((1:Int)==0)=true then _ else _) _ _ s;rw[_i (by decide)];refine _a (z2g pl (_a (z2g pu (_a (_e ?_)))));show wpAny _ _ (match Builtin.Slice.sliceAdjust lo hi 1 (n:Int) with | (lo,hi)=>pure (lo,(1:Int),Builtin.Slice.slicePlaces lo hi 1)) _ _ s;rw[z6N lo hi n];show wpAny _ _ (pure (((sIx n 0 lo:Nat):Int),(1:Int),Builtin.Slice.slicePlaces ((sIx n 0 lo:Nat):Int) (sIx n n hi:Int) 1)) _ _ s;rw[z75];exact _e h
theorem za7(xs:Array Value)(i k:Nat):((List.range k).filterMap λ(m:Nat)=>xs[((i:Int)+(m:Int)*1).toNat]?).toArray=((xs.toList.drop i).take k).toArray:=by
 have e:(λ(m:Nat)=>xs[((i:Int)+(m:Int)*1).toNat]?)=λm=>xs[i+m]? := by
  funext m;have:((i:Int)+(m:Int)*1).toNat=i+m:=by omega
  rw[this]
 rw[e];have:=pick_run xs i k;rw[List.filterMap_map]at this;have e2:((λx=>xs[x]?) ∘ λx=>i+x)=λm=>xs[i+m]? := rfl;rw[e2]at this;rw[this]
theorem kq {t sl:Addr} {items:Array Value} {vl vu:Value} {lo hi:Option Int} {Q:Value->Shared->Prop} (ht:IsTup s.heap t items) (hs:s.heap.IsSliceOf sl vl vu .none) (pl:IsPart vl lo) (pu:IsPart vu hi) (hw:¬ (sIx items.size 0 lo=0/\sIx items.size items.size hi=items.size)) (h:Q (.ref s.heap.objs.size) {s with heap:=s.heap.push {cls:=.type "tuple",data:=.seq ((items.toList.drop (sIx items.size 0 lo)).take (sIx items.size items.size hi-sIx items.size 0 lo)).toArray}}) (hsz:items.size<=sizeLine):wpAny (model prog w) A (getItem (.ref t) (.ref sl)) Q E s:=by
 have htake:sizeOk (.seq ((items.toList.drop (sIx items.size 0 lo)).take (sIx items.size items.size hi-sIx items.size 0 lo)).toArray):=by
  show ((items.toList.drop (sIx items.size 0 lo)).take (sIx items.size items.size hi-sIx items.size 0 lo)).toArray.size<=sizeLine;rw[_k,_Z,_bT,_X];omega
 have hj:sIx items.size items.size hi<=items.size:=zed _ _ (_d _) hi;obtain⟨os,hos,hcs,hds⟩:=id hs;have hTs:s.TypeIs (.ref sl) "slice":=⟨os,hos,hcs⟩;unfold getItem;try with_reducible refine _az ?_
 first | refine _a (_e ?_) | skip
 refine _a (wpAny_sequenceKey ht.typeIs (by decide) ?_);refine _a (_av (name:=Str.ofString "__getitem__") ht.typeIs _ak (_ao _ak ht.typeIs entry_tuple_getitem ?_ (args_tuple_getitem _ _)));show wpAny _ _ (Builtin.Tuple.tupleItemsOf (.ref t) >>= _) _ _ s;refine _a (tupleItemsOf_ ht ?_);refine _a (_cO hTs ?_);rw[_g (by decide)];refine _a (uZ hs pl pu ?_);have hno:¬ ((((sIx items.size 0 lo:Nat):Int)==0&&(1:Int)==1&&(sIx items.size items.size hi-sIx items.size 0 lo)==items.size)=true):=by
  intro q;rw[_u,_u]at q;have q1:((sIx items.size 0 lo:Nat):Int)=0:=eq_of_beq q.1.1;have q2:sIx items.size items.size hi-sIx items.size 0 lo=items.size:=eq_of_beq q.2;exact hw ⟨by omega,by omega⟩
 show wpAny _ _ (if (((sIx items.size 0 lo:Nat):Int)==0&&(1:Int)==1&&(sIx items.size items.size hi-sIx items.size 0 lo)==items.size)=true then _ else _) _ _ s;rw[_i hno,za7];first
  | exact _a (m:=Builtin.Tuple.tupleExact _) (_ac (_e ⟨_,rfl,_e h⟩) htake) | exact _a (m:=Builtin.Tuple.tupleExact _) (_ac (_a (_e (_e ⟨_,rfl,_e h⟩))) htake) | exact _a (_a (m:=Builtin.Tuple.tupleExact _) (_ac (_e (_e ⟨_,rfl,_e h⟩)) htake)) | exact _a (_a (m:=Builtin.Tuple.tupleExact _) (_ac (_e ⟨_,rfl,_e h⟩) htake))
end
end HT
namespace L2
abbrev TO:=St->Hp->(Option Int->Hp->Prop)->Prop
def PO(X:Cx)(e:Option Expr)(t:TO):Prop:= ∀(pins:List (Addr×Obj))(s:Shared)(O:St)(H:Hp)(Q:Option Int->Hp->Prop),Inv X pins O H s->t O H Q-> wpAny (model X.prog X.w) X.A (evalPart e X.env) (λu s'=>∃o H',Inv X pins O H' s'/\IsPart u o/\Q o H') X.xe s
def zcH:TO:=λ_ H Q=>Q none H
def zfM(t:TE):TO:=λO H Q=>t O H λx H1=>∃i,x=.int i/\Q (some i) H1
section
variable {X:Cx}{e:Expr}{te:TE}{lo hi:Option Expr}{tl th:TO}{pos p2:Pos}
theorem zbX:PO X none zcH:=by
 intro pins s O H Q I h;rw[evalPart_none];exact _e ⟨none,H,I,.none,h⟩
theorem zcp(h:PE X e te):PO X (some e) (zfM te):=by
 intro pins s O H Q I hw;rw[evalPart_some];refine thn (h pins s O H _ I hw) λu s1 ⟨x,H1,I1,r1,q1⟩=>?_;obtain⟨i,rfl,q⟩:=q1;obtain⟨t,rfl⟩:=r1;exact⟨some i,H1,I1,.int i t,q⟩
def SlR(X:Cx)(r:V->Option Int->Option Int->Hp->VK->Prop):Prop:= ∀(pins:List (Addr×Obj))(s:Shared)(O:St)(H:Hp)(x:V)(v vl vu:Value)(lo hi:Option Int)(sl:Addr)(Q:VK),Inv X pins O H s->xL x v->s.heap.IsSliceOf sl vl vu .none->IsPart vl lo->IsPart vu hi->r x lo hi H Q-> ∃T id,typeLookup (.type T) "__getitem__"=pure (some (.builtin id))/\s.TypeIs v T/\wpAny (model X.prog X.w) X.A (getItem v (.ref sl)) (EP X pins O Q) X.xe s
theorem SlR.or{r r':V->Option Int->Option Int->Hp->VK->Prop}(h:SlR X r)(h':SlR X r'):SlR X (λx lo hi H Q=>r x lo hi H Q\/r' x lo hi H Q):=by
 intro pins s O H x v vl vu lo hi sl Q I rx hs pl pu q;rcases q with q | q;·exact h pins s O H x v vl vu lo hi sl Q I rx hs pl pu q
 ·exact h' pins s O H x v vl vu lo hi sl Q I rx hs pl pu q
def tSl(r:V->Option Int->Option Int->Hp->VK->Prop)(te:TE)(tl th:TO):TE:=λO H Q=>te O H λx H1=>tl O H1 λl H2=>th O H2 λu H3=>r x l u H3 Q
theorem z9W{r:V->Option Int->Option Int->Hp->VK->Prop}(hr:SlR X r)(he:PE X e te)(hl:PO X lo tl)(hu:PO X hi th):PE X (.Subscript e (.Slice lo hi none p2) pos) (tSl r te tl th):=by
 intro pins s O H Q I h;refine Subscript_ (thn (he pins s O H _ I h) λv s1 ⟨x,H1,I1,r1,q1⟩=>?_);refine wpAny_Slice (thn (hl pins s1 O H1 _ I1 q1) λvl s2 ⟨l,H2,I2,pl,q2⟩=>thn (hu pins s2 O H2 _ I2 q2) λvu s3 ⟨u,H3,I3,pu,q3⟩=>?_);rw[evalPart_none];refine _e ?_;have I4:Inv X pins O H3 {s3 with heap:=s3.heap.push {cls:=.type "slice",data:=.fields #[vl,vu,.none]}}:=I3.kept (t':=s3.toks) λb ob q=>_f _ q;obtain⟨T,id,hT,ht,hg⟩:=hr pins {s3 with heap:=s3.heap.push {cls:=.type "slice",data:=.fields #[vl,vu,.none]}} O H3 x v vl vu l u s3.heap.objs.size Q I4 r1 (Heap.IsSliceOf.new ..) pl pu q3;show wpAny (model X.prog X.w) X.A (subscriptTail e (.Slice lo hi none p2) v (.ref s3.heap.objs.size)) (EP X pins O Q) X.xe {s3 with heap:=s3.heap.push {cls:=.type "slice",data:=.fields #[vl,vu,.none]}};exact tail_any (ops:=[.ref s3.heap.objs.size,v]) ht hT hg (by with_unfolding_all rfl)
noncomputable def zaW(xs:List V)(lo hi:Option Int):List V:=(xs.drop (HT.sIx xs.length 0 lo)).take (HT.sIx xs.length xs.length hi-HT.sIx xs.length 0 lo)
theorem z0J(xs:List V)(lo hi:Option Int):(zaW xs lo hi).length<=xs.length:=by
 unfold zaW;rw[_Z,_bT];omega
def zhW(K:W.Frag):V->Option Int->Option Int->Hp->VK->Prop:=λx lo hi H Q=>∃a xs,x=.ref a/\SqT K H a xs/\ ¬ (HT.sIx xs.length 0 lo=0/\HT.sIx xs.length xs.length hi=xs.length)/\∀p,H p=none->Q (.ref p) (upd H p (.tup (zaW xs lo hi)))
theorem ze3:SlR X (zhW X.K):=by
 intro pins s O H x v vl vu lo hi sl Q I rx hs pl pu h;obtain⟨a,xs,rfl,hx,hw,q⟩:=h;cases rx;obtain⟨its,r,ht,hz⟩:=I.tuple hx;have hlen:its.toArray.size=xs.length:=by rw[_k];exact r.length.symm
 refine⟨"tuple",_,_ak.lookup,ht.typeIs,?_⟩;refine HT.kq ht hs pl pu (by rw[hlen];exact hw) ?_ (by rw[hlen];exact hz);rw[hlen];refine⟨.ref s.heap.objs.size,_,I.laid (t':=s.toks) (o:=.tup (zaW xs lo hi)) (λb ob q=>_f _ q) (_d _) ?_,rfl,q _ (I.hok.fresh (_d _))⟩;exact⟨_H (z0J xs lo hi) hz,_,(r.drop (HT.sIx xs.length 0 lo)).take (HT.sIx xs.length xs.length hi-HT.sIx xs.length 0 lo),z9s.new _ _⟩
def zfO(K:W.Frag):R2:=λx y H Q=>∃a b xs ys,x=.ref a/\y=.ref b/\SqT K H a xs/\SqT K H b ys/\xs≠[]/\xs.length+ys.length<=sizeLine/\ (ys=[]->Q (.ref a) H)/\(ys≠[]->∀p,H p=none->Q (.ref p) (upd H p (.tup (xs++ys))))
theorem xt.nil_iff{xs:List V}{us:List Value}(r:xt xs us):us=[] ↔ xs=[]:=by cases r with
 | nil=>simp | cons _ _=>simp
theorem zbT:OpR X (binaryOp .Add) (zfO X.K):=by
 intro pins s O H x y v u Q I rx ry h;obtain⟨a,b,xs,ys,rfl,rfl,ha,hb,hx,hz,q1,q2⟩:=h;cases rx;cases ry;obtain⟨its,r1,p1,_⟩:=I.tuple ha;obtain⟨its2,r2,p2,_⟩:=I.tuple hb;refine HT.zcq p1 p2 (λz=>hx (r1.nil_iff.mp z)) (λz=>⟨.ref a,H,I,rfl,q1 (r2.nil_iff.mp z)⟩) (λz=>?_) (by rw[<- r1.length,<- r2.length];exact hz);refine⟨.ref s.heap.objs.size,_,I.laid (t':=s.toks) (o:=.tup (xs++ys)) (λb ob q=>_f _ q) (_d _) ?_,rfl,q2 (λw=>z (r2.nil_iff.mpr w)) _ (I.hok.fresh (_d _))⟩;exact⟨by rw[_q];exact hz,_,r1.append r2,z9s.new _ _⟩
end
noncomputable def ixN(n:Nat)(i:Int):Option Nat:=if 0<=i then (if i<n then some i.toNat else none) else if -(n:Int)<=i then some (i+n).toNat else none
noncomputable def atI{α:Type}(xs:List α)(i:Int):Option α:=(ixN xs.length i).bind λj=>xs[j]?
theorem z84{n:Nat}{i:Int}{j:Nat}(h:ixN n i=some j):seqIndex? i n=some j/\j<n/\-(n:Int)<=i/\i<n:=by
 unfold ixN at h;by_cases h0:0<=i
 ·rw[_g h0]at h;by_cases h1:i<n
  ·rw[_g h1]at h;have e:i.toNat=j:=_A h;exact⟨by rw[seqIndex_of h0 h1,e],by omega,by omega,h1⟩
  ·rw[_i h1]at h;cases h
 ·rw[_i h0]at h;by_cases h1:-(n:Int)<=i
  ·rw[_g h1]at h;have e:(i+n).toNat=j:=_A h;exact⟨by rw[seqIndex_neg (by omega) h1,e],by omega,h1,by omega⟩
  ·rw[_i h1]at h;cases h
theorem z7O{α:Type}{xs:List α}{i:Int}{v:α}(h:atI xs i=some v):∃j,seqIndex? i xs.length=some j/\xs[j]? = some v/\j<xs.length/\-(xs.length:Int)<=i/\i<xs.length:=by
 unfold atI at h;cases e:ixN xs.length i with
 | none=>rw[e]at h;cases h | some j=>
  rw[e]at h;obtain⟨h1,h2,h3,h4⟩:=z84 e;exact⟨j,h1,h,h2,h3,h4⟩
def z8D(b:Expr):Prop:=∀o i,subscripted b false o i=operate [o,i] (getItem o i)
def IxR(X:Cx)(r:R2):Prop:= ∀(value slice:Expr)(pins:List (Addr×Obj))(s:Shared)(O:St)(H:Hp)(x y:V)(v u:Value)(Q:VK),Inv X pins O H s->xL x v->xL y u->r x y H Q-> subscripted slice false v u=operate [v,u] (getItem v u)->wpAny (model X.prog X.w) X.A (subscriptTail value slice v u) (EP X pins O Q) X.xe s
def MtR (X:Cx) (id:String) (r:V->List V->Hp->VK->Prop):Prop:= ∀(pins:List (Addr×Obj)) (s:Shared) (O:St) (H:Hp) (x:V) (xs:List V) (v:Value) (us:List Value) (Q:VK),Inv X pins O H s->xL x v->xt xs us->r x xs H Q-> wpAny (model X.prog X.w) X.A (call (.builtin id) (v::us)) (EP X pins O Q) X.xe s
section
variable {X:Cx}{a b:Expr}{ta tb:TE}{pos:Pos}
theorem IxR.or{r r':R2}(h:IxR X r)(h':IxR X r'):IxR X (λx y H Q=>r x y H Q\/r' x y H Q):=by
 intro value slice pins s O H x y v u Q I rx ry q hs;rcases q with q | q;·exact h value slice pins s O H x y v u Q I rx ry q hs
 ·exact h' value slice pins s O H x y v u Q I rx ry q hs
theorem zg0{r:R2}(hr:IxR X r)(ha:PE X a ta)(hb:PE X b tb)(hs:z8D b):PE X (.Subscript a b pos) (tOp r ta tb):=by
 intro pins s O H Q I h;exact Subscript_ (zgy ha hb I h λv u s2 x y H2 I2 rx ry q=>hr a b pins s2 O H2 x y v u Q I2 rx ry q (hs _ _))
def zhR(K:W.Frag):R2:=λx y H Q=>∃p xs i v,x=.ref p/\y=.int i/\SqL K H p xs/\atI xs i=some v/\Q v H
def zhk(K:W.Frag):R2:=λx y H Q=>∃p xs i v,x=.ref p/\y=.int i/\SqT K H p xs/\atI xs i=some v/\Q v H
theorem zbZ:IxR X (zhR X.K):=by
 intro value slice pins s O H x y v u Q I rx ry h hs;obtain⟨p,xs,i,z,rfl,rfl,hq,he,q⟩:=h;cases rx;obtain⟨t,rfl⟩:=ry;obtain⟨its,r,pl,hz⟩:=I.list hq;obtain⟨j,h1,h2,h3,h4,h5⟩:=z7O he;obtain⟨w,ew,rw'⟩:=r.get h2;have hl:=r.length;have hn:=z46;have fin:EP X pins O Q w s:=⟨z,H,I,rw',q⟩;by_cases h0:0<=i
 ·have hj:i.toNat=j:=by
   rw[seqIndex_of h0 h5]at h1;exact _A h1
  exact item_listR pl.isList h0 (by omega) (by rw[hj];simpa using ew) fin hs
 ·have hj:(i+(its.toArray.size:Int)).toNat=j:=by
   rw[seqIndex_neg (by omega) h4]at h1;rw[_k,<- hl];exact _A h1
  exact subscriptTail_builtinR (x:=w) pl.isList.typeIs slot_list_getitem.lookup (wpAny_getItem_list_neg (Q:=λr s'=>r=w/\EP X pins O Q r s') pl.isList (by omega) (by rw[_k]<;>omega) (by omega) (by rw[hj];simpa using ew) ⟨rfl,fin⟩) hs
theorem zeu:IxR X (zhk X.K):=by
 intro value slice pins s O H x y v u Q I rx ry h hs;obtain⟨p,xs,i,z,rfl,rfl,hq,he,q⟩:=h;cases rx;obtain⟨t,rfl⟩:=ry;obtain⟨its,r,pl,hz⟩:=I.tuple hq;obtain⟨j,h1,h2,h3,h4,h5⟩:=z7O he;obtain⟨w,ew,rw'⟩:=r.get h2;have hl:=r.length;have hn:=z46;have fin:EP X pins O Q w s:=⟨z,H,I,rw',q⟩;exact subscriptTail_builtinR (x:=w) pl.typeIs slot_tuple_getitem.lookup (getItem_tuple (j:=j) (Q:=λr s'=>r=w/\EP X pins O Q r s') pl (by omega) (by omega) (by rw[_k,<- hl];exact h1) (by simpa using ew) ⟨rfl,fin⟩) hs
theorem z6K (its:List Value) (n j:Nat) (u:Value):Obj.mapSeq (·.setIfInBounds j u) {cls:=.type "list",data:=.seq its.toArray n}={cls:=.type "list",data:=.seq (its.set j u).toArray n}:=by simp[Obj.mapSeq]
theorem Inv.lst{pins:List (Addr×Obj)}{O:St}{H:Hp}{s:Shared}{p:Addr}{xs:List V}(I:Inv X pins O H s)(h:H p=some (.lst xs)): ∃(its:List Value)(n:Nat),xt xs its/\s.heap.get? p=some {cls:=.type "list",data:=.seq its.toArray n}/\xs.length<=sizeLine:=by
 obtain⟨z,its,n,r,e⟩:=I.hok p _ h;exact⟨its,n,r,e,z⟩
theorem Inv.lstUpd {pins:List (Addr×Obj)} {O:St} {H:Hp} {s:Shared} {p:Addr} {xs ys:List V} {its its':List Value} {n n':Nat} {f:Obj->Obj} (I:Inv X pins O H s) (h:H p=some (.lst xs)) (ho:s.heap.get? p=some {cls:=.type "list",data:=.seq its.toArray n}) (hf:f {cls:=.type "list",data:=.seq its.toArray n}={cls:=.type "list",data:=.seq its'.toArray n'}) (r:xt ys its') (hz:ys.length<=sizeLine) (t:Nat): Inv X pins O (upd H p (.lst ys)) {s with heap:=s.heap.update p f,toks:=t}:=by
 have e:(s.heap.update p f).get? p=some {cls:=.type "list",data:=.seq its'.toArray n'}:=by rw[_bk f ho (by rw[hf]<;>rfl),hf]
 refine I.write (x:=p) (e:=p) (by rw[h];trivial) (.inl rfl) (λb u hb q=>(_a6 _ _ (_bp hb)).trans q) ⟨_,e⟩ ?_;exact⟨hz,its',n',r,e⟩
def zfI:V->V->V->Hp->(Hp->Prop)->Prop:=λo i v H Q=>∃p xs k j,o=.ref p/\i=.int k/\H p=some (.lst xs)/\ixN xs.length k=some j/\Q (upd H p (.lst (xs.set j v)))
theorem set_list:zhe X zfI:=by
 intro pins s O H o i v ov iv u Q I ro ri rv h;obtain⟨p,xs,k,j,rfl,rfl,hp,hj,q⟩:=h;cases ro;obtain⟨t,rfl⟩:=ri;obtain⟨its,n,r,ho,hz⟩:=I.lst hp;obtain⟨h1,h2,h3,h4⟩:=z84 hj;have hl:=r.length;have hn:=z46;have I':Inv X pins O (upd H p (.lst (xs.set j v))) {s with heap:=s.heap.update p (Obj.mapSeq (·.setIfInBounds j u))}:= I.lstUpd hp ho (z6K its n j u) (r.set rv j) (by rw[List.length_set];exact hz) s.toks;by_cases h0:0<=k
 ·have hk:k.toNat=j:=by
   rw[seqIndex_of h0 h4]at h1;exact _A h1
  exact W.ki_setAt ho h0 (by omega) (by rw[_k,<- hl];exact h4) (by rw[hk];exact⟨_,I',q⟩)
 ·have hk:(k+(its.toArray.size:Int)).toNat=j:=by
   rw[seqIndex_neg (by omega) h3]at h1;rw[_k,<- hl];exact _A h1
  exact W.ki_setBack ho (by omega) (by rw[_k,<- hl];exact h3) (by omega) (by rw[hk];exact⟨_,I',q⟩)
theorem z4m(lo hi:Option Int)(n:Nat):(sliceBounds lo hi none n).1=((HT.sIx n 0 lo:Nat):Int)/\(sliceBounds lo hi none n).2.1=(HT.sIx n n hi:Int)/\(sliceBounds lo hi none n).2.2=1:=by
 refine⟨?_,?_,rfl⟩;·cases lo with
  | none=>simp[sliceBounds,HT.sIx] | some i=>
   simp only[sliceBounds,HT.sIx,Option.getD_none,show (1:Int) > 0 by decide,_P];by_cases h:i<0;·simp only[h,_P]<;>omega
   ·simp only[h,_ag]<;>omega
 ·cases hi with
  | none=>simp[sliceBounds,HT.sIx] | some i=>
   simp only[sliceBounds,HT.sIx,Option.getD_none,show (1:Int) > 0 by decide,_P];by_cases h:i<0;·simp only[h,_P]<;>omega
   ·simp only[h,_ag]<;>omega
theorem z2A(its:List Value)(lo hi:Option Int):slicePick its.toArray lo hi none=((its.drop (HT.sIx its.length 0 lo)).take (HT.sIx its.length its.length hi-HT.sIx its.length 0 lo)).toArray:=by
 obtain⟨h1,h2,h3⟩:=z4m lo hi its.toArray.size;unfold slicePick;rw[h1,h2,h3];simp only[sliceRange_one,pick_run,_k]<;>rfl
def zhC(K:W.Frag):V->Option Int->Option Int->Hp->VK->Prop:=λx lo hi H Q=>∃a xs,x=.ref a/\SqL K H a xs/\∀p,H p=none->Q (.ref p) (upd H p (.lst (zaW xs lo hi)))
theorem zbH:SlR X (zhC X.K):=by
 intro pins s O H x v vl vu lo hi sl Q I rx hs pl pu h;obtain⟨a,xs,rfl,hx,q⟩:=h;cases rx;obtain⟨its,r,ht,hz⟩:=I.list hx;have hlen:=r.length;refine⟨"list",_,slot_list_getitem.lookup,ht.isList.typeIs,?_⟩;refine wpAny_getItem_list_slice ht.isList hs pl pu .none (by simp) ?_ (by rw[_k]<;>omega);rw[z2A,<- hlen];refine⟨.ref s.heap.objs.size,_,I.laid (t':=s.toks) (o:=.lst (zaW xs lo hi)) (λb ob q=>_f _ q) (_d _) ?_,rfl,q _ (I.hok.fresh (_d _))⟩;exact⟨_H (z0J xs lo hi) hz,_,0,(r.drop (HT.sIx xs.length 0 lo)).take (HT.sIx xs.length xs.length hi-HT.sIx xs.length 0 lo),_s _ rfl⟩
theorem z43:wA X (.builtin "len") (λxs H Q=>∃p ys,xs=[.ref p]/\(SqL X.K H p ys\/SqT X.K H p ys)/\Q (.int ys.length) H):=by
 intro pins s O H xs us Q I r h;obtain⟨p,ys,rfl,hq,q⟩:=h;obtain⟨u,rfl,rx⟩:=vals1 r;cases rx;have hn:=z46;rcases hq with hq | hq
 ·obtain⟨its,r',pl,hz⟩:=I.list hq;have hlen:=r'.length;exact Calls.call_len_list pl.isList (by simp only[_k]<;>omega) ⟨.int ys.length,H,I.tok _,⟨s.toks+1,by rw[_k,hlen]⟩,q⟩
 ·obtain⟨its,r',pl,hz⟩:=I.tuple hq;have hlen:=r'.length;exact len_tuple pl (by simp only[_k]<;>omega) ⟨.int ys.length,H,I.tok _,⟨s.toks+1,by rw[_k,hlen]⟩,q⟩
theorem z3q:wA X (.type "tuple") (λxs H Q=>∃p ys,xs=[.ref p]/\((SqL X.K H p ys/\∀l,H l=none->Q (.ref l) (upd H l (.tup ys)))\/(SqT X.K H p ys/\Q (.ref p) H))):=by
 intro pins s O H xs us Q I r h;obtain⟨p,ys,rfl,h⟩:=h;obtain⟨u,rfl,rx⟩:=vals1 r;cases rx;rcases h with⟨hq,q⟩ | ⟨hq,q⟩
 ·obtain⟨its,r',pl,hz⟩:=I.list hq;have hlen:=r'.length;refine call_tuple_list pl.isList (λh' kp=>?_) (by simp only[_k]<;>omega);have I1:Inv X pins O H {s with heap:=h'}:=I.kept (t':=s.toks) kp;have I2:Inv X pins O (upd H h'.objs.size (.tup ys)) {s with heap:=h'.push {cls:=.type "tuple",data:=.seq its.toArray}}:= I1.laid (t':=s.toks) (λb o e=>_f _ e) (_d _) (show wc X.prog X.w _ _ _ (.tup ys) from⟨hz,its,r',z9s.new _ _⟩);exact⟨.ref h'.objs.size,_,I2,rfl,q _ (I1.hok.fresh (_d _))⟩
 ·obtain⟨its,r',pl,hz⟩:=I.tuple hq;exact call_tuple_same pl ⟨.ref p,H,I,rfl,q⟩
def tyV(K:W.Frag)(T:String)(x:V)(H:Hp):Prop:=match x with
 | .str _=>T="str" | .int _=>T="int" | .ref p=>(T="list"/\∃xs,SqL K H p xs)\/(T="tuple"/\∃o,K.lookup p=some o/\o.cls=.type "tuple"/\o.dict=none)\/ (T="dict"/\((∃kvs,H p=some (.dK kvs))\/∃kvs,H p=some (.dT kvs)))\/(T="set"/\∃S n,H p=some (.set S n)) | _=>False
theorem zdQ{pins:List (Addr×Obj)}{O:St}{H:Hp}{s:Shared}{T:String}{x:V}{v:Value}(I:Inv X pins O H s)(r:xL x v)(ty:tyV X.K T x H): s.TypeIs v T/\∀a,v=.ref a->∃ob,s.heap.get? a=some ob/\ob.dict=none:=by cases x with
 | str z=>
  obtain⟨t,rfl⟩:=r;cases (show T="str" from ty);exact⟨typeIs_str s z t,λ_ e=>nomatch e⟩ | int i=>
  obtain⟨t,rfl⟩:=r;cases (show T="int" from ty);exact⟨typeIs_int s i t,λ_ e=>nomatch e⟩ | ref p=>
  cases r;rcases ty with⟨rfl,xs,hq⟩ | ⟨rfl,o,hk,hc,hd⟩ | ⟨rfl,hk⟩ | ⟨rfl,S,n,hk⟩
  ·obtain⟨its,_,pl,_⟩:=I.list hq;refine⟨pl.isList.typeIs,λa e=>?_⟩;cases e;obtain⟨o,n,e,c,hd,_⟩:=pl;exact⟨o,e,hd⟩
  ·refine⟨⟨o,I.kIn p o hk,hc⟩,λa e=>?_⟩;cases e;exact⟨o,I.kIn _ o hk,hd⟩
  ·have z:∃o,s.heap.get? p=some o/\o.ExactDict:=by
    rcases hk with⟨kvs,hk⟩ | ⟨kvs,hk⟩
    ·obtain⟨_,_,_,_,o,_,_,e,ex,_⟩:=I.hok p _ hk;exact⟨o,e,ex⟩
    ·obtain⟨_,_,_,_,o,_,_,e,ex,_⟩:=I.hok p _ hk;exact⟨o,e,ex⟩
   obtain⟨o,e,ex⟩:=z;refine⟨⟨o,e,ex.1⟩,λa e2=>?_⟩;cases e2;exact⟨o,e,ex.2.1⟩
  ·obtain⟨o,_,_,_,e,ex,_⟩:=I.hok p _ hk;refine⟨⟨o,e,ex.1⟩,λa e2=>?_⟩;cases e2;exact⟨o,e,ex.2.1⟩ | _=>exact False.elim ty
def tBM(K:W.Frag)(T:String)(r:V->List V->Hp->VK->Prop)(to:TE)(t:TA):TE:=λO H Q=>to O H λx H1=>tyV K T x H1/\t O H1 λxs H2=>r x xs H2 Q
variable {o e:Expr}{es:List Expr}{to:TE}{t:TA}{name:Str}{apos cpos:Pos}{T id:String}{r:V->List V->Hp->VK->Prop}
theorem zav (pa:PlainAttrs T) (slot:Slot T name id) (hty:typeOf (.builtin id)=pure (.type "method_descriptor")) (hm:MtR X id r) (ho:PE X o to) (ha:PA X (e::es) t) (hbase:attributeBase o name X.env (eval o X.env)=eval o X.env:=by rfl) (hfew:((backTo cpos (starEach (e::es) X.env)).all (λx=>!x.1)&&(backToKw cpos (keywordEach [] X.env)).all (λx=>x.1.isSome) && decide ((e::es).length+([]:List Keyword).length+(if ([]:List Keyword).isEmpty then 0 else 1)<30))=true:=by rfl) (hline:(apos.endLine==cpos.line)=true:=by rfl) (hs:starEach (e::es) X.env=(false,eval e X.env)::starEach es X.env:=by rfl) (hplain:(backTo cpos (starEach es X.env)).any (·.1)=false:=by rfl): PE X (.Call (.Attribute o name apos) (e::es) [] cpos) (tBM X.K T r to t):=by
 intro pins s O H Q I h;refine wpAny_Call_method_late hbase hfew hline rfl (thn (ho pins s O H _ I h) λv s1 ⟨x,H1,I1,r1,ty,q1⟩=>?_);obtain⟨h1,h2⟩:=zdQ I1 r1 ty;refine⟨T,id,pa,slot,hty,h1,h2,?_⟩;have hA:=ha cpos pins s1 O H1 _ I1 q1;rw[hs]at hA ⊢;refine _cd (by show (false||(backTo cpos (starEach es X.env)).any (·.1))=false;rw[hplain]<;>rfl) (_cv ?_);exact thn hA λus s2 ⟨vs,H2,I2,r2,q2⟩=>hm pins s2 O H2 x vs v us Q I2 r1 r2 q2
end
def MtM (X:Cx) (id:String) (r:V->List V->Hp->VK->Prop):Prop:= ∀(pins:List (Addr×Obj)) (s:Shared) (O:St) (H:Hp) (x:V) (xs:List V) (v:Value) (us:List Value) (Q:VK),Inv X pins O H s->xL x v->xt xs us->r x xs H Q-> wpAny (model X.prog X.w) X.A (call (.builtin id) (v::us)) (EP X pins O Q) X.xe s
theorem xt.one:∀{x:V}{us:List Value},xt [x] us->∃u,us=[u]/\xL x u | _,_,.cons r .nil=>⟨_,rfl,r⟩
theorem xt.two:∀{x y:V}{us:List Value},xt [x,y] us->∃u v,us=[u,v]/\xL x u/\xL y v | _,_,_,.cons r (.cons q .nil)=>⟨_,_,rfl,r,q⟩
section
variable {X:Cx}{pins:List (Addr×Obj)}{O:St}{H:Hp}{s:Shared}{l b:Addr}{xs ys zs:List V}
theorem Inv.lset {its its':List Value} {n:Nat} {f:Array Value->Array Value} {t':Nat} (I:Inv X pins O H s) (hH:H l=some (.lst xs)) (e:s.heap.get? l=some {cls:=.type "list",data:=.seq its.toArray n}) (hf:f its.toArray=its'.toArray) (hv:xt ys its') (hz:ys.length<=sizeLine): Inv X pins O (upd H l (.lst ys)) {s with heap:=s.heap.update l (Obj.mapSeq f),toks:=t'}:=by
 have q:=PySem.IsL.update e f;rw[hf]at q;refine I.write (x:=l) (e:=l) (by rw[hH];exact trivial) (.inl rfl) (λb' u hb hu=>(_a6 s.heap (Obj.mapSeq f) (_bp hb)).trans hu) ⟨_,q⟩ ?_;exact⟨hz,its',_,hv,q⟩
theorem Inv.lnew {its:List Value} {t':Nat} (I:Inv X pins O H s) (hv:xt ys its) (hz:ys.length<=sizeLine): Inv X pins O (upd H s.heap.objs.size (.lst ys)) {s with heap:=s.heap.push {cls:=.type "list",data:=.seq its.toArray},toks:=t'}:= I.laid (λ_ _ q=>_f _ q) (_d _) ⟨hz,its,0,hv,_s _ rfl⟩
theorem Inv.fresh(I:Inv X pins O H s):H s.heap.objs.size=none:=I.hok.fresh (_d _)
theorem Inv.lstM(I:Inv X pins O H s)(hH:H l=some (.lst xs)):xs.length<=sizeLine/\∃(its:List Value)(n:Nat),xt xs its/\xs.length=its.length/\s.heap.get? l=some {cls:=.type "list",data:=.seq its.toArray n}:=by
 obtain⟨z,its,n,r,e⟩:=I.hok l _ hH;exact⟨z,its,n,r,r.length,e⟩
end
section
variable {X:Cx}
def zck:V->List V->Hp->VK->Prop:=λx vs H Q=>∃l xs y,x=.ref l/\vs=[y]/\H l=some (.lst xs)/\xs.length<sizeLine/\Q .non (upd H l (.lst (xs++[y])))
theorem z4f:MtM X "list.append" zck:=by
 intro pins s O H x vs v us Q I rx rv h;obtain⟨l,xs,y,rfl,rfl,hH,hz,q⟩:=h;cases rx;obtain⟨u,rfl,ru⟩:=rv.one;obtain⟨z,its,n,r,hl,e⟩:=I.lstM hH;refine call_meets F.slot_list_append ⟨_,e,rfl⟩ F.entry_list_append (F.args_list_append_2 _ _) (PySem.list_append l its.toArray n u (by rw[_k];omega)) ⟨e,?_⟩;refine⟨.non,_,I.lset (its':=its++[u]) hH e (by simp) (r.append (.cons ru .nil)) ?_,rfl,q⟩;rw[_q,_aD];omega
end
end L2
namespace Att
open PySem.W PySem.Calls
theorem z1l{P:Params}{h:Heap}:∀(ns:List Int)(vs:List Value),WellAll P h vs (ns.map WData.int)->IntsAre vs ns:=by
 intro ns;induction ns with
 | nil=>
  intro vs w;rw[List.map_nil]at w;cases w;exact .nil | cons n ns ih=>
  intro vs w;rw[_t]at w;cases w with | cons a b=>
   cases a;exact .cons _ _ (ih _ b)
theorem z9h {l:OpenLaw} {n:Nat} (hn:l.most=some n) {P:Params} {h:Heap} {args:List WData} {vals:List Value} (hpre:l.row.toRowW.claim.pre args=true) (hwl:WellAll P h vals args): ∃a vs ns,vals=[Value.ref a]/\args=[WData.list (ns.map WData.int)]/\h.get? a=some {cls:=.type "list",data:=.seq vs.toArray}/\IntsAre vs ns/\ns.length<=n:=by
 have hsh:WShape.hasAll [] args [.list .int]=true:=(pre_splitW hpre).1;have hc:l.pre.holds [] {args:=args}=true:=(pre_splitW hpre).2;obtain⟨d,r,rfl,h1,h2⟩:=hasAllW_cons hsh;obtain rfl:=hasAllW_nil h2;obtain⟨xs,rfl,h3⟩:=hasW_list h1;obtain⟨ns,rfl⟩:=items_int h3;have hlen:ns.length<=n:=by
  unfold OpenLaw.pre at hc;have h4:(WTm.not (.lt (.lit (.int (n:Int))) (.len (.arg 0)))).holds [] {args:=[.list (ns.map .int)]}=true:=by
   have h4:=(holds_andW hc).1;rw[hn]at h4;exact h4
  have h5:=condW_of h4 (w_not (w_lt w_lit (w_len_list (w_arg rfl))));rw[_m]at h5;refine Nat.le_of_not_lt λq=>?_;have q':(n:Int)<(ns.length:Int):=by omega
  first
   | (rw[_bK q']at h5;exact absurd h5 (by decide)) | (simp at h5;omega)
 cases hwl with | cons w1 w2=>
  cases w2;cases w1 with | list ho hall=>exact⟨_,_,ns,rfl,rfl,ho,z1l ns _ hall,hlen⟩
theorem z8C (l:OpenLaw) (args:List WData):l.row.toRowW.claim.post args (.bool true) args=true:= postW_of (r:=l.row.toRowW) (X:=(true==true)) (show WShape.has [] (.bool true) .bool=true by first | rfl | decide | simp[WShape.has,WShape.arms,WShape.armsAll]) (show (WTm.eq .res (.lit (.bool true))).value [] {args:=args,res:=some (.bool true),after:=args}=some (.bool (true==true)) from w_eq_bool (w_res rfl) w_lit) rfl
theorem z5e{l:OpenLaw}{n:Nat}{q:Program}{loose:List Str}{XP:(Str->Option Value)->Heap->Prop}{YP:World->Heap->Prop}{d:DefRec} (hn:l.most=some n)(hdf:d.params.defaults=[]) (call:∀(w:World)(s₀ s₁:Shared)(mg mb:Str->Option Value)(fa:Addr)(o:Obj)(pm cd doc:Value)(a:Addr)(vs:List Value)(ns:List Int), Ground q loose [] XP w s₀ mg mb s₁.heap->YP w s₁.heap-> s₁.heap.get? fa=some o->o.data=.func (docDef d.name d.params d.body d.scope pm cd doc)->s₁.heap.CodeRec cd d.name->mg d.name=some (.ref fa)-> s₁.heap.get? a=some {cls:=.type "list",data:=.seq vs.toArray}->IntsAre vs ns->ns.length<=n->s₁.gens=#[]-> codeAny (model l.prog w) callerA (.call (.ref fa) ⟨[.ref a],[]⟩) (λr s'=>r=.ok (.ret (.bool true))/\OldK s₁.heap s'.heap/\s'.os=s₁.os/\AllBare s'.gens) s₁): WalkO q loose XP YP l.row.toRowW d [] (λf vs=>PySem.call f vs):=by
 intro w s₀ s₁ mg mb G Yy fa o pm cd doc dV kV ho hd hcd hD hmg hg args vals as hpre hlay hrd hwl hlo;obtain rfl:dV=.none:=Dflts.none hD hdf;obtain rfl:kV=.none:=Dflts.noKw hD;obtain⟨a,vs,ns,rfl,rfl,hobj,hints,hlen⟩:=z9h hn hpre hwl;refine enter_call (_bS (call w s₀ s₁ mg mb fa o pm cd doc a vs ns G Yy ho (fd_plain hd) hcd hmg hobj hints hlen hg) λr s' hq=>?_);obtain⟨rfl,h2,h3,h4⟩:=hq;exact⟨.inl ⟨.bool true,.bool true,[],rfl,λ_=>rfl,.bool true,z8C l _,λ_=>⟨List.Pairwise.nil,λ_ hm=>(nomatch hm)⟩⟩,h2,h3,h4⟩
section
variable {prog:Program}{w:World}{A:Around}{E:Value->Shared->Prop}{s:Shared}{K:Frag}
noncomputable def ledger(h:Heap)(L d:Addr):List (Addr×Obj):=(List.range h.objs.size).filterMap λa=>if a=L\/a=d then none else (h.get? a).map λo=>(a,o)
end
end Att
namespace L2
theorem z3M:∀{vs:List Value}{ns:List Int},IntsAre vs ns->xt (ns.map V.int) vs
 | _,_,.nil=>.nil | _,_,.cons n t h=>.cons ⟨t,rfl⟩ (z3M h)
def zgp(H:Hp):Prop:=∀b,H b=none\/∃o xs,H b=some (.frz o (.lst xs))
theorem za3 {P:Program} {w:World} {K:W.Frag} {mg mb:Str->Option Value} {CX:CXT} {k:Nat} {fa a:Addr} {fd:FuncData} {x:Str} {sp:Sp} {s₁:Shared} {vs:List Value} {ns:List Int} (KX:K.In s₁.heap) (hns:s₁.heap.Ns mainGlobals mg) (hb:s₁.heap.Ns builtinsNs mb) (hbb:∀x:Str,x≠"__name__"->mb x=bootBuiltins x) (hlim:s₁.heap.NoLimit) (hg:s₁.gens=#[]) (ha:s₁.heap.get? a=some {cls:=.type "list",data:=.seq vs.toArray}) (hi:IntsAre vs ns) (hl:ns.length<=sizeLine) (hr:z1D k callerA) (F:∀base:Heap,K.In base->base.Ns mainGlobals mg->z3J P w K mg base CX k fa fd [x] sp) (hbind:∀(s:Shared) (u:Value),BindsTo s fd ⟨[u],[]⟩ [(x,u)]) (hsp:∀H:Hp,zgp H->SqL K H a (ns.map V.int)->sp [.ref a] H (λv _=>v=.bl true) λ_ _ _=>False) (hCX:∀H e s',CX [] H s₁ (λ_ _ _=>False) e s'->False): codeAny (model P w) callerA (.call (.ref fa) ⟨[.ref a],[]⟩) (λr s'=>r=.ok (.ret (.bool true))/\OldK s₁.heap s'.heap/\s'.os=s₁.os/\AllBare s'.gens) s₁:=by
 have rv:=z3M hi;have lenV:=hi.length;have core:∀H:Hp,zgp H->SqL K H a (ns.map V.int)->HOk P w H s₁.heap->(∀b,H b≠none->b=a)->(H a≠none->K.lookup a=none)-> codeAny (model P w) callerA (.call (.ref fa) ⟨[.ref a],[]⟩) (λr s'=>r=.ok (.ret (.bool true))/\OldK s₁.heap s'.heap/\s'.os=s₁.os/\AllBare s'.gens) s₁:=by
  intro H hO hS hok hA hK;have base_of:∀{b:Addr} {o:Obj},s₁.heap.get? b=some o->H b=none->(z9S s₁.heap H).get? b=some o:=λe n=>z9R e n;have noA:∀{b:Addr} {o:Obj} {es:Array DictEntry} {ep:Nat},s₁.heap.get? b=some o->o.data=.dict es ep->H b=none:=λ{b o es ep} e d=>by cases q:H b with
   | none=>rfl | some u=>
    have e':b=a:=hA b (by rw[q];simp);subst e';rw[ha]at e;cases e;have d':Data.seq vs.toArray _=Data.dict es ep:=d;cases d'
  have nsK:∀{b:Addr} {m:Str->Option Value},s₁.heap.Ns b m->(z9S s₁.heap H).Ns b m:=λ{b m} ⟨o,es,ep,e,d,r⟩=>⟨o,es,ep,base_of e (noA e d),d,r⟩;have hKb:K.In (z9S s₁.heap H):=λb o e=>base_of (KX b o e) (by cases q:H b with
   | none=>rfl | some u=>
    have e':b=a:=hA b (by rw[q];simp);subst e';rw[hK (by rw[q];simp)]at e;cases e);have hM:Mod K mg (z9S s₁.heap H):=⟨hKb,nsK hns,⟨mb,nsK hb,hbb⟩,let ⟨mc,h1,h2⟩:=hlim;⟨mc,nsK h1,h2⟩⟩;have e0:zfo P w K mg (z9S s₁.heap H) callerA [] s₁ H:=⟨rfl,hM,λb o e=>zcX e,Nat.le_of_eq (z7w _ _),trivial,λb hb=>absurd (show b∈([]:List Addr) from hb) (by simp),hok,.of_eq hg⟩;refine _bS ((F _ hKb (nsK hns)).run callerA [] s₁ H ⟨[.ref a],[]⟩ [.ref a] [.ref a] _ _ hr e0 (hbind s₁ (.ref a)) (.cons rfl .nil) (hsp H hO hS)) λr s' h=>?_;cases r with
  | error e=>exact (hCX H e s' h).elim | ok fl=> cases fl with
   | next=>exact False.elim h | brk=>exact False.elim h | cont=>exact False.elim h | ret u=>
    obtain⟨v,H',os,bare,un,hok',r',q⟩:=h;have q':v=.bl true:=q;subst q';obtain rfl:u=Value.bool true:=r';refine⟨rfl,OldK.of_keep λb o e=>?_,os,bare⟩;cases q:H b with
    | none=>exact un.keep b o e q (by intro z;exact absurd (show b∈([]:List Addr) from z) (by simp)) (by simp) | some u=>
     rcases hO b with z | ⟨ob,xs,z⟩;·rw[q]at z;cases z
     ·have z2:=un.frzs b ob _ z;obtain⟨e1,_⟩:=hok b _ z;obtain⟨e2,_⟩:=hok' b _ z2;rw[e]at e1;cases e1;exact e2
 cases hk:K.lookup a with
 | some o=>
  have e:=KX a o hk;rw[ha]at e;cases e;refine core (λ_=>none) (λ_=>.inl rfl) (.inr ⟨_,vs.toArray,_,hk,rfl,rfl,rfl,by rw[_k,lenV];exact hl,by simpa using rv⟩) (λb u z=>by have z':(none:Option HO)=some u:=z;cases z') (λb z=>absurd rfl z) λz=>absurd rfl z | none=>
  refine core (λb=>if b=a then some (.frz {cls:=.type "list",data:=.seq vs.toArray} (.lst (ns.map V.int))) else none) (λb=>?_) (.inl (.inr ⟨{cls:=.type "list",data:=.seq vs.toArray},_g rfl⟩)) (λb u z=>?_) (λb z=>?_) λ_=>hk
  ·by_cases hb:b=a;·exact .inr ⟨_,_,_g hb⟩
   ·exact .inl (_i hb)
  ·by_cases hb:b=a
   ·have z':=(_g hb).symm.trans z;cases z';subst hb;exact⟨ha,by rw[_m];exact hl,vs,_,rv,ha⟩
   ·have z':=(_i hb).symm.trans z;cases z'
  ·by_cases hb:b=a;·exact hb
   ·exact absurd (_i hb) z
noncomputable abbrev KOf{K:W.Frag}{h:Heap}(_:K.In h):W.Frag:=K
noncomputable def kr(s:Stmt):Arguments:=match s with
 | .FunctionDef _ a _ _ _ _ _ _ _ _=>a | _=>{posonlyargs:=[],args:=[],vararg:=none,kwonlyargs:=[],kw_defaults:=[],kwarg:=none,defaults:=[]}
noncomputable def uQ(s:Stmt):List Stmt:=match s with
 | .FunctionDef _ _ b _ _ _ _ _ _ _=>b | _=>[]
noncomputable def zm(s:Stmt):Scope:=match s with
 | .FunctionDef _ _ _ _ _ _ sc _ _ _=>sc | _=>{kind:=.function,names:=[],isGenerator:=false,isCoroutine:=false}
abbrev CX0:CXT:=λ_ _ _ _ _ _=>False
abbrev E0:XK:=λ_ _ _=>False
theorem ye{X:Cx}:Passes CX0 X E0:=λ_ _ _ _ _ _ _ h=>h.elim
structure Fun(K:W.Frag)(x qual:Str)(st:Stmt)(f:Addr)(fd:FuncData):Prop where
 ex:∃(oc:Value)(od:Option Addr)(kV doc pm:Value)(an:Option Addr)(cdv ct:Value)(osl:Array (Option Value)), fd=W.fnOf x qual (kr st) (uQ st) (zm st) .none kV doc pm an cdv ct/\K.lookup f=some ⟨oc,od,.func fd,osl⟩/\W.codeIn K cdv qual=true
 kp:W.keepIn K (.ref f)=true
section
variable {P:Program}{w:World}{K:W.Frag}{mg:Str->Option Value}{base:Heap}
theorem Fun.ok{x qual:Str}{st:Stmt}{f:Addr}{fd:FuncData}{N ps:List Str}{k:Nat}{sp:Sp}(F:Fun K x qual st f fd)(S:zN N ps (zm st))(len:∀vs H Q E,sp vs H Q E->vs.length=ps.length) (hbody:∀(cdv:Value)(A:Around)(outer:List Env)(s:Shared)(H:Hp)(vs:List V)(Q:VK)(E:XK),z1D k (A.deeper (envOfC qual (zm st) s.heap.objs.size f cdv))->sp vs H Q E-> ∃t,PSs (z9v CX0 P w K mg base N qual (zm st) f cdv A outer s H E).nox (uQ st) t/\t {nx:=λ_ H'=>Q .non H',rt:=Q} (start N vs) H):z3J P w K mg base CX0 (k+1) f fd ps sp:=by
 obtain⟨oc,od,kV,doc,pm,an,cdv,ct,osl,rfl,lk,hcd⟩:=F.ex;refine zfA lk hcd S len λA outer s H vs Q E hr hsp=>?_;obtain⟨t,h,q⟩:=hbody cdv A outer s H vs Q E hr hsp;exact⟨t,h.nox,q⟩
theorem Fun.binds{x qual:Str}{st:Stmt}{f:Addr}{fd:FuncData}{ps:List Str}(F:Fun K x qual st f fd) (h:∀(kV doc pm:Value)(an:Option Addr)(cdv ct:Value)(us:List Value),us.length=ps.length->bindArgs (W.fnOf x qual (kr st) (uQ st) (zm st) .none kV doc pm an cdv ct) ⟨us,[]⟩=pure (ps.zip us)):Binds K fd ps []:=by
 obtain⟨oc,od,kV,doc,pm,an,cdv,ct,osl,rfl,lk,hcd⟩:=F.ex;exact .all (h kV doc pm an cdv ct)
theorem zeM{x qual:Str}{st:Stmt}{f:Addr}{oc:Value}{od an:Option Addr}{osl:Array (Option Value)}{kV doc pm cdv ct:Value}(l:K.lookup f=some ⟨oc,od,.func (W.fnOf x qual (kr st) (uQ st) (zm st) .none kV doc pm an cdv ct),osl⟩) (c:W.codeIn K cdv qual=true)(k:W.keepIn K (.ref f)=true):Fun K x qual st f (W.fnOf x qual (kr st) (uQ st) (zm st) .none kV doc pm an cdv ct):=⟨⟨oc,od,kV,doc,pm,an,cdv,ct,osl,rfl,l,c⟩,k⟩
end
section
variable {X:Cx}
theorem pv(i:Nat){x:Str}{pos:Pos}(hN:X.N[i]? = some x:=by rfl)(hv:Vis X.env.scope x:=by first | exact Or.inl rfl | exact Or.inr (Or.inl rfl) | exact Or.inr (Or.inr rfl))(hd:(x==("__debug__":Str))=false:=by decide) (hcd:(x==("__classdict__":Str))=false:=by decide):PE X (.Name x pos) (z7u i):=kI hN hv hd hcd
end
end L2
set_option maxHeartbeats 4000000
namespace L2
noncomputable def z36(env:Env):List (Str×NameKind)->List (Str×Addr)->List (Str×Addr)
 | [],acc=>acc | (n,k)::r,acc=>z36 env r (if k==.free then (match env.cells.lookup n with | some c=>(n,c)::acc | none=>acc) else acc)
theorem z1r{env:Env}:∀(names:List (Str×NameKind))(acc:List (Str×Addr)),(∀x c,acc.lookup x=some c->env.cells.lookup x=some c)->∀x c,(z36 env names acc).lookup x=some c->env.cells.lookup x=some c
 | [],acc,ha=>ha | (n,k)::r,acc,ha=>by
  unfold z36;refine z1r r _ λx c=>?_;split
  ·split
   ·rename_i c' hc;intro h;rw[_am]at h;split at h
    ·rename_i hb;cases h;rw[_bZ.mp hb];exact hc
    ·exact ha x c h
   ·exact ha x c
  ·exact ha x c
theorem z4j{env:Env}{x:Str}:∀(names:List (Str×NameKind))(acc:List (Str×Addr)),(acc.lookup x).isSome=true->((z36 env names acc).lookup x).isSome=true
 | [],acc,ha=>ha | (n,k)::r,acc,ha=>by
  unfold z36;refine z4j r _ ?_;split
  ·split
   ·rw[_am];split;·rfl
    ·exact ha
   ·exact ha
  ·exact ha
theorem z2o{env:Env}{x:Str}:∀(names:List (Str×NameKind))(acc:List (Str×Addr)),(x,NameKind.free)∈names->(∃c,env.cells.lookup x=some c)->∃c,(z36 env names acc).lookup x=some c
 | [],acc,h,_=>nomatch h | (n,k)::r,acc,h,hc=>by
  rcases _j.mp h with e | h
  ·cases e;obtain⟨c,hc⟩:=hc;unfold z36;have q:((z36 env r ((x,c)::acc)).lookup x).isSome=true:=z4j r _ (by simp);rw[_g (by rfl),hc];exact Option.isSome_iff_exists.mp q
  ·unfold z36;exact z2o r _ h hc
theorem z1Z{env:Env}(f:Str×NameKind->List (Str×Addr)->Sem (ForInStep (List (Str×Addr)))) (hf:∀n k cs,f (n,k) cs=if k==.free then (do let a <- cellOf env n;pure (.yield ((n,a)::cs))) else pure (.yield cs)): ∀(names:List (Str×NameKind))(acc:List (Str×Addr)),(∀y∈names,y.2=.free->∃c,env.cells.lookup y.1=some c)->forIn names acc f=pure (z36 env names acc)
 | [],acc,_=>rfl | (n,k)::r,acc,h=>by
  rw[List.forIn_cons,hf];have ih:=λacc'=>z1Z f hf r acc' λy hy=>h y (_F _ hy);unfold z36;by_cases hk:k=.free
  ·subst hk;obtain⟨c,hc⟩:=h (n,.free) _T rfl;have hc':env.cells.lookup n=some c:=hc;have e:cellOf env n=pure c:=by unfold cellOf;rw[hc']
   rw[_g (by rfl),_g (by rfl),e,hc',pure_bind,pure_bind];exact ih _
  ·have hb:(k==NameKind.free)=false:=by simpa using hk
   rw[hb,_i (by decide),_i (by decide),pure_bind];exact ih _
theorem vC{scope:Scope}{env:Env}(h:∀y∈scope.names,y.2=.free->∃c,env.cells.lookup y.1=some c):closureFor scope env=pure (z36 env scope.names []):=by
 simp only[closureFor];rw[z1Z (env:=env) _ (λn k cs=>by cases hk:k==NameKind.free<;>simp[hk]) scope.names [] h];simp
theorem wD:∀(names:List (Str×NameKind))(n:Nat)(acc:List (Str×Addr)),cellsFrom n names acc=cellsFrom n names []++acc
 | [],_,_=>rfl | (x,k)::r,n,acc=>by
  unfold cellsFrom;split
  ·rw[wD r (n+1) ((x,n)::acc),wD r (n+1) [(x,n)]];simp
  ·exact wD r n acc
theorem uK{x:Str}{c:Addr}:∀(names:List (Str×NameKind))(n:Nat)(acc:List (Str×Addr)),(x,c)∈cellsFrom n names acc->(x,c)∈acc\/(x,NameKind.cell)∈names
 | [],_,_,h=>.inl h | (y,k)::r,n,acc,h=>by
  unfold cellsFrom at h;split at h
  ·rename_i hk;rcases uK r _ _ h with q | q
   ·rcases _j.mp q with e | q
    ·cases e;refine .inr ?_;rw[show k=NameKind.cell from _bZ.mp hk];exact _T
    ·exact .inl q
   ·exact .inr (_F _ q)
  ·rcases uK r _ _ h with q | q;·exact .inl q
   ·exact .inr (_F _ q)
noncomputable def z5w(X:Cx)(scope:Scope)(C:Addr):Env:= {scope:=relabel scope X.env,locals:=C,globals:=X.env.globals,cells:=cellsFrom (C+1) scope.names []++z36 X.env scope.names [],qual:=X.env.qual,func:=none,code:=X.env.code,frame:=X.env.frame,builtins:=X.env.builtins}
noncomputable def zk(X:Cx)(N':List Str)(scope:Scope)(ex:List Addr)(s:Shared)(H:Hp):Cx where
 prog:=X.prog;w:=X.w;K:=X.K;mg:=X.mg;base:=X.base;A:=X.A;N:=N';s₀:=s;H₀:=H;env:=z5w X scope s.heap.objs.size;outer:=X.stack;stack:=X.stack;ex:=ex;fn:=λx=>scope.names.lookup x==some .cell;calm:=X.calm;pn:=[];xe:=λ_ _=>False
theorem qO{env:Env}{x:Str}{k:NameKind}:∀{names:List (Str×NameKind)},names.lookup x=some k-> (names.map λ(n,k)=>if (k==NameKind.free&&env.scope.kind==.function&&env.kindOf n==some .cell) then (n,NameKind.cell) else (n,k)).lookup x=some k\/ (k=.free/\(names.map λ(n,k)=>if (k==NameKind.free&&env.scope.kind==.function&&env.kindOf n==some .cell) then (n,NameKind.cell) else (n,k)).lookup x=some .cell)
 | [],h=>by simp at h | (n,k')::r,h=>by
  have ih:=@qO env x k r;show List.lookup x ((if (k'==NameKind.free&&env.scope.kind==.function&&env.kindOf n==some .cell)=true then (n,NameKind.cell) else (n,k'))::_)=_\/(_/\List.lookup x ((if (k'==NameKind.free&&env.scope.kind==.function&&env.kindOf n==some .cell)=true then (n,NameKind.cell) else (n,k'))::_)=_);cases hx:x==n with
  | true=>
   simp only[_am,hx]at h;cases h;by_cases hc:(k==NameKind.free&&env.scope.kind==.function&&env.kindOf n==some .cell)=true
   ·rw[_g hc];simp only[_u,_bZ]at hc;exact .inr ⟨hc.1.1,by simp[_am,hx]⟩
   ·rw[_i hc];exact .inl (by simp[_am,hx]) | false=>
   simp only[_am,hx]at h;by_cases hc:(k'==NameKind.free&&env.scope.kind==.function&&env.kindOf n==some .cell)=true;·rw[_g hc];simp only[_am,hx];exact ih h
   ·rw[_i hc];simp only[_am,hx];exact ih h
theorem ur{env:Env}{x:Str}{k:NameKind}:∀{names:List (Str×NameKind)}, (names.map λ(n,k)=>if (k==NameKind.free&&env.scope.kind==.function&&env.kindOf n==some .cell) then (n,NameKind.cell) else (n,k)).lookup x=some k->(k=.cell\/k=.free)->(x,NameKind.cell)∈names\/(x,NameKind.free)∈names
 | [],h,_=>by simp at h | (n,k')::r,h,hk=>by
  have ih:=@ur env x k r;change List.lookup x ((if (k'==NameKind.free&&env.scope.kind==.function&&env.kindOf n==some .cell)=true then (n,NameKind.cell) else (n,k'))::_)=_ at h;have step:(List.lookup x (r.map λ(n,k)=>if (k==NameKind.free&&env.scope.kind==.function&&env.kindOf n==some .cell) then (n,NameKind.cell) else (n,k))=some k)->(x,NameKind.cell)∈(n,k')::r\/(x,NameKind.free)∈(n,k')::r:=λq=> (ih q hk).elim (λz=>.inl (_F _ z)) λz=>.inr (_F _ z);by_cases hc:(k'==NameKind.free&&env.scope.kind==.function&&env.kindOf n==some .cell)=true
  ·rw[_g hc,_am]at h;split at h
   ·rename_i hb;simp only[_u,_bZ]at hc;rw[_bZ.mp hb,hc.1.1];exact .inr _T
   ·exact step h
  ·rw[_i hc,_am]at h;split at h
   ·rename_i hb;cases h;rw[_bZ.mp hb];rcases hk with rfl | rfl;·exact .inl _T
    ·exact .inr _T
   ·exact step h
noncomputable def inner(mp:List (Option Nat))(O:St):St:=mp.map λo=>match o with | some j=>(O[j]?).getD none | none=>none
noncomputable def z0j(N:List Str)(names:List (Str×NameKind)):List Str->List (Option Nat)->Bool
 | [],[]=>true | _::r,none::mp=>z0j N names r mp | x::r,some j::mp=>N[j]? == some x&&names.lookup x==some .free&&z0j N names r mp | _,_=>false
theorem z2w{N:List Str}{names:List (Str×NameKind)}:∀{N':List Str}{mp:List (Option Nat)},z0j N names N' mp=true->mp.length=N'.length
 | [],[],_=>rfl | _::_,none::_,h=>by
  simp only[z0j]at h;simp only[_p];rw[z2w h] | _::_,some _::_,h=>by
  simp only[z0j,_u]at h;simp only[_p];rw[z2w h.2] | [],none::_,h=>by cases h | [],some _::_,h=>by cases h | _::_,[],h=>by cases h
theorem z5y{N:List Str}{names:List (Str×NameKind)}:∀{N':List Str}{mp:List (Option Nat)}{i j:Nat}{x:Str},z0j N names N' mp=true->N'[i]? = some x->mp[i]? = some (some j)->N[j]? = some x/\names.lookup x=some .free
 | [],_,_,_,_,_,h,_=>by simp at h | _::_,[],_,_,_,_,_,h=>by simp at h | _::_,none::_,0,_,_,_,_,h=>by simp at h | _::_,some _::_,0,_,_,h,h1,h2=>by
  simp only[z0j,_u,_bZ]at h;simp at h1 h2;subst h1 h2;exact h.1 | _::_,none::_,i+1,_,_,h,h1,h2=>by
  simp only[z0j]at h;exact z5y (i:=i) h (by simpa using h1) (by simpa using h2) | _::_,some _::_,i+1,_,_,h,h1,h2=>by
  simp only[z0j,_u]at h;exact z5y (i:=i) h.2 (by simpa using h1) (by simpa using h2)
section
variable {X:Cx}{pins:List (Addr×Obj)}{O:St}{H:Hp}{s s1:Shared}{scope:Scope}{N':List Str}{ex:List Addr}{mp:List (Option Nat)}
theorem z7f{α:Type}{x:Str}{l1 l2:List (Str×α)}{c:α}(h:(l1++l2).lookup x=some c):l1.lookup x=some c\/(l1.lookup x=none/\l2.lookup x=some c):=by
 rw[_b0]at h;cases e:l1.lookup x with
 | some d=>rw[e]at h;exact .inl h | none=>rw[e]at h;exact .inr ⟨rfl,h⟩
theorem z2f (I:Inv X pins O H s) (hkd:scope.kind=.function) (hnm:∀y∈scope.names,scope.names.lookup y.1=some y.2) (hfr:∀y∈scope.names,y.2=.free->X.env.kindOf y.1=some .cell\/X.env.kindOf y.1=some .free) (hmp:z0j X.N scope.names N' mp=true) (hex:∀b∈ex,b<s.heap.objs.size/\H b=none/\b≠X.env.locals/\b∉X.fs/\(b∈X.ex\/X.s₀.heap.objs.size<=b)/\(∀x c,X.env.cells.lookup x=some c->c≠b)) (e1:s1.heap=pushCells (s.heap.push {cls:=.type "dict",data:=.dict #[]}) scope.names) (e2:s1.os=s.os) (e3:s1.gens=s.gens): Inv (zk X N' scope ex s H) [] (inner mp O) H s1:=by
 have keep:∀b o,s.heap.get? b=some o->s1.heap.get? b=some o:=λb o e=>by rw[e1];exact _cB _ _ b o (_f _ e)
 have ok:=cellsFrom_ok scope.names (s.heap.push {cls:=.type "dict",data:=.dict #[]}) (s.heap.objs.size+1) [] ⟨λ_ _ hm=>(nomatch hm),List.Pairwise.nil⟩ (by rw[_aw];exact _d _);rw[_aw,<- e1]at ok;have hclo:∀x c,(z36 X.env scope.names []).lookup x=some c->X.env.cells.lookup x=some c:=z1r scope.names [] (λx c h=>by simp at h);have clt:∀x c,X.env.cells.lookup x=some c->c<s.heap.objs.size:=λx c h=>by obtain⟨v,q⟩:=I.cell x c h;exact q.lt
 have own:∀x c,(cellsFrom (s.heap.objs.size+1) scope.names []).lookup x=some c->s1.heap.IsCell c none/\s.heap.objs.size+1<=c:=λx c h=>ok.empty x c (_al h);have both:∀x c,(z5w X scope s.heap.objs.size).cells.lookup x=some c->((cellsFrom (s.heap.objs.size+1) scope.names []).lookup x=some c/\s1.heap.IsCell c none/\s.heap.objs.size+1<=c)\/(X.env.cells.lookup x=some c):=λx c h=>by
  rcases z7f h with q | ⟨_,q⟩;·exact .inl ⟨q,own x c q⟩
  ·exact .inr (hclo x c q)
 refine⟨⟨I.ok.mod,hkd,I.ok.glob,I.ok.blt,_d _,λx y c h1 h2=>?_,λx hx=>?_,λx c hf h=>?_,I.ok.hd,I.ok.frames,.inl rfl,λb hb=>⟨_C (hex b hb).1,λx c h=>?_⟩,λb o e=>I.bs b o e,_H I.ok.bsz I.sz,λb o e hb=>?_,λb hb hf=>?_,I.stack,I.stkFree⟩, e2,by rw[e3];exact I.bare,Un.kept keep,?_,λx c h=>?_,I.hok.fresh (_d _),λx c h=>?_,λp hp=>absurd (show p∈([]:List (Addr×Obj)) from hp) (by simp),I.hok.kept keep,?_⟩
 ·rcases both x c h1 with⟨q1,_,l1⟩ | q1<;>rcases both y c h2 with⟨q2,_,l2⟩ | q2;·exact name_of_addr ok.apart (_al q1) (_al q2)
  ·exact absurd (_w (clt y c q2) (_c4 l1)) (_aY _)
  ·exact absurd (_w (clt x c q1) (_c4 l2)) (_aY _)
  ·exact I.ok.inj x y c q1 q2
 ·have hx':(x,NameKind.cell)∈scope.names\/(x,NameKind.free)∈scope.names:=by
   rcases hx with hx | hx;·exact ur (env:=X.env) hx (.inl rfl)
   ·exact ur (env:=X.env) hx (.inr rfl)
  show ∃c,(cellsFrom (s.heap.objs.size+1) scope.names []++z36 X.env scope.names []).lookup x=some c;rw[_b0];cases e:(cellsFrom (s.heap.objs.size+1) scope.names []).lookup x with
  | some c=>exact⟨c,rfl⟩ | none=>
   rcases hx' with hx' | hx'
   ·obtain⟨c,q⟩:=z0m (sc:=scope) (n:=s.heap.objs.size+1) (hnm (x,.cell) hx');rw[q]at e;cases e
   ·obtain⟨c,q⟩:=z2o (env:=X.env) scope.names [] hx' (I.ok.has x (hfr (x,.free) hx' rfl));exact⟨c,by simpa using q⟩
 ·have hf':scope.names.lookup x=some .cell:=_bZ.mp hf;obtain⟨c',q⟩:=z0m (sc:=scope) (n:=s.heap.objs.size+1) hf';have h':(cellsFrom (s.heap.objs.size+1) scope.names []++z36 X.env scope.names []).lookup x=some c:=h;rw[_b0,q]at h';have e:c'=c:=_A h';subst e;exact _ar (Nat.lt_of_succ_le (own x c' q).2)
 ·rcases both x c h with⟨_,_,l⟩ | q
  ·intro z;rw[z]at l;exact absurd (_w (hex b hb).1 (_c4 l)) (_aY _)
  ·exact (hex b hb).2.2.2.2.2 x c q
 ·rcases (hex b hb).2.2.2.2.1 with z | z;·exact I.ok.noex b o e z
  ·exact absurd (_w (_w (_o e) I.ok.bsz) z) (_aY _)
 ·have q:=I.stkSub b hf;rcases _j.mp q with z | z;·exact (hex b hb).2.2.1 z
  ·exact (hex b hb).2.2.2.1 z
 ·refine⟨λ_=>none,?_,λi x v h1 h2 h3=>?_⟩
  ·rw[e1];exact (Heap.Ns.new s.heap (.type "dict")).keeps (_cB _ _)
  ·have h2':(inner mp O)[i]? = some (some v):=h2;unfold inner at h2';rw[_O]at h2';cases em:mp[i]? with
   | none=>rw[em]at h2';cases h2' | some o=>
    rw[em]at h2';cases o with
    | none=>cases h2' | some j=>
     obtain⟨hj,hl⟩:=z5y hmp h1 em;have hmem:(x,NameKind.free)∈scope.names:=_al hl;have hv:O[j]? = some (some v):=by
      simp only[_aS]at h2';cases eO:O[j]? with
      | none=>rw[eO]at h2';cases h2' | some o=>rw[eO]at h2';exact h2'
     obtain⟨m,hn,hlook⟩:=I.loc;have kx:X.env.kindOf x=some .cell\/X.env.kindOf x=some .free:=hfr _ hmem rfl;obtain⟨u,r,L⟩:=hlook j x v hj hv (by rcases kx with k | k;exact .inr (.inl k);exact .inr (.inr k));refine⟨u,r,.inr ?_⟩;rcases L with⟨k,_⟩ | ⟨_,c,hc,hcell⟩;·rcases kx with k' | k'<;>(rw[k]at k';cases k')
     ·have ncell:(x,NameKind.cell)∉scope.names:=λz=>by
       have a:=hnm _ z;rw[hl]at a;cases a
      refine⟨?_,c,?_,hcell.keeps keep⟩
      ·rcases qO (env:=X.env) hl with q | ⟨_,q⟩;·exact .inr q
       ·exact .inl q
      ·show (cellsFrom (s.heap.objs.size+1) scope.names []++z36 X.env scope.names []).lookup x=some c;rw[_b0];cases e:(cellsFrom (s.heap.objs.size+1) scope.names []).lookup x with
       | some c'=> exact absurd ((uK _ _ _ (_al e)).resolve_left (by simp)) ncell | none=>
        obtain⟨c2,q⟩:=z2o (env:=X.env) scope.names [] hmem ⟨c,hc⟩;have q2:=hclo x c2 q;rw[hc]at q2;cases q2;simpa using q
 ·rcases both x c h with⟨_,q,_⟩ | q;·exact⟨_,q⟩
  ·obtain⟨v,z⟩:=I.cell x c q;exact⟨v,z.keeps keep⟩
 ·rcases both x c h with⟨_,_,l⟩ | q;·exact I.hok.fresh (by omega)
  ·exact I.freeC x c q
 ·unfold inner;rw[_m];exact z2w hmp
end
section
variable {M:Model}{A:Around}{E:Value->Shared->Prop}{s:Shared}
theorem z1A{scope:Scope}{env:Env}{cl:List (Str×Addr)}{Q:Env->Shared->Prop} (h:Q {scope:=scope,locals:=s.heap.objs.size,globals:=env.globals,cells:=cellsFrom (s.heap.objs.size+1) scope.names cl,qual:=env.qual,func:=none,code:=env.code,frame:=env.frame,builtins:=env.builtins} {s with heap:=pushCells (s.heap.push {cls:=.type "dict",data:=.dict #[]}) scope.names}): wpAny M A (newFunctionEnv scope env.globals cl [] env.qual none .none (some env)) Q E s:=by
 simp only[newFunctionEnv,_cU,_P];refine _a (wpAny_alloc ?_);refine _a (wpAny_layCells _ (λname kind cells=>by cases hkc:kind==NameKind.cell<;>simp[hkc]) _ _ _ _ ?_);rw[show ({s with heap:=s.heap.push {cls:=.type "dict",data:=.dict #[]}}:Shared).heap.objs.size=s.heap.objs.size+1 from _aw ..];refine _a ?_;rw[List.forIn_nil];exact _e (_e h)
end
section
variable {prog:Program}{w:World}{A:Around}{E:Value->Shared->Prop}{R:Result->Shared->Prop}{s:Shared}
theorem z41{elt target iter:Expr}{ifs:List Expr}{scope:Scope}{pos:Pos}{it acc:Value}{env:Env}(I:Nat->Shared->Prop) (turn:∀n s,I n s->wpAny (model prog w) A (pyNext it) (λr s₁=>match r with
   | none=>R (.ok .next) s₁ | some v=>wpAny (model prog w) A (letOwnedTupleGo target it v) (λ_ s₁'=>wpAny (model prog w) A (assign target env v) (λ_ s₂=> wpAny (model prog w) A (forIn ifs true λc r=>if r=true then do let ok <- isTrue c env (eval c env);pure (ForInStep.yield ok) else pure (ForInStep.yield r)) (λok s₃=> if ok=true then wpAny (model prog w) A (eval elt env) (λx s₄=> wpAny (model prog w) A (call (.builtin "list.append") [acc,x]) (λ_ s₅=>∃m,m<n/\I m s₅) (λ_ _=>False) s₄) (λ_ _=>False) s₃ else ∃m,m<n/\I m s₃) (λ_ _=>False) s₂) (λ_ _=>False) s₁') (λ_ _=>False) s₁) (λ_ _=>False) s) (n:Nat)(h:I n s): codeAny (model prog w) A (.compLoop (.ListComp elt [⟨target,iter,ifs,0⟩] scope pos) 0 it acc env) R s:=by
 refine codeAny_loop rfl I (λn s hI=>?_) n h;show wpAny _ A ((compTurn (.ListComp elt [⟨target,iter,ifs,0⟩] scope pos) 0 it acc env).onRaise (λx=>do noteFrame x env;theTreesLotGoes x)) _ _ s;refine wpAny_noted ?_;rw[compTurn_list];refine _a (_aO (_a (_E (turn n s hI) (λr s₁ h₁=>?_) λ_ _ h'=>h'.elim)));cases r with
 | none=>exact _e h₁ | some v=>
  refine _a (_E h₁ (λ_ s₁' h₁'=>?_) λ_ _ h'=>h'.elim);refine _a (_E h₁' (λ_ s₂ h₂=>_a (_E h₂ (λok s₃ h₃=>?_) λ_ _ h'=>h'.elim)) λ_ _ h'=>h'.elim);cases ok with
  | false=>exact _e ⟨rfl,h₃⟩ | true=> exact _a (_a (_E h₃ (λx s₄ h₄=>_a (_E h₄ (λ_ s₅ h₅=>_e (_e ⟨rfl,h₅⟩)) λ_ _ h'=>h'.elim)) λ_ _ h'=>h'.elim))
end
def z4Y(X:Cx)(ifs:List Expr)(t:TT):Prop:= ∀(pins:List (Addr×Obj))(s:Shared)(O:St)(H:Hp)(Q:Bool->Hp->Prop),Inv X pins O H s->t O H Q-> wpAny (model X.prog X.w) X.A (forIn ifs true λc r=>if r=true then do let ok <- isTrue c X.env (eval c X.env);pure (ForInStep.yield ok) else pure (ForInStep.yield r)) (TP X pins O Q) X.xe s
theorem zau{X:Cx}:z4Y X [] (λ_ H Q=>Q true H):=λ_ _ _ H _ I h=>wpAny_tests_nil ⟨H,I,h⟩
theorem zaH{X:Cx}{c:Expr}{t:TT}(h:PT X c t):z4Y X [c] t:=λpins s O H Q I hq=>wpAny_tests_one (h pins s O H Q I hq)
theorem Inv.track {X:Cx} {pins:List (Addr×Obj)} {O:St} {H:Hp} {s:Shared} {a:Addr} {o:HO} (I:Inv X pins O H s) (f:z2h X pins H a) (new:wc X.prog X.w (upd H a o) s.heap a o):Inv X pins O (upd H a o) s:=by
 obtain⟨f0,f1,f2,f3,f4,f5⟩:=f;have hs:HOk X.prog X.w (upd H a o) s.heap:=λb u e=>by
  by_cases hb:b=a;·subst hb;rw[zu]at e;cases e;exact new
  ·rw[zf hb]at e;exact (I.hok b u e).stay (λ_ _ _ q=>q) (λc q=>by rw[zf (yN q f0)];exact q) λc xs q=>by rw[zf (yN q f0)];exact q
 exact I.step (h':=s.heap) (g':=s.gens) (d':=s.drawn) (t':=s.toks) (ch:=[a]) (λb hb=>by
  have e:b=a:=by simpa using hb
  subst e;exact⟨f3,f1,f4,f5⟩) (λb o _ _ _ e _=>e) (λb o _ _ _ e _=>⟨o.slots,e⟩) (λb o hb _ n=>by rw[zf (λz=>hb (by simp[z]))];exact n) (λb o _ e=>⟨o,e⟩) (λb xs q=>by rw[zf (yN q f0)];exact q) (λb u xs q=>by rw[zf (yN q f0)];exact q) (λb ps q=>⟨#[],by rw[zf (yN q f0),q];simp⟩) (λ_ q=>q) hs I.bare
def zaG(wi:TI)(mp:List (Option Nat))(g:TG)(ti:TT)(te:TE):TE:=λO H Q=>wi O H λJ H1=>∃W:Nat->Nat->List V->Hp->Prop,(∃m,W 0 m [] H1)/\∀i m ys H,W i m ys H-> (J.stop i H/\ys.length<=sizeLine/\∀p,H p=none->Q (.ref p) (upd H p (.lst ys)))\/ (J.go i H/\∀x H',J.yld i H x H'->g x (inner mp O) H' λO2 H2=>(O2.length=(inner mp O).length/\∀(i:Nat) v,(inner mp O)[i]? = some (some v)->O2[i]? = some (some v))/\ ti O2 H2 λb H3=>if b=true then te O2 H3 λy H4=>ys.length<=sizeLine/\∃m',m'<m/\W (i+1) m' (ys++[y]) H4 else ∃m',m'<m/\W (i+1) m' ys H3)
def jA(X:Cx)(pins:List (Addr×Obj))(O:St)(C:Addr)(Q:VK)(acc:Value)(s':Shared):Prop:= ∃v Hf,Inv X pins O Hf s'/\xL v acc/\Q v Hf/\(∃m,s'.heap.Ns C m)/\z2h X pins Hf C
theorem kn {X:Cx} {tg iter elt:Expr} {ifs:List Expr} {scope:Scope} {pos:Pos} {g:TG} {ti:TT} {te:TE} {N':List Str} {mp:List (Option Nat)} {pins:List (Addr×Obj)} {O:St} {Q:VK} {J:It} {H2:Hp} {s₂:Shared} {it:Addr} {fp:List Addr} {tn:Nat->Heap->Prop} {E:Value->Shared->Prop} {RR:Value->Addr->Result->Shared->Prop} (hc:X.calm=true) (hg:∀ex s H,PG (zk X N' scope ex s H) tg g) (ht:∀ex s H,z4Y (zk X N' scope ex s H) ifs ti) (he:∀ex s H,PE (zk X N' scope ex s H) elt te) (hkd:scope.kind=.function) (hnm:∀y∈scope.names,scope.names.lookup y.1=some y.2) (hfr:∀y∈scope.names,y.2=.free->X.env.kindOf y.1=some .cell\/X.env.kindOf y.1=some .free) (hmp:z0j X.N scope.names N' mp=true) (I2:Inv X pins O H2 s₂) (T:zbW X.prog X.w X.K tg J fp it tn) (st2:tn 0 s₂.heap) (f2:∀b∈fp,z2h X pins H2 b) (W:Nat->Nat->List V->Hp->Prop) (w0:∃m,W 0 m [] H2) (turn:∀i m ys H,W i m ys H-> (J.stop i H/\ys.length<=sizeLine/\∀p,H p=none->Q (.ref p) (upd H p (.lst ys)))\/ (J.go i H/\∀x H',J.yld i H x H'->g x (inner mp O) H' λO2 H2=>(O2.length=(inner mp O).length/\∀(i:Nat) v,(inner mp O)[i]? = some (some v)->O2[i]? = some (some v))/\ ti O2 H2 λb H3=>if b=true then te O2 H3 λy H4=>ys.length<=sizeLine/\∃m',m'<m/\W (i+1) m' (ys++[y]) H4 else ∃m',m'<m/\W (i+1) m' ys H3)) (hRR:∀acc C s',jA X pins O C Q acc s'->RR acc C (.ok .next) s'): wpAny (model X.prog X.w) X.A (newList []) (λacc s₃=>wpAny (model X.prog X.w) X.A (newFunctionEnv scope X.env.globals (z36 X.env scope.names []) [] X.env.qual none .none (some X.env)) (λcenv s₄=> codeAny (model X.prog X.w) X.A (.compStart (.ListComp elt [⟨tg,iter,ifs,0⟩] scope pos) 0 (.ref it) acc {cenv with scope:=relabel scope X.env}) (RR acc cenv.locals) s₄) E s₃) E s₂:=by
 refine _ac ?_;have hf2:H2 s₂.heap.objs.size=none:=I2.hok.fresh (_d _);have fA:z2h X pins H2 s₂.heap.objs.size:=I2.fpOk (_d _) hf2;generalize hacc:s₂.heap.objs.size=acc at hf2 fA ⊢;have I3:Inv X pins O H2 {s₂ with heap:=s₂.heap.push {cls:=.type "list",data:=.seq ([]:List Value).toArray}}:=I2.kept (t':=s₂.toks) λb o e=>_f _ e;have ha3:(s₂.heap.push {cls:=.type "list",data:=.seq ([]:List Value).toArray}).get? acc=some (LCg.lst []):=by rw[<- hacc];exact _s _ rfl
 have sz3:(s₂.heap.push {cls:=.type "list",data:=.seq ([]:List Value).toArray}).objs.size=acc+1:=by rw[_aw,hacc]
 have kp3:∀b o,s₂.heap.get? b=some o->(s₂.heap.push {cls:=.type "list",data:=.seq ([]:List Value).toArray}).get? b=some o:=λb o e=>_f _ e;show wpAny _ _ _ _ _ {s₂ with heap:=s₂.heap.push {cls:=.type "list",data:=.seq ([]:List Value).toArray}};generalize hs3:({s₂ with heap:=s₂.heap.push {cls:=.type "list",data:=.seq ([]:List Value).toArray}}:Shared)=s₃ at I3 ⊢;have ha3':s₃.heap.get? acc=some (LCg.lst []):=by rw[<- hs3];exact ha3
 have sz3':s₃.heap.objs.size=acc+1:=by rw[<- hs3];exact sz3
 have kp3':∀b o,s₂.heap.get? b=some o->s₃.heap.get? b=some o:=by rw[<- hs3];exact kp3
 have flt:∀b∈fp,b<acc:=λb hb=>by
  obtain⟨o,e,_⟩:=T.obj 0 _ st2 b hb;rw[<- hacc];exact _o e
 have fne:∀b∈fp,b≠acc:=λb hb=>_C (flt b hb);have tn3:tn 0 s₃.heap:=T.keep 0 _ _ st2 λb hb o e=>kp3' b o e;refine z1A ?_;rw[wD];have hex:∀b∈acc::fp,b<s₃.heap.objs.size/\H2 b=none/\b≠X.env.locals/\b∉X.fs/\(b∈X.ex\/X.s₀.heap.objs.size<=b)/\(∀x c,X.env.cells.lookup x=some c->c≠b):=λb hb=>by
  rcases _j.mp hb with z | hb
  ·subst z;exact⟨by rw[sz3'];exact _ba _,hf2,fA.2.1,fA.2.2.1,fA.2.2.2.1,fA.2.2.2.2.1⟩
  ·have q:=f2 b hb;exact⟨by rw[sz3'];exact _at (flt b hb),q.1,q.2.1,q.2.2.1,q.2.2.2.1,q.2.2.2.2.1⟩
 have I4:=z2f (N':=N') (mp:=mp) (ex:=acc::fp) (s1:={s₃ with heap:=pushCells (s₃.heap.push {cls:=.type "dict",data:=.dict #[]}) scope.names}) I3 hkd hnm hfr hmp hex rfl rfl rfl;have kp4:∀b o,s₃.heap.get? b=some o->(pushCells (s₃.heap.push {cls:=.type "dict",data:=.dict #[]}) scope.names).get? b=some o:=λb o e=>_cB _ _ b o (_f _ e);generalize hs4:({s₃ with heap:=pushCells (s₃.heap.push {cls:=.type "dict",data:=.dict #[]}) scope.names}:Shared)=s₄ at I4 ⊢;have ha4:s₄.heap.get? acc=some (LCg.lst []):=by rw[<- hs4];exact kp4 _ _ ha3'
 have tn4:tn 0 s₄.heap:=T.keep 0 _ _ tn3 λb hb o e=>by rw[<- hs4];exact kp4 b o e
 have Cne:acc≠s₃.heap.objs.size:=by rw[sz3'];exact _C (_ba _)
 have celln:∀b∈acc::fp,∀x c,(z5w X scope s₃.heap.objs.size).cells.lookup x=some c->c≠b:=λb hb=>(I4.ok.exf b hb).2;have stat:∀{H':Hp} {o:Obj},(∀b∈fp,H' b=none)->∀b∈fp,z2h (zk X N' scope (acc::fp) s₃ H2) [(acc,o)] H' b:=λ{H' o} hn b hb=> ⟨hn b hb,_C (by show b<s₃.heap.objs.size;rw[sz3'];exact _at (flt b hb)),λhf=>I4.ok.exfs b (_F _ hb) hf,.inl (_F _ hb),celln b (_F _ hb),λp hp=>by
   have e:p=(acc,o):=by simpa[zk] using hp
   rw[e];exact _bp (fne b hb)⟩;have pinA:∀{O':St} {H':Hp} {s':Shared} {its:List Value},Inv (zk X N' scope (acc::fp) s₃ H2) [] O' H' s'->H' acc=none->s'.heap.get? acc=some (LCg.lst its)->Inv (zk X N' scope (acc::fp) s₃ H2) [(acc,LCg.lst its)] O' H' s':=λ{O' H' s' its} J' n' e'=> J'.pins_of λp hp=>by
   have e:p=(acc,LCg.lst its):=by simpa using hp
   subst e;refine⟨e',n',Cne,λhf=>I4.ok.exfs acc _T hf,λv z=>?_⟩;have z':Data.seq _ _=Data.cell v:=z;cases z'
 obtain⟨m0,w0⟩:=w0;have loop:codeAny (model X.prog X.w) X.A (.compLoop (.ListComp elt [⟨tg,iter,ifs,0⟩] scope pos) 0 (.ref it) (.ref acc) (z5w X scope s₃.heap.objs.size)) (RR (.ref acc) s₃.heap.objs.size) s₄:=by
  refine z41 (λn s'=>∃i ys its H',Inv (zk X N' scope (acc::fp) s₃ H2) [] (inner mp O) H' s'/\tn i s'.heap/\(∀b∈fp,H' b=none)/\H' acc=none/\s'.heap.get? acc=some (LCg.lst its)/\xt ys its/\W i n ys H') ?_ m0 ⟨0,[],[],H2,I4,tn4,λb hb=>(f2 b hb).1,hf2,ha4,.nil,w0⟩;rintro n s5 ⟨i,ys,its,H5,I5,tn5,n5,na5,ea5,rv5,w5⟩;have I5':=pinA I5 na5 ea5;rcases turn i n ys H5 w5 with⟨stop,hz,q⟩ | ⟨go,step⟩
  ·refine _E (T.done (zk X N' scope (acc::fp) s₃ H2) rfl rfl rfl hc i _ s5 _ H5 (λ_ _=>False) I5' (stat n5) tn5 stop) (λr s6 ⟨hr,I6⟩=>?_) λ_ _ z=>z;subst hr;have ea6:=(I6.pin (acc,LCg.lst its) (by simp)).1;have un:Un (frs X.stack) (acc::fp) H2 H5 s₃.heap s6.heap:=I6.base;have I7:Inv X pins O H5 s6:=I3.call' (s':=s6) (I6.os) un I6.hok I6.bare λb hb=>by
    rcases _j.mp hb with z | hb;·subst z;exact⟨fA.2.2.2.1,fA.2.1,fA.2.2.2.2.1,fA.2.2.2.2.2⟩
    ·exact⟨(f2 b hb).2.2.2.1,(f2 b hb).2.1,(f2 b hb).2.2.2.2.1,(f2 b hb).2.2.2.2.2⟩
   have C7:z2h X pins H5 s₃.heap.objs.size:=I3.fpOk (_d _) I6.free;refine hRR _ _ s6 ⟨.ref acc,upd H5 acc (.lst ys),I7.track ⟨na5,fA.2⟩ ?_,rfl,q acc na5,?_,?_,C7.2⟩;·exact⟨hz,its,_,rv5,ea6⟩
   ·obtain⟨m,hm,_⟩:=I6.loc;exact⟨m,hm⟩
   ·rw[zf (_bp Cne)];exact I6.free
  ·refine _E (T.item (zk X N' scope (acc::fp) s₃ H2) rfl rfl rfl hc i _ s5 _ H5 (λ_ _=>False) I5' (stat n5) tn5 go) (λr s6 ⟨u,hr,h6⟩=>?_) λ_ _ z=>z;subst hr;refine _E h6 (λ_ s7 ⟨x,H7,I7,r7,y7,tn7,n7⟩=>?_) λ_ _ z=>z;have I7':=I7.pinned (stat n7) (T.obj _ _ tn7);refine _E (hg _ _ _ _ s7 (inner mp O) H7 x u _ I7' r7 (step x H7 y7)) (λ_ s8 ⟨O8,H8,I8,⟨kl,kv⟩,q8⟩=>?_) λ_ _ z=>z;refine _E (ht _ _ _ _ s8 O8 H8 _ I8 q8) (λb s9 ⟨H9,I9,q9⟩=>?_) λ_ _ z=>z;have pinB:∀{O':St} {H':Hp} {s':Shared},Inv (zk X N' scope (acc::fp) s₃ H2) ([(acc,LCg.lst its)]++z2a fp s7.heap) O' H' s'->(∀b∈fp,H' b=none)/\H' acc=none/\s'.heap.get? acc=some (LCg.lst its)/\tn (i+1) s'.heap/\∀b∈fp,∀o,s7.heap.get? b=some o->s'.heap.get? b=some o:=λ{O' H' s'} J'=>by
    have z:=J'.pin (acc,LCg.lst its) (by simp[zk]);have zz:∀b∈fp,∀o,s7.heap.get? b=some o->s'.heap.get? b=some o/\H' b=none:=λb hb o e=>by
     have y:=J'.pin (b,o) (_y _ (_y _ (uA hb e)));exact⟨y.1,y.2.1⟩
    refine⟨λb hb=>?_,z.2.1,z.1,T.keep _ _ _ tn7 λb hb o e=>(zz b hb o e).1,λb hb o e=>(zz b hb o e).1⟩;obtain⟨o,e,_⟩:=T.obj _ _ tn7 b hb;exact (zz b hb o e).2
   cases b with
   | false=>
    rw[_i (by decide)]at q9 ⊢;obtain⟨m',lt,w9⟩:=q9;obtain⟨z1,z2,z3,z4,_⟩:=pinB I9;exact⟨m',lt,i+1,ys,its,H9,(I9.pins_of (pins':=[]) (λp hp=>absurd hp (by simp))).weak kl.symm kv,z4,z1,z2,z3,rv5,w9⟩ | true=>
    rw[_g rfl]at q9 ⊢;refine _E (he _ _ _ _ s9 O8 H9 _ I9 q9) (λyv s10 ⟨y,H10,I10,r10,hz,m',lt,w10⟩=>?_) λ_ _ z=>z;obtain⟨z1,z2,z3,z4,_⟩:=pinB I10;have zl:its.toArray.size<=sizeLine:=by rw[_k,<- rv5.length];exact hz
    refine append_at (hsz:=zl) z3 λh11 sb ea11=>?_;have I10':=(I10.pins_of (pins':=[]) (λp hp=>absurd hp (by simp))).weak kl.symm kv;have I11:Inv (zk X N' scope (acc::fp) s₃ H2) [] (inner mp O) H10 {s10 with heap:=h11}:=I10'.turned (t':=s10.toks) (λb o hb e=>(sb.2 b hb).trans e) z2 Cne (.inl _T) (celln acc _T) (λp hp=>absurd hp (by simp[zk]));exact⟨m',lt,i+1,ys++[y],its++[yv],H10,I11,T.keep _ _ _ z4 (λb hb o e=>(sb.2 b (fne b hb)).trans e),z1,z2,ea11.trans (_a5 some (LCg.lst_snoc its yv)),rv5.append (.cons r10 .nil),w10⟩
 exact codeAny_compStart_list loop (T.self _ 0 _ _ _ tn4 loop)
section
variable {X:Cx}{tg iter elt:Expr}{ifs:List Expr}{scope:Scope}{pos spos py:Pos}{wi:TI}{g:TG}{ti:TT}{te:TE}{N':List Str}{mp:List (Option Nat)}
theorem uT{pins:List (Addr×Obj)}{O:St}{H:Hp}{s:Shared}{h':Heap}{C:Addr}(I:Inv X pins O H s)(f:z2h X pins H C)(sb:Heap.SameBut C s.heap h'):Inv X pins O H {s with heap:=h'}:= I.turned (t':=s.toks) (λb o hb e=>(sb.2 b hb).trans e) f.1 f.2.1 f.2.2.2.1 f.2.2.2.2.1 f.2.2.2.2.2
theorem z8o (N':List Str) (mp:List (Option Nat)) (hc:X.calm=true) (hi:PI X tg iter wi) (hg:∀ex s H,PG (zk X N' scope ex s H) tg g) (ht:∀ex s H,z4Y (zk X N' scope ex s H) ifs ti) (he:∀ex s H,PE (zk X N' scope ex s H) elt te) (hkd:scope.kind=.function) (hnm:∀y∈scope.names,scope.names.lookup y.1=some y.2) (hfr:∀y∈scope.names,y.2=.free->X.env.kindOf y.1=some .cell\/X.env.kindOf y.1=some .free) (hmp:z0j X.N scope.names N' mp=true) (hs:∀x,foldedSetIterable iter X.env x=pure x:=by intro _;rfl):PE X (.ListComp elt [⟨tg,iter,ifs,0⟩] scope pos) (zaG wi mp g ti te):=by
 intro pins s O H Q I h;rw[eval_ListComp];refine _bu (use:=none) rfl hs (vC λy hy hf=>I.ok.has _ (hfr y hy hf)) hkd (λy hy hl=>by rw[hnm y hy,hl]) (thn (hi pins s O H _ I h) λxv s₁ h₁=>thn h₁ λitv s₂ h₂=>?_);obtain⟨it,fp,tn,J,H2,e,I2,T,st2,f2,W,w0,turn⟩:=h₂;subst e;refine kn (N':=N') (mp:=mp) (O:=O) (pins:=pins) (Q:=Q) (RR:=λacc C=>compPost (model X.prog X.w) X.A X.xe none (EP X pins O Q) acc C) hc hg ht he hkd hnm hfr hmp I2 T st2 f2 W w0 turn ?_;rintro acc C s' ⟨v,Hf,I3,r,q,⟨m,hm⟩,f⟩;exact⟨m,hm,λh' sb=>⟨v,Hf,uT I3 f sb,r,q⟩⟩
theorem z73 {i:Nat} {y:Str} (N':List Str) (mp:List (Option Nat)) (hN:X.N.Nodup) (hy:X.N[i]? = some y) (hyl:Loc X.env.scope y) (hc:X.calm=true) (hi:PI X tg iter wi) (hg:∀ex s H,PG (zk X N' scope ex s H) tg g) (ht:∀ex s H,z4Y (zk X N' scope ex s H) ifs ti) (he:∀ex s H,PE (zk X N' scope ex s H) elt te) (hkd:scope.kind=.function) (hnm:∀y∈scope.names,scope.names.lookup y.1=some y.2) (hfr:∀y∈scope.names,y.2=.free->X.env.kindOf y.1=some .cell\/X.env.kindOf y.1=some .free) (hmp:z0j X.N scope.names N' mp=true) (hs:∀x,foldedSetIterable iter X.env x=pure x:=by intro _;rfl) (hsw:swapsWith (.ListComp elt [⟨tg,iter,ifs,0⟩] scope pos) (some (.Name y py)) spos.line X.env=pure true:=by rfl) (hf:X.fn y=true\/X.env.scope.names.lookup y=some .local:=by first | exact .inl rfl | exact .inr rfl | assumption): PS X (.Assign [.Name y py] (.ListComp elt [⟨tg,iter,ifs,0⟩] scope pos) spos) (zfJ (zaG wi mp g ti te) (kW i)):=by
 intro pins s O H D I h;rw[_cp _ _ _ _ hsw];refine _a (_aO (_a ?_));show wpAny _ X.A (do let _ <- comprehension (.ListComp elt [⟨tg,iter,ifs,0⟩] scope pos) scope X.env _ (newList []) false (eval iter X.env) (some (assign (.Name y py) X.env))) _ _ s;refine _a (_E (_bu (use:=some (assign (.Name y py) X.env)) (Q:=λ_ s'=>SP X pins D .next s') rfl hs (vC λy hy hf=>I.ok.has _ (hfr y hy hf)) hkd (λy hy hl=>by rw[hnm y hy,hl]) (thn (hi pins s O H _ I h) λxv s₁ h₁=>thn h₁ λitv s₂ h₂=>?_)) (λ_ s' hq=>_e (_e hq)) λ_ _ e=>e);obtain⟨it,fp,tn,J,H2,e,I2,T,st2,f2,W,w0,turn⟩:=h₂;subst e;refine kn (N':=N') (mp:=mp) (O:=O) (pins:=pins) (Q:=λv H'=>D.nx (O.set i (some v)) H') (RR:=λacc C=>compPost (model X.prog X.w) X.A X.xe (some (assign (.Name y py) X.env)) (λ_ s'=>SP X pins D .next s') acc C) hc hg ht he hkd hnm hfr hmp I2 T st2 f2 W w0 turn ?_;rintro acc C s' ⟨v,Hf,I3,r,q,⟨m,hm⟩,f⟩;refine _b9 (jR I3 hN hy hyl r (λs'' I4 ⟨a,sb,ha⟩=>?_) hf);have hC:C≠a:=by
  rcases ha with z | z;·rw[z];exact f.2.1
  ·exact _bp (f.2.2.2.2.1 y a z)
 exact⟨m,hm.sameBut sb hC,λh' sb'=>⟨_,Hf,uT I4 f sb',q⟩⟩
end
section
variable {κ:Type} [DecidableEq κ]
noncomputable def qt(kvs:List (κ×V))(k:κ):Option V:=(kvs.find? λkv=>decide (kv.1=k)).map (·.2)
noncomputable def z3u(kvs:List (κ×V))(k:κ)(v:V):List (κ×V):= if (kvs.any λkv=>decide (kv.1=k))=true then kvs.map (λkv=>if kv.1=k then (kv.1,v) else kv) else kvs++[(k,v)]
theorem z67{k:κ}:qt ([]:List (κ×V)) k=none:=rfl
theorem wK{p:κ×V}{r:List (κ×V)}{k:κ}(e:p.1=k):qt (p::r) k=some p.2:=by simp[qt,_bD,e]
theorem yY{p:κ×V}{r:List (κ×V)}{k:κ}(e:¬ p.1=k):qt (p::r) k=qt r k:=by simp[qt,_bD,e]
theorem z2K(k:κ):∀kvs:List (κ×V),(kvs.any λkv=>decide (kv.1=k))=(qt kvs k).isSome
 | []=>rfl | p::r=>by
  rw[List.any_cons];by_cases e:p.1=k;·simp only[wK e,_bK e,Bool.true_or,_cU]
  ·rw[yY e,_ay e,Bool.false_or];exact z2K k r
theorem z4r(k j:κ)(y:V):∀kvs:List (κ×V),qt kvs k=none->qt (kvs++[(k,y)]) j=if j=k then some y else qt kvs j
 | [],_=>by
  by_cases e:k=j;·rw[_g e.symm];exact wK (p:=(k,y)) e
  ·rw[_i (λz=>e z.symm)];exact yY (p:=(k,y)) e | p::r,hn=>by
  rw[_aa];have hk:¬ p.1=k:=λz=>by rw[wK z]at hn;cases hn
  rw[yY hk]at hn;have ih:=z4r k j y r hn;by_cases e:p.1=j;·rw[wK e,wK e,_i (λz=>hk (e.trans z))]
  ·rw[yY e,yY e,ih]
theorem z1z(kvs:List (κ×V))(k:κ)(v:V):(z3u kvs k v).length<=kvs.length+1:=by
 unfold z3u;split;·rw[_m];omega
 ·rw[_q,_p,_J];omega
theorem z2J{kvs:List (κ×V)}{k:κ}(v:V)(h:qt kvs k=none):z3u kvs k v=kvs++[(k,v)]:=by
 unfold z3u;rw[z2K,h];exact _i (by decide)
theorem zcU.getD{o:Option V}{u:Option Value}{d:V}{d':Value}(r:zcU o u)(rd:xL d d'):xL (o.getD d) (u.getD d'):=by cases o with
 | none=>cases u with
  | none=>exact rd | some _=>exact (show False from r).elim
 | some _=>cases u with
  | none=>exact (show False from r).elim | some _=>exact r
theorem KV.val{kvs:List (κ×V)}{vs:List (κ×Value)}(r:KV kvs vs)(k:κ):zcU (qt kvs k) (valueAt vs k):=by
 unfold KV at r;induction r with
 | nil=>exact True.intro | @cons p q ps qs h t ih=>
  obtain⟨h1,h2⟩:=h;by_cases e:p.1=k
  ·have e':q.1=k:=h1.symm.trans e;have b:valueAt (q::qs) k=some q.2:=by simp[valueAt,_bD,e']
   rw[wK e,b];exact h2
  ·have e':¬ q.1=k:=λz=>e (h1.trans z);have b:valueAt (q::qs) k=valueAt qs k:=by simp[valueAt,_bD,e']
   rw[yY e,b];exact ih
theorem KV.any{kvs:List (κ×V)}{vs:List (κ×Value)}(r:KV kvs vs)(k:κ):(kvs.any λkv=>decide (kv.1=k))=vs.any λkv=>decide (kv.1=k):=by
 unfold KV at r;induction r with
 | nil=>rfl | cons h t ih=>rw[List.any_cons,List.any_cons,ih,h.1]
theorem KV.repl{kvs:List (κ×V)}{vs:List (κ×Value)}(r:KV kvs vs)(k:κ){y:V}{u:Value}(ry:xL y u): KV (kvs.map λkv=>if kv.1=k then (kv.1,y) else kv) (vs.map λkv=>if kv.1=k then (kv.1,u) else kv):=by
 unfold KV at r ⊢;induction r with
 | nil=>exact .nil | @cons p q ps qs h t ih=>
  rw[_t,_t];refine .cons ?_ ih;obtain⟨h1,h2⟩:=h;by_cases e:p.1=k;·rw[_g e,_g (h1.symm.trans e)];exact⟨h1,ry⟩
  ·rw[_i e,_i (λz=>e (h1.trans z))];exact⟨h1,h2⟩
theorem KV.put{kvs:List (κ×V)}{vs:List (κ×Value)}(r:KV kvs vs)(k:κ){y:V}{u:Value}(ry:xL y u):KV (z3u kvs k y) (stored vs k u):=by
 unfold z3u stored;rw[r.any k];by_cases e:(vs.any λkv=>decide (kv.1=k))=true;·rw[_g e,_g e];exact r.repl k ry
 ·rw[_i e,_i e];exact Paired.snoc r ⟨rfl,ry⟩
theorem KV.length{kvs:List (κ×V)}{vs:List (κ×Value)}(r:KV kvs vs):kvs.length=vs.length:=Paired.length r
end
theorem z9m{P:Program}{w:World}{k:Key}{u:Value}(r:xL (kV k) u):(xq P w).is k u=true:=by cases k with
 | inl i=>obtain⟨t,e⟩:=(show ∃t,u=Value.int i t from r);subst e;exact z4U P w i t | inr x=>obtain⟨t,e⟩:=(show ∃t,u=Value.str x t from r);subst e;exact z56 P w x t
theorem z3X{P:Program}{w:World}:∀{ks:List Key}{us:List Value},xt (ks.map kV) us->ItemsAre (xq P w) ks us
 | [],_,r=>by rw[List.map_nil]at r;cases r;exact .nil | k::ks,_,r=>by
  rw[_t]at r;cases r with | cons h t=>exact .cons (z9m h) (z3X t)
abbrev KT(H:Hp):List (List Key×V)->List (List Key×Addr×Value)->Prop:=Paired λp q=>p.1=q.1/\H q.2.1=some (.tup (p.1.map kV))/\xL p.2 q.2.2
theorem KT.val{H:Hp}{kvs:List (List Key×V)}{xs:List (List Key×Addr×Value)}(r:KT H kvs xs)(k:List Key):zcU (qt kvs k) ((atKey xs k).map (·.2)):=by induction r with
 | nil=>exact True.intro | @cons p q ps qs h t ih=>
  obtain⟨h1,_,h2⟩:=h;by_cases e:p.1=k
  ·have e':q.1=k:=h1.symm.trans e;have b:atKey (q::qs) k=some q.2:=by simp[atKey,_bD,e']
   rw[wK e,b];exact h2
  ·have e':¬ q.1=k:=λz=>e (h1.trans z);have b:atKey (q::qs) k=atKey qs k:=by simp[atKey,_bD,e']
   rw[yY e,b];exact ih
section
variable {P:Program}{w:World}{H:Hp}{h:Heap}{a:Addr}
theorem zeJ{u:HO}(ok:HOk P w H h)(e:Rd H a u):wc P w H h a u:=e.ok ok
theorem zcT{kvs:List (Key×V)}(ok:HOk P w H h)(e:Rd H a (.dK kvs)):kvs.length<=sizeLine/\(a==sysModules)=false/\∃vs,KV kvs vs/\h.DictOf (xq P w) a vs:= show wc P w H h a (.dK kvs) from zeJ ok e
theorem zgg{kvs:List (Key×V)}(ok:HOk P w H h)(e:H a=some (.dK kvs)):kvs.length<=sizeLine/\(a==sysModules)=false/\∃vs,KV kvs vs/\h.DictOf (xq P w) a vs:=zcT ok (.inl e)
theorem zbj{ks:List Key}(ok:HOk P w H h)(e:H a=some (.tup (ks.map kV))):(tupleKind (xq P w)).is h ks a:=by
 obtain⟨_,its,r,o,h1,h2,_,n,h3⟩:=(show wc P w H h a (.tup (ks.map kV)) from ok a _ e);exact⟨o,its.toArray,n,h1,h2,h3,by simpa using z3X r⟩
theorem zf3{kvs:List (List Key×V)}(ok:HOk P w H h)(e:Rd H a (.dT kvs)):kvs.length<=sizeLine/\(a==sysModules)=false/\ ∃xs,KT H kvs xs/\h.DictOfH (tupleKind (xq P w)) a xs:=by
 obtain⟨z,y,xs,r,o,es,ep,h1,h2,h3,h4,h5⟩:=(show wc P w H h a (.dT kvs) from zeJ ok e);refine⟨z,y,xs,r,o,es,ep,h1,h2,h3,h4,λx hx=>?_,h5⟩;have all:∀{l:List (List Key×V)}{m:List (List Key×Addr×Value)},KT H l m->∀x∈m,(tupleKind (xq P w)).is h x.1 x.2.1:=by
  intro l m q;induction q with
  | nil=>intro x hx;exact nomatch hx | @cons p q ps qs hq t ih=>
   intro x hx;rcases _j.mp hx with e | hx
   ·subst e;exact zbj ok (by rw[<- hq.1];exact hq.2.1)
   ·exact ih x hx
 exact all r x hx
end
def zgW(H:Hp)(a:Addr)(y:V)(r:Option V):Prop:= (∃kvs k,Rd H a (.dK kvs)/\y=kV k/\r=qt kvs k)\/∃kvs k b,Rd H a (.dT kvs)/\y=.ref b/\H b=some (.tup (k.map kV))/\r=qt kvs k
section
variable {X:Cx}{pins:List (Addr×Obj)}{O:St}{H:Hp}{s:Shared}{a:Addr}{y v:V}{u r:Value}{o:Option V}{A:Around}{E:Value->Shared->Prop}
theorem Inv.big(I:Inv X pins O H s):sysModules<s.heap.objs.size:=by
 have h:mainGlobals<s.heap.objs.size:=(I.mod.glob.keeps I.bk).lt;exact Nat.lt_trans (by decide) h
theorem z7E {h':Heap} {t':Nat} {ob:HO} (I:Inv X pins O H s) (mu:Mut (H a)) (hs:Heap.SameBut a s.heap h') (he:∃q,h'.get? a=some q) (new:wc X.prog X.w (upd H a ob) h' a ob): Inv X pins O (upd H a ob) {s with heap:=h',toks:=t'}:= I.write (x:=a) (e:=a) mu (.inl rfl) (λb q hb z=>(hs.2 b hb).trans z) he new
theorem zaR{P:Program}{w:World}{H':Hp}{h':Heap}{kvs:List (Key×V)}{vs:List (Key×Value)}(z:kvs.length<=sizeLine)(hd:(a==sysModules)=false)(rel:KV kvs vs)(dd:h'.DictOf (xq P w) a vs): wc P w H' h' a (.dK kvs):=⟨z,hd,vs,rel,dd⟩
end
theorem z9Z{P:Program}{w:World}{H:Hp}(h:Heap)(hb:sysModules<h.objs.size):wc P w H (h.push {cls:=.type "dict",data:=.dict #[]}) h.objs.size (.dT []):= ⟨_aT _,_cI.mpr (_bp (_C hb)),[],.nil,_,#[],0,_s _ rfl,⟨rfl,rfl,rfl⟩,rfl,rfl,List.nodup_nil⟩
def zea:TE:=λ_ H Q=>∀p,H p=none->Q (.ref p) (upd H p (.dT []))
section
variable {X:Cx}{pos:Pos}
theorem zaA:PE X (.Dict [] [] pos) zea:=λpins s O H Q I h=> wpAny_Dict_empty ⟨.ref s.heap.objs.size,_,I.laid (a:=s.heap.objs.size) (o:=.dT []) (t':=s.toks) (λ_ _ q=>_f _ q) (_d _) (z9Z s.heap I.big),rfl,h _ (I.hok.fresh (_d _))⟩
end
structure M2(X:Cx)(o:Expr)(m:Str)(apos:Pos)(e f:Expr)(cpos:Pos):Prop where
 base:attributeBase o m X.env (eval o X.env)=eval o X.env
 few:((backTo cpos (starEach [e,f] X.env)).all (λx=>!x.1)&&(backToKw cpos (keywordEach [] X.env)).all (λx=>x.1.isSome) && decide (([e,f]:List Expr).length+([]:List Keyword).length+(if ([]:List Keyword).isEmpty then 0 else 1)<30))=true
 line:(apos.endLine==cpos.line)=true
 trees:backTo cpos (starEach [e,f] X.env)=[(false,eval e X.env),(false,eval f X.env)]
def IsD(H:Hp)(a:Addr):Prop:=(∃kvs,Rd H a (.dK kvs))\/∃kvs,Rd H a (.dT kvs)
theorem zbd{X:Cx}{pins:List (Addr×Obj)}{O:St}{H:Hp}{s:Shared}{a:Addr}(I:Inv X pins O H s)(d:IsD H a): s.TypeIs (.ref a) "dict"/\(∀b,Value.ref a=.ref b->∃ob,s.heap.get? b=some ob/\ob.dict=none)/\(a==sysModules)=false:=by
 rcases d with⟨kvs,e⟩ | ⟨kvs,e⟩
 ·obtain⟨_,hd,vs,_,dd⟩:=zcT I.hok e;refine⟨dd.typeIs,λb q=>?_,hd⟩;cases q;obtain⟨ob,_,_,h1,h2,_⟩:=dd;exact⟨ob,h1,h2.2.1⟩
 ·obtain⟨_,hd,xs,_,dd⟩:=zf3 I.hok e;refine⟨dd.typeIs,λb q=>?_,hd⟩;cases q;obtain⟨ob,_,_,h1,h2,_⟩:=dd;exact⟨ob,h1,h2.2.1⟩
section
variable {X:Cx}{pins:List (Addr×Obj)}{O:St}{H:Hp}{s:Shared}{a:Addr}{y d:V}{u r:Value}{o:Option V}{A:Around}{E:Value->Shared->Prop}
theorem zdF{Q:Value->Shared->Prop}(hu:A.units+1<cLine)(I:Inv X pins O H s)(g:zgW H a y o)(ry:xL y u)(rd:xL d r)(h:∀w' s',Inv X pins O H s'->xL (o.getD d) w'->Q w' s'): wpAny (model X.prog X.w) A (call (.builtin "dict.get") [.ref a,u,r]) Q E s:=by
 rcases g with⟨kvs,k,e,ey,l⟩ | ⟨kvs,k,b,e,ey,eb,l⟩
 ·subst ey;obtain⟨z,hd,vs,rel,dd⟩:=zcT I.hok e;refine _du _bl dd.typeIs _ce (_b4 _ _ _) (meets_dict_get_default (xq X.prog X.w) a (z9m ry) hd r) ⟨_,dd.mapOf,h _ _ (I.tok _) ?_⟩;rw[l];exact (rel.val k).getD rd
 ·subst ey;cases (show u=Value.ref b from ry);obtain⟨z,hd,xs,rel,dd⟩:=zf3 I.hok e;refine _du _bl dd.typeIs _ce (_b4 _ _ _) (meetsH_dict_get_default (tupleKind (xq X.prog X.w)) a b hd r) ⟨tupleKind_room_in1 hu,k,xs,zbj I.hok eb,dd,h _ _ (I.tok _) ?_⟩;rw[l];exact (rel.val k).getD rd
end
def zeL(td ty tx:TE):TE:=λO H Q=>td O H λx H1=>∃a,x=.ref a/\IsD H1 a/\ty O H1 λy H2=>tx O H2 λz H3=>∃o,zgW H3 a y o/\Q (o.getD z) H3
section
variable {X:Cx}{o e f:Expr}{apos cpos:Pos}{td ty tx:TE}
theorem z9L(hu:X.A.units+1<cLine)(ho:PE X o td)(he:PE X e ty)(hf:PE X f tx)(m:M2 X o "get" apos e f cpos):PE X (.Call (.Attribute o "get" apos) [e,f] [] cpos) (zeL td ty tx):=by
 intro pins s O H Q I h;refine wpAny_Call_method m.base m.few m.line _b5 _bl PySem.F.type_dict_get (thn (ho pins s O H _ I h) λu s1 ⟨x,H1,I1,rx,a,ex,d,q1⟩=>?_);subst ex;obtain rfl:u=Value.ref a:=rx;obtain⟨t1,t2,_⟩:=zbd I1 d;refine⟨t1,t2,?_⟩;rw[m.trees];refine _cd rfl (_cv (_bd (thn (he pins s1 O H1 _ I1 q1) λiv s2 ⟨y,H2,I2,ry,q2⟩=> _bd (thn (hf pins s2 O H2 _ I2 q2) λfv s3 ⟨z,H3,I3,rz,ov,g,q3⟩=>_cb ?_))));exact zdF hu I3 g ry rz λw' s4 I4 rw'=>⟨_,H3,I4,rw',q3⟩
end
end L2
set_option maxHeartbeats 4000000
namespace Dd
open L2
theorem z38(xs:List Expr)(k:Nat)(p:Pos)(es:List Expr)(env:Env):starEach (.Tuple xs k p::es) env=(false,eval (.Tuple xs k p) env)::starEach es env:=rfl
theorem z6i(xs:List Expr)(p:Pos)(es:List Expr)(env:Env):starEach (.List xs p::es) env=(false,eval (.List xs p) env)::starEach es env:=rfl
theorem z0A(f:Expr)(xs:List Expr)(ks:List Keyword)(p:Pos)(es:List Expr)(env:Env):starEach (.Call f xs ks p::es) env=(false,eval (.Call f xs ks p) env)::starEach es env:=rfl
theorem z2W(a:Expr)(o:Operator)(b:Expr)(p:Pos)(es:List Expr)(env:Env):starEach (.BinOp a o b p::es) env=(false,eval (.BinOp a o b p) env)::starEach es env:=rfl
theorem z35(a b:Expr)(p:Pos)(es:List Expr)(env:Env):starEach (.Subscript a b p::es) env=(false,eval (.Subscript a b p) env)::starEach es env:=rfl
theorem yE(a:Expr)(g:List Comprehension)(sc:Scope)(p:Pos)(es:List Expr)(env:Env):starEach (.ListComp a g sc p::es) env=(false,eval (.ListComp a g sc p) env)::starEach es env:=rfl
theorem z2b(c:Const)(j:Nat)(p:Pos)(es:List Expr)(env:Env):starEach (.Constant c j p::es) env=(false,eval (.Constant c j p) env)::starEach es env:=rfl
theorem zp(x:Str)(p:Pos)(es:List Expr)(env:Env):starEach (.Name x p::es) env=(false,eval (.Name x p) env)::starEach es env:=rfl
theorem zcs(o:UnaryOp)(a:Expr)(p:Pos)(es:List Expr)(env:Env):starEach (.UnaryOp o a p::es) env=(false,eval (.UnaryOp o a p) env)::starEach es env:=rfl
inductive D where | non | bl (b:Bool) | int (i:Int) | str (x:Str) | tup (xs:List D) | lst (xs:List D) | dct | loc (l:Nat) | dlo (l:Nat) | fn (x:Str) | exc (x:Str) | scr (xs:List D)
abbrev Sto:=List (List D)
abbrev Ev:=List (Option D)
inductive R(α:Type) where | ok (a:α)(s:Sto) | ex (c:Str)(s:Sto) | no
noncomputable def R.bind{α β:Type}(r:R α)(k:α->Sto->R β):R β:=match r with
 | .ok a s=>k a s | .ex c s=>.ex c s | .no=>.no
@[simp] theorem R.bind_ok {α β:Type}(a:α)(s:Sto)(k:α->Sto->R β):(R.ok a s).bind k=k a s:=id rfl
abbrev Rb:=@R.bind_ok
noncomputable def D.flat:D->Bool
 | .tup xs=>flats xs | .lst xs=>flats xs | .scr xs=>flats xs | .loc _=>false | .dlo _=>false | _=>true
where flats:List D->Bool
 | []=>true | x::xs=>x.flat&&flats xs
noncomputable def zhv(C a:Addr):HO:=.ext λh=>∃o vs,h.get? a=some o/\o.cls=.ref C/\o.data=.fields vs
structure Gm where
 m:Str->Option Value
 K:W.Frag
noncomputable abbrev gm(X:Cx):Gm:=⟨X.mg,X.K⟩
def IsL(H:Hp)(a:Addr):Prop:=∃vs,H a=some (.lst vs)
def IsC(H:Hp)(a:Addr):Prop:=(∃kvs,H a=some (.dT kvs))\/(∃o kvs,H a=some (.frz o (.dT kvs)))\/(∃kvs,kvs≠[]/\H a=some (.dK kvs))\/∃o kvs,H a=some (.frz o (.dK kvs))
def Own(H:Hp)(Y:List Addr)(b:Addr):Prop:=∃a∈Y,∃kvs k,H a=some (.dK kvs)/\(k,V.ref b)∈kvs
theorem IsL.notC{H:Hp}{a:Addr}(h:IsL H a)(h':IsC H a):False:=by obtain⟨_,e⟩:=h;rcases h' with⟨_,e'⟩ | ⟨_,_,e'⟩ | ⟨_,_,e'⟩ | ⟨_,_,e'⟩<;>rw[e]at e'<;>cases e'
noncomputable def zhZ:Key->D
 | .inl i=>.int i | .inr x=>.str x
noncomputable def zi2:V->Option D
 | .int i=>some (.int i) | .bl b=>some (.bl b) | _=>none
noncomputable def zcQ:List D->List (List Key×V)->Prop
 | [],kvs=>kvs=[] | d::ds,kvs=>∃k v x r,kvs=(k,v)::r/\zi2 v=some x/\d=.tup [.tup (k.map zhZ),x]/\zcQ ds r
def KL(K:W.Frag)(a:Addr)(xs:List V):Prop:=∃(o:Obj)(its:Array Value)(n:Nat),K.lookup a=some o/\o.cls=.type "list"/\o.dict=none/\o.data=.seq its n/\its.size<=sizeLine/\xt xs its.toList
section
variable (mg:Gm)
mutual
noncomputable def Den(H:Hp)(Y:List Addr):D->V->Prop
 | .non,v=>v=.non | .bl b,v=>v=.bl b | .int i,v=>v=.int i | .str x,v=>v=.str x | .tup ds,v=>∃a vs,v=.ref a/\H a=some (.tup vs)/\zA H Y ds vs | .lst ds,v=>∃a o vs,v=.ref a/\H a=some (.frz o (.lst vs))/\zA H Y ds vs | .dct,v=>∃a,v=.ref a/\H a=some (.dK []) | .loc l,v=>∃a,v=.ref a/\Y[l]? = some a/\IsL H a | .dlo l,v=>∃a,v=.ref a/\Y[l]? = some a/\IsC H a | .fn x,v=>∃a,v=.ref a/\mg.m x=some (.ref a) | .exc x,v=>∃a C,v=.ref a/\mg.m x=some (.ref C)/\H a=some (zhv C a) | .scr ds,v=>∃a vs,v=.ref a/\((∃o,H a=some (.frz o (.lst vs)))\/KL mg.K a vs)/\zA H Y ds vs
noncomputable def zA(H:Hp)(Y:List Addr):List D->List V->Prop
 | [],vs=>vs=[] | d::ds,vs=>∃v r,vs=v::r/\Den H Y d v/\zA H Y ds r
end
noncomputable def vH(H:Hp)(Y:List Addr):List D->List (Key×V)->Prop
 | [],kvs=>kvs=[] | d::ds,kvs=>∃k ys b vs r,kvs=(Sum.inl k,V.ref b)::r/\zA mg H Y ys vs/\((d=.tup [.int k,.lst ys]/\H b=some (.lst vs))\/(d=.tup [.int k,.lst ys,.non]/\∃o,H b=some (.frz o (.lst vs))))/\vH H Y ds r
def zc5(ys:List D):Prop:=∀d∈ys,∃k zs,d=.tup [.int k,.lst zs,.non]
def uE(H:Hp)(Y:List Addr)(xs:List D)(a:Addr):Prop:=(∃vs,H a=some (.lst vs)/\zA mg H Y xs vs)\/(∃kvs,H a=some (.dT kvs)/\zcQ xs kvs)\/(∃o kvs ys,H a=some (.frz o (.dT kvs))/\xs=.non::ys/\zcQ ys kvs)\/(∃kvs,kvs≠[]/\H a=some (.dK kvs)/\vH mg H Y xs kvs)\/∃o kvs ys,H a=some (.frz o (.dK kvs))/\xs=.non::ys/\vH mg H Y ys kvs/\zc5 ys/\kvs≠[]
structure Rep(H:Hp)(Y:List Addr)(s:Sto):Prop where
 len:Y.length=s.length
 nd:Y.Nodup
 cell:∀(l:Nat)(xs:List D),s[l]? = some xs->∃a,Y[l]? = some a/\uE mg H Y xs a
 flat:∀xs∈s,D.flat.flats xs=true
 own:∀b,Own H Y b->b∉Y
 uq:∀a∈Y,∀a'∈Y,∀kvs kvs' (i j:Nat) k k' b,H a=some (.dK kvs)->H a'=some (.dK kvs')->kvs[i]? = some (k,V.ref b)->kvs'[j]? = some (k',V.ref b)->a=a'/\i=j
structure yA(H:Hp)(Y:List Addr)(H':Hp)(Y':List Addr)(s':Sto):Prop where
 rep:Rep mg H' Y' s'
 pre:Y <+: Y'
 keep:∀b o,H b=some o->b∉Y->(Own H Y b->∀vs,o≠.lst vs)->H' b=some o
 new:∀a∈Y',a∉Y->H a=none
 mt:∀a∈Y,(IsL H a/\IsL H' a)\/(IsC H a/\IsC H' a/\∀o u,H a=some (.frz o u)->H' a=some (.frz o u))
 dom:∀b,H' b=none->H b=none
 ow:∀b,Own H' Y' b->Own H Y b\/H b=none
end
section
variable {mg:Gm}{H H' H1 H2:Hp}{Y Y' Y1 Y2:List Addr}{s s' s1 s2:Sto}
theorem uE.kind{xs:List D}{a:Addr}(h:uE mg H Y xs a):IsL H a\/IsC H a:=h.imp (λ⟨vs,e,_⟩=>⟨vs,e⟩) λh=>h.imp (λ⟨k,e,_⟩=>⟨k,e⟩) λh=>h.imp (λ⟨o,k,_,e,_⟩=>⟨o,k,e⟩) λh=>h.imp (λ⟨k,n,e,_⟩=>⟨k,n,e⟩) λ⟨o,k,_,e,_⟩=>⟨o,k,e⟩
theorem Rep.mt(r:Rep mg H Y s):∀a∈Y,IsL H a\/IsC H a:=λa ha=>by
 obtain⟨l,hl,e⟩:=_ah.mp ha;have hl':l<s.length:=by rw[<- r.len];exact hl
 obtain⟨b,e1,c⟩:=r.cell l s[l] (_r hl');rw[_r hl]at e1;have:Y[l]=b:=_A e1;rw[<- e,this];exact c.kind
theorem Rep.at_(r:Rep mg H Y s){l:Nat}{xs:List D}{a:Addr}(h:s[l]? = some xs)(ha:Y[l]? = some a)(k:IsL H a):∃vs,H a=some (.lst vs)/\zA mg H Y xs vs:=by
 obtain⟨b,e1,c⟩:=r.cell l xs h;rw[ha]at e1;cases e1;rcases c with c | c;·exact c
 ·exact (k.notC (c.imp (λ⟨k,e,_⟩=>⟨k,e⟩) λh=>h.imp (λ⟨o,k,_,e,_⟩=>⟨o,k,e⟩) λh=>h.imp (λ⟨k,n,e,_⟩=>⟨k,n,e⟩) λ⟨o,k,_,e,_⟩=>⟨o,k,e⟩)).elim
theorem Rep.dic(r:Rep mg H Y s){l:Nat}{xs:List D}{a:Addr}(h:s[l]? = some xs)(ha:Y[l]? = some a)(k:IsC H a):(∃kvs,H a=some (.dT kvs)/\zcQ xs kvs)\/(∃o kvs ys,H a=some (.frz o (.dT kvs))/\xs=.non::ys/\zcQ ys kvs)\/(∃kvs,kvs≠[]/\H a=some (.dK kvs)/\vH mg H Y xs kvs)\/∃o kvs ys,H a=some (.frz o (.dK kvs))/\xs=.non::ys/\vH mg H Y ys kvs/\zc5 ys/\kvs≠[]:=by
 obtain⟨b,e1,c⟩:=r.cell l xs h;rw[ha]at e1;cases e1;rcases c with⟨vs,e,_⟩ | c;·exact (IsL.notC ⟨vs,e⟩ k).elim
 ·exact c
theorem yA.refl(r:Rep mg H Y s):yA mg H Y H Y s:=⟨r,_aW _,λ_ _ h _ _=>h,λa h1 h2=>absurd h1 h2,λa ha=>(r.mt a ha).imp (λh=>⟨h,h⟩) λh=>⟨h,h,λ_ _ q=>q⟩,λ_ h=>h,λ_ h=>.inl h⟩
theorem yA.trans(a:yA mg H Y H1 Y1 s1)(b:yA mg H1 Y1 H2 Y2 s2):yA mg H Y H2 Y2 s2:=by
 refine⟨b.rep,a.pre.trans b.pre,λc o h n g=>?_,λc h1 h2=>?_,λc hc=>?_,λc h=>a.dom c (b.dom c h),λc h=>(b.ow c h).elim (a.ow c) λz=>.inr (a.dom c z)⟩
 ·refine b.keep c o (a.keep c o h n g) (λz=>?_) λz=>?_;·rw[a.new c z n]at h;cases h
  ·rcases a.ow c z with z | z;·exact g z
   ·rw[z]at h;cases h
 ·by_cases h3:c∈Y1;·exact a.new c h3 h2
  ·exact a.dom c (b.new c h1 h3)
 ·have hc1:c∈Y1:=a.pre.subset hc;rcases a.mt c hc with⟨k1,k2⟩ | ⟨k1,k2,k3⟩
  ·rcases b.mt c hc1 with⟨_,q⟩ | ⟨q,_,_⟩;·exact .inl ⟨k1,q⟩
   ·exact (k2.notC q).elim
  ·rcases b.mt c hc1 with⟨q,_⟩ | ⟨_,q,q3⟩;·exact (q.notC k2).elim
   ·exact .inr ⟨k1,q,λo u z=>q3 o u (k3 o u z)⟩
theorem yA.stay(stp:yA mg H Y H' Y' s'){b:Addr}{o:HO}(h:H b=some o)(hn:∀vs,o≠.lst vs)(hn2:∀kvs,o≠.dT kvs:=by intro vs z;cases z)(hn3:∀kvs,kvs≠[]->o≠.dK kvs:=by intro kvs g z;cases z<;>exact g rfl):H' b=some o:=by
 by_cases hb:b∈Y
 ·rcases stp.mt b hb with⟨⟨vs,e⟩,_⟩ | ⟨⟨vs,e⟩ | ⟨p,vs,e⟩ | ⟨vs,g,e⟩ | ⟨p,vs,e⟩,_,q⟩
  ·rw[h]at e;exact absurd (_A e) (hn vs)
  ·rw[h]at e;exact absurd (_A e) (hn2 vs)
  ·rw[h]at e;cases e;exact q _ _ h
  ·rw[h]at e;exact absurd (_A e) (hn3 vs g)
  ·rw[h]at e;cases e;exact q _ _ h
 ·exact stp.keep b o h hb λ_=>hn
mutual
theorem Den.mono(stp:yA mg H Y H' Y' s'):∀{d:D}{v:V},Den mg H Y d v->Den mg H' Y' d v
 | .non,_,h=>by simpa[Den] using h | .bl _,_,h=>by simpa[Den] using h | .int _,_,h=>by simpa[Den] using h | .str _,_,h=>by simpa[Den] using h | .tup ds,v,h=>by
  simp only[Den]at h ⊢;obtain⟨a,vs,e,h1,h2⟩:=h;exact⟨a,vs,e,stp.stay h1 (by intro vs z;cases z),zA.mono stp h2⟩ | .lst ds,v,h=>by
  simp only[Den]at h ⊢;obtain⟨a,o,vs,e,h1,h2⟩:=h;exact⟨a,o,vs,e,stp.stay h1 (by intro vs z;cases z),zA.mono stp h2⟩ | .dct,v,h=>by
  simp only[Den]at h ⊢;obtain⟨a,e,h1⟩:=h;exact⟨a,e,stp.stay h1 (by intro vs z;cases z)⟩ | .loc l,v,h=>by
  simp only[Den]at h ⊢;obtain⟨a,e,h1,k⟩:=h;obtain⟨t,ht⟩:=stp.pre;refine⟨a,e,?_,?_⟩
  ·rw[<- ht,_B (_b.mp h1).1];exact h1
  ·rcases stp.mt a (_c h1) with⟨_,q⟩ | ⟨q,_,_⟩;·exact q
   ·exact (k.notC q).elim | .dlo l,v,h=>by
  simp only[Den]at h ⊢;obtain⟨a,e,h1,k⟩:=h;obtain⟨t,ht⟩:=stp.pre;refine⟨a,e,?_,?_⟩
  ·rw[<- ht,_B (_b.mp h1).1];exact h1
  ·rcases stp.mt a (_c h1) with⟨q,_⟩ | ⟨_,q,_⟩;·exact (q.notC k).elim
   ·exact q | .fn _,_,h=>by simpa[Den] using h | .exc x,v,h=>by
  simp only[Den]at h ⊢;obtain⟨a,C,e,h1,h2⟩:=h;exact⟨a,C,e,h1,stp.stay h2 (by intro vs z;cases z)⟩ | .scr ds,v,h=>by
  simp only[Den]at h ⊢;obtain⟨a,vs,e,h1,h2⟩:=h;exact⟨a,vs,e,h1.imp (λ⟨o,h1⟩=>⟨o,stp.stay h1 (by intro vs z;cases z)⟩) id,zA.mono stp h2⟩
theorem zA.mono(stp:yA mg H Y H' Y' s'):∀{ds:List D}{vs:List V},zA mg H Y ds vs->zA mg H' Y' ds vs
 | [],_,h=>by simpa[zA] using h | d::ds,vs,h=>by
  simp only[zA]at h ⊢;obtain⟨v,r,e,h1,h2⟩:=h;exact⟨v,r,e,Den.mono stp h1,zA.mono stp h2⟩
end
theorem zA.length:∀{ds:List D}{vs:List V},zA mg H Y ds vs->vs.length=ds.length
 | [],_,h=>by simp only[zA]at h;rw[h];rfl | d::ds,vs,h=>by
  simp only[zA]at h;obtain⟨v,r,rfl,_,h2⟩:=h;simp[zA.length h2]
theorem zA.get:∀{ds:List D}{vs:List V}{i:Nat}{d:D},zA mg H Y ds vs->ds[i]? = some d->∃v,vs[i]? = some v/\Den mg H Y d v
 | [],_,_,_,_,e=>by simp at e | d::ds,vs,0,d',h,e=>by
  simp only[zA]at h;obtain⟨v,r,rfl,h1,_⟩:=h;simp at e;subst e;exact⟨v,by simp,h1⟩ | d::ds,vs,i+1,d',h,e=>by
  simp only[zA]at h;obtain⟨v,r,rfl,_,h2⟩:=h;obtain⟨u,h3,h4⟩:=zA.get (i:=i) h2 (by simpa using e);exact⟨u,by simpa using h3,h4⟩
theorem zA.append:∀{ds es:List D}{vs us:List V},zA mg H Y ds vs->zA mg H Y es us->zA mg H Y (ds++es) (vs++us)
 | [],_,_,_,h,h'=>by simp only[zA]at h;subst h;simpa using h' | d::ds,_,_,_,h,h'=>by
  simp only[zA]at h;obtain⟨v,r,rfl,h1,h2⟩:=h;simp only[_aa,zA];exact⟨v,_,rfl,h1,zA.append h2 h'⟩
theorem zA.nil:zA mg H Y [] []:=by simp[zA]
theorem zA.cons {d:D} {ds:List D} {v:V} {vs:List V} (h:Den mg H Y d v) (h':zA mg H Y ds vs):zA mg H Y (d::ds) (v::vs):=by
 simp only[zA];exact⟨v,vs,rfl,h,h'⟩
theorem zA.one{d:D}{v:V}(h:Den mg H Y d v):zA mg H Y [d] [v]:=.cons h .nil
theorem zA.take:∀{ds:List D}{vs:List V}(n:Nat),zA mg H Y ds vs->zA mg H Y (ds.take n) (vs.take n)
 | ds,vs,0,h=>by simp[zA] | [],vs,n+1,h=>by simp only[zA]at h;subst h;simp[zA] | d::ds,vs,n+1,h=>by
  simp only[zA]at h;obtain⟨v,r,rfl,h1,h2⟩:=h;simp only[List.take_succ_cons];exact .cons h1 (zA.take n h2)
theorem zA.drop:∀{ds:List D}{vs:List V}(n:Nat),zA mg H Y ds vs->zA mg H Y (ds.drop n) (vs.drop n)
 | ds,vs,0,h=>by simpa using h | [],vs,n+1,h=>by simp only[zA]at h;subst h;simp[zA] | d::ds,vs,n+1,h=>by
  simp only[zA]at h;obtain⟨v,r,rfl,h1,h2⟩:=h;simpa using zA.drop n h2
theorem zA.set:∀{ds:List D}{vs:List V}{d:D}{v:V}(n:Nat),zA mg H Y ds vs->Den mg H Y d v->zA mg H Y (ds.set n d) (vs.set n v)
 | [],vs,_,_,n,h,_=>by simp only[zA]at h;subst h;simp[zA] | d::ds,vs,_,_,0,h,h'=>by
  simp only[zA]at h;obtain⟨v,r,rfl,h1,h2⟩:=h;simpa using zA.cons h' h2 | d::ds,vs,_,_,n+1,h,h'=>by
  simp only[zA]at h;obtain⟨v,r,rfl,h1,h2⟩:=h;simpa using zA.cons h1 (zA.set n h2 h')
mutual
theorem Den.flatten(k:∀b o,H b=some o->(∀vs,o≠.lst vs)->(∀kvs,o≠.dT kvs)->(∀kvs,kvs≠[]->o≠.dK kvs)->H' b=some o):∀{d:D}{v:V},d.flat=true->Den mg H Y d v->Den mg H' Y' d v
 | .non,_,_,h=>by simpa[Den] using h | .bl _,_,_,h=>by simpa[Den] using h | .int _,_,_,h=>by simpa[Den] using h | .str _,_,_,h=>by simpa[Den] using h | .tup ds,v,f,h=>by
  simp only[Den]at h ⊢;obtain⟨a,vs,e,h1,h2⟩:=h;exact⟨a,vs,e,k a _ h1 (by intro vs z;cases z) (by intro vs z;cases z) (by intro vs g z;cases z<;>exact g rfl),zA.flatten k (by simpa[D.flat] using f) h2⟩ | .lst ds,v,f,h=>by
  simp only[Den]at h ⊢;obtain⟨a,o,vs,e,h1,h2⟩:=h;exact⟨a,o,vs,e,k a _ h1 (by intro vs z;cases z) (by intro vs z;cases z) (by intro vs g z;cases z<;>exact g rfl),zA.flatten k (by simpa[D.flat] using f) h2⟩ | .dct,v,_,h=>by
  simp only[Den]at h ⊢;obtain⟨a,e,h1⟩:=h;exact⟨a,e,k a _ h1 (by intro vs z;cases z) (by intro vs z;cases z) (by intro vs g z;cases z<;>exact g rfl)⟩ | .loc l,v,f,h=>by simp[D.flat]at f | .dlo l,v,f,h=>by simp[D.flat]at f | .fn _,_,_,h=>by simpa[Den] using h | .exc x,v,_,h=>by
  simp only[Den]at h ⊢;obtain⟨a,C,e,h1,h2⟩:=h;exact⟨a,C,e,h1,k a _ h2 (by intro vs z;cases z) (by intro vs z;cases z) (by intro vs g z;cases z<;>exact g rfl)⟩ | .scr ds,v,f,h=>by
  simp only[Den]at h ⊢;obtain⟨a,vs,e,h1,h2⟩:=h;exact⟨a,vs,e,h1.imp (λ⟨o,h1⟩=>⟨o,k a _ h1 (by intro vs z;cases z) (by intro vs z;cases z) (by intro vs g z;cases z<;>exact g rfl)⟩) id,zA.flatten k (by simpa[D.flat] using f) h2⟩
theorem zA.flatten(k:∀b o,H b=some o->(∀vs,o≠.lst vs)->(∀kvs,o≠.dT kvs)->(∀kvs,kvs≠[]->o≠.dK kvs)->H' b=some o):∀{ds:List D}{vs:List V},D.flat.flats ds=true->zA mg H Y ds vs->zA mg H' Y' ds vs
 | [],_,_,h=>by simpa[zA] using h | d::ds,vs,f,h=>by
  simp only[zA]at h ⊢;simp only[D.flat.flats,_u]at f;obtain⟨v,r,e,h1,h2⟩:=h;exact⟨v,r,e,Den.flatten k f.1 h1,zA.flatten k f.2 h2⟩
end
end
def okR{α β:Type}(mg:Gm)(E:XK)(H:Hp)(Y:List Addr)(Dn:Hp->List Addr->α->β->Prop)(r:R α)(Q:β->Hp->Prop):Prop:=match r with
 | .ok a s'=>∀b H' Y',yA mg H Y H' Y' s'->Dn H' Y' a b->Q b H' | .ex c s'=>∀H' Y' C,yA mg H Y H' Y' s'->mg.m c=some (.ref C)->E (.ref C) none H' | .no=>False
section
variable {α β α2 β2:Type}{mg:Gm}{E:XK}{H H' H1 H2:Hp}{Y Y' Y1 Y2:List Addr}{s s' s1 s2:Sto}{Dn:Hp->List Addr->α->β->Prop}{Dn2:Hp->List Addr->α2->β2->Prop}
theorem okR.rebase{r:R α}{Q:β->Hp->Prop}(h:okR mg E H Y Dn r Q)(stp:yA mg H Y H1 Y1 s1):okR mg E H1 Y1 Dn r Q:=by cases r with
 | ok a s'=>exact λb H' Y' stp'=>h b H' Y' (stp.trans stp') | ex c s'=>exact λH' Y' C stp'=>h H' Y' C (stp.trans stp') | no=>exact h
theorem okR.bind{r:R α}{k:α->Sto->R α2}{Q:β2->Hp->Prop}(h:okR mg E H Y Dn2 (r.bind k) Q): okR mg E H Y Dn r (λb H1=>∃Y1 s1 a,yA mg H Y H1 Y1 s1/\Dn H1 Y1 a b/\okR mg E H1 Y1 Dn2 (k a s1) Q):=by cases r with
 | ok a s'=>exact λb H' Y' stp dn=>⟨Y',s',a,stp,dn,okR.rebase h stp⟩ | ex c s'=>exact h | no=>exact h
theorem okR.imp{r:R α}{Q Q':β->Hp->Prop}(h:okR mg E H Y Dn r Q)(i:∀b H',Q b H'->Q' b H'):okR mg E H Y Dn r Q':=by cases r with
 | ok a s'=>exact λb H' Y' stp dn=>i b H' (h b H' Y' stp dn) | ex c s'=>exact h | no=>exact h
theorem okR.here{a:α}{Q:β->Hp->Prop}{b:β}(h:okR mg E H Y Dn (.ok a s) Q)(r:Rep mg H Y s)(d:Dn H Y a b):Q b H:=h b H Y (.refl r) d
end
structure vA(mg:Gm)(H:Hp)(Y:List Addr)(ρ:Ev)(O:L2.St):Prop where
 len:ρ.length=O.length
 at_:∀(i:Nat)(d:D),ρ[i]? = some (some d)->∃v,O[i]? = some (some v)/\Den mg H Y d v
theorem vA.mono{mg:Gm}{H H':Hp}{Y Y':List Addr}{s':Sto}{ρ:Ev}{O:L2.St}(e:vA mg H Y ρ O)(stp:yA mg H Y H' Y' s'):vA mg H' Y' ρ O:= ⟨e.len,λi d h=>let ⟨v,h1,h2⟩:=e.at_ i d h;⟨v,h1,h2.mono stp⟩⟩
theorem vA.set{mg:Gm}{H:Hp}{Y:List Addr}{ρ:Ev}{O:L2.St}{d:D}{v:V}(e:vA mg H Y ρ O)(h:Den mg H Y d v)(i:Nat):vA mg H Y (ρ.set i (some d)) (O.set i (some v)):=by
 refine⟨by simp[e.len],λj d' hj=>?_⟩;by_cases hij:i=j
 ·subst hij;have hi:i<ρ.length:=by
   have:=(_b.mp hj).1;simpa using this
  rw[_N hi]at hj;cases hj;exact⟨v,by rw[_N (by rw[<- e.len];exact hi)],h⟩
 ·rw[_K hij]at hj ⊢;exact e.at_ j d' hj
abbrev FE:=Ev->Sto->R D
abbrev FT:=Ev->Sto->R Bool
abbrev FA:=Ev->Sto->R (List D)
inductive Fl where | nx (ρ:Ev) | rt (d:D) | bk (ρ:Ev) | ct (ρ:Ev)
inductive FlV where | nx (O:L2.St) | rt (v:V) | bk (O:L2.St) | ct (O:L2.St)
abbrev FS:=Ev->Sto->R Fl
def FlD(mg:Gm)(H:Hp)(Y:List Addr):Fl->FlV->Prop
 | .nx ρ,.nx O=>vA mg H Y ρ O | .rt d,.rt v=>Den mg H Y d v | .bk ρ,.bk O=>vA mg H Y ρ O | .ct ρ,.ct O=>vA mg H Y ρ O | _,_=>False
def z3e(D:z8v):FlV->Hp->Prop
 | .nx O,H=>D.nx O H | .rt v,H=>D.rt v H | .bk O,H=>D.bk O H | .ct O,H=>D.ct O H
def bD(_:Hp)(_:List Addr)(a b:Bool):Prop:=a=b
def tE(mg:Gm)(E:XK)(f:FE):TE:=λO H Q=>∃Y ρ s,Rep mg H Y s/\vA mg H Y ρ O/\okR mg E H Y (Den mg) (f ρ s) Q
def tT(mg:Gm)(E:XK)(f:FT):TT:=λO H Q=>∃Y ρ s,Rep mg H Y s/\vA mg H Y ρ O/\okR mg E H Y bD (f ρ s) Q
def tA(mg:Gm)(E:XK)(f:FA):TA:=λO H Q=>∃Y ρ s,Rep mg H Y s/\vA mg H Y ρ O/\okR mg E H Y (zA mg) (f ρ s) Q
def tS(mg:Gm)(E:XK)(f:FS):TS:=λD O H=>∃Y ρ s,Rep mg H Y s/\vA mg H Y ρ O/\okR mg E H Y (FlD mg) (f ρ s) (z3e D)
def RE(X:Cx)(E:XK)(e:Expr)(f:FE):Prop:=PE X e (tE (gm X) E f)
def RT(X:Cx)(E:XK)(e:Expr)(f:FT):Prop:=PT X e (tT (gm X) E f)
def RA(X:Cx)(E:XK)(es:List Expr)(f:FA):Prop:=PA X es (tA (gm X) E f)
def RS(X:Cx)(E:XK)(st:Stmt)(f:FS):Prop:=PS X st (tS (gm X) E f)
def RSs(X:Cx)(E:XK)(st:List Stmt)(f:FS):Prop:=PSs X st (tS (gm X) E f)
section
variable {X:Cx}{E:XK}{e a b c:Expr}{es:List Expr}{pos:Pos}
theorem yy{t t':TE}(h:PE X e t)(i:∀O H Q,t' O H Q->t O H Q):PE X e t':=λpins s O H Q I q=>h pins s O H Q I (i O H Q q)
theorem z6n{t t':TT}(h:PT X e t)(i:∀O H Q,t' O H Q->t O H Q):PT X e t':=λpins s O H Q I q=>h pins s O H Q I (i O H Q q)
theorem zb0{t t':TA}(h:PA X es t)(i:∀O H Q,t' O H Q->t O H Q):PA X es t':=λpos pins s O H Q I q=>h pos pins s O H Q I (i O H Q q)
theorem vZ{st:Stmt}{t t':TS}(h:PS X st t)(i:∀D O H,t' D O H->t D O H):PS X st t':=λpins s O H D I q=>h pins s O H D I (i D O H q)
theorem z5l{st:List Stmt}{t t':TS}(h:PSs X st t)(i:∀D O H,t' D O H->t D O H):PSs X st t':=λpins s O H D I q=>h pins s O H D I (i D O H q)
theorem yK{α β:Type}{Dn:Hp->List Addr->α->β->Prop}{mg:Gm}{f:FE}{k:Ev->D->Sto->R α}{O:L2.St}{H:Hp}{Q:β->Hp->Prop}{Y:List Addr}{ρ:Ev}{s:Sto}(r:Rep mg H Y s)(en:vA mg H Y ρ O) (h:okR mg E H Y Dn ((f ρ s).bind (k ρ)) Q)(K:V->Hp->Prop) (hK:∀v H1 Y1 s1 d,Rep mg H1 Y1 s1->vA mg H1 Y1 ρ O->Den mg H1 Y1 d v->yA mg H Y H1 Y1 s1->okR mg E H1 Y1 Dn (k ρ d s1) Q->K v H1):tE mg E f O H K:= ⟨Y,ρ,s,r,en,(okR.bind (Dn:=Den mg) h).imp λv H1 ⟨Y1,s1,d,stp,dn,q⟩=>hK v H1 Y1 s1 d stp.rep (en.mono stp) dn stp q⟩
theorem z5i{α β:Type}{Dn:Hp->List Addr->α->β->Prop}{mg:Gm}{f:FT}{k:Ev->Bool->Sto->R α}{O:L2.St}{H:Hp}{Q:β->Hp->Prop}{Y:List Addr}{ρ:Ev}{s:Sto}(r:Rep mg H Y s)(en:vA mg H Y ρ O) (h:okR mg E H Y Dn ((f ρ s).bind (k ρ)) Q)(K:Bool->Hp->Prop) (hK:∀v H1 Y1 s1,Rep mg H1 Y1 s1->vA mg H1 Y1 ρ O->yA mg H Y H1 Y1 s1->okR mg E H1 Y1 Dn (k ρ v s1) Q->K v H1):tT mg E f O H K:= ⟨Y,ρ,s,r,en,(okR.bind (Dn:=bD) h).imp λv H1 ⟨Y1,s1,d,stp,dn,q⟩=>hK v H1 Y1 s1 stp.rep (en.mono stp) stp (by cases (show d=v from dn);exact q)⟩
theorem uJ{α β:Type}{Dn:Hp->List Addr->α->β->Prop}{mg:Gm}{f:FA}{k:Ev->List D->Sto->R α}{O:L2.St}{H:Hp}{Q:β->Hp->Prop}{Y:List Addr}{ρ:Ev}{s:Sto}(r:Rep mg H Y s)(en:vA mg H Y ρ O) (h:okR mg E H Y Dn ((f ρ s).bind (k ρ)) Q)(K:List V->Hp->Prop) (hK:∀v H1 Y1 s1 d,Rep mg H1 Y1 s1->vA mg H1 Y1 ρ O->zA mg H1 Y1 d v->yA mg H Y H1 Y1 s1->okR mg E H1 Y1 Dn (k ρ d s1) Q->K v H1):tA mg E f O H K:= ⟨Y,ρ,s,r,en,(okR.bind (Dn:=zA mg) h).imp λv H1 ⟨Y1,s1,d,stp,dn,q⟩=>hK v H1 Y1 s1 d stp.rep (en.mono stp) dn stp q⟩
noncomputable def zd(i:Nat):FE:=fun ρ s=>match ρ[i]? with | some (some d)=>.ok d s | _=>.no
theorem zc(i:Nat){x:Str}(hN:X.N[i]? = some x:=by rfl)(hv:Vis X.env.scope x:=by first | exact Or.inl rfl | exact Or.inr (Or.inl rfl) | exact Or.inr (Or.inr rfl))(hd:(x==("__debug__":Str))=false:=by decide) (hcd:(x==("__classdict__":Str))=false:=by decide):RE X E (.Name x pos) (zd i):= yy (kI hN hv hd hcd) λO H Q ⟨Y,ρ,s,r,en,h⟩=>by
  unfold zd at h;split at h
  ·rename_i d hd;obtain⟨v,h1,h2⟩:=en.at_ i d hd;exact⟨v,h1,h.here r h2⟩
  ·exact h.elim
noncomputable def eC(d:D):FE:=λ_ s=>.ok d s
theorem zB{i:Int}{j:Nat}:RE X E (.Constant (.int i) j pos) (eC (.int i)):=yy zfd λO H Q ⟨Y,ρ,s,r,en,h⟩=>okR.here (b:=V.int i) h r (by simp[Den])
theorem zeR{i:Bool}{j:Nat}:RE X E (.Constant (.bool i) j pos) (eC (.bl i)):=yy zgd λO H Q ⟨Y,ρ,s,r,en,h⟩=>okR.here (b:=V.bl i) h r (by simp[Den])
theorem zf0{j:Nat}:RE X E (.Constant .none j pos) (eC .non):=yy zeA λO H Q ⟨Y,ρ,s,r,en,h⟩=>okR.here (b:=V.non) h r (by simp[Den])
theorem zeB{x:Str}{i:Int}{t:Tok}(hg:Gl X x)(hm:X.mg x=some (.int i t))(hd:(x==("__debug__":Str))=false:=by decide):RE X E (.Name x pos) (eC (.int i)):= yy (z8I hg hm (show xL (.int i) (.int i t) from⟨t,rfl⟩) hd) λO H Q ⟨Y,ρ,s,r,en,h⟩=>okR.here (b:=V.int i) h r (by simp[Den])
def OpF(X:Cx)(E:XK)(r:R2)(op:D->D->Sto->R D):Prop:= ∀H Y s d1 d2 v1 v2 (Q:VK),Rep (gm X) H Y s->Den (gm X) H Y d1 v1->Den (gm X) H Y d2 v2->okR (gm X) E H Y (Den (gm X)) (op d1 d2 s) Q->r v1 v2 H Q
noncomputable def eOp(op:D->D->Sto->R D)(fa fb:FE):FE:=fun ρ s=>(fa ρ s).bind λx s1=>(fb ρ s1).bind λy s2=>op x y s2
theorem z6q{r:R2}{op:D->D->Sto->R D}{fa fb:FE}(ho:OpF X E r op){O:L2.St}{H:Hp}{Q:VK}(h:tE (gm X) E (eOp op fa fb) O H Q):tOp r (tE (gm X) E fa) (tE (gm X) E fb) O H Q:=by
 obtain⟨Y,ρ,s,r',en,h⟩:=h;refine yK (k:=fun ρ x s1=>(fb ρ s1).bind λy s2=>op x y s2) r' en h _ λv H1 Y1 s1 d r1 en1 dn stp h1=>?_;refine yK (k:=fun ρ y s2=>op d y s2) r1 en1 h1 _ λv2 H2 Y2 s2 d2 r2 en2 dn2 St2 h2=>?_;exact ho H2 Y2 s2 d d2 v v2 Q r2 (dn.mono St2) dn2 h2
theorem zhx{op:Operator}{r:R2}{fo:D->D->Sto->R D}{fa fb:FE}(ho:OpR X (binaryOp op) r/\OpF X E r fo)(ha:RE X E a fa)(hb:RE X E b fb):RE X E (.BinOp a op b pos) (eOp fo fa fb):= yy (zdd ho.1 ha hb) λO H Q h=>z6q ho.2 h
theorem zfx{op:CmpOp}{r:R2}{fo:D->D->Sto->R D}{fa fb:FE}(ho:OpR X (compareOp op) r/\OpF X E r fo)(ha:RE X E a fa)(hb:RE X E b fb)(hm:behindInMarks op b=false):RE X E (.Compare a [op] [b] pos) (eOp fo fa fb):= yy (zcC ho.1 ha hb hm) λO H Q h=>z6q ho.2 h
end
end Dd
namespace L2
theorem Inv.freeze {X:Cx} {pins:List (Addr×Obj)} {O:L2.St} {H:Hp} {s:Shared} {a:Addr} {u:HO} {o:Obj} (I:Inv X pins O H s) (h:H a=some u) (e:s.heap.get? a=some o) (hu:∀xs,u≠.tup xs) (hf:∀o v,u≠.frz o v) (ht:∀ps,u≠.tbl ps) (ho:∀y,u≠.own y): Inv X pins O (upd H a (.frz o u)) s:=by
 have ne:∀{b:Addr} {v:HO},H b=some v->v≠u->b≠a:=λ{b v} hb hv z=>by subst z;rw[h]at hb;exact hv (_A hb).symm
 have stay:∀b v,wc X.prog X.w H s.heap b v->wc X.prog X.w (upd H a (.frz o u)) s.heap b v:=λb v q=> q.stay (λ_ _ _ q=>q) (λc q=>by rw[zf (ne q (λz=>ho b z.symm))];exact q) λc xs q=>by rw[zf (ne q (λz=>hu xs z.symm))];exact q
 have hok:HOk X.prog X.w (upd H a (.frz o u)) s.heap:=λb v q=>by
  by_cases hb:b=a
  ·subst hb;rw[zu]at q;cases q;exact⟨e,stay b u (I.hok b u h)⟩
  ·rw[zf hb]at q;exact stay b v (I.hok b v q)
 exact I.step (h':=s.heap) (g':=s.gens) (d':=s.drawn) (t':=s.toks) (ch:=[]) (λb hb=>absurd hb (by simp)) (λb o _ _ _ e _=>e) (λb o _ _ _ e _=>⟨o.slots,e⟩) (λb v _ _ n=>by rw[zf (λz=>by subst z;rw[h]at n;cases n)];exact n) (λb o _ e=>⟨o,e⟩) (λb xs q=>by rw[zf (ne q (λz=>hu xs z.symm))];exact q) (λb o' v q=>by rw[zf (ne q (λz=>hf o' v z.symm))];exact q) (λb ps q=>⟨#[],by rw[zf (ne q (λz=>ht ps z.symm)),q];simp⟩) (λ_ q=>q) hok I.bare
def z62(Q:VK):VK:=λv H=>∃a xs,v=.ref a/\H a=some (.lst xs)/\∀o,Q v (upd H a (.frz o (.lst xs)))
theorem EP.freeze{X:Cx}{pins:List (Addr×Obj)}{O:L2.St}{Q:VK}{u:Value}{s:Shared}(h:EP X pins O (z62 Q) u s):EP X pins O Q u s:=by
 obtain⟨v,H',I,r,a,xs,rfl,ha,q⟩:=h;obtain⟨its,n,rv,e,_⟩:=I.lst ha;exact⟨_,_,I.freeze ha e (by intro _ z;cases z) (by intro _ _ z;cases z) (by intro _ z;cases z) (by intro _ z;cases z),r,q _⟩
theorem OpR.freeze{X:Cx}{f:Value->Value->Sem Value}{r:R2}(h:OpR X f r):OpR X f (λx y H Q=>r x y H (z62 Q)):=λpins s O H x y v u Q I rx ry q=>thn (h pins s O H x y v u _ I rx ry q) λ_ _ z=>z.freeze
theorem wA.freeze{X:Cx}{f:Value}{r:List V->Hp->VK->Prop}(h:wA X f r):wA X f (λxs H Q=>r xs H (z62 Q)):=λpins s O H xs us Q I rs q=>thn (h pins s O H xs us _ I rs q) λ_ _ z=>z.freeze
theorem PE.freeze{X:Cx}{e:Expr}{t:TE}(h:PE X e t):PE X e (λO H Q=>t O H (z62 Q)):=λpins s O H Q I q=>thn (h pins s O H _ I q) λ_ _ z=>z.freeze
theorem SlR.freeze{X:Cx}{r:V->Option Int->Option Int->Hp->VK->Prop}(h:SlR X r):SlR X (λx lo hi H Q=>r x lo hi H (z62 Q)):=λpins s O H x v vl vu lo hi sl Q I rx hs pl pu q=>by
 obtain⟨T,id,h1,h2,h3⟩:=h pins s O H x v vl vu lo hi sl _ I rx hs pl pu q;exact⟨T,id,h1,h2,thn h3 λ_ _ z=>z.freeze⟩
section
variable {X:Cx}
theorem z7z:OpR X (binaryOp .Add) (λx y H Q=>∃l b xs zs,x=.ref l/\y=.ref b/\Rd H l (.lst xs)/\Rd H b (.lst zs)/\xs.length+zs.length<=sizeLine/\∀p,H p=none->Q (.ref p) (upd H p (.lst (xs++zs)))):=by
 intro pins s O H x y v u Q I rx ry h;obtain⟨l,b,xs,zs,rfl,rfl,hH,hB,hz,q⟩:=h;cases rx;cases ry;obtain⟨z,its,n,r,e⟩:=hH.ok I.hok;obtain⟨z2,its2,n2,r2,e2⟩:=hB.ok I.hok;have hl:=r.length;have hl2:=r2.length;refine PySem.P.add_list e e2 ?_ (by rw[_k,_k];omega);have ea:its.toArray++its2.toArray=(its++its2).toArray:=by simp
 rw[ea];exact⟨.ref _,_,I.lnew (t':=s.toks) (r.append r2) (by rw[_q];omega),rfl,q _ I.fresh⟩
end
section
variable {X:Cx}
theorem zac:OpR X (binaryOp .Add) (λx y H Q=>∃a b ys,x=.ref a/\y=.ref b/\SqT X.K H a []/\SqT X.K H b ys/\Q (.ref b) H):=by
 intro pins s O H x y v u Q I rx ry h;obtain⟨a,b,ys,rfl,rfl,ha,hb,q⟩:=h;cases rx;cases ry;obtain⟨its,r1,p1,_⟩:=I.tuple ha;obtain⟨its2,r2,p2,_⟩:=I.tuple hb;cases r1;obtain⟨⟨cls,dd,data,sl⟩,ho,hc,n,hd⟩:=id p1;obtain⟨⟨cls2,dd2,data2,sl2⟩,ho2,hc2,n2,hd2⟩:=id p2;simp only at hc hd hc2 hd2;subst hc hd hc2 hd2;exact concat_meets ⟨_,ho,rfl⟩ ⟨_,ho2,rfl⟩ _dj seq_tuple_add _cc _b3 (_bW _ _) (tuple_addW0 a b _ _ n n2 dd dd2 sl sl2 (by simp)) ⟨ho,ho2,⟨.ref b,H,I,rfl,q⟩⟩
theorem zcK:SlR X (λx lo hi H Q=>∃a xs,x=.ref a/\SqT X.K H a xs/\(HT.sIx xs.length 0 lo=0/\HT.sIx xs.length xs.length hi=xs.length)/\Q (.ref a) H):=by
 intro pins s O H x v vl vu lo hi sl Q I rx hs pl pu h;obtain⟨a,xs,rfl,hx,hw,q⟩:=h;cases rx;obtain⟨its,r,ht,hz⟩:=I.tuple hx;have hlen:its.toArray.size=xs.length:=by rw[_k];exact r.length.symm
 refine⟨"tuple",_,_ak.lookup,ht.typeIs,?_⟩;obtain⟨os,hos,hcs,hds⟩:=id hs;have hTs:s.TypeIs (.ref sl) "slice":=⟨os,hos,hcs⟩;obtain⟨oa,hoa,hca,na,hda⟩:=id ht;unfold getItem;try with_reducible refine _az ?_
 first | refine _a (_e ?_) | skip
 refine _a (wpAny_sequenceKey ht.typeIs (by decide) ?_);refine _a (_av (name:=Str.ofString "__getitem__") ht.typeIs _ak (_ao _ak ht.typeIs entry_tuple_getitem ?_ (args_tuple_getitem _ _)));show wpAny _ _ (Builtin.Tuple.tupleItemsOf (.ref a) >>= _) _ _ s;refine _a (tupleItemsOf_ ht ?_);refine _a (_cO hTs ?_);rw[_g (by decide)];refine _a (HT.uZ hs pl pu ?_);rw[hlen,hw.1,hw.2];show wpAny _ _ (if (((0:Nat):Int)==0&&(1:Int)==1&&(xs.length-0)==xs.length)=true then _ else _) _ _ s;rw[_g (by simp)];have hTa:s.TypeIs (.ref a) "tuple":=ht.typeIs;have fin:EP X pins O Q (.ref a) s:=⟨.ref a,H,I,rfl,q⟩;unfold Builtin.Tuple.tupleIsExact;refine _a (_a (_cO hTa (_e ?_)));rw[_g (by decide)];exact _a (_aG (_e ⟨_,rfl,_e fin⟩))
end
end L2
namespace Dd
open L2
section
variable {mg:Gm}{H H' H1 H2:Hp}{Y Y' Y1 Y2:List Addr}{s s' s1 s2:Sto}
structure Kp(H H':Hp):Prop where
 k:∀b o,H b=some o->(∀vs,o≠.lst vs)->(∀kvs,o≠.dT kvs)->(∀kvs,kvs≠[]->o≠.dK kvs)->H' b=some o
 l:∀a,IsL H a->IsL H' a
 c:∀a,IsC H a->IsC H' a
mutual
theorem Den.gen(k:Kp H H')(hi:∀(l:Nat) a,Y[l]? = some a->Y'[l]? = some a):∀{d:D}{v:V},Den mg H Y d v->Den mg H' Y' d v
 | .non,_,h=>by simpa[Den] using h | .bl _,_,h=>by simpa[Den] using h | .int _,_,h=>by simpa[Den] using h | .str _,_,h=>by simpa[Den] using h | .tup ds,v,h=>by
  simp only[Den]at h ⊢;obtain⟨a,vs,e,h1,h2⟩:=h;exact⟨a,vs,e,k.k a _ h1 (by intro vs z;cases z) (by intro vs z;cases z) (by intro vs g z;cases z<;>exact g rfl),zA.gen k hi h2⟩ | .lst ds,v,h=>by
  simp only[Den]at h ⊢;obtain⟨a,o,vs,e,h1,h2⟩:=h;exact⟨a,o,vs,e,k.k a _ h1 (by intro vs z;cases z) (by intro vs z;cases z) (by intro vs g z;cases z<;>exact g rfl),zA.gen k hi h2⟩ | .dct,v,h=>by
  simp only[Den]at h ⊢;obtain⟨a,e,h1⟩:=h;exact⟨a,e,k.k a _ h1 (by intro vs z;cases z) (by intro vs z;cases z) (by intro vs g z;cases z<;>exact g rfl)⟩ | .loc l,v,h=>by
  simp only[Den]at h ⊢;obtain⟨a,e,h1,q⟩:=h;exact⟨a,e,hi l a h1,k.l a q⟩ | .dlo l,v,h=>by
  simp only[Den]at h ⊢;obtain⟨a,e,h1,q⟩:=h;exact⟨a,e,hi l a h1,k.c a q⟩ | .fn _,_,h=>by simpa[Den] using h | .exc x,v,h=>by
  simp only[Den]at h ⊢;obtain⟨a,C,e,h1,h2⟩:=h;exact⟨a,C,e,h1,k.k a _ h2 (by intro vs z;cases z) (by intro vs z;cases z) (by intro vs g z;cases z<;>exact g rfl)⟩ | .scr ds,v,h=>by
  simp only[Den]at h ⊢;obtain⟨a,vs,e,h1,h2⟩:=h;exact⟨a,vs,e,h1.imp (λ⟨o,h1⟩=>⟨o,k.k a _ h1 (by intro vs z;cases z) (by intro vs z;cases z) (by intro vs g z;cases z<;>exact g rfl)⟩) id,zA.gen k hi h2⟩
theorem zA.gen(k:Kp H H')(hi:∀(l:Nat) a,Y[l]? = some a->Y'[l]? = some a):∀{ds:List D}{vs:List V},zA mg H Y ds vs->zA mg H' Y' ds vs
 | [],_,h=>by simpa[zA] using h | d::ds,vs,h=>by
  simp only[zA]at h ⊢;obtain⟨v,r,e,h1,h2⟩:=h;exact⟨v,r,e,Den.gen k hi h1,zA.gen k hi h2⟩
end
theorem wt{p:Addr}{o:HO}(hp:H p=none):∀b u,H b=some u->upd H p o b=some u:=λb u h=>by rw[zf (yN h hp)];exact h
theorem Kp.new{p:Addr}{o:HO}(hp:H p=none):Kp H (upd H p o):=⟨λb u h _ _ _=>wt hp b u h,λa ⟨vs,e⟩=>⟨vs,wt hp a _ e⟩,λa h=>h.imp (λ⟨vs,e⟩=>⟨vs,wt hp a _ e⟩) λh=>h.imp (λ⟨o,vs,e⟩=>⟨o,vs,wt hp a _ e⟩) λh=>h.imp (λ⟨vs,g,e⟩=>⟨vs,g,wt hp a _ e⟩) λ⟨o,vs,e⟩=>⟨o,vs,wt hp a _ e⟩⟩
theorem Kp.putL{a:Addr}{vs:List V}(h:IsL H a):Kp H (upd H a (.lst vs)):=by
 obtain⟨ws,e⟩:=h;have ne:∀{b u},H b=some u->(∀vs,u≠.lst vs)->b≠a:=λ{b u} q n z=>by subst z;rw[e]at q;exact n ws (_A q).symm
 refine⟨λb o q n1 n2 _=>by rw[zf (ne q n1)];exact q,λb ⟨us,q⟩=>?_,λb h=>?_⟩
 ·by_cases z:b=a;·subst z;exact⟨vs,zu⟩
  ·exact⟨us,by rw[zf z];exact q⟩
 ·rcases h with⟨us,q⟩ | ⟨o,us,q⟩ | ⟨us,g,q⟩ | ⟨o,us,q⟩;·exact .inl ⟨us,by rw[zf (ne q (by intro _ z;cases z))];exact q⟩
  ·exact .inr (.inl ⟨o,us,by rw[zf (ne q (by intro _ z;cases z))];exact q⟩)
  ·exact .inr (.inr (.inl ⟨us,g,by rw[zf (ne q (by intro _ z;cases z))];exact q⟩))
  ·exact .inr (.inr (.inr ⟨o,us,by rw[zf (ne q (by intro _ z;cases z))];exact q⟩))
theorem vH.imp{mg:Gm}{H H':Hp}{Y Y':List Addr}:∀{xs:List D}{kvs:List (Key×V)},(∀ys vs k,(D.tup [.int k,.lst ys]∈xs\/D.tup [.int k,.lst ys,.non]∈xs)->zA mg H Y ys vs->zA mg H' Y' ys vs)->(∀k b vs,(k,V.ref b)∈kvs->H b=some (.lst vs)->H' b=some (.lst vs))->(∀b o vs,H b=some (.frz o (.lst vs))->H' b=some (.frz o (.lst vs)))->vH mg H Y xs kvs->vH mg H' Y' xs kvs
 | [],_,_,_,_,h=>h | d::ds,kvs,g,w,z,h=>by
  obtain⟨k,ys,b,vs,r,rfl,h1,h2,h3⟩:=h;refine⟨k,ys,b,vs,r,rfl,g ys vs k (h2.imp (λq=>by rw[q.1];simp) λq=>by rw[q.1];simp) h1,h2.imp (λq=>⟨q.1,w (Sum.inl k) b vs (by simp) q.2⟩) (λq=>⟨q.1,q.2.imp λo e=>z b o vs e⟩),vH.imp (λys vs k hm=>g ys vs k (hm.imp (λq=>by simp[q]) λq=>by simp[q])) (λk b vs hm=>w k b vs (by simp[hm])) z h3⟩
theorem vH.fz{mg:Gm}{H:Hp}{Y:List Addr}:∀{xs:List D}{kvs:List (Key×V)}{k:Key}{b:Addr}{us:List V},vH mg H Y xs kvs->zc5 xs->(k,V.ref b)∈kvs->H b=some (.lst us)->False
 | [],_,k,b,us,h,f,hm,z=>by simp only[vH]at h;subst h;simp at hm | d::ds,kvs,k,b,us,h,f,hm,z=>by
  obtain⟨k',ys,b',vs,r,rfl,h1,h2,h3⟩:=h;rcases _j.mp hm with e | hm
  ·cases e;rcases h2 with⟨q,_⟩ | ⟨_,o,q⟩
   ·obtain⟨k2,zs,e2⟩:=f d (.head _);rw[e2]at q;simp at q
   ·rw[q]at z;cases z
  ·exact vH.fz h3 (λd hd=>f d (.tail _ hd)) hm z
theorem vH.at_{mg:Gm}{H:Hp}{Y:List Addr}:∀{xs:List D}{kvs:List (Key×V)}{k:Key}{b:Addr},vH mg H Y xs kvs->(k,V.ref b)∈kvs->∃u,H b=some u
 | [],_,k,b,h,hm=>by simp only[vH]at h;subst h;simp at hm | d::ds,kvs,k,b,h,hm=>by
  obtain⟨k',ys,b',vs,r,rfl,h1,h2,h3⟩:=h;rcases _j.mp hm with e | hm
  ·cases e;rcases h2 with⟨_,q⟩ | ⟨_,o,q⟩<;>exact⟨_,q⟩
  ·exact vH.at_ h3 hm
theorem Rep.ownAt(r:Rep mg H Y s){b:Addr}(h:Own H Y b):∃u,H b=some u:=by
 obtain⟨a,ha,kvs,k,e,hm⟩:=h;obtain⟨l,hl,el⟩:=_ah.mp ha;have hl':l<s.length:=by rw[<- r.len];exact hl
 obtain⟨b',e1,c⟩:=r.cell l s[l] (_r hl');rw[_r hl]at e1;have:Y[l]=b':=_A e1;subst this;rw[el]at c;rcases c with⟨_,z,_⟩ | ⟨_,z,_⟩ | ⟨_,_,_,z,_⟩ | ⟨kvs',_,z,dk⟩ | ⟨_,_,_,z,_⟩<;>rw[e]at z<;>cases z;exact dk.at_ hm
def DkS(H:Hp)(Y:List Addr)(H':Hp)(Y':List Addr):Prop:=∀a∈Y',∀kvs,H' a=some (.dK kvs)->a∈Y/\H a=some (.dK kvs)
theorem DkS.own(d:DkS H Y H' Y'){b:Addr}(h:Own H' Y' b):Own H Y b:=by
 obtain⟨a,ha,kvs,k,e,hm⟩:=h;obtain⟨h1,h2⟩:=d a ha kvs e;exact⟨a,h1,kvs,k,h2,hm⟩
theorem DkS.uq(r:Rep mg H Y s)(d:DkS H Y H' Y'):∀a∈Y',∀a'∈Y',∀kvs kvs' (i j:Nat) k k' b,H' a=some (.dK kvs)->H' a'=some (.dK kvs')->kvs[i]? = some (k,V.ref b)->kvs'[j]? = some (k',V.ref b)->a=a'/\i=j:=λa ha a' ha' kvs kvs' i j k k' b e e'=> r.uq a (d a ha kvs e).1 a' (d a' ha' kvs' e').1 kvs kvs' i j k k' b (d a ha kvs e).2 (d a' ha' kvs' e').2
theorem vS{p:Addr}{o:HO}{b:Addr}(h:upd H p o b=none):H b=none:=by
 by_cases z:b=p;·subst z;rw[zu]at h;cases h
 ·rw[zf z]at h;exact h
theorem uE.gen{xs:List D}{a:Addr}(k:Kp H H')(hi:∀(l:Nat) a,Y[l]? = some a->Y'[l]? = some a)(e:H' a=H a)(ha:a∈Y)(ro:∀b,Own H Y b->b∉Y)(w:∀b vs,b∉Y->H b=some (.lst vs)->H' b=some (.lst vs))(h:uE mg H Y xs a):uE mg H' Y' xs a:=by
 rcases h with⟨vs,h1,h2⟩ | ⟨kvs,h1,h2⟩ | ⟨o,kvs,ys,h1,h2⟩ | ⟨kvs,g,h1,h2⟩ | ⟨o,kvs,ys,h1,e1,h2,f⟩;·exact .inl ⟨vs,e.trans h1,h2.gen k hi⟩
 ·exact .inr (.inl ⟨kvs,e.trans h1,h2⟩)
 ·exact .inr (.inr (.inl ⟨o,kvs,ys,e.trans h1,h2⟩))
 ·exact .inr (.inr (.inr (.inl ⟨kvs,g,e.trans h1,h2.imp (λ_ _ _ _ q=>q.gen k hi) (λq b vs hm=>w b vs (ro b ⟨a,ha,kvs,q,h1,hm⟩)) λb o vs q=>k.k b _ q (by intro vs z;cases z) (by intro vs z;cases z) (by intro vs g z;cases z)⟩)))
 ·exact .inr (.inr (.inr (.inr ⟨o,kvs,ys,e.trans h1,e1,h2.imp (λ_ _ _ _ q=>q.gen k hi) (λq b vs hm z=>(h2.fz f.1 hm z).elim) λb o vs q=>k.k b _ q (by intro vs z;cases z) (by intro vs z;cases z) (by intro vs g z;cases z),f⟩)))
theorem uE.ne{xs:List D}{a p:Addr}(h:uE mg H Y xs a)(hp:H p=none):a≠p:=by
 rintro rfl;rcases h.kind with⟨_,e⟩ | ⟨_,e⟩ | ⟨_,_,e⟩ | ⟨_,_,e⟩ | ⟨_,_,e⟩<;>rw[hp]at e<;>cases e
theorem Rep.notin{p:Addr}(r:Rep mg H Y s)(hp:H p=none):p∉Y:=λz=>by rcases r.mt p z with⟨_,e⟩ | ⟨_,e⟩ | ⟨_,_,e⟩ | ⟨_,_,e⟩ | ⟨_,_,e⟩<;>rw[hp]at e<;>cases e
theorem yA.lay{p:Addr}{o:HO}(r:Rep mg H Y s)(hp:H p=none)(ho:∀vs,o≠.lst vs):yA mg H Y (upd H p o) Y s:= have d:DkS H Y (upd H p o) Y:=λa ha kvs e=>⟨ha,by rw[zf (show a≠p from λz=>r.notin hp (z ▸ ha))]at e;exact e⟩;⟨⟨r.len,r.nd,λl xs h=>let ⟨a,h1,h2⟩:=r.cell l xs h;⟨a,h1,h2.gen (.new hp) (λ_ _ q=>q) (zf (h2.ne hp)) (_c h1) r.own (λb vs _ q=>wt hp b _ q)⟩,r.flat,λb h=>r.own b (d.own h),d.uq r⟩,_aW _,λb u h _ _=>wt hp b u h,λa h1 h2=>absurd h1 h2,λa ha=>(r.mt a ha).imp (λh=>⟨h,(Kp.new hp).l a h⟩) λh=>⟨h,(Kp.new hp).c a h,λ_ _ e=>wt hp a _ e⟩,λb h=>vS h,λb h=>.inl (d.own h)⟩
theorem yA.layC{p:Addr}{o:HO}{xs:List D}(r:Rep mg H Y s)(hp:H p=none)(hc:uE mg (upd H p o) (Y++[p]) xs p)(hf:D.flat.flats xs=true)(ho:∀kvs,o≠.dK kvs:=by intro _ z;cases z):yA mg H Y (upd H p o) (Y++[p]) (s++[xs]):=by
 have pn:p∉Y:=r.notin hp;have d:DkS H Y (upd H p o) (Y++[p]):=λa ha kvs e=>by
  by_cases z:a=p;·subst z;rw[zu]at e;exact absurd (_A e) (ho kvs)
  ·rw[zf z]at e;exact⟨(_L.mp ha).elim id λq=>absurd (by simpa using q) z,e⟩
 have hi:∀(l:Nat) a,Y[l]? = some a->(Y++[p])[l]? = some a:=λl a h=>by rw[_B (_b.mp h).1];exact h
 refine⟨⟨by simp[r.len],?_,λl ys h=>?_,λys h=>?_,λb h=>?_,d.uq r⟩,List.prefix_append _ _,λb u h _ _=>wt hp b u h,λa h1 h2=>?_,λa ha=>(r.mt a ha).imp (λh=>⟨h,(Kp.new hp).l a h⟩) λh=>⟨h,(Kp.new hp).c a h,λ_ _ e=>wt hp a _ e⟩,λb h=>vS h,λb h=>.inl (d.own h)⟩
 ·rw[List.nodup_append];exact⟨r.nd,by simp,λa ha b hb=>by
   have:b=p:=by simpa using hb
   subst this;exact λz=>pn (z ▸ ha)⟩
 ·by_cases hl:l<s.length
  ·rw[_B hl]at h;obtain⟨a,h1,h2⟩:=r.cell l ys h;exact⟨a,hi l a h1,h2.gen (.new hp) hi (zf (h2.ne hp)) (_c h1) r.own (λb vs _ q=>wt hp b _ q)⟩
  ·have h0:l=s.length:=by
    have:=(_b.mp h).1;simp at this;omega
   subst h0;simp at h;subst h;exact⟨p,by rw[<- r.len];simp,hc⟩
 ·rcases _L.mp h with h | h;·exact r.flat ys h
  ·have:ys=xs:=by simpa using h
   rw[this];exact hf
 ·have q:=d.own h;obtain⟨u,hu⟩:=r.ownAt q;intro z;rcases _L.mp z with z | z;·exact r.own b q z
  ·have:b=p:=by simpa using z
   rw[this,hp]at hu;cases hu
 ·rcases _L.mp h1 with h | h;·exact absurd h h2
  ·have:a=p:=by simpa using h
   rw[this];exact hp
theorem yA.layL{p:Addr}{xs:List D}{vs:List V}(r:Rep mg H Y s)(hp:H p=none)(hd:zA mg H Y xs vs)(hf:D.flat.flats xs=true):yA mg H Y (upd H p (.lst vs)) (Y++[p]) (s++[xs]):= yA.layC r hp (.inl ⟨vs,zu,hd.gen (.new hp) λl a h=>by rw[_B (_b.mp h).1];exact h⟩) hf
theorem yA.putC{l:Nat}{a:Addr}{o:HO}{xs:List D}(r:Rep mg H Y s)(ha:Y[l]? = some a)(k:Kp H (upd H a o))(hc:uE mg (upd H a o) Y xs a)(hf:D.flat.flats xs=true)(ho:∀kvs,o≠.dK kvs:=by intro _ z;cases z):yA mg H Y (upd H a o) Y (s.set l xs):=by
 have d:DkS H Y (upd H a o) Y:=λb hb kvs e=>by
  by_cases z:b=a;·subst z;rw[zu]at e;exact absurd (_A e) (ho kvs)
  ·rw[zf z]at e;exact⟨hb,e⟩
 have hai:a∈Y:=_c ha;have hll:l<s.length:=by rw[<- r.len];exact (_b.mp ha).1
 refine⟨⟨by simp[r.len],r.nd,λj ys h=>?_,λys h=>?_,λb h=>r.own b (d.own h),d.uq r⟩,_aW _,λb u h hn _=>?_,λa h1 h2=>absurd h1 h2,λb hb=>(r.mt b hb).imp (λh=>⟨h,k.l b h⟩) λh=>⟨h,k.c b h,λ_ _ e=>k.k b _ e (by intro _ z;cases z) (by intro _ z;cases z) (by intro _ _ z;cases z)⟩,λb h=>vS h,λb h=>.inl (d.own h)⟩
 ·by_cases hj:l=j
  ·subst hj;rw[_N hll]at h;cases h;exact⟨a,ha,hc⟩
  ·rw[_K hj]at h;obtain⟨b,h1,h2⟩:=r.cell j ys h;refine⟨b,h1,h2.gen k (λ_ _ q=>q) (zf ?_) (_c h1) r.own (λc vs hc q=>by rw[zf (show c≠a from λz=>hc (z ▸ hai))];exact q)⟩;rintro rfl;have il:l<Y.length:=(_b.mp ha).1;have ij:j<Y.length:=(_b.mp h1).1;exact hj ((_aK r.nd).mp (((_b.mp ha).2).trans ((_b.mp h1).2).symm))
 ·rcases _aB h with h | h;·exact r.flat ys h
  ·rw[h];exact hf
 ·rw[zf (λz=>by subst z;exact hn hai)];exact h
theorem yA.put{l:Nat}{a:Addr}{xs:List D}{vs:List V}(r:Rep mg H Y s)(ha:Y[l]? = some a)(ka:IsL H a)(hd:zA mg H Y xs vs)(hf:D.flat.flats xs=true):yA mg H Y (upd H a (.lst vs)) Y (s.set l xs):= yA.putC r ha (.putL ka) (.inl ⟨vs,zu,hd.gen (.putL ka) λ_ _ q=>q⟩) hf
noncomputable def listOf(s:Sto):D->Option (List D)
 | .lst xs=>some xs | .loc l=>s[l]? | _=>none
noncomputable def xj(s:Sto):D->Option (List D)
 | .tup xs=>some xs | .lst xs=>some xs | .scr xs=>some xs | .loc l=>s[l]? | _=>none
theorem yd{d:D}{xs:List D}{v:V}(r:Rep mg H Y s)(h:listOf s d=some xs)(dn:Den mg H Y d v):∃a vs,v=.ref a/\Rd H a (.lst vs)/\zA mg H Y xs vs:=by cases d with
 | lst ys=>
  simp only[listOf,_M]at h;subst h;simp only[Den]at dn;obtain⟨a,o,vs,e,h1,h2⟩:=dn;exact⟨a,vs,e,.inr ⟨o,h1⟩,h2⟩ | loc l=>
  simp only[Den]at dn;obtain⟨a,e,h1,k⟩:=dn;obtain⟨vs,h3,h4⟩:=r.at_ h h1 k;exact⟨a,vs,e,.inl h3,h4⟩ | _=>simp[listOf]at h
theorem zbc{xs:List D}{v:V}(dn:Den mg H Y (.scr xs) v):∃a vs,v=.ref a/\SqL mg.K H a vs/\zA mg H Y xs vs:=by
 simp only[Den]at dn;obtain⟨a,vs,e,h1,h2⟩:=dn;exact⟨a,vs,e,h1.elim (λ⟨o,h⟩=>.inl (.inr ⟨o,h⟩)) .inr,h2⟩
theorem qI{K:W.Frag}{d:D}{xs:List D}{v:V}(r:Rep mg H Y s)(h:xj s d=some xs)(dn:Den mg H Y d v)(hK:mg.K=K:=by rfl):∃a vs,v=.ref a/\(SqL K H a vs\/SqT K H a vs)/\zA mg H Y xs vs:=by cases d with
 | tup ys=>
  simp only[xj,_M]at h;subst h;simp only[Den]at dn;obtain⟨a,vs,e,h1,h2⟩:=dn;exact⟨a,vs,e,.inr (.inl (.inl h1)),h2⟩ | lst ys=>
  obtain⟨a,vs,e,h1,h2⟩:=yd (d:=.lst ys) r h dn;exact⟨a,vs,e,.inl (.inl h1),h2⟩ | scr ys=>
  simp only[xj,_M]at h;subst h;subst hK;obtain⟨a,vs,e,h1,h2⟩:=zbc dn;exact⟨a,vs,e,.inl h1,h2⟩ | loc l=>
  obtain⟨a,vs,e,h1,h2⟩:=yd (d:=.loc l) r h dn;exact⟨a,vs,e,.inl (.inl h1),h2⟩ | _=>simp[xj]at h
theorem jX{K:W.Frag}{xs:List D}{v:V}(dn:Den mg H Y (.tup xs) v):∃a vs,v=.ref a/\SqT K H a vs/\zA mg H Y xs vs:=by
 simp only[Den]at dn;obtain⟨a,vs,e,h1,h2⟩:=dn;exact⟨a,vs,e,.inl (.inl h1),h2⟩
end
noncomputable def cap:Nat:=100000
theorem qi{n:Nat}(h:n<=cap):n<=sizeLine:=_H h (by decide)
theorem z1w{n:Nat}(h:n<cap):n<sizeLine:=_w h (by decide)
noncomputable def BIG:Nat:=2 ^ 4096
noncomputable def jp:D->D->Sto->R D
 | .int i,.int j,s=>.ok (.int (i+j)) s | .tup a,.tup b,s=>if a.length+b.length<=cap then .ok (.tup (a++b)) s else .no | x,y,s=>match listOf s x,listOf s y with
  | some a,some b=>if a.length+b.length<=cap then .ok (.lst (a++b)) s else .no | _,_=>.no
section
variable {X:Cx}{E:XK}
theorem yj{mg:Gm}{H:Hp}{Y:List Addr}{i:Int}{v:V}(h:Den mg H Y (.int i) v):v=.int i:=by simpa[Den] using h
theorem jI{mg:Gm}{H:Hp}{Y:List Addr}{i:Bool}{v:V}(h:Den mg H Y (.bl i) v):v=.bl i:=by simpa[Den] using h
theorem zbB{mg:Gm}{H:Hp}{Y:List Addr}{i:Str}{v:V}(h:Den mg H Y (.str i) v):v=.str i:=by simpa[Den] using h
theorem xE{mg:Gm}{H:Hp}{Y:List Addr}{i:Int}:Den mg H Y (.int i) (.int i):=by simp[Den]
theorem wO{mg:Gm}{H:Hp}{Y:List Addr}{i:Bool}:Den mg H Y (.bl i) (.bl i):=by simp[Den]
theorem js{mg:Gm}{H:Hp}{Y:List Addr}{s:Sto}{xs:List D}{vs:List V}{Q:VK}(r:Rep mg H Y s)(h:okR mg E H Y (Den mg) (.ok (.lst xs) s) Q)(hd:zA mg H Y xs vs):∀p,H p=none->z62 Q (.ref p) (upd H p (.lst vs)):=λp hp=>by
 refine⟨p,vs,rfl,zu,λo=>?_⟩;rw[z2I];have stp:=yA.lay (o:=.frz o (.lst vs)) r hp (by intro _ z;cases z);refine h _ _ _ stp ?_;simp only[Den];exact⟨p,o,vs,rfl,zu,hd.mono stp⟩
theorem z23{mg:Gm}{H:Hp}{Y:List Addr}{s:Sto}{xs:List D}{vs:List V}{Q:VK}(r:Rep mg H Y s)(h:okR mg E H Y (Den mg) (.ok (.tup xs) s) Q)(hd:zA mg H Y xs vs):∀p,H p=none->Q (.ref p) (upd H p (.tup vs)):=λp hp=>by
 have stp:=yA.lay (o:=.tup vs) r hp (by intro _ z;cases z);refine h _ _ _ stp ?_;simp only[Den];exact⟨p,vs,rfl,zu,hd.mono stp⟩
theorem qB:∃r,OpR X (binaryOp .Add) r/\OpF X E r jp:=by
 refine⟨_,zem.or ((zac).or ((zbT).or (z7z.freeze))),?_⟩;intro H Y s d1 d2 v1 v2 Q r h1 h2 h;have lists:∀a b,listOf s d1=some a->listOf s d2=some b->okR (gm X) E H Y (Den (gm X)) (if a.length+b.length<=cap then R.ok (D.lst (a++b)) s else .no) Q-> ∃l b xs zs,v1=.ref l/\v2=.ref b/\Rd H l (.lst xs)/\Rd H b (.lst zs)/\xs.length+zs.length<=sizeLine/\∀p,H p=none->z62 Q (.ref p) (upd H p (.lst (xs++zs))):=λa b ha hb hq=>by
  obtain⟨l,vs,e,q1,q2⟩:=yd r ha h1;obtain⟨l',vs',e',q1',q2'⟩:=yd r hb h2;split at hq
  ·rename_i hl;exact⟨l,l',vs,vs',e,e',q1,q1',by rw[q2.length,q2'.length];exact qi hl,js r hq (q2.append q2')⟩
  ·exact hq.elim
 unfold jp at h;split at h
 ·rename_i i j;cases yj h1;cases yj h2;exact .inl ⟨i,j,rfl,rfl,h.here r xE⟩
 ·rename_i a b;obtain⟨l,vs,rfl,q1,q2⟩:=jX (K:=X.K) h1;obtain⟨l',vs',rfl,q1',q2'⟩:=jX (K:=X.K) h2;split at h
  ·rename_i hl;cases a with
   | nil=>
    simp only[zA]at q2;subst q2;exact .inr (.inl ⟨l,l',vs',rfl,rfl,q1,q1',h.here r h2⟩) | cons x a=>
    have ne:vs≠[]:=λz=>by have:=q2.length;rw[z]at this;simp at this
    refine .inr (.inr (.inl ⟨l,l',vs,vs',rfl,rfl,q1,q1',ne,by rw[q2.length,q2'.length];exact qi hl,λz=>?_,λz=>z23 r h (q2.append q2')⟩));have eb:b=[]:=by
     have:=q2'.length;rw[z]at this;exact List.length_eq_zero_iff.mp this.symm
    subst eb;rw[_cz]at h;exact h.here r h1
  ·exact h.elim
 ·split at h
  ·rename_i a b ha hb;exact .inr (.inr (.inr (lists a b ha hb h)))
  ·exact h.elim
end
noncomputable def dII(g:Int->Int->R D):D->D->Sto->R D
 | .int i,.int j,s=>match g i j with | .ok d _=>.ok d s | _=>.no
 | _,_,_=>.no
noncomputable def iOk(d:D):R D:=.ok d []
noncomputable def jn:D->D->Sto->R D:=dII λi j=>iOk (.int (i-j))
noncomputable def uN:D->D->Sto->R D:=dII λi j=>if i.natAbs<BIG/\j.natAbs<BIG then iOk (.int (i*j)) else .no
noncomputable def z47:D->D->Sto->R D:=dII λi j=>if 0<j/\j.natAbs<BIG then iOk (.int (i / j)) else .no
noncomputable def z7t:D->D->Sto->R D:=dII λi j=>if 0<j then iOk (.int (i % j)) else .no
noncomputable def zd3:D->D->Sto->R D:=dII λi j=>if 0<=j/\j<=1000/\i.natAbs<1000 then iOk (.int (i ^ j.toNat)) else .no
noncomputable def dLt:D->D->Sto->R D:=dII λi j=>iOk (.bl (decide (i<j)))
noncomputable def dLe:D->D->Sto->R D:=dII λi j=>iOk (.bl (decide (i<=j)))
noncomputable def dGt:D->D->Sto->R D:=dII λi j=>iOk (.bl (decide (j<i)))
noncomputable def dGe:D->D->Sto->R D:=dII λi j=>iOk (.bl (decide (j<=i)))
section
variable {X:Cx}{E:XK}
theorem jS{g:Int->Int->R D}{r:R2}(h:∀i j d t H Q,g i j=.ok d t->(∀v,(∀H Y,Den (gm X) H Y d v)->Q v H)->r (.int i) (.int j) H Q):OpF X E r (dII g):=by
 intro H Y s d1 d2 v1 v2 Q rp h1 h2 hq;unfold dII at hq;split at hq
 ·rename_i i j;cases yj h1;cases yj h2;split at hq
  ·rename_i d t e;exact h i j d t H Q e λv hv=>hq.here rp (hv H Y)
  ·exact hq.elim
 ·exact hq.elim
theorem je:∃r,OpR X (binaryOp .Sub) r/\OpF X E r jn:=⟨_,zdl,jS λi j d t H Q e q=>by
 simp only[iOk,R.ok.injEq]at e;exact⟨i,j,rfl,rfl,q _ (by intro H Y;rw[<- e.1];exact xE)⟩⟩
theorem z6e{i:Int}(h:i.natAbs<BIG):Builtin.Int.intBits i<=2 ^ 20:=by
 have q:Builtin.Int.intBits i<=4096:=(PySem.intBits_le_iff (m:=4096)).mpr h;omega
theorem zcF:OpR X (binaryOp .Mult) (rI (λi j=>i.natAbs<BIG/\j.natAbs<BIG) λi j=>.int (i*j)):=opI λ_ _ _ _ _ _ _ hc q=>mul_int q (IntMulOk.of_bits (z6e hc.1) (z6e hc.2))
theorem kL:∃r,OpR X (binaryOp .Mult) r/\OpF X E r uN:=⟨_,zcF,jS λi j d t H Q e q=>by
 split at e
 ·rename_i hc;simp only[iOk,R.ok.injEq]at e;exact⟨i,j,rfl,rfl,hc,q _ (by intro H Y;rw[<- e.1];exact xE)⟩
 ·cases e⟩
theorem zbQ{j:Int}(h:j.natAbs<BIG):j.natAbs.log2<9000:=by
 by_cases h0:j.natAbs=0;·rw[h0];decide +kernel
 ·have:j.natAbs.log2<4096:=(Nat.log2_lt h0).mpr h;omega
theorem zar:OpR X (binaryOp .FloorDiv) (rI (λ_ j=>0<j/\j.natAbs<BIG) λi j=>.int (i / j)):=opI λi j _ _ _ _ _ hc q=>by
 refine floordiv_int (by omega) ?_ (.inl (PyProof.noPylong_of_log2 (zbQ hc.2)));rw[Int.fdiv_eq_ediv_of_nonneg _ (by omega)];exact q
theorem z6h:∃r,OpR X (binaryOp .FloorDiv) r/\OpF X E r z47:=⟨_,zar,jS λi j d t H Q e q=>by
 split at e
 ·rename_i hc;simp only[iOk,R.ok.injEq]at e;exact⟨i,j,rfl,rfl,hc,q _ (by intro H Y;rw[<- e.1];exact xE)⟩
 ·cases e⟩
theorem z8j:∃r,OpR X (binaryOp .Mod) r/\OpF X E r z7t:=⟨_,zdw,jS λi j d t H Q e q=>by
 split at e
 ·rename_i hc;simp only[iOk,R.ok.injEq]at e;exact⟨i,j,rfl,rfl,hc,q _ (by intro H Y;rw[<- e.1];exact xE)⟩
 ·cases e⟩
theorem zer:∃r,OpR X (binaryOp .Pow) r/\OpF X E r zd3:=⟨_,zeS,jS λi j d t H Q e q=>by
 split at e
 ·rename_i hc;simp only[iOk,R.ok.injEq]at e;exact⟨i,j,rfl,rfl,⟨hc.1,by omega,by omega⟩,q _ (by intro H Y;rw[<- e.1];exact xE)⟩
 ·cases e⟩
theorem zi3:∃r,OpR X (compareOp .Lt) r/\OpF X E r dLt:=⟨_,zgt,jS λi j d t H Q e q=>by
 simp only[iOk,R.ok.injEq]at e;exact⟨i,j,rfl,rfl,q _ (by intro H Y;rw[<- e.1];exact wO)⟩⟩
theorem zgJ:∃r,OpR X (compareOp .LtE) r/\OpF X E r dLe:=⟨_,zfy,jS λi j d t H Q e q=>by
 simp only[iOk,R.ok.injEq]at e;exact⟨i,j,rfl,rfl,q _ (by intro H Y;rw[<- e.1];exact wO)⟩⟩
theorem zft:∃r,OpR X (compareOp .Gt) r/\OpF X E r dGt:=⟨_,zfX,jS λi j d t H Q e q=>by
 simp only[iOk,R.ok.injEq]at e;exact⟨i,j,rfl,rfl,q _ (by intro H Y;rw[<- e.1];exact wO)⟩⟩
theorem zhi:∃r,OpR X (compareOp .GtE) r/\OpF X E r dGe:=⟨_,zg5,jS λi j d t H Q e q=>by
 simp only[iOk,R.ok.injEq]at e;exact⟨i,j,rfl,rfl,q _ (by intro H Y;rw[<- e.1];exact wO)⟩⟩
end
mutual
noncomputable def ut:D->PyData
 | .non=>.none | .bl b=>.bool b | .int i=>.int i | .str x=>.str x | .tup xs=>.tuple (toPys xs) | .lst xs=>.list (toPys xs) | _=>.dict []
noncomputable def toPys:List D->List PyData
 | []=>[] | d::ds=>ut d::toPys ds
end
noncomputable def eqD(a b:D):Bool:=PyData.eqv (ut a) (ut b)
noncomputable def z9w(d:D):Bool:=SeqAt.shaped (ut d)
noncomputable def dEq(x y:D)(s:Sto):R D:=if z9w x=true/\z9w y=true then .ok (.bl (eqD x y)) s else .no
noncomputable def dNe(x y:D)(s:Sto):R D:=if z9w x=true/\z9w y=true then .ok (.bl (!eqD x y)) s else .no
section
variable {P:Program}{w:World}{mg:Gm}{H:Hp}{Y:List Addr}{h:Heap}
mutual
theorem Den.reads(ok:HOk P w H h):∀{d:D}{v:V}{u:Value},PyData.canLay0 (ut d)=true->Den mg H Y d v->xL v u->∃as,Reads h u (ut d) as
 | .non,_,_,_,dn,r=>by simp only[Den]at dn;subst dn;cases r;exact⟨_,by simpa[ut] using Reads.none⟩ | .bl b,_,_,_,dn,r=>by simp only[Den]at dn;subst dn;cases r;exact⟨_,by simpa[ut] using Reads.bool b⟩ | .int i,_,_,_,dn,r=>by simp only[Den]at dn;subst dn;obtain⟨t,rfl⟩:=r;exact⟨_,by simpa[ut] using Reads.int i t⟩ | .str x,_,_,_,dn,r=>by simp only[Den]at dn;subst dn;obtain⟨t,rfl⟩:=r;exact⟨_,by simpa[ut] using Reads.str x t⟩ | .tup ds,_,_,c,dn,r=>by
  simp only[Den]at dn;obtain⟨a,vs,rfl,h1,h2⟩:=dn;cases r;obtain⟨_,its,rv,o,e,hc,_,n,hd⟩:=ok a _ h1;obtain⟨as,q⟩:=zA.reads ok (by simpa[ut,PyData.canLay0] using c) h2 rv;rw[ut];exact⟨as,Reads.tuple e hc hd (by simpa using q)⟩ | .lst ds,_,_,c,dn,r=>by
  simp only[Den]at dn;obtain⟨a,o,vs,rfl,h1,h2⟩:=dn;cases r;obtain⟨_,_,its,n,rv,e⟩:=ok a _ h1;obtain⟨as,q⟩:=zA.reads ok (by simpa[ut,PyData.canLay0] using c) h2 rv;rw[ut];exact⟨_,Reads.list e rfl rfl (by simpa using q)⟩ | .dct,_,_,c,_,_=>by simp[ut,PyData.canLay0]at c | .loc _,_,_,c,_,_=>by simp[ut,PyData.canLay0]at c | .fn _,_,_,c,_,_=>by simp[ut,PyData.canLay0]at c | .exc _,_,_,c,_,_=>by simp[ut,PyData.canLay0]at c
theorem zA.reads(ok:HOk P w H h):∀{ds:List D}{vs:List V}{us:List Value},PyData.canLayAll0 (toPys ds)=true->zA mg H Y ds vs->xt vs us->∃as,ReadsAll h us (toPys ds) as
 | [],_,_,_,dn,r=>by simp only[zA]at dn;subst dn;cases r;exact⟨_,by simpa[toPys] using ReadsAll.nil⟩ | d::ds,_,_,c,dn,r=>by
  simp only[zA]at dn;obtain⟨v,vs,rfl,h1,h2⟩:=dn;simp only[toPys,PyData.canLayAll0,_u]at c;cases r with | cons r1 r2=>
   obtain⟨as,q⟩:=Den.reads ok c.1 h1 r1;obtain⟨bs,q'⟩:=zA.reads ok c.2 h2 r2;rw[toPys];exact⟨_,ReadsAll.cons q q'⟩
end
end
section
variable {X:Cx}{E:XK}
def zh8(mg:Gm)(neg:Bool):R2:=λx y H Q=>∃Y d1 d2,Den mg H Y d1 x/\Den mg H Y d2 y/\z9w d1=true/\z9w d2=true/\Q (.bl (if neg then !eqD d1 d2 else eqD d1 d2)) H
theorem zeF(hu:X.A.units+64<cLine):OpR X (compareOp .Eq) (zh8 (gm X) false):=by
 intro pins s O H x y v u Q I rx ry ⟨Y,d1,d2,h1,h2,p1,p2,q⟩;obtain⟨as,ra⟩:=Den.reads I.hok (_bB p1) h1 rx;obtain⟨bs,rb⟩:=Den.reads I.hok (_bB p2) h2 ry;exact SeqAt.compareEq_shaped ra rb p1 p2 hu ⟨.bl (eqD d1 d2),H,I,rfl,q⟩
theorem zfj(hu:X.A.units+64<cLine):OpR X (compareOp .NotEq) (zh8 (gm X) true):=by
 intro pins s O H x y v u Q I rx ry ⟨Y,d1,d2,h1,h2,p1,p2,q⟩;obtain⟨as,ra⟩:=Den.reads I.hok (_bB p1) h1 rx;obtain⟨bs,rb⟩:=Den.reads I.hok (_bB p2) h2 ry;exact SeqAt.compareNe_shaped ra rb p1 p2 hu ⟨.bl (!eqD d1 d2),H,I,rfl,q⟩
theorem z4Q(hu:X.A.units+64<cLine):∃r,OpR X (compareOp .Eq) r/\OpF X E r dEq:=⟨_,zeF hu,λH Y s d1 d2 v1 v2 Q r h1 h2 h=>by
 unfold dEq at h;split at h
 ·rename_i hc;exact⟨Y,d1,d2,h1,h2,hc.1,hc.2,h.here r wO⟩
 ·exact h.elim⟩
theorem zfH(hu:X.A.units+64<cLine):∃r,OpR X (compareOp .NotEq) r/\OpF X E r dNe:=⟨_,zfj hu,λH Y s d1 d2 v1 v2 Q r h1 h2 h=>by
 unfold dNe at h;split at h
 ·rename_i hc;exact⟨Y,d1,d2,h1,h2,hc.1,hc.2,h.here r wO⟩
 ·exact h.elim⟩
noncomputable def ze2:D->Option V
 | .non=>some .non | .bl b=>some (.bl b) | .int i=>some (.int i) | .str x=>some (.str x) | _=>none
noncomputable def zcl:List D->Option (List V)
 | []=>some [] | d::ds=>match ze2 d,zcl ds with | some v,some vs=>some (v::vs) | _,_=>none
noncomputable def dIs:D->D->Sto->R D
 | .bl a,.bl b,s=>.ok (.bl (a==b)) s | .non,.non,s=>.ok (.bl true) s | .bl _,.non,s=>.ok (.bl false) s | .int _,.non,s=>.ok (.bl false) s | .str _,.non,s=>.ok (.bl false) s | .tup _,.non,s=>.ok (.bl false) s | .lst _,.non,s=>.ok (.bl false) s | _,_,_=>.no
theorem zf2:OpR X (compareOp .Is) (λx y H Q=>∃a b,x=.bl a/\y=.bl b/\Q (.bl (a==b)) H):=by
 intro pins s O H x y v u Q I rx ry ⟨a,b,e1,e2,q⟩;subst e1 e2;cases rx;cases ry;exact is_bool ⟨.bl (a==b),H,I,rfl,q⟩
theorem zgS:∃r,OpR X (compareOp .Is) r/\OpF X E r dIs:=⟨_,zf2.or zde,λH Y s d1 d2 v1 v2 Q r h1 h2 h=>by
 unfold dIs at h;split at h
 ·cases jI h1;cases jI h2;exact .inl ⟨_,_,rfl,rfl,h.here r wO⟩
 ·simp only[Den]at h1 h2;subst h1 h2;exact .inr ⟨rfl,by have:=h.here r wO;simpa using this⟩
 ·simp only[Den]at h1 h2;subst h1 h2;exact .inr ⟨rfl,by have:=h.here r wO;simpa using this⟩
 ·simp only[Den]at h1 h2;subst h1 h2;exact .inr ⟨rfl,by have:=h.here r wO;simpa using this⟩
 ·simp only[Den]at h1 h2;subst h1 h2;exact .inr ⟨rfl,by have:=h.here r wO;simpa using this⟩
 ·simp only[Den]at h1 h2;obtain⟨a,vs,rfl,_⟩:=h1;subst h2;exact .inr ⟨rfl,by have:=h.here r wO;simpa using this⟩
 ·simp only[Den]at h1 h2;obtain⟨a,o,vs,rfl,_⟩:=h1;subst h2;exact .inr ⟨rfl,by have:=h.here r wO;simpa using this⟩
 ·exact h.elim⟩
noncomputable def dIx(x y:D)(s:Sto):R D:=match y,xj s x with
 | .int i,some xs=>match atI xs i with | some d=>.ok d s | none=>.no
 | _,_=>.no
theorem z9K{mg:Gm}{H:Hp}{Y:List Addr}{xs:List D}{vs:List V}{i:Int}{d:D}(h:zA mg H Y xs vs)(e:atI xs i=some d):∃v,atI vs i=some v/\Den mg H Y d v:=by
 unfold atI at e ⊢;rw[h.length];cases q:ixN xs.length i with
 | none=>rw[q]at e;cases e | some j=>
  rw[q]at e;exact h.get e
theorem zi5:∃r,IxR X r/\OpF X E r dIx:=⟨_,zbZ.or zeu,λH Y s d1 d2 v1 v2 Q r h1 h2 h=>by
 unfold dIx at h;split at h
 ·rename_i i xs e;split at h
  ·rename_i d e2;cases yj h2;obtain⟨a,vs,rfl,q1,q2⟩:=qI (K:=X.K) r e h1;obtain⟨v,e3,e4⟩:=z9K q2 e2;rcases q1 with q1 | q1;·exact .inl ⟨a,vs,i,v,rfl,rfl,q1,e3,h.here r e4⟩
   ·exact .inr ⟨a,vs,i,v,rfl,rfl,q1,e3,h.here r e4⟩
  ·exact h.elim
 ·exact h.elim⟩
end
section
variable {X:Cx}{E:XK}{e a b c:Expr}{es:List Expr}{pos:Pos}
theorem yp{op:Operator}{fo:D->D->Sto->R D}{fa fb:FE}(ho:∃r,OpR X (binaryOp op) r/\OpF X E r fo)(ha:RE X E a fa)(hb:RE X E b fb):RE X E (.BinOp a op b pos) (eOp fo fa fb):=let ⟨_,h⟩:=ho;zhx h ha hb
theorem jz{op:CmpOp}{fo:D->D->Sto->R D}{fa fb:FE}(ho:∃r,OpR X (compareOp op) r/\OpF X E r fo)(ha:RE X E a fa)(hb:RE X E b fb)(hm:behindInMarks op b=false:=by first | exact zbq _ | rfl):RE X E (.Compare a [op] [b] pos) (eOp fo fa fb):=let ⟨_,h⟩:=ho;zfx h ha hb hm
noncomputable def tOf(f:FE):FT:=fun ρ s=>(f ρ s).bind λd s1=>match d with | .bl k=>.ok k s1 | _=>.no
theorem z5B{f:FE}{O:L2.St}{H:Hp}{Q:Bool->Hp->Prop}(h:tT (gm X) E (tOf f) O H Q):zef (tE (gm X) E f) O H Q:=by
 obtain⟨Y,ρ,s,r,en,h⟩:=h;refine yK (k:=fun ρ d s1=>match d with | .bl k=>.ok k s1 | _=>.no) r en h _ λv H1 Y1 s1 d r1 en1 dn stp h1=>?_;cases d with
 | bl k=>
  cases jI dn;exact⟨k,rfl,h1.here (b:=k) r1 rfl⟩ | _=>exact h1.elim
theorem wC{op:CmpOp}{fo:D->D->Sto->R D}{fa fb:FE}(ho:∃r,OpR X (compareOp op) r/\OpF X E r fo)(ha:RE X E a fa)(hb:RE X E b fb)(hm:behindInMarks op b=false:=by first | exact zbq _ | rfl):RT X E (.Compare a [op] [b] pos) (tOf (eOp fo fa fb)):=by
 obtain⟨r,h1,h2⟩:=ho;exact z6n (zbU h1 ha hb hm) λO H Q h=>by
  have q:=z5B h;exact z6q h2 q
noncomputable def z6w(fo fo':D->D->Sto->R D)(fa fb fc:FE):FE:=fun ρ s=>(fa ρ s).bind λx s1=>(fb ρ s1).bind λy s2=>(fo x y s2).bind λz s3=>match z with
 | .bl true=>(fc ρ s3).bind λw s4=>fo' y w s4 | .bl false=>.ok (.bl false) s3 | _=>.no
theorem z8w{r r':R2}{fo fo':D->D->Sto->R D}{fa fb fc:FE}(ho:OpF X E r fo)(ho':OpF X E r' fo'){O:L2.St}{H:Hp}{Q:VK}(h:tE (gm X) E (z6w fo fo' fa fb fc) O H Q):zaX r r' (tE (gm X) E fa) (tE (gm X) E fb) (tE (gm X) E fc) O H Q:=by
 obtain⟨Y,ρ,s,rp,en,h⟩:=h;refine yK (k:=fun ρ x s1=>(fb ρ s1).bind λy s2=>(fo x y s2).bind λz s3=>match z with
  | .bl true=>(fc ρ s3).bind λw s4=>fo' y w s4 | .bl false=>.ok (.bl false) s3 | _=>.no) rp en h _ λv H1 Y1 s1 d r1 en1 dn stp h1=>?_;refine yK (k:=fun ρ y s2=>(fo d y s2).bind λz s3=>match z with
  | .bl true=>(fc ρ s3).bind λw s4=>fo' y w s4 | .bl false=>.ok (.bl false) s3 | _=>.no) r1 en1 h1 _ λv2 H2 Y2 s2 d2 r2 en2 dn2 stp2 h2=>?_;refine ho H2 Y2 s2 d d2 v v2 _ r2 (dn.mono stp2) dn2 ((okR.bind (Dn:=Den (gm X)) h2).imp λv3 H3 ⟨Y3,s3,d3,stp3,dn3,h3⟩=>?_);cases d3 with
 | bl k=>
  cases jI dn3;refine⟨k,rfl,?_⟩;cases k with
  | true=>
   rw[_g rfl];refine yK (k:=fun ρ w s4=>fo' d2 w s4) stp3.rep (en2.mono stp3) h3 _ λv4 H4 Y4 s4 d4 r4 en4 dn4 stp4 h4=>?_;exact ho' H4 Y4 s4 d2 d4 v2 v4 Q r4 ((dn2.mono stp3).mono stp4) dn4 h4 | false=>
   rw[_i (by decide)];exact okR.here (b:=V.bl false) h3 stp3.rep wO
 | _=>exact h3.elim
theorem zch{op op':CmpOp}{fo fo':D->D->Sto->R D}{fa fb fc:FE}(ho:∃r,OpR X (compareOp op) r/\OpF X E r fo)(ho':∃r,OpR X (compareOp op') r/\OpF X E r fo')(ha:RE X E a fa)(hb:RE X E b fb)(hc:RE X E c fc) (hm:lastMarks [op,op'] [b,c]=false:=by with_unfolding_all rfl):RE X E (.Compare a [op,op'] [b,c] pos) (z6w fo fo' fa fb fc):=by
 obtain⟨r,h1,h2⟩:=ho;obtain⟨r',h1',h2'⟩:=ho';exact yy (zaa h1 h1' ha hb hc hm) λO H Q h=>z8w h2 h2' h
noncomputable def z1N(fa fb:FE):FE:=fun ρ s=>(fa ρ s).bind λx s1=>match x with | .bl true=>fb ρ s1 | .bl false=>.ok (.bl false) s1 | _=>.no
noncomputable def zfv(fa:FE):FE:=fun ρ s=>(fa ρ s).bind λx s1=>match x with | .bl k=>.ok (.bl (!k)) s1 | _=>.no
variable {z6C:List Expr}
theorem z3d{op:BoolOp}{f:FE}(h:RE X E a f):RE X E (.BoolOp op [a] pos) f:=zdY h
theorem z3n{fa fb:FE}(ha:RE X E a fa)(hb:RE X E (.BoolOp .And (b::z6C) pos) fb):RE X E (.BoolOp .And (a::b::z6C) pos) (z1N fa fb):= yy (zdi ha hb) λO H Q ⟨Y,ρ,s,r,en,h⟩=>by
  refine yK (k:=fun ρ x s1=>match x with | .bl true=>fb ρ s1 | .bl false=>.ok (.bl false) s1 | _=>.no) r en h _ λv H1 Y1 s1 d r1 en1 dn stp h1=>?_;cases d with
  | bl k=>
   cases jI dn;refine⟨k,rfl,?_⟩;cases k with
   | true=>rw[_g rfl];exact⟨Y1,ρ,s1,r1,en1,h1⟩ | false=>rw[_i (by decide)];exact okR.here (b:=V.bl false) h1 r1 wO
  | _=>exact h1.elim
theorem zdW{fa:FE}(ha:RE X E a fa):RE X E (.UnaryOp .Not a pos) (zfv fa):= yy (zeY ha) λO H Q ⟨Y,ρ,s,r,en,h⟩=>by
  refine yK (k:=fun ρ x s1=>match x with | .bl k=>R.ok (D.bl (!k)) s1 | _=>.no) r en h _ λv H1 Y1 s1 d r1 en1 dn stp h1=>?_;cases d with
  | bl k=>
   cases jI dn;exact⟨k,rfl,okR.here (b:=V.bl (!k)) h1 r1 wO⟩ | _=>exact h1.elim
noncomputable def fOr(fa fb:FT):FT:=fun ρ s=>(fa ρ s).bind λx s1=>if x=true then .ok true s1 else fb ρ s1
noncomputable def z74(fa:FT):FT:=fun ρ s=>(fa ρ s).bind λx s1=>.ok (!x) s1
def RW(X:Cx)(E:XK)(e:Expr)(f:FT):Prop:=PW X e (tT (gm X) E f)
theorem RW.rt{f:FT}(h:RW X E e f):RT X E e f:=PW.pt h
theorem ze6{t t':TT}(h:PW X e t)(i:∀O H Q,t' O H Q->t O H Q):PW X e t':=λwh pins s O H Q I q=>h wh pins s O H Q I (i O H Q q)
theorem zbY{f:FT}(h:RT X E a f):RW X E (.BoolOp .Or [a] pos) f:=zeg h
theorem zgw{fa fb:FT}(ha:RT X E a fa)(hb:RW X E (.BoolOp .Or (b::z6C) pos) fb):RW X E (.BoolOp .Or (a::b::z6C) pos) (fOr fa fb):= ze6 (zgf ha hb) λO H Q ⟨Y,ρ,s,r,en,h⟩=>by
  refine z5i (k:=fun ρ x s1=>if x=true then .ok true s1 else fb ρ s1) r en h _ λv H1 Y1 s1 r1 en1 stp h1=>?_;cases v with
  | false=>rw[_i (by decide)]at h1 ⊢;exact⟨Y1,ρ,s1,r1,en1,h1⟩ | true=>rw[_g rfl]at h1 ⊢;exact h1.here r1 rfl
theorem z5k{fa:FT}(ha:RT X E a fa):RT X E (.UnaryOp .Not a pos) (z74 fa):= z6n (zdG ha) λO H Q ⟨Y,ρ,s,r,en,h⟩=>z5i (k:=fun ρ x s1=>.ok (!x) s1) r en h _ λv H1 Y1 s1 r1 en1 stp h1=>h1.here r1 rfl
theorem z33{f:FE}(h:RE X E a f)(he:∀whole,isTrue a X.env whole=(do let v <- whole;standAt a.pos;holding [v] (truthy v)):=by intro _;rfl):RT X E a (tOf f):= z6n (zeO h he) λO H Q h=>z5B h
theorem z3H {fa fb:FE} (ha:RE X E a fa) (hb:RE X E b fb) (hs:z8D b:=by intro _ _;rfl):RE X E (.Subscript a b pos) (eOp dIx fa fb):=by
 obtain⟨r,h1,h2⟩:=zi5 (X:=X) (E:=E);exact yy (zg0 h1 ha hb hs) λO H Q h=>z6q h2 h
noncomputable def zi:FA:=λ_ s=>.ok [] s
noncomputable def za(fa:FE)(fr:FA):FA:=fun ρ s=>(fa ρ s).bind λx s1=>(fr ρ s1).bind λxs s2=>.ok (x::xs) s2
theorem zh:RA X E [] zi:=zb0 uz λO H Q ⟨Y,ρ,s,r,en,h⟩=>h.here r zA.nil
theorem uy{fa:FE}{fr:FA}(ha:RE X E e fa)(hr:RA X E es fr)(hs:starEach (e::es) X.env=(false,eval e X.env)::starEach es X.env:=by rfl):RA X E (e::es) (za fa fr):= zb0 (wU ha hr hs) λO H Q ⟨Y,ρ,s,r,en,h⟩=>by
  refine yK (k:=fun ρ x s1=>(fr ρ s1).bind λxs s2=>.ok (x::xs) s2) r en h _ λv H1 Y1 s1 d r1 en1 dn stp h1=>?_;refine uJ (k:=fun ρ xs s2=>.ok (d::xs) s2) r1 en1 h1 _ λvs H2 Y2 s2 ds r2 en2 dn2 stp2 h2=>?_;exact h2.here r2 (zA.cons (dn.mono stp2) dn2)
noncomputable def jo(f:FA):FE:=fun ρ s=>(f ρ s).bind λxs s1=>if xs.length<=cap then .ok (.tup xs) s1 else .no
theorem jy{f:FA}{x1:Nat}(h:RA X E es f):RE X E (.Tuple es x1 pos) (jo f):= yy (zdE h) λO H Q ⟨Y,ρ,s,r,en,h⟩=>by
  refine uJ (k:=fun ρ xs s1=>if xs.length<=cap then R.ok (D.tup xs) s1 else .no) r en h _ λvs H2 Y2 s2 ds r2 en2 dn2 stp2 h2=>?_;split at h2
  ·rename_i hl;exact⟨by rw[dn2.length];exact qi hl,z23 r2 h2 dn2⟩
  ·exact h2.elim
noncomputable def z3I(f:FA):FE:=fun ρ s=>(f ρ s).bind λxs s1=>if xs.length<=cap then .ok (.lst xs) s1 else .no
theorem z1K{f:FA}(h:RA X E es f):RE X E (.List es pos) (z3I f):= yy (z1t h).freeze λO H Q ⟨Y,ρ,s,r,en,h⟩=>by
  refine uJ (k:=fun ρ xs s1=>if xs.length<=cap then R.ok (D.lst xs) s1 else .no) r en h _ λvs H2 Y2 s2 ds r2 en2 dn2 stp2 h2=>?_;split at h2
  ·rename_i hl;exact⟨by rw[dn2.length];exact qi hl,js r2 h2 dn2⟩
  ·exact h2.elim
noncomputable def za1(f:FA):FE:=fun ρ s=>(f ρ s).bind λxs s1=>if xs.length<=cap/\D.flat.flats xs=true then .ok (.loc s1.length) (s1++[xs]) else .no
theorem zaM{mg:Gm}{H:Hp}{Y:List Addr}{s:Sto}{xs:List D}{vs:List V}{Q:VK}(r:Rep mg H Y s)(h:okR mg E H Y (Den mg) (.ok (.loc s.length) (s++[xs])) Q)(hf:D.flat.flats xs=true)(hd:zA mg H Y xs vs):∀p,H p=none->Q (.ref p) (upd H p (.lst vs)):=λp hp=>by
 refine h _ _ _ (yA.layL r hp hd hf) ?_;simp only[Den];exact⟨p,rfl,by rw[<- r.len];simp,vs,zu⟩
theorem z5q{f:FA}(h:RA X E es f):RE X E (.List es pos) (za1 f):= yy (z1t h) λO H Q ⟨Y,ρ,s,r,en,h⟩=>by
  refine uJ (k:=fun ρ xs s1=>if xs.length<=cap/\D.flat.flats xs=true then R.ok (D.loc s1.length) (s1++[xs]) else .no) r en h _ λvs H2 Y2 s2 ds r2 en2 dn2 stp2 h2=>?_;split at h2
  ·rename_i hl;exact⟨by rw[dn2.length];exact qi hl.1,zaM r2 h2 hl.2 dn2⟩
  ·exact h2.elim
def z0g(X:Cx)(E:XK)(r:List V->Hp->VK->Prop)(g:List D->Sto->R D):Prop:= ∀H Y s ds vs (Q:VK),Rep (gm X) H Y s->zA (gm X) H Y ds vs->okR (gm X) E H Y (Den (gm X)) (g ds s) Q->r vs H Q
noncomputable def ze(g:List D->Sto->R D)(f:FA):FE:=fun ρ s=>(f ρ s).bind λxs s1=>g xs s1
theorem zD {x:Str} {p:Pos} {id:String} {g:List D->Sto->R D} {f:FA} (hc:∃r,wA X (.builtin id) r/\z0g X E r g) (hg:Gl X x) (hm:X.mg x=none) (hv:bootBuiltins x=some (.builtin id)) (ha:RA X E (e::es) f) (hn:x≠"__name__":=by decide) (hdb:(x==("__debug__":Str))=false:=by decide) (he:starEach (e::es) X.env=(false,eval e X.env)::starEach es X.env:=by rfl) (hpl:(backTo pos (starEach es X.env)).any (·.1)=false:=by rfl):RE X E (.Call (.Name x p) (e::es) [] pos) (ze g f):=by
 obtain⟨r,h1,h2⟩:=hc;exact yy (z3y h1 hg hm hv ha hn hdb he hpl) λO H Q ⟨Y,ρ,s,r,en,h⟩=> uJ (k:=fun ρ xs s1=>g xs s1) r en h _ λvs H2 Y2 s2 ds r2 en2 dn2 stp2 h3=>h2 H2 Y2 s2 ds vs Q r2 dn2 h3
theorem zbI {x:Str} {p:Pos} {T:String} {g:List D->Sto->R D} {f:FA} (hc:∃r,wA X (.type T) r/\z0g X E r g) (hg:Gl X x) (hm:X.mg x=none) (hv:bootBuiltins x=some (.type T)) (ha:RA X E (e::es) f) (hn:x≠"__name__":=by decide) (hdb:(x==("__debug__":Str))=false:=by decide) (he:starEach (e::es) X.env=(false,eval e X.env)::starEach es X.env:=by rfl) (hpl:(backTo pos (starEach es X.env)).any (·.1)=false:=by rfl):RE X E (.Call (.Name x p) (e::es) [] pos) (ze g f):=by
 obtain⟨r,h1,h2⟩:=hc;exact yy (z4v h1 hg hm hv ha hn hdb he hpl) λO H Q ⟨Y,ρ,s,r,en,h⟩=> uJ (k:=fun ρ xs s1=>g xs s1) r en h _ λvs H2 Y2 s2 ds r2 en2 dn2 stp2 h3=>h2 H2 Y2 s2 ds vs Q r2 dn2 h3
theorem z2G{mg:Gm}{H:Hp}{Y:List Addr}{d:D}{vs:List V}(h:zA mg H Y [d] vs):∃v,vs=[v]/\Den mg H Y d v:=by
 simp only[zA]at h;obtain⟨v,r,rfl,h1,rfl⟩:=h;exact⟨v,rfl,h1⟩
theorem z6y{mg:Gm}{H:Hp}{Y:List Addr}{d d':D}{vs:List V}(h:zA mg H Y [d,d'] vs):∃v v',vs=[v,v']/\Den mg H Y d v/\Den mg H Y d' v':=by
 simp only[zA]at h;obtain⟨v,r,rfl,h1,v',r',rfl,h2,rfl⟩:=h;exact⟨v,v',rfl,h1,h2⟩
noncomputable def vj:List D->Sto->R D
 | [d],s=>match xj s d with | some xs=>.ok (.int xs.length) s | none=>.no
 | _,_=>.no
theorem z00:∃r,wA X (.builtin "len") r/\z0g X E r vj:=⟨_,z43,λH Y s ds vs Q r hd h=>by
 unfold vj at h;split at h
 ·split at h
  ·rename_i d xs e;obtain⟨v,rfl,dn⟩:=z2G hd;obtain⟨a,ws,rfl,q1,q2⟩:=qI (K:=X.K) r e dn;exact⟨a,ws,rfl,q1,by rw[q2.length];exact h.here r xE⟩
  ·exact h.elim
 ·exact h.elim⟩
noncomputable def z4h:List D->Sto->R D
 | [d],s=>match xj s d with | some xs=>.ok (.tup xs) s | none=>.no
 | _,_=>.no
theorem zcS:∃r,wA X (.type "tuple") r/\z0g X E r z4h:=⟨_,z3q,λH Y s ds vs Q r hd h=>by match ds,hd,h with
 | [],_,h=>exact h.elim | _::_::_,_,h=>exact h.elim | [d],hd,h=>
  obtain⟨v,rfl,dn⟩:=z2G hd;simp only[z4h]at h;cases e:xj s d with
  | none=>rw[e]at h;exact h.elim | some xs=>
   rw[e]at h;cases d with
   | tup ys=>
    simp only[xj,_M]at e;subst e;obtain⟨a,ws,rfl,q1,q2⟩:=jX (K:=X.K) dn;exact⟨a,ws,rfl,.inr ⟨q1,h.here r dn⟩⟩ | lst ys=>
    obtain⟨a,ws,rfl,q1,q2⟩:=yd (d:=.lst ys) r e dn;exact⟨a,ws,rfl,.inl ⟨.inl q1,z23 r h q2⟩⟩ | loc l=>
    obtain⟨a,ws,rfl,q1,q2⟩:=yd (d:=.loc l) r e dn;exact⟨a,ws,rfl,.inl ⟨.inl q1,z23 r h q2⟩⟩ | scr ys=>
    simp only[xj,_M]at e;subst e;obtain⟨a,ws,rfl,q1,q2⟩:=zbc dn;exact⟨a,ws,rfl,.inl ⟨q1,z23 r h q2⟩⟩ | _=>simp[xj]at e⟩
noncomputable def zaf:List D->Sto->R D
 | [.int i,.int j],s=>.ok (.int (if j > i then j else i)) s | _,_=>.no
noncomputable def zaE:List D->Sto->R D
 | [.int i,.int j],s=>.ok (.int (if j<i then j else i)) s | _,_=>.no
theorem zfl(hc:X.calm=true):∃r,wA X (.builtin "max") r/\z0g X E r zaf:=⟨_,z8y hc,λH Y s ds vs Q r hd h=>by
 unfold zaf at h;split at h
 ·rename_i i j;obtain⟨v,v',rfl,d1,d2⟩:=z6y hd;cases yj d1;cases yj d2;exact⟨i,j,rfl,h.here r xE⟩
 ·exact h.elim⟩
theorem zev(hc:X.calm=true):∃r,wA X (.builtin "min") r/\z0g X E r zaE:=⟨_,z7D hc,λH Y s ds vs Q r hd h=>by
 unfold zaE at h;split at h
 ·rename_i i j;obtain⟨v,v',rfl,d1,d2⟩:=z6y hd;cases yj d1;cases yj d2;exact⟨i,j,rfl,h.here r xE⟩
 ·exact h.elim⟩
abbrev FO:=Ev->Sto->R (Option Int)
def oD(_:Hp)(_:List Addr)(a b:Option Int):Prop:=a=b
def tO(mg:Gm)(E:XK)(f:FO):TO:=λO H Q=>∃Y ρ s,Rep mg H Y s/\vA mg H Y ρ O/\okR mg E H Y oD (f ρ s) Q
def RO(X:Cx)(E:XK)(e:Option Expr)(f:FO):Prop:=PO X e (tO (gm X) E f)
theorem zaZ{o:Option Expr}{t t':TO}(h:PO X o t)(i:∀O H Q,t' O H Q->t O H Q):PO X o t':=λpins s O H Q I q=>h pins s O H Q I (i O H Q q)
noncomputable def xK:FO:=λ_ s=>.ok none s
noncomputable def qw(f:FE):FO:=fun ρ s=>(f ρ s).bind λd s1=>match d with | .int i=>.ok (some i) s1 | _=>.no
theorem z4b:RO X E none xK:=zaZ zbX λO H Q ⟨Y,ρ,s,r,en,h⟩=>h.here (b:=none) r rfl
theorem z4y{f:FE}(h:RE X E e f):RO X E (some e) (qw f):=zaZ (zcp h) λO H Q ⟨Y,ρ,s,r,en,h⟩=>by
 refine yK (k:=fun ρ d s1=>match d with | .int i=>.ok (some i) s1 | _=>.no) r en h _ λv H1 Y1 s1 d r1 en1 dn stp h1=>?_;cases d with
 | int i=>cases yj dn;exact⟨i,rfl,h1.here (b:=some i) r1 rfl⟩ | _=>exact h1.elim
noncomputable def cutD(xs:List D)(lo hi:Option Int):List D:=(xs.drop (HT.sIx xs.length 0 lo)).take (HT.sIx xs.length xs.length hi-HT.sIx xs.length 0 lo)
theorem z2H{mg:Gm}{H:Hp}{Y:List Addr}{xs:List D}{vs:List V}(h:zA mg H Y xs vs)(lo hi:Option Int):zA mg H Y (cutD xs lo hi) (zaW vs lo hi):=by
 unfold cutD zaW;rw[h.length];exact (h.drop _).take _
noncomputable def dSl(x:D)(lo hi:Option Int)(s:Sto):R D:=match x with
 | .tup xs=>.ok (.tup (cutD xs lo hi)) s | x=>match listOf s x with | some xs=>.ok (.lst (cutD xs lo hi)) s | none=>.no
noncomputable def eSl(fe:FE)(fl fh:FO):FE:=fun ρ s=>(fe ρ s).bind λx s1=>(fl ρ s1).bind λlo s2=>(fh ρ s2).bind λhi s3=>dSl x lo hi s3
theorem z8M{α β:Type}{Dn:Hp->List Addr->α->β->Prop}{mg:Gm}{f:FO}{k:Ev->Option Int->Sto->R α}{O:L2.St}{H:Hp}{Q:β->Hp->Prop}{Y:List Addr}{ρ:Ev}{s:Sto}(r:Rep mg H Y s)(en:vA mg H Y ρ O) (h:okR mg E H Y Dn ((f ρ s).bind (k ρ)) Q)(K:Option Int->Hp->Prop) (hK:∀v H1 Y1 s1,Rep mg H1 Y1 s1->vA mg H1 Y1 ρ O->yA mg H Y H1 Y1 s1->okR mg E H1 Y1 Dn (k ρ v s1) Q->K v H1):tO mg E f O H K:= ⟨Y,ρ,s,r,en,(okR.bind (Dn:=oD) h).imp λv H1 ⟨Y1,s1,d,stp,dn,q⟩=>hK v H1 Y1 s1 stp.rep (en.mono stp) stp (by cases (show d=v from dn);exact q)⟩
theorem z18{lo hi:Option Expr}{p2:Pos}{fe:FE}{fl fh:FO}(he:RE X E e fe)(hl:RO X E lo fl)(hh:RO X E hi fh):RE X E (.Subscript e (.Slice lo hi none p2) pos) (eSl fe fl fh):= yy (z9W ((ze3.or zcK).or zbH.freeze) he hl hh) λO H Q ⟨Y,ρ,s,r,en,h⟩=>by
  refine yK (k:=fun ρ x s1=>(fl ρ s1).bind λlo s2=>(fh ρ s2).bind λhi s3=>dSl x lo hi s3) r en h _ λv H1 Y1 s1 d r1 en1 dn stp h1=>?_;refine z8M (k:=fun ρ lo s2=>(fh ρ s2).bind λhi s3=>dSl d lo hi s3) r1 en1 h1 _ λlo H2 Y2 s2 r2 en2 stp2 h2=>?_;refine z8M (k:=fun ρ hi s3=>dSl d lo hi s3) r2 en2 h2 _ λhi H3 Y3 s3 r3 en3 stp3 h3=>?_;have dn3:=(dn.mono stp2).mono stp3;cases d with
  | tup xs=>
   obtain⟨a,vs,rfl,q1,q2⟩:=jX (K:=X.K) dn3;have h3':okR (gm X) E H3 Y3 (Den (gm X)) (.ok (.tup (cutD xs lo hi)) s3) Q:=h3;by_cases hw:HT.sIx vs.length 0 lo=0/\HT.sIx vs.length vs.length hi=vs.length
   ·refine .inl (.inr ⟨a,vs,rfl,q1,hw,?_⟩);have e:cutD xs lo hi=xs:=by
     unfold cutD;rw[<- q2.length,hw.1,hw.2];simp[q2.length]
    rw[e]at h3';exact h3'.here r3 dn3
   ·exact .inl (.inl ⟨a,vs,rfl,q1,hw,z23 r3 h3' (z2H q2 lo hi)⟩) | lst xs=>
   obtain⟨a,vs,rfl,q1,q2⟩:=yd (d:=.lst xs) r3 rfl dn3;exact .inr ⟨a,vs,rfl,.inl q1,js r3 h3 (z2H q2 lo hi)⟩ | loc l=>
   simp only[dSl]at h3;split at h3
   ·rename_i xs e;obtain⟨a,vs,rfl,q1,q2⟩:=yd (d:=.loc l) r3 e dn3;exact .inr ⟨a,vs,rfl,.inl q1,js r3 h3 (z2H q2 lo hi)⟩
   ·exact h3.elim | _=>exact h3.elim
end
abbrev Mir:=List D->Sto->R D
def zbL(mg:Gm)(M:Mir):Sp:=λvs H Q E=>∃Y s ds,Rep mg H Y s/\zA mg H Y ds vs/\okR mg E H Y (Den mg) (M ds s) Q
def Has(P:Program)(w:World)(K:W.Frag)(mg:Str->Option Value)(base:Heap)(CX:CXT)(x:Str)(n:Nat)(M:Mir):Prop:= ∃f fd ps,z3J P w K mg base CX n f fd ps (zbL ⟨mg,K⟩ M)/\Binds K fd ps []/\W.keepIn K (.ref f)=true/\mg x=some (.ref f)
section
variable {X:Cx}{E:XK}{e a b c:Expr}{es:List Expr}{pos:Pos}{CX:CXT}
theorem z9b {x:Str} {p:Pos} {n:Nat} {M:Mir} {f:FA} (F:Has X.prog X.w X.K X.mg X.base CX x n M) (hr:z1D n X.A) (hx:Passes CX X E) (hg:Gl X x) (ha:RA X E (e::es) f) (hdb:(x==("__debug__":Str))=false:=by decide) (he:starEach (e::es) X.env=(false,eval e X.env)::starEach es X.env:=by rfl) (hpl:(backTo pos (starEach es X.env)).any (·.1)=false:=by rfl):RE X E (.Call (.Name x p) (e::es) [] pos) (ze M f):=by
 obtain⟨fa,fd,ps,F,hb,hk,hm⟩:=F;refine yy (zbR F hr hg hm hk hb .nil hx ha hdb he hpl) λO H Q ⟨Y,ρ,s,r,en,h⟩=>?_;refine uJ (k:=fun ρ xs s1=>M xs s1) r en h _ λvs H2 Y2 s2 ds r2 en2 dn2 stp2 h3=>?_;rw[_cz];exact⟨Y2,s2,ds,r2,dn2,h3⟩
noncomputable def zM(f g:FS):FS:=fun ρ s=>(f ρ s).bind λfl s1=>match fl with | .nx ρ'=>g ρ' s1 | fl=>.ok fl s1
noncomputable def vf:FS:=fun ρ s=>.ok (.nx ρ) s
variable {st:Stmt}{rs:List Stmt}
theorem zet {mg:Gm} {f g:FS} {D:z8v} {O:L2.St} {H:Hp} (h:tS mg E (zM f g) D O H):zgV (tS mg E f) (tS mg E g) D O H:=by
 obtain⟨Y,ρ,s,r,en,h⟩:=h;refine⟨Y,ρ,s,r,en,(okR.bind (Dn:=FlD mg) h).imp λfv H1 ⟨Y1,s1,fl,stp,dn,q⟩=>?_⟩;cases fl with
 | nx ρ'=> cases fv with
  | nx O'=>exact⟨Y1,ρ',s1,stp.rep,dn,q⟩ | _=>exact (show False from dn).elim
 | rt d=> cases fv with
  | rt v=>exact okR.here (b:=FlV.rt v) (Q:=z3e D) (s:=s1) (a:=Fl.rt d) q stp.rep dn | _=>exact (show False from dn).elim
 | bk ρ'=> cases fv with
  | bk v=>exact okR.here (b:=FlV.bk v) (Q:=z3e D) (s:=s1) (a:=Fl.bk ρ') q stp.rep dn | _=>exact (show False from dn).elim
 | ct ρ'=> cases fv with
  | ct v=>exact okR.here (b:=FlV.ct v) (Q:=z3e D) (s:=s1) (a:=Fl.ct ρ') q stp.rep dn | _=>exact (show False from dn).elim
theorem wH:RSs X E [] vf:=z5l zbN λD O H ⟨Y,ρ,s,r,en,h⟩=>okR.here (b:=FlV.nx O) h r en
theorem zg{f g:FS}(h1:RS X E st f)(h2:RSs X E rs g):RSs X E (st::rs) (zM f g):=z5l (z2r h1 h2) λD O H h=>zet h
theorem zt{f:FS}(h1:RS X E st f):RSs X E [st] f:=zbM h1
noncomputable def fNo:FS:=λ_ _=>.no
theorem z7I:RS X E st fNo:=vZ z9D λD O H ⟨_,_,_,_,_,h⟩=>h
noncomputable def jf(f:FE):FS:=fun ρ s=>(f ρ s).bind λ_ s1=>.ok (.nx ρ) s1
theorem jV {f:FE} (he:RE X E e f) (hs:swapsWith e none pos.line X.env=pure false:=by rfl):RS X E (.Expr e pos) (jf f):= vZ (zcn he hs) λD O H ⟨Y,ρ,s,r,en,h⟩=>yK (k:=fun ρ _ s1=>R.ok (Fl.nx ρ) s1) r en h _ λv H1 Y1 s1 d r1 en1 dn stp h1=>okR.here (b:=FlV.nx O) (Q:=z3e D) h1 r1 en1
noncomputable def wN(f:FE):FS:=fun ρ s=>(f ρ s).bind λd s1=>.ok (.rt d) s1
theorem yT {f:FE} (he:RE X E e f):RS X E (.Return (some e) pos) (wN f):= vZ (zdH he) λD O H ⟨Y,ρ,s,r,en,h⟩=>yK (k:=fun ρ d s1=>R.ok (Fl.rt d) s1) r en h _ λv H1 Y1 s1 d r1 en1 dn stp h1=>okR.here (b:=FlV.rt v) (Q:=z3e D) h1 r1 dn
noncomputable def fIf(ft:FT)(f g:FS):FS:=fun ρ s=>(ft ρ s).bind λx s1=>if x=true then f ρ s1 else g ρ s1
theorem z2l{ft:FT}{f g:FS}{as bs:List Stmt}(hc:RT X E c ft)(ha:RSs X E as f)(hb:RSs X E bs g):RS X E (.If c as bs pos) (fIf ft f g):= vZ (zgz hc ha hb) λD O H ⟨Y,ρ,s,r,en,h⟩=>z5i (k:=fun ρ x s1=>if x=true then f ρ s1 else g ρ s1) r en h _ λv H1 Y1 s1 r1 en1 stp h1=>by cases v with
  | true=>rw[_g rfl]at h1 ⊢;exact⟨Y1,ρ,s1,r1,en1,h1⟩ | false=>rw[_i (by decide)]at h1 ⊢;exact⟨Y1,ρ,s1,r1,en1,h1⟩
abbrev FG:=D->Ev->Sto->R Ev
def tG(mg:Gm)(E:XK)(f:FG):TG:=λv O H Q=>∃Y ρ s d,Rep mg H Y s/\vA mg H Y ρ O/\Den mg H Y d v/\okR mg E H Y (vA mg) (f d ρ s) (λO' H'=>Q O' H')
def RG(X:Cx)(E:XK)(tg:Expr)(f:FG):Prop:=PG X tg (tG (gm X) E f)
theorem zdc{tg:Expr}{t t':TG}(h:PG X tg t)(i:∀v O H Q,t' v O H Q->t v O H Q):PG X tg t':=λpins s O H v u Q I r q=>h pins s O H v u Q I r (i v O H Q q)
noncomputable def yJ(i:Nat):FG:=λd ρ s=>.ok (ρ.set i (some d)) s
theorem uG(i:Nat){x:Str}(hN:X.N.Nodup)(hi:X.N[i]? = some x:=by rfl)(hx:Loc X.env.scope x:=by first | exact Or.inl rfl | exact Or.inr rfl)(hf:X.fn x=true\/X.env.scope.names.lookup x=some .local:=by first | exact .inl rfl | exact .inr rfl | assumption):RG X E (.Name x pos) (yJ i):= zdc (yk hN hi hx hf) λv O H Q ⟨Y,ρ,s,d,r,en,dn,h⟩=>okR.here (b:=O.set i (some v)) h r (en.set dn i)
noncomputable def kz(i j:Nat):FG:=λd ρ s=>match d with | .tup [x,y]=>.ok ((ρ.set i (some x)).set j (some y)) s | _=>.no
noncomputable def wq(i:Nat)(f:FE):FS:=fun ρ s=>(f ρ s).bind λd s1=>.ok (.nx (ρ.set i (some d))) s1
theorem yU (i:Nat) {x:Str} {pos':Pos} {f:FE} (hN:X.N.Nodup) (he:RE X E e f) (hi:X.N[i]? = some x:=by rfl) (hx:Loc X.env.scope x:=by first | exact Or.inl rfl | exact Or.inr rfl) (hs:swapsWith e (some (.Name x pos')) pos.line X.env=pure false:=by rfl) (hf:X.fn x=true\/X.env.scope.names.lookup x=some .local:=by first | exact .inl rfl | exact .inr rfl | assumption):RS X E (.Assign [.Name x pos'] e pos) (wq i f):= vZ (zfa hN hi hx he hs hf) λD O H ⟨Y,ρ,s,r,en,h⟩=>yK (k:=fun ρ d s1=>R.ok (Fl.nx (ρ.set i (some d))) s1) r en h _ λv H1 Y1 s1 d r1 en1 dn stp h1=>okR.here (b:=FlV.nx (O.set i (some v))) (Q:=z3e D) h1 r1 (en1.set dn i)
noncomputable def zfs(i j:Nat)(f:FA):FS:=fun ρ s=>(f ρ s).bind λds s1=>match ds with | [x,y]=>.ok (.nx ((ρ.set i (some x)).set j (some y))) s1 | _=>.no
theorem zf4 (i j:Nat) {x y:Str} {px py pt:Pos} {kt k2:Nat} {pt2:Pos} {f:FA} (hc:X.calm=true) (hN:X.N.Nodup) (ha:RA X E [a,b] f) (hi:X.N[i]? = some x:=by rfl) (hj:X.N[j]? = some y:=by rfl) (hij:i≠j:=by decide) (hx:X.env.scope.names.lookup x=some .local:=by rfl) (hy:X.env.scope.names.lookup y=some .local:=by rfl) (hw:swappedStores [.Tuple [.Name x px,.Name y py] kt pt] (.Tuple [a,b] k2 pt2) X.env=pure (some [x,y]):=by rfl) (hs:swapsWithSole [.Tuple [.Name x px,.Name y py] kt pt] (.Tuple [a,b] k2 pt2) pos.line X.env=pure false:=by rfl): RS X E (.Assign [.Tuple [.Name x px,.Name y py] kt pt] (.Tuple [a,b] k2 pt2) pos) (zfs i j f):= vZ (zek hc hN hi hj hij hx hy ha hw hs) λD O H ⟨Y,ρ,s,r,en,h⟩=>by
  refine uJ (k:=fun ρ ds s1=>match ds with | [x,y]=>R.ok (Fl.nx ((ρ.set i (some x)).set j (some y))) s1 | _=>.no) r en h _ λvs H1 Y1 s1 ds r1 en1 dn stp h1=>?_;match ds,dn,h1 with
  | [],_,h1=>exact h1.elim | [_],_,h1=>exact h1.elim | _::_::_::_,_,h1=>exact h1.elim | [d1,d2],dn,h1=>
   obtain⟨v1,v2,rfl,e1,e2⟩:=z6y dn;exact⟨v1,v2,rfl,okR.here (b:=FlV.nx ((O.set i (some v1)).set j (some v2))) (Q:=z3e D) h1 r1 ((en1.set e1 i).set e2 j)⟩
noncomputable def z4g(fo fi fv:FE):FS:=fun ρ s=>(fv ρ s).bind λd s1=>(fo ρ s1).bind λo s2=>(fi ρ s2).bind λi s3=>match o,i with
 | .loc l,.int k=>match s3[l]? with
  | some xs=>match ixN xs.length k with
   | some j=>if d.flat=true then .ok (.nx ρ) (s3.set l (xs.set j d)) else .no | none=>.no
  | none=>.no
 | _,_=>.no
theorem z3O:∀{xs:List D}{d:D}{j:Nat},D.flat.flats xs=true->d.flat=true->D.flat.flats (xs.set j d)=true
 | [],_,_,_,_=>rfl | x::xs,d,0,h,hd=>by
  simp only[D.flat.flats,_u,List.set_cons_zero]at h ⊢;exact⟨hd,h.2⟩ | x::xs,d,j+1,h,hd=>by
  simp only[D.flat.flats,_u,List.set_cons_succ]at h ⊢;exact⟨h.1,z3O h.2 hd⟩
theorem yV:∀{xs ys:List D},D.flat.flats xs=true->D.flat.flats ys=true->D.flat.flats (xs++ys)=true
 | [],_,_,h=>h | x::xs,ys,h,h'=>by
  simp only[D.flat.flats,_u,_aa]at h ⊢;exact⟨h.1,yV h.2 h'⟩
theorem z6d {o i:Expr} {p1:Pos} {fo fi fv:FE} (hv:RE X E e fv) (ho:RE X E o fo) (hi:RE X E i fi) (ha:∀v,assign (.Subscript o i p1) X.env v=(do
   let ov <- holding [v] (eval o X.env) let iv <- holding [v,ov] (eval i X.env)
   standAt p1
   holding [v,ov,iv] (setItem ov iv v)
   release [v,ov,iv] []):=by intro _;rfl) (hs:swapsWithSole [.Subscript o i p1] e pos.line X.env=pure false:=by rfl) (hw:swappedStores [.Subscript o i p1] e X.env=pure none:=by rfl) (h1:(assignEach [.Subscript o i p1] X.env).map (·.2)=[assign (.Subscript o i p1) X.env]:=by rfl):RS X E (.Assign [.Subscript o i p1] e pos) (z4g fo fi fv):= vZ (zee hv (zda ho hi set_list ha) hs hw h1) λD O H ⟨Y,ρ,s,r,en,h⟩=>by
  unfold z4g at h;refine⟨Y,ρ,s,r,en,(okR.bind (Dn:=Den (gm X)) h).imp λv H1 ⟨Y1,s1,d,stp,dn,h1⟩=>?_⟩;refine⟨Y1,ρ,s1,stp.rep,en.mono stp,(okR.bind (Dn:=Den (gm X)) h1).imp λov H2 ⟨Y2,s2,od,stp2,dn2,h2⟩=>?_⟩;refine⟨Y2,ρ,s2,stp2.rep,(en.mono stp).mono stp2,(okR.bind (Dn:=Den (gm X)) h2).imp λiv H3 ⟨Y3,s3,id,stp3,dn3,h3⟩=>?_⟩;have en3:=((en.mono stp).mono stp2).mono stp3;have dv:=(dn.mono stp2).mono stp3;have dov:=dn2.mono stp3;cases od with
  | loc l=> cases id with
   | int k=>
    simp only at h3;split at h3
    ·rename_i xs ex;split at h3
     ·rename_i j ej;split at h3
      ·rename_i hf;cases yj dn3;simp only[Den]at dov;obtain⟨a,rfl,e1,ka⟩:=dov;obtain⟨vs,q1,q2⟩:=stp3.rep.at_ ex e1 ka;have stp4:=yA.put (l:=l) (xs:=xs.set j d) stp3.rep e1 ka (q2.set j dv) (z3O (stp3.rep.flat xs (_c ex)) hf);exact⟨a,vs,k,j,rfl,rfl,q1,by rw[q2.length];exact ej,h3 (.nx O) _ _ stp4 (en3.mono stp4)⟩
      ·exact h3.elim
     ·exact h3.elim
    ·exact h3.elim | _=>exact h3.elim
  | _=>exact h3.elim
def zd2(fo fv:FE):FE:=fun ρ s=>(fo ρ s).bind λo s1=>match o with
 | .loc l=>(fv ρ s1).bind λd s2=>match s2[l]? with
  | some xs=>if d.flat=true/\xs.length<cap then .ok .non (s2.set l (xs++[d])) else .no | none=>.no
 | _=>.no
theorem z6l {o:Expr} {apos:Pos} {fo fv:FE} (ho:RE X E o fo) (hv:RE X E e fv) (hbase:attributeBase o "append" X.env (eval o X.env)=eval o X.env:=by rfl) (hfew:((backTo pos (starEach [e] X.env)).all (λx=>!x.1)&&(backToKw pos (keywordEach [] X.env)).all (λx=>x.1.isSome) && decide ([e].length+([]:List Keyword).length+(if ([]:List Keyword).isEmpty then 0 else 1)<30))=true:=by rfl) (hline:(apos.endLine==pos.line)=true:=by rfl) (hs:starEach [e] X.env=(false,eval e X.env)::starEach [] X.env:=by rfl) (hplain:(backTo pos (starEach [] X.env)).any (·.1)=false:=by rfl): RE X E (.Call (.Attribute o "append" apos) [e] [] pos) (zd2 fo fv):= yy (zav _b6 PySem.F.slot_list_append PySem.F.type_list_append z4f ho (wU hv uz hs) hbase hfew hline hs hplain) λO H Q ⟨Y,ρ,s,r,en,h⟩=>by
  unfold zd2 at h;refine⟨Y,ρ,s,r,en,(okR.bind (Dn:=Den (gm X)) h).imp λov H1 ⟨Y1,s1,od,stp,dn,h1⟩=>?_⟩;cases od with
  | loc l=>
   simp only at h1;have hty:tyV X.K "list" ov H1:=by
    simp only[Den]at dn;obtain⟨a,rfl,e1,vs,e2⟩:=dn;exact .inl ⟨rfl,vs,.inl (.inl e2)⟩
   refine⟨hty,⟨Y1,ρ,s1,stp.rep,en.mono stp,(okR.bind (Dn:=Den (gm X)) h1).imp λv H2 ⟨Y2,s2,d,stp2,dn2,h2⟩=>?_⟩⟩;split at h2
   ·rename_i xs ex;split at h2
    ·rename_i hf;have dov:=dn.mono stp2;simp only[Den]at dov;obtain⟨a,rfl,e1,ka⟩:=dov;obtain⟨vs,q1,q2⟩:=stp2.rep.at_ ex e1 ka;have stp3:=yA.put (l:=l) (xs:=xs++[d]) stp2.rep e1 ka (q2.append (zA.one dn2)) (yV (stp2.rep.flat xs (_c ex)) (by simp[D.flat.flats,hf.1]));refine⟨a,vs,v,rfl,rfl,q1,by rw[q2.length];exact z1w hf.2,h2 .non _ _ stp3 (by simp[Den])⟩
    ·exact h2.elim
   ·exact h2.elim | _=>exact h1.elim
end
end Dd
namespace L2
theorem zeH{X:Cx}{tg l:Expr}{tl:TE}(hl:PE X l tl):PI X tg l (λO H R=>tl O H λx H1=>∃a,x=.ref a/\(((∃xs,SqL X.K H1 a xs)/\R (Itl X.K a) H1)\/((∃xs,SqT X.K H1 a xs)/\R (Itt X.K a) H1))):=by
 intro pins s O H R I h;refine thn (hl pins s O H _ I h) λv s1 ⟨x,H1,I1,r1,q1⟩=>?_;obtain⟨a,e,q⟩:=q1;subst e;cases r1;rcases q with⟨⟨xs,hq⟩,q⟩ | ⟨⟨xs,hq⟩,q⟩
 ·obtain⟨its,rv,p,hz⟩:=I1.list hq;refine _c5 p.isList ?_;refine⟨s1.heap.objs.size,[s1.heap.objs.size],_,_,H1,rfl,I1.kept (t':=s1.toks) λb o e=>_f _ e,z8x a _,⟨_,_s _ rfl,rfl,rfl⟩,λb hb=>?_,q⟩;have e:b=s1.heap.objs.size:=by simpa using hb
  subst e;exact I1.fpOk (_d _) (I1.hok.fresh (_d _))
 ·obtain⟨its,rv,p,hz⟩:=I1.tuple hq;refine wpAny_pyIter_tuple (show s1.heap.IsTuple a its.toArray from p) ?_;refine⟨s1.heap.objs.size,[s1.heap.objs.size],_,_,H1,rfl,I1.kept (t':=s1.toks) λb o e=>_f _ e,z7g a _,⟨_,_s _ rfl,rfl,rfl⟩,λb hb=>?_,q⟩;have e:b=s1.heap.objs.size:=by simpa using hb
  subst e;exact I1.fpOk (_d _) (I1.hok.fresh (_d _))
theorem jA.freeze{X:Cx}{pins:List (Addr×Obj)}{O:L2.St}{C:Addr}{Q:VK}{acc:Value}{s':Shared}(h:jA X pins O C (z62 Q) acc s'):jA X pins O C Q acc s':=by
 obtain⟨v,Hf,I,r,⟨a,xs,rfl,ha,q⟩,hm,f⟩:=h;obtain⟨its,n,rv,e,_⟩:=I.lst ha;refine⟨_,_,I.freeze ha e (by intro _ z;cases z) (by intro _ _ z;cases z) (by intro _ z;cases z) (by intro _ z;cases z),r,q _,hm,?_,f.2⟩;rw[zf (λz=>by have:=f.1;rw[z,ha]at this;cases this)];exact f.1
theorem z50 {X:Cx} {tg iter elt:Expr} {ifs:List Expr} {scope:Scope} {pos spos py:Pos} {wi:TI} {g:TG} {ti:TT} {te:TE} {i:Nat} {y:Str} (N':List Str) (mp:List (Option Nat)) (hN:X.N.Nodup) (hy:X.N[i]? = some y) (hyl:Loc X.env.scope y) (hc:X.calm=true) (hi:PI X tg iter wi) (hg:∀ex s H,PG (zk X N' scope ex s H) tg g) (ht:∀ex s H,z4Y (zk X N' scope ex s H) ifs ti) (he:∀ex s H,PE (zk X N' scope ex s H) elt te) (hkd:scope.kind=.function) (hnm:∀y∈scope.names,scope.names.lookup y.1=some y.2) (hfr:∀y∈scope.names,y.2=.free->X.env.kindOf y.1=some .cell\/X.env.kindOf y.1=some .free) (hmp:z0j X.N scope.names N' mp=true) (hs:∀x,foldedSetIterable iter X.env x=pure x:=by intro _;rfl) (hsw:swapsWith (.ListComp elt [⟨tg,iter,ifs,0⟩] scope pos) (some (.Name y py)) spos.line X.env=pure true:=by rfl) (hf:X.fn y=true\/X.env.scope.names.lookup y=some .local:=by first | exact .inl rfl | exact .inr rfl | assumption): PS X (.Assign [.Name y py] (.ListComp elt [⟨tg,iter,ifs,0⟩] scope pos) spos) (λD O H=>zaG wi mp g ti te O H (z62 λv H'=>D.nx (O.set i (some v)) H')):=by
 intro pins s O H D I h;rw[_cp _ _ _ _ hsw];refine _a (_aO (_a ?_));show wpAny _ X.A (do let _ <- comprehension (.ListComp elt [⟨tg,iter,ifs,0⟩] scope pos) scope X.env _ (newList []) false (eval iter X.env) (some (assign (.Name y py) X.env))) _ _ s;refine _a (_E (_bu (use:=some (assign (.Name y py) X.env)) (Q:=λ_ s'=>SP X pins D .next s') rfl hs (vC λy hy hf=>I.ok.has _ (hfr y hy hf)) hkd (λy hy hl=>by rw[hnm y hy,hl]) (thn (hi pins s O H _ I h) λxv s₁ h₁=>thn h₁ λitv s₂ h₂=>?_)) (λ_ s' hq=>_e (_e hq)) λ_ _ e=>e);obtain⟨it,fp,tn,J,H2,e,I2,T,st2,f2,W,w0,turn⟩:=h₂;subst e;refine kn (N':=N') (mp:=mp) (O:=O) (pins:=pins) (Q:=z62 λv H'=>D.nx (O.set i (some v)) H') (RR:=λacc C=>compPost (model X.prog X.w) X.A X.xe (some (assign (.Name y py) X.env)) (λ_ s'=>SP X pins D .next s') acc C) hc hg ht he hkd hnm hfr hmp I2 T st2 f2 W w0 turn ?_;intro acc C s' hd;obtain⟨v,Hf,I3,r,q,⟨m,hm⟩,f⟩:=hd.freeze;refine _b9 (jR I3 hN hy hyl r (λs'' I4 ⟨a,sb,ha⟩=>?_) hf);have hC:C≠a:=by
  rcases ha with z | z;·rw[z];exact f.2.1
  ·exact _bp (f.2.2.2.2.1 y a z)
 exact⟨m,hm.sameBut sb hC,λh' sb'=>⟨_,Hf,uT I4 f sb',q⟩⟩
end L2
namespace Dd
open L2
abbrev ItD:=List D×List (Nat×List D)
def okG(g:List (Nat×List D))(all:List D)(s:Sto):Prop:=∀p∈g,s[p.1]? = some p.2
def zai(mg:Gm)(H0:Hp)(Y0:List Addr)(a:ItD)(J:It):Prop:=∀H Y s,yA mg H0 Y0 H Y s->okG a.2 a.1 s->∀i:Nat, (∀d,a.1[i]? = some d->J.go i H/\∀x H',J.yld i H x H'->∃Y',yA mg H Y H' Y' s/\Den mg H' Y' d x)/\(a.1.length<=i->J.stop i H)
abbrev FI:=Ev->Sto->R ItD
def tI(mg:Gm)(E:XK)(f:FI):TI:=λO H Rr=>∃Y ρ s,Rep mg H Y s/\vA mg H Y ρ O/\okR mg E H Y (zai mg) (f ρ s) Rr
def RI(X:Cx)(E:XK)(tg it:Expr)(f:FI):Prop:=PI X tg it (tI (gm X) E f)
section
variable {X:Cx}{E:XK}{e a b c tg:Expr}{es:List Expr}{pos:Pos}{CX:CXT}
theorem z5E{it:Expr}{t t':TI}(h:PI X tg it t)(i:∀O H Q,t' O H Q->t O H Q):PI X tg it t':=λpins s O H Q I q=>h pins s O H Q I (i O H Q q)
noncomputable def zR(f:FE):FI:=fun ρ s=>(f ρ s).bind λd s1=>match d with
 | .tup xs=>.ok (xs,[]) s1 | .lst xs=>.ok (xs,[]) s1 | .loc l=>match s1[l]? with | some xs=>.ok (xs,[(l,xs)]) s1 | none=>.no
 | _=>.no
theorem wY{f:FE}(h:RE X E e f):RI X E tg e (zR f):=z5E (zeH h) λO H Q ⟨Y,ρ,s,r,en,h⟩=>by
 unfold zR at h;refine⟨Y,ρ,s,r,en,(okR.bind (Dn:=Den (gm X)) h).imp λv H1 ⟨Y1,s1,d,stp,dn,h1⟩=>?_⟩;have lst:∀(a:Addr)(xs:List D)(g:List (Nat×List D)),(∀H2 Y2 s2,yA (gm X) H1 Y1 H2 Y2 s2->okG g xs s2->∃ws,SqL X.K H2 a ws/\zA (gm X) H2 Y2 xs ws)->zai (gm X) H1 Y1 (xs,g) (Itl X.K a):=λa xs g hq H2 Y2 s2 stp2 hg i=>by
  obtain⟨ws,q1,q2⟩:=hq H2 Y2 s2 stp2 hg;refine⟨λd hd=>?_,λhl=>⟨ws,q1,by rw[q2.length];exact hl⟩⟩;obtain⟨v,e1,e2⟩:=q2.get hd;refine⟨⟨ws,v,q1,e1⟩,λx H' ⟨e3,y⟩=>?_⟩;subst e3;have e4:=y ws q1;rw[e1]at e4;cases e4;exact⟨Y2,.refl stp2.rep,e2⟩
 have tup:∀(a:Addr)(xs:List D),(∀H2 Y2 s2,yA (gm X) H1 Y1 H2 Y2 s2->∃ws,SqT X.K H2 a ws/\zA (gm X) H2 Y2 xs ws)->zai (gm X) H1 Y1 (xs,[]) (Itt X.K a):=λa xs hq H2 Y2 s2 stp2 hg i=>by
  obtain⟨ws,q1,q2⟩:=hq H2 Y2 s2 stp2;refine⟨λd hd=>?_,λhl=>⟨ws,q1,by rw[q2.length];exact hl⟩⟩;obtain⟨v,e1,e2⟩:=q2.get hd;refine⟨⟨ws,v,q1,e1⟩,λx H' ⟨e3,y⟩=>?_⟩;subst e3;have e4:=y ws q1;rw[e1]at e4;cases e4;exact⟨Y2,.refl stp2.rep,e2⟩
 cases d with
 | tup xs=>
  have h1':okR (gm X) E H1 Y1 (zai (gm X)) (.ok (xs,[]) s1) Q:=h1;obtain⟨a,vs,rfl,q1,q2⟩:=jX (K:=X.K) dn;refine⟨a,rfl,.inr ⟨⟨vs,q1⟩,h1'.here stp.rep (tup a xs λH2 Y2 s2 stp2=>?_)⟩⟩;have dn2:=dn.mono stp2;obtain⟨a',ws,e,q3,q4⟩:=jX (K:=X.K) dn2;cases e;exact⟨ws,q3,q4⟩ | lst xs=>
  have h1':okR (gm X) E H1 Y1 (zai (gm X)) (.ok (xs,[]) s1) Q:=h1;obtain⟨a,vs,rfl,q1,q2⟩:=yd (d:=.lst xs) stp.rep rfl dn;refine⟨a,rfl,.inl ⟨⟨vs,.inl q1⟩,h1'.here stp.rep (lst a xs [] λH2 Y2 s2 stp2 _=>?_)⟩⟩;obtain⟨a',ws,e,q3,q4⟩:=yd (d:=.lst xs) stp2.rep rfl (dn.mono stp2);cases e;exact⟨ws,.inl q3,q4⟩ | loc l=>
  simp only at h1;split at h1
  ·rename_i xs ex;obtain⟨a,vs,rfl,q1,q2⟩:=yd (d:=.loc l) stp.rep ex dn;refine⟨a,rfl,.inl ⟨⟨vs,.inl q1⟩,h1.here stp.rep (lst a xs [(l,xs)] λH2 Y2 s2 stp2 hg=>?_)⟩⟩;obtain⟨a',ws,e,q3,q4⟩:=yd (d:=.loc l) stp2.rep (hg (l,xs) (by simp)) (dn.mono stp2);cases e;exact⟨ws,.inl q3,q4⟩
  ·exact h1.elim | _=>exact h1.elim
end
section
variable {X:Cx}{E:XK}{e a b c tg:Expr}{es:List Expr}{pos:Pos}{CX:CXT}
noncomputable def vO(n:Nat):List D:=(List.range n).map λ(k:Nat)=>D.int ((k:Nat):Int)
noncomputable def z6F(f:FA):FI:=fun ρ s=>(f ρ s).bind λds s1=>match ds with
 | [.int j]=>if -(2 ^ 62)<=j/\j<2 ^ 62 then .ok (vO j.toNat,[]) s1 else .no | _=>.no
theorem qX{p:Pos}{f:FA}(hg:Gl X "range")(hm:X.mg "range"=none)(ha:RA X E [a] f)(hs:starEach [a] X.env=[(false,eval a X.env)]:=by rfl):RI X E tg (.Call (.Name "range" p) [a] [] pos) (z6F f):= z5E (z9i hg hm ha hs) λO H Q ⟨Y,ρ,s,r,en,h⟩=>by
  unfold z6F at h;refine⟨Y,ρ,s,r,en,(okR.bind (Dn:=zA (gm X)) h).imp λvs H1 ⟨Y1,s1,ds,stp,dn,h1⟩=>?_⟩;split at h1
  ·rename_i j;split at h1
   ·rename_i hj;obtain⟨v,rfl,d1⟩:=z2G dn;cases yj d1;refine⟨j,rfl,hj.1,hj.2,h1.here stp.rep λH2 Y2 s2 stp2 _ i=>⟨λd hd=>?_,λhl=>?_⟩⟩
    ·have hi:i<j.toNat:=by
      have:=(_b.mp hd).1;simpa[vO] using this
     refine⟨hi,λx H' ⟨e1,e2⟩=>?_⟩;subst e1 e2;refine⟨Y2,.refl stp2.rep,?_⟩;have e3:d=D.int i:=by
      simp only[vO,_O,_cK hi,_aS,_M]at hd;exact hd.symm
     rw[e3];simp[Den]
    ·have:(vO j.toNat).length=j.toNat:=by simp[vO]
     show j.toNat<=i;rw[<- this];exact hl
   ·exact h1.elim
  ·exact h1.elim
open Classical in
noncomputable def uP(g:List (Nat×List D))(all:List D)(body:D->Ev->Sto->R Fl):List D->Ev->Sto->R Fl
 | [],ρ,s=>if okG g all s then .ok (.nx ρ) s else .no | x::xs,ρ,s=>if okG g all s then (body x ρ s).bind λfl s1=>match fl with
   | .nx ρ'=>uP g all body xs ρ' s1 | .ct ρ'=>uP g all body xs ρ' s1 | .bk ρ'=>.ok (.nx ρ') s1 | .rt d=>.ok (.rt d) s1 else .no
def z4R(fi:FI)(fg:FG)(fb:FS):FS:=fun ρ s=>(fi ρ s).bind λit s1=>uP it.2 it.1 (λd ρ s=>(fg d ρ s).bind fun ρ' s'=>fb ρ' s') it.1 ρ s1
theorem kA {iter:Expr} {body:List Stmt} {fi:FI} {fg:FG} {fb:FS} (hp:PassesOwn (model X.prog X.w) X.A X.env X.xe) (hc:X.calm=true) (hi:RI X E tg iter fi) (hg:RG X E tg fg) (hb:RSs X E body fb) (hs:∀x,foldedSetIterable iter X.env x=pure x:=by intro _;rfl):RS X E (.For tg iter body [] pos) (z4R fi fg fb):= vZ (zen hp hc hi hg hb hs) λD O H ⟨Y,ρ,s,r,en,h⟩=>by
  unfold z4R at h;refine⟨Y,ρ,s,r,en,(okR.bind (Dn:=zai (gm X)) h).imp λJ H1 ⟨Y1,s1,it,stp,ok,h1⟩=>?_⟩;obtain⟨items,g⟩:=it;simp only at h1;refine⟨λi m O H=>∃Y ρ s,yA (gm X) H1 Y1 H Y s/\vA (gm X) H Y ρ O/\m=items.length-i/\i<=items.length/\ okR (gm X) E H Y (FlD (gm X)) (uP g items (λd ρ s=>(fg d ρ s).bind fun ρ' s'=>fb ρ' s') (items.drop i) ρ s) (z3e D), ⟨items.length,Y1,ρ,s1,.refl stp.rep,en.mono stp,by simp,_aT _,by simpa using h1⟩,?_⟩;rintro i m O H ⟨Y2,ρ2,s2,stp2,en2,rfl,hil,h2⟩;by_cases hlt:i<items.length
  ·right;rw[_aV hlt,uP]at h2;split at h2
   ·rename_i hG;obtain⟨go,yl⟩:=((ok H Y2 s2 stp2 hG i).1 items[i] (_r hlt));refine⟨go,λO' H'=>∃Y ρ s,yA (gm X) H1 Y1 H' Y s/\vA (gm X) H' Y ρ O'/\okR (gm X) E H' Y (FlD (gm X)) (uP g items (λd ρ s=>(fg d ρ s).bind fun ρ' s'=>fb ρ' s') (items.drop (i+1)) ρ s) (z3e D), λO' H' ⟨Y3,ρ3,s3,q1,q2,q3⟩=>⟨items.length-(i+1),by omega,Y3,ρ3,s3,q1,q2,rfl,hlt,q3⟩,λx H' y=>?_⟩;obtain⟨Y3,stp3,dn3⟩:=yl x H' y;have h3:=okR.rebase h2 stp3;have h4:=okR.bind (Dn:=FlD (gm X)) h3;refine⟨Y3,ρ2,s2,items[i],stp3.rep,en2.mono stp3,dn3,(okR.bind (Dn:=vA (gm X)) h4).imp λO5 H5 ⟨Y5,s5,ρ5,stp5,en5,h5⟩=>?_⟩;refine⟨Y5,ρ5,s5,stp5.rep,en5,h5.imp λfv H6 ⟨Y6,s6,fl,stp6,dn6,q6⟩=>?_⟩;have all6:yA (gm X) H1 Y1 H6 Y6 s6:=(stp2.trans stp3).trans stp6;cases fl with
    | nx ρ'=> cases fv with
     | nx O'=>exact⟨Y6,ρ',s6,all6,dn6,q6⟩ | _=>exact (show False from dn6).elim
    | ct ρ'=> cases fv with
     | ct O'=>exact⟨Y6,ρ',s6,all6,dn6,q6⟩ | _=>exact (show False from dn6).elim
    | bk ρ'=> cases fv with
     | bk O'=>exact okR.here (b:=FlV.nx O') (Q:=z3e D) (a:=Fl.nx ρ') (s:=s6) q6 stp6.rep dn6 | _=>exact (show False from dn6).elim
    | rt d=> cases fv with
     | rt v=>exact okR.here (b:=FlV.rt v) (Q:=z3e D) (a:=Fl.rt d) (s:=s6) q6 stp6.rep dn6 | _=>exact (show False from dn6).elim
   ·exact h2.elim
  ·left;have e:i=items.length:=by omega
   subst e;rw[_cs,uP]at h2;split at h2
   ·rename_i hG;exact⟨(ok H Y2 s2 stp2 hG _).2 (_d _),okR.here (b:=FlV.nx O) (Q:=z3e D) h2 stp2.rep en2⟩
   ·exact h2.elim
end
end Dd
namespace Zz
def Sit(b:Bool)(h:Heap)(it l:Addr)(k:Nat):Prop:=match b with
 | true=>h.IsListIter it l k | false=>h.IsTupleIter it l k
def Sco(b:Bool)(h:Heap)(l:Addr)(xs:Array Value):Prop:=match b with
 | true=>h.IsList l xs | false=>h.IsTuple l xs
theorem Sit.to{b:Bool}{h h':Heap}{it l:Addr}{k:Nat}(x:Sit b h it l k)(e:∀o,h.get? it=some o->h'.get? it=some o):Sit b h' it l k:=by cases b with
 | true=>obtain⟨o,ho,r⟩:=x;exact⟨o,e _ ho,r⟩ | false=>obtain⟨o,ho,r⟩:=x;exact⟨o,e _ ho,r⟩
theorem Sco.to{b:Bool}{h h':Heap}{l:Addr}{xs:Array Value}(x:Sco b h l xs)(e:∀o,h.get? l=some o->h'.get? l=some o):Sco b h' l xs:=by cases b with
 | true=>obtain⟨o,ho,r⟩:=x;exact⟨o,e _ ho,r⟩ | false=>obtain⟨o,ho,r⟩:=x;exact⟨o,e _ ho,r⟩
theorem Sit.lt{b:Bool}{h:Heap}{it l:Addr}{k:Nat}(x:Sit b h it l k):it<h.objs.size:=by cases b with
 | true=>obtain⟨o,ho,r⟩:=x;exact _o ho | false=>obtain⟨o,ho,r⟩:=x;exact _o ho
theorem Sit.ob{b:Bool}{h:Heap}{it l:Addr}{k:Nat}(x:Sit b h it l k):∃o,h.get? it=some o/\∀v,o.data≠.cell v:=by cases b with
 | true=>obtain⟨o,ho,_,d⟩:=x;exact⟨o,ho,λv z=>by rw[d]at z;cases z⟩ | false=>obtain⟨o,ho,_,d⟩:=x;exact⟨o,ho,λv z=>by rw[d]at z;cases z⟩
section
variable {P:Program}{w:World}{A:Around}{E:Value->Shared->Prop}{s:Shared}
theorem zdv{it l:Addr}{k:Nat}{xs:Array Value}{x:Value}{R:Value->Shared->Prop}(h1:s.heap.IsTupleIter it l k)(h2:s.heap.IsTuple l xs)(e:xs[k]? = some x) (q:∀h',h'.IsTupleIter it l (k+1)->Heap.SameBut it s.heap h'->R x {s with heap:=h'}):wpAny (model P w) A (Builtin.SmallTypes.nextOf (.ref it)) R E s:=by
 obtain⟨o,ho,hc,hd⟩:=id h1;obtain⟨ol,hol,_,nl,hdl⟩:=h2;unfold Builtin.SmallTypes.nextOf;refine _a (_av (name:=Str.ofString "__next__") h1.typeIs _bf (_ao _bf h1.typeIs F.entry_tuple_iterator_next ?_ (F.args_tuple_iterator_next_1 _)));show wpAny _ _ (field (.ref it) 0 >>= _) _ _ s;refine _a (_aC ho hd (x:=.ref l) rfl ?_);show wpAny _ _ (if (Value.ref l==Value.none)=true then _ else _) _ _ s;rw[_i (show ¬ ((Value.ref l==Value.none)=true) from _bA)];show wpAny _ _ (field (.ref it) 1 >>= _) _ _ s;refine _a (_aC ho hd (x:=.int k 0) rfl ?_);show wpAny _ _ (seqItems? (.ref l) >>= _) _ _ s;refine _a (_bg hol hdl ?_);simp only[_bq,e];refine _a (_cf ho hd (by simp) (_e ⟨x,rfl,_e (q _ ?_ (_bV ..))⟩));exact⟨_,_bk _ ho (Obj.isFreed_of_fields (Obj.data_mapFields hd _)),(Obj.cls_mapFields ..).trans hc,by rw[Obj.data_mapFields hd];simp[rawInt]⟩
theorem z6S {it l:Addr} {k:Nat} {xs:Array Value} {R:Value->Shared->Prop} (hh:A.handled=none) (h1:s.heap.IsTupleIter it l k) (h2:s.heap.IsTuple l xs) (e:xs[k]? = none) (q:∀h' e,Heap.ExtBut it s.heap h'->(∃o,h'.get? e=some o/\o.cls=.type "StopIteration")->E (.ref e) {s with heap:=h'}):wpAny (model P w) A (Builtin.SmallTypes.nextOf (.ref it)) R E s:=by
 obtain⟨o,ho,hc,hd⟩:=id h1;obtain⟨ol,hol,_,nl,hdl⟩:=h2;unfold Builtin.SmallTypes.nextOf;refine _a (_av (name:=Str.ofString "__next__") h1.typeIs _bf (_ao _bf h1.typeIs F.entry_tuple_iterator_next ?_ (F.args_tuple_iterator_next_1 _)));show wpAny _ _ (field (.ref it) 0 >>= _) _ _ s;refine _a (_aC ho hd (x:=.ref l) rfl ?_);show wpAny _ _ (if (Value.ref l==Value.none)=true then _ else _) _ _ s;rw[_i (show ¬ ((Value.ref l==Value.none)=true) from _bA)];show wpAny _ _ (field (.ref it) 1 >>= _) _ _ s;refine _a (_aC ho hd (x:=.int k 0) rfl ?_);show wpAny _ _ (seqItems? (.ref l) >>= _) _ _ s;refine _a (_bg hol hdl ?_);simp only[_bq,e];refine _a (_aG (_a (_cf ho hd (by simp) ?_)));show wpAny _ _ (newExc (.type "StopIteration") [] >>= _) _ _ _;refine _a ?_;simp only[newExc,newTuple];refine _a (_ac ?_ (by size_fits));refine _a (m:=firstArgMember _ _) (_cw (a:=Value.none) (by first | rfl | (simp only[firstArgMember];rfl)) ?_);refine _ac ?_ (by size_fits);simp only[raiseNew];refine _a (wpAny_handled ?_);first | rw[show A.in1.handled=none from hh] | rw[hh]
 refine _a (_e (wpAny_throw ?_));exact q _ _ (((_bV ..).extBut.push _).push _) ⟨_,_s _ rfl,rfl⟩
theorem nx{b:Bool}{it l:Addr}{k:Nat}{xs:Array Value}{x:Value}{R:Value->Shared->Prop}(h1:Sit b s.heap it l k)(h2:Sco b s.heap l xs)(e:xs[k]? = some x) (q:∀h',Sit b h' it l (k+1)->Heap.SameBut it s.heap h'->R x {s with heap:=h'}):wpAny (model P w) A (Builtin.SmallTypes.nextOf (.ref it)) R E s:=by cases b with
 | true=>exact wpAny_nextOf_list_item h1 h2 e q | false=>exact zdv h1 h2 e q
theorem zaY {b:Bool} {it l:Addr} {k:Nat} {xs:Array Value} {R:Value->Shared->Prop} (hh:A.handled=none) (h1:Sit b s.heap it l k) (h2:Sco b s.heap l xs) (e:xs[k]? = none) (q:∀h' e,Heap.ExtBut it s.heap h'->(∃o,h'.get? e=some o/\o.cls=.type "StopIteration")->E (.ref e) {s with heap:=h'}):wpAny (model P w) A (Builtin.SmallTypes.nextOf (.ref it)) R E s:=by cases b with
 | true=>exact wpAny_nextOf_list_end hh h1 h2 e q | false=>exact z6S hh h1 h2 e q
theorem zC{a:Addr}{h h':Heap}(hs:Heap.SameBut a h h'){b:Addr}{o:Obj}(n:b≠a)(e:h.get? b=some o):h'.get? b=some o:=hs.extBut _ _ n e
theorem zbO {z TI TO i1 i2 l1 l2:Addr} {b1 b2:Bool} {k:Nat} {xs ys:Array Value} {x y a b:Value} {Q:Option Value->Shared->Prop} (D:ZipApart z TI TO i1 i2 l1 l2) (hz:IsZip s.heap z TI TO .none) (hTI:IsPair s.heap TI (.ref i1) (.ref i2)) (hTO:IsPair s.heap TO a b) (h1:Sit b1 s.heap i1 l1 k) (h2:Sit b2 s.heap i2 l2 k) (c1:Sco b1 s.heap l1 xs) (c2:Sco b2 s.heap l2 ys) (ex:xs[k]? = some x) (ey:ys[k]? = some y) (q:∀h',IsZip h' z TI TO (rawInt s.heap.objs.size)->IsPair h' TO x y->Sit b1 h' i1 l1 (k+1)->Sit b2 h' i2 l2 (k+1)->IsPair h' s.heap.objs.size x y->h'.objs.size=s.heap.objs.size+1-> (∀c o,c≠z->c≠TO->c≠i1->c≠i2->s.heap.get? c=some o->h'.get? c=some o)->Q (some (.ref s.heap.objs.size)) {s with heap:=h'}):wpAny (model P w) A (pyNext (.ref z)) Q E s:=by
 have hT:s.TypeIs (.ref z) "zip":=⟨_,hz,rfl⟩;unfold pyNext;refine _a (_de (_av (name:=Str.ofString "__next__") hT _cD (_ao _cD hT F.entry_zip_next (Q:=λv s'=>wpAny (model P w) A (pure (some v)) Q E s') ?_ (F.args_zip_next_1 _))));show wpAny _ _ (field (.ref z) 2 >>= _) _ _ _;refine _a (_aC hz rfl (x:=.bool false) rfl ?_);show wpAny _ _ (field (.ref z) 3 >>= _) _ _ _;refine _a (_aC hz rfl (x:=.ref TI) rfl ?_);refine _a (_bg hTI rfl ?_);show wpAny _ _ (Builtin.SmallTypes.ownedTupleIsFree (.ref z) >>= _) _ _ _;refine _a ?_;unfold Builtin.SmallTypes.ownedTupleIsFree;refine _a (_aC hz rfl (x:=.none) rfl (_e ?_));simp only[_P];refine _a (_aG ?_);refine _a (_aC hz rfl (x:=.ref TO) rfl ?_);refine _a (_bh hz (by simp) λg1 z1 s1=>?_);replace z1:IsZip g1 z TI TO .ellipsis:=z1;refine _a ?_;simp only[_dl,List.zipIdx_nil,List.forIn_cons,List.forIn_nil];refine _a (_a (_df ?_));show wpAny _ _ (Builtin.SmallTypes.nextOf (.ref i1) >>= _) _ _ _;refine _a (nx (h1.to λo e=>zC s1 D.i1z e) (c1.to λo e=>zC s1 D.l1z e) ex λg2 t2 s2=>_e ?_);have o2:IsPair g2 TO a b:=zC s2 D.TOi1 (zC s1 D.TOz hTO);refine _a (_bg o2 rfl ?_);refine _a (_cx o2 λg3 o3 s3=>?_);replace o3:IsPair g3 TO x b:=o3;refine _a (wpAny_letGo (_e ?_));refine _a (_a (_df ?_));show wpAny _ _ (Builtin.SmallTypes.nextOf (.ref i2) >>= _) _ _ _;refine _a (nx (h2.to λo e=>zC s3 D.TOi2.symm (zC s2 D.i12.symm (zC s1 D.i2z e))) (c2.to λo e=>zC s3 D.l2TO (zC s2 D.l2i1 (zC s1 D.l2z e))) ey λg4 t4 s4=>_e ?_);have o4:IsPair g4 TO x b:=zC s4 D.TOi2 o3;refine _a (_bg o4 rfl ?_);refine _a (_cx o4 λg5 o5 s5=>?_);replace o5:IsPair g5 TO x y:=o5;refine _a (wpAny_letGo (_e (_e ?_)));refine _a (_bg o5 rfl ?_);refine _a (wpAny_newTuple ?_);have sz:g5.objs.size=s.heap.objs.size:=by rw[s5.1,s4.1,s3.1,s2.1,s1.1]
 have z5:IsZip g5 z TI TO .ellipsis:=zC s5 D.TOz.symm (zC s4 D.i2z.symm (zC s3 D.TOz.symm (zC s2 D.i1z.symm z1)));have k5:∀c o,c≠z->c≠TO->c≠i1->c≠i2->s.heap.get? c=some o->g5.get? c=some o:=λc o n1 n2 n3 n4 e=>zC s5 n2 (zC s4 n4 (zC s3 n2 (zC s2 n3 (zC s1 n1 e))));have t5:Sit b1 g5 i1 l1 (k+1):=t2.to λo e=>zC s5 D.TOi1.symm (zC s4 D.i12 (zC s3 D.TOi1.symm e));have u5:Sit b2 g5 i2 l2 (k+1):=t4.to λo e=>zC s5 D.TOi2.symm e;have zl:z<g5.objs.size:=_o z5;show wpAny _ _ (Builtin.SmallTypes.ownedTupleHandOut (.ref z) (.ref g5.objs.size) >>= _) _ _ _;refine _a ?_;unfold Builtin.SmallTypes.ownedTupleHandOut;have z6:IsZip (g5.push {cls:=.type "tuple",data:=.seq #[x,y]}) z TI TO .ellipsis:=_f _ z5;refine _a (_bh z6 (by simp) λg7 z7 s7=>?_);replace z7:IsZip g7 z TI TO (rawInt g5.objs.size):=z7;refine _bh z7 (by simp) λg8 z8 s8=>?_;replace z8:IsZip g8 z TI TO (rawInt g5.objs.size):=z8;have up:∀c o,c≠z->g5.get? c=some o->g8.get? c=some o:=λc o n e=>zC s8 n (zC s7 n (_f _ e));have p8:IsPair g8 g5.objs.size x y:=zC s8 (_ca zl) (zC s7 (_ca zl) (_s _ rfl));have e8:g8.objs.size=g5.objs.size+1:=by rw[s8.1,s7.1,_aw]
 rw[sz]at z8 p8 e8;refine _e ⟨_,rfl,_e ?_⟩;show Q (some (.ref g5.objs.size)) _;rw[sz];exact q g8 z8 (up _ _ D.TOz o5) (t5.to λo e=>up _ o D.i1z e) (u5.to λo e=>up _ o D.i2z e) p8 e8 λc o n1 n2 n3 n4 e=>up c o n1 (k5 c o n1 n2 n3 n4 e)
theorem zeX {z TI TO i1 i2 l1 l2:Addr} {b1 b2:Bool} {k:Nat} {xs ys:Array Value} {a b:Value} {Q:Option Value->Shared->Prop} (hh:A.handled=none) (D:ZipApart z TI TO i1 i2 l1 l2) (hz:IsZip s.heap z TI TO .none) (hTI:IsPair s.heap TI (.ref i1) (.ref i2)) (hTO:IsPair s.heap TO a b) (h1:Sit b1 s.heap i1 l1 k) (h2:Sit b2 s.heap i2 l2 k) (c1:Sco b1 s.heap l1 xs) (c2:Sco b2 s.heap l2 ys) (en:xs[k]? = none\/ys[k]? = none) (q:∀h',(∀c o,c≠z->c≠TO->c≠i1->c≠i2->s.heap.get? c=some o->h'.get? c=some o)->Q none {s with heap:=h'}):wpAny (model P w) A (pyNext (.ref z)) Q E s:=by
 have hT:s.TypeIs (.ref z) "zip":=⟨_,hz,rfl⟩;have fin:∀h' e,(∀c o,c≠z->c≠TO->c≠i1->c≠i2->s.heap.get? c=some o->h'.get? c=some o)->(∃o,h'.get? e=some o/\o.cls=.type "StopIteration")-> wpAny (model P w) A (isInstance (.ref e) (.type "StopIteration") >>= λb=>if b=true then (pure none:Sem (Option Value)) else throw (.ref e)) Q E {s with heap:=h'}:=λh' e hk he=>by
  obtain⟨o,ho,hc⟩:=he;refine _a (_dm (T:="StopIteration") (b:=true) ⟨o,ho,hc⟩ isSubtype_stop ?_);exact _e (q _ hk)
 unfold pyNext;refine _a (_de (_av (name:=Str.ofString "__next__") hT _cD (_ao _cD hT F.entry_zip_next ?_ (F.args_zip_next_1 _))));show wpAny _ _ (field (.ref z) 2 >>= _) _ _ _;refine _a (_aC hz rfl (x:=.bool false) rfl ?_);show wpAny _ _ (field (.ref z) 3 >>= _) _ _ _;refine _a (_aC hz rfl (x:=.ref TI) rfl ?_);refine _a (_bg hTI rfl ?_);show wpAny _ _ (Builtin.SmallTypes.ownedTupleIsFree (.ref z) >>= _) _ _ _;refine _a ?_;unfold Builtin.SmallTypes.ownedTupleIsFree;refine _a (_aC hz rfl (x:=.none) rfl (_e ?_));simp only[_P];refine _a (_aG ?_);refine _a (_aC hz rfl (x:=.ref TO) rfl ?_);refine _a (_bh hz (by simp) λg1 z1 s1=>?_);replace z1:IsZip g1 z TI TO .ellipsis:=z1;refine _a ?_;simp only[_dl,List.zipIdx_nil,List.forIn_cons,List.forIn_nil];refine _a (_a (_df ?_));show wpAny _ _ (Builtin.SmallTypes.nextOf (.ref i1) >>= _) _ _ _;cases ex:xs[k]? with
 | none=>
  refine _a (zaY hh (h1.to λo e=>zC s1 D.i1z e) (c1.to λo e=>zC s1 D.l1z e) ex λg2 e s2 he=>?_);obtain⟨oe,hoe,hce⟩:=he;have z2:IsZip g2 z TI TO .ellipsis:=s2 _ _ D.i1z.symm z1;have ez:e≠z:=λt=>by subst t;rw[z2]at hoe;cases hoe;simp at hce
  exact _bh z2 (by simp) λg3 _ s3=>fin g3 e (λc o n1 _ n3 _ t=>zC s3 n1 (s2 _ _ n3 (zC s1 n1 t))) ⟨oe,zC s3 ez hoe,hce⟩ | some x=>
  have ey:ys[k]? = none:=by rcases en with t | t;rw[ex]at t;cases t;exact t
  refine _a (nx (h1.to λo e=>zC s1 D.i1z e) (c1.to λo e=>zC s1 D.l1z e) ex λg2 t2 s2=>_e ?_);have o2:IsPair g2 TO a b:=zC s2 D.TOi1 (zC s1 D.TOz hTO);refine _a (_bg o2 rfl ?_);refine _a (_cx o2 λg3 o3 s3=>?_);refine _a (wpAny_letGo (_e ?_));refine _a (_a (_df ?_));show wpAny _ _ (Builtin.SmallTypes.nextOf (.ref i2) >>= _) _ _ _;refine _a (zaY hh (h2.to λo e=>zC s3 D.TOi2.symm (zC s2 D.i12.symm (zC s1 D.i2z e))) (c2.to λo e=>zC s3 D.l2TO (zC s2 D.l2i1 (zC s1 D.l2z e))) ey λg4 e s4 he=>?_);obtain⟨oe,hoe,hce⟩:=he;have z4:IsZip g4 z TI TO .ellipsis:=s4 _ _ D.i2z.symm (zC s3 D.TOz.symm (zC s2 D.i1z.symm z1));have ez:e≠z:=λt=>by subst t;rw[z4]at hoe;cases hoe;simp at hce
  exact _bh z4 (by simp) λg5 _ s5=>fin g5 e (λc o n1 n2 n3 n4 t=>zC s5 n1 (s4 _ _ n4 (zC s3 n2 (zC s2 n3 (zC s1 n1 t))))) ⟨oe,zC s5 ez hoe,hce⟩
end
noncomputable def itO(b:Bool)(l:Addr):Obj:=match b with
 | true=>{cls:=.type "list_iterator",data:=.fields #[.ref l,.int 0 0]} | false=>{cls:=.type "tuple_iterator",data:=.fields #[.ref l,.int 0 0]}
theorem z5R{b:Bool}{h:Heap}{a l:Addr}(e:h.get? a=some (itO b l)):Sit b h a l 0:=by cases b with
 | true=>exact⟨_,e,rfl,rfl⟩ | false=>exact⟨_,e,rfl,rfl⟩
theorem z3m(b:Bool)(l:Addr):(itO b l).isFreed=false:=by cases b<;>rfl
section
variable {P:Program}{w:World}{A:Around}{E:Value->Shared->Prop}{s:Shared}
theorem z7W {b:Bool} {l:Addr} {xs:Array Value} {Q:Value->Shared->Prop} (h:Sco b s.heap l xs) (q:Q (.ref s.heap.objs.size) {s with heap:=s.heap.push (itO b l)}):wpAny (model P w) A (pyIter (.ref l)) Q E s:=by cases b with
 | true=>exact _c5 h q | false=>exact wpAny_pyIter_tuple h q
end
noncomputable abbrev G1(b1:Bool)(h:Heap)(l1:Addr):Heap:=h.push (itO b1 l1)
noncomputable abbrev G2(b1 b2:Bool)(h:Heap)(l1 l2:Addr):Heap:=(G1 b1 h l1).push (itO b2 l2)
noncomputable abbrev G3(b1 b2:Bool)(h:Heap)(l1 l2:Addr):Heap:=(G2 b1 b2 h l1 l2).push {cls:=.type "tuple",data:=.seq #[.ref h.objs.size,.ref (G1 b1 h l1).objs.size]}
noncomputable abbrev G4(b1 b2:Bool)(h:Heap)(l1 l2:Addr):Heap:=(G3 b1 b2 h l1 l2).push {cls:=.type "tuple",data:=.seq #[.none,.none]}
noncomputable abbrev G5(b1 b2:Bool)(h:Heap)(l1 l2:Addr):Heap:=(G4 b1 b2 h l1 l2).push {cls:=.type "zip",data:=.fields #[.none,.bool false,.bool false,.ref (G2 b1 b2 h l1 l2).objs.size,.ref (G3 b1 b2 h l1 l2).objs.size]}
theorem z9j (b1 b2:Bool) (l1 l2:Addr) (xs ys:Array Value): Meets (Builtin.«zip.__new__» ⟨[.type "zip",.ref l1,.ref l2],[]⟩) (λ_ R s=>Sco b1 s.heap l1 xs/\Sco b2 s.heap l2 ys/\R (.ok (.ret (.ref (G4 b1 b2 s.heap l1 l2).objs.size))) {s with heap:=G5 b1 b2 s.heap l1 l2}):= .of_wp λprog w A R s h=>by
  obtain⟨hp,g,d,tk,os⟩:=s;obtain⟨c1,c2,h⟩:=h;have hsub:=sub_zip;have q1:Sco b1 (Shared.heap ⟨hp,g,d,tk,os⟩) l1 xs:=c1;have q2:Sco b2 (Shared.heap ⟨hp.push (itO b1 l1),g,d,tk,os⟩) l2 ys:=c2.to λo e=>_f _ e;wp_walk using z7W q1,z7W q2;exact⟨_,rfl,h⟩
section
variable {P:Program}{w:World}{A:Around}{E:Value->Shared->Prop}{s:Shared}
theorem zan {b1 b2:Bool} {l1 l2:Addr} {xs ys:Array Value} {Q:Value->Shared->Prop} (c1:Sco b1 s.heap l1 xs) (c2:Sco b2 s.heap l2 ys) (h:∀h',IsZip h' (s.heap.objs.size+4) (s.heap.objs.size+2) (s.heap.objs.size+3) .none->IsPair h' (s.heap.objs.size+2) (.ref s.heap.objs.size) (.ref (s.heap.objs.size+1))-> IsPair h' (s.heap.objs.size+3) .none .none->Sit b1 h' s.heap.objs.size l1 0->Sit b2 h' (s.heap.objs.size+1) l2 0->(∀c o,s.heap.get? c=some o->h'.get? c=some o)->Q (.ref (s.heap.objs.size+4)) {s with heap:=h'}): wpAny (model P w) A (call (.type "zip") [.ref l1,.ref l2]) Q E s:=by
 refine callType_new F.called_zip (by decide) (F.typeCall_zip_2 _ _) (F.newCall_zip_2 _ _) (λobj=>F.args_object_init_3 obj _ _) F.entry_zip_new (z9j b1 b2 l1 l2 xs ys) ⟨c1,c2,?_⟩;have z1:(G1 b1 s.heap l1).objs.size=s.heap.objs.size+1:=_aw ..;have z2:(G2 b1 b2 s.heap l1 l2).objs.size=s.heap.objs.size+2:=by rw[_aw,z1]
 have z3:(G3 b1 b2 s.heap l1 l2).objs.size=s.heap.objs.size+3:=by rw[_aw,z2]
 have z4:(G4 b1 b2 s.heap l1 l2).objs.size=s.heap.objs.size+4:=by rw[_aw,z3]
 have up:∀{h:Heap} {o:Obj} {c:Addr} {u:Obj},h.get? c=some u->(h.push o).get? c=some u:=λe=>_f _ e;have g5:(G5 b1 b2 s.heap l1 l2).get? (G4 b1 b2 s.heap l1 l2).objs.size=some _:=_s _ rfl;have g4:(G5 b1 b2 s.heap l1 l2).get? (G3 b1 b2 s.heap l1 l2).objs.size=some _:=up (_s _ rfl);have g3:(G5 b1 b2 s.heap l1 l2).get? (G2 b1 b2 s.heap l1 l2).objs.size=some _:=up (up (_s _ rfl));have g2:(G5 b1 b2 s.heap l1 l2).get? (G1 b1 s.heap l1).objs.size=some (itO b2 l2):=up (up (up (_s _ (z3m b2 l2))));have g1:(G5 b1 b2 s.heap l1 l2).get? s.heap.objs.size=some (itO b1 l1):=up (up (up (up (_s _ (z3m b1 l1)))));show _/\_;rw[z2,z3,z4]at g5;rw[z1,z2]at g3;rw[z3]at g4;rw[z1]at g2;rw[z4];exact⟨⟨_,g5,rfl⟩,h _ g5 g3 g4 (z5R g1) (z5R g2) λc o e=>up (up (up (up (up e))))⟩
end
end Zz
namespace L2
open Zz
def Sq(b:Bool)(K:W.Frag)(H:Hp)(a:Addr)(xs:List V):Prop:=match b with
 | true=>SqL K H a xs | false=>SqT K H a xs
section
variable {X:Cx}{pins:List (Addr×Obj)}{O:St}{H:Hp}{s:Shared}{h':Heap}
theorem Inv.sq{b:Bool}{a:Addr}{xs:List V}(I:Inv X pins O H s)(h:Sq b X.K H a xs):∃its:List Value,xt xs its/\Sco b s.heap a its.toArray:=by cases b with
 | true=>obtain⟨its,r,p,_⟩:=I.list h;exact⟨its,r,p.isList⟩ | false=>obtain⟨its,r,p,_⟩:=I.tuple h;exact⟨its,r,p⟩
theorem Inv.sq_inj{b:Bool}{a:Addr}{xs ys:List V}(I:Inv X pins O H s)(h:Sq b X.K H a xs)(h':Sq b X.K H a ys):xs=ys:=by cases b with
 | true=>exact I.list_inj h h' | false=>exact I.tuple_inj h h'
theorem Inv.turnedL {t':Nat} {ch:List Addr} (I:Inv X pins O H s) (k:∀b o,b∉ch->s.heap.get? b=some o->h'.get? b=some o) (f:∀b∈ch,z2h X pins H b):Inv X pins O H {s with heap:=h',toks:=t'}:=by
 have nit:∀b u,H b=some u->b∉ch:=λb u e z=>by rw[(f b z).1]at e;cases e
 refine I.step (g':=s.gens) (d':=s.drawn) (ch:=ch) (λb hb=>⟨(f b hb).2.2.2.1,(f b hb).2.1,(f b hb).2.2.2.2.1,(f b hb).2.2.2.2.2⟩) (λb o _ _ hc e _=>k b o hc e) (λb o _ _ hc e _=>⟨o.slots,k b o hc e⟩) (λ_ _ _ _ n=>n) (λb o hc e=>⟨o,k b o hc e⟩) (λ_ _ e=>e) (λ_ _ _ e=>e) (λb ps e=>⟨#[],by rw[e];simp⟩) (λm hm=>?_) (λb u e=>?_) I.bare
 ·obtain⟨o,es,ep,ho,r⟩:=hm;exact⟨o,es,ep,k _ o (λz=>(f _ z).2.1 rfl) ho,r⟩
 ·refine (I.hok b u e).stay (λc v hc q=>k c v ?_ q) (λ_ q=>q) λ_ _ q=>q;rcases hc with z | z;·rw[z];exact nit b u e
  ·exact nit c _ z
end
noncomputable def Itz(K:W.Frag)(b1 b2:Bool)(l1 l2:Addr):It:= ⟨λi H=>∃xs ys x y,Sq b1 K H l1 xs/\Sq b2 K H l2 ys/\xs[i]? = some x/\ys[i]? = some y, λi H v H'=>∃T x y,H T=none/\v=.ref T/\H'=upd H T (.tup [x,y])/\(∀xs,Sq b1 K H l1 xs->xs[i]? = some x)/\∀ys,Sq b2 K H l2 ys->ys[i]? = some y, λi H=>∃xs ys,Sq b1 K H l1 xs/\Sq b2 K H l2 ys/\(xs.length<=i\/ys.length<=i)⟩
theorem zag {P:Program} {w:World} {K:W.Frag} {elts:List Expr} {kt:Nat} {tp:Pos} {b1 b2:Bool} {z TI TO i1 i2 l1 l2:Addr} (D:ZipApart z TI TO i1 i2 l1 l2): zbW P w K (.Tuple elts kt tp) (Itz K b1 b2 l1 l2) [z,TI,TO,i1,i2] z (λi h=>IsZip h z TI TO .none/\IsPair h TI (.ref i1) (.ref i2)/\(∃a b,IsPair h TO a b)/\Sit b1 h i1 l1 i/\Sit b2 h i2 l2 i) where
 mem:=by simp
 obj:=λi h ⟨hz,hTI,⟨a,b,hTO⟩,h1,h2⟩ c hc=>by
  have hc':c=z\/c=TI\/c=TO\/c=i1\/c=i2:=by simpa using hc
  rcases hc' with rfl | rfl | rfl | rfl | rfl;·exact⟨_,hz,λv e=>by simp at e⟩
  ·exact⟨_,hTI,λv e=>by simp at e⟩
  ·exact⟨_,hTO,λv e=>by simp at e⟩
  ·exact h1.ob
  ·exact h2.ob
 keep:=λi h h' ⟨hz,hTI,⟨a,b,hTO⟩,h1,h2⟩ k=>⟨k z (by simp) _ hz,k TI (by simp) _ hTI,⟨a,b,k TO (by simp) _ hTO⟩,h1.to λo e=>k i1 (by simp) o e,h2.to λo e=>k i2 (by simp) o e⟩;item:=by
  intro X hP hw hK hc i pins s O H E I hf ⟨hz,hTI,⟨a,b,hTO⟩,h1,h2⟩ ⟨xs,ys,x,y,qx,qy,ex,ey⟩;subst hP hw hK;obtain⟨ix,rx,cx⟩:=I.sq qx;obtain⟨iy,ry,cy⟩:=I.sq qy;obtain⟨u,hu,ru⟩:=rx.get ex;obtain⟨v,hv,rv⟩:=ry.get ey;refine zbO D hz hTI hTO h1 h2 cx cy (x:=u) (y:=v) (by simpa using hu) (by simpa using hv) λg a1 a2 a3 a4 a5 a6 hk=>⟨_,rfl,?_⟩;have kk:∀c o,c∉[z,TO,i1,i2]->s.heap.get? c=some o->g.get? c=some o:=λc o n e=>hk c o (λt=>n (by simp[t])) (λt=>n (by simp[t])) (λt=>n (by simp[t])) (λt=>n (by simp[t])) e;have sub:∀c∈[z,TO,i1,i2],c∈[z,TI,TO,i1,i2]:=λc hc=>by
   have:c=z\/c=TO\/c=i1\/c=i2:=by simpa using hc
   rcases this with rfl | rfl | rfl | rfl<;>simp
  have I1:Inv X pins O H {s with heap:=g}:=I.turnedL (t':=s.toks) kk λc hc=>hf c (sub c hc);refine wpAny_letOwnedTupleGo_zip a1 λg2 z2 s2=>?_;obtain⟨f0,f1,f2,f3,f4,f5⟩:=hf z (by simp);have I2:Inv X pins O H {s with heap:=g2}:=I1.turned (t':=s.toks) (λc o n e=>zC s2 n e) f0 f1 f3 f4 f5;have new:z2h X pins H s.heap.objs.size:=I.fpOk (_d _) (I.hok.fresh (_d _));have ne:∀{c:Addr} {o:Obj},s.heap.get? c=some o->c≠s.heap.objs.size:=λe=>_C (_o e);have p2:IsPair g2 s.heap.objs.size u v:=zC s2 (ne hz).symm a5;refine⟨.ref s.heap.objs.size,upd H s.heap.objs.size (.tup [x,y]),I2.track new ⟨?_,[u,v],.cons ru (.cons rv .nil),⟨_,p2,rfl,rfl,_,rfl⟩⟩,rfl,⟨_,x,y,new.1,rfl,rfl,λzs qz=>?_,λzs qz=>?_⟩,⟨z2,?_,⟨_,_,zC s2 D.TOz a2⟩,a3.to λo e=>zC s2 D.i1z e,a4.to λo e=>zC s2 D.i2z e⟩,λc hc=>?_⟩;·show 2<=sizeLine;decide
  ·rw[I.sq_inj qz qx];exact ex
  ·rw[I.sq_inj qz qy];exact ey
  ·exact zC s2 D.TIz (hk TI _ D.TIz D.TITO D.TIi1 D.TIi2 hTI)
  ·have hc':c=z\/c=TI\/c=TO\/c=i1\/c=i2:=by simpa using hc
   have:c≠s.heap.objs.size:=by
    rcases hc' with rfl | rfl | rfl | rfl | rfl;·exact ne hz
    ·exact ne hTI
    ·exact ne hTO
    ·exact _C h1.lt
    ·exact _C h2.lt
   rw[zf this];exact (hf c hc).1
 done:=by
  intro X hP hw hK hc i pins s O H E I hf ⟨hz,hTI,⟨a,b,hTO⟩,h1,h2⟩ ⟨xs,ys,qx,qy,hl⟩;subst hP hw hK;obtain⟨ix,rx,cx⟩:=I.sq qx;obtain⟨iy,ry,cy⟩:=I.sq qy;have lx:=rx.length;have ly:=ry.length;refine zeX (I.ok.hd hc) D hz hTI hTO h1 h2 cx cy ?_ λg hk=>⟨rfl,?_⟩
  ·rcases hl with hl | hl;·exact .inl (by simp;omega)
   ·exact .inr (by simp;omega)
  ·exact I.turnedL (t':=s.toks) (ch:=[z,TO,i1,i2]) (λc o n e=>hk c o (λt=>n (by simp[t])) (λt=>n (by simp[t])) (λt=>n (by simp[t])) (λt=>n (by simp[t])) e) λc hc=>hf c (by
    have:c=z\/c=TO\/c=i1\/c=i2:=by simpa using hc
    rcases this with rfl | rfl | rfl | rfl<;>simp)
 self:=λ_ _ _ _ _ st h=>wpAny_pyIter_zip st.1 h
theorem zf9{X:Cx}{elts:List Expr}{kt:Nat}{tp:Pos}{a b:Expr}{ta:TA}{p pos:Pos}(hg:Gl X "zip")(hm:X.mg "zip"=none)(ha:PA X [a,b] ta)(hs:starEach [a,b] X.env=(false,eval a X.env)::starEach [b] X.env:=by rfl)(hpl:(backTo pos (starEach [b] X.env)).any (·.1)=false:=by rfl): PI X (.Tuple elts kt tp) (.Call (.Name "zip" p) [a,b] [] pos) (λO H R=>ta O H λvs H1=>∃l1 l2 b1 b2,vs=[.ref l1,.ref l2]/\(∃xs,Sq b1 X.K H1 l1 xs)/\(∃ys,Sq b2 X.K H1 l2 ys)/\R (Itz X.K b1 b2 l1 l2) H1):=by
 intro pins s O H R I h;refine _be (kS I hg hm (u:=.type "zip") (by first | exact PySem.boot_zip | rfl | decide +kernel) ?_ (by decide) (by decide));refine _as (thn (ha pos pins s O H _ I h) λus s1 ⟨vs,H1,I1,r1,q1⟩=>?_) hs hpl;obtain⟨l1,l2,b1,b2,rfl,⟨xs,qx⟩,⟨ys,qy⟩,q⟩:=q1;cases r1 with | cons r1 r2=> cases r2 with | cons r2 r3=>
   cases r3;cases r1;cases r2;obtain⟨ix,rx,cx⟩:=I1.sq qx;obtain⟨iy,ry,cy⟩:=I1.sq qy;have lt1:l1<s1.heap.objs.size:=by cases b1 with
    | true=>obtain⟨o,e,_⟩:=cx;exact _o e | false=>obtain⟨o,e,_⟩:=cx;exact _o e
   have lt2:l2<s1.heap.objs.size:=by cases b2 with
    | true=>obtain⟨o,e,_⟩:=cy;exact _o e | false=>obtain⟨o,e,_⟩:=cy;exact _o e
   have D:ZipApart (s1.heap.objs.size+4) (s1.heap.objs.size+2) (s1.heap.objs.size+3) s1.heap.objs.size (s1.heap.objs.size+1) l1 l2:=by
    have e1:∀k:Nat,l1≠s1.heap.objs.size+k:=λk=>_C (_w lt1 (_dn _ _));have e2:∀k:Nat,l2≠s1.heap.objs.size+k:=λk=>_C (_w lt2 (_dn _ _));have nk:∀(m j k:Nat),j≠k->m+j≠m+k:=λm j k h z=>h (Nat.add_left_cancel z);exact⟨nk _ 2 4 (by decide),nk _ 3 4 (by decide),nk _ 0 4 (by decide),nk _ 1 4 (by decide),nk _ 2 3 (by decide),nk _ 2 0 (by decide),nk _ 2 1 (by decide),nk _ 3 0 (by decide),nk _ 3 1 (by decide),nk _ 0 1 (by decide),e1 4,e1 3,e1 0,e1 1,e2 4,e2 3,e2 0,e2 1⟩
   refine zan cx cy λg hz hTI hTO h1 h2 hk=>?_;refine wpAny_pyIter_zip hz ?_;refine⟨_,_,_,_,H1,rfl,I1.kept (t':=s1.toks) hk,zag D,⟨hz,hTI,⟨_,_,hTO⟩,h1,h2⟩,λc hc=>?_,q⟩;have hc':s1.heap.objs.size<=c:=by
    have:c=s1.heap.objs.size+4\/c=s1.heap.objs.size+2\/c=s1.heap.objs.size+3\/c=s1.heap.objs.size\/c=s1.heap.objs.size+1:=by simpa using hc
    rcases this with rfl | rfl | rfl | rfl | rfl<;>first | exact _d _ | exact _dn _ _
   exact I1.fpOk hc' (I1.hok.fresh hc')
end L2
namespace Zz
section
variable {P:Program}{w:World}{A:Around}{E:Value->Shared->Prop}{s:Shared}
theorem z3D {b : Bool} {l : Addr} {its : Array Value} {Q : Value → Shared → Prop} (hh : A.handled = none) (h : Sco b s.heap l its) (k : ∀s2 : Shared, s2 = { s with heap := s.heap.push (itO b l) } → ∀St : Nat → Heap → Prop, Walks P w A s.heap.objs.size [s.heap.objs.size, l] [s.heap.objs.size] its.size (λi v => its[i]? = some v) St → St 0 s2.heap → (∀c ∈ [s.heap.objs.size, l], c < s2.heap.objs.size) → (∀h' : Heap, (∀c o, c ∉ [s.heap.objs.size] → s2.heap.get? c = some o → h'.get? c = some o) → ∀c o, s.heap.get? c = some o → h'.get? c = some o) → Q (.ref s.heap.objs.size) s2) : wpAny (model P w) A (pyIter (.ref l)) Q E s := by
  have lt : l < s.heap.objs.size := by cases b with
    | true => obtain⟨o, e, _⟩ := h; exact _o e | false => obtain⟨o, e, _⟩ := h; exact _o e
  have ne : l ≠ s.heap.objs.size := _C lt;have bd : ∀c ∈ [s.heap.objs.size, l], c < (s.heap.push (itO b l)).objs.size := λc hc => by
    have : c = s.heap.objs.size ∨ c = l := by simpa using hc
    rw[_aw];rcases this with rfl | rfl;· exact _ba _
    · exact _at lt
  have old : ∀h' : Heap, (∀c o, c ∉ [s.heap.objs.size] → (s.heap.push (itO b l)).get? c = some o → h'.get? c = some o) → ∀c o, s.heap.get? c = some o → h'.get? c = some o := λh' hk c o e =>
    hk c o (fun z => by have : c = s.heap.objs.size := by simpa using z
                        exact absurd (this ▸ _o e) (_aY _)) (_f _ e);refine z7W h ?_;have g : (s.heap.push (itO b l)).get? s.heap.objs.size = some (itO b l) := _s _ (z3m b l);cases b with
  | true => exact k _ rfl _ (Walks.list hh _ l ne its) ⟨z5R (b := true) g, Sco.to (b := true) h λo e => _f _ e⟩ bd old | false => exact k _ rfl _ (Walks.tuple hh _ l ne its) ⟨z5R (b := false) g, Sco.to (b := false) h λo e => _f _ e⟩ bd old
end
end Zz
namespace L2
open Zz
noncomputable def maxL:List Int->Int
 | []=>0 | x::xs=>xs.foldl max x
noncomputable def minL:List Int->Int
 | []=>0 | x::xs=>xs.foldl min x
theorem ug:∀(xs:List Int)(x:Int),x<=xs.foldl max x/\(∀y∈xs,y<=xs.foldl max x)/\(xs.foldl max x=x\/xs.foldl max x∈xs)
 | [],x=>⟨Int.le_refl _,by simp,.inl rfl⟩ | y::ys,x=>by
  obtain⟨h1,h2,h3⟩:=ug ys (max x y);refine⟨by simp only[_aE];omega,λz hz=>?_,?_⟩
  ·simp only[_aE];rcases _j.mp hz with rfl | hz;·omega
   ·exact h2 z hz
  ·simp only[_aE];rcases h3 with h3 | h3
   ·rw[h3];rcases Int.le_total x y with h | h;·exact .inr (by rw[Int.max_eq_right h];simp)
    ·exact .inl (Int.max_eq_left h)
   ·exact .inr (_F _ h3)
theorem ui:∀(xs:List Int)(x:Int),xs.foldl min x<=x/\(∀y∈xs,xs.foldl min x<=y)/\(xs.foldl min x=x\/xs.foldl min x∈xs)
 | [],x=>⟨Int.le_refl _,by simp,.inl rfl⟩ | y::ys,x=>by
  obtain⟨h1,h2,h3⟩:=ui ys (min x y);refine⟨by simp only[_aE];omega,λz hz=>?_,?_⟩
  ·simp only[_aE];rcases _j.mp hz with rfl | hz;·omega
   ·exact h2 z hz
  ·simp only[_aE];rcases h3 with h3 | h3
   ·rw[h3];rcases Int.le_total x y with h | h;·exact .inl (Int.min_eq_left h)
    ·exact .inr (by rw[Int.min_eq_right h];simp)
   ·exact .inr (_F _ h3)
theorem maxL_ge{xs:List Int}:∀y∈xs,y<=maxL xs:=by cases xs with
 | nil=>simp | cons x xs=>intro y hy;rcases _j.mp hy with rfl | hy;exact (ug xs y).1;exact (ug xs x).2.1 y hy
theorem maxL_mem{xs:List Int}(h:xs≠[]):maxL xs∈xs:=by cases xs with
 | nil=>exact absurd rfl h | cons x xs=>rcases (ug xs x).2.2 with e | e;exact (show xs.foldl max x∈x::xs by rw[e];simp);exact _F _ e
theorem minL_le{xs:List Int}:∀y∈xs,minL xs<=y:=by cases xs with
 | nil=>simp | cons x xs=>intro y hy;rcases _j.mp hy with rfl | hy;exact (ui xs y).1;exact (ui xs x).2.1 y hy
theorem minL_mem{xs:List Int}(h:xs≠[]):minL xs∈xs:=by cases xs with
 | nil=>exact absurd rfl h | cons x xs=>rcases (ui xs x).2.2 with e | e;exact (show xs.foldl min x∈x::xs by rw[e];simp);exact _F _ e
section
variable {X:Cx}
theorem z1C {ns:List Int} {its:List Value} (r:xt (ns.map V.int) its) {i:Nat} {v:Value} (e:its.toArray[i]? = some v):∃t,v=.int (ns.getD i 0) t/\i<ns.length:=by
 have e':its[i]? = some v:=by simpa using e
 have hl:=r.length;have hi:i<ns.length:=by
  have:=(_b.mp e').1;simp at hl;omega
 obtain⟨u,hu,ru⟩:=r.get (i:=i) (x:=V.int ns[i]) (by simp[hi]);rw[e']at hu;cases hu;obtain⟨t,rfl⟩:=ru;exact⟨t,by simp[List.getD,hi],hi⟩
theorem getD_in{ns:List Int}{i:Nat}(h:i<ns.length):ns.getD i 0∈ns:=by
 rw[List.getD,_r h];exact _bx _
theorem z9a (hc:X.calm=true):wA X (.builtin "max") (λxs H Q=>∃b p ns,xs=[.ref p]/\Sq b X.K H p (ns.map V.int)/\ns≠[]/\Q (.int (maxL ns)) H):=by
 intro pins s O H xs us Q I r h;obtain⟨b,p,ns,rfl,hq,hne,q⟩:=h;obtain⟨u,rfl,ru⟩:=vals1 r;cases ru;obtain⟨its,rv,co⟩:=I.sq hq;have hl:its.length=ns.length:=by have:=rv.length;simp at this;omega
 have hn:0<ns.length:=List.length_pos_iff.mpr hne;refine call_max_walk (z3D (I.ok.hd hc) co λs2 e2 St W st bd old=>?_);subst e2;refine⟨_,_,_,_,_,_,_,rfl,W,st,bd,by simpa[hl] using hn,CmpOf.ints_gt (λi=>ns.getD i 0) (λi v e=>let ⟨t,e1,_⟩:=z1C rv e;⟨t,e1⟩),λv h' tk e hk=>?_⟩;obtain⟨t,e1,lt⟩:=z1C rv e;obtain⟨h1,h2⟩:=argBest_gt (λi=>ns.getD i 0) (its.toArray.size-1);have em:ns.getD (argBest (λi j=>decide (ns.getD i 0 > ns.getD j 0)) (its.toArray.size-1)) 0=maxL ns:=by
  refine Int.le_antisymm (maxL_ge _ ?_) ?_;·exact getD_in lt
  ·obtain⟨j,hj,ej⟩:=_ah.mp (maxL_mem hne);have:=h2 j (by simp[hl];omega);simp only[List.getD,_r hj,_ct,ej]at this;simpa[List.getD] using this
 rw[e1,em];exact⟨.int (maxL ns),H,I.kept (t':=tk) (old h' hk),⟨t,rfl⟩,q⟩
theorem z7K (hc:X.calm=true):wA X (.builtin "min") (λxs H Q=>∃b p ns,xs=[.ref p]/\Sq b X.K H p (ns.map V.int)/\ns≠[]/\Q (.int (minL ns)) H):=by
 intro pins s O H xs us Q I r h;obtain⟨b,p,ns,rfl,hq,hne,q⟩:=h;obtain⟨u,rfl,ru⟩:=vals1 r;cases ru;obtain⟨its,rv,co⟩:=I.sq hq;have hl:its.length=ns.length:=by have:=rv.length;simp at this;omega
 have hn:0<ns.length:=List.length_pos_iff.mpr hne;refine call_min_walk (z3D (I.ok.hd hc) co λs2 e2 St W st bd old=>?_);subst e2;refine⟨_,_,_,_,_,_,_,rfl,W,st,bd,by simpa[hl] using hn,CmpOf.ints_lt (λi=>ns.getD i 0) (λi v e=>let ⟨t,e1,_⟩:=z1C rv e;⟨t,e1⟩),λv h' tk e hk=>?_⟩;obtain⟨t,e1,lt⟩:=z1C rv e;obtain⟨h1,h2⟩:=argBest_lt (λi=>ns.getD i 0) (its.toArray.size-1);have em:ns.getD (argBest (λi j=>decide (ns.getD i 0<ns.getD j 0)) (its.toArray.size-1)) 0=minL ns:=by
  refine Int.le_antisymm ?_ (minL_le _ ?_)
  ·obtain⟨j,hj,ej⟩:=_ah.mp (minL_mem hne);have:=h2 j (by simp[hl];omega);simp only[List.getD,_r hj,_ct,ej]at this;simpa[List.getD] using this
  ·exact getD_in lt
 rw[e1,em];exact⟨.int (minL ns),H,I.kept (t':=tk) (old h' hk),⟨t,rfl⟩,q⟩
theorem all_range{bs:List Bool}:(List.range bs.length).all (λi=>bs.getD i false)=bs.all id:=by
 rw[Bool.eq_iff_iff];simp only[_ab,_bc,id];constructor
 ·intro h x hx;obtain⟨j,hj,ej⟩:=_ah.mp hx;have:=h j hj;simpa[List.getD,hj,ej] using this
 ·intro h i hi;simp only[List.getD,_r hi,_ct];exact h _ (_bx _)
theorem z8s (hc:X.calm=true):wA X (.builtin "all") (λxs H Q=>∃(b:Bool) (p:Addr) (bs:List Bool),xs=[.ref p]/\Sq b X.K H p (bs.map V.bl)/\Q (.bl (bs.all id)) H):=by
 intro pins s O H xs us Q I r h;obtain⟨b,p,bs,rfl,hq,q⟩:=h;obtain⟨u,rfl,ru⟩:=vals1 r;cases ru;obtain⟨its,rv,co⟩:=I.sq hq;have hl:its.length=bs.length:=by have:=rv.length;simp at this;omega
 refine call_all_walk (z3D (I.ok.hd hc) co λs2 e2 St W st bd old=>?_);subst e2;refine⟨_,_,_,_,_,_,λi=>bs.getD i false,rfl,W,st,λi v s3 Q3 E3 e q3=>?_,λh' tk hk=>?_⟩
 ·have e':its[i]? = some v:=by simpa using e
  have hi:i<bs.length:=by have:=(_b.mp e').1;omega
  obtain⟨u,hu,ru⟩:=rv.get (i:=i) (x:=V.bl bs[i]) (by simp[hi]);rw[e']at hu;cases hu;cases ru;have:bs.getD i false=bs[i]:=by simp[List.getD,hi]
  have q3:Q3 (bs.getD i false) s3:=q3;rw[this]at q3;exact _aP q3
 ·have ez:its.toArray.size=bs.length:=by simp[hl]
  rw[ez,all_range];exact⟨.bl (bs.all id),H,I.kept (t':=tk) (old h' hk),rfl,q⟩
end
end L2
namespace L2
theorem z5o{X:Cx}:wA X (.builtin "isinstance") (λxs H Q=>∃x t T b,xs=[x,.ty T]/\z6v X.K H x t/\W.kitOne X.K t (.type T)=some b/\Q (.bl b) H):=by
 intro pins s O H xs us Q I r h;obtain⟨x,t,T,b,rfl,ht,hk,q⟩:=h;obtain⟨u,v,rfl,ru,rv⟩:=vals2 r;cases rv;exact z8b I ru ht hk λtk=>⟨.bl b,H,I.tok _,rfl,q⟩
end L2
namespace Dd
open L2
noncomputable def tyD:D->Option String
 | .non=>some "NoneType" | .bl _=>some "bool" | .int _=>some "int" | .str _=>some "str" | .tup _=>some "tuple" | .lst _=>some "list" | .loc _=>some "list" | .dct=>some "dict" | _=>none
noncomputable def isT(T t:String):Bool:=t==T||(T=="int"&&t=="bool")
noncomputable def gIs(T:String):D->Sto->R D:=λd s=>match tyD d with | some t=>.ok (.bl (isT T t)) s | none=>.no
theorem zcN{K:W.Frag}{t:String}(h:t∈["NoneType","bool","int","str","tuple","list","dict"])(T:String)(hT:T∈["int","bool","str","tuple","list"]):W.kitOne K (.type t) (.type T)=some (isT T t):=by
 have hh:t="NoneType"\/t="bool"\/t="int"\/t="str"\/t="tuple"\/t="list"\/t="dict":=by simpa using h
 have hh':T="int"\/T="bool"\/T="str"\/T="tuple"\/T="list":=by simpa using hT
 rcases hh with rfl | rfl | rfl | rfl | rfl | rfl | rfl<;>rcases hh' with rfl | rfl | rfl | rfl | rfl<;>kernel_rfl
theorem zeo{mg:Gm}{H:Hp}{Y:List Addr}{s:Sto}{d:D}{v:V}{t:String}(r:Rep mg H Y s)(dn:Den mg H Y d v)(e:tyD d=some t):z6v mg.K H v (.type t)/\t∈["NoneType","bool","int","str","tuple","list","dict"]:=by cases d with
 | non=>simp only[Den]at dn;subst dn;cases e;exact⟨.non,by simp⟩ | bl b=>cases jI dn;cases e;exact⟨.bl b,by simp⟩ | int b=>cases yj dn;cases e;exact⟨.int b,by simp⟩ | str b=>cases zbB dn;cases e;exact⟨.str b,by simp⟩ | tup b=>
  cases e;simp only[Den]at dn;obtain⟨a,vs,rfl,h1,_⟩:=dn;exact⟨.tup h1,by simp⟩ | lst b=>
  cases e;simp only[Den]at dn;obtain⟨a,o,vs,rfl,h1,_⟩:=dn;exact⟨.frz h1,by simp⟩ | loc l=>
  cases e;simp only[Den]at dn;obtain⟨a,rfl,h1,vs,h2⟩:=dn;exact⟨.lst h2,by simp⟩ | dct=>
  cases e;simp only[Den]at dn;obtain⟨a,rfl,h1⟩:=dn;exact⟨.dK h1,by simp⟩ | _=>cases e
section
variable {X:Cx}{E:XK}{e a b c tg:Expr}{es:List Expr}{pos:Pos}{CX:CXT}
noncomputable def eIs(T:String)(f:FE):FE:=fun ρ s=>(f ρ s).bind λd s1=>gIs T d s1
theorem z57{p p2:Pos}{T:String}{tn:Str}{f:FE}(hT:T∈["int","bool","str","tuple","list"])(hv:bootBuiltins tn=some (.type T))(hg:Gl X "isinstance")(hm:X.mg "isinstance"=none)(hg2:Gl X tn)(hm2:X.mg tn=none)(he:RE X E e f) (hn:tn≠"__name__":=by decide)(hd:(tn==("__debug__":Str))=false:=by decide) (hs:starEach [e,.Name tn p2] X.env=(false,eval e X.env)::starEach [.Name tn p2] X.env:=by rfl)(hpl:(backTo pos (starEach [.Name tn p2] X.env)).any (·.1)=false:=by rfl):RE X E (.Call (.Name "isinstance" p) [e,.Name tn p2] [] pos) (eIs T f):= yy (z3y z5o hg hm (by decide +kernel) (wU he (wU (zc2 hg2 hm2 hv (show xL (.ty T) (.type T) from rfl) hn hd) uz) hs) (by decide) (by decide) hs hpl) λO H Q ⟨Y,ρ,s,r,en,h⟩=>by
  refine yK (k:=fun ρ d s1=>gIs T d s1) r en h _ λv H1 Y1 s1 d r1 en1 dn stp h1=>?_;unfold gIs at h1;split at h1
  ·rename_i t et;obtain⟨q1,q2⟩:=zeo r1 dn et;exact⟨v,.type t,T,isT T t,rfl,q1,zcN q2 T hT,okR.here (b:=V.bl (isT T t)) h1 r1 wO⟩
  ·exact h1.elim
noncomputable def z0k:List D->Sto->R D
 | [.int i],s=>.ok (.int (if i<0 then -i else i)) s | _,_=>.no
theorem z5v:∃r,wA X (.builtin "abs") r/\z0g X E r z0k:=⟨_,z9J,λH Y s ds vs Q r hd h=>by
 unfold z0k at h;split at h
 ·rename_i i;obtain⟨v,rfl,dn⟩:=z2G hd;cases yj dn;exact⟨i,rfl,h.here r xE⟩
 ·exact h.elim⟩
noncomputable def intsOf:List D->Option (List Int)
 | []=>some [] | .int i::r=>(intsOf r).map (i::·) | _=>none
noncomputable def bools:List D->Option (List Bool)
 | []=>some [] | .bl i::r=>(bools r).map (i::·) | _=>none
theorem ju:∀{xs:List D}{ns:List Int},intsOf xs=some ns->xs=ns.map D.int
 | [],ns,h=>by simp[intsOf]at h;subst h;rfl | .int i::r,ns,h=>by
  simp only[intsOf,_D]at h;obtain⟨ms,h1,rfl⟩:=h;rw[ju h1];rfl
theorem vG(ns:List Int):intsOf (ns.map D.int)=some ns:=by induction ns with
 | nil=>rfl | cons n ns ih=>simp[intsOf,ih]
theorem z5P:∀{xs:List D}{ns:List Bool},bools xs=some ns->xs=ns.map D.bl
 | [],ns,h=>by simp[bools]at h;subst h;rfl | .bl i::r,ns,h=>by
  simp only[bools,_D]at h;obtain⟨ms,h1,rfl⟩:=h;rw[z5P h1];rfl
theorem z7N(ns:List Bool):bools (ns.map D.bl)=some ns:=by induction ns with
 | nil=>rfl | cons n ns ih=>simp[bools,ih]
theorem jv{mg:Gm}{H:Hp}{Y:List Addr}:∀{ns:List Int}{vs:List V},zA mg H Y (ns.map D.int) vs->vs=ns.map V.int
 | [],vs,h=>by simpa[zA] using h | n::ns,vs,h=>by
  simp only[_t,zA]at h;obtain⟨v,r,rfl,h1,h2⟩:=h;cases yj h1;rw[jv h2];rfl
theorem z5z{mg:Gm}{H:Hp}{Y:List Addr}:∀{ns:List Bool}{vs:List V},zA mg H Y (ns.map D.bl) vs->vs=ns.map V.bl
 | [],vs,h=>by simpa[zA] using h | n::ns,vs,h=>by
  simp only[_t,zA]at h;obtain⟨v,r,rfl,h1,h2⟩:=h;cases jI h1;rw[z5z h2];rfl
noncomputable def uD:List D->Sto->R D
 | [d],s=>match (xj s d).bind intsOf with | some (n::ns)=>.ok (.int (maxL (n::ns))) s | _=>.no
 | _,_=>.no
noncomputable def qJ:List D->Sto->R D
 | [d],s=>match (xj s d).bind intsOf with | some (n::ns)=>.ok (.int (minL (n::ns))) s | _=>.no
 | _,_=>.no
noncomputable def z6R:List D->Sto->R D
 | [d],s=>match (xj s d).bind bools with | some ns=>.ok (.bl (ns.all id)) s | none=>.no
 | _,_=>.no
theorem z63{K:W.Frag}{H:Hp}{a:Addr}{vs:List V}(h:SqL K H a vs\/SqT K H a vs):∃b,Sq b K H a vs:=h.elim (λh=>⟨true,h⟩) λh=>⟨false,h⟩
theorem z22(hc:X.calm=true):∃r,wA X (.builtin "max") r/\z0g X E r uD:=⟨_,z9a hc,λH Y s ds vs Q r hd h=>by
 unfold uD at h;split at h
 ·rename_i d;split at h
  ·rename_i n ns e;obtain⟨xs,e1,e2⟩:=_by.mp e;have:=ju e2;subst this;obtain⟨v,rfl,dn⟩:=z2G hd;obtain⟨a,ws,rfl,q1,q2⟩:=qI (K:=X.K) r e1 dn;cases jv q2;obtain⟨b,q⟩:=z63 q1;exact⟨b,a,n::ns,rfl,q,by simp,h.here r xE⟩
  ·exact h.elim
 ·exact h.elim⟩
theorem z5K(hc:X.calm=true):∃r,wA X (.builtin "min") r/\z0g X E r qJ:=⟨_,z7K hc,λH Y s ds vs Q r hd h=>by
 unfold qJ at h;split at h
 ·rename_i d;split at h
  ·rename_i n ns e;obtain⟨xs,e1,e2⟩:=_by.mp e;have:=ju e2;subst this;obtain⟨v,rfl,dn⟩:=z2G hd;obtain⟨a,ws,rfl,q1,q2⟩:=qI (K:=X.K) r e1 dn;cases jv q2;obtain⟨b,q⟩:=z63 q1;exact⟨b,a,n::ns,rfl,q,by simp,h.here r xE⟩
  ·exact h.elim
 ·exact h.elim⟩
theorem zel(hc:X.calm=true):∃r,wA X (.builtin "all") r/\z0g X E r z6R:=⟨_,z8s hc,λH Y s ds vs Q r hd h=>by
 unfold z6R at h;split at h
 ·rename_i d;split at h
  ·rename_i ns e;obtain⟨xs,e1,e2⟩:=_by.mp e;have:=z5P e2;subst this;obtain⟨v,rfl,dn⟩:=z2G hd;obtain⟨a,ws,rfl,q1,q2⟩:=qI (K:=X.K) r e1 dn;cases z5z q2;obtain⟨b,q⟩:=z63 q1;exact⟨b,a,ns,rfl,q,h.here r wO⟩
  ·exact h.elim
 ·exact h.elim⟩
noncomputable def z3K:List D->List D->List D
 | x::xs,y::ys=>.tup [x,y]::z3K xs ys | _,_=>[]
theorem z1g:∀(xs ys:List D),(z3K xs ys).length=min xs.length ys.length
 | [],ys=>by simp[z3K] | x::xs,[]=>by simp[z3K] | x::xs,y::ys=>by simp only[z3K,_p,z1g xs ys];omega
theorem z7A:∀{xs ys:List D}{i:Nat}{d:D},(z3K xs ys)[i]? = some d->∃x y,xs[i]? = some x/\ys[i]? = some y/\d=.tup [x,y]
 | [],ys,i,d,h=>by simp[z3K]at h | x::xs,[],i,d,h=>by simp[z3K]at h | x::xs,y::ys,0,d,h=>by simp[z3K]at h;exact⟨x,y,by simp,by simp,h.symm⟩ | x::xs,y::ys,i+1,d,h=>by
  simp only[z3K,_aL]at h;obtain⟨a,b,h1,h2,h3⟩:=z7A h;exact⟨a,b,by simpa using h1,by simpa using h2,h3⟩
noncomputable def za8(s:Sto):D->Option (List D×List (Nat×List D))
 | .tup xs=>some (xs,[]) | .lst xs=>some (xs,[]) | .loc l=>(s[l]?).map λxs=>(xs,[(l,xs)]) | _=>none
theorem z8q{mg:Gm}{H:Hp}{Y:List Addr}{s:Sto}{d:D}{xs:List D}{g:List (Nat×List D)}{v:V}(r:Rep mg H Y s)(h:za8 s d=some (xs,g))(dn:Den mg H Y d v):okG g [] s/\∃(b:Bool)(a:Addr),v=.ref a/\ ∀H2 Y2 s2,yA mg H Y H2 Y2 s2->okG g [] s2->∃ws,Sq b mg.K H2 a ws/\zA mg H2 Y2 xs ws:=by cases d with
 | tup ys=>
  cases h;obtain⟨a,vs,rfl,q1,q2⟩:=jX (K:=mg.K) dn;refine⟨(by intro p hp;simp at hp),false,a,rfl,λH2 Y2 s2 stp _=>?_⟩;obtain⟨a',ws,e,q3,q4⟩:=jX (K:=mg.K) (dn.mono stp);cases e;exact⟨ws,q3,q4⟩ | lst ys=>
  cases h;obtain⟨a,vs,rfl,q1,q2⟩:=yd (d:=.lst xs) r rfl dn;refine⟨(by intro p hp;simp at hp),true,a,rfl,λH2 Y2 s2 stp _=>?_⟩;obtain⟨a',ws,e,q3,q4⟩:=yd (d:=.lst xs) stp.rep rfl (dn.mono stp);cases e;exact⟨ws,.inl q3,q4⟩ | loc l=>
  simp only[za8,_D]at h;obtain⟨ys,ey,e2⟩:=h;cases e2;obtain⟨a,vs,rfl,q1,q2⟩:=yd (d:=.loc l) r ey dn;have og:okG [(l,xs)] [] s:=λp hp=>by
   have:p=(l,xs):=by simpa using hp
   subst this;exact ey
  refine⟨og,true,a,rfl,λH2 Y2 s2 stp hg=>?_⟩;obtain⟨a',ws,e,q3,q4⟩:=yd (d:=.loc l) stp.rep (hg (l,xs) (by simp)) (dn.mono stp);cases e;exact⟨ws,.inl q3,q4⟩ | _=>cases h
noncomputable def z7d(f:FA):FI:=fun ρ s=>(f ρ s).bind λds s1=>match ds with
 | [x,y]=>match za8 s1 x,za8 s1 y with
  | some p,some q=>.ok (z3K p.1 q.1,p.2++q.2) s1 | _,_=>.no
 | _=>.no
theorem zbC{p tp:Pos}{elts:List Expr}{kt:Nat}{f:FA}(hg:Gl X "zip")(hm:X.mg "zip"=none)(ha:RA X E [a,b] f)(hs:starEach [a,b] X.env=(false,eval a X.env)::starEach [b] X.env:=by rfl)(hpl:(backTo pos (starEach [b] X.env)).any (·.1)=false:=by rfl): RI X E (.Tuple elts kt tp) (.Call (.Name "zip" p) [a,b] [] pos) (z7d f):= z5E (zf9 hg hm ha hs hpl) λO H Q ⟨Y,ρ,s,r,en,h⟩=>by
  unfold z7d at h;refine⟨Y,ρ,s,r,en,(okR.bind (Dn:=zA (gm X)) h).imp λvs H1 ⟨Y1,s1,ds,stp,dn,h1⟩=>?_⟩;split at h1
  ·rename_i x y;split at h1
   ·rename_i p q ex ey;obtain⟨xs,gx⟩:=p;obtain⟨ys,gy⟩:=q;obtain⟨v,v',rfl,d1,d2⟩:=z6y dn;obtain⟨og1,b1,a1,rfl,k1⟩:=z8q stp.rep ex d1;obtain⟨og2,b2,a2,rfl,k2⟩:=z8q stp.rep ey d2;obtain⟨w1,q1,_⟩:=k1 H1 Y1 s1 (.refl stp.rep) og1;obtain⟨w2,q2,_⟩:=k2 H1 Y1 s1 (.refl stp.rep) og2;refine⟨a1,a2,b1,b2,rfl,⟨w1,q1⟩,⟨w2,q2⟩,h1.here stp.rep λH2 Y2 s2 stp2 og i=>?_⟩;have h3:okG gx [] s2:=λp hp=>og p (_aJ _ hp);have h4:okG gy [] s2:=λp hp=>og p (_y _ hp);refine⟨λd hd=>?_,λhl=>?_⟩
    ·obtain⟨x,y,e1,e2,rfl⟩:=z7A hd;obtain⟨w1,q1,n1⟩:=k1 H2 Y2 s2 stp2 h3;obtain⟨w2,q2,n2⟩:=k2 H2 Y2 s2 stp2 h4;obtain⟨u1,g1,m1⟩:=n1.get e1;obtain⟨u2,g2,m2⟩:=n2.get e2;refine⟨⟨w1,w2,u1,u2,q1,q2,g1,g2⟩,λz H' ⟨T,p,q,hT,ez,eH,hp,hq⟩=>?_⟩;subst ez eH;have e3:=hp w1 q1;have e4:=hq w2 q2;rw[g1]at e3;rw[g2]at e4;cases e3;cases e4;have st3:=yA.lay (o:=.tup [u1,u2]) stp2.rep hT (by intro _ z;cases z);refine⟨Y2,st3,?_⟩;simp only[Den];exact⟨T,[u1,u2],rfl,zu,(zA.cons m1 (zA.one m2)).mono st3⟩
    ·obtain⟨w1,q1,n1⟩:=k1 H2 Y2 s2 stp2 h3;obtain⟨w2,q2,n2⟩:=k2 H2 Y2 s2 stp2 h4;refine⟨w1,w2,q1,q2,?_⟩;rw[n1.length,n2.length];simp only[z1g]at hl;omega
   ·exact h1.elim
  ·exact h1.elim
end
noncomputable def yi(mp:List (Option Nat))(ρ:Ev):Ev:=mp.map λo=>match o with | some j=>(ρ[j]?).getD none | none=>none
theorem vA.inner{mg:Gm}{H:Hp}{Y:List Addr}{ρ:Ev}{O:L2.St}{mp:List (Option Nat)}(en:vA mg H Y ρ O):vA mg H Y (yi mp ρ) (inner mp O):=by
 refine⟨by simp[yi,L2.inner],λi d h=>?_⟩;simp only[yi,_O,_D]at h;obtain⟨o,h1,h2⟩:=h;cases o with
 | none=>cases h2 | some j=>
  simp only at h2;have h3:ρ[j]? = some (some d):=by cases e:ρ[j]? with
   | none=>rw[e]at h2;cases h2 | some x=>rw[e]at h2;simp at h2;rw[h2]
  obtain⟨v,h4,h5⟩:=en.at_ j d h3;exact⟨v,by simp[L2.inner,h1,h4],h5⟩
open Classical in
noncomputable def wo(g:List (Nat×List D))(all:List D)(body:D->Sto->R (Option D)):List D->List D->Sto->R (List D)
 | [],acc,s=>if okG g all s then .ok acc s else .no | x::xs,acc,s=>if okG g all s then (body x s).bind λo s1=>match o with
   | some d=>if acc.length<cap then wo g all body xs (acc++[d]) s1 else .no | none=>wo g all body xs acc s1 else .no
def z1F(fi:FI)(mp:List (Option Nat))(fg:FG)(ft:FT)(fe:FE):FA:=fun ρ s=>(fi ρ s).bind λit s1=>wo it.2 it.1 (λd s=>(fg d (yi mp ρ) s).bind fun ρ' s'=>(ft ρ' s').bind λb s2=>if b=true then (fe ρ' s2).bind λd s3=>.ok (some d) s3 else .ok none s2) it.1 [] s1
def z1M(mg:Gm)(E:XK)(mp:List (Option Nat))(g:TG)(fg:FG):Prop:=∀(O:L2.St) H Y ρ s x d (Q:L2.St->Hp->Prop),Rep mg H Y s->vA mg H Y (yi mp ρ) (inner mp O)->Den mg H Y d x->okR mg E H Y (vA mg) (fg d (yi mp ρ) s) Q-> g x (inner mp O) H (λO2 H2=>(O2.length=(inner mp O).length/\∀(i:Nat) v,(inner mp O)[i]? = some (some v)->O2[i]? = some (some v))/\Q O2 H2)
theorem z17{mp:List (Option Nat)}{i:Nat}(h:mp[i]? = some none)(O:L2.St):(inner mp O)[i]? = some none:=by simp[L2.inner,h]
theorem z2t{O:L2.St}{i:Nat}{v:V}(h:O[i]? = some none):(O.set i (some v)).length=O.length/\∀(j:Nat) u,O[j]? = some (some u)->(O.set i (some v))[j]? = some (some u):=by
 refine⟨by simp,λj u e=>?_⟩;have:i≠j:=λz=>by subst z;rw[h]at e;cases e
 rw[_K this];exact e
section
variable {X:Cx}{E:XK}{e a b c tg iter elt:Expr}{es:List Expr}{pos:Pos}{CX:CXT}{mp:List (Option Nat)}
theorem yg(i:Nat)(h:mp[i]? = some none):z1M (gm X) E mp (kW i) (yJ i):=λO H Y ρ s x d Q r en dn ok=>by
 refine⟨z2t (z17 h O),?_⟩;exact okR.here (b:=(inner mp O).set i (some x)) ok r (en.set dn i)
theorem z0y{fi:FI}{g:TG}{fg:FG}{ft:FT}{fe:FE}{O:L2.St}{H:Hp}{Q:VK}{Y:List Addr}{ρ:Ev}{s:Sto}{β:Type}{kR:List D->Sto->R β}{β2:Type}{Dn:Hp->List Addr->β->β2->Prop}{Q2:β2->Hp->Prop}(hg:z1M (gm X) E mp g fg)(r:Rep (gm X) H Y s)(en:vA (gm X) H Y ρ O) (h:okR (gm X) E H Y Dn ((z1F fi mp fg ft fe ρ s).bind kR) Q2) (fin:∀H1 Y1 s1 xs vs,Rep (gm X) H1 Y1 s1->vA (gm X) H1 Y1 ρ O->zA (gm X) H1 Y1 xs vs->okR (gm X) E H1 Y1 Dn (kR xs s1) Q2->xs.length<=cap->∀p,H1 p=none->Q (.ref p) (upd H1 p (.lst vs))): zaG (tI (gm X) E fi) mp g (tT (gm X) E ft) (tE (gm X) E fe) O H Q:=by
 unfold z1F at h;have assoc:∀{α γ δ:Type}(x:R α)(f:α->Sto->R γ)(k:γ->Sto->R δ),(x.bind f).bind k=x.bind λa s=>(f a s).bind k:=λx f k=>by cases x<;>rfl
 rw[assoc]at h;refine⟨Y,ρ,s,r,en,(okR.bind (Dn:=zai (gm X)) h).imp λJ H1 ⟨Y1,s1,it,stp,ok,h1⟩=>?_⟩;obtain⟨items,gd⟩:=it;simp only at h1;refine⟨λi m ys H=>∃Y s acc,yA (gm X) H1 Y1 H Y s/\zA (gm X) H Y acc ys/\acc.length<=cap/\m=items.length-i/\i<=items.length/\ okR (gm X) E H Y Dn ((wo gd items (λd s=>(fg d (yi mp ρ) s).bind fun ρ' s'=>(ft ρ' s').bind λb s2=>if b=true then (fe ρ' s2).bind λd s3=>.ok (some d) s3 else .ok none s2) (items.drop i) acc s).bind kR) Q2, ⟨items.length,Y1,s1,[],.refl stp.rep,zA.nil,_aT _,by simp,_aT _,by simpa using h1⟩,?_⟩;rintro i m ys H2 ⟨Y2,s2,acc,stp2,dn2,hcap,rfl,hil,h2⟩;have en2:vA (gm X) H2 Y2 ρ O:=(en.mono stp).mono stp2;by_cases hlt:i<items.length
 ·right;rw[_aV hlt,wo]at h2;split at h2
  ·rename_i hG;obtain⟨go,yl⟩:=((ok H2 Y2 s2 stp2 hG i).1 items[i] (_r hlt));refine⟨go,λx H' y=>?_⟩;obtain⟨Y3,stp3,dn3⟩:=yl x H' y;have h3:=okR.rebase h2 stp3;rw[assoc,assoc]at h3;have h4:=okR.bind (Dn:=vA (gm X)) h3;refine hg O H' Y3 ρ s2 x items[i] _ stp3.rep ((en2.mono stp3).inner) dn3 (h4.imp λO4 H4 ⟨Y4,s4,ρ4,stp4,en4,h5⟩=>?_);rw[assoc]at h5;refine⟨Y4,ρ4,s4,stp4.rep,en4,(okR.bind (Dn:=bD) h5).imp λbb H5 ⟨Y5,s5,b',stp5,eb,h6⟩=>?_⟩;cases (show b'=bb from eb);have all5:yA (gm X) H1 Y1 H5 Y5 s5:=((stp2.trans stp3).trans stp4).trans stp5;cases bb with
   | true=>
    rw[_g rfl]at h6 ⊢;rw[assoc]at h6;refine⟨Y5,ρ4,s5,stp5.rep,en4.mono stp5,(okR.bind (Dn:=Den (gm X)) h6).imp λy H6 ⟨Y6,s6,d6,stp6,dn6,h7⟩=>?_⟩;simp only[Rb]at h7;split at h7
    ·rename_i hc;have all6:=all5.trans stp6;have dny:zA (gm X) H6 Y6 acc ys:=(((dn2.mono stp3).mono stp4).mono stp5).mono stp6;refine⟨by rw[dn2.length];exact qi hcap,items.length-(i+1),by omega,Y6,s6,acc++[d6],all6,dny.append (zA.one dn6),by simp;omega,rfl,hlt,h7⟩
    ·exact h7.elim | false=>
    rw[_i (by decide)]at h6 ⊢;simp only[Rb]at h6;exact⟨items.length-(i+1),by omega,Y5,s5,acc,all5,((dn2.mono stp3).mono stp4).mono stp5,hcap,rfl,hlt,h6⟩
  ·exact h2.elim
 ·left;have e:i=items.length:=by omega
  subst e;rw[_cs,wo]at h2;split at h2
  ·rename_i hG;simp only[Rb]at h2;exact⟨(ok H2 Y2 s2 stp2 hG _).2 (_d _),by rw[dn2.length];exact qi hcap,fin H2 Y2 s2 acc ys stp2.rep en2 dn2 h2 hcap⟩
  ·exact h2.elim
def zF(fi:FI)(mp:List (Option Nat))(fg:FG)(ft:FT)(fe:FE):FE:=fun ρ s=>(z1F fi mp fg ft fe ρ s).bind λxs s1=>.ok (.lst xs) s1
def ub(fi:FI)(mp:List (Option Nat))(fg:FG)(ft:FT)(fe:FE):FE:=fun ρ s=>(z1F fi mp fg ft fe ρ s).bind λxs s1=>if D.flat.flats xs=true then .ok (.loc s1.length) (s1++[xs]) else .no
noncomputable def yr:FT:=λ_ s=>.ok true s
theorem yL{Yy:Cx}:z4Y Yy [] (tT (gm Yy) E yr):=λpins s O H Q I ⟨Y,ρ,st,r,en,h⟩=>zau pins s O H Q I (h.here (b:=true) r rfl)
theorem z2u{Yy:Cx}{f:FT}(h:RT Yy E c f):z4Y Yy [c] (tT (gm Yy) E f):=zaH h
section
variable {scope:Scope}{ifs:List Expr}{fi:FI}{fg:FG}{ft:FT}{fe:FE}{g:TG}{spos py:Pos}
theorem zdj(N':List Str)(mp:List (Option Nat))(hc:X.calm=true)(hi:RI X E tg iter fi)(hg:∀ex s H,PG (zk X N' scope ex s H) tg g)(hgt:z1M (gm X) E mp g fg)(ht:∀ex s H,z4Y (zk X N' scope ex s H) ifs (tT (gm X) E ft))(he:∀ex s H,RE (zk X N' scope ex s H) E elt fe) (hkd:scope.kind=.function)(hnm:∀y∈scope.names,scope.names.lookup y.1=some y.2) (hfr:∀y∈scope.names,y.2=.free->X.env.kindOf y.1=some .cell\/X.env.kindOf y.1=some .free)(hmp:z0j X.N scope.names N' mp=true) (hs:∀x,foldedSetIterable iter X.env x=pure x:=by intro _;rfl):RE X E (.ListComp elt [⟨tg,iter,ifs,0⟩] scope pos) (zF fi mp fg ft fe):= yy (z8o (te:=tE (gm X) E fe) N' mp hc hi hg ht (λex s H=>he ex s H) hkd hnm hfr hmp hs).freeze λO H Q ⟨Y,ρ,s,r,en,h⟩=> z0y hgt r en h λH1 Y1 s1 xs vs r1 en1 dn h1 hcap=>js r1 h1 dn
theorem z6J {i:Nat} {y:Str} (N':List Str) (mp:List (Option Nat)) (hN:X.N.Nodup) (hc:X.calm=true) (hi:RI X E tg iter fi) (hg:∀ex s H,PG (zk X N' scope ex s H) tg g) (hgt:z1M (gm X) E mp g fg) (ht:∀ex s H,z4Y (zk X N' scope ex s H) ifs (tT (gm X) E ft)) (he:∀ex s H,RE (zk X N' scope ex s H) E elt fe) (hkd:scope.kind=.function) (hnm:∀y∈scope.names,scope.names.lookup y.1=some y.2) (hfr:∀y∈scope.names,y.2=.free->X.env.kindOf y.1=some .cell\/X.env.kindOf y.1=some .free) (hmp:z0j X.N scope.names N' mp=true) (hy:X.N[i]? = some y:=by rfl) (hyl:Loc X.env.scope y:=by first | exact Or.inl rfl | exact Or.inr rfl) (hs:∀x,foldedSetIterable iter X.env x=pure x:=by intro _;rfl) (hsw:swapsWith (.ListComp elt [⟨tg,iter,ifs,0⟩] scope pos) (some (.Name y py)) spos.line X.env=pure true:=by rfl) (hf:X.fn y=true\/X.env.scope.names.lookup y=some .local:=by first | exact .inl rfl | exact .inr rfl | assumption): RS X E (.Assign [.Name y py] (.ListComp elt [⟨tg,iter,ifs,0⟩] scope pos) spos) (wq i (zF fi mp fg ft fe)):= vZ (z50 (te:=tE (gm X) E fe) N' mp hN hy hyl hc hi hg ht (λex s H=>he ex s H) hkd hnm hfr hmp hs hsw hf) λD O H ⟨Y,ρ,s,r,en,h⟩=>by
  have assoc:∀{α γ δ:Type} (x:R α) (f:α->Sto->R γ) (k:γ->Sto->R δ),(x.bind f).bind k=x.bind λa s=>(f a s).bind k:=λx f k=>by cases x<;>rfl
  unfold wq zF at h;rw[assoc]at h;refine z0y hgt r en h λH1 Y1 s1 xs vs r1 en1 dn h1 hcap p hp=>?_;refine js (E:=E) (mg:=gm X) (xs:=xs) r1 (λv H2 Y2 stp dn2=>?_) dn p hp;exact h1 (.nx (O.set i (some v))) H2 Y2 stp ((en1.mono stp).set dn2 i)
theorem z77{i:Nat}{y:Str}(N':List Str)(mp:List (Option Nat))(hN:X.N.Nodup)(hc:X.calm=true)(hi:RI X E tg iter fi)(hg:∀ex s H,PG (zk X N' scope ex s H) tg g)(hgt:z1M (gm X) E mp g fg)(ht:∀ex s H,z4Y (zk X N' scope ex s H) ifs (tT (gm X) E ft))(he:∀ex s H,RE (zk X N' scope ex s H) E elt fe) (hkd:scope.kind=.function)(hnm:∀y∈scope.names,scope.names.lookup y.1=some y.2) (hfr:∀y∈scope.names,y.2=.free->X.env.kindOf y.1=some .cell\/X.env.kindOf y.1=some .free)(hmp:z0j X.N scope.names N' mp=true)(hy:X.N[i]? = some y:=by rfl)(hyl:Loc X.env.scope y:=by first | exact Or.inl rfl | exact Or.inr rfl) (hs:∀x,foldedSetIterable iter X.env x=pure x:=by intro _;rfl) (hsw:swapsWith (.ListComp elt [⟨tg,iter,ifs,0⟩] scope pos) (some (.Name y py)) spos.line X.env=pure true:=by rfl) (hf:X.fn y=true\/X.env.scope.names.lookup y=some .local:=by first | exact .inl rfl | exact .inr rfl | assumption): RS X E (.Assign [.Name y py] (.ListComp elt [⟨tg,iter,ifs,0⟩] scope pos) spos) (wq i (ub fi mp fg ft fe)):= vZ (z73 (te:=tE (gm X) E fe) N' mp hN hy hyl hc hi hg ht (λex s H=>he ex s H) hkd hnm hfr hmp hs hsw hf) λD O H ⟨Y,ρ,s,r,en,h⟩=>by
  have assoc:∀{α γ δ:Type}(x:R α)(f:α->Sto->R γ)(k:γ->Sto->R δ),(x.bind f).bind k=x.bind λa s=>(f a s).bind k:=λx f k=>by cases x<;>rfl
  unfold wq ub at h;rw[assoc]at h;refine z0y hgt r en h λH1 Y1 s1 xs vs r1 en1 dn h1 hcap p hp=>?_;split at h1
  ·rename_i hf;have stp:=yA.layL (p:=p) r1 hp dn hf;refine h1 (.nx (O.set i (some (.ref p)))) _ _ stp ((en1.mono stp).set ?_ i);simp only[Den];exact⟨p,rfl,by rw[<- r1.len];simp,vs,zu⟩
  ·exact h1.elim
end
end
section
variable {X:Cx}{E:XK}{e a b c tg iter elt:Expr}{es:List Expr}{pos:Pos}{CX:CXT}{mp:List (Option Nat)}
def zbs(K:W.Frag)(i j:Nat):TG:=zhf K 2 (zcf (kW i) (zcf (kW j) zgY))
theorem z3g(i j:Nat){x y:Str}{px py:Pos}{kt:Nat}(hc:X.calm=true)(hN:X.N.Nodup)(hi:X.N[i]? = some x:=by rfl)(hj:X.N[j]? = some y:=by rfl)(hx:Loc X.env.scope x:=by first | exact Or.inl rfl | exact Or.inr rfl)(hy:Loc X.env.scope y:=by first | exact Or.inl rfl | exact Or.inr rfl) (hf:X.fn x=true\/X.env.scope.names.lookup x=some .local:=by first | exact .inl rfl | exact .inr rfl | assumption)(hf':X.fn y=true\/X.env.scope.names.lookup y=some .local:=by first | exact .inl rfl | exact .inr rfl | assumption): PG X (.Tuple [.Name x px,.Name y py] kt pos) (zbs X.K i j):=zeI hc (z6t (yk hN hi hx hf) (z6t (yk hN hj hy hf') zcB))
theorem z2m(i j:Nat)(hij:i≠j)(h:mp[i]? = some none)(h':mp[j]? = some none):z1M (gm X) E mp (zbs X.K i j) (kz i j):=λO H Y ρ s x d Q r en dn ok=>by
 unfold kz at ok;split at ok
 ·rename_i d1 d2;obtain⟨p,vs,rfl,q1,q2⟩:=jX (K:=X.K) dn;obtain⟨v1,v2,rfl,e1,e2⟩:=z6y q2;have k1:=z2t (v:=v1) (z17 h O);have own2:((inner mp O).set i (some v1))[j]? = some none:=by rw[_K hij];exact z17 h' O
  have k2:=z2t (v:=v2) own2;exact⟨p,[v1,v2],rfl,q1,rfl,v1,[v2],rfl,v2,[],rfl,rfl,⟨k2.1.trans k1.1,λl u e=>k2.2 l u (k1.2 l u e)⟩,okR.here ok r ((en.set e1 i).set e2 j)⟩
 ·exact ok.elim
end
noncomputable def zT(N:List Str)(ds:List D):Ev:=ds.map some++List.replicate (N.length-ds.length) none
theorem z2c{mg:Gm}{H:Hp}{Y:List Addr}{N:List Str}:∀{ds:List D}{vs:List V},zA mg H Y ds vs->vA mg H Y (zT N ds) (L2.start N vs):=λ{ds vs} h=>by
 have hl:=h.length;refine⟨by simp[zT,L2.start,hl],λi d e=>?_⟩;unfold zT at e;have hi:i<ds.length:=by
  by_cases hi:i<ds.length;·exact hi
  ·rw[_v (by simpa using hi),List.getElem?_replicate]at e;split at e<;>cases e
 rw[_B (by simpa using hi),_O]at e;have e':ds[i]? = some d:=by cases q:ds[i]? with
  | none=>rw[q]at e;cases e | some x=>rw[q]at e;simp at e;rw[e]
 obtain⟨v,h1,h2⟩:=h.get e';refine⟨v,?_,h2⟩;unfold L2.start;rw[_B (by simpa[hl] using hi),_O,h1];rfl
noncomputable def Mof(N:List Str)(n:Nat)(fs:FS):Mir:=λds s=>if ds.length=n then (match fs (zT N ds) s with
 | .ok (.rt d) s'=>.ok d s' | .ok (.nx _) s'=>.ok .non s' | _=>.no) else .no
section
variable {P:Program}{w:World}{K:W.Frag}{mg:Str->Option Value}{base:Heap}
theorem Has.mono{CX:CXT}{x:Str}{n m:Nat}{M:Mir}(h:Has P w K mg base CX x n M)(hl:n<=m):Has P w K mg base CX x m M:=by
 obtain⟨f,fd,ps,F,r⟩:=h;exact⟨f,fd,ps,F.mono hl,r⟩
theorem yI{x qual:Str}{st:Stmt}{f:Addr}{fd:FuncData}{N ps:List Str}{k n:Nat}{fs:FS}(F:Fun K x qual st f fd)(hm:mg x=some (.ref f))(hb:Binds K fd ps [])(S:zN N ps (zm st))(hn:ps.length=n) (body:∀(cdv:Value)(A:Around)(outer:List Env)(s:Shared)(H:Hp)(E:XK),z1D k (A.deeper (envOfC qual (zm st) s.heap.objs.size f cdv))->(z9v CX0 P w K mg base N qual (zm st) f cdv A outer s H E).nox.calm=true-> RSs (z9v CX0 P w K mg base N qual (zm st) f cdv A outer s H E).nox E0 (uQ st) fs):Has P w K mg base CX0 x (k+1) (Mof N n fs):=by
 subst hn;refine⟨f,fd,ps,F.ok S (λvs H Q E h=>?_) (λcdv A outer s H vs Q E hr h=>?_),hb,F.kp,hm⟩
 ·obtain⟨Y,s,ds,_,dn,h⟩:=h;unfold Mof at h;split at h;·rename_i e;rw[dn.length];exact e
  ·exact h.elim
 ·obtain⟨Y,st0,ds,r,dn,h⟩:=h;refine⟨_,body cdv A outer s H E hr (by show A.handled.isNone=true;rw[show A.handled=none from hr.hd];rfl),Y,zT N ds,st0,r,z2c dn,?_⟩;unfold Mof at h;split at h
  ·split at h
   ·rename_i d s' e;rw[e];intro fv H' Y' stp fd;cases fv with
    | rt v=>exact h v H' Y' stp fd | _=>exact (show False from fd).elim
   ·rename_i ρ s' e;rw[e];intro fv H' Y' stp fd;cases fv with
    | nx v=>exact h .non H' Y' stp (by simp[Den]) | _=>exact (show False from fd).elim
   ·exact h.elim
  ·exact h.elim
theorem zeZ{x qual:Str}{st:Stmt}{f:Addr}{fd:FuncData}{ps:List Str}(F:Fun K x qual st f fd)(hm:mg x=some (.ref f))(hb:Binds K fd ps []):Has P w K mg base CX0 x 0 (λ_ _=>.no):= ⟨f,fd,ps,⟨λvs H Q E h=>by obtain⟨_,_,_,_,_,h⟩:=h;exact h.elim,λA outer s H args us vs Q E _ _ _ _ h=>by obtain⟨_,_,_,_,_,h⟩:=h;exact h.elim⟩,hb,F.kp,hm⟩
end
def zcm(K:W.Frag):Sp:=λvs H Q _=>∃(a:Addr)(ns:List Int),vs=[.ref a]/\zgp H/\SqL K H a (ns.map V.int)/\ns.length<=63/\∀H',Q (.bl true) H'
theorem qA{mg:Gm}{H:Hp}{Y:List Addr}:∀(ns:List Int),zA mg H Y (ns.map D.int) (ns.map V.int)
 | []=>zA.nil | n::ns=>zA.cons xE (qA ns)
theorem zfb{P:Program}{w:World}{K:W.Frag}{mg:Str->Option Value}{base:Heap}{x:Str}{n:Nat}{M:Mir}{f:Addr}{fd:FuncData}{ps:List Str}(F:z3J P w K mg base CX0 n f fd ps (zbL ⟨mg,K⟩ M)) (h:∀ns:List Int,ns.length<=63->∃s',M [.scr (ns.map D.int)] []=.ok (.bl true) s'):z3J P w K mg base CX0 n f fd ps (zcm K):= F.imp λvs H Q E ⟨a,ns,e,ho,hq,hl,q⟩=>by
  subst e;obtain⟨s',hs⟩:=h ns hl;refine⟨[],[],[.scr (ns.map D.int)],⟨rfl,List.nodup_nil,λl xs z=>by simp at z,λxs z=>by simp at z,λb h z=>by simp at z,λa ha=>by simp at ha⟩,zA.one ?_,?_⟩
  ·simp only[Den];refine⟨a,ns.map V.int,rfl,?_,qA ns⟩;rcases hq with (z | z) | z
   ·rcases ho a with y | ⟨o,xs,y⟩;·rw[y]at z;cases z
    ·rw[y]at z;cases z
   ·exact .inl z
   ·exact .inr z
  ·rw[hs];intro v H' Y' stp dn;cases jI dn;exact q H'
section
variable {X:Cx}{E:XK}{e a b c tg iter elt:Expr}{es:List Expr}{pos:Pos}{CX:CXT}
noncomputable def z7l(f:FE):FE:=fun ρ s=>(f ρ s).bind λd s1=>match d with | .int i=>.ok (.int (-i)) s1 | _=>.no
theorem z86{f:FE}(h:RE X E a f):RE X E (.UnaryOp .USub a pos) (z7l f):= yy (zgq zdZ h) λO H Q ⟨Y,ρ,s,r,en,h⟩=>by
  refine yK (k:=fun ρ d s1=>match d with | .int i=>R.ok (D.int (-i)) s1 | _=>.no) r en h _ λv H1 Y1 s1 d r1 en1 dn stp h1=>?_;cases d with
  | int i=>
   cases yj dn;exact⟨i,rfl,okR.here (b:=V.int (-i)) h1 r1 xE⟩ | _=>exact h1.elim
noncomputable def qY(i:Int)(n:Nat):List D:=(List.range n).map λ(k:Nat)=>D.int (i+((k:Nat):Int))
noncomputable def z54(f:FA):FI:=fun ρ s=>(f ρ s).bind λds s1=>match ds with
 | [.int i,.int j]=>if -(2 ^ 62)<=i/\i<2 ^ 62/\-(2 ^ 62)<=j/\j<2 ^ 62 then .ok (qY i (j-i).toNat,[]) s1 else .no | _=>.no
theorem z69{p:Pos}{f:FA}(hg:Gl X "range")(hm:X.mg "range"=none)(ha:RA X E [a,b] f)(hs:starEach [a,b] X.env=[(false,eval a X.env),(false,eval b X.env)]:=by rfl)(hs2:starEach [b] X.env=[(false,eval b X.env)]:=by rfl):RI X E tg (.Call (.Name "range" p) [a,b] [] pos) (z54 f):= z5E (z8a hg hm ha hs hs2) λO H Q ⟨Y,ρ,s,r,en,h⟩=>by
  unfold z54 at h;refine⟨Y,ρ,s,r,en,(okR.bind (Dn:=zA (gm X)) h).imp λvs H1 ⟨Y1,s1,ds,stp,dn,h1⟩=>?_⟩;split at h1
  ·rename_i i j;split at h1
   ·rename_i hj;obtain⟨v,v',rfl,d1,d2⟩:=z6y dn;cases yj d1;cases yj d2;refine⟨i,j,rfl,hj,h1.here stp.rep λH2 Y2 s2 stp2 _ k=>⟨λd hd=>?_,λhl=>?_⟩⟩
    ·have hi:k<(j-i).toNat:=by
      have:=(_b.mp hd).1;simpa[qY] using this
     refine⟨hi,λx H' ⟨e1,e2⟩=>?_⟩;subst e1 e2;refine⟨Y2,.refl stp2.rep,?_⟩;have e3:d=D.int (i+k):=by
      simp only[qY,_O,_cK hi,_aS,_M]at hd;exact hd.symm
     rw[e3];exact xE
    ·have:(qY i (j-i).toNat).length=(j-i).toNat:=by simp[qY]
     show (j-i).toNat<=k;rw[<- this];exact hl
   ·exact h1.elim
  ·exact h1.elim
end
noncomputable def isK(o:Option NameKind)(k:NameKind):Bool:=match o,k with
 | some .local,.local=>true | some .cell,.cell=>true | some .free,.free=>true | some .globalImplicit,.globalImplicit=>true | _,_=>false
theorem z8u{o:Option NameKind}{k:NameKind}(h:isK o k=true):o=some k:=by cases o with
 | none=>cases k<;>simp[isK]at h | some j=>cases j<;>cases k<;>first | rfl | simp[isK]at h
noncomputable def isF(k:NameKind):Bool:=match k with | .free=>true | _=>false
theorem zdJ{k:NameKind}(h:k=.free):isF k=true:=by subst h;rfl
noncomputable def z7a(ko:Str->Option NameKind)(names:List (Str×NameKind)):Bool:=names.all λy=>!isF y.2||(isK (ko y.1) .cell||isK (ko y.1) .free)
theorem jw{ko:Str->Option NameKind}{names:List (Str×NameKind)}(h:z7a ko names=true):∀y∈names,y.2=.free->ko y.1=some .cell\/ko y.1=some .free:=λy hy hf=>by
 have:=_ab.mp h y hy;rw[zdJ hf]at this;simp only[_bX,Bool.false_or,Bool.or_eq_true]at this;exact this.imp z8u z8u
noncomputable def z6E(names:List (Str×NameKind)):Bool:=names.all λy=>isK (names.lookup y.1) y.2
theorem jO{names:List (Str×NameKind)}(h:z6E names=true):∀y∈names,names.lookup y.1=some y.2:=λy hy=>by
 have:=_ab.mp h y hy;exact z8u this
section
variable {X:Cx}{E:XK}{e a b c tg iter elt:Expr}{es:List Expr}{pos:Pos}{CX:CXT}
variable {scope:Scope}{ifs:List Expr}{fi:FI}{fg:FG}{ft:FT}{fe:FE}{g:TG}{spos py:Pos}
theorem zgC{x:Str}{i:Int}(hg:Gl X x)(hm:∃t,X.mg x=some (.int i t))(hd:(x==("__debug__":Str))=false:=by decide):RE X E (.Name x pos) (eC (.int i)):=let ⟨_,h⟩:=hm;zeB hg h hd
theorem xr(N':List Str)(mp:List (Option Nat))(hc:X.calm=true)(hi:RI X E tg iter fi)(hg:∀ex s H,PG (zk X N' scope ex s H) tg g)(hgt:z1M (gm X) E mp g fg)(ht:∀ex s H,z4Y (zk X N' scope ex s H) ifs (tT (gm X) E ft))(he:∀ex s H,RE (zk X N' scope ex s H) E elt fe) (hkd:scope.kind=.function:=by rfl)(hnm:z6E scope.names=true:=by rfl)(hfr:z7a X.env.kindOf scope.names=true:=by rfl)(hmp:z0j X.N scope.names N' mp=true:=by rfl) (hs:∀x,foldedSetIterable iter X.env x=pure x:=by intro _;rfl):RE X E (.ListComp elt [⟨tg,iter,ifs,0⟩] scope pos) (zF fi mp fg ft fe):= zdj N' mp hc hi hg hgt ht he hkd (jO hnm) (jw hfr) hmp hs
theorem z7U(i:Nat){y:Str}(N':List Str)(mp:List (Option Nat))(hN:X.N.Nodup)(hc:X.calm=true)(hi:RI X E tg iter fi)(hg:∀ex s H,PG (zk X N' scope ex s H) tg g)(hgt:z1M (gm X) E mp g fg)(ht:∀ex s H,z4Y (zk X N' scope ex s H) ifs (tT (gm X) E ft))(he:∀ex s H,RE (zk X N' scope ex s H) E elt fe) (hkd:scope.kind=.function:=by rfl)(hnm:z6E scope.names=true:=by rfl)(hfr:z7a X.env.kindOf scope.names=true:=by rfl)(hmp:z0j X.N scope.names N' mp=true:=by rfl)(hy:X.N[i]? = some y:=by rfl)(hyl:Loc X.env.scope y:=by first | exact Or.inl rfl | exact Or.inr rfl) (hs:∀x,foldedSetIterable iter X.env x=pure x:=by intro _;rfl) (hsw:swapsWith (.ListComp elt [⟨tg,iter,ifs,0⟩] scope pos) (some (.Name y py)) spos.line X.env=pure true:=by rfl) (hf:X.fn y=true\/X.env.scope.names.lookup y=some .local:=by first | exact .inl rfl | exact .inr rfl | assumption): RS X E (.Assign [.Name y py] (.ListComp elt [⟨tg,iter,ifs,0⟩] scope pos) spos) (wq i (zF fi mp fg ft fe)):= z6J N' mp hN hc hi hg hgt ht he hkd (jO hnm) (jw hfr) hmp hy hyl hs hsw hf
theorem zcy(i:Nat){y:Str}(N':List Str)(mp:List (Option Nat))(hN:X.N.Nodup)(hc:X.calm=true)(hi:RI X E tg iter fi)(hg:∀ex s H,PG (zk X N' scope ex s H) tg g)(hgt:z1M (gm X) E mp g fg)(ht:∀ex s H,z4Y (zk X N' scope ex s H) ifs (tT (gm X) E ft))(he:∀ex s H,RE (zk X N' scope ex s H) E elt fe) (hkd:scope.kind=.function:=by rfl)(hnm:z6E scope.names=true:=by rfl)(hfr:z7a X.env.kindOf scope.names=true:=by rfl)(hmp:z0j X.N scope.names N' mp=true:=by rfl)(hy:X.N[i]? = some y:=by rfl)(hyl:Loc X.env.scope y:=by first | exact Or.inl rfl | exact Or.inr rfl) (hs:∀x,foldedSetIterable iter X.env x=pure x:=by intro _;rfl) (hsw:swapsWith (.ListComp elt [⟨tg,iter,ifs,0⟩] scope pos) (some (.Name y py)) spos.line X.env=pure true:=by rfl) (hf:X.fn y=true\/X.env.scope.names.lookup y=some .local:=by first | exact .inl rfl | exact .inr rfl | assumption): RS X E (.Assign [.Name y py] (.ListComp elt [⟨tg,iter,ifs,0⟩] scope pos) spos) (wq i (ub fi mp fg ft fe)):= z77 N' mp hN hc hi hg hgt ht he hkd (jO hnm) (jw hfr) hmp hy hyl hs hsw hf
end
theorem zdR{P:Program}{w:World}{K:W.Frag}{mg:Str->Option Value}{base:Heap}{x qual:Str}{st:Stmt}{f:Addr}{fd:FuncData}{N ps:List Str}{k n:Nat}{fs:FS}(F:Fun K x qual st f fd)(S:zN N ps (zm st))(hn:ps.length=n) (body:∀(cdv:Value)(A:Around)(outer:List Env)(s:Shared)(H:Hp)(E:XK),z1D k (A.deeper (envOfC qual (zm st) s.heap.objs.size f cdv))->(z9v CX0 P w K mg base N qual (zm st) f cdv A outer s H E).nox.calm=true-> RSs (z9v CX0 P w K mg base N qual (zm st) f cdv A outer s H E).nox E0 (uQ st) fs):z3J P w K mg base CX0 (k+1) f fd ps (zbL ⟨mg,K⟩ (Mof N n fs)):=by
 subst hn;refine F.ok S (λvs H Q E h=>?_) (λcdv A outer s H vs Q E hr h=>?_)
 ·obtain⟨Y,s,ds,_,dn,h⟩:=h;unfold Mof at h;split at h;·rename_i e;rw[dn.length];exact e
  ·exact h.elim
 ·obtain⟨Y,st0,ds,r,dn,h⟩:=h;refine⟨_,body cdv A outer s H E hr (by show A.handled.isNone=true;rw[show A.handled=none from hr.hd];rfl),Y,zT N ds,st0,r,z2c dn,?_⟩;unfold Mof at h;split at h
  ·split at h
   ·rename_i d s' e;rw[e];intro fv H' Y' stp fd;cases fv with
    | rt v=>exact h v H' Y' stp fd | _=>exact (show False from fd).elim
   ·rename_i ρ s' e;rw[e];intro fv H' Y' stp fd;cases fv with
    | nx v=>exact h .non H' Y' stp (by simp[Den]) | _=>exact (show False from fd).elim
   ·exact h.elim
  ·exact h.elim
section
variable {all xs:List D}{ρ:Ev}{s:Sto}
theorem z3b{body:D->Ev->Sto->R Fl}(I:Ev->Sto->Prop):∀(xs:List D),(∀x∈xs,∀ ρ s,I ρ s->∃ ρ' s',body x ρ s=.ok (.nx ρ') s'/\I ρ' s')->∀ ρ s,I ρ s->∃ ρ' s',uP [] all body xs ρ s=.ok (.nx ρ') s'/\I ρ' s'
 | [],_,ρ,s,h=>⟨ρ,s,by simp[uP,okG],h⟩ | x::xs,hb,ρ,s,h=>by
  obtain⟨ρ1,s1,e1,h1⟩:=hb x (by simp) ρ s h;obtain⟨ρ2,s2,e2,h2⟩:=z3b I xs (λy hy=>hb y (by simp[hy])) ρ1 s1 h1;exact⟨ρ2,s2,by simp[uP,okG,e1,e2],h2⟩
theorem z40{body:D->Sto->R (Option D)}(f:D->D):∀(xs acc:List D),(∀x∈xs,body x s=.ok (some (f x)) s)->acc.length+xs.length<=cap->wo [] all body xs acc s=.ok (acc++xs.map f) s
 | [],acc,_,_=>by simp[wo,okG] | x::xs,acc,hb,hl=>by
  have ih:=z40 f xs (acc++[f x]) (λy hy=>hb y (by simp[hy])) (by simp at hl ⊢;omega);have hc:acc.length<cap:=by simp at hl;omega
  rw[wo];simp[okG,hb x (by simp),hc,ih]
end
section
variable (i j k n:Nat)(ρ:Ev)(s:Sto)(f g fa fb fc:FE)(d x y:D)(ds:List D)(ar:FA)(op op':D->D->Sto->R D)(ft ft':FT)(fs fs':FS)(M:Mir)(T:String)(fl fh fo:FO)(fi:FI)(fg:FG)(mp:List (Option Nat))(N:List Str)
@[simp] theorem zb9:zd i ρ s=(match ρ[i]? with | some (some d)=>.ok d s | _=>.no):=id rfl
@[simp] theorem zd1:eC d ρ s=.ok d s:=id rfl
@[simp] theorem z3E:eOp op fa fb ρ s=(fa ρ s).bind λx s1=>(fb ρ s1).bind λy s2=>op x y s2:=id rfl
@[simp] theorem vv:ze M ar ρ s=(ar ρ s).bind λxs s1=>M xs s1:=id rfl
@[simp] theorem yq:zi ρ s=.ok [] s:=id rfl
@[simp] theorem zo:za f ar ρ s=(f ρ s).bind λx s1=>(ar ρ s1).bind λxs s2=>.ok (x::xs) s2:=id rfl
@[simp] theorem qL:jo ar ρ s=(ar ρ s).bind λxs s1=>if xs.length<=cap then .ok (.tup xs) s1 else .no:=id rfl
@[simp] theorem z1c:z3I ar ρ s=(ar ρ s).bind λxs s1=>if xs.length<=cap then .ok (.lst xs) s1 else .no:=id rfl
@[simp] theorem z4C:za1 ar ρ s=(ar ρ s).bind λxs s1=>if xs.length<=cap/\D.flat.flats xs=true then .ok (.loc s1.length) (s1++[xs]) else .no:=id rfl
@[simp] theorem zhQ:eIs T f ρ s=(f ρ s).bind λd s1=>gIs T d s1:=id rfl
@[simp] theorem z5M:z7l f ρ s=(f ρ s).bind λd s1=>match d with | .int i=>.ok (.int (-i)) s1 | _=>.no:=id rfl
@[simp] theorem zgI:zfv f ρ s=(f ρ s).bind λx s1=>match x with | .bl k=>.ok (.bl (!k)) s1 | _=>.no:=id rfl
@[simp] theorem z6p:z1N fa fb ρ s=(fa ρ s).bind λx s1=>match x with | .bl true=>fb ρ s1 | .bl false=>.ok (.bl false) s1 | _=>.no:=id rfl
@[simp] theorem z97:eSl f fl fh ρ s=(f ρ s).bind λx s1=>(fl ρ s1).bind λlo s2=>(fh ρ s2).bind λhi s3=>dSl x lo hi s3:=id rfl
@[simp] theorem z15:xK ρ s=.ok none s:=id rfl
@[simp] theorem z1d:qw f ρ s=(f ρ s).bind λd s1=>match d with | .int i=>.ok (some i) s1 | _=>.no:=id rfl
@[simp] theorem zfe:tOf f ρ s=(f ρ s).bind λd s1=>match d with | .bl k=>.ok k s1 | _=>.no:=id rfl
@[simp] theorem zhN:fOr ft ft' ρ s=(ft ρ s).bind λx s1=>if x=true then .ok true s1 else ft' ρ s1:=id rfl
@[simp] theorem zbx:z74 ft ρ s=(ft ρ s).bind λx s1=>.ok (!x) s1:=id rfl
@[simp] theorem zfn:z6w op op' fa fb fc ρ s=(fa ρ s).bind λx s1=>(fb ρ s1).bind λy s2=>(op x y s2).bind λz s3=>match z with
 | .bl true=>(fc ρ s3).bind λw s4=>op' y w s4 | .bl false=>.ok (.bl false) s3 | _=>.no:=id rfl
@[simp] theorem zgM:zM fs fs' ρ s=(fs ρ s).bind λfl s1=>match fl with | .nx ρ'=>fs' ρ' s1 | fl=>.ok fl s1:=id rfl
@[simp] theorem zg2:vf ρ s=.ok (.nx ρ) s:=id rfl
@[simp] theorem zhM:fNo ρ s=.no:=id rfl
@[simp] theorem jj:jf f ρ s=(f ρ s).bind λ_ s1=>.ok (.nx ρ) s1:=id rfl
@[simp] theorem xH:wN f ρ s=(f ρ s).bind λd s1=>.ok (.rt d) s1:=id rfl
@[simp] theorem z45:fIf ft fs fs' ρ s=(ft ρ s).bind λx s1=>if x=true then fs ρ s1 else fs' ρ s1:=id rfl
@[simp] theorem yh:wq i f ρ s=(f ρ s).bind λd s1=>.ok (.nx (ρ.set i (some d))) s1:=id rfl
@[simp] theorem zaU:zfs i j ar ρ s=(ar ρ s).bind λds s1=>match ds with | [x,y]=>.ok (.nx ((ρ.set i (some x)).set j (some y))) s1 | _=>.no:=id rfl
@[simp] theorem qa:yJ i d ρ s=.ok (ρ.set i (some d)) s:=id rfl
@[simp] theorem zfB:kz i j (.tup [x,y]) ρ s=.ok ((ρ.set i (some x)).set j (some y)) s:=id rfl
@[simp] theorem zcz:z4g fa fb fc ρ s=(fc ρ s).bind λd s1=>(fa ρ s1).bind λo s2=>(fb ρ s2).bind λi s3=>match o,i with
 | .loc l,.int k=>match s3[l]? with
  | some xs=>match ixN xs.length k with
   | some j=>if d.flat=true then .ok (.nx ρ) (s3.set l (xs.set j d)) else .no | none=>.no
  | none=>.no
 | _,_=>.no:=id rfl
@[simp] theorem z0S:zR f ρ s=(f ρ s).bind λd s1=>match d with
 | .tup xs=>.ok (xs,[]) s1 | .lst xs=>.ok (xs,[]) s1 | .loc l=>match s1[l]? with | some xs=>.ok (xs,[(l,xs)]) s1 | none=>.no
 | _=>.no:=id rfl
@[simp] theorem zew:z6F ar ρ s=(ar ρ s).bind λds s1=>match ds with
 | [.int j]=>if -(2 ^ 62)<=j/\j<2 ^ 62 then .ok (vO j.toNat,[]) s1 else .no | _=>.no:=id rfl
@[simp] theorem z8f:z54 ar ρ s=(ar ρ s).bind λds s1=>match ds with
 | [.int i,.int j]=>if -(2 ^ 62)<=i/\i<2 ^ 62/\-(2 ^ 62)<=j/\j<2 ^ 62 then .ok (qY i (j-i).toNat,[]) s1 else .no | _=>.no:=id rfl
@[simp] theorem zh0:z7d ar ρ s=(ar ρ s).bind λds s1=>match ds with
 | [x,y]=>match za8 s1 x,za8 s1 y with
  | some p,some q=>.ok (z3K p.1 q.1,p.2++q.2) s1 | _,_=>.no
 | _=>.no:=id rfl
@[simp] theorem qb:z4R fi fg fs ρ s=(fi ρ s).bind λit s1=>uP it.2 it.1 (λd ρ s=>(fg d ρ s).bind fun ρ' s'=>fs ρ' s') it.1 ρ s1:=id rfl
@[simp] theorem jl:z1F fi mp fg ft f ρ s=(fi ρ s).bind λit s1=>wo it.2 it.1 (λd s=>(fg d (yi mp ρ) s).bind fun ρ' s'=>(ft ρ' s').bind λb s2=>if b=true then (f ρ' s2).bind λd s3=>.ok (some d) s3 else .ok none s2) it.1 [] s1:=id rfl
@[simp] theorem uj:zF fi mp fg ft f ρ s=(z1F fi mp fg ft f ρ s).bind λxs s1=>.ok (.lst xs) s1:=id rfl
@[simp] theorem z9z:ub fi mp fg ft f ρ s=(z1F fi mp fg ft f ρ s).bind λxs s1=>if D.flat.flats xs=true then .ok (.loc s1.length) (s1++[xs]) else .no:=id rfl
@[simp] theorem zgm:yr ρ s=.ok true s:=id rfl
@[simp] theorem zfh:zd2 fa fb ρ s=(fa ρ s).bind λo s1=>match o with
 | .loc l=>(fb ρ s1).bind λd s2=>match s2[l]? with
  | some xs=>if d.flat=true/\xs.length<cap then .ok .non (s2.set l (xs++[d])) else .no | none=>.no
 | _=>.no:=id rfl
@[simp] theorem zaT:yi [] ρ=[]:=id rfl
@[simp] theorem zcZ:yi (some i::mp) ρ=(ρ[i]?).getD none::yi mp ρ:=id rfl
@[simp] theorem zd0:yi (none::mp) ρ=none::yi mp ρ:=id rfl
variable (a b:Int)(u v:Bool)(xs ys:List D)
@[simp] theorem z21:jp (.int a) (.int b) s=.ok (.int (a+b)) s:=rfl
@[simp] theorem z60:jp (.tup xs) (.tup ys) s=if xs.length+ys.length<=cap then .ok (.tup (xs++ys)) s else .no:=rfl
@[simp] theorem zh4:jp (.lst xs) (.lst ys) s=if xs.length+ys.length<=cap then .ok (.lst (xs++ys)) s else .no:=rfl
@[simp] theorem uv:jn (.int a) (.int b) s=.ok (.int (a-b)) s:=rfl
theorem zaQ:uN (.int a) (.int b) s=if a.natAbs<BIG/\b.natAbs<BIG then .ok (.int (a*b)) s else .no:=by
 simp only[uN,dII,iOk];split<;>(rename_i h;split at h<;>simp_all)
theorem zcj:z47 (.int a) (.int b) s=if 0<b/\b.natAbs<BIG then .ok (.int (a / b)) s else .no:=by
 simp only[z47,dII,iOk];split<;>(rename_i h;split at h<;>simp_all)
theorem zdm:z7t (.int a) (.int b) s=if 0<b then .ok (.int (a % b)) s else .no:=by
 simp only[z7t,dII,iOk];split<;>(rename_i h;split at h<;>simp_all)
theorem zeD:zd3 (.int a) (.int b) s=if 0<=b/\b<=1000/\a.natAbs<1000 then .ok (.int (a ^ b.toNat)) s else .no:=by
 simp only[zd3,dII,iOk];split<;>(rename_i h;split at h<;>simp_all)
@[simp] theorem zhn:dLt (.int a) (.int b) s=.ok (.bl (decide (a<b))) s:=rfl
@[simp] theorem zhJ:dLe (.int a) (.int b) s=.ok (.bl (decide (a<=b))) s:=rfl
@[simp] theorem zbJ:dGt (.int a) (.int b) s=.ok (.bl (decide (b<a))) s:=rfl
@[simp] theorem zhy:dGe (.int a) (.int b) s=.ok (.bl (decide (b<=a))) s:=rfl
@[simp] theorem z10:dEq (.int a) (.int b) s=.ok (.bl (decide (a=b))) s:=by
 have:eqD (.int a) (.int b)=decide (a=b):=by
  simp only[eqD,ut,PyData.eqv];rw[Bool.eq_iff_iff];simp
 rw[dEq,this];rfl
@[simp] theorem zht:dNe (.int a) (.int b) s=.ok (.bl (decide (a≠b))) s:=by
 have:eqD (.int a) (.int b)=decide (a=b):=by
  simp only[eqD,ut,PyData.eqv];rw[Bool.eq_iff_iff];simp
 rw[dNe,this,_g (by constructor<;>rfl)];simp
@[simp] theorem zhD:dEq (.bl u) (.bl v) s=.ok (.bl (u==v)) s:=by cases u<;>cases v<;>rfl
@[simp] theorem zhA:dNe (.bl u) (.bl v) s=.ok (.bl (u != v)) s:=by cases u<;>cases v<;>rfl
end
theorem zr{f g:FS}{ρ ρ':Ev}{s s':Sto}(h:f ρ s=.ok (.nx ρ') s'):zM f g ρ s=g ρ' s':=by simp[h]
theorem zbk{f g:FS}{ρ:Ev}{s s':Sto}{d:D}(h:f ρ s=.ok (.rt d) s'):zM f g ρ s=.ok (.rt d) s':=by simp[h]
theorem wL{all:List D}{body:D->Ev->Sto->R Fl}(I:Nat->Ev->Sto->Prop):∀(xs:List D)(k:Nat),(∀j x,xs[j]? = some x->∀ ρ s,I (k+j) ρ s->∃ ρ' s',body x ρ s=.ok (.nx ρ') s'/\I (k+j+1) ρ' s')-> ∀ ρ s,I k ρ s->∃ ρ' s',uP [] all body xs ρ s=.ok (.nx ρ') s'/\I (k+xs.length) ρ' s'
 | [],k,_,ρ,s,h=>⟨ρ,s,by simp[uP,okG],h⟩ | x::xs,k,hb,ρ,s,h=>by
  obtain⟨ρ1,s1,e1,h1⟩:=hb 0 x (by simp) ρ s h;obtain⟨ρ2,s2,e2,h2⟩:=wL (all:=all) I xs (k+1) (λj y hy ρ s hi=>by
   have e:k+1+j=k+(j+1):=by omega
   rw[e]at hi ⊢;exact hb (j+1) y (by simpa using hy) ρ s hi) ρ1 s1 h1;refine⟨ρ2,s2,by simp[uP,okG,e1,e2],?_⟩;have e:k+(x::xs).length=k+1+xs.length:=by simp;omega
  rw[e];exact h2
theorem z4x{n j:Nat}{x:D}(h:(vO n)[j]? = some x):j<n/\x=.int j:=by
 have hj:j<n:=by
  have:=(_b.mp h).1;simpa[vO] using this
 refine⟨hj,?_⟩;simp only[vO,_O,_cK hj,_aS,_M]at h;exact h.symm
theorem z79 {n:Nat} {x:D} (h:x∈vO n):∃j:Nat,j<n/\x=.int j:=by
 obtain⟨j,hj,e⟩:=_ah.mp h;have:=z4x (n:=n) (j:=j) (x:=x) (by rw[_r hj,e]);exact⟨j,this.1,this.2⟩
theorem wZ:∀(ns:List Int),D.flat.flats (ns.map D.int)=true
 | []=>rfl | n::ns=>by simp[D.flat.flats,D.flat,wZ ns]
theorem z0n(i:Int):(D.int i).flat=true:=rfl
theorem vh:∀{xs:List D}{d:D},D.flat.flats xs=true->d∈xs->d.flat=true
 | x::xs,d,f,h=>by
  simp only[D.flat.flats,_u]at f;rcases _j.mp h with rfl | h;·exact f.1
  ·exact vh f.2 h
theorem uE.flatten{mg:Gm}{H H':Hp}{Y Y':List Addr}{ys:List D}{c:Addr}(k:∀b o,H b=some o->(∀vs,o≠.lst vs)->(∀kvs,o≠.dT kvs)->(∀kvs,kvs≠[]->o≠.dK kvs)->H' b=some o)(f:D.flat.flats ys=true)(e:H' c=H c)(ha:c∈Y)(ro:∀b,Own H Y b->b∉Y)(w:∀b vs,b∉Y->H b=some (.lst vs)->H' b=some (.lst vs))(h:uE mg H Y ys c):uE mg H' Y' ys c:=by
 rcases h with⟨vs,h1,h2⟩ | ⟨kvs,h1,h2⟩ | ⟨o,kvs,ys,h1,h2⟩ | ⟨kvs,g,h1,h2⟩ | ⟨o,kvs,ys,h1,e1,h2,fz⟩;·exact .inl ⟨vs,e.trans h1,h2.flatten k f⟩
 ·exact .inr (.inl ⟨kvs,e.trans h1,h2⟩)
 ·exact .inr (.inr (.inl ⟨o,kvs,ys,e.trans h1,h2⟩))
 ·refine .inr (.inr (.inr (.inl ⟨kvs,g,e.trans h1,h2.imp (λzs vs k' hm q=>q.flatten k ?_) (λq b vs hm=>w b vs (ro b ⟨c,ha,kvs,q,h1,hm⟩)) λb o vs q=>k b _ q (by intro vs z;cases z) (by intro vs z;cases z) (by intro vs g z;cases z)⟩)));rcases hm with hm | hm
  ·have:=vh f hm;simp only[D.flat,D.flat.flats,_bG,_bH]at this;exact this
  ·have:=vh f hm;simp only[D.flat,D.flat.flats,_bG,_bH]at this;exact this
 ·subst e1;have f:D.flat.flats ys=true:=by simpa[D.flat.flats,D.flat] using f
  refine .inr (.inr (.inr (.inr ⟨o,kvs,ys,e.trans h1,rfl,h2.imp (λzs vs k' hm q=>q.flatten k ?_) (λq b vs hm z=>(h2.fz fz.1 hm z).elim) λb o vs q=>k b _ q (by intro vs z;cases z) (by intro vs z;cases z) (by intro vs g z;cases z),fz⟩)));rcases hm with hm | hm
  ·have:=vh f hm;simp only[D.flat,D.flat.flats,_bG,_bH]at this;exact this
  ·have:=vh f hm;simp only[D.flat,D.flat.flats,_bG,_bH]at this;exact this
end Dd
namespace Zz
open PySem.AutoSeq1 (wpAny_loadPart')
end Zz
namespace L2
open Zz
theorem z11(ns:List Int):∀n,n<=ns.length->preSum (λi=>ns.getD i 0) n=(ns.take n).sum
 | 0,_=>by simp[preSum] | n+1,h=>by
  rw[preSum,z11 ns n (by omega),<- List.take_append_getElem (show n<ns.length by omega),List.sum_append];have e:ns.getD n 0=ns[n]:=by simp[List.getD,_r (show n<ns.length by omega)]
  rw[e];simp only[List.sum_cons,List.sum_nil,Int.add_zero]
theorem z99{X:Cx}(hc:X.calm=true):wA X (.builtin "sum") (λxs H Q=>∃(b:Bool)(p:Addr)(ns:List Int),xs=[.ref p]/\Sq b X.K H p (ns.map V.int)/\Q (.int ns.sum) H):=by
 intro pins s O H xs us Q I r h;obtain⟨b,p,ns,rfl,hq,q⟩:=h;obtain⟨u,rfl,ru⟩:=vals1 r;cases ru;obtain⟨its,rv,co⟩:=I.sq hq;have hl:its.length=ns.length:=by have:=rv.length;simp at this;omega
 refine call_sum_walkG (z3D (I.ok.hd hc) co λs2 e2 St W st bd old=>?_);subst e2;refine⟨_,_,_,_,_,_,(λi=>ns.getD i 0),rfl,W,st,bd,(λi v e=>let ⟨t,e1,_⟩:=z1C rv e;⟨t,e1⟩),λh' tk t' hk=>?_⟩;have ez:its.toArray.size=ns.length:=by simp[hl]
 rw[ez,z11 ns _ (_d _),List.take_length];exact⟨.int ns.sum,H,I.kept (t':=tk) (old h' hk),⟨t',rfl⟩,q⟩
end L2
namespace L2
end L2
namespace Dd
open L2
section
variable {X:Cx}{E:XK}{e a b c tg iter elt:Expr}{es:List Expr}{pos:Pos}{CX:CXT}
noncomputable def zhE(i j k:Nat)(f:FA):FS:=fun ρ s=>(f ρ s).bind λds s1=>match ds with | [x,y,z]=>.ok (.nx (((ρ.set i (some x)).set j (some y)).set k (some z))) s1 | _=>.no
noncomputable def z9F:List D->Sto->R D
 | [d],s=>match (xj s d).bind intsOf with | some ns=>.ok (.int ns.sum) s | none=>.no
 | _,_=>.no
theorem zaq(hc:X.calm=true):∃r,wA X (.builtin "sum") r/\z0g X E r z9F:=⟨_,z99 hc,λH Y s ds vs Q r hd h=>by
 unfold z9F at h;split at h
 ·rename_i d;split at h
  ·rename_i ns e;obtain⟨xs,e1,e2⟩:=_by.mp e;have:=ju e2;subst this;obtain⟨v,rfl,dn⟩:=z2G hd;obtain⟨a,ws,rfl,q1,q2⟩:=qI (K:=X.K) r e1 dn;cases jv q2;obtain⟨b,q⟩:=z63 q1;exact⟨b,a,ns,rfl,q,h.here r xE⟩
  ·exact h.elim
 ·exact h.elim⟩
end
end Dd
namespace L2
theorem z0Q:∀{xs:List V}{us:List Value},us.length=xs.length->(∀(j:Nat) u,us[j]? = some u->∃x,xs[j]? = some x/\xL x u)->xt xs us
 | [],[],_,_=>.nil | [],_::_,h,_=>by simp at h | _::_,[],h,_=>by simp at h | x::xs,u::us,h,k=>by
  obtain⟨y,e,r⟩:=k 0 u (by simp);have:y=x:=by simpa using e.symm
  subst this;exact .cons r (z0Q (by simpa using h) λj v hv=>k (j+1) v (by simpa using hv))
end L2
namespace Dd
open L2
noncomputable def wB(ft:FT)(fb:FS):Nat->Ev->Sto->R Fl
 | 0,_,_=>.no | k+1,ρ,s=>(ft ρ s).bind λb s1=>if b=true then (fb ρ s1).bind λfl s2=>match fl with
   | .nx ρ'=>wB ft fb k ρ' s2 | .ct ρ'=>wB ft fb k ρ' s2 | .bk ρ'=>.ok (.nx ρ') s2 | .rt d=>.ok (.rt d) s2 else .ok (.nx ρ) s1
theorem ky{ft:FT}{fb:FS}:∀{k:Nat}{ρ:Ev}{s:Sto},wB ft fb k ρ s≠.no->wB ft fb (k+1) ρ s=wB ft fb k ρ s
 | 0,ρ,s,h=>absurd rfl h | k+1,ρ,s,h=>by
  rw[wB]at h ⊢;conv=>rhs;rw[wB]
  cases e:ft ρ s with
  | no=>rfl | ex c t=>rfl | ok b s1=>
   rw[e]at h;simp only[Rb]at h ⊢;cases b with
   | false=>rfl | true=>
    rw[_g rfl]at h ⊢;rw[_g rfl];cases e2:fb ρ s1 with
    | no=>rfl | ex c t=>rfl | ok fl s2=>
     rw[e2]at h;simp only[Rb]at h ⊢;cases fl with
     | nx ρ'=>exact ky h | ct ρ'=>exact ky h | bk ρ'=>rfl | rt d=>rfl
theorem z68{ft:FT}{fb:FS}{k m:Nat}{ρ:Ev}{s:Sto}(h:wB ft fb k ρ s≠.no)(hm:k<=m):wB ft fb m ρ s=wB ft fb k ρ s:=by induction hm with
 | refl=>rfl | step _ ih=>rw[ky (by rw[ih];exact h),ih]
open Classical in
def qQ(ft:FT)(fb:FS):FS:=fun ρ s=>if h:∃k,wB ft fb k ρ s≠.no then wB ft fb h.choose ρ s else .no
theorem z0v{ft:FT}{fb:FS}{k:Nat}{ρ:Ev}{s:Sto}{r:R Fl}(h:wB ft fb k ρ s=r)(hr:r≠.no):qQ ft fb ρ s=r:=by
 subst h;have hx:∃k,wB ft fb k ρ s≠.no:=⟨k,hr⟩;unfold qQ;rw[dif_pos hx];rcases Nat.le_total k hx.choose with z | z;·exact z68 hr z
 ·exact (z68 hx.choose_spec z).symm
theorem z5f {X:Cx} {E:XK} {c:Expr} {body:List Stmt} {pos:Pos} {ft:FT} {fb:FS} (hp:PassesOwn (model X.prog X.w) X.A X.env X.xe) (hc:RT X E c ft) (hb:RSs X E body fb):RS X E (.While c body [] pos) (qQ ft fb):= vZ (zay hp hc hb) λD O H ⟨Y,ρ,s,r,en,h⟩=>by
  unfold qQ at h;split at h
  ·rename_i hx;refine⟨λm O H=>∃Y ρ s,Rep (gm X) H Y s/\vA (gm X) H Y ρ O/\okR (gm X) E H Y (FlD (gm X)) (wB ft fb m ρ s) (z3e D),⟨_,Y,ρ,s,r,en,h⟩,?_⟩;rintro m O H ⟨Y,ρ,s,r,en,h⟩;cases m with
   | zero=>exact h.elim | succ m=>
    rw[wB]at h;refine⟨Y,ρ,s,r,en,(okR.bind (Dn:=bD) h).imp λb H1 ⟨Y1,s1,b',stp,eb,h1⟩=>?_⟩;cases (show b'=b from eb);cases b with
    | false=>
     rw[_i (by decide)]at h1 ⊢;exact okR.here (b:=FlV.nx O) (Q:=z3e D) h1 stp.rep (en.mono stp) | true=>
     rw[_g rfl]at h1 ⊢;refine⟨λO' H'=>∃Y ρ s,Rep (gm X) H' Y s/\vA (gm X) H' Y ρ O'/\okR (gm X) E H' Y (FlD (gm X)) (wB ft fb m ρ s) (z3e D),λO' H' q=>⟨m,_ba _,q⟩,Y1,ρ,s1,stp.rep,en.mono stp,(okR.bind (Dn:=FlD (gm X)) h1).imp λfv H2 ⟨Y2,s2,fl,stp2,dn,h2⟩=>?_⟩;cases fl with
     | nx ρ'=> cases fv with
      | nx O'=>exact⟨Y2,ρ',s2,stp2.rep,dn,h2⟩ | _=>exact (show False from dn).elim
     | ct ρ'=> cases fv with
      | ct O'=>exact⟨Y2,ρ',s2,stp2.rep,dn,h2⟩ | _=>exact (show False from dn).elim
     | bk ρ'=> cases fv with
      | bk O'=>exact okR.here (b:=FlV.nx O') (Q:=z3e D) (a:=Fl.nx ρ') (s:=s2) h2 stp2.rep dn | _=>exact (show False from dn).elim
     | rt d=> cases fv with
      | rt v=>exact okR.here (b:=FlV.rt v) (Q:=z3e D) (a:=Fl.rt d) (s:=s2) h2 stp2.rep dn | _=>exact (show False from dn).elim
  ·exact h.elim
end Dd
namespace PySem
open PySem.AutoSeq1 (wpAny_loadPart')
open MeetsSeq MeetsSeq2 SeqAt
end PySem
namespace L2
end L2
namespace Dd
open L2
theorem yA.cut{mg:Gm}{H H1:Hp}{Y Y1:List Addr}{s1:Sto}(stp:yA mg H Y H1 Y1 s1):yA mg H Y H1 (Y1.take Y.length) (s1.take Y.length):=by
 have fl:∀{ds:List D}{ws:List V},D.flat.flats ds=true->zA mg H1 Y1 ds ws->zA mg H1 (Y1.take Y.length) ds ws:=λf h=>h.flatten (λ_ _ h _ _ _=>h) f;have dk:DkS H1 Y1 H1 (Y1.take Y.length):=λb hb kvs e=>⟨_U hb,e⟩;refine⟨⟨by simp[stp.rep.len],stp.rep.nd.sublist (_c3 _ _),λj ys h=>?_,λys h=>stp.rep.flat ys (_U h),λb h z=>stp.rep.own b (dk.own h) (_U z),dk.uq stp.rep⟩,?_,stp.keep,λc h1 h2=>stp.new c (_U h1) h2,stp.mt,stp.dom,λb h=>stp.ow b (dk.own h)⟩
 ·have hj:j<Y.length:=by
   have:=(_b.mp h).1;simp at this;omega
  rw[_aj hj]at h ⊢;obtain⟨c,q1,q2⟩:=stp.rep.cell j ys h;exact⟨c,q1,q2.flatten (λ_ _ h _ _ _=>h) (stp.rep.flat _ (_c h)) rfl (_c q1) stp.rep.own (λ_ _ _ q=>q)⟩
 ·obtain⟨t,ht⟩:=stp.pre;exact⟨[],by rw[<- ht,List.take_append];simp⟩
theorem yA.frzC{mg:Gm}{H H1:Hp}{Y Y1:List Addr}{s1:Sto}{l:Nat}{xs:List D}(stp:yA mg H Y H1 Y1 s1){a:Addr}(hl:Y.length<=l)(hx:s1[l]? = some xs)(e1:Y1[l]? = some a)(ka:IsL H1 a):∃vs,H1 a=some (.lst vs)/\ ∀o,yA mg H Y (upd H1 a (.frz o (.lst vs))) (Y1.take Y.length) (s1.take Y.length)/\Den mg (upd H1 a (.frz o (.lst vs))) (Y1.take Y.length) (.lst xs) (.ref a):=by
 obtain⟨vs,e2,e3⟩:=stp.rep.at_ hx e1 ka;refine⟨vs,e2,λo=>?_⟩;have il:l<Y1.length:=(_b.mp e1).1;have an:a∉Y:=λz=>by
  obtain⟨j,hj,ej⟩:=_ah.mp z;obtain⟨t,ht⟩:=stp.pre;have:Y1[j]? = some a:=by rw[<- ht,_B hj,_r hj,ej]
  have:=(_aK stp.rep.nd).mp (((_b.mp this).2).trans ((_b.mp e1).2).symm);omega
 have a0:H a=none:=stp.new a (_c e1) an;have k:∀b u,H1 b=some u->(∀vs,u≠.lst vs)->(∀kvs,u≠.dT kvs)->(∀kvs,kvs≠[]->u≠.dK kvs)->upd H1 a (.frz o (.lst vs)) b=some u:=λb u h hn _ _=>by rw[zf (λz=>by subst z;rw[e2]at h;exact hn vs (_A h).symm)];exact h
 have fl:∀{ds:List D}{ws:List V},D.flat.flats ds=true->zA mg H1 Y1 ds ws->zA mg (upd H1 a (.frz o (.lst vs))) (Y1.take Y.length) ds ws:=λf h=>h.flatten k f;have dk:DkS H1 Y1 (upd H1 a (.frz o (.lst vs))) (Y1.take Y.length):=λb hb kvs e=>by
  by_cases z:b=a;·subst z;rw[zu]at e;cases e
  ·rw[zf z]at e;exact⟨_U hb,e⟩
 have mem:∀{j:Nat}{ys:List D},s1[j]? = some ys->D.flat.flats ys=true:=λe=>stp.rep.flat _ (_c e);refine⟨⟨⟨by simp[stp.rep.len],stp.rep.nd.sublist (_c3 _ _),λj ys h=>?_,λys h=>stp.rep.flat ys (_U h),λb h z=>stp.rep.own b (dk.own h) (_U z),dk.uq stp.rep⟩,?_,λb u h n g=>?_,λc h1 h2=>stp.new c (_U h1) h2,λb hb=>?_,λb h=>stp.dom b (vS h),λb h=>stp.ow b (dk.own h)⟩,?_⟩
 ·have hj:j<Y.length:=by
   have:=(_b.mp h).1;simp at this;omega
  rw[_aj hj]at h ⊢;obtain⟨c,q1,q2⟩:=stp.rep.cell j ys h;refine⟨c,q1,q2.flatten k (mem h) (zf λz=>?_) (_c q1) stp.rep.own (λb vs hb q=>by rw[zf (show b≠a from λz=>hb (z ▸ _c e1))];exact q)⟩;subst z;have:=(_aK stp.rep.nd).mp (((_b.mp q1).2).trans ((_b.mp e1).2).symm);omega
 ·obtain⟨t,ht⟩:=stp.pre;exact⟨[],by rw[<- ht,List.take_append];simp⟩
 ·rw[zf (λz=>by subst z;rw[a0]at h;cases h)];exact stp.keep b u h n g
 ·have ne:b≠a:=λz=>an (z ▸ hb);rcases stp.mt b hb with⟨q1,q2⟩ | ⟨q1,q2,q3⟩;·exact .inl ⟨q1,by rw[IsL,zf ne];exact q2⟩
  ·exact .inr ⟨q1,by rw[IsC,zf ne];exact q2,λo u z=>by rw[zf ne];exact q3 o u z⟩
 ·simp only[Den];exact⟨a,o,vs,rfl,zu,fl (mem hx) e3⟩
noncomputable def ze1(n:Nat):R D->R D
 | .ok (.loc l) s1=>match s1[l]? with
  | some xs=>if n<=l then .ok (.lst xs) (s1.take n) else .no | none=>.no
 | .ok _ _=>.no | .ex c s1=>.ex c s1 | .no=>.no
noncomputable def jD(f:FE):FE:=fun ρ s=>ze1 s.length (f ρ s)
section
variable {X:Cx}{E:XK}{e:Expr}
theorem z2d{f:FE}(h:RE X E e f):RE X E e (jD f):= yy (PE.freeze h) λO H Q ⟨Y,ρ,s,r,en,h⟩=>by
  refine⟨Y,ρ,s,r,en,?_⟩;unfold jD ze1 at h;split at h
  ·rename_i l s1 e1;rw[e1];split at h
   ·rename_i xs ex;split at h
    ·rename_i hl;intro v H1 Y1 stp dn;simp only[Den]at dn;obtain⟨a,rfl,q1,ka⟩:=dn;obtain⟨vs,q2,q3⟩:=stp.frzC (by rw[r.len];exact hl) ex q1 ka;rw[<- r.len]at h;exact⟨a,vs,rfl,q2,λo=>h _ _ _ (q3 o).1 (q3 o).2⟩
    ·exact h.elim
   ·exact h.elim
  ·exact h.elim
  ·rename_i e1;rw[e1];exact h
  ·exact h.elim
end
@[simp] theorem z2n (f:FE)(ρ:Ev)(s:Sto):jD f ρ s=ze1 s.length (f ρ s):=id rfl
@[simp] theorem jU {s:Sto}{xs:List D}:ze1 s.length (.ok (.loc s.length) (s++[xs]))=.ok (.lst xs) s:=by simp[ze1]
noncomputable def z6D(n:Nat):R D->R D
 | .ok (.loc l) s1=>if l<n then .ok (.loc l) (s1.take n) else .ok (.loc l) s1 | .ok d s1=>if d.flat=true then .ok d (s1.take n) else .ok d s1 | r=>r
noncomputable def z4A(M:Mir):Mir:=λds s=>z6D s.length (M ds s)
theorem zbP{mg:Gm}{M:Mir}{vs:List V}{H:Hp}{Q:VK}{E:XK}(h:zbL mg (z4A M) vs H Q E):zbL mg M vs H Q E:=by
 obtain⟨Y,s,ds,r,dn,h⟩:=h;refine⟨Y,s,ds,r,dn,?_⟩;unfold z4A z6D at h;split at h
 ·rename_i l s1 e;rw[e];split at h
  ·rename_i hl;intro v H1 Y1 stp dv;rw[<- r.len]at h;refine h v H1 _ stp.cut ?_;simp only[Den]at dv ⊢;obtain⟨a,rfl,e1,ka⟩:=dv;exact⟨a,rfl,by rw[_aj (by rw[r.len];exact hl)];exact e1,ka⟩
  ·exact h
 ·rename_i d s1 hn e;rw[e];split at h
  ·rename_i hf;intro v H1 Y1 stp dv;rw[<- r.len]at h;exact h v H1 _ stp.cut (dv.flatten (λ_ _ h _ _ _=>h) hf)
  ·exact h
 ·exact h
section
variable {P:Program}{w:World}{K:W.Frag}{mg:Str->Option Value}{base:Heap}
theorem Has.tidy{CX:CXT}{x:Str}{n:Nat}{M:Mir}(h:Has P w K mg base CX x n M):Has P w K mg base CX x n (z4A M):=by
 obtain⟨f,fd,ps,F,r⟩:=h;exact⟨f,fd,ps,F.imp λvs H Q E h=>zbP h,r⟩
end
@[simp] theorem z30 (M:Mir)(ds:List D)(s:Sto):z4A M ds s=z6D s.length (M ds s):=id rfl
@[simp] theorem qF {d:D}{n:Nat}{s1:Sto}(h:d.flat=true):z6D n (.ok d s1)=.ok d (s1.take n):=by cases d<;>first | (simp[D.flat]at h;done) | simp_all[z6D]
section
variable {P:Program}{w:World}{K:W.Frag}{mg:Str->Option Value}{base:Heap}{CX:CXT}{n:Nat}
theorem z5F:∀y M,([]:List (Str×Mir)).lookup y=some M->Has P w K mg base CX y n M:=λy M h=>by simp at h
theorem jQ{x:Str}{M0:Mir}{Ms:List (Str×Mir)}(h:Has P w K mg base CX x n M0)(hs:∀y M,Ms.lookup y=some M->Has P w K mg base CX y n M):∀y M,((x,M0)::Ms).lookup y=some M->Has P w K mg base CX y n M:=λy M e=>by
 rw[_am]at e;split at e
 ·rename_i hb;cases e;have:y=x:=by simpa using hb
  subst this;exact h
 ·exact hs y M e
end
def Sub(K:W.Frag)(h:Heap):Prop:=∀p∈K,h.get? p.1=some p.2
theorem Sub.in_{K:W.Frag}{h:Heap}(s:Sub K h):K.In h:=λa o e=>by induction K with
 | nil=>simp at e | cons p K ih=>
  obtain⟨b,u⟩:=p;rw[_am]at e;split at e
  ·rename_i hb;cases e;have:a=b:=by simpa using hb
   subst this;exact s (a,o) (by simp)
  ·exact ih (λq hq=>s q (by simp[hq])) e
theorem z2Q(h:Heap)(a:Addr):Sub (z53 h a) h:=λp hp=>by
 unfold z53 at hp;split at hp
 ·rename_i o e;simp at hp;subst hp;exact e
 ·simp at hp
theorem Sub.app{K L:W.Frag}{h:Heap}(a:Sub K h)(b:Sub L h):Sub (K++L) h:=λp hp=>(_L.mp hp).elim (a p) (b p)
theorem zbG(h:Heap)(ns:List Str):Sub (gat h ns) h:=by
 refine (z2Q h _).app λp hp=>?_;obtain⟨x,_,hx⟩:=_bz.mp hp;unfold zh2 at hx;split at hx
 ·rcases _L.mp hx with hx | hx;·exact z2Q h _ p hx
  ·split at hx
   ·split at hx;·exact z2Q h _ p hx
    ·simp at hx
   ·exact z2Q h _ p hx
   ·simp at hx
 ·simp at hx
def zgT(K:W.Frag)(x:Str)(st:Stmt):Prop:=∃f fd,W.nsIn K mainGlobals x=some (some (.ref f))/\Fun K x x st f fd
theorem dA(s:Stmt):dArgs s=kr s:=by cases s<;>rfl
theorem dB(s:Stmt):ze8 s=uQ s:=by cases s<;>rfl
theorem dS(s:Stmt):zb1 s=zm s:=by cases s<;>rfl
theorem zc4{K:W.Frag}{x:Str}{st:Stmt}(h:zcw K x=zfN x st):zgT K x st:=by
 unfold zcw zfN at h;rw[dA,dB,dS]at h;split at h
 ·rename_i f hf;split at h
  ·rename_i oc od fd sl hl;simp only[_M,_bI]at h;obtain⟨h1,h2,h3,h4,h5,h6,h7,h8,h9,h10,h11⟩:=h;obtain⟨a1,a2,a3,a4,a5,a6,a7,a8,a9,a10,a11,a12,a13,a14,a15⟩:=fd;simp only at h1 h2 h3 h4 h5 h6 h7 h8 h9 h10;subst h1 h3 h4 h5 h6 h7 h8 h9;subst h2;exact⟨f,_,hf,zeM hl h10 h11⟩
  ·cases h
 ·cases h
theorem z9B{K:W.Frag}{x:Str}(h:zc0 K x=true):W.nsIn K mainGlobals x=some none:=by
 unfold zc0 at h;split at h;·rename_i e;exact e
 ·cases h
theorem zaD{K:W.Frag}{x:Str}{i:Int}(h:zcV K x=some i):∃t,W.nsIn K mainGlobals x=some (some (.int i t)):=by
 unfold zcV at h;split at h;·rename_i j t e;cases h;exact⟨t,e⟩
 ·cases h
def saysS(q:Ask)(w:World)(h:Heap):Prop:=∃K:W.Frag,K.In h/\z9Q q K=valS q w
theorem zbD(q:Ask)(w:World)(s:Shared)(e:obsS q s=valS q w):saysS q w s.heap:=⟨_,(zbG _ _).in_,e⟩
theorem z72(q:Ask)(w:World)(h h':Heap)(x:saysS q w h)(k:∀b o,h.get? b=some o->h'.get? b=some o):saysS q w h':=let ⟨K,a,b⟩:=x;⟨K,a.keeps k,b⟩
theorem z96{α β:Type}{f g:α->β}:∀{l:List α},l.map f=l.map g->∀x∈l,f x=g x:=λh x hx=>List.map_inj_left.mp h x hx
theorem zgv{q:Ask}{w:World}{K:W.Frag}(e:z9Q q K=valS q w)(x:Str)(st:Stmt)(hx:(x,st)∈q.fs):zgT K x st:=zc4 (z96 (_a5 Prod.fst e) (x,st) hx)
theorem zfQ{q:Ask}{w:World}{K:W.Frag}(e:z9Q q K=valS q w)(x:Str)(hx:x∈q.bs):W.nsIn K mainGlobals x=some none:=z9B (z96 (_a5 (λz=>z.2.1) e) x hx)
theorem zgA{q:Ask}{w:World}{K:W.Frag}(e:z9Q q K=valS q w)(x:Str)(i:Int)(hx:(x,i)∈q.cs):∃t,W.nsIn K mainGlobals x=some (some (.int i t)):=zaD (z96 (_a5 (λz=>z.2.2.1) e) (x,i) hx)
theorem z70{p q:Program}{loose:List Str}{Xt:Shared->Bool}{α:Type}{Yf:Shared->α}{Ya:World->α}{N:Nat}{g0:Bool} (bo:∀w:World,(W.fencedOpening treeTable p w N).map (λs=>(s.heap,s.gens,s.drawn,s.toks))=some (W.boot_heap w.params,Array.mk [],W.boot_drawn,W.boot_toks)) (hf:∀(w:World)(os:OsState),(W.topFrom treeTable p w N ⟨W.boot_heap w.params,Array.mk [],W.boot_drawn,W.boot_toks,os⟩).map (λs=>(W.openSeen q loose (importedModules p.main.body) Xt g0 s,Yf s))=some (W.openGood q loose,Ya w)):W.LeftO p q loose Xt Yf Ya N g0:=λw=>by
 obtain⟨⟨h,gs,d,k,os⟩,e,e'⟩:=_D.mp (bo w);obtain⟨rfl,rfl,rfl,rfl⟩:h=W.boot_heap w.params/\gs=Array.mk []/\d=W.boot_drawn/\k=W.boot_toks:=by simpa only [_bI] using e'
 unfold W.openEnds;rw[e,_aA];exact hf w os
theorem z48{tb:String->Option Builtin}{p:Program}{w:World}{n₀:Nat}{ann:Option Value}:∀{n:Nat}{s s':W.SharedT}{t:Thread},z1j tb p w n₀ ann n s t=some s'->W.topRun tb p w n₀ ann n s.abs t=some s'.abs
 | 0,_,_,_,h=>by cases h | n+1,s,s',t,h=>by
  unfold z1j at h;unfold W.topRun;cases he:W.through t with
  | true=>rw[he]at h;cases h;rfl | false=>
   rw[he]at h;cases hk:W.stepOk n₀ ann t with
   | false=>rw[hk]at h;cases h | true=>
    rw[hk]at h;cases hs:W.stepT (denote tb) p w s t with
    | none=>rw[hs]at h;cases h | some r=>obtain⟨s₂,t₂⟩:=r;rw[hs]at h;rw[W.stepT_spec hs];exact z48 h
theorem z6z{p:Program}{w:World}{N:Nat}{h:Heap}{d:Drawn}{k:Nat}{os:OsState}{t0:W.BT}{m₀:Nat}{ann:Option Value}(ha:W.absHeap t0 m₀ h.life=h) (sz:(h.isNs mainGlobals&&(Array.mk []:Array GenState).size==0,h.objs.size,h.nsMap mainGlobals "__annotations__")=(true,m₀,ann)){α:Type}{f:Shared->α}{v:α} (hr:(z1j treeTable p w m₀ ann N ⟨t0,m₀,h.life,Array.mk [],d,k,os⟩ (W.topStub p)).map (λsT=>(W.staticsOk (importedModules p.main.body) h sT.abs.heap&&W.namesBound p sT.abs.heap&&W.gensDone sT.abs&&W.laidKept h sT.abs.heap,f sT.abs))=some (true,v)): (W.topFrom treeTable p w N ⟨h,Array.mk [],d,k,os⟩).map f=some v:=by
 obtain⟨sT,e1,e2⟩:=_D.mp hr;obtain⟨e3,e4⟩:=Prod.mk.inj e2;obtain⟨z1,z2,z3⟩:_/\_/\_:=by simpa only [_bI] using sz
 have r:=z48 e1;have a0:(⟨t0,m₀,h.life,Array.mk [],d,k,os⟩:W.SharedT).abs=⟨h,Array.mk [],d,k,os⟩:=by
  show (⟨W.absHeap t0 m₀ h.life,Array.mk [],d,k,os⟩:Shared)=_;rw[ha]
 rw[a0]at r;have t:W.topFrom treeTable p w N ⟨h,Array.mk [],d,k,os⟩=some sT.abs:=by
  unfold W.topFrom;dsimp only;rw[z1,z2,z3];dsimp only;rw[r];show (match (W.staticsOk (importedModules p.main.body) h sT.abs.heap&&W.namesBound p sT.abs.heap&&W.gensDone sT.abs&&W.laidKept h sT.abs.heap) with | true=>some sT.abs | false=>none)=_;rw[e3]
 rw[t,_aS,e4]
theorem z9l{α β γ δ:Type}{r:Option α}{f:α->β}{g:α->γ}{k:α->δ}{x:β}{y:γ}{z:δ}(h1:r.map (λs=>(f s,k s))=some (x,z))(h2:r.map g=some y):r.map (λs=>(f s,(g s,k s)))=some (x,(y,z)):=by
 obtain⟨s,e1,e2⟩:=_D.mp h1;obtain⟨s',e3,e4⟩:=_D.mp h2;rw[e1]at e3;cases e3;obtain⟨e5,e6⟩:=Prod.mk.inj e2;rw[e1,_aS,e4,e5,e6]
theorem walkY{l:W.OpenLaw}{n k:Nat}{q:Program}{loose:List Str}{XP:(Str->Option Value)->Heap->Prop}{YP:World->Heap->Prop}{d:DefRec}{x:Str} (hn:l.most=some n)(hn2:n<=sizeLine)(hn3:n<=63)(hdf:d.params.defaults=[])(hr:z1D k callerA) (F:∀(w:World)(mg:Str->Option Value)(fa:Addr)(h:Heap),YP w h->h.Ns mainGlobals mg->mg d.name=some (.ref fa)->XP mg h-> ∃K:W.Frag,K.In h/\∃fd:FuncData,(∀(s:Shared)(u:Value),BindsTo s fd ⟨[u],[]⟩ [(x,u)])/\ ∀base:Heap,K.In base->base.Ns mainGlobals mg->z3J l.prog w K mg base CX0 k fa fd [x] (zcm K)): W.WalkO q loose XP YP l.row.toRowW d [] (λf vs=>PySem.call f vs):=by
 refine Att.z5e hn hdf λw s₀ s₁ mg mb fa o pm cd doc a vs ns G Yy ho hd hcd hmg hobj hints hlen hg=>?_;obtain⟨K,KX,fd,hb,hF⟩:=F w mg fa _ Yy G.T.g hmg G.X;exact za3 KX G.T.g G.T.b G.T.builtins G.T.nolimit hg hobj hints (_H hlen hn2) hr hF hb (λH hO hS=>⟨a,ns,rfl,hO,hS,_H hlen hn3,λ_=>rfl⟩) λH e s' z=>z
end Dd
namespace HT
end HT
namespace L2
end L2
namespace Dd
open L2
end Dd
namespace PySem
open PySem.Sem (wp)
end PySem
namespace Dd
open L2
end Dd
namespace PySem
open PySem.Sem (wp)
open PySem.W
end PySem
namespace L2
end L2
namespace Dd
open L2
end Dd
namespace L2
open MeetsSeq MeetsSeq2 SeqAt
end L2
namespace Dd
open L2
end Dd
namespace L2
end L2
namespace Dd
open L2
section
variable {X:Cx}{E:XK}{e a b:Expr}{es:List Expr}{pos:Pos}{CX:CXT}
theorem zfZ{x:Str}{g:Addr}{p:Pos}(hg:Gl X x)(hm:X.mg x=some (.ref g))(hd:(x==("__debug__":Str))=false:=by decide):RE X E (.Name x p) (eC (.fn x)):= yy (z8I hg hm (show xL (.ref g) (.ref g) from rfl) hd) λO H Q ⟨Y,ρ,s,r,en,h⟩=>okR.here h r (by simp only[Den];exact⟨g,rfl,hm⟩)
theorem zaw{x:Str}{p:Pos}{n:Nat}{M:Mir}(F:Has X.prog X.w X.K X.mg X.base CX x n M)(hg:Gl X x)(hd:(x==("__debug__":Str))=false:=by decide):RE X E (.Name x p) (eC (.fn x)):=by
 obtain⟨f,_,_,_,_,_,hm⟩:=F;exact zfZ hg hm hd
noncomputable def z2e(g:FE)(Ms:List (Str×Mir))(f:FA):FE:=fun ρ s=>(g ρ s).bind λd s1=>match d with
 | .fn y=>match Ms.lookup y with
  | some M=>(f ρ s1).bind λxs s2=>M xs s2 | none=>.no
 | _=>.no
theorem zax(args:List Expr)(sp:Pos)(env:Env):eval (.Call (.Subscript a b sp) args [] pos) env=(do callWith pos (<- eval (.Subscript a b sp) env) [] (backTo pos (starEach args env)) (backToKw pos (keywordEach [] env))):=rfl
theorem z9p {sp:Pos} {n:Nat} {Ms:List (Str×Mir)} {g:FE} {f:FA} (F:∀y M,Ms.lookup y=some M->Has X.prog X.w X.K X.mg X.base CX y n M) (hr:z1D n X.A) (hxx:Passes CX X E) (hg:RE X E (.Subscript a b sp) g) (ha:RA X E (e::es) f) (he:starEach (e::es) X.env=(false,eval e X.env)::starEach es X.env:=by rfl) (hpl:(backTo pos (starEach es X.env)).any (·.1)=false:=by rfl):RE X E (.Call (.Subscript a b sp) (e::es) [] pos) (z2e g Ms f):=by
 intro pins s O H Q I ⟨Y,ρ,st,r,en,h⟩;unfold z2e at h;rw[zax];refine _a (thn (hg pins s O H (λv H1=>∃Y1 s1 d,yA (gm X) H Y H1 Y1 s1/\Den (gm X) H1 Y1 d v/\okR (gm X) E H1 Y1 (Den (gm X)) (match d with
  | .fn y=>match Ms.lookup y with
   | some M=>(f ρ s1).bind λxs s2=>M xs s2 | none=>.no
  | _=>.no) Q) I ⟨Y,ρ,st,r,en,(okR.bind (Dn:=Den (gm X)) h).imp λv H1 q=>q⟩) λu s1 ⟨v,H1,I1,r1,Y1,st1,d,stp,dn,h1⟩=>?_);split at h1
 ·rename_i y;split at h1
  ·rename_i M hM;simp only[Den]at dn;obtain⟨gg,rfl,hmg⟩:=dn;cases r1;obtain⟨fa,fd,ps,Fk,hb,hk,hm⟩:=F y M hM;have e0:gg=fa:=by
    have hmg':X.mg y=some (.ref gg):=hmg;rw[hmg']at hm;cases hm;rfl
   subst e0;have hA:=ha pos pins s1 O H1 (λvs H2=>zbL (gm X) M (vs++[]) H2 Q E) I1 (uJ (k:=fun ρ xs s1=>M xs s1) stp.rep (en.mono stp) h1 _ λvs H2 Y2 s2 ds r2 en2 dn2 stp2 h3=>by
    rw[_cz];exact⟨Y2,s2,ds,r2,dn2,h3⟩);refine W.callWith_K (h₀:=X.base) I1.ok.mod.kin hk (thn hA λus s2 ⟨vs,H2,I2,r2,q⟩=>⟨I2.kIn,?_⟩) he hpl;exact zbw Fk hr hb .nil hxx I2 r2 q
  ·exact h1.elim
 ·exact h1.elim
end
end Dd
namespace PySem
open PySem.AutoSeq1 (wpAny_loadPart')
open MeetsSeq MeetsSeq2 SeqAt
end PySem
namespace L2
end L2
namespace Dd
open L2
end Dd
namespace L2
end L2
namespace Dd
open L2
end Dd
namespace PySem
end PySem
namespace L2
end L2
namespace Dd
open L2
open PySem.W
end Dd
namespace L2
open PySem.Builtin.Str
end L2
namespace Dd
open L2 PySem.Builtin.Str
end Dd
namespace Dd
open L2
section
variable {X:Cx}{E:XK}{e a b c tg iter elt:Expr}{es:List Expr}{pos:Pos}{CX:CXT}
variable {scope:Scope}{ifs:List Expr}{fi:FI}{fg:FG}{ft:FT}{fe:FE}{g:TG}{spos py:Pos}
theorem z3C(N':List Str)(mp:List (Option Nat))(hc:X.calm=true)(hi:RI X E tg iter fi)(hg:∀ex s H,PG (zk X N' scope ex s H) tg g)(hgt:z1M (gm X) E mp g fg)(ht:∀ex s H,z4Y (zk X N' scope ex s H) ifs (tT (gm X) E ft))(he:∀ex s H,RE (zk X N' scope ex s H) E elt fe) (hkd:scope.kind=.function:=by rfl)(hnm:z6E scope.names=true:=by rfl)(hfr:z7a X.env.kindOf scope.names=true:=by rfl)(hmp:z0j X.N scope.names N' mp=true:=by rfl) (hs:∀x,foldedSetIterable iter X.env x=pure x:=by intro _;rfl):RE X E (.ListComp elt [⟨tg,iter,ifs,0⟩] scope pos) (ub fi mp fg ft fe):= yy (z8o (te:=tE (gm X) E fe) N' mp hc hi hg ht (λex s H=>he ex s H) hkd (jO hnm) (jw hfr) hmp hs) λO H Q ⟨Y,ρ,s,r,en,h⟩=>by
  refine z0y hgt r en h λH1 Y1 s1 xs vs r1 en1 dn h1 hcap=>?_;split at h1
  ·rename_i hf;exact zaM r1 h1 hf dn
  ·exact h1.elim
end
section
variable {X:Cx}{E:XK}{es:List Expr}{fa:FE}{fr:FA}
theorem aN{x:Str}{p:Pos}(ha:RE X E (.Name x p) fa)(hr:RA X E es fr):RA X E ((.Name x p)::es) (za fa fr):=uy ha hr (zp ..)
theorem aK{c:Const}{j:Nat}{p:Pos}(ha:RE X E (.Constant c j p) fa)(hr:RA X E es fr):RA X E ((.Constant c j p)::es) (za fa fr):=uy ha hr (z2b ..)
theorem aQ{g:Expr}{xs:List Expr}{ks:List Keyword}{p:Pos}(ha:RE X E (.Call g xs ks p) fa)(hr:RA X E es fr):RA X E ((.Call g xs ks p)::es) (za fa fr):=uy ha hr (z0A ..)
theorem aT{xs:List Expr}{k:Nat}{p:Pos}(ha:RE X E (.Tuple xs k p) fa)(hr:RA X E es fr):RA X E ((.Tuple xs k p)::es) (za fa fr):=uy ha hr (z38 ..)
theorem aS{a b:Expr}{p:Pos}(ha:RE X E (.Subscript a b p) fa)(hr:RA X E es fr):RA X E ((.Subscript a b p)::es) (za fa fr):=uy ha hr (z35 ..)
theorem aB{a b:Expr}{o:Operator}{p:Pos}(ha:RE X E (.BinOp a o b p) fa)(hr:RA X E es fr):RA X E ((.BinOp a o b p)::es) (za fa fr):=uy ha hr (z2W ..)
theorem aL{xs:List Expr}{p:Pos}(ha:RE X E (.List xs p) fa)(hr:RA X E es fr):RA X E ((.List xs p)::es) (za fa fr):=uy ha hr (z6i ..)
theorem aO{a:Expr}{g:List Comprehension}{sc:Scope}{p:Pos}(ha:RE X E (.ListComp a g sc p) fa)(hr:RA X E es fr):RA X E ((.ListComp a g sc p)::es) (za fa fr):=uy ha hr (yE ..)
theorem aU{o:UnaryOp}{a:Expr}{p:Pos}(ha:RE X E (.UnaryOp o a p) fa)(hr:RA X E es fr):RA X E ((.UnaryOp o a p)::es) (za fa fr):=uy ha hr (zcs ..)
theorem vq {e:Expr} {pos:Pos} {CX:CXT} {x:Str} {p:Pos} {n k:Nat} {M:Mir} {f:FA} (F:Has X.prog X.w X.K X.mg X.base CX x n M) (hr:z1D k X.A) (hx:Passes CX X E) (ha:RA X E (e::es) f) (hk:n<=k:=by decide) (hg:Gl X x:=by rfl) (hdb:(x==("__debug__":Str))=false:=by decide) (he:starEach (e::es) X.env=(false,eval e X.env)::starEach es X.env:=by rfl) (hpl:(backTo pos (starEach es X.env)).any (·.1)=false:=by rfl):RE X E (.Call (.Name x p) (e::es) [] pos) (ze M f):=z9b F (hr.mono hk) hx hg ha hdb he hpl
end
section
variable {q:Ask}{w:World}{K:W.Frag}{h:Heap}{mg:Str->Option Value}
theorem yF(X:K.In h)(G:h.Ns mainGlobals mg)(e:z9Q q K=valS q w)(i:Nat){x:Str}{st:Stmt}(hx:q.fs[i]? = some (x,st)):∃f fd,mg x=some (.ref f)/\Fun K x x st f fd:=let ⟨f,fd,a,F⟩:=zgv e x st (_c hx);⟨f,fd,W.mg_of X G a,F⟩
theorem vw(X:K.In h)(G:h.Ns mainGlobals mg)(e:z9Q q K=valS q w)(i:Nat){x:Str}(hx:q.bs[i]? = some x):mg x=none:=W.mg_none_of X G (zfQ e x (_c hx))
theorem z82(X:K.In h)(G:h.Ns mainGlobals mg)(e:z9Q q K=valS q w)(i:Nat){x:Str}{c:Int}(hx:q.cs[i]? = some (x,c)):∃t,mg x=some (.int c t):=let ⟨t,z⟩:=zgA e x c (_c hx);⟨t,W.mg_of X G z⟩
end
open PySem.W
end Dd
namespace Dd
open L2
section
variable {X:Cx}{E:XK}{e:Expr}{pos pos':Pos}
noncomputable def zgK(i:Nat)(f:FE):FS:=fun ρ s=>match ρ[i]? with
 | some (some (.int a))=>(f ρ s).bind λd s1=>match d with | .int b=>.ok (.nx (ρ.set i (some (.int (a+b))))) s1 | _=>.no
 | _=>.no
@[simp] theorem zh3 {i:Nat}{f:FE}{ρ:Ev}{s:Sto}{a b:Int}{s1:Sto}(h:ρ[i]? = some (some (.int a)))(hf:f ρ s=.ok (.int b) s1):zgK i f ρ s=.ok (.nx (ρ.set i (some (.int (a+b))))) s1:=by simp only[zgK,h,hf,Rb]
end
open PySem.W
theorem z1Y:∀{xs ys:List Int},xs.Perm ys->xs.Pairwise (· <= ·)->ys.Pairwise (· <= ·)->xs=ys
 | [],ys,p,_,_=>by rw[List.Perm.nil_eq p] | x::xs,[],p,_,_=>by simp at p | x::xs,y::ys,p,h1,h2=>by
  have hx:x∈y::ys:=p.mem_iff.mp (by simp);have hy:y∈x::xs:=p.mem_iff.mpr (by simp);rw[_bi]at h1 h2;have e:x=y:=by
   rcases _j.mp hx with e | hx;·exact e
   ·rcases _j.mp hy with e | hy;·exact e.symm
    ·have:=h1.1 y hy;have:=h2.1 x hx;omega
  subst e;rw[z1Y ((List.perm_cons x).mp p) h1.2 h2.2]
noncomputable def z05(ns:List Int):List Int:=ns.mergeSort λa b=>decide (a<=b)
theorem z9E(ns:List Int):(z05 ns).Pairwise (· <= ·):=by
 have:=List.pairwise_mergeSort (le:=λa b:Int=>decide (a<=b)) (by intro a b c;simp;omega) (by intro a b;simp;omega) ns;refine this.imp λh=>by simpa using h
theorem kw(ns:List Int):(z05 ns).Perm ns:=List.mergeSort_perm ns _
theorem zaB{ns ns':List Int}(p:ns'.Perm ns)(h:ns'.Pairwise (· <= ·)):ns'=z05 ns:=z1Y (p.trans (kw ns).symm) h (z9E ns)
section
variable {X:Cx}{E:XK}
theorem z5Z:∀{ns:List Int}{vs:List Value},xt (ns.map V.int) vs->IntsAre vs ns
 | [],_,.nil=>.nil | n::ns,_,.cons ⟨t,e⟩ r=>by subst e;exact .cons _ _ (z5Z r)
theorem z6m:∀{ns:List Int}{vs:List Value},IntsAre vs ns->xt (ns.map V.int) vs
 | _,_,.nil=>.nil | _,_,.cons _ _ r=>.cons ⟨_,rfl⟩ (z6m r)
theorem z5D(mg:Gm)(H:Hp)(Y:List Addr):∀ns:List Int,zA mg H Y (ns.map D.int) (ns.map V.int)
 | []=>by simp[zA] | n::ns=>by simp only[_t];exact zA.cons (by simp[Den]) (z5D mg H Y ns)
end
end Dd
namespace Dd
open L2
end Dd
namespace L2
end L2
namespace Dd
open L2
section
variable {X:Cx}{E:XK}{o i e value:Expr}{pos pos':Pos}
noncomputable def zbV:FE:=λ_ s=>.ok (.dlo s.length) (s++[[]])
theorem zbe:RE X E (.Dict [] [] pos) zbV:=yy zaA λO H Q ⟨Y,ρ,s,r,en,h⟩ p hp=>by
 refine h _ _ _ (yA.layC r hp (o:=.dT []) (.inr (.inl ⟨[],zu,rfl⟩)) rfl) ?_;simp only[Den];exact⟨p,rfl,by rw[<- r.len];simp,.inl ⟨[],zu⟩⟩
end
noncomputable def zbv:List D->Option (List Int)
 | []=>some [] | .int i::r=>(zbv r).map (i::·) | _=>none
noncomputable def zd8:D->Option (List Int)
 | .tup ds=>zbv ds | _=>none
noncomputable def z2p:List D->Option (List (List Int))
 | []=>some [] | d::ds=>match zd8 d,z2p ds with | some n,some ns=>some (n::ns) | _,_=>none
theorem z64:∀ns:List Int,zbv (ns.map D.int)=some ns
 | []=>rfl | i::r=>by simp[zbv,z64 r]
theorem z8Q:∀{ds:List D}{ns:List Int},zbv ds=some ns->ds=ns.map D.int
 | [],_,e=>by simp[zbv]at e;subst e;rfl | d::r,ns,e=>by cases d with
  | int i=>
   simp only[zbv,_D]at e;obtain⟨a,h1,rfl⟩:=e;rw[z8Q h1];rfl | _=>simp[zbv]at e
theorem z9y(ns:List Int):zd8 (.tup (ns.map D.int))=some ns:=z64 ns
theorem zcE{d:D}{ns:List Int}(e:zd8 d=some ns):d=.tup (ns.map D.int):=by cases d with
 | tup ds=>simp only[zd8]at e;rw[z8Q e] | _=>simp[zd8]at e
theorem z1n:∀L:List (List Int),z2p (L.map λns=>.tup (ns.map D.int))=some L
 | []=>rfl | n::L=>by simp only[_t,z2p,z9y,z1n L]
def AtN(H:Hp)(v:V)(ns:List Int):Prop:=∃b,v=.ref b/\H b=some (.tup (ns.map V.int))
theorem zaz{mg:Gm}{H:Hp}{Y:List Addr}{d:D}{v:V}{ns:List Int}(h:zd8 d=some ns)(dn:Den mg H Y d v):AtN H v ns:=by
 rw[zcE h]at dn;simp only[Den]at dn;obtain⟨a,vs,rfl,e,dd⟩:=dn;have:∀{ns:List Int}{vs:List V},zA mg H Y (ns.map D.int) vs->vs=ns.map V.int:=by
  intro ns;induction ns with
  | nil=>intro vs h;simpa[zA] using h | cons i r ih=>
   intro vs h;simp only[_t,zA]at h;obtain⟨v,r',rfl,h1,h2⟩:=h;rw[yj h1,ih h2];rfl
 rw[this dd]at e;exact⟨a,rfl,e⟩
theorem z4O{mg:Gm}{H:Hp}{Y:List Addr}:∀{ds:List D}{vs:List V}{L:List (List Int)},z2p ds=some L->zA mg H Y ds vs->Paired (λv ns=>AtN H v ns) vs L
 | [],_,_,h,dn=>by simp only[z2p,_M]at h;simp only[zA]at dn;subst dn;subst h;exact .nil | d::ds,_,_,h,dn=>by
  simp only[zA]at dn;obtain⟨v,vs,rfl,h1,h2⟩:=dn;simp only[z2p]at h;split at h
  ·rename_i n ns e1 e2;cases h;exact .cons (zaz e1 h1) (z4O e2 h2)
  ·cases h
end Dd
namespace L2
open PySem.Builtin.Str
end L2
namespace Dd
open L2 PySem.Builtin.Str
end Dd
namespace Zz
noncomputable abbrev T1(b1:Bool)(h:Heap)(l1:Addr):Heap:=h.push (itO b1 l1)
noncomputable abbrev T2(b1 b2:Bool)(h:Heap)(l1 l2:Addr):Heap:=(T1 b1 h l1).push (itO b2 l2)
end Zz
namespace L2
open Zz
end L2
namespace Dd
open L2
noncomputable def lexN:List Int->List Int->Bool
 | [],[]=>false | [],_::_=>true | _::_,[]=>false | x::a,y::b=>if x=y then lexN a b else decide (x<y)
inductive vI:List Value->List Int->Prop | nil:vI [] [] | cons {i t vs ns}:vI vs ns->vI (.int i t::vs) (i::ns)
theorem vI.of_vals:∀{ns:List Int}{us:List Value},xt (ns.map V.int) us->vI us ns
 | [],_,.nil=>.nil | _::_,_,.cons ⟨_,rfl⟩ r=>.cons (vI.of_vals r)
theorem vI.length:∀{us ns},vI us ns->us.length=ns.length
 | _,_,.nil=>rfl | _,_,.cons r=>by simp[r.length]
end Dd
namespace L2
noncomputable def zcb(D:z8v):z8v:={D with nx:=λO H=>∃a xs,H a=some (.lst xs)/\∀o,D.nx O (upd H a (.frz o (.lst xs)))}
theorem PS.freezeV{X:Cx}{st:Stmt}{t:TS}(h:PS X st t):PS X st (λD O H=>t (zcb D) O H):=λpins s O H D I q=>thn (h pins s O H _ I q) λf s1 z=>by cases f with
 | next=>
  obtain⟨O',H',I',a,xs,ha,q⟩:=z;obtain⟨its,n,rv,e,_⟩:=I'.lst ha;exact⟨O',_,I'.freeze ha e (by intro _ z;cases z) (by intro _ _ z;cases z) (by intro _ z;cases z) (by intro _ z;cases z),q _⟩ | ret v=>exact z | brk=>exact z | cont=>exact z
end L2
namespace Dd
open L2
noncomputable def D.und(n:Nat):D->Bool
 | .loc l=>decide (l<n) | .dlo l=>decide (l<n) | d=>d.flat
def z61(n i:Nat)(ρ:Ev):Bool:=(List.range ρ.length).all λj=>j==i||match ρ[j]? with | some (some d)=>d.und n | _=>true
noncomputable def z8i(i:Nat)(f:FS):FS:=fun ρ s=>match f ρ s with
 | .ok (.nx ρ1) s1=>match ρ1[i]? with
  | some (some (.loc l))=>match s1[l]? with
   | some xs=>if s.length<=l/\z61 s.length i ρ1=true then .ok (.nx (ρ1.set i (some (.lst xs)))) (s1.take s.length) else .no | none=>.no
  | _=>.no
 | _=>.no
theorem Den.cut{mg:Gm}{H1:Hp}{Y1:List Addr}{n:Nat}{a:Addr}{u u0:HO}{d:D}{v:V}(nd:Y1.Nodup){l:Nat}(hl:n<=l)(e1:Y1[l]? = some a)(e2:H1 a=some u0)(hu:(∃vs,u0=.lst vs))(hb:d.und n=true)(h:Den mg H1 Y1 d v):Den mg (upd H1 a u) (Y1.take n) d v:=by
 have k:∀b u',H1 b=some u'->(∀vs,u'≠.lst vs)->(∀kvs,u'≠.dT kvs)->(∀kvs,kvs≠[]->u'≠.dK kvs)->upd H1 a u b=some u':=λb u' h hn _ _=>by
  obtain⟨vs,rfl⟩:=hu;rw[zf (λz=>by subst z;rw[e2]at h;exact hn vs (_A h).symm)];exact h
 have ne:∀{j:Nat}{b:Addr},j<n->Y1[j]? = some b->b≠a:=λ{j b} hj hb z=>by
  subst z;have:=(_aK nd).mp (((_b.mp hb).2).trans ((_b.mp e1).2).symm);omega
 by_cases hf:d.flat=true;·exact h.flatten k hf
 ·cases d with
  | loc j=>
   have hj:j<n:=by simpa[D.und] using hb
   simp only[Den]at h ⊢;obtain⟨b,rfl,q1,vs,q2⟩:=h;exact⟨b,rfl,by rw[_aj hj];exact q1,vs,by rw[zf (ne hj q1)];exact q2⟩ | dlo j=>
   have hj:j<n:=by simpa[D.und] using hb
   simp only[Den]at h ⊢;obtain⟨b,rfl,q1,q2⟩:=h;exact⟨b,rfl,by rw[_aj hj];exact q1,by rw[IsC,zf (ne hj q1)];exact q2⟩ | _=>exact absurd hb hf
theorem vA.cut{mg:Gm}{H1:Hp}{Y1:List Addr}{n i:Nat}{a:Addr}{u u0:HO}{ρ:Ev}{O:L2.St}{xs:List D}(en:vA mg H1 Y1 ρ O)(nd:Y1.Nodup){l:Nat}(hl:n<=l)(e1:Y1[l]? = some a)(e2:H1 a=some u0)(hu:(∃vs,u0=.lst vs))(hb:z61 n i ρ=true) (hi:ρ[i]? = some (some (.loc l)))(hd:Den mg (upd H1 a u) (Y1.take n) (.lst xs) (.ref a)):vA mg (upd H1 a u) (Y1.take n) (ρ.set i (some (.lst xs))) O:=by
 refine⟨by simp[en.len],λj d hj=>?_⟩;by_cases q:i=j
 ·subst q;have hlt:i<ρ.length:=(_b.mp hi).1;rw[_N hlt]at hj;cases hj;obtain⟨v,h1,h2⟩:=en.at_ i _ hi;simp only[Den]at h2;obtain⟨b,rfl,q1,_⟩:=h2;rw[e1]at q1;cases q1;exact⟨_,h1,hd⟩
 ·rw[_K q]at hj;obtain⟨v,h1,h2⟩:=en.at_ j d hj;have hlt:j<ρ.length:=(_b.mp hj).1;have hb':=_ab.mp hb j (_bc.mpr hlt);rw[hj]at hb';have hb2:d.und n=true:=by
   rcases Bool.or_eq_true_iff.mp hb' with z | z;·exact absurd (by simpa using z) (_bp q)
   ·exact z
  exact⟨v,h1,h2.cut nd hl e1 e2 hu hb2⟩
section
variable {X:Cx}{E:XK}
theorem zc3(i:Nat){s1 s2:Stmt}{rs:List Stmt}{f1 f2 f3:FS}(h1:RS X E s1 f1)(h2:RS X E s2 f2)(h3:RSs X E rs f3):RSs X E (s1::s2::rs) (zM (z8i i (zM f1 f2)) f3):= z5l (z2r h1 (z2r (PS.freezeV h2) h3)) λD O H ⟨Y,ρ,s,r,en,h⟩=>by
  refine⟨Y,ρ,s,r,en,?_⟩;simp only[zM,z8i]at h;cases e1:f1 ρ s with
  | no=>rw[e1]at h;exact h | ex c s'=>rw[e1]at h;exact (show False from h).elim | ok fl sa=>
   rw[e1]at h;cases fl with
   | nx ρa=>
    simp only[Rb]at h;intro b H1 Y1 stp1 dn1;cases b with
    | nx O1=>
     refine⟨Y1,ρa,sa,stp1.rep,dn1,?_⟩;cases e2:f2 ρa sa with
     | no=>rw[e2]at h;exact h | ex c s'=>rw[e2]at h;exact (show False from h).elim | ok fl2 sb=>
      rw[e2]at h;cases fl2 with
      | nx ρb=>
       simp only at h;intro b2 H2 Y2 stp2 dn2;cases b2 with
       | nx O2=>
        have stp:=stp1.trans stp2;have en2:vA (gm X) H2 Y2 ρb O2:=dn2;split at h
        ·rename_i l el;split at h
         ·rename_i xs ex;split at h
          ·rename_i hl;simp only[Rb]at h;obtain⟨v,q1,q2⟩:=en2.at_ i _ el;simp only[Den]at q2;obtain⟨a,rfl,ia,ka⟩:=q2;obtain⟨vs,ha,k⟩:=stp.frzC (by rw[r.len];exact hl.1) ex ia ka;refine⟨a,vs,ha,λo=>?_⟩;obtain⟨st3,dn3⟩:=k o;rw[r.len]at st3 dn3;have en3:=vA.cut (u:=.frz o (.lst vs)) en2 stp.rep.nd hl.1 ia ha ⟨vs,rfl⟩ hl.2 el dn3;exact⟨Y2.take s.length,ρb.set i (some (.lst xs)),sb.take s.length,st3.rep,en3,okR.rebase h st3⟩
          ·exact h.elim
         ·exact h.elim
        ·exact h.elim | _=>exact (show False from dn2).elim
      | _=>exact h.elim
    | _=>exact (show False from dn1).elim
   | _=>exact h.elim
end
section
variable {X:Cx}{E:XK}
theorem AtN.tuple{pins:List (Addr×Obj)}{O:L2.St}{H:Hp}{s:Shared}(I:Inv X pins O H s){v:V}{u:Value}{ns:List Int}(a:AtN H v ns)(r:xL v u):∃b its,v=.ref b/\u=.ref b/\s.heap.IsTuple b its/\vI its.toList ns:=by
 obtain⟨b,rfl,e⟩:=a;cases (show u=Value.ref b from r);obtain⟨its,r,pl,hz⟩:=I.tuple (.inl (.inl e));exact⟨b,its.toArray,rfl,rfl,pl,vI.of_vals (by simpa using r)⟩
end
end Dd
namespace L2
section
variable {prog:Program}{w:World}{A:Around}{R:Result->Shared->Prop}{s:Shared}{elt t1 i1 t2 i2:Expr}{scope:Scope}{pos:Pos}{it acc:Value}{env:Env}
theorem z7L:compTurn (.ListComp elt [⟨t1,i1,[],0⟩,⟨t2,i2,[],0⟩] scope pos) 0 it acc env=(standAt i1.pos >>= λ_=>pyNext it >>= λr=>match r with
  | none=>pure (.done .next) | some v=>letOwnedTupleGo t1 it v >>= λ_=>assign t1 env v >>= λ_=>eval i2 env >>= λx=>standAt i2.pos >>= λ_=>foldedSetIterable i2 env x >>= λx=>holding [x] (pyIter x) >>= λjt=> runOwn (.compStart (.ListComp elt [⟨t1,i1,[],0⟩,⟨t2,i2,[],0⟩] scope pos) 1 jt acc env) env >>= λ_=>again (.compLoop (.ListComp elt [⟨t1,i1,[],0⟩,⟨t2,i2,[],0⟩] scope pos) 0 it acc env)):=by rfl
theorem z7T:compTurn (.ListComp elt [⟨t1,i1,[],0⟩,⟨t2,i2,[],0⟩] scope pos) 1 it acc env=(standAt i2.pos >>= λ_=>pyNext it >>= λr=>match r with
  | none=>pure (.done .next) | some v=>letOwnedTupleGo t2 it v >>= λ_=>assign t2 env v >>= λ_=>(eval elt env >>= λx=>call (.builtin "list.append") [acc,x] >>= λ_=>pure ()) >>= λ_=> again (.compLoop (.ListComp elt [⟨t1,i1,[],0⟩,⟨t2,i2,[],0⟩] scope pos) 1 it acc env)):=by rfl
theorem z7H(I:Nat->Shared->Prop) (turn:∀n s,I n s->wpAny (model prog w) A (pyNext it) (λr s₁=>match r with
   | none=>R (.ok .next) s₁ | some v=>wpAny (model prog w) A (letOwnedTupleGo t2 it v) (λ_ s₁'=>wpAny (model prog w) A (assign t2 env v) (λ_ s₂=>wpAny (model prog w) A (eval elt env) (λx s₄=> wpAny (model prog w) A (call (.builtin "list.append") [acc,x]) (λ_ s₅=>∃m,m<n/\I m s₅) (λ_ _=>False) s₄) (λ_ _=>False) s₂) (λ_ _=>False) s₁') (λ_ _=>False) s₁) (λ_ _=>False) s) (n:Nat)(h:I n s):codeAny (model prog w) A (.compLoop (.ListComp elt [⟨t1,i1,[],0⟩,⟨t2,i2,[],0⟩] scope pos) 1 it acc env) R s:=by
 refine codeAny_loop rfl I (λn s hI=>?_) n h;show wpAny _ A ((compTurn (.ListComp elt [⟨t1,i1,[],0⟩,⟨t2,i2,[],0⟩] scope pos) 1 it acc env).onRaise (λx=>do noteFrame x env;theTreesLotGoes x)) _ _ s;refine wpAny_noted ?_;rw[z7T];refine _a (_aO (_a (_E (turn n s hI) (λr s₁ h₁=>?_) λ_ _ h'=>h'.elim)));cases r with
 | none=>exact _e h₁ | some v=>
  refine _a (_E h₁ (λ_ s₁' h₁'=>_a (_E h₁' (λ_ s₂ h₂=>?_) λ_ _ h'=>h'.elim)) λ_ _ h'=>h'.elim);exact _a (_a (_E h₂ (λx s₄ h₄=>_a (_E h₄ (λ_ s₅ h₅=>_e (_e ⟨rfl,h₅⟩)) λ_ _ h'=>h'.elim)) λ_ _ h'=>h'.elim))
theorem z6Z(h0:codeAny (model prog w) A (.compLoop (.ListComp elt [⟨t1,i1,[],0⟩,⟨t2,i2,[],0⟩] scope pos) 1 it acc env) R s) (h:wpAny (model prog w) A (pyIter it) (λit' s'=>codeAny (model prog w) A (.compLoop (.ListComp elt [⟨t1,i1,[],0⟩,⟨t2,i2,[],0⟩] scope pos) 1 it' acc env) R s') (notedBy (model prog w) A env λx s'=>R (.error x) s') s): codeAny (model prog w) A (.compStart (.ListComp elt [⟨t1,i1,[],0⟩,⟨t2,i2,[],0⟩] scope pos) 1 it acc env) R s:=by
 refine codeAny_of_tree ?_;show wpAny _ _ ((compStart (.ListComp elt [⟨t1,i1,[],0⟩,⟨t2,i2,[],0⟩] scope pos) 1 it acc env).onRaise (λx=>do noteFrame x env;standAt theWindowsPlace)) _ _ s;refine wpAny_notedAt ?_;unfold compStart;show wpAny _ _ (ask >>= _) _ _ s;refine _a (_bb (wpAny_ite ?_));split;·first
   | exact _a (_e (_e (And.intro rfl h0))) | exact _e (And.intro rfl h0)
 ·first
   | exact _a (_aG (_a (_aO (_a (_E h (λit' s' h'=>_e (And.intro rfl h')) λ_ _ x=>x))))) | (refine _a (_aG ?_);show wpAny _ _ (standAt i2.pos >>= _) _ _ s;exact _a (_aO (_a (_E h (λit' s' h'=>_e (And.intro rfl h')) λ_ _ x=>x))))
theorem z8h(hs2:∀x,foldedSetIterable i2 env x=pure x)(I:Nat->Shared->Prop) (turn:∀n s,I n s->wpAny (model prog w) A (pyNext it) (λr s₁=>match r with
   | none=>R (.ok .next) s₁ | some v=>wpAny (model prog w) A (letOwnedTupleGo t1 it v) (λ_ s₁'=>wpAny (model prog w) A (assign t1 env v) (λ_ s₂=>wpAny (model prog w) A (eval i2 env) (λx s₃=>wpAny (model prog w) A (pyIter x) (λjt s₄=> codeAny (model prog w) A (.compStart (.ListComp elt [⟨t1,i1,[],0⟩,⟨t2,i2,[],0⟩] scope pos) 1 jt acc env) (λr s₅=>match r with | .ok _=>∃m,m<n/\I m s₅ | .error _=>False) s₄) (λ_ _=>False) s₃) (λ_ _=>False) s₂) (λ_ _=>False) s₁') (λ_ _=>False) s₁) (λ_ _=>False) s) (n:Nat)(h:I n s):codeAny (model prog w) A (.compLoop (.ListComp elt [⟨t1,i1,[],0⟩,⟨t2,i2,[],0⟩] scope pos) 0 it acc env) R s:=by
 refine codeAny_loop rfl I (λn s hI=>?_) n h;show wpAny _ A ((compTurn (.ListComp elt [⟨t1,i1,[],0⟩,⟨t2,i2,[],0⟩] scope pos) 0 it acc env).onRaise (λx=>do noteFrame x env;theTreesLotGoes x)) _ _ s;refine wpAny_noted ?_;rw[z7L];refine _a (_aO (_a (_E (turn n s hI) (λr s₁ h₁=>?_) λ_ _ h'=>h'.elim)));cases r with
 | none=>exact _e h₁ | some v=>
  refine _a (_E h₁ (λ_ s₁' h₁'=>_a (_E h₁' (λ_ s₂ h₂=>?_) λ_ _ h'=>h'.elim)) λ_ _ h'=>h'.elim);refine _a (_E h₂ (λx s₃ h₃=>_a (_aO (_a (_cw (hs2 x) ?_)))) λ_ _ h'=>h'.elim);refine _a (_az (_E h₃ (λjt s₄ h₄=>?_) λ_ _ h'=>h'.elim));refine _a (wpAny_runOwn (_bS h₄ λr s₅ h₅=>?_));cases r with
  | ok f=>exact _e ⟨rfl,h₅⟩ | error e=>exact h₅.elim
end
def zbt(wi:TI)(mp:List (Option Nat))(k1 k2:Nat)(wi2:TI)(te:TE):TE:=λO H Q=>wi O H λJ H1=>∃W:Nat->Nat->List V->Hp->Prop,(∃m,W 0 m [] H1)/\∀i m ys H,W i m ys H-> (J.stop i H/\ys.length<=sizeLine/\∀p,H p=none->Q (.ref p) (upd H p (.lst ys)))\/ (J.go i H/\∀x H',J.yld i H x H'->wi2 ((inner mp O).set k1 (some x)) H' λJ2 H3=>∃W2:Nat->Nat->List V->Hp->Prop,(∃m2,W2 0 m2 ys H3)/\∀j m2 ys2 H4,W2 j m2 ys2 H4-> (J2.stop j H4/\∃m',m'<m/\W (i+1) m' ys2 H4)\/ (J2.go j H4/\∀x2 H5,J2.yld j H4 x2 H5->te (((inner mp O).set k1 (some x)).set k2 (some x2)) H5 λy H6=>ys2.length<=sizeLine/\∃m',m'<m2/\W2 (j+1) m' (ys2++[y]) H6))
theorem z3S{O:St}{i:Nat}{v:V}(h:O[i]? = some none):(O.set i (some v)).length=O.length/\∀(j:Nat) u,O[j]? = some (some u)->(O.set i (some v))[j]? = some (some u):=by
 refine⟨by simp,λj u e=>?_⟩;have:i≠j:=λz=>by subst z;rw[h]at e;cases e
 rw[_K this];exact e
theorem z5b {X:Cx} {tg iter tg2 iter2 elt:Expr} {scope:Scope} {pos:Pos} {wi2:TI} {te:TE} {N':List Str} {mp:List (Option Nat)} {k1 k2:Nat} {pins:List (Addr×Obj)} {O:St} {Q:VK} {J:It} {H2:Hp} {s₂:Shared} {it:Addr} {fp:List Addr} {tn:Nat->Heap->Prop} {E:Value->Shared->Prop} {RR:Value->Addr->Result->Shared->Prop} (hc:X.calm=true) (hm1:mp[k1]? = some none) (hm2:mp[k2]? = some none) (hk:k1≠k2) (hg:∀ex s H,PG (zk X N' scope ex s H) tg (kW k1)) (hg2:∀ex s H,PG (zk X N' scope ex s H) tg2 (kW k2)) (hi2:∀ex s H,PI (zk X N' scope ex s H) tg2 iter2 wi2) (he:∀ex s H,PE (zk X N' scope ex s H) elt te) (hs2:∀env x,foldedSetIterable iter2 env x=pure x) (hkd:scope.kind=.function) (hnm:∀y∈scope.names,scope.names.lookup y.1=some y.2) (hfr:∀y∈scope.names,y.2=.free->X.env.kindOf y.1=some .cell\/X.env.kindOf y.1=some .free) (hmp:z0j X.N scope.names N' mp=true) (I2:Inv X pins O H2 s₂) (T:zbW X.prog X.w X.K tg J fp it tn) (st2:tn 0 s₂.heap) (f2:∀b∈fp,z2h X pins H2 b) (W:Nat->Nat->List V->Hp->Prop) (w0:∃m,W 0 m [] H2) (turn:∀i m ys H,W i m ys H-> (J.stop i H/\ys.length<=sizeLine/\∀p,H p=none->Q (.ref p) (upd H p (.lst ys)))\/ (J.go i H/\∀x H',J.yld i H x H'->wi2 ((inner mp O).set k1 (some x)) H' λJ2 H3=>∃W2:Nat->Nat->List V->Hp->Prop,(∃m2,W2 0 m2 ys H3)/\∀j m2 ys2 H4,W2 j m2 ys2 H4-> (J2.stop j H4/\∃m',m'<m/\W (i+1) m' ys2 H4)\/ (J2.go j H4/\∀x2 H5,J2.yld j H4 x2 H5->te (((inner mp O).set k1 (some x)).set k2 (some x2)) H5 λy H6=>ys2.length<=sizeLine/\∃m',m'<m2/\W2 (j+1) m' (ys2++[y]) H6))) (hRR:∀acc C s',jA X pins O C Q acc s'->RR acc C (.ok .next) s'): wpAny (model X.prog X.w) X.A (newList []) (λacc s₃=>wpAny (model X.prog X.w) X.A (newFunctionEnv scope X.env.globals (z36 X.env scope.names []) [] X.env.qual none .none (some X.env)) (λcenv s₄=> codeAny (model X.prog X.w) X.A (.compStart (.ListComp elt [⟨tg,iter,[],0⟩,⟨tg2,iter2,[],0⟩] scope pos) 0 (.ref it) acc {cenv with scope:=relabel scope X.env}) (RR acc cenv.locals) s₄) E s₃) E s₂:=by
 refine _ac ?_;have hf2:H2 s₂.heap.objs.size=none:=I2.hok.fresh (_d _);have fA:z2h X pins H2 s₂.heap.objs.size:=I2.fpOk (_d _) hf2;generalize hacc:s₂.heap.objs.size=acc at hf2 fA ⊢;have I3:Inv X pins O H2 {s₂ with heap:=s₂.heap.push {cls:=.type "list",data:=.seq ([]:List Value).toArray}}:=I2.kept (t':=s₂.toks) λb o e=>_f _ e;have ha3:(s₂.heap.push {cls:=.type "list",data:=.seq ([]:List Value).toArray}).get? acc=some (LCg.lst []):=by rw[<- hacc];exact _s _ rfl
 have sz3:(s₂.heap.push {cls:=.type "list",data:=.seq ([]:List Value).toArray}).objs.size=acc+1:=by rw[_aw,hacc]
 have kp3:∀b o,s₂.heap.get? b=some o->(s₂.heap.push {cls:=.type "list",data:=.seq ([]:List Value).toArray}).get? b=some o:=λb o e=>_f _ e;show wpAny _ _ _ _ _ {s₂ with heap:=s₂.heap.push {cls:=.type "list",data:=.seq ([]:List Value).toArray}};generalize hs3:({s₂ with heap:=s₂.heap.push {cls:=.type "list",data:=.seq ([]:List Value).toArray}}:Shared)=s₃ at I3 ⊢;have ha3':s₃.heap.get? acc=some (LCg.lst []):=by rw[<- hs3];exact ha3
 have sz3':s₃.heap.objs.size=acc+1:=by rw[<- hs3];exact sz3
 have kp3':∀b o,s₂.heap.get? b=some o->s₃.heap.get? b=some o:=by rw[<- hs3];exact kp3
 have flt:∀b∈fp,b<acc:=λb hb=>by
  obtain⟨o,e,_⟩:=T.obj 0 _ st2 b hb;rw[<- hacc];exact _o e
 have fne:∀b∈fp,b≠acc:=λb hb=>_C (flt b hb);have tn3:tn 0 s₃.heap:=T.keep 0 _ _ st2 λb hb o e=>kp3' b o e;refine z1A ?_;rw[wD];have hex:∀b∈acc::fp,b<s₃.heap.objs.size/\H2 b=none/\b≠X.env.locals/\b∉X.fs/\(b∈X.ex\/X.s₀.heap.objs.size<=b)/\(∀x c,X.env.cells.lookup x=some c->c≠b):=λb hb=>by
  rcases _j.mp hb with z | hb
  ·subst z;exact⟨by rw[sz3'];exact _ba _,hf2,fA.2.1,fA.2.2.1,fA.2.2.2.1,fA.2.2.2.2.1⟩
  ·have q:=f2 b hb;exact⟨by rw[sz3'];exact _at (flt b hb),q.1,q.2.1,q.2.2.1,q.2.2.2.1,q.2.2.2.2.1⟩
 have I4:=z2f (N':=N') (mp:=mp) (ex:=acc::fp) (s1:={s₃ with heap:=pushCells (s₃.heap.push {cls:=.type "dict",data:=.dict #[]}) scope.names}) I3 hkd hnm hfr hmp hex rfl rfl rfl;have kp4:∀b o,s₃.heap.get? b=some o->(pushCells (s₃.heap.push {cls:=.type "dict",data:=.dict #[]}) scope.names).get? b=some o:=λb o e=>_cB _ _ b o (_f _ e);generalize hs4:({s₃ with heap:=pushCells (s₃.heap.push {cls:=.type "dict",data:=.dict #[]}) scope.names}:Shared)=s₄ at I4 ⊢;have ha4:s₄.heap.get? acc=some (LCg.lst []):=by rw[<- hs4];exact kp4 _ _ ha3'
 have tn4:tn 0 s₄.heap:=T.keep 0 _ _ tn3 λb hb o e=>by rw[<- hs4];exact kp4 b o e
 have Cne:acc≠s₃.heap.objs.size:=by rw[sz3'];exact _C (_ba _)
 have celln:∀b∈acc::fp,∀x c,(z5w X scope s₃.heap.objs.size).cells.lookup x=some c->c≠b:=λb hb=>(I4.ok.exf b hb).2;have stat:∀{H':Hp} {o:Obj},(∀b∈fp,H' b=none)->∀b∈fp,z2h (zk X N' scope (acc::fp) s₃ H2) [(acc,o)] H' b:=λ{H' o} hn b hb=> ⟨hn b hb,_C (by show b<s₃.heap.objs.size;rw[sz3'];exact _at (flt b hb)),λhf=>I4.ok.exfs b (_F _ hb) hf,.inl (_F _ hb),celln b (_F _ hb),λp hp=>by
   have e:p=(acc,o):=by simpa[zk] using hp
   rw[e];exact _bp (fne b hb)⟩;have accP:∀(its:List Value) (v:Option Value),(LCg.lst its).data≠.cell v:=λits v z=>by
  have z':Data.seq _ _=Data.cell v:=z;cases z'
 have pinA:∀{P:List (Addr×Obj)} {O':St} {H':Hp} {s':Shared} {its:List Value},Inv (zk X N' scope (acc::fp) s₃ H2) P O' H' s'->H' acc=none->s'.heap.get? acc=some (LCg.lst its)->Inv (zk X N' scope (acc::fp) s₃ H2) ([(acc,LCg.lst its)]++P) O' H' s':=λ{P O' H' s' its} J' n' e'=> J'.pins_of λp hp=>by
   rcases _L.mp hp with hp | hp
   ·have e:p=(acc,LCg.lst its):=by simpa using hp
    subst e;exact⟨e',n',Cne,λhf=>I4.ok.exfs acc _T hf,accP its⟩
   ·exact J'.pin p (_y _ hp)
 obtain⟨m0,w0⟩:=w0;have loop:codeAny (model X.prog X.w) X.A (.compLoop (.ListComp elt [⟨tg,iter,[],0⟩,⟨tg2,iter2,[],0⟩] scope pos) 0 (.ref it) (.ref acc) (z5w X scope s₃.heap.objs.size)) (RR (.ref acc) s₃.heap.objs.size) s₄:=by
  refine z8h (hs2 _) (λn s'=>∃i ys its H',Inv (zk X N' scope (acc::fp) s₃ H2) [] (inner mp O) H' s'/\tn i s'.heap/\(∀b∈fp,H' b=none)/\H' acc=none/\s'.heap.get? acc=some (LCg.lst its)/\xt ys its/\W i n ys H') ?_ m0 ⟨0,[],[],H2,I4,tn4,λb hb=>(f2 b hb).1,hf2,ha4,.nil,w0⟩;rintro n s5 ⟨i,ys,its,H5,I5,tn5,n5,na5,ea5,rv5,w5⟩;have I5':Inv (zk X N' scope (acc::fp) s₃ H2) [(acc,LCg.lst its)] (inner mp O) H5 s5:=pinA I5 na5 ea5;rcases turn i n ys H5 w5 with⟨stop,hz,q⟩ | ⟨go,step⟩
  ·refine _E (T.done (zk X N' scope (acc::fp) s₃ H2) rfl rfl rfl hc i _ s5 _ H5 (λ_ _=>False) I5' (stat n5) tn5 stop) (λr s6 ⟨hr,I6⟩=>?_) λ_ _ z=>z;subst hr;have ea6:=(I6.pin (acc,LCg.lst its) (by simp)).1;have un:Un (frs X.stack) (acc::fp) H2 H5 s₃.heap s6.heap:=I6.base;have I7:Inv X pins O H5 s6:=I3.call' (s':=s6) (I6.os) un I6.hok I6.bare λb hb=>by
    rcases _j.mp hb with z | hb;·subst z;exact⟨fA.2.2.2.1,fA.2.1,fA.2.2.2.2.1,fA.2.2.2.2.2⟩
    ·exact⟨(f2 b hb).2.2.2.1,(f2 b hb).2.1,(f2 b hb).2.2.2.2.1,(f2 b hb).2.2.2.2.2⟩
   have C7:z2h X pins H5 s₃.heap.objs.size:=I3.fpOk (_d _) I6.free;refine hRR _ _ s6 ⟨.ref acc,upd H5 acc (.lst ys),I7.track ⟨na5,fA.2⟩ ?_,rfl,q acc na5,?_,?_,C7.2⟩;·exact⟨hz,its,_,rv5,ea6⟩
   ·obtain⟨m,hm,_⟩:=I6.loc;exact⟨m,hm⟩
   ·rw[zf (_bp Cne)];exact I6.free
  ·refine _E (T.item (zk X N' scope (acc::fp) s₃ H2) rfl rfl rfl hc i _ s5 _ H5 (λ_ _=>False) I5' (stat n5) tn5 go) (λr s6 ⟨u,hr,h6⟩=>?_) λ_ _ z=>z;subst hr;refine _E h6 (λ_ s7 ⟨x,H7,I7,r7,y7,tn7,n7⟩=>?_) λ_ _ z=>z;have I7':=I7.pinned (stat n7) (T.obj _ _ tn7);generalize hP:z2a fp s7.heap=P7 at I7';have inP:∀b∈fp,∀o,s7.heap.get? b=some o->(b,o)∈P7:=λb hb o e=>by rw[<- hP];exact uA hb e
   have back:∀{O':St} {H':Hp} {s':Shared} {its':List Value},Inv (zk X N' scope (acc::fp) s₃ H2) ([(acc,LCg.lst its')]++P7) O' H' s'->(∀b∈fp,H' b=none)/\H' acc=none/\s'.heap.get? acc=some (LCg.lst its')/\tn (i+1) s'.heap:=λ{O' H' s' its'} J'=>by
    have z:=J'.pin (acc,LCg.lst its') (by simp[zk]);have zz:∀b∈fp,∀o,s7.heap.get? b=some o->s'.heap.get? b=some o/\H' b=none:=λb hb o e=>by
     have y:=J'.pin (b,o) (_y _ (_y _ (inP b hb o e)));exact⟨y.1,y.2.1⟩
    refine⟨λb hb=>?_,z.2.1,z.1,T.keep _ _ _ tn7 λb hb o e=>(zz b hb o e).1⟩;obtain⟨o,e,_⟩:=T.obj _ _ tn7 b hb;exact (zz b hb o e).2
   have ow1:(inner mp O)[k1]? = some none:=by simp[L2.inner,hm1]
   have kp1:=z3S (v:=x) ow1;have ow2:((inner mp O).set k1 (some x))[k2]? = some none:=by rw[_K hk];simp[L2.inner,hm2]
   refine _E (hg _ _ _ _ s7 (inner mp O) H7 x u (λO8 H8=>O8=(inner mp O).set k1 (some x)/\H8=H7) I7' r7 ⟨rfl,rfl⟩) (λ_ s8 ⟨O8,H8,I8,e8,e8'⟩=>?_) λ_ _ z=>z;subst e8 e8';refine _E (hi2 _ _ _ _ s8 _ H8 _ I8 (step x H8 y7)) (λxv s9 h9=>?_) λ_ _ z=>z;refine _E h9 (λjt s10 h10=>?_) λ_ _ z=>z;obtain⟨it2,fp2,tn2,J2,H10,e10,I10,T2,st10,f10,W2,⟨m2,v0⟩,turn2⟩:=h10;subst e10;obtain⟨_,na10,ea10,_⟩:=back I10;have stat2:∀{H':Hp} {its':List Value},(∀b∈fp2,H' b=none)->∀b∈fp2,z2h (zk X N' scope (acc::fp) s₃ H2) ([(acc,LCg.lst its')]++P7) H' b:=λ{H' its'} hn b hb=>by
    obtain⟨q1,q2,q3,q4,q5,q6⟩:=f10 b hb;refine⟨hn b hb,q2,q3,q4,q5,λp hp=>?_⟩;rcases _L.mp hp with hp | hp;·exact q6 p (_aJ _ hp)
    ·rcases _L.mp hp with hp | hp
     ·have e:p=(acc,LCg.lst its'):=by simpa using hp
      rw[e];exact q6 (acc,LCg.lst its) (_y _ (_aJ _ (by simp)))
     ·exact q6 p (_y _ (_y _ hp))
   have unA:∀{O':St} {H':Hp} {s':Shared} {its':List Value},Inv (zk X N' scope (acc::fp) s₃ H2) ([(acc,LCg.lst its')]++P7) O' H' s'->Inv (zk X N' scope (acc::fp) s₃ H2) P7 O' H' s':=λJ'=>J'.pins_of λp hp=>J'.pin p (_y _ (_y _ hp));have zae:codeAny (model X.prog X.w) X.A (.compLoop (.ListComp elt [⟨tg,iter,[],0⟩,⟨tg2,iter2,[],0⟩] scope pos) 1 (.ref it2) (.ref acc) (z5w X scope s₃.heap.objs.size)) (λr s'=>match r with | .ok _=>∃m,m<n/\∃i ys its H',Inv (zk X N' scope (acc::fp) s₃ H2) [] (inner mp O) H' s'/\tn i s'.heap/\(∀b∈fp,H' b=none)/\H' acc=none/\s'.heap.get? acc=some (LCg.lst its)/\xt ys its/\W i m ys H' | .error _=>False) s10:=by
    refine z7H (λn' s'=>∃j ys2 its2 H',Inv (zk X N' scope (acc::fp) s₃ H2) P7 ((inner mp O).set k1 (some x)) H' s'/\tn2 j s'.heap/\(∀b∈fp2,H' b=none)/\H' acc=none/\s'.heap.get? acc=some (LCg.lst its2)/\xt ys2 its2/\W2 j n' ys2 H') ?_ m2 ⟨0,ys,its,H10,unA I10,st10,λb hb=>(f10 b hb).1,na10,ea10,rv5,v0⟩;rintro n' s11 ⟨j,ys2,its2,H11,I11,tn11,n11,na11,ea11,rv11,v11⟩;have I11':=pinA I11 na11 ea11;rcases turn2 j n' ys2 H11 v11 with⟨stop2,m',lt,w12⟩ | ⟨go2,step2⟩
    ·refine _E (T2.done (zk X N' scope (acc::fp) s₃ H2) rfl rfl rfl hc j _ s11 _ H11 (λ_ _=>False) I11' (stat2 n11) tn11 stop2) (λr s12 ⟨hr,I12⟩=>?_) λ_ _ z=>z;subst hr;obtain⟨z1,z2,z3,z4⟩:=back I12;exact⟨m',lt,i+1,ys2,its2,H11,(I12.pins_of (pins':=[]) (λp hp=>absurd hp (by simp))).weak kp1.1.symm kp1.2,z4,z1,z2,z3,rv11,w12⟩
    ·refine _E (T2.item (zk X N' scope (acc::fp) s₃ H2) rfl rfl rfl hc j _ s11 _ H11 (λ_ _=>False) I11' (stat2 n11) tn11 go2) (λr s12 ⟨u2,hr,h12⟩=>?_) λ_ _ z=>z;subst hr;refine _E h12 (λ_ s13 ⟨x2,H13,I13,r13,y13,tn13,n13⟩=>?_) λ_ _ z=>z;have I13':=I13.pinned (stat2 n13) (T2.obj _ _ tn13);have kp2:=z3S (v:=x2) ow2;refine _E (hg2 _ _ _ _ s13 _ H13 x2 u2 (λO14 H14=>O14=((inner mp O).set k1 (some x)).set k2 (some x2)/\H14=H13) I13' r13 ⟨rfl,rfl⟩) (λ_ s14 ⟨O14,H14,I14,e14,e14'⟩=>?_) λ_ _ z=>z;subst e14 e14';refine _E (he _ _ _ _ s14 _ H14 _ I14 (step2 x2 H14 y13)) (λyv s15 ⟨y,H15,I15,r15,hz,m',lt,v15⟩=>?_) λ_ _ z=>z;have I15u:Inv (zk X N' scope (acc::fp) s₃ H2) ([(acc,LCg.lst its2)]++P7) _ H15 s15:=I15.unpinned;obtain⟨z1,z2,z3,z4⟩:=back I15u;have zz:∀b∈fp2,∀o,s13.heap.get? b=some o->s15.heap.get? b=some o/\H15 b=none:=λb hb o e=>by
      have y:=I15.pin (b,o) (_y _ (_y _ (uA hb e)));exact⟨y.1,y.2.1⟩
     have fne2:∀b∈fp2,b≠acc:=λb hb=>by
      have:=(f10 b hb).2.2.2.2.2 (acc,LCg.lst its) (_y _ (_aJ _ (by simp)));exact _bp this
     have zl:its2.toArray.size<=sizeLine:=by rw[_k,<- rv11.length];exact hz
     refine append_at (hsz:=zl) z3 λh16 sb ea16=>?_;have I15w:=(unA I15u).weak kp2.1.symm kp2.2;have aP:∀p∈(zk X N' scope (acc::fp) s₃ H2).pn++P7,p.1≠acc:=λp hp=>by
      have hp':p∈P7:=by simpa[zk] using hp
      rw[<- hP]at hp';obtain⟨b,hb,e⟩:=_cT.mp hp';obtain⟨o,_,e2⟩:=_D.mp e;rw[<- e2];exact fne b hb
     have I16:Inv (zk X N' scope (acc::fp) s₃ H2) P7 ((inner mp O).set k1 (some x)) H15 {s15 with heap:=h16}:=I15w.turned (t':=s15.toks) (λb o hb e=>(sb.2 b hb).trans e) z2 Cne (.inl _T) (celln acc _T) aP;refine⟨m',lt,j+1,ys2++[y],its2++[yv],H15,I16,T2.keep _ _ _ tn13 (λb hb o e=>(sb.2 b (fne2 b hb)).trans (zz b hb o e).1),λb hb=>?_,z2,ea16.trans (_a5 some (LCg.lst_snoc its2 yv)),rv11.append (.cons r15 .nil),v15⟩;obtain⟨o,e,_⟩:=T2.obj _ _ tn13 b hb;exact (zz b hb o e).2
   exact z6Z zae (T2.self _ 0 _ _ _ st10 zae)
 exact codeAny_compStart_list loop (T.self _ 0 _ _ _ tn4 loop)
section
variable {X:Cx}{tg iter tg2 iter2 elt:Expr}{scope:Scope}{pos spos py:Pos}{wi wi2:TI}{te:TE}{k1 k2:Nat}
theorem z4Z {i:Nat} {y:Str} (N':List Str) (mp:List (Option Nat)) (hN:X.N.Nodup) (hy:X.N[i]? = some y) (hyl:Loc X.env.scope y) (hc:X.calm=true) (hm1:mp[k1]? = some none) (hm2:mp[k2]? = some none) (hk:k1≠k2) (hi:PI X tg iter wi) (hg:∀ex s H,PG (zk X N' scope ex s H) tg (kW k1)) (hg2:∀ex s H,PG (zk X N' scope ex s H) tg2 (kW k2)) (hi2:∀ex s H,PI (zk X N' scope ex s H) tg2 iter2 wi2) (he:∀ex s H,PE (zk X N' scope ex s H) elt te) (hs2:∀env x,foldedSetIterable iter2 env x=pure x) (hkd:scope.kind=.function) (hnm:∀y∈scope.names,scope.names.lookup y.1=some y.2) (hfr:∀y∈scope.names,y.2=.free->X.env.kindOf y.1=some .cell\/X.env.kindOf y.1=some .free) (hmp:z0j X.N scope.names N' mp=true) (hs:∀x,foldedSetIterable iter X.env x=pure x:=by intro _;rfl) (hsw:swapsWith (.ListComp elt [⟨tg,iter,[],0⟩,⟨tg2,iter2,[],0⟩] scope pos) (some (.Name y py)) spos.line X.env=pure true:=by rfl) (hf:X.fn y=true\/X.env.scope.names.lookup y=some .local:=by first | exact .inl rfl | exact .inr rfl | assumption): PS X (.Assign [.Name y py] (.ListComp elt [⟨tg,iter,[],0⟩,⟨tg2,iter2,[],0⟩] scope pos) spos) (λD O H=>zbt wi mp k1 k2 wi2 te O H (z62 λv H'=>D.nx (O.set i (some v)) H')):=by
 intro pins s O H D I h;rw[_cp _ _ _ _ hsw];refine _a (_aO (_a ?_));show wpAny _ X.A (do let _ <- comprehension (.ListComp elt [⟨tg,iter,[],0⟩,⟨tg2,iter2,[],0⟩] scope pos) scope X.env _ (newList []) false (eval iter X.env) (some (assign (.Name y py) X.env))) _ _ s;refine _a (_E (_bu (use:=some (assign (.Name y py) X.env)) (Q:=λ_ s'=>SP X pins D .next s') rfl hs (vC λy hy hf=>I.ok.has _ (hfr y hy hf)) hkd (λy hy hl=>by rw[hnm y hy,hl]) (thn (hi pins s O H _ I h) λxv s₁ h₁=>thn h₁ λitv s₂ h₂=>?_)) (λ_ s' hq=>_e (_e hq)) λ_ _ e=>e);obtain⟨it,fp,tn,J,H2,e,I2,T,st2,f2,W,w0,turn⟩:=h₂;subst e;refine z5b (N':=N') (mp:=mp) (O:=O) (pins:=pins) (Q:=z62 λv H'=>D.nx (O.set i (some v)) H') (RR:=λacc C=>compPost (model X.prog X.w) X.A X.xe (some (assign (.Name y py) X.env)) (λ_ s'=>SP X pins D .next s') acc C) hc hm1 hm2 hk hg hg2 hi2 he hs2 hkd hnm hfr hmp I2 T st2 f2 W w0 turn ?_;intro acc C s' hd;obtain⟨v,Hf,I3,r,q,⟨m,hm⟩,f⟩:=hd.freeze;refine _b9 (jR I3 hN hy hyl r (λs'' I4 ⟨a,sb,ha⟩=>?_) hf);have hC:C≠a:=by
  rcases ha with z | z;·rw[z];exact f.2.1
  ·exact _bp (f.2.2.2.2.1 y a z)
 exact⟨m,hm.sameBut sb hC,λh' sb'=>⟨_,Hf,uT I4 f sb',q⟩⟩
end
end L2
namespace Dd
open L2
open Classical in
def z2F(g:List (Nat×List D))(all:List D)(body:D->List D->Sto->R (List D)):List D->List D->Sto->R (List D)
 | [],acc,s=>if okG g all s then .ok acc s else .no | x::xs,acc,s=>if okG g all s then (body x acc s).bind λacc' s1=>z2F g all body xs acc' s1 else .no
def z65(fi:FI)(mp:List (Option Nat))(k1 k2:Nat)(fi2:FI)(fe:FE):FA:=fun ρ s=>(fi ρ s).bind λit s1=>z2F it.2 it.1 (λd acc s=>(fi2 ((yi mp ρ).set k1 (some d)) s).bind λit2 s2=>wo it2.2 it2.1 (λd2 s=>(fe (((yi mp ρ).set k1 (some d)).set k2 (some d2)) s).bind λd s3=>.ok (some d) s3) it2.1 acc s2) it.1 [] s1
section
variable {X:Cx}{E:XK}{tg iter tg2 iter2 elt:Expr}{pos spos py:Pos}{mp:List (Option Nat)}{k1 k2:Nat}{fi fi2:FI}{fe:FE}{scope:Scope}
theorem z9e{O:L2.St}{H:Hp}{Q:VK}{Y:List Addr}{ρ:Ev}{s:Sto}{β:Type}{kR:List D->Sto->R β}{β2:Type}{Dn:Hp->List Addr->β->β2->Prop}{Q2:β2->Hp->Prop}(r:Rep (gm X) H Y s)(en:vA (gm X) H Y ρ O) (h:okR (gm X) E H Y Dn ((z65 fi mp k1 k2 fi2 fe ρ s).bind kR) Q2) (fin:∀H1 Y1 s1 xs vs,Rep (gm X) H1 Y1 s1->vA (gm X) H1 Y1 ρ O->zA (gm X) H1 Y1 xs vs->okR (gm X) E H1 Y1 Dn (kR xs s1) Q2->xs.length<=cap->∀p,H1 p=none->Q (.ref p) (upd H1 p (.lst vs))): zbt (tI (gm X) E fi) mp k1 k2 (tI (gm X) E fi2) (tE (gm X) E fe) O H Q:=by
 unfold z65 at h;have assoc:∀{α γ δ:Type}(x:R α)(f:α->Sto->R γ)(k:γ->Sto->R δ),(x.bind f).bind k=x.bind λa s=>(f a s).bind k:=λx f k=>by cases x<;>rfl
 rw[assoc]at h;refine⟨Y,ρ,s,r,en,(okR.bind (Dn:=zai (gm X)) h).imp λJ H1 ⟨Y1,s1,it,stp,ok,h1⟩=>?_⟩;obtain⟨items,gd⟩:=it;simp only at h1;generalize hb:(λ(d:D)(acc:List D)(s:Sto)=>(fi2 ((yi mp ρ).set k1 (some d)) s).bind λit2 s2=>wo it2.2 it2.1 (λd2 s=>(fe (((yi mp ρ).set k1 (some d)).set k2 (some d2)) s).bind λd s3=>R.ok (some d) s3) it2.1 acc s2)=body at h1;refine⟨λi m ys H=>∃Y s acc,yA (gm X) H1 Y1 H Y s/\zA (gm X) H Y acc ys/\acc.length<=cap/\m=items.length-i/\i<=items.length/\okR (gm X) E H Y Dn ((z2F gd items body (items.drop i) acc s).bind kR) Q2, ⟨items.length,Y1,s1,[],.refl stp.rep,zA.nil,_aT _,by simp,_aT _,by simpa using h1⟩,?_⟩;rintro i m ys H2 ⟨Y2,s2,acc,stp2,dn2,hcap,rfl,hil,h2⟩;have en2:vA (gm X) H2 Y2 ρ O:=(en.mono stp).mono stp2;by_cases hlt:i<items.length
 ·right;rw[_aV hlt,z2F]at h2;split at h2
  ·rename_i hG;obtain⟨go,yl⟩:=((ok H2 Y2 s2 stp2 hG i).1 items[i] (_r hlt));refine⟨go,λx H' y=>?_⟩;obtain⟨Y3,stp3,dn3⟩:=yl x H' y;have h3:=okR.rebase h2 stp3;rw[<- hb]at h3;simp only at h3;rw[hb,assoc,assoc]at h3;have en3:vA (gm X) H' Y3 ((yi mp ρ).set k1 (some items[i])) ((inner mp O).set k1 (some x)):=((en2.mono stp3).inner).set dn3 k1;refine⟨Y3,(yi mp ρ).set k1 (some items[i]),s2,stp3.rep,en3,(okR.bind (Dn:=zai (gm X)) h3).imp λJ2 H4 ⟨Y4,s4,it2,stp4,ok2,h4⟩=>?_⟩;obtain⟨items2,gd2⟩:=it2;simp only at h4;generalize hb2:(λ(d2:D)(s:Sto)=>(fe (((yi mp ρ).set k1 (some items[i])).set k2 (some d2)) s).bind λd s3=>R.ok (some d) s3)=body2 at h4;have all4:yA (gm X) H1 Y1 H4 Y4 s4:=(stp2.trans stp3).trans stp4;refine⟨λj m2 ys2 H=>∃Y s acc2,yA (gm X) H4 Y4 H Y s/\zA (gm X) H Y acc2 ys2/\acc2.length<=cap/\m2=items2.length-j/\j<=items2.length/\okR (gm X) E H Y Dn ((wo gd2 items2 body2 (items2.drop j) acc2 s).bind λacc' s1=>(z2F gd items body (items.drop (i+1)) acc' s1).bind kR) Q2, ⟨items2.length,Y4,s4,acc,.refl stp4.rep,(dn2.mono stp3).mono stp4,hcap,by simp,_aT _,by simpa using h4⟩,?_⟩;rintro j m2 ys2 H5 ⟨Y5,s5,acc2,stp5,dn5,hcap2,rfl,hjl,h5⟩;have en5:vA (gm X) H5 Y5 ((yi mp ρ).set k1 (some items[i])) ((inner mp O).set k1 (some x)):=(en3.mono stp4).mono stp5;by_cases hlt2:j<items2.length
   ·right;rw[_aV hlt2,wo]at h5;split at h5
    ·rename_i hG2;obtain⟨go2,yl2⟩:=((ok2 H5 Y5 s5 stp5 hG2 j).1 items2[j] (_r hlt2));refine⟨go2,λx2 H6 y2=>?_⟩;obtain⟨Y6,stp6,dn6⟩:=yl2 x2 H6 y2;have h6:=okR.rebase h5 stp6;rw[<- hb2]at h6;simp only at h6;rw[hb2,assoc,assoc]at h6;have en6:=(en5.mono stp6).set dn6 k2;refine⟨Y6,((yi mp ρ).set k1 (some items[i])).set k2 (some items2[j]),s5,stp6.rep,en6,(okR.bind (Dn:=Den (gm X)) h6).imp λyv H7 ⟨Y7,s7,d7,stp7,dn7,h7⟩=>?_⟩;simp only[Rb]at h7;split at h7
     ·rename_i hcc;have all7:=(stp5.trans stp6).trans stp7;refine⟨by rw[dn5.length];exact qi hcap2,items2.length-(j+1),by omega,Y7,s7,acc2++[d7],all7,((dn5.mono stp6).mono stp7).append (zA.one dn7),by simp;omega,rfl,hlt2,h7⟩
     ·exact h7.elim
    ·exact h5.elim
   ·left;have e:j=items2.length:=by omega
    subst e;rw[_cs,wo]at h5;split at h5
    ·rename_i hG2;simp only[Rb]at h5;exact⟨(ok2 H5 Y5 s5 stp5 hG2 _).2 (_d _),items.length-(i+1),by omega,Y5,s5,acc2,all4.trans stp5,dn5,hcap2,rfl,hlt,h5⟩
    ·exact h5.elim
  ·exact h2.elim
 ·left;have e:i=items.length:=by omega
  subst e;rw[_cs,z2F]at h2;split at h2
  ·rename_i hG;simp only[Rb]at h2;exact⟨(ok H2 Y2 s2 stp2 hG _).2 (_d _),by rw[dn2.length];exact qi hcap,fin H2 Y2 s2 acc ys stp2.rep en2 dn2 h2 hcap⟩
  ·exact h2.elim
def z4H(fi:FI)(mp:List (Option Nat))(k1 k2:Nat)(fi2:FI)(fe:FE):FE:=fun ρ s=>(z65 fi mp k1 k2 fi2 fe ρ s).bind λxs s1=>.ok (.lst xs) s1
theorem zcu (i:Nat) {y:Str} (N':List Str) (mp:List (Option Nat)) (k1 k2:Nat) (hN:X.N.Nodup) (hc:X.calm=true) (hi:RI X E tg iter fi) (hg:∀ex s H,PG (zk X N' scope ex s H) tg (kW k1)) (hg2:∀ex s H,PG (zk X N' scope ex s H) tg2 (kW k2)) (hi2:∀ex s H,RI (zk X N' scope ex s H) E tg2 iter2 fi2) (he:∀ex s H,RE (zk X N' scope ex s H) E elt fe) (hm1:mp[k1]? = some none:=by rfl) (hm2:mp[k2]? = some none:=by rfl) (hk:k1≠k2:=by decide) (hs2:∀env x,foldedSetIterable iter2 env x=pure x:=by intro _ _;rfl) (hkd:scope.kind=.function:=by rfl) (hnm:z6E scope.names=true:=by rfl) (hfr:z7a X.env.kindOf scope.names=true:=by rfl) (hmp:z0j X.N scope.names N' mp=true:=by rfl) (hy:X.N[i]? = some y:=by rfl) (hyl:Loc X.env.scope y:=by first | exact Or.inl rfl | exact Or.inr rfl) (hs:∀x,foldedSetIterable iter X.env x=pure x:=by intro _;rfl) (hsw:swapsWith (.ListComp elt [⟨tg,iter,[],0⟩,⟨tg2,iter2,[],0⟩] scope pos) (some (.Name y py)) spos.line X.env=pure true:=by rfl) (hf:X.fn y=true\/X.env.scope.names.lookup y=some .local:=by first | exact .inl rfl | exact .inr rfl | assumption): RS X E (.Assign [.Name y py] (.ListComp elt [⟨tg,iter,[],0⟩,⟨tg2,iter2,[],0⟩] scope pos) spos) (wq i (z4H fi mp k1 k2 fi2 fe)):= vZ (z4Z (te:=tE (gm X) E fe) (wi2:=tI (gm X) E fi2) N' mp hN hy hyl hc hm1 hm2 hk hi hg hg2 (λex s H=>hi2 ex s H) (λex s H=>he ex s H) hs2 hkd (jO hnm) (jw hfr) hmp hs hsw hf) λD O H ⟨Y,ρ,s,r,en,h⟩=>by
  have assoc:∀{α γ δ:Type} (x:R α) (f:α->Sto->R γ) (k:γ->Sto->R δ),(x.bind f).bind k=x.bind λa s=>(f a s).bind k:=λx f k=>by cases x<;>rfl
  unfold wq z4H at h;rw[assoc]at h;refine z9e r en h λH1 Y1 s1 xs vs r1 en1 dn h1 hcap p hp=>?_;refine js (E:=E) (mg:=gm X) (xs:=xs) r1 (λv H2 Y2 stp dn2=>?_) dn p hp;exact h1 (.nx (O.set i (some v))) H2 Y2 stp ((en1.mono stp).set dn2 i)
end
end Dd
namespace L2
def z9G:V->List V->Hp->VK->Prop:=λx vs H Q=>∃l b xs zs,x=.ref l/\vs=[.ref b]/\H l=some (.lst xs)/\Rd H b (.lst zs)/\xs.length+zs.length<=sizeLine/\Q .non (upd H l (.lst (xs++zs)))
theorem z7m{X:Cx}:MtM X "list.extend" z9G:=by
 intro pins s O H x vs v us Q I rx rv h;obtain⟨l,b,xs,zs,rfl,rfl,hH,hB,hz,q⟩:=h;cases rx;obtain⟨u,rfl,ru⟩:=rv.one;cases ru;obtain⟨z,its,n,r,hl,e⟩:=I.lstM hH;obtain⟨z2,its2,n2,r2,e2⟩:=hB.ok I.hok;have l1:=r.length;have l2:=r2.length;refine call_meets F.slot_list_extend ⟨_,e,rfl⟩ F.entry_list_extend (F.args_list_extend_2 _ _) (AutoSeq1.list_extend_list_list_0 l its.toArray n b its2.toArray n2 ?_ (by rw[_k];omega) (by rw[_k,_k];omega)) ⟨e,e2,?_⟩
 ·intro q';simp only[_u]at q';have:=q'.2;simp only[Builtin.List.listTooLong,_k,_l]at this;omega
 ·refine⟨.non,_,I.lset (its':=its++its2) hH e (by simp) (r.append r2) ?_,rfl,q⟩;rw[_q];omega
end L2
namespace Dd
open L2
section
variable {X:Cx}{E:XK}{e:Expr}{pos:Pos}
noncomputable def zaO(fo fv:FE):FE:=fun ρ s=>(fo ρ s).bind λo s1=>match o with
 | .loc l=>(fv ρ s1).bind λd s2=>match d with
  | .lst ys=>match s2[l]? with
   | some xs=>if D.flat.flats ys=true/\xs.length+ys.length<=cap then .ok .non (s2.set l (xs++ys)) else .no | none=>.no
  | _=>.no
 | _=>.no
theorem z0u {o:Expr} {apos:Pos} {fo fv:FE} (ho:RE X E o fo) (hv:RE X E e fv) (hbase:attributeBase o "extend" X.env (eval o X.env)=eval o X.env:=by rfl) (hfew:((backTo pos (starEach [e] X.env)).all (λx=>!x.1)&&(backToKw pos (keywordEach [] X.env)).all (λx=>x.1.isSome) && decide ([e].length+([]:List Keyword).length+(if ([]:List Keyword).isEmpty then 0 else 1)<30))=true:=by rfl) (hline:(apos.endLine==pos.line)=true:=by rfl) (hs:starEach [e] X.env=(false,eval e X.env)::starEach [] X.env:=by rfl) (hplain:(backTo pos (starEach [] X.env)).any (·.1)=false:=by rfl): RE X E (.Call (.Attribute o "extend" apos) [e] [] pos) (zaO fo fv):= yy (zav _b6 PySem.F.slot_list_extend PySem.F.type_list_extend z7m ho (wU hv uz hs) hbase hfew hline hs hplain) λO H Q ⟨Y,ρ,s,r,en,h⟩=>by
  unfold zaO at h;refine⟨Y,ρ,s,r,en,(okR.bind (Dn:=Den (gm X)) h).imp λov H1 ⟨Y1,s1,od,stp,dn,h1⟩=>?_⟩;cases od with
  | loc l=>
   simp only at h1;have hty:tyV X.K "list" ov H1:=by
    simp only[Den]at dn;obtain⟨a,rfl,e1,vs,e2⟩:=dn;exact .inl ⟨rfl,vs,.inl (.inl e2)⟩
   refine⟨hty,⟨Y1,ρ,s1,stp.rep,en.mono stp,(okR.bind (Dn:=Den (gm X)) h1).imp λv H2 ⟨Y2,s2,d,stp2,dn2,h2⟩=>?_⟩⟩;cases d with
   | lst ys=>
    simp only at h2;split at h2
    ·rename_i xs ex;split at h2
     ·rename_i hf;have dov:=dn.mono stp2;simp only[Den]at dov dn2;obtain⟨a,rfl,e1,ka⟩:=dov;obtain⟨b,o',ws,rfl,eb,dw⟩:=dn2;obtain⟨vs,q1,q2⟩:=stp2.rep.at_ ex e1 ka;have stp3:=yA.put (l:=l) (xs:=xs++ys) stp2.rep e1 ka (q2.append dw) (yV (stp2.rep.flat xs (_c ex)) hf.1);refine⟨a,b,vs,ws,rfl,rfl,q1,.inr ⟨o',eb⟩,by rw[q2.length,dw.length];exact qi hf.2,h2 .non _ _ stp3 (by simp[Den])⟩
     ·exact h2.elim
    ·exact h2.elim | _=>exact h2.elim
  | _=>exact h1.elim
@[simp] theorem zbu (fo fv:FE)(ρ:Ev)(s:Sto):zaO fo fv ρ s=(fo ρ s).bind λo s1=>match o with
 | .loc l=>(fv ρ s1).bind λd s2=>match d with
  | .lst ys=>match s2[l]? with
   | some xs=>if D.flat.flats ys=true/\xs.length+ys.length<=cap then .ok .non (s2.set l (xs++ys)) else .no | none=>.no
  | _=>.no
 | _=>.no:=id rfl
end
end Dd
namespace L2
noncomputable def n3(a b c:Int):Nat:=if a<b then ((b-a-1) / c+1).toNat else 0
noncomputable def z4a(a c:Int)(n:Nat):List V:=(List.range n).map λk=>V.int (a+((k:Nat):Int)*c)
end L2
namespace Dd
open L2
section
variable {X:Cx}{E:XK}{a b c:Expr}{pos:Pos}
noncomputable def z6U(a c:Int)(n:Nat):List D:=(List.range n).map λk=>D.int (a+((k:Nat):Int)*c)
theorem z8N{mg:Gm}{H:Hp}{Y:List Addr}(a c:Int)(n:Nat):zA mg H Y (z6U a c n) (z4a a c n):=by
 unfold z6U z4a;induction (List.range n) with
 | nil=>exact zA.nil | cons k ks ih=>exact zA.cons xE ih
end
open PySem.W
section
end
noncomputable def z7Y(fin:Bool):List Int->List Int->Bool
 | x::a,y::b=>if x=y then z7Y fin a b else decide (x<y) | _,_=>fin
theorem zbo:∀ns ms:List Int,z7Y (decide (ns.length<ms.length)) ns ms=lexN ns ms
 | [],[]=>by simp[z7Y,lexN] | [],_::_=>by simp[z7Y,lexN] | _::_,[]=>by simp[z7Y,lexN] | x::a,y::b=>by
  have:=zbo a b;simp only[z7Y,lexN,_p,Nat.add_lt_add_iff_right,this]
def TupAt(h:Heap)(v:Value)(ns:List Int):Prop:=∃a o n us,v=.ref a/\h.get? a=some o/\o.cls=.type "tuple"/\o.data=.seq us n/\vI us.toList ns/\ns≠[]
inductive uU (h:Heap):List Value->List (List Int)->Prop | nil:uU h [] [] | cons {v p vs ps}:TupAt h v p->uU h vs ps->uU h (v::vs) (p::ps)
theorem uU.mono{h h':Heap}(k:∀b o,h.get? b=some o->h'.get? b=some o):∀{vs ps},uU h vs ps->uU h' vs ps
 | _,_,.nil=>.nil | _,_,.cons ⟨a,o,n,us,e,g,c,d,i,z⟩ r=>.cons ⟨a,o,n,us,e,k _ _ g,c,d,i,z⟩ (r.mono k)
theorem uU.tups{h:Heap}:∀{vs ps},uU h vs ps->∃fs,KatTups h vs fs/\fs.length=ps.length/\∀v∈fs,∃i t,v=.int i t
 | _,_,.nil=>⟨[],KatTups.nil,rfl,λv hv=>by cases hv⟩ | _,_,.cons (p:=p) ⟨a,o,n,us,e,g,c,d,i,z⟩ r=>by
  obtain⟨fs,k,l,m⟩:=r.tups;subst e;obtain⟨ul⟩:=us;cases i with
  | nil=>exact absurd rfl z | @cons x t ws ns i'=>
   refine⟨.int x t::fs,KatTups.cons g c d rfl k,by simp[l],λv hv=>?_⟩;rcases _j.mp hv with rfl | hv;·exact⟨_,_,rfl⟩
   ·exact m v hv
section
variable {prog:Program}{w:World}{A:Around}{E:Value->Shared->Prop}{s:Shared}
theorem z5V {fin:Bool} {C:Bool->Shared->Prop}:∀{xs ys:List Value} {ns ms:List Int} (i:Nat),vI xs ns->vI ys ms->C (z7Y fin ns ms) s->KatLex prog w A true fin C (xs.zip ys) i s
 | _,_,_,_,i,.nil,_,h=>by
  simp only[List.zip_nil_left];refine kat_nil ?_;simpa[z7Y] using h | _,_,_,_,i,.cons _,.nil,h=>by
  simp only[List.zip_nil_right];refine kat_nil ?_;simpa[z7Y] using h | _,_,_,_,i,.cons (i:=x) (t:=t) r,.cons (i:=y) (t:=t') r',h=>by
  simp only[List.zip_cons_cons];refine kat_cons (wpAny_eqBool_int (kat_go (λe=>kat_yes (z5V (i+1) r r' ?_)) λe=>kat_no ?_))
  ·have e1:x=y:=by simpa using e
   simpa[z7Y,e1] using h
  ·have e1:¬ x=y:=by simpa using e
   have h':C (decide (x<y)) s:=by simpa[z7Y,e1] using h
   cases i with
   | zero=>
    have hb:(true&&((0:Nat)==0))=true:=rfl;rw[hb];exact oneLt_int h' | succ i=>
    have hb:(true&&((i+1:Nat)==0))=false:=by simp
    rw[hb];exact kat_one _ _ (PyProof.Rows.lt_int h')
theorem zc7{v u:Value}{p q:List Int}{C:Bool->Shared->Prop}(hv:TupAt s.heap v p)(hu:TupAt s.heap u q)(h:C (lexN p q) s):wpAny (model prog w) A (keyLt' (tuples' true) v u) C E s:=by
 obtain⟨a,o,n,us,rfl,g,c,d,i,_⟩:=hv;obtain⟨b,o',n',us',rfl,g',c',d',i',_⟩:=hu;refine kat_lt g d g' d' (z5V 0 i i' ?_);have e:decide (us.size<us'.size)=decide (p.length<q.length):=by
  have:=i.length;have:=i'.length;simp only[_X]at *;simp[*]
 rw[e,zbo];exact h
theorem z8z{vs:List Value}{ps:List (List Int)}{Q:SortKind->Shared->Prop}(hp:uU s.heap vs ps)(h0:0<ps.length)(h:Q (tuples' true) s):wpAny (model prog w) A (keyKind' vs.toArray) Q E s:=by
 obtain⟨fs,k,l,m⟩:=hp.tups;refine kat_kind (T:=.type "int") k (by rw[l];exact h0) (λv hv=>?_) rfl h;obtain⟨i,t,rfl⟩:=m v hv;exact Looks.of_pure rfl
end
section
variable {X:Cx}{E:XK}
theorem z8P{pins:List (Addr×Obj)}{O:L2.St}{H:Hp}{s:Shared}(I:Inv X pins O H s):∀{ys:List V}{its:List Value}{ps:List (List Int)},xt ys its->Paired (λv ns=>AtN H v ns) ys ps->(∀n∈ps,n≠[])->uU s.heap its ps
 | [],_,_,.nil,.nil,_=>.nil | y::ys,_,_,.cons r rs,.cons a p,hn=>by
  refine .cons ?_ (z8P I rs p λn hm=>hn n (.tail _ hm));obtain⟨b,its,rfl,rfl,⟨o,g,c,k,d⟩,z⟩:=a.tuple I r;exact⟨b,o,k,its,rfl,g,c,d,z,hn _ (.head _)⟩
end
end Dd
namespace Dd
open L2
theorem zeG{H:Hp}{p:Addr}(h:IsC H p):IsD H p:=by
 rcases h with⟨kvs,q⟩ | ⟨o,kvs,q⟩ | ⟨kvs,_,q⟩ | ⟨o,kvs,q⟩;·exact .inr ⟨kvs,.inl q⟩
 ·exact .inr ⟨kvs,.inr ⟨o,q⟩⟩
 ·exact .inl ⟨kvs,.inl q⟩
 ·exact .inl ⟨kvs,.inr ⟨o,q⟩⟩
end Dd
namespace L2
open Dd
end L2
namespace Dd
open L2
section
variable {X:Cx}{E:XK}{a:Expr}
def zd4(f:FE):FT:=fun ρ s=>(f ρ s).bind λd s1=>match listOf s1 d with | some xs=>.ok (!xs.isEmpty) s1 | none=>.no
theorem z6O{mg:Gm}{H:Hp}{Y:List Addr}{ds:List D}{vs:List V}(h:zA mg H Y ds vs):vs.isEmpty=ds.isEmpty:=by
 have:=h.length;cases ds<;>cases vs<;>simp at this ⊢
theorem zgj{f:FE}(h:RE X E a f)(he:∀whole,isTrue a X.env whole=(do let v <- whole;standAt a.pos;holding [v] (truthy v)):=by intro _;rfl):RT X E a (zd4 f):= z6n (z9P h he) λO H Q ⟨Y,ρ,s,r,en,h⟩=>by
  refine yK (k:=fun ρ d s1=>match listOf s1 d with | some xs=>.ok (!xs.isEmpty) s1 | none=>.no) r en h _ λv H1 Y1 s1 d r1 en1 dn stp h1=>?_;split at h1
  ·rename_i xs e;obtain⟨p,vs,rfl,q1,q2⟩:=yd r1 e dn;exact⟨!xs.isEmpty,.inl ⟨vs,.inl q1,by rw[z6O q2]⟩,h1.here (b:=!xs.isEmpty) r1 rfl⟩
  ·exact h1.elim
end
@[simp] theorem zf5 (f:FE)(ρ:Ev)(s:Sto):zd4 f ρ s=(f ρ s).bind λd s1=>match listOf s1 d with | some xs=>.ok (!xs.isEmpty) s1 | none=>.no:=id rfl
end Dd
namespace Pg
open L2 Dd
@[simp] noncomputable def z4w:FS:=(wN (z1N (eIs "int" (zd 0)) (zfv (eIs "bool" (zd 0)))))
noncomputable def z0V:FS:=z4w
noncomputable def uF:Mir:=Mof ["thing"] 1 z0V
@[simp] noncomputable def z4M:FS:=(wN (z1N (eIs "tuple" (zd 0)) (z6w dLe dLe (eC (.int 2)) (ze vj (za (zd 0) zi)) (eC (.int 4)))))
noncomputable def z0X:FS:=z4M
noncomputable def vE:Mir:=Mof ["thing"] 1 z0X
@[simp] noncomputable def xy:FS:=(wq 3 (z3I (za (jo zi) zi)))
@[simp] def xz:FS:=(wq 3 (z4H (zR (zd 3)) [some 1,some 2,none,none] 2 3 (z54 (za (zd 0) (za (eOp jp (zd 1) (eC (.int 1))) zi))) (eOp jp (zd 2) (jo (za (zd 3) zi)))))
@[simp] def xu:FS:=(z4R (z6F (za (zd 0) zi)) (yJ 4) xz)
@[simp] noncomputable def jJ:FS:=(wN (zd 3))
def uw:FS:=(zM xy (zM xu jJ))
def zO:Mir:=Mof ["size","least","most","found","place"] 3 uw
@[simp] noncomputable def z1L:FS:=(wN (eC (.bl false)))
@[simp] noncomputable def z1P:FS:=(fIf (fOr (z74 (tOf (eIs "tuple" (zd 0)))) (tOf (eOp dNe (ze vj (za (zd 0) zi)) (zd 1)))) z1L vf)
@[simp] def z1T:FS:=(wN (ze z6R (za (zF (zR (zd 0)) [none] (yJ 0) yr (ze uF (za (zd 0) zi))) zi)))
def jC:FS:=(zM z1P z1T)
def wv:Mir:=Mof ["thing","many"] 2 jC
@[simp] noncomputable def z7p:FS:=(wN (eC (.bl false)))
@[simp] def z7o:FS:=(fIf (fOr (z74 (tOf (ze vE (za (zd 0) zi)))) (z74 (tOf (ze wv (za (zd 0) (za (ze vj (za (zd 0) zi)) zi)))))) z7p vf)
@[simp] noncomputable def z6P:FS:=(wN (z1N (eOp dGe (ze qJ (za (zd 0) zi)) (eC (.int 0))) (eOp dGt (ze uD (za (zd 0) zi)) (eC (.int 0)))))
def z3T:FS:=(zM z7o z6P)
def uL:Mir:=Mof ["thing"] 1 z3T
@[simp] noncomputable def z3N:FS:=fNo
@[simp] def z4e:FS:=(fIf (z74 (tOf (ze uL (za (zd 0) zi)))) z3N vf)
def z1f:FS:=z4e
def wR:Mir:=Mof ["thing"] 1 z1f
@[simp] def z4d:FS:=(wN (ze z9F (za (zF (z7d (za (zd 0) (za (zd 1) zi))) [none,none] (kz 0 1) yr (eOp uN (zd 0) (zd 1))) zi)))
def z0D:FS:=z4d
def zW:Mir:=Mof ["line","numbers"] 2 z0D
@[simp] def z28:FS:=(wN (ze uD (za (zF (zR (zd 0)) [none] (yJ 0) yr (ze z0k (za (zd 0) zi))) zi)))
def z44:FS:=z28
def yz:Mir:=Mof ["line"] 1 z44
@[simp] def z27:FS:=(wN (ze z9F (za (zF (zR (zd 0)) [none] (yJ 0) yr (ze z0k (za (zd 0) zi))) zi)))
def z3U:FS:=z27
def ym:Mir:=Mof ["line"] 1 z3U
@[simp] noncomputable def kX:FS:=(wN (eOp dIx (zd 0) (zd 1)))
@[simp] noncomputable def z0b:FS:=(fIf (tOf (eOp dLt (zd 1) (ze vj (za (zd 0) zi)))) kX vf)
@[simp] noncomputable def kZ:FS:=(wN (eC (.int 0)))
noncomputable def vM:FS:=(zM z0b kZ)
noncomputable def xo:Mir:=Mof ["_law_script","_law_k"] 2 vM
@[simp] noncomputable def z4o:FS:=(wN (za1 (za (eOp jn (zd 0) (eOp zd3 (eC (.int 10)) (eC (.int 18)))) zi)))
@[simp] noncomputable def z4t:FS:=(fIf (tOf (eOp dGe (zd 0) (eOp zd3 (eC (.int 10)) (eC (.int 18))))) z4o vf)
@[simp] noncomputable def z4F:FS:=(wq 1 (eC (.int 0)))
@[simp] noncomputable def kM:FS:=(wq 3 (eOp z7t (eOp uN (eOp jp (eOp jp (eOp z7t (zd 0) (eC (.int 2147483629))) (eOp uN (eC (.int 7919)) (zd 2))) (eC (.int 1))) (eC (.int 48271))) (eC (.int 2147483647))))
@[simp] noncomputable def kG:FS:=(wq 3 (eOp z7t (eOp jp (eOp jp (eOp uN (zd 3) (zd 3)) (eOp uN (eC (.int 69621)) (zd 2))) (eC (.int 7))) (eC (.int 2147483587))))
@[simp] noncomputable def kO:FS:=(wq 1 (eOp jp (eOp uN (zd 1) (eC (.int 2147483587))) (zd 3)))
@[simp] def kK:FS:=(z4R (z6F (za (eC (.int 64)) zi)) (yJ 2) (zM kM (zM kG kO)))
@[simp] noncomputable def z4s:FS:=(wN (za1 (za (zd 1) zi)))
def qZ:FS:=(zM z4t (zM z4F (zM kK z4s)))
def vF:Mir:=Mof ["_law_cell","_law_number","_law_j","_law_more"] 1 qZ
@[simp] def z4n:FS:=(wN (ze z9F (za (zF (z7d (za (zd 0) (za (zd 1) zi))) [none,none] (kz 0 1) yr (eOp uN (zd 0) (zd 1))) zi)))
def z5p:FS:=z4n
def zS:Mir:=Mof ["_law_one","_law_lot"] 2 z5p
@[simp] noncomputable def z3x:FS:=(wq 2 (eOp z7t (eOp dIx (zd 0) (eC (.int 0))) (zd 1)))
@[simp] noncomputable def z2x:FS:=(z4g (zd 0) (eC (.int 0)) (eOp z47 (eOp dIx (zd 0) (eC (.int 0))) (zd 1)))
@[simp] noncomputable def z2z:FS:=(wN (zd 2))
noncomputable def kP:FS:=(zM z3x (zM z2x z2z))
noncomputable def zV:Mir:=Mof ["_law_pot_here","_law_far","_law_found"] 2 kP
@[simp] noncomputable def kc:FS:=(wN (z1N (eIs "int" (zd 0)) (zfv (eIs "bool" (zd 0)))))
noncomputable def z08:FS:=kc
noncomputable def xG:Mir:=Mof ["_law_found"] 1 z08
@[simp] noncomputable def z0i (Mr:Mir):FS:=(wN (eOp dIs (zd 0) (eC .non)))
@[simp] noncomputable def z0d (Mr:Mir):FS:=(fIf (tOf (eOp dIs (zd 1) (eC .non))) (z0i Mr) vf)
@[simp] noncomputable def kY (Mr:Mir):FS:=(wN (z1N (eIs "bool" (zd 0)) (eOp dEq (zd 0) (zd 1))))
@[simp] noncomputable def z0a (Mr:Mir):FS:=(fIf (tOf (eIs "bool" (zd 1))) (kY Mr) vf)
@[simp] noncomputable def z0c (Mr:Mir):FS:=(wN (z1N (ze xG (za (zd 0) zi)) (eOp dEq (zd 0) (zd 1))))
@[simp] noncomputable def z07 (Mr:Mir):FS:=(fIf (tOf (eIs "int" (zd 1))) (z0c Mr) vf)
@[simp] noncomputable def z0f (Mr:Mir):FS:=(wN (z1N (eIs "str" (zd 0)) (eOp dEq (zd 0) (zd 1))))
@[simp] noncomputable def z04 (Mr:Mir):FS:=(fIf (tOf (eIs "str" (zd 1))) (z0f Mr) vf)
@[simp] noncomputable def kC (Mr:Mir):FS:=(wN (eC (.bl false)))
@[simp] noncomputable def z01 (Mr:Mir):FS:=(fIf (fOr (tOf (eOp dNe (eIs "tuple" (zd 1)) (eIs "tuple" (zd 0)))) (tOf (eOp dNe (eIs "list" (zd 1)) (eIs "list" (zd 0))))) (kC Mr) vf)
@[simp] def ke (Mr:Mir):FS:=(wN (z1N (eOp dEq (ze vj (za (zd 0) zi)) (ze vj (za (zd 1) zi))) (ze z6R (za (zF (z7d (za (zd 0) (za (zd 1) zi))) [none,none] (kz 0 1) yr (ze Mr (za (zd 0) (za (zd 1) zi)))) zi))))
def zI(Mr:Mir):FS:=(zM (z0d Mr) (zM (z0a Mr) (zM (z07 Mr) (zM (z04 Mr) (zM (z01 Mr) (ke Mr))))))
def zE:Nat->Mir
 | 0=>λ_ _=>.no | k+1=>Mof ["_law_found","_law_due"] 2 (zI (zE k))
def z1V:Mir:=zE 4
@[simp] noncomputable def wI:FS:=(wq 2 (eOp dIx (z3I (za (eC (.int 10)) (za (eC (.int 61)) (za (eC (.int 1001)) zi)))) (ze zV (za (zd 0) (za (eC (.int 3)) zi)))))
@[simp] def wM:FS:=(wq 3 (ub (z6F (za (zd 1) zi)) [some 0,some 2,none] (yJ 2) yr (ze zV (za (zd 0) (za (zd 1) zi)))))
@[simp] noncomputable def wE:FS:=(zfs 4 5 (za (ze zV (za (zd 0) (za (zd 1) zi))) (za (ze zV (za (zd 0) (za (zd 1) zi))) zi)))
@[simp] noncomputable def wJ:FS:=(wq 6 (ze zV (za (zd 0) (za (eC (.int 5)) zi))))
@[simp] noncomputable def ue:FS:=(z4g (zd 3) (zd 4) (eC (.int 0)))
@[simp] noncomputable def xA:FS:=(fIf (tOf (eOp dEq (zd 6) (eC (.int 0)))) ue vf)
@[simp] noncomputable def uh:FS:=(z4g (zd 3) (zd 4) (eOp dIx (zd 3) (zd 5)))
@[simp] noncomputable def xC:FS:=(fIf (tOf (eOp dEq (zd 6) (eC (.int 1)))) uh vf)
@[simp] noncomputable def vW:FS:=(z4g (zd 3) (zd 5) (eOp jp (eC (.int 1)) (ze zV (za (zd 0) (za (eOp jn (zd 2) (eC (.int 1))) zi)))))
@[simp] noncomputable def xw:FS:=(fIf (tOf (eOp dEq (ze uD (za (zd 3) zi)) (eC (.int 0)))) vW vf)
@[simp] noncomputable def vJ:FS:=(wN (ze z4h (za (zd 3) zi)))
def ux:FS:=(zM wI (zM wM (zM wE (zM wJ (zM xA (zM xC (zM xw vJ)))))))
def xh:Mir:=z4A (Mof ["_law_pot_here","_law_size","_law_far","_law_found","_law_at","_law_to","_law_way"] 2 ux)
end Pg
namespace Dd
open L2
end Dd
namespace L2
open Dd Zz
end L2
namespace Dd
open L2
end Dd
set_option maxRecDepth 1000000
set_option maxHeartbeats 4000000
namespace Pm
noncomputable def dot(r v:List Int):Int:=(List.zipWith (λa b=>a*b) r v).sum
end Pm
set_option maxRecDepth 1000000
set_option maxHeartbeats 40000000
namespace Pm
end Pm
set_option maxRecDepth 1000000
set_option maxHeartbeats 40000000
namespace Pm
abbrev Sz(n:Nat):Prop:=n=2\/n=3\/n=4
open L2 (maxL minL maxL_ge maxL_mem minL_le minL_mem)
structure Lot(n:Nat)(v:List Int):Prop where
 sz:Sz n
 len:v.length=n
 nn:∀x∈v,0<=x
 pos:∃x∈v,0<x
@[simp] theorem z5h:dot [] []=0:=id rfl
@[simp] theorem dot_cons (a b:Int) (r v:List Int):dot (a::r) (b::v)=a*b+dot r v:=rfl
theorem kj:∀{r c r' c':List Int},r.length=c.length->dot (r++r') (c++c')=dot r c+dot r' c'
 | [],[],_,_,_=>by simp | a::r,b::c,r',c',h=>by
  have:=kj (r:=r) (c:=c) (r':=r') (c':=c') (by simpa using h);simp only[_aa,dot_cons,this];omega | [],_::_,_,_,h=>by simp at h | _::_,[],_,_,h=>by simp at h
theorem getD_mem{v:List Int}{i:Nat}(h:i<v.length):v.getD i 0∈v:=by simp[List.getD,_r h]
theorem Lot.ne{n:Nat}{v:List Int}(h:Lot n v):v≠[]:=λz=>by
 obtain⟨x,hx,_⟩:=h.pos;rw[z]at hx;simp at hx
noncomputable def cg(a b:Int):Int:=(Int.gcd a b:Int)
noncomputable def z7s(v:List Int):Int:=v.foldl cg 0
theorem z37:∀(v:List Int)(a:Int),0<=a->0<=v.foldl cg a/\(v.foldl cg a ∣ a/\∀x∈v,v.foldl cg a ∣ x)/\∀d,d ∣ a->(∀x∈v,d ∣ x)->d ∣ v.foldl cg a
 | [],a,h=>⟨h,⟨Int.dvd_refl _,by simp⟩,λd hd _=>hd⟩ | x::v,a,h=>by
  have ih:=z37 v (cg a x) (by simp[cg]);have g1:cg a x ∣ a:=_dp ..;have g2:cg a x ∣ x:=_c6 ..;refine⟨ih.1,⟨_dg ih.2.1.1 g1,λy hy=>?_⟩,λd hd hx=>?_⟩
  ·rcases _j.mp hy with rfl | hy;·exact _dg ih.2.1.1 g2
   ·exact ih.2.1.2 y hy
  ·exact ih.2.2 d (Int.dvd_coe_gcd hd (hx x (by simp))) λy hy=>hx y (by simp[hy])
theorem zcd(v:List Int):0<=z7s v:=(z37 v 0 (by omega)).1
theorem z6b{v:List Int}:∀x∈v,z7s v ∣ x:=(z37 v 0 (by omega)).2.1.2
open Dd (lexN)
theorem ua:∀a:List Int,lexN a a=false
 | []=>rfl | x::a=>by simp[lexN,ua a]
theorem z0z:∀{a b:List Int},a≠b->lexN b a=!lexN a b
 | [],[],h=>absurd rfl h | [],_::_,_=>rfl | _::_,[],_=>rfl | x::a,y::b,h=>by
  by_cases e:x=y
  ·subst e;have:a≠b:=λz=>h (by rw[z]);simp only[lexN,_P];exact z0z this
  ·have e':¬ y=x:=λz=>e z.symm;simp only[lexN,e,e',_ag];by_cases l:x<y;·simp[l];omega
   ·simp[l];omega
theorem z5d:∀{a b c:List Int},lexN a b=true->lexN b c=true->lexN a c=true
 | [],[],_,h,_=>by simp[lexN]at h | [],_::_,[],_,h=>by simp[lexN]at h | [],_::_,_::_,_,_=>rfl | _::_,[],_,h,_=>by simp[lexN]at h | _::_,_::_,[],_,h=>by simp[lexN]at h | x::a,y::b,z::c,h1,h2=>by
  simp only[lexN]at h1 h2 ⊢;by_cases e1:x=y
  ·subst e1;by_cases e2:x=z
   ·subst e2;simp only[_P]at h1 h2 ⊢;exact z5d h1 h2
   ·simp only[e2,_ag]at h2 ⊢;exact h2
  ·simp only[e1,_ag,_l]at h1;by_cases e2:y=z
   ·subst e2;simp only[e1,_ag,_l];exact h1
   ·simp only[e2,_ag,_l]at h2;have e3:¬ x=z:=by omega
    simp only[e3,_ag,_l];omega
theorem z0R:∀{a b:List Int}{x y:Int},a.length=b.length->(lexN a b=true\/(a=b/\x<y))->lexN (a++[x]) (b++[y])=true
 | [],[],x,y,_,h=>by
  rcases h with h | ⟨_,h⟩;·simp[lexN]at h
  ·have:¬ x=y:=by omega
   simp[lexN,this,h] | [],_::_,_,_,h,_=>by simp at h | _::_,[],_,_,h,_=>by simp at h | u::a,w::b,x,y,hl,h=>by
  simp only[_aa,lexN];by_cases e:u=w
  ·subst e;simp only[_P];refine z0R (by simpa using hl) ?_;rcases h with h | ⟨h1,h2⟩;·exact .inl (by simpa[lexN] using h)
   ·exact .inr ⟨by simpa using h1,h2⟩
  ·simp only[e,_ag,_l];rcases h with h | ⟨h1,h2⟩;·simpa[lexN,e] using h
   ·simp at h1;exact absurd h1.1 e
abbrev Up(L:List (List Int)):Prop:=L.Pairwise λa b=>lexN a b=true
theorem Up.nodup{L:List (List Int)}(h:Up L):L.Nodup:=h.imp λ{a b} q z=>by rw[z,ua]at q;cases q
theorem z5N:∀{L M:List (List Int)},Up L->Up M->(∀x,x∈L ↔ x∈M)->L=M
 | [],[],_,_,_=>rfl | [],b::M,_,_,h=>by have:=(h b).mpr (.head _);cases this | a::L,[],_,_,h=>by have:=(h a).mp (.head _);cases this | a::L,b::M,h1,h2,h=>by
  obtain⟨p1,q1⟩:=_bi.mp h1;obtain⟨p2,q2⟩:=_bi.mp h2;have e:a=b:=by
   rcases _j.mp ((h a).mp (.head _)) with z | z;·exact z
   ·rcases _j.mp ((h b).mpr (.head _)) with z' | z';·exact z'.symm
    ·have:=z5d (p2 a z) (p1 b z');rw[ua]at this;cases this
  subst e;refine _a5 (a::·) (z5N q1 q2 λx=>⟨λhx=>?_,λhx=>?_⟩)
  ·rcases _j.mp ((h x).mp (.tail _ hx)) with z | z;·have:=p1 x hx;rw[z,ua]at this;cases this
   ·exact z
  ·rcases _j.mp ((h x).mpr (.tail _ hx)) with z | z;·have:=p2 x hx;rw[z,ua]at this;cases this
   ·exact z
theorem z87{α:Type}{a b:List α}{i:Nat}{d:α}(h:i<a.length):(a++b).getD i d=a.getD i d:=by simp[_V,_B h]
theorem z9f{α:Type}{a b:List α}{i:Nat}{d:α}(h:a.length<=i):(a++b).getD i d=b.getD (i-a.length) d:=by simp[_V,_v h]
noncomputable def z9u(F:List (List Int))(c:List Int):List (List Int):=F.flatMap λa=>c.map λg=>a++[g]
noncomputable def uR(cs:List (List Int)):List (List Int):=cs.foldl z9u [[]]
theorem qH(cs:List (List Int))(c:List Int):uR (cs++[c])=z9u (uR cs) c:=by simp[uR]
theorem snoc_ind{α:Type}{P:List α->Prop}(h0:P [])(h1:∀l x,P l->P (l++[x]))(l:List α):P l:=by
 have:∀n (l:List α),l.length=n->P l:=by
  intro n;induction n with
  | zero=>intro l hl;rw[List.length_eq_zero_iff.mp hl];exact h0 | succ n ih=>
   intro l hl;have ne:l≠[]:=λz=>by rw[z]at hl;simp at hl
   rw[<- List.dropLast_concat_getLast ne];exact h1 _ _ (ih _ (by simp[hl]))
 exact this _ l rfl
theorem z12(cs:List (List Int)):∀v:List Int,v∈uR cs ↔ v.length=cs.length/\∀i,i<cs.length->v.getD i 0∈cs.getD i []:=by
 refine snoc_ind (P:=λcs=>∀v:List Int,v∈uR cs ↔ v.length=cs.length/\∀i,i<cs.length->v.getD i 0∈cs.getD i []) ?_ ?_ cs
 ·intro v;simp[uR]
 ·intro cs c ih v;rw[qH];simp only[z9u,_bz,_x];constructor
  ·rintro⟨a,ha,g,hg,rfl⟩;obtain⟨l,h⟩:=(ih a).mp ha;refine⟨by simp[l],λi hi=>?_⟩;by_cases q:i<cs.length
   ·have:=h i q;rw[z87 (a:=a) (by omega),z87 q];exact this
   ·have e:i=cs.length:=by simp at hi;omega
    subst e;rw[z9f (a:=a) (by omega),z9f (a:=cs) (by omega)];simp[l,hg]
  ·rintro⟨l,h⟩;have ne:v≠[]:=λz=>by rw[z]at l;simp at l
   refine⟨v.dropLast,(ih _).mpr ⟨by simp[l],λi hi=>?_⟩,v.getLast ne,?_,List.dropLast_concat_getLast ne⟩
   ·have:=h i (by simp;omega);rw[z87 hi]at this;have e:v.dropLast.getD i 0=v.getD i 0:=by
     have l':v.length=cs.length+1:=by simpa using l
     have h1:i<v.length:=by omega
     simp[_V,List.getElem?_dropLast,l',hi,_r h1]
    rw[e];exact this
   ·have:=h cs.length (by simp);rw[z9f (_d _)]at this;have e:v.getD cs.length 0=v.getLast ne:=by
     rw[List.getLast_eq_getElem];simp at l;simp[_V,l]
    rw[e]at this;simpa using this
theorem z9I(cs:List (List Int)):(∀c∈cs,c.Pairwise (· < ·))->Up (uR cs):=by
 refine snoc_ind (P:=λcs=>(∀c∈cs,c.Pairwise (· < ·))->Up (uR cs)) (λ_=>by simp[uR,Up]) ?_ cs;intro cs c ih h;have ih:=ih λc hc=>h c (by simp[hc]);have hc:=h c (by simp);have hl:=λv hv=>((z12 cs v).mp hv).1;rw[qH];unfold z9u Up;rw[_bm];refine⟨λa ha=>?_,?_⟩
 ·rw[_a2];exact hc.imp λ{x y} q=>z0R rfl (.inr ⟨rfl,q⟩)
 ·refine _bv (λ{a b} ha hb q=>?_) ih;intro x hx y hy;obtain⟨g,_,rfl⟩:=_x.mp hx;obtain⟨k,_,rfl⟩:=_x.mp hy;exact z0R (by rw[hl a ha,hl b hb]) (.inl q)
theorem z4G(cs:List (List Int)){k:Nat}:(∀c∈cs,c.length<=k)->(uR cs).length<=k ^ cs.length:=by
 refine snoc_ind (P:=λcs=>(∀c∈cs,c.length<=k)->(uR cs).length<=k ^ cs.length) (λ_=>by simp[uR]) ?_ cs;intro cs c ih h;have ih:=ih λc hc=>h c (by simp[hc]);have hc:=h c (by simp);rw[qH];have e:(z9u (uR cs) c).length=(uR cs).length*c.length:=by
  unfold z9u;rw[List.length_flatMap];simp;induction (uR cs) with
  | nil=>simp | cons a l ih=>simp[ih,Nat.add_mul,Nat.add_comm]
 rw[e,_q,_aD,_dw];exact _aZ ih hc
end Pm
namespace Pg
open L2 Dd Pm
noncomputable abbrev iL(ns:List Int):List D:=ns.map D.int
theorem zgZ{i:Int}{m:Nat}(h:i.natAbs<2 ^ m)(hm:m<=2000):i.natAbs<BIG:=_w h (_bL (by decide) (by omega))
theorem zaS{a b:Int}{m k:Nat}(s:Sto)(ha:a.natAbs<2 ^ m)(hm:m<=2000)(hb:b.natAbs<2 ^ k)(hk:k<=2000):uN (.int a) (.int b) s=.ok (.int (a*b)) s:=by rw[zaQ,_g ⟨zgZ ha hm,zgZ hb hk⟩]
theorem z42{a b:Int}(s:Sto)(hb:0<b):z7t (.int a) (.int b) s=.ok (.int (a % b)) s:=by rw[zdm,_g hb]
theorem z0o{xs:List D}(s:Sto)(h:∀x∈xs,x=.bl true):z6R [.lst xs] s=.ok (.bl true) s:=by
 have e:xs=(xs.map λ_=>true).map D.bl:=by
  rw[_au];conv=>lhs;rw[<- List.map_id xs]
  exact List.map_congr_left λx hx=>h x hx
 have b:bools xs=some (xs.map λ_=>true):=by
  conv=>lhs;rw[e]
  exact z7N _
 simp[z6R,xj,b]
theorem zbb{ns:List Int}(s:Sto)(h:ns≠[]):uD [.tup (iL ns)] s=.ok (.int (maxL ns)) s:=by cases ns with
 | nil=>exact absurd rfl h | cons n ns=>simp only[uD,xj,_aA,vG]
theorem ze5{ns:List Int}(s:Sto)(h:ns≠[]):qJ [.tup (iL ns)] s=.ok (.int (minL ns)) s:=by cases ns with
 | nil=>exact absurd rfl h | cons n ns=>simp only[qJ,xj,_aA,vG]
theorem z7G{ns:List Int}(s:Sto)(h:ns≠[]):uD [.lst (iL ns)] s=.ok (.int (maxL ns)) s:=by cases ns with
 | nil=>exact absurd rfl h | cons n ns=>simp only[uD,xj,_aA,vG]
theorem z9X{ns:List Int}{l:Nat}{s:Sto}(h:ns≠[])(e:s[l]? = some (iL ns)):uD [.loc l] s=.ok (.int (maxL ns)) s:=by cases ns with
 | nil=>exact absurd rfl h | cons n ns=>simp only[uD,xj,e,_aA,vG]
theorem z7b(i:Int)(s:Sto):uF [.int i] s=.ok (.bl true) s:=by simp[uF,Mof,z0V,zT,gIs,tyD,isT]
theorem z76(xs:List D)(s:Sto)(h:2<=xs.length/\xs.length<=4):vE [.tup xs] s=.ok (.bl true) s:=by
 have h1:(2:Int)<=xs.length:=by omega
 have h2:(xs.length:Int)<=4:=by omega
 simp[vE,Mof,z0X,zT,gIs,tyD,isT,vj,xj,h1,h2]
theorem z3Q (ns:List Int) (s:Sto) (h:ns.length<=1000):wv [.tup (iL ns),.int ns.length] s=.ok (.bl true) s:=by
 simp[wv,Mof,jC,zT,gIs,tyD,isT,vj,xj];rw[z40 (λ_=>D.bl true) (iL ns) [] (by intro x hx;obtain⟨n,_,rfl⟩:=_x.mp hx;simp[z7b]) (by simp[cap];omega)];simp only[Rb,List.nil_append];rw[z0o s (by intro x hx;obtain⟨_,_,rfl⟩:=_x.mp hx;rfl)];simp
theorem z6s{α:Type}{all:List D}{s:Sto}{body:D->Sto->R (Option D)}(g f:α->D):∀(l:List α)(acc:List D),(∀a∈l,body (g a) s=.ok (some (f a)) s)->acc.length+l.length<=cap->wo [] all body (l.map g) acc s=.ok (acc++l.map f) s
 | [],acc,_,_=>by simp[wo,okG] | x::xs,acc,hb,hl=>by
  have ih:=z6s (all:=all) g f xs (acc++[f x]) (λy hy=>hb y (by simp[hy])) (by simp at hl ⊢;omega);have hc:acc.length<cap:=by simp at hl;omega
  rw[_t,wo];simp[okG,hb x (by simp),hc,ih]
theorem z8n(ns:List Int)(s:Sto):z9F [.lst (iL ns)] s=.ok (.int ns.sum) s:=by simp only[z9F,xj,_aA,vG]
theorem zw:∀(r v:List Int),List.zipWith (λa b=>a*b) r v=(List.zip r v).map λp=>p.1*p.2
 | [],_=>by simp | _::_,[]=>by simp | a::r,b::v=>by simp[zw r v]
theorem z5O:∀(r v:List Int),z3K (iL r) (iL v)=(List.zip r v).map λp=>D.tup [.int p.1,.int p.2]
 | [],_=>by simp[z3K] | _::_,[]=>by simp[z3K] | a::r,b::v=>by
  have:=z5O r v;simp only[iL]at this;simp[z3K,this]
theorem kB{r v:List Int}{m k:Nat}(s:Sto)(hr:∀x∈r,x.natAbs<2 ^ m)(hv:∀x∈v,x.natAbs<2 ^ k)(hm:m<=2000)(hk:k<=2000)(hl:r.length<=4):zW [.tup (iL r),.tup (iL v)] s=.ok (.int (dot r v)) s:=by
 have ez:=z5O r v;simp only[iL]at ez;simp[zW,Mof,z0D,zT,za8,ez,-List.map_map];rw[z6s _ (λp:Int×Int=>D.int (p.1*p.2)) _ [] (by
  intro p hp;have h1:=hr p.1 (_bY hp).1;have h2:=hv p.2 (_bY hp).2;simp[zaS s h1 hm h2 hk]) (by simp[cap];omega)];simp only[Rb,List.nil_append];have e:(List.zip r v).map (λp:Int×Int=>D.int (p.1*p.2))=iL ((List.zip r v).map λp=>p.1*p.2):=by simp[_ad]
 rw[e,z8n];simp[dot,zw]
noncomputable abbrev rD(r:List Int):D:=.tup (iL r)
theorem z7S(xs:List D)(i:Nat)(s:Sto):dSl (.tup xs) none (some (i:Int)) s=.ok (.tup (xs.take i)) s:=by
 have e:Dd.cutD xs none (some (i:Int))=xs.take i:=by
  unfold Dd.cutD;rw[HT.z5T,HT.z8l];simp[List.take_eq_take_min]
 simp only[dSl,e]
theorem z8Z(xs:List D)(i:Nat)(s:Sto):dSl (.tup xs) (some (i:Int)) none s=.ok (.tup (xs.drop i)) s:=by
 have e:Dd.cutD xs (some (i:Int)) none=xs.drop i:=by
  unfold Dd.cutD;rw[HT.z5T,HT.z8l];by_cases h:i<=xs.length
  ·rw[Nat.min_eq_left h];exact _Y (by simp)
  ·rw[Nat.min_eq_right (by omega)];simp[List.drop_of_length_le (show xs.length<=i by omega)]
 simp only[dSl,e]
theorem ql{α:Type}{all:List D}{s:Sto}{body:D->Sto->R (Option D)}(g f:α->D)(p:α->Bool):∀(l:List α)(acc:List D),(∀a∈l,body (g a) s=.ok (if p a=true then some (f a) else none) s)->acc.length+l.length<=cap->wo [] all body (l.map g) acc s=.ok (acc++(l.filter p).map f) s
 | [],acc,_,_=>by simp[wo,okG] | x::xs,acc,hb,hl=>by
  have og:okG [] all s:=by intro p hp;simp at hp
  rw[_t,wo,_g og,hb x (by simp)];cases hp:p x with
  | true=>
   have ih:=ql (all:=all) g f p xs (acc++[f x]) (λy hy=>hb y (by simp[hy])) (by simp at hl ⊢;omega);have hc:acc.length<cap:=by simp at hl;omega
   simp[hc,ih,hp] | false=>
   have ih:=ql (all:=all) g f p xs acc (λy hy=>hb y (by simp[hy])) (by simp at hl ⊢;omega);simp[ih,hp]
theorem z0q{α:Type}{fi:FI}{mp:List (Option Nat)}{fg:FG}{ft:FT}{fe:FE}{ρ:Ev}{s:Sto}(g f:α->D)(p:α->Bool)(ev:α->Ev)(l:List α) (hi:fi ρ s=.ok (l.map g,[]) s)(hg:∀a∈l,fg (g a) (yi mp ρ) s=.ok (ev a) s)(ht:∀a∈l,ft (ev a) s=.ok (p a) s)(he:∀a∈l,p a=true->fe (ev a) s=.ok (f a) s)(hl:l.length<=cap): zF fi mp fg ft fe ρ s=.ok (.lst ((l.filter p).map f)) s:=by
 rw[uj,jl,hi,Rb];rw[ql g f p l [] (by
  intro a ha;simp only[hg a ha,ht a ha,Rb];cases hp:p a with
  | true=>simp[he a ha hp] | false=>simp) (by simpa using hl)];rfl
theorem comp_map{α:Type}{fi:FI}{mp:List (Option Nat)}{fg:FG}{fe:FE}{ρ:Ev}{s:Sto}(g f:α->D)(ev:α->Ev)(l:List α) (hi:fi ρ s=.ok (l.map g,[]) s)(hg:∀a∈l,fg (g a) (yi mp ρ) s=.ok (ev a) s)(he:∀a∈l,fe (ev a) s=.ok (f a) s)(hl:l.length<=cap): zF fi mp fg yr fe ρ s=.ok (.lst (l.map f)) s:=by
 have:=z0q (ft:=yr) g f (λ_=>true) ev l hi hg (λa _=>rfl) (λa ha _=>he a ha) hl;rw[show l.filter (λ_=>true)=l from _cL.mpr (by simp)]at this;exact this
theorem z0x{f:FE}{ρ:Ev}{s:Sto}{xs:List D}(h:f ρ s=.ok (.tup xs) s):zR f ρ s=.ok (xs,[]) s:=by simp[h]
theorem yC{f:FE}{ρ:Ev}{s:Sto}{xs:List D}(h:f ρ s=.ok (.lst xs) s):zR f ρ s=.ok (xs,[]) s:=by simp[h]
theorem _root_.Pm.Lot.le4{n:Nat}{v:List Int}(h:Lot n v):v.length<=4/\2<=v.length:=by have:=h.len;have:=h.sz;omega
theorem za9{n:Nat}{v:List Int}(h:Lot n v)(s:Sto):uL [rD v] s=.ok (.bl true) s:=by
 have l4:=h.le4;have h1:=z76 (iL v) s (by simp;omega);have h2:=z3Q v s (by omega);have g1:=zbb s h.ne;have g2:=ze5 s h.ne;have mn:0<=minL v:=h.nn _ (minL_mem h.ne);have mx:0<maxL v:=by obtain⟨x,hx,h0⟩:=h.pos;have:=maxL_ge (xs:=v) x hx;omega
 have gl:vj [rD v] s=.ok (.int v.length) s:=by simp[vj,xj]
 have key:∀d:D,vE [d] s=.ok (.bl true) s->vj [d] s=.ok (.int v.length) s->wv [d,.int v.length] s=.ok (.bl true) s->uD [d] s=.ok (.int (maxL v)) s->qJ [d] s=.ok (.int (minL v)) s->uL [d] s=.ok (.bl true) s:=λd a1 a2 a3 a4 a5=>by simp[uL,Mof,z3T,zT,a1,a2,a3,a4,a5,mn,mx]
 exact key _ h1 gl h2 g1 g2
theorem z6X{n:Nat}{v:List Int}(h:Lot n v)(s:Sto):wR [rD v] s=.ok .non s:=by
 have h1:=za9 h s;have key:∀d:D,uL [d] s=.ok (.bl true) s->wR [d] s=.ok .non s:=λd a1=>by simp[wR,Mof,z1f,zT,a1]
 exact key _ h1
theorem zcc{a b:Int}(hb:0<b):cg b (a % b)=cg a b:=by
 have e:=Int.mul_ediv_add_emod a b;refine Int.dvd_antisymm (by simp[cg]) (by simp[cg]) ?_ ?_
 ·have h1:cg b (a % b) ∣ b:=_dp ..;have h2:cg b (a % b) ∣ a % b:=_c6 ..;refine Int.dvd_coe_gcd ?_ h1;have h3:=Int.dvd_add (_dg h1 (Int.dvd_mul_right b (a / b))) h2;rwa [e]at h3
 ·have h1:cg a b ∣ a:=_dp ..;have h2:cg a b ∣ b:=_c6 ..;refine Int.dvd_coe_gcd h2 ?_;have:a % b=a-b*(a / b):=by omega
  rw[this];exact Int.dvd_sub h1 (_dg h2 (Int.dvd_mul_right ..))
theorem zcA{a:Int}(h:0<=a):cg a 0=a:=by
 unfold cg;rw[Int.gcd_zero_right];omega
end Pg
namespace Pm
open L2 (maxL minL maxL_ge maxL_mem minL_le minL_mem n3)
end Pm
namespace Pg
open L2 Dd Pm
theorem yc{M:Mir}{f:FE}{ρ:Ev}{s:Sto}{x:D}(h:f ρ s=.ok x s):ze M (za f zi) ρ s=M [x] s:=by simp only[vv,zo,yq,h,Rb]
theorem call2{M:Mir}{f g:FE}{ρ:Ev}{s:Sto}{x y:D}(h:f ρ s=.ok x s)(h2:g ρ s=.ok y s):ze M (za f (za g zi)) ρ s=M [x,y] s:=by simp only[vv,zo,yq,h,h2,Rb]
theorem zey{M:Mir}{f g k:FE}{ρ:Ev}{s:Sto}{x y z:D}(h:f ρ s=.ok x s)(h2:g ρ s=.ok y s)(h3:k ρ s=.ok z s):ze M (za f (za g (za k zi))) ρ s=M [x,y,z] s:=by simp only[vv,zo,yq,h,h2,h3,Rb]
theorem op2{o:D->D->Sto->R D}{f g:FE}{ρ:Ev}{s:Sto}{x y:D}(h:f ρ s=.ok x s)(h2:g ρ s=.ok y s):eOp o f g ρ s=o x y s:=by simp only[z3E,h,h2,Rb]
theorem z98{i:Int}(h0:0<=i)(h:i<2 ^ 2000):i.natAbs<BIG:=by
 have e:(i.natAbs:Int)=i:=Int.natAbs_of_nonneg h0;have k:(2:Int) ^ 2000<=(BIG:Int):=by decide +kernel
 exact Int.ofNat_lt.mp (Int.lt_of_lt_of_le (by rw[e];exact h) k)
theorem z1s{a b:Int}(s:Sto)(ha:0<=a)(ha':a<2 ^ 2000)(hb:0<=b)(hb':b<2 ^ 2000):uN (.int a) (.int b) s=.ok (.int (a*b)) s:=by rw[zaQ,_g ⟨z98 ha ha',z98 hb hb'⟩]
theorem z5j{a b:Int}(s:Sto)(hb:0<b)(hb':b<2 ^ 2000):z47 (.int a) (.int b) s=.ok (.int (a / b)) s:=by rw[zcj,_g ⟨hb,z98 (by omega) hb'⟩]
theorem zdK(ns:List Int)(k:Nat)(s:Sto):∃c,xo [.scr (iL ns),.int k] s=.ok (.int c) s:=by
 by_cases h:k<ns.length
 ·have hk:(k:Int)<ns.length:=by omega
  refine⟨ns[k],?_⟩;have e:ixN (iL ns).length (k:Int)=some k:=by
   unfold ixN;rw[_g (by omega),_g (by simpa using hk)];simp
  have ix:dIx (.scr (iL ns)) (.int k) s=.ok (.int ns[k]) s:=by
   simp only[dIx,xj,atI,e,_aA];simp[h]
  simp only[iL]at ix;simp[xo,Mof,vM,zT,vj,xj,hk,ix]
 ·have hk:¬ (k:Int)<ns.length:=by omega
  exact⟨0,by simp[xo,Mof,vM,zT,vj,xj,hk]⟩
def Pot(s:Sto)(l:Nat):Prop:=∃p:Int,s[l]? = some [.int p]
theorem Pot.lt{s:Sto}{l:Nat}(h:Pot s l):l<s.length:=by
 obtain⟨p,e⟩:=h;exact (_b.mp e).1
theorem Pot.app{s:Sto}{l:Nat}(h:Pot s l)(t:Sto):Pot (s++t) l:=by
 obtain⟨p,e⟩:=h;exact⟨p,by rw[_B (_b.mp e).1];exact e⟩
structure qg(s s':Sto)(l:Nat):Prop where
 pot:Pot s' l
 len:s'.length=s.length
 oth:∀m,m≠l->s'[m]? = s[m]?
theorem zbp{s:Sto}{l:Nat}{far:Int}(h:Pot s l)(h0:0<far)(h1:far<2 ^ 2000):∃r s',zV [.loc l,.int far] s=.ok (.int r) s'/\0<=r/\r<far/\qg s s' l:=by
 obtain⟨p,e⟩:=h;have hl:l<s.length:=(_b.mp e).1;refine⟨p % far,s.set l [.int (p / far)],?_,_a4 _ (by omega),_aH _ h0,⟨p / far,by rw[_N hl]⟩,by simp,λm hm=>_K (_bp hm)⟩;have ix:dIx (.loc l) (.int 0) s=.ok (.int p) s:=by simp[dIx,xj,e,atI,ixN]
 simp[zV,Mof,kP,zT,ix,z42 s h0,z5j s h0 h1,e,ixN,z0n,List.replicate]
theorem zdV(s:Sto):zd3 (.int 10) (.int 18) s=.ok (.int 1000000000000000000) s:=by rw[zeD];rfl
theorem pow_step{m r j:Nat}(h:m<2147483648 ^ j)(hr:r<2147483587):m*2147483587+r<2147483648 ^ (j+1):=by
 rw[_dw];generalize 2147483648 ^ j=B at h;omega
theorem zeN{m j:Nat}(h:m<2147483648 ^ j)(hj:j<=64):(m:Int)<2 ^ 2000:=by
 have h1:2147483648 ^ j<=2147483648 ^ 64:=_bL (by decide) hj;have h2:2147483648 ^ 64<=2 ^ 2000:=by decide +kernel
 have h3:m<2 ^ 2000:=_w h (_H h1 h2);have h4:((2 ^ 2000:Nat):Int)=2 ^ 2000:=by decide +kernel
 rw[<- h4];exact Int.ofNat_lt.mpr h3
theorem zgb (c:Int) (s:Sto):∃p:Int,vF [.int c] s=.ok (.loc s.length) (s++[[.int p]]):=by
 by_cases h:1000000000000000000<=c;·exact⟨c-1000000000000000000,by simp[vF,Mof,qZ,zT,zdV,h,D.flat.flats,z0n,cap,List.replicate]⟩
 ·have lp:∃ ρ' s',kK [some (.int c),some (.int 0),none,none] s=.ok (.nx ρ') s'/\∃(m:Nat) (a b:Option D),ρ'=[some (.int c),some (.int m),a,b]/\s'=s:=by
   obtain⟨ρ',s',e,m,a,b,e1,e2,_⟩:=wL (all:=vO 64) (body:=λd ρ s=>(yJ 2 d ρ s).bind fun ρ' s'=>(zM kM (zM kG kO)) ρ' s') (λj ρ s'=>∃(m:Nat) (a b:Option D),ρ=[some (.int c),some (.int m),a,b]/\s'=s/\m<2147483648 ^ j) (vO 64) 0 (λj x hx ρ s' hi=>by
    obtain⟨m,a,b,rfl,rfl,hm⟩:=hi;obtain⟨hj,rfl⟩:=z4x hx;rw[_Q]at hm;have r0:=_a4 c (show (2147483629:Int)≠0 by decide);have r1:=_aH c (show (0:Int)<2147483629 by decide);have a1:z7t (.int c) (.int 2147483629) s'=.ok (.int (c % 2147483629)) s':=z42 s' (by decide);have a2:uN (.int 7919) (.int j) s'=.ok (.int (7919*j)) s':=z1s s' (by decide) (by decide +kernel) (by omega) (by omega);have a3:uN (.int (c % 2147483629+7919*j+1)) (.int 48271) s'=.ok (.int ((c % 2147483629+7919*j+1)*48271)) s':=z1s s' (by omega) (by omega) (by decide) (by decide +kernel);generalize hx1:(c % 2147483629+7919*(j:Int)+1)*48271 % 2147483647=x1;have b0:0<=x1:=by rw[<- hx1];exact _a4 _ (by decide)
    have b1:x1<2147483647:=by rw[<- hx1];exact _aH _ (by decide)
    have a4:z7t (.int ((c % 2147483629+7919*j+1)*48271)) (.int 2147483647) s'=.ok (.int x1) s':=by rw[<- hx1];exact z42 s' (by decide)
    have a5:uN (.int x1) (.int x1) s'=.ok (.int (x1*x1)) s':=z1s s' b0 (by omega) b0 (by omega);have a6:uN (.int 69621) (.int j) s'=.ok (.int (69621*j)) s':=z1s s' (by decide) (by decide +kernel) (by omega) (by omega);generalize hx2:(x1*x1+69621*(j:Int)+7) % 2147483587=x2;have c0:0<=x2:=by rw[<- hx2];exact _a4 _ (by decide)
    have c1:x2<2147483587:=by rw[<- hx2];exact _aH _ (by decide)
    have a7:z7t (.int (x1*x1+69621*j+7)) (.int 2147483587) s'=.ok (.int x2) s':=by rw[<- hx2];exact z42 s' (by decide)
    have a8:uN (.int m) (.int 2147483587) s'=.ok (.int (m*2147483587)) s':=z1s s' (by omega) (zeN hm (by omega)) (by decide) (by decide +kernel);obtain⟨y,rfl⟩:=_aM c0;refine⟨[some (.int c),some (.int ((m*2147483587+y:Nat):Int)),some (.int j),some (.int y)],s',?_,m*2147483587+y,_,_,rfl,rfl,?_⟩;·simp[a1,a2,a3,a4,a5,a6,a7,a8]
    ·rw[_Q];exact pow_step hm (by omega)) [some (.int c),some (.int 0),none,none] s ⟨0,none,none,rfl,rfl,by decide⟩;exact⟨ρ',s',by simpa using e,m,a,b,e1,e2⟩
  obtain⟨ρ',s',e,m,a,b,rfl,rfl⟩:=lp;refine⟨m,?_⟩;have st:zT ["_law_cell","_law_number","_law_j","_law_more"] [.int c]=[some (.int c),none,none,none]:=rfl;simp only[vF,Mof,qZ,st,_p,_J,_P];rw[zr (ρ':=[some (.int c),none,none,none]) (s':=s') (by simp[zdV,h])];rw[zr (ρ':=[some (.int c),some (.int 0),none,none]) (s':=s') (by simp)];rw[zr e];simp[D.flat.flats,z0n,cap]
structure LS(s0:Sto)(l:Nat)(s:Sto)(xs:List Int):Prop where
 pot:Pot s l
 len:s.length=s0.length+1
 at_:s[s0.length]? = some (iL xs)
 oth:∀m,m≠l->m<s0.length->s[m]? = s0[m]?
theorem LS.drawn{s0 s s':Sto}{l:Nat}{xs:List Int}(h:LS s0 l s xs)(hl:l<s0.length)(d:qg s s' l):LS s0 l s' xs:= ⟨d.pot,by rw[d.len,h.len],by rw[d.oth _ (by omega)];exact h.at_,λm h1 h2=>by rw[d.oth m h1];exact h.oth m h1 h2⟩
theorem LS.set{s0 s:Sto}{l:Nat}{xs:List Int}(h:LS s0 l s xs)(hl:l<s0.length)(ys:List Int):LS s0 l (s.set s0.length (iL ys)) ys:=by
 refine⟨?_,by simp[h.len],_N (by rw[h.len];omega),λm h1 h2=>?_⟩
 ·obtain⟨p,e⟩:=h.pot;exact⟨p,by rw[_K (by omega)];exact e⟩
 ·rw[_K (by omega)];exact h.oth m h1 h2
theorem LS.fin{s0 s:Sto}{l:Nat}{xs:List Int}(h:LS s0 l s xs)(hl:l<s0.length):qg s0 (s.take s0.length) l:=by
 obtain⟨p,e⟩:=h.pot;refine⟨⟨p,by rw[_aj hl];exact e⟩,by simp[h.len],λm h1=>?_⟩;by_cases h2:m<s0.length;·rw[_aj h2];exact h.oth m h1 h2
 ·rw[List.getElem?_eq_none (by simp[h.len];omega),List.getElem?_eq_none (by omega)]
theorem LS.start{s0 s:Sto}{l:Nat}(d:qg s0 s l)(h:Pot s0 l)(xs:List Int):LS s0 l (s++[iL xs]) xs:= ⟨d.pot.app _,by simp[d.len],by rw[<- d.len];simp,λm h1 h2=>by rw[_B (by rw[d.len];exact h2)];exact d.oth m h1⟩
theorem qg.trans{s s1 s2:Sto}{l:Nat}(a:qg s s1 l)(b:qg s1 s2 l):qg s s2 l:=⟨b.pot,by rw[b.len,a.len],λm h=>by rw[b.oth m h,a.oth m h]⟩
theorem z25{s:Sto}{l:Nat}{far:Int}{f g:FE}{ρ:Ev}(h:Pot s l)(h0:0<far)(h1:far<2 ^ 2000)(hf:f ρ s=.ok (.loc l) s)(hg:g ρ s=.ok (.int far) s):∃r s',ze zV (za f (za g zi)) ρ s=.ok (.int r) s'/\0<=r/\r<far/\qg s s' l:=by
 obtain⟨r,s',e,a,b,c⟩:=zbp h h0 h1;exact⟨r,s',by rw[call2 hf hg,e],a,b,c⟩
theorem z5W{xs:List D}{i:Int}{d:D}{s:Sto}(h0:0<=i)(h:xs[i.toNat]? = some d):dIx (.lst xs) (.int i) s=.ok d s:=by
 have hj:i.toNat<xs.length:=(_b.mp h).1;have e:ixN xs.length i=some i.toNat:=by
  unfold ixN;rw[_g h0,_g (by omega)]
 simp only[dIx,xj,atI,e,_aA,h]
theorem zdz{xs:List D}{l:Nat}{i:Int}{d:D}{s:Sto}(hl:s[l]? = some xs)(h0:0<=i)(h:xs[i.toNat]? = some d):dIx (.loc l) (.int i) s=.ok d s:=by
 have hj:i.toNat<xs.length:=(_b.mp h).1;have e:ixN xs.length i=some i.toNat:=by
  unfold ixN;rw[_g h0,_g (by omega)]
 simp only[dIx,xj,hl,atI,e,_aA,h]
theorem z4W{fa fb fc:FE}{ρ:Ev}{s s1 s2:Sto}{L:Nat}{xs:List Int}{i x:Int}(hc:fc ρ s=.ok (.int x) s1)(ha:fa ρ s1=.ok (.loc L) s1)(hb:fb ρ s1=.ok (.int i) s2)(at_:s2[L]? = some (iL xs))(h0:0<=i)(h1:i<xs.length):z4g fa fb fc ρ s=.ok (.nx ρ) (s2.set L (iL (xs.set i.toNat x))):=by
 have e:ixN (iL xs).length i=some i.toNat:=by
  unfold ixN;rw[_g h0,_g (by simp;omega)]
 rw[zcz,hc,Rb,ha,Rb,hb,Rb];simp only[at_,e,z0n,_P,iL,List.map_set]
theorem z9n{xs:List Int}{i:Nat}{x B:Int}(h:∀y∈xs,0<=y/\y<=B)(hx:0<=x/\x<=B):∀y∈xs.set i x,0<=y/\y<=B:=λy hy=>by
 rcases _aB hy with h2 | h2;·exact h y h2
 ·rw[h2];exact hx
theorem z8O{x:Int}(h:x<=1000):x<2 ^ 2000:=Int.lt_of_le_of_lt h (by decide +kernel)
theorem za4{v:List Int}{n:Nat}{s:Sto}:z6D n (.ok (rD v) s)=.ok (rD v) (s.take n):=qF (wZ v)
theorem zca{ns:List Int}{L:Nat}{s:Sto}{f:FE}{ρ:Ev}(h:ns≠[])(e:s[L]? = some (iL ns))(hf:f ρ s=.ok (.loc L) s):tOf (eOp dEq (ze uD (za f zi)) (eC (.int 0))) ρ s=.ok (decide (maxL ns=0)) s:=by
 rw[zfe,z3E,yc hf,z9X h e];simp
theorem z7j{ns:List Int}(h:ns≠[])(hn:∀y∈ns,0<=y)(hm:maxL ns≠0):∃x∈ns,0<x:=⟨maxL ns,maxL_mem h,by have:=hn _ (maxL_mem h);omega⟩
noncomputable def okD:Nat->D->Bool
 | _,.non=>true | _,.bl _=>true | _,.int _=>true | _,.str x=>PyData.strOk x | k+1,.tup xs=>xs.all (okD k) | k+1,.lst xs=>xs.all (okD k) | _,_=>false
theorem zg6{k:Nat}:∀(xs:List D),(∀x∈xs,PyData.canLay0 (ut x)=true/\PyData.depth (ut x)<=2*k+3/\PyData.eqv (ut x) (ut x)=true)->PyData.canLayAll0 (toPys xs)=true/\PyData.depthAll (toPys xs)<=2*k+4/\PyData.eqvAll (toPys xs) (toPys xs)=true
 | [],_=>⟨rfl,by simp[toPys,PyData.depthAll],by simp[toPys,PyData.eqvAll]⟩ | x::xs,h=>by
  have h1:=h x (by simp);have h2:=zg6 xs λy hy=>h y (by simp[hy]);refine⟨by simp[toPys,PyData.canLayAll0,h1.1,h2.1],?_,by simp[toPys,PyData.eqvAll,h1.2.2,h2.2.2]⟩;simp only[toPys,PyData.depthAll];omega
theorem zeC:∀(k:Nat)(d:D),okD k d=true->PyData.canLay0 (ut d)=true/\PyData.depth (ut d)<=2*k+3/\PyData.eqv (ut d) (ut d)=true:=by
 intro k;induction k with
 | zero=>
  intro d h;cases d with
  | str x=>simp only[okD]at h;simp[ut,PyData.canLay0,PyData.depth,PyData.eqv,h] | non=>simp[ut,PyData.canLay0,PyData.depth,PyData.eqv] | bl b=>simp[ut,PyData.canLay0,PyData.depth,PyData.eqv] | int i=>simp[ut,PyData.canLay0,PyData.depth,PyData.eqv] | _=>simp[okD]at h
 | succ k ih=>
  intro d h;cases d with
  | str x=>simp only[okD]at h;simp[ut,PyData.canLay0,PyData.depth,PyData.eqv,h] | non=>simp[ut,PyData.canLay0,PyData.depth,PyData.eqv] | bl b=>simp[ut,PyData.canLay0,PyData.depth,PyData.eqv] | int i=>simp[ut,PyData.canLay0,PyData.depth,PyData.eqv] | tup xs=>
   simp only[okD,_ab]at h;have q:=zg6 (k:=k) xs λx hx=>ih x (h x hx);refine⟨by simp only[ut,PyData.canLay0,q.1],?_,by simp only[ut,PyData.eqv,q.2.2]⟩;simp only[ut,PyData.depth];omega | lst xs=>
   simp only[okD,_ab]at h;have q:=zg6 (k:=k) xs λx hx=>ih x (h x hx);refine⟨by simp only[ut,PyData.canLay0,q.1],?_,by simp only[ut,PyData.eqv,q.2.2]⟩;simp only[ut,PyData.depth];omega | _=>simp[okD]at h
theorem zdb{k:Nat}{d:D}(h:okD k d=true)(hk:k<=10):z9w d=true:=by
 have q:=zeC k d h;simp only[z9w,SeqAt.shaped,q.1];simp;omega
end Pg
namespace Pn
open L2 Dd Pm Pg
end Pn
namespace Pm
end Pm
namespace Pg
open L2 Dd Pm
theorem vr{i:Nat}{ρ:Ev}{s:Sto}{d:D}(h:ρ[i]? = some (some d)):zd i ρ s=.ok d s:=by rw[zb9,h]
theorem zd6{f g:FS}{t:FT}{ρ:Ev}{s:Sto}(h:t ρ s=.ok false s):fIf t f g ρ s=g ρ s:=by rw[z45,h,Rb,_i (by decide)]
theorem jH{f:FE}{ρ:Ev}{s:Sto}{b:Bool}(h:f ρ s=.ok (.bl b) s):tOf f ρ s=.ok b s:=by rw[zfe,h];rfl
theorem zex{t:FT}{ρ:Ev}{s:Sto}(h:t ρ s=.ok true s):z74 t ρ s=.ok false s:=by rw[zbx,h];rfl
end Pg
namespace Pm
end Pm
namespace Pg
open L2 Dd Pm
end Pg
namespace Pm
end Pm
namespace Pg
open L2 Dd Pm
theorem z2M:∀xs:List D,z3K xs xs=xs.map λx=>D.tup [x,x]
 | []=>rfl | x::xs=>by simp[z3K,z2M xs]
section
variable (Mr:Mir)
theorem same_int(i:Int)(s:Sto):Mof ["_law_found","_law_due"] 2 (zI Mr) [.int i,.int i] s=.ok (.bl true) s:= (show _=R.ok (D.bl (decide (i=i))) s by with_unfolding_all rfl).trans (by rw[_bK rfl])
theorem zc9(i:Bool)(s:Sto):Mof ["_law_found","_law_due"] 2 (zI Mr) [.bl i,.bl i] s=.ok (.bl true) s:=by cases i<;>with_unfolding_all rfl
theorem zal(s:Sto):Mof ["_law_found","_law_due"] 2 (zI Mr) [.non,.non] s=.ok (.bl true) s:=by with_unfolding_all rfl
theorem z6a {xs:List D} {d:D} (hd:d=.tup xs\/d=.lst xs) (hl:xs.length<=cap) (s:Sto) (h:∀x∈xs,Mr [x,x] s=.ok (.bl true) s):Mof ["_law_found","_law_due"] 2 (zI Mr) [d,d] s=.ok (.bl true) s:=by
 have q:z1N (eOp dEq (ze vj (za (zd 0) zi)) (ze vj (za (zd 1) zi))) (ze z6R (za (zF (z7d (za (zd 0) (za (zd 1) zi))) [none,none] (kz 0 1) yr (ze Mr (za (zd 0) (za (zd 1) zi)))) zi)) [some d,some d] s=.ok (.bl true) s:=by
  have l:∀i,(zd i:FE) [some d,some d] s=.ok d s->ze vj (za (zd i) zi) [some d,some d] s=.ok (.int xs.length) s:=λi h=>by rw[yc h];rcases hd with rfl | rfl<;>rfl
  rw[z6p,op2 (l 0 rfl) (l 1 rfl),z10];simp only[Rb,decide_true];rw[yc (comp_map (λx=>D.tup [x,x]) (λ_=>D.bl true) (λx=>[some x,some x]) xs (by rcases hd with rfl | rfl<;>simp[za8,z2M]) (λx _=>rfl) (λx hx=>by rw[call2 (x:=x) (y:=x) rfl rfl];exact h x hx) hl),z0o s (by intro x hx;obtain⟨_,_,rfl⟩:=_x.mp hx;rfl)]
 generalize hG:z1N (eOp dEq (ze vj (za (zd 0) zi)) (ze vj (za (zd 1) zi))) (ze z6R (za (zF (z7d (za (zd 0) (za (zd 1) zi))) [none,none] (kz 0 1) yr (ze Mr (za (zd 0) (za (zd 1) zi)))) zi))=G at q;have z:Mof ["_law_found","_law_due"] 2 (zI Mr) [d,d] s=(match wN G [some d,some d] s with
  | .ok (.rt d) s'=>.ok d s' | .ok (.nx _) s'=>.ok .non s' | _=>.no):=by subst hG;rcases hd with rfl | rfl<;>with_unfolding_all rfl
 rw[z,xH,q];rfl
end
noncomputable def smD:Nat->D->Bool
 | _,.int _=>true | _,.bl _=>true | _,.non=>true | k+1,.tup xs=>xs.all (smD k)&&decide (xs.length<=cap) | k+1,.lst xs=>xs.all (smD k)&&decide (xs.length<=cap) | _,_=>false
theorem z1o:∀(k:Nat)(d:D)(s:Sto),smD k d=true->zE (k+1) [d,d] s=.ok (.bl true) s
 | k,.int i,s,_=>same_int _ i s | k,.bl i,s,_=>zc9 _ i s | k,.non,s,_=>zal _ s | k+1,.tup xs,s,h=>by
  simp only[smD,_u,_ab,_l]at h;exact z6a _ (.inl rfl) h.2 s λx hx=>z1o k x s (h.1 x hx) | k+1,.lst xs,s,h=>by
  simp only[smD,_u,_ab,_l]at h;exact z6a _ (.inr rfl) h.2 s λx hx=>z1o k x s (h.1 x hx) | 0,.tup xs,s,h=>by simp[smD]at h | 0,.lst xs,s,h=>by simp[smD]at h | 0,.str xs,s,h=>by simp[smD]at h | k+1,.str xs,s,h=>by simp[smD]at h | 0,.dct,s,h=>by simp[smD]at h | k+1,.dct,s,h=>by simp[smD]at h | 0,.loc l,s,h=>by simp[smD]at h | 0,.dlo l,s,h=>by simp[smD]at h | k+1,.loc l,s,h=>by simp[smD]at h | k+1,.dlo l,s,h=>by simp[smD]at h | 0,.fn l,s,h=>by simp[smD]at h | k+1,.fn l,s,h=>by simp[smD]at h | 0,.exc l,s,h=>by simp[smD]at h | k+1,.exc l,s,h=>by simp[smD]at h | 0,.scr l,s,h=>by simp[smD]at h | k+1,.scr l,s,h=>by simp[smD]at h
theorem kb{ar:FA}{ρ:Ev}{s s1:Sto}{n:Nat}(hn:n<=1000)(h:ar ρ s=.ok [.int n] s1):z6F ar ρ s=.ok ((List.range n).map λk:Nat=>D.int ((k:Nat):Int),[]) s1:=by
 rw[zew,h,Dd.R.bind_ok];simp only;rw[_g ⟨by omega,by omega⟩];simp[vO]
end Pg
namespace Pn
open L2 Dd Pm Pg
theorem z2y{s:Sto}{x y:List D}:(s++[x]).set s.length y=s++[y]:=by simp
end Pn
namespace Pm
open L2 (maxL minL maxL_ge maxL_mem minL_le minL_mem)
end Pm
namespace Pg
open L2 Dd Pm
theorem z5I{α:Type}{all:List D}{body:D->Sto->R (Option D)}(g:α->D)(P:Nat->Sto->Prop)(Q:D->Prop):∀(l:List α)(j:Nat)(acc:List D)(s:Sto),(∀i a,l[i]? = some a->∀s,P (j+i) s->∃y s',body (g a) s=.ok (some y) s'/\Q y/\P (j+i+1) s')->acc.length+l.length<=cap->P j s->(∀y∈acc,Q y)->∃ys s',wo [] all body (l.map g) acc s=.ok ys s'/\ys.length=acc.length+l.length/\(∀y∈ys,Q y)/\P (j+l.length) s'
 | [],j,acc,s,_,_,hP,hQ=>⟨acc,s,by simp[wo,okG],by simp,hQ,hP⟩ | x::xs,j,acc,s,hb,hl,hP,hQ=>by
  obtain⟨y,s1,e,hy,hP1⟩:=hb 0 x (by simp) s hP;obtain⟨ys,s2,e2,h1,h2,h3⟩:=z5I (all:=all) g P Q xs (j+1) (acc++[y]) s1 (λi a ha s h=>by
   have:=hb (i+1) a (by simpa using ha) s (by rw[show j+(i+1)=j+1+i by omega];exact h);rw[show j+(i+1)+1=j+1+i+1 by omega]at this;exact this) (by simp at hl ⊢;omega) hP1 (by
   intro z hz;rcases _L.mp hz with hz | hz;·exact hQ z hz
   ·simp at hz;rw[hz];exact hy);refine⟨ys,s2,?_,by simp at h1 ⊢;omega,h2,by rw[_p,show j+(xs.length+1)=j+1+xs.length by omega];exact h3⟩;rw[_t,wo,_g (by intro p hp;simp at hp),e];have hc:acc.length<cap:=by simp at hl;omega
  simp[hc,e2]
theorem zap {α:Type} {fi:FI} {mp:List (Option Nat)} {fg:FG} {fe:FE} {ρ:Ev} {s s0:Sto} (g:α->D) (ev:α->Ev) (P:Nat->Sto->Prop) (Q:D->Prop) (l:List α) (hi:fi ρ s=.ok (l.map g,[]) s0) (hg:∀a∈l,∀s,fg (g a) (yi mp ρ) s=.ok (ev a) s) (he:∀i a,l[i]? = some a->∀s,P i s->∃y s',fe (ev a) s=.ok y s'/\Q y/\P (i+1) s') (hl:l.length<=cap) (hP:P 0 s0): ∃ys s',z1F fi mp fg yr fe ρ s=.ok ys s'/\ys.length=l.length/\(∀y∈ys,Q y)/\P l.length s':=by
 obtain⟨ys,s',e,h1,h2,h3⟩:=z5I (all:=l.map g) (body:=λd s=>(fg d (yi mp ρ) s).bind fun ρ' s1=>(yr ρ' s1).bind λt s2=>if t=true then (fe ρ' s2).bind λy s3=>.ok (some y) s3 else .ok none s2) g P Q l 0 [] s0 (λi a ha s hP=>by
  rw[_Q]at hP ⊢;obtain⟨y,s',e,hq,hp⟩:=he i a ha s hP;exact⟨y,s',by simp[hg a (_c ha) s,e],hq,hp⟩) (by simpa using hl) hP (by simp);refine⟨ys,s',?_,by simpa using h1,h2,by simpa using h3⟩;rw[jl,hi,Dd.R.bind_ok];exact e
theorem z9C{α:Type}{fi:FI}{mp:List (Option Nat)}{fg:FG}{fe:FE}{ρ:Ev}{s s0:Sto}(g:α->D)(ev:α->Ev)(P:Nat->Sto->Prop)(Q:D->Prop)(l:List α) (hi:fi ρ s=.ok (l.map g,[]) s0)(hg:∀a∈l,∀s,fg (g a) (yi mp ρ) s=.ok (ev a) s)(he:∀i a,l[i]? = some a->∀s,P i s->∃y s',fe (ev a) s=.ok y s'/\Q y/\P (i+1) s')(hl:l.length<=cap)(hP:P 0 s0)(hf:∀y,Q y->y.flat=true): ∃ys s',ub fi mp fg yr fe ρ s=.ok (.loc s'.length) (s'++[ys])/\ys.length=l.length/\(∀y∈ys,Q y)/\P l.length s':=by
 obtain⟨ys,s',e,h1,h2,h3⟩:=zap g ev P Q l hi hg he hl hP;have fl:∀zs:List D,(∀y∈zs,Q y)->D.flat.flats zs=true:=λzs=>by induction zs with
  | nil=>intro _;rfl | cons z zs ih=>intro hz;simp only[D.flat.flats,_u];exact⟨hf z (hz z (by simp)),ih λy hy=>hz y (by simp[hy])⟩
 exact⟨ys,s',by rw[z9z,e,Dd.R.bind_ok,_g (fl ys h2)],h1,h2,h3⟩
end Pg
namespace Po
open L2 Dd Pm Pg Pn
theorem zc6{f g:FS}{t:FT}{ρ:Ev}{s:Sto}(h:t ρ s=.ok true s):fIf t f g ρ s=f ρ s:=by rw[z45,h,Rb,_g rfl]
section
end
end Po
namespace Pr
open L2 Dd Pm Pg Pn Po
theorem z8e{ns:List Int}(s:Sto)(h:ns≠[]):qJ [.lst (iL ns)] s=.ok (.int (minL ns)) s:=by
 obtain⟨a,t,e⟩:=_bM h;rw[e];simp only[qJ,xj,_aA,iL];rw[vG]
end Pr
namespace Pn
open L2 Dd Pm Pg
end Pn
namespace Po
open L2 Dd Pm Pg Pn
open PySem.Builtin.Str
end Po
namespace Po
open L2 Dd Pm Pg Pn
theorem z9q{α:Type}{G:List (Nat×List D)}{all:List D}{body:D->Sto->R (Option D)}{s:Sto}(og:okG G all s)(g f:α->D):∀(l:List α)(acc:List D),(∀x∈l,body (g x) s=.ok (some (f x)) s)->acc.length+l.length<=cap->wo G all body (l.map g) acc s=.ok (acc++l.map f) s
 | [],acc,_,_=>by simp[wo,og] | x::xs,acc,hb,hl=>by
  have ih:=z9q (all:=all) og g f xs (acc++[f x]) (λy hy=>hb y (by simp[hy])) (by simp at hl ⊢;omega);have hc:acc.length<cap:=by simp at hl;omega
  rw[_t,wo,_g og,hb x (by simp),Rb];simp only[_g hc,ih];simp
theorem z80{α:Type}{G:List (Nat×List D)}{fi:FI}{mp:List (Option Nat)}{fg:FG}{fe:FE}{ρ:Ev}{s:Sto}(g f:α->D)(ev:α->Ev)(l:List α) (hi:fi ρ s=.ok (l.map g,G) s)(og:okG G (l.map g) s)(hg:∀a∈l,fg (g a) (yi mp ρ) s=.ok (ev a) s)(he:∀a∈l,fe (ev a) s=.ok (f a) s)(hl:l.length<=cap): zF fi mp fg yr fe ρ s=.ok (.lst (l.map f)) s:=by
 rw[uj,jl,hi,Rb];rw[z9q og g f l [] (by
  intro a ha;simp only[hg a ha,Rb];show (R.ok true s).bind _=_;simp[he a ha]) (by simpa using hl)];rfl
end Po
namespace Pr
open L2 Dd Pm Pg Pn Po
open PySem.W
theorem z3P {α β:Type} {all:List D} {s:Sto} {fi2:D->Sto->R ItD} {fb:D->D->Sto->R D} (g:α->D) (g2:α->β->D) (l2:α->List β) (f:α->β->D):∀(l:List α) (acc:List D),(∀a∈l,fi2 (g a) s=.ok ((l2 a).map (g2 a),[]) s)->(∀a∈l,∀b∈l2 a,fb (g a) (g2 a b) s=.ok (f a b) s)->acc.length+(l.flatMap λa=>(l2 a).map (f a)).length<=cap-> z2F [] all (λd acc s=>(fi2 d s).bind λit2 s2=>wo it2.2 it2.1 (λd2 s=>(fb d d2 s).bind λd s3=>.ok (some d) s3) it2.1 acc s2) (l.map g) acc s=.ok (acc++l.flatMap λa=>(l2 a).map (f a)) s
 | [],acc,_,_,_=>by simp[z2F,okG] | x::xs,acc,h1,h2,hl=>by
  have og:okG [] all s:=by intro p hp;simp at hp
  rw[List.flatMap_cons,_q,_m]at hl;rw[_t,z2F,_g og,h1 x (by simp),Rb];have c:=ql (s:=s) (all:=(l2 x).map (g2 x)) (body:=λd2 s=>(fb (g x) d2 s).bind λd s3=>.ok (some d) s3) (g2 x) (f x) (λ_=>true) (l2 x) acc (λb hb=>by simp[h2 x (by simp) b hb]) (by omega);rw[c,Rb,_cL.mpr (by simp)];rw[z3P g g2 l2 f xs _ (λa ha=>h1 a (by simp[ha])) (λa ha=>h2 a (by simp[ha])) (by simp only[_q,_m];omega)];simp
theorem z8F {α β:Type} {fi:FI} {mp:List (Option Nat)} {k1 k2:Nat} {fi2:FI} {fe:FE} {ρ:Ev} {s:Sto} (g:α->D) (g2:α->β->D) (l:List α) (l2:α->List β) (f:α->β->D) (hi:fi ρ s=.ok (l.map g,[]) s) (hi2:∀a∈l,fi2 ((yi mp ρ).set k1 (some (g a))) s=.ok ((l2 a).map (g2 a),[]) s) (he:∀a∈l,∀b∈l2 a,fe (((yi mp ρ).set k1 (some (g a))).set k2 (some (g2 a b))) s=.ok (f a b) s) (hl:(l.flatMap λa=>(l2 a).map (f a)).length<=cap):z4H fi mp k1 k2 fi2 fe ρ s=.ok (.lst (l.flatMap λa=>(l2 a).map (f a))) s:=by
 unfold z4H z65;rw[hi,Rb,z3P (fi2:=λd s=>fi2 ((yi mp ρ).set k1 (some d)) s) (fb:=λd d2 s=>fe (((yi mp ρ).set k1 (some d)).set k2 (some d2)) s) g g2 l2 f l [] hi2 he (by simpa using hl)];rfl
end Pr
namespace Dd
open L2 PySem.W Pm Pr
end Dd
namespace L2
def z7i(H:Hp)(a:Addr)(kvs:List (Key×V)):Prop:=H a=some (.dK kvs)\/(kvs=[]/\H a=some (.dT []))
section
variable {X:Cx}{pins:List (Addr×Obj)}{O:St}{H:Hp}{s:Shared}{a:Addr}{kvs:List (Key×V)}{k:Key}
theorem z2E(I:Inv X pins O H s)(h:z7i H a kvs):kvs.length<=sizeLine/\(a==sysModules)=false/\∃vs,KV kvs vs/\s.heap.DictOf (xq X.prog X.w) a vs:=by
 rcases h with h | ⟨rfl,h⟩;·exact zgg I.hok h
 ·obtain⟨z,hd,xs,rel,o,es,ep,h1,h2,h3,h4,h5⟩:=(show wc X.prog X.w H s.heap a (.dT []) from I.hok a _ h);cases rel;have e:es=#[]:=by
   have:es.toList=[]:=h4;exact Array.toList_eq_nil_iff.mp this
  subst e;exact⟨z,hd,[],.nil,o,#[],ep,h1,h2,h3,λe he=>by simp at he,.nil,List.nodup_nil⟩
theorem z6u(h:z7i H a kvs):Mut (H a):=by rcases h with h | ⟨_,h⟩<;>rw[h]<;>exact True.intro
theorem z8S:MtR X "dict.setdefault" (λx vs H Q=>∃a kvs k z,x=.ref a/\vs=[kV k,z]/\z7i H a kvs/\kvs.length<sizeLine/\(∀v,qt kvs k=some v->Q v H)/\(qt kvs k=none->Q z (upd H a (.dK (z3u kvs k z))))):=by
 intro pins s O H x vs v us Q I rx rv h;obtain⟨a,kvs,k,z,rfl,rfl,hD,hl,q1,q2⟩:=h;cases rx;obtain⟨u,r,rfl,ru,rr⟩:=rv.two;obtain⟨z1,hd,ws,rel,dd⟩:=z2E I hD;have rl:=rel.val k;refine _du PySem.F.slot_dict_setdefault dd.typeIs PySem.F.entry_dict_setdefault (PySem.F.args_dict_setdefault_3 _ _ _) (kt_meets_setdefault (xq X.prog X.w) a (z9m ru) hd r) ⟨ws,dd,by rw[<- rel.length];exact z1,λw hw=>?_,λhn h' dd' hs=>?_⟩
 ·rw[hw]at rl;cases hv:qt kvs k with
  | none=>rw[hv]at rl;exact rl.elim | some y=>
   rw[hv]at rl;exact⟨y,H,I.tok _,rl,q1 y hv⟩
 ·rw[hn]at rl;cases hv:qt kvs k with
  | some y=>rw[hv]at rl;exact rl.elim | none=>
   have he:∃q,h'.get? a=some q:=let ⟨q,_,_,hq,_⟩:=dd';⟨q,hq⟩;have hl':(z3u kvs k z).length<=sizeLine:=by have:=z1z kvs k z;omega
   exact⟨z,_,z7E I (z6u hD) hs he (zaR hl' hd (rel.put k rr) dd'),rr,q2 hv⟩
end
end L2
namespace Dd
open L2
noncomputable def xp(k:Int):List D->Option (Option (List D×Bool))
 | []=>some none | .tup [.int i,.lst ys]::t=>if i=k then some (some (ys,false)) else xp k t | .tup [.int i,.lst ys,.non]::t=>if i=k then some (some (ys,true)) else xp k t | _=>none
noncomputable def uo(k:Int)(v:D):List D->List D
 | .tup [.int i,.lst ys]::t=>if i=k then .tup [.int i,.lst (ys++[v])]::t else .tup [.int i,.lst ys]::uo k v t | d::t=>d::uo k v t | []=>[]
noncomputable def z4S(k:Int):List D->List D
 | .tup [.int i,.lst ys]::t=>if i=k then .tup [.int i,.lst ys,.non]::t else .tup [.int i,.lst ys]::z4S k t | d::t=>d::z4S k t | []=>[]
section
variable {mg:Gm}{H H':Hp}{Y:List Addr}{s:Sto}{l:Nat}{a p b:Addr}{xs ys:List D}{kvs:List (Key×V)}{k:Int}{vs:List V}{d:D}{v:V}
theorem z1v:∀{kvs:List (Key×V)}{k:Key}{v:V},qt kvs k=some v->∃j:Nat,kvs[j]? = some (k,v)
 | [],k,v,h=>by simp[z67]at h | (k',v')::r,k,v,h=>by
  by_cases e:k'=k
  ·rw[wK (p:=(k',v')) e]at h;cases h;exact⟨0,by simp[e]⟩
  ·rw[yY (p:=(k',v')) e]at h;obtain⟨j,hj⟩:=z1v h;exact⟨j+1,by simpa using hj⟩
theorem kU{i k:Int}(h:¬ i=k):¬ ((Sum.inl i:Key)=Sum.inl k):=λz=>h (by injection z)
theorem jL:∀{xs:List D}{kvs:List (Key×V)},vH mg H Y xs kvs->xp k xs=some none->qt kvs (.inl k)=none
 | [],kvs,h,_=>by simp only[vH]at h;subst h;rfl | x::xs,kvs,h,g=>by
  obtain⟨i,ys,b,vs,r,rfl,h1,h2,h3⟩:=h;rcases h2 with⟨rfl,_⟩ | ⟨rfl,_⟩;all_goals
   simp only[xp]at g;split at g;·simp at g
   ·rename_i ne;rw[yY (kU ne)];exact jL h3 g
theorem qk:∀{xs:List D}{kvs:List (Key×V)}{ys:List D}{z:Bool},vH mg H Y xs kvs->xp k xs=some (some (ys,z))->∃b vs,qt kvs (.inl k)=some (.ref b)/\zA mg H Y ys vs/\(z=false->H b=some (.lst vs))/\(z=true->∃o,H b=some (.frz o (.lst vs)))
 | [],kvs,ys,z,h,g=>by simp[xp]at g | x::xs,kvs,ys,z,h,g=>by
  obtain⟨i,ys',b,vs,r,rfl,h1,h2,h3⟩:=h;rcases h2 with⟨rfl,q⟩ | ⟨rfl,q⟩;all_goals
   simp only[xp]at g;split at g
   ·rename_i e;subst e;simp only[_M,_bI]at g;obtain⟨rfl,rfl⟩:=g;exact⟨b,vs,wK rfl,h1,by simp[q],by simp[q]⟩
   ·rename_i ne;rw[yY (kU ne)];exact qk h3 g
def UqK(kvs:List (Key×V)):Prop:=∀(i j:Nat) k k' b,kvs[i]? = some (k,V.ref b)->kvs[j]? = some (k',V.ref b)->i=j
theorem UqK.tail{p:Key×V}{r:List (Key×V)}(h:UqK (p::r)):UqK r:=λi j k k' b h1 h2=>by
 have:=h (i+1) (j+1) k k' b (by simpa using h1) (by simpa using h2);omega
theorem z20{α:Type}{x:α}{l:List α}(h:x∈l):∃j:Nat,l[j]? = some x:=by
 obtain⟨j,hj,e⟩:=_ah.mp h;exact⟨j,by rw[_r hj,e]⟩
theorem z0Z(g:∀ys ws,zA mg H Y ys ws->zA mg H' Y ys ws)(dn:Den mg H' Y d v)(hb:H b=some (.lst vs))(e:H'=upd H b (.lst (vs++[v]))):∀{xs:List D}{kvs:List (Key×V)},vH mg H Y xs kvs->UqK kvs->xp k xs=some (some (ys,false))->qt kvs (.inl k)=some (.ref b)->vH mg H' Y (uo k d xs) kvs
 | [],kvs,h,_,q,_=>by simp[xp]at q | x::xs,kvs,h,u,q,w=>by
  obtain⟨i,zs,c,ws,r,rfl,h1,h2,h3⟩:=h;have fz:∀b' o ws,H b'=some (.frz o (.lst ws))->H' b'=some (.frz o (.lst ws)):=λb' o ws z=>by rw[e,zf (λy=>by subst y;rw[hb]at z;cases z)];exact z
  rcases h2 with⟨rfl,hc⟩ | ⟨rfl,o,hc⟩
  ·simp only[xp]at q;simp only[uo];split at q
   ·rename_i ei;subst ei;rw[_g rfl];rw[wK rfl]at w;cases w;rw[hb]at hc;cases hc;refine⟨i,zs++[d],b,vs++[v],r,rfl,(g _ _ h1).append (zA.one dn),.inl ⟨rfl,by rw[e,zu]⟩,h3.imp (λ_ _ _ _ z=>g _ _ z) (λk' b' ws' hm z=>?_) fz⟩;obtain⟨j,hj⟩:=z20 hm;rw[e,zf (λy=>by
     subst y;have:=u 0 (j+1) (Sum.inl i) _ _ rfl (by simpa using hj);omega)];exact z
   ·rename_i ne;rw[_i ne];rw[yY (kU ne)]at w;refine⟨i,zs,c,ws,r,rfl,g _ _ h1,.inl ⟨rfl,?_⟩,z0Z g dn hb e h3 u.tail q w⟩;obtain⟨j,hj⟩:=z1v w;rw[e,zf (λy=>by
     subst y;have:=u 0 (j+1) (Sum.inl i) _ _ rfl (by simpa using hj);omega)];exact hc
  ·simp only[xp]at q;simp only[uo];split at q;·simp at q
   ·rename_i ne;rw[yY (kU ne)]at w;exact⟨i,zs,c,ws,r,rfl,g _ _ h1,.inr ⟨rfl,o,fz _ _ _ hc⟩,z0Z g dn hb e h3 u.tail q w⟩
theorem z1b{x:D}{q:Key×V}:∀{xs:List D}{kvs:List (Key×V)},vH mg H Y xs kvs->vH mg H Y [x] [q]->vH mg H Y (xs++[x]) (kvs++[q])
 | [],kvs,h,h'=>by simp only[vH]at h;subst h;exact h' | y::xs,kvs,h,h'=>by
  obtain⟨i,zs,c,ws,r,rfl,h1,h2,h3⟩:=h;exact⟨i,zs,c,ws,r++[q],rfl,h1,h2,z1b h3 h'⟩
theorem yA.touch(r:Rep mg H Y s)(ha:Y[l]? = some a)(hx:s[l]? = some xs)(hp:H p=none)(hD:(kvs=[]/\xs=[]/\H a=some (.dT []))\/(kvs≠[]/\H a=some (.dK kvs)/\vH mg H Y xs kvs)): yA mg H Y (upd (upd H p (.lst [])) a (.dK (kvs++[(.inl k,.ref p)]))) Y (s.set l (xs++[.tup [.int k,.lst []]])):=by
 have hai:a∈Y:=_c ha;have pn:p∉Y:=r.notin hp;have hll:l<s.length:=by rw[<- r.len];exact (_b.mp ha).1
 have pa:p≠a:=λz=>pn (z ▸ hai);have ka:∀o,H a=some o->(∀kvs,o≠.dT kvs)->(∀kvs,kvs≠[]->o≠.dK kvs)->False:=λo e n2 n3=>by
  rcases hD with⟨_,_,z⟩ | ⟨n,z,_⟩;·rw[e]at z;exact n2 _ (_A z)
  ·rw[e]at z;exact n3 _ n (_A z)
 have nl:∀ws,H a≠some (.lst ws):=λws e=>ka _ e (by intro _ z;cases z) (by intro _ _ z;cases z);have same:∀{b},b≠a->b≠p->upd (upd H p (.lst [])) a (.dK (kvs++[(.inl k,.ref p)])) b=H b:=λ{b} h1 h2=>by rw[zf h1,zf h2]
 have np:∀{b o},H b=some o->b≠p:=λ{b o} e z=>by rw[z,hp]at e;cases e
 have atp:upd (upd H p (.lst [])) a (.dK (kvs++[(.inl k,.ref p)])) p=some (.lst []):=by rw[zf pa,zu]
 have ata:upd (upd H p (.lst [])) a (.dK (kvs++[(.inl k,.ref p)])) a=some (.dK (kvs++[(.inl k,.ref p)])):=zu;generalize hH:upd (upd H p (.lst [])) a (.dK (kvs++[(.inl k,.ref p)]))=H' at same atp ata;have kp:Kp H H':=by
  refine⟨λb o q n1 n2 n3=>?_,λb ⟨ws,q⟩=>?_,λb q=>?_⟩
  ·by_cases z:b=a;·subst z;exact (ka o q n2 n3).elim
   ·rw[same z (np q)];exact q
  ·by_cases z:b=a;·subst z;exact (nl ws q).elim
   ·exact⟨ws,by rw[same z (np q)];exact q⟩
  ·by_cases z:b=a;·subst z;exact .inr (.inr (.inl ⟨_,by simp,ata⟩))
   ·have:H' b=H b:=same z (by rcases q with⟨_,q⟩ | ⟨_,_,q⟩ | ⟨_,_,q⟩ | ⟨_,_,q⟩<;>exact np q);rw[IsC,this];exact q
 have cases_:∀{a' kvs'},H' a'=some (.dK kvs')->a'∈Y->(a'=a/\kvs'=kvs++[(Sum.inl k,V.ref p)])\/(a'≠a/\H a'=some (.dK kvs')):=λ{a' kvs'} e m=>by
  by_cases z:a'=a;·subst z;rw[ata]at e;cases e;exact .inl ⟨rfl,rfl⟩
  ·rw[same z (λy=>pn (y ▸ m))]at e;exact .inr ⟨z,e⟩
 have old:∀{q b},(q,V.ref b)∈kvs->Own H Y b:=λ{q b} hm=>by
  rcases hD with⟨rfl,_,_⟩ | ⟨_,z,_⟩;·simp at hm
  ·exact⟨a,hai,kvs,q,z,hm⟩
 have ow:∀b,Own H' Y b->Own H Y b\/b=p:=λb ⟨a',m,kvs',q,e,hm⟩=>by
  rcases cases_ e m with⟨rfl,rfl⟩ | ⟨_,e⟩
  ·rcases _L.mp hm with hm | hm;·exact .inl (old hm)
   ·simp at hm;exact .inr hm.2
  ·exact .inl ⟨a',m,kvs',q,e,hm⟩
 have wst:∀b ws,b∉Y->H b=some (.lst ws)->H' b=some (.lst ws):=λb ws hb q=>by rw[same (show b≠a from λz=>hb (z ▸ hai)) (np q)];exact q
 have fzs:∀b o ws,H b=some (.frz o (.lst ws))->H' b=some (.frz o (.lst ws)):=λb o ws q=>kp.k b _ q (by intro _ z;cases z) (by intro _ z;cases z) (by intro _ _ z;cases z);refine⟨⟨by simp[r.len],r.nd,λj zs h=>?_,λzs h=>?_,λb h=>?_,?_⟩,_aW _,λb o h hb _=>?_,λa h1 h2=>absurd h1 h2,λb hb=>(r.mt b hb).imp (λh=>⟨h,kp.l b h⟩) λh=>⟨h,kp.c b h,λ_ _ e=>kp.k b _ e (by intro _ z;cases z) (by intro _ z;cases z) (by intro _ _ z;cases z)⟩,λb h=>?_,λb h=>(ow b h).imp id λz=>by rw[z];exact hp⟩
 ·by_cases hj:l=j
  ·subst hj;rw[_N hll]at h;cases h;refine⟨a,ha,.inr (.inr (.inr (.inl ⟨_,by simp,ata,z1b ?_ ⟨k,[],p,[],[],rfl,zA.nil,.inl ⟨rfl,atp⟩,rfl⟩⟩)))⟩;rcases hD with⟨rfl,rfl,_⟩ | ⟨_,z,dk⟩;·rfl
   ·exact dk.imp (λ_ _ _ _ q=>q.gen kp λ_ _ q=>q) (λq b ws hm=>wst b ws (r.own b (old hm))) fzs
  ·rw[_K hj]at h;obtain⟨b,h1,h2⟩:=r.cell j zs h;refine⟨b,h1,h2.gen kp (λ_ _ q=>q) (same ?_ λz=>pn (z ▸ _c h1)) (_c h1) r.own wst⟩;rintro rfl;exact hj ((_aK r.nd).mp (((_b.mp ha).2).trans ((_b.mp h1).2).symm))
 ·rcases _aB h with h | h;·exact r.flat zs h
  ·rw[h];exact yV (r.flat xs (_c hx)) rfl
 ·rcases ow b h with h | rfl;·exact r.own b h
  ·exact pn
 ·intro a1 m1 a2 m2 k1 k2 i j q1 q2 b e1 e2 g1 g2;have op:∀{q b},(q,V.ref b)∈kvs->b≠p:=λ{q b} hm z=>by obtain⟨u,hu⟩:=r.ownAt (old hm);exact np hu z
  have ot:∀{a' kvs' q b},a'∈Y->H a'=some (.dK kvs')->(q,V.ref b)∈kvs'->b≠p:=λ{a' kvs' q b} m e hm z=>by obtain⟨u,hu⟩:=r.ownAt ⟨a',m,kvs',q,e,hm⟩;exact np hu z
  have lastP:∀{i:Nat} {q b},(kvs++[(Sum.inl k,V.ref p)])[i]? = some (q,V.ref b)->(kvs[i]? = some (q,V.ref b))\/(i=kvs.length/\b=p):=λ{i q b} g=>by
   by_cases hi:i<kvs.length;·rw[_B hi]at g;exact .inl g
   ·rw[_v (by omega)]at g;have:i-kvs.length=0:=by
     have:=(_b.mp g).1;simp at this;omega
    rw[this]at g;simp at g;exact .inr ⟨by omega,g.2.symm⟩
  have hk:∀{i:Nat} {q b},kvs[i]? = some (q,V.ref b)->H a=some (.dK kvs):=λ{i q b} g=>by
   rcases hD with⟨rfl,_,_⟩ | ⟨_,z,_⟩;·simp at g
   ·exact z
  rcases cases_ e1 m1 with⟨rfl,rfl⟩ | ⟨n1,e1⟩<;>rcases cases_ e2 m2 with⟨rfl,rfl⟩ | ⟨n2,e2⟩
  ·rcases lastP g1 with g1 | ⟨rfl,rfl⟩<;>rcases lastP g2 with g2 | ⟨rfl,z⟩;·exact r.uq _ m1 _ m1 _ _ i j q1 q2 b (hk g1) (hk g1) g1 g2
   ·exact absurd z (op (_c g1))
   ·exact absurd rfl (op (_c g2))
   ·exact⟨rfl,rfl⟩
  ·rcases lastP g1 with g1 | ⟨rfl,rfl⟩;·exact r.uq _ m1 _ m2 _ _ i j q1 q2 b (hk g1) e2 g1 g2
   ·exact absurd rfl (ot m2 e2 (_c g2))
  ·rcases lastP g2 with g2 | ⟨rfl,rfl⟩;·exact r.uq _ m1 _ m2 _ _ i j q1 q2 b e1 (hk g2) g1 g2
   ·exact absurd rfl (ot m1 e1 (_c g1))
  ·exact r.uq _ m1 _ m2 _ _ i j q1 q2 b e1 e2 g1 g2
 ·rw[same (show b≠a from λz=>hb (z ▸ hai)) (np h)];exact h
 ·rw[<- hH]at h;exact vS (vS h)
theorem yA.layP{o:HO}(r:Rep mg H Y s)(hp:H p=none):yA mg H Y (upd H p o) Y s:= have d:DkS H Y (upd H p o) Y:=λa ha kvs e=>⟨ha,by rw[zf (show a≠p from λz=>r.notin hp (z ▸ ha))]at e;exact e⟩;⟨⟨r.len,r.nd,λl xs h=>let ⟨a,h1,h2⟩:=r.cell l xs h;⟨a,h1,h2.gen (.new hp) (λ_ _ q=>q) (zf (h2.ne hp)) (_c h1) r.own (λb vs _ q=>wt hp b _ q)⟩,r.flat,λb h=>r.own b (d.own h),d.uq r⟩,_aW _,λb u h _ _=>wt hp b u h,λa h1 h2=>absurd h1 h2,λa ha=>(r.mt a ha).imp (λh=>⟨h,(Kp.new hp).l a h⟩) λh=>⟨h,(Kp.new hp).c a h,λ_ _ e=>wt hp a _ e⟩,λb h=>vS h,λb h=>.inl (d.own h)⟩
theorem kh(hd:d.flat=true):∀{xs:List D},D.flat.flats xs=true->D.flat.flats (uo k d xs)=true
 | [],h=>by simpa[uo] using h | x::xs,h=>by
  simp only[D.flat.flats,_u]at h;unfold uo;split
  ·rename_i i ys t e;cases e;split
   ·simp only[D.flat.flats,D.flat,_bG,_bH,_u]at h ⊢;exact⟨yV h.1 (by simp[D.flat.flats,hd]),h.2⟩
   ·simp only[D.flat.flats,_u];exact⟨h.1,kh hd h.2⟩
  ·rename_i e;cases e;simp only[D.flat.flats,_u];exact⟨h.1,kh hd h.2⟩
  ·rename_i e;cases e
theorem yA.push(r:Rep mg H Y s)(ha:Y[l]? = some a)(hx:s[l]? = some xs)(n:kvs≠[])(hk:H a=some (.dK kvs))(hd:vH mg H Y xs kvs)(hg:xp k xs=some (some (ys,false)))(hv:qt kvs (.inl k)=some (.ref b))(hb:H b=some (.lst vs))(dn:Den mg H Y d v)(df:d.flat=true): yA mg H Y (upd H b (.lst (vs++[v]))) Y (s.set l (uo k d xs)):=by
 have hai:a∈Y:=_c ha;have hll:l<s.length:=by rw[<- r.len];exact (_b.mp ha).1
 obtain⟨jb,hjb⟩:=z1v hv;have own:Own H Y b:=⟨a,hai,kvs,_,hk,_c hjb⟩;have bn:b∉Y:=r.own b own;have kp:Kp H (upd H b (.lst (vs++[v]))):=.putL ⟨vs,hb⟩;have same:∀{c},c∈Y->upd H b (.lst (vs++[v])) c=H c:=λ{c} m=>zf (λz=>bn (z ▸ m));have d0:DkS H Y (upd H b (.lst (vs++[v]))) Y:=λc m kvs e=>⟨m,by rw[same m]at e;exact e⟩;have fzs:∀c o ws,H c=some (.frz o (.lst ws))->upd H b (.lst (vs++[v])) c=some (.frz o (.lst ws)):=λc o ws q=>kp.k c _ q (by intro _ z;cases z) (by intro _ z;cases z) (by intro _ _ z;cases z);refine⟨⟨by simp[r.len],r.nd,λj zs h=>?_,λzs h=>?_,λc h=>r.own c (d0.own h),d0.uq r⟩,_aW _,λc o h hc g=>?_,λa h1 h2=>absurd h1 h2,λc hc=>(r.mt c hc).imp (λh=>⟨h,kp.l c h⟩) λh=>⟨h,kp.c c h,λ_ _ e=>kp.k c _ e (by intro _ z;cases z) (by intro _ z;cases z) (by intro _ _ z;cases z)⟩,λb h=>vS h,λb h=>.inl (d0.own h)⟩
 ·by_cases hj:l=j
  ·subst hj;rw[_N hll]at h;cases h;exact⟨a,ha,.inr (.inr (.inr (.inl ⟨kvs,n,(same hai).trans hk,z0Z (λ_ _ q=>q.gen kp λ_ _ q=>q) (dn.gen kp λ_ _ q=>q) hb rfl hd (λi j k k' b h1 h2=>(r.uq a hai a hai kvs kvs i j k k' b hk hk h1 h2).2) hg hv⟩)))⟩
  ·rw[_K hj]at h;obtain⟨c,h1,h2⟩:=r.cell j zs h;have mc:=_c h1;have nc:c≠a:=by
    rintro rfl;exact hj ((_aK r.nd).mp (((_b.mp ha).2).trans ((_b.mp h1).2).symm))
   refine⟨c,h1,?_⟩;rcases h2 with⟨ws,q1,q2⟩ | ⟨kvs',q1,q2⟩ | ⟨o,kvs',zs',q1,q2⟩ | ⟨kvs',n',q1,q2⟩ | ⟨o,kvs',zs',q1,q3,q2,f⟩;·exact .inl ⟨ws,(same mc).trans q1,q2.gen kp λ_ _ q=>q⟩
   ·exact .inr (.inl ⟨kvs',(same mc).trans q1,q2⟩)
   ·exact .inr (.inr (.inl ⟨o,kvs',zs',(same mc).trans q1,q2⟩))
   ·refine .inr (.inr (.inr (.inl ⟨kvs',n',(same mc).trans q1,q2.imp (λ_ _ _ _ q=>q.gen kp λ_ _ q=>q) (λq c' ws hm z=>?_) fzs⟩)));obtain⟨j',hj'⟩:=z20 hm;rw[zf (λy=>by subst y;exact nc (r.uq c mc a hai kvs' kvs j' jb _ _ _ q1 hk hj' hjb).1)];exact z
   ·exact .inr (.inr (.inr (.inr ⟨o,kvs',zs',(same mc).trans q1,q3,q2.imp (λ_ _ _ _ q=>q.gen kp λ_ _ q=>q) (λq c' ws hm z=>(q2.fz f.1 hm z).elim) fzs,f⟩)))
 ·rcases _aB h with h | h;·exact r.flat zs h
  ·rw[h];exact kh df (r.flat xs (_c hx))
 ·rw[zf (λz=>by subst z;rw[hb]at h;exact g own _ (_A h).symm)];exact h
end
section
variable {mg:Gm}{H H':Hp}{Y:List Addr}{s:Sto}{l:Nat}{a p b:Addr}{xs ys:List D}{kvs:List (Key×V)}{k:Int}{vs:List V}{d:D}{v:V}
theorem jK:∀{xs:List D}{kvs:List (Key×V)},vH mg H Y xs kvs->kvs.length=xs.length
 | [],kvs,h=>by simp only[vH]at h;subst h;rfl | x::xs,kvs,h=>by
  obtain⟨i,zs,c,ws,r,rfl,h1,h2,h3⟩:=h;simp[jK h3]
theorem z0E(r:Rep mg H Y s)(hx:s[l]? = some xs)(ha:Y[l]? = some a)(hc:IsC H a){g:Option (List D×Bool)}(hg:xp k xs=some g):(xs=[]/\H a=some (.dT []))\/∃kvs,kvs≠[]/\H a=some (.dK kvs)/\vH mg H Y xs kvs:=by
 rcases r.dic hx ha hc with⟨kvs,q1,q2⟩ | ⟨o,kvs,ys,q1,rfl,q2⟩ | q | ⟨o,kvs,ys,q1,rfl,q2⟩;·cases xs with
  | nil=>simp only[zcQ]at q2;subst q2;exact .inl ⟨rfl,q1⟩ | cons x xs=>
   simp only[zcQ]at q2;obtain⟨k,v,x,r,rfl,h1,rfl,h2⟩:=q2;simp[xp]at hg
 ·simp[xp]at hg
 ·exact .inr q
 ·simp[xp]at hg
theorem vQ{e:D}:∀{xs:List D},xp k xs=some none->xp k (xs++[e])=xp k [e]
 | [],_=>rfl | x::xs,h=>by
  unfold xp at h;split at h;·cases ‹_=[] ›
  ·rename_i i ys t e;cases e;split at h;·simp at h
   ·rename_i ne;rw[_aa,xp,_i ne];exact vQ h
  ·rename_i i ys t e;cases e;split at h;·simp at h
   ·rename_i ne;rw[_aa,xp,_i ne];exact vQ h
  ·simp at h
theorem kD:∀{xs:List D},xp k xs=some none->uo k d (xs++[.tup [.int k,.lst []]])=xs++[.tup [.int k,.lst [d]]]
 | [],_=>by simp[uo] | x::xs,h=>by
  unfold xp at h;split at h;·cases ‹_=[] ›
  ·rename_i i ys t e;cases e;split at h;·simp at h
   ·rename_i ne;rw[_aa,uo,_i ne,kD h];rfl
  ·rename_i i ys t e;cases e;split at h;·simp at h
   ·rename_i ne;rw[_aa,uo,kD h];·rfl
    ·intro i ys z;cases z
  ·simp at h
end
section
variable {X:Cx}{E:XK}{o e:Expr}{x:Str}{ap1 ap2 cp1 cp2 lp pos:Pos}
noncomputable def z6Y(fo fk:FE)(j:Nat):FE:=fun ρ s=>(fo ρ s).bind λo s1=>match o with
 | .dlo l=>match s1[l]? with
  | some (.non::_)=>.no | _=>(fk ρ s1).bind λkd s2=>match kd,s2[l]?,ρ[j]? with
   | .int k,some xs,some (some d)=>match xp k xs with
    | some none=>if d.flat=true/\xs.length<cap then .ok .non (s2.set l (xs++[.tup [.int k,.lst [d]]])) else .no | some (some (ys,false))=>if d.flat=true/\ys.length<cap/\xs.length<cap then .ok .non (s2.set l (uo k d xs)) else .no | _=>.no
   | _,_,_=>.no
 | _=>.no
theorem zdA {fo fk:FE} (j:Nat) (ho:RE X E o fo) (he:RE X E e fk) (hN:X.N[j]? = some x:=by rfl) (hv:Vis X.env.scope x:=by first | exact Or.inl rfl | exact Or.inr (Or.inl rfl) | exact Or.inr (Or.inr rfl)) (hd:(x==("__debug__":Str))=false:=by decide) (hcd:(x==("__classdict__":Str))=false:=by decide) (hb1:attributeBase o "setdefault" X.env (eval o X.env)=eval o X.env:=by rfl) (hf1:((backTo cp1 (starEach [e,.List [] lp] X.env)).all (λx=>!x.1)&&(backToKw cp1 (keywordEach [] X.env)).all (λx=>x.1.isSome) && decide (([e,.List [] lp]:List Expr).length+([]:List Keyword).length+(if ([]:List Keyword).isEmpty then 0 else 1)<30))=true:=by rfl) (hl1:(ap1.endLine==cp1.line)=true:=by rfl) (hs1:starEach [e,.List [] lp] X.env=(false,eval e X.env)::starEach [.List [] lp] X.env:=by rfl) (hs0:starEach [.List [] lp] X.env=(false,eval (.List [] lp) X.env)::starEach [] X.env:=by rfl) (hp1:(backTo cp1 (starEach [.List [] lp] X.env)).any (·.1)=false:=by rfl) (hb2:attributeBase (.Call (.Attribute o "setdefault" ap1) [e,.List [] lp] [] cp1) "append" X.env (eval (.Call (.Attribute o "setdefault" ap1) [e,.List [] lp] [] cp1) X.env)=eval (.Call (.Attribute o "setdefault" ap1) [e,.List [] lp] [] cp1) X.env:=by rfl) (hf2:((backTo cp2 (starEach [.Name x pos] X.env)).all (λx=>!x.1)&&(backToKw cp2 (keywordEach [] X.env)).all (λx=>x.1.isSome) && decide (([.Name x pos]:List Expr).length+([]:List Keyword).length+(if ([]:List Keyword).isEmpty then 0 else 1)<30))=true:=by rfl) (hl2:(ap2.endLine==cp2.line)=true:=by rfl) (hs2:starEach [.Name x pos] X.env=(false,eval (.Name x pos) X.env)::starEach [] X.env:=by rfl) (hp2:(backTo cp2 (starEach [] X.env)).any (·.1)=false:=by rfl): RE X E (.Call (.Attribute (.Call (.Attribute o "setdefault" ap1) [e,.List [] lp] [] cp1) "append" ap2) [.Name x pos] [] cp2) (z6Y fo fk j):= yy (zav _b6 PySem.F.slot_list_append PySem.F.type_list_append z4f (zav _b5 PySem.F.slot_dict_setdefault PySem.F.type_dict_setdefault z8S ho (wU he (wU (z1t uz) uz hs0) hs1) hb1 hf1 hl1 hs1 hp1) (wU (kI hN hv hd hcd) uz hs2) hb2 hf2 hl2 hs2 hp2) λO H Q ⟨Y,ρ,s,r,en,h⟩=>by
  unfold z6Y at h;refine⟨Y,ρ,s,r,en,(okR.bind (Dn:=Den (gm X)) h).imp λov H1 ⟨Y1,s1,od,stp,dn,h1⟩=>?_⟩;have en1:=en.mono stp;split at h1
  ·rename_i l;split at h1;·exact h1.elim
   ·rename_i hnf;have dl:=dn;simp only[Den]at dl;obtain⟨a,rfl,e1,ka⟩:=dl;have hls:∃xs,s1[l]? = some xs:=by
     have:l<s1.length:=by rw[<- stp.rep.len];exact (_b.mp e1).1
     exact⟨_,_r this⟩
    obtain⟨xs1,hx1⟩:=hls;have hty:tyV X.K "dict" (.ref a) H1:=by
     rcases stp.rep.dic hx1 e1 ka with⟨kvs,q1,_⟩ | ⟨o,kvs,ys,q1,rfl,q2⟩ | ⟨kvs,_,q1,_⟩ | ⟨o,kvs,ys,q1,rfl,q2⟩;·exact .inr (.inr (.inl ⟨rfl,.inr ⟨kvs,q1⟩⟩))
     ·exact absurd hx1 (hnf ys)
     ·exact .inr (.inr (.inl ⟨rfl,.inl ⟨kvs,q1⟩⟩))
     ·exact absurd hx1 (hnf ys)
    refine⟨hty,⟨Y1,ρ,s1,stp.rep,en1,(okR.bind (Dn:=Den (gm X)) h1).imp λkv H2 ⟨Y2,s2,kd,stp2,dn2,h2⟩=>?_⟩⟩;have en2:=en1.mono stp2;have r2:=stp2.rep;have dl2:=dn.mono stp2;simp only[Den]at dl2;obtain⟨a',e',e2,ka2⟩:=dl2;cases e';split at h2
    ·rename_i k xs d hx hj;have ek:kv=.int k:=yj dn2;subst ek;obtain⟨v,hv1,hv2⟩:=en2.at_ j d hj;refine⟨by simp,λp hp=>?_⟩;have pa:a≠p:=λz=>r2.notin hp (z ▸ _c e2);have stpP:yA (gm X) H2 Y2 (upd H2 p (.lst [])) Y2 s2:=yA.layP r2 hp;split at h2
     ·rename_i hg;split at h2
      ·rename_i hc;have key:∃kvs,z7i H2 a kvs/\kvs.length=xs.length/\qt kvs (.inl k)=none/\((kvs=[]/\xs=[]/\H2 a=some (.dT []))\/(kvs≠[]/\H2 a=some (.dK kvs)/\vH (gm X) H2 Y2 xs kvs)):=by
        rcases z0E r2 hx e2 ka2 hg with⟨rfl,q⟩ | ⟨kvs,n,q1,q2⟩;·exact⟨[],.inr ⟨rfl,q⟩,rfl,rfl,.inl ⟨rfl,rfl,q⟩⟩
        ·exact⟨kvs,.inl q1,jK q2,jL q2 hg,.inr ⟨n,q1,q2⟩⟩
       obtain⟨kvs,hD,hlen,hnone,hcell⟩:=key;have hD':z7i (upd H2 p (.lst [])) a kvs:=hD.imp (λq=>by rw[zf pa];exact q) λ⟨z,q⟩=>⟨z,by rw[zf pa];exact q⟩;refine⟨a,kvs,.inl k,.ref p,rfl,rfl,hD',by rw[hlen];exact z1w hc.2,(λv hv=>by rw[hnone]at hv;cases hv),λ_=>?_⟩;rw[z2J _ hnone];have tc:=yA.touch (k:=k) r2 e2 hx hp hcell;have atp:upd (upd H2 p (.lst [])) a (.dK (kvs++[(.inl k,.ref p)])) p=some (.lst []):=by rw[zf (λz=>pa z.symm),zu]
       have ata:upd (upd H2 p (.lst [])) a (.dK (kvs++[(.inl k,.ref p)])) a=some (.dK (kvs++[(.inl k,.ref p)])):=zu;generalize upd (upd H2 p (.lst [])) a (.dK (kvs++[(.inl k,.ref p)]))=H4 at tc atp ata;refine⟨.inl ⟨rfl,[],.inl (.inl atp)⟩,v,hv1,p,[],v,rfl,rfl,atp,by decide,?_⟩;have hll:l<s2.length:=(_b.mp hx).1;have hx4:(s2.set l (xs++[.tup [.int k,.lst []]]))[l]? = some (xs++[.tup [.int k,.lst []]]):=_N hll;have dk4:vH (gm X) H4 Y2 (xs++[.tup [.int k,.lst []]]) (kvs++[(.inl k,.ref p)]):=by
        rcases tc.rep.dic hx4 e2 (.inr (.inr (.inl ⟨_,by simp,ata⟩))) with⟨_,z,_⟩ | ⟨_,_,_,z,_⟩ | ⟨kvs',_,z,q⟩ | ⟨_,_,_,z,_⟩;·rw[ata]at z;cases z
        ·rw[ata]at z;cases z
        ·rw[ata]at z;cases z;exact q
        ·rw[ata]at z;cases z
       have hv4:qt (kvs++[(.inl k,.ref p)]) (.inl k)=some (.ref p):=by rw[z4r _ _ _ _ hnone,_g rfl]
       have ps:=yA.push (k:=k) (d:=d) (v:=v) (ys:=[]) tc.rep e2 hx4 (by simp) ata dk4 (by rw[vQ hg];simp[xp]) hv4 atp (hv2.mono tc) hc.1;rw[kD hg,List.set_set]at ps;exact h2 .non _ _ (tc.trans ps) (by simp[Den])
      ·exact h2.elim
     ·rename_i ys hg;split at h2
      ·rename_i hc;rcases z0E r2 hx e2 ka2 hg with⟨rfl,q⟩ | ⟨kvs,n,q1,q2⟩;·simp[xp]at hg
       ·obtain⟨b,ws,g1,g2,g3,_⟩:=qk q2 hg;have hb:=g3 rfl;have pb:b≠p:=λz=>by rw[z,hp]at hb;cases hb
        refine⟨a,kvs,.inl k,.ref p,rfl,rfl,.inl (by rw[zf pa];exact q1),by rw[jK q2];exact z1w hc.2.2,λu hu=>?_,λz=>by rw[g1]at z;cases z⟩;rw[g1]at hu;cases hu;have hb3:upd H2 p (.lst []) b=some (.lst ws):=by rw[zf pb];exact hb
        have ha3:upd H2 p (.lst []) a=some (.dK kvs):=by rw[zf pa];exact q1
        refine⟨.inl ⟨rfl,ws,.inl (.inl hb3)⟩,v,hv1,b,ws,v,rfl,rfl,hb3,by rw[g2.length];exact z1w hc.2.1,?_⟩;have dk3:vH (gm X) (upd H2 p (.lst [])) Y2 xs kvs:=by
         rcases stpP.rep.dic hx e2 (.inr (.inr (.inl ⟨_,n,ha3⟩))) with⟨_,z,_⟩ | ⟨_,_,_,z,_⟩ | ⟨kvs',_,z,q⟩ | ⟨_,_,_,z,_⟩;·rw[ha3]at z;cases z
         ·rw[ha3]at z;cases z
         ·rw[ha3]at z;cases z;exact q
         ·rw[ha3]at z;cases z
        have ps:=yA.push (k:=k) (d:=d) (v:=v) stpP.rep e2 hx n ha3 dk3 hg g1 hb3 (hv2.mono stpP) hc.1;exact h2 .non _ _ (stpP.trans ps) (by simp[Den])
      ·exact h2.elim
     ·exact h2.elim
    ·exact h2.elim
  ·exact h1.elim
end
end Dd
namespace L2
def zgE(Q:VK):VK:=λv H=>z62 Q v H\/Q v H
theorem PE.freezeOr{X:Cx}{e:Expr}{t:TE}(h:PE X e t):PE X e (λO H Q=>t O H (zgE Q)):=λpins s O H Q I q=>thn (h pins s O H _ I q) λ_ _ ⟨v,H',I',r,z⟩=>z.elim (λz=>EP.freeze ⟨v,H',I',r,z⟩) λz=>⟨v,H',I',r,z⟩
end L2
namespace Dd
open L2
section
variable {mg:Gm}{H H':Hp}{Y:List Addr}{s:Sto}{l:Nat}{a p b:Addr}{xs ys:List D}{kvs:List (Key×V)}{k:Int}{vs:List V}{d:D}{v:V}
theorem z2C{o:Obj}(g:∀ys ws,D.flat.flats ys=true->zA mg H Y ys ws->zA mg H' Y ys ws)(hb:H b=some (.lst vs))(e:H'=upd H b (.frz o (.lst vs))):∀{xs:List D}{kvs:List (Key×V)},D.flat.flats xs=true->vH mg H Y xs kvs->UqK kvs->xp k xs=some (some (ys,false))->qt kvs (.inl k)=some (.ref b)->vH mg H' Y (z4S k xs) kvs
 | [],kvs,_,h,_,q,_=>by simp[xp]at q | x::xs,kvs,f,h,u,q,w=>by
  obtain⟨i,zs,c,ws,r,rfl,h1,h2,h3⟩:=h;simp only[D.flat.flats,_u]at f;have fzs:∀b' o ws,H b'=some (.frz o (.lst ws))->H' b'=some (.frz o (.lst ws)):=λb' o ws z=>by rw[e,zf (λy=>by subst y;rw[hb]at z;cases z)];exact z
  rcases h2 with⟨rfl,hc⟩ | ⟨rfl,o',hc⟩
  ·have fz:D.flat.flats zs=true:=by simpa[D.flat,D.flat.flats] using f.1
   simp only[xp]at q;simp only[z4S];split at q
   ·rename_i ei;subst ei;rw[_g rfl];rw[wK rfl]at w;cases w;rw[hb]at hc;cases hc;refine⟨i,zs,b,vs,r,rfl,g _ _ fz h1,.inr ⟨rfl,o,by rw[e,zu]⟩,h3.imp (λys' _ _ hm z=>g _ _ ?_ z) (λk' b' ws' hm z=>?_) fzs⟩
    ·rcases hm with hm | hm;all_goals
      have:=vh f.2 hm;simpa[D.flat,D.flat.flats] using this
    ·obtain⟨j,hj⟩:=z20 hm;rw[e,zf (λy=>by
      subst y;have:=u 0 (j+1) (Sum.inl i) _ _ rfl (by simpa using hj);omega)];exact z
   ·rename_i ne;rw[_i ne];rw[yY (kU ne)]at w;refine⟨i,zs,c,ws,r,rfl,g _ _ fz h1,.inl ⟨rfl,?_⟩,z2C g hb e f.2 h3 u.tail q w⟩;obtain⟨j,hj⟩:=z1v w;rw[e,zf (λy=>by
     subst y;have:=u 0 (j+1) (Sum.inl i) _ _ rfl (by simpa using hj);omega)];exact hc
  ·have fz:D.flat.flats zs=true:=by simpa[D.flat,D.flat.flats] using f.1
   simp only[xp]at q;simp only[z4S];split at q;·simp at q
   ·rename_i ne;rw[yY (kU ne)]at w;exact⟨i,zs,c,ws,r,rfl,g _ _ fz h1,.inr ⟨rfl,o',fzs _ _ _ hc⟩,z2C g hb e f.2 h3 u.tail q w⟩
theorem z1p:∀{xs:List D},D.flat.flats xs=true->D.flat.flats (z4S k xs)=true
 | [],h=>by simpa[z4S] using h | x::xs,h=>by
  simp only[D.flat.flats,_u]at h;unfold z4S;split
  ·rename_i i ys t e;cases e;split
   ·simp only[D.flat.flats,D.flat,_bG,_bH,_u]at h ⊢;exact h
   ·simp only[D.flat.flats,_u];exact⟨h.1,z1p h.2⟩
  ·rename_i e;cases e;simp only[D.flat.flats,_u];exact⟨h.1,z1p h.2⟩
  ·rename_i e;cases e
theorem yA.frzOwn(o:Obj)(r:Rep mg H Y s)(ha:Y[l]? = some a)(hx:s[l]? = some xs)(n:kvs≠[])(hk:H a=some (.dK kvs))(hd:vH mg H Y xs kvs)(hg:xp k xs=some (some (ys,false)))(hv:qt kvs (.inl k)=some (.ref b))(hb:H b=some (.lst vs)): yA mg H Y (upd H b (.frz o (.lst vs))) Y (s.set l (z4S k xs)):=by
 have hai:a∈Y:=_c ha;have hll:l<s.length:=by rw[<- r.len];exact (_b.mp ha).1
 obtain⟨jb,hjb⟩:=z1v hv;have own:Own H Y b:=⟨a,hai,kvs,_,hk,_c hjb⟩;have bn:b∉Y:=r.own b own;have kk:∀c u,H c=some u->(∀vs,u≠.lst vs)->(∀kvs,u≠.dT kvs)->(∀kvs,kvs≠[]->u≠.dK kvs)->upd H b (.frz o (.lst vs)) c=some u:=λc u h hn _ _=>by rw[zf (λz=>by subst z;rw[hb]at h;exact hn vs (_A h).symm)];exact h
 have g:∀ys ws,D.flat.flats ys=true->zA mg H Y ys ws->zA mg (upd H b (.frz o (.lst vs))) Y ys ws:=λys ws f q=>q.flatten kk f;have same:∀{c},c∈Y->upd H b (.frz o (.lst vs)) c=H c:=λ{c} m=>zf (λz=>bn (z ▸ m));have d0:DkS H Y (upd H b (.frz o (.lst vs))) Y:=λc m kvs e=>⟨m,by rw[same m]at e;exact e⟩;have fzs:∀c o' ws,H c=some (.frz o' (.lst ws))->upd H b (.frz o (.lst vs)) c=some (.frz o' (.lst ws)):=λc o' ws q=>kk c _ q (by intro _ z;cases z) (by intro _ z;cases z) (by intro _ _ z;cases z);refine⟨⟨by simp[r.len],r.nd,λj zs h=>?_,λzs h=>?_,λc h=>r.own c (d0.own h),d0.uq r⟩,_aW _,λc o' h hc q=>?_,λa h1 h2=>absurd h1 h2,λc hc=>(r.mt c hc).imp (λh=>⟨h,by rw[IsL,same hc];exact h⟩) λh=>⟨h,by rw[IsC,same hc];exact h,λ_ _ e=>by rw[same hc];exact e⟩,λb h=>vS h,λb h=>.inl (d0.own h)⟩
 ·by_cases hj:l=j
  ·subst hj;rw[_N hll]at h;cases h;exact⟨a,ha,.inr (.inr (.inr (.inl ⟨kvs,n,(same hai).trans hk,z2C g hb rfl (r.flat xs (_c hx)) hd (λi j k k' b h1 h2=>(r.uq a hai a hai kvs kvs i j k k' b hk hk h1 h2).2) hg hv⟩)))⟩
  ·rw [_K hj]at h;obtain⟨c,h1,h2⟩:=r.cell j zs h;have mc:=_c h1;have fz:=r.flat zs (_c h);have nc:c≠a:=by
    rintro rfl;exact hj ((_aK r.nd).mp (((_b.mp ha).2).trans ((_b.mp h1).2).symm))
   refine⟨c,h1,?_⟩;rcases h2 with⟨ws,q1,q2⟩ | ⟨kvs',q1,q2⟩ | ⟨o',kvs',zs',q1,q2⟩ | ⟨kvs',n',q1,q2⟩ | ⟨o',kvs',zs',q1,q3,q2,f⟩;·exact .inl ⟨ws,(same mc).trans q1,g _ _ fz q2⟩
   ·exact .inr (.inl ⟨kvs',(same mc).trans q1,q2⟩)
   ·exact .inr (.inr (.inl ⟨o',kvs',zs',(same mc).trans q1,q2⟩))
   ·refine .inr (.inr (.inr (.inl ⟨kvs',n',(same mc).trans q1,q2.imp (λys' _ _ hm q=>g _ _ ?_ q) (λq c' ws hm z=>?_) fzs⟩)))
    ·rcases hm with hm | hm;all_goals
      have:=vh fz hm;simpa[D.flat,D.flat.flats] using this
    ·obtain⟨j',hj'⟩:=z20 hm;rw[zf (λy=>by subst y;exact nc (r.uq c mc a hai kvs' kvs j' jb _ _ _ q1 hk hj' hjb).1)];exact z
   ·subst q3;have fz':D.flat.flats zs'=true:=by simpa[D.flat.flats,D.flat] using fz
    refine .inr (.inr (.inr (.inr ⟨o',kvs',zs',(same mc).trans q1,rfl,q2.imp (λys' _ _ hm q=>g _ _ ?_ q) (λq c' ws hm z=>(q2.fz f.1 hm z).elim) fzs,f⟩)));rcases hm with hm | hm;all_goals
     have:=vh fz' hm;simpa[D.flat,D.flat.flats] using this
 ·rcases _aB h with h | h;·exact r.flat zs h
  ·rw[h];exact z1p (r.flat xs (_c hx))
 ·rw[zf (λz=>by subst z;rw[hb]at h;exact q own _ (_A h).symm)];exact h
end
section
variable {X:Cx}{E:XK}{o e:Expr}{apos pos lp:Pos}
noncomputable def jq(fo fk:FE):FE:=fun ρ s=>(fo ρ s).bind λo s1=>match o with
 | .dlo l=>(fk ρ s1).bind λkd s2=>match kd,s2[l]? with
  | .int k,some (x::xs)=>match xp k (x::xs) with
   | some none=>.ok (.lst []) s2 | some (some (ys,true))=>.ok (.lst ys) s2 | some (some (ys,false))=>.ok (.lst ys) (s2.set l (z4S k (x::xs))) | none=>.no
  | _,_=>.no
 | _=>.no
theorem z5g{fo fk:FE}(hu:X.A.units+64<cLine)(ho:RE X E o fo)(he:RE X E e fk)(hbase:attributeBase o "get" X.env (eval o X.env)=eval o X.env:=by rfl) (hfew:((backTo pos (starEach [e,.List [] lp] X.env)).all (λx=>!x.1)&&(backToKw pos (keywordEach [] X.env)).all (λx=>x.1.isSome) && decide (([e,.List [] lp]:List Expr).length+([]:List Keyword).length+(if ([]:List Keyword).isEmpty then 0 else 1)<30))=true:=by rfl) (hline:(apos.endLine==pos.line)=true:=by rfl)(htr:backTo pos (starEach [e,.List [] lp] X.env)=[(false,eval e X.env),(false,eval (.List [] lp) X.env)]:=by rfl): RE X E (.Call (.Attribute o "get" apos) [e,.List [] lp] [] pos) (jq fo fk):= yy (PE.freezeOr (z9L (by omega) ho he (z1t uz) ⟨hbase,hfew,hline,htr⟩)) λO H Q ⟨Y,ρ,s,r,en,h⟩=>by
  unfold jq at h;refine⟨Y,ρ,s,r,en,(okR.bind (Dn:=Den (gm X)) h).imp λov H1 ⟨Y1,s1,od,stp,dn,h1⟩=>?_⟩;have en1:=en.mono stp;split at h1
  ·rename_i l;have dl:=dn;simp only[Den]at dl;obtain⟨a,rfl,e1,ka⟩:=dl;refine⟨a,rfl,zeG ka,⟨Y1,ρ,s1,stp.rep,en1,(okR.bind (Dn:=Den (gm X)) h1).imp λkv H2 ⟨Y2,s2,kd,stp2,dn2,h2⟩=>?_⟩⟩;have r2:=stp2.rep;have dl2:=dn.mono stp2;simp only[Den]at dl2;obtain⟨a',e',e2,ka2⟩:=dl2;cases e';split at h2
   ·rename_i k x xs hx;have ek:kv=.int k:=yj dn2;subst ek;refine⟨by simp,λp hp=>?_⟩;have pa:a≠p:=λz=>r2.notin hp (z ▸ _c e2);have stpP:yA (gm X) H2 Y2 (upd H2 p (.lst [])) Y2 s2:=yA.layP r2 hp;have cell:∀{g},xp k (x::xs)=some g->∃kvs,kvs≠[]/\H2 a=some (.dK kvs)/\vH (gm X) H2 Y2 (x::xs) kvs:=λ{g} hg=>by
     rcases z0E r2 hx e2 ka2 hg with⟨z,_⟩ | q;·cases z
     ·exact q
    split at h2
    ·rename_i hg;obtain⟨kvs,n,q1,q2⟩:=cell hg;refine⟨none,.inl ⟨kvs,.inl k,.inl (by rw[zf pa];exact q1),rfl,(jL q2 hg).symm⟩,.inl ⟨p,[],rfl,zu,λo=>?_⟩⟩;rw[z2I];exact h2 _ _ _ (yA.layP r2 hp) (by simp only[Den];exact⟨p,o,[],rfl,zu,zA.nil⟩)
    ·rename_i ys hg;obtain⟨kvs,n,q1,q2⟩:=cell hg;obtain⟨b,ws,g1,g2,_,g4⟩:=qk q2 hg;obtain⟨o,hb⟩:=g4 rfl;have pb:b≠p:=λz=>by rw[z,hp]at hb;cases hb
     refine⟨some (.ref b),.inl ⟨kvs,.inl k,.inl (by rw[zf pa];exact q1),rfl,g1.symm⟩,.inr ?_⟩;exact h2 _ _ _ stpP (by simp only[Den];exact⟨b,o,ws,rfl,by rw[zf pb];exact hb,g2.mono stpP⟩)
    ·rename_i ys hg;obtain⟨kvs,n,q1,q2⟩:=cell hg;obtain⟨b,ws,g1,g2,g3,_⟩:=qk q2 hg;have hb:=g3 rfl;have pb:b≠p:=λz=>by rw[z,hp]at hb;cases hb
     have hb3:upd H2 p (.lst []) b=some (.lst ws):=by rw[zf pb];exact hb
     have ha3:upd H2 p (.lst []) a=some (.dK kvs):=by rw[zf pa];exact q1
     have dk3:vH (gm X) (upd H2 p (.lst [])) Y2 (x::xs) kvs:=by
      rcases stpP.rep.dic hx e2 (.inr (.inr (.inl ⟨_,n,ha3⟩))) with⟨_,z,_⟩ | ⟨_,_,_,z,_⟩ | ⟨kvs',_,z,q⟩ | ⟨_,_,_,z,_⟩;·rw[ha3]at z;cases z
      ·rw[ha3]at z;cases z
      ·rw[ha3]at z;cases z;exact q
      ·rw[ha3]at z;cases z
     refine⟨some (.ref b),.inl ⟨kvs,.inl k,.inl ha3,rfl,g1.symm⟩,.inl ⟨b,ws,rfl,hb3,λo=>?_⟩⟩;have st3:=yA.frzOwn (k:=k) o stpP.rep e2 hx n ha3 dk3 hg g1 hb3;refine h2 _ _ _ (stpP.trans st3) ?_;simp only[Den];exact⟨b,o,ws,rfl,zu,(g2.mono stpP).mono st3⟩
    ·exact h2.elim
   ·exact h2.elim
  ·exact h1.elim
end
end Dd
namespace L2
theorem z2L:fillsInplaceSlot (.type "list") "add" (Operator.Add==.Add)=pure false:=by
 unfold fillsInplaceSlot;show (typeLookup (.type "list") (dunderI "add") >>= λfi=>pure (fi.isSome&&!isSeqSlot fi))=pure false;rw[_cg.lookup];have h:isSeqSlot (some (.builtin "list.__iadd__"))=true:=by decide +kernel
 simp only[pure_bind,h,_cU,_bX,Bool.and_false]
theorem z1H:seqSlot? (.type "list") (dunderI "add")=pure (some (.builtin "list.__iadd__")):=PySem.seqSlot_of _cg.lookup (by decide +kernel)
def zf8:TIp:=λx y H Q=>∃l b xs zs,x=.ref l/\y=.ref b/\H l=some (.lst xs)/\Rd H b (.lst zs)/\xs.length+zs.length<=sizeLine/\Q (.ref l) (upd H l (.lst (xs++zs)))
theorem za2{X:Cx}:PIp X .Add zf8:=by
 intro pins s O H x y v u Q I rx ry h;obtain⟨l,b,xs,zs,rfl,rfl,hH,hB,hz,q⟩:=h;cases rx;cases ry;obtain⟨z,its,n,r,hl,e⟩:=I.lstM hH;obtain⟨z2,its2,n2,r2,e2⟩:=hB.ok I.hok;have l1:=r.length;have l2:=r2.length;have ta:s.TypeIs (.ref l) "list":=⟨_,e,rfl⟩;have tb:s.TypeIs (.ref b) "list":=⟨_,e2,rfl⟩;unfold inplaceOp;refine _az ?_;refine _a (_cO ta (_a (_cw z2L ?_)));show wpAny _ _ (if false=true then _ else _) _ _ s;rw[_i _bA];refine _a (wpAny_binaryOp1_none (nm:="add") ta tb noFill_list_add ?_);refine _a (_cw z1H ?_);refine _a (_aG ?_);refine call_meets _cg ta PySem.F.entry_list_iadd (PySem.F.args_list_iadd_2 _ _) (AutoSeq1.list___iadd___list_list_0 l its.toArray n b its2.toArray n2 ?_ (by rw[_k];omega) (by rw[_k,_k];omega)) ⟨e,e2,?_⟩
 ·intro q';simp only[_u]at q';have:=q'.2;simp only[Builtin.List.listTooLong,_k,_l]at this;omega
 ·refine⟨.ref l,_,I.lset (its':=its++its2) hH e (by simp) (r.append r2) ?_,rfl,q⟩;rw[_q];omega
end L2
namespace Dd
open L2
section
variable {X:Cx}{E:XK}{e:Expr}{pos pos':Pos}
noncomputable def z8B(i:Nat)(f:FE):FS:=fun ρ s=>match ρ[i]? with
 | some (some (.loc l))=>(f ρ s).bind λd s1=>match d with
  | .lst ys=>match s1[l]? with
   | some xs=>if D.flat.flats ys=true/\xs.length+ys.length<=cap then .ok (.nx (ρ.set i (some (.loc l)))) (s1.set l (xs++ys)) else .no | none=>.no
  | _=>.no
 | _=>.no
theorem ze7 (i:Nat) {x:Str} {f:FE} (hN:X.N.Nodup) (he:RE X E e f) (hi:X.N[i]? = some x:=by rfl) (hx:Loc X.env.scope x:=by first | exact Or.inl rfl | exact Or.inr rfl) (hf:X.fn x=true\/X.env.scope.names.lookup x=some .local:=by first | exact .inl rfl | exact .inr rfl | assumption): RS X E (.AugAssign (.Name x pos') .Add e pos) (z8B i f):= vZ (zfm hN hi hx he za2 hf) λDn O H ⟨Y,ρ,s,r,en,h⟩=>by
  unfold z8B at h;split at h
  ·rename_i l ea;obtain⟨v,h1,h2⟩:=en.at_ i _ ea;refine⟨_,h1,?_⟩;refine yK (k:=fun ρ d s1=>match d with
    | .lst ys=>match s1[l]? with
     | some xs=>if D.flat.flats ys=true/\xs.length+ys.length<=cap then R.ok (Fl.nx (ρ.set i (some (.loc l)))) (s1.set l (xs++ys)) else .no | none=>.no
    | _=>.no) r en h _ λv2 H1 Y1 s1 d r1 en1 dn stp h3=>?_;have dl:=h2.mono stp;split at h3
   ·rename_i ys;split at h3
    ·rename_i xs ex;split at h3
     ·rename_i hc;have dl':=dl;simp only[Den]at dl' dn;obtain⟨a,rfl,e1,ka⟩:=dl';obtain⟨b,o',ws,rfl,eb,dw⟩:=dn;obtain⟨vs,q1,q2⟩:=r1.at_ ex e1 ka;have stp3:=yA.put (l:=l) (xs:=xs++ys) r1 e1 ka (q2.append dw) (yV (r1.flat xs (_c ex)) hc.1);refine⟨a,b,vs,ws,rfl,rfl,q1,.inr ⟨o',eb⟩,by rw[q2.length,dw.length];exact qi hc.2,?_⟩;exact h3 (FlV.nx (O.set i (some (.ref a)))) _ _ stp3 ((en1.mono stp3).set (dl.mono stp3) i)
     ·exact h3.elim
    ·exact h3.elim
   ·exact h3.elim
  ·exact h.elim
end
end Dd
namespace Dt
noncomputable def z19:Bool->Keyed->Array Keyed->Nat->Nat->Nat->StateT SortSt Sem (Option Nat):=sortPriv% PySem.Builtin.gallop
noncomputable def zam:Array Keyed->Array Keyed->StateT SortSt Sem (Array Keyed):=sortPriv% PySem.Builtin.mergeLo
noncomputable def zao:Array Keyed->Array Keyed->StateT SortSt Sem (Array Keyed):=sortPriv% PySem.Builtin.mergeHi
noncomputable def z9d(left:Bool)(key:Keyed)(arr:Array Keyed)(base i:Nat):StateT SortSt Sem (Option Bool):=do
 let x <- elem' arr (base+i) if left then lt' x key else return (<- lt' key x).map (!·)
noncomputable def at_(arr:Array Keyed)(i:Nat):Keyed:=arr.getD i (Value.none,Value.none)
theorem z52{arr:Array Keyed}{i:Nat}(h:i<arr.size):arr[i]? = some (at_ arr i):=by simp[at_,h]
structure Env(prog:Program)(w:World)(A:Around)(s:Shared)(κ:SortKind)(P:Keyed->Prop)(rk:Keyed->Nat):Prop where cmp:∀x y,P x->P y->∀(C:Bool->Shared->Prop)(E:Value->Shared->Prop),C (decide (rk x<rk y)) s->wpAny (model prog w) A (keyLt' κ x.1 y.1) C E s
section
variable {prog:Program}{w:World}{A:Around}{E:Value->Shared->Prop}{s:Shared}{κ:SortKind}{P:Keyed->Prop}{rk:Keyed->Nat}(V:Env prog w A s κ P rk) {arr a b:Array Keyed}{st:SortSt}
theorem yx{i:Nat}{Q:Keyed->SortSt->Prop}(h:i<arr.size)(q:Q (at_ arr i) st):wpS (model prog w) A E s (elem' arr i) Q st:=by
 rw[elem'_eq,z52 h];exact _n q
include V
theorem z90{x y:Keyed}{Q:Option Bool->SortSt->Prop}(hk:kindOf st=κ)(hx:P x)(hy:P y)(h:Q (some (decide (rk x<rk y))) st):wpS (model prog w) A E s (lt' x y) Q st:=by
 rw[lt'_eq];refine _h (_ch ?_);rw[hk];refine _h (_cV (_de (V.cmp x y hx hy _ _ ⟨rfl,?_⟩)));exact _n h
noncomputable def bey(rk:Keyed->Nat)(left:Bool)(key x:Keyed):Bool:=if left then decide (rk x<rk key) else !decide (rk key<rk x)
theorem qh{left:Bool}{key:Keyed}{base i:Nat}{Q:Option Bool->SortSt->Prop}(hk:kindOf st=κ)(hP:∀i,i<arr.size->P (at_ arr i))(hx:P key)(hi:base+i<arr.size)(h:Q (some (bey rk left key (at_ arr (base+i)))) st):wpS (model prog w) A E s (z9d left key arr base i) Q st:=by
 unfold z9d;refine _h (yx hi ?_);cases left
 ·simp only[_G,_ag];refine _h (z90 V hk hx (hP _ hi) ?_);exact _n h
 ·exact z90 V hk (hP _ hi) hx h
theorem uC{left:Bool}{key:Keyed}{base n hint:Nat}{Q:Option Nat->SortSt->Prop}(hk:kindOf st=κ)(hP:∀i,i<arr.size->P (at_ arr i))(hx:P key)(hb:base+n<=arr.size)(hh:hint<n) (mono:∀i j,i<=j->j<n->bey rk left key (at_ arr (base+j))=true->bey rk left key (at_ arr (base+i))=true) (h:∀k,k<=n->(∀i,i<k->bey rk left key (at_ arr (base+i))=true)->(∀i,k<=i->i<n->bey rk left key (at_ arr (base+i))=false)->Q (some k) st):wpS (model prog w) A E s (z19 left key arr base n hint) Q st:=by
 have anti:∀i j,i<=j->j<n->bey rk left key (at_ arr (base+i))=false->bey rk left key (at_ arr (base+j))=false:=λi j h1 h2 h3=>by
  cases e:bey rk left key (at_ arr (base+j));·rfl
  ·rw[mono i j h1 h2 e]at h3;cases h3
 refine _h (qh V hk hP hx (i:=hint) (by omega) ?_);dsimp only;cases e:bey rk left key (at_ arr (base+hint))
 ·simp only[_G,_ag];refine _h (_bN (_aF (I:=λx c st'=>st'=st/\∃l o,c=(none,l,o)/\x+1<=o/\l<o/\l<=hint/\bey rk left key (at_ arr (base+(hint-l)))=false) (Q:=λc st'=>st'=st/\∃l o,c=(none,l,o)/\hint+1-min o (hint+1)<=hint-l/\hint-l<=n/\(∀i,i<hint+1-min o (hint+1)->bey rk left key (at_ arr (base+i))=true)/\(∀i,hint-l<=i->i<n->bey rk left key (at_ arr (base+i))=false)) ?_ ?_ ⟨rfl,0,1,rfl,by omega,by omega,by omega,e⟩) ?_)
  ·rintro x c st' _ hx' ⟨rfl,l,o,rfl,h1,h2,h3,h4⟩;dsimp only;by_cases q:o ≥ hint+1
   ·rw[_g q];exact _n ⟨rfl,l,o,rfl,by omega,by omega,λi hi=>by omega,λi hi hn=>anti _ _ hi hn h4⟩
   ·rw[_i q];refine _h (qh V hk hP hx (i:=hint-o) (by omega) ?_);dsimp only;cases e2:bey rk left key (at_ arr (base+(hint-o)))
    ·simp only[_G,_ag];exact _n ⟨rfl,o,2*o+1,rfl,by omega,by omega,by omega,e2⟩
    ·simp only[_P];exact _n ⟨rfl,l,o,rfl,by omega,by omega,λi hi=>mono i (hint-o) (by omega) (by omega) e2,λi hi hn=>anti _ _ hi hn h4⟩
  ·rintro c st' ⟨rfl,l,o,rfl,h1,h2,h3,h4⟩;exact⟨rfl,l,o,rfl,by omega,by omega,λi hi=>by omega,λi hi hn=>anti _ _ hi hn h4⟩
  ·rintro c st' ⟨rfl,l,o,rfl,f1,f2,f3,f4⟩;dsimp only;generalize hint+1-min o (hint+1)=lo at f1 f3;generalize hint-l=hi at f1 f2 f4;refine _h (_bN (_aF (I:=λx c st2=>st2=st'/\∃lo hi,c=(none,lo,hi)/\hi-lo<=n-x/\lo<=hi/\hi<=n/\(∀i,i<lo->bey rk left key (at_ arr (base+i))=true)/\(∀i,hi<=i->i<n->bey rk left key (at_ arr (base+i))=false)) (Q:=λc st2=>st2=st'/\∃k,c=(none,k,k)/\k<=n/\(∀i,i<k->bey rk left key (at_ arr (base+i))=true)/\(∀i,k<=i->i<n->bey rk left key (at_ arr (base+i))=false)) ?_ ?_ ⟨rfl,lo,hi,rfl,by omega,f1,f2,f3,f4⟩) ?_)
   ·rintro x c st2 _ hx' ⟨rfl,lo,hi,rfl,h0,h1,h2,h3,h4⟩;dsimp only;by_cases q:lo ≥ hi
    ·rw[_g q];have:lo=hi:=by omega
     subst this;exact _n ⟨rfl,lo,rfl,h2,h3,h4⟩
    ·rw[_i q];refine _h (qh V hk hP hx (i:=lo+(hi-lo) / 2) (by omega) ?_);dsimp only;cases e2:bey rk left key (at_ arr (base+(lo+(hi-lo) / 2)))
     ·simp only[_G,_ag];exact _n ⟨rfl,lo,_,rfl,by omega,by omega,by omega,h3,λi hi' hn=>anti _ _ hi' hn e2⟩
     ·simp only[_P];exact _n ⟨rfl,_,hi,rfl,by omega,by omega,by omega,λi hi'=>mono _ _ (by omega) (by omega) e2,h4⟩
   ·rintro c st2 ⟨rfl,lo,hi,rfl,h0,h1,h2,h3,h4⟩;have:lo=hi:=by omega
    subst this;exact⟨rfl,lo,rfl,h2,h3,h4⟩
   ·rintro c st2 ⟨rfl,k,rfl,h2,h3,h4⟩;exact _n (h k h2 h3 h4)
 ·simp only[_P];refine _h (_bN (_aF (I:=λx c st'=>st'=st/\∃l o,c=(none,l,o)/\x+1<=o/\l<o/\hint+l<n/\bey rk left key (at_ arr (base+(hint+l)))=true) (Q:=λc st'=>st'=st/\∃l o,c=(none,l,o)/\hint+l+1<=hint+min o (n-hint)/\hint+min o (n-hint)<=n/\(∀i,i<hint+l+1->bey rk left key (at_ arr (base+i))=true)/\(∀i,hint+min o (n-hint)<=i->i<n->bey rk left key (at_ arr (base+i))=false)) ?_ ?_ ⟨rfl,0,1,rfl,by omega,by omega,by omega,e⟩) ?_)
  ·rintro x c st' _ hx' ⟨rfl,l,o,rfl,h1,h2,h3,h4⟩;dsimp only;by_cases q:o ≥ n-hint
   ·rw[_g q];exact _n ⟨rfl,l,o,rfl,by omega,by omega,λi hi=>mono i (hint+l) (by omega) h3 h4,λi hi hn=>by omega⟩
   ·rw[_i q];refine _h (qh V hk hP hx (i:=hint+o) (by omega) ?_);dsimp only;cases e2:bey rk left key (at_ arr (base+(hint+o)))
    ·simp only[Bool.not_false,_P];exact _n ⟨rfl,l,o,rfl,by omega,by omega,λi hi=>mono i (hint+l) (by omega) h3 h4,λi hi hn=>anti (hint+o) i (by omega) hn e2⟩
    ·simp only[_bX,_G,_ag];exact _n ⟨rfl,o,2*o+1,rfl,by omega,by omega,by omega,e2⟩
  ·rintro c st' ⟨rfl,l,o,rfl,h1,h2,h3,h4⟩;exact⟨rfl,l,o,rfl,by omega,by omega,λi hi=>mono i (hint+l) (by omega) h3 h4,λi hi hn=>by omega⟩
  ·rintro c st' ⟨rfl,l,o,rfl,f1,f2,f3,f4⟩;dsimp only;generalize hint+l+1=lo at f1 f3;generalize hint+min o (n-hint)=hi at f1 f2 f4;refine _h (_bN (_aF (I:=λx c st2=>st2=st'/\∃lo hi,c=(none,lo,hi)/\hi-lo<=n-x/\lo<=hi/\hi<=n/\(∀i,i<lo->bey rk left key (at_ arr (base+i))=true)/\(∀i,hi<=i->i<n->bey rk left key (at_ arr (base+i))=false)) (Q:=λc st2=>st2=st'/\∃k,c=(none,k,k)/\k<=n/\(∀i,i<k->bey rk left key (at_ arr (base+i))=true)/\(∀i,k<=i->i<n->bey rk left key (at_ arr (base+i))=false)) ?_ ?_ ⟨rfl,lo,hi,rfl,by omega,f1,f2,f3,f4⟩) ?_)
   ·rintro x c st2 _ hx' ⟨rfl,lo,hi,rfl,h0,h1,h2,h3,h4⟩;dsimp only;by_cases q:lo ≥ hi
    ·rw[_g q];have:lo=hi:=by omega
     subst this;exact _n ⟨rfl,lo,rfl,h2,h3,h4⟩
    ·rw[_i q];refine _h (qh V hk hP hx (i:=lo+(hi-lo) / 2) (by omega) ?_);dsimp only;cases e2:bey rk left key (at_ arr (base+(lo+(hi-lo) / 2)))
     ·simp only[_G,_ag];exact _n ⟨rfl,lo,_,rfl,by omega,by omega,by omega,h3,λi hi' hn=>anti _ _ hi' hn e2⟩
     ·simp only[_P];exact _n ⟨rfl,_,hi,rfl,by omega,by omega,by omega,λi hi'=>mono _ _ (by omega) (by omega) e2,h4⟩
   ·rintro c st2 ⟨rfl,lo,hi,rfl,h0,h1,h2,h3,h4⟩;have:lo=hi:=by omega
    subst this;exact⟨rfl,lo,rfl,h2,h3,h4⟩
   ·rintro c st2 ⟨rfl,k,rfl,h2,h3,h4⟩;exact _n (h k h2 h3 h4)
end
section
variable {rk:Keyed->Nat}{a b out:Array Keyed}{ia ib:Nat}
def Srt(rk:Keyed->Nat)(a:Array Keyed):Prop:=∀i j,i<=j->j<a.size->rk (at_ a i)<=rk (at_ a j)
structure Mlo(rk:Keyed->Nat)(a b:Array Keyed)(ia ib:Nat)(out:Array Keyed):Prop where
 pm:out.toList.Perm (a.toList.take ia++b.toList.take ib)
 pw:out.toList.Pairwise λx y=>rk x<=rk y
 la:∀x∈out.toList,∀i,ia<=i->i<a.size->rk x<=rk (at_ a i)
 lb:∀x∈out.toList,∀j,ib<=j->j<b.size->rk x<=rk (at_ b j)
theorem zbA{i:Nat}(h:i<a.size):a.toList.take (i+1)=a.toList.take i++[at_ a i]:=by
 rw[_ci];simp[at_,h]
theorem Mlo.pushA(h:Mlo rk a b ia ib out)(sa:Srt rk a)(hi:ia<a.size)(le:∀j,ib<=j->j<b.size->rk (at_ a ia)<=rk (at_ b j)):Mlo rk a b (ia+1) ib (out.push (at_ a ia)):=by
 refine⟨?_,?_,?_,?_⟩
 ·rw[zbA hi,_ai];refine (h.pm.append_right _).trans ?_;rw[_z,_z];exact _cq.append_left _
 ·rw[_ai,List.pairwise_append];exact⟨h.pw,_b7 _ _,λx hx y hy=>by rw[_ax.mp hy];exact h.la x hx _ (_d _) hi⟩
 ·intro x hx i h1 h2;rw[_ai]at hx;rcases _L.mp hx with hx | hx;·exact h.la x hx i (by omega) h2
  ·rw[_ax.mp hx];exact sa _ _ (by omega) h2
 ·intro x hx j h1 h2;rw[_ai]at hx;rcases _L.mp hx with hx | hx;·exact h.lb x hx j h1 h2
  ·rw[_ax.mp hx];exact le j h1 h2
theorem Mlo.swap(h:Mlo rk a b ia ib out):Mlo rk b a ib ia out:=⟨h.pm.trans _cq,h.pw,h.lb,h.la⟩
theorem Mlo.pushB(h:Mlo rk a b ia ib out)(sb:Srt rk b)(hi:ib<b.size)(le:∀i,ia<=i->i<a.size->rk (at_ b ib)<=rk (at_ a i)):Mlo rk a b ia (ib+1) (out.push (at_ b ib)):=(h.swap.pushA sb hi le).swap
theorem z9O{i k:Nat}(h:i+k<a.size):a.extract i (i+(k+1))=(a.extract i (i+k)).push (at_ a (i+k)):=by
 apply Array.ext_getElem?;intro j;rw[Array.getElem?_push,_cj,_cj,_cW];by_cases e:j=k
 ·subst e;rw[_g (by omega),_g (by omega)];exact z52 h
 ·rw[_i (show ¬ j=min (i+k) a.size-i by omega)];by_cases q:j<k;·rw[_g (by omega),_g (by omega)]
  ·rw[_i (by omega),_i (by omega)]
theorem Mlo.moreA(h:Mlo rk a b ia ib out)(sa:Srt rk a):∀k,ia+k<=a.size->(∀i,ia<=i->i<ia+k->∀j,ib<=j->j<b.size->rk (at_ a i)<=rk (at_ b j))->Mlo rk a b (ia+k) ib (out++a.extract ia (ia+k))
 | 0,_,_=>by
  rw[_ck,show a.extract ia ia=#[] by simp;omega,_bC];exact h | k+1,hk,le=>by
  rw[z9O (by omega),Array.append_push];exact (h.moreA sa k (by omega) λi h1 h2=>le i h1 (by omega)).pushA sa (by omega) λj=>le _ (by omega) (by omega) j
theorem Mlo.moreB(h:Mlo rk a b ia ib out)(sb:Srt rk b)(k:Nat)(hk:ib+k<=b.size)(le:∀j,ib<=j->j<ib+k->∀i,ia<=i->i<a.size->rk (at_ b j)<=rk (at_ a i)):Mlo rk a b ia (ib+k) (out++b.extract ib (ib+k)):=(h.swap.moreA sb k hk le).swap
def Mrg(rk:Keyed->Nat)(a b r:Array Keyed):Prop:=r.toList.Perm (a.toList++b.toList)/\r.toList.Pairwise λx y=>rk x<=rk y
theorem Mlo.fin(h:Mlo rk a b a.size b.size out):Mrg rk a b out:=⟨by have:=h.pm;rwa [_Y (by simp),_Y (by simp)]at this,h.pw⟩
theorem Mlo.done(h:Mlo rk a b ia ib out)(sa:Srt rk a)(hi:ia<=a.size)(e:ib=b.size):Mrg rk a b (out++a.extract ia a.size++b.extract ib b.size):=by
 subst e;have:=h.moreA sa (a.size-ia) (by omega) λi h1 h2 j h3 h4=>absurd h3 (by omega);rw[show ia+(a.size-ia)=a.size by omega]at this;rw[show b.extract b.size b.size=#[] by simp,_bC];exact this.fin
theorem Mlo.lastA(h:Mlo rk a b ia ib out)(sa:Srt rk a)(sb:Srt rk b)(hi:ib<=b.size)(e:ia+1=a.size)(lt:∀j,j<b.size->rk (at_ b j)<=rk (at_ a (a.size-1))):Mrg rk a b (out++b.extract ib b.size++a.extract ia a.size):=by
 have h1:=h.moreB sb (b.size-ib) (by omega) λj h1 h2 i h3 h4=>by
  have:i=a.size-1:=by omega
  subst this;exact lt j (by omega)
 rw[show ib+(b.size-ib)=b.size by omega]at h1;have h2:=h1.moreA sa 1 (by omega) λi h1 h2 j h3 h4=>absurd h3 (by omega);rw[e]at h2;exact h2.fin
end
section
variable {prog:Program}{w:World}{A:Around}{E:Value->Shared->Prop}{s:Shared}{κ:SortKind}{P:Keyed->Prop}{rk:Keyed->Nat}(V:Env prog w A s κ P rk) {arr a b:Array Keyed}{st:SortSt}
omit V in
theorem xc{α:Type}{c:Prop} [Decidable c]{u v:StateT SortSt Sem α}{Q:α->SortSt->Prop}{st:SortSt}(h1:c->wpS (model prog w) A E s u Q st)(h2:¬ c->wpS (model prog w) A E s v Q st):wpS (model prog w) A E s (if c then u else v) Q st:=by
 split;·exact h1 ‹_›
 ·exact h2 ‹_›
omit V in
theorem kQ{α:Type}{c:Prop} [Decidable c]{u v:StateT SortSt Sem α}{Q:α->SortSt->Prop}{st:SortSt}(h1:c)(h2:wpS (model prog w) A E s u Q st):wpS (model prog w) A E s (if c then u else v) Q st:=xc (λ_=>h2) λh=>absurd h1 h
omit V in
omit V in
theorem zfp{α:Type}{c:Prop} [Decidable c]{u v x:StateT SortSt Sem α}{Q:α->SortSt->Prop}{st:SortSt}(h1:c->u=x)(h2:¬ c->v=x)(h:wpS (model prog w) A E s x Q st):wpS (model prog w) A E s (if c then u else v) Q st:=by
 split;·rw[h1 ‹_›];exact h
 ·rw[h2 ‹_›];exact h
omit V in
theorem zas{a:Array Keyed}{i k:Nat}(h:¬ k > 0)(out:Array Keyed):out++a.extract i (i+k)=out/\i+k=i:=by
 have:k=0:=by omega
 subst this;refine⟨?_,rfl⟩;rw[show a.extract i (i+0)=#[] by simp;omega,_bC]
def z2B(st st':SortSt):Prop:=kindOf st'=kindOf st/\arrOf st'=arrOf st/\pendingOf st'=pendingOf st/\failedOf st'=failedOf st
def z8v{ω τ:Type}(Tq:ω->SortSt->Prop)(J I:τ->SortSt->Prop):ForInStep (Option ω×τ)->SortSt->Prop
 | .done (some r,_),st=>Tq r st | .done (none,c),st=>J c st | .yield (some _,_),_=>False | .yield (none,c),st=>I c st
omit V in
theorem kf {ω τ:Type} {n m:Nat} {f:Nat->Option ω×τ->StateT SortSt Sem (ForInStep (Option ω×τ))} {K:Option ω×τ->SortSt->Prop} {c0:τ} (Tq:ω->SortSt->Prop) (J:τ->SortSt->Prop) (I:Nat->τ->SortSt->Prop) (step:∀i c st,m<=i->i<n->I i c st->wpS (model prog w) A E s (f i (none,c)) (z8v Tq J (I (i+1))) st) (fin:∀c st,I (max m n) c st->J c st) (h0:I m c0 st) (ret:∀r d st,Tq r st->K (some r,d) st) (nxt:∀c st,J c st->K (none,c) st):wpS (model prog w) A E s (forIn [m:n] (none,c0) f) K st:=by
 refine _bN (_aF (I:=λx c st'=>∃d,c=(none,d)/\I x d st') (Q:=λc st'=>(∃r d,c=(some r,d)/\Tq r st')\/∃d,c=(none,d)/\J d st') ?_ ?_ ⟨_,rfl,h0⟩) ?_
 ·rintro i c st' hm hi ⟨d,rfl,h⟩;refine _bN (step i d st' hm hi h) λr st2 e=>?_;match r,e with
  | .done (some r,d),e=>exact .inl ⟨r,d,rfl,e⟩ | .done (none,d),e=>exact .inr ⟨d,rfl,e⟩ | .yield (none,d),e=>exact⟨d,rfl,e⟩
 ·rintro c st' ⟨d,rfl,h⟩;exact .inr ⟨d,rfl,fin d st' h⟩
 ·rintro c st' (⟨r,d,rfl,h⟩ | ⟨d,rfl,h⟩);·exact ret r d st' h
  ·exact nxt d st' h
include V
theorem z7q {Q:Array Keyed->SortSt->Prop} (hk:kindOf st=κ) (Pa:∀i,i<a.size->P (at_ a i)) (Pb:∀i,i<b.size->P (at_ b i)) (sa:Srt rk a) (sb:Srt rk b) (na:1<=a.size) (nb:1<=b.size) (first:rk (at_ b 0)<rk (at_ a 0)) (last:rk (at_ b (b.size-1))<rk (at_ a (a.size-1))) (h:∀r st',z2B st st'->Mrg rk a b r->Q r st'):wpS (model prog w) A E s (zam a b) Q st:=by
 have lastA:∀j,j<b.size->rk (at_ b j)<rk (at_ a (a.size-1)):=λj hj=>by have:=sb j (b.size-1) (by omega) (by omega);omega
 have lastA':∀j,j<b.size->rk (at_ b j)<=rk (at_ a (a.size-1)):=λj hj=>_ar (lastA j hj);have m1:Mlo rk a b 0 1 #[at_ b 0]:=by
  have m0:Mlo rk a b 0 0 #[]:=⟨by simp,by simp,λx hx=>by simp at hx,λx hx=>by simp at hx⟩;exact m0.pushB sb (by omega) λi _ hi=>by have:=sa 0 i (by omega) hi;omega
 have fin:∀{out:Array Keyed} {ia ib:Nat},Mlo rk a b ia ib out->ib<=b.size->ia+1=a.size->Mrg rk a b (out++b.extract ib b.size++a.extract ia a.size):=λm hb e=>m.lastA sa sb hb e lastA';have ga:∀{st':SortSt} {ia ib:Nat} {R:Option Nat->SortSt->Prop},kindOf st'=κ->ia<a.size->ib<b.size->(∀k,ia+k<a.size->(∀i,ia<=i->i<ia+k->rk (at_ a i)<=rk (at_ b ib))->(∀i,ia+k<=i->i<a.size->rk (at_ b ib)<rk (at_ a i))->R (some k) st')->wpS (model prog w) A E s (z19 false (at_ b ib) a ia (a.size-ia) 0) R st':=λ{st' ia ib R} k1 h1 h2 hh=>by
  refine uC V k1 Pa (Pb _ h2) (by omega) (by omega) (λi j hij hj=>?_) λk hk f1 f2=>?_
  ·simp only[bey,_G,_ag,_a3,_ae];have:=sa (ia+i) (ia+j) (by omega) (by omega);omega
  ·simp only[bey,_G,_ag,_a3,_ae,_cX,_l]at f1 f2;have kl:ia+k<a.size:=by
    rcases Nat.lt_or_ge (ia+k) a.size with z | z;·exact z
    ·have z1:=f1 (a.size-1-ia) (by omega);rw[show ia+(a.size-1-ia)=a.size-1 by omega]at z1;exact absurd (lastA ib h2) z1
   refine hh k kl (λi z1 z2=>?_) λi z1 z2=>?_
   ·have:=f1 (i-ia) (by omega);rw[show ia+(i-ia)=i by omega]at this;omega
   ·have:=f2 (i-ia) (by omega) (by omega);rwa [show ia+(i-ia)=i by omega]at this
 have gb:∀{st':SortSt} {ia ib:Nat} {R:Option Nat->SortSt->Prop},kindOf st'=κ->ia<a.size->ib<b.size->(∀k,ib+k<=b.size->(∀j,ib<=j->j<ib+k->rk (at_ b j)<rk (at_ a ia))->(∀j,ib+k<=j->j<b.size->rk (at_ a ia)<=rk (at_ b j))->R (some k) st')->wpS (model prog w) A E s (z19 true (at_ a ia) b ib (b.size-ib) 0) R st':=λ{st' ia ib R} k1 h1 h2 hh=>by
  refine uC V k1 Pb (Pa _ h1) (by omega) (by omega) (λi j hij hj=>?_) λk hk f1 f2=>?_
  ·simp only[bey,_P,_l];have:=sb (ib+i) (ib+j) (by omega) (by omega);omega
  ·simp only[bey,_P,_l,_ae]at f1 f2;refine hh k (by omega) (λi z1 z2=>?_) λi z1 z2=>?_
   ·have:=f1 (i-ib) (by omega);rwa [show ib+(i-ib)=i by omega]at this
   ·have:=f2 (i-ib) (by omega) (by omega);rw[show ib+(i-ib)=i by omega]at this;omega
 refine _h (_cV (_aG ⟨rfl,_h (yx (by omega) (xc (λq1=>_n (h _ _ ⟨rfl,rfl,rfl,rfl⟩ (m1.done sa (by omega) (by simpa using q1)))) λq1=>xc (λq2=>_n (h _ _ ⟨rfl,rfl,rfl,rfl⟩ (fin m1 (by omega) (by simpa using q2)))) λq2=>_h (_ch (_h ?_))))⟩));have q1:=show ¬ 1=b.size by simpa using q1
 have q2:=show ¬ 0+1=a.size by simpa using q2
 refine kf (λr st'=>z2B st st'/\Mrg rk a b r) (λ_ _=>False) (λx c st'=>x+1<=c.2.1+c.2.2.1/\z2B st st'/\Mlo rk a b c.2.1 c.2.2.1 c.1/\c.2.1+1<a.size/\c.2.2.1<b.size) ?_ (λc st' z=>absurd z.1 (by omega)) ⟨by show 0+1<=0+1;omega,⟨rfl,rfl,rfl,rfl⟩,m1,by show 0+1<a.size;omega,by show 1<b.size;omega⟩ (λr d st' z=>_n (h r _ z.1 z.2)) (λc st' z=>z.elim);intro x c st1 _ hx I0;refine _h (kf (λr st'=>z2B st st'/\Mrg rk a b r) (λc st'=>x+1<=c.2.1+c.2.2.1/\z2B st st'/\Mlo rk a b c.2.1 c.2.2.1 c.1/\c.2.1+1<a.size/\c.2.2.1<b.size) (λy c st'=>x+1+y<=c.2.1+c.2.2.1/\z2B st st'/\Mlo rk a b c.2.1 c.2.2.1 c.1/\c.2.1+1<a.size/\c.2.2.1<b.size) ?_ (λc st' z=>absurd z.1 (by omega)) I0 (λr d st' z=>_n z) λc st2 J0=>?_)
 ·intro y c st2 _ hy I1;have lk:=I1.2.1;have m:=I1.2.2.1;have c1:=I1.1;have c2:=I1.2.2.2.1;have c3:=I1.2.2.2.2;refine _h (yx c3 (_h (yx (_br c2) (_h (z90 V (lk.1.trans hk) (Pb _ c3) (Pa _ (_br c2)) (xc (λq=>?_) λq=>?_))))))
  ·have m2:=m.pushB sb c3 λi h1 h2=>by have:=sa _ i h1 h2;simp only[_l]at q;omega
   have b1:x+1<=c.2.1+(c.2.2.1+1):=by omega
   have b2:x+1+(y+1)<=c.2.1+(c.2.2.1+1):=by omega
   have b3:¬ ((c.2.2.1+1==b.size)=true)->c.2.2.1+1<b.size:=λe=>by have:¬ c.2.2.1+1=b.size:=(by simpa using e);omega
   exact _h (yx c3 (xc (λe=>_n ⟨lk,m2.done sa (_ar (_br c2)) (by simpa using e)⟩) λe=>xc (λ_=>_n ⟨b1,lk,m2,c2,b3 e⟩) λ_=>_n ⟨b2,lk,m2,c2,b3 e⟩))
  ·have m2:=m.pushA sa (_br c2) λi h1 h2=>by have:=sb _ i h1 h2;simp only[_l]at q;omega
   have b1:x+1<=c.2.1+1+c.2.2.1:=by omega
   have b2:x+1+(y+1)<=c.2.1+1+c.2.2.1:=by omega
   have b3:¬ ((c.2.1+1+1==a.size)=true)->c.2.1+1+1<a.size:=λe=>by have:¬ c.2.1+1+1=a.size:=(by simpa using e);omega
   exact _h (yx (_br c2) (xc (λe=>_n ⟨lk,fin m2 (_ar c3) (by simpa using e)⟩) λe=>xc (λ_=>_n ⟨b1,lk,m2,b3 e,c3⟩) λ_=>_n ⟨b2,lk,m2,b3 e,c3⟩))
 have lk:=J0.2.1;have m:=J0.2.2.1;have c1:=J0.1;have c2:=J0.2.2.2.1;have c3:=J0.2.2.2.2;refine _h (_cV (_aG ⟨rfl,_h (kf (λr st'=>z2B st st'/\Mrg rk a b r) (λc st'=>x+1+1<=c.2.1+c.2.2.1/\z2B st st'/\Mlo rk a b c.2.1 c.2.2.1 c.1/\c.2.1+1<a.size/\c.2.2.1<b.size) (λy c st'=>x+1+y<=c.2.1+c.2.2.1/\z2B st st'/\Mlo rk a b c.2.1 c.2.2.1 c.1/\c.2.1+1<a.size/\c.2.2.1<b.size) ?_ (λc st' z=>absurd z.1 (by omega)) J0 (λr d st' z=>_n z) λc st3 z=>_h (_aX (_n z)))⟩));intro y c st3 _ hy I1;have lk:=I1.2.1;have m:=I1.2.2.1;have c1:=I1.1;have c2:=I1.2.2.2.1;have c3:=I1.2.2.2.2;have later:∀{k:Nat},c.2.1+k<a.size->(∀i,c.2.1<=i->i<c.2.1+k->rk (at_ a i)<=rk (at_ b c.2.2.1))->(∀i,c.2.1+k<=i->i<a.size->rk (at_ b c.2.2.1)<rk (at_ a i))->Mlo rk a b (c.2.1+k) c.2.2.1 (c.1++a.extract c.2.1 (c.2.1+k))/\Mlo rk a b (c.2.1+k) (c.2.2.1+1) ((c.1++a.extract c.2.1 (c.2.1+k)).push (at_ b c.2.2.1)):=λ{k} k1 k2 k3=>by
  have m2:=m.moreA sa k (by omega) λi h1 h2 j h3 h4=>by have:=k2 i h1 h2;have:=sb _ j h3 h4;omega
  exact⟨m2,m2.pushB sb c3 λi h1 h2=>_ar (k3 i h1 h2)⟩
 refine xc (λ_=>?_) λ_=>?_;all_goals
  refine _h (_aX (_h (yx c3 (_h (ga (ia:=c.2.1) (ib:=c.2.2.1) (lk.1.trans hk) (_br c2) c3 λk k1 k2 k3=>?_)))));have L:=later k1 k2 k3;have m2:=L.1;have m3:=L.2;by_cases e1:c.2.1+k+1=a.size
  ·have k0:k > 0:=by omega
   exact kQ k0 (kQ (by simpa using e1) (_n ⟨lk,fin m2 (_ar c3) e1⟩))
  have c2':c.2.1+k+1<a.size:=by omega
  have c1':x+1+y<=c.2.1+k+c.2.2.1:=by omega
  have z1:¬ c.2.1+k=a.size:=by omega
  clear m m2 L later c1 I1;refine zfp (λk0=>(_i (by simpa using e1)).trans (_i (by simpa using z1))) (λk0=>by rw[(zas k0 c.1).1,(zas (a:=a) (i:=c.2.1) k0 c.1).2]) ?_;refine _h (yx c3 (xc (λe2=>_n ⟨lk,m3.done sa (by omega) (by simpa using e2)⟩) λe2=>?_));have e2:¬ c.2.2.1+1=b.size:=by simpa using e2
  refine _h (yx k1 (_h (gb (ia:=c.2.1+k) (ib:=c.2.2.1+1) (lk.1.trans hk) k1 (by omega) λk' k1' k2' k3'=>?_)));have m4:=m3.moreB sb k' k1' λj h1 h2 i h3 h4=>by have:=k2' j h1 h2;have:=sa _ i h3 h4;omega
  by_cases e3:c.2.2.1+1+k'=b.size
  ·have k0':k' > 0:=by omega
   exact kQ k0' (kQ (by simpa using e3) (_n ⟨lk,m4.done sa (by omega) e3⟩))
  have m5:=m4.pushA sa k1 λj h1 h2=>k3' j h1 h2;have c3':c.2.2.1+1+k'<b.size:=by omega
  have b1:x+1+1<=c.2.1+k+1+(c.2.2.1+1+k'):=by omega
  have b2:x+1+(y+1)<=c.2.1+k+1+(c.2.2.1+1+k'):=by omega
  clear m3 m4;refine zfp (λk0'=>_i (by simpa using e3)) (λk0'=>by rw[(zas k0' _).1,(zas (a:=b) (i:=c.2.2.1+1) k0' #[]).2]) ?_;refine _h (yx k1 (xc (λe4=>_n ⟨lk,fin m5 (by omega) (by simpa using e4)⟩) λe4=>?_));have b3:c.2.1+k+1+1<a.size:=by
   have:¬ c.2.1+k+1+1=a.size:=(by simpa using e4);omega
  exact xc (λ_=>_n ⟨b1,lk,m5,b3,c3'⟩) λ_=>_n ⟨b2,lk,m5,b3,c3'⟩
end
section
variable {rk:Keyed->Nat}{a b out:Array Keyed}{na nb:Nat}
structure Mhi(rk:Keyed->Nat)(a b:Array Keyed)(na nb:Nat)(out:Array Keyed):Prop where
 pm:out.toList.reverse.Perm (a.toList.drop na++b.toList.drop nb)
 pw:out.toList.reverse.Pairwise λx y=>rk x<=rk y
 la:∀x∈out.toList,∀i,i<na->rk (at_ a i)<=rk x
 lb:∀x∈out.toList,∀j,j<nb->rk (at_ b j)<=rk x
theorem z8p{i:Nat}(h:i<a.size):a.toList.drop i=at_ a i::a.toList.drop (i+1):=by
 rw[_aV (by simpa using h)];simp[at_,h]
theorem Mhi.pushA{m:Nat}(h:Mhi rk a b (m+1) nb out)(sa:Srt rk a)(hi:m<a.size)(le:∀j,j<nb->rk (at_ b j)<=rk (at_ a m)):Mhi rk a b m nb (out.push (at_ a m)):=by
 have er:(out.push (at_ a m)).toList.reverse=at_ a m::out.toList.reverse:=by simp
 refine⟨?_,?_,?_,?_⟩
 ·rw[er,z8p hi];exact h.pm.cons _
 ·rw[er,_bi];exact⟨λx hx=>h.la x (List.mem_reverse.mp hx) m (by omega),h.pw⟩
 ·intro x hx i h1;rw[_ai]at hx;rcases _L.mp hx with hx | hx;·exact h.la x hx i (by omega)
  ·rw[_ax.mp hx];exact sa _ _ (by omega) hi
 ·intro x hx j h1;rw[_ai]at hx;rcases _L.mp hx with hx | hx;·exact h.lb x hx j h1
  ·rw[_ax.mp hx];exact le j h1
theorem Mhi.swap(h:Mhi rk a b na nb out):Mhi rk b a nb na out:=⟨h.pm.trans _cq,h.pw,h.lb,h.la⟩
theorem Mhi.pushB{m:Nat}(h:Mhi rk a b na (m+1) out)(sb:Srt rk b)(hi:m<b.size)(le:∀j,j<na->rk (at_ a j)<=rk (at_ b m)):Mhi rk a b na m (out.push (at_ b m)):=(h.swap.pushA sb hi le).swap
theorem zcO{i k:Nat}(h:i<a.size)(hk:i<k)(hz:k<=a.size):(a.extract i k).reverse=(a.extract (i+1) k).reverse.push (at_ a i):=by
 apply Array.toList_inj.mp;simp only[Array.toList_reverse,_ai,Array.toList_extract,List.extract_eq_take_drop];rw[z8p h,show k-i=(k-(i+1))+1 by omega,List.take_succ_cons,List.reverse_cons]
theorem Mhi.moreA(h:Mhi rk a b na nb out)(sa:Srt rk a)(hz:na<=a.size):∀k m,m+k=na->(∀i,m<=i->i<na->∀j,j<nb->rk (at_ b j)<=rk (at_ a i))->Mhi rk a b m nb (out++(a.extract m na).reverse)
 | 0,m,e,_=>by
  rw[show m=na by omega,show a.extract na na=#[] by simp;omega,Array.reverse_empty,_bC];exact h | k+1,m,e,le=>by
  rw[zcO (by omega) (by omega) hz,Array.append_push];exact (h.moreA sa hz k (m+1) (by omega) λi h1 h2=>le i (by omega) h2).pushA sa (by omega) (le m (_d _) (by omega))
theorem Mhi.moreB(h:Mhi rk a b na nb out)(sb:Srt rk b)(hz:nb<=b.size)(k m:Nat)(e:m+k=nb)(le:∀j,m<=j->j<nb->∀i,i<na->rk (at_ a i)<=rk (at_ b j)):Mhi rk a b na m (out++(b.extract m nb).reverse):=(h.swap.moreA sb hz k m e le).swap
theorem Mhi.fin(h:Mhi rk a b 0 0 out):Mrg rk a b out.reverse:=⟨by simpa using h.pm,by simpa using h.pw⟩
theorem z5m(x y:Array Keyed):(x++y.reverse).reverse=y++x.reverse:=by simp
theorem Mhi.done(h:Mhi rk a b na nb out)(sb:Srt rk b)(hz:nb<=b.size)(e:na=0):Mrg rk a b (a.extract 0 na++b.extract 0 nb++out.reverse):=by
 subst e;have:=h.moreB sb hz nb 0 (by omega) λj _ _ i hi=>by omega
 rw[show a.extract 0 0=#[] by simp,Array.empty_append,<- z5m];exact this.fin
theorem Mhi.firstB(h:Mhi rk a b na nb out)(sa:Srt rk a)(sb:Srt rk b)(hz:na<=a.size)(zb:nb<=b.size)(e:nb=1)(lt:∀i,i<a.size->rk (at_ b 0)<=rk (at_ a i)):Mrg rk a b (b.extract 0 nb++a.extract 0 na++out.reverse):=by
 subst e;have h1:=h.moreA sa hz na 0 (by omega) λi h1 h2 j h3=>by
  have:j=0:=by omega
  subst this;exact lt i (by omega)
 have h2:=h1.moreB sb zb 1 0 (by omega) λj _ _ i hi=>by omega
 rw[Array.append_assoc,<- z5m,<- z5m];exact h2.fin
end
theorem z9Y{a:Array Keyed}{k n:Nat}(hk:k<=n)(h:¬ n-k > 0)(out:Array Keyed):out++(a.extract k n).reverse=out/\k=n:=by
 have:n=k:=by omega
 subst this;refine⟨?_,rfl⟩;rw[show a.extract n n=#[] by simp;omega,Array.reverse_empty,_bC]
section
variable {prog:Program}{w:World}{A:Around}{E:Value->Shared->Prop}{s:Shared}{κ:SortKind}{P:Keyed->Prop}{rk:Keyed->Nat}(V:Env prog w A s κ P rk) {arr a b:Array Keyed}{st:SortSt}
include V
theorem z6M {Q:Array Keyed->SortSt->Prop} (hk:kindOf st=κ) (Pa:∀i,i<a.size->P (at_ a i)) (Pb:∀i,i<b.size->P (at_ b i)) (sa:Srt rk a) (sb:Srt rk b) (pa:1<=a.size) (pb:1<=b.size) (first:rk (at_ b 0)<rk (at_ a 0)) (last:rk (at_ b (b.size-1))<rk (at_ a (a.size-1))) (h:∀r st',z2B st st'->Mrg rk a b r->Q r st'):wpS (model prog w) A E s (zao a b) Q st:=by
 have lastA:∀j,j<b.size->rk (at_ b j)<rk (at_ a (a.size-1)):=λj hj=>by have:=sb j (b.size-1) (by omega) (by omega);omega
 have firstB:∀i,i<a.size->rk (at_ b 0)<rk (at_ a i):=λi hi=>by have:=sa 0 i (by omega) hi;omega
 have firstB':∀i,i<a.size->rk (at_ b 0)<=rk (at_ a i):=λi hi=>_ar (firstB i hi);have m1:Mhi rk a b (a.size-1) b.size #[at_ a (a.size-1)]:=by
  have m0:Mhi rk a b (a.size-1+1) b.size #[]:=⟨by rw[show a.size-1+1=a.size by omega];simp,by simp,λx hx=>by simp at hx,λx hx=>by simp at hx⟩;exact m0.pushA sa (by omega) λi hi=>_ar (lastA i hi)
 have ga:∀{st':SortSt} {na nb:Nat} {R:Option Nat->SortSt->Prop},kindOf st'=κ->0<na->na<=a.size->nb<b.size->(∀k,k<=na->(∀i,i<k->rk (at_ a i)<=rk (at_ b nb))->(∀i,k<=i->i<na->rk (at_ b nb)<rk (at_ a i))->R (some k) st')->wpS (model prog w) A E s (z19 false (at_ b nb) a 0 na (na-1)) R st':=λ{st' na nb R} k1 h0 h1 h2 hh=>by
  refine uC V k1 Pa (Pb _ h2) (by omega) (by omega) (λi j hij hj=>?_) λk hk f1 f2=>?_
  ·simp only[bey,_G,_ag,_a3,_ae];have:=sa (0+i) (0+j) (by omega) (by omega);omega
  ·simp only[bey,_G,_ag,_a3,_ae,_cX,_l,_Q]at f1 f2;exact hh k hk (λi z1=>by have:=f1 i z1;omega) f2
 have gb:∀{st':SortSt} {na nb:Nat} {R:Option Nat->SortSt->Prop},kindOf st'=κ->na<a.size->0<nb->nb<=b.size->(∀k,1<=k->k<=nb->(∀j,j<k->rk (at_ b j)<rk (at_ a na))->(∀j,k<=j->j<nb->rk (at_ a na)<=rk (at_ b j))->R (some k) st')->wpS (model prog w) A E s (z19 true (at_ a na) b 0 nb (nb-1)) R st':=λ{st' na nb R} k1 h0 h1 h2 hh=>by
  refine uC V k1 Pb (Pa _ h0) (by omega) (by omega) (λi j hij hj=>?_) λk hk f1 f2=>?_
  ·simp only[bey,_P,_l];have:=sb (0+i) (0+j) (by omega) (by omega);omega
  ·simp only[bey,_P,_l,_ae,_Q]at f1 f2;have k1:1<=k:=by
    rcases Nat.eq_zero_or_pos k with z | z;·exact absurd (firstB na h0) (f2 0 (by omega) h1)
    ·exact z
   exact hh k k1 hk f1 (λi z1 z2=>by have:=f2 i z1 z2;omega)
 have fin:∀{out:Array Keyed} {na nb:Nat},Mhi rk a b na nb out->na<=a.size->nb<=b.size->nb=1->Mrg rk a b (b.extract 0 nb++a.extract 0 na++out.reverse):=λm ha hb e=>m.firstB sa sb ha hb e firstB';refine _h (_cV (_aG ⟨rfl,_h (yx (by omega) (xc (λq1=>_n (h _ _ ⟨rfl,rfl,rfl,rfl⟩ (m1.done sb (_d _) (by simpa using q1)))) λq1=>xc (λq2=>_n (h _ _ ⟨rfl,rfl,rfl,rfl⟩ (fin m1 (Nat.sub_le _ _) (_d _) (by simpa using q2)))) λq2=>_h (_ch (_h ?_))))⟩));have q1:¬ a.size-1=0:=by simpa using q1
 have q2:¬ b.size=1:=by simpa using q2
 refine kf (λr st'=>z2B st st'/\Mrg rk a b r) (λ_ _=>False) (λx c st'=>c.1+c.2.1+x<a.size+b.size/\z2B st st'/\Mhi rk a b c.1 c.2.1 c.2.2.1/\(0<c.1/\c.1<=a.size)/\1<c.2.1/\c.2.1<=b.size) ?_ (λc st' z=>absurd z.1 (by omega)) ⟨by show a.size-1+b.size+0<_;omega,⟨rfl,rfl,rfl,rfl⟩,m1,⟨by show 0<a.size-1;omega,Nat.sub_le _ _⟩,by show 1<b.size;omega,_d _⟩ (λr d st' z=>_n (h r _ z.1 z.2)) (λc st' z=>z.elim);intro x c st1 _ hx I0;refine _h (kf (λr st'=>z2B st st'/\Mrg rk a b r) (λc st'=>c.1+c.2.1+x<a.size+b.size/\z2B st st'/\Mhi rk a b c.1 c.2.1 c.2.2.1/\(0<c.1/\c.1<=a.size)/\1<c.2.1/\c.2.1<=b.size) (λy c st'=>c.1+c.2.1+x+y<a.size+b.size/\z2B st st'/\Mhi rk a b c.1 c.2.1 c.2.2.1/\(0<c.1/\c.1<=a.size)/\1<c.2.1/\c.2.1<=b.size) ?_ (λc st' z=>absurd z.1 (by omega)) I0 (λr d st' z=>_n z) λc st2 J0=>?_)
 ·intro y c st2 _ hy I1;have lk:=I1.2.1;have m:=I1.2.2.1;have c1:=I1.1;have c2:=I1.2.2.2.1;have c3:=I1.2.2.2.2;have la:c.1-1<a.size:=by omega
  have lb:c.2.1-1<b.size:=by omega
  have ea:c.1-1+1=c.1:=by omega
  have eb:c.2.1-1+1=c.2.1:=by omega
  refine _h (yx lb (_h (yx la (_h (z90 V (lk.1.trans hk) (Pb _ lb) (Pa _ la) (xc (λq=>?_) λq=>?_))))))
  ·have m2:=Mhi.pushA (m:=c.1-1) (by rw[ea];exact m) sa la λi h1=>by have:=sb i (c.2.1-1) (by omega) lb;simp only[_l]at q;omega
   have b1:c.1-1+c.2.1+x<a.size+b.size:=by omega
   have b2:c.1-1+c.2.1+x+(y+1)<a.size+b.size:=by omega
   have b3:¬ ((c.1-1==0)=true)->0<c.1-1:=λe=>by have:¬ c.1-1=0:=(by simpa using e);omega
   have b4:c.1-1<=a.size:=by omega
   exact _h (yx la (xc (λe=>_n ⟨lk,m2.done sb c3.2 (by simpa using e)⟩) λe=>xc (λ_=>_n ⟨b1,lk,m2,⟨b3 e,b4⟩,c3⟩) λ_=>_n ⟨b2,lk,m2,⟨b3 e,b4⟩,c3⟩))
  ·have m2:=Mhi.pushB (m:=c.2.1-1) (by rw[eb];exact m) sb lb λi h1=>by have:=sa i (c.1-1) (by omega) la;simp only[_l]at q;omega
   have b1:c.1+(c.2.1-1)+x<a.size+b.size:=by omega
   have b2:c.1+(c.2.1-1)+x+(y+1)<a.size+b.size:=by omega
   have b3:¬ ((c.2.1-1==1)=true)->1<c.2.1-1:=λe=>by have:¬ c.2.1-1=1:=(by simpa using e);omega
   have b4:c.2.1-1<=b.size:=by omega
   exact _h (yx lb (xc (λe=>_n ⟨lk,fin m2 c2.2 b4 (by simpa using e)⟩) λe=>xc (λ_=>_n ⟨b1,lk,m2,c2,b3 e,b4⟩) λ_=>_n ⟨b2,lk,m2,c2,b3 e,b4⟩))
 refine _h (_cV (_aG ⟨rfl,_h (kf (λr st'=>z2B st st'/\Mrg rk a b r) (λc st'=>c.1+c.2.1+x+1<a.size+b.size/\z2B st st'/\Mhi rk a b c.1 c.2.1 c.2.2.1/\(0<c.1/\c.1<=a.size)/\1<c.2.1/\c.2.1<=b.size) (λy c st'=>c.1+c.2.1+x+y<a.size+b.size/\z2B st st'/\Mhi rk a b c.1 c.2.1 c.2.2.1/\(0<c.1/\c.1<=a.size)/\1<c.2.1/\c.2.1<=b.size) ?_ (λc st' z=>absurd z.1 (by omega)) J0 (λr d st' z=>_n z) λc st3 z=>_h (_aX (_n z)))⟩));intro y c st3 _ hy I1;have lk:=I1.2.1;have m:=I1.2.2.1;have c1:=I1.1;have c2:=I1.2.2.2.1;have c3:=I1.2.2.2.2;have lb:c.2.1-1<b.size:=by omega
 have eb:c.2.1-1+1=c.2.1:=by omega
 have later:∀{k:Nat},k<=c.1->(∀i,i<k->rk (at_ a i)<=rk (at_ b (c.2.1-1)))->(∀i,k<=i->i<c.1->rk (at_ b (c.2.1-1))<rk (at_ a i))->Mhi rk a b k c.2.1 (c.2.2.1++(a.extract k c.1).reverse)/\Mhi rk a b k (c.2.1-1) ((c.2.2.1++(a.extract k c.1).reverse).push (at_ b (c.2.1-1))):=λ{k} k1 k2 k3=>by
  have m2:=m.moreA sa c2.2 (c.1-k) k (by omega) λi h1 h2 j h3=>by have:=k3 i h1 h2;have:=sb j (c.2.1-1) (by omega) lb;omega
  exact⟨m2,Mhi.pushB (m:=c.2.1-1) (by rw[eb];exact m2) sb lb k2⟩
 refine xc (λ_=>?_) λ_=>?_;all_goals
  refine _h (_aX (_h (yx lb (_h (ga (na:=c.1) (nb:=c.2.1-1) (lk.1.trans hk) c2.1 c2.2 lb λk k1 k2 k3=>?_)))));have L:=later k1 k2 k3;have m2:=L.1;have m3:=L.2;by_cases e1:k=0
  ·have k0:c.1-k > 0:=by omega
   exact kQ k0 (kQ (by simpa using e1) (_n ⟨lk,m2.done sb c3.2 e1⟩))
  clear m m2 L later I1;have lk1:k-1<a.size:=by omega
  have ek:k-1+1=k:=by omega
  have b6:k<=a.size:=by omega
  have b7:c.2.1-1<=b.size:=by omega
  have b8:0<c.2.1-1:=by omega
  refine zfp (λk0=>_i (by simpa using e1)) (λk0=>by rw[(z9Y k1 k0 c.2.2.1).1,(z9Y (a:=a) k1 k0 c.2.2.1).2]) ?_;refine _h (yx lb (xc (λe2=>_n ⟨lk,fin m3 b6 b7 (by simpa using e2)⟩) λe2=>?_));have e2:¬ c.2.1-1=1:=by simpa using e2
  refine _h (yx lk1 (_h (gb (na:=k-1) (nb:=c.2.1-1) (lk.1.trans hk) lk1 b8 b7 λk' k0' k1' k2' k3'=>?_)));have m4:=m3.moreB sb b7 (c.2.1-1-k') k' (by omega) λj h1 h2 i h3=>by have:=k3' j h1 h2;have:=sa i (k-1) (by omega) lk1;omega
  by_cases e3:k'=1
  ·have k00':c.2.1-1-k' > 0:=by omega
   exact kQ k00' (kQ (by simpa using e3) (_n ⟨lk,fin m4 b6 (by omega) e3⟩))
  have m5:=Mhi.pushA (m:=k-1) (by rw[ek];exact m4) sa lk1 λj h1=>_ar (k2' j h1);have z1:¬ k'=0:=by omega
  have b1:k-1+k'+x+1<a.size+b.size:=by omega
  have b2:k-1+k'+x+(y+1)<a.size+b.size:=by omega
  have b5:1<k'/\k'<=b.size:=by omega
  clear m3 m4;refine zfp (λk00'=>(_i (by simpa using e3)).trans (_i (by simpa using z1))) (λk00'=>by rw[(z9Y k1' k00' _).1,(z9Y (a:=b) k1' k00' #[]).2]) ?_;refine _h (yx lk1 (xc (λe4=>_n ⟨lk,m5.done sb b5.2 (by simpa using e4)⟩) λe4=>?_));have b3:0<k-1/\k-1<=a.size:=by
   have:¬ k-1=0:=(by simpa using e4);omega
  exact xc (λ_=>_n ⟨b1,lk,m5,b3,b5⟩) λ_=>_n ⟨b2,lk,m5,b3,b5⟩
end
section
variable {rk:Keyed->Nat}{a b x y r:Array Keyed}
def vg(rk:Keyed->Nat)(a:Array Keyed)(lo hi:Nat):Prop:=∀i j,lo<=i->i<=j->j<hi->rk (at_ a i)<=rk (at_ a j)
def zhb(a b:Array Keyed)(lo hi:Nat):Prop:=∀i,i<lo\/hi<=i->at_ b i=at_ a i
theorem zbf{i lo hi:Nat}(h1:lo+i<hi)(h2:hi<=a.size):at_ (a.extract lo hi) i=at_ a (lo+i):=by
 simp only[at_,_a7];rw[_cj,_g (by omega)]
theorem z8V{v:Keyed}(h:v∈a.toList):∃j,j<a.size/\v=at_ a j:=by
 obtain⟨j,hj,e⟩:=_ah.mp h;have hj':j<a.size:=by simpa using hj
 exact⟨j,hj',by simp[at_,hj',<- e]⟩
noncomputable def write(a r:Array Keyed)(sa:Nat):Array Keyed:=r.toList.zipIdx.foldl (λa p=>a.setIfInBounds (sa+p.2) p.1) a
theorem z3z:∀(l:List Keyed)(k sa:Nat)(a:Array Keyed),((l.zipIdx k).foldl (λa p=>a.setIfInBounds (sa+p.2) p.1) a).size=a.size/\∀i,((l.zipIdx k).foldl (λa p=>a.setIfInBounds (sa+p.2) p.1) a)[i]? = if sa+k<=i/\i<sa+k+l.length/\i<a.size then l[i-(sa+k)]? else a[i]?
 | [],k,sa,a=>⟨rfl,λi=>by rw[_i (by simp;omega)];rfl⟩ | v::l,k,sa,a=>by
  obtain⟨h1,h2⟩:=z3z l (k+1) sa (a.setIfInBounds (sa+k) v);rw[_dl,_aE];refine⟨h1.trans (by simp),λi=>(h2 i).trans ?_⟩;rw[Array.size_setIfInBounds,_p];by_cases e:i=sa+k
  ·subst e;rw[_i (by omega)];by_cases q:sa+k<a.size;·rw[_g (by omega),Array.getElem?_setIfInBounds_self_of_lt q];simp
   ·rw[_i (by omega)];simp[q]
  ·rw[Array.getElem?_setIfInBounds_ne (by omega)];by_cases q:sa+(k+1)<=i/\i<sa+(k+1)+l.length/\i<a.size;·rw[_g q,_g (by omega),show i-(sa+k)=(i-(sa+(k+1)))+1 by omega,_aL]
   ·rw[_i q,_i (by omega)]
theorem z6H{sa:Nat}(h:sa+r.size<=a.size):(write a r sa).toList=a.toList.take sa++r.toList++a.toList.drop (sa+r.size):=by
 obtain⟨h1,h2⟩:=z3z r.toList 0 sa a;apply List.ext_getElem?;intro i;have e:(write a r sa).toList[i]? = (write a r sa)[i]? := by simp
 rw[e];refine (h2 i).trans ?_;simp only[_X,_ck];by_cases q1:i<sa;·rw[_i (by omega),_z,_B (by simp;omega),List.getElem?_take,_g q1];simp
 ·by_cases q2:i<sa+r.size;·rw[_g (by omega),_z,_v (by simp;omega),_Z,_X,Nat.min_eq_left (by omega),_B (by simp;omega)]
  ·rw[_i (by omega),_v (by simp;omega),List.getElem?_drop];simp only[_q,_Z,_X];rw[show sa+r.size+(i-(min sa a.size+r.size))=i by omega];simp
theorem za6{sa i:Nat}(h:sa+r.size<=a.size):at_ (write a r sa) i=if sa<=i/\i<sa+r.size then at_ r (i-sa) else at_ a i:=by
 obtain⟨h1,h2⟩:=z3z r.toList 0 sa a;simp only[at_,_a7];have:=h2 i;simp only[_X,_ck]at this;rw[show (write a r sa)[i]? = _ from this];by_cases q:sa<=i/\i<sa+r.size;·rw[_g (by omega),_g q];simp
 ·rw[_i (by omega),_i q]
theorem zeE(h:r.toList.Pairwise λx y=>rk x<=rk y):Srt rk r:=λi j hij hj=>by
 rcases Nat.lt_or_ge i j with q | q
 ·have:=List.pairwise_iff_getElem.mp h i j (by simp;omega) (by simpa using hj) q;simpa[at_,hj,show i<r.size by omega] using this
 ·rw[show i=j by omega];exact _d _
end
section
variable {prog:Program}{w:World}{A:Around}{E:Value->Shared->Prop}{s:Shared}{κ:SortKind}{a₀:Array Keyed}{rk:Keyed->Nat}(V:Env prog w A s κ (· ∈ a₀.toList) rk) {st:SortSt}
structure SB(κ:SortKind)(a₀:Array Keyed)(st:SortSt):Prop where
 perm:(arrOf st).Perm a₀
 kind:kindOf st=κ
 failed:failedOf st=none
theorem SB.size(h:SB κ a₀ st):(arrOf st).size=a₀.size:=h.perm.size_eq
theorem SB.mem(h:SB κ a₀ st):∀i,i<(arrOf st).size->at_ (arrOf st) i∈a₀.toList:=λi hi=>by
 have:at_ (arrOf st) i∈(arrOf st).toList:=by simp[at_,hi]
 exact (_bO.mp h.perm).mem_iff.mp this
include V
theorem z6T {i sa na p sb nb p':Nat} {Q:Bool->SortSt->Prop} (B:SB κ a₀ st) (h1:(pendingOf st)[i]? = some (sa,na,p)) (h2:(pendingOf st)[i+1]? = some (sb,nb,p')) (eb:sb=sa+na) (pa:1<=na) (pb:1<=nb) (hz:sb+nb<=a₀.size) (s1:vg rk (arrOf st) sa (sa+na)) (s2:vg rk (arrOf st) sb (sb+nb)) (h:∀st',SB κ a₀ st'->pendingOf st'=((pendingOf st).setIfInBounds i (sa,na+nb,p)).eraseIdxIfInBounds (i+1)->zhb (arrOf st) (arrOf st') sa (sa+(na+nb))->vg rk (arrOf st') sa (sa+(na+nb))->Q true st'):wpS (model prog w) A E s (mergeAt' i) Q st:=by
 have sz:=B.size;have mem:=B.mem;have nf:=B.failed;refine _h (_ch ?_);show wpS _ _ _ _ (match ((pendingOf st)[i]?,(pendingOf st)[i+1]?) with | (some (sa,na,power),some (sb,nb,_))=>_ | _=>_) _ _;rw[h1,h2];dsimp only;refine _h (_aX (f:=λ_=>setPending st (((pendingOf st).setIfInBounds i (sa,na+nb,p)).eraseIdxIfInBounds (i+1))) ?_);have B1:SB κ a₀ (setPending st (((pendingOf st).setIfInBounds i (sa,na+nb,p)).eraseIdxIfInBounds (i+1))):=⟨B.perm,B.kind,B.failed⟩;have a1:arrOf (setPending st (((pendingOf st).setIfInBounds i (sa,na+nb,p)).eraseIdxIfInBounds (i+1)))=arrOf st:=rfl;have p1:pendingOf (setPending st (((pendingOf st).setIfInBounds i (sa,na+nb,p)).eraseIdxIfInBounds (i+1)))=((pendingOf st).setIfInBounds i (sa,na+nb,p)).eraseIdxIfInBounds (i+1):=rfl;generalize setPending st (((pendingOf st).setIfInBounds i (sa,na+nb,p)).eraseIdxIfInBounds (i+1))=st1 at B1 a1 p1;refine _h (yx (arr:=arrOf st) (by omega) (_h (uC V (arr:=arrOf st) B1.kind mem (mem _ (by omega)) (by omega) (by omega) (λi j hij hj=>?_) λk hk f1 f2=>?_)))
 ·simp only[bey,_G,_ag,_a3,_ae];have:=s1 (sa+i) (sa+j) (by omega) (by omega) (by omega);omega
 simp only[bey,_G,_ag,_a3,_ae,_cX,_l]at f1 f2;dsimp only;by_cases q:na-k=0
 ·rw[_g (by simpa using q)];refine _n (h _ B1 p1 (λi _=>by rw[a1]) λi j hi hij hj=>?_);rw[a1];by_cases c1:j<sb;·exact s1 i j hi hij (by omega)
  ·by_cases c2:sb<=i;·exact s2 i j c2 hij (by omega)
   ·have e1:=f1 (i-sa) (by omega);rw[show sa+(i-sa)=i by omega]at e1;have e2:=s2 sb j (_d _) (by omega) (by omega);omega
 rw[_i (by simpa using q)];refine _h (yx (arr:=arrOf st) (by omega) (_h (uC V (arr:=arrOf st) B1.kind mem (mem _ (by omega)) (by omega) (by omega) (λi j hij hj=>?_) λm hm g1 g2=>?_)))
 ·simp only[bey,_P,_l];have:=s2 (sb+i) (sb+j) (by omega) (by omega) (by omega);omega
 simp only[bey,_P,_l,_ae]at g1 g2;dsimp only;have f0:=f2 k (_d _) (by omega);have m1:1<=m:=by
  rcases Nat.eq_zero_or_pos m with z | z
  ·have e1:=g2 0 (by omega) (by omega);rw[_ck]at e1;have:=s1 (sa+k) (sa+k+(na-k)-1) (by omega) (by omega) (by omega);omega
  ·exact z
 rw[_i (by simp;omega)];have xs:((arrOf st).extract (sa+k) sb).size=na-k:=by rw[_cW];omega
 have ys:((arrOf st).extract sb (sb+m)).size=m:=by rw[_cW];omega
 have xa:∀i,i<na-k->at_ ((arrOf st).extract (sa+k) sb) i=at_ (arrOf st) (sa+k+i):=λi hi=>zbf (by omega) (by omega);have ya:∀i,i<m->at_ ((arrOf st).extract sb (sb+m)) i=at_ (arrOf st) (sb+i):=λi hi=>zbf (by omega) (by omega);have fin:∀r st',z2B st1 st'->Mrg rk ((arrOf st).extract (sa+k) sb) ((arrOf st).extract sb (sb+m)) r->wpS (model prog w) A E s (do
   modify λs=>setArr s (write (arrOf s) r (sa+k)) return (failedOf (<- get)).isNone) Q st':=λr st' lk mg=>by
  have al:arrOf st'=arrOf st:=lk.2.1.trans a1;have rs:r.size=na-k+m:=by
   have:=mg.1.length_eq;simp only[_q,_X]at this;omega
  have hw:sa+k+r.size<=(arrOf st).size:=by omega
  refine _h (_aX (_h (_ch ?_)));have B2:SB κ a₀ (setArr st' (write (arrOf st') r (sa+k))):=by
   refine⟨?_,lk.1.trans B1.kind,lk.2.2.2.trans B1.failed⟩;show (write (arrOf st') r (sa+k)).Perm a₀;rw[al];refine Array.Perm.trans (_bO.mpr ?_) B.perm;rw[z6H hw];have e1:(arrOf st).toList=(arrOf st).toList.take (sa+k)++((arrOf st).extract (sa+k) sb).toList++((arrOf st).extract sb (sb+m)).toList++(arrOf st).toList.drop (sa+k+r.size):=by
    simp only[Array.toList_extract,List.extract_eq_take_drop];have:=_S (sa+k) (arrOf st).toList;have d1:=_S (sb-(sa+k)) ((arrOf st).toList.drop (sa+k));have d2:=_S (sb+m-sb) ((arrOf st).toList.drop sb);rw[List.drop_drop,show sa+k+(sb-(sa+k))=sb by omega]at d1;rw[List.drop_drop,show sb+(sb+m-sb)=sa+k+r.size by omega]at d2;rw[_z,_z,d2,d1,this]
   conv=>rhs;rw[e1]
   rw[_z,_z,_z];refine List.Perm.append_left _ ?_;rw[<- _z];exact mg.1.append_right _
  have sr:=zeE mg.2;have wa:∀i,at_ (arrOf (setArr st' (write (arrOf st') r (sa+k)))) i=if sa+k<=i/\i<sa+k+r.size then at_ r (i-(sa+k)) else at_ (arrOf st) i:=λi=>by
   show at_ (write (arrOf st') r (sa+k)) i=_;rw[al];exact za6 hw
  have rm:∀i,i<r.size->(∃j,sa+k<=j/\j<sb/\at_ r i=at_ (arrOf st) j)\/∃j,sb<=j/\j<sb+m/\at_ r i=at_ (arrOf st) j:=λi hi=>by
   have:at_ r i∈r.toList:=by simp[at_,hi]
   rcases _L.mp (mg.1.mem_iff.mp this) with z | z
   ·obtain⟨j,hj,e⟩:=z8V z;exact .inl ⟨sa+k+j,by omega,by omega,by rw[e,xa j (by omega)]⟩
   ·obtain⟨j,hj,e⟩:=z8V z;exact .inr ⟨sb+j,by omega,by omega,by rw[e,ya j (by omega)]⟩
  rw[show (failedOf (setArr st' (write (arrOf st') r (sa+k)))).isNone=true by rw[B2.failed];rfl];refine _n (h _ B2 (lk.2.2.1.trans p1) (λi hi=>?_) λi j hi hij hj=>?_);·rw[wa,_i (by omega)]
  ·-- lo part<=b0<merged;merged<last a<=hi part
   have lowM:∀i,sa<=i->i<sa+k->∀j,j<r.size->rk (at_ (arrOf st) i)<=rk (at_ r j):=λi i1 i2 j hj=>by
    have e1:=f1 (i-sa) (by omega);rw[show sa+(i-sa)=i by omega]at e1;rcases rm j hj with⟨j',j1,j2,e⟩ | ⟨j',j1,j2,e⟩;·rw[e];exact s1 i j' i1 (by omega) (by omega)
    ·rw[e];have:=s2 sb j' (_d _) j1 (by omega);omega
   have hiM:∀j,sb+m<=j->j<sb+nb->∀i,i<r.size->rk (at_ r i)<=rk (at_ (arrOf st) j):=λj j1 j2 i hi=>by
    have e1:=g2 (j-sb) (by omega) (by omega);rw[show sb+(j-sb)=j by omega]at e1;rcases rm i hi with⟨i',i1,i2,e⟩ | ⟨i',i1,i2,e⟩
    ·rw[e];have:=s1 i' (sa+k+(na-k)-1) (by omega) (by omega) (by omega);omega
    ·rw[e];exact s2 i' j i1 (by omega) j2
   rw[wa,wa];by_cases c1:sa+k<=i/\i<sa+k+r.size
   ·rw[_g c1];by_cases c2:sa+k<=j/\j<sa+k+r.size;·rw[_g c2];exact sr _ _ (by omega) (by omega)
    ·rw[_i c2];exact hiM j (by omega) (by omega) _ (by omega)
   ·rw[_i c1];by_cases c2:sa+k<=j/\j<sa+k+r.size
    ·rw[_g c2];exact lowM i hi (by omega) _ (by omega)
    ·rw[_i c2];by_cases c3:sb<=i;·exact s2 i j c3 hij (by omega)
     ·by_cases c4:j<sb;·exact s1 i j hi hij (by omega)
      ·have z1:=lowM i hi (by omega) 0 (by omega);have z2:=hiM j (by omega) (by omega) 0 (by omega);omega
 have args:(∀i,i<((arrOf st).extract (sa+k) sb).size->at_ ((arrOf st).extract (sa+k) sb) i∈a₀.toList)/\(∀i,i<((arrOf st).extract sb (sb+m)).size->at_ ((arrOf st).extract sb (sb+m)) i∈a₀.toList)/\Srt rk ((arrOf st).extract (sa+k) sb)/\Srt rk ((arrOf st).extract sb (sb+m)):=by
  refine⟨λi hi=>?_,λi hi=>?_,λi j hij hj=>?_,λi j hij hj=>?_⟩;·rw[xa i (by omega)];exact mem _ (by omega)
  ·rw[ya i (by omega)];exact mem _ (by omega)
  ·rw[xa i (by omega),xa j (by omega)];exact s1 _ _ (by omega) (by omega) (by omega)
  ·rw[ya i (by omega),ya j (by omega)];exact s2 _ _ (by omega) (by omega) (by omega)
 obtain⟨Px,Py,sx,sy⟩:=args;have fst_:rk (at_ ((arrOf st).extract sb (sb+m)) 0)<rk (at_ ((arrOf st).extract (sa+k) sb) 0):=by rw[xa 0 (by omega),ya 0 (by omega),_ck,_ck];exact f0
 have lst_:rk (at_ ((arrOf st).extract sb (sb+m)) (((arrOf st).extract sb (sb+m)).size-1))<rk (at_ ((arrOf st).extract (sa+k) sb) (((arrOf st).extract (sa+k) sb).size-1)):=by
  rw[xs,ys,xa _ (by omega),ya _ (by omega),show sa+k+(na-k-1)=sa+k+(na-k)-1 by omega];exact g1 (m-1) (by omega)
 refine xc (λ_=>?_) λ_=>?_;·exact _h (z7q V (a:=(arrOf st).extract (sa+k) sb) (b:=(arrOf st).extract sb (sb+m)) B1.kind Px Py sx sy (by omega) (by omega) fst_ lst_ fin)
 ·exact _h (z6M V (a:=(arrOf st).extract (sa+k) sb) (b:=(arrOf st).extract sb (sb+m)) B1.kind Px Py sx sy (by omega) (by omega) fst_ lst_ fin)
end
noncomputable def zhc(lo a nrem:Nat):StateT SortSt Sem (Option (Option Nat)×Nat):= forIn [a:nrem] ((none,a):Option (Option Nat)×Nat) λ_ c=>do match <- ltAt' (lo+c.2) (lo+c.2-1) with
  | some less=>if less=true then pure (.done (none,c.2)) else pure (.yield (none,c.2+1)) | _=>pure (.done (some none,c.2))
noncomputable def zgL(lo n nrem:Nat):StateT SortSt Sem (Option (Option Nat)×Nat×Nat):= forIn [n:nrem] ((none,n,0):Option (Option Nat)×Nat×Nat) λ_ c=>do match <- ltAt' (lo+c.2.1) (lo+c.2.1-1) with
  | some less=>
   if less=true then
    if c.2.2 > 0 then do
     reverseSlice' (lo+c.2.1-(c.2.2+1)) (lo+c.2.1)
     pure (.yield (none,c.2.1+1,0)) else pure (.yield (none,c.2.1+1,0)) else do match <- ltAt' (lo+c.2.1-1) (lo+c.2.1) with
    | some more=>if more=true then pure (.done (none,c.2.1,c.2.2)) else pure (.yield (none,c.2.1+1,c.2.2+1)) | _=>pure (.done (some none,c.2.1,c.2.2))
  | _=>pure (.done (some none,c.2.1,c.2.2))
section
variable {rk:Keyed->Nat}{a:Array Keyed}
theorem qN{i j:Nat}(hj:j<=a.size)(k:Nat):at_ (mirror a i j ((j-i) / 2)) k=if i<=k/\k<j then at_ a (i+j-1-k) else at_ a k:=by
 simp only[at_,_a7];rw[getElem?_mirror_all hj];split<;>rfl
theorem jG{i j:Nat}(hj:j<=a.size)(he:∀k,i<=k->k<j->rk (at_ a k)=rk (at_ a (j-1)))(k:Nat):rk (at_ (mirror a i j ((j-i) / 2)) k)=rk (at_ a k):=by
 rw[qN hj];split;·rw[he _ (by omega) (by omega),he k (by omega) (by omega)]
 ·rfl
def Dsc(rk:Keyed->Nat)(a:Array Keyed)(lo hi:Nat):Prop:=∀i j,lo<=i->i<=j->j<hi->rk (at_ a j)<=rk (at_ a i)
theorem Dsc.more{lo x:Nat}(h:Dsc rk a lo (lo+x))(hx:1<=x)(e:rk (at_ a (lo+x))<=rk (at_ a (lo+x-1))):Dsc rk a lo (lo+(x+1)):=λi j hi hij hj=>by
 by_cases q:j<lo+x;·exact h i j hi hij q
 ·have:j=lo+x:=by omega
  subst this;by_cases q2:i=lo+x;·rw[q2];exact _d _
  ·have:=h i (lo+x-1) hi (by omega) (by omega);omega
theorem vg.more{lo x:Nat}(h:vg rk a lo (lo+x))(hx:1<=x)(e:rk (at_ a (lo+x-1))<=rk (at_ a (lo+x))):vg rk a lo (lo+(x+1)):=λi j hi hij hj=>by
 by_cases q:j<lo+x;·exact h i j hi hij q
 ·have:j=lo+x:=by omega
  subst this;by_cases q2:i=lo+x;·rw[q2];exact _d _
  ·have:=h i (lo+x-1) hi (by omega) (by omega);omega
end
section
variable {prog:Program}{w:World}{A:Around}{E:Value->Shared->Prop}{s:Shared}{κ:SortKind}{a₀:Array Keyed}{rk:Keyed->Nat}(V:Env prog w A s κ (· ∈ a₀.toList) rk) {st:SortSt}{lo nrem:Nat}
theorem SB.set(h:SB κ a₀ st){xs:Array Keyed}(hp:xs.Perm (arrOf st)):SB κ a₀ (setArr st xs):=⟨hp.trans h.perm,h.kind,h.failed⟩
theorem kF{i j:Nat}{Q:Unit->SortSt->Prop}(h:Q () (setArr st (mirror (arrOf st) i j ((j-i) / 2)))):wpS (model prog w) A E s (reverseSlice' i j) Q st:=by rw[reverseSlice'_eq];exact _aX h
def z1S(lo:Nat)(st st':SortSt):Prop:=(∀i,i<lo->at_ (arrOf st') i=at_ (arrOf st) i)/\pendingOf st'=pendingOf st
theorem z1S.refl:z1S lo st st:=⟨λ_ _=>rfl,rfl⟩
theorem z1S.mir{st':SortSt}(h:z1S lo st st'){i j:Nat}(hi:lo<=i)(hj:j<=(arrOf st').size):z1S lo st (setArr st' (mirror (arrOf st') i j ((j-i) / 2))):= ⟨λk hk=>by rw[show arrOf (setArr st' (mirror (arrOf st') i j ((j-i) / 2)))=mirror (arrOf st') i j ((j-i) / 2) from rfl,qN hj,_i (by omega)];exact h.1 k hk,h.2⟩
include V
theorem z0I{i j:Nat}{Q:Option Bool->SortSt->Prop}(B:SB κ a₀ st)(hi:i<a₀.size)(hj:j<a₀.size)(h:Q (some (decide (rk (at_ (arrOf st) i)<rk (at_ (arrOf st) j)))) st):wpS (model prog w) A E s (ltAt' i j) Q st:=by
 have sz:=B.size;rw[ltAt'_eq];refine _h (_ch ?_);exact _h (yx (arr:=arrOf st) (by omega) (_h (yx (arr:=arrOf st) (by omega) (z90 V B.kind (B.mem _ (by omega)) (B.mem _ (by omega)) h))))
theorem z4B{a:Nat}{Q:Option (Option Nat)×Nat->SortSt->Prop}(hn:lo+nrem<=a₀.size)(ha:1<=a)(han:a<=nrem)(B:SB κ a₀ st)(hs:vg rk (arrOf st) lo (lo+a)) (h:∀n,a<=n->n<=nrem->vg rk (arrOf st) lo (lo+n)->(n=nrem\/rk (at_ (arrOf st) (lo+n))<rk (at_ (arrOf st) (lo+n-1)))->Q (none,n) st):wpS (model prog w) A E s (zhc lo a nrem) Q st:=by
 unfold zhc;refine _aF (I:=λx c st'=>st'=st/\c=(none,x)/\vg rk (arrOf st) lo (lo+x)) ?_ ?_ ⟨rfl,rfl,hs⟩
 ·rintro x c st' h1 h2 ⟨rfl,rfl,hs'⟩;refine _h (z0I V B (by omega) (by omega) ?_);refine xc (λq=>?_) λq=>?_;·exact _n (h x h1 (by omega) hs' (.inr (by simpa using q)))
  ·simp only[_l]at q;exact _n ⟨rfl,rfl,hs'.more (by omega) (by omega)⟩
 ·rintro c st' ⟨rfl,rfl,hs'⟩;rw[show max a nrem=nrem by omega]at hs' ⊢;exact h nrem han (_d _) hs' (.inl rfl)
theorem zb7{n:Nat}{Q:Option (Option Nat)×Nat×Nat->SortSt->Prop}{st0:SortSt}(hn:lo+nrem<=a₀.size)(ha:1<=n)(han:n<=nrem)(B:SB κ a₀ st)(kp:z1S lo st0 st)(hs:Dsc rk (arrOf st) lo (lo+n)) (h:∀m q st',SB κ a₀ st'->z1S lo st0 st'->n<=m->m<=nrem->Dsc rk (arrOf st') lo (lo+m)->q+1<=m->(∀i,lo+m-(q+1)<=i->i<lo+m->rk (at_ (arrOf st') i)=rk (at_ (arrOf st') (lo+m-1)))->Q (none,m,q) st'):wpS (model prog w) A E s (zgL lo n nrem) Q st:=by
 unfold zgL;refine _aF (I:=λx c st'=>∃q,c=(none,x,q)/\SB κ a₀ st'/\z1S lo st0 st'/\Dsc rk (arrOf st') lo (lo+x)/\q+1<=x/\∀i,lo+x-(q+1)<=i->i<lo+x->rk (at_ (arrOf st') i)=rk (at_ (arrOf st') (lo+x-1))) ?_ ?_ ⟨0,rfl,B,kp,hs,by omega,λi h1 h2=>by congr 2;omega⟩
 ·rintro x c st' h1 h2 ⟨q,rfl,B',kp',ds,qx,eq⟩;have sz:=B'.size;dsimp only;refine _h (z0I V B' (by omega) (by omega) ?_);dsimp only;refine xc (λc1=>?_) λc1=>?_
  ·simp only[_l]at c1;refine xc (λc2=>?_) λc2=>?_
   ·have me:∀k,rk (at_ (mirror (arrOf st') (lo+x-(q+1)) (lo+x) ((lo+x-(lo+x-(q+1))) / 2)) k)=rk (at_ (arrOf st') k):=jG (by omega) eq;refine _h (kF (_n ⟨0,rfl,B'.set (_bP _ _ _ _),kp'.mir (by omega) (by omega),Dsc.more (λi j hi hij hj=>?_) (by omega) ?_,by omega,λi h1 h2=>by congr 2;omega⟩))
    ·show rk (at_ (mirror _ _ _ _) j)<=rk (at_ (mirror _ _ _ _) i);rw[me,me];exact ds i j hi hij hj
    ·show rk (at_ (mirror _ _ _ _) _)<=rk (at_ (mirror _ _ _ _) _);rw[me,me];omega
   ·exact _n ⟨0,rfl,B',kp',ds.more (by omega) (by omega),by omega,λi h1 h2=>by congr 2;omega⟩
  ·simp only[_l]at c1;refine _h (z0I V B' (by omega) (by omega) ?_);dsimp only;refine xc (λc2=>?_) λc2=>?_;·exact _n (h x q st' B' kp' h1 (by omega) ds qx eq)
   ·simp only[_l]at c2;have e0:rk (at_ (arrOf st') (lo+x))=rk (at_ (arrOf st') (lo+x-1)):=by omega
    refine _n ⟨q+1,rfl,B',kp',ds.more (by omega) (by omega),by omega,λi h1 h2=>?_⟩;rw[show lo+(x+1)-1=lo+x by omega];by_cases z:i=lo+x;·rw[z]
    ·rw[e0];exact eq i (by omega) (by omega)
 ·rintro c st' ⟨q,rfl,B',kp',ds,qx,eq⟩;rw[show max n nrem=nrem by omega]at ds qx eq ⊢;exact h nrem q st' B' kp' han (_d _) ds qx eq
theorem z9U {Q:Option Nat->SortSt->Prop} (hn:lo+nrem<=a₀.size) (h1:1<=nrem) (B:SB κ a₀ st) (h:∀m st',SB κ a₀ st'->z1S lo st st'->1<=m->m<=nrem->vg rk (arrOf st') lo (lo+m)->Q (some m) st'):wpS (model prog w) A E s (countRun' lo nrem) Q st:=by
 have sz:=B.size;refine _h (z4B V hn (_d 1) h1 B (λi j hi hij hj=>by rw[show i=j by omega];exact _d _) λn n1 n2 sn or=>?_);dsimp only;by_cases e:n=nrem
 ·rw[_g (by simpa using e)];exact _n (h n st B .refl n1 n2 sn)
 rw[_i (by simpa using e)];have lt:=or.resolve_left e;refine xc (λc=>?_) λc=>?_
 ·refine _h (z0I V B (by omega) (by omega) ?_);dsimp only;refine xc (λc2=>?_) λc2=>?_;·exact _n (h n st B .refl n1 n2 sn)
  ·simp only[_l]at c2;have all:∀k,lo<=k->k<lo+n->rk (at_ (arrOf st) k)=rk (at_ (arrOf st) (lo+n-1)):=λk z1 z2=>by
    have a1:=sn lo k (_d _) z1 z2;have a2:=sn k (lo+n-1) z1 (by omega) (by omega);omega
   refine _h (kF ?_);have B1:=SB.set B (_bP _ lo (lo+n) ((lo+n-lo) / 2));have k1:=z1S.mir (z1S.refl (lo:=lo) (st:=st)) (i:=lo) (j:=lo+n) (_d _) (by omega);have d1:Dsc rk (arrOf (setArr st (mirror (arrOf st) lo (lo+n) ((lo+n-lo) / 2)))) lo (lo+(n+1)):=by
    refine Dsc.more (λi j hi hij hj=>?_) n1 ?_
    ·show rk (at_ (mirror _ _ _ _) j)<=rk (at_ (mirror _ _ _ _) i);rw[jG (rk:=rk) (by omega) all,jG (rk:=rk) (by omega) all,all i hi (by omega),all j (by omega) hj];exact _d _
    ·show rk (at_ (mirror _ _ _ _) _)<=rk (at_ (mirror _ _ _ _) _);rw[jG (rk:=rk) (by omega) all,jG (rk:=rk) (by omega) all];omega
   refine _h (_cV (_aG ⟨rfl,?_⟩));refine _h (zb7 V hn (by omega) (by omega) B1 k1 d1 λm q st2 B2 k2 m1 m2 ds2 q1 eq=>?_);have sz2:=B2.size;dsimp only;refine xc (λc=>?_) λc=>?_
   ·refine _h (kF ?_);have Bm:=SB.set B2 (_bP _ (lo+m-(q+1)) (lo+m) ((lo+m-(lo+m-(q+1))) / 2));have km:=z1S.mir k2 (i:=lo+m-(q+1)) (j:=lo+m) (by omega) (by omega);have dm:Dsc rk (mirror (arrOf st2) (lo+m-(q+1)) (lo+m) ((lo+m-(lo+m-(q+1))) / 2)) lo (lo+m):=λi j hi hij hj=>by
     rw[jG (rk:=rk) (by omega) eq,jG (rk:=rk) (by omega) eq];exact ds2 i j hi hij hj
    generalize mirror (arrOf st2) (lo+m-(q+1)) (lo+m) ((lo+m-(lo+m-(q+1))) / 2)=am at Bm km dm;have szm:(arrOf (setArr st2 am)).size=a₀.size:=Bm.size;refine _h (kF ?_);have B3:=SB.set Bm (_bP _ lo (lo+m) ((lo+m-lo) / 2));have k3:=z1S.mir km (i:=lo) (j:=lo+m) (_d _) (by omega);refine _h (z4B V hn (by omega) m2 B3 (λi j hi hij hj=>?_) λm' m1' m2' sm _=>_n (h m' _ B3 k3 (by omega) m2' sm));show rk (at_ (mirror _ _ _ _) i)<=rk (at_ (mirror _ _ _ _) j);rw[qN (by omega),qN (by omega),_g (by omega),_g (by omega)];exact dm _ _ (by omega) (by omega) (by omega)
   ·refine _h (kF ?_);have B3:=SB.set B2 (_bP _ lo (lo+m) ((lo+m-lo) / 2));have k3:=z1S.mir k2 (i:=lo) (j:=lo+m) (_d _) (by omega);refine _h (z4B V hn (by omega) m2 B3 (λi j hi hij hj=>?_) λm' m1' m2' sm _=>_n (h m' _ B3 k3 (by omega) m2' sm));show rk (at_ (mirror _ _ _ _) i)<=rk (at_ (mirror _ _ _ _) j);rw[qN (by omega),qN (by omega),_g (by omega),_g (by omega)];exact ds2 _ _ (by omega) (by omega) (by omega)
 ·have n1':n=1:=by omega
  subst n1';have B1:=B;have k1:=z1S.refl (lo:=lo) (st:=st);have d1:Dsc rk (arrOf st) lo (lo+(1+1)):=Dsc.more (λi j hi hij hj=>by rw[show i=j by omega];exact _d _) (_d _) (by omega);refine _h (_cV (_aG ⟨rfl,?_⟩));refine _h (zb7 V hn (by omega) (by omega) B1 k1 d1 λm q st2 B2 k2 m1 m2 ds2 q1 eq=>?_);have sz2:=B2.size;dsimp only;refine xc (λc=>?_) λc=>?_
  ·refine _h (kF ?_);have Bm:=SB.set B2 (_bP _ (lo+m-(q+1)) (lo+m) ((lo+m-(lo+m-(q+1))) / 2));have km:=z1S.mir k2 (i:=lo+m-(q+1)) (j:=lo+m) (by omega) (by omega);have dm:Dsc rk (mirror (arrOf st2) (lo+m-(q+1)) (lo+m) ((lo+m-(lo+m-(q+1))) / 2)) lo (lo+m):=λi j hi hij hj=>by
    rw[jG (rk:=rk) (by omega) eq,jG (rk:=rk) (by omega) eq];exact ds2 i j hi hij hj
   generalize mirror (arrOf st2) (lo+m-(q+1)) (lo+m) ((lo+m-(lo+m-(q+1))) / 2)=am at Bm km dm;have szm:(arrOf (setArr st2 am)).size=a₀.size:=Bm.size;refine _h (kF ?_);have B3:=SB.set Bm (_bP _ lo (lo+m) ((lo+m-lo) / 2));have k3:=z1S.mir km (i:=lo) (j:=lo+m) (_d _) (by omega);refine _h (z4B V hn (by omega) m2 B3 (λi j hi hij hj=>?_) λm' m1' m2' sm _=>_n (h m' _ B3 k3 (by omega) m2' sm));show rk (at_ (mirror _ _ _ _) i)<=rk (at_ (mirror _ _ _ _) j);rw[qN (by omega),qN (by omega),_g (by omega),_g (by omega)];exact dm _ _ (by omega) (by omega) (by omega)
  ·refine _h (kF ?_);have B3:=SB.set B2 (_bP _ lo (lo+m) ((lo+m-lo) / 2));have k3:=z1S.mir k2 (i:=lo) (j:=lo+m) (_d _) (by omega);refine _h (z4B V hn (by omega) m2 B3 (λi j hi hij hj=>?_) λm' m1' m2' sm _=>_n (h m' _ B3 k3 (by omega) m2' sm));show rk (at_ (mirror _ _ _ _) i)<=rk (at_ (mirror _ _ _ _) j);rw[qN (by omega),qN (by omega),_g (by omega),_g (by omega)];exact ds2 _ _ (by omega) (by omega) (by omega)
end
theorem zcL(c:Prop) [Decidable c](x:Nat):(if c then x-1 else x)<=x:=by split<;>omega
abbrev Run:=Nat×Nat×Nat
section
variable {rk:Keyed->Nat}{a b:Array Keyed}
theorem zff{src d:Nat}(hs:src<a.size)(hd:d<=src)(k:Nat):at_ (bubble a src d) k=if k=src-d then at_ a src else if src-d<k/\k<=src then at_ a (k-1) else at_ a k:=by
 simp only[at_,_a7];rw[getElem?_bubble hs d hd];split;·rfl
 ·split<;>rfl
noncomputable def Chain(rk:Keyed->Nat)(a:Array Keyed):List Run->Nat->Nat->Prop
 | [],lo,hi=>lo=hi | (x,n,_)::t,lo,hi=>x=lo/\1<=n/\vg rk a x (x+n)/\Chain rk a t (x+n) hi
theorem Chain.len:∀{l:List Run}{lo hi:Nat},Chain rk a l lo hi->l.length+lo<=hi
 | [],_,_,h=>by simp only[Chain]at h;simp[h] | (x,n,_)::t,lo,hi,⟨h1,h2,_,h4⟩=>by have:=h4.len;simp only[_p];omega
theorem Chain.same:∀{l:List Run}{lo hi:Nat},(∀i,lo<=i->i<hi->at_ b i=at_ a i)->Chain rk a l lo hi->Chain rk b l lo hi
 | [],_,_,_,h=>h | (x,n,_)::t,lo,hi,e,⟨h1,h2,h3,h4⟩=>by
  have:=h4.len;exact⟨h1,h2,λi j hi hij hj=>by rw[e i (by omega) (by omega),e j (by omega) (by omega)];exact h3 i j hi hij hj,h4.same λi i1 i2=>e i (by omega) i2⟩
theorem Chain.push{n p lo:Nat}:∀{l:List Run}{st:Nat},Chain rk a l st lo->1<=n->vg rk a lo (lo+n)->Chain rk a (l++[(lo,n,p)]) st (lo+n)
 | [],st,h,h1,h2=>by
  have e:st=lo:=h;exact⟨e.symm,h1,h2,rfl⟩ | (x,m,_)::t,st,⟨g1,g2,g3,g4⟩,h1,h2=>⟨g1,g2,g3,g4.push h1 h2⟩
theorem Chain.modify{f:Run->Run}(hf:∀x,(f x).1=x.1/\(f x).2.1=x.2.1):∀{l:List Run}{k lo hi:Nat},Chain rk a l lo hi->Chain rk a (l.modify k f) lo hi
 | [],k,lo,hi,h=>by cases k<;>exact h | x::t,0,lo,hi,h=>by
  have e:=hf x;show Chain rk a (f x::t) lo hi;generalize f x=y at e;obtain⟨x1,x2,x3⟩:=x;obtain⟨y1,y2,y3⟩:=y;obtain⟨rfl,rfl⟩:=e;exact h | (x,n,p)::t,k+1,lo,hi,⟨g1,g2,g3,g4⟩=>⟨g1,g2,g3,g4.modify hf⟩
theorem Chain.two{sa na p sb nb p' hi:Nat}:∀{l:List Run}{i lo:Nat},Chain rk a l lo hi->l[i]? = some (sa,na,p)->l[i+1]? = some (sb,nb,p')->lo<=sa/\sb=sa+na/\1<=na/\1<=nb/\sb+nb<=hi/\vg rk a sa (sa+na)/\vg rk a sb (sb+nb)
 | x::[],i,lo,h,e1,e2=>by simp at e2 | x::y::t,0,lo,h,e1,e2=>by
  simp only[_af,_M]at e1;simp only[_aL,_af,_M]at e2;subst e1 e2;obtain⟨g1,g2,g3,h1,h2,h3,h4⟩:=h;have:=h4.len;exact⟨by omega,by omega,g2,h2,by omega,g3,h3⟩ | (x,n,p)::y::t,i+1,lo,⟨g1,g2,g3,g4⟩,e1,e2=>by
  simp only[_aL]at e1 e2;have:=g4.two (i:=i) e1 (by simpa using e2);exact⟨by omega,this.2⟩
theorem Chain.merge{sa na p sb nb p' hi:Nat}(S:zhb a b sa (sa+(na+nb)))(s:vg rk b sa (sa+(na+nb))):∀{l:List Run}{i lo:Nat},Chain rk a l lo hi->l[i]? = some (sa,na,p)->l[i+1]? = some (sb,nb,p')->Chain rk b ((l.set i (sa,na+nb,p)).eraseIdx (i+1)) lo hi
 | x::[],i,lo,h,e1,e2=>by simp at e2 | x::y::t,0,lo,h,e1,e2=>by
  simp only[_af,_M]at e1;simp only[_aL,_af,_M]at e2;subst e1 e2;obtain⟨g1,g2,g3,h1,h2,h3,h4⟩:=h;show Chain rk b ((sa,na+nb,p)::t) lo hi;refine⟨g1,by omega,s,?_⟩;have h4':Chain rk a t (sa+(na+nb)) hi:=by rw[show sa+(na+nb)=sb+nb by omega];exact h4
  exact h4'.same λi i1 i2=>S i (.inr i1) | (x,n,q)::y::t,i+1,lo,⟨g1,g2,g3,g4⟩,e1,e2=>by
  simp only[_aL]at e1 e2;have e2':(y::t)[i+1]? = some (sb,nb,p'):=by simpa using e2
  have tw:=g4.two e1 e2';show Chain rk b ((x,n,q)::(((y::t).set i (sa,na+nb,p)).eraseIdx (i+1))) lo hi;exact⟨g1,g2,λi j hi hij hj=>by rw[S i (by omega),S j (by omega)];exact g3 i j hi hij hj,g4.merge S s e1 e2'⟩
end
section
variable {prog:Program}{w:World}{A:Around}{E:Value->Shared->Prop}{s:Shared}{κ:SortKind}{a₀:Array Keyed}{rk:Keyed->Nat}(V:Env prog w A s κ (· ∈ a₀.toList) rk) {st:SortSt}{lo nrem:Nat}
include V
theorem zeW{n ok:Nat}{Q:Bool->SortSt->Prop}(hn:lo+n<=a₀.size)(hok:ok<=n)(B:SB κ a₀ st)(hs:vg rk (arrOf st) lo (lo+ok))(h:∀st',SB κ a₀ st'->z1S lo st st'->vg rk (arrOf st') lo (lo+n)->Q true st'):wpS (model prog w) A E s (binarySort' lo n ok) Q st:=by
 refine _h (_bN (_aF (I:=λk c st'=>c=(none,())/\SB κ a₀ st'/\z1S lo st st'/\vg rk (arrOf st') lo (lo+min k n)) (Q:=λc st'=>c=(none,())/\SB κ a₀ st'/\z1S lo st st'/\vg rk (arrOf st') lo (lo+n)) ?_ ?_ ?_) ?_)
 ·rintro k c st1 h1 h2 ⟨rfl,B1,k1,s1⟩;have sz:=B1.size;rw[show min k n=k by omega]at s1;refine _h (_bN (_aF (I:=λx c st2=>st2=st1/\∃l r,c=(none,l,r)/\l<=r/\r<=k/\r-l<=k-x/\(∀i,lo<=i->i<lo+l->rk (at_ (arrOf st1) i)<=rk (at_ (arrOf st1) (lo+k)))/\(∀i,lo+r<=i->i<lo+k->rk (at_ (arrOf st1) (lo+k))<rk (at_ (arrOf st1) i))) (Q:=λc st2=>st2=st1/\∃l r,c=(none,l,r)/\l<=k/\(∀i,lo<=i->i<lo+l->rk (at_ (arrOf st1) i)<=rk (at_ (arrOf st1) (lo+k)))/\(∀i,lo+l<=i->i<lo+k->rk (at_ (arrOf st1) (lo+k))<rk (at_ (arrOf st1) i))) ?_ ?_ ⟨rfl,0,k,rfl,by omega,by omega,by omega,λi _ hi=>by omega,λi h1 h2=>by omega⟩) ?_)
  ·rintro x c st2 _ hx ⟨rfl,l,r,rfl,c1,c2,c3,c4,c5⟩;dsimp only;refine xc (λq=>?_) λq=>?_
   ·have:l=r:=by omega
    subst this;exact _n ⟨rfl,l,l,rfl,c2,c4,c5⟩
   ·refine _h (z0I V B1 (by omega) (by omega) ?_);dsimp only;refine xc (λq2=>?_) λq2=>?_
    ·simp only[_l]at q2;refine _n ⟨rfl,l,(l+r) / 2,rfl,by omega,by omega,by omega,c4,λi i1 i2=>?_⟩;have:=s1 (lo+(l+r) / 2) i (by omega) i1 i2;omega
    ·simp only[_l]at q2;refine _n ⟨rfl,(l+r) / 2+1,r,rfl,by omega,by omega,by omega,λi i0 i1=>?_,c5⟩;have:=s1 i (lo+(l+r) / 2) i0 (by omega) (by omega);omega
  ·rintro c st2 ⟨rfl,l,r,rfl,c1,c2,c3,c4,c5⟩;have:l=r:=by omega
   subst this;exact⟨rfl,l,l,rfl,c2,c4,c5⟩
  ·rintro c st2 ⟨rfl,l,r,rfl,c2,c4,c5⟩;have ab:∀i,at_ (bubble (arrOf st2) (lo+k) (lo+k-(lo+l))) i=if i=lo+l then at_ (arrOf st2) (lo+k) else if lo+l<i/\i<=lo+k then at_ (arrOf st2) (i-1) else at_ (arrOf st2) i:=λi=>by rw[zff (by omega) (by omega),show lo+k-(lo+k-(lo+l))=lo+l by omega]
   refine _h (_aX (_n ⟨rfl,B1.set (bubble_perm _ _ _),⟨λi hi=>?_,k1.2⟩,?_⟩))
   ·show at_ (bubble (arrOf st2) (lo+k) (lo+k-(lo+l))) i=_;rw[ab,_i (by omega),_i (by omega)];exact k1.1 i hi
   ·rw[show min (k+1) n=k+1 by omega];intro i j i1 i2 i3;show rk (at_ (bubble (arrOf st2) (lo+k) (lo+k-(lo+l))) i)<=rk (at_ (bubble (arrOf st2) (lo+k) (lo+k-(lo+l))) j);rw[ab,ab];repeat' split
    all_goals first
     | (exfalso;omega) | exact _d _ | exact c4 _ (by omega) (by omega) | exact _ar (c5 _ (by omega) (by omega)) | exact s1 _ _ (by omega) (by omega) (by omega)
 ·rintro c st1 ⟨hc,B1,k1,s1⟩;rw[show min (max (max ok 1) n) n=n by omega]at s1;exact⟨hc,B1,k1,s1⟩
 ·refine⟨rfl,B,.refl,λi j i1 i2 i3=>?_⟩;by_cases z:ok=0;·rw[show i=j by omega];exact _d _
  ·exact hs i j i1 i2 (by omega)
 ·rintro c st1 ⟨rfl,B1,k1,s1⟩;exact _n (h st1 B1 k1 s1)
theorem z0N{i hi:Nat}{Q:Bool->SortSt->Prop}(B:SB κ a₀ st)(c:Chain rk (arrOf st) (pendingOf st).toList 0 hi)(hz:hi<=a₀.size)(hi':i+1<(pendingOf st).size) (h:∀st',SB κ a₀ st'->Chain rk (arrOf st') (pendingOf st').toList 0 hi->(pendingOf st').size+1=(pendingOf st).size->(∀i,hi<=i->at_ (arrOf st') i=at_ (arrOf st) i)->Q true st'):wpS (model prog w) A E s (mergeAt' i) Q st:=by
 obtain⟨⟨sa,na,p⟩,e1⟩:∃x,(pendingOf st)[i]? = some x:=⟨_,_dx _ i (by omega)⟩;obtain⟨⟨sb,nb,p'⟩,e2⟩:∃x,(pendingOf st)[i+1]? = some x:=⟨_,_dx _ (i+1) hi'⟩;have l1:(pendingOf st).toList[i]? = some (sa,na,p):=by simpa using e1
 have l2:(pendingOf st).toList[i+1]? = some (sb,nb,p'):=by simpa using e2
 have tw:=c.two l1 l2;refine z6T V B e1 e2 tw.2.1 tw.2.2.1 tw.2.2.2.1 (by omega) tw.2.2.2.2.2.1 tw.2.2.2.2.2.2 λst' B' ep S s'=>h st' B' ?_ ?_ λi hi=>S i (by omega)
 ·rw[ep,_cn,Array.toList_setIfInBounds];exact c.merge S s' l1 l2
 ·have:=_a5 (λa=>a.toList.length) ep;simp only[_cn,Array.toList_setIfInBounds,List.length_eraseIdx,List.length_set,_X]at this;rw[_g hi']at this;omega
theorem zc8{Q:Unit->SortSt->Prop}(B:SB κ a₀ st)(hp:pendingOf st=#[])(h:∀st',SB κ a₀ st'->vg rk (arrOf st') 0 a₀.size->Q () st'):wpS (model prog w) A E s sortRuns' Q st:=by
 have sz:=B.size;refine _h (_ch ?_);dsimp only;rw[show (arrOf st).size=a₀.size from sz];refine _h (_bN (_aF (I:=λx c st'=>∃lo,c=(none,lo)/\SB κ a₀ st'/\lo<=a₀.size/\min x a₀.size<=lo/\Chain rk (arrOf st') (pendingOf st').toList 0 lo) (Q:=λc st'=>c=(none,a₀.size)/\SB κ a₀ st'/\Chain rk (arrOf st') (pendingOf st').toList 0 a₀.size) ?_ ?_ ⟨0,rfl,B,by omega,by omega,by rw[hp];exact rfl⟩) ?_)
 ·rintro x c st1 _ hx ⟨lo,rfl,B1,l1,l2,ch⟩;dsimp only;refine xc (λq=>?_) λq=>?_
  ·have:lo=a₀.size:=by omega
   subst this;exact _n ⟨rfl,B1,ch⟩
  refine _h (z9U V (by omega) (by omega) B1 λm st2 B2 k2 m1 m2 s2=>?_);dsimp only;have c2:Chain rk (arrOf st2) (pendingOf st2).toList 0 lo:=by
   rw[k2.2];exact ch.same λi _ hi=>k2.1 i hi
  refine xc (λq1=>?_) λq1=>?_
  ·refine _h (_cV (_aG ⟨rfl,?_⟩));refine _h (zeW V (n:=min (a₀.size-lo) _) (by omega) (by omega) B2 s2 λst3 B3 k3 s3=>?_);have n2:=Nat.min_le_left (a₀.size-lo) (minRun' a₀.size a₀.size 0);have n1:1<=min (a₀.size-lo) (minRun' a₀.size a₀.size 0):=by
    have:m<minRun' a₀.size a₀.size 0:=q1;omega
   have c3:Chain rk (arrOf st3) (pendingOf st3).toList 0 lo:=by
    rw[k3.2];exact c2.same λi _ hi=>k3.1 i hi
   rw[_i (by simp)];have en:∃n,n=min (a₀.size-lo) (minRun' a₀.size a₀.size 0):=⟨_,rfl⟩;obtain⟨n,en⟩:=en;rw[<- en]at n1 n2;have s3:vg rk (arrOf st3) lo (lo+n):=by rw[en];exact s3
   show wpS _ _ _ _ (get >>= _) _ _;refine _h (_ch ?_);cases e:(pendingOf st3).back? with
   | none=>
    dsimp only;refine _h (_aX (_n ⟨lo+n,by first | rfl | (rw[en];rfl),⟨B3.perm,B3.kind,B3.failed⟩,by omega,by omega,?_⟩));show Chain rk (arrOf st3) ((pendingOf st3).push (_,_,0)).toList 0 _;rw[_ai];first | exact c3.push n1 s3 | (rw[en]at n1 s3 ⊢;exact c3.push n1 s3)
   | some y=>
    obtain⟨y1,y2,y3⟩:=y;dsimp only;refine _h (_bN (_aF (I:=λx c st'=>c=(none,())/\SB κ a₀ st'/\Chain rk (arrOf st') (pendingOf st').toList 0 lo/\vg rk (arrOf st') lo (lo+n)) (Q:=λc st'=>c=(none,())/\SB κ a₀ st'/\Chain rk (arrOf st') (pendingOf st').toList 0 lo/\vg rk (arrOf st') lo (lo+n)) ?_ (λc st' z=>z) ⟨rfl,B3,c3,s3⟩) ?_)
    ·rintro x' c st4 _ hx' ⟨rfl,B4,c4,s4⟩;refine _h (_ch ?_);by_cases g:(pendingOf st4).size > 1
     ·rw[_g g];obtain⟨⟨z1,z2,z3⟩,ez⟩:∃x,(pendingOf st4)[(pendingOf st4).size-2]? = some x:=⟨_,_dx _ _ (by omega)⟩;rw[ez];dsimp only;refine xc (λ_=>_n ⟨rfl,B4,c4,s4⟩) λ_=>?_;refine _h (z0N V (i:=(pendingOf st4).size-2) B4 c4 l1 (by omega) λst5 B5 c5 _ fr=>?_);rw[_i (by simp)];exact _n ⟨rfl,B5,c5,λi j i1 i2 i3=>by rw[fr i i1,fr j (by omega)];exact s4 i j i1 i2 i3⟩
     ·rw[_i g];exact _n ⟨rfl,B4,c4,s4⟩
    ·rintro c st4 ⟨rfl,B4,c4,s4⟩;dsimp only;refine _h (_aX (_h (_aX (_n ⟨lo+n,by first | rfl | (rw[en];rfl),⟨B4.perm,B4.kind,B4.failed⟩,by omega,by omega,?_⟩))));show Chain rk (arrOf st4) (((pendingOf st4).modify _ _).push (_,_,0)).toList 0 _;rw[_ai,Array.toList_modify];first | (refine Chain.push (Chain.modify ?_ c4) n1 s4;exact λx=>⟨rfl,rfl⟩) | (rw[en]at n1 s4 ⊢;refine Chain.push (Chain.modify ?_ c4) n1 s4;exact λx=>⟨rfl,rfl⟩)
  ·have n1:=m1;have n2:=m2;have c3:=c2;have B3:=B2;have s3:=s2;generalize m=n at n1 n2 s3;generalize st2=st3 at B3 c3 s3;refine _h (_ch ?_);cases e:(pendingOf st3).back? with
   | none=>
    dsimp only;refine _h (_aX (_n ⟨lo+n,by first | rfl | (rw[en];rfl),⟨B3.perm,B3.kind,B3.failed⟩,by omega,by omega,?_⟩));show Chain rk (arrOf st3) ((pendingOf st3).push (_,_,0)).toList 0 _;rw[_ai];first | exact c3.push n1 s3 | (rw[en]at n1 s3 ⊢;exact c3.push n1 s3)
   | some y=>
    obtain⟨y1,y2,y3⟩:=y;dsimp only;refine _h (_bN (_aF (I:=λx c st'=>c=(none,())/\SB κ a₀ st'/\Chain rk (arrOf st') (pendingOf st').toList 0 lo/\vg rk (arrOf st') lo (lo+n)) (Q:=λc st'=>c=(none,())/\SB κ a₀ st'/\Chain rk (arrOf st') (pendingOf st').toList 0 lo/\vg rk (arrOf st') lo (lo+n)) ?_ (λc st' z=>z) ⟨rfl,B3,c3,s3⟩) ?_)
    ·rintro x' c st4 _ hx' ⟨rfl,B4,c4,s4⟩;refine _h (_ch ?_);by_cases g:(pendingOf st4).size > 1
     ·rw[_g g];obtain⟨⟨z1,z2,z3⟩,ez⟩:∃x,(pendingOf st4)[(pendingOf st4).size-2]? = some x:=⟨_,_dx _ _ (by omega)⟩;rw[ez];dsimp only;refine xc (λ_=>_n ⟨rfl,B4,c4,s4⟩) λ_=>?_;refine _h (z0N V (i:=(pendingOf st4).size-2) B4 c4 l1 (by omega) λst5 B5 c5 _ fr=>?_);rw[_i (by simp)];exact _n ⟨rfl,B5,c5,λi j i1 i2 i3=>by rw[fr i i1,fr j (by omega)];exact s4 i j i1 i2 i3⟩
     ·rw[_i g];exact _n ⟨rfl,B4,c4,s4⟩
    ·rintro c st4 ⟨rfl,B4,c4,s4⟩;dsimp only;refine _h (_aX (_h (_aX (_n ⟨lo+n,by first | rfl | (rw[en];rfl),⟨B4.perm,B4.kind,B4.failed⟩,by omega,by omega,?_⟩))));show Chain rk (arrOf st4) (((pendingOf st4).modify _ _).push (_,_,0)).toList 0 _;rw[_ai,Array.toList_modify];first | (refine Chain.push (Chain.modify ?_ c4) n1 s4;exact λx=>⟨rfl,rfl⟩) | (rw[en]at n1 s4 ⊢;refine Chain.push (Chain.modify ?_ c4) n1 s4;exact λx=>⟨rfl,rfl⟩)
 ·rintro c st1 ⟨lo,rfl,B1,l1,l2,ch⟩;have:lo=a₀.size:=by omega
  subst this;exact⟨rfl,B1,ch⟩
 ·rintro c st1 ⟨rfl,B1,ch⟩;dsimp only;refine _h (_bN (_aF (I:=λx c st'=>c=(none,())/\SB κ a₀ st'/\Chain rk (arrOf st') (pendingOf st').toList 0 a₀.size/\(pendingOf st').size<=max 1 (a₀.size-x)) (Q:=λc st'=>c=(none,())/\SB κ a₀ st'/\Chain rk (arrOf st') (pendingOf st').toList 0 a₀.size/\(pendingOf st').size<=1) ?_ ?_ ⟨rfl,B1,ch,?_⟩) ?_)
  ·rintro x c st2 _ hx ⟨rfl,B2,c2,l2⟩;refine _h (_ch ?_);refine xc (λq=>_n ⟨rfl,B2,c2,q⟩) λq=>?_;have q:¬ (pendingOf st2).size<=1:=q;refine _h (z0N V B2 c2 (_d _) ?_ λst3 B3 c3 e3 _=>?_)
   ·refine Nat.lt_of_le_of_lt (Nat.add_le_add_right (show _<=(pendingOf st2).size-2 from ?_) 1) (by omega);exact zcL _ _
   ·rw[_i (by simp)];exact _n ⟨rfl,B3,c3,by omega⟩
  ·rintro c st2 ⟨rfl,B2,c2,l2⟩;exact⟨rfl,B2,c2,by omega⟩
  ·have:=ch.len;simp only[_X]at this;omega
  ·rintro c st2 ⟨rfl,B2,c2,l2⟩;refine _n (h st2 B2 ?_);have l2':(pendingOf st2).toList.length<=1:=by simpa using l2
   generalize (pendingOf st2).toList=l at c2 l2';match l,c2,l2' with
   | [],c2,_=>rw[show 0=a₀.size from c2];exact λi j i1 i2 i3=>by omega | (x,n,p)::[],⟨g1,g2,g3,g4⟩,_=>
    have e:x+n=a₀.size:=g4;rw[e,g1]at g3;exact g3 | _::_::_,_,z=>simp at z
end
end Dt
namespace Dd
open L2 PySem.W Dt
theorem z66{α β:Type}{f:α->β}:∀{ys xs:List β},ys.Perm xs->∀l:List α,l.map f=xs->∃l':List α,l'.Perm l/\l'.map f=ys:=by
 intro ys xs p;induction p with
 | nil=>exact λl e=>⟨l,.refl _,e⟩ | cons x p ih=>
  intro l e;cases l with
  | nil=>simp at e | cons a l=>
   simp only[_t,List.cons.injEq]at e;obtain⟨l',p',e'⟩:=ih l e.2;exact⟨a::l',p'.cons a,by simp[e',e.1]⟩
 | swap x y l0=>
  intro l e;match l,e with
  | a::b::l,e=>
   simp only[_t,List.cons.injEq]at e;exact⟨b::a::l,.swap a b l,by simp[e.1,e.2.1,e.2.2]⟩
 | trans p1 p2 ih1 ih2=>
  intro l e;obtain⟨l2,q2,e2⟩:=ih2 l e;obtain⟨l1,q1,e1⟩:=ih1 l2 e2;exact⟨l1,q1.trans q2,e1⟩
theorem z81{α β:Type}:∀Z:List (α×β),(Z.map Prod.fst).zip (Z.map Prod.fst)=Z.map λz=>(z.1,z.1)
 | []=>rfl | z::Z=>by simp[z81 Z]
structure uB{K:Type}(lt:K->K->Bool):Prop where
 irr:∀a,lt a a=false
 tot:∀a b,a≠b->lt b a=!lt a b
 tr:∀a b c,lt a b=true->lt b c=true->lt a c=true
section
variable {K:Type}{lt:K->K->Bool}(Oo:uB lt)
include Oo
theorem zbh{L:List K}{a b:K}(ha:a∈L):decide (L.countP (λz=>lt z a)<L.countP λz=>lt z b)=lt a b:=by
 have mono:∀{a b:K},lt a b=true->∀L:List K,L.countP (λz=>lt z a)<=L.countP λz=>lt z b:=λ{a b} h L=>List.countP_mono_left λz _ hz=>Oo.tr _ _ _ hz h;cases h:lt a b with
 | true=>
  have:∀L:List K,a∈L->L.countP (λz=>lt z a)<L.countP λz=>lt z b:=by
   intro L;induction L with
   | nil=>intro h;cases h | cons x L ih=>
    intro hm;rw[List.countP_cons,List.countP_cons];rcases _j.mp hm with e | hm
    ·subst e;rw[Oo.irr,h];have:=mono h L;simp;omega
    ·have i:=ih hm;by_cases c:lt x a=true;·rw[_g c,_g (Oo.tr _ _ _ c h)];omega
     ·rw[_i c];omega
  exact _bK (this L ha) | false=>
  refine _ay ?_;by_cases e:a=b;·subst e;omega
  ·have:lt b a=true:=by rw[Oo.tot a b e,h];rfl
   have:=mono this L;omega
end
section
variable {prog:Program}{w:World}{A:Around}{E:Value->Shared->Prop}{s:Shared}
open Classical in
def keyOf{K:Type}(d:K)(Z:List (Value×K))(v:Value):K:=if h:∃z∈Z,z.1=v then (choose h).2 else d
theorem keyOf_eq{K:Type}{d:K}{Z:List (Value×K)}(fn:∀x∈Z,∀y∈Z,x.1=y.1->x.2=y.2){z:Value×K}(hz:z∈Z):keyOf d Z z.1=z.2:=by
 have h:∃x∈Z,x.1=z.1:=⟨z,hz,rfl⟩;rw[keyOf,dif_pos h];exact fn _ h.choose_spec.1 _ hz h.choose_spec.2
def z88(prog:Program)(w:World)(A:Around){K:Type}(lt:K->K->Bool)(κ:SortKind)(Z:List (Value×K))(s:Shared):Prop:= (∀(Q:SortKind->Shared->Prop)(E:Value->Shared->Prop),0<Z.length->Q κ s->wpAny (model prog w) A (keyKind' (Z.map Prod.fst).toArray) Q E s)/\ ∀x∈Z,∀y∈Z,∀(C:Bool->Shared->Prop)(E:Value->Shared->Prop),C (lt x.2 y.2) s->wpAny (model prog w) A (keyLt' κ x.1 y.1) C E s
theorem z7h {K:Type} {lt:K->K->Bool} (Oo:uB lt) (d:K) {κ:SortKind} {Z:List (Value×K)} (fn:∀x∈Z,∀y∈Z,x.1=y.1->x.2=y.2) {a:Addr} {n:Nat} {P:PySem.Fin->Shared->Prop} (ho:s.heap.get? a=some (seqObj "list" (Z.map Prod.fst).toArray n)) (hp:∀s':Shared,(∀b o,b≠a->s.heap.get? b=some o->s'.heap.get? b=some o)->z88 prog w A lt κ Z s') (hline:Z.length<=sizeLine) (h:∀Z':List (Value×K),Z'.Perm Z->(Z'.map Prod.snd).Pairwise (λa b=>lt b a=false)->P (.done (.ret .none)) {s with heap:=sortedHeap s.heap a (Z.map Prod.fst) (Z'.map Prod.fst).toArray}):wpAny (model prog w) A (Builtin.«list.sort» ⟨[.ref a],[]⟩) P E s:=by
 have ha:a<s.heap.objs.size:=_o ho;have hv:(Z.map Prod.fst).length=Z.length:=_m _;generalize hvs:Z.map Prod.fst=vs at *;obtain⟨e1,g1⟩:∃e1,(s.heap.update a (Obj.mapSeq λ_=>(#[]:Array Value))).get? a=some (seqObj "list" #[] e1):=⟨_,get?_update_seq ho λ_=>#[]⟩;have g2:(((s.heap.update a (Obj.mapSeq λ_=>(#[]:Array Value))).push (seqObj "tuple" vs.toArray 0)).push (seqObj "list" #[] 0)).get? a=some (seqObj "list" #[] e1):=_f _ (_f _ g1);have ok:=hp {s with heap:=((s.heap.update a (Obj.mapSeq λ_=>(#[]:Array Value))).push (seqObj "tuple" vs.toArray 0)).push (seqObj "list" #[] 0)} λb o hb e=> _f _ (_f _ (((_bV s.heap a (Obj.mapSeq λ_=>(#[]:Array Value))).2 b hb).trans e));rw[list_sort_plain];refine _a (listItems_at ho rfl (_a (listUpdate_at ho rfl (_a (seqEpoch_at g1 rfl (_a (wpAny_newTuple (_a (wpAny_newList (_az ?_) (_aT _))) (by rw[hv];exact hline))))) (by rw[_k,hv];exact hline) (_aT _))));dsimp only;by_cases big:vs.toArray.size<2
 ·rw[_g big,_g big];have small:vs.length<2:=by simpa using big
  refine _a (_e (_a (_e ?_)));dsimp only;have out:(arrOf (SortSt.mk' general' (vs.toArray.zip vs.toArray) #[] 7 none)).map (·.2)=vs.toArray:=by
   show ((vs.toArray.zip vs.toArray).map (·.2))=_;apply Array.ext_getElem?;intro i;by_cases hi:i<vs.length<;>simp[hi]
  rw[out];refine _a (seqEpoch_at g2 rfl (_a (listUpdate_at g2 rfl ?_ (_aT _) (by rw[_k,hv];exact Nat.le_succ_of_le hline))));simp only[_c7,_G,_ag];have h':=h Z (.refl _) (by match Z,hv with
   | [],_=>exact .nil | [x],_=>exact _b7 _ _ | _::_::_,z=>simp at z;omega);rw[hvs]at h';exact _e h'
 ·rw[_i big,_i big];have b2:2<=vs.length:=by simpa using big
  have ok1:=ok.1;rw[hvs]at ok1;refine _a (ok1 _ _ (by omega) ?_);have mz:∀x∈(pairsOf vs).toList,∃z∈Z,x=(z.1,z.1):=λx hx=>by
   rw[pairsOf_toList]at hx;obtain⟨e,hm⟩:=mem_zip_self hx;rw[<- hvs]at hm;obtain⟨z,hz,ez⟩:=_x.mp hm;exact⟨z,hz,Prod.ext ez.symm (by rw[<- e];exact ez.symm)⟩
  have V:Env prog w A {s with heap:=((s.heap.update a (Obj.mapSeq λ_=>(#[]:Array Value))).push (seqObj "tuple" vs.toArray 0)).push (seqObj "list" #[] 0)} κ (· ∈ (pairsOf vs).toList) (λx=>(Z.map Prod.snd).countP λz=>lt z (keyOf d Z x.1)):=⟨λx y hx hy C E hc=>by
   obtain⟨zx,mx,rfl⟩:=mz x hx;obtain⟨zy,my,rfl⟩:=mz y hy;refine ok.2 zx mx zy my C E ?_;simp only[keyOf_eq fn mx,keyOf_eq fn my]at hc;rw[zbh Oo (List.mem_map_of_mem mx)]at hc;exact hc⟩;refine _a (_E (show wpAny _ _ ((sortRuns').run (SortSt.mk' κ (pairsOf vs) #[] 7 none)) _ _ _ from zc8 V (st:=SortSt.mk' κ (pairsOf vs) #[] 7 none) (Q:=λ_ st'=>SB κ (pairsOf vs) st'/\vg (λx=>(Z.map Prod.snd).countP λz=>lt z (keyOf d Z x.1)) (arrOf st') 0 (pairsOf vs).size) ⟨Array.Perm.refl _,rfl,rfl⟩ rfl λst' B sr=>⟨B,sr⟩) ?_ λ_ _ z=>z);rintro⟨⟨⟩,st'⟩ s' ⟨rfl,B,sr⟩;dsimp only at B sr ⊢;have pl:(arrOf st').toList.Perm (vs.zip vs):=by rw[<- pairsOf_toList];exact _bO.mp B.perm
  have zz:(Z.map λz=>(z.1,z.1))=vs.zip vs:=by rw[<- hvs,z81]
  obtain⟨Z',pz,ez⟩:=z66 pl Z zz;have out:(arrOf st').map (·.2)=(Z'.map Prod.fst).toArray:=by
   apply Array.toList_inj.mp;rw[Array.toList_map,<- ez,_au];rfl
  have pw:(Z'.map Prod.snd).Pairwise λa b=>lt b a=false:=by
   rw[List.pairwise_iff_getElem];intro i j hi hj hij;have hi':i<Z'.length:=by simpa using hi
   have hj':j<Z'.length:=by simpa using hj
   have sz:(arrOf st').size=Z'.length:=by rw[<- _X,<- ez,_m]
   have az:∀k (hk:k<Z'.length),at_ (arrOf st') k=(Z'[k].1,Z'[k].1):=λk hk=>by
    have:(arrOf st').toList[k]? = some (Z'[k].1,Z'[k].1):=by rw[<- ez,_O,_r hk];rfl
    have e2:(arrOf st')[k]? = some (Z'[k].1,Z'[k].1):=by simpa using this
    have e3:=z52 (arr:=arrOf st') (i:=k) (by omega);rw[e2]at e3;exact (_A e3).symm
   have r:=sr i j (_aT _) (_ar hij) (by rw[<- B.size];omega);rw[az i hi',az j hj']at r;have mi:Z'[i]∈Z:=pz.mem_iff.mp (_bx _);have mj:Z'[j]∈Z:=pz.mem_iff.mp (_bx _);simp only[keyOf_eq fn mi,keyOf_eq fn mj]at r;rw[List.getElem_map,List.getElem_map,<- zbh Oo (L:=Z.map Prod.snd) (List.mem_map_of_mem mj)];exact _ay (by omega)
  rw[out,B.failed];refine _a (seqEpoch_at g2 rfl (_a (listUpdate_at g2 rfl ?_ (_aT _) (by rw[_k,_m,pz.length_eq];exact Nat.le_succ_of_le hline))));simp only[_c7,_G,_ag];exact _e (h Z' pz pw)
theorem z7n {K:Type} {lt:K->K->Bool} (Oo:uB lt) (d:K) {κ:SortKind} {Z:List (Value×K)} (fn:∀x∈Z,∀y∈Z,x.1=y.1->x.2=y.2) {l:Addr} {Q:Value->Shared->Prop} (hl:s.heap.IsList l (Z.map Prod.fst).toArray) (hp:∀(A':Around) (s':Shared),A'.units<=A.units+4->(∀b o,s.heap.get? b=some o->s'.heap.get? b=some o)->z88 prog w A' lt κ Z s') (hline:Z.length<=sizeLine) (h:∀Z':List (Value×K),Z'.Perm Z->(Z'.map Prod.snd).Pairwise (λa b=>lt b a=false)->Q (.ref (s.heap.objs.size+1)) {s with heap:=sortedAll s.heap (Z.map Prod.fst) (Z'.map Prod.fst).toArray}): wpAny (model prog w) A (call (.builtin "sorted") [.ref l]) Q E s:=by
 have hv:(Z.map Prod.fst).length=Z.length:=_m _;have hline':(Z.map Prod.fst).toArray.size<=sizeLine:=by simpa using hline
 refine Calls.call_function_entry kind_sorted plain_sorted entry_sorted (args_sorted1 _) ?_;unfold Builtin.«sorted»;refine _a (m:=checkCount "sorted" 1 1 _) (_e (_a (collect_list hl (_a (wpAny_newList ?_ hline')) hline')));have sz:((s.heap.push (seqObj "list" #[] 0)).update s.heap.objs.size (Obj.mapSeq (· ++ (Z.map Prod.fst).toArray))).objs.size=s.heap.objs.size+1:=by rw[Heap.size_update,size_push']
 have g:(((s.heap.push (seqObj "list" #[] 0)).update s.heap.objs.size (Obj.mapSeq (· ++ (Z.map Prod.fst).toArray))).push (seqObj "list" (Z.map Prod.fst).toArray 0)).get? (s.heap.objs.size+1)=some (seqObj "list" (Z.map Prod.fst).toArray 0):=by
  rw[<- sz];exact _s _ rfl
 have keep:∀b o,s.heap.get? b=some o->(((s.heap.push (seqObj "list" #[] 0)).update s.heap.objs.size (Obj.mapSeq (· ++ (Z.map Prod.fst).toArray))).push (seqObj "list" (Z.map Prod.fst).toArray 0)).get? b=some o/\b≠s.heap.objs.size+1:=λb o q=>by
  have lt:b<s.heap.objs.size:=_o q;refine⟨?_,_C (_at lt)⟩;rw[_c8 _ _ _ (by rw[sz];exact _C (_at lt)),Heap.get?_update_ne _ _ _ _ (_C lt),_c8 _ _ _ (_C lt)];exact q
 show wpAny (model prog w) _ _ _ _ {s with heap:=((s.heap.push (seqObj "list" #[] 0)).update s.heap.objs.size (Obj.mapSeq (· ++ (Z.map Prod.fst).toArray))).push (seqObj "list" (Z.map Prod.fst).toArray 0)};rw[sz];exact _a (_az (_ao slot_list_sort ⟨_,g,rfl⟩ entry_list_sort (z7h Oo d fn g (λs' k=>hp _ s' (by simp[Around.in1]) λb o q=>k b o (keep b o q).2 (keep b o q).1) hline λZ' pz pw=>⟨_,rfl,_e ⟨_,rfl,h Z' pz pw⟩⟩) (args_list_sort _)))
end
open Pm
theorem zbi{K:Type}{lt:K->K->Bool}(Oo:uB lt):∀{xs ys:List K},xs.Perm ys->xs.Pairwise (λa b=>lt b a=false)->ys.Pairwise (λa b=>lt b a=false)->xs=ys
 | [],ys,p,_,_=>by rw[List.Perm.nil_eq p] | x::xs,[],p,_,_=>by simp at p | x::xs,y::ys,p,h1,h2=>by
  have hx:x∈y::ys:=p.mem_iff.mp (by simp);have hy:y∈x::xs:=p.mem_iff.mpr (by simp);rw[_bi]at h1 h2;have e:x=y:=by
   rcases _j.mp hx with e | hx;·exact e
   ·rcases _j.mp hy with e | hy;·exact e.symm
    ·refine _R λne=>?_;have a:=h1.1 y hy;have b:=h2.1 x hx;rw[Oo.tot y x λz=>ne z.symm,a]at b;cases b
  subst e;rw[zbi Oo ((List.perm_cons x).mp p) h1.2 h2.2]
noncomputable def z0M{K:Type}(lt:K->K->Bool)(L:List K):List K:=L.mergeSort λa b=>!lt b a
theorem z6B{K:Type}(lt:K->K->Bool)(L:List K):(z0M lt L).Perm L:=List.mergeSort_perm L _
theorem z3c{K:Type}{lt:K->K->Bool}(Oo:uB lt){L L':List K}(p:L'.Perm L)(h:L'.Pairwise λa b=>lt b a=false):z0M lt L=L':=by
 refine zbi Oo ((z6B lt L).trans p.symm) ?_ h;have:=List.pairwise_mergeSort (le:=λa b=>!lt b a) (λa b c h1 h2=>by
  simp only[_a3]at h1 h2 ⊢;by_cases e1:a=b;·rw[e1];exact h2
  by_cases e2:b=c;·rw[<- e2];exact h1
  have q1:lt a b=true:=by rw[Oo.tot b a λz=>e1 z.symm,h1];rfl
  have q2:lt b c=true:=by rw[Oo.tot c b λz=>e2 z.symm,h2];rfl
  have q3:=Oo.tr _ _ _ q1 q2;have ne:a≠c:=λz=>by rw[z,Oo.irr]at q3;cases q3
  rw[Oo.tot a c ne,q3];rfl) (λa b=>by
  by_cases e:a=b;·rw[e,Oo.irr];rfl
  ·rw[Oo.tot a b e];cases lt a b<;>rfl) L;exact this.imp λh=>by simpa using h
theorem z0l:uB lexN:=⟨ua,λ_ _=>z0z,λ_ _ _=>z5d⟩
theorem z2j:∀{vs:List Value}{a b:List Int},vI vs a->vI vs b->a=b
 | _,_,_,.nil,.nil=>rfl | _,_,_,.cons h1,.cons h2=>by rw[z2j h1 h2]
theorem TupAt.one{h:Heap}{v:Value}{p q:List Int}(h1:TupAt h v p)(h2:TupAt h v q):p=q:=by
 obtain⟨a,o,n,us,rfl,g,c,d,i,_⟩:=h1;obtain⟨b,o',n',us',e,g',c',d',i',_⟩:=h2;cases e;rw[g]at g';cases g';rw[d]at d';cases d';exact z2j i i'
theorem z3B:∀{h:Heap}{vs:List Value}{ps:List (List Int)},uU h vs ps->(vs.zip ps).map Prod.fst=vs/\(vs.zip ps).map Prod.snd=ps/\∀z∈vs.zip ps,TupAt h z.1 z.2
 | _,_,_,.nil=>⟨rfl,rfl,λz hz=>by cases hz⟩ | _,_,_,.cons p r=>by
  obtain⟨h1,h2,h3⟩:=z3B r;refine⟨by simp[h1],by simp[h2],λz hz=>?_⟩;rw[List.zip_cons_cons]at hz;rcases _j.mp hz with rfl | hz;·exact p
  ·exact h3 z hz
section
variable {X:Cx}{E:XK}
theorem zcG{prog:Program}{w:World}{A:Around}{s:Shared}{vs:List Value}{ps:List (List Int)}(h:uU s.heap vs ps):z88 prog w A lexN (tuples' true) (vs.zip ps) s:=by
 obtain⟨h1,h2,h3⟩:=z3B h;refine⟨λQ E h0 q=>?_,λx hx y hy C E hc=>zc7 (h3 x hx) (h3 y hy) hc⟩;rw[h1];refine z8z h (by rw[<- h2,_m];exact h0) q
theorem zhg {H:Hp}:∀{ys:List V} {its:List Value} {ps:List (List Int)},xt ys its->Paired (λv ns=>AtN H v ns) ys ps->∃T:List (V×Value×List Int),T.map (λt=>t.2)=its.zip ps/\∀t∈T,xL t.1 t.2.1/\AtN H t.1 t.2.2
 | _,_,_,.nil,.nil=>⟨[],rfl,λt h=>by cases h⟩ | _,_,_,.cons (a:=y) (b:=v) r rs,.cons (b:=p) a ps=>by
  obtain⟨T,h1,h2⟩:=zhg rs ps;refine⟨(y,v,p)::T,by simp[h1],λt ht=>?_⟩;rcases _j.mp ht with rfl | ht;·exact⟨r,a⟩
  ·exact h2 t ht
theorem z4J{H:Hp}:∀{T:List (V×Value×List Int)},(∀t∈T,xL t.1 t.2.1/\AtN H t.1 t.2.2)->xt (T.map Prod.fst) (T.map λt=>t.2.1)/\Paired (λv ns=>AtN H v ns) (T.map Prod.fst) (T.map λt=>t.2.2)
 | [],_=>⟨.nil,.nil⟩ | t::T,h=>by
  obtain⟨h1,h2⟩:=z4J (T:=T) λt ht=>h t (.tail _ ht);exact⟨.cons (h t (.head _)).1 h1,.cons (h t (.head _)).2 h2⟩
def zb8(K:W.Frag):List V->Hp->VK->Prop:=λxs H Q=>∃(l:Addr)(ys:List V)(ps:List (List Int)),xs=[.ref l]/\SqL K H l ys/\Paired (λv ns=>AtN H v ns) ys ps/\(∀n∈ps,n≠[])/\ ∀zs,Paired (λv ns=>AtN H v ns) zs (z0M lexN ps)->∀r,H r=none->Q (.ref r) (upd H r (.lst zs))
theorem z6W:wA X (.builtin "sorted") (zb8 X.K):=by
 intro pins s O H xs us Q I r h;obtain⟨l,ys,ps,rfl,hq,hp,hn,q⟩:=h;obtain⟨u,rfl,rx⟩:=vals1 r;cases rx;obtain⟨its,r',pl,hz⟩:=I.list hq;have hlen:=r'.length;have tu:=z8P I r' hp hn;obtain⟨h1,h2,h3⟩:=z3B tu;obtain⟨T,t1,t2⟩:=zhg r' hp;have lz:(its.zip ps).length=its.length:=by rw[<- _m (f:=Prod.fst) (as:=its.zip ps),h1]
 refine z7n z0l [] (κ:=tuples' true) (Z:=its.zip ps) (λx hx y hy e=>(h3 x hx).one (by rw[e];exact h3 y hy)) (by rw[h1];exact pl.isList) (λA' s' _ k=>zcG (tu.mono k)) (by omega) λZ' pz pw=>?_;rw[h1];obtain⟨T',pt,et⟩:=z66 (f:=λt:V×Value×List Int=>t.2) pz T t1;have eT1:T'.map (λt=>t.2.1)=Z'.map Prod.fst:=by rw[<- et,_au];rfl
 have eT2:T'.map (λt=>t.2.2)=Z'.map Prod.snd:=by rw[<- et,_au];rfl
 obtain⟨b1,b2⟩:=z4J (T:=T') λt ht=>t2 t (pt.mem_iff.mp ht);rw[eT1]at b1;rw[eT2,<- z3c z0l (show (Z'.map Prod.snd).Perm ps from by have:=pz.map Prod.snd;rwa [h2]at this) pw]at b2;obtain⟨c',e⟩:=sortedAll_at s.heap its (Z'.map Prod.fst).toArray;refine⟨.ref (s.heap.objs.size+1),_,I.laid (t':=s.toks) (λb o z=>sortedAll_old z) (Nat.le_succ _) (show wc X.prog X.w _ (sortedAll s.heap its (Z'.map Prod.fst).toArray) _ (.lst (T'.map Prod.fst)) from⟨?_,_,c',b1,e⟩),rfl,q _ b2 _ (I.hok.fresh (Nat.le_succ _))⟩;have l1:T'.length=(its.zip ps).length:=by rw[pt.length_eq,<- _m (f:=λt:V×Value×List Int=>t.2) (as:=T),t1]
 rw[_m,l1,lz];omega
theorem z4k{mg:Gm}{H:Hp}{Y:List Addr}:∀{zs:List V}{ps:List (List Int)},Paired (λv ns=>AtN H v ns) zs ps->zA mg H Y (ps.map λns=>.tup (ns.map D.int)) zs
 | _,_,.nil=>zA.nil | _,_,.cons (b:=p) ⟨b,e,h⟩ r=>by
  simp only[_t,zA];refine⟨_,_,rfl,?_,z4k r⟩;simp only[Den];exact⟨b,_,e,h,qA p⟩
noncomputable def z26(s:Sto)(d:D):Option (List (List Int)):=match listOf s d with
 | some xs=>match z2p xs with
  | some L=>if L.all (λn=>!n.isEmpty)=true then some (z0M lexN L) else none | none=>none
 | none=>none
noncomputable def zfV:Mir:=λds s=>match ds with
 | [d]=>match z26 s d with | some L=>.ok (.loc s.length) (s++[L.map λns=>.tup (ns.map D.int)]) | none=>.no
 | _=>.no
noncomputable def jN:Mir:=λds s=>match ds with
 | [d]=>match z26 s d with | some L=>.ok (.lst (L.map λns=>.tup (ns.map D.int))) s | none=>.no
 | _=>.no
theorem z9A{H:Hp}{Y:List Addr}{s:Sto}{d:D}{v:V}{L:List (List Int)}{Q:VK}(r:Rep (gm X) H Y s)(dn:Den (gm X) H Y d v)(e:z26 s d=some L)(q:∀vs,zA (gm X) H Y (L.map λns=>.tup (ns.map D.int)) vs->∀a,H a=none->Q (.ref a) (upd H a (.lst vs))):zb8 X.K [v] H Q:=by
 unfold z26 at e;split at e
 ·rename_i xs ex;split at e
  ·rename_i L eL;split at e
   ·rename_i hp;cases e;obtain⟨a,ws,rfl,q1,q2⟩:=yd r ex dn;exact⟨a,ws,L,rfl,.inl q1,z4O eL q2,(λn hn z=>by have:=_ab.mp hp n hn;rw[z]at this;cases this),λzs pz=>q zs (z4k pz)⟩
   ·cases e
  ·cases e
 ·cases e
theorem z2S:∃r,wA X (.builtin "sorted") r/\z0g X E r jN:=⟨_,z6W.freeze,λH Y s ds vs Q r hd h=>by
 unfold jN at h;split at h
 ·rename_i d;split at h
  ·rename_i L e;obtain⟨v,rfl,dn⟩:=z2G hd;exact z9A r dn e λvs dv=>js r h dv
  ·exact h.elim
 ·exact h.elim⟩
end
end Dd
namespace L2
section
variable {X:Cx}{pins:List (Addr×Obj)}{O:St}{H:Hp}{s:Shared}{a:Addr}{kvs:List (Key×V)}{k:Key}{v:V}{u r:Value}{A:Around}{E:Value->Shared->Prop}{Q:Unit->Shared->Prop}
theorem z6V(I:Inv X pins O H s)(g:z7i H a kvs)(hl:kvs.length<sizeLine)(ry:xL (kV k) u)(rv:xL v r)(h:∀s',Inv X pins O (upd H a (.dK (z3u kvs k v))) s'->Q () s'):wpAny (model X.prog X.w) A (setItem (.ref a) u r) Q E s:=by
 obtain⟨z,hd,vs,rel,dd⟩:=z2E I g;have hz:vs.length<=sizeLine:=by rw[<- rel.length];exact z
 have hl':(z3u kvs k v).length<=sizeLine:=by have:=z1z kvs k v;omega
 refine wpAny_setItem_pairs (hsz:=hz) (z9m ry) dd λh' dd' hs=>h _ ?_;have he:∃q,h'.get? a=some q:=let ⟨q,_,_,hq,_⟩:=dd';⟨q,hq⟩;exact z7E I (z6u g) hs he (zaR hl' hd (rel.put k rv) dd')
end
section
variable {X:Cx}{o i e f value:Expr}{pos pos' apos cpos:Pos}{td ty tv tx:TE}
theorem zah(ho:PE X o td)(he:PE X e ty)(hf:PE X f tx)(m:M2 X o "get" apos e f cpos):PE X (.Call (.Attribute o "get" apos) [e,f] [] cpos) (λO H Q=>td O H λx H1=>∃a,x=.ref a/\IsD H1 a/\ty O H1 λy H2=>tx O H2 λz H3=>∃kvs k,z7i H3 a kvs/\y=kV k/\Q ((qt kvs k).getD z) H3):=by
 intro pins s O H Q I h;refine wpAny_Call_method m.base m.few m.line _b5 _bl PySem.F.type_dict_get (thn (ho pins s O H _ I h) λu s1 ⟨x,H1,I1,rx,a,ex,d,q1⟩=>?_);subst ex;obtain rfl:u=Value.ref a:=rx;obtain⟨t1,t2,_⟩:=zbd I1 d;refine⟨t1,t2,?_⟩;rw[m.trees];refine _cd rfl (_cv (_bd (thn (he pins s1 O H1 _ I1 q1) λiv s2 ⟨y,H2,I2,ry,q2⟩=> _bd (thn (hf pins s2 O H2 _ I2 q2) λfv s3 ⟨z,H3,I3,rz,kvs,k,g,ey,q3⟩=>_cb ?_))));subst ey;obtain⟨_,hd,vs,rel,dd⟩:=z2E I3 g;exact _du _bl dd.typeIs _ce (_b4 _ _ _) (meets_dict_get_default (xq X.prog X.w) a (z9m ry) hd fv) ⟨_,dd.mapOf,⟨_,H3,I3.tok _,(rel.val k).getD rz,q3⟩⟩
end
end L2
namespace Dd
open L2
noncomputable def z7v(k:Int)(v:D):List D->List D
 | .tup [.int i,.lst ys,.non]::t=>if i=k then .tup [.int i,.lst (ys++[v]),.non]::t else .tup [.int i,.lst ys,.non]::z7v k v t | d::t=>d::z7v k v t | []=>[]
section
variable {mg:Gm}{H H':Hp}{Y:List Addr}{s:Sto}{l:Nat}{a p b:Addr}{xs xs' ys:List D}{kvs kvs':List (Key×V)}{k:Int}{vs:List V}{d:D}{v:V}
theorem yA.dk {u:HO} {j0:Nat} (r:Rep mg H Y s) (ha:Y[l]? = some a) (hx:s[l]? = some xs) (hp:H p=none) (hD:(kvs=[]/\xs=[]/\H a=some (.dT []))\/(kvs≠[]/\H a=some (.dK kvs)/\vH mg H Y xs kvs)) (hu:∀kvs,u≠.dK kvs) (pr:∀(i:Nat) q b,kvs'[i]? = some (q,V.ref b)->(b=p/\i=j0)\/kvs[i]? = some (q,V.ref b)) (ne:kvs'≠[]) (fl:D.flat.flats xs'=true) (hk:∀H',H'=upd (upd H p u) a (.dK kvs')->(∀ys ws,zA mg H Y ys ws->zA mg H' Y ys ws)->(∀q b ws,(q,V.ref b)∈kvs->H b=some (.lst ws)->H' b=some (.lst ws))->(∀b o ws,H b=some (.frz o (.lst ws))->H' b=some (.frz o (.lst ws)))->H' p=some u->vH mg H' Y xs' kvs'): yA mg H Y (upd (upd H p u) a (.dK kvs')) Y (s.set l xs'):=by
 have hai:a∈Y:=_c ha;have pn:p∉Y:=r.notin hp;have hll:l<s.length:=by rw[<- r.len];exact (_b.mp ha).1
 have pa:p≠a:=λz=>pn (z ▸ hai);have ka:∀o,H a=some o->(∀kvs,o≠.dT kvs)->(∀kvs,kvs≠[]->o≠.dK kvs)->False:=λo e n2 n3=>by
  rcases hD with⟨_,_,z⟩ | ⟨n,z,_⟩;·rw[e]at z;exact n2 _ (_A z)
  ·rw[e]at z;exact n3 _ n (_A z)
 have nl:∀ws,H a≠some (.lst ws):=λws e=>ka _ e (by intro _ z;cases z) (by intro _ _ z;cases z);have same:∀{b},b≠a->b≠p->upd (upd H p u) a (.dK kvs') b=H b:=λ{b} h1 h2=>by rw[zf h1,zf h2]
 have np:∀{b o},H b=some o->b≠p:=λ{b o} e z=>by rw[z,hp]at e;cases e
 have atp:upd (upd H p u) a (.dK kvs') p=some u:=by rw[zf pa,zu]
 have ata:upd (upd H p u) a (.dK kvs') a=some (.dK kvs'):=zu;have hk:=hk _ rfl;generalize hH:upd (upd H p u) a (.dK kvs')=H' at same atp ata hk;have kp:Kp H H':=by
  refine⟨λb o q n1 n2 n3=>?_,λb ⟨ws,q⟩=>?_,λb q=>?_⟩
  ·by_cases z:b=a;·subst z;exact (ka o q n2 n3).elim
   ·rw[same z (np q)];exact q
  ·by_cases z:b=a;·subst z;exact (nl ws q).elim
   ·exact⟨ws,by rw[same z (np q)];exact q⟩
  ·by_cases z:b=a;·subst z;exact .inr (.inr (.inl ⟨_,ne,ata⟩))
   ·have:H' b=H b:=same z (by rcases q with⟨_,q⟩ | ⟨_,_,q⟩ | ⟨_,_,q⟩ | ⟨_,_,q⟩<;>exact np q);rw[IsC,this];exact q
 have cases_:∀{a' kvs''},H' a'=some (.dK kvs'')->a'∈Y->(a'=a/\kvs''=kvs')\/(a'≠a/\H a'=some (.dK kvs'')):=λ{a' kvs''} e m=>by
  by_cases z:a'=a;·subst z;rw[ata]at e;cases e;exact .inl ⟨rfl,rfl⟩
  ·rw[same z (λy=>pn (y ▸ m))]at e;exact .inr ⟨z,e⟩
 have dkH:∀{i:Nat} {q b},kvs[i]? = some (q,V.ref b)->H a=some (.dK kvs):=λ{i q b} g=>by
  rcases hD with⟨rfl,_,_⟩ | ⟨_,z,_⟩;·simp at g
  ·exact z
 have old:∀{i:Nat} {q b},kvs[i]? = some (q,V.ref b)->Own H Y b:=λ{i q b} g=>⟨a,hai,kvs,q,dkH g,_c g⟩;have ow:∀b,Own H' Y b->Own H Y b\/b=p:=λb ⟨a',m,kvs'',q,e,hm⟩=>by
  rcases cases_ e m with⟨rfl,rfl⟩ | ⟨_,e⟩
  ·obtain⟨i,hi⟩:=z20 hm;rcases pr i q b hi with⟨z,_⟩ | z;·exact .inr z
   ·exact .inl (old z)
  ·exact .inl ⟨a',m,kvs'',q,e,hm⟩
 have wst:∀b ws,b∉Y->H b=some (.lst ws)->H' b=some (.lst ws):=λb ws hb q=>by rw[same (show b≠a from λz=>hb (z ▸ hai)) (np q)];exact q
 have fzs:∀b o ws,H b=some (.frz o (.lst ws))->H' b=some (.frz o (.lst ws)):=λb o ws q=>kp.k b _ q (by intro _ z;cases z) (by intro _ z;cases z) (by intro _ _ z;cases z);refine⟨⟨by simp[r.len],r.nd,λj zs h=>?_,λzs h=>?_,λb h=>?_,?_⟩,_aW _,λb o h hb _=>?_,λa h1 h2=>absurd h1 h2,λb hb=>(r.mt b hb).imp (λh=>⟨h,kp.l b h⟩) λh=>⟨h,kp.c b h,λ_ _ e=>kp.k b _ e (by intro _ z;cases z) (by intro _ z;cases z) (by intro _ _ z;cases z)⟩,λb h=>?_,λb h=>(ow b h).imp id λz=>by rw[z];exact hp⟩
 ·by_cases hj:l=j
  ·subst hj;rw[_N hll]at h;cases h;exact⟨a,ha,.inr (.inr (.inr (.inl ⟨_,ne,ata,hk (λ_ _ q=>q.gen kp λ_ _ q=>q) (λq b ws hm=>by obtain⟨i,hi⟩:=z20 hm;exact wst b ws (r.own b (old hi))) fzs atp⟩)))⟩
  ·rw[_K hj]at h;obtain⟨b,h1,h2⟩:=r.cell j zs h;refine⟨b,h1,h2.gen kp (λ_ _ q=>q) (same ?_ λz=>pn (z ▸ _c h1)) (_c h1) r.own wst⟩;rintro rfl;exact hj ((_aK r.nd).mp (((_b.mp ha).2).trans ((_b.mp h1).2).symm))
 ·rcases _aB h with h | h;·exact r.flat zs h
  ·rw[h];exact fl
 ·rcases ow b h with h | rfl;·exact r.own b h
  ·exact pn
 ·intro a1 m1 a2 m2 k1 k2 i j q1 q2 b e1 e2 g1 g2;have ot:∀{a' kvs'' q b},a'∈Y->H a'=some (.dK kvs'')->(q,V.ref b)∈kvs''->b≠p:=λ{a' kvs'' q b} m e hm z=>by obtain⟨u,hu⟩:=r.ownAt ⟨a',m,kvs'',q,e,hm⟩;exact np hu z
  have on:∀{i:Nat} {q b},kvs[i]? = some (q,V.ref b)->b≠p:=λ{i q b} g z=>by obtain⟨u,hu⟩:=r.ownAt (old g);exact np hu z
  rcases cases_ e1 m1 with⟨rfl,rfl⟩ | ⟨n1,e1⟩<;>rcases cases_ e2 m2 with⟨rfl,rfl⟩ | ⟨n2,e2⟩
  ·rcases pr i q1 b g1 with⟨rfl,rfl⟩ | g1<;>rcases pr j q2 b g2 with⟨z,rfl⟩ | g2;·exact⟨rfl,rfl⟩
   ·exact absurd rfl (on g2)
   ·exact absurd z (on g1)
   ·exact r.uq _ m1 _ m1 _ _ i j q1 q2 b (dkH g1) (dkH g1) g1 g2
  ·rcases pr i q1 b g1 with⟨rfl,rfl⟩ | g1;·exact absurd rfl (ot m2 e2 (_c g2))
   ·exact r.uq _ m1 _ m2 _ _ i j q1 q2 b (dkH g1) e2 g1 g2
  ·rcases pr j q2 b g2 with⟨rfl,rfl⟩ | g2;·exact absurd rfl (ot m1 e1 (_c g1))
   ·exact r.uq _ m1 _ m2 _ _ i j q1 q2 b e1 (dkH g2) g1 g2
  ·exact r.uq _ m1 _ m2 _ _ i j q1 q2 b e1 e2 g1 g2
 ·rw[same (show b≠a from λz=>hb (z ▸ hai)) (np h)];exact h
 ·rw[<- hH]at h;exact vS (vS h)
end
end Dd
namespace L2
section
variable {X:Cx}{pins:List (Addr×Obj)}{O:St}{H:Hp}{s:Shared}{a:Addr}{kvs:List (Key×V)}{k:Key}{v:V}{u r:Value}{A:Around}{E:Value->Shared->Prop}{Q:Unit->Shared->Prop}
theorem zcI{kvs:List (Key×V)}{vs:List (Key×Value)}(r:KV kvs vs):kvs.map (·.1)=vs.map (·.1):=by
 unfold KV at r;induction r with
 | nil=>rfl | cons h t ih=>rw[_t,_t,ih,h.1]
theorem zcP(I:Inv X pins O H s)(g:z7i H a kvs):(kvs.map (·.1)).Nodup:=by
 obtain⟨z,hd,vs,rel,o,es,ep,_,_,_,_,_,nd⟩:=z2E I g;rw[zcI rel];exact nd
end
section
variable {X:Cx}{o i value:Expr}{pos pos':Pos}{td ty tv:TE}
theorem za0(ho:PE X o td)(hi:PE X i ty)(hv:PE X value tv)(hs:swapsWith value (some (.Subscript o i pos')) pos.line X.env=pure false): PS X (.Assign [.Subscript o i pos'] value pos) (λD O H=>tv O H λv H1=>td O H1 λx H2=>ty O H2 λy H3=>∃a kvs k,x=.ref a/\z7i H3 a kvs/\kvs.length<sizeLine/\y=kV k/\((kvs.map (·.1)).Nodup->D.nx O (upd H3 a (.dK (z3u kvs k v))))):=by
 intro pins s O H D I h;refine wpAny_Assign_Subscript (thn (hv pins s O H _ I h) λr s1 ⟨v,H1,I1,rv,q1⟩=>thn (ho pins s1 O H1 _ I1 q1) λu s2 ⟨x,H2,I2,rx,q2⟩=>thn (hi pins s2 O H2 _ I2 q2) λiv s3 ⟨y,H3,I3,ry,a,kvs,k,ex,g,hl,ey,q3⟩=>?_) hs;subst ex ey;obtain rfl:u=Value.ref a:=rx;exact z6V I3 g hl ry rv λs4 I4=>⟨O,_,I4,q3 (zcP I3 g)⟩
end
end L2
namespace Dd
open L2
section
variable {mg:Gm}{H H':Hp}{Y:List Addr}{s:Sto}{l:Nat}{a p b:Addr}{xs xs' ys:List D}{kvs kvs':List (Key×V)}{k:Int}{vs:List V}{d:D}{v:V}
noncomputable abbrev z9x(k:Key)(v:V)(kvs:List (Key×V)):List (Key×V):=kvs.map λkv=>if kv.1=k then (kv.1,v) else kv
theorem z6f{k:Key}(h:(qt kvs k).isSome=true):z3u kvs k v=z9x k v kvs:=by
 unfold z3u;rw[z2K,h,_g rfl]
theorem z5s{k:Key}:∀{kvs:List (Key×V)},k∉kvs.map (·.1)->z9x k v kvs=kvs
 | [],_=>rfl | q::r,h=>by
  simp only[_t,_j,not_or]at h;simp only[z9x,_t];rw[_i (λz=>h.1 z.symm),show r.map _=r from z5s h.2]
theorem z39{o:Obj}(g:∀ys ws,zA mg H Y ys ws->zA mg H' Y ys ws)(fz:∀b o ws,H b=some (.frz o (.lst ws))->H' b=some (.frz o (.lst ws)))(dn:zA mg H' Y (ys++[d]) vs)(hp:H' p=some (.frz o (.lst vs))): ∀{xs:List D}{kvs:List (Key×V)},vH mg H Y xs kvs->(∀q b ws,(q,V.ref b)∈kvs->H b=some (.lst ws)->H' b=some (.lst ws))->(kvs.map (·.1)).Nodup->xp k xs=some (some (ys,true))->vH mg H' Y (z7v k d xs) (z9x (.inl k) (.ref p) kvs)
 | [],kvs,h,_,_,q=>by simp[xp]at q | x::xs,kvs,h,ho,nd,q=>by
  obtain⟨i,zs,c,ws,r,rfl,h1,h2,h3⟩:=h;simp only[_t,_aR]at nd;rcases h2 with⟨rfl,hc⟩ | ⟨rfl,o',hc⟩
  ·simp only[xp]at q;split at q;·simp at q
   ·rename_i ne;simp only[z7v,z9x,_t];rw[_i (kU ne)];exact⟨i,zs,c,ws,_,rfl,g _ _ h1,.inl ⟨rfl,ho _ _ _ (.head _) hc⟩,z39 g fz dn hp h3 (λq b ws hm=>ho q b ws (.tail _ hm)) nd.2 q⟩
  ·simp only[xp]at q;split at q
   ·rename_i ei;subst ei;cases q;simp only[z7v,z9x,_t];rw[_g trivial,_g trivial,show r.map _=r from z5s nd.1];exact⟨i,ys++[d],p,vs,r,rfl,dn,.inr ⟨rfl,o,hp⟩,h3.imp (λ_ _ _ _ z=>g _ _ z) (λk' b' ws' hm z=>ho k' b' ws' (.tail _ hm) z) fz⟩
   ·rename_i ne;simp only[z7v,z9x,_t];rw[_i ne,_i (kU ne)];exact⟨i,zs,c,ws,_,rfl,g _ _ h1,.inr ⟨rfl,o',fz _ _ _ hc⟩,z39 g fz dn hp h3 (λq b ws hm=>ho q b ws (.tail _ hm)) nd.2 q⟩
theorem z7X{k:Key}:∀{kvs:List (Key×V)}{v0:V},(kvs.map (·.1)).Nodup->qt kvs k=some v0->∃j0,∀(i:Nat) q b,(z9x k (.ref p) kvs)[i]? = some (q,V.ref b)->(b=p/\i=j0)\/kvs[i]? = some (q,V.ref b)
 | [],_,_,h=>by simp[z67]at h | q0::r,v0,nd,h=>by
  simp only[_t,_aR]at nd;by_cases e:q0.1=k
  ·refine⟨0,λi q b hi=>?_⟩;simp only[z9x,_t]at hi;rw[_g e,show r.map _=r from z5s (by rw[<- e];exact nd.1)]at hi;cases i with
   | zero=>simp only[_af,_M,_bI]at hi;injection hi.2 with z;exact .inl ⟨z.symm,rfl⟩ | succ i=>exact .inr (by simpa using hi)
  ·rw[yY e]at h;obtain⟨j0,hj⟩:=z7X nd.2 h;refine⟨j0+1,λi q b hi=>?_⟩;simp only[z9x,_t]at hi;rw[_i e]at hi;cases i with
   | zero=>exact .inr (by simpa using hi) | succ i=>exact (hj i q b (by simpa using hi)).imp (λ⟨z1,z2⟩=>⟨z1,by omega⟩) λz=>by simpa using z
theorem z1x(hd:d.flat=true):∀{xs:List D},D.flat.flats xs=true->D.flat.flats (z7v k d xs)=true
 | [],h=>by simpa[z7v] using h | x::xs,h=>by
  simp only[D.flat.flats,_u]at h;unfold z7v;split
  ·rename_i i ys t e;cases e;split
   ·simp only[D.flat.flats,D.flat,_bG,_bH,_u]at h ⊢;exact⟨yV h.1 (by simp[D.flat.flats,hd]),h.2⟩
   ·simp only[D.flat.flats,_u];exact⟨h.1,z1x hd h.2⟩
  ·rename_i e;cases e;simp only[D.flat.flats,_u];exact⟨h.1,z1x hd h.2⟩
  ·rename_i e;cases e
end
abbrev zga:R2:=λx y H Q=>∃l b xs zs,x=.ref l/\y=.ref b/\Rd H l (.lst xs)/\Rd H b (.lst zs)/\xs.length+zs.length<=sizeLine/\∀p,H p=none->Q (.ref p) (upd H p (.lst (xs++zs)))
abbrev zi4(jd jk:Nat):TE:=λO H Q=>z7u jd O H λx H1=>∃a,x=.ref a/\IsD H1 a/\z7u jk O H1 λy H2=>zfF zfT O H2 λz H3=>∃kvs k,z7i H3 a kvs/\y=kV k/\Q ((qt kvs k).getD z) H3
abbrev ze4(jd jk jx:Nat):TS:=λD O H=>tOp zga (zi4 jd jk) (zfF (zdU (z7u jx) zfT)) O H (z62 λv H1=>z7u jd O H1 λx H2=>z7u jk O H2 λy H3=>∃a kvs k,x=.ref a/\z7i H3 a kvs/\kvs.length<sizeLine/\y=kV k/\((kvs.map (·.1)).Nodup->D.nx O (upd H3 a (.dK (z3u kvs k v)))))
noncomputable def z7k(jd jk jx:Nat):FS:=fun ρ s=>match ρ[jd]?,ρ[jk]?,ρ[jx]? with
 | some (some (.dlo l)),some (some (.int k)),some (some d)=>match s[l]? with
  | some xs=>match xp k xs with
   | some none=>if d.flat=true/\xs.length<cap then .ok (.nx ρ) (s.set l (xs++[.tup [.int k,.lst [d],.non]])) else .no | some (some (ys,true))=>if d.flat=true/\ys.length<cap/\xs.length<cap then .ok (.nx ρ) (s.set l (z7v k d xs)) else .no | _=>.no
  | none=>.no
 | _,_,_=>.no
section
variable {X:Cx}{E:XK}{o1 o2 k1 k2 x:Expr}{pos pos' ap cp lp lp2 bp:Pos}
theorem zci {jd jk jx:Nat} (ho1:PE X o1 (z7u jd)) (ho2:PE X o2 (z7u jd)) (hk1:PE X k1 (z7u jk)) (hk2:PE X k2 (z7u jk)) (hx:PE X x (z7u jx)) (m:M2 X o2 "get" ap k2 (.List [] lp) cp) (hst:starEach [x] X.env=(false,eval x X.env)::starEach [] X.env) (hs:swapsWith (.BinOp (.Call (.Attribute o2 "get" ap) [k2,.List [] lp] [] cp) .Add (.List [x] lp2) bp) (some (.Subscript o1 k1 pos')) pos.line X.env=pure false): RS X E (.Assign [.Subscript o1 k1 pos'] (.BinOp (.Call (.Attribute o2 "get" ap) [k2,.List [] lp] [] cp) .Add (.List [x] lp2) bp) pos) (z7k jd jk jx):= vZ (za0 ho1 hk1 (PE.freeze (zdd z7z (zah ho2 hk2 (z1t uz) m) (z1t (wU hx uz hst)))) hs) λDn O H ⟨Y,ρ,s,r,en,h⟩=>show ze4 jd jk jx Dn O H from by
  unfold z7k at h;split at h
  ·rename_i l k d hjd hjk hjx;obtain⟨vd,sd,dd⟩:=en.at_ jd _ hjd;obtain⟨vk,sk,dk⟩:=en.at_ jk _ hjk;obtain⟨vx,sx,dx⟩:=en.at_ jx _ hjx;cases yj dk;simp only[Den]at dd;obtain⟨a,rfl,e1,ka⟩:=dd;have hai:a∈Y:=_c e1;split at h
   ·rename_i xs ex;have main:∀(kvs:List (Key×V)) (ws0:List V) (ys0 xs':List D),z7i H a kvs->kvs.length<sizeLine->ws0.length+1<=sizeLine-> (∀p0,H p0=none->Rd (upd H p0 (.lst [])) (match (qt kvs (.inl k)).getD (.ref p0) with | .ref b=>b | _=>0) (.lst ws0)/\∃b,(qt kvs (.inl k)).getD (.ref p0)=.ref b)->zA (gm X) H Y ys0 ws0-> ((kvs=[]/\xs=[]/\H a=some (.dT []))\/(kvs≠[]/\H a=some (.dK kvs)/\vH (gm X) H Y xs kvs))-> D.flat.flats xs'=true-> ((kvs.map (·.1)).Nodup->∀p:Addr,∃j0,∀(i:Nat) q b,(z3u kvs (.inl k) (.ref p))[i]? = some (q,V.ref b)->(b=p/\i=j0)\/kvs[i]? = some (q,V.ref b))-> (∀H1 H' p o,(kvs.map (·.1)).Nodup->(∀ys ws,zA (gm X) H1 Y ys ws->zA (gm X) H' Y ys ws)->(∀b o ws,H1 b=some (.frz o (.lst ws))->H' b=some (.frz o (.lst ws)))->(∀q b ws,(q,V.ref b)∈kvs->H1 b=some (.lst ws)->H' b=some (.lst ws))->(kvs=[]/\xs=[]\/vH (gm X) H1 Y xs kvs)->zA (gm X) H1 Y (ys0++[d]) (ws0++[vx])->H' p=some (.frz o (.lst (ws0++[vx])))->vH (gm X) H' Y xs' (z3u kvs (.inl k) (.ref p)))-> okR (gm X) E H Y (FlD (gm X)) (.ok (.nx ρ) (s.set l xs')) (z3e Dn)->ze4 jd jk jx Dn O H:=by
     intro kvs ws0 ys0 xs' hD hl hl1 hgot dy hcell fx hpr hdk h;have notp:∀{q p},yA (gm X) H Y q Y s->q p=none->a≠p:=λst z y=>st.rep.notin z (y ▸ hai);refine⟨_,sd,a,rfl,zeG ka,_,sk,by simp,λp0 hp0=>⟨kvs,.inl k,?_,rfl,?_⟩⟩
     ·have:a≠p0:=λz=>r.notin hp0 (z ▸ hai);exact hD.imp (λq=>by rw[zf this];exact q) λ⟨z,q⟩=>⟨z,by rw[zf this];exact q⟩
     ·have st0:yA (gm X) H Y (upd H p0 (.lst [])) Y s:=yA.layP r hp0;obtain⟨rd,b,eb⟩:=hgot p0 hp0;rw[eb]at rd ⊢;refine⟨vx,sx,(by rw[_aD];decide),λp1 hp1=>?_⟩;have st1:yA (gm X) H Y (upd (upd H p0 (.lst [])) p1 (.lst [vx])) Y s:=st0.trans (yA.layP st0.rep hp1);have rd1:Rd (upd (upd H p0 (.lst [])) p1 (.lst [vx])) b (.lst ws0):=by
       have bp:b≠p1:=λz=>by subst z;rcases rd with q | ⟨_,q⟩<;>rw[hp1]at q<;>cases q
       exact rd.imp (λq=>by rw[zf bp];exact q) λ⟨o,q⟩=>⟨o,by rw[zf bp];exact q⟩
      refine⟨b,p1,ws0,[vx],rfl,rfl,rd1,.inl zu,by simpa using hl1,λp2 hp2=>⟨p2,_,rfl,zu,λo=>?_⟩⟩;rw[z2I];have a0:a≠p0:=λz=>r.notin hp0 (z ▸ hai);have a1:a≠p1:=λz=>st0.rep.notin hp1 (z ▸ hai);have a2:a≠p2:=λz=>st1.rep.notin hp2 (z ▸ hai);have up:∀{q},H a=some q->upd (upd (upd H p0 (.lst [])) p1 (.lst [vx])) p2 (.frz o (.lst (ws0++[vx]))) a=some q:=λ{q} z=>by rw[zf a2,zf a1,zf a0];exact z
      have up1:∀{q},H a=some q->upd (upd H p0 (.lst [])) p1 (.lst [vx]) a=some q:=λ{q} z=>by rw[zf a1,zf a0];exact z
      refine⟨_,sd,_,sk,a,kvs,.inl k,rfl,hD.imp up λ⟨z,q⟩=>⟨z,up q⟩,hl,rfl,λnd=>?_⟩;generalize upd (upd H p0 (.lst [])) p1 (.lst [vx])=H1 at st1 hp2 up1;have cell1:(kvs=[]/\xs=[]/\H1 a=some (.dT []))\/(kvs≠[]/\H1 a=some (.dK kvs)/\vH (gm X) H1 Y xs kvs):=by
       rcases hcell with⟨z1,z2,z3⟩ | ⟨n,z1,z2⟩;·exact .inl ⟨z1,z2,up1 z3⟩
       ·refine .inr ⟨n,up1 z1,?_⟩;rcases st1.rep.dic ex e1 (.inr (.inr (.inl ⟨_,n,up1 z1⟩))) with⟨_,z,_⟩ | ⟨_,_,_,z,_⟩ | ⟨kvs',_,z,q⟩ | ⟨_,_,_,z,_⟩;·rw[up1 z1]at z;cases z
        ·rw[up1 z1]at z;cases z
        ·rw[up1 z1]at z;cases z;exact q
        ·rw[up1 z1]at z;cases z
      obtain⟨j0,hj⟩:=hpr nd p2;have ne:z3u kvs (.inl k) (.ref p2)≠[]:=by
       unfold z3u;split
       ·rename_i q;intro z;rw[_cM]at z;subst z;simp at q
       ·simp
      have st2:=yA.dk (l:=l) (xs':=xs') (u:=.frz o (.lst (ws0++[vx]))) (kvs':=z3u kvs (.inl k) (.ref p2)) (j0:=j0) st1.rep e1 ex hp2 cell1 (by intro _ z;cases z) hj ne fx λH' _ g1 g2 g3 g4=> hdk H1 H' p2 o nd g1 g3 g2 (cell1.imp (λq=>⟨q.1,q.2.1⟩) λq=>q.2.2) ((dy.mono st1).append (zA.one (dx.mono st1))) g4;have stp:=st1.trans st2;exact h (.nx O) _ _ stp (en.mono stp)
    split at h
    ·rename_i hg;split at h
     ·rename_i hc;have key:∃kvs,z7i H a kvs/\kvs.length=xs.length/\qt kvs (.inl k)=none/\((kvs=[]/\xs=[]/\H a=some (.dT []))\/(kvs≠[]/\H a=some (.dK kvs)/\vH (gm X) H Y xs kvs)):=by
       rcases z0E r ex e1 ka hg with⟨rfl,q⟩ | ⟨kvs,n,q1,q2⟩;·exact⟨[],.inr ⟨rfl,q⟩,rfl,rfl,.inl ⟨rfl,rfl,q⟩⟩
       ·exact⟨kvs,.inl q1,jK q2,jL q2 hg,.inr ⟨n,q1,q2⟩⟩
      obtain⟨kvs,hD,hlen,hnone,hcell⟩:=key;refine main kvs [] [] _ hD (by rw[hlen];exact z1w hc.2) (by decide) (λp0 hp0=>?_) zA.nil hcell (yV (r.flat xs (_c ex)) (by simp[D.flat.flats,D.flat,hc.1])) (λ_ p=>⟨kvs.length,λi q b g=>?_⟩) (λH1 H' p o nd g1 g2 g3 g4 g5 g6=>?_) h;·rw[hnone];exact⟨.inl zu,p0,rfl⟩
      ·rw[z2J _ hnone]at g;by_cases hi:i<kvs.length;·rw[_B hi]at g;exact .inr g
       ·rw[_v (by omega)]at g;have:i-kvs.length=0:=by
         have:=(_b.mp g).1;simp at this;omega
        rw[this]at g;simp at g;exact .inl ⟨g.2.symm,by omega⟩
      ·rw[z2J _ hnone];refine z1b ?_ ⟨k,[d],p,[vx],[],rfl,g1 _ _ g5,.inr ⟨rfl,o,g6⟩,rfl⟩;rcases g4 with⟨rfl,rfl⟩ | g4;·rfl
       ·exact g4.imp (λ_ _ _ _ z=>g1 _ _ z) g3 g2
     ·exact h.elim
    ·rename_i ys hg;split at h
     ·rename_i hc;rcases z0E r ex e1 ka hg with⟨rfl,q⟩ | ⟨kvs,n,q1,q2⟩;·simp[xp]at hg
      ·obtain⟨b,ws,g1,g2,_,g4⟩:=qk q2 hg;obtain⟨o',hb⟩:=g4 rfl;refine main kvs ws ys _ (.inl q1) (by rw[jK q2];exact z1w hc.2.2) (by rw[g2.length];exact z1w hc.2.1) (λp0 hp0=>?_) g2 (.inr ⟨n,q1,q2⟩) (z1x hc.1 (r.flat xs (_c ex))) (λnd p=>?_) (λH1 H' p o nd f1 f2 f3 f4 f5 f6=>?_) h
       ·rw[g1];have bp:b≠p0:=λz=>by rw[z,hp0]at hb;cases hb
        exact⟨.inr ⟨o',by rw[_ct];show upd H p0 (.lst []) b=_;rw[zf bp];exact hb⟩,b,rfl⟩
       ·rw[z6f (by rw[g1];rfl)];exact z7X nd g1
       ·rw[z6f (by rw[g1];rfl)];rcases f4 with⟨rfl,_⟩ | f4;·exact absurd rfl n
        ·exact z39 f1 f2 (f1 _ _ f5) f6 f4 f3 nd hg
     ·exact h.elim
    ·exact h.elim
   ·exact h.elim
  ·exact h.elim
theorem zdy(jd jk jx:Nat){d k x:Str}{p1 p2 p3 p4 p5:Pos}(hd:X.N[jd]? = some d:=by rfl)(hk:X.N[jk]? = some k:=by rfl)(hx:X.N[jx]? = some x:=by rfl) (vd:Vis X.env.scope d:=by first | exact Or.inl rfl | exact Or.inr (Or.inl rfl) | exact Or.inr (Or.inr rfl))(vk:Vis X.env.scope k:=by first | exact Or.inl rfl | exact Or.inr (Or.inl rfl) | exact Or.inr (Or.inr rfl))(vx:Vis X.env.scope x:=by first | exact Or.inl rfl | exact Or.inr (Or.inl rfl) | exact Or.inr (Or.inr rfl)) (d1:(d==("__debug__":Str))=false:=by decide)(d2:(d==("__classdict__":Str))=false:=by decide)(k1:(k==("__debug__":Str))=false:=by decide)(k2:(k==("__classdict__":Str))=false:=by decide)(x1:(x==("__debug__":Str))=false:=by decide)(x2:(x==("__classdict__":Str))=false:=by decide) (hbase:attributeBase (.Name d p3) "get" X.env (eval (.Name d p3) X.env)=eval (.Name d p3) X.env:=by rfl) (hfew:((backTo cp (starEach [.Name k p4,.List [] lp] X.env)).all (λx=>!x.1)&&(backToKw cp (keywordEach [] X.env)).all (λx=>x.1.isSome) && decide (([.Name k p4,.List [] lp]:List Expr).length+([]:List Keyword).length+(if ([]:List Keyword).isEmpty then 0 else 1)<30))=true:=by rfl) (hline:(ap.endLine==cp.line)=true:=by rfl)(htr:backTo cp (starEach [.Name k p4,.List [] lp] X.env)=[(false,eval (.Name k p4) X.env),(false,eval (.List [] lp) X.env)]:=by rfl) (hst:starEach [.Name x p5] X.env=(false,eval (.Name x p5) X.env)::starEach [] X.env:=by rfl) (hs:swapsWith (.BinOp (.Call (.Attribute (.Name d p3) "get" ap) [.Name k p4,.List [] lp] [] cp) .Add (.List [.Name x p5] lp2) bp) (some (.Subscript (.Name d p1) (.Name k p2) pos')) pos.line X.env=pure false:=by rfl): RS X E (.Assign [.Subscript (.Name d p1) (.Name k p2) pos'] (.BinOp (.Call (.Attribute (.Name d p3) "get" ap) [.Name k p4,.List [] lp] [] cp) .Add (.List [.Name x p5] lp2) bp) pos) (z7k jd jk jx):= zci (kI hd vd d1 d2) (kI hd vd d1 d2) (kI hk vk k1 k2) (kI hk vk k1 k2) (kI hx vx x1 x2) ⟨hbase,hfew,hline,htr⟩ hst hs
end
end Dd
namespace L2
open Dd
end L2
namespace Dd
open L2
open PySem.W Dt Pm
end Dd
namespace Pg
open L2 Dd
@[simp] noncomputable def xY:FS:=(wq 2 (eOp z47 (ze vj (za (zd 0) zi)) (eC (.int 2))))
@[simp] noncomputable def vz:FS:=(wq 3 zbV)
@[simp] def zY:FS:=(jf (z6Y (zd 3) (ze zW (za (zd 4) (za (eSl (zd 0) xK (qw (zd 2))) zi))) 4))
@[simp] def xZ:FS:=(z4R (zR (ze zO (za (zd 2) (za (z7l (zd 1)) (za (zd 1) zi))))) (yJ 4) zY)
@[simp] noncomputable def xX:FS:=(wq 5 (za1 zi))
@[simp] def zX:FS:=(z8B 5 (zF (zR (jq (zd 3) (z7l (ze zW (za (zd 6) (za (eSl (zd 0) (qw (zd 2)) xK) zi)))))) [some 6,none] (yJ 1) yr (eOp jp (zd 1) (zd 0))))
@[simp] def xW:FS:=(z4R (zR (ze zO (za (eOp jn (ze vj (za (zd 0) zi)) (zd 2)) (za (z7l (zd 1)) (za (zd 1) zi))))) (yJ 6) zX)
@[simp] def wb:FS:=(wN (ze jN (za (zF (zR (zd 5)) [none] (yJ 0) (tOf (eOp dGt (ze yz (za (zd 0) zi)) (eC (.int 0)))) (zd 0)) zi)))
def vX:FS:=(zM xY (zM vz (zM xZ (zM xX (zM xW wb)))))
def zj:Mir:=z4A (Mof ["lot","most","middle","by_sum","first","found","second"] 2 vX)
@[simp] def qS:FS:=(jf (ze wR (za (zd 0) zi)))
@[simp] noncomputable def z1R:FS:=fNo
@[simp] noncomputable def qP:FS:=(fIf (tOf (eOp dGt (ze uD (za (zd 0) zi)) (eC (.int 1000)))) z1R vf)
def jr:FS:=(zM qS qP)
def xI:Mir:=Mof ["lot"] 1 jr
@[simp] def wF:FS:=(jf (ze xI (za (zd 0) zi)))
@[simp] def vB:FS:=(wq 1 (eC (.int 1)))
@[simp] def xS:FS:=(wq 2 (ze zj (za (zd 0) (za (zd 1) zi))))
@[simp] def yZ:FS:=(wq 1 (eOp uN (eC (.int 2)) (zd 1)))
@[simp] def yW:FS:=(wq 2 (ze zj (za (zd 0) (za (zd 1) zi))))
@[simp] def xT:FS:=(qQ (z74 (zd4 (zd 2))) (zM yZ yW))
@[simp] def xQ:FS:=(wq 3 (ze qJ (za (zF (zR (zd 2)) [none] (yJ 0) yr (ze yz (za (zd 0) zi))) zi)))
@[simp] def vD:FS:=(wN (zF (zR (zd 2)) [some 3,none] (yJ 1) (tOf (eOp dEq (ze yz (za (zd 1) zi)) (zd 0))) (zd 1)))
def ww:FS:=(zM wF (zM vB (zM xS (zM xT (zM xQ vD)))))
def zq:Mir:=Mof ["lot","most","found","least"] 1 ww
@[simp] def zP:FS:=(wq 1 (ze zj (za (zd 0) (za (ze qJ (za (zF (zR (ze zq (za (zd 0) zi))) [none] (yJ 0) yr (ze ym (za (zd 0) zi))) zi)) zi))))
@[simp] def yD:FS:=(wq 2 (ze qJ (za (zF (zR (zd 1)) [none] (yJ 0) yr (ze ym (za (zd 0) zi))) zi)))
@[simp] def xO:FS:=(wN (zF (zR (zd 1)) [some 2,none] (yJ 1) (tOf (eOp dEq (ze ym (za (zd 1) zi)) (zd 0))) (zd 1)))
def wz:FS:=(zM zP (zM yD xO))
def zH:Mir:=Mof ["lot","found","least"] 1 wz
@[simp] def zZ:FS:=(wN (ze yz (za (eOp dIx (ze zq (za (zd 0) zi)) (eC (.int 0))) zi)))
def yS:FS:=zZ
def zU:Mir:=Mof ["lot"] 1 yS
@[simp] def yb:FS:=(wN (ze ym (za (eOp dIx (ze zH (za (zd 0) zi)) (eC (.int 0))) zi)))
def yO:FS:=yb
def zJ:Mir:=Mof ["lot"] 1 yO
end Pg
namespace Dd
open L2 PySem.W
section
theorem slot0{t:SetTable}(hp:t.place=#[])(hd:t.dummies=#[])(j:Nat):t.slot j=.empty:=by
 unfold SetTable.slot;rw[hp,hd];rfl
theorem z3R(j0 j:Nat):SetTable.below #[j0] j=if j0<j then 1 else 0:=by
 unfold SetTable.below;show SetTable.below.go #[j0] j 1 0 1=_;unfold SetTable.below.go;simp only[Nat.zero_lt_one,_P,_Q,Nat.reduceDiv];show (if j0<j then SetTable.below.go #[j0] j 0 (0+1) 1 else SetTable.below.go #[j0] j 0 0 0)=_;split<;>rfl
theorem slot1{t:SetTable}{j0:Nat}(hp:t.place=#[j0])(hd:t.dummies=#[])(j:Nat):t.slot j=if j=j0 then .live 0 else .empty:=by
 unfold SetTable.slot;rw[hp,hd,z3R];by_cases h:j0<j
 ·rw[_g h];have ne:¬ j=j0:=by omega
  rw[_i ne];rfl
 ·rw[_i h];by_cases e:j=j0;·subst e;simp
  ·have:¬ j0=j:=λz=>e z.symm;simp[e,this];rfl
theorem go1{t:SetTable}{j0:Nat}(hm:t.mask=7)(hp:t.place=#[j0])(hd:t.dummies=#[])(h:Int):∀(k fuel:Nat)(p:SetTable.Probe),p.dummy=none->p.more=0->p.i<8->p.j=p.i->p.perturb<32 ^ k->k+2<=fuel->∃j,SetTable.probe.go t (λ_=>h+1) h fuel p=some (.empty j none)/\j≠j0
 | k,0,p,_,_,_,_,_,hf=>by omega | k,fuel+1,p,d0,m0,i8,ji,pp,hf=>by
  unfold SetTable.probe.go;rw[slot1 hp hd];by_cases e:p.j=j0
  ·rw[_g e];simp only[];have hne:((h+1)==h)=false:=by rw[_cI];omega
   rw[hne];simp only[_G,_ag];have adv:t.advance p={p with j:=(p.i*5+1+p.perturb / 32) % 8,more:=0,i:=(p.i*5+1+p.perturb / 32) % 8,perturb:=p.perturb / 32}:=by
    unfold SetTable.advance;rw[_i (by omega),hm];have hr:SetTable.runEnd 7 ((p.i*5+1+p.perturb / 32) % 8)-((p.i*5+1+p.perturb / 32) % 8)=0:=by
     unfold SetTable.runEnd;rw[_i (by omega)];omega
    simp only[SetTable.leap];rw[show (7:Nat)+1=8 from rfl,hr]
   rw[adv];cases k with
   | zero=>
    have p0:p.perturb=0:=by simpa using pp
    match fuel,hf with
    | f+1,_=>
     unfold SetTable.probe.go;rw[slot1 hp hd];simp only[];have ne:¬ (p.i*5+1+p.perturb / 32) % 8=j0:=by rw[p0];omega
     rw[_i ne];exact⟨_,by rw[d0],ne⟩
   | succ k=>
    refine go1 hm hp hd h k fuel _ d0 rfl (by simp only[];omega) rfl ?_ (by omega);simp only[];rw[Nat.div_lt_iff_lt_mul (by decide)];rw[_dw]at pp;exact pp
  ·rw[_i e];exact⟨p.j,by rw[d0],e⟩
theorem zcR(h:Int):SetTable.bits h<2 ^ 64:=by
 unfold SetTable.bits;have:=_aH h (show (0:Int)<2 ^ 64 by decide);have:=_a4 h (show (2 ^ 64:Int)≠0 by decide);omega
theorem zgk{t:SetTable}(hp:t.place=#[])(hd:t.dummies=#[])(h:Int):∃j,t.freeSlot h=some (j,false):=by
 unfold SetTable.freeSlot SetTable.probe;show ∃j,(match SetTable.probe.go t (λ_=>h+1) h (10*SetTable.turns t.mask) (t.probeStart h) with | some (.empty j dummy)=>some (dummy.getD j,dummy.isSome) | _=>none)=some (j,false);obtain⟨f,hf⟩:∃f,10*SetTable.turns t.mask=f+1:=⟨10*SetTable.turns t.mask-1,by unfold SetTable.turns;omega⟩;rw[hf];unfold SetTable.probe.go;rw[slot0 hp hd];exact⟨_,rfl⟩
theorem zg8{t:SetTable}{j0:Nat}(hm:t.mask=7)(hp:t.place=#[j0])(hd:t.dummies=#[])(h:Int):∃j,t.freeSlot h=some (j,false)/\j≠j0:=by
 obtain⟨j,e,ne⟩:=go1 hm hp hd h 13 (10*SetTable.turns t.mask) (t.probeStart h) rfl (by unfold SetTable.probeStart SetTable.runEnd;rw[hm];simp only[];split<;>omega) (by unfold SetTable.probeStart;rw[hm];exact Nat.mod_lt _ (by decide)) rfl (_w (zcR h) (by decide)) (by rw[hm];decide);refine⟨j,?_,ne⟩;unfold SetTable.freeSlot SetTable.probe;rw[e];rfl
inductive Two:List Int->Array (Int×Value)->Array Nat->Prop | nil:Two [] #[] #[] | one (x:Int)(h:Int)(t:Tok)(j:Nat):Two [x] #[(h,.int x t)] #[j] | up (x y:Int)(h h':Int)(t t':Tok)(j j':Nat)(hj:j<j')(hxy:x≠y):Two [x,y] #[(h,.int x t),(h',.int y t')] #[j,j'] | dn (x y:Int)(h h':Int)(t t':Tok)(j j':Nat)(hj:j<j')(hxy:x≠y):Two [x,y] #[(h',.int y t'),(h,.int x t)] #[j,j']
theorem Two.sz{ns es pl}(h:Two ns es pl):es.size=ns.length/\pl.size=es.size/\ns.length<=2:=by cases h<;>exact⟨rfl,rfl,by simp⟩
def z9r(prog:Program)(w:World)(ns:List Int)(o:Obj):Prop:=o.ExactSet/\∃es ep t,o.data=.set es ep t/\t.mask=7/\t.dummies=#[]/\t.led=(!w.params.followText "set-order")/\t.plain=true/\Two ns es t.place/\ElemsOf (intKind prog w) es.toList
theorem z5U{t:SetTable}{ns:List Int}{es:Array (Int×Value)}(hm:t.mask=7)(hd:t.dummies=#[])(h:Two ns es t.place):t.fits es.size=true:=by
 obtain⟨h1,h2,h3⟩:=h.sz;unfold SetTable.fits SetTable.fill;rw[hm,hd,h2];simp;omega
theorem zi1{t:SetTable}(hm:t.mask=7)(hp:t.place=#[])(hd:t.dummies=#[])(h:Int)(x:Value):∃j,layNew t #[] h x=(#[(h,x)],{t with place:=#[j]},false,false):=by
 obtain⟨j,e⟩:=zgk hp hd h;refine⟨j,?_⟩;unfold layNew;rw[e];obtain⟨mk,pl,du,fi,le,mo,pn⟩:=t;simp only at hm hp hd;subst hm hp hd;rfl
theorem zhB{t:SetTable}{j0:Nat}{e0:Int×Value}(hm:t.mask=7)(hp:t.place=#[j0])(hd:t.dummies=#[])(h:Int)(x:Value):∃j,(j0<j/\layNew t #[e0] h x=(#[e0,(h,x)],{t with place:=#[j0,j]},false,false))\/(j<j0/\layNew t #[e0] h x=(#[(h,x),e0],{t with place:=#[j,j0]},false,false)):=by
 obtain⟨j,e,ne⟩:=zg8 hm hp hd h;refine⟨j,?_⟩;obtain⟨mk,pl,du,fi,le,mo,pn⟩:=t;simp only at hm hp hd;subst hm hp hd;have put_:∀p,SetTable.below #[j0] j=p->(SetTable.mk 7 #[j0] #[] fi le mo pn).put j=(SetTable.mk 7 (SetTable.insertAt #[j0] p j) #[] fi le mo pn,p):=λp hp=>by
  unfold SetTable.put;rw[show (SetTable.mk 7 #[j0] #[] fi le mo pn).place=#[j0] from rfl,hp];rfl
 by_cases lt:j0<j
 ·refine .inl ⟨lt,?_⟩;unfold layNew;rw[e];simp only[put_ 1 (by rw[z3R,_g lt])];rfl
 ·refine .inr ⟨by omega,?_⟩;unfold layNew;rw[e];simp only[put_ 0 (by rw[z3R,_i lt])];rfl
end
section
variable {prog:Program}{w:World}{A:Around}{E:Value->Shared->Prop}{s:Shared}{a:Addr}{o:Obj}{ns:List Int}
noncomputable def addI(ns:List Int)(k:Int):List Int:=if k∈ns then ns else ns++[k]
theorem two_find{es:Array (Int×Value)}{pl:Array Nat}{k:Int}(h:Two ns es pl):(k∈ns->∃j,es.toList.findIdx? (λe=>(intKind prog w).is k e.2)=some j)/\(k∉ns->es.toList.findIdx? (λe=>(intKind prog w).is k e.2)=none):=by
 have his:∀x t,(intKind prog w).is k (.int x t)=decide (k=x):=λx t=>KeyKind.is_eq_decide (intKind_is prog w x t) k;cases h with
 | nil=>exact⟨(λh=>by cases h),λ_=>rfl⟩ | one x h t j=>
  refine⟨λhk=>?_,λhk=>?_⟩;·simp at hk;subst hk;exact⟨0,by simp[his]⟩
  ·simp at hk;simp[his,hk] | up x y h h' t t' j j' hj hxy=>
  refine⟨λhk=>?_,λhk=>?_⟩
  ·simp at hk;rcases hk with rfl | rfl;·exact⟨0,by simp[his,_b1]⟩
   ·exact⟨1,by simp[his,hxy.symm,_b1]⟩
  ·simp at hk;simp[his,hk.1,hk.2] | dn x y h h' t t' j j' hj hxy=>
  refine⟨λhk=>?_,λhk=>?_⟩
  ·simp at hk;rcases hk with rfl | rfl;·exact⟨1,by simp[his,hxy,_b1]⟩
   ·exact⟨0,by simp[his,_b1]⟩
  ·simp at hk;simp[his,hk.1,hk.2]
theorem zat {k:Int} {tk:Tok} {Q:Bool->Shared->Prop} (ho:s.heap.get? a=some o) (hI:z9r prog w ns o) (hl:ns.length<=1) (h:∀h' o' b,Heap.SameBut a s.heap h'->h'.get? a=some o'->z9r prog w (addI ns k) o'->Q b {s with heap:=h'}): wpAny (model prog w) A (setAddHashed a (.int k tk) ((intKind prog w).hash k)) Q E s:=by
 obtain⟨hex,es,ep,t,hd,hm,hdu,hle,hpl,two,hel⟩:=hI;have hf:=z5U hm hdu two;have hkey:=intKind_is prog w k tk;have hb:es.size<scanBound:=by have:=two.sz;unfold scanBound;omega
 unfold setAddHashed setAddHashedIn;refine _az (_a (_bJ ho hd hf ?_));dsimp only;rw[byScan_of rfl hb hel];simp only[↓reduceIte];unfold setAddByScan;refine _a ?_;refine _a (_aG ?_);refine _a (wpAny_setScan_of hkey ho hd hf hel ?_);by_cases hk:k∈ns
 ·obtain⟨j,hj⟩:=(two_find (prog:=prog) (w:=w) two).1 hk;rw[hj];refine _e (_e ?_);have:=h s.heap o false (Heap.SameBut.refl a s.heap) ho (by unfold addI;rw[_g hk];exact⟨hex,es,ep,t,hd,hm,hdu,hle,hpl,two,hel⟩);exact this
 ·rw[(two_find (prog:=prog) (w:=w) two).2 hk];dsimp only;have lay:∃es' pl' ,layNew t es ((intKind prog w).hash k) (.int k tk)=(es',{t with place:=pl'},false,false)/\Two (ns++[k]) es' pl':=by
   generalize hp:t.place=pl at two;cases two with
   | nil=>
    obtain⟨j,e⟩:=zi1 hm hp hdu ((intKind prog w).hash k) (.int k tk);exact⟨_,_,e,.one k _ tk j⟩ | one x hx tx j0=>
    obtain⟨j,⟨lt,e⟩ | ⟨lt,e⟩⟩:=zhB (e0:=(hx,.int x tx)) hm hp hdu ((intKind prog w).hash k) (.int k tk);·exact⟨_,_,e,.up x k _ _ tx tk j0 j lt (λz=>hk (by simp[z]))⟩
    ·exact⟨_,_,e,.dn x k _ _ tx tk j j0 lt (λz=>hk (by simp[z]))⟩ | up=>simp at hl | dn=>simp at hl
  have hperm:=layNew_perm t es ((intKind prog w).hash k) (.int k tk);obtain⟨es',pl',e,two'⟩:=lay;rw[e]at hperm ⊢;dsimp only at hperm ⊢;rw[_ai]at hperm;have hel1:ElemsOf (intKind prog w) es'.toList:=(hel.push hkey rfl).perm hperm;refine _a (_e ?_);rw[hpl];simp only[_P];refine _a ?_;rw[hashByValue_scannable 8 rfl];refine _e ?_;have pk:plainKind (.int k tk)=true:=rfl;rw[pk];simp only[_P];have sz:=two'.sz;refine _a (wpAny_storeSet_of ho hd ?_ (by rw[_b2];omega));have tf:({t with place:=pl',plain:=true}:SetTable).tooFull=false:=by
   unfold SetTable.tooFull SetTable.fill;simp only[hm,hdu];have:pl'.size<=2:=by omega
   simp;omega
  rw[tf];simp only[Bool.not_false,Bool.and_false,_G,_ag];refine _e (_e ?_);refine h _ _ true (_bV s.heap a _) (_bk _ ho (by rw[putSet_of es' _ hd];rfl)) ?_;rw[putSet_of es' _ hd];unfold addI;rw[_i hk];exact⟨hex,es',ep+1,{t with place:=pl',plain:=true},rfl,hm,hdu,hle,rfl,two',hel1⟩
end
end Dd
set_option maxHeartbeats 3200000
namespace Dd
open L2 PySem.W
section
variable {prog:Program}{w:World}{A:Around}{E:Value->Shared->Prop}{s:Shared}
noncomputable abbrev z93(w:World):Obj:={cls:=.type "set",dict:=none,data:=.set #[] 0 (.fresh 0 0 (!w.params.followText "set-order"))}
theorem zdT:z9r prog w [] (z93 w):=⟨⟨rfl,rfl,rfl⟩,#[],0,_,rfl,rfl,rfl,rfl,rfl,.nil,λe he=>by simp at he⟩
theorem zcJ (x:Value) {Z:Value->Shared->Prop} (q:Z (.ref s.heap.objs.size) {s with heap:=s.heap.push (z93 w)}):codeAny (model prog w) A (.call (.builtin "set.__new__") ⟨[.type "set",x],[]⟩) (wants Z E) s:=by
 have e0:checkBuiltinCall "set.__new__" ⟨[.type "set",x],[]⟩=pure ():=PySem.F.newCall_set_1 x;refine codeAny_of_tree (_a (_cw e0 (_e ⟨plainId_quiet PySem.F.plain_set_new _,_bE PySem.F.entry_set_new ?_⟩)));rw[_bs PySem.F.plain_set_new _];have e1:=PySem.sub_set_self;cases s;unfold Builtin.«set.__new__» Builtin.Frozenset.newClass;wp_walk;refine _bb (_e ?_);simp only[newObj];exact _a (wpAny_alloc (_e (_e q)))
theorem z8G{R:Result->Shared->Prop}{I S:Addr}{fp wr:List Addr}{G:Array GenState->Array GenState->Prop}{n:Nat}{P:Nat->Value->Prop}{St:Nat->Shared->Prop}(W:WalksS prog w A.in1 I fp wr G n P St)(hS:S∉fp)(val:Nat->Int)(hval:∀i v,P i v->∃t,v=.int (val i) t)(h2:n<=2): ∀(k i:Nat)(s:Shared)(o:Obj)(ns:List Int),i+k=n->ns.length<=i->St i s->s.heap.get? S=some o->z9r prog w ns o-> (∀s' o',Moved (S::wr) G s s'->s'.heap.get? S=some o'->z9r prog w ((List.range' i k).foldl (λl j=>addI l (val j)) ns) o'->R (.ok (.ret .none)) s')->codeAny (model prog w) A (.builtin "set.update.loop" ⟨[.ref S,.ref I],[]⟩) R s
 | 0,i,s,o,ns,hn,hl,st,ho,hI,q=>by
  refine _bE F.entry_set_update_loop ?_;rw[_bs _b8 _];refine _a (show wpAny _ A.in1 (pyNext (.ref I)) _ _ s from W.done s _ _ (by rw[<- hn];exact st) λs' mv=>?_);exact _e (q s' o (mv.mono λb hb=>.tail _ hb) (mv.heap S _ (λz=>hS (W.sub _ z)) ho) hI) | k+1,i,s,o,ns,hn,hl,st,ho,hI,q=>by
  refine _bE F.entry_set_update_loop ?_;rw[_bs _b8 _];refine _a (show wpAny _ A.in1 (pyNext (.ref I)) _ _ s from W.item i s _ _ (by omega) st λv s1 pv st1 mv=>?_);obtain⟨t,rfl⟩:=hval i v pv;refine _a (_az (_az (_a ((intKind prog w).pyHash (k:=val i) (intKind_is _ _ _ _) ?_))));refine zat (s:={s1 with toks:=s1.toks+1}) (mv.heap S _ (λz=>hS (W.sub _ z)) ho) hI (by omega) λh' o' b sb ho' hI'=>?_;refine _e ⟨plainId_quiet _b8 _,z8G W hS val hval h2 k (i+1) _ o' (addI ns (val i)) (by omega) ?_ (W.frame _ s1 _ _ st1 (Nat.le_succ _) λc hc u e=>?_) ho' hI' λs2 o2 mv2 ho2 hI2=>?_⟩
  ·unfold addI;split;·omega
   ·simp;omega
  ·exact (sb.2 c λz=>hS (z ▸ hc)).trans e
  ·refine q s2 o2 (Moved.trans W.gtrans ((mv.mono λb hb=>.tail _ hb).then_heap (Nat.le_succ _) λc u hc e=>?_) mv2) ho2 hI2;exact (sb.2 c λz=>hc (z ▸ .head _)).trans e
noncomputable def dedup(ns:List Int):List Int:=ns.foldl addI []
theorem zaC:∀(ns:List Int)(l:List Int),(List.range' 0 ns.length).foldl (λl j=>addI l (ns.getD j 0)) l=ns.foldl addI l:=by
 have key:∀(ms ns l:List Int),(List.range' ms.length ns.length).foldl (λl j=>addI l ((ms++ns).getD j 0)) l=ns.foldl addI l:=by
  intro ms ns;induction ns generalizing ms with
  | nil=>intro l;rfl | cons x ns ih=>
   intro l;rw[_p,List.range'_succ,_aE,_aE];have e:(ms++x::ns).getD ms.length 0=x:=by simp
   rw[e];have:=ih (ms++[x]) (addI l x);rw[_q,_aD,_z,List.singleton_append]at this;exact this
 exact λns l=>key [] ns l
theorem z7B {l:Addr} {items:Array Value} {ns:List Int} {Q:Value->Shared->Prop} (hh:A.handled=none) (hl:s.heap.IsList l items) (hi:IntsAre items.toList ns) (h2:items.size<=2) (q:∀(h':Heap) (tk:Nat) (o:Obj),h'.get? s.heap.objs.size=some o->z9r prog w (dedup ns) o->(∀b u,s.heap.get? b=some u->h'.get? b=some u)->Q (.ref s.heap.objs.size) {s with heap:=h',toks:=tk}): wpAny (model prog w) A (call (.type "set") [.ref l]) Q E s:=by
 have lenI:items.size=ns.length:=by have:=hi.length;simpa using this
 obtain⟨c,tl,hmro⟩:=_aI.mro;have a1:=_aI.made;have a2:=_aI.sub;have a3:=_aI.notType;have a4:=_aI.canCreate;have a5:=PySem.F.typeCall_set_1 (.ref l);refine wpAny_call (codeAny_of_tree (show wpAny _ _ (callAny (.type "set") _) _ _ _ from _e ⟨Code.quiet_builtin _ (by decide +kernel),_bE PySem.F.entry_type_call ?_⟩));rw[Around.under_plain (weight_type_call_type "set" [.ref l] []) rfl];repeat (any_goals (first | assumption | wp_step))
 refine _bS (zcJ (.ref l) (E:=E) (Z:=λv s1=>v=.ref s.heap.objs.size/\s1={s with heap:=s.heap.push (z93 w)}) ⟨rfl,rfl⟩) λr s1 hr=>?_;cases r with
 | error e=>exact hr | ok fl=>cases fl with
  | ret obj=>
   obtain⟨rfl,rfl⟩:=hr;have gS:(s.heap.push (z93 w)).get? s.heap.objs.size=some (z93 w):=_s _ rfl;have hT:Shared.TypeIs {s with heap:=s.heap.push (z93 w)} (.ref s.heap.objs.size) "set":=⟨_,gS,rfl⟩;have a6:=_aI.init.lookup;have a7:=_aI.init.bind (.ref s.heap.objs.size);repeat (any_goals (first | assumption | wp_step))
   refine _bS (codeAny_call_builtin (R:=wants (λr s2=>r=.none/\∃h' tk o,s2={s with heap:=h',toks:=tk}/\h'.get? s.heap.objs.size=some o/\z9r prog w (dedup ns) o/\∀b u,s.heap.get? b=some u->h'.get? b=some u) E) _aI.init.plain PySem.F.entry_set_init (check_set_init_1 hT ?_)) λr2 s2 hr2=>?_
   ·have ltl:l<s.heap.objs.size:=by obtain⟨ol,hol,_⟩:=hl;exact _o hol
    have hl1:(s.heap.push (z93 w)).IsList l items:=hl.push _;obtain⟨⟨oc,od,oda,osl⟩,hol,hcl,nl,hdl⟩:=hl;simp only at hcl hdl;subst hcl hdl;have hol':(s.heap.push (z93 w)).get? l=some {cls:=.type "list",dict:=od,data:=.seq items nl,slots:=osl}:=_f _ hol;have b1:=PySem.F.sub_list_set;have b2:=PySem.F.sub_list_frozenset;have b3:(Value.type "list"==Value.type "dict")=false:=by decide
    unfold Builtin.«set.__init__» noKeywords Builtin.Frozenset.updateFrom;generalize hPI:pyIter=PI;wp_walk;subst hPI;refine _c5 hl1 (_a (wpAny_runValue ?_));have szp:(s.heap.push (z93 w)).objs.size=s.heap.objs.size+1:=_aw _ _;have neI:l≠(s.heap.push (z93 w)).objs.size:=by rw[szp];exact _C (_at ltl)
    refine z8G ((Walks.list (show A.in1.in1.in1.handled=none by simp[hh]) _ l neI items).toS) (S:=s.heap.objs.size) (by rw[szp];simp only[_j,_an,_bQ,not_or];exact⟨_C (_ba _),_ca ltl⟩) (λi=>ns.getD i 0) (λi v hv=>IntsAre.int_at hi i v (by rw[Array.getElem?_toList];exact hv)) h2 items.size 0 _ (z93 w) [] (by omega) (by simp) ⟨⟨_,_s _ rfl,rfl,rfl⟩,hl1.push _⟩ (_f _ gS) zdT λs3 o3 mv ho3 hI3=>?_;rw[lenI,zaC]at hI3;rw[Moved.eq_with mv];refine _e (_e ⟨rfl,_,_,o3,rfl,ho3,hI3,λb u e=>?_⟩);have lb:=_o e;exact mv.heap b u (by rw[szp];simp only[_j,_an,_bQ,not_or];exact⟨_C lb,_C (_at lb)⟩) (_f _ (_f _ e))
   ·cases r2 with
    | error e=>exact hr2 | ok fl2=>cases fl2 with
     | ret r=>
      obtain⟨rfl,h',tk,o,rfl,ho,hI,k⟩:=hr2;repeat (any_goals (first | assumption | wp_step))
      exact q _ _ _ ho hI k | _=>exact hr2.elim
  | _=>exact hr.elim
end
section
variable {prog:Program}{w:World}{A:Around}{E:Value->Shared->Prop}{s:Shared}{a:Addr}{o:Obj}{ns:List Int}
theorem zgr{α:Type}(f:Nat->Nat)(x:α):pickOrder f #[x]=#[x]:=by
 show pickOrder.go f 1 0 [x] #[]=_;unfold pickOrder.go;simp only[_aD,Nat.mod_one,_af];rfl
theorem zdq{α:Type}(f:Nat->Nat)(x y:α):pickOrder f #[x,y]=#[x,y]\/pickOrder f #[x,y]=#[y,x]:=by
 have e:pickOrder f #[x,y]=pickOrder.go f 2 0 [x,y] #[]:=rfl;rw[e];unfold pickOrder.go;have h:f 0 % [x,y].length=0\/f 0 % [x,y].length=1:=by simp only[_p,_J];omega
 rcases h with h | h<;>rw[h]
 ·left;show pickOrder.go f 1 1 [y] #[x]=_;unfold pickOrder.go;simp only[_aD,Nat.mod_one,_af];rfl
 ·right;show pickOrder.go f 1 1 [x] #[y]=_;unfold pickOrder.go;simp only[_aD,Nat.mod_one,_af];rfl
structure zdL(prog:Program)(w:World)(A:Around)(a:Addr)(o:Obj)(ep:Nat)(os:List Value)(sl:Nat->Nat):Prop where
 z:sl 0=0
 nx:∀(i:Nat)(s:Shared)(Q:Option (Value×Nat)->Shared->Prop)(E:Value->Shared->Prop),i<=os.length->s.heap.get? a=some o->Q ((os[i]?).map λv=>(v,sl (i+1))) s->wpAny (model prog w) A (setNext a (sl i) i ep) Q E s
theorem zbr{j j':Nat}(h:j<j'):SetTable.below #[j,j'] 0=0/\SetTable.below #[j,j'] (j+1)=1/\SetTable.below #[j,j'] (j'+1)=2:=by
 have g:∀k,SetTable.below #[j,j'] k=if j'<k then 2 else if j<k then 1 else 0:=λk=>by
  show SetTable.below.go #[j,j'] k 2 0 2=_;unfold SetTable.below.go;show (if j'<k then SetTable.below.go #[j,j'] k 1 2 2 else SetTable.below.go #[j,j'] k 1 0 1)=_;split;·rfl
  ·unfold SetTable.below.go;show (if j<k then SetTable.below.go #[j,j'] k 0 1 1 else SetTable.below.go #[j,j'] k 0 0 0)=_;split<;>rfl
 refine⟨?_,?_,?_⟩;·rw[g,_i (by omega),_i (by omega)]
 ·rw[g,_i (by omega),_g (by omega)]
 ·rw[g,_g (by omega)]
theorem zby(hI:z9r prog w ns o):∃ep os sl,(∃es t,o.data=.set es ep t/\t.fits es.size=true/\es.size=os.length/\t.plain=true)/\o.ExactSet/\(∀A:Around,zdL prog w A a o ep os sl)/\∃ms,IntsAre os ms/\ms.Perm ns:=by
 obtain⟨hex,es,ep,t,hd,hm,hdu,hle,hpl,two,hel⟩:=hI;have hf:=z5U hm hdu two;have text:w.params.followText "set-order"=true->∀(po:Array (Int×Value)),pickOrder (w.params.setOrder a ep) es=po->∀A:Around,zdL prog w A a o ep (po.toList.map (·.2)) (λ_=>0):=λhb po hpo A=>⟨rfl,λi s Q E hi ho hq=>by
  unfold setNext;refine _a (_bJ ho hd hf ?_);refine _a (show wpAny _ _ setsByText _ _ _ from _a (_bb (_e ?_)));dsimp only;rw[show (model prog w).w.params.followText "set-order"=true from hb];simp only[_P,_c7,_G,_ag];refine _a ?_;unfold setWalk;refine _a (_bJ ho hd hf ?_);refine _a (show wpAny _ _ setsByText _ _ _ from _a (_bb (_e ?_)));dsimp only;rw[show (model prog w).w.params.followText "set-order"=true from hb];simp only[_P];refine _a (_bb (_e ?_));refine _e ?_;have:(pickOrder ((model prog w).w.params.setOrder a ep) es)=po:=hpo;dsimp only;rw[this];simpa[_ad] using hq⟩;have slots:w.params.followText "set-order"=false->∀sl:Nat->Nat,sl 0=0->(∀i,i<=es.size->SetTable.below t.place (sl i)=i/\∀j,t.place[i]? = some j->sl (i+1)=j+1)->∀A:Around,zdL prog w A a o ep (es.toList.map (·.2)) sl:=λhb sl h0 h A=>⟨h0,λi s Q E hi ho hq=>by
  obtain⟨h1,h2⟩:=h i (by simpa using hi);unfold setNext;refine _a (_bJ ho hd hf ?_);refine _a (show wpAny _ _ setsByText _ _ _ from _a (_bb (_e ?_)));dsimp only;rw[show (model prog w).w.params.followText "set-order"=false from hb];simp only[_G,_ag];show wpAny _ _ (if (!t.plain&&decide (es.size > 1))=true then _ else _) _ _ _;rw[hpl];simp only[_bX,_cS,_G,_ag];refine _a (show wpAny _ _ (if (!t.led&&!es.isEmpty)=true then _ else pure ()) _ _ _ from ?_);rw[hle,hb];simp only[Bool.not_false,_bX,_cS,_G,_ag];refine _e (_e ?_);rw[h1];have hsz:t.place.size=es.size:=two.sz.2.1;by_cases hi2:i<es.size
  ·have e1:es[i]? = some es[i]:=by simp[hi2]
   have e2:t.place[i]? = some t.place[i]:=by simp[hsz,hi2]
   rw[e1,e2];have e3:(es.toList.map (·.2))[i]? = some es[i].2:=by simp[hi2]
   rw[e3]at hq;rw[h2 _ e2]at hq;exact hq
  ·have e1:es[i]? = none:=by simp;omega
   rw[e1];have e3:(es.toList.map (·.2))[i]? = none:=by simp;omega
   rw[e3]at hq;exact hq⟩;have fit:=two.sz;cases hb:w.params.followText "set-order" with
 | true=>
  have tx:=text hb;generalize t.place=pl at two;cases two with
  | nil=>exact⟨ep,_,_,⟨_,t,hd,hf,rfl,hpl⟩,hex,tx #[] rfl,[],.nil,.refl _⟩ | one x h tk j=>exact⟨ep,_,_,⟨_,t,hd,hf,rfl,hpl⟩,hex,tx _ (zgr _ _),[x],.cons _ _ .nil,.refl _⟩ | up x y h h' tk tk' j j' hj hxy=>
   rcases zdq (w.params.setOrder a ep) (h,Value.int x tk) (h',Value.int y tk') with e | e;·exact⟨ep,_,_,⟨_,t,hd,hf,rfl,hpl⟩,hex,tx _ e,[x,y],.cons _ _ (.cons _ _ .nil),.refl _⟩
   ·exact⟨ep,_,_,⟨_,t,hd,hf,rfl,hpl⟩,hex,tx _ e,[y,x],.cons _ _ (.cons _ _ .nil),.swap _ _ _⟩ | dn x y h h' tk tk' j j' hj hxy=>
   rcases zdq (w.params.setOrder a ep) (h',Value.int y tk') (h,Value.int x tk) with e | e;·exact⟨ep,_,_,⟨_,t,hd,hf,rfl,hpl⟩,hex,tx _ e,[y,x],.cons _ _ (.cons _ _ .nil),.swap _ _ _⟩
   ·exact⟨ep,_,_,⟨_,t,hd,hf,rfl,hpl⟩,hex,tx _ e,[x,y],.cons _ _ (.cons _ _ .nil),.refl _⟩
 | false=>
  have tx:=slots hb;generalize t.place=pl at two tx;cases two with
  | nil=>exact⟨ep,_,_,⟨_,t,hd,hf,rfl,hpl⟩,hex,tx (λ_=>0) rfl λi hi=>by
    have:i=0:=by simpa using hi
    subst this;exact⟨rfl,λj e=>by simp at e⟩,[],.nil,.refl _⟩ | one x h tk j=>exact⟨ep,_,_,⟨_,t,hd,hf,rfl,hpl⟩,hex,tx (λi=>if i=0 then 0 else j+1) rfl (λi hi=>by
    have:i=0\/i=1:=by have:i<=1:=hi;omega
    rcases this with rfl | rfl;·exact⟨by rw[_g rfl,z3R,_i (by omega)],λj e=>by simp at e;subst e;rfl⟩
    ·exact⟨by rw[_i (by omega),z3R,_g (by omega)],λj e=>by simp at e⟩),[x],.cons _ _ .nil,.refl _⟩ | up x y h h' tk tk' j j' hj hxy=>
   obtain⟨b0,b1,b2⟩:=zbr hj;exact⟨ep,_,_,⟨_,t,hd,hf,rfl,hpl⟩,hex,tx (λi=>if i=0 then 0 else if i=1 then j+1 else j'+1) rfl (λi hi=>by
    have:i=0\/i=1\/i=2:=by have:i<=2:=hi;omega
    rcases this with rfl | rfl | rfl;·exact⟨b0,λj e=>by simp at e;subst e;rfl⟩
    ·exact⟨b1,λj e=>by simp at e;subst e;rfl⟩
    ·exact⟨b2,λj e=>by simp at e⟩),[x,y],.cons _ _ (.cons _ _ .nil),.refl _⟩ | dn x y h h' tk tk' j j' hj hxy=>
   obtain⟨b0,b1,b2⟩:=zbr hj;exact⟨ep,_,_,⟨_,t,hd,hf,rfl,hpl⟩,hex,tx (λi=>if i=0 then 0 else if i=1 then j+1 else j'+1) rfl (λi hi=>by
    have:i=0\/i=1\/i=2:=by have:i<=2:=hi;omega
    rcases this with rfl | rfl | rfl;·exact⟨b0,λj e=>by simp at e;subst e;rfl⟩
    ·exact⟨b1,λj e=>by simp at e;subst e;rfl⟩
    ·exact⟨b2,λj e=>by simp at e⟩),[y,x],.cons _ _ (.cons _ _ .nil),.swap _ _ _⟩
end
end Dd
set_option maxHeartbeats 800000
namespace Dd
open L2 PySem.W
namespace FS_
theorem nxt:Slot "set_iterator" "__next__" "set_iterator.__next__":=.of (owner:="set_iterator") (n:="__next__") (by rw[typeLookup_type,builtinLookup_eq_fast];kernel_rfl) (by decide +kernel) (by decide +kernel) (by decide +kernel) (by first | exact .inl (by decide +kernel) | exact .inr (by decide +kernel)) (by rw[isSubtype_type];kernel_rfl)
theorem itr:Slot "set_iterator" "__iter__" "set_iterator.__iter__":=.of (owner:="set_iterator") (n:="__iter__") (by rw[typeLookup_type,builtinLookup_eq_fast];kernel_rfl) (by decide +kernel) (by decide +kernel) (by decide +kernel) (by first | exact .inl (by decide +kernel) | exact .inr (by decide +kernel)) (by rw[isSubtype_type];kernel_rfl)
theorem enxt:entryFor table "set_iterator.__next__"=some Builtin.«set_iterator.__next__» := entryFor_of_tree (by kernel_rfl)
theorem eitr:entryFor table "set_iterator.__iter__"=some Builtin.«dict_keyiterator.__iter__» := entryFor_alias (id':="dict_keyiterator.__iter__") (by kernel_rfl) rfl (by decide +kernel) (by kernel_rfl)
theorem eset:entryFor table "set.__iter__"=some Builtin.«frozenset.__iter__» := entryFor_alias (id':="frozenset.__iter__") (by kernel_rfl) rfl (by decide +kernel) (by kernel_rfl)
theorem anxt(a:Value):argsOk "set_iterator.__next__" ⟨[a],[]⟩:=by unfold argsOk;kernel_rfl
theorem aitr(a:Value):argsOk "set_iterator.__iter__" ⟨[a],[]⟩:=by unfold argsOk;kernel_rfl
end FS_
section
variable {prog:Program}{w:World}{A:Around}{E:Value->Shared->Prop}{s:Shared}{a I:Addr}{o:Obj}{ns:List Int}
def z1U(h:Heap)(I a:Addr)(sl i n ep:Nat):Prop:=∃oi,h.get? I=some oi/\oi.cls=.type "set_iterator"/\oi.data=.fields #[.int (sl:Int) 0,.int (i:Int) 0,.ref a,.int (n:Int) 0,.int (ep:Int) 0]
theorem z1U.ty{sl i n ep:Nat}(h:z1U s.heap I a sl i n ep):s.TypeIs (.ref I) "set_iterator":=let ⟨o,g,c,_⟩:=h;⟨o,g,c⟩
theorem z1U.at_{h h':Heap}{sl i n ep:Nat}(x:z1U h I a sl i n ep)(e:∀o,h.get? I=some o->h'.get? I=some o):z1U h' I a sl i n ep:=let ⟨o,g,r⟩:=x;⟨o,e _ g,r⟩
theorem z1U.self_{sl i n ep:Nat}{Q:Value->Shared->Prop}(h:z1U s.heap I a sl i n ep)(q:Q (.ref I) s):wpAny (model prog w) A (pyIter (.ref I)) Q E s:= wpAny_pyIter_slot h.ty FS_.itr (_ao FS_.itr h.ty FS_.eitr (show wpAny _ _ (ret (.ref I)) _ _ s from _e ⟨_,rfl,"set_iterator",_,h.ty,FS_.nxt.lookup,q⟩) (FS_.aitr _))
section
variable {ep:Nat}{os:List Value}{sl:Nat->Nat}{es:Array (Int×Value)}{t:SetTable}
theorem z5A {i:Nat} {Q:Option Value->Shared->Prop} (hh:A.handled=none) (G:zdL prog w A.in1 a o ep os sl) (hd:o.data=.set es ep t) (hf:t.fits es.size=true) (hz:es.size=os.length) (it:z1U s.heap I a (sl i) i os.length ep) (ho:s.heap.get? a=some o) (hi:i<=os.length) (ne:a≠I) (q1:∀v h',os[i]? = some v->z1U h' I a (sl (i+1)) (i+1) os.length ep->(∀b u,b≠I->s.heap.get? b=some u->h'.get? b=some u)->Q (some v) {s with heap:=h'}) (q0:∀h',os[i]? = none->(∀b u,b≠I->s.heap.get? b=some u->h'.get? b=some u)->Q none {s with heap:=h'}):wpAny (model prog w) A (pyNext (.ref I)) Q E s:=by
 obtain⟨oi,gi,ci,di⟩:=id it;refine _a (_de (_av it.ty FS_.nxt (_ao FS_.nxt it.ty FS_.enxt ?_ (FS_.anxt _))));unfold Builtin.«set_iterator.__next__»;refine _a (m:=slotArgs "__next__" 0 _) (_e ?_);refine _a (wpAny_fieldsOf gi di ?_);show wpAny _ _ (setEntries a >>= _) _ _ s;refine _a (wpAny_setEntries_of ho hd hf ?_);rw[_i (by rw[hz];simp)];show wpAny _ _ (setNext a (sl i:Int).toNat (i:Int).toNat (ep:Int).toNat >>= _) _ _ s;rw[_bq,_bq,_bq];refine _a (G.nx i s _ _ hi ho ?_);cases e:os[i]? with
 | some v=>
  rw[_aS];refine _a (_cf gi di (show 0<5 by decide) ?_);have g1:=_bk (Obj.mapFields λx=>x.setIfInBounds 0 (rawInt ((sl (i+1):Nat):Int))) gi (by obtain⟨c0,d0,da,sl0⟩:=oi;simp only at di;subst di;rfl);have d1:(Obj.mapFields (λx=>x.setIfInBounds 0 (rawInt ((sl (i+1):Nat):Int))) oi).data=.fields #[.int ((sl (i+1):Nat):Int) 0,.int (i:Int) 0,.ref a,.int (os.length:Int) 0,.int (ep:Int) 0]:=by
   obtain⟨c0,d0,da,sl0⟩:=oi;simp only at di;subst di;rfl
  refine _a (_cf g1 d1 (show 1<5 by decide) ?_);have g2:=_bk (Obj.mapFields λx=>x.setIfInBounds 1 (rawInt ((i:Int)+1))) g1 (by obtain⟨c0,d0,da,sl0⟩:=oi;simp only at di;subst di;rfl);refine _e ⟨_,rfl,_e ?_⟩;refine q1 v _ e ⟨_,g2,?_,?_⟩ λb u hb eb=>?_
  ·obtain⟨c0,d0,da,sl0⟩:=oi;simp only at ci di;subst ci di;rfl
  ·obtain⟨c0,d0,da,sl0⟩:=oi;simp only at di;subst di;rfl
  ·exact (_a6 _ _ hb.symm).trans ((_a6 _ _ hb.symm).trans eb) | none=>
  rw[Option.map_none];refine _a (_cf gi di (show 2<5 by decide) ?_);show wpAny _ _ (newExc (.type "StopIteration") [] >>= _) _ _ _;refine _a ?_;simp only[newExc,newTuple];refine _a (_ac ?_ (by size_fits));refine _a (m:=firstArgMember _ _) (_cw (a:=Value.none) (by first | rfl | (simp only[firstArgMember];rfl)) ?_);refine _ac ?_ (by size_fits);simp only[raiseNew];refine _a (wpAny_handled ?_);first | rw[show A.in1.handled=none from hh] | rw[hh]
  refine _a (_e (wpAny_throw ?_));refine _a (_dm (T:="StopIteration") (b:=true) ⟨_,_s _ rfl,rfl⟩ isSubtype_stop ?_);exact _e (q0 _ e λb u hb eb=>_f _ (_f _ ((_a6 _ _ hb.symm).trans eb)))
theorem z9V {Q:Bool->Shared->Prop} (hT:s.TypeIs (.ref a) "set") (q:Q false s):wpAny (model prog w) A (Builtin.List.listLengthHint (.ref a)) Q E s:=by
 unfold Builtin.List.listLengthHint;refine _a (wpAny_specialOf hT PySem.F.slot_set_len.lookup ?_);generalize hid:("set.__len__":String)=id0;wp_delta;rw[show splitId id0=some ("set","__len__") from by subst hid;decide +kernel];subst hid;refine _a (_dm (T:="set") (b:=true) hT (by rw[isSubtype_type];kernel_rfl) ?_);refine wpAny_ite_split (λz=>absurd z (by decide)) λ_=>wpAny_ite_split (λ_=>?_) λz=>absurd (by decide +kernel) z;exact _a (_cO hT (_e q))
theorem zaI {Q:Value->Shared->Prop} (hex:o.ExactSet) (hd:o.data=.set es ep t) (hf:t.fits es.size=true) (hp:t.plain=true) (ho:s.heap.get? a=some o) (q:Q (.ref s.heap.objs.size) {s with heap:=s.heap.push {cls:=.type "set_iterator",data:=.fields #[.int 0 0,.int 0 0,.ref a,.int (es.size:Int) 0,.int (ep:Int) 0]}}):wpAny (model prog w) A (pyIter (.ref a)) Q E s:=by
 have hT:s.TypeIs (.ref a) "set":=⟨o,ho,hex.1⟩;refine wpAny_pyIter_slot hT PySem.F.slot_set_iter (_ao PySem.F.slot_set_iter hT FS_.eset ?_ (PySem.F.args_set_iter_1 _));unfold Builtin.«frozenset.__iter__»;refine _a (m:=Builtin.Frozenset.slot0 "__iter__" ⟨[.ref a],[]⟩) (_e ?_);refine _a (show wpAny _ _ (Builtin.Frozenset.sizeOf a) _ _ _ from _a (wpAny_setEntries_of ho hd hf (_e ?_)));refine _a (show wpAny _ _ (setDrawn a) _ _ _ from ?_);unfold setDrawn;refine _a (_bJ ho hd hf ?_);refine _a (show wpAny _ _ setsByText _ _ _ from _a (_bb (_e ?_)));refine _e ?_;dsimp only;show wpAny _ _ (if (!(w.params.followText "set-order")&&(!t.plain&&decide (es.size > 1)))=true then _ else _) _ _ _;rw[hp];simp only[_bX,_cS,Bool.and_false,_G,_ag];refine _a (_e (_a (wpAny_setEpoch_of ho hd hf ?_)));refine _a (_ac (_e ⟨_,rfl,"set_iterator",_,⟨_,_s _ rfl,rfl⟩,FS_.nxt.lookup,?_⟩));simpa[rawInt] using q
theorem zbE{os:List Value}{sl:Nat->Nat}(G:∀A:Around,zdL prog w A a o ep os sl)(hex:o.ExactSet)(hd:o.data=.set es ep t)(hf:t.fits es.size=true)(hp:t.plain=true)(hz:es.size=os.length):KdlSrc prog w "set" a a os.length (λi v=>os[i]? = some v) (λh=>h.get? a=some o) where
 type:=λ_ ho=>⟨o,ho,hex.1⟩;there:=λ_ ho=>⟨_o ho,_o ho⟩;keep:=λ_ _ ho k=>k a (.inl rfl) o ho;notList:=by decide
 notTuple:=by decide
 hint:=λ_ _ s _ ho q=>z9V ⟨o,ho,hex.1⟩ q;iter:=λA s hh ho=>by
  have ne:a≠s.heap.objs.size:=_C (_o ho);refine⟨_,λi h=>z1U h s.heap.objs.size a (sl i) i os.length ep/\h.get? a=some o,λE Q q=>zaI hex hd hf hp ho q,⟨λb hb=>by simp at hb;simp[hb],λi h h' st k=>⟨st.1.at_ λo e=>k _ (by simp) o e,k a (by simp) o st.2⟩,λi s1 Q E hi st q=>?_,λs1 Q E st q=>?_,λi s1 Q E st q=>st.1.self_ q⟩,⟨⟨_,_s _ rfl,rfl,by rw[(G A).z,hz];rfl⟩,_f _ ho⟩⟩
  ·refine z5A hh (G A.in1) hd hf hz st.1 st.2 (by omega) ne (λv h' e it k=>?_) λh' e=>?_;·exact q v h' s1.toks e ⟨it,k a o ne st.2⟩ λb u hb=>k b u (by simpa using hb)
   ·rw[_r hi]at e;cases e
  ·refine z5A hh (G A.in1) hd hf hz st.1 st.2 (_d _) ne (λv h' e=>?_) λh' e k=>?_;·simp at e
   ·exact q h' s1.toks λb u hb=>k b u (by simpa using hb)
end
theorem z5u {T:String} {r d:Addr} {n:Nat} {P:Nat->Value->Prop} {OK:Heap->Prop} {Z:List Value->Shared->Prop} (K:KdlSrc prog w T r d n P OK) (hh:A.handled=none) (ok:OK s.heap) (hn:n<=sizeLine) (z:∀(h':Heap) (tk:Nat) (acc:Array Value),s.heap.objs.size<h'.objs.size->(∀b u,s.heap.get? b=some u->h'.get? b=some u)->ItemsOf P acc n->Z acc.toList {s with heap:=h',toks:=tk}):wpAny (model prog w) A (collect (.ref r)) Z E s:=by
 have lt:=K.there _ ok;let Fin2:Result->Shared->Prop:=λq s2=>∃h' tk acc c,q=.ok (.ret (.ref s.heap.objs.size))/\s2={s with heap:=h',toks:=tk}/\(∀b u,s.heap.get? b=some u->h'.get? b=some u)/\h'.get? s.heap.objs.size=some {cls:=.type "list",dict:=none,data:=.seq acc c,slots:=#[]}/\ItemsOf P acc n;have run:=kdl_extend (A:=A) (s:={s with heap:=s.heap.push {cls:=.type "list",data:=.seq ([]:List Value).toArray}}) (R:=Fin2) K hh (K.keep _ _ ok λb _ u e=>_f _ e) s.heap.objs.size (_ca lt.1) (_ca lt.2) (.ref s.heap.objs.size) 0 (_s _ rfl) (λh' tk acc c k g it=>⟨h',tk,acc,c,rfl,rfl,λb u e=>k b u (_C (_o e)) (_f _ e),g,it⟩) hn;have last:∀q s2,Fin2 q s2->∃h' tk acc c,q=.ok (.ret (.ref s.heap.objs.size))/\s2={s with heap:=h',toks:=tk}/\h'.get? s.heap.objs.size=some {cls:=.type "list",dict:=none,data:=.seq acc c,slots:=#[]}/\Z acc.toList s2:=λq s2 ⟨h',tk,acc,c,e1,e2,k,g,it⟩=>⟨h',tk,acc,c,e1,e2,g,by rw[e2];exact z h' tk acc (_o g) k it⟩;refine _a (wpAny_runValue (_bE entry_proto_collect' ?_));rw[_bs PySem.F.plain_proto_collect _];refine _a (show wpAny _ A.in1 (newList []) _ _ s from _ac (_e ⟨plainId_quiet PySem.F.plain_list_iadd _,_bE entry_list_iadd' ?_⟩));rw[_bs PySem.F.plain_list_iadd _];refine _E (show wpAny _ A.in1 (Builtin.List.listExtendWith (.ref s.heap.objs.size) (.ref r) (.ref s.heap.objs.size)) _ _ _ from run) (λfin s2 x=>?_) λe s2 x=>?_;·cases fin with
  | done f=>
   obtain⟨h',tk,acc,c,e1,e2,g,zz⟩:=last _ _ x;cases e1;subst e2;exact _a (wpAny_load g (_e zz)) | again c1=>
   refine⟨x.1,_bS x.2 λq s3 y=>?_⟩;obtain⟨h',tk,acc,c,e1,e2,g,zz⟩:=last _ _ y;subst e1 e2;exact _a (wpAny_load g (_e zz))
 ·obtain⟨_,_,_,_,e1,_⟩:=x;cases e1
theorem z6A {Q:Value->Shared->Prop} (hh:A.handled=none) (ho:s.heap.get? a=some o) (hI:z9r prog w ns o) (q:∀(h':Heap) (tk:Nat) (r:Addr) (out:List Value) (c:Nat),IntsAre out (z05 ns)->s.heap.objs.size<=r->h'.get? r=some (seqObj "list" out.toArray c)->(∀b u,s.heap.get? b=some u->h'.get? b=some u)->Q (.ref r) {s with heap:=h',toks:=tk}): wpAny (model prog w) A (call (.builtin "sorted") [.ref a]) Q E s:=by
 obtain⟨ep,os,sl,⟨es,t,hd,hf,hz,hp⟩,hex,G,ms,im,pm⟩:=zby (a:=a) hI;have lo:os.length=ns.length:=by rw[im.length,pm.length_eq]
 have l2:ns.length<=2:=by obtain⟨_,_,_,_,_,_,_,_,_,two,_⟩:=hI;exact two.sz.2.2
 refine Calls.call_function_entry kind_sorted plain_sorted entry_sorted (args_sorted1 _) ?_;unfold Builtin.«sorted»;refine _a (m:=checkCount "sorted" 1 1 _) (_e (_a (z5u (zbE G hex hd hf hp hz) (show A.in1.handled=none from hh) ho (by rw[_b2];omega) λh' tk acc big k it=>?_)));have ea:acc.toList=os:=by
  refine List.ext_getElem? λi=>?_;by_cases hi:i<acc.size
  ·have e1:acc.toList[i]? = some acc[i]:=by simp[hi]
   rw[e1,it.2 i acc[i] (by simp[hi])]
  ·have e1:acc.toList[i]? = none:=by simp;omega
   have e2:os[i]? = none:=by have:=it.1;simp;omega
   rw[e1,e2]
 rw[ea];refine _a (wpAny_newList ?_ (by rw[_b2];omega));have g:(h'.push (seqObj "list" os.toArray 0)).get? h'.objs.size=some (seqObj "list" os.toArray 0):=_s _ rfl;refine _a (_az (_ao slot_list_sort ⟨_,g,rfl⟩ entry_list_sort (list_sort_tree g im (by omega) λout ns' i' p pw=>?_) (args_list_sort _)));rw[zaB (p.trans pm) pw]at i';obtain⟨c,e⟩:=sortedHeap_at (vs:=os) (out:=out) g;refine⟨_,rfl,_e ⟨_,rfl,q _ tk _ out.toList c i' ?_ ?_ λb u eb=>?_⟩⟩;·exact _ar big
 ·exact e
 ·have lb:b<h'.objs.size:=_o (k b u eb);rw[sortedHeap_old (_C lb) (by rw[size_push'];exact _at lb),_c8 _ _ _ (_C lb)];exact k b u eb
end
end Dd
namespace Dd
open L2 PySem.W
section
variable {X:Cx}{E:XK}
noncomputable def zez(X:Cx)(a:Addr)(ns:List Int):HO:=.ext λh=>∃o,h.get? a=some o/\z9r X.prog X.w ns o
def zgi(X:Cx):List V->Hp->VK->Prop:=λxs H Q=>∃(l:Addr)(ns:List Int),xs=[.ref l]/\H l=some (.lst (ns.map V.int))/\ns.length<=2/\∀p,H p=none->Q (.ref p) (upd H p (zez X p (dedup ns)))
theorem z8Y (hc:X.calm=true):wA X (.type "set") (zgi X):=by
 intro pins s O H xs us Q I r h;obtain⟨l,ns,rfl,hl,h2,q⟩:=h;obtain⟨u,rfl,ru⟩:=vals1 r;cases (show u=Value.ref l from ru);obtain⟨its,n,rv,e,_⟩:=I.lst hl;have ii:=z5Z rv;refine z7B (I.ok.hd hc) (items:=its.toArray) (ns:=ns) ⟨_,e,rfl,n,rfl⟩ (by simpa using ii) (by have:=ii.length;simp;omega) λh' tk o ho hI k=>?_;exact⟨.ref _,_,I.laid (o:=zez X s.heap.objs.size (dedup ns)) (t':=tk) k (_d _) ⟨⟨o,ho,hI⟩,⟨o,ho⟩,λh1 h2 ⟨o1,g1,i1⟩ z=>⟨o1,z o1 g1,i1⟩⟩,rfl,q _ (I.hok.fresh (_d _))⟩
def zaj(X:Cx):List V->Hp->VK->Prop:=λxs H Q=>∃(a:Addr)(ns:List Int),xs=[.ref a]/\H a=some (zez X a ns)/\∀p,H p=none->Q (.ref p) (upd H p (.lst ((z05 ns).map V.int)))
theorem z3V (hc:X.calm=true):wA X (.builtin "sorted") (zaj X):=by
 intro pins s O H xs us Q I r h;obtain⟨a,ns,rfl,ha,q⟩:=h;obtain⟨u,rfl,ru⟩:=vals1 r;cases (show u=Value.ref a from ru);obtain⟨⟨o,ho,hI⟩,_,_⟩:=(show wc X.prog X.w H s.heap a (zez X a ns) from I.hok a _ ha);refine z6A (I.ok.hd hc) ho hI λh' tk r out c i' le g k=>?_;have l2:ns.length<=2:=by obtain⟨_,_,_,_,_,_,_,_,_,two,_⟩:=hI;exact two.sz.2.2
 have ll:(z05 ns).length=ns.length:=(kw ns).length_eq;exact⟨.ref r,_,I.laid (o:=.lst ((z05 ns).map V.int)) (t':=tk) k le ⟨by simp[ll,_b2];omega,out,c,z6m i',g⟩,rfl,q _ (I.hok.fresh le)⟩
end
section
variable {X:Cx}{E:XK}{a b:Expr}{x y:Str}{p p2 p3 pos pos2:Pos}
noncomputable def eSS(fa fb:FE):FE:=fun ρ s=>(fa ρ s).bind λu s1=>(fb ρ s1).bind λv s2=>match u,v with
 | .int i,.int j=>.ok (.lst ((z05 (dedup [i,j])).map D.int)) s2 | _,_=>.no
theorem zgQ{fa fb:FE}(hc:X.calm=true)(ha:RE X E a fa)(hb:RE X E b fb)(hg:Gl X x)(hm:X.mg x=none)(hv:bootBuiltins x=some (.builtin "sorted"))(hg2:Gl X y)(hm2:X.mg y=none)(hv2:bootBuiltins y=some (.type "set")) (hn:x≠"__name__":=by decide)(hdb:(x==("__debug__":Str))=false:=by decide)(hn2:y≠"__name__":=by decide)(hdb2:(y==("__debug__":Str))=false:=by decide) (h1:starEach [.Call (.Name y p2) [.List [a,b] p3] [] pos2] X.env=(false,eval (.Call (.Name y p2) [.List [a,b] p3] [] pos2) X.env)::starEach [] X.env:=by rfl)(h2:(backTo pos (starEach [] X.env)).any (·.1)=false:=by rfl) (h3:starEach [.List [a,b] p3] X.env=(false,eval (.List [a,b] p3) X.env)::starEach [] X.env:=by rfl)(h4:(backTo pos2 (starEach [] X.env)).any (·.1)=false:=by rfl) (h5:starEach [a,b] X.env=(false,eval a X.env)::starEach [b] X.env:=by rfl)(h6:starEach [b] X.env=(false,eval b X.env)::starEach [] X.env:=by rfl): RE X E (.Call (.Name x p) [.Call (.Name y p2) [.List [a,b] p3] [] pos2] [] pos) (eSS fa fb):= yy (PE.freeze (z3y (z3V hc) hg hm hv (wU (z4v (z8Y hc) hg2 hm2 hv2 (wU (z1t (wU ha (wU hb uz h6) h5)) uz h3) hn2 hdb2 h3 h4) uz h1) hn hdb h1 h2)) λO H Q ⟨Y,ρ,s,r,en,h⟩=>by
  refine yK (k:=fun ρ u s1=>(fb ρ s1).bind λv s2=>match u,v with
   | .int i,.int j=>R.ok (D.lst ((z05 (dedup [i,j])).map D.int)) s2 | _,_=>.no) r en h _ λu H1 Y1 s1 du r1 en1 dn stp h1=>?_;refine yK (k:=fun ρ v s2=>match du,v with
   | .int i,.int j=>R.ok (D.lst ((z05 (dedup [i,j])).map D.int)) s2 | _,_=>.no) r1 en1 h1 _ λv H2 Y2 s2 dv r2 en2 dn2 stp2 h2=>?_;split at h2
  ·rename_i i j;cases yj dn;cases yj dn2;refine⟨by simp[_b2],λl hl=>⟨l,[i,j],rfl,zu,by simp,λq hq=>?_⟩⟩;refine⟨q,dedup [i,j],rfl,zu,λz hz=>⟨z,_,rfl,zu,λo=>?_⟩⟩;rw[z2I];have st1:yA (gm X) H2 Y2 (upd H2 l (.lst [.int i,.int j])) Y2 s2:=yA.layP r2 hl;have st2:=st1.trans (yA.layP (o:=zez X q (dedup [i,j])) st1.rep hq);have st3:=st2.trans (yA.layP (o:=.frz o (.lst ((z05 (dedup [i,j])).map V.int))) st2.rep hz);refine h2 _ _ _ st3 ?_;simp only[Den];exact⟨z,o,_,rfl,zu,z5D _ _ _ _⟩
  ·exact h2.elim
end
end Dd
namespace L2
theorem z34 {X:Cx} {a b:Expr} {ta:TA} {p p2 pos pos2:Pos} (hc:X.calm=true) (hg:Gl X "list") (hm:X.mg "list"=none) (hg2:Gl X "range") (hm2:X.mg "range"=none) (ha:PA X [a,b] ta) (hs2:starEach [a,b] X.env=[(false,eval a X.env),(false,eval b X.env)]:=by rfl) (hs3:starEach [b] X.env=[(false,eval b X.env)]:=by rfl) (hs:starEach [.Call (.Name "range" p2) [a,b] [] pos2] X.env=(false,eval (.Call (.Name "range" p2) [a,b] [] pos2) X.env)::starEach [] X.env:=by rfl) (hpl:(backTo pos (starEach [] X.env)).any (·.1)=false:=by rfl): PE X (.Call (.Name "list" p) [.Call (.Name "range" p2) [a,b] [] pos2] [] pos) (λO H Q=>ta O H λvs H1=>∃i j:Int,vs=[.int i,.int j]/\(-1000<=i/\i<=j/\j<=1000)/\∀l,H1 l=none->Q (.ref l) (upd H1 l (.lst (z4a i 1 (j-i).toNat)))):=by
 intro pins s O H Q I h;refine _be (kS I hg hm (u:=.type "list") (by decide +kernel) ?_ (by decide) (by decide));refine _as ?_ hs hpl;rw[hs];show wpAny _ _ (spliced ((false,eval (.Call (.Name "range" p2) [a,b] [] pos2) X.env)::backTo pos (starEach [] X.env))) _ _ s;refine _bd (_be (kS I hg2 hm2 boot_range (_as (thn (ha pos2 pins s O H _ I h) λus s1 ⟨vs,H1,I1,r1,q1⟩=>?_) (by rw[hs2,hs3]) (by rw[hs3];rfl)) (by decide) (by decide)));obtain⟨i,j,e,⟨b1,b2,b3⟩,q⟩:=q1;subst e;cases r1 with | cons r r1=>cases r1 with | cons r' r1=>
   cases r1;obtain⟨t,rfl⟩:=r;obtain⟨t',rfl⟩:=r';refine call_range_2 (_cb ?_);have hsz:Builtin.Range.rangeSize i j 1=(((j-i).toNat:Nat):Int):=by rw[rangeSize_one];split<;>omega
   refine call_list_range (I.ok.hd hc) (IsRange.new ..) (small_one (by omega) (by omega) (by omega) (by omega)) hsz (by omega) λh' tk acc c' hk hS hacc=>?_;have I2:Inv X pins O H1 {s1 with heap:=s1.heap.push {cls:=.type "range",data:=.fields #[.int i t,.int j t',.int 1 s1.toks]},toks:=s1.toks+1}:=I1.kept λb o e=>_f _ e;have hl:(z4a i 1 (j-i).toNat).length=(j-i).toNat:=by simp[z4a]
   have hv:xt (z4a i 1 (j-i).toNat) acc.toList:=z0Q (by simp[hacc.1,hl]) λx v hv=>by
    obtain⟨tk2,rfl⟩:=hacc.2 x v (by simpa using hv);have hi:x<(j-i).toNat:=by
     have:=(_b.mp hv).1;simp[hacc.1]at this;omega
    exact⟨.int (i+(x:Int)*1),by simp[z4a,hi],⟨tk2,rfl⟩⟩
   refine⟨.ref _,upd H1 _ (.lst (z4a i 1 (j-i).toNat)),I2.laid (t':=tk) hk (_d _) ?_,rfl,q _ (I2.hok.fresh (_d _))⟩;exact⟨by rw[hl];exact _H (show (j-i).toNat<=2000 by omega) (by decide),acc.toList,c',hv,by simpa using hS⟩
end L2
namespace Dd
open L2
section
variable {X:Cx}{E:XK}{a b:Expr}{pos:Pos}
def zfq(f:FA):FE:=fun ρ s=>(f ρ s).bind λds s1=>match ds with
 | [.int i,.int j]=>if -1000<=i/\i<=j/\j<=1000 then .ok (.lst (z6U i 1 (j-i).toNat)) s1 else .no | _=>.no
theorem z4u{p p2 pos2:Pos}{f:FA}(hc:X.calm=true)(hg:Gl X "list")(hm:X.mg "list"=none)(hg2:Gl X "range")(hm2:X.mg "range"=none)(ha:RA X E [a,b] f) (hs2:starEach [a,b] X.env=[(false,eval a X.env),(false,eval b X.env)]:=by rfl)(hs3:starEach [b] X.env=[(false,eval b X.env)]:=by rfl) (hs:starEach [.Call (.Name "range" p2) [a,b] [] pos2] X.env=(false,eval (.Call (.Name "range" p2) [a,b] [] pos2) X.env)::starEach [] X.env:=by rfl)(hpl:(backTo pos (starEach [] X.env)).any (·.1)=false:=by rfl): RE X E (.Call (.Name "list" p) [.Call (.Name "range" p2) [a,b] [] pos2] [] pos) (zfq f):= yy (z34 hc hg hm hg2 hm2 ha hs2 hs3 hs hpl).freeze λO H Q ⟨Y,ρ,s,r,en,h⟩=>by
  unfold zfq at h;refine⟨Y,ρ,s,r,en,(okR.bind (Dn:=zA (gm X)) h).imp λvs H1 ⟨Y1,s1,ds,stp,dn,h1⟩=>?_⟩;split at h1
  ·rename_i i j;split at h1
   ·rename_i hb;simp only[zA]at dn;obtain⟨v1,r1,rfl,d1,v2,r2,rfl,d2,rfl⟩:=dn;cases yj d1;cases yj d2;exact⟨i,j,rfl,hb,js stp.rep h1 (z8N _ _ _)⟩
   ·exact h1.elim
  ·exact h1.elim
@[simp] theorem zeV (f:FA)(ρ:Ev)(s:Sto):zfq f ρ s=(f ρ s).bind λds s1=>match ds with
 | [.int i,.int j]=>if -1000<=i/\i<=j/\j<=1000 then .ok (.lst (z6U i 1 (j-i).toNat)) s1 else .no | _=>.no:=id rfl
end
end Dd
namespace K51
open L2 Dd Pg
@[simp] def z1a:FS:=(wq 1 (eC (.int 0)))
@[simp] def wG:FS:=(zfs 1 2 (za (zd 2) (za (eOp z7t (zd 1) (zd 2)) zi)))
@[simp] def xJ:FS:=(qQ (tOf (eOp dGt (zd 2) (eC (.int 0)))) wG)
@[simp] def vK:FS:=(z4R (zR (zd 0)) (yJ 2) xJ)
@[simp] def z0H:FS:=(wN (zd 1))
def qR:FS:=(zM z1a (zM vK z0H))
def xR:Mir:=Mof ["_law_numbers","_law_found","_law_number"] 1 qR
@[simp] def uX:FS:=(wN (ub (zR (eSS (zd 1) (eOp jn (eC (.int 0)) (zd 1)))) [none] (yJ 0) yr (jo (za (zd 0) zi))))
@[simp] def xg:FS:=(fIf (tOf (eOp dEq (zd 0) (eC (.int 1)))) uX vf)
@[simp] def vm:FS:=(wq 2 (za1 zi))
@[simp] def wg:FS:=(jf (zaO (zd 2) (zF (zR (eSS (eOp jn (zd 1) (ze z0k (za (zd 3) zi))) (eOp jn (ze z0k (za (zd 3) zi)) (zd 1)))) [some 3,none] (yJ 1) yr (jo (za (zd 0) (za (zd 1) zi))))))
@[simp] def qc:FS:=(z4R (z54 (za (eOp jn (eC (.int 0)) (zd 1)) (za (eOp jp (zd 1) (eC (.int 1))) zi))) (yJ 3) wg)
@[simp] def z03:FS:=(wN (zd 2))
def vN:FS:=(zM xg (zM vm (zM qc z03)))
def yf:Mir:=Mof ["_law_many","_law_length","_law_found","_law_a"] 2 vN
@[simp] def z3A (Mr:Mir):FS:=(wN (eOp dIs (zd 0) (eC .non)))
@[simp] def z2v (Mr:Mir):FS:=(fIf (tOf (eOp dIs (zd 1) (eC .non))) (z3A Mr) vf)
@[simp] def z2R (Mr:Mir):FS:=(wN (z1N (eIs "bool" (zd 0)) (eOp dEq (zd 0) (zd 1))))
@[simp] def z2D (Mr:Mir):FS:=(fIf (tOf (eIs "bool" (zd 1))) (z2R Mr) vf)
@[simp] def z3s (Mr:Mir):FS:=(wN (z1N (ze Pg.xG (za (zd 0) zi)) (eOp dEq (zd 0) (zd 1))))
@[simp] def z3p (Mr:Mir):FS:=(fIf (tOf (eIs "int" (zd 1))) (z3s Mr) vf)
@[simp] def z3w (Mr:Mir):FS:=(wN (z1N (eIs "str" (zd 0)) (eOp dEq (zd 0) (zd 1))))
@[simp] def z2V (Mr:Mir):FS:=(fIf (tOf (eIs "str" (zd 1))) (z3w Mr) vf)
@[simp] def z1J (Mr:Mir):FS:=(wN (eC (.bl false)))
@[simp] def z3o (Mr:Mir):FS:=(fIf (fOr (tOf (eOp dNe (eIs "tuple" (zd 1)) (eIs "tuple" (zd 0)))) (tOf (eOp dNe (eIs "list" (zd 1)) (eIs "list" (zd 0))))) (z1J Mr) vf)
@[simp] def z1I (Mr:Mir):FS:=(wN (z1N (eOp dEq (ze vj (za (zd 0) zi)) (ze vj (za (zd 1) zi))) (ze z6R (za (zF (z7d (za (zd 0) (za (zd 1) zi))) [none,none] (kz 0 1) yr (ze Mr (za (zd 0) (za (zd 1) zi)))) zi))))
def qD(Mr:Mir):FS:=(zM (z2v Mr) (zM (z2D Mr) (zM (z3p Mr) (zM (z2V Mr) (zM (z3o Mr) (z1I Mr))))))
def yu:Nat->Mir
 | 0=>λ_ _=>.no | k+1=>Mof ["_law_found","_law_due_here"] 2 (qD (yu k))
def wS:Mir:=yu 5
@[simp] def qe:FS:=(wq 2 zbV)
@[simp] def xD:FS:=(wq 4 (ze Pg.zS (za (zd 3) (za (eSl (zd 0) xK (qw (eC (.int 2)))) zi))))
@[simp] def vY:FS:=(z7k 2 4 3)
@[simp] def qo:FS:=(z4R (zR (zd 1)) (yJ 3) (zM xD vY))
@[simp] noncomputable def z1m:FS:=(wN (zd 2))
def qM:FS:=(zM qe (zM qo z1m))
def yB:Mir:=Mof ["_law_lot","_law_some","_law_known","_law_one","_law_key"] 2 qM
@[simp] def wP:FS:=(wq 2 (zfq (za (eOp jn (eC (.int 0)) (zd 1)) (za (eOp jp (zd 1) (eC (.int 1))) zi))))
@[simp] def yR:FS:=(wq 3 (za1 zi))
@[simp] def xN:FS:=(jf (zaO (zd 3) (zF (zR (zd 2)) [some 4,none] (yJ 1) yr (jo (za (zd 0) (za (zd 1) zi))))))
@[simp] def xM:FS:=(z4R (zR (zd 2)) (yJ 4) xN)
@[simp] def wX:FS:=(wq 5 (ze yB (za (zd 0) (za (zd 3) zi))))
@[simp] def wV:FS:=(wq 6 (zF (zR (zd 2)) [none] (yJ 0) yr (jo (za (zd 0) zi))))
@[simp] def jZ:FS:=(wq 6 (zd 3))
@[simp] def xV:FS:=(fIf (tOf (eOp dEq (ze vj (za (zd 0) zi)) (eC (.int 4)))) jZ vf)
@[simp] def yM:FS:=(wq 7 (za1 zi))
@[simp] def yH:FS:=(wq 9 (jq (zd 5) (eOp jn (eC (.int 0)) (ze Pg.zS (za (zd 8) (za (eSl (zd 0) (qw (eC (.int 2))) xK) zi))))))
@[simp] def xx:FS:=(jf (zaO (zd 7) (zF (zR (zd 9)) [some 8,some 1,none] (yJ 2) (tOf (eOp dEq (ze uD (za (zF (zR (eOp jp (zd 2) (zd 0))) [none] (yJ 0) yr (ze z0k (za (zd 0) zi))) zi)) (zd 1))) (eOp jp (zd 2) (zd 0)))))
@[simp] def xB:FS:=(z4R (zR (zd 6)) (yJ 8) (zM yH xx))
@[simp] def yG:FS:=(wN (ze jN (za (zd 7) zi)))
def uW:FS:=(zM wP (zM (z8i 3 (zM yR xM)) (zM wX (zM wV (zM xV (zM yM (zM xB yG)))))))
def zG:Mir:=z4A (Mof ["_law_lot","_law_weight","_law_sides","_law_pairs","_law_a","_law_known","_law_others","_law_found","_law_other","_law_some"] 2 uW)
@[simp] def vn:FS:=(wq 2 (za1 zi))
@[simp] def xk:FS:=(wq 4 (ze yB (za (zd 0) (za (jD (ze yf (za (eC (.int 2)) (za (zd 3) zi)))) zi))))
@[simp] def wj:FS:=(jf (zaO (zd 2) (zF (zR (jq (zd 4) (eOp jn (eC (.int 0)) (ze Pg.zS (za (zd 5) (za (eSl (zd 0) (qw (eC (.int 2))) xK) zi)))))) [some 5,none] (yJ 1) yr (eOp jp (zd 1) (zd 0)))))
@[simp] def wf:FS:=(z4R (zR (jD (ze yf (za (eOp jn (ze vj (za (zd 0) zi)) (eC (.int 2))) (za (eOp jn (zd 1) (zd 3)) zi))))) (yJ 5) wj)
@[simp] def uV:FS:=(z4R (z6F (za (eOp jp (zd 1) (eC (.int 1))) zi)) (yJ 3) (zM xk wf))
@[simp] def vp:FS:=(wN (ze jN (za (zd 2) zi)))
def qq:FS:=(zM vn (zM uV vp))
def zK:Mir:=z4A (Mof ["_law_lot","_law_length","_law_found","_law_used","_law_known","_law_other"] 2 qq)
@[simp] def qC:FS:=(wq 2 (ze xR (za (zd 1) zi)))
@[simp] def qj:FS:=(wq 3 (jo (za (eOp z47 (eOp dIx (zd 1) (eC (.int 1))) (zd 2)) (za (eOp jn (eC (.int 0)) (eOp z47 (eOp dIx (zd 1) (eC (.int 0))) (zd 2))) zi))))
@[simp] def qp:FS:=(wN (ze jN (za (z3I (za (zd 3) (za (jo (za (eOp jn (eC (.int 0)) (eOp dIx (zd 3) (eC (.int 0)))) (za (eOp jn (eC (.int 0)) (eOp dIx (zd 3) (eC (.int 1)))) zi))) zi))) zi)))
@[simp] def vi:FS:=(fIf (tOf (eOp dEq (ze vj (za (zd 1) zi)) (eC (.int 2)))) (zM qC (zM qj qp)) vf)
@[simp] def kT:FS:=(wq 4 (eC (.int 1)))
@[simp] def qd:FS:=(wq 5 (z2e (eOp dIx (z3I (za (eC (.fn "_law_weighing")) (za (eC (.fn "_law_lasting")) zi))) (zd 0)) [("_law_weighing",zG),("_law_lasting",zK)] (za (zd 1) (za (zd 4) zi))))
@[simp] def uc:FS:=(wq 4 (eOp jp (zd 4) (eC (.int 1))))
@[simp] def uf:FS:=(wq 5 (z2e (eOp dIx (z3I (za (eC (.fn "_law_weighing")) (za (eC (.fn "_law_lasting")) zi))) (zd 0)) [("_law_weighing",zG),("_law_lasting",zK)] (za (zd 1) (za (zd 4) zi))))
@[simp] def kE:FS:=(qQ (tOf (eOp dEq (zd 5) (z3I zi))) (zM uc uf))
@[simp] def jB:FS:=(wN (zd 5))
def qV:FS:=(zM vi (zM kT (zM qd (zM kE jB))))
def yw:Mir:=Mof ["_law_way","_law_lot","_law_least","_law_one","_law_number","_law_found"] 2 qV
@[simp] def wF:FS:=(jf (ze Pg.xI (za (zd 0) zi)))
@[simp] def vB:FS:=(wq 1 (eC (.int 1)))
@[simp] def xS:FS:=(wq 2 (ze Pg.zj (za (zd 0) (za (zd 1) zi))))
@[simp] def yZ:FS:=(wq 1 (eOp uN (eC (.int 2)) (zd 1)))
@[simp] def yW:FS:=(wq 2 (ze Pg.zj (za (zd 0) (za (zd 1) zi))))
@[simp] def xT:FS:=(qQ (z74 (zd4 (zd 2))) (zM yZ yW))
@[simp] def xQ:FS:=(wq 3 (ze qJ (za (zF (zR (zd 2)) [none] (yJ 0) yr (ze Pg.yz (za (zd 0) zi))) zi)))
@[simp] def vD:FS:=(wN (ub (zR (zd 2)) [some 3,none] (yJ 1) (tOf (eOp dEq (ze Pg.yz (za (zd 1) zi)) (zd 0))) (zd 1)))
def ww:FS:=(zM wF (zM vB (zM xS (zM xT (zM xQ vD)))))
def zq:Mir:=Mof ["lot","most","found","least"] 1 ww
@[simp] def zP:FS:=(wq 1 (ze Pg.zj (za (zd 0) (za (ze qJ (za (zF (zR (jD (ze zq (za (zd 0) zi)))) [none] (yJ 0) yr (ze Pg.ym (za (zd 0) zi))) zi)) zi))))
@[simp] def yD:FS:=(wq 2 (ze qJ (za (zF (zR (zd 1)) [none] (yJ 0) yr (ze Pg.ym (za (zd 0) zi))) zi)))
@[simp] def xO:FS:=(wN (ub (zR (zd 1)) [some 2,none] (yJ 1) (tOf (eOp dEq (ze Pg.ym (za (zd 1) zi)) (zd 0))) (zd 1)))
def wz:FS:=(zM zP (zM yD xO))
def zH:Mir:=Mof ["lot","found","least"] 1 wz
@[simp] def zZ:FS:=(wN (ze Pg.yz (za (eOp dIx (jD (ze zq (za (zd 0) zi))) (eC (.int 0))) zi)))
def yS:FS:=zZ
def zU:Mir:=Mof ["lot"] 1 yS
@[simp] def yb:FS:=(wN (ze Pg.ym (za (eOp dIx (jD (ze zH (za (zd 0) zi))) (eC (.int 0))) zi)))
def yO:FS:=yb
def zJ:Mir:=Mof ["lot"] 1 yO
@[simp] def z0C:FS:=(wq 2 (ze Pg.vF (za (ze Pg.xo (za (zd 0) (za (zd 1) zi))) zi)))
@[simp] def z1B:FS:=(wq 3 (ze Pg.xh (za (zd 2) (za (eOp jp (eC (.int 2)) (ze Pg.zV (za (zd 2) (za (eC (.int 3)) zi)))) zi))))
@[simp] def z1e:FS:=(wq 4 (zF (z6F (za (eC (.int 2)) zi)) [some 3,none] (yJ 1) yr (ze yw (za (zd 1) (za (zd 0) zi)))))
@[simp] def z0Y:FS:=(wq 6 (z3I (za (ze zq (za (zd 3) zi)) (za (ze zH (za (zd 3) zi)) zi))))
@[simp] noncomputable def zc1:FS:=(wN (eC (.bl false)))
@[simp] def z16:FS:=(fIf (z74 (tOf (ze wS (za (zd 6) (za (zd 4) zi))))) zc1 vf)
@[simp] def z31:FS:=(jf (zd2 (eOp dIx (zd 6) (eC (.int 0))) (jo zi)))
@[simp] def z2U:FS:=(jf (zd2 (eOp dIx (zd 6) (eC (.int 1))) (jo zi)))
@[simp] def z0P:FS:=(z4R (z6F (za (eC (.int 2)) zi)) (yJ 5) (zM z0Y (zM z16 (zM z31 z2U))))
@[simp] def qG:FS:=(wq 7 (z3I (za (ze zU (za (zd 3) zi)) (za (ze zJ (za (zd 3) zi)) zi))))
@[simp] noncomputable def zaF:FS:=(wN (eC (.bl false)))
@[simp] def jM:FS:=(fIf (z74 (tOf (ze wS (za (zd 7) (za (z3I (za (ze uD (za (zF (zR (eOp dIx (eOp dIx (zd 4) (eC (.int 0))) (eC (.int 0)))) [none] (yJ 0) yr (ze z0k (za (zd 0) zi))) zi)) (za (ze z9F (za (zF (zR (eOp dIx (eOp dIx (zd 4) (eC (.int 1))) (eC (.int 0)))) [none] (yJ 0) yr (ze z0k (za (zd 0) zi))) zi)) zi))) zi))))) zaF vf)
@[simp] def z5c:FS:=(z4R (z6F (za (ze zaf (za (eC (.int 1)) (za (ze zaE (za (ze vj (za (zd 0) zi)) (za (eC (.int 3)) zi))) zi))) zi)) (yJ 1) (zM z0C (zM z1B (zM z1e (zM z0P (zM qG jM))))))
@[simp] def z3k:FS:=(wN (z1N (eOp dEq (jD (ze zq (za (jo (za (eC (.int 1000)) (za (eC (.int 999)) zi))) zi))) (z3I (za (jo (za (z7l (eC (.int 999))) (za (eC (.int 1000)) zi))) (za (jo (za (eC (.int 999)) (za (z7l (eC (.int 1000))) zi))) zi)))) (eOp dEq (ze zJ (za (jo (za (eC (.int 5)) (za (eC (.int 0)) zi))) zi)) (eC (.int 1)))))
def zaP:FS:=(zM z5c z3k)
def zcr:Mir:=Mof ["_law_script","_law_at","_law_pot_here","_law_lot","_law_due_here","_law_turn","_law_found","_law_told"] 1 zaP
end K51
set_option maxHeartbeats 6000000
namespace K51
open L2 Dd Pg
structure Txt(mg:Str->Option Value):Prop where
 f0:∃t,mg "LEAST_SIZE"=some (.int 2 t)
 f1:∃t,mg "MOST_NUMBER"=some (.int 1000 t)
 f2:∃t,mg "MOST_SIZE"=some (.int 4 t)
 f3:mg "abs"=none
 f4:mg "all"=none
 f5:mg "bool"=none
 f6:mg "int"=none
 f7:mg "isinstance"=none
 f8:mg "len"=none
 f9:mg "list"=none
 f10:mg "max"=none
 f11:mg "min"=none
 f12:mg "range"=none
 f13:mg "set"=none
 f14:mg "sorted"=none
 f15:mg "str"=none
 f16:mg "sum"=none
 f17:mg "tuple"=none
 f18:mg "zip"=none
theorem z0G:bootBuiltins "abs"=some (.builtin "abs"):=by decide +kernel
theorem zaK:bootBuiltins "all"=some (.builtin "all"):=by decide +kernel
theorem z3h:bootBuiltins "bool"=some (.type "bool"):=by decide +kernel
theorem z8J:bootBuiltins "int"=some (.type "int"):=by decide +kernel
theorem uY:bootBuiltins "len"=some (.builtin "len"):=by decide +kernel
theorem z7Z:bootBuiltins "list"=some (.type "list"):=by decide +kernel
theorem z0O:bootBuiltins "max"=some (.builtin "max"):=by decide +kernel
theorem z4p:bootBuiltins "min"=some (.builtin "min"):=by decide +kernel
theorem zb5:bootBuiltins "set"=some (.type "set"):=by decide +kernel
theorem uu:bootBuiltins "sorted"=some (.builtin "sorted"):=by decide +kernel
theorem zb6:bootBuiltins "str"=some (.type "str"):=by decide +kernel
theorem z5Y:bootBuiltins "sum"=some (.builtin "sum"):=by decide +kernel
theorem jE:bootBuiltins "tuple"=some (.type "tuple"):=by decide +kernel
theorem zhS:(["_law_lot","_law_way"]:List Str).Nodup:=by decide +kernel
theorem zgO:(["_law_one"]:List Str).Nodup:=by decide +kernel
theorem zh9:(["number"]:List Str).Nodup:=by decide +kernel
theorem zfu:(["line"]:List Str).Nodup:=by decide +kernel
theorem zgP:(["least","line"]:List Str).Nodup:=by decide +kernel
theorem zhr:(["part"]:List Str).Nodup:=by decide +kernel
theorem zhK:(["second","first"]:List Str).Nodup:=by decide +kernel
theorem zgX:(["least","most","ahead","number"]:List Str).Nodup:=by decide +kernel
theorem zhP:(["one","other"]:List Str).Nodup:=by decide +kernel
theorem zhO:(["_law_one","_law_other"]:List Str).Nodup:=by decide +kernel
theorem zfC:(["_law_pot_here","_law_far","_law_place"]:List Str).Nodup:=by decide +kernel
theorem zgF:(["_law_other","_law_one"]:List Str).Nodup:=by decide +kernel
theorem zeP:(["_law_number"]:List Str).Nodup:=by decide +kernel
theorem zdf:(["_law_a","_law_b"]:List Str).Nodup:=by decide +kernel
theorem zfP:(["_law_mine","_law_own"]:List Str).Nodup:=by decide +kernel
theorem zgG:(["_law_c"]:List Str).Nodup:=by decide +kernel
theorem zgu:(["_law_other","_law_weight","_law_one"]:List Str).Nodup:=by decide +kernel
section
local macro_rules | `(tactic| trivial)=>`(tactic| exact⟨rfl,rfl,rfl,by decide +kernel,rfl,by decide +kernel,by decide +kernel⟩)
theorem z5n:zN ["thing"] ["thing"] (zm jg):=by trivial
theorem z5t:zN ["thing"] ["thing"] (zm qW):=by trivial
theorem xP:zN ["size","least","most","found","place"] ["size","least","most"] (zm wQ):=by trivial
theorem z5a:zN ["line","numbers"] ["line","numbers"] (zm qT):=by trivial
theorem z8A:zN ["line"] ["line"] (zm z14):=by trivial
theorem z8X:zN ["line"] ["line"] (zm z1q):=by trivial
theorem z0U:zN ["_law_script","_law_k"] ["_law_script","_law_k"] (zm vL):=by trivial
theorem wT:zN ["_law_cell","_law_number","_law_j","_law_more"] ["_law_cell"] (zm jm):=by trivial
theorem kH:zN ["_law_pot_here","_law_far","_law_found"] ["_law_pot_here","_law_far"] (zm qE):=by trivial
theorem z32:zN ["_law_found"] ["_law_found"] (zm uS):=by trivial
theorem ve:zN ["_law_numbers","_law_found","_law_number"] ["_law_numbers"] (zm uk):=by trivial
theorem z51:zN ["_law_one","_law_lot"] ["_law_one","_law_lot"] (zm ja):=by trivial
theorem vT:zN ["_law_many","_law_length","_law_found","_law_a"] ["_law_many","_law_length"] (zm vV):=by trivial
theorem z2X:zN ["thing","many"] ["thing","many"] (zm uH):=by trivial
theorem zQ:zN ["lot","most","middle","by_sum","first","found","second"] ["lot","most"] (zm wu):=by trivial
theorem z4P:zN ["_law_found","_law_due_here"] ["_law_found","_law_due_here"] (zm ud):=by trivial
theorem yQ:zN ["_law_pot_here","_law_size","_law_far","_law_found","_law_at","_law_to","_law_way"] ["_law_pot_here","_law_size"] (zm wW):=by trivial
theorem va:zN ["_law_lot","_law_some","_law_known","_law_one","_law_key"] ["_law_lot","_law_some"] (zm um):=by trivial
theorem z7M:zN ["thing"] ["thing"] (zm z1y):=by trivial
theorem zL:zN ["_law_lot","_law_weight","_law_sides","_law_pairs","_law_a","_law_known","_law_others","_law_found","_law_other","_law_some"] ["_law_lot","_law_weight"] (zm vt):=by trivial
theorem xF:zN ["_law_lot","_law_length","_law_found","_law_used","_law_known","_law_other"] ["_law_lot","_law_length"] (zm vR):=by trivial
theorem z4X:zN ["thing"] ["thing"] (zm qU):=by trivial
theorem wk:zN ["_law_way","_law_lot","_law_least","_law_one","_law_number","_law_found"] ["_law_way","_law_lot"] (zm jc):=by trivial
theorem z3i:zN ["lot"] ["lot"] (zm uM):=by trivial
theorem wy:zN ["lot","most","found","least"] ["lot"] (zm qr):=by trivial
theorem qu:zN ["lot","found","least"] ["lot"] (zm qf):=by trivial
theorem z0K:zN ["lot"] ["lot"] (zm vP):=by trivial
theorem z0T:zN ["lot"] ["lot"] (zm vU):=by trivial
theorem kN:zN ["_law_script","_law_at","_law_pot_here","_law_lot","_law_due_here","_law_turn","_law_found","_law_told"] ["_law_script"] (zm z1X):=by trivial
end
section
variable {P:Program}{w:World}{K:W.Frag}{mg:Str->Option Value}{base:Heap}(T:Txt mg){f:Addr}{fd:FuncData}
include T
local macro_rules | `(tactic| trivial)=>`(tactic| first | exact (λ_ _ _ _ _ _ us hl=>match us,hl with | [_],_=>rfl) | exact (λ_ _ _ _ _ _ us hl=>match us,hl with | [_,_],_=>rfl) | exact (λ_ _ _ _ _ _ us hl=>match us,hl with | [_,_,_],_=>rfl))
theorem z4z(F:Fun K "is_whole" "is_whole" jg f fd)(hm:mg "is_whole"=some (.ref f))  : Has P w K mg base CX0 "is_whole" 1 Pg.uF:= (yI F hm (F.binds (ps:=["thing"]) (by trivial)) z5n rfl λcdv A outer s H E hr hc=> have hu:=hr.units;(zt (yT (z3n (z57 (by decide) z8J (by rfl) T.f7 (by rfl) T.f6 (zc 0)) (z3d (zdW (z57 (by decide) z3h (by rfl) T.f7 (by rfl) T.f5 (zc 0))))))))
theorem z4q (F:Fun K "has_size" "has_size" qW f fd) (hm:mg "has_size"=some (.ref f))  : Has P w K mg base CX0 "has_size" 1 Pg.vE:= (yI F hm (F.binds (ps:=["thing"]) (by trivial)) z5t rfl λcdv A outer s H E hr hc=> have hu:=hr.units;(zt (yT (z3n (z57 (by decide) jE (by rfl) T.f7 (by rfl) T.f17 (zc 0)) (z3d (zch zgJ zgJ (zgC (by rfl) T.f0) (zD z00 (by rfl) T.f8 uY (aN (zc 0) zh) (he:=(zp ..))) (zgC (by rfl) T.f2)))))))
theorem jF(F:Fun K "tuples_between" "tuples_between" wQ f fd)(hm:mg "tuples_between"=some (.ref f))  : Has P w K mg base CX0 "tuples_between" 1 Pg.zO:= (yI F hm (F.binds (ps:=["size","least","most"]) (by trivial)) xP rfl λcdv A outer s H E hr hc=> have hu:=hr.units;(zg (yU 3 xP.nd (z1K (aT (jy zh) zh))) (zg (kA _W hc (qX (by rfl) T.f12 (aN (zc 0) zh)) (uG 4 xP.nd) (zt (zcu 3 ["least","most","ahead","number"] [some 1,some 2,none,none] 2 3 xP.nd hc (wY (zc 3)) (λ_ _ _=>yk (i:=2) zgX (by rfl) (by first | exact Or.inl rfl | exact Or.inr rfl)) (λ_ _ _=>yk (i:=3) zgX (by rfl) (by first | exact Or.inl rfl | exact Or.inr rfl)) (λ_ _ _=>(z69 (by rfl) T.f12 (aN (zc 0) (aB (yp qB (zc 1) zB) zh)))) (λ_ _ _=>(yp qB (zc 2) (jy (aN (zc 3) zh))))))) (zt (yT (zc 3))))))
theorem z4I (F:Fun K "together" "together" qT f fd) (hm:mg "together"=some (.ref f))  : Has P w K mg base CX0 "together" 1 Pg.zW:= (yI F hm (F.binds (ps:=["line","numbers"]) (by trivial)) z5a rfl λcdv A outer s H E hr hc=> have hu:=hr.units;(zt (yT (zD (zaq (by exact hc)) (by rfl) T.f16 z5Y (aO (xr ["one","other"] [none,none] (by exact hc) (zbC (by rfl) T.f18 (aN (zc 0) (aN (zc 1) zh))) (λ_ _ _=>z3g 0 1 (by exact hc) zhP) (z2m 0 1 (by decide) (by rfl) (by rfl)) (λ_ _ _=>yL) (λ_ _ _=>(yp kL (zc 0) (zc 1)))) zh) (he:=(yE ..))))))
theorem z78 (F:Fun K "weight" "weight" z14 f fd) (hm:mg "weight"=some (.ref f))  : Has P w K mg base CX0 "weight" 1 Pg.yz:= (yI F hm (F.binds (ps:=["line"]) (by trivial)) z8A rfl λcdv A outer s H E hr hc=> have hu:=hr.units;(zt (yT (zD (z22 (by exact hc)) (by rfl) T.f10 z0O (aO (xr ["number"] [none] (by exact hc) (wY (zc 0)) (λ_ _ _=>yk (i:=0) zh9 (by rfl) (by first | exact Or.inl rfl | exact Or.inr rfl)) (yg 0 (by rfl)) (λ_ _ _=>yL) (λ_ _ _=>(zD z5v (by rfl) T.f3 z0G (aN (zc 0) zh) (he:=(zp ..))))) zh) (he:=(yE ..))))))
theorem z6L (F:Fun K "length" "length" z1q f fd) (hm:mg "length"=some (.ref f))  : Has P w K mg base CX0 "length" 1 Pg.ym:= (yI F hm (F.binds (ps:=["line"]) (by trivial)) z8X rfl λcdv A outer s H E hr hc=> have hu:=hr.units;(zt (yT (zD (zaq (by exact hc)) (by rfl) T.f16 z5Y (aO (xr ["number"] [none] (by exact hc) (wY (zc 0)) (λ_ _ _=>yk (i:=0) zh9 (by rfl) (by first | exact Or.inl rfl | exact Or.inr rfl)) (yg 0 (by rfl)) (λ_ _ _=>yL) (λ_ _ _=>(zD z5v (by rfl) T.f3 z0G (aN (zc 0) zh) (he:=(zp ..))))) zh) (he:=(yE ..))))))
theorem z0h (F:Fun K "_law_cell_at" "_law_cell_at" vL f fd) (hm:mg "_law_cell_at"=some (.ref f))  : Has P w K mg base CX0 "_law_cell_at" 1 Pg.xo:= (yI F hm (F.binds (ps:=["_law_script","_law_k"]) (by trivial)) z0U rfl λcdv A outer s H E hr hc=> have hu:=hr.units;(zg (z2l (wC zi3 (zc 1) (zD z00 (by rfl) T.f8 uY (aN (zc 0) zh) (he:=(zp ..)))) (zt (yT (z3H (zc 0) (zc 1)))) wH) (zt (yT zB))))
theorem z4D(F:Fun K "_law_pot" "_law_pot" jm f fd)(hm:mg "_law_pot"=some (.ref f))  : Has P w K mg base CX0 "_law_pot" 1 Pg.vF:= (yI F hm (F.binds (ps:=["_law_cell"]) (by trivial)) wT rfl λcdv A outer s H E hr hc=> have hu:=hr.units;(zg (z2l (wC zhi (zc 0) (yp zer zB zB)) (zt (yT (z5q (aB (yp je (zc 0) (yp zer zB zB)) zh)))) wH) (zg (yU 1 wT.nd zB) (zg (kA _W hc (qX (by rfl) T.f12 (aK zB zh)) (uG 2 wT.nd) (zg (yU 3 wT.nd (yp z8j (yp kL (yp qB (yp qB (yp z8j (zc 0) zB) (yp kL zB (zc 2))) zB) zB) zB)) (zg (yU 3 wT.nd (yp z8j (yp qB (yp qB (yp kL (zc 3) (zc 3)) (yp kL zB (zc 2))) zB) zB)) (zt (yU 1 wT.nd (yp qB (yp kL (zc 1) zB) (zc 3))))))) (zt (yT (z5q (aN (zc 1) zh))))))))
theorem z2s(F:Fun K "_law_take" "_law_take" qE f fd)(hm:mg "_law_take"=some (.ref f))  : Has P w K mg base CX0 "_law_take" 1 Pg.zV:= (yI F hm (F.binds (ps:=["_law_pot_here","_law_far"]) (by trivial)) kH rfl λcdv A outer s H E hr hc=> have hu:=hr.units;(zg (yU 2 kH.nd (yp z8j (z3H (zc 0) zB) (zc 1))) (zg (z6d (yp z6h (z3H (zc 0) zB) (zc 1)) (zc 0) zB) (zt (yT (zc 2))))))
theorem z1G(F:Fun K "_law_whole" "_law_whole" uS f fd)(hm:mg "_law_whole"=some (.ref f))  : Has P w K mg base CX0 "_law_whole" 1 Pg.xG:= (yI F hm (F.binds (ps:=["_law_found"]) (by trivial)) z32 rfl λcdv A outer s H E hr hc=> have hu:=hr.units;(zt (yT (z3n (z57 (by decide) z8J (by rfl) T.f7 (by rfl) T.f6 (zc 0)) (z3d (zdW (z57 (by decide) z3h (by rfl) T.f7 (by rfl) T.f5 (zc 0))))))))
theorem z0F(F:Fun K "_law_common" "_law_common" uk f fd)(hm:mg "_law_common"=some (.ref f))  : Has P w K mg base CX0 "_law_common" 1 xR:= (yI F hm (F.binds (ps:=["_law_numbers"]) (by trivial)) ve rfl λcdv A outer s H E hr hc=> have hu:=hr.units;(zg (yU 1 ve.nd zB) (zg (kA _W hc (wY (zc 0)) (uG 2 ve.nd) (zt (z5f _W (wC zft (zc 2) zB) (zt (zf4 1 2 hc ve.nd (aN (zc 2) (aB (yp z8j (zc 1) (zc 2)) zh))))))) (zt (yT (zc 1))))))
theorem z3W (F:Fun K "_law_sum" "_law_sum" ja f fd) (hm:mg "_law_sum"=some (.ref f))  : Has P w K mg base CX0 "_law_sum" 1 Pg.zS:= (yI F hm (F.binds (ps:=["_law_one","_law_lot"]) (by trivial)) z51 rfl λcdv A outer s H E hr hc=> have hu:=hr.units;(zt (yT (zD (zaq (by exact hc)) (by rfl) T.f16 z5Y (aO (xr ["_law_mine","_law_own"] [none,none] (by exact hc) (zbC (by rfl) T.f18 (aN (zc 0) (aN (zc 1) zh))) (λ_ _ _=>z3g 0 1 (by exact hc) zfP) (z2m 0 1 (by decide) (by rfl) (by rfl)) (λ_ _ _=>yL) (λ_ _ _=>(yp kL (zc 0) (zc 1)))) zh) (he:=(yE ..))))))
theorem z09 (F:Fun K "_law_so_long" "_law_so_long" vV f fd) (hm:mg "_law_so_long"=some (.ref f))  : Has P w K mg base CX0 "_law_so_long" 1 yf:= (yI F hm (F.binds (ps:=["_law_many","_law_length"]) (by trivial)) vT rfl λcdv A outer s H E hr hc=> have hu:=hr.units;(zg (z2l (wC (z4Q hu) (zc 0) zB) (zt (yT (z3C ["_law_number"] [none] (by exact hc) (wY (zgQ (by exact hc) (zc 1) (yp je zB (zc 1)) (by rfl) T.f14 uu (by rfl) T.f13 zb5)) (λ_ _ _=>yk (i:=0) zeP (by rfl) (by first | exact Or.inl rfl | exact Or.inr rfl)) (yg 0 (by rfl)) (λ_ _ _=>yL) (λ_ _ _=>(jy (aN (zc 0) zh)))))) wH) (zg (yU 2 vT.nd (z5q zh)) (zg (kA _W hc (z69 (by rfl) T.f12 (aB (yp je zB (zc 1)) (aB (yp qB (zc 1) zB) zh))) (uG 3 vT.nd) (zt (jV (z0u (zc 2) (xr ["_law_a","_law_b"] [some 3,none] (by exact hc) (wY (zgQ (by exact hc) (yp je (zc 1) (zD z5v (by rfl) T.f3 z0G (aN (zc 3) zh) (he:=(zp ..)))) (yp je (zD z5v (by rfl) T.f3 z0G (aN (zc 3) zh) (he:=(zp ..))) (zc 1)) (by rfl) T.f14 uu (by rfl) T.f13 zb5)) (λ_ _ _=>yk (i:=1) zdf (by rfl) (by first | exact Or.inl rfl | exact Or.inr rfl)) (yg 1 (by rfl)) (λ_ _ _=>yL) (λ_ _ _=>(jy (aN (zc 0) (aN (zc 1) zh))))))))) (zt (yT (zc 2)))))))
theorem z1O (F:Fun K "are_wholes" "are_wholes" uH f fd) (hm:mg "are_wholes"=some (.ref f)) (H_is_whole:Has P w K mg base CX0 "is_whole" 1 Pg.uF):Has P w K mg base CX0 "are_wholes" 2 Pg.wv:= (yI F hm (F.binds (ps:=["thing","many"]) (by trivial)) z2X rfl λcdv A outer s H E hr hc=> have hu:=hr.units;(zg (z2l (RW.rt (zgw (z5k (z33 (z57 (by decide) jE (by rfl) T.f7 (by rfl) T.f17 (zc 0)))) (zbY (wC (zfH hu) (zD z00 (by rfl) T.f8 uY (aN (zc 0) zh) (he:=(zp ..))) (zc 1))))) (zt (yT zeR)) wH) (zt (yT (zD (zel (by exact hc)) (by rfl) T.f4 zaK (aO (xr ["part"] [none] (by exact hc) (wY (zc 0)) (λ_ _ _=>yk (i:=0) zhr (by rfl) (by first | exact Or.inl rfl | exact Or.inr rfl)) (yg 0 (by rfl)) (λ_ _ _=>yL) (λ_ _ _=>(vq H_is_whole hr ye (aN (zc 0) zh)))) zh) (he:=(yE ..)))))))
theorem qK (F:Fun K "relations_within" "relations_within" wu f fd) (hm:mg "relations_within"=some (.ref f)) (H_tuples_between:Has P w K mg base CX0 "tuples_between" 1 Pg.zO) (H_together:Has P w K mg base CX0 "together" 1 Pg.zW) (H_weight:Has P w K mg base CX0 "weight" 1 Pg.yz):Has P w K mg base CX0 "relations_within" 2 Pg.zj:= (yI F hm (F.binds (ps:=["lot","most"]) (by trivial)) zQ rfl λcdv A outer s H E hr hc=> have hu:=hr.units;(zg (yU 2 zQ.nd (yp z6h (zD z00 (by rfl) T.f8 uY (aN (zc 0) zh) (he:=(zp ..))) zB)) (zg (yU 3 zQ.nd zbe) (zg (kA _W hc (wY (vq H_tuples_between hr ye (aN (zc 2) (aU (z86 (zc 1)) (aN (zc 1) zh))))) (uG 4 zQ.nd) (zt (jV (zdA 4 (zc 3) (vq H_together hr ye (aN (zc 4) (aS (z18 (zc 0) z4b (z4y (zc 2))) zh))))))) (zg (yU 5 zQ.nd (z5q zh)) (zg (kA _W hc (wY (vq H_tuples_between hr ye (aB (yp je (zD z00 (by rfl) T.f8 uY (aN (zc 0) zh) (he:=(zp ..))) (zc 2)) (aU (z86 (zc 1)) (aN (zc 1) zh))) (he:=(z2W ..)))) (uG 6 zQ.nd) (zt (ze7 5 zQ.nd (xr ["second","first"] [some 6,none] (by exact hc) (wY (z5g hu (zc 3) (z86 (vq H_together hr ye (aN (zc 6) (aS (z18 (zc 0) (z4y (zc 2)) z4b) zh)))))) (λ_ _ _=>yk (i:=1) zhK (by rfl) (by first | exact Or.inl rfl | exact Or.inr rfl)) (yg 1 (by rfl)) (λ_ _ _=>yL) (λ_ _ _=>(yp qB (zc 1) (zc 0))))))) (zt (yT (zD z2S (by rfl) T.f14 uu (aO (xr ["line"] [none] (by exact hc) (wY (zc 5)) (λ_ _ _=>yk (i:=0) zfu (by rfl) (by first | exact Or.inl rfl | exact Or.inr rfl)) (yg 0 (by rfl)) (λ_ _ _=>z2u (wC zft (vq H_weight hr ye (aN (zc 0) zh)) zB)) (λ_ _ _=>(zc 0))) zh) (he:=(yE ..))))))))))).tidy
theorem wd (F:Fun K "_law_same" "_law_same" ud f fd) (hm:mg "_law_same"=some (.ref f)) (H__law_whole:Has P w K mg base CX0 "_law_whole" 1 Pg.xG) (k:Nat) (Hr:Has P w K mg base CX0 "_law_same" (k+1) (yu k)):Has P w K mg base CX0 "_law_same" (k+1+1) (yu (k+1)):= (yI F hm (F.binds (ps:=["_law_found","_law_due_here"]) (by trivial)) z4P rfl λcdv A outer s H E hr hc=> have hu:=hr.units;(zg (z2l (wC zgS (zc 1) zf0) (zt (yT (jz zgS (zc 0) zf0))) wH) (zg (z2l (z33 (z57 (by decide) z3h (by rfl) T.f7 (by rfl) T.f5 (zc 1))) (zt (yT (z3n (z57 (by decide) z3h (by rfl) T.f7 (by rfl) T.f5 (zc 0)) (z3d (jz (z4Q hu) (zc 0) (zc 1)))))) wH) (zg (z2l (z33 (z57 (by decide) z8J (by rfl) T.f7 (by rfl) T.f6 (zc 1))) (zt (yT (z3n (z9b H__law_whole (hr.mono (by omega)) ye (by rfl) (aN (zc 0) zh)) (z3d (jz (z4Q hu) (zc 0) (zc 1)))))) wH) (zg (z2l (z33 (z57 (by decide) zb6 (by rfl) T.f7 (by rfl) T.f15 (zc 1))) (zt (yT (z3n (z57 (by decide) zb6 (by rfl) T.f7 (by rfl) T.f15 (zc 0)) (z3d (jz (z4Q hu) (zc 0) (zc 1)))))) wH) (zg (z2l (RW.rt (zgw (wC (zfH hu) (z57 (by decide) jE (by rfl) T.f7 (by rfl) T.f17 (zc 1)) (z57 (by decide) jE (by rfl) T.f7 (by rfl) T.f17 (zc 0))) (zbY (wC (zfH hu) (z57 (by decide) z7Z (by rfl) T.f7 (by rfl) T.f9 (zc 1)) (z57 (by decide) z7Z (by rfl) T.f7 (by rfl) T.f9 (zc 0)))))) (zt (yT zeR)) wH) (zt (yT (z3n (jz (z4Q hu) (zD z00 (by rfl) T.f8 uY (aN (zc 0) zh) (he:=(zp ..))) (zD z00 (by rfl) T.f8 uY (aN (zc 1) zh) (he:=(zp ..)))) (z3d (zD (zel (by exact hc)) (by rfl) T.f4 zaK (aO (xr ["_law_one","_law_other"] [none,none] (by exact hc) (zbC (by rfl) T.f18 (aN (zc 0) (aN (zc 1) zh))) (λ_ _ _=>z3g 0 1 (by exact hc) zhO) (z2m 0 1 (by decide) (by rfl) (by rfl)) (λ_ _ _=>yL) (λ_ _ _=>(z9b Hr hr ye (by rfl) (aN (zc 0) (aN (zc 1) zh))))) zh) (he:=(yE ..)))))))))))))
theorem z2Z(F:Fun K "_law_same" "_law_same" ud f fd)(hm:mg "_law_same"=some (.ref f))(H__law_whole:Has P w K mg base CX0 "_law_whole" 1 Pg.xG):Has P w K mg base CX0 "_law_same" 6 wS:= (wd T F hm H__law_whole 4 (wd T F hm H__law_whole 3 (wd T F hm H__law_whole 2 (wd T F hm H__law_whole 1 (wd T F hm H__law_whole 0 ((zeZ F hm (F.binds (ps:=["_law_found","_law_due_here"]) (by trivial))).mono (by decide)))))))
theorem jT (F:Fun K "_law_small_lot" "_law_small_lot" wW f fd) (hm:mg "_law_small_lot"=some (.ref f)) (H__law_take:Has P w K mg base CX0 "_law_take" 1 Pg.zV):Has P w K mg base CX0 "_law_small_lot" 2 Pg.xh:= (yI F hm (F.binds (ps:=["_law_pot_here","_law_size"]) (by trivial)) yQ rfl λcdv A outer s H E hr hc=> have hu:=hr.units;(zg (yU 2 yQ.nd (z3H (z1K (aK zB (aK zB (aK zB zh)))) (vq H__law_take hr ye (aN (zc 0) (aK zB zh))))) (zg (zcy 3 ["_law_pot_here","_law_far","_law_place"] [some 0,some 2,none] yQ.nd hc (qX (by rfl) T.f12 (aN (zc 1) zh)) (λ_ _ _=>yk (i:=2) zfC (by rfl) (by first | exact Or.inl rfl | exact Or.inr rfl)) (yg 2 (by rfl)) (λ_ _ _=>yL) (λ_ _ _=>(vq H__law_take hr ye (aN (zc 0) (aN (zc 1) zh))))) (zg (zf4 4 5 hc yQ.nd (aQ (vq H__law_take hr ye (aN (zc 0) (aN (zc 1) zh))) (aQ (vq H__law_take hr ye (aN (zc 0) (aN (zc 1) zh))) zh))) (zg (yU 6 yQ.nd (vq H__law_take hr ye (aN (zc 0) (aK zB zh)))) (zg (z2l (wC (z4Q hu) (zc 6) zB) (zt (z6d zB (zc 3) (zc 4))) wH) (zg (z2l (wC (z4Q hu) (zc 6) zB) (zt (z6d (z3H (zc 3) (zc 5)) (zc 3) (zc 4))) wH) (zg (z2l (wC (z4Q hu) (zD (z22 (by exact hc)) (by rfl) T.f10 z0O (aN (zc 3) zh) (he:=(zp ..))) zB) (zt (z6d (yp qB zB (vq H__law_take hr ye (aN (zc 0) (aB (yp je (zc 2) zB) zh)))) (zc 3) (zc 5))) wH) (zt (yT (zbI zcS (by rfl) T.f17 jE (aN (zc 3) zh) (he:=(zp ..))))))))))))).tidy
theorem z0W(F:Fun K "_law_halves" "_law_halves" um f fd)(hm:mg "_law_halves"=some (.ref f))(H__law_sum:Has P w K mg base CX0 "_law_sum" 1 Pg.zS):Has P w K mg base CX0 "_law_halves" 2 yB:= (yI F hm (F.binds (ps:=["_law_lot","_law_some"]) (by trivial)) va rfl λcdv A outer s H E hr hc=> have hu:=hr.units;(zg (yU 2 va.nd zbe) (zg (kA _W hc (wY (zc 1)) (uG 3 va.nd) (zg (yU 4 va.nd (vq H__law_sum hr ye (aN (zc 3) (aS (z18 (zc 0) z4b (z4y zB)) zh)))) (zt (zdy 2 4 3)))) (zt (yT (zc 2))))))
theorem z6G (F:Fun K "is_lot" "is_lot" z1y f fd) (hm:mg "is_lot"=some (.ref f)) (H_has_size:Has P w K mg base CX0 "has_size" 1 Pg.vE) (H_are_wholes:Has P w K mg base CX0 "are_wholes" 2 Pg.wv):Has P w K mg base CX0 "is_lot" 3 Pg.uL:= (yI F hm (F.binds (ps:=["thing"]) (by trivial)) z7M rfl λcdv A outer s H E hr hc=> have hu:=hr.units;(zg (z2l (RW.rt (zgw (z5k (z33 (vq H_has_size hr ye (aN (zc 0) zh)))) (zbY (z5k (z33 (vq H_are_wholes hr ye (aN (zc 0) (aQ (zD z00 (by rfl) T.f8 uY (aN (zc 0) zh) (he:=(zp ..))) zh)))))))) (zt (yT zeR)) wH) (zt (yT (z3n (jz zhi (zD (z5K (by exact hc)) (by rfl) T.f11 z4p (aN (zc 0) zh) (he:=(zp ..))) zB) (z3d (jz zft (zD (z22 (by exact hc)) (by rfl) T.f10 z0O (aN (zc 0) zh) (he:=(zp ..))) zB)))))))
theorem ku (F:Fun K "_law_weighing" "_law_weighing" vt f fd) (hm:mg "_law_weighing"=some (.ref f)) (H__law_sum:Has P w K mg base CX0 "_law_sum" 1 Pg.zS) (H__law_halves:Has P w K mg base CX0 "_law_halves" 2 yB):Has P w K mg base CX0 "_law_weighing" 3 zG:= (yI F hm (F.binds (ps:=["_law_lot","_law_weight"]) (by trivial)) zL rfl λcdv A outer s H E hr hc=>by
  have hu:=hr.units;refine zg ?_ ?_;·exact (yU 2 zL.nd (z4u (by exact hc) (by rfl) T.f9 (by rfl) T.f12 (aB (yp je zB (zc 1)) (aB (yp qB (zc 1) zB) zh))))
  refine zc3 3 ?_ ?_ ?_;·exact (yU 3 zL.nd (z5q zh))
  ·refine kA _W hc (wY (zc 2)) (uG 4 zL.nd) ?_;refine zt ?_;exact (jV (z0u (zc 3) (xr ["_law_a","_law_b"] [some 4,none] (by exact hc) (wY (zc 2)) (λ_ _ _=>yk (i:=1) zdf (by rfl) (by first | exact Or.inl rfl | exact Or.inr rfl)) (yg 1 (by rfl)) (λ_ _ _=>yL) (λ_ _ _=>(jy (aN (zc 0) (aN (zc 1) zh)))))))
  refine zg ?_ ?_;·exact (yU 5 zL.nd (vq H__law_halves hr ye (aN (zc 0) (aN (zc 3) zh))))
  refine zg ?_ ?_;·exact (z7U 6 ["_law_c"] [none] zL.nd hc (wY (zc 2)) (λ_ _ _=>yk (i:=0) zgG (by rfl) (by first | exact Or.inl rfl | exact Or.inr rfl)) (yg 0 (by rfl)) (λ_ _ _=>yL) (λ_ _ _=>(jy (aN (zc 0) zh))))
  refine zg ?_ ?_
  ·refine z2l (wC (z4Q hu) (zD z00 (by rfl) T.f8 uY (aN (zc 0) zh) (he:=(zp ..))) zB) ?_ ?_
   ·refine zt ?_;exact (yU 6 zL.nd (zc 3))
   ·exact wH
  refine zg ?_ ?_;·exact (yU 7 zL.nd (z5q zh))
  refine zg ?_ ?_
  ·refine kA _W hc (wY (zc 6)) (uG 8 zL.nd) ?_;refine zg ?_ ?_;·exact (yU 9 zL.nd (z5g hu (zc 5) (yp je zB (vq H__law_sum hr ye (aN (zc 8) (aS (z18 (zc 0) (z4y zB) z4b) zh))))))
   refine zt ?_;exact (jV (z0u (zc 7) (xr ["_law_other","_law_weight","_law_one"] [some 8,some 1,none] (by exact hc) (wY (zc 9)) (λ_ _ _=>yk (i:=2) zgu (by rfl) (by first | exact Or.inl rfl | exact Or.inr rfl)) (yg 2 (by rfl)) (λ_ _ _=>z2u (wC (z4Q hu) (zD (z22 (by exact hc)) (by rfl) T.f10 z0O (aO (xr ["_law_number"] [none] (by exact hc) (wY (yp qB (zc 2) (zc 0))) (λ_ _ _=>yk (i:=0) zeP (by rfl) (by first | exact Or.inl rfl | exact Or.inr rfl)) (yg 0 (by rfl)) (λ_ _ _=>yL) (λ_ _ _=>(zD z5v (by rfl) T.f3 z0G (aN (zc 0) zh) (he:=(zp ..))))) zh) (he:=(yE ..))) (zc 1))) (λ_ _ _=>(yp qB (zc 2) (zc 0))))))
  refine zt ?_;exact (yT (zD z2S (by rfl) T.f14 uu (aN (zc 7) zh) (he:=(zp ..))))).tidy
theorem z02 (F:Fun K "_law_lasting" "_law_lasting" vR f fd) (hm:mg "_law_lasting"=some (.ref f)) (H__law_sum:Has P w K mg base CX0 "_law_sum" 1 Pg.zS) (H__law_so_long:Has P w K mg base CX0 "_law_so_long" 1 yf) (H__law_halves:Has P w K mg base CX0 "_law_halves" 2 yB):Has P w K mg base CX0 "_law_lasting" 3 zK:= (yI F hm (F.binds (ps:=["_law_lot","_law_length"]) (by trivial)) xF rfl λcdv A outer s H E hr hc=> have hu:=hr.units;(zg (yU 2 xF.nd (z5q zh)) (zg (kA _W hc (qX (by rfl) T.f12 (aB (yp qB (zc 1) zB) zh)) (uG 3 xF.nd) (zg (yU 4 xF.nd (vq H__law_halves hr ye (aN (zc 0) (aQ (z2d (vq H__law_so_long hr ye (aK zB (aN (zc 3) zh)))) zh)))) (zt (kA _W hc (wY (z2d (vq H__law_so_long hr ye (aB (yp je (zD z00 (by rfl) T.f8 uY (aN (zc 0) zh) (he:=(zp ..))) zB) (aB (yp je (zc 1) (zc 3)) zh)) (he:=(z2W ..))))) (uG 5 xF.nd) (zt (jV (z0u (zc 2) (xr ["_law_other","_law_one"] [some 5,none] (by exact hc) (wY (z5g hu (zc 4) (yp je zB (vq H__law_sum hr ye (aN (zc 5) (aS (z18 (zc 0) (z4y zB) z4b) zh)))))) (λ_ _ _=>yk (i:=1) zgF (by rfl) (by first | exact Or.inl rfl | exact Or.inr rfl)) (yg 1 (by rfl)) (λ_ _ _=>yL) (λ_ _ _=>(yp qB (zc 1) (zc 0))))))))))) (zt (yT (zD z2S (by rfl) T.f14 uu (aN (zc 2) zh) (he:=(zp ..)))))))).tidy
theorem z4K(F:Fun K "want_lot" "want_lot" qU f fd)(hm:mg "want_lot"=some (.ref f))(H_is_lot:Has P w K mg base CX0 "is_lot" 3 Pg.uL):Has P w K mg base CX0 "want_lot" 4 Pg.wR:= (yI F hm (F.binds (ps:=["thing"]) (by trivial)) z4X rfl λcdv A outer s H E hr hc=> have hu:=hr.units;(zt (z2l (z5k (z33 (vq H_is_lot hr ye (aN (zc 0) zh)))) (zt z7I) wH)))
theorem z3Z (F:Fun K "_law_due" "_law_due" jc f fd) (hm:mg "_law_due"=some (.ref f)) (H__law_common:Has P w K mg base CX0 "_law_common" 1 xR) (H__law_weighing:Has P w K mg base CX0 "_law_weighing" 3 zG) (H__law_lasting:Has P w K mg base CX0 "_law_lasting" 3 zK):Has P w K mg base CX0 "_law_due" 4 yw:= (yI F hm (F.binds (ps:=["_law_way","_law_lot"]) (by trivial)) wk rfl λcdv A outer s H E hr hc=> have hu:=hr.units;(zg (z2l (wC (z4Q hu) (zD z00 (by rfl) T.f8 uY (aN (zc 1) zh) (he:=(zp ..))) zB) (zg (yU 2 wk.nd (vq H__law_common hr ye (aN (zc 1) zh))) (zg (yU 3 wk.nd (jy (aB (yp z6h (z3H (zc 1) zB) (zc 2)) (aB (yp je zB (yp z6h (z3H (zc 1) zB) (zc 2))) zh)))) (zt (yT (zD z2S (by rfl) T.f14 uu (aL (z1K (aN (zc 3) (aT (jy (aB (yp je zB (z3H (zc 3) zB)) (aB (yp je zB (z3H (zc 3) zB)) zh))) zh))) zh) (he:=(z6i ..))))))) wH) (zg (yU 4 wk.nd zB) (zg (yU 5 wk.nd (z9p (n:=3) (jQ (Has.mono H__law_weighing (by decide)) (jQ (Has.mono H__law_lasting (by decide)) z5F)) (hr.mono (by decide)) ye (z3H (z1K (uy (zaw H__law_weighing (by rfl)) (uy (zaw H__law_lasting (by rfl)) zh (zp ..)) (zp ..))) (zc 0)) (aN (zc 1) (aN (zc 4) zh)) (he:=(zp ..)))) (zg (z5f _W (wC (z4Q hu) (zc 5) (z1K zh)) (zg (yU 4 wk.nd (yp qB (zc 4) zB)) (zt (yU 5 wk.nd (z9p (n:=3) (jQ (Has.mono H__law_weighing (by decide)) (jQ (Has.mono H__law_lasting (by decide)) z5F)) (hr.mono (by decide)) ye (z3H (z1K (uy (zaw H__law_weighing (by rfl)) (uy (zaw H__law_lasting (by rfl)) zh (zp ..)) (zp ..))) (zc 0)) (aN (zc 1) (aN (zc 4) zh)) (he:=(zp ..))))))) (zt (yT (zc 5))))))))
theorem z1Q (F:Fun K "want_small" "want_small" uM f fd) (hm:mg "want_small"=some (.ref f)) (H_want_lot:Has P w K mg base CX0 "want_lot" 4 Pg.wR):Has P w K mg base CX0 "want_small" 5 Pg.xI:= (yI F hm (F.binds (ps:=["lot"]) (by trivial)) z3i rfl λcdv A outer s H E hr hc=> have hu:=hr.units;(zg (jV (vq H_want_lot hr ye (aN (zc 0) zh))) (zt (z2l (wC zft (zD (z22 (by exact hc)) (by rfl) T.f10 z0O (aN (zc 0) zh) (he:=(zp ..))) (zgC (by rfl) T.f1)) (zt z7I) wH))))
theorem z2T (F:Fun K "by_weight" "by_weight" qr f fd) (hm:mg "by_weight"=some (.ref f)) (H_weight:Has P w K mg base CX0 "weight" 1 Pg.yz) (H_relations_within:Has P w K mg base CX0 "relations_within" 2 Pg.zj) (H_want_small:Has P w K mg base CX0 "want_small" 5 Pg.xI):Has P w K mg base CX0 "by_weight" 6 zq:= (yI F hm (F.binds (ps:=["lot"]) (by trivial)) wy rfl λcdv A outer s H E hr hc=> have hu:=hr.units;(zg (jV (vq H_want_small hr ye (aN (zc 0) zh))) (zg (yU 1 wy.nd zB) (zg (yU 2 wy.nd (vq H_relations_within hr ye (aN (zc 0) (aN (zc 1) zh)))) (zg (z5f _W (z5k (zgj (zc 2))) (zg (yU 1 wy.nd (yp kL zB (zc 1))) (zt (yU 2 wy.nd (vq H_relations_within hr ye (aN (zc 0) (aN (zc 1) zh))))))) (zg (yU 3 wy.nd (zD (z5K (by exact hc)) (by rfl) T.f11 z4p (aO (xr ["line"] [none] (by exact hc) (wY (zc 2)) (λ_ _ _=>yk (i:=0) zfu (by rfl) (by first | exact Or.inl rfl | exact Or.inr rfl)) (yg 0 (by rfl)) (λ_ _ _=>yL) (λ_ _ _=>(vq H_weight hr ye (aN (zc 0) zh)))) zh) (he:=(yE ..)))) (zt (yT (z3C ["least","line"] [some 3,none] (by exact hc) (wY (zc 2)) (λ_ _ _=>yk (i:=1) zgP (by rfl) (by first | exact Or.inl rfl | exact Or.inr rfl)) (yg 1 (by rfl)) (λ_ _ _=>z2u (wC (z4Q hu) (vq H_weight hr ye (aN (zc 1) zh)) (zc 0))) (λ_ _ _=>(zc 1)))))))))))
theorem z3G (F:Fun K "by_length" "by_length" qf f fd) (hm:mg "by_length"=some (.ref f)) (H_length:Has P w K mg base CX0 "length" 1 Pg.ym) (H_relations_within:Has P w K mg base CX0 "relations_within" 2 Pg.zj) (H_by_weight:Has P w K mg base CX0 "by_weight" 6 zq):Has P w K mg base CX0 "by_length" 7 zH:= (yI F hm (F.binds (ps:=["lot"]) (by trivial)) qu rfl λcdv A outer s H E hr hc=> have hu:=hr.units;(zg (yU 1 qu.nd (vq H_relations_within hr ye (aN (zc 0) (aQ (zD (z5K (by exact hc)) (by rfl) T.f11 z4p (aO (xr ["line"] [none] (by exact hc) (wY (z2d (vq H_by_weight hr ye (aN (zc 0) zh)))) (λ_ _ _=>yk (i:=0) zfu (by rfl) (by first | exact Or.inl rfl | exact Or.inr rfl)) (yg 0 (by rfl)) (λ_ _ _=>yL) (λ_ _ _=>(vq H_length hr ye (aN (zc 0) zh)))) zh) (he:=(yE ..))) zh)))) (zg (yU 2 qu.nd (zD (z5K (by exact hc)) (by rfl) T.f11 z4p (aO (xr ["line"] [none] (by exact hc) (wY (zc 1)) (λ_ _ _=>yk (i:=0) zfu (by rfl) (by first | exact Or.inl rfl | exact Or.inr rfl)) (yg 0 (by rfl)) (λ_ _ _=>yL) (λ_ _ _=>(vq H_length hr ye (aN (zc 0) zh)))) zh) (he:=(yE ..)))) (zt (yT (z3C ["least","line"] [some 2,none] (by exact hc) (wY (zc 1)) (λ_ _ _=>yk (i:=1) zgP (by rfl) (by first | exact Or.inl rfl | exact Or.inr rfl)) (yg 1 (by rfl)) (λ_ _ _=>z2u (wC (z4Q hu) (vq H_length hr ye (aN (zc 1) zh)) (zc 0))) (λ_ _ _=>(zc 1))))))))
theorem z0e (F:Fun K "least_weight" "least_weight" vP f fd) (hm:mg "least_weight"=some (.ref f)) (H_weight:Has P w K mg base CX0 "weight" 1 Pg.yz) (H_by_weight:Has P w K mg base CX0 "by_weight" 6 zq):Has P w K mg base CX0 "least_weight" 7 zU:= (yI F hm (F.binds (ps:=["lot"]) (by trivial)) z0K rfl λcdv A outer s H E hr hc=> have hu:=hr.units;(zt (yT (vq H_weight hr ye (aS (z3H (z2d (vq H_by_weight hr ye (aN (zc 0) zh))) zB) zh) (he:=(z35 ..))))))
theorem z06 (F:Fun K "least_length" "least_length" vU f fd) (hm:mg "least_length"=some (.ref f)) (H_length:Has P w K mg base CX0 "length" 1 Pg.ym) (H_by_length:Has P w K mg base CX0 "by_length" 7 zH):Has P w K mg base CX0 "least_length" 8 zJ:= (yI F hm (F.binds (ps:=["lot"]) (by trivial)) z0T rfl λcdv A outer s H E hr hc=> have hu:=hr.units;(zt (yT (vq H_length hr ye (aS (z3H (z2d (vq H_by_length hr ye (aN (zc 0) zh))) zB) zh) (he:=(z35 ..))))))
theorem z6x (F:Fun K "law" "law" z1X f fd) (hm:mg "law"=some (.ref f)) (H__law_cell_at:Has P w K mg base CX0 "_law_cell_at" 1 Pg.xo) (H__law_pot:Has P w K mg base CX0 "_law_pot" 1 Pg.vF) (H__law_take:Has P w K mg base CX0 "_law_take" 1 Pg.zV) (H__law_same:Has P w K mg base CX0 "_law_same" 6 wS) (H__law_small_lot:Has P w K mg base CX0 "_law_small_lot" 2 Pg.xh) (H__law_due:Has P w K mg base CX0 "_law_due" 4 yw) (H_by_weight:Has P w K mg base CX0 "by_weight" 6 zq) (H_by_length:Has P w K mg base CX0 "by_length" 7 zH) (H_least_weight:Has P w K mg base CX0 "least_weight" 7 zU) (H_least_length:Has P w K mg base CX0 "least_length" 8 zJ):z3J P w K mg base CX0 9 f fd ["_law_script"] (zbL ⟨mg,K⟩ zcr):= zdR F kN rfl λcdv A outer s H E hr hc=>by
  have hu:=hr.units;refine zg ?_ ?_
  ·refine kA _W hc (qX (by rfl) T.f12 (aQ (zD (zfl (by exact hc)) (by rfl) T.f10 z0O (aK zB (aQ (zD (zev (by exact hc)) (by rfl) T.f11 z4p (aQ (zD z00 (by rfl) T.f8 uY (aN (zc 0) zh) (he:=(zp ..))) (aK zB zh)) (he:=(z0A ..))) zh)) (he:=(z2b ..))) zh)) (uG 1 kN.nd) ?_;refine zg ?_ ?_;·exact (yU 2 kN.nd (vq H__law_pot hr ye (aQ (vq H__law_cell_at hr ye (aN (zc 0) (aN (zc 1) zh))) zh) (he:=(z0A ..))))
   refine zg ?_ ?_;·exact (yU 3 kN.nd (vq H__law_small_lot hr ye (aN (zc 2) (aB (yp qB zB (vq H__law_take hr ye (aN (zc 2) (aK zB zh)))) zh))))
   refine zg ?_ ?_;·exact (z7U 4 ["_law_lot","_law_way"] [some 3,none] kN.nd hc (qX (by rfl) T.f12 (aK zB zh)) (λ_ _ _=>yk (i:=1) zhS (by rfl) (by first | exact Or.inl rfl | exact Or.inr rfl)) (yg 1 (by rfl)) (λ_ _ _=>yL) (λ_ _ _=>(vq H__law_due hr ye (aN (zc 1) (aN (zc 0) zh)))))
   refine zg ?_ ?_
   ·refine kA _W hc (qX (by rfl) T.f12 (aK zB zh)) (uG 5 kN.nd) ?_;refine zg ?_ ?_;·exact (yU 6 kN.nd (z1K (aQ (vq H_by_weight hr ye (aN (zc 3) zh)) (aQ (vq H_by_length hr ye (aN (zc 3) zh)) zh))))
    refine zg ?_ ?_
    ·refine z2l (z5k (z33 (vq H__law_same hr ye (aN (zc 6) (aN (zc 4) zh))))) ?_ ?_
     ·refine zt ?_;exact (yT zeR)
     ·exact wH
    refine zg ?_ ?_;·exact (jV (z6l (z3H (zc 6) zB) (jy zh)))
    refine zt ?_;exact (jV (z6l (z3H (zc 6) zB) (jy zh)))
   refine zg ?_ ?_;·exact (yU 7 kN.nd (z1K (aQ (vq H_least_weight hr ye (aN (zc 3) zh)) (aQ (vq H_least_length hr ye (aN (zc 3) zh)) zh))))
   refine zt ?_;refine z2l (z5k (z33 (vq H__law_same hr ye (aN (zc 7) (aL (z1K (aQ (zD (z22 (by exact hc)) (by rfl) T.f10 z0O (aO (xr ["_law_one"] [none] (by exact hc) (wY (z3H (z3H (zc 4) zB) zB)) (λ_ _ _=>yk (i:=0) zgO (by rfl) (by first | exact Or.inl rfl | exact Or.inr rfl)) (yg 0 (by rfl)) (λ_ _ _=>yL) (λ_ _ _=>(zD z5v (by rfl) T.f3 z0G (aN (zc 0) zh) (he:=(zp ..))))) zh) (he:=(yE ..))) (aQ (zD (zaq (by exact hc)) (by rfl) T.f16 z5Y (aO (xr ["_law_one"] [none] (by exact hc) (wY (z3H (z3H (zc 4) zB) zB)) (λ_ _ _=>yk (i:=0) zgO (by rfl) (by first | exact Or.inl rfl | exact Or.inr rfl)) (yg 0 (by rfl)) (λ_ _ _=>yL) (λ_ _ _=>(zD z5v (by rfl) T.f3 z0G (aN (zc 0) zh) (he:=(zp ..))))) zh) (he:=(yE ..))) zh))) zh))))) ?_ ?_
   ·refine zt ?_;exact (yT zeR)
   ·exact wH
  refine zt ?_;exact (yT (z3n (jz (z4Q hu) (z2d (vq H_by_weight hr ye (aT (jy (aK zB (aK zB zh))) zh) (he:=(z38 ..)))) (z1K (aT (jy (aU (z86 zB) (aK zB zh))) (aT (jy (aK zB (aU (z86 zB) zh))) zh)))) (z3d (jz (z4Q hu) (vq H_least_length hr ye (aT (jy (aK zB (aK zB zh))) zh) (he:=(z38 ..))) zB))))
end
end K51
namespace Pr
open L2 Dd Pm Pg Pn Po
theorem we:∀(F:List (List Int)),D.flat.flats (F.map rD)=true
 | []=>rfl | r::T=>by
  have:=we T;simp[D.flat.flats,D.flat,this,wZ]
end Pr
namespace Pt
open L2 Dd Pm Pg Pn Po Pr
theorem len_sub {α:Type}:∀{l m:List α},l.Nodup->(∀x∈l,x∈m)->l.length<=m.length
 | [],m,_,_=>_aT _ | a::l,m,nd,h=>by
  obtain⟨h1,h2⟩:=_aR.mp nd;obtain⟨p,q,rfl⟩:=List.append_of_mem (h a (.head _));have:=len_sub (l:=l) (m:=p++q) h2 λx hx=>by
   have z:=h x (.tail _ hx);have ne:x≠a:=λe=>h1 (e ▸ hx);rcases _L.mp z with z | z;·exact _aJ _ z
   ·rcases _j.mp z with z | z;·exact absurd z ne
    ·exact _y _ z
  simp only[_q,_p]at this ⊢;omega
end Pt
namespace Pp
open L2 Dd
open Pm Pg
theorem z2N(s:Sto)(a b:List D):(s++[a]).set s.length b=s++[b]:=by rw[_cr _ _ (by omega)];simp
open Pn
end Pp
namespace Pr
open L2 Dd Pm Pg Pn Po Pp
end Pr
namespace Pt
open L2 Dd Pm Pg Pn Po Pr Pp
end Pt
namespace Pv
open L2 Dd Pm Pg Pn Po Pr Pp Pt
noncomputable def yP(m:Nat):List Int:=(List.range (2*m+1)).map λk:Nat=>-(m:Int)+((k:Nat):Int)
theorem z0t{m:Nat}{x:Int}:x∈yP m ↔ x.natAbs<=m:=by
 unfold yP;rw[_x];constructor
 ·rintro⟨k,hk,rfl⟩;rw[_bc]at hk;omega
 ·intro h;exact⟨(x+m).toNat,by rw[_bc];omega,by omega⟩
theorem z9g(m:Nat):(yP m).Pairwise (· < ·):=by
 unfold yP;rw[_a2];exact List.pairwise_lt_range.imp λ{a b} h=>by omega
noncomputable def box(n m:Nat):List (List Int):=uR (List.replicate n (yP m))
theorem z3f(n m:Nat):box (n+1) m=z9u (box n m) (yP m):=by
 unfold box;rw[List.replicate_succ',qH]
theorem z2O {n m:Nat}:(box n m).length<=(2*m+1) ^ n:=by
 have:=z4G (List.replicate n (yP m)) (k:=2*m+1) λc hc=>by rw[_bw hc];simp[yP]
 simpa[box] using this
theorem z1u(n m:Nat):Up (box n m):=z9I _ λc hc=>by rw[_bw hc];exact z9g m
theorem yo{n m:Nat}{v:List Int}:v∈box n m ↔ v.length=n/\∀x∈v,x.natAbs<=m:=by
 unfold box;rw[z12,_co];constructor
 ·rintro⟨h1,h2⟩;refine⟨h1,λx hx=>?_⟩;obtain⟨i,hi,rfl⟩:=_ah.mp hx;have:=h2 i (by omega);rw[show v.getD i 0=v[i] by simp[_V,hi],show (List.replicate n (yP m)).getD i []=yP m by simp[_V,show i<n by omega]]at this;exact z0t.mp this
 ·rintro⟨h1,h2⟩;refine⟨h1,λi hi=>?_⟩;rw[show (List.replicate n (yP m)).getD i []=yP m by simp[_V,hi]];exact z0t.mpr (h2 _ (Pm.getD_mem (by omega)))
theorem z4c {n m:Nat} (hn:n<=4) (hm:m<=40000) (hs:(2*m+1) ^ n<=90000) (s:Sto):zO [.int n,.int (-(m:Int)),.int m] s=.ok (.lst ((box n m).map rD)) s:=by
 have f1:xy [some (.int n),some (.int (-(m:Int))),some (.int m),none,none] s=.ok (.nx [some (.int n),some (.int (-(m:Int))),some (.int m),some (.lst ((box 0 m).map rD)),none]) s:=by
  rw[xy,yh,z1c,zo,qL,yq];simp[cap,box,uR]
 obtain⟨ρ',S',lp,a4,hρ,rfl⟩:=wL (all:=(List.range n).map λk:Nat=>D.int ((k:Nat):Int)) (body:=λx ρ s=>(yJ 4 x ρ s).bind fun ρ' s'=>xz ρ' s') (λi ρ S'=>∃a4,ρ=[some (.int n),some (.int (-(m:Int))),some (.int m),some (.lst ((box i m).map rD)),a4]/\S'=s) ((List.range n).map λk:Nat=>D.int ((k:Nat):Int)) 0 (by
   intro i x hx ρ S' ⟨a4,hρ,hS⟩;subst hρ hS;rw[_Q];have hi:i<n:=by have:=(_b.mp hx).1;simpa using this
   have eg:((box i m).flatMap λa=>(List.range (2*m+1)).map λk=>rD (a++[-(m:Int)+((k:Nat):Int)]))=(box (i+1) m).map rD:=by
    rw[z3f,z9u,List.map_flatMap,yP];simp[_ad]
   have c:=z8F (fi:=zR (zd 3)) (mp:=[some 1,some 2,none,none]) (k1:=2) (k2:=3) (fi2:=z54 (za (zd 0) (za (eOp jp (zd 1) (eC (.int 1))) zi))) (fe:=eOp jp (zd 2) (jo (za (zd 3) zi))) (ρ:=[some (.int n),some (.int (-(m:Int))),some (.int m),some (.lst ((box i m).map rD)),some x]) (s:=S') rD (λ_ (k:Nat)=>D.int (-(m:Int)+((k:Nat):Int))) (box i m) (λ_=>List.range (2*m+1)) (λa k=>rD (a++[-(m:Int)+((k:Nat):Int)])) (yC (vr rfl)) (λa _=>by
     rw[z8f,zo,vr (d:=.int (-(m:Int))) rfl,Rb,zo,op2 (x:=.int m) (y:=.int 1) (vr rfl) rfl,z21,Rb,yq];simp only[Rb];rw[_g (by omega),show ((m:Int)+1 - -(m:Int)).toNat=2*m+1 by omega];rfl) (λa ha k _=>by
     have la:=(yo.mp ha).1;rw[op2 (x:=rD a) (y:=rD [-(m:Int)+(k:Int)]) (vr rfl) (by
      rw[qL,zo,vr (d:=.int (-(m:Int)+(k:Int))) rfl,Rb,yq];simp[cap]),z60,_g (by simp[cap];omega)];simp) (by
     rw[eg,_m];have h1:=z2O (n:=i+1) (m:=m);have h2:(2*m+1) ^ (i+1)<=(2*m+1) ^ n:=_bL (by omega) (by omega);have:(90000:Nat)<=cap:=by unfold cap;omega
     omega);rw[eg]at c;refine⟨[some (.int n),some (.int (-(m:Int))),some (.int m),some (.lst ((box (i+1) m).map rD)),some x],S',?_,some x,rfl,rfl⟩;rw[qa,Rb];show xz [some (.int n),some (.int (-(m:Int))),some (.int m),some (.lst ((box i m).map rD)),some x] S'=_;rw[xz,yh,c];rfl) [some (.int n),some (.int (-(m:Int))),some (.int m),some (.lst ((box 0 m).map rD)),none] s ⟨none,rfl,rfl⟩;rw[_Q,_m,_c9]at hρ;have f2:xu [some (.int n),some (.int (-(m:Int))),some (.int m),some (.lst ((box 0 m).map rD)),none] S'=.ok (.nx ρ') S':=by
  rw[xu,qb,kb (n:=n) (s1:=S') (by omega) (by rw[zo,vr (d:=.int n) rfl,Rb,yq];rfl),Rb];exact lp
 have key:∀(dn dz dm d0 d:D) (a4:Option D),xy [some dn,some dz,some dm,none,none] S'=.ok (.nx [some dn,some dz,some dm,some d0,none]) S'->xu [some dn,some dz,some dm,some d0,none] S'=.ok (.nx [some dn,some dz,some dm,some d,a4]) S'->zO [dn,dz,dm] S'=.ok d S':=λdn dz dm d0 d a4 h1 h2=>by
  have st:zT ["size","least","most","found","place"] [dn,dz,dm]=[some dn,some dz,some dm,none,none]:=rfl;simp only[zO,Mof,uw,st,_p,_J,_P];rw[zr h1,zr h2];rfl
 rw[hρ]at f2;exact key _ _ _ _ _ _ f1 f2
noncomputable def wgt(x:List Int):Int:=maxL (x.map λi=>((i.natAbs:Nat):Int))
noncomputable def lng(x:List Int):Int:=(x.map λi=>((i.natAbs:Nat):Int)).sum
theorem z5Q {x:List Int} (hl:x.length<=1000) (s:Sto):zF (zR (zd 0)) [none] (yJ 0) yr (ze z0k (za (zd 0) zi)) [some (rD x)] s=.ok (.lst (iL (x.map λi=>((i.natAbs:Nat):Int)))) s:=by
 have:=comp_map (ρ:=[some (rD x)]) (mp:=[none]) (fg:=yJ 0) (fe:=ze z0k (za (zd 0) zi)) (s:=s) (fi:=zR (zd 0)) D.int (λi:Int=>D.int ((i.natAbs:Nat):Int)) (λi=>[some (.int i)]) x (z0x (vr rfl)) (λi _=>rfl) (λi _=>by rw[yc (x:=.int i) (vr rfl)];simp only[z0k];congr 2;split<;>omega) (by simp[cap];omega);rw[this];simp[_ad]
theorem z0r{x:List Int}(h0:x≠[])(hl:x.length<=1000)(s:Sto):yz [rD x] s=.ok (.int (wgt x)) s:=by
 have key:∀(d:D)(ns:List Int),ns≠[]->zF (zR (zd 0)) [none] (yJ 0) yr (ze z0k (za (zd 0) zi)) [some d] s=.ok (.lst (iL ns)) s->yz [d] s=.ok (.int (maxL ns)) s:=λd ns hn h=>by
  have st:zT ["line"] [d]=[some d]:=rfl;simp only[yz,Mof,z44,st,_p,_J,_P];rw[z28,xH,yc h,z7G s hn];rfl
 exact key _ _ (by simpa using h0) (z5Q hl s)
theorem z0w{x:List Int}(hl:x.length<=1000)(s:Sto):ym [rD x] s=.ok (.int (lng x)) s:=by
 have key:∀(d:D)(ns:List Int),zF (zR (zd 0)) [none] (yJ 0) yr (ze z0k (za (zd 0) zi)) [some d] s=.ok (.lst (iL ns)) s->ym [d] s=.ok (.int ns.sum) s:=λd ns h=>by
  have st:zT ["line"] [d]=[some d]:=rfl;simp only[ym,Mof,z3U,st,_p,_J,_P];rw[z27,xH,yc h,z8n];rfl
 exact key _ _ (z5Q hl s)
theorem z7x{x:List Int}{i:Int}(h:i∈x):(i.natAbs:Int)<=wgt x:=maxL_ge _ (_x.mpr ⟨i,h,rfl⟩)
theorem z49{x:List Int}(h:x≠[]):∃i∈x,wgt x=((i.natAbs:Nat):Int):=by
 have:=maxL_mem (show (x.map λi=>((i.natAbs:Nat):Int))≠[] by simpa using h);obtain⟨i,hi,e⟩:=_x.mp this;exact⟨i,hi,e.symm⟩
theorem z24{x:List Int}{m:Nat}(h:x≠[]):wgt x<=(m:Int) ↔ ∀i∈x,i.natAbs<=m:=by
 constructor
 ·intro q i hi;have:=z7x hi;omega
 ·intro q;obtain⟨i,hi,e⟩:=z49 h;have:=q i hi;omega
theorem zdP{x:List Int}(h:x≠[]):0<=wgt x:=by
 obtain⟨i,_,e⟩:=z49 h;omega
noncomputable def ent(k:Int)(ys:List D):Option (List D×Bool)->Prop
 | none=>ys=[] | some (zs,_)=>ys=zs/\ys≠[]
structure Grp(f:Int->List D)(xs:List D):Prop where get:∀k,∃o,xp k xs=some o/\ent k (f k) o
structure zd5(f:Int->List D)(xs:List D):Prop where get:∀k,(f k=[]/\xp k xs=some none)\/(f k≠[]/\xp k xs=some (some (f k,false)))
theorem zd5.grp{f:Int->List D}{xs:List D}(h:zd5 f xs):Grp f xs:=⟨λk=>by
 rcases h.get k with⟨h1,h2⟩ | ⟨h1,h2⟩;·exact⟨_,h2,h1⟩
 ·exact⟨_,h2,rfl,h1⟩⟩
theorem vQ {k j:Int} {d:D}:∀{xs:List D},xp j xs=some none->xp k (xs++[.tup [.int j,.lst [d]]])=(if j=k then some (some ([d],false)) else xp k xs)\/xp k xs=none
 | [],h=>by simp[xp] | x::xs,h=>by
  unfold xp at h;split at h;·cases ‹x::xs=[]›
  ·rename_i i ys t e;cases e;split at h;·simp at h
   ·rename_i ne;rcases vQ (k:=k) (d:=d) h with q | q
    ·left;simp only[_aa,xp];by_cases c:i=k
     ·rw[_g c,_g c];by_cases c2:j=k;·omega
      ·rw[_i c2]
     ·rw[_i c,_i c,q]
    ·by_cases c:i=k
     ·left;simp only[_aa,xp];rw[_g c,_g c,_i (by omega)]
     ·right;simp only[xp];rw[_i c,q]
  ·rename_i i ys t e;cases e;split at h;·simp at h
   ·rename_i ne;rcases vQ (k:=k) (d:=d) h with q | q
    ·left;simp only[_aa,xp];by_cases c:i=k
     ·rw[_g c,_g c];by_cases c2:j=k;·omega
      ·rw[_i c2]
     ·rw[_i c,_i c,q]
    ·by_cases c:i=k
     ·left;simp only[_aa,xp];rw[_g c,_g c,_i (by omega)]
     ·right;simp only[xp];rw[_i c,q]
  ·simp at h
theorem z0L {k j:Int} {d:D} {ys:List D}:∀{xs:List D},xp j xs=some (some (ys,false))->xp k (uo j d xs)=(if j=k then some (some (ys++[d],false)) else xp k xs)
 | [],h=>by simp[xp]at h | x::xs,h=>by
  unfold xp at h;split at h;·cases ‹x::xs=[]›
  ·rename_i i zs t e;cases e;split at h
   ·rename_i c;subst c;simp only[_M,_bI,and_true]at h;subst h;simp only[uo,_P,xp];split<;>rfl
   ·rename_i ne;have q:=z0L (k:=k) (d:=d) h;simp only[uo];rw[_i ne];simp only[xp,q];by_cases c:i=k;·rw[_g c,_i (by omega),_g c]
    ·rw[_i c,_i c]
  ·rename_i i zs t e;cases e;split at h;·simp at h
   ·rename_i ne;have q:=z0L (k:=k) (d:=d) h;simp only[uo,xp,q];by_cases c:i=k;·rw[_g c,_i (by omega),_g c]
    ·rw[_i c,_i c]
  ·simp at h
theorem z0s{j:Int}{d:D}:∀{xs:List D},(uo j d xs).length=xs.length
 | []=>rfl | x::xs=>by
  unfold uo;split
  ·rename_i i ys t e;cases e;split;·rfl
   ·simp[z0s (xs:=xs)]
  ·rename_i e;cases e;simp[z0s (xs:=xs)]
  ·rename_i h;cases h
theorem z3v{k j:Int}{ys:List D}:∀{xs:List D},xp j xs=some (some (ys,false))->xp k (z4S j xs)=(if j=k then some (some (ys,true)) else xp k xs)
 | [],h=>by simp[xp]at h | x::xs,h=>by
  unfold xp at h;split at h;·cases ‹x::xs=[]›
  ·rename_i i zs t e;cases e;split at h
   ·rename_i c;subst c;simp only[_M,_bI,and_true]at h;subst h;simp only[z4S,_P,xp];split<;>rfl
   ·rename_i ne;have q:=z3v (k:=k) h;simp only[z4S];rw[_i ne];simp only[xp,q];by_cases c:i=k;·rw[_g c,_i (by omega),_g c]
    ·rw[_i c,_i c]
  ·rename_i i zs t e;cases e;split at h;·simp at h
   ·rename_i ne;have q:=z3v (k:=k) h;simp only[z4S,xp,q];by_cases c:i=k;·rw[_g c,_i (by omega),_g c]
    ·rw[_i c,_i c]
  ·simp at h
theorem zeb{j:Int}{xs:List D}(h:xs≠[]):z4S j xs≠[]:=by cases xs with
 | nil=>exact absurd rfl h | cons x xs=>
  unfold z4S;split;·split<;>simp
  ·simp
  ·rename_i h;cases h
noncomputable def zes(f:Int->List D)(j:Int)(d:D):Int->List D:=λk=>if j=k then f k++[d] else f k
theorem zcW {f:Int->List D} {xs:List D} (g:zd5 f xs) {fo fk:FE} {i:Nat} {ρ:Ev} {s:Sto} {l:Nat} {j:Int} {d:D} (ho:fo ρ s=.ok (.dlo l) s) (hl:s[l]? = some xs) (hk:fk ρ s=.ok (.int j) s) (hd:ρ[i]? = some (some d)) (hf:d.flat=true) (hc:xs.length<cap) (hn:(f j).length<cap): ∃ys,z6Y fo fk i ρ s=.ok .non (s.set l ys)/\zd5 (zes f j d) ys/\ys.length<=xs.length+1/\ys≠[]:=by
 have nn:∀t,xs≠.non::t:=λt e=>by rcases g.get 0 with⟨_,h⟩ | ⟨_,h⟩<;>rw[e]at h<;>simp[xp]at h
 have un:z6Y fo fk i ρ s=(match xp j xs with
    | some none=>if d.flat=true/\xs.length<cap then .ok .non (s.set l (xs++[.tup [.int j,.lst [d]]])) else .no | some (some (ys,false))=>if d.flat=true/\ys.length<cap/\xs.length<cap then .ok .non (s.set l (uo j d xs)) else .no | _=>.no):=by
  unfold z6Y;rw[ho,Rb];simp only[hl];split
  ·rename_i t e;simp only[_M]at e;exact absurd e (nn _)
  ·rw[hk,Rb];simp only[hl,hd]<;>rfl
 rw[un];rcases g.get j with⟨h1,h2⟩ | ⟨h1,h2⟩
 ·rw[h2];simp only;rw[_g ⟨hf,hc⟩];refine⟨_,rfl,⟨λk=>?_⟩,by simp,by simp⟩;have q:=vQ (k:=k) (d:=d) h2;unfold zes;by_cases c:j=k
  ·subst c;rw[_g rfl,h1];right;rcases q with q | q;·rw[q,_g rfl];exact⟨by simp,rfl⟩
   ·rw[h2]at q;cases q
  ·rw[_i c];rcases q with q | q;·rw[q,_i c];exact g.get k
   ·rcases g.get k with⟨_,z⟩ | ⟨_,z⟩<;>rw[z]at q<;>cases q
 ·rw[h2];simp only;rw[_g ⟨hf,hn,hc⟩];refine⟨_,rfl,⟨λk=>?_⟩,by rw[z0s];omega,λz=>?_⟩
  ·have q:=z0L (k:=k) (d:=d) h2;unfold zes;rw[q];by_cases c:j=k
   ·subst c;rw[_g rfl,_g rfl];right;exact⟨by simp,rfl⟩
   ·rw[_i c,_i c];exact g.get k
  ·have:=_a5 List.length z;rw[z0s]at this;have e:xs=[]:=List.eq_nil_of_length_eq_zero this;rw[e]at h2;simp[xp]at h2
theorem z3l{f:Int->List D}{xs:List D}(g:Grp f xs){fo fk:FE}{ρ:Ev}{s:Sto}{l:Nat}{j:Int}(ho:fo ρ s=.ok (.dlo l) s)(hl:s[l]? = some xs)(hk:fk ρ s=.ok (.int j) s)(ne:xs≠[]): ∃ys,jq fo fk ρ s=.ok (.lst (f j)) (s.set l ys)/\Grp f ys/\ys≠[]:=by
 obtain⟨x,t,rfl⟩:∃x t,xs=x::t:=by cases xs with
  | nil=>exact absurd rfl ne | cons x t=>exact⟨x,t,rfl⟩
 have same:s.set l (x::t)=s:=by
  obtain⟨h1,h2⟩:=_b.mp hl;rw[<- h2];exact List.set_getElem_self h1
 unfold jq;rw[ho,Rb];simp only;rw[hk,Rb];simp only[hl];obtain⟨o,h1,h2⟩:=g.get j;rw[h1];match o,h2 with
 | none,h2=>
  rw[show f j=[] from h2];exact⟨x::t,by rw[same],g,by simp⟩ | some (zs,true),h2=>
  rw[h2.1];exact⟨x::t,by rw[same],g,by simp⟩ | some (zs,false),h2=>
  rw[h2.1];refine⟨_,rfl,⟨λk=>?_⟩,zeb (by simp)⟩;rw[z3v h1];by_cases c:j=k
  ·subst c;rw[_g rfl];exact⟨_,rfl,h2⟩
  ·rw[_i c];exact g.get k
end Pv
namespace Pt
open L2 Dd Pm Pg Pn Po Pr Pp
theorem z85{α:Type}{fi:FI}{mp:List (Option Nat)}{fg:FG}{ft:FT}{fe:FE}{ρ:Ev}{s s1:Sto}(g f:α->D)(p:α->Bool)(ev:α->Ev)(l:List α) (hi:fi ρ s=.ok (l.map g,[]) s1)(hg:∀a∈l,fg (g a) (yi mp ρ) s1=.ok (ev a) s1)(ht:∀a∈l,ft (ev a) s1=.ok (p a) s1)(he:∀a∈l,p a=true->fe (ev a) s1=.ok (f a) s1)(hl:l.length<=cap): zF fi mp fg ft fe ρ s=.ok (.lst ((l.filter p).map f)) s1:=by
 rw[uj,jl,hi,Rb];rw[ql g f p l [] (by
  intro a ha;simp only[hg a ha,ht a ha,Rb];cases hp:p a with
  | true=>simp[he a ha hp] | false=>simp) (by simpa using hl)];rfl
end Pt
namespace Pv
open L2 Dd Pm Pg Pn Po Pr Pp Pt
theorem kg{α:Type}{G:List (Nat×List D)}{all:List D}{s:Sto}{body:D->Sto->R (Option D)}(og:okG G all s)(g f:α->D)(p:α->Bool):∀(l:List α)(acc:List D),(∀a∈l,body (g a) s=.ok (if p a=true then some (f a) else none) s)->acc.length+l.length<=cap->wo G all body (l.map g) acc s=.ok (acc++(l.filter p).map f) s
 | [],acc,_,_=>by simp[wo,og] | x::xs,acc,hb,hl=>by
  rw[_t,wo,_g og,hb x (by simp)];cases hp:p x with
  | true=>
   have ih:=kg (all:=all) og g f p xs (acc++[f x]) (λy hy=>hb y (by simp[hy])) (by simp at hl ⊢;omega);have hc:acc.length<cap:=by simp at hl;omega
   simp[hc,ih,hp] | false=>
   have ih:=kg (all:=all) og g f p xs acc (λy hy=>hb y (by simp[hy])) (by simp at hl ⊢;omega);simp[ih,hp]
theorem z94{α:Type}{G:List (Nat×List D)}{fi:FI}{mp:List (Option Nat)}{fg:FG}{ft:FT}{fe:FE}{ρ:Ev}{s:Sto}(g f:α->D)(p:α->Bool)(ev:α->Ev)(l:List α) (hi:fi ρ s=.ok (l.map g,G) s)(og:okG G (l.map g) s)(hg:∀a∈l,fg (g a) (yi mp ρ) s=.ok (ev a) s)(ht:∀a∈l,ft (ev a) s=.ok (p a) s)(he:∀a∈l,p a=true->fe (ev a) s=.ok (f a) s)(hl:l.length<=cap): zF fi mp fg ft fe ρ s=.ok (.lst ((l.filter p).map f)) s:=by
 rw[uj,jl,hi,Rb];rw[kg og g f p l [] (by
  intro a ha;simp only[hg a ha,ht a ha,Rb];cases hp:p a with
  | true=>simp[he a ha hp] | false=>simp) (by simpa using hl)];rfl
noncomputable def z6r(v:List Int)(x:List Int):Int:=dot x (v.take (v.length / 2))
noncomputable def z9T(v:List Int)(x:List Int):Int:=dot x (v.drop (v.length / 2))
noncomputable def z7C(v:List Int)(P:List (List Int)):Int->List D:=λk=>(P.filter λx=>decide (z6r v x=k)).map rD
noncomputable def fnd(v:List Int)(F G:List (List Int)):List (List Int):=G.flatMap λg=>(F.filter λx=>decide (z6r v x=-z9T v g)).map λx=>x++g
noncomputable def zbz(v x:List Int):Bool:=decide (dot x v=0)&&decide (0<wgt x)
noncomputable def rel(v:List Int)(m:Nat):List (List Int):=(box v.length m).filter (zbz v)
noncomputable def z6I(v:List Int)(m:Nat):List (List Int):=(box v.length m).filter λx=>decide (dot x v=0)
theorem zab(v:List Int)(P:List (List Int))(x:List Int):zes (z7C v P) (z6r v x) (rD x)=z7C v (P++[x]):=by
 funext k;unfold zes z7C;rw[List.filter_append,_aU];by_cases c:z6r v x=k;·rw[_g c,List.filter_cons_of_pos (by simpa using c)];rfl
 ·rw[_i c,List.filter_cons_of_neg (by simpa using c)];simp
theorem z29{v x g:List Int}(hx:x.length=v.length / 2):dot (x++g) v=z6r v x+z9T v g:=by
 conv=>lhs;rw[<- _S (v.length / 2) v]
 exact kj (by rw[hx,_Z];omega)
theorem z89{v:List Int}{m:Nat}{z:List Int}:z∈fnd v (box (v.length / 2) m) (box (v.length-v.length / 2) m) ↔ z∈z6I v m:=by
 simp only[fnd,z6I,_bz,_x,_I,_l];constructor
 ·rintro⟨g,hg,x,⟨hx,e⟩,rfl⟩;obtain⟨g1,g2⟩:=yo.mp hg;obtain⟨x1,x2⟩:=yo.mp hx;refine⟨yo.mpr ⟨by rw[_q];omega,λi hi=>?_⟩,?_⟩
  ·rcases _L.mp hi with hi | hi;·exact x2 i hi
   ·exact g2 i hi
  ·rw[z29 x1];omega
 ·rintro⟨hz,e⟩;obtain⟨z1,z2⟩:=yo.mp hz;have l1:(z.take (v.length / 2)).length=v.length / 2:=by rw[_Z];omega
  refine⟨z.drop (v.length / 2),yo.mpr ⟨by rw[_bT];omega,λi hi=>z2 i (_bt hi)⟩,z.take (v.length / 2),⟨yo.mpr ⟨l1,λi hi=>z2 i (_U hi)⟩,?_⟩,_S _ _⟩;rw[<- _S (v.length / 2) z,z29 l1]at e;omega
theorem z91{v:List Int}{m:Nat}:(fnd v (box (v.length / 2) m) (box (v.length-v.length / 2) m)).Nodup:=by
 unfold fnd;refine _bm.mpr ⟨λg hg=>?_,?_⟩
 ·rw[_a2];exact ((z1u _ _).nodup.filter _).imp λ{a b} h e=>h (List.append_cancel_right e)
 ·refine _bv (λ{a b} ha hb ne x hx y hy=>?_) (z1u (v.length-v.length / 2) m).nodup;obtain⟨p,hp,rfl⟩:=_x.mp hx;obtain⟨q,hq,rfl⟩:=_x.mp hy;have l1:=(yo.mp (_I.mp hp).1).1;have l2:=(yo.mp (_I.mp hq).1).1;exact λe=>ne (List.append_inj e (by omega)).2
theorem z3F{v:List Int}{m:Nat}:(fnd v (box (v.length / 2) m) (box (v.length-v.length / 2) m)).Perm (z6I v m):=(_bj z91 ((z1u _ _).nodup.filter _)).mpr λz=>z89
theorem jW(v:List Int)(m:Nat):Up (rel v m):=(z1u _ _).filter _
theorem z7Q(v:List Int)(m:Nat):rel v m=(z6I v m).filter λx=>decide (0<wgt x):=by
 unfold rel z6I;rw[List.filter_filter];refine List.filter_congr λx _=>?_;unfold zbz;rw[Bool.and_comm]
theorem zad{v:List Int}{m:Nat}:z0M lexN ((fnd v (box (v.length / 2) m) (box (v.length-v.length / 2) m)).filter λx=>decide (0<wgt x))=rel v m:=by
 refine z3c z0l ?_ ((jW v m).imp λ{a b} h=>?_)
 ·rw[z7Q];exact (z3F.filter _).symm
 ·have ne:a≠b:=λe=>by rw[e,ua]at h;cases h
  rw[z0z ne,h];rfl
structure SmL(n:Nat)(v:List Int):Prop where
 len:v.length=n
 lo:2<=n
 hi:n<=4
 bd:∀x∈v,0<=x/\x<=1000
theorem SmL.big{n:Nat}{v:List Int}(h:SmL n v):∀x∈v,x.natAbs<2 ^ 10:=λx hx=>by have:=h.bd x hx;omega
noncomputable abbrev W7(a0 a1 a2 a3 a4 a5 a6:Option D):Ev:=[a0,a1,a2,a3,a4,a5,a6]
theorem z8T{n m:Nat}{x:List Int}(hx:x∈box n m)(hm:m<=40000):∀i∈x,i.natAbs<2 ^ 16:=λi hi=>by have:=(yo.mp hx).2 i hi;omega
section
variable {n m:Nat}{v:List Int}(L:SmL n v)(hm:m<=40000)(h1:(2*m+1) ^ (v.length / 2)<=90000)(h2:(2*m+1) ^ (v.length-v.length / 2)<=90000)(hf:(z6I v m).length<=90000)
include L hm h1 in
theorem zgx (dl dm:D) (hl:dl=rD v) (s:Sto):∃xs,∃a4,uP [] ((box (v.length / 2) m).map rD) (λd ρ s=>(yJ 4 d ρ s).bind fun ρ' s'=>zY ρ' s') ((box (v.length / 2) m).map rD) (W7 (some dl) (some dm) (some (.int ((v.length / 2:Nat):Int))) (some (.dlo s.length)) none none none) (s++[[]]) = .ok (.nx (W7 (some dl) (some dm) (some (.int ((v.length / 2:Nat):Int))) (some (.dlo s.length)) a4 none none)) (s++[xs])/\zd5 (z7C v (box (v.length / 2) m)) xs/\xs≠[]:=by
 have bl:=z2O (n:=v.length / 2) (m:=m);have capn:(90000:Nat)<cap:=by unfold cap;omega
 have mid:v.length / 2<=2:=by have:=L.len;have:=L.hi;omega
 obtain⟨ρ',S',lp,a4,xs,hρ,hS,g,xl,xn⟩:=wL (all:=(box (v.length / 2) m).map rD) (body:=λd ρ s=>(yJ 4 d ρ s).bind fun ρ' s'=>zY ρ' s') (λi ρ S=>∃a4 xs,ρ=W7 (some dl) (some dm) (some (.int ((v.length / 2:Nat):Int))) (some (.dlo s.length)) a4 none none/\S=s++[xs]/\zd5 (z7C v ((box (v.length / 2) m).take i)) xs/\xs.length<=i/\(0<i->xs≠[])) ((box (v.length / 2) m).map rD) 0 (by
   intro i d hd ρ S ⟨a4,xs,hρ,hS,g,xl,xn⟩;subst hρ hS;rw[_Q]at g xl xn ⊢;rw[_O,_D]at hd;obtain⟨x,ex,rfl⟩:=hd;have xm:x∈box (v.length / 2) m:=_c ex;have il:i<(box (v.length / 2) m).length:=(_b.mp ex).1;have tk:(box (v.length / 2) m).take (i+1)=(box (v.length / 2) m).take i++[x]:=by rw[_ci,ex];rfl
   have xle:x.length<=2:=by rw[(yo.mp xm).1];exact mid
   have tg:zW [rD x,rD (v.take (v.length / 2))] (s++[xs])=.ok (.int (z6r v x)) (s++[xs]):=kB (m:=16) (k:=10) _ (z8T xm hm) (λy hy=>L.big y (_U hy)) (by omega) (by omega) (by omega);have sl:dSl dl none (some (((v.length / 2:Nat):Int))) (s++[xs])=.ok (rD (v.take (v.length / 2))) (s++[xs]):=by rw[hl,z7S];simp[rD,List.map_take]
   have at1:(s++[xs])[s.length]? = some xs:=by simp
   have key:∀e:D,∀k,zW [e,rD (v.take (v.length / 2))] (s++[xs])=.ok (.int k) (s++[xs])->ze zW (za (zd 4) (za (eSl (zd 0) xK (qw (zd 2))) zi)) (W7 (some dl) (some dm) (some (.int ((v.length / 2:Nat):Int))) (some (.dlo s.length)) (some e) none none) (s++[xs])=.ok (.int k) (s++[xs]):=λe k q=>by
    rw[call2 (x:=e) (y:=rD (v.take (v.length / 2))) (vr rfl) (by rw[z97,vr (d:=dl) rfl,Rb,z15,Rb,z1d,vr (d:=.int ((v.length / 2:Nat):Int)) rfl,Rb];exact sl)];exact q
   have gl:(z7C v ((box (v.length / 2) m).take i) (z6r v x)).length<cap:=by
    unfold z7C;rw[_m];have:=_aq (λx'=>decide (z6r v x'=z6r v x)) ((box (v.length / 2) m).take i);rw[_Z]at this;omega
   obtain⟨ys,e,g',yl,yn⟩:=zcW g (fo:=zd 3) (fk:=ze zW (za (zd 4) (za (eSl (zd 0) xK (qw (zd 2))) zi))) (i:=4) (ρ:=W7 (some dl) (some dm) (some (.int ((v.length / 2:Nat):Int))) (some (.dlo s.length)) (some (rD x)) none none) (s:=s++[xs]) (l:=s.length) (j:=z6r v x) (d:=rD x) (vr rfl) at1 (key _ _ tg) rfl (by simp[D.flat,wZ]) (by omega) gl;refine⟨_,_,?_,some (rD x),ys,rfl,rfl,?_,by omega,λ_=>yn⟩
   ·rw[qa,Rb];show zY (W7 (some dl) (some dm) (some (.int ((v.length / 2:Nat):Int))) (some (.dlo s.length)) (some (rD x)) none none) (s++[xs])=_;rw[zY,jj,e,Rb,z2y]
   ·rw[tk,<- zab];exact g') (W7 (some dl) (some dm) (some (.int ((v.length / 2:Nat):Int))) (some (.dlo s.length)) none none none) (s++[[]]) ⟨none,[],rfl,rfl,⟨λk=>.inl ⟨by simp[z7C],rfl⟩⟩,by simp,λh=>absurd h (by omega)⟩;rw[_Q,_m]at g xl xn;rw[_Y (_d _)]at g;refine⟨xs,a4,by rw[lp,hρ,hS],g,xn ?_⟩;have:List.replicate (v.length / 2) (0:Int)∈box (v.length / 2) m:=yo.mpr ⟨by simp,λi hi=>by rw[_bw hi];omega⟩;exact List.length_pos_of_mem this
end
theorem z6o(v:List Int)(F G:List (List Int))(g:List Int):fnd v F (G++[g])=fnd v F G++(F.filter λx=>decide (z6r v x=-z9T v g)).map λx=>x++g:=by
 unfold fnd;rw[_aQ];simp
theorem z4V(v:List Int)(F G:List (List Int))(i:Nat):(fnd v F (G.take i)).length<=(fnd v F G).length:=by
 conv=>rhs;rw[<- _S i G]
 unfold fnd;rw[_aQ,_q];omega
theorem z7y{s:Sto}{xs ys zs:List D}:(s++[xs]++[zs]).set s.length ys=s++[ys]++[zs]:=by
 rw[_z,_z,_cr _ _ (_d _)];simp
section
variable {n m:Nat}{v:List Int}(L:SmL n v)(hm:m<=40000)(h1:(2*m+1) ^ (v.length / 2)<=90000)(h2:(2*m+1) ^ (v.length-v.length / 2)<=90000)(hf:(z6I v m).length<=90000)
include L hm h1 hf in
theorem zae (dl dm:D) (hl:dl=rD v) (s:Sto) {xs:List D} (g0:Grp (z7C v (box (v.length / 2) m)) xs) (x0:xs≠[]) (a4:Option D):∃ys a6,uP [] ((box (v.length-v.length / 2) m).map rD) (λd ρ s=>(yJ 6 d ρ s).bind fun ρ' s'=>zX ρ' s') ((box (v.length-v.length / 2) m).map rD) (W7 (some dl) (some dm) (some (.int ((v.length / 2:Nat):Int))) (some (.dlo s.length)) a4 (some (.loc (s.length+1))) none) (s++[xs]++[[]]) = .ok (.nx (W7 (some dl) (some dm) (some (.int ((v.length / 2:Nat):Int))) (some (.dlo s.length)) a4 (some (.loc (s.length+1))) a6)) (s++[ys]++[(fnd v (box (v.length / 2) m) (box (v.length-v.length / 2) m)).map rD]):=by
 have bl:=z2O (n:=v.length / 2) (m:=m);have capn:(90000:Nat)<cap:=by unfold cap;omega
 have vl:=L.len;have v2:=L.lo;have v4:=L.hi;have ft:(fnd v (box (v.length / 2) m) (box (v.length-v.length / 2) m)).length<=90000:=by rw[z3F.length_eq];exact hf
 obtain⟨ρ',S',lp,a6,ys,hρ,hS,g,yn⟩:=wL (all:=(box (v.length-v.length / 2) m).map rD) (body:=λd ρ s=>(yJ 6 d ρ s).bind fun ρ' s'=>zX ρ' s') (λi ρ S=>∃a6 ys,ρ=W7 (some dl) (some dm) (some (.int ((v.length / 2:Nat):Int))) (some (.dlo s.length)) a4 (some (.loc (s.length+1))) a6/\S=s++[ys]++[(fnd v (box (v.length / 2) m) ((box (v.length-v.length / 2) m).take i)).map rD]/\Grp (z7C v (box (v.length / 2) m)) ys/\ys≠[]) ((box (v.length-v.length / 2) m).map rD) 0 (by
   intro i d hd ρ S ⟨a6,ys,hρ,hS,g,yn⟩;subst hρ hS;rw[_Q];rw[_O,_D]at hd;obtain⟨x,ex,rfl⟩:=hd;have xm:x∈box (v.length-v.length / 2) m:=_c ex;have tk:(box (v.length-v.length / 2) m).take (i+1)=(box (v.length-v.length / 2) m).take i++[x]:=by rw[_ci,ex];rfl
   have xle:x.length<=4:=by rw[(yo.mp xm).1];omega
   have fl:=z4V v (box (v.length / 2) m) (box (v.length-v.length / 2) m) (i+1);rw[tk,z6o,_q,_m]at fl;rw[tk,z6o];generalize hA:fnd v (box (v.length / 2) m) ((box (v.length-v.length / 2) m).take i)=A at fl;have sl:∀S:Sto,dSl dl (some (((v.length / 2:Nat):Int))) none S=.ok (rD (v.drop (v.length / 2))) S:=λS=>by rw[hl,z8Z];simp[rD,List.map_drop]
   have tg:zW [rD x,rD (v.drop (v.length / 2))] (s++[ys]++[A.map rD])=.ok (.int (z9T v x)) (s++[ys]++[A.map rD]):=kB (m:=16) (k:=10) _ (z8T xm hm) (λy hy=>L.big y (_bt hy)) (by omega) (by omega) (by omega);have key:∀e:D,∀k,zW [e,rD (v.drop (v.length / 2))] (s++[ys]++[A.map rD])=.ok (.int k) (s++[ys]++[A.map rD])->z7l (ze zW (za (zd 6) (za (eSl (zd 0) (qw (zd 2)) xK) zi))) (W7 (some dl) (some dm) (some (.int ((v.length / 2:Nat):Int))) (some (.dlo s.length)) a4 (some (.loc (s.length+1))) (some e)) (s++[ys]++[A.map rD])=.ok (.int (-k)) (s++[ys]++[A.map rD]):=λe k q=>by
    rw[z5M,call2 (x:=e) (y:=rD (v.drop (v.length / 2))) (vr rfl) (by rw[z97,vr (d:=dl) rfl,Rb,z1d,vr (d:=.int ((v.length / 2:Nat):Int)) rfl,Rb];simp only[Rb];rw[z15,Rb];exact sl _),q];rfl
   have at1:(s++[ys]++[A.map rD])[s.length]? = some ys:=by rw[_z,_v (_d _)];simp
   obtain⟨zs,e,g',zn⟩:=z3l g (fo:=zd 3) (fk:=z7l (ze zW (za (zd 6) (za (eSl (zd 0) (qw (zd 2)) xK) zi)))) (ρ:=W7 (some dl) (some dm) (some (.int ((v.length / 2:Nat):Int))) (some (.dlo s.length)) a4 (some (.loc (s.length+1))) (some (rD x))) (s:=s++[ys]++[A.map rD]) (l:=s.length) (j:=-z9T v x) (vr rfl) at1 (key _ _ tg) yn;rw[z7y]at e;have gf:z7C v (box (v.length / 2) m) (-z9T v x)=((box (v.length / 2) m).filter λy=>decide (z6r v y=-z9T v x)).map rD:=rfl;have gm:∀y∈(box (v.length / 2) m).filter (λy=>decide (z6r v y=-z9T v x)),y.length<=4:=λy hy=>by rw[(yo.mp (_I.mp hy).1).1];omega
   rw[gf]at e;generalize (box (v.length / 2) m).filter (λy=>decide (z6r v y=-z9T v x))=B at e fl gm;have c:=z85 (s:=s++[ys]++[A.map rD]) (s1:=s++[zs]++[A.map rD]) (ρ:=W7 (some dl) (some dm) (some (.int ((v.length / 2:Nat):Int))) (some (.dlo s.length)) a4 (some (.loc (s.length+1))) (some (rD x))) (fi:=zR (jq (zd 3) (z7l (ze zW (za (zd 6) (za (eSl (zd 0) (qw (zd 2)) xK) zi)))))) (mp:=[some 6,none]) (fg:=yJ 1) (ft:=yr) (fe:=eOp jp (zd 1) (zd 0)) rD (λy=>rD (y++x)) (λ_=>true) (λy=>[some (rD x),some (rD y)]) B (by rw[z0S,e,Rb]) (λy _=>rfl) (λy _=>rfl) (λy hy _=>by
     have:=gm y hy;rw[op2 (x:=rD y) (y:=rD x) (vr rfl) (vr rfl),z60,_g (by simp[cap];omega),<- _aU]) (by omega);rw[show B.filter (λ_=>true)=B from _cL.mpr (by simp)]at c;have at2:(s++[zs]++[A.map rD])[s.length+1]? = some (A.map rD):=by rw[_v (by simp)];simp
   refine⟨W7 (some dl) (some dm) (some (.int ((v.length / 2:Nat):Int))) (some (.dlo s.length)) a4 (some (.loc (s.length+1))) (some (rD x)),_,?_,some (rD x),zs,rfl,rfl,g',zn⟩;rw[qa,Rb];show zX (W7 (some dl) (some dm) (some (.int ((v.length / 2:Nat):Int))) (some (.dlo s.length)) a4 (some (.loc (s.length+1))) (some (rD x))) (s++[ys]++[A.map rD])=_;have fB:D.flat.flats (B.map λy=>rD (y++x))=true:=by
    have:=we (B.map λy=>y++x);rwa [_au]at this
   have au:∀(f:FE) (ρ:Ev) (S S1:Sto) (l:Nat) (as bs:List D),ρ[5]? = some (some (.loc l))->f ρ S=.ok (.lst bs) S1->S1[l]? = some as->D.flat.flats bs=true->as.length+bs.length<=cap->z8B 5 f ρ S=.ok (.nx (ρ.set 5 (some (.loc l)))) (S1.set l (as++bs)):=λf ρ S S1 l as bs e1 e2 e3 e4 e5=>by
    unfold z8B;simp only[e1,e2,Rb,e3];rw[_g ⟨e4,e5⟩]
   rw[zX,au _ _ _ _ (s.length+1) _ _ rfl c at2 fB (by simp only[_m];omega)];rw[show s.length+1=(s++[zs]).length by simp,z2y,_aU,_au];rfl) (W7 (some dl) (some dm) (some (.int ((v.length / 2:Nat):Int))) (some (.dlo s.length)) a4 (some (.loc (s.length+1))) none) (s++[xs]++[[]]) ⟨none,xs,rfl,by simp[fnd],g0,x0⟩;rw[_Q,_m,_Y (_d _)]at hS;exact⟨ys,a6,by rw[lp,hρ,hS]⟩
include L hm h1 h2 hf in
theorem z59 (s:Sto):zj [rD v,.int m] s=.ok (.lst ((rel v m).map rD)) s:=by
 have vl:=L.len;have v2:=L.lo;have v4:=L.hi;have capn:(90000:Nat)<cap:=by unfold cap;omega
 have key:∀(dl dm:D) (F G:List D) (R0:List (List Int)) (xs ys:List D) (a4 a6:Option D),vj [dl] s=.ok (.int v.length) s->vj [dl] (s++[xs]++[[]])=.ok (.int v.length) (s++[xs]++[[]])->(∃k:Int,dm=.int k/\zO [.int ((v.length / 2:Nat):Int),.int (-k),dm] (s++[[]])=.ok (.lst F) (s++[[]])/\zO [.int ((v.length-v.length / 2:Nat):Int),.int (-k),dm] (s++[xs]++[[]])=.ok (.lst G) (s++[xs]++[[]]))-> uP [] F (λd ρ s=>(yJ 4 d ρ s).bind fun ρ' s'=>zY ρ' s') F (W7 (some dl) (some dm) (some (.int ((v.length / 2:Nat):Int))) (some (.dlo s.length)) none none none) (s++[[]])=.ok (.nx (W7 (some dl) (some dm) (some (.int ((v.length / 2:Nat):Int))) (some (.dlo s.length)) a4 none none)) (s++[xs])-> uP [] G (λd ρ s=>(yJ 6 d ρ s).bind fun ρ' s'=>zX ρ' s') G (W7 (some dl) (some dm) (some (.int ((v.length / 2:Nat):Int))) (some (.dlo s.length)) a4 (some (.loc (s.length+1))) none) (s++[xs]++[[]])=.ok (.nx (W7 (some dl) (some dm) (some (.int ((v.length / 2:Nat):Int))) (some (.dlo s.length)) a4 (some (.loc (s.length+1))) a6)) (s++[ys]++[R0.map rD])-> R0.length<=90000->(∀x∈R0,x≠[]/\x.length<=4)->zj [dl,dm] s=.ok (.lst ((z0M lexN (R0.filter λx=>decide (0<wgt x))).map rD)) s:=λdl dm F G R0 xs ys a4 a6 e1 e2 e3 e4 e5 e6 e7=>by
  obtain⟨k,rfl,t1,t2⟩:=e3;have st:zT ["lot","most","middle","by_sum","first","found","second"] [dl,.int k]=W7 (some dl) (some (.int k)) none none none none none:=rfl;have f1:xY (W7 (some dl) (some (.int k)) none none none none none) s=.ok (.nx (W7 (some dl) (some (.int k)) (some (.int ((v.length / 2:Nat):Int))) none none none none)) s:=by
   rw[xY,yh,op2 (x:=.int v.length) (y:=.int 2) (by rw[yc (x:=dl) (vr rfl)];exact e1) rfl];rfl
  have f2:vz (W7 (some dl) (some (.int k)) (some (.int ((v.length / 2:Nat):Int))) none none none none) s=.ok (.nx (W7 (some dl) (some (.int k)) (some (.int ((v.length / 2:Nat):Int))) (some (.dlo s.length)) none none none)) (s++[[]]):=rfl;have f3:xZ (W7 (some dl) (some (.int k)) (some (.int ((v.length / 2:Nat):Int))) (some (.dlo s.length)) none none none) (s++[[]])=.ok (.nx (W7 (some dl) (some (.int k)) (some (.int ((v.length / 2:Nat):Int))) (some (.dlo s.length)) a4 none none)) (s++[xs]):=by
   rw[xZ,qb,yC (xs:=F) (by rw[zey (x:=.int ((v.length / 2:Nat):Int)) (y:=.int (-k)) (z:=.int k) (vr rfl) (by rw[z5M,vr (d:=.int k) rfl,Rb]) (vr rfl)];exact t1),Rb];exact e4
  have f5:xX (W7 (some dl) (some (.int k)) (some (.int ((v.length / 2:Nat):Int))) (some (.dlo s.length)) a4 none none) (s++[xs])=.ok (.nx (W7 (some dl) (some (.int k)) (some (.int ((v.length / 2:Nat):Int))) (some (.dlo s.length)) a4 (some (.loc (s.length+1))) none)) (s++[xs]++[[]]):=by
   rw[xX,yh,z4C,yq,Rb,_g ⟨by simp,rfl⟩,Rb,_q];rfl
  have f6:xW (W7 (some dl) (some (.int k)) (some (.int ((v.length / 2:Nat):Int))) (some (.dlo s.length)) a4 (some (.loc (s.length+1))) none) (s++[xs]++[[]])=.ok (.nx (W7 (some dl) (some (.int k)) (some (.int ((v.length / 2:Nat):Int))) (some (.dlo s.length)) a4 (some (.loc (s.length+1))) a6)) (s++[ys]++[R0.map rD]):=by
   rw[xW,qb,yC (xs:=G) (by rw[zey (x:=.int ((v.length-v.length / 2:Nat):Int)) (y:=.int (-k)) (z:=.int k) (by rw[op2 (x:=.int v.length) (y:=.int ((v.length / 2:Nat):Int)) (by rw[yc (x:=dl) (vr rfl)];exact e2) (vr rfl),uv,show ((v.length:Int)-((v.length / 2:Nat):Int))=((v.length-v.length / 2:Nat):Int) by omega]) (by rw[z5M,vr (d:=.int k) rfl,Rb]) (vr rfl)];exact t2),Rb];exact e5
  have at2:(s++[ys]++[R0.map rD])[s.length+1]? = some (R0.map rD):=by rw[_v (by simp)];simp
  generalize hS:s++[ys]++[R0.map rD]=S at f6 at2;have tk:S.take s.length=s:=by rw[<- hS,_z,List.take_left'];rfl
  have c:=z94 (G:=[(s.length+1,R0.map rD)]) (fi:=zR (zd 5)) (mp:=[none]) (fg:=yJ 0) (ft:=tOf (eOp dGt (ze yz (za (zd 0) zi)) (eC (.int 0)))) (fe:=zd 0) (ρ:=W7 (some dl) (some (.int k)) (some (.int ((v.length / 2:Nat):Int))) (some (.dlo s.length)) a4 (some (.loc (s.length+1))) a6) (s:=S) rD rD (λx=>decide (0<wgt x)) (λx=>[some (rD x)]) R0 (by rw[z0S,vr (d:=.loc (s.length+1)) rfl,Rb];simp only[at2]) (λp hp=>by rw[_ax.mp hp];exact at2) (λx _=>rfl) (λx hx=>jH (by rw[op2 (x:=.int (wgt x)) (y:=.int 0) (by rw[yc (x:=rD x) (vr rfl)];exact z0r (e7 x hx).1 (by have:=(e7 x hx).2;omega) S) rfl,zbJ])) (λx _ _=>vr rfl) (by omega);have ne:∀x∈R0.filter (λx=>decide (0<wgt x)),x≠[]:=λx hx=>(e7 x (_I.mp hx).1).1;generalize R0.filter (λx=>decide (0<wgt x))=T at c ne;have f8:wb (W7 (some dl) (some (.int k)) (some (.int ((v.length / 2:Nat):Int))) (some (.dlo s.length)) a4 (some (.loc (s.length+1))) a6) S=.ok (.rt (.lst ((z0M lexN T).map rD))) S:=by
   rw[wb,xH,yc c];have tu:z2p (T.map rD)=some T:=z1n T;simp only[jN,z26,Dd.listOf,tu];rw[_g (_ab.mpr λx hx=>by have:=ne x hx;cases x<;>simp_all)];rfl
  simp only[zj,z30,Mof,vX,st,_p,_J,_P];rw[zr f1,zr f2,zr f3,zr f5,zr f6,f8];simp only[];rw[qF (by simp only[D.flat];exact we _),tk]
 obtain⟨xs,a4,l1,g,xn⟩:=zgx L hm h1 (rD v) (.int m) rfl s;obtain⟨ys,a6,l2⟩:=zae L hm h1 hf (rD v) (.int m) rfl s g.grp xn a4;have gl:∀S:Sto,vj [rD v] S=.ok (.int v.length) S:=λS=>by simp[vj,xj]
 have r:=key (rD v) (.int m) _ _ _ xs ys a4 a6 (gl _) (gl _) ⟨_,rfl,z4c (by omega) hm h1 _,z4c (by omega) hm h2 _⟩ l1 l2 (by rw[z3F.length_eq];exact hf) λx hx=>by
  have:=(yo.mp (_I.mp (z89.mp hx)).1).1;exact⟨λz=>by rw[z]at this;simp at this;omega,by omega⟩
 rw[r,zad]
end
end Pv
namespace Pp
open L2 Dd Pm Pg Pn
end Pp
namespace Pp
open Pm Pg Dd
theorem z8U : ∀(M : Nat) (f : Nat → Nat), (∀i ≤ M, f i < M) → ∃i j, i < j ∧ j ≤ M ∧ f i = f j
 | 0, f, h => absurd (h 0 (_d _)) (Nat.not_lt_zero _) | M + 1, f, h => by
  by_cases hv : ∃i, i ≤ M ∧ f i = f (M + 1)
  ·obtain⟨i, hi, e⟩ := hv;exact⟨i, M + 1, by omega, _d _, e⟩
  ·have hn : ∀i ≤ M, f i ≠ f (M + 1) := λi hi e => hv ⟨i, hi, e⟩;have hl := h (M + 1) (_d _);obtain⟨i, j, hij, hj, e⟩ := z8U M (λi => if f i = M then f (M + 1) else f i) (λi hi => by
    have h1 := h i (by omega);have h2 := hn i hi;show (if f i = M then f (M + 1) else f i) < M;split <;> omega);refine⟨i, j, hij, by omega, ?_⟩;have h1 := hn i (by omega);have h2 := hn j hj;split at e <;> split at e <;> omega
end Pp
namespace Pv
open L2 (maxL minL maxL_ge maxL_mem minL_le minL_mem)
open Pm Pp Pt
def vy(v:List Int)(w:Nat):Prop:=∃x:List Int,x.length=v.length/\(∀i∈x,i.natAbs<=w)/\dot x v=0/\0<wgt x
theorem vo{x:List Int}{i:Int}(h:i∈x)(h0:i≠0):0<wgt x:=by have:=z7x h;omega
theorem yX{v:List Int}{m:Nat}{x:List Int}:x∈rel v m ↔ x.length=v.length/\(∀i∈x,i.natAbs<=m)/\dot x v=0/\0<wgt x:=by
 unfold rel zbz;rw[_I,yo];simp[and_assoc]
theorem qm{v:List Int}{m:Nat}:rel v m≠[] ↔ vy v m:=by
 constructor
 ·intro h;obtain⟨x,hx⟩:=_bn _ h;exact⟨x,yX.mp hx⟩
 ·rintro⟨x,hx⟩ z;have:=yX.mpr hx;rw[z]at this;cases this
theorem vy.mono{v:List Int}{w w':Nat}(h:vy v w)(hw:w<=w'):vy v w':=by
 obtain⟨x,h1,h2,h3⟩:=h;exact⟨x,h1,λi hi=>_H (h2 i hi) hw,h3⟩
theorem zhT{a b:Int}(ha:0<=a/\a<=1000)(hb:0<=b/\b<=1000)(hp:0<a\/0<b):vy [a,b] 1000:=by
 refine⟨[b,-a],rfl,λi hi=>?_,?_,?_⟩
 ·simp only[_j,_an,_bQ]at hi;rcases hi with rfl | rfl<;>omega
 ·simp only[dot_cons,z5h];rw[_a8 b a,Int.neg_mul];omega
 ·rcases hp with hp | hp;·exact vo (i:=-a) (by simp) (by omega)
  ·exact vo (i:=b) (by simp) (by omega)
theorem zhw{a b c:Nat}(hc:1<=c)(hc2:c<=1000)(ha:a<=c)(hb:b<=c):∃p q r:Int,p.natAbs<=44/\q.natAbs<=44/\r.natAbs<=44/\p*a+q*b+r*c=0/\(p≠0\/q≠0\/r≠0):=by
 have bd:∀t,t<2025->(t / 45)*a+(t % 45)*b<=88*c:=λt ht=>by
  have h1:t / 45<=44:=by omega
  have h2:t % 45<=44:=by omega
  have e1:(t / 45)*a<=44*c:=_aZ h1 ha;have e2:(t % 45)*b<=44*c:=_aZ h2 hb;omega
 obtain⟨i,j,hij,hj,e⟩:=z8U 2000 (λt=>(((t / 45)*a+(t % 45)*b) % c)*2+(if (t / 45)*a+(t % 45)*b<=44*c then 0 else 1)) (λt ht=>by
  have:=Nat.mod_lt ((t / 45)*a+(t % 45)*b) hc;show _*2+_<2000;split<;>omega);have b1:=bd i (by omega);have b2:=bd j (by omega);have em:((i / 45)*a+(i % 45)*b) % c=((j / 45)*a+(j % 45)*b) % c/\(((i / 45)*a+(i % 45)*b<=44*c) ↔ ((j / 45)*a+(j % 45)*b<=44*c)):=by split at e<;>split at e<;>refine⟨by omega,?_⟩<;>constructor<;>intro _<;>first | assumption | (exfalso;omega)
 obtain⟨em,ew⟩:=em;have d1:=Nat.mod_add_div ((i / 45)*a+(i % 45)*b) c;have d2:=Nat.mod_add_div ((j / 45)*a+(j % 45)*b) c;have ne:i / 45≠j / 45\/i % 45≠j % 45:=by omega
 have x1:i / 45<=44:=by omega
 have x2:j / 45<=44:=by omega
 have x3:i % 45<=44:=by omega
 have x4:j % 45<=44:=by omega
 generalize i / 45=i1 at *;generalize i % 45=i2 at *;generalize j / 45=j1 at *;generalize j % 45=j2 at *;have s1:((i1*a+i2*b:Nat):Int)=(i1:Int)*a+(i2:Int)*b:=by simp
 have s2:((j1*a+j2*b:Nat):Int)=(j1:Int)*a+(j2:Int)*b:=by simp
 generalize i1*a+i2*b=S at *;generalize j1*a+j2*b=T at *;have t1:S=S % c+c*(S / c):=d1.symm;have t2:T=T % c+c*(T / c):=d2.symm;have ml:=Nat.mod_lt S hc;have ys:(S<=44*c->S / c<=44)/\(¬ S<=44*c->44<=S / c)/\S / c<=88:=⟨λw=>_a0 (by rw[_bU];exact w),λw=>(Nat.le_div_iff_mul_le hc).mpr (by omega),_a0 (by rw[_bU];exact b1)⟩;have yt:(T<=44*c->T / c<=44)/\(¬ T<=44*c->44<=T / c)/\T / c<=88:=⟨λw=>_a0 (by rw[_bU];exact w),λw=>(Nat.le_div_iff_mul_le hc).mpr (by omega),_a0 (by rw[_bU];exact b2)⟩;have u1:(S:Int)=((S % c:Nat):Int)+((S / c:Nat):Int)*c:=by
  have:=_a5 (λz:Nat=>(z:Int)) t1;simp only[_cG,_cH]at this;rw[_a8 ((S / c:Nat):Int)];exact this
 have u2:(T:Int)=((T % c:Nat):Int)+((T / c:Nat):Int)*c:=by
  have:=_a5 (λz:Nat=>(z:Int)) t2;simp only[_cG,_cH]at this;rw[_a8 ((T / c:Nat):Int)];exact this
 rw[em]at u1;clear t1 t2 d1 d2;generalize S / c=u at *;generalize T / c=z at *;refine⟨(j1:Int)-i1,(j2:Int)-i2,(u:Int)-(z:Int),by omega,by omega,?_,?_,by omega⟩
 ·by_cases w:S<=44*c
  ·have:=ys.1 w;have:=yt.1 (ew.mp w);omega
  ·have:=ys.2.1 w;have:=yt.2.1 λz=>w (ew.mpr z);omega
 ·rw[_a1,_a1,_a1];omega
theorem zhL {a b c:Int} (ha:0<=a/\a<=1000) (hb:0<=b/\b<=1000) (hc:0<=c/\c<=1000) (hp:0<a\/0<b\/0<c):vy [a,b,c] 44:=by
 have key:∀{x y z:Int},0<=x->x<=z->0<=y->y<=z->0<z->z<=1000->∃p q r:Int,p.natAbs<=44/\q.natAbs<=44/\r.natAbs<=44/\p*x+q*y+r*z=0/\(p≠0\/q≠0\/r≠0):=λ{x y z} h1 h2 h3 h4 h5 h6=>by
  have:=zhw (a:=x.toNat) (b:=y.toNat) (c:=z.toNat) (by omega) (by omega) (by omega) (by omega);rwa [_cN h1,_cN h3,_cN (by omega)]at this
 have fin:∀p q r:Int,p.natAbs<=44->q.natAbs<=44->r.natAbs<=44->p*a+q*b+r*c=0->(p≠0\/q≠0\/r≠0)->vy [a,b,c] 44:=λp q r h1 h2 h3 e ne=>by
  refine⟨[p,q,r],rfl,λi hi=>?_,by simp only[dot_cons,z5h];omega,?_⟩
  ·simp only[_j,_an,_bQ]at hi;rcases hi with rfl | rfl | rfl<;>assumption
  ·rcases ne with h | h | h;·exact vo (i:=p) (by simp) h
   ·exact vo (i:=q) (by simp) h
   ·exact vo (i:=r) (by simp) h
 by_cases c1:a<=c/\b<=c
 ·obtain⟨p,q,r,h1,h2,h3,e,ne⟩:=key (x:=a) (y:=b) (z:=c) ha.1 c1.1 hb.1 c1.2 (by omega) hc.2;exact fin p q r h1 h2 h3 e ne
 by_cases c2:a<=b/\c<=b
 ·obtain⟨p,q,r,h1,h2,h3,e,ne⟩:=key (x:=a) (y:=c) (z:=b) ha.1 c2.1 hc.1 c2.2 (by omega) hb.2;exact fin p r q h1 h3 h2 (by omega) (by omega)
 ·obtain⟨p,q,r,h1,h2,h3,e,ne⟩:=key (x:=b) (y:=c) (z:=a) hb.1 (by omega) hc.1 (by omega) (by omega) ha.2;exact fin r p q h3 h1 h2 (by omega) (by omega)
theorem zhp{a b c d:Int}(ha:0<=a/\a<=1000)(hb:0<=b/\b<=1000)(hc:0<=c/\c<=1000)(hd:0<=d/\d<=1000):vy [a,b,c,d] 15:=by
 obtain⟨a,rfl⟩:=_aM ha.1;obtain⟨b,rfl⟩:=_aM hb.1;obtain⟨c,rfl⟩:=_aM hc.1;obtain⟨d,rfl⟩:=_aM hd.1;obtain⟨i,j,hij,hj,e⟩:=z8U 60001 (λt=>(t / 4096)*a+(t / 256 % 16)*b+(t / 16 % 16)*c+(t % 16)*d) (λt ht=>by
  have e1:(t / 4096)*a<=15*1000:=_aZ (by omega) (by omega);have e2:(t / 256 % 16)*b<=15*1000:=_aZ (by omega) (by omega);have e3:(t / 16 % 16)*c<=15*1000:=_aZ (by omega) (by omega);have e4:(t % 16)*d<=15*1000:=_aZ (by omega) (by omega);show _+_+_+_<60001;omega);have ne:i / 4096≠j / 4096\/i / 256 % 16≠j / 256 % 16\/i / 16 % 16≠j / 16 % 16\/i % 16≠j % 16:=by omega
 have x1:i / 4096<=15:=by omega
 have x2:j / 4096<=15:=by omega
 have y1:i / 256 % 16<=15:=by omega
 have y2:j / 256 % 16<=15:=by omega
 have z1:i / 16 % 16<=15:=by omega
 have z2:j / 16 % 16<=15:=by omega
 have w1:i % 16<=15:=by omega
 have w2:j % 16<=15:=by omega
 generalize i / 4096=i1 at *;generalize i / 256 % 16=i2 at *;generalize i / 16 % 16=i3 at *;generalize i % 16=i4 at *;generalize j / 4096=j1 at *;generalize j / 256 % 16=j2 at *;generalize j / 16 % 16=j3 at *;generalize j % 16=j4 at *;refine⟨[(j1:Int)-i1,(j2:Int)-i2,(j3:Int)-i3,(j4:Int)-i4],rfl,λk hk=>?_,?_,?_⟩
 ·simp only[_j,_an,_bQ]at hk;rcases hk with rfl | rfl | rfl | rfl<;>omega
 ·simp only[dot_cons,z5h];rw[_a1,_a1,_a1,_a1];have:=_a5 (λz:Nat=>(z:Int)) e;simp only[_cG,_cH]at this;omega
 ·rcases ne with h | h | h | h;·exact vo (i:=(j1:Int)-i1) (by simp) (by omega)
  ·exact vo (i:=(j2:Int)-i2) (by simp) (by omega)
  ·exact vo (i:=(j3:Int)-i3) (by simp) (by omega)
  ·exact vo (i:=(j4:Int)-i4) (by simp) (by omega)
noncomputable def bnd(n:Nat):Nat:=if n=2 then 1000 else if n=3 then 44 else 15
theorem SmL.has{n:Nat}{v:List Int}(h:SmL n v)(hp:∃x∈v,0<x):vy v (bnd n):=by
 have h1:=h.len;have h2:=h.lo;have h3:=h.hi;have bd:=h.bd;obtain⟨x,hx,x0⟩:=hp;match v,h1 with
 | [],e=>simp at e;omega | [_],e=>simp at e;omega | [a,b],e=>
  have:n=2:=by simpa using e.symm
  subst this;simp only[_j,_an,_bQ]at hx;exact zhT (bd a (by simp)) (bd b (by simp)) (by rcases hx with rfl | rfl<;>simp[x0]) | [a,b,c],e=>
  have:n=3:=by simpa using e.symm
  subst this;simp only[_j,_an,_bQ]at hx;exact zhL (bd a (by simp)) (bd b (by simp)) (bd c (by simp)) (by rcases hx with rfl | rfl | rfl<;>simp[x0]) | [a,b,c,d],e=>
  have:n=4:=by simpa using e.symm
  subst this;exact zhp (bd a (by simp)) (bd b (by simp)) (bd c (by simp)) (bd d (by simp)) | _::_::_::_::_::_,e=>simp at e;omega
theorem z8t{v:List Int}{W:Nat}(h:vy v W):∃w,w<=W/\1<=w/\vy v w/\∀w',w'<w->¬ vy v w':=by induction W using Nat.strongRecOn with | ind W ih=>
  by_cases q:∃w',w'<W/\vy v w'
  ·obtain⟨w',h1,h2⟩:=q;obtain⟨w,a,b⟩:=ih w' h1 h2;exact⟨w,by omega,b⟩
  ·refine⟨W,_d _,?_,h,λw' h1 h2=>q ⟨w',h1,h2⟩⟩;obtain⟨x,h1,h2,h3,h4⟩:=h;have ne:x≠[]:=λz=>by rw[z]at h4;simp[wgt,maxL]at h4
   obtain⟨i,hi,e⟩:=z49 ne;have:=h2 i hi;omega
theorem z5X:∀{x y v:List Int},x.length=y.length->dot (List.zipWith (λa b=>a-b) x y) v=dot x v-dot y v
 | [],[],v,_=>by simp[dot] | a::x,b::y,[],_=>by simp[dot] | a::x,b::y,c::v,h=>by
  rw[_cl,dot_cons,dot_cons,dot_cons,z5X (by simpa using h),_a1];omega
theorem z5S:∀{x y:List Int},x.length=y.length->(∀i∈List.zipWith (λa b:Int=>a-b) x y,i=0)->x=y
 | [],[],_,_=>rfl | a::x,b::y,h,z=>by
  simp only[_cl,_j,forall_eq_or_imp]at z;rw[z5S (by simpa using h) z.2,show a=b by omega]
theorem zba{w:Nat}(hw:1<=w):∀{x y:List Int},x.map (λi=>i / (w:Int))=y.map (λi=>i / (w:Int))->∀i∈List.zipWith (λa b:Int=>a-b) x y,i.natAbs<=w-1
 | [],_,_,i,hi=>by simp at hi | _::_,[],_,i,hi=>by simp at hi | a::x,b::y,h,i,hi=>by
  simp only[_t,List.cons.injEq]at h;simp only[_cl,_j]at hi;rcases hi with rfl | hi
  ·have e1:=Int.emod_add_mul_ediv a w;have e2:=Int.emod_add_mul_ediv b w;have l1:=_a4 a (show (w:Int)≠0 by omega);have l2:=_a4 b (show (w:Int)≠0 by omega);have l3:=_aH a (show (0:Int)<w by omega);have l4:=_aH b (show (0:Int)<w by omega);rw[h.1]at e1;omega
  ·exact zba hw h.2 i hi
theorem zha {v:List Int} {w m:Nat} (hw:1<=w) (no:∀w',w'<w->¬ vy v w'):(z6I v m).length<=(2*(m / w)+2) ^ v.length:=by
 have m0:∀x∈z6I v m,x.length=v.length/\(∀i∈x,i.natAbs<=m)/\dot x v=0:=λx hx=>by
  obtain⟨h1,h2⟩:=_I.mp hx;obtain⟨h3,h4⟩:=yo.mp h1;exact⟨h3,h4,by simpa using h2⟩
 have nd:((z6I v m).map λx=>x.map λi=>i / (w:Int)).Nodup:=by
  unfold List.Nodup;rw[_a2];refine _bv (λ{x y} hx hy ne e=>?_) ((z1u _ _).nodup.filter _);obtain⟨x1,x2,x3⟩:=m0 x hx;obtain⟨y1,y2,y3⟩:=m0 y hy;by_cases z:∀i∈List.zipWith (λa b:Int=>a-b) x y,i=0;·exact ne (z5S (by omega) z)
  ·have ⟨i,hi⟩:=Classical.not_forall.mp z;have ⟨hm,h0⟩:=Classical.not_imp.mp hi;exact no (w-1) (by omega) ⟨List.zipWith (λa b=>a-b) x y,by rw[List.length_zipWith];omega,zba hw e,by rw[z5X (by omega)];omega,vo hm h0⟩
 have sub:∀z∈(z6I v m).map (λx=>x.map λi=>i / (w:Int)),z∈uR (List.replicate v.length ((List.range (2*(m / w)+2)).map λk:Nat=>-((m / w:Nat):Int)-1+((k:Nat):Int))):=λz hz=>by
  obtain⟨x,hx,rfl⟩:=_x.mp hz;obtain⟨x1,x2,_⟩:=m0 x hx;rw[z12];refine⟨by simp[x1],λk hk=>?_⟩;rw[_co]at hk;rw[show (List.replicate v.length ((List.range (2*(m / w)+2)).map λk:Nat=>-((m / w:Nat):Int)-1+((k:Nat):Int))).getD k []=(List.range (2*(m / w)+2)).map λk:Nat=>-((m / w:Nat):Int)-1+((k:Nat):Int) by simp[_V,hk]];have hk':k<x.length:=by omega
  have xi:=x2 x[k] (_bx _);rw[show (x.map λi=>i / (w:Int)).getD k 0=x[k] / (w:Int) by simp[_V,hk']];generalize x[k]=i at xi;have wp:(0:Int)<w:=by omega
  have dm:=Nat.mod_add_div m w;have ml:=Nat.mod_lt m hw;have mq:(w:Int)*((m / w:Nat):Int)+((m % w:Nat):Int)=m:=by
   have:=_a5 (λz:Nat=>(z:Int)) dm;simp only[_cG,_cH]at this;omega
  have up:i / (w:Int)<=((m / w:Nat):Int):=by
   have:=Int.ediv_le_ediv wp (show i<=(m:Int) by omega);rwa [<- Int.natCast_ediv]at this
  have lo:-((m / w:Nat):Int)-1<=i / (w:Int):=by
   refine (Int.le_ediv_iff_mul_le wp).mpr ?_;rw[_a1,Int.neg_mul,_a8 ((m / w:Nat):Int)];omega
  exact _x.mpr ⟨(i / (w:Int)+((m / w:Nat):Int)+1).toNat,by rw[_bc];omega,by omega⟩
 have:=len_sub nd sub;rw[_m]at this;refine _H this ?_;have:=z4G (List.replicate v.length ((List.range (2*(m / w)+2)).map λk:Nat=>-((m / w:Nat):Int)-1+((k:Nat):Int))) (k:=2*(m / w)+2) λc hc=>by rw[_bw hc];simp
 simpa using this
open L2 Dd Pg Pn Po Pr
structure LW(n:Nat)(v:List Int)(w:Nat):Prop where
 L:SmL n v
 pos:∃x∈v,0<x
 le:w<=bnd n
 one:1<=w
 has:vy v w
 no:∀w',w'<w->¬ vy v w'
theorem SmL.lw{n:Nat}{v:List Int}(h:SmL n v)(hp:∃x∈v,0<x):∃w,LW n v w:=by
 obtain⟨w,a,b,c,d⟩:=z8t (h.has hp);exact⟨w,h,hp,a,b,c,d⟩
theorem LW.lot{n w:Nat}{v:List Int}(h:LW n v w):Lot n v:=⟨by have:=h.L.lo;have:=h.L.hi;unfold Sz;omega,h.L.len,λx hx=>(h.L.bd x hx).1,h.pos⟩
section
variable {n w:Nat}{v:List Int}(h:LW n v w)
include h
theorem LW.rels{m:Nat}(hm:m<=n*w)(s:Sto):zj [rD v,.int m] s=.ok (.lst ((rel v m).map rD)) s:=by
 have vl:=h.L.len;have lo:=h.L.lo;have hi:=h.L.hi;have le:=h.le;have one:=h.one;have pk:=zha (m:=m) one h.no;have mw:m / w<=n:=_a0 (by rw[_bU];exact hm);rw[vl]at pk;have cs:n=2\/n=3\/n=4:=by omega
 have b1:m<=2000/\(2*m+1) ^ (v.length / 2)<=90000/\(2*m+1) ^ (v.length-v.length / 2)<=90000/\(z6I v m).length<=90000:=by
  rw[vl];rcases cs with rfl | rfl | rfl
  ·have:w<=1000:=le;have p2:(2*(m / w)+2) ^ 2<=6 ^ 2:=_ap (by omega) 2;refine⟨by omega,?_,?_,by omega⟩;·show (2*m+1) ^ 1<=90000;rw[Nat.pow_one];omega
   ·show (2*m+1) ^ 1<=90000;rw[Nat.pow_one];omega
  ·have:w<=44:=le;have p2:(2*(m / w)+2) ^ 3<=8 ^ 3:=_ap (by omega) 3;have p3:(2*m+1) ^ 2<=265 ^ 2:=_ap (by omega) 2;refine⟨by omega,?_,?_,by omega⟩;·show (2*m+1) ^ 1<=90000;rw[Nat.pow_one];omega
   ·show (2*m+1) ^ 2<=90000;omega
  ·have:w<=15:=le;have p2:(2*(m / w)+2) ^ 4<=10 ^ 4:=_ap (by omega) 4;have p3:(2*m+1) ^ 2<=121 ^ 2:=_ap (by omega) 2;refine⟨by omega,?_,?_,by omega⟩;·show (2*m+1) ^ 2<=90000;omega
   ·show (2*m+1) ^ 2<=90000;omega
 exact z59 h.L (by omega) b1.2.1 b1.2.2.1 b1.2.2.2 s
theorem LW.len{m:Nat}(hm:m<=n*w):(rel v m).length<=10000:=by
 have pk:=zha (m:=m) h.one h.no;have mw:m / w<=n:=_a0 (by rw[_bU];exact hm);have lo:=h.L.lo;have hi:=h.L.hi;rw[h.L.len]at pk;have cs:n=2\/n=3\/n=4:=by omega
 have:(z6I v m).length<=10000:=by
  rcases cs with rfl | rfl | rfl
  ·have p2:(2*(m / w)+2) ^ 2<=6 ^ 2:=_ap (by omega) 2;omega
  ·have p2:(2*(m / w)+2) ^ 3<=8 ^ 3:=_ap (by omega) 3;omega
  ·have p2:(2*(m / w)+2) ^ 4<=10 ^ 4:=_ap (by omega) 4;omega
 rw[z7Q];exact _H (_aq _ _) this
theorem LW.relne{m:Nat}{x:List Int}(hx:x∈rel v m):x≠[]/\x.length<=1000/\(w:Int)<=wgt x:=by
 obtain⟨h1,h2,h3,h4⟩:=yX.mp hx;have vl:=h.L.len;have lo:=h.L.lo;have hi:=h.L.hi;have ne:x≠[]:=λz=>by rw[z]at h1;simp at h1;omega
 refine⟨ne,by omega,?_⟩;rcases Int.lt_or_le (wgt x) w with z | z
 ·have nn:=zdP ne;refine absurd ⟨x,h1,?_,h3,h4⟩ (h.no (wgt x).toNat (by omega));exact (z24 ne).mp (by omega)
 ·exact z
theorem LW.same{m:Nat}(hm:w<=m):(rel v m).filter (λx=>decide (wgt x=(w:Int)))=rel v w:=by
 refine z5N ((jW v m).filter _) (jW v w) λx=>?_;rw[_I,_l];constructor
 ·rintro⟨h1,h2⟩;have ne:=(h.relne h1).1;obtain⟨a,b,c,d⟩:=yX.mp h1;exact yX.mpr ⟨a,(z24 ne).mp (by omega),c,d⟩
 ·intro h1;have ⟨ne,_,ge⟩:=h.relne h1;obtain⟨a,b,c,d⟩:=yX.mp h1;have:=(z24 (m:=w) ne).mpr b;exact⟨yX.mpr ⟨a,λi hi=>_H (b i hi) hm,c,d⟩,by omega⟩
theorem LW.want (s:Sto):xI [rD v] s=.ok .non s:=by
 have w1:=z6X h.lot s;have mx:uD [rD v] s=.ok (.int (maxL v)) s:=zbb s h.lot.ne;have mle:maxL v<=1000:=(h.L.bd _ (maxL_mem h.lot.ne)).2;have key:∀d:D,wR [d] s=.ok .non s->uD [d] s=.ok (.int (maxL v)) s->xI [d] s=.ok .non s:=λd h1 h2=>by
  have st:zT ["lot"] [d]=[some d]:=rfl;simp only[xI,Mof,jr,st,_p,_J,_P];rw[zr (ρ':=[some d]) (s':=s) (by rw[qS,jj,yc (x:=d) (vr rfl),h1];rfl),qP,zd6 (jH (by rw[op2 (x:=.int (maxL v)) (y:=.int 1000) (by rw[yc (x:=d) (vr rfl)];exact h2) rfl,zbJ,_ay (by omega)]))];rfl
 exact key _ w1 mx
noncomputable abbrev V4(a0 a1 a2 a3:Option D):Ev:=[a0,a1,a2,a3]
theorem LW.loop (d:D) (hd:d=rD v) (s:Sto):∀(f i:Nat),2 ^ i<2*w->w<=2 ^ (i+f)->∃j,w<=2 ^ j/\2 ^ j<2*w/\wB (z74 (zd4 (zd 2))) (zM yZ yW) (f+1) (V4 (some d) (some (.int ((2 ^ i:Nat):Int))) (some (.lst ((rel v (2 ^ i)).map rD))) none) s=.ok (.nx (V4 (some d) (some (.int ((2 ^ j:Nat):Int))) (some (.lst ((rel v (2 ^ j)).map rD))) none)) s:=by
 have lo:=h.L.lo;have tst:∀i,z74 (zd4 (zd 2)) (V4 (some d) (some (.int ((2 ^ i:Nat):Int))) (some (.lst ((rel v (2 ^ i)).map rD))) none) s=.ok (((rel v (2 ^ i)).isEmpty)) s:=λi=>by
  rw[zbx,zf5,vr (d:=.lst ((rel v (2 ^ i)).map rD)) rfl,Rb];simp[Dd.listOf]
 intro f;induction f with
 | zero=>
  intro i h1 h2;refine⟨i,h2,h1,?_⟩;have ne:(rel v (2 ^ i)).isEmpty=false:=by
   have:=qm.mpr (h.has.mono h2);simpa using this
  rw[wB,tst,ne,Rb,_i (by simp)] | succ f ih=>
  intro i h1 h2;by_cases c:w<=2 ^ i
  ·refine⟨i,c,h1,?_⟩;have ne:(rel v (2 ^ i)).isEmpty=false:=by
    have:=qm.mpr (h.has.mono c);simpa using this
   rw[wB,tst,ne,Rb,_i (by simp)]
  ·have e0:(rel v (2 ^ i)).isEmpty=true:=by cases z:rel v (2 ^ i) with
    | nil=>rfl | cons a t=>exact absurd (qm.mp (by rw[z];simp)) (h.no _ (by omega))
   have p2:2 ^ (i+1)=2*2 ^ i:=by rw[_dw,_bU]
   obtain⟨j,j1,j2,e⟩:=ih (i+1) (by omega) (by rw[show i+1+f=i+(f+1) by omega];exact h2);refine⟨j,j1,j2,?_⟩;have le:=h.le;have bn:bnd n<=1000:=by unfold bnd;split<;>(try split)<;>omega
   have f5:yZ (V4 (some d) (some (.int ((2 ^ i:Nat):Int))) (some (.lst ((rel v (2 ^ i)).map rD))) none) s=.ok (.nx (V4 (some d) (some (.int ((2 ^ (i+1):Nat):Int))) (some (.lst ((rel v (2 ^ i)).map rD))) none)) s:=by
    rw[yZ,yh,op2 (x:=.int 2) (y:=.int ((2 ^ i:Nat):Int)) rfl (vr rfl),zaS (m:=10) (k:=20) s (by omega) (by omega) (by omega) (by omega),Rb,p2,show ((2*2 ^ i:Nat):Int)=2*((2 ^ i:Nat):Int) by simp];rfl
   have nw:2*w<=n*w:=_aN _ lo;have f6:yW (V4 (some d) (some (.int ((2 ^ (i+1):Nat):Int))) (some (.lst ((rel v (2 ^ i)).map rD))) none) s=.ok (.nx (V4 (some d) (some (.int ((2 ^ (i+1):Nat):Int))) (some (.lst ((rel v (2 ^ (i+1))).map rD))) none)) s:=by
    have r:=h.rels (m:=2 ^ (i+1)) (by omega) s;rw[<- hd]at r;rw[yW,yh,call2 (x:=d) (y:=.int ((2 ^ (i+1):Nat):Int)) (vr rfl) (vr rfl),r];rfl
   rw[wB,tst,e0,Rb,_g rfl,zr f5,f6,Rb];exact e
theorem LW.byw (s:Sto):zq [rD v] s=.ok (.lst ((rel v w).map rD)) s:=by
 have le:=h.le;have one:=h.one;have lo:=h.L.lo;have bn:bnd n<=1000:=by unfold bnd;split<;>(try split)<;>omega
 have nw:2*w<=n*w:=_aN _ lo;have wl:w<=2 ^ (0+10):=by show w<=1024;omega
 have key:∀(d:D),d=rD v->zq [d] s=.ok (.lst ((rel v w).map rD)) s:=λd hd=>by
  have st:zT ["lot","most","found","least"] [d]=V4 (some d) none none none:=rfl;have ws:=h.want s;have r1:=h.rels (m:=1) (by omega) s;rw[<- hd]at ws r1;obtain⟨j,j1,j2,lp⟩:=h.loop d hd s 10 0 (by omega) wl;have f3:xS (V4 (some d) (some (.int 1)) none none) s=.ok (.nx (V4 (some d) (some (.int ((2 ^ 0:Nat):Int))) (some (.lst ((rel v (2 ^ 0)).map rD))) none)) s:=by
   rw[xS,yh,call2 (x:=d) (y:=.int 1) (vr rfl) (vr rfl)];rw[show zj [d,.int 1] s=.ok (.lst ((rel v 1).map rD)) s from r1];rfl
  have f4:xT (V4 (some d) (some (.int ((2 ^ 0:Nat):Int))) (some (.lst ((rel v (2 ^ 0)).map rD))) none) s=.ok (.nx (V4 (some d) (some (.int ((2 ^ j:Nat):Int))) (some (.lst ((rel v (2 ^ j)).map rD))) none)) s:=by
   rw[xT];exact z0v lp (by intro z;cases z)
  have rn:∀x∈rel v (2 ^ j),x≠[]/\x.length<=1000/\(w:Int)<=wgt x:=λx hx=>h.relne hx;have ln:=h.len (m:=2 ^ j) (by omega);have ne:=qm.mpr (h.has.mono j1);have sm:=h.same j1;have lw:minL ((rel v (2 ^ j)).map wgt)=(w:Int):=by
   obtain⟨x,hx,e⟩:=_x.mp (minL_mem (show (rel v (2 ^ j)).map wgt≠[] by simpa using ne));have g1:=(rn x hx).2.2;obtain⟨y,hy⟩:=_bn _ (qm.mpr h.has);rw[<- sm]at hy;obtain⟨y1,y2⟩:=_I.mp hy;have g2:=minL_le (wgt y) (_x.mpr ⟨y,y1,rfl⟩);have y3:wgt y=w:=by simpa using y2
   omega
  generalize rel v (2 ^ j)=R at *;generalize 2 ^ j=J at *;have c7:=comp_map (fi:=zR (zd 2)) (mp:=[none]) (fg:=yJ 0) (fe:=ze yz (za (zd 0) zi)) (ρ:=V4 (some d) (some (.int J)) (some (.lst (R.map rD))) none) (s:=s) rD (λx=>D.int (wgt x)) (λx=>[some (rD x)]) R (yC (vr rfl)) (λx _=>rfl) (λx hx=>by rw[yc (x:=rD x) (vr rfl)];exact z0r (rn x hx).1 (rn x hx).2.1 s) (by unfold cap;omega);have f7:xQ (V4 (some d) (some (.int J)) (some (.lst (R.map rD))) none) s=.ok (.nx (V4 (some d) (some (.int J)) (some (.lst (R.map rD))) (some (.int w)))) s:=by
   rw[xQ,yh,yc c7,show (R.map λx=>D.int (wgt x))=iL (R.map wgt) by simp[_ad],z8e s (by simpa using ne),lw];rfl
  have c8:=z0q (fi:=zR (zd 2)) (mp:=[some 3,none]) (fg:=yJ 1) (ft:=tOf (eOp dEq (ze yz (za (zd 1) zi)) (zd 0))) (fe:=zd 1) (ρ:=V4 (some d) (some (.int J)) (some (.lst (R.map rD))) (some (.int w))) (s:=s) rD rD (λx=>decide (wgt x=(w:Int))) (λx=>[some (.int w),some (rD x)]) R (yC (vr rfl)) (λx _=>rfl) (λx hx=>jH (by rw[op2 (x:=.int (wgt x)) (y:=.int w) (by rw[yc (x:=rD x) (vr rfl)];exact z0r (rn x hx).1 (rn x hx).2.1 s) (vr rfl),z10])) (λx _ _=>vr rfl) (by unfold cap;omega);rw[sm]at c8;simp only[zq,Mof,ww,st,_p,_J,_P];rw[zr (ρ':=V4 (some d) none none none) (s':=s) (by rw[wF,jj,yc (x:=d) (vr rfl),ws];rfl),zr (ρ':=V4 (some d) (some (.int 1)) none none) (s':=s) rfl,zr f3,zr f4,zr f7,vD,xH,c8];rfl
 exact key _ rfl
end
theorem xU(i:Int)(x:List Int):lng (i::x)=(i.natAbs:Int)+lng x:=by simp[lng]
theorem z2i:∀x:List Int,0<=lng x
 | []=>by simp[lng] | i::x=>by rw[xU];have:=z2i x;omega
theorem kJ:∀{x:List Int}{i:Int},i∈x->((i.natAbs:Nat):Int)<=lng x
 | j::x,i,h=>by
  rw[xU];have:=z2i x;rcases _j.mp h with rfl | h;·omega
  ·have:=kJ h;omega
theorem z8L{m:Nat}:∀{x:List Int},(∀i∈x,i.natAbs<=m)->lng x<=((x.length*m:Nat):Int)
 | [],_=>by simp[lng] | i::x,h=>by
  rw[xU,_p,Nat.add_mul,Nat.one_mul];have:=z8L (x:=x) λi hi=>h i (.tail _ hi);have:=h i (.head _);omega
def uO(v:List Int)(l:Nat):List (List Int):=(rel v l).filter λx=>decide (lng x=(l:Int))
theorem vc{v:List Int}{l:Nat}{x:List Int}:x∈uO v l ↔ x.length=v.length/\dot x v=0/\0<wgt x/\lng x=(l:Int):=by
 unfold uO;rw[_I,yX,_l];constructor;·rintro⟨⟨a,b,c,d⟩,e⟩;exact⟨a,c,d,e⟩
 ·rintro⟨a,c,d,e⟩;exact⟨⟨a,λi hi=>by have:=kJ hi;omega,c,d⟩,e⟩
theorem z2q(v:List Int)(l:Nat):Up (uO v l):=(jW v l).filter _
structure LL(v:List Int)(l:Nat):Prop where
 has:uO v l≠[]
 no:∀x:List Int,x.length=v.length->dot x v=0->0<wgt x->(l:Int)<=lng x
section
variable {n w:Nat}{v:List Int}(h:LW n v w)
include h
theorem LW.ll:∃l,LL v l/\w<=l/\l<=n*w/\(∀s,zH [rD v] s=.ok (.lst ((uO v l).map rD)) s):=by
 have vl:=h.L.len;have lo:=h.L.lo;have hi:=h.L.hi;have rne:=qm.mpr h.has;have wn:w<=n*w:=by have:=_aN w (show 1<=n by omega);omega
 obtain⟨y,hy,ey⟩:=_x.mp (minL_mem (show (rel v w).map lng≠[] by simpa using rne));obtain⟨m,em⟩:∃m:Nat,lng y=(m:Int):=⟨(lng y).toNat,by have:=z2i y;omega⟩;have yl:=(yX.mp hy);have mw:m<=n*w:=by
  have:=z8L yl.2.1;rw[yl.1,vl]at this;omega
 have wm:w<=m:=by
  have g:=(h.relne hy);obtain⟨i,hi,e⟩:=z49 g.1;have:=kJ hi;omega
 have fne:=qm.mpr (h.has.mono wm);obtain⟨z,hz,ez⟩:=_x.mp (minL_mem (show (rel v m).map lng≠[] by simpa using fne));obtain⟨l,el⟩:∃l:Nat,lng z=(l:Int):=⟨(lng z).toNat,by have:=z2i z;omega⟩;have zl:=yX.mp hz;have lm:l<=m:=by
  have:y∈rel v m:=yX.mpr ⟨yl.1,λi hi=>by have:=kJ hi;omega,yl.2.2⟩;have:=minL_le (lng y) (_x.mpr ⟨y,this,rfl⟩);omega
 have wl:w<=l:=by
  have g:=(h.relne hz);obtain⟨i,hi,e⟩:=z49 g.1;have:=kJ hi;omega
 have L0:LL v l:=by
  refine⟨_cZ (vc.mpr ⟨zl.1,zl.2.2.1,zl.2.2.2,el⟩),λx x1 x2 x3=>?_⟩;rcases Int.lt_or_le (lng x) l with q | q
  ·have:x∈rel v m:=yX.mpr ⟨x1,λi hi=>by have:=kJ hi;omega,x2,x3⟩;have:=minL_le (lng x) (_x.mpr ⟨x,this,rfl⟩);omega
  ·exact q
 refine⟨l,L0,wl,by omega,λs=>?_⟩;have same:(rel v m).filter (λx=>decide (lng x=(l:Int)))=uO v l:=by
  refine z5N ((jW v m).filter _) (z2q v l) λx=>?_;rw[_I,vc,yX,_l];constructor;·rintro⟨⟨a,b,c,d⟩,e⟩;exact⟨a,c,d,e⟩
  ·rintro⟨a,c,d,e⟩;exact⟨⟨a,λi hi=>by have:=kJ hi;omega,c,d⟩,e⟩
 have bw:=h.byw s;have rw_:=h.rels mw s;have l1:=h.len wn;have l2:=h.len mw;have n1:∀x∈rel v w,x.length<=1000:=λx hx=>(h.relne hx).2.1;have n2:∀x∈rel v m,x.length<=1000:=λx hx=>(h.relne hx).2.1;have mm:minL ((rel v w).map lng)=(m:Int):=by rw[<- ey,em]
 have ml:minL ((rel v m).map lng)=(l:Int):=by rw[<- ez,el]
 generalize uO v l=T at same;generalize rel v w=A at *;generalize rel v m=B at *;have key:∀d:D,zq [d] s=.ok (.lst (A.map rD)) s->zj [d,.int m] s=.ok (.lst (B.map rD)) s->zH [d] s=.ok (.lst (T.map rD)) s:=λd e1 e2=>by
  have st:zT ["lot","found","least"] [d]=[some d,none,none]:=rfl;have c1:=comp_map (fi:=zR (ze zq (za (zd 0) zi))) (mp:=[none]) (fg:=yJ 0) (fe:=ze ym (za (zd 0) zi)) (ρ:=[some d,none,none]) (s:=s) rD (λx=>D.int (lng x)) (λx=>[some (rD x)]) A (yC (by rw[yc (x:=d) (vr rfl)];exact e1)) (λx _=>rfl) (λx hx=>by rw[yc (x:=rD x) (vr rfl)];exact z0w (n1 x hx) s) (by unfold cap;omega);have f1:zP [some d,none,none] s=.ok (.nx [some d,some (.lst (B.map rD)),none]) s:=by
   rw[zP,yh,call2 (x:=d) (y:=.int m) (vr rfl) (by rw[yc c1,show (A.map λx=>D.int (lng x))=iL (A.map lng) by simp[_ad],z8e s (by simpa using rne),mm]),e2];rfl
  have c2:=comp_map (fi:=zR (zd 1)) (mp:=[none]) (fg:=yJ 0) (fe:=ze ym (za (zd 0) zi)) (ρ:=[some d,some (.lst (B.map rD)),none]) (s:=s) rD (λx=>D.int (lng x)) (λx=>[some (rD x)]) B (yC (vr rfl)) (λx _=>rfl) (λx hx=>by rw[yc (x:=rD x) (vr rfl)];exact z0w (n2 x hx) s) (by unfold cap;omega);have f2:yD [some d,some (.lst (B.map rD)),none] s=.ok (.nx [some d,some (.lst (B.map rD)),some (.int l)]) s:=by
   rw[yD,yh,yc c2,show (B.map λx=>D.int (lng x))=iL (B.map lng) by simp[_ad],z8e s (by simpa using fne),ml];rfl
  have c3:=z0q (fi:=zR (zd 1)) (mp:=[some 2,none]) (fg:=yJ 1) (ft:=tOf (eOp dEq (ze ym (za (zd 1) zi)) (zd 0))) (fe:=zd 1) (ρ:=[some d,some (.lst (B.map rD)),some (.int l)]) (s:=s) rD rD (λx=>decide (lng x=(l:Int))) (λx=>[some (.int l),some (rD x)]) B (yC (vr rfl)) (λx _=>rfl) (λx hx=>jH (by rw[op2 (x:=.int (lng x)) (y:=.int l) (by rw[yc (x:=rD x) (vr rfl)];exact z0w (n2 x hx) s) (vr rfl),z10])) (λx _ _=>vr rfl) (by unfold cap;omega);rw[same]at c3;simp only[zH,Mof,wz,st,_p,_J,_P];rw[zr f1,zr f2,xO,xH,c3];rfl
 exact key _ bw rw_
theorem LW.m_lw (s:Sto):zU [rD v] s=.ok (.int w) s:=by
 have bw:=h.byw s;obtain⟨x,t,e⟩:=_bM (qm.mpr h.has);have hx:x∈rel v w:=by rw[e];exact .head _
 have g:=h.relne hx;have wl:wgt x=(w:Int):=by
  have:=(z24 (m:=w) g.1).mpr (yX.mp hx).2.1;omega
 have mwg:=z0r g.1 g.2.1 s;rw[wl]at mwg;rw[e]at bw;have key:∀(d y:D) (ys:List D),zq [d] s=.ok (.lst (y::ys)) s->yz [y] s=.ok (.int w) s->zU [d] s=.ok (.int w) s:=λd y ys e1 e2=>by
  have st:zT ["lot"] [d]=[some d]:=rfl;simp only[zU,Mof,yS,st,_p,_J,_P];rw[zZ,xH,yc (x:=y) (by rw[op2 (x:=.lst (y::ys)) (y:=.int 0) (by rw[yc (x:=d) (vr rfl)];exact e1) rfl,z5W (d:=y) (by omega) rfl]),e2];rfl
 exact key _ _ _ bw mwg
end
theorem LL.m_ll {v:List Int} {l:Nat} (h:LL v l) (hv:v.length<=4) (hb:∀s,zH [rD v] s=.ok (.lst ((uO v l).map rD)) s) (s:Sto):zJ [rD v] s=.ok (.int l) s:=by
 have bw:=hb s;obtain⟨x,t,e⟩:=_bM h.has;have hx:=vc.mp (show x∈uO v l by rw[e];exact .head _);have ml:=z0w (x:=x) (by omega) s;rw[hx.2.2.2]at ml;rw[e]at bw;have key:∀(d y:D) (ys:List D),zH [d] s=.ok (.lst (y::ys)) s->ym [y] s=.ok (.int l) s->zJ [d] s=.ok (.int l) s:=λd y ys e1 e2=>by
  have st:zT ["lot"] [d]=[some d]:=rfl;simp only[zJ,Mof,yO,st,_p,_J,_P];rw[yb,xH,yc (x:=y) (by rw[op2 (x:=.lst (y::ys)) (y:=.int 0) (by rw[yc (x:=d) (vr rfl)];exact e1) rfl,z5W (d:=y) (by omega) rfl]),e2];rfl
 exact key _ _ _ bw ml
end Pv
namespace Pp
open L2 Dd Pm Pg Pn
end Pp
namespace Po
open L2 Dd Pm Pg Pn
end Po
namespace Pp
open L2 Dd Pm Pg Pn
end Pp
namespace Pv
open L2 Dd Pm Pg Pn Po Pr Pp Pt
theorem zhF{r:Int}(s:Sto)(h0:0<=r)(h1:r<3):∃far:Int,dIx (.lst [.int 10,.int 61,.int 1001]) (.int r) s=.ok (.int far) s/\10<=far/\far<=1001:=by
 obtain⟨k,rfl⟩:=_aM h0;have:k=0\/k=1\/k=2:=by omega
 rcases this with rfl | rfl | rfl;·exact⟨10,rfl,by decide,by decide⟩
 ·exact⟨61,rfl,by decide,by decide⟩
 ·exact⟨1001,rfl,by decide,by decide⟩
theorem z6j(B:Int):∀ys:List D,(∀y∈ys,∃x:Int,y=.int x/\0<=x/\x<=B)->∃xs:List Int,ys=iL xs/\∀x∈xs,0<=x/\x<=B
 | [],_=>⟨[],rfl,by simp⟩ | y::ys,h=>by
  obtain⟨x,rfl,hx⟩:=h y (by simp);obtain⟨xs,rfl,hs⟩:=z6j B ys λz hz=>h z (by simp[hz]);exact⟨x::xs,rfl,λz hz=>by rcases _j.mp hz with rfl | hz;exact hx;exact hs z hz⟩
noncomputable abbrev EvS(l:Nat)(n:Nat)(a3 a4 a5 a6 a7:Option D):Ev:=[some (.loc l),some (.int n),a3,a4,a5,a6,a7]
theorem z55 {s:Sto} {l n:Nat} (h:Pot s l) (hsz:Sz n):∃v s',xh [.loc l,.int n] s=.ok (rD v) s'/\SmL n v/\(∃x∈v,0<x)/\qg s s' l:=by
 have hl:=h.lt;have hn:2<=n/\n<=4:=by unfold Sz at hsz;omega
 have st:zT ["_law_pot_here","_law_size","_law_far","_law_found","_law_at","_law_to","_law_way"] [.loc l,.int n]=EvS l n none none none none none:=rfl;obtain⟨r1,s1,e1,a1,b1,d1⟩:=z25 (ρ:=EvS l n none none none none none) (f:=zd 0) (g:=eC (.int 3)) (far:=3) h (by decide) (z8O (by decide)) (by simp) (by simp);obtain⟨far,ef,f0,f1⟩:=zhF s1 a1 b1;have ft:far<2 ^ 2000:=Int.lt_of_le_of_lt f1 (by decide +kernel);have p1:wI (EvS l n none none none none none) s=.ok (.nx (EvS l n (some (.int far)) none none none none)) s1:=by
  have:z3I (za (eC (.int 10)) (za (eC (.int 61)) (za (eC (.int 1001)) zi))) (EvS l n none none none none none) s=.ok (.lst [.int 10,.int 61,.int 1001]) s:=by
   simp only[z1c,zo,yq,zd1,Rb];rw[_g (by simp[cap])]
  rw[wI,yh,z3E,this,Rb,e1,Rb,ef];rfl
 obtain⟨ys,s2,e2,y1,y2,d2⟩:=z9C (fi:=z6F (za (zd 1) zi)) (mp:=[some 0,some 2,none]) (fg:=yJ 2) (fe:=ze zV (za (zd 0) (za (zd 1) zi))) (ρ:=EvS l n (some (.int far)) none none none none) (s:=s1) (s0:=s1) (λk:Nat=>D.int ((k:Nat):Int)) (λk=>[some (.loc l),some (.int far),some (.int ((k:Nat):Int))]) (λ_ s'=>qg s s' l) (λy=>∃x:Int,y=.int x/\0<=x/\x<=1000) (List.range n) (kb (n:=n) (by omega) (by simp)) (λk _ s=>by simp) (λi k _ s' hd=>by
   obtain⟨x,s'',e,x0,x1,d⟩:=zbp hd.pot (far:=far) (by omega) ft;exact⟨.int x,s'',by rw[call2 (x:=.loc l) (y:=.int far) (vr rfl) (vr rfl)];exact e,⟨x,rfl,x0,by omega⟩,hd.trans d⟩) (by simp[cap];omega) d1 (λy ⟨x,hx,_⟩=>by subst hx;rfl);obtain⟨xs,rfl,x2⟩:=z6j 1000 ys y2;have n2:xs.length=n:=by simpa using y1
 have p2:wM (EvS l n (some (.int far)) none none none none) s1=.ok (.nx (EvS l n (some (.int far)) (some (.loc s.length)) none none none)) (s2++[iL xs]):=by
  rw[wM,yh,e2,Rb,d2.len];rfl
 have L3:=LS.start d2 h xs;obtain⟨at_,s4,e4,a4,b4,d4⟩:=z25 (ρ:=EvS l n (some (.int far)) (some (.loc s.length)) none none none) (f:=zd 0) (g:=zd 1) (far:=n) L3.pot (by omega) (z8O (by omega)) (by simp) (by simp);have L4:=L3.drawn hl d4;obtain⟨to,s5,e5,a5,b5,d5⟩:=z25 (ρ:=EvS l n (some (.int far)) (some (.loc s.length)) none none none) (f:=zd 0) (g:=zd 1) (far:=n) L4.pot (by omega) (z8O (by omega)) (by simp) (by simp);have L5':=L4.drawn hl d5;have p3:wE (EvS l n (some (.int far)) (some (.loc s.length)) none none none) (s2++[iL xs])=.ok (.nx (EvS l n (some (.int far)) (some (.loc s.length)) (some (.int at_)) (some (.int to)) none)) s5:=by
  rw[wE,zaU,zo,e4,Rb,zo,e5];rfl
 obtain⟨way,s5w,e3,a3,b3,d3⟩:=z25 (ρ:=EvS l n (some (.int far)) (some (.loc s.length)) (some (.int at_)) (some (.int to)) none) (f:=zd 0) (g:=eC (.int 5)) (far:=5) L5'.pot (by decide) (z8O (by decide)) (by simp) (by simp);have L5:=L5'.drawn hl d3;have p4:wJ (EvS l n (some (.int far)) (some (.loc s.length)) (some (.int at_)) (some (.int to)) none) s5=.ok (.nx (EvS l n (some (.int far)) (some (.loc s.length)) (some (.int at_)) (some (.int to)) (some (.int way)))) s5w:=by rw[wJ,yh,e3];rfl
 let E:=EvS l n (some (.int far)) (some (.loc s.length)) (some (.int at_)) (some (.int to)) (some (.int way));have s5':∃s6 ys,xA E s5w=.ok (.nx E) s6/\LS s l s6 ys/\(∀y∈ys,0<=y/\y<=1000)/\ys.length=n:=by
  have t:tOf (eOp dEq (zd 6) (eC (.int 0))) E s5w=.ok (decide (way=0)) s5w:=jH (by rw[op2 (x:=.int way) (y:=.int 0) (vr rfl) rfl,z10]);by_cases z:way=0
  ·refine⟨_,_,?_,L5.set hl (xs.set at_.toNat 0),z9n x2 (by omega),by simp[n2]⟩;rw[xA,z45,t,Rb,_g (by simpa using z),ue];exact z4W (s1:=s5w) (s2:=s5w) (x:=0) rfl (vr rfl) (vr rfl) L5.at_ a4 (by omega)
  ·refine⟨s5w,xs,?_,L5,x2,n2⟩;rw[xA,z45,t,Rb,_i (by simpa using z)];rfl
 obtain⟨s6,ys,p5,L6,x6,n6⟩:=s5';have s7':∃s7 zs,xC E s6=.ok (.nx E) s7/\LS s l s7 zs/\(∀y∈zs,0<=y/\y<=1000)/\zs.length=n:=by
  have t:tOf (eOp dEq (zd 6) (eC (.int 1))) E s6=.ok (decide (way=1)) s6:=jH (by rw[op2 (x:=.int way) (y:=.int 1) (vr rfl) rfl,z10]);by_cases z:way=1
  ·have hra:to.toNat<ys.length:=by omega
   have ix:=zdz (d:=.int ys[to.toNat]) L6.at_ a5 (by simp[hra]);have my:=x6 ys[to.toNat] (_bx hra);refine⟨_,_,?_,L6.set hl (ys.set at_.toNat ys[to.toNat]),z9n x6 my,by simp[n6]⟩;rw[xC,z45,t,Rb,_g (by simpa using z),uh];exact z4W (s1:=s6) (s2:=s6) (x:=ys[to.toNat]) (by rw[op2 (x:=.loc s.length) (y:=.int to) (vr rfl) (vr rfl)];exact ix) (vr rfl) (vr rfl) L6.at_ a4 (by omega)
  ·refine⟨s6,ys,?_,L6,x6,n6⟩;rw[xC,z45,t,Rb,_i (by simpa using z)];rfl
 obtain⟨s7,zs,p7,L7,x7,n7⟩:=s7';have ne7:zs≠[]:=λz=>by rw[z]at n7;simp at n7;omega
 have s9':∃s9 ws,xw E s7=.ok (.nx E) s9/\LS s l s9 ws/\(∀y∈ws,0<=y/\y<=1000)/\ws.length=n/\∃x∈ws,0<x:=by
  have t:=zca (f:=zd 3) (ρ:=E) ne7 L7.at_ (vr rfl);by_cases z:maxL zs=0
  ·obtain⟨ra,sa,ea,aa,ba,da⟩:=z25 (ρ:=E) (f:=zd 0) (g:=eOp jn (zd 2) (eC (.int 1))) (far:=far-1) L7.pot (by omega) (Int.lt_trans (by omega) ft) (vr rfl) (by rw[op2 (x:=.int far) (y:=.int 1) (vr rfl) rfl];rfl);have La:=L7.drawn hl da;refine⟨_,_,?_,La.set hl (zs.set to.toNat (1+ra)),z9n x7 (by omega),by simp[n7],1+ra,List.mem_set (by omega) _,by omega⟩;rw[xw,z45,t,Rb,_g (by simpa using z),vW];exact z4W (s1:=sa) (s2:=sa) (x:=1+ra) (by rw[z3E,zd1,Rb,ea];rfl) (vr rfl) (vr rfl) La.at_ a5 (by omega)
  ·refine⟨s7,zs,?_,L7,x7,n7,z7j ne7 (λy hy=>(x7 y hy).1) z⟩;rw[xw,z45,t,Rb,_i (by simpa using z)];rfl
 obtain⟨s9,ws,p9,L9,x9,n9,w9⟩:=s9';refine⟨ws,s9.take s.length,?_,⟨n9,hn.1,hn.2,x9⟩,w9,L9.fin hl⟩;simp only[xh,z30,Mof,ux,st,_p,_J,_P];rw[zr p1,zr p2,zr p3,zr p4,zr p5,zr p7,zr p9];have c:z4h [.loc s.length] s9=.ok (rD ws) s9:=by simp only[z4h,xj,L9.at_]
 rw[vJ,xH,yc (x:=.loc s.length) (vr rfl),c];simp only[Rb];exact za4
noncomputable def neg(x:List Int):List Int:=x.map λi=>-i
noncomputable def abv(x:List Int):List Int:=x.map λi=>max i 0
noncomputable def cls(v:List Int)(m:Nat):List (List Int×List Int):=((rel v m).filter λx=>lexN (neg x) x).map λx=>(abv (neg x),abv x)
end Pv
namespace Pw
open L2 Dd Pm Pt Pv
abbrev Gd:=List (Int×List (List Int))
noncomputable def z3L(k:Int)(x:List Int):Gd->Gd
 | []=>[(k,[x])] | (j,ys)::t=>if j=k then (j,ys++[x])::t else (j,ys)::z3L k x t
structure GI(v:List Int)(P:List (List Int))(g:Gd):Prop where
 nd:(g.map (·.1)).Nodup
 at_:∀e∈g,e.2=P.filter (λx=>decide (dot x v=e.1))/\e.2≠[]
 al:∀x∈P,dot x v∈g.map (·.1)
theorem z1k(k:Int)(x:List Int):∀g:Gd,(z3L k x g).map (·.1)=if k∈g.map (·.1) then g.map (·.1) else g.map (·.1)++[k]
 | []=>by simp[z3L] | (j,ys)::t=>by
  unfold z3L;by_cases e:j=k;·rw[_g e];simp[e]
  ·rw[_i e];have e':¬ k=j:=λz=>e z.symm;simp only[_t,z1k k x t,_j,e',false_or];split<;>simp
theorem z6g{k:Int}{x:List Int}:∀{g:Gd}{e:Int×List (List Int)},(g.map (·.1)).Nodup->e∈z3L k x g->(e∈g/\e.1≠k)\/(∃ys,(k,ys)∈g/\e=(k,ys++[x]))\/(k∉g.map (·.1)/\e=(k,[x]))
 | [],e,_,h=>by simp[z3L]at h;exact .inr (.inr ⟨by simp,h⟩) | (j,ys)::t,e,nd,h=>by
  simp only[_t,_aR]at nd;unfold z3L at h;by_cases q:j=k
  ·rw[_g q]at h;subst q;rcases _j.mp h with rfl | h;·exact .inr (.inl ⟨ys,.head _,rfl⟩)
   ·exact .inl ⟨.tail _ h,λz=>nd.1 (by rw[<- z];exact _x.mpr ⟨e,h,rfl⟩)⟩
  ·rw[_i q]at h;rcases _j.mp h with rfl | h;·exact .inl ⟨.head _,q⟩
   ·rcases z6g nd.2 h with⟨h,h'⟩ | ⟨zs,h,h'⟩ | ⟨h,h'⟩;·exact .inl ⟨.tail _ h,h'⟩
    ·exact .inr (.inl ⟨zs,.tail _ h,h'⟩)
    ·exact .inr (.inr ⟨by simp only[_t,_j,not_or];exact⟨λz=>q z.symm,h⟩,h'⟩)
theorem GI.add{v:List Int}{P:List (List Int)}{g:Gd}(h:GI v P g)(x:List Int):GI v (P++[x]) (z3L (dot x v) x g):=by
 refine⟨?_,λe he=>?_,λy hy=>?_⟩
 ·rw[z1k];split;·exact h.nd
  ·rename_i q;rw[List.nodup_append];exact⟨h.nd,by simp,λa ha b hb=>by simp at hb;subst hb;exact λz=>q (z ▸ ha)⟩
 ·rw[List.filter_append];rcases z6g h.nd he with⟨q,ne⟩ | ⟨ys,q,rfl⟩ | ⟨q,rfl⟩
  ·obtain⟨h1,h2⟩:=h.at_ e q;have:¬ dot x v=e.1:=λz=>ne z.symm;simp[this,<- h1,h2]
  ·obtain⟨h1,h2⟩:=h.at_ _ q;simp only at h1;simp[<- h1]
  ·have:P.filter (λy=>decide (dot y v=dot x v))=[]:=by
    rw[List.filter_eq_nil_iff];intro y hy z;exact q (by rw[<- _cm z];exact h.al y hy)
   simp[this]
 ·rw[z1k];rcases _L.mp hy with hy | hy
  ·have:=h.al y hy;split;·exact this
   ·exact _L.mpr (.inl this)
  ·simp at hy;subst hy;split;·assumption
   ·simp
noncomputable def z4T(v:List Int)(P:List (List Int)):Gd:=P.foldl (λg x=>z3L (dot x v) x g) []
theorem z2P(v:List Int)(P:List (List Int)):GI v P (z4T v P):=by
 have key:∀(P Q:List (List Int))(g:Gd),GI v Q g->GI v (Q++P) (P.foldl (λg x=>z3L (dot x v) x g) g):=by
  intro P;induction P with
  | nil=>intro Q g h;simpa using h | cons x P ih=>intro Q g h;simpa using ih _ _ (h.add x)
 exact key P [] [] ⟨by simp,(λe h=>by cases h),λx h=>by cases h⟩
theorem z83(v:List Int)(P:List (List Int))(x:List Int):z4T v (P++[x])=z3L (dot x v) x (z4T v P):=by simp[z4T]
end Pw
namespace Px
open L2 Dd Pm Pg Pn Po Pr Pp Pt Pv Pw
def fnp(v:List Int)(p:List Int->Bool)(F G:List (List Int)):List (List Int):=G.flatMap λg=>((F.filter λx=>decide (dot x (v.take 2)=0-dot g (v.drop 2))).filter λx=>p (x++g)).map λx=>x++g
theorem zh5{v x g:List Int}(hv:2<=v.length)(hx:x.length=2):dot (x++g) v=dot x (v.take 2)+dot g (v.drop 2):=by
 conv=>lhs;rw[<- _S 2 v]
 exact kj (by rw[hx,_Z];omega)
theorem z0B{v:List Int}{p:List Int->Bool}{F G:List (List Int)}{z:List Int}(hv:2<=v.length)(hF:∀x∈F,x.length=2):z∈fnp v p F G ↔ p z=true/\dot z v=0/\∃x∈F,∃g∈G,z=x++g:=by
 simp only[fnp,_bz,_x,_I,_l];constructor
 ·rintro⟨g,hg,x,⟨⟨hx,e⟩,hp⟩,rfl⟩;exact⟨hp,by rw[zh5 hv (hF x hx)];omega,x,hx,g,hg,rfl⟩
 ·rintro⟨hp,e,x,hx,g,hg,rfl⟩;rw[zh5 hv (hF x hx)]at e;exact⟨g,hg,x,⟨⟨hx,by omega⟩,hp⟩,rfl⟩
theorem z4E{v:List Int}{p:List Int->Bool}{F G:List (List Int)}(hF:∀x∈F,x.length=2)(nF:F.Nodup)(nG:G.Nodup):(fnp v p F G).Nodup:=by
 unfold fnp;refine _bm.mpr ⟨λg hg=>?_,?_⟩
 ·rw[_a2];exact ((nF.filter _).filter _).imp λ{a b} h e=>h (List.append_cancel_right e)
 ·refine _bv (λ{a b} ha hb ne x hx y hy=>?_) nG;obtain⟨q,hq,rfl⟩:=_x.mp hx;obtain⟨r,hr,rfl⟩:=_x.mp hy;have l1:=hF _ (_I.mp (_I.mp hq).1).1;have l2:=hF _ (_I.mp (_I.mp hr).1).1;exact λe=>ne (List.append_inj e (by omega)).2
theorem z0p(v:List Int)(p:List Int->Bool)(F G:List (List Int))(g:List Int):fnp v p F (G++[g])=fnp v p F G++((F.filter λx=>decide (dot x (v.take 2)=0-dot g (v.drop 2))).filter λx=>p (x++g)).map λx=>x++g:=by
 unfold fnp;rw[_aQ];simp
theorem z1h(v:List Int)(p:List Int->Bool)(F G:List (List Int))(i:Nat):(fnp v p F (G.take i)).length<=(fnp v p F G).length:=by
 conv=>rhs;rw[<- _S i G]
 unfold fnp;rw[_aQ,_q];omega
noncomputable def two(i:Int):List Int:=z05 (dedup [i,0-i])
theorem z3j(i:Int):(two i).Perm (if i=0 then [0] else [i,0-i]):=by
 unfold two;have e:dedup [i,0-i]=if i=0 then [0] else [i,0-i]:=by
  unfold dedup;simp only[_aE,List.foldl_nil,Dd.addI];by_cases h:i=0;·subst h;rfl
  ·rw[_i h];have:¬ (0-i=i):=by omega
   rw[_i (show ¬ i∈([]:List Int) by simp),List.nil_append,_i (by simpa using by omega)];rfl
 rw[e];exact kw _
theorem z3r{i x:Int}:x∈two i ↔ x.natAbs=i.natAbs:=by
 rw[(z3j i).mem_iff];by_cases h:i=0;·subst h;simp
 ·rw[_i h];simp;omega
theorem zb3(i:Int):(two i).Nodup:=by
 rw[(z3j i).nodup_iff];by_cases h:i=0;·subst h;simp
 ·rw[_i h];simp;omega
theorem jh(i:Int):(two i).length<=2:=by
 rw[(z3j i).length_eq];by_cases h:i=0;·subst h;simp
 ·rw[_i h];simp
def slg(m j:Nat):List (List Int):=if m=1 then (two (j:Int)).map λx=>[x] else (yP j).flatMap λa=>(two ((j:Int)-(a.natAbs:Int))).map λb=>[a,b]
theorem ki:lng []=0:=rfl
theorem uI{m j:Nat}{x:List Int}(hm:m=1\/m=2):x∈slg m j ↔ x.length=m/\lng x=(j:Int):=by
 unfold slg;rcases hm with rfl | rfl
 ·rw[_g rfl,_x];constructor
  ·rintro⟨a,ha,rfl⟩;rw[z3r]at ha;exact⟨rfl,by rw[xU,ki];omega⟩
  ·rintro⟨h1,h2⟩;match x,h1 with | [a],_=>rw[xU,ki]at h2;exact⟨a,z3r.mpr (by omega),rfl⟩
 ·rw[_i (by decide),_bz];constructor
  ·rintro⟨a,ha,hx⟩;obtain⟨b,hb,rfl⟩:=_x.mp hx;rw[z3r]at hb;rw[z0t]at ha;exact⟨rfl,by rw[xU,xU,ki];omega⟩
  ·rintro⟨h1,h2⟩;match x,h1 with
   | [a,b],_=>
    rw[xU,xU,ki]at h2;exact⟨a,z0t.mpr (by omega),_x.mpr ⟨b,z3r.mpr (by omega),rfl⟩⟩
theorem zaJ{m j:Nat}(hm:m=1\/m=2):(slg m j).Nodup:=by
 unfold slg;rcases hm with rfl | rfl
 ·rw[_g rfl];exact _a2.mpr ((zb3 _).imp λ{a b} h e=>h (by simpa using e))
 ·rw[_i (by decide)];refine _bm.mpr ⟨λa _=>_a2.mpr ((zb3 _).imp λ{a b} h e=>h (by simpa using e)),?_⟩;refine ((z9g j).imp λ{a b} h=>Int.ne_of_lt h).imp λ{a b} ne x hx y hy=>?_;obtain⟨c,_,rfl⟩:=_x.mp hx;obtain⟨d,_,rfl⟩:=_x.mp hy;exact λe=>ne (by simp at e;exact e.1)
theorem z1i{α β:Type}(f:α->List β)(k:Nat):∀l:List α,(∀a∈l,(f a).length<=k)->(l.flatMap f).length<=l.length*k
 | [],_=>by simp | a::l,h=>by
  have:=z1i f k l λb hb=>h b (.tail _ hb);have:=h a (.head _);rw[List.flatMap_cons,_q,_p,Nat.succ_mul];omega
theorem zct{m j:Nat}:(slg m j).length<=4*j+2:=by
 unfold slg;split;·have:=jh (j:Int);simp;omega
 ·have:=z1i (λa:Int=>(two ((j:Int)-(a.natAbs:Int))).map λb=>[a,b]) 2 (yP j) λa _=>by simpa using jh _
  have e:(yP j).length=2*j+1:=by simp[yP]
  omega
def lasts(v:List Int)(k:Nat):List (List Int):=(List.range (k+1)).flatMap λu=>fnp v (λ_=>true) (slg 2 u) (slg (v.length-2) (k-u))
theorem z7R(x y:List Int):lng (x++y)=lng x+lng y:=by simp[lng]
theorem zd7{j:Nat}{x:List Int}(h:x∈slg 2 j):x.length=2:=((uI (.inr rfl)).mp h).1
theorem z13{v:List Int}{k:Nat}{z:List Int}(h3:3<=v.length)(h4:v.length<=4):z∈lasts v k ↔ z.length=v.length/\dot z v=0/\lng z=(k:Int):=by
 have hm:v.length-2=1\/v.length-2=2:=by omega
 simp only[lasts,_bz,_bc];constructor
 ·rintro⟨u,hu,hz⟩;obtain⟨_,e,x,hx,g,hg,rfl⟩:=(z0B (by omega) λx hx=>zd7 hx).mp hz;obtain⟨x1,x2⟩:=(uI (.inr rfl)).mp hx;obtain⟨g1,g2⟩:=(uI hm).mp hg;refine⟨by rw[_q];omega,e,by rw[z7R];omega⟩
 ·rintro⟨h1,e,h2⟩;have ap:=z7R (z.take 2) (z.drop 2);rw[_S]at ap;have n1:=z2i (z.take 2);have n2:=z2i (z.drop 2);refine⟨(lng (z.take 2)).toNat,by omega,(z0B (by omega) λx hx=>zd7 hx).mpr ⟨rfl,e,z.take 2,(uI (.inr rfl)).mpr ⟨by rw[_Z];omega,by omega⟩,z.drop 2,(uI hm).mpr ⟨by rw[_bT];omega,by omega⟩,(_S 2 z).symm⟩⟩
theorem z6c{v:List Int}{k:Nat}(h3:3<=v.length)(h4:v.length<=4):(lasts v k).Nodup:=by
 have hm:v.length-2=1\/v.length-2=2:=by omega
 refine _bm.mpr ⟨λu _=>z4E (λx hx=>zd7 hx) (zaJ (.inr rfl)) (zaJ hm),?_⟩;refine (List.nodup_range).imp λ{a b} ne x hx y hy e=>ne ?_;obtain⟨_,_,x1,hx1,g1,hg1,rfl⟩:=(z0B (by omega) λx hx=>zd7 hx).mp hx;obtain⟨_,_,x2,hx2,g2,hg2,rfl⟩:=(z0B (by omega) λx hx=>zd7 hx).mp hy;have l1:=(uI (.inr rfl)).mp hx1;have l2:=(uI (.inr rfl)).mp hx2;have:=(List.append_inj e (by omega)).1;subst this;omega
theorem z58{L M:List (List Int)}(h:Up M)(nd:L.Nodup)(e:∀x,x∈M ↔ x∈L):z0M lexN L=M:=by
 refine z3c z0l ((_bj h.nodup nd).mpr e) (h.imp λ{a b} h=>?_);have ne:a≠b:=λe=>by rw[e,ua]at h;cases h
 rw[z0z ne,h];rfl
theorem z8H{x:List Int}(h:0<lng x):0<wgt x:=by
 refine _R λhn=>?_;have z:∀i∈x,i.natAbs<=0:=λi hi=>by have:=z7x hi;omega
 have:=z8L z;omega
theorem zdg{v:List Int}{k:Nat}(h3:3<=v.length)(h4:v.length<=4)(k1:1<=k):z0M lexN (lasts v k)=uO v k:= z58 (z2q v k) (z6c h3 h4) λx=>by
  rw[vc,z13 h3 h4];exact⟨λh=>⟨h.1,h.2.1,h.2.2.2⟩,λh=>⟨h.1,h.2.1,z8H (by omega),h.2.2⟩⟩
def zaN(v:List Int)(k:Nat):List (List Int):=fnp v (λz=>decide (wgt z=(k:Int))) (box 2 k) (box (v.length-2) k)
def z7r(v:List Int)(k:Nat):List (List Int):=(rel v k).filter λz=>decide (wgt z=(k:Int))
theorem zg1{k:Nat}{x:List Int}(h:x∈box 2 k):x.length=2:=(yo.mp h).1
theorem z2k{v:List Int}{k:Nat}{z:List Int}(h2:2<=v.length)(k1:1<=k):z∈zaN v k ↔ z∈z7r v k:=by
 unfold zaN z7r;rw[z0B h2 λx hx=>zg1 hx,_I,yX,_l];constructor
 ·rintro⟨hp,e,x,hx,g,hg,rfl⟩;obtain⟨x1,x2⟩:=yo.mp hx;obtain⟨g1,g2⟩:=yo.mp hg;refine⟨⟨by rw[_q];omega,λi hi=>?_,e,by omega⟩,hp⟩;rcases _L.mp hi with hi | hi;·exact x2 i hi
  ·exact g2 i hi
 ·rintro⟨⟨h1,hb,e,_⟩,hp⟩;exact⟨hp,e,z.take 2,yo.mpr ⟨by rw[_Z];omega,λi hi=>hb i (_U hi)⟩,z.drop 2,yo.mpr ⟨by rw[_bT];omega,λi hi=>hb i (_bt hi)⟩,(_S 2 z).symm⟩
theorem z92{v:List Int}{k:Nat}:(zaN v k).Nodup:=z4E (λx hx=>zg1 hx) (z1u _ _).nodup (z1u _ _).nodup
theorem zdX{v:List Int}{k:Nat}(h2:2<=v.length)(k1:1<=k):z0M lexN (zaN v k)=z7r v k:= z58 ((jW v k).filter _) z92 λx=>(z2k h2 k1).symm
end Px
namespace Pr
open L2 Dd Pm Pg Pn Po Pp
end Pr
namespace Pp
open L2 Dd Pm Pg Pn
end Pp
namespace Pr
open L2 Dd Pm Pg Pn Po Pp
theorem zec(v:List Int)(h:v.length<=cap):smD 2 (rD v)=true:=by
 simp only[smD,_u,_ab,_l];refine⟨λx hx=>?_,by simpa using h⟩;obtain⟨i,_,rfl⟩:=_x.mp hx;rfl
theorem z4l {F:List (List Int)} {l:Nat} {s:Sto} (hs:s[l]? = some (F.map rD)) (hl:F.length<=cap) (h:∀v∈F,v.length<=cap):z1V [.loc l,.lst (F.map rD)] s=.ok (.bl true) s:=by
 have hm:∀x∈F.map rD,zE 3 [x,x] s=.ok (.bl true) s:=λx hx=>by
  obtain⟨v,hv,rfl⟩:=_x.mp hx;exact z1o 2 _ s (zec v (h v hv))
 have key:∀(xs:List D),s[l]? = some xs->xs.length<=cap->(∀x∈xs,zE 3 [x,x] s=.ok (.bl true) s)->zE 4 [.loc l,.lst xs] s=.ok (.bl true) s:=λxs hs hl hm=>by
  generalize hMr:zE 3=Mr at hm;have e4:zE 4=Mof ["_law_found","_law_due"] 2 (zI Mr):=by rw[<- hMr];rfl
  rw[e4];have q:z1N (eOp dEq (ze vj (za (zd 0) zi)) (ze vj (za (zd 1) zi))) (ze z6R (za (zF (z7d (za (zd 0) (za (zd 1) zi))) [none,none] (kz 0 1) yr (ze Mr (za (zd 0) (za (zd 1) zi)))) zi)) [some (.loc l),some (.lst xs)] s=.ok (.bl true) s:=by
   have e1:ze vj (za (zd 0) zi) [some (.loc l),some (.lst xs)] s=.ok (.int xs.length) s:=by rw[yc (x:=.loc l) rfl];simp only[vj,xj,hs]
   rw[z6p,op2 (y:=.int xs.length) e1 (by rw[yc (x:=.lst xs) rfl];rfl),z10];simp only[Rb,decide_true];rw[yc (z80 (G:=[(l,xs)]) (λx=>D.tup [x,x]) (λ_=>D.bl true) (λx=>[some x,some x]) xs (by simp[za8,hs,z2M]) (by
    intro p hp;rw[_ax.mp hp];exact hs) (λx _=>rfl) (λx hx=>by rw[call2 (x:=x) (y:=x) rfl rfl];exact hm x hx) hl),z0o s (by intro x hx;obtain⟨_,_,rfl⟩:=_x.mp hx;rfl)]
  generalize hG:z1N (eOp dEq (ze vj (za (zd 0) zi)) (ze vj (za (zd 1) zi))) (ze z6R (za (zF (z7d (za (zd 0) (za (zd 1) zi))) [none,none] (kz 0 1) yr (ze Mr (za (zd 0) (za (zd 1) zi)))) zi))=G at q;have z:Mof ["_law_found","_law_due"] 2 (zI Mr) [.loc l,.lst xs] s=(match wN G [some (.loc l),some (.lst xs)] s with
   | .ok (.rt d) s'=>.ok d s' | .ok (.nx _) s'=>.ok .non s' | _=>.no):=by subst hG;with_unfolding_all rfl
  rw[z,xH,q];rfl
 exact key _ hs (by simpa using hl) hm
theorem zdh(n:Nat)(b:Nat):∃k:Nat,(if (if (b:Int)<(n:Int) then (b:Int) else n) > 1 then (if (b:Int)<(n:Int) then (b:Int) else n) else 1)=(k:Int)/\k<=b+1:=by
 by_cases h:(b:Int)<n
 ·rw[_g h];by_cases h2:(b:Int) > 1;·exact⟨b,by rw[_g h2],by omega⟩
  ·exact⟨1,by rw[_i h2];rfl,by omega⟩
 ·rw[_i h];by_cases h2:(n:Int) > 1;·exact⟨n,by rw[_g h2],by omega⟩
  ·exact⟨1,by rw[_i h2];rfl,by omega⟩
end Pr
namespace K51
open L2 Dd Pm Pg Pn Po Pr Pp Pt Pv Pw Px
theorem zcv{x v:List Int}(s:Sto)(hx:∀i∈x,i.natAbs<2 ^ 16)(hv:∀i∈v,i.natAbs<2 ^ 16)(hl:x.length<=4):Pg.zS [rD x,rD v] s=.ok (.int (dot x v)) s:=by
 have h:Pg.zS=zW:=rfl;rw[h];exact kB s hx hv (by decide) (by decide) hl
def gE(e:Int×List (List Int)):D:=.tup [.int e.1,.lst (e.2.map rD),.non]
theorem z5x(k:Int):∀g:Gd,xp k (g.map gE)=some ((g.find? λe=>decide (e.1=k)).map λe=>(e.2.map rD,true))
 | []=>rfl | e::g=>by
  simp only[_t,gE,xp];by_cases q:e.1=k;·rw[_g q];simp[q]
  ·rw[_i q,z5x k g];simp[q]
theorem zbg(k:Int)(x:List Int):∀g:Gd,k∈g.map (·.1)->z7v k (rD x) (g.map gE)=(z3L k x g).map gE
 | [],h=>by simp at h | e::g,h=>by
  simp only[_t,gE,z7v];unfold z3L;by_cases q:e.1=k;·rw[_g q,_g q];simp[gE]
  ·rw[_i q,_i q];have h':k∈g.map (·.1):=by
    simp only[_t,_j]at h;exact h.resolve_left λz=>q z.symm
   rw[zbg k x g h'];rfl
theorem zaV(k:Int)(x:List Int):∀g:Gd,k∉g.map (·.1)->g.map gE++[.tup [.int k,.lst [rD x],.non]]=(z3L k x g).map gE
 | [],_=>by simp[z3L,gE] | e::g,h=>by
  simp only[_t,_j,not_or]at h;unfold z3L;rw[_i (λz=>h.1 z.symm),_t,_t,_aa,zaV k x g h.2]
theorem find_none{k:Int}{g:Gd}(h:k∉g.map (·.1)):g.find? (λe=>decide (e.1=k))=none:=by
 rw[List.find?_eq_none];intro e he z;exact h (_x.mpr ⟨e,he,_cm z⟩)
theorem find_some:∀{g:Gd}{e:Int×List (List Int)},(g.map (·.1)).Nodup->e∈g->g.find? (λx=>decide (x.1=e.1))=some e
 | [],e,_,h=>by cases h | x::g,e,nd,h=>by
  simp only[_t,_aR]at nd;rcases _j.mp h with rfl | h;·simp
  ·have:¬ x.1=e.1:=λz=>nd.1 (by rw[z];exact _x.mpr ⟨e,h,rfl⟩);simp[this,find_some nd.2 h]
theorem z8m(x:List Int):(rD x).flat=true:=by show D.flat.flats (iL x)=true;exact wZ x
theorem zfk {u:List Int} {P:List (List Int)} {g:Gd} (G:GI u P g):g.length<=P.length:=by
 have sub:∀e∈g,∃y∈P,dot y u=e.1:=λe he=>by
  obtain⟨h1,h2⟩:=G.at_ e he;cases q:e.2 with
  | nil=>exact absurd q h2 | cons y t=>
   have:y∈e.2:=by rw[q];exact .head _
   rw[h1,_I]at this;exact⟨y,this.1,_cm this.2⟩
 have:=List.Nodup.length_le_of_subset (l₁:=g.map (·.1)) (l₂:=P.map λy=>dot y u) G.nd (λk hk=>by
  obtain⟨e,he,rfl⟩:=_x.mp hk;obtain⟨y,hy,e'⟩:=sub e he;exact _x.mpr ⟨y,hy,e'⟩);simpa using this
theorem zhz{v:List Int}{P:List (List Int)}{g:Gd}{s:Sto}{ρ:Ev}{x:List Int}(G:GI v P g)(hP:P.length<=90000)(h2:ρ[2]? = some (some (.dlo s.length)))(h4:ρ[4]? = some (some (.int (dot x v))))(h3:ρ[3]? = some (some (rD x))): z7k 2 4 3 ρ (s++[g.map gE])=.ok (.nx ρ) (s++[(z3L (dot x v) x g).map gE]):=by
 have gt:(s++[g.map gE])[s.length]? = some (g.map gE):=by simp
 have gl:=zfk G;unfold z7k;simp only[h2,h3,h4,gt,z5x];by_cases hk:dot x v∈g.map (·.1)
 ·obtain⟨e,he,ek⟩:=_x.mp hk;have f:=find_some G.nd he;rw[ek]at f;rw[f];simp only[_aS];have el:e.2.length<=P.length:=by rw[(G.at_ e he).1];exact _aq _ _
  rw[_g ⟨z8m x,by rw[_m];unfold cap;omega,by rw[_m];unfold cap;omega⟩,zbg _ _ _ hk,z2N]
 ·rw[find_none hk];simp only[Option.map_none];rw[_g ⟨z8m x,by rw[_m];unfold cap;omega⟩,zaV _ _ _ hk,z2N]
def z9c(u:List Int)(P:List (List Int)):Int->List D:=λk=>(P.filter λx=>decide (dot x u=k)).map rD
theorem zaL{u:List Int}{P:List (List Int)}{g:Gd}(G:GI u P g):Grp (z9c u P) (g.map gE):=⟨λk=>by
 rw[z5x];refine⟨_,rfl,?_⟩;by_cases hk:k∈g.map (·.1)
 ·obtain⟨e,he,ek⟩:=_x.mp hk;have f:=find_some G.nd he;rw[ek]at f;rw[f];obtain⟨h1,h2⟩:=G.at_ e he;rw[ek]at h1;simp only[_aS,ent,z9c];rw[<- h1];exact⟨rfl,by simpa using h2⟩
 ·rw[find_none hk];simp only[Option.map_none,ent,z9c];rw[_cM,List.filter_eq_nil_iff];intro x hx z;exact hk (by rw[<- _cm z];exact G.al x hx)⟩
theorem zfg{u:List Int}{P:List (List Int)}(h:P≠[]):(z4T u P).map gE≠[]:=by cases P with
 | nil=>exact absurd rfl h | cons x P=>
  have:=(z2P u (x::P)).al x (.head _);intro z;rw[_cM]at z;rw[z]at this;cases this
noncomputable abbrev H5(a0 a1 a2 a3 a4:Option D):Ev:=[a0,a1,a2,a3,a4]
theorem zfR(v:List Int)(s:Sto):dSl (rD v) none (some 2) s=.ok (rD (v.take 2)) s:=by
 have:=z7S (iL v) 2 s;simp only[rD,iL,List.map_take]at this ⊢;exact this
theorem zdt(v:List Int)(s:Sto):dSl (rD v) (some 2) none s=.ok (rD (v.drop 2)) s:=by
 have:=z8Z (iL v) 2 s;simp only[rD,iL,List.map_drop]at this ⊢;exact this
theorem z5L {v:List Int} {P:List (List Int)} (hv:∀i∈v,i.natAbs<2 ^ 16) (hP:P.length<=90000) (hx:∀x∈P,x.length<=4/\∀i∈x,i.natAbs<2 ^ 16) (s:Sto): yB [rD v,.lst (P.map rD)] s=.ok (.dlo s.length) (s++[(z4T (v.take 2) P).map gE]):=by
 have key:∀d:D,(∀S,dSl d none (some 2) S=.ok (rD (v.take 2)) S)->yB [d,.lst (P.map rD)] s=.ok (.dlo s.length) (s++[(z4T (v.take 2) P).map gE]):=λd hd=>by
  have st:zT ["_law_lot","_law_some","_law_known","_law_one","_law_key"] [d,.lst (P.map rD)]=H5 (some d) (some (.lst (P.map rD))) none none none:=rfl;have f1:qe (H5 (some d) (some (.lst (P.map rD))) none none none) s=.ok (.nx (H5 (some d) (some (.lst (P.map rD))) (some (.dlo s.length)) none none)) (s++[[]]):=rfl;obtain⟨ρ',S',lp,a3,a4,hρ,hS⟩:=wL (all:=P.map rD) (body:=λx ρ s=>(yJ 3 x ρ s).bind fun ρ' s'=>(zM xD vY) ρ' s') (λi ρ S=>∃a3 a4,ρ=H5 (some d) (some (.lst (P.map rD))) (some (.dlo s.length)) a3 a4/\S=s++[(z4T (v.take 2) (P.take i)).map gE]) (P.map rD) 0 (by
    intro i y hy ρ S ⟨a3,a4,hρ,hS⟩;subst hρ hS;rw[_Q];rw[_O,_D]at hy;obtain⟨x,ex,rfl⟩:=hy;have hi:=(_b.mp ex).1;obtain⟨xl,xb⟩:=hx x (_c ex);have tk:P.take (i+1)=P.take i++[x]:=by rw[_da,ex];rfl
    rw[tk,z83];have dc:=zhz (s:=s) (ρ:=H5 (some d) (some (.lst (P.map rD))) (some (.dlo s.length)) (some (rD x)) (some (.int (dot x (v.take 2))))) (z2P (v.take 2) (P.take i)) (by rw[_Z];omega) rfl rfl rfl;have sm:=zcv (x:=x) (v:=v.take 2) (s++[(z4T (v.take 2) (P.take i)).map gE]) xb (λj hj=>hv j (_U hj)) xl;generalize s++[(z4T (v.take 2) (P.take i)).map gE]=S at *;have f3:∀e:D,Pg.zS [e,rD (v.take 2)] S=.ok (.int (dot x (v.take 2))) S->xD (H5 (some d) (some (.lst (P.map rD))) (some (.dlo s.length)) (some e) a4) S=.ok (.nx (H5 (some d) (some (.lst (P.map rD))) (some (.dlo s.length)) (some e) (some (.int (dot x (v.take 2)))))) S:=λe he=>by
     rw[xD,yh,call2 (x:=e) (y:=rD (v.take 2)) (vr rfl) (by rw[z97,vr (d:=d) rfl,Rb,z15,Rb,z1d];exact hd S),he];rfl
    refine⟨H5 (some d) (some (.lst (P.map rD))) (some (.dlo s.length)) (some (rD x)) (some (.int (dot x (v.take 2)))),_,?_,_,_,rfl,rfl⟩;rw[qa,Rb];show (zM xD vY) (H5 (some d) (some (.lst (P.map rD))) (some (.dlo s.length)) (some (rD x)) a4) S=_;rw[zr (f3 _ sm)];exact dc) (H5 (some d) (some (.lst (P.map rD))) (some (.dlo s.length)) none none) (s++[[]]) ⟨none,none,rfl,rfl⟩;rw[_Q,_m,_Y (_d _)]at hS;simp only[yB,Mof,qM,st,_p,_J,_P];rw[zr f1,zr (ρ':=ρ') (s':=S') (by rw[qo,qb,yC (vr rfl),Rb];exact lp),hρ,hS];rfl
 exact key (rD v) (zfR v)
theorem zh1{fa fb:FE}{ρ:Ev}{s:Sto}{i:Int}(h1:fa ρ s=.ok (.int i) s)(h2:fb ρ s=.ok (.int (0-i)) s):eSS fa fb ρ s=.ok (.lst (iL (two i))) s:=by
 unfold eSS;rw[h1,Rb,h2,Rb];rfl
theorem z95{α:Type}{fi:FI}{mp:List (Option Nat)}{fg:FG}{fe:FE}{ρ:Ev}{s:Sto}(g f:α->D)(ev:α->Ev)(l:List α) (hi:fi ρ s=.ok (l.map g,[]) s)(hg:∀a∈l,fg (g a) (yi mp ρ) s=.ok (ev a) s)(he:∀a∈l,fe (ev a) s=.ok (f a) s)(hl:l.length<=cap)(hf:D.flat.flats (l.map f)=true): ub fi mp fg yr fe ρ s=.ok (.loc s.length) (s++[l.map f]):=by
 have c:=comp_map (fe:=fe) g f ev l hi hg he hl;rw[uj]at c;unfold ub;cases q:z1F fi mp fg yr fe ρ s with
 | ok xs s1=>
  rw[q,Rb]at c;injection c with c1 c2;injection c1 with c1;subst c1 c2;rw[Rb,_g hf] | ex _ _=>rw[q]at c;cases c | no=>rw[q]at c;cases c
theorem zhs {j:Nat} (s:Sto):yf [.int 1,.int j] s=.ok (.loc s.length) (s++[(slg 1 j).map rD]):=by
 have st:zT ["_law_many","_law_length","_law_found","_law_a"] [.int 1,.int j]=V4 (some (.int 1)) (some (.int j)) none none:=rfl;have c:=z95 (s:=s) (ρ:=V4 (some (.int 1)) (some (.int j)) none none) (fi:=zR (eSS (zd 1) (eOp jn (eC (.int 0)) (zd 1)))) (mp:=[none]) (fg:=yJ 0) (fe:=jo (za (zd 0) zi)) D.int (λx:Int=>rD [x]) (λx=>[some (.int x)]) (two (j:Int)) (yC (zh1 (vr rfl) (by rw[op2 (x:=.int 0) (y:=.int j) rfl (vr rfl),uv]))) (λ_ _=>rfl) (λx _=>by
   rw[qL,zo,vr (d:=.int x) rfl,Rb,yq];simp[cap]) (by have:=jh (j:Int);unfold cap;omega) (by
   have:=we ((two (j:Int)).map λx=>[x]);rwa [_au]at this);have e:(slg 1 j).map rD=(two (j:Int)).map λx=>rD [x]:=by unfold slg;rw[_g rfl,_au];rfl
 rw[e];have f1:xg (V4 (some (.int 1)) (some (.int j)) none none) s=.ok (.rt (.loc s.length)) (s++[(two (j:Int)).map λx=>rD [x]]):=by
  rw[xg,zc6 (by rfl),uX,xH,c];rfl
 simp only[yf,Mof,vN,st,_p,_J,_P];rw[zbk f1]
theorem ze9{ar:FA}{ρ:Ev}{s:Sto}{j:Nat}(hj:j<=1000)(h:ar ρ s=.ok [.int (0-(j:Int)),.int ((j:Int)+1)] s):z54 ar ρ s=.ok (iL (yP j),[]) s:=by
 rw[z8f,h,Rb];simp only;rw[_g (by omega)];have e:((j:Int)+1-(0-(j:Int))).toNat=2*j+1:=by omega
 rw[e];simp[qY,yP,iL,_ad]
theorem zhU {j:Nat} (hj:j<=1000) (s:Sto):yf [.int 2,.int j] s=.ok (.loc s.length) (s++[(slg 2 j).map rD]):=by
 have st:zT ["_law_many","_law_length","_law_found","_law_a"] [.int 2,.int j]=V4 (some (.int 2)) (some (.int j)) none none:=rfl;have f1:xg (V4 (some (.int 2)) (some (.int j)) none none) s=.ok (.nx (V4 (some (.int 2)) (some (.int j)) none none)) s:=by
  rw[xg,zd6 (by rfl)];rfl
 have f3:vm (V4 (some (.int 2)) (some (.int j)) none none) s=.ok (.nx (V4 (some (.int 2)) (some (.int j)) (some (.loc s.length)) none)) (s++[[]]):=by
  rw[vm,yh,z4C,yq,Rb,_g ⟨by simp,rfl⟩];rfl
 have ed:slg 2 j=(yP j).flatMap λa=>(two ((j:Int)-(a.natAbs:Int))).map λb=>[a,b]:=rfl;have fl:=z1i (λa:Int=>(two ((j:Int)-(a.natAbs:Int))).map λb=>[a,b]) 2 (yP j) λa _=>by simpa using jh _
 have rl:(yP j).length=2*j+1:=by simp[yP]
 obtain⟨ρ',S',lp,a3,hρ,hS⟩:=wL (all:=iL (yP j)) (body:=λx ρ s=>(yJ 3 x ρ s).bind fun ρ' s'=>wg ρ' s') (λi ρ S=>∃a3,ρ=V4 (some (.int 2)) (some (.int j)) (some (.loc s.length)) a3/\S=s++[(((yP j).take i).flatMap λa=>(two ((j:Int)-(a.natAbs:Int))).map λb=>[a,b]).map rD]) (iL (yP j)) 0 (by
   intro i y hy ρ S ⟨a3,hρ,hS⟩;subst hρ hS;rw[_Q];rw[_O,_D]at hy;obtain⟨a,ea,rfl⟩:=hy;have tk:(yP j).take (i+1)=(yP j).take i++[a]:=by rw[_da,ea];rfl
   have pl:=z1i (λa:Int=>(two ((j:Int)-(a.natAbs:Int))).map λb=>[a,b]) 2 ((yP j).take i) λa _=>by simpa using jh _
   rw[_Z]at pl;rw[tk,_aQ,_aU];generalize ((yP j).take i).flatMap (λa=>(two ((j:Int)-(a.natAbs:Int))).map λb=>[a,b])=A at *;have ga:∀(ρ:Ev) (S:Sto),ρ[3]? = some (some (.int a))->ze z0k (za (zd 3) zi) ρ S=.ok (.int ((a.natAbs:Nat):Int)) S:=fun ρ S h=>by
    rw[yc (x:=.int a) (vr h)];simp only[z0k];congr 2;split<;>omega
   have c:=comp_map (s:=s++[A.map rD]) (ρ:=V4 (some (.int 2)) (some (.int j)) (some (.loc s.length)) (some (.int a))) (fi:=zR (eSS (eOp jn (zd 1) (ze z0k (za (zd 3) zi))) (eOp jn (ze z0k (za (zd 3) zi)) (zd 1)))) (mp:=[some 3,none]) (fg:=yJ 1) (fe:=jo (za (zd 0) (za (zd 1) zi))) D.int (λb:Int=>rD [a,b]) (λb=>[some (.int a),some (.int b)]) (two ((j:Int)-(a.natAbs:Int))) (yC (zh1 (by rw[op2 (x:=.int j) (y:=.int a.natAbs) (vr rfl) (ga _ _ rfl),uv]) (by
     rw[op2 (x:=.int a.natAbs) (y:=.int j) (ga _ _ rfl) (vr rfl),uv];congr 2;omega))) (λ_ _=>rfl) (λb _=>by
     rw[qL,zo,vr (d:=.int a) rfl,Rb,zo,vr (d:=.int b) rfl,Rb,yq];simp[cap]) (by have:=jh ((j:Int)-(a.natAbs:Int));unfold cap;omega);have hf:=we ((two ((j:Int)-(a.natAbs:Int))).map λb=>[a,b]);rw[_au]at hf;have tl:=jh ((j:Int)-(a.natAbs:Int));have e1:([a].flatMap λa=>(two ((j:Int)-(a.natAbs:Int))).map λb=>[a,b]).map rD=(two ((j:Int)-(a.natAbs:Int))).map λb=>rD [a,b]:=by simp[_ad]
   rw[e1];refine⟨V4 (some (.int 2)) (some (.int j)) (some (.loc s.length)) (some (.int a)),_,?_,_,rfl,rfl⟩;rw[qa,Rb];show wg (V4 (some (.int 2)) (some (.int j)) (some (.loc s.length)) (some (.int a))) (s++[A.map rD])=_;rw[wg,jj,zbu,vr (d:=.loc s.length) rfl,Rb];simp only;rw[c,Rb];simp only;have gt:(s++[A.map rD])[s.length]? = some (A.map rD):=by simp
   rw[gt];simp only;rw[_g ⟨hf,by simp only[_m];unfold cap;omega⟩,z2N];rfl) (V4 (some (.int 2)) (some (.int j)) (some (.loc s.length)) none) (s++[[]]) ⟨none,rfl,rfl⟩;rw[_Q,_m,_Y (_d _),<- ed]at hS;simp only[yf,Mof,vN,st,_p,_J,_P];rw[zr f1,zr f3,zr (ρ':=ρ') (s':=S') (by
  rw[qc,qb,ze9 (j:=j) hj (by rw[zo,op2 (x:=.int 0) (y:=.int j) rfl (vr rfl),uv,Rb,zo,op2 (x:=.int j) (y:=.int 1) (vr rfl) rfl,z21,Rb,yq];rfl),Rb];exact lp),hρ,hS];rfl
theorem zbm{m j:Nat}(hm:m=1\/m=2)(hj:j<=1000){f g:FE}{ρ:Ev}{s:Sto}(hf:f ρ s=.ok (.int m) s)(hg:g ρ s=.ok (.int j) s):jD (ze yf (za f (za g zi))) ρ s=.ok (.lst ((slg m j).map rD)) s:=by
 rw[z2n,call2 hf hg];rcases hm with rfl | rfl;·rw[show (((1:Nat):Int))=1 from rfl,zhs,jU]
 ·rw[show (((2:Nat):Int))=2 from rfl,zhU hj,jU]
noncomputable abbrev T10(a0 a1 a2 a3 a4 a5 a6 a7 a8 a9:Option D):Ev:=[a0,a1,a2,a3,a4,a5,a6,a7,a8,a9]
theorem zcg{i:Nat}{f:FE}{ρ:Ev}{S S1:Sto}{l:Nat}{as bs:List D}(e1:ρ[i]? = some (some (.loc l)))(e2:f ρ S=.ok (.lst bs) S1)(e3:S1[l]? = some as)(e4:D.flat.flats bs=true)(e5:as.length+bs.length<=cap):jf (zaO (zd i) f) ρ S=.ok (.nx ρ) (S1.set l (as++bs)):=by
 rw[jj,zbu,vr e1,Rb];simp only;rw[e2,Rb];simp only;rw[e3];simp only;rw[_g ⟨e4,e5⟩];rfl
theorem zds(k:Nat):box 1 k=(yP k).map λc=>[c]:=by
 rw[z3f];simp[z9u,box,uR]
theorem zg4(k:Nat):box 2 k=(yP k).flatMap λa=>(yP k).map λb=>[a,b]:=by
 rw[z3f,zds];simp[z9u,List.flatMap_map]
theorem z5H(k:Nat):(yP k).length=2*k+1:=by simp[yP]
theorem zbK {k:Nat} (hk:k<=100) (d:D) (a2 a3 a4 a5 a6 a7 a8 a9:Option D) (s:Sto):wP (T10 (some d) (some (.int k)) a2 a3 a4 a5 a6 a7 a8 a9) s=.ok (.nx (T10 (some d) (some (.int k)) (some (.lst (iL (yP k)))) a3 a4 a5 a6 a7 a8 a9)) s:=by
 rw[wP,yh,zeV,zo,op2 (x:=.int 0) (y:=.int k) rfl (vr rfl),uv,Rb,zo,op2 (x:=.int k) (y:=.int 1) (vr rfl) rfl,z21,Rb,yq];simp only[Rb];rw[_g (by omega)];have e:((k:Int)+1-(0-(k:Int))).toNat=2*k+1:=by omega
 have e2:z6U (0-(k:Int)) 1 (2*k+1)=iL (yP k):=by simp[z6U,yP,iL,_ad]
 rw[e,e2];rfl
theorem zcY{k n:Nat}{d x:D}{L:List D}{i:Int}{l:Nat}(hd:d.und k=true)(hL:D.flat.flats L=true)(hx:x.und k=true): z61 k 3 (T10 (some d) (some (.int i)) (some (.lst L)) (some (.loc l)) (some x) none none none none none)=true:=by
 have h1:(D.lst L).und k=true:=hL;have h4:∀i:Int,(D.int i).und k=true:=λi=>rfl;simp[z61,List.range,List.range.loop,hd,hx,h1,h4]
theorem zbS {k:Nat} (hk:k<=100) {d:D} {s:Sto} (hd:d.und s.length=true):∃a4:Option D,z8i 3 (zM yR xM) (T10 (some d) (some (.int k)) (some (.lst (iL (yP k)))) none none none none none none none) s=.ok (.nx (T10 (some d) (some (.int k)) (some (.lst (iL (yP k)))) (some (.lst ((box 2 k).map rD))) a4 none none none none none)) s:=by
 have f2:yR (T10 (some d) (some (.int k)) (some (.lst (iL (yP k)))) none none none none none none none) s=.ok (.nx (T10 (some d) (some (.int k)) (some (.lst (iL (yP k)))) (some (.loc s.length)) none none none none none none)) (s++[[]]):=by
  rw[yR,yh,z4C,yq,Rb,_g ⟨by simp,rfl⟩];rfl
 have rl:=z5H k;have sq:(2*k+1)*(2*k+1)<=201*201:=_aZ (by omega) (by omega);obtain⟨ρ',S',lp,a4,hρ,hS,ha⟩:=wL (all:=iL (yP k)) (body:=λx ρ s=>(yJ 4 x ρ s).bind fun ρ' s'=>xN ρ' s') (λi ρ S=>∃a4,ρ=T10 (some d) (some (.int k)) (some (.lst (iL (yP k)))) (some (.loc s.length)) a4 none none none none none/\S=s++[(((yP k).take i).flatMap λa=>(yP k).map λb=>[a,b]).map rD]/\(0<i->∃a:Int,a4=some (.int a))) (iL (yP k)) 0 (by
   intro i y hy ρ S ⟨a4,hρ,hS,_⟩;subst hρ hS;rw[_Q];rw[_O,_D]at hy;obtain⟨a,ea,rfl⟩:=hy;have tk:(yP k).take (i+1)=(yP k).take i++[a]:=by rw[_da,ea];rfl
   have pl:=z1i (λa:Int=>(yP k).map λb=>[a,b]) (2*k+1) ((yP k).take i) λa _=>by simp[yP]
   rw[_Z]at pl;have pl2:min i (yP k).length*(2*k+1)<=(2*k+1)*(2*k+1):=_aN _ (by omega);rw[tk,_aQ,_aU];generalize ((yP k).take i).flatMap (λa=>(yP k).map λb=>[a,b])=A at *;have c:=comp_map (s:=s++[A.map rD]) (ρ:=T10 (some d) (some (.int k)) (some (.lst (iL (yP k)))) (some (.loc s.length)) (some (.int a)) none none none none none) (fi:=zR (zd 2)) (mp:=[some 4,none]) (fg:=yJ 1) (fe:=jo (za (zd 0) (za (zd 1) zi))) D.int (λb:Int=>rD [a,b]) (λb=>[some (.int a),some (.int b)]) (yP k) (yC (vr rfl)) (λ_ _=>rfl) (λb _=>by
     rw[qL,zo,vr (d:=.int a) rfl,Rb,zo,vr (d:=.int b) rfl,Rb,yq];simp[cap]) (by unfold cap;omega);have hf:=we ((yP k).map λb=>[a,b]);rw[_au]at hf;have e1:([a].flatMap λa=>(yP k).map λb=>[a,b]).map rD=(yP k).map λb=>rD [a,b]:=by simp[_ad]
   rw[e1];refine⟨T10 (some d) (some (.int k)) (some (.lst (iL (yP k)))) (some (.loc s.length)) (some (.int a)) none none none none none,_,?_,_,rfl,rfl,λ_=>⟨a,rfl⟩⟩;rw[qa,Rb];show xN (T10 (some d) (some (.int k)) (some (.lst (iL (yP k)))) (some (.loc s.length)) (some (.int a)) none none none none none) (s++[A.map rD])=_;rw[xN,zcg (as:=A.map rD) rfl c (by simp) hf (by simp only[_m];unfold cap;omega),z2N]) (T10 (some d) (some (.int k)) (some (.lst (iL (yP k)))) (some (.loc s.length)) none none none none none none) (s++[[]]) ⟨none,rfl,rfl,λh=>absurd h (by omega)⟩;rw[_Q,_m,_Y (_d _),<- zg4]at hS;obtain⟨a,rfl⟩:=ha (by simp[yP]);refine⟨some (.int a),?_⟩;have r:(zM yR xM) (T10 (some d) (some (.int k)) (some (.lst (iL (yP k)))) none none none none none none none) s=.ok (.nx (T10 (some d) (some (.int k)) (some (.lst (iL (yP k)))) (some (.loc s.length)) (some (.int a)) none none none none none)) (s++[(box 2 k).map rD]):=by rw[zr f2,xM,qb,yC (vr rfl),Rb,lp,hρ,hS]
 have bl:=zcY (n:=0) (k:=s.length) (d:=d) (x:=.int a) (L:=iL (yP k)) (i:=(k:Int)) (l:=s.length) hd (wZ _) rfl;have gt:(s++[(box 2 k).map rD])[s.length]? = some ((box 2 k).map rD):=by simp
 have tk:(s++[(box 2 k).map rD]).take s.length=s:=by simp
 unfold z8i;rw[r];simp only;show (match (s++[(box 2 k).map rD])[s.length]? with | some xs=>_ | none=>_)=_;rw[gt];simp only;rw[_g ⟨_d _,bl⟩,tk];rfl
theorem zdC {k:Nat} {v x:List Int} {F A:List (List Int)} {s:Sto} {ys:List D} (hv:∀i∈v,i.natAbs<2 ^ 16) (hx:∀i∈x,i.natAbs<2 ^ 16) (xl:x.length<=2) (hF:∀y∈F,y.length=2) (fl:F.length<=90000) (gr:Grp (z9c (v.take 2) F) ys) (yn:ys≠[]) (tot:A.length+(((F.filter λy=>decide (dot y (v.take 2)=0-dot x (v.drop 2))).filter λy=>decide (wgt (y++x)=(k:Int)))).length<=90000) (a2 a3 a4 a6 a9:Option D): ∃b9 zs,(zM yH xx) (T10 (some (rD v)) (some (.int k)) a2 a3 a4 (some (.dlo s.length)) a6 (some (.loc (s.length+1))) (some (rD x)) a9) (s++[ys]++[A.map rD])=.ok (.nx (T10 (some (rD v)) (some (.int k)) a2 a3 a4 (some (.dlo s.length)) a6 (some (.loc (s.length+1))) (some (rD x)) b9)) (s++[zs]++[(A++((F.filter λy=>decide (dot y (v.take 2)=0-dot x (v.drop 2))).filter λy=>decide (wgt (y++x)=(k:Int))).map λy=>y++x).map rD])/\Grp (z9c (v.take 2) F) zs/\zs≠[]:=by
 have at1:(s++[ys]++[A.map rD])[s.length]? = some ys:=by rw[_z,_v (_d _)];simp
 have sm:=zcv (x:=x) (v:=v.drop 2) (s++[ys]++[A.map rD]) hx (λj hj=>hv j (_bt hj)) (by omega);have sl:=zdt v (s++[ys]++[A.map rD]);have key:∀(dv e:D),dSl dv (some 2) none (s++[ys]++[A.map rD])=.ok (rD (v.drop 2)) (s++[ys]++[A.map rD])->Pg.zS [e,rD (v.drop 2)] (s++[ys]++[A.map rD])=.ok (.int (dot x (v.drop 2))) (s++[ys]++[A.map rD])->eOp jn (eC (.int 0)) (ze Pg.zS (za (zd 8) (za (eSl (zd 0) (qw (eC (.int 2))) xK) zi))) (T10 (some dv) (some (.int k)) a2 a3 a4 (some (.dlo s.length)) a6 (some (.loc (s.length+1))) (some e) a9) (s++[ys]++[A.map rD])=.ok (.int (0-dot x (v.drop 2))) (s++[ys]++[A.map rD]):=λdv e h1 h2=>by rw[op2 (x:=.int 0) (y:=.int (dot x (v.drop 2))) rfl (by rw[call2 (x:=e) (y:=rD (v.drop 2)) (vr rfl) (by rw[z97,vr (d:=dv) rfl,Rb,z1d,zd1,Rb];exact h1),h2]),uv]
 obtain⟨zs,e,g',zn⟩:=z3l gr (fo:=zd 5) (fk:=eOp jn (eC (.int 0)) (ze Pg.zS (za (zd 8) (za (eSl (zd 0) (qw (eC (.int 2))) xK) zi)))) (ρ:=T10 (some (rD v)) (some (.int k)) a2 a3 a4 (some (.dlo s.length)) a6 (some (.loc (s.length+1))) (some (rD x)) a9) (s:=s++[ys]++[A.map rD]) (l:=s.length) (j:=0-dot x (v.drop 2)) (vr rfl) at1 (key _ _ sl sm) yn;rw[z7y]at e;have gf:z9c (v.take 2) F (0-dot x (v.drop 2))=(F.filter λy=>decide (dot y (v.take 2)=0-dot x (v.drop 2))).map rD:=rfl;rw[gf]at e;have bl:(F.filter λy=>decide (dot y (v.take 2)=0-dot x (v.drop 2))).length<=90000:=_H (_aq _ _) fl;have b2:∀y∈F.filter λy=>decide (dot y (v.take 2)=0-dot x (v.drop 2)),y.length=2:=λy hy=>hF y (_I.mp hy).1;generalize F.filter (λy=>decide (dot y (v.take 2)=0-dot x (v.drop 2)))=B at e bl b2 tot ⊢;refine⟨some (.lst (B.map rD)),zs,?_,g',zn⟩;have f11:yH (T10 (some (rD v)) (some (.int k)) a2 a3 a4 (some (.dlo s.length)) a6 (some (.loc (s.length+1))) (some (rD x)) a9) (s++[ys]++[A.map rD])=.ok (.nx (T10 (some (rD v)) (some (.int k)) a2 a3 a4 (some (.dlo s.length)) a6 (some (.loc (s.length+1))) (some (rD x)) (some (.lst (B.map rD))))) (s++[zs]++[A.map rD]):=by
  rw[yH,yh,e,Rb];rfl
 rw[zr f11];generalize rD v=dv at *;have at2:(s++[zs]++[A.map rD])[s.length+1]? = some (A.map rD):=by rw[_v (by simp)];simp
 have ad:∀(y:List Int) (k':D) S,y.length=2->eOp jp (zd 2) (zd 0) [some (rD x),some k',some (rD y)] S=.ok (rD (y++x)) S:=λy k' S hy=>by rw[op2 (x:=rD y) (y:=rD x) (vr rfl) (vr rfl),z60,_g (by simp[cap];omega),<- _aU]
 have c:=z0q (s:=s++[zs]++[A.map rD]) (ρ:=T10 (some dv) (some (.int k)) a2 a3 a4 (some (.dlo s.length)) a6 (some (.loc (s.length+1))) (some (rD x)) (some (.lst (B.map rD)))) (fi:=zR (zd 9)) (mp:=[some 8,some 1,none]) (fg:=yJ 2) (ft:=tOf (eOp dEq (ze uD (za (zF (zR (eOp jp (zd 2) (zd 0))) [none] (yJ 0) yr (ze z0k (za (zd 0) zi))) zi)) (zd 1))) (fe:=eOp jp (zd 2) (zd 0)) rD (λy=>rD (y++x)) (λy=>decide (wgt (y++x)=(k:Int))) (λy=>[some (rD x),some (.int k),some (rD y)]) B (yC (vr rfl)) (λy _=>rfl) (λy hy=>by
   have yl:=b2 y hy;have cm:=comp_map (s:=s++[zs]++[A.map rD]) (ρ:=[some (rD x),some (.int k),some (rD y)]) (fi:=zR (eOp jp (zd 2) (zd 0))) (mp:=[none]) (fg:=yJ 0) (fe:=ze z0k (za (zd 0) zi)) D.int (λi:Int=>D.int ((i.natAbs:Nat):Int)) (λi=>[some (.int i)]) (y++x) (z0x (ad y _ _ yl)) (λi _=>rfl) (λi _=>by rw[yc (x:=.int i) (vr rfl)];simp only[z0k];congr 2;split<;>omega) (by simp[cap];omega);have e2:(y++x).map (λi:Int=>D.int ((i.natAbs:Nat):Int))=iL ((y++x).map λi=>((i.natAbs:Nat):Int)):=by simp[iL,_ad]
   rw[e2]at cm;refine jH ?_;rw[op2 (x:=.int (wgt (y++x))) (y:=.int k) (by rw[yc cm,z7G _ (by intro z;simp at z;rw[z.1]at yl;cases yl)];rfl) (vr rfl),z10]) (λy hy _=>ad y _ _ (b2 y hy)) (by unfold cap;omega);have hf:=we ((B.filter λy=>decide (wgt (y++x)=(k:Int))).map λy=>y++x);rw[_au]at hf;rw[xx,zcg rfl c at2 hf (by simp only[_m];unfold cap;omega),show s.length+1=(s++[zs]).length by simp,z2y,_aU,_au];rfl
theorem z3t{T:List (List Int)}{d:D}{s:Sto}(h:Dd.listOf s d=some (T.map rD))(ne:∀x∈T,x≠[]):jN [d] s=.ok (.lst ((z0M lexN T).map rD)) s:=by
 have tu:z2p (T.map rD)=some T:=z1n T;simp only[jN,z26,h,tu];rw[_g (_ab.mpr λx hx=>by have:=ne x hx;cases x<;>simp_all)]
theorem zbn{k n:Nat}(hk:k<=100)(hn:n<=2):(box n k).length<=90000:=by refine _H z2O (_H (_ap (show 2*k+1<=201 by omega) n) (_H (_bL (by omega) hn) (by decide)))
theorem z7e {k:Nat} {v:List Int} (h3:3<=v.length) (h4:v.length<=4) (hv:∀i∈v,i.natAbs<2 ^ 16) (k1:1<=k) (hk:k<=100) (hr:(z7r v k).length<=90000) (s:Sto): zG [rD v,.int k] s=.ok (.lst ((z7r v k).map rD)) s:=by
 have st:zT ["_law_lot","_law_weight","_law_sides","_law_pairs","_law_a","_law_known","_law_others","_law_found","_law_other","_law_some"] [rD v,.int ((k:Nat):Int)]=T10 (some (rD v)) (some (.int ((k:Nat):Int))) none none none none none none none none:=rfl;have f1:=zbK hk (rD v) none none none none none none none none s;obtain⟨a4,f2⟩:=zbS (d:=rD v) (s:=s) hk (show D.flat.flats (iL v)=true from wZ v);have b2:=zbn (n:=2) hk (by omega);have bn:=zbn (n:=v.length-2) hk (by omega);have hB:∀x∈box 2 k,x.length<=4/\∀i∈x,i.natAbs<2 ^ 16:=λx hx=>by
  obtain⟨h1,h2⟩:=yo.mp hx;exact⟨by omega,λi hi=>by have:=h2 i hi;omega⟩
 have hh:=z5L hv b2 hB s;have wl:(zaN v k).length=(z7r v k).length:=((_bj z92 (show (z7r v k).Nodup from (jW v k).nodup.filter _)).mpr λx=>z2k (by omega) k1).length_eq;have f5:wX (T10 (some (rD v)) (some (.int k)) (some (.lst (iL (yP k)))) (some (.lst ((box 2 k).map rD))) a4 none none none none none) s=.ok (.nx (T10 (some (rD v)) (some (.int k)) (some (.lst (iL (yP k)))) (some (.lst ((box 2 k).map rD))) a4 (some (.dlo s.length)) none none none none)) (s++[(z4T (v.take 2) (box 2 k)).map gE]):=by
  rw[wX,yh,call2 (x:=rD v) (y:=.lst ((box 2 k).map rD)) (vr rfl) (vr rfl),hh];rfl
 have gr:=zaL (z2P (v.take 2) (box 2 k));have gn:(z4T (v.take 2) (box 2 k)).map gE≠[]:=zfg (_cZ (yo.mpr (show ([0,0]:List Int).length=2/\∀i∈([0,0]:List Int),i.natAbs<=k from⟨rfl,by simp⟩)));generalize (z4T (v.take 2) (box 2 k)).map gE=gs at *;have f6:∃a6,(zM wV (zM xV (zM yM (zM xB yG)))) (T10 (some (rD v)) (some (.int k)) (some (.lst (iL (yP k)))) (some (.lst ((box 2 k).map rD))) a4 (some (.dlo s.length)) none none none none) (s++[gs])=(zM yM (zM xB yG)) (T10 (some (rD v)) (some (.int k)) (some (.lst (iL (yP k)))) (some (.lst ((box 2 k).map rD))) a4 (some (.dlo s.length)) (some (.lst ((box (v.length-2) k).map rD))) a6 none none) (s++[gs]):=by
  have c:=comp_map (s:=s++[gs]) (ρ:=T10 (some (rD v)) (some (.int k)) (some (.lst (iL (yP k)))) (some (.lst ((box 2 k).map rD))) a4 (some (.dlo s.length)) none none none none) (fi:=zR (zd 2)) (mp:=[none]) (fg:=yJ 0) (fe:=jo (za (zd 0) zi)) D.int (λc:Int=>rD [c]) (λc=>[some (.int c)]) (yP k) (yC (vr rfl)) (λ_ _=>rfl) (λc _=>by
   rw[qL,zo,vr (d:=.int c) rfl,Rb,yq];simp[cap]) (by rw[z5H];unfold cap;omega);have e1:(yP k).map (λc:Int=>rD [c])=(box 1 k).map rD:=by rw[zds,_au];rfl
  rw[e1]at c;have gl:∀(ρ:Ev) (S:Sto),ρ[0]? = some (some (rD v))->ze vj (za (zd 0) zi) ρ S=.ok (.int v.length) S:=fun ρ S h=>by rw[yc (x:=rD v) (vr h)];simp[vj,xj]
  refine⟨none,?_⟩;rw[zr (ρ':=T10 (some (rD v)) (some (.int k)) (some (.lst (iL (yP k)))) (some (.lst ((box 2 k).map rD))) a4 (some (.dlo s.length)) (some (.lst ((box 1 k).map rD))) none none none) (s':=s++[gs]) (by rw[wV,yh,c];rfl)];have tt:tOf (eOp dEq (ze vj (za (zd 0) zi)) (eC (.int 4))) (T10 (some (rD v)) (some (.int k)) (some (.lst (iL (yP k)))) (some (.lst ((box 2 k).map rD))) a4 (some (.dlo s.length)) (some (.lst ((box 1 k).map rD))) none none none) (s++[gs])=.ok (decide ((v.length:Int)=4)) (s++[gs]):=jH (by rw[op2 (x:=.int v.length) (y:=.int 4) (gl _ _ rfl) rfl,z10]);rcases (by omega:v.length=3\/v.length=4) with e | e
  ·rw[_ay (by omega)]at tt;rw[zr (ρ':=T10 (some (rD v)) (some (.int k)) (some (.lst (iL (yP k)))) (some (.lst ((box 2 k).map rD))) a4 (some (.dlo s.length)) (some (.lst ((box 1 k).map rD))) none none none) (s':=s++[gs]) (by rw[xV,zd6 tt];rfl),e]
  ·rw[_bK (by omega)]at tt;rw[zr (ρ':=T10 (some (rD v)) (some (.int k)) (some (.lst (iL (yP k)))) (some (.lst ((box 2 k).map rD))) a4 (some (.dlo s.length)) (some (.lst ((box 2 k).map rD))) none none none) (s':=s++[gs]) (by rw[xV,zc6 tt];rfl),e]
 obtain⟨a7,f6⟩:=f6;have f9:yM (T10 (some (rD v)) (some (.int k)) (some (.lst (iL (yP k)))) (some (.lst ((box 2 k).map rD))) a4 (some (.dlo s.length)) (some (.lst ((box (v.length-2) k).map rD))) a7 none none) (s++[gs])=.ok (.nx (T10 (some (rD v)) (some (.int k)) (some (.lst (iL (yP k)))) (some (.lst ((box 2 k).map rD))) a4 (some (.dlo s.length)) (some (.lst ((box (v.length-2) k).map rD))) (some (.loc (s.length+1))) none none)) (s++[gs]++[[]]):=by
  rw[yM,yh,z4C,yq,Rb,_g ⟨by simp,rfl⟩,Rb,_q];rfl
 obtain⟨ρ',S',lp,a8,a9,ys,hρ,hS,_,_⟩:=wL (all:=(box (v.length-2) k).map rD) (body:=λd ρ s=>(yJ 8 d ρ s).bind fun ρ' s'=>(zM yH xx) ρ' s') (λi ρ S=>∃a8 a9 ys,ρ=T10 (some (rD v)) (some (.int k)) (some (.lst (iL (yP k)))) (some (.lst ((box 2 k).map rD))) a4 (some (.dlo s.length)) (some (.lst ((box (v.length-2) k).map rD))) (some (.loc (s.length+1))) a8 a9/\S=s++[ys]++[(fnp v (λz=>decide (wgt z=(k:Int))) (box 2 k) ((box (v.length-2) k).take i)).map rD]/\Grp (z9c (v.take 2) (box 2 k)) ys/\ys≠[]) ((box (v.length-2) k).map rD) 0 (by
   intro i d hd ρ S ⟨a8,a9,ys,hρ,hS,g,yn⟩;subst hρ hS;rw[_Q];rw[_O,_D]at hd;obtain⟨x,ex,rfl⟩:=hd;obtain⟨xl,xb⟩:=yo.mp (_c ex);have tk:(box (v.length-2) k).take (i+1)=(box (v.length-2) k).take i++[x]:=by rw[_ci,ex];rfl
   have fl:=z1h v (λz=>decide (wgt z=(k:Int))) (box 2 k) (box (v.length-2) k) (i+1);have wl':(fnp v (λz=>decide (wgt z=(k:Int))) (box 2 k) (box (v.length-2) k)).length=(z7r v k).length:=wl;rw[tk,z0p,_q,_m]at fl;rw[tk,z0p];obtain⟨b9,zs,e,g',zn⟩:=zdC (k:=k) (v:=v) (x:=x) (F:=box 2 k) (A:=fnp v (λz=>decide (wgt z=(k:Int))) (box 2 k) ((box (v.length-2) k).take i)) (s:=s) (ys:=ys) hv (λj hj=>by have:=xb j hj;omega) (by omega) (λy hy=>zg1 hy) b2 g yn (by omega) (some (.lst (iL (yP k)))) (some (.lst ((box 2 k).map rD))) a4 (some (.lst ((box (v.length-2) k).map rD))) a9;refine⟨_,_,?_,some (rD x),b9,zs,rfl,rfl,g',zn⟩;rw[qa,Rb];exact e) (T10 (some (rD v)) (some (.int k)) (some (.lst (iL (yP k)))) (some (.lst ((box 2 k).map rD))) a4 (some (.dlo s.length)) (some (.lst ((box (v.length-2) k).map rD))) (some (.loc (s.length+1))) none none) (s++[gs]++[[]]) ⟨none,none,gs,rfl,by simp[fnp],gr,gn⟩;rw[_Q,_m,_Y (_d _)]at hS;change S'=s++[ys]++[(zaN v k).map rD]at hS;have at2:S'[s.length+1]? = some ((zaN v k).map rD):=by rw[hS,_v (by simp)];simp
 have tk:S'.take s.length=s:=by rw[hS,_z,List.take_left'];rfl
 have so:=z3t (T:=zaN v k) (d:=.loc (s.length+1)) (s:=S') at2 λx hx z=>by
  have:=(_I.mp ((z2k (by omega) k1).mp hx)).1;have:=(yX.mp this).1;rw[z]at this;simp at this;omega
 rw[zdX (by omega) k1]at so;have f13:yG ρ' S'=.ok (.rt (.lst ((z7r v k).map rD))) S':=by
  rw[yG,xH,hρ,yc (x:=.loc (s.length+1)) (vr rfl),so];rfl
 simp only[zG,z30,Mof,uW,st,_p,_J,_P];rw[zr f1,zr f2,zr f5,f6,zr f9,zr (ρ':=ρ') (s':=S') (by
  rw[xB,qb,yC (vr rfl),Rb];exact lp),f13];simp only[];rw[qF (by simp only[D.flat];exact we _),tk]
noncomputable abbrev L6(a0 a1 a2 a3 a4 a5:Option D):Ev:=[a0,a1,a2,a3,a4,a5]
theorem zeK{s T:Sto}{x y z:List D}:(s++[x]++T++[z]).set s.length y=s++[y]++T++[z]:=by
 rw[_z,_z,_cr _ _ (_d _)];simp
theorem zej{s T:Sto}{x z:List D}:(s++[x]++T++[z])[s.length]? = some x:=by
 rw[_z,_z,_v (_d _)];simp
theorem zdx {k:Nat} {v x:List Int} {F A:List (List Int)} {s T:Sto} {ys:List D} (hv:∀i∈v,i.natAbs<2 ^ 16) (hx:∀i∈x,i.natAbs<2 ^ 16) (xl:x.length<=2) (hF:∀y∈F,y.length=2) (fl:F.length<=90000) (gr:Grp (z9c (v.take 2) F) ys) (yn:ys≠[]) (tot:A.length+((F.filter λy=>decide (dot y (v.take 2)=0-dot x (v.drop 2))).filter λ_=>true).length<=90000) {l:Nat} (hl:l=(s++[A.map rD]++T).length) (a1 a3:Option D): ∃zs,wj (L6 (some (rD v)) a1 (some (.loc s.length)) a3 (some (.dlo l)) (some (rD x))) (s++[A.map rD]++T++[ys])=.ok (.nx (L6 (some (rD v)) a1 (some (.loc s.length)) a3 (some (.dlo l)) (some (rD x)))) (s++[(A++((F.filter λy=>decide (dot y (v.take 2)=0-dot x (v.drop 2))).filter λ_=>true).map λy=>y++x).map rD]++T++[zs])/\Grp (z9c (v.take 2) F) zs/\zs≠[]:=by
 have at1:(s++[A.map rD]++T++[ys])[l]? = some ys:=by rw[hl,_v (_d _)];simp
 have sm:=zcv (x:=x) (v:=v.drop 2) (s++[A.map rD]++T++[ys]) hx (λj hj=>hv j (_bt hj)) (by omega);have sl:=zdt v (s++[A.map rD]++T++[ys]);have key:∀(dv e:D) (S:Sto),dSl dv (some 2) none S=.ok (rD (v.drop 2)) S->Pg.zS [e,rD (v.drop 2)] S=.ok (.int (dot x (v.drop 2))) S->eOp jn (eC (.int 0)) (ze Pg.zS (za (zd 5) (za (eSl (zd 0) (qw (eC (.int 2))) xK) zi))) (L6 (some dv) a1 (some (.loc s.length)) a3 (some (.dlo l)) (some e)) S=.ok (.int (0-dot x (v.drop 2))) S:=λdv e S h1 h2=>by rw[op2 (x:=.int 0) (y:=.int (dot x (v.drop 2))) rfl (by rw[call2 (x:=e) (y:=rD (v.drop 2)) (vr rfl) (by rw[z97,vr (d:=dv) rfl,Rb,z1d,zd1,Rb];exact h1),h2]),uv]
 obtain⟨zs,e,g',zn⟩:=z3l gr (fo:=zd 4) (fk:=eOp jn (eC (.int 0)) (ze Pg.zS (za (zd 5) (za (eSl (zd 0) (qw (eC (.int 2))) xK) zi)))) (ρ:=L6 (some (rD v)) a1 (some (.loc s.length)) a3 (some (.dlo l)) (some (rD x))) (s:=s++[A.map rD]++T++[ys]) (l:=l) (j:=0-dot x (v.drop 2)) (vr rfl) at1 (key _ _ _ sl sm) yn;have se:(s++[A.map rD]++T++[ys]).set l zs=s++[A.map rD]++T++[zs]:=by rw[hl,z2y]
 rw[se]at e;have gf:z9c (v.take 2) F (0-dot x (v.drop 2))=(F.filter λy=>decide (dot y (v.take 2)=0-dot x (v.drop 2))).map rD:=rfl;rw[gf]at e;have bl:(F.filter λy=>decide (dot y (v.take 2)=0-dot x (v.drop 2))).length<=90000:=_H (_aq _ _) fl;have b2:∀y∈F.filter λy=>decide (dot y (v.take 2)=0-dot x (v.drop 2)),y.length=2:=λy hy=>hF y (_I.mp hy).1;generalize F.filter (λy=>decide (dot y (v.take 2)=0-dot x (v.drop 2)))=B at e bl b2 tot ⊢;refine⟨zs,?_,g',zn⟩;generalize rD v=dv at *;have c:=z85 (s:=s++[A.map rD]++T++[ys]) (s1:=s++[A.map rD]++T++[zs]) (ρ:=L6 (some dv) a1 (some (.loc s.length)) a3 (some (.dlo l)) (some (rD x))) (fi:=zR (jq (zd 4) (eOp jn (eC (.int 0)) (ze Pg.zS (za (zd 5) (za (eSl (zd 0) (qw (eC (.int 2))) xK) zi)))))) (mp:=[some 5,none]) (fg:=yJ 1) (ft:=yr) (fe:=eOp jp (zd 1) (zd 0)) rD (λy=>rD (y++x)) (λ_=>true) (λy=>[some (rD x),some (rD y)]) B (by rw[z0S,e,Rb]) (λy _=>rfl) (λy _=>rfl) (λy hy _=>by
   have:=b2 y hy;rw[op2 (x:=rD y) (y:=rD x) (vr rfl) (vr rfl),z60,_g (by simp[cap];omega),<- _aU]) (by unfold cap;omega);have hf:=we ((B.filter λ_=>true).map λy=>y++x);rw[_au]at hf;rw[wj,zcg rfl c zej hf (by simp only[_m];unfold cap;omega),zeK,_aU,_au];rfl
def pre(v:List Int)(k i:Nat):List (List Int):=(List.range i).flatMap λu=>fnp v (λ_=>true) (slg 2 u) (slg (v.length-2) (k-u))
theorem z3a(v:List Int)(k i:Nat):pre v k (i+1)=pre v k i++fnp v (λ_=>true) (slg 2 i) (slg (v.length-2) (k-i)):=by
 unfold pre;rw[List.range_succ,_aQ];simp
theorem zbl(v:List Int)(k i:Nat):∀j,(pre v k i).length<=(pre v k (i+j)).length
 | 0=>_d _ | j+1=>by
  have:=zbl v k i j;rw[<- Nat.add_assoc,z3a,_q];omega
theorem zdp{m j:Nat}{x:List Int}(hm:m=1\/m=2)(hj:j<=1000)(h:x∈slg m j):x.length=m/\∀i∈x,i.natAbs<2 ^ 16:=by
 obtain⟨h1,h2⟩:=(uI hm).mp h;exact⟨h1,λi hi=>by have:=kJ hi;omega⟩
theorem zei(j:Nat):slg 2 j≠[]:=_cZ ((uI (.inr rfl)).mpr (show ([(j:Int),0]:List Int).length=2/\lng [(j:Int),0]=(j:Int) from⟨rfl,by rw[xU,xU,ki];simp⟩))
theorem zfz {k u:Nat} {v:List Int} {A:List (List Int)} {s T:Sto} (h3:3<=v.length) (h4:v.length<=4) (hv:∀i∈v,i.natAbs<2 ^ 16) (hk:k<=1000) (hu:u<=k) (tot:A.length+(fnp v (λ_=>true) (slg 2 u) (slg (v.length-2) (k-u))).length<=90000) (a4 a5:Option D): ∃b4 b5 T',(zM xk wf) (L6 (some (rD v)) (some (.int k)) (some (.loc s.length)) (some (.int u)) a4 a5) (s++[A.map rD]++T)=.ok (.nx (L6 (some (rD v)) (some (.int k)) (some (.loc s.length)) (some (.int u)) b4 b5)) (s++[(A++fnp v (λ_=>true) (slg 2 u) (slg (v.length-2) (k-u))).map rD]++T'):=by
 have hm:v.length-2=1\/v.length-2=2:=by omega
 have sl2:=zct (m:=2) (j:=u);have hh:=z5L (v:=v) (P:=slg 2 u) hv (by omega) (λx hx=>by have:=zdp (.inr rfl) (by omega) hx;exact⟨by omega,this.2⟩) (s++[A.map rD]++T);have f3:xk (L6 (some (rD v)) (some (.int k)) (some (.loc s.length)) (some (.int u)) a4 a5) (s++[A.map rD]++T)=.ok (.nx (L6 (some (rD v)) (some (.int k)) (some (.loc s.length)) (some (.int u)) (some (.dlo (s++[A.map rD]++T).length)) a5)) (s++[A.map rD]++T++[(z4T (v.take 2) (slg 2 u)).map gE]):=by
  rw[xk,yh,call2 (x:=rD v) (y:=.lst ((slg 2 u).map rD)) (vr rfl) (zbm (m:=2) (.inr rfl) (by omega) rfl (vr rfl)),hh];rfl
 have gr:=zaL (z2P (v.take 2) (slg 2 u));have gn:(z4T (v.take 2) (slg 2 u)).map gE≠[]:=zfg (zei u);generalize (z4T (v.take 2) (slg 2 u)).map gE=gs at *;have gl:∀(ρ:Ev) (S:Sto),ρ[0]? = some (some (rD v))->ze vj (za (zd 0) zi) ρ S=.ok (.int v.length) S:=fun ρ S h=>by rw[yc (x:=rD v) (vr h)];simp[vj,xj]
 have ln:∀B:List (List Int),(s++[B.map rD]++T).length=s.length+1+T.length:=λB=>by simp;omega
 rw[ln]at f3;obtain⟨ρ',S',lp,a5',ys,hρ,hS,_,_⟩:=wL (all:=(slg (v.length-2) (k-u)).map rD) (body:=λd ρ s=>(yJ 5 d ρ s).bind fun ρ' s'=>wj ρ' s') (λi ρ S=>∃a5 ys,ρ=L6 (some (rD v)) (some (.int k)) (some (.loc s.length)) (some (.int u)) (some (.dlo (s.length+1+T.length))) a5/\S=s++[(A++fnp v (λ_=>true) (slg 2 u) ((slg (v.length-2) (k-u)).take i)).map rD]++T++[ys]/\Grp (z9c (v.take 2) (slg 2 u)) ys/\ys≠[]) ((slg (v.length-2) (k-u)).map rD) 0 (by
   intro i d hd ρ S ⟨a5,ys,hρ,hS,g,yn⟩;subst hρ hS;rw[_Q];rw[_O,_D]at hd;obtain⟨x,ex,rfl⟩:=hd;obtain⟨xl,xb⟩:=zdp hm (by omega) (_c ex);have tk:(slg (v.length-2) (k-u)).take (i+1)=(slg (v.length-2) (k-u)).take i++[x]:=by rw[_ci,ex];rfl
   have fl:=z1h v (λ_=>true) (slg 2 u) (slg (v.length-2) (k-u)) (i+1);rw[tk,z0p,_q,_m]at fl;rw[tk,z0p,<- _z];obtain⟨zs,e,g',zn⟩:=zdx (k:=k) (v:=v) (x:=x) (F:=slg 2 u) (A:=A++fnp v (λ_=>true) (slg 2 u) ((slg (v.length-2) (k-u)).take i)) (s:=s) (T:=T) (ys:=ys) hv xb (by omega) (λy hy=>zd7 hy) (by omega) g yn (by rw[_q];omega) (l:=s.length+1+T.length) (ln _).symm (some (.int k)) (some (.int u));refine⟨_,_,?_,some (rD x),zs,rfl,rfl,g',zn⟩;rw[qa,Rb];exact e) (L6 (some (rD v)) (some (.int k)) (some (.loc s.length)) (some (.int u)) (some (.dlo (s.length+1+T.length))) a5) (s++[A.map rD]++T++[gs]) ⟨a5,gs,rfl,by simp[fnp],gr,gn⟩;rw[_Q,_m,_Y (_d _)]at hS;refine⟨some (.dlo (s.length+1+T.length)),a5',T++[ys],?_⟩;rw[zr f3,wf,qb,yC (xs:=(slg (v.length-2) (k-u)).map rD) (zbm hm (by omega) (by
  rw[op2 (x:=.int v.length) (y:=.int 2) (gl _ _ rfl) rfl,uv];congr 2;omega) (by
  rw[op2 (x:=.int k) (y:=.int u) (vr rfl) (vr rfl),uv];congr 2;omega)),Rb];refine lp.trans ?_;rw[hρ,hS,_z _ T]
theorem z7P {k:Nat} {v:List Int} (h3:3<=v.length) (h4:v.length<=4) (hv:∀i∈v,i.natAbs<2 ^ 16) (k1:1<=k) (hk:k<=900) (hr:(uO v k).length<=90000) (s:Sto): zK [rD v,.int k] s=.ok (.lst ((uO v k).map rD)) s:=by
 have st:zT ["_law_lot","_law_length","_law_found","_law_used","_law_known","_law_other"] [rD v,.int k]=L6 (some (rD v)) (some (.int k)) none none none none:=rfl;have wl:(lasts v k).length=(uO v k).length:=((_bj (z6c h3 h4) (z2q v k).nodup).mpr λx=>by
  rw[vc,z13 h3 h4];exact⟨λh=>⟨h.1,h.2.1,z8H (by omega),h.2.2⟩,λh=>⟨h.1,h.2.1,h.2.2.2⟩⟩).length_eq;have lp0:lasts v k=pre v k (k+1):=rfl;have f1:vn (L6 (some (rD v)) (some (.int k)) none none none none) s=.ok (.nx (L6 (some (rD v)) (some (.int k)) (some (.loc s.length)) none none none)) (s++[[]]):=by
  rw[vn,yh,z4C,yq,Rb,_g ⟨by simp,rfl⟩];rfl
 obtain⟨ρ',S',lp,a3,a4,a5,T,hρ,hS⟩:=wL (all:=(List.range (k+1)).map λk:Nat=>D.int ((k:Nat):Int)) (body:=λd ρ s=>(yJ 3 d ρ s).bind fun ρ' s'=>(zM xk wf) ρ' s') (λi ρ S=>∃a3 a4 a5,∃T:Sto,ρ=L6 (some (rD v)) (some (.int ((k:Nat):Int))) (some (.loc s.length)) a3 a4 a5/\S=s++[(pre v k i).map rD]++T) ((List.range (k+1)).map λk:Nat=>D.int ((k:Nat):Int)) 0 (by
   intro i d hd ρ S ⟨a3,a4,a5,T,hρ,hS⟩;subst hρ hS;rw[_Q];rw[_O,_D]at hd;obtain⟨u,eu,rfl⟩:=hd;obtain⟨hi,hu⟩:=_b.mp eu;rw[List.getElem_range]at hu;subst hu;rw[_c9]at hi;have pl:=zbl v k (i+1) (k-i);rw[show i+1+(k-i)=k+1 by omega,<- lp0,z3a,_q]at pl;obtain⟨b4,b5,T',e⟩:=zfz (k:=k) (u:=i) (v:=v) (A:=pre v k i) (s:=s) (T:=T) h3 h4 hv (by omega) (by omega) (by omega) a4 a5;rw[<- z3a]at e;refine⟨L6 (some (rD v)) (some (.int k)) (some (.loc s.length)) (some (.int i)) b4 b5,s++[(pre v k (i+1)).map rD]++T',?_,_,b4,b5,T',rfl,rfl⟩;rw[qa,Rb];exact e) (L6 (some (rD v)) (some (.int k)) (some (.loc s.length)) none none none) (s++[[]]) ⟨none,none,none,[],rfl,by simp[pre]⟩;rw[_Q,_m,_c9,<- lp0]at hS;have at2:S'[s.length]? = some ((lasts v k).map rD):=by rw[hS,_z,_v (_d _)];simp
 have tk:S'.take s.length=s:=by rw[hS,_z,List.take_left'];rfl
 have so:=z3t (T:=lasts v k) (d:=.loc s.length) (s:=S') at2 λx hx z=>by
  have:=((z13 h3 h4).mp hx).1;rw[z]at this;simp at this;omega
 rw[zdg h3 h4 k1]at so;have f6:vp ρ' S'=.ok (.rt (.lst ((uO v k).map rD))) S':=by
  rw[vp,xH,hρ,yc (x:=.loc s.length) (vr rfl),so];rfl
 simp only[zK,z30,Mof,qq,st,_p,_J,_P];rw[zr f1,zr (ρ':=ρ') (s':=S') (by
  rw[uV,qb,kb (n:=k+1) (s1:=s++[[]]) (by omega) (by rw[zo,op2 (x:=.int k) (y:=.int 1) (vr rfl) rfl,z21,Rb,yq];simp),Rb];exact lp),f6];simp only[];rw[qF (by simp only[D.flat];exact we _),tk]
def jY(f:FS):Prop:=∀ ρ s d s',f ρ s≠.ok (.rt d) s'
theorem jY.set{i:Nat}{f:FE}:jY (wq i f):=fun ρ s d s' h=>by
 rw[yh]at h;cases q:f ρ s with
 | ok _ _=>rw[q,Rb]at h;simp at h | ex _ _=>rw[q]at h;cases h | no=>rw[q]at h;cases h
theorem jY.drop{f:FE}:jY (jf f):=fun ρ s d s' h=>by
 rw[jj]at h;cases q:f ρ s with
 | ok _ _=>rw[q,Rb]at h;simp at h | ex _ _=>rw[q]at h;cases h | no=>rw[q]at h;cases h
theorem zb4{f g:FS}{ρ:Ev}{s:Sto}{d:D}{s':Sto}(hf:jY f)(h:zM f g ρ s=.ok (.rt d) s'):∃ ρ1 s1,f ρ s=.ok (.nx ρ1) s1/\g ρ1 s1=.ok (.rt d) s':=by
 unfold zM at h;cases q:f ρ s with
 | ok fl s1=>
  rw[q,Rb]at h;cases fl with
  | nx ρ1=>exact⟨ρ1,s1,rfl,h⟩ | rt e=>exact absurd q (hf _ _ _ _) | ct _=>simp at h | bk _=>simp at h
 | ex _ _=>rw[q]at h;cases h | no=>rw[q]at h;cases h
theorem jY.seq{f g:FS}(hf:jY f)(hg:jY g):jY (zM f g):=fun ρ s d s' h=>by
 obtain⟨ρ1,s1,_,h2⟩:=zb4 hf h;exact hg _ _ _ _ h2
theorem jY.loop{ft:FT}{fb:FS}(hb:jY fb):∀(k:Nat)(ρ:Ev)(s:Sto)(d:D)(s':Sto),wB ft fb k ρ s≠.ok (.rt d) s'
 | 0,ρ,s,d,s',h=>by simp[wB]at h | k+1,ρ,s,d,s',h=>by
  rw[wB]at h;cases q:ft ρ s with
  | ok b s1=>
   rw[q,Rb]at h;cases b with
   | false=>simp at h | true=>
    rw[_g rfl]at h;cases q2:fb ρ s1 with
    | ok fl s2=>
     rw[q2,Rb]at h;cases fl with
     | nx ρ1=>exact jY.loop hb k _ _ _ _ h | ct ρ1=>exact jY.loop hb k _ _ _ _ h | bk ρ1=>simp at h | rt e=>exact hb _ _ _ _ q2
    | ex _ _=>rw[q2]at h;cases h | no=>rw[q2]at h;cases h
  | ex _ _=>rw[q]at h;cases h | no=>rw[q]at h;cases h
theorem jY.while_{ft:FT}{fb:FS}(hb:jY fb):jY (qQ ft fb):=fun ρ s d s' h=>by
 unfold qQ at h;split at h;·exact jY.loop hb _ _ _ _ _ h
 ·cases h
def Sw(g g':FS)(ρ:Ev)(s:Sto):Prop:=∀xs s',g ρ s=.ok (.rt (.lst xs)) s'->D.flat.flats xs=true->g' ρ s=.ok (.rt (.loc s'.length)) (s'++[xs])
theorem Sw.seq{f g g':FS}{ρ:Ev}{s:Sto}(hf:jY f)(h:∀ ρ1 s1,Sw g g' ρ1 s1):Sw (zM f g) (zM f g') ρ s:=λxs s' e fl=>by
 obtain⟨ρ1,s1,e1,e2⟩:=zb4 hf e;rw[zr e1];exact h ρ1 s1 xs s' e2 fl
theorem Sw.ret{fi:FI}{mp:List (Option Nat)}{fg:FG}{ft:FT}{fe:FE}(ρ:Ev)(s:Sto):Sw (wN (zF fi mp fg ft fe)) (wN (ub fi mp fg ft fe)) ρ s:=λxs s' e fl=>by
 rw[xH,uj]at e;rw[xH];unfold ub;cases q:z1F fi mp fg ft fe ρ s with
 | ok ys s1=>
  rw[q,Rb,Rb]at e;simp only[R.ok.injEq,Fl.rt.injEq,D.lst.injEq]at e;obtain⟨rfl,rfl⟩:=e;rw[Rb,_g fl];rfl | ex _ _=>rw[q]at e;cases e | no=>rw[q]at e;cases e
theorem Sw.mof{N:List Str}{n:Nat}{fs fs':FS}{ds:List D}{s s':Sto}{xs:List D}(hl:ds.length=n)(h:Sw fs fs' (zT N ds) s)(e:Mof N n fs ds s=.ok (.lst xs) s')(fl:D.flat.flats xs=true):Mof N n fs' ds s=.ok (.loc s'.length) (s'++[xs]):=by
 unfold Mof at e ⊢;rw[_g hl]at e ⊢;cases q:fs (zT N ds) s with
 | ok f s1=>
  rw[q]at e;cases f with
  | rt d=>
   simp only[R.ok.injEq]at e;obtain⟨rfl,rfl⟩:=e;rw[h xs s1 q fl] | nx _=>simp at e | ct _=>simp at e | bk _=>simp at e
 | ex _ _=>rw[q]at e;simp at e | no=>rw[q]at e;simp at e
theorem zeq (ρ:Ev) (s:Sto):Sw Pg.ww ww ρ s:= Sw.seq (f:=wF) jY.drop λ_ _=>Sw.seq (f:=vB) jY.set λ_ _=>Sw.seq (f:=xS) jY.set λ_ _=>Sw.seq (f:=xT) (jY.while_ (jY.seq (f:=yZ) (g:=yW) jY.set jY.set)) λ_ _=>Sw.seq (f:=xQ) jY.set λ_ _=>Sw.ret _ _
section
variable {n w:Nat}{v:List Int}(W:LW n v w)
include W
theorem byw(s:Sto):zq [rD v] s=.ok (.loc s.length) (s++[(rel v w).map rD]):= Sw.mof rfl (zeq _ _) (W.byw s) (we _)
theorem zeU{ρ:Ev}{s:Sto}(h0:ρ[0]? = some (some (rD v))):jD (ze zq (za (zd 0) zi)) ρ s=.ok (.lst ((rel v w).map rD)) s:=by rw[z2n,yc (vr h0),byw W,jU]
theorem zdo{ρ:Ev}{s:Sto}(h0:ρ[0]? = some (some (rD v))):ze Pg.zq (za (zd 0) zi) ρ s=.ok (.lst ((rel v w).map rD)) s:=by rw[yc (vr h0),W.byw]
theorem byl {l:Nat} {s:Sto} (h:Pg.zH [rD v] s=.ok (.lst ((uO v l).map rD)) s):zH [rD v] s=.ok (.loc s.length) (s++[(uO v l).map rD]):=by
 refine Sw.mof (fs:=Pg.wz) rfl ?_ h (we _);have st:zT ["lot","found","least"] [rD v]=[some (rD v),none,none]:=rfl;rw[st];have e1:zP [some (rD v),none,none] s=Pg.zP [some (rD v),none,none] s:=by
  have a:=zeU W (ρ:=[some (rD v),none,none]) (s:=s) rfl;have b:=zdo W (ρ:=[some (rD v),none,none]) (s:=s) rfl;generalize (rel v w).map rD=L at a b;generalize rD v=d at a b ⊢;have cv:ze qJ (za (zF (zR (jD (ze zq (za (zd 0) zi)))) [none] (yJ 0) yr (ze Pg.ym (za (zd 0) zi))) zi) [some d,none,none] s=ze qJ (za (zF (zR (ze Pg.zq (za (zd 0) zi))) [none] (yJ 0) yr (ze Pg.ym (za (zd 0) zi))) zi) [some d,none,none] s:=by rw[vv,zo,uj,jl,z0S,a,vv,zo,uj,jl,z0S,b]
  have ev:(zd 0:FE) [some d,none,none] s=.ok d s:=vr rfl;have e2:∀f:FE,wq 1 (ze Pg.zj (za (zd 0) (za f zi))) [some d,none,none] s=((((f [some d,none,none] s).bind λx s1=>(R.ok [] s1).bind λxs s2=>R.ok (x::xs) s2).bind λxs s2=>R.ok (d::xs) s2).bind λxs s1=>Pg.zj xs s1).bind λe s1=>R.ok (Fl.nx ([some d,none,none].set 1 (some e))) s1:=λf=>by
   rw[yh,vv,zo,ev,Rb,zo];rfl
  rw[zP,Pg.zP,e2,e2,cv]
 have sw:Sw (zM Pg.zP (zM Pg.yD Pg.xO)) (zM Pg.zP (zM yD xO)) [some (rD v),none,none] s:=Sw.seq (f:=Pg.zP) jY.set λ_ _=>Sw.seq (f:=yD) jY.set λ_ _=>Sw.ret _ _;intro xs s' e fl;have:=sw xs s' e fl;unfold wz;unfold zM at this ⊢;rw[e1];exact this
theorem zhl (s:Sto):zU [rD v] s=.ok (.int w) s:=by
 rw[<- W.m_lw s];have st:zT ["lot"] [rD v]=[some (rD v)]:=rfl;have a:=zeU W (ρ:=[some (rD v)]) (s:=s) rfl;have b:=zdo W (ρ:=[some (rD v)]) (s:=s) rfl;have e1:zZ [some (rD v)] s=Pg.zZ [some (rD v)] s:=by
  generalize (rel v w).map rD=L at a b;generalize rD v=d at a b ⊢;rw[zZ,Pg.zZ,xH,xH,vv,vv,zo,zo,z3E,z3E,a,b]
 simp only[zU,Pg.zU,Mof,yS,Pg.yS,st,_p,_J,_P];rw[e1]
theorem zgU{l:Nat}(hL:LL v l)(hb:∀s,Pg.zH [rD v] s=.ok (.lst ((uO v l).map rD)) s)(s:Sto):zJ [rD v] s=.ok (.int l) s:=by
 rw[<- hL.m_ll (by have:=W.L.len;have:=W.L.hi;omega) hb s];have st:zT ["lot"] [rD v]=[some (rD v)]:=rfl;have a:jD (ze zH (za (zd 0) zi)) [some (rD v)] s=.ok (.lst ((uO v l).map rD)) s:=by rw[z2n,yc (vr rfl),byl W (hb s),jU]
 have b:ze Pg.zH (za (zd 0) zi) [some (rD v)] s=.ok (.lst ((uO v l).map rD)) s:=by rw[yc (vr rfl),hb s]
 have e1:yb [some (rD v)] s=Pg.yb [some (rD v)] s:=by
  generalize (uO v l).map rD=L at a b;generalize rD v=d at a b ⊢;rw[yb,Pg.yb,xH,xH,vv,vv,zo,zo,z3E,z3E,a,b]
 simp only[zJ,Pg.zJ,Mof,yO,Pg.yO,st,_p,_J,_P];rw[e1]
end
theorem zfS(x:List Int):okD 1 (rD x)=true:=by
 simp only[rD,okD,iL,List.all_map,_ab];intro i _;rfl
theorem zhV(L:List (List Int)):z9w (.lst (L.map rD))=true:=by
 refine zdb (k:=2) ?_ (by decide);simp only[okD,List.all_map,_ab];exact λp _=>zfS p
theorem eq_nil(L:List (List Int))(s:Sto):dEq (.lst (L.map rD)) (.lst []) s=.ok (.bl L.isEmpty) s:=by
 have h0:z9w (.lst [])=true:=rfl;have:=zhV L;rw[dEq,_g ⟨this,h0⟩];cases L<;>rfl
def zd9(i:Nat):Mir:=if i=0 then zG else zK
theorem zgN:zd9 0=zG:=_g rfl
theorem zh6:zd9 1=zK:=_i (by decide)
noncomputable abbrev U6(a0 a1 a2 a3 a4 a5:Option D):Ev:=[a0,a1,a2,a3,a4,a5]
theorem zdB {i:Nat} (hi:i<2) {d e:D} {a2 a3 a5:Option D} {s:Sto}:z2e (eOp dIx (z3I (za (eC (.fn "_law_weighing")) (za (eC (.fn "_law_lasting")) zi))) (zd 0)) [("_law_weighing",zG),("_law_lasting",zK)] (za (zd 1) (za (zd 4) zi)) (U6 (some (.int i)) (some d) a2 a3 (some e) a5) s=zd9 i [d,e] s:=by
 have i0:i=0\/i=1:=by omega
 have ar:(za (zd 1) (za (zd 4) zi)) (U6 (some (.int i)) (some d) a2 a3 (some e) a5) s=.ok [d,e] s:=by
  rw[zo,vr (d:=d) rfl,Rb,zo,vr (d:=e) rfl,Rb,yq];rfl
 unfold z2e;rcases i0 with rfl | rfl
 ·rw[op2 (x:=.lst [.fn "_law_weighing",.fn "_law_lasting"]) (y:=.int ((0:Nat):Int)) (by rfl) (vr rfl),show dIx (.lst [.fn "_law_weighing",.fn "_law_lasting"]) (.int ((0:Nat):Int)) s=.ok (.fn "_law_weighing") s from rfl,Rb];simp only;have lk:List.lookup ("_law_weighing":Str) [(("_law_weighing":Str),zG),(("_law_lasting":Str),zK)]=some zG:=rfl;rw[lk];simp only;rw[ar,Rb,zgN]
 ·rw[op2 (x:=.lst [.fn "_law_weighing",.fn "_law_lasting"]) (y:=.int ((1:Nat):Int)) (by rfl) (vr rfl),show dIx (.lst [.fn "_law_weighing",.fn "_law_lasting"]) (.int ((1:Nat):Int)) s=.ok (.fn "_law_lasting") s from rfl,Rb];simp only;have lk:List.lookup ("_law_lasting":Str) [(("_law_weighing":Str),zG),(("_law_lasting":Str),zK)]=some zK:=rfl;rw[lk];simp only;rw[ar,Rb,zh6]
theorem z9N {i t:Nat} (hi:i<2) (ht:t<=2000) {d:D} {s:Sto} (res:Nat->List (List Int)) (hc:∀k,1<=k->k<=t->zd9 i [d,.int ((k:Nat):Int)] s=.ok (.lst ((res k).map rD)) s) (h0:∀k,1<=k->k<t->res k=[]) (hn:res t≠[]) (a2 a3:Option D): ∀f k,1<=k->k+f=t->wB (tOf (eOp dEq (zd 5) (z3I zi))) (zM uc uf) (f+1) (U6 (some (.int i)) (some d) a2 a3 (some (.int ((k:Nat):Int))) (some (.lst ((res k).map rD)))) s=.ok (.nx (U6 (some (.int i)) (some d) a2 a3 (some (.int t)) (some (.lst ((res t).map rD))))) s:=by
 have tst:∀k,tOf (eOp dEq (zd 5) (z3I zi)) (U6 (some (.int i)) (some d) a2 a3 (some (.int ((k:Nat):Int))) (some (.lst ((res k).map rD)))) s=.ok (res k).isEmpty s:=λk=>jH (by rw[op2 (x:=.lst ((res k).map rD)) (y:=.lst []) (vr rfl) (by rfl),eq_nil]);intro f;induction f with
 | zero=>
  intro k h1 h2;obtain rfl:k=t:=by omega
  have ne:(res k).isEmpty=false:=by simpa using hn
  rw[wB,tst,ne,Rb,_i (by simp)] | succ f ih=>
  intro k h1 h2;have e0:(res k).isEmpty=true:=by rw[h0 k h1 (by omega)];rfl
  have f8:uc (U6 (some (.int i)) (some d) a2 a3 (some (.int k)) (some (.lst ((res k).map rD)))) s=.ok (.nx (U6 (some (.int i)) (some d) a2 a3 (some (.int ((k+1:Nat):Int))) (some (.lst ((res k).map rD))))) s:=by
   rw[uc,yh,op2 (x:=.int k) (y:=.int 1) (vr rfl) rfl,z21];rfl
  have f9:uf (U6 (some (.int i)) (some d) a2 a3 (some (.int ((k+1:Nat):Int))) (some (.lst ((res k).map rD)))) s=.ok (.nx (U6 (some (.int i)) (some d) a2 a3 (some (.int ((k+1:Nat):Int))) (some (.lst ((res (k+1)).map rD))))) s:=by
   rw[uf,yh,zdB hi,hc (k+1) (by omega) (by omega)];rfl
  rw[wB,tst,e0,Rb,_g rfl,zr f8,f9,Rb];exact ih (k+1) (by omega) (by omega)
theorem zdk {i t:Nat} (hi:i<2) (ht:t<=2000) (t1:1<=t) {v:List Int} (h3:3<=v.length) {s:Sto} (res:Nat->List (List Int)) (hc:∀k,1<=k->k<=t->zd9 i [rD v,.int ((k:Nat):Int)] s=.ok (.lst ((res k).map rD)) s) (h0:∀k,1<=k->k<t->res k=[]) (hn:res t≠[]): yw [.int i,rD v] s=.ok (.lst ((res t).map rD)) s:=by
 have gl:vj [rD v] s=.ok (.int v.length) s:=by simp[vj,xj]
 have key:∀d:D,vj [d] s=.ok (.int v.length) s->(∀k,1<=k->k<=t->zd9 i [d,.int ((k:Nat):Int)] s=.ok (.lst ((res k).map rD)) s)->yw [.int i,d] s=.ok (.lst ((res t).map rD)) s:=λd hd hc=>by
  have st:zT ["_law_way","_law_lot","_law_least","_law_one","_law_number","_law_found"] [.int i,d]=U6 (some (.int i)) (some d) none none none none:=rfl;have f1:vi (U6 (some (.int i)) (some d) none none none none) s=.ok (.nx (U6 (some (.int i)) (some d) none none none none)) s:=by
   rw[vi,zd6 (jH (by rw[op2 (x:=.int v.length) (y:=.int 2) (by rw[yc (x:=d) (vr rfl)];exact hd) rfl,z10,_ay (by omega)]))];rfl
  have f5:kT (U6 (some (.int i)) (some d) none none none none) s=.ok (.nx (U6 (some (.int i)) (some d) none none (some (.int ((1:Nat):Int))) none)) s:=rfl;have f6:qd (U6 (some (.int i)) (some d) none none (some (.int ((1:Nat):Int))) none) s=.ok (.nx (U6 (some (.int i)) (some d) none none (some (.int ((1:Nat):Int))) (some (.lst ((res 1).map rD))))) s:=by
   rw[qd,yh,zdB hi,hc 1 (by omega) t1];rfl
  have f7:=z9N hi ht (d:=d) (s:=s) res hc h0 hn none none (t-1) 1 (by omega) (by omega);simp only[yw,Mof,qV,st,_p,_J,_P];rw[zr f1,zr f5,zr f6,zr (show kE _ s=_ from z0v f7 (by intro z;cases z)),jB,xH,vr (d:=.lst ((res t).map rD)) rfl];rfl
 exact key _ gl hc
theorem zgB{n w:Nat}{v:List Int}(W:LW n v w)(h3:3<=n)(s:Sto):yw [.int ((0:Nat):Int),rD v] s=.ok (.lst ((rel v w).map rD)) s:=by
 have hl:=W.L.len;have h4:=W.L.hi;have le:=W.le;have bn:bnd n<=44:=by unfold bnd;split<;>(try split)<;>omega
 have vb:∀i∈v,i.natAbs<2 ^ 16:=λi hi=>by have:=W.L.bd i hi;omega
 have sm:z7r v w=rel v w:=W.same (_d _);rw[<- sm];have nw:w<=n*w:=_a9 _ (by omega);refine zdk (i:=0) (by omega) (by omega) W.one (by omega) (z7r v) (λk k1 k2=>?_) (λk k1 k2=>?_) (by rw[sm];exact qm.mpr W.has)
 ·rw[zgN];exact z7e (by omega) (by omega) vb k1 (by omega) (_H (_aq _ _) (_H (W.len (m:=k) (by omega)) (by omega))) s
 ·have:rel v k=[]:=_R λz=>W.no k k2 (qm.mp z);simp[z7r,this]
theorem zgH{n w l:Nat}{v:List Int}(W:LW n v w)(hL:LL v l)(h3:3<=n)(w1:w<=l)(hl2:l<=n*w)(s:Sto):yw [.int ((1:Nat):Int),rD v] s=.ok (.lst ((uO v l).map rD)) s:=by
 have hl:=W.L.len;have h4:=W.L.hi;have le:=W.le;have one:=W.one;have bn:bnd n<=44:=by unfold bnd;split<;>(try split)<;>omega
 have nw:n*w<=4*44:=_aZ h4 (by omega);have vb:∀i∈v,i.natAbs<2 ^ 16:=λi hi=>by have:=W.L.bd i hi;omega
 refine zdk (i:=1) (by omega) (by omega) (by omega) (by omega) (uO v) (λk k1 k2=>?_) (λk k1 k2=>?_) hL.has
 ·rw[zh6];exact z7P (by omega) (by omega) vb k1 (by omega) (_H (_aq _ _) (_H (W.len (m:=k) (by omega)) (by omega))) s
 ·refine _R λz=>?_;obtain⟨x,hx⟩:=_bn _ z;obtain⟨h1,h2,h3,h4⟩:=vc.mp hx;have:=hL.no x h1 h2 h3;omega
theorem z8c (s:Sto) (d:Option D):∀(k:Nat) (a b:Int),0<=a->0<=b->b.toNat<k-> wB (tOf (eOp dGt (zd 2) (eC (.int 0)))) wG k [d,some (.int a),some (.int b)] s=.ok (.nx [d,some (.int (cg a b)),some (.int 0)]) s
 | 0,a,b,_,_,h=>by omega | k+1,a,b,ha,hb,h=>by
  have t:tOf (eOp dGt (zd 2) (eC (.int 0))) [d,some (.int a),some (.int b)] s=.ok (decide (b > 0)) s:=jH (by rw[op2 (x:=.int b) (y:=.int 0) (vr rfl) rfl,zbJ]);rw[wB,t,Rb];by_cases e:b=0
  ·subst e;rw[_i (by decide),zcA ha]
  ·have b0:0<b:=by omega
   have m:=z42 (a:=a) s b0;have h1:=_a4 a (show b≠0 by omega);have h2:=_aH a b0;have ih:=z8c s d k b (a % b) hb h1 (by omega);have e2:wG [d,some (.int a),some (.int b)] s=.ok (.nx [d,some (.int b),some (.int (a % b))]) s:=by
    rw[wG,zaU,zo,vr (d:=.int b) rfl,Rb,zo,op2 (x:=.int a) (y:=.int b) (vr rfl) (vr rfl),m,Rb,yq];rfl
   rw[_g (_bK b0),e2,Rb];show wB _ _ k _ s=_;rw[ih,zcc b0]
theorem z8d {a b:Int} (ha:0<=a) (hb:0<=b) (s:Sto):xR [rD [a,b]] s=.ok (.int (z7s [a,b])) s:=by
 have key:∀d:D,(∀z y,zR (zd 0) [some d,z,y] s=.ok ([.int a,.int b],[]) s)->xR [d] s=.ok (.int (z7s [a,b])) s:=λd hd=>by
  have st:zT ["_law_numbers","_law_found","_law_number"] [d]=[some d,none,none]:=rfl;have c1:xJ [some d,some (.int 0),some (.int a)] s=.ok (.nx [some d,some (.int (cg 0 a)),some (.int 0)]) s:=z0v (z8c s (some d) (a.toNat+1) 0 a (by omega) ha (by omega)) (by intro z;cases z);have c2:xJ [some d,some (.int (cg 0 a)),some (.int b)] s=.ok (.nx [some d,some (.int (cg (cg 0 a) b)),some (.int 0)]) s:=z0v (z8c s (some d) (b.toNat+1) (cg 0 a) b (by simp[cg]) hb (by omega)) (by intro z;cases z);have f2:vK [some d,some (.int 0),none] s=.ok (.nx [some d,some (.int (cg (cg 0 a) b)),some (.int 0)]) s:=by
   rw[vK,qb,hd,Rb];have e1:(yJ 2 (.int a) [some d,some (.int 0),none] s).bind (fun ρ' s'=>xJ ρ' s')=.ok (.nx [some d,some (.int (cg 0 a)),some (.int 0)]) s:=by rw[qa,Rb];exact c1
   have e2:(yJ 2 (.int b) [some d,some (.int (cg 0 a)),some (.int 0)] s).bind (fun ρ' s'=>xJ ρ' s')=.ok (.nx [some d,some (.int (cg (cg 0 a) b)),some (.int 0)]) s:=by rw[qa,Rb];exact c2
   have og:okG ([]:List (Nat×List D)) [.int a,.int b] s:=λp hp=>by simp at hp
   simp only[uP];rw[_g og,e1,Rb];simp only;rw[_g og,e2,Rb];simp only;rw[_g og]
  simp only[xR,Mof,qR,st,_p,_J,_P];rw[zr (ρ':=[some d,some (.int 0),none]) (s':=s) rfl,zr f2];rfl
 exact key _ λz y=>z0x (vr rfl)
structure Two(a b g p q:Int):Prop where
 g0:0<g
 gb:g<=1000
 ea:a=g*q
 eb:b=g*p
 cop:p.natAbs.Coprime q.natAbs
 ab:0<=q/\q<=1000/\0<=p/\p<=1000
 nz:0<p\/0<q
theorem zep{a b:Int}(ha:0<=a/\a<=1000)(hb:0<=b/\b<=1000)(hp:0<a\/0<b):Two a b (z7s [a,b]) (b / z7s [a,b]) (a / z7s [a,b]):=by
 have nn:=zcd [a,b];have d1:z7s [a,b] ∣ a:=z6b a (by simp);have d2:z7s [a,b] ∣ b:=z6b b (by simp);have eg:z7s [a,b]=(Int.gcd a b:Int):=by
  show cg (cg 0 a) b=_;have:cg 0 a=a:=by unfold cg;rw[Int.gcd_zero_left];omega
  rw[this];rfl
 generalize hg:z7s [a,b]=g at *;have g0:0<g:=by
  refine _R λz=>?_;have:g=0:=by omega
  rw[this]at d1 d2;have:=Int.zero_dvd.mp d1;have:=Int.zero_dvd.mp d2;omega
 have ea:a=g*(a / g):=(Int.mul_ediv_cancel' d1).symm;have eb:b=g*(b / g):=(Int.mul_ediv_cancel' d2).symm;have q0:0<=a / g:=Int.ediv_nonneg ha.1 (by omega);have p0:0<=b / g:=Int.ediv_nonneg hb.1 (by omega);have q1:a / g<=a:=Int.ediv_le_self _ ha.1;have p1:b / g<=b:=Int.ediv_le_self _ hb.1;have gb:g<=1000:=by
  rcases hp with h | h;·have:=Int.le_of_dvd h d1;omega
  ·have:=Int.le_of_dvd h d2;omega
 refine⟨g0,gb,ea,eb,?_,⟨q0,by omega,p0,by omega⟩,?_⟩
 ·have e:Int.gcd a b=g.natAbs*Int.gcd (a / g) (b / g):=by
   conv=>lhs;rw[ea,eb]
   exact Int.gcd_mul_left _ _ _
  have e2:g.natAbs=Int.gcd a b:=by omega
  have:g.natAbs*Int.gcd (a / g) (b / g)=g.natAbs*1:=by omega
  have:=Nat.eq_of_mul_eq_mul_left (by omega:0<g.natAbs) this;rw[Nat.Coprime,Nat.gcd_comm];exact this
 ·refine _R λz=>?_;have e1:a / g=0:=by omega
  have e2:b / g=0:=by omega
  rw[e1,Int.mul_zero]at ea;rw[e2,Int.mul_zero]at eb;omega
theorem Two.gen{a b g p q:Int}(T:Two a b g p q){x y:Int}(h:x*a+y*b=0):∃t:Int,x=t*p/\y=t*(0-q):=by
 have g0:=T.g0;have e:x*q+y*p=0:=by
  have h1:g*(x*q+y*p)=0:=by
   rw[Int.mul_add,<- _cu,<- _cu,_a8 g x,_a8 g y,_cu,_cu,<- T.ea,<- T.eb];exact h
  rcases Int.mul_eq_zero.mp h1 with z | z;·omega
  ·exact z
 have d:p.natAbs ∣ x.natAbs*q.natAbs:=by
  rw[<- _bR];have:x*q=p*(-y):=by rw[Int.mul_neg,_a8 p y];omega
  rw[this,_bR];exact Nat.dvd_mul_right _ _
 have d2:p.natAbs ∣ x.natAbs:=Nat.Coprime.dvd_of_dvd_mul_right T.cop d;obtain⟨t,ht⟩:=Int.natAbs_dvd_natAbs.mp d2;by_cases z:p=0
 ·subst z;rw[_dz]at ht;subst ht;have hq:q.natAbs=1:=by
   have:=T.cop;simp[Nat.Coprime]at this;exact this
  have q1:q=1:=by have:=T.ab;omega
  exact⟨0-y,by simp,by rw[q1];omega⟩
 ·refine⟨t,by rw[ht,_a8],?_⟩;rw[ht,_cu,_a8 y p,<- Int.mul_add]at e;rcases Int.mul_eq_zero.mp e with h | h;·exact absurd h z
  ·rw[Int.mul_sub,Int.mul_zero];omega
theorem Two.rel0{a b g p q:Int}(T:Two a b g p q):p*a+(0-q)*b=0:=by
 have e:p*(g*q)=q*(g*p):=by rw[Int.mul_left_comm,Int.mul_left_comm q,_a8 p q]
 conv=>lhs;rw[T.ea,T.eb]
 rw[_a1,_dz,e];omega
theorem zhd(x y:Int):lng [x,y]=(x.natAbs:Int)+(y.natAbs:Int):=by rw[xU,xU,ki];omega
theorem z1E(x y a b:Int):dot [x,y] [a,b]=x*a+y*b:=by simp[dot]
theorem z9t{x y:Int}:0<wgt [x,y] ↔ x≠0\/y≠0:=by
 constructor
 ·intro h;refine _R λz=>?_;have:wgt [x,y]<=((0:Nat):Int):=(z24 (by simp)).mpr λi hi=>by
   simp only[_j,_an,_bQ]at hi;rcases hi with rfl | rfl<;>omega
  omega
 ·rintro (h | h);·exact vo (i:=x) (by simp) h
  ·exact vo (i:=y) (by simp) h
theorem z2Y(p q:Int):(0-p).natAbs=p.natAbs/\(0-(0-q)).natAbs=q.natAbs:=by omega
theorem in2{u v:Int}{m:Nat}(h1:u.natAbs<=m)(h2:v.natAbs<=m):∀i∈[u,v],i.natAbs<=m:=λi hi=>by
 rcases _j.mp hi with rfl | hi;·exact h1
 ·rw[_ax.mp hi];exact h2
theorem zb2{r:Int}(r0:r≠0)(r1:r.natAbs<=1)(p q:Int):[r*p,r*(0-q)]=[p,0-q]\/[r*p,r*(0-q)]=[0-p,0-(0-q)]:=by
 rcases (by omega:r=1\/r=-1) with rfl | rfl;·exact .inl (by simp)
 ·exact .inr (by simp)
theorem few{R P Q w:Nat}(h1:R*P<=w)(h2:R*Q<=w)(h:w<=max P Q)(z:0<P\/0<Q):R<=1:=by
 refine _R λc=>?_;have k1:2*P<=R*P:=_aN _ (by omega);have k2:2*Q<=R*Q:=_aN _ (by omega);have k3:=_H k1 h1;have k4:=_H k2 h2;clear k1 k2 h1 h2 c;omega
theorem zhX{R N l:Nat}(h1:R*N=l)(h:l<=N)(z:0<N):R<=1:=by
 refine _R λc=>?_;have k1:2*N<=R*N:=_aN _ (by omega);rw[h1]at k1;clear h1 c;omega
theorem Two.neg0{a b g p q:Int}(T:Two a b g p q):(0-p)*a+(0-(0-q))*b=0:=by
 have d0:=T.rel0;rw[_a1,_a1,_dz,_dz];generalize p*a=x at *;generalize (0-q)*b=y at *;omega
theorem Two.pz{a b g p q:Int}(T:Two a b g p q):(p≠0\/0-q≠0)/\(0-p≠0\/0-(0-q)≠0)/\(0<p.natAbs\/0<q.natAbs):=by
 have:=T.nz;clear T;omega
theorem z9o{n w:Nat}{a b g p q:Int}(W:LW n [a,b] w)(T:Two a b g p q){x:List Int}:x∈rel [a,b] w ↔ x=[p,0-q]\/x=[0-p,0-(0-q)]:=by
 have d0:=T.rel0;have ⟨z1,z2,z3⟩:=T.pz;have ⟨n1,n3⟩:=z2Y p q;have n2:=(z2Y q q).1;have hle:w<=max p.natAbs q.natAbs:=by refine _R λz=>W.no (max p.natAbs q.natAbs) (Nat.lt_of_not_le z) ⟨[p,0-q],rfl,in2 (Nat.le_max_left _ _) (by rw[n2];exact Nat.le_max_right _ _),by rw[z1E];exact d0,z9t.mpr z1⟩
 obtain⟨y,y1,y2,y3,y4⟩:=W.has;match y,y1 with
 | [y0,z0],_=>
  rw[z1E]at y3;obtain⟨t,rfl,rfl⟩:=T.gen y3;have t0:t≠0:=λz=>by subst z;rw[z9t]at y4;simp at y4
  have tp:0<t.natAbs:=Int.natAbs_pos.mpr t0;have b1:=y2 _ (.head _);have b2:=y2 _ (.tail _ (.head _));rw[_bR]at b1 b2;have m1:p.natAbs<=w:=_H (_a9 _ tp) b1;have m2:(0-q).natAbs<=w:=_H (_a9 _ tp) b2;rw[yX];constructor
  ·rintro⟨h1,h2,h3,h4⟩;match x,h1 with
   | [u,v],_=>
    rw[z1E]at h3;obtain⟨r,rfl,rfl⟩:=T.gen h3;have c1:=h2 _ (.head _);have c2:=h2 _ (.tail _ (.head _));rw[_bR]at c1 c2;rw[n2]at c2;exact zb2 (λz=>by subst z;rw[z9t]at h4;simp at h4) (few c1 c2 hle z3) p q
  ·rintro (rfl | rfl);·exact⟨rfl,in2 m1 m2,by rw[z1E];exact d0,z9t.mpr z1⟩
   ·exact⟨rfl,in2 (by rw[n1];exact m1) (by rw[n3];rw[n2]at m2;exact m2),by rw[z1E];exact T.neg0,z9t.mpr z2⟩
theorem zfr(x y:Int):lng [x,y]=((x.natAbs+y.natAbs:Nat):Int):=by rw[zhd];rfl
theorem z6k{l:Nat}{a b g p q:Int}(hL:LL [a,b] l)(T:Two a b g p q){x:List Int}:x∈uO [a,b] l ↔ x=[p,0-q]\/x=[0-p,0-(0-q)]:=by
 have d0:=T.rel0;have ⟨z1,z2,z3⟩:=T.pz;have ⟨n1,n3⟩:=z2Y p q;have n2:=(z2Y q q).1;have hle:=hL.no [p,0-q] rfl (by rw[z1E];exact d0) (z9t.mpr z1);rw[zfr,n2]at hle;have hle:=Int.ofNat_le.mp hle;have sc:∀r:Int,lng [r*p,r*(0-q)]=(l:Int)->r.natAbs*(p.natAbs+q.natAbs)=l:=λr h=>by
  rw[zfr,_bR,_bR,n2,<- Nat.mul_add]at h;exact Int.ofNat_inj.mp h
 have z4:0<p.natAbs+q.natAbs:=by clear hle;omega
 obtain⟨y,hy⟩:=_bn _ hL.has;obtain⟨y1,y3,y4,y5⟩:=vc.mp hy;match y,y1 with
 | [y0,z0],_=>
  rw[z1E]at y3;obtain⟨t,rfl,rfl⟩:=T.gen y3;have tp:0<t.natAbs:=Int.natAbs_pos.mpr λz=>by subst z;rw[z9t]at y4;simp at y4
  have eq:p.natAbs+q.natAbs=l:=Nat.le_antisymm (_H (_a9 _ tp) (Nat.le_of_eq (sc t y5))) hle;rw[vc];constructor
  ·rintro⟨h1,h3,h4,h5⟩;match x,h1 with
   | [u,v],_=>
    rw[z1E]at h3;obtain⟨r,rfl,rfl⟩:=T.gen h3;exact zb2 (λz=>by subst z;rw[z9t]at h4;simp at h4) (zhX (sc r h5) hle z4) p q
  ·rintro (rfl | rfl);·exact⟨rfl,by rw[z1E];exact d0,z9t.mpr z1,by rw[zfr,n2,eq]⟩
   ·exact⟨rfl,by rw[z1E];exact T.neg0,z9t.mpr z2,by rw[zfr,n1,n3,eq]⟩
theorem zf1 {n w i:Nat} {v:List Int} (W:LW n v w) (h2:n=2) {M:List (List Int)} (up:Up M) (hM:∀a b g p q,v=[a,b]->Two a b g p q->∀x,x∈M ↔ x=[p,0-q]\/x=[0-p,0-(0-q)]) (s:Sto):yw [.int i,rD v] s=.ok (.lst (M.map rD)) s:=by
 subst h2;have hl:=W.L.len;match v,hl with
 | [a,b],_=>
  have ba:=W.L.bd a (by simp);have bb:=W.L.bd b (by simp);have hp:0<a\/0<b:=by
   obtain⟨x,hx,h⟩:=W.pos;simp only[_j,_an,_bQ]at hx;rcases hx with rfl | rfl;·exact .inl h
   ·exact .inr h
  have T:=zep ba bb hp;have hm:=hM a b _ _ _ rfl T;have cm:=z8d ba.1 bb.1 s;have g0:=T.g0;have gb:=T.gb;have ab:=T.ab;have nz:=T.nz;generalize z7s [a,b]=g at *;have d1:=z5j (a:=a) s g0 (by omega);have d2:=z5j (a:=b) s g0 (by omega);generalize a / g=q at *;generalize b / g=p at *;have so:=z58 up (L:=[[p,0-q],[0-p,0-(0-q)]]) (by simp;omega) λx=>by rw[hm x];simp
  have sg:=z3t (T:=[[p,0-q],[0-p,0-(0-q)]]) (d:=.lst [rD [p,0-q],rD [0-p,0-(0-q)]]) (s:=s) rfl (by simp);rw[so]at sg;have st:zT ["_law_way","_law_lot","_law_least","_law_one","_law_number","_law_found"] [.int i,rD [a,b]]=U6 (some (.int i)) (some (rD [a,b])) none none none none:=rfl;have f2:qC (U6 (some (.int i)) (some (rD [a,b])) none none none none) s=.ok (.nx (U6 (some (.int i)) (some (rD [a,b])) (some (.int g)) none none none)) s:=by
   rw[qC,yh,yc (x:=rD [a,b]) (vr rfl),cm];rfl
  have f3:qj (U6 (some (.int i)) (some (rD [a,b])) (some (.int g)) none none none) s=.ok (.nx (U6 (some (.int i)) (some (rD [a,b])) (some (.int g)) (some (rD [p,0-q])) none none)) s:=by
   rw[qj,yh,qL,zo,op2 (x:=.int b) (y:=.int g) (by rw[op2 (x:=rD [a,b]) (y:=.int 1) (vr rfl) rfl];rfl) (vr rfl),d2,Rb,zo,op2 (x:=.int 0) (y:=.int q) rfl (by rw[op2 (x:=.int a) (y:=.int g) (by rw[op2 (x:=rD [a,b]) (y:=.int 0) (vr rfl) rfl];rfl) (vr rfl),d1]),uv,Rb,yq];rfl
  have f4:qp (U6 (some (.int i)) (some (rD [a,b])) (some (.int g)) (some (rD [p,0-q])) none none) s=.ok (.rt (.lst (M.map rD))) s:=by
   have tu:jo (za (eOp jn (eC (.int 0)) (eOp dIx (zd 3) (eC (.int 0)))) (za (eOp jn (eC (.int 0)) (eOp dIx (zd 3) (eC (.int 1)))) zi)) (U6 (some (.int i)) (some (rD [a,b])) (some (.int g)) (some (rD [p,0-q])) none none) s=.ok (rD [0-p,0-(0-q)]) s:=by
    rw[qL,zo,op2 (x:=.int 0) (y:=.int p) rfl (by rw[op2 (x:=rD [p,0-q]) (y:=.int 0) (vr rfl) rfl];rfl),uv,Rb,zo,op2 (x:=.int 0) (y:=.int (0-q)) rfl (by rw[op2 (x:=rD [p,0-q]) (y:=.int 1) (vr rfl) rfl];rfl),uv,Rb,yq];rfl
   have ls:z3I (za (zd 3) (za (jo (za (eOp jn (eC (.int 0)) (eOp dIx (zd 3) (eC (.int 0)))) (za (eOp jn (eC (.int 0)) (eOp dIx (zd 3) (eC (.int 1)))) zi))) zi)) (U6 (some (.int i)) (some (rD [a,b])) (some (.int g)) (some (rD [p,0-q])) none none) s=.ok (.lst [rD [p,0-q],rD [0-p,0-(0-q)]]) s:=by
    rw[z1c,zo,vr (d:=rD [p,0-q]) rfl,Rb,zo,tu,Rb,yq];rfl
   rw[qp,xH,yc ls,sg];rfl
  have f1:vi (U6 (some (.int i)) (some (rD [a,b])) none none none none) s=.ok (.rt (.lst (M.map rD))) s:=by rw[vi,zc6 (jH (by rw[op2 (x:=.int 2) (y:=.int 2) (by rw[yc (x:=rD [a,b]) (vr rfl)];rfl) rfl,z10];rfl)),zr f2,zr f3,f4]
  simp only[yw,Mof,qV,st,_p,_J,_P];rw[zbk f1]
theorem zgs{n w l:Nat}{v:List Int}(W:LW n v w)(hL:LL v l)(w1:w<=l)(hl2:l<=n*w)(s:Sto):yw [.int ((0:Nat):Int),rD v] s=.ok (.lst ((rel v w).map rD)) s/\yw [.int ((1:Nat):Int),rD v] s=.ok (.lst ((uO v l).map rD)) s:=by
 by_cases h:n=2;·exact⟨zf1 W h (jW v w) (λa b g p q e T x=>by subst e;exact z9o W T) s,zf1 W h (z2q v l) (λa b g p q e T x=>by subst e;exact z6k hL T) s⟩
 ·have:=W.L.lo;exact⟨zgB W (by omega) s,zgH W hL (by omega) w1 hl2 s⟩
theorem z5r:∀k:Nat,yu k=zE k
 | 0=>rfl | k+1=>by
  show Mof ["_law_found","_law_due_here"] 2 (qD (yu k))=Mof ["_law_found","_law_due"] 2 (zI (zE k));rw[z5r k];rfl
theorem z5J (Mr:Mir) {x1 x2 y1 y2:D} {s:Sto} (h1:Mr [x1,y1] s=.ok (.bl true) s) (h2:Mr [x2,y2] s=.ok (.bl true) s):Mof ["_law_found","_law_due"] 2 (zI Mr) [.lst [x1,x2],.lst [y1,y2]] s=.ok (.bl true) s:=by
 have q:z1N (eOp dEq (ze vj (za (zd 0) zi)) (ze vj (za (zd 1) zi))) (ze z6R (za (zF (z7d (za (zd 0) (za (zd 1) zi))) [none,none] (kz 0 1) yr (ze Mr (za (zd 0) (za (zd 1) zi)))) zi)) [some (.lst [x1,x2]),some (.lst [y1,y2])] s=.ok (.bl true) s:=by
  have l:∀(i:Nat) (u v:D),(zd i:FE) [some (.lst [x1,x2]),some (.lst [y1,y2])] s=.ok (.lst [u,v]) s->ze vj (za (zd i) zi) [some (.lst [x1,x2]),some (.lst [y1,y2])] s=.ok (.int 2) s:=λi u v h=>by rw[yc h];rfl
  rw[z6p,op2 (l 0 x1 x2 rfl) (l 1 y1 y2 rfl),z10];simp only[Rb,decide_true];rw[yc (comp_map (λp:D×D=>D.tup [p.1,p.2]) (λ_=>D.bl true) (λp=>[some p.1,some p.2]) [(x1,y1),(x2,y2)] (by rfl) (λx _=>rfl) (λp hp=>by
    rw[call2 (x:=p.1) (y:=p.2) rfl rfl];simp only[_j,_an,_bQ]at hp;rcases hp with rfl | rfl;·exact h1
    ·exact h2) (by simp[cap])),z0o s (by intro x hx;obtain⟨_,_,rfl⟩:=_x.mp hx;rfl)]
 generalize hG:z1N (eOp dEq (ze vj (za (zd 0) zi)) (ze vj (za (zd 1) zi))) (ze z6R (za (zF (z7d (za (zd 0) (za (zd 1) zi))) [none,none] (kz 0 1) yr (ze Mr (za (zd 0) (za (zd 1) zi)))) zi))=G at q;have z:Mof ["_law_found","_law_due"] 2 (zI Mr) [.lst [x1,x2],.lst [y1,y2]] s=(match wN G [some (.lst [x1,x2]),some (.lst [y1,y2])] s with
  | .ok (.rt d) s'=>.ok d s' | .ok (.nx _) s'=>.ok .non s' | _=>.no):=by subst hG;with_unfolding_all rfl
 rw[z,xH,q];rfl
theorem z7V{F G:List (List Int)}{a b:Nat}{s:Sto}(ha:s[a]? = some (F.map rD))(hb:s[b]? = some (G.map rD))(lF:F.length<=cap)(lG:G.length<=cap)(hF:∀v∈F,v.length<=cap)(hG:∀v∈G,v.length<=cap):wS [.lst [.loc a,.loc b],.lst [.lst (F.map rD),.lst (G.map rD)]] s=.ok (.bl true) s:=by
 show yu 5 _ s=_;rw[z5r];exact z5J (zE 4) (z4l ha lF hF) (z4l hb lG hG)
theorem same_ints(x y:Int)(s:Sto):wS [.lst [.int x,.int y],.lst [.int x,.int y]] s=.ok (.bl true) s:=by
 show yu 5 _ s=_;rw[z5r];exact z5J (zE 4) (z1o 3 _ s rfl) (z1o 3 _ s rfl)
noncomputable abbrev L8(a0 a1 a2 a3 a4 a5 a6 a7:Option D):Ev:=[a0,a1,a2,a3,a4,a5,a6,a7]
theorem z8E{n m:Nat}{v x:List Int}(hl:v.length=n)(hn:n<=4)(h:x∈rel v m):x.length<=cap:=by
 have:=(yX.mp h).1;unfold cap;omega
section
variable {n w l:Nat}{v:List Int}(W:LW n v w)(hL:LL v l)(w1:w<=l)(hl2:l<=n*w)(hb:∀s,Pg.zH [rD v] s=.ok (.lst ((uO v l).map rD)) s)
include W hL w1 hl2 hb
theorem zcD (a0 a1 a2 a5 a6 a7:Option D) (s:Sto):∃b5 b6 s',z0P (L8 a0 a1 a2 (some (rD v)) (some (.lst [.lst ((rel v w).map rD),.lst ((uO v l).map rD)])) a5 a6 a7) s=.ok (.nx (L8 a0 a1 a2 (some (rD v)) (some (.lst [.lst ((rel v w).map rD),.lst ((uO v l).map rD)])) b5 b6 a7)) s':=by
 have hn:=W.L.hi;have hl:=W.L.len;have nw:w<=n*w:=_a9 _ (by have:=W.L.lo;omega);have c1:=W.len (m:=w) nw;have c2:(uO v l).length<=10000:=_H (_aq _ _) (W.len (m:=l) hl2);have r1:∀x∈rel v w,x.length<=cap:=λx hx=>z8E hl hn hx;have r2:∀x∈uO v l,x.length<=cap:=λx hx=>z8E hl hn (_I.mp hx).1;have y1:=byw W;have y2:=λs=>byl W (hb s);have sm:=λ(a b:Nat) (S:Sto) (ha:S[a]? = some ((rel v w).map rD)) (hb:S[b]? = some ((uO v l).map rD))=>z7V ha hb (by unfold cap;omega) (by unfold cap;omega) r1 r2;have k1:((rel v w).map rD).length<cap:=by rw[_m];unfold cap;omega
 have k2:((uO v l).map rD).length<cap:=by rw[_m];unfold cap;omega
 generalize (rel v w).map rD=X at *;generalize (uO v l).map rD=Yy at *;generalize rD v=dv at *;obtain⟨ρ',s',lp,b5,b6,hρ⟩:=z3b (all:=(List.range 2).map λk:Nat=>D.int ((k:Nat):Int)) (body:=λd ρ s=>(yJ 5 d ρ s).bind fun ρ' s'=>(zM z0Y (zM z16 (zM z31 z2U))) ρ' s') (fun ρ S'=>∃b5 b6,ρ=L8 a0 a1 a2 (some dv) (some (.lst [.lst X,.lst Yy])) b5 b6 a7) ((List.range 2).map λk:Nat=>D.int ((k:Nat):Int)) (λx hx ρ S ⟨b5,b6,hρ⟩=>by
  subst hρ;have f6:z0Y (L8 a0 a1 a2 (some dv) (some (.lst [.lst X,.lst Yy])) (some x) b6 a7) S=.ok (.nx (L8 a0 a1 a2 (some dv) (some (.lst [.lst X,.lst Yy])) (some x) (some (.lst [.loc S.length,.loc (S.length+1)])) a7)) (S++[X]++[Yy]):=by
   rw[z0Y,yh,z1c,zo,yc (x:=dv) (vr rfl),y1,Rb,zo,yc (x:=dv) (vr rfl),y2,Rb,yq,_q];rfl
  have g1:(S++[X]++[Yy])[S.length]? = some X:=by rw[_z,_v (_d _)];simp
  have g2:(S++[X]++[Yy])[S.length+1]? = some Yy:=by rw[_v (by simp)];simp
  have s1:=sm _ _ _ g1 g2;have f7:z16 (L8 a0 a1 a2 (some dv) (some (.lst [.lst X,.lst Yy])) (some x) (some (.lst [.loc S.length,.loc (S.length+1)])) a7) (S++[X]++[Yy])=.ok (.nx (L8 a0 a1 a2 (some dv) (some (.lst [.lst X,.lst Yy])) (some x) (some (.lst [.loc S.length,.loc (S.length+1)])) a7)) (S++[X]++[Yy]):=by
   rw[z16,zd6 (zex (jH (by rw[call2 (x:=.lst [.loc S.length,.loc (S.length+1)]) (y:=.lst [.lst X,.lst Yy]) (vr rfl) (vr rfl),s1])))];rfl
  have ap:∀(i:Int) (a:Nat) (Z:List D) (T:Sto),eOp dIx (zd 6) (eC (.int i)) (L8 a0 a1 a2 (some dv) (some (.lst [.lst X,.lst Yy])) (some x) (some (.lst [.loc S.length,.loc (S.length+1)])) a7) T=.ok (.loc a) T->T[a]? = some Z->Z.length<cap->jf (zd2 (eOp dIx (zd 6) (eC (.int i))) (jo zi)) (L8 a0 a1 a2 (some dv) (some (.lst [.lst X,.lst Yy])) (some x) (some (.lst [.loc S.length,.loc (S.length+1)])) a7) T=.ok (.nx (L8 a0 a1 a2 (some dv) (some (.lst [.lst X,.lst Yy])) (some x) (some (.lst [.loc S.length,.loc (S.length+1)])) a7)) (T.set a (Z++[.tup []])):=λi a Z T e1 e2 e3=>by
   have et:jo zi (L8 a0 a1 a2 (some dv) (some (.lst [.lst X,.lst Yy])) (some x) (some (.lst [.loc S.length,.loc (S.length+1)])) a7) T=.ok (.tup []) T:=by rw[qL,yq,Rb,_g (by decide)]
   rw[jj,zfh,e1,Rb];show (((jo zi _ T).bind _).bind _)=_;rw[et,Rb];try simp only
   rw[e2];try simp only
   rw[_g ⟨rfl,e3⟩];rfl
  have f9:=ap 0 S.length X (S++[X]++[Yy]) (by rw[op2 (x:=.lst [.loc S.length,.loc (S.length+1)]) (y:=.int 0) (vr rfl) rfl];rfl) g1 k1;have g3:((S++[X]++[Yy]).set S.length (X++[.tup []]))[S.length+1]? = some Yy:=by rw[_K (by omega)];exact g2
  have f10:=ap 1 (S.length+1) Yy ((S++[X]++[Yy]).set S.length (X++[.tup []])) (by rw[op2 (x:=.lst [.loc S.length,.loc (S.length+1)]) (y:=.int 1) (vr rfl) rfl];rfl) g3 k2;refine⟨L8 a0 a1 a2 (some dv) (some (.lst [.lst X,.lst Yy])) (some x) (some (.lst [.loc S.length,.loc (S.length+1)])) a7,((S++[X]++[Yy]).set S.length (X++[.tup []])).set (S.length+1) (Yy++[.tup []]),?_,some x,_,rfl⟩
  ·rw[qa,Rb];show (zM z0Y (zM z16 (zM z31 z2U))) (L8 a0 a1 a2 (some dv) (some (.lst [.lst X,.lst Yy])) (some x) b6 a7) S=_;rw[zr f6,zr f7,zr (show z31 _ _=_ from f9)];exact f10) (L8 a0 a1 a2 (some dv) (some (.lst [.lst X,.lst Yy])) a5 a6 a7) s ⟨a5,a6,rfl⟩;refine⟨b5,b6,s',?_⟩;rw[z0P,qb,kb (n:=2) (s1:=s) (by omega) (by rfl),Rb,lp,hρ]
theorem zeT (a0 a1 a2 a5 a6 a7:Option D) (s:Sto):∃b7,(zM qG jM) (L8 a0 a1 a2 (some (rD v)) (some (.lst [.lst ((rel v w).map rD),.lst ((uO v l).map rD)])) a5 a6 a7) s=.ok (.nx (L8 a0 a1 a2 (some (rD v)) (some (.lst [.lst ((rel v w).map rD),.lst ((uO v l).map rD)])) a5 a6 b7)) s:=by
 have hn:=W.L.hi;have hlo:=W.L.lo;have hl:=W.L.len;obtain⟨x,t,ex⟩:∃x t,rel v w=x::t:=by cases q:rel v w with
  | nil=>exact absurd q (qm.mpr W.has) | cons x t=>exact⟨x,t,rfl⟩
 obtain⟨y,u,ey⟩:∃y u,uO v l=y::u:=by cases q:uO v l with
  | nil=>exact absurd q hL.has | cons x t=>exact⟨x,t,rfl⟩
 have mx:x∈rel v w:=by rw[ex];exact .head _
 have my:y∈uO v l:=by rw[ey];exact .head _
 obtain⟨x1,x2,x3,x4⟩:=yX.mp mx;obtain⟨y1,y2,y3,y4⟩:=vc.mp my;have xn:x≠[]:=λz=>by rw[z]at x1;simp at x1;omega
 have wx:wgt x=(w:Int):=by
  have g1:=(W.relne mx).2.2;have g2:=(z24 (m:=w) xn).mpr x2;omega
 have lw:=zhl W s;have ll:=zgU W hL hb s;have si:=same_ints (w:Int) (l:Int) s;have cm:∀(z:List Int) (f:FE) (ρ:Ev),z.length<=4->f ρ s=.ok (rD z) s->zF (zR f) [none] (yJ 0) yr (ze z0k (za (zd 0) zi)) ρ s=.ok (.lst (iL (z.map λi=>((i.natAbs:Nat):Int)))) s:=λz f ρ hz hf=>by
  have:=comp_map (ρ:=ρ) (mp:=[none]) (fg:=yJ 0) (fe:=ze z0k (za (zd 0) zi)) (s:=s) (fi:=zR f) D.int (λi:Int=>D.int ((i.natAbs:Nat):Int)) (λi=>[some (.int i)]) z (z0x hf) (λi _=>rfl) (λi _=>by rw[yc (x:=.int i) (vr rfl)];simp only[z0k];congr 2;split<;>omega) (by unfold cap;omega);rw[this];simp[_ad]
 rw[ex,ey];have gm:uD [.lst (iL (x.map λi=>((i.natAbs:Nat):Int)))] s=.ok (.int w) s:=by rw[z7G s (by simpa using xn),<- wx];rfl
 have gs:z9F [.lst (iL (y.map λi=>((i.natAbs:Nat):Int)))] s=.ok (.int l) s:=by rw[z8n,<- y4];rfl
 have cx:=cm x;have cy:=cm y;have lx:x.length<=4:=by omega
 have ly:y.length<=4:=by omega
 simp only[_t];generalize iL (x.map λi=>((i.natAbs:Nat):Int))=AX at *;generalize iL (y.map λi=>((i.natAbs:Nat):Int))=AY at *;generalize rD x=dx at *;generalize rD y=dy at *;generalize rD v=dv at *;generalize t.map rD=T at *;generalize u.map rD=U at *;refine⟨some (.lst [.int w,.int l]),?_⟩;have f11:qG (L8 a0 a1 a2 (some dv) (some (.lst [.lst (dx::T),.lst (dy::U)])) a5 a6 a7) s=.ok (.nx (L8 a0 a1 a2 (some dv) (some (.lst [.lst (dx::T),.lst (dy::U)])) a5 a6 (some (.lst [.int w,.int l])))) s:=by
  rw[qG,yh,z1c,zo,yc (x:=dv) (vr rfl),lw,Rb,zo,yc (x:=dv) (vr rfl),ll,Rb,yq];rfl
 have i0:eOp dIx (eOp dIx (zd 4) (eC (.int 0))) (eC (.int 0)) (L8 a0 a1 a2 (some dv) (some (.lst [.lst (dx::T),.lst (dy::U)])) a5 a6 (some (.lst [.int w,.int l]))) s=.ok dx s:=by
  rw[op2 (x:=.lst (dx::T)) (y:=.int 0) (by rw[op2 (x:=.lst [.lst (dx::T),.lst (dy::U)]) (y:=.int 0) (vr rfl) rfl];rfl) rfl];exact z5W (i:=0) (by decide) rfl
 have i1:eOp dIx (eOp dIx (zd 4) (eC (.int 1))) (eC (.int 0)) (L8 a0 a1 a2 (some dv) (some (.lst [.lst (dx::T),.lst (dy::U)])) a5 a6 (some (.lst [.int w,.int l]))) s=.ok dy s:=by
  rw[op2 (x:=.lst (dy::U)) (y:=.int 0) (by rw[op2 (x:=.lst [.lst (dx::T),.lst (dy::U)]) (y:=.int 1) (vr rfl) rfl];rfl) rfl];exact z5W (i:=0) (by decide) rfl
 rw[zr f11,jM,zd6 (zex (jH (by rw[call2 (x:=.lst [.int w,.int l]) (y:=.lst [.int w,.int l]) (vr rfl) (by
   rw[z1c,zo,yc (cx _ _ lx i0),gm,Rb,zo,yc (cy _ _ ly i1),gs,Rb,yq];rfl),si])))];rfl
end
def ShL(ns:List Int)(ρ:Ev):Prop:=∃a1 a2 a3 a4 a5 a6 a7,ρ=L8 (some (.scr (iL ns))) a1 a2 a3 a4 a5 a6 a7
abbrev zco:D->Ev->Sto->R Fl:=λd ρ s=>(yJ 1 d ρ s).bind fun ρ' s'=>(zM z0C (zM z1B (zM z1e (zM z0P (zM qG jM))))) ρ' s'
theorem zcM (ns:List Int) (j:Nat) (ρ:Ev) (s:Sto) (h:ShL ns ρ):∃ ρ' s',zco (.int j) ρ s=.ok (.nx ρ') s'/\ShL ns ρ':=by
 obtain⟨a1,a2,a3,a4,a5,a6,a7,rfl⟩:=h;rw[show zco (.int j) (L8 (some (.scr (iL ns))) a1 a2 a3 a4 a5 a6 a7) s=(zM z0C (zM z1B (zM z1e (zM z0P (zM qG jM))))) (L8 (some (.scr (iL ns))) (some (.int j)) a2 a3 a4 a5 a6 a7) s from rfl];obtain⟨c,e1⟩:=zdK ns j s;obtain⟨q,e2⟩:=zgb c s;have hp:Pot (s++[[.int q]]) s.length:=⟨q,by simp⟩;have f2:z0C (L8 (some (.scr (iL ns))) (some (.int j)) a2 a3 a4 a5 a6 a7) s=.ok (.nx (L8 (some (.scr (iL ns))) (some (.int j)) (some (.loc s.length)) a3 a4 a5 a6 a7)) (s++[[.int q]]):=by rw[z0C,yh,yc (x:=.int c) (by rw[call2 (x:=.scr (iL ns)) (y:=.int j) (vr rfl) (vr rfl),e1]),e2];rfl
 generalize hsc:D.scr (iL ns)=sc at *;generalize s++[[D.int q]]=s1 at *;generalize s.length=l0 at *;obtain⟨x,s3,e3,x0,x3,d3⟩:=z25 (f:=zd 2) (g:=eC (.int 3)) (far:=3) (ρ:=L8 (some sc) (some (.int j)) (some (.loc l0)) a3 a4 a5 a6 a7) hp (by decide) (z8O (by decide)) (vr rfl) rfl;have hn:Sz (x.toNat+2):=by unfold Sz;omega
 have en:(2:Int)+x=((x.toNat+2:Nat):Int):=by omega
 generalize x.toNat+2=n at *;obtain⟨v,s4,e4,Ls,pos,d4⟩:=z55 d3.pot hn;obtain⟨w,W⟩:=Ls.lw pos;obtain⟨l,hL,w1,hl2,hb⟩:=W.ll;have f3:z1B (L8 (some sc) (some (.int j)) (some (.loc l0)) a3 a4 a5 a6 a7) s1=.ok (.nx (L8 (some sc) (some (.int j)) (some (.loc l0)) (some (rD v)) a4 a5 a6 a7)) s4:=by
  rw[z1B,yh,vv,zo,vr (d:=.loc l0) rfl,Rb,zo,z3E,zd1,Rb,e3,Rb,z21,en,Rb,yq,Rb,Rb,Rb,e4];rfl
 have du:=zgs W hL w1 hl2 s4;have f4:z1e (L8 (some sc) (some (.int j)) (some (.loc l0)) (some (rD v)) a4 a5 a6 a7) s4=.ok (.nx (L8 (some sc) (some (.int j)) (some (.loc l0)) (some (rD v)) (some (.lst [.lst ((rel v w).map rD),.lst ((uO v l).map rD)])) a5 a6 a7)) s4:=by
  have c:=comp_map (s:=s4) (ρ:=L8 (some sc) (some (.int j)) (some (.loc l0)) (some (rD v)) a4 a5 a6 a7) (fi:=z6F (za (eC (.int 2)) zi)) (mp:=[some 3,none]) (fg:=yJ 1) (fe:=ze yw (za (zd 1) (za (zd 0) zi))) (λk:Nat=>D.int ((k:Nat):Int)) (λk=>if k=0 then D.lst ((rel v w).map rD) else D.lst ((uO v l).map rD)) (λk=>[some (rD v),some (.int ((k:Nat):Int))]) (List.range 2) (kb (n:=2) (s1:=s4) (by omega) (by rfl)) (λk _=>rfl) (λk hk=>by
    rw[call2 (x:=.int k) (y:=rD v) (vr rfl) (vr rfl)];rcases (by have:=_bc.mp hk;omega:k=0\/k=1) with rfl | rfl;·rw[_g rfl];exact du.1
    ·rw[_i (by decide)];exact du.2) (by simp[cap]);rw[z1e,yh,c];rfl
 obtain⟨b5,b6,s5,f5⟩:=zcD W hL w1 hl2 hb (some sc) (some (.int j)) (some (.loc l0)) a5 a6 a7 s4;obtain⟨b7,f11⟩:=zeT W hL w1 hl2 hb (some sc) (some (.int j)) (some (.loc l0)) b5 b6 a7 s5;have fin:=(zr f2).trans ((zr f3).trans ((zr f4).trans ((zr f5).trans f11)));exact⟨_,s5,fin,by subst hsc;exact⟨_,_,_,_,_,_,_,rfl⟩⟩
theorem zfi (ns:List Int):∃ ρ' s',z5c (L8 (some (.scr (iL ns))) none none none none none none none) []=.ok (.nx ρ') s'/\ShL ns ρ':=by
 obtain⟨k,ek,hk⟩:=zdh ns.length 3;rw[show ((3:Nat):Int)=3 from rfl]at ek;obtain⟨ρ',s',e,h⟩:=z3b (all:=vO k) (body:=zco) (fun ρ _=>ShL ns ρ) (vO k) (λx hx ρ s hI=>by
  obtain⟨j,_,rfl⟩:=z79 hx;exact zcM ns j ρ s hI) (L8 (some (.scr (iL ns))) none none none none none none none) [] ⟨_,_,_,_,_,_,_,rfl⟩;refine⟨ρ',s',?_,h⟩;unfold z5c;rw[qb,kb (n:=k) (s1:=[]) (by omega) (by simp only[vv,zo,yq,zd1,zb9,_af,Rb,vj,xj,_m,zaE,zaf,ek]),Rb];exact e
theorem zeh {a b:Int} (ha:0<=a/\a<=1000) (hb:0<=b/\b<=1000) (h:0<a):∃w,LW 2 [a,b] w:=SmL.lw (n:=2) (v:=[a,b]) ⟨rfl,by decide,by decide,λx hx=>by
  simp only[_j,_an,_bQ]at hx;rcases hx with rfl | rfl;·exact ha
  ·exact hb⟩ ⟨a,.head _,h⟩
theorem zfY:Two 1000 999 1 999 1000:=⟨by decide,by decide,by decide,by decide,by decide +kernel,by decide,by decide⟩
theorem zfW:Two 5 0 5 0 1:=⟨by decide,by decide,by decide,by decide,by decide +kernel,by decide,by decide⟩
theorem zge{w:Nat}(W:LW 2 [1000,999] w):rel [1000,999] w=[[-999,1000],[999,-1000]]:= z5N (jW _ _) (by refine _bi.mpr ⟨λx hx=>?_,_b7 _ _⟩;rw[_ax.mp hx];decide +kernel) λx=>by
  rw[z9o W zfY];simp only[_j,_an,_bQ];constructor
  ·rintro (h | h);·exact .inr h
   ·exact .inl h
  ·rintro (h | h);·exact .inr h
   ·exact .inl h
theorem zgn{l:Nat}(hL:LL [5,0] l):l=1:=by
 have:=(vc.mp ((z6k hL zfW).mpr (.inl rfl))).2.2.2;rw[zhd]at this;omega
theorem zgo (ρ:Ev) (s:Sto):z3k ρ s=.ok (.rt (.bl true)) s:=by
 obtain⟨w1,W1⟩:=zeh (a:=1000) (b:=999) (by decide) (by decide) (by decide);obtain⟨w2,W2⟩:=zeh (a:=5) (b:=0) (by decide) (by decide) (by decide);obtain⟨l,hL,_,_,hb⟩:=W2.ll;have h1:=byw W1 s;rw[zge W1]at h1;have h2:=zgU W2 hL hb s;rw[zgn hL]at h2;have g1:zq [.tup [.int 1000,.int 999]] s=.ok (.loc s.length) (s++[[.tup [.int (-999),.int 1000],.tup [.int 999,.int (-1000)]]]):=h1;have g2:zJ [.tup [.int 5,.int 0]] s=.ok (.int 1) s:=h2;have c2:(2:Nat)<=cap:=by decide
 have tp:∀(f g:FE) (x y:D),f ρ s=.ok x s->g ρ s=.ok y s->jo (za f (za g zi)) ρ s=.ok (.tup [x,y]) s:=λf g x y hf hg=>by simp only[qL,zo,yq,hf,hg,Rb,_p,_J,_Q,Nat.reduceAdd,_g c2]
 have ng:∀i:Int,z7l (eC (.int i)) ρ s=.ok (.int (-i)) s:=λi=>by rw[z5M];rfl
 have fz:jD (ze zq (za (jo (za (eC (.int 1000)) (za (eC (.int 999)) zi))) zi)) ρ s=.ok (.lst [.tup [.int (-999),.int 1000],.tup [.int 999,.int (-1000)]]) s:=by rw[z2n,yc (tp _ _ _ _ rfl rfl),g1,jU]
 have ls:z3I (za (jo (za (z7l (eC (.int 999))) (za (eC (.int 1000)) zi))) (za (jo (za (eC (.int 999)) (za (z7l (eC (.int 1000))) zi))) zi)) ρ s=.ok (.lst [.tup [.int (-999),.int 1000],.tup [.int 999,.int (-1000)]]) s:=by
  rw[z1c,zo,tp _ _ _ _ (ng 999) rfl,Rb,zo,tp _ _ _ _ rfl (ng 1000),Rb,yq];rfl
 have i1:dEq (.lst [.tup [.int (-999),.int 1000],.tup [.int 999,.int (-1000)]]) (.lst [.tup [.int (-999),.int 1000],.tup [.int 999,.int (-1000)]]) s=.ok (.bl true) s:=by kernel_rfl
 have i2:dEq (.int 1) (.int 1) s=.ok (.bl true) s:=by kernel_rfl
 rw[z3k,xH,z6p,op2 fz ls,i1,Rb];simp only[];rw[op2 (x:=.int 1) (y:=.int 1) (by rw[yc (tp _ _ _ _ rfl rfl),g2]) rfl,i2];rfl
theorem zak:∀ns:List Int,ns.length<=63->∃s',zcr [.scr (ns.map D.int)] []=.ok (.bl true) s':=λns hn=>by
 obtain⟨ρ',s',e,h⟩:=zfi ns;refine⟨s',?_⟩;have st:zT ["_law_script","_law_at","_law_pot_here","_law_lot","_law_due_here","_law_turn","_law_found","_law_told"] [.scr (ns.map D.int)]=L8 (some (.scr (iL ns))) none none none none none none none:=rfl;unfold zcr Mof zaP;rw[_g (by rfl),st,zr e,zgo]
end K51
namespace K51
open L2 Dd Pg
theorem all_mk {P:Program} {w:World} {K:W.Frag} {h:Heap} {mg:Str->Option Value} {fa:Addr} (X:K.In h) (G:h.Ns mainGlobals mg) (hfa:mg "law"=some (.ref fa)) (e:z9Q askQ K=valS askQ w) : ∃fd:FuncData,(∀(s:Shared) (v:Value),BindsTo s fd ⟨[v],[]⟩ [("_law_script",v)])/\∀base:Heap,K.In base->base.Ns mainGlobals mg->z3J P w K mg base CX0 9 fa fd ["_law_script"] (zcm K):=by
 obtain⟨f0,d0,a0,F0⟩:=yF X G e 0 rfl;obtain⟨f1,d1,a1,F1⟩:=yF X G e 1 rfl;obtain⟨f2,d2,a2,F2⟩:=yF X G e 2 rfl;obtain⟨f3,d3,a3,F3⟩:=yF X G e 3 rfl;obtain⟨f4,d4,a4,F4⟩:=yF X G e 4 rfl;obtain⟨f5,d5,a5,F5⟩:=yF X G e 5 rfl;obtain⟨f6,d6,a6,F6⟩:=yF X G e 6 rfl;obtain⟨f7,d7,a7,F7⟩:=yF X G e 7 rfl;obtain⟨f8,d8,a8,F8⟩:=yF X G e 8 rfl;obtain⟨f9,d9,a9,F9⟩:=yF X G e 9 rfl;obtain⟨f10,d10,a10,F10⟩:=yF X G e 10 rfl;obtain⟨f11,d11,a11,F11⟩:=yF X G e 11 rfl;obtain⟨f12,d12,a12,F12⟩:=yF X G e 12 rfl;obtain⟨f13,d13,a13,F13⟩:=yF X G e 13 rfl;obtain⟨f14,d14,a14,F14⟩:=yF X G e 14 rfl;obtain⟨f15,d15,a15,F15⟩:=yF X G e 15 rfl;obtain⟨f16,d16,a16,F16⟩:=yF X G e 16 rfl;obtain⟨f17,d17,a17,F17⟩:=yF X G e 17 rfl;obtain⟨f18,d18,a18,F18⟩:=yF X G e 18 rfl;obtain⟨f19,d19,a19,F19⟩:=yF X G e 19 rfl;obtain⟨f20,d20,a20,F20⟩:=yF X G e 20 rfl;obtain⟨f21,d21,a21,F21⟩:=yF X G e 21 rfl;obtain⟨f22,d22,a22,F22⟩:=yF X G e 22 rfl;obtain⟨f23,d23,a23,F23⟩:=yF X G e 23 rfl;obtain⟨f24,d24,a24,F24⟩:=yF X G e 24 rfl;obtain⟨f25,d25,a25,F25⟩:=yF X G e 25 rfl;obtain⟨f26,d26,a26,F26⟩:=yF X G e 26 rfl;obtain⟨f27,d27,a27,F27⟩:=yF X G e 27 rfl;obtain⟨f28,d28,a28,F28⟩:=yF X G e 28 rfl;have e0:=hfa.symm.trans a28;cases e0;obtain⟨oc,od,kV,doc,pm,an,cdv,ct,osl,rfl,hl,hc⟩:=F28.ex;have T:Txt mg:=⟨z82 X G e 0 rfl,z82 X G e 1 rfl,z82 X G e 2 rfl,vw X G e 0 rfl,vw X G e 1 rfl,vw X G e 2 rfl,vw X G e 3 rfl,vw X G e 4 rfl,vw X G e 5 rfl,vw X G e 6 rfl,vw X G e 7 rfl,vw X G e 8 rfl,vw X G e 9 rfl,vw X G e 10 rfl,vw X G e 11 rfl,vw X G e 12 rfl,vw X G e 13 rfl,vw X G e 14 rfl,vw X G e 15 rfl⟩;refine⟨W.fnOf "law" "law" (kr z1X) (uQ z1X) (zm z1X) .none kV doc pm an cdv ct,λs v=>.of_eq rfl,λbase _ _=>?_⟩;have H0:=z4z (P:=P) (w:=w) (base:=base) T F0 a0;have H1:=z4q (P:=P) (w:=w) (base:=base) T F1 a1;have H2:=jF (P:=P) (w:=w) (base:=base) T F2 a2;have H3:=z4I (P:=P) (w:=w) (base:=base) T F3 a3;have H4:=z78 (P:=P) (w:=w) (base:=base) T F4 a4;have H5:=z6L (P:=P) (w:=w) (base:=base) T F5 a5;have H6:=z0h (P:=P) (w:=w) (base:=base) T F6 a6;have H7:=z4D (P:=P) (w:=w) (base:=base) T F7 a7;have H8:=z2s (P:=P) (w:=w) (base:=base) T F8 a8;have H9:=z1G (P:=P) (w:=w) (base:=base) T F9 a9;have H10:=z0F (P:=P) (w:=w) (base:=base) T F10 a10;have H11:=z3W (P:=P) (w:=w) (base:=base) T F11 a11;have H12:=z09 (P:=P) (w:=w) (base:=base) T F12 a12;have H13:=z1O (P:=P) (w:=w) (base:=base) T F13 a13 H0;have H14:=qK (P:=P) (w:=w) (base:=base) T F14 a14 H2 H3 H4;have H15:=z2Z (P:=P) (w:=w) (base:=base) T F15 a15 H9;have H16:=jT (P:=P) (w:=w) (base:=base) T F16 a16 H8;have H17:=z0W (P:=P) (w:=w) (base:=base) T F17 a17 H11;have H18:=z6G (P:=P) (w:=w) (base:=base) T F18 a18 H1 H13;have H19:=ku (P:=P) (w:=w) (base:=base) T F19 a19 H11 H17;have H20:=z02 (P:=P) (w:=w) (base:=base) T F20 a20 H11 H12 H17;have H21:=z4K (P:=P) (w:=w) (base:=base) T F21 a21 H18;have H22:=z3Z (P:=P) (w:=w) (base:=base) T F22 a22 H10 H19 H20;have H23:=z1Q (P:=P) (w:=w) (base:=base) T F23 a23 H21;have H24:=z2T (P:=P) (w:=w) (base:=base) T F24 a24 H4 H14 H23;have H25:=z3G (P:=P) (w:=w) (base:=base) T F25 a25 H5 H14 H24;have H26:=z0e (P:=P) (w:=w) (base:=base) T F26 a26 H4 H24;have H27:=z06 (P:=P) (w:=w) (base:=base) T F27 a27 H5 H25;have H28:=z6x (P:=P) (w:=w) (base:=base) T F28 a28 H6 H7 H8 H15 H16 H22 H24 H25 H26 H27;exact zfb (x:="law") H28 zak
theorem boot_:∀w:World,(W.fencedOpening treeTable PySem.Challenge.pw_drawndown_k51_least_relations w 3138).map (λs=>(s.heap,s.gens,s.drawn,s.toks))=some (W.boot_heap w.params,Array.mk [],W.boot_drawn,W.boot_toks):= W.boot_open (by kernel_rfl) (by decide) (λs=>by kernel_rfl)
theorem left_:W.LeftO PySem.Challenge.pw_drawndown_k51_least_relations qv looseQ xtQ (obsS askQ) (valS askQ) 3138:=z70 boot_ (λw os=>z6z (f:=λs=>(seenQ s,obsS askQ s)) (zhq w) (bsz w) (z9l (z9M w os) (za5 w os)))
end K51
open PySem.W
set_option maxRecDepth 100000 in
set_option maxHeartbeats 0 in
theorem PySem.Challenge.cw_drawndown_k51_least_relations_holds : PySem.Challenge.rw_drawndown_k51_least_relations.Holds := by
  w_on; refine holds_law K51.said_ λsaid => ?_
  refine holds_open (q := K51.qv) (loose := K51.looseQ) (Xt := K51.xtQ) (XP := XL K51.qv K51.lvQ) (Yf := Dd.obsS K51.askQ) (Ya := Dd.valS K51.askQ) (YP := Dd.saysS K51.askQ) (N := 3138) K51.left_ (Dd.zbD K51.askQ) (Dd.z72 K51.askQ) (λs e => xl_of s (Bool.and_eq_true_iff.mp e).1) XL.keeps (by rfl) (by rfl) (by rfl) (λs e => recFacts_of (Bool.and_eq_true_iff.mp e).2) (by rfl) (by first | assumption | decide +kernel) (by decide +kernel) ⟨rfl, rfl, rfl, rfl, rfl, by decide +kernel⟩ ?hw ?hc
  (case hw => w_witness2)
  refine Dd.walkY (l := PySem.Challenge.rw_drawndown_k51_least_relations) (n := 63) (k := 9) (x := "_law_script") rfl (by decide) (by decide) rfl ⟨rfl, by decide, by decide, rfl⟩ ?F
  case F =>
    intro w mg fa h Yy G hmg XP
    obtain⟨K, KX, e⟩ := Yy
    exact⟨K, KX, K51.all_mk KX G hmg e ⟩
