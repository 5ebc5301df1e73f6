import PyProof.Rows.All
import Wide.All
import OpenK.AllK
import Wide.FinOn
import Lean
import PyProof.EqAt
import PyProof.EqKinds
import PyProof.TupleCall
import PyProof.ExcArgsOwn
import PyProof.ExcAttrAll.ValueError
import PyProof.ListMulRoad
import PyProof.Rows.Range3
import KE.KDictLaws
import PyProof.Rows.CallKwBuiltin
import PyProof.Rows.SortRuns
import KE.KDictSum
import PyProof.Rows.SetFrom
import PySem.Challenge.RW_drawndown_k74_whole_backs
set_option compiler.extract_closed false
set_option Elab.async false
set_option linter.all false
set_option maxRecDepth 100000
set_option maxHeartbeats 1000000
set_option exponentiation.threshold 5000
theorem aDe_(_:True:=by decide):True:=trivial
def aDe:Lean.Syntax:=aDe_._auto_1
theorem aLr_(_:True:=by first | exact .inl rfl | exact .inr rfl | assumption):True:=trivial
def aLr:Lean.Syntax:=aLr_._auto_1
theorem aOr_(_:True:=by first | exact Or.inl rfl | exact Or.inr rfl):True:=trivial
def aOr:Lean.Syntax:=aOr_._auto_1
theorem aIr_(_:True:=by intro _;rfl):True:=trivial
def aIr:Lean.Syntax:=aIr_._auto_1
theorem aRf_(_:True:=by rfl):True:=trivial
def aRf:Lean.Syntax:=aRf_._auto_1
theorem aWu_(_:True:=by with_unfolding_all rfl):True:=trivial
def aWu:Lean.Syntax:=aWu_._auto_1
open PySem PySem.Spec PyProof.Rows
abbrev _a:=@wpAny_bind
abbrev _b:=@wpAny_pure
noncomputable abbrev _c:=@Heap.get?_push_of_some
noncomputable abbrev _d:=@List.getElem?_eq_some_iff
noncomputable abbrev _e:=@List.getElem?_eq_getElem
abbrev _g:=@if_pos
abbrev _h:=@Nat.le_refl
abbrev _i:=@wpS_bind
abbrev _j:=@Heap.lt_size
noncomputable abbrev _k:=@Heap.get?_push_size
abbrev _l:=@if_neg
abbrev _m:=@wpS_pure
abbrev _n:=@List.mem_cons
noncomputable abbrev _o:=@Bool.false_eq_true
noncomputable abbrev _p:=@List.getElem?_cons_succ
noncomputable abbrev _q:=@List.getElem?_cons_zero
noncomputable abbrev _r:=@List.mem_of_getElem?
noncomputable abbrev _s:=@decide_eq_true_eq
abbrev _t:=@Nat.ne_of_lt
noncomputable abbrev _u:=@List.getElem?_append_left
noncomputable abbrev _v:=@Nat.lt_of_lt_of_le
abbrev _w:=@List.length_cons
noncomputable abbrev _x:=@Option.map_eq_some_iff
noncomputable abbrev _y:=@List.mem_append_right
abbrev _z:=@wpAny_mono
noncomputable abbrev _A:=@List.size_toArray
abbrev _B:=@List.length_map
abbrev _C:=@List.mem_append
noncomputable abbrev _D:=@List.mem_iff_getElem
abbrev _E:=@List.mem_map
noncomputable abbrev _F:=@List.getD_eq_getElem?_getD
noncomputable abbrev _G:=@List.mem_cons_of_mem
abbrev _H:=@List.map_cons
abbrev _I:=@Option.some.inj
noncomputable abbrev _J:=@Option.some.injEq
abbrev _K:=@if_true
abbrev _L:=@Bool.and_eq_true
abbrev _M:=@if_false
noncomputable abbrev _N:=@Array.length_toList
noncomputable abbrev _O:=@List.mem_cons_self
abbrev _P:=@wpAny_call_entry
noncomputable abbrev _Q:=@List.getElem?_set_ne
abbrev _R:=@List.length_nil
noncomputable abbrev _S:=@wpAny_callSpecial?_slot
noncomputable abbrev _T:=@Classical.byContradiction
abbrev _U:=@Option.bind_some
noncomputable abbrev _V:=@List.mem_singleton
noncomputable abbrev _W:=@Heap.get?_update_other
abbrev _X:=@List.mem_range
noncomputable abbrev _Y:=@List.getElem?_map
abbrev _Z:=@List.lookup_cons
noncomputable abbrev _aa:=@List.append_assoc
noncomputable abbrev _ab:=@List.length_append
noncomputable abbrev _ac:=@List.getElem?_set_self
noncomputable abbrev _ad:=@Bool.and_eq_true_iff
noncomputable abbrev _ae:=@List.mem_of_mem_take
abbrev _af:=@decide_eq_false
noncomputable abbrev _ag:=@wpAny_newObj_type
noncomputable abbrev _ah:=@List.getElem?_append_right
abbrev _ai:=@wpAny_field
noncomputable abbrev _aj:=@decide_eq_false_iff_not
abbrev _ak:=@wpAny_holding
abbrev _al:=@Nat.le_trans
noncomputable abbrev _am:=@List.mem_append_left
noncomputable abbrev _an:=@Array.toList_push
noncomputable abbrev _ao:=@wpAny_setField_rec
noncomputable abbrev _ap:=@PyProof.Rows.callWith_type1
noncomputable abbrev _aq:=@PyProof.Rows.slot_tuple_getitem
noncomputable abbrev _ar:=@Heap.get?_update_self
noncomputable abbrev _as:=@PySem.mem_of_lookup
abbrev _at:=@Option.map_some
abbrev _au:=@congrArg
noncomputable abbrev _av:=@Nat.pow_le_pow_right
noncomputable abbrev _aw:=@List.drop_eq_getElem_cons
abbrev _ax:=@Nat.le_of_lt
abbrev _ay:=@Nat.zero_add
abbrev _az:=@Heap.size_push
abbrev _aA:=@wpAny_seqItems
abbrev _aB:=@Nat.lt_irrefl
noncomputable abbrev _aC:=@List.all_eq_true
noncomputable abbrev _aD:=@wpAny_truthy_bool
noncomputable abbrev _aE:=@wpAny_setState_of
noncomputable abbrev _aF:=@Option.bind_eq_some_iff
noncomputable abbrev _aG:=@wpAny_Call_Name_kw
abbrev _aH:=@beq_iff_eq
abbrev _aI:=@Nat.zero_le
noncomputable abbrev _aJ:=@Around.under_plainId
noncomputable abbrev _aK:=@PySem.F.plain_min_loop
abbrev _aL:=@wpAny_rule
noncomputable abbrev _aM:=@Nat.lt_succ_of_lt
noncomputable abbrev _aN:=@Bool.not_eq_true'
noncomputable abbrev _aO:=@List.take_append_drop
noncomputable abbrev _aP:=@Option.isSome_iff_exists
noncomputable abbrev _aQ:=@List.getElem?_take_of_lt
abbrev _aR:=@decide_eq_true
noncomputable abbrev _aS:=@F.slot_dict_keyiterator_next
abbrev _aT:=@List.map_map
abbrev _aU:=@wpS_forRange
abbrev _aV:=@PassesOwn.never
noncomputable abbrev _aW:=@Bool.false_ne_true
noncomputable abbrev _aX:=@PySem.F.called_set
noncomputable abbrev _aY:=@List.length_eq_zero_iff
noncomputable abbrev _aZ:=@List.take_of_length_le
noncomputable abbrev _a0:=@Heap.SameBut.update
abbrev _a1:=@wpAny_loadPart'
abbrev _a2:=@codeAny_builtin
noncomputable abbrev _a3:=@List.getElem?_eq_none
noncomputable abbrev _a4:=@List.length_take
abbrev _a5:=@wpS_modify
abbrev _a6:=@wpAny_standAt
noncomputable abbrev _a7:=@wpAny_comprehension_free
abbrev _a8:=@Bool.not_true
noncomputable abbrev _a9:=@wpAny_typeNameOfWhole_keyiter
abbrev _ba:=@Ne.symm
noncomputable abbrev _bb:=@Int.toNat_natCast
noncomputable abbrev _bc:=@List.reverse_cons
noncomputable abbrev _bd:=@List.pairwise_map
abbrev _be:=@List.cons.injEq
noncomputable abbrev _bf:=@List.pairwise_lt_range
noncomputable abbrev _bg:=@Array.getD_eq_getD_getElem?
noncomputable abbrev _bh:=@wpAny_isInstance
noncomputable abbrev _bi:=@wpAny_askSetting
noncomputable abbrev _bj:=@List.mem_filterMap
noncomputable abbrev _bk:=@F.slot_tuple_iterator_next
noncomputable abbrev _bl:=@Int.emod_lt_of_pos
abbrev _bm:=@wpAny_passesOwn
abbrev _bn:=@List.append_nil
abbrev _bo:=@List.foldl_cons
abbrev _bp:=@Int.emod_nonneg
noncomputable abbrev _bq:=@Function.comp_def
noncomputable abbrev _br:=@Nat.lt_of_succ_lt
abbrev _bs:=@List.any_cons
abbrev _bt:=@wpAny_attempt
abbrev _bu:=@wpAny_setField
noncomputable abbrev _bv:=@List.getElem_mem
noncomputable abbrev _bw:=@wpAny_forIn_list
noncomputable abbrev _bx:=@SeqAt.canLay_of_shaped
abbrev _by:=@Nat.add_zero
noncomputable abbrev _bz:=@List.dropLast_concat_getLast
abbrev _bA:=@W.kia_one
abbrev _bB:=@Prod.mk.injEq
abbrev _bC:=@plainId_quiet
noncomputable abbrev _bD:=@F.slot_enumerate_next
noncomputable abbrev _bE:=@PySem.F.slot_tuple_lt
noncomputable abbrev _bF:=@Int.mul_ediv_add_emod
abbrev _bG:=@sizeLine_eq
noncomputable abbrev _bH:=@Calls.evalArgs_plain
abbrev _bI:=@wpAny_letGo
noncomputable abbrev _bJ:=@PySem.F.excBase_ValueError
abbrev _bK:=@wpS_mono
noncomputable abbrev _bL:=@Array.perm_iff_toList_perm
abbrev _bM:=@mirror_perm
noncomputable abbrev _bN:=@List.getElem_inj
abbrev _bO:=@Nat.ne_of_gt
abbrev _bP:=@codeAny_mono
noncomputable abbrev _bQ:=@Nat.lt_succ_self
noncomputable abbrev _bR:=@List.pairwise_iff_getElem
noncomputable abbrev _bS:=@List.filterMap_cons
noncomputable abbrev _bT:=@List.map_congr_left
noncomputable abbrev _bU:=@PySem.F.args_tuple_add_2
noncomputable abbrev _bV:=@List.Pairwise.imp_of_mem
abbrev _bW:=@List.map_drop
noncomputable abbrev _bX:=@SetTable.toList_insertAt
noncomputable abbrev _bY:=@List.eq_of_mem_replicate
abbrev _bZ:=@List.mem_filter
abbrev _b0:=@List.nodup_cons
abbrev _b1:=@List.map_append
abbrev _b2:=@List.nil_append
abbrev _b3:=@Nat.not_lt_zero
noncomputable abbrev _b4:=@Calls.spliced_cons
noncomputable abbrev _b5:=@List.lookup_append
noncomputable abbrev _b6:=@tupleKind_room_in1
noncomputable abbrev _b7:=@wpAny_tupleItemsOf
noncomputable abbrev _b8:=@List.pairwise_cons
noncomputable abbrev _b9:=@List.getElem?_replicate
noncomputable abbrev _ca:=@PySem.F.entry_tuple_add
noncomputable abbrev _cb:=@Int.eq_ofNat_of_zero_le
noncomputable abbrev _cc:=@F.plain_set_update_loop
noncomputable abbrev _cd:=@List.set_eq_take_append_cons_drop
noncomputable abbrev _ce:=@wpAny_assign_Name
noncomputable abbrev _cf:=@List.take_sublist
noncomputable abbrev _cg:=@PySem.F.slot_tuple_add
noncomputable abbrev _ch:=@subscriptTail_builtinR
noncomputable abbrev _ci:=@Calls.callWith_builtin
noncomputable abbrev _cj:=@PySem.F.entry_min_loop
noncomputable abbrev _ck:=@List.take_add_one
noncomputable abbrev _cl:=@List.filter_eq_nil_iff
noncomputable abbrev _cm:=@List.length_range
abbrev _cn:=@wpS_get
noncomputable abbrev _co:=@Array.getElem?_extract
noncomputable abbrev _cp:=@bne_self_eq_false
noncomputable abbrev _cq:=@Heap.get?_push_ne
abbrev _cr:=@Bool.and_false
noncomputable abbrev _cs:=@Array.toList_eraseIdxIfInBounds
noncomputable abbrev _ct:=@List.length_replicate
noncomputable abbrev _cu:=@exec_Assign_Name_used
noncomputable abbrev _cv:=@PySem.F.slot_dict_get
noncomputable abbrev _cw:=@List.perm_append_comm
noncomputable abbrev _cx:=@wpAny_eqBool_int
noncomputable abbrev _cy:=@List.length_drop
noncomputable abbrev _cz:=@List.cons_append
noncomputable abbrev _cA:=@List.prefix_refl
noncomputable abbrev _cB:=@List.drop_length
noncomputable abbrev _cC:=@Option.getD_some
noncomputable abbrev _cD:=@List.mem_flatMap
noncomputable abbrev _cE:=@List.not_mem_nil
noncomputable abbrev _cF:=@F.args_dict_keyiterator_next_1
noncomputable abbrev _cG:=@List.getElem_map
abbrev _cH:=@List.ext_getElem
abbrev _cI:=@List.nodup_range
noncomputable abbrev _cJ:=@List.Nodup.length_le_of_subset
abbrev _cK:=@List.any_eq_true
abbrev _cL:=@Paired.length
noncomputable abbrev _cM:=@Array.mem_toList_iff
abbrev _cN:=@wpAny_of_eq
noncomputable abbrev _cO:=@wpAny_updateSeq_pair
noncomputable abbrev _cP:=@F.entry_dict_keyiterator_next
noncomputable abbrev _cQ:=@Int.natAbs_of_nonneg
abbrev _cR:=@wpAny_execs_nil
abbrev _cS:=@List.of_mem_zip
abbrev _cU:=@F.slot_zip_next
abbrev _cV:=@Int.ediv_nonneg
noncomputable abbrev _cX:=@List.getElem?_range
noncomputable abbrev _cY:=@List.length_pos_iff
noncomputable abbrev _cZ:=@PyProof.Rows.lt_int
noncomputable abbrev _c0:=@List.mem_map_of_mem
abbrev _c1:=@wpAny_typeOf
abbrev _c2:=@Nat.lt_trans
abbrev _c4:=@Nat.lt_or_ge
noncomputable abbrev _c7:=@assignInOrder_cons
abbrev _c8:=@isSubtype_stop
abbrev _c9:=@wpAny_tryCatch
abbrev _da:=@Int.mul_nonneg
abbrev _db:=@Nat.mul_le_mul
abbrev _dc:=@wpS_lift
noncomputable abbrev _dd:=@Array.size_extract
noncomputable abbrev _de:=@Bool.not_eq_false'
abbrev _dg:=@Bool.not_false
noncomputable abbrev _dn:=@Calls.spliced_nil
noncomputable abbrev _do:=@slot_list_getitem
noncomputable abbrev _dp:=@Nat.le_of_succ_le
noncomputable abbrev _dq:=@wpAny_pyIter_list
noncomputable abbrev _dr:=@wpAny_dictEntries
noncomputable abbrev _ds:=@wpAny_pyIter_slot
noncomputable abbrev _dt:=@List.ext_getElem?
abbrev _dw:=@wpAny_onRaise
abbrev _dz:=@noFill_tuple_add
abbrev _dB:=@Nat.le_add_right
abbrev _dD:=@beq_self_eq_true
abbrev _dF:=@Int.ediv_le_self
abbrev _dH:=@List.mem_reverse
abbrev _dL:=@putSet_of
abbrev _dN:=@List.map_flatMap
abbrev _dS:=@Nat.not_lt
abbrev _dT:=@Int.mul_comm
abbrev _dU:=@getElem?_pos
abbrev _dW:=@List.map_nil
noncomputable section
namespace Dd
noncomputable def dArgs(s:Stmt):Arguments:=match s with
 | .FunctionDef _ a _ _ _ _ _ _ _ _=>a | _=>{posonlyargs:=[],args:=[],vararg:=none,kwonlyargs:=[],kw_defaults:=[],kwarg:=none,defaults:=[]}
noncomputable def zkz(s:Stmt):List Stmt:=match s with
 | .FunctionDef _ _ b _ _ _ _ _ _ _=>b | _=>[]
noncomputable def zi3(s:Stmt):Scope:=match s with
 | .FunctionDef _ _ _ _ _ _ sc _ _ _=>sc | _=>{kind:=.function,names:=[],isGenerator:=false,isCoroutine:=false}
noncomputable def z64(h:Heap)(a:Addr):W.Frag:=match h.get? a with | some o=>[(a,o)] | none=>[]
noncomputable def zly(h:Heap)(g:W.Frag)(x:Str):W.Frag:=match W.nsIn g mainGlobals x with
 | some (some (.ref f))=>z64 h f++(match h.get? f with
   | some ⟨_,_,.func fd,_⟩=>(match fd.code with | .ref c=>z64 h c | _=>[]) | some ⟨_,_,.cls cd,_⟩=>z64 h cd.ns | _=>[]) | _=>[]
noncomputable def gat(h:Heap)(ns:List Str):W.Frag:=z64 h mainGlobals++ns.flatMap (zly h (z64 h mainGlobals))
noncomputable abbrev FV:=Str×Str×Arguments×FuncBody×Scope×Addr×List (Str×Addr)×Value×Addr×Bool×Bool
noncomputable def zgn(K:W.Frag)(x:Str):Option FV:=match W.nsIn K mainGlobals x with
 | some (some (.ref f))=>(match K.lookup f with
   | some ⟨_,_,.func fd,_⟩=>some (fd.name,fd.qualname,fd.params,fd.body,fd.scope,fd.globals,fd.closure,fd.defaults,fd.builtins,W.codeIn K fd.code fd.qualname,W.keepIn K (.ref f)) | _=>none) | _=>none
noncomputable def zkq(x:Str)(st:Stmt):Option FV:=some (x,x,dArgs st,.stmts (zkz st),zi3 st,mainGlobals,[],.none,builtinsNs,true,true)
noncomputable def zfN(K:W.Frag)(x:Str):Bool:=match W.nsIn K mainGlobals x with | some none=>true | _=>false
noncomputable def zgZ(K:W.Frag)(x:Str):Option Int:=match W.nsIn K mainGlobals x with | some (some (.int i _))=>some i | _=>none
noncomputable def sameRef:Value->Option (Option Value)->Bool
 | .ref f,some (some (.ref g))=>f==g | _,_=>false
noncomputable def zbo:Value->Option Str
 | .str k _=>some k | _=>none
noncomputable def z51:Value->Bool
 | .type c=>c=="dict" | _=>false
noncomputable def z87(K:W.Frag):List DictEntry->List Str->List (Int×Option Str×Bool)
 | e::es,y::ys=>(e.hash,zbo e.key,sameRef e.val (W.nsIn K mainGlobals y))::z87 K es ys | [],[]=>[] | _,_=>[(0,none,false)]
noncomputable def zgh(K:W.Frag)(x:Str)(ys:List Str):Option (Bool×Bool×Bool×Bool×List (Int×Option Str×Bool)):=match W.nsIn K mainGlobals x with
 | some (some (.ref a))=>(match K.lookup a with
   | some ⟨c,d,.dict es _,sl⟩=>some (z51 c,d.isNone,sl.size==0,a==sysModules,z87 K es.toList ys) | _=>none) | _=>none
noncomputable def zk9(w:World)(tb:List (Str×Str)):Option (Bool×Bool×Bool×Bool×List (Int×Option Str×Bool)):=some (true,true,true,false,tb.map λp=>(PyData.keyHash w.params p.1,some p.1,true))
noncomputable def zj5:List Value->Option (List Int)
 | []=>some [] | .int i _::r=>(zj5 r).map (i::·) | _=>none
noncomputable def zcq:Value->Bool
 | .type c=>c=="tuple" | _=>false
noncomputable def zk2(K:W.Frag)(x:Str):Option (Bool×Option (List Int)):=match W.nsIn K mainGlobals x with
 | some (some (.ref a))=>(match K.lookup a with
   | some ⟨c,_,.seq ae _,_⟩=>some (zcq c,zj5 ae.toList) | _=>none) | _=>none
noncomputable def bmV:List Value:=[.type "ValueError",.type "Exception",.type "BaseException",.type "object"]
noncomputable def z1E(K:W.Frag)(C:Addr):Bool:=match K.lookup C with | some ⟨.type t,_,.cls _,_⟩=>t=="type" | _=>false
noncomputable def z5T(K:W.Frag)(x:Str):Bool:=match W.nsIn K mainGlobals x with
 | some (some (.ref C))=>W.excIn K C bmV "ValueError.__new__"&&(W.findIn K (.ref C) "__getattribute__"==some (some (.builtin "BaseException.__getattribute__"))&&(W.findIn K (.ref C) "__getattr__"==some none && (W.findIn K (.ref C) "__class__"==some (some (.builtin "object.__class__"))&&(W.mroIn K C (.type "object")==some true&&(W.mroIn K C (.type "BaseException")==some true&&(z1E K C&&W.kitOne K (.ref C) (.type "ValueError")==some true)))))) | _=>false
noncomputable def z7f(K:W.Frag)(x y:Str):Option (Option Bool×Option Bool):=match W.nsIn K mainGlobals x,W.nsIn K mainGlobals y with
 | some (some (.ref C)),some (some (.ref D))=>some (W.mroIn K C (.ref D),W.kitOne K (.ref C) (.ref D)) | _,_=>none
noncomputable abbrev Obs:=List (Option FV)×List Bool×List (Option Int)×List (Option (Bool×Bool×Bool×Bool×List (Int×Option Str×Bool)))×List (Option (Bool×Option (List Int)))×List Bool×List (Option (Option Bool×Option Bool))
structure Ask where
 fs:List (Str×Stmt)
 bs:List Str
 cs:List (Str×Int)
 ts:List (Str×List (Str×Str))
 us:List (Str×List Int)
 xs:List Str
 ps:List ((Str×Str)×Bool)
noncomputable def z9d(q:Ask)(K:W.Frag):Obs:=(q.fs.map λp=>zgn K p.1,q.bs.map (zfN K),q.cs.map λp=>zgZ K p.1,q.ts.map (λp=>zgh K p.1 (p.2.map (·.2))),q.us.map (λp=>zk2 K p.1),q.xs.map (z5T K),q.ps.map λp=>z7f K p.1.1 p.1.2)
noncomputable def obsS(q:Ask)(s:Shared):Obs:=z9d q (gat s.heap (q.fs.map (·.1)++q.ts.map (·.1)++q.us.map (·.1)++q.xs))
noncomputable def valS(q:Ask)(w:World):Obs:=(q.fs.map λp=>zkq p.1 p.2,q.bs.map λ_=>true,q.cs.map λp=>some p.2,q.ts.map (λp=>zk9 w p.2),q.us.map (λp=>some (true,some p.2)),q.xs.map λ_=>true,q.ps.map λp=>some (some p.2,some p.2))
noncomputable def z1L(tb:String->Option Builtin)(p:Program)(w:World)(n₀:Nat)(eD:Option Value):Nat->W.SharedT->Thread->Option W.SharedT
 | 0,_,_=>none | n+1,s,t=>match W.through t with
  | true=>some s | false=>match W.stepOk n₀ eD t with
   | false=>none | true=>match W.stepT (denote tb) p w s t with
    | some (s',t')=>z1L tb p w n₀ eD n s' t' | none=>none
noncomputable def zhX(l:List Obj):W.BT×Nat:=l.foldl (λa o=>(a.1.ins a.2 o,a.2+1)) (W.BT.nil,0)
noncomputable def zhD(P:Params):W.BT:=(zhX (W.boot_heap P).objs.toList).1
end Dd
namespace bN
open Dd
noncomputable def top(i:Nat):Stmt:=PySem.Challenge.pw_drawndown_k74_whole_backs.main.body.getD i (.Pass ⟨0,0,0,0⟩)
abbrev z1H:Stmt:=top 11
abbrev z17:Stmt:=top 13
abbrev vI:Stmt:=top 16
abbrev xC:Stmt:=top 22
abbrev qG:Stmt:=top 23
abbrev z30:Stmt:=top 24
noncomputable abbrev z2G:Stmt:=top 30
abbrev z7P:Stmt:=top 36
abbrev qk:Stmt:=top 50
abbrev vq:Stmt:=top 52
abbrev uI:Stmt:=top 55
abbrev z1Z:Stmt:=top 56
abbrev z0g:Stmt:=top 57
abbrev je:Stmt:=top 59
abbrev jb:Stmt:=top 12
noncomputable abbrev qw:Stmt:=top 14
abbrev z0f:Stmt:=top 15
abbrev z2N:Stmt:=top 25
abbrev z0O:Stmt:=top 26
abbrev z4L:Stmt:=top 27
abbrev z2Z:Stmt:=top 28
abbrev kO:Stmt:=top 31
abbrev z01:Stmt:=top 51
abbrev z1A:Stmt:=top 58
abbrev z5C:Stmt:=top 18
abbrev z1s:Stmt:=top 35
abbrev ql:Stmt:=top 49
abbrev z0M:Stmt:=top 19
abbrev kH:Stmt:=top 20
abbrev wm:Stmt:=top 32
abbrev z0d:Stmt:=top 33
abbrev z9K:Stmt:=top 34
abbrev zes:Stmt:=top 37
abbrev uU:Stmt:=top 40
abbrev z1M:Stmt:=top 48
abbrev jB:Stmt:=top 39
abbrev z2z:Stmt:=top 47
abbrev jp:Stmt:=top 53
abbrev qb:Stmt:=top 60
abbrev jS:Stmt:=top 61
abbrev z2t:Stmt:=top 62
noncomputable def z7R:List (Str×Str):=[("next","by_next"),("least","by_least"),("all","by_all"),("turn","by_turn")]
noncomputable def askQ:Ask:=⟨[(("is_whole":Str),z1H), (("has_size":Str),z17), (("tuples_between":Str),vI), (("greatest_and_others":Str),xC), (("least_place":Str),qG), (("all_but":Str),z30), (("is_rule":Str),z2G), (("moved":Str),z7P), (("one_greater":Str),qk), (("numbers_leaving":Str),vq), (("_law_cell_at":Str),uI), (("_law_pot":Str),z1Z), (("_law_take":Str),z0g), (("_law_rules":Str),je), (("are_wholes":Str),jb), (("want_number":Str),qw), (("want_size":Str),z0f), (("by_next":Str),z2N), (("by_least":Str),z0O), (("by_all":Str),z4L), (("by_turn":Str),z2Z), (("want_rule":Str),kO), (("undivided":Str),z01), (("_law_lot":Str),z1A), (("is_lot":Str),z5C), (("division":Str),z1s), (("maybe_ahead":Str),ql), (("want_lot":Str),z0M), (("has_ended":Str),kH), (("want_rule_and_lot":Str),wm), (("want_step":Str),z0d), (("step":Str),z9K), (("run":Str),zes), (("steps_of_all":Str),uU), (("comes_to":Str),z1M), (("many_steps":Str),jB), (("lots_to":Str),z2z), (("least_with":Str),jp), (("_law_come_to":Str),qb), (("_law_right":Str),jS), (("law":Str),z2t)], [("all":Str),("bool":Str),("enumerate":Str),("int":Str),("isinstance":Str),("len":Str),("list":Str),("max":Str),("min":Str),("range":Str),("set":Str),("sorted":Str),("str":Str),("tuple":Str),("zip":Str)], [(("LEAST_SIZE":Str),(2:Int)),(("MOST_AHEAD":Str),(30:Int)),(("MOST_LOTS":Str),(1000:Int)),(("MOST_NUMBER":Str),(16:Int)),(("MOST_SIZE":Str),(4:Int)),(("MOST_SIZE_LED":Str),(3:Int)),(("MOST_STEPS":Str),(12:Int))], [(("RULES":Str),z7R)], [], [("Ended":Str),("NoLot":Str),("NoNumber":Str),("NoRule":Str),("TooMany":Str),("DrawError":Str)], [((("TooMany":Str),("TooMany":Str)),true)]⟩
noncomputable def qv:Program:=W.view PySem.Challenge.pw_drawndown_k74_whole_backs [62]
noncomputable def looseQ:List Str:=[("DrawError":Str),("NoLot":Str),("NoRule":Str),("Ended":Str),("NoSize":Str),("NoNumber":Str),("TooMany":Str),("LEAST_SIZE":Str),("MOST_SIZE":Str),("is_whole":Str),("are_wholes":Str),("has_size":Str),("want_number":Str),("want_size":Str),("tuples_between":Str),("is_lot":Str),("want_lot":Str),("has_ended":Str),("greatest_and_others":Str),("least_place":Str),("all_but":Str),("by_next":Str),("by_least":Str),("by_all":Str),("by_turn":Str),("RULES":Str),("is_rule":Str),("want_rule":Str),("want_rule_and_lot":Str),("want_step":Str),("step":Str),("division":Str),("moved":Str),("run":Str),("many_steps":Str),("steps_of_all":Str),("MOST_AHEAD":Str),("MOST_LOTS":Str),("MOST_SIZE_LED":Str),("MOST_STEPS":Str),("MOST_NUMBER":Str),("lots_to":Str),("comes_to":Str),("maybe_ahead":Str),("one_greater":Str),("undivided":Str),("numbers_leaving":Str),("least_with":Str),("_law_cell_at":Str),("_law_pot":Str),("_law_take":Str),("_law_lot":Str),("_law_rules":Str),("_law_come_to":Str),("_law_right":Str)]
noncomputable def lvQ:List (Str×W.WData):=[]
noncomputable def xtQ:Shared->Bool:=λs=>W.xlAt qv lvQ s&&W.recOk (W.RowW.records (W.OpenRow.toRowW (W.OpenLaw.row PySem.Challenge.rw_drawndown_k74_whole_backs))) s
theorem zls:∀w:World,W.absHeap (zhD w.params) 11 (W.boot_heap w.params).life=W.boot_heap w.params:=by
 intro w;kernel_rfl
theorem bsz:∀w:World,((W.boot_heap w.params).isNs mainGlobals&&(Array.mk []:Array GenState).size==0,(W.boot_heap w.params).objs.size,(W.boot_heap w.params).nsMap mainGlobals "__annotations__")=(true,11,(some (.ref 6))):=by
 intro w;kernel_rfl
noncomputable def zh4(w v:World)(os:OsState):Option W.SharedT:=z1L treeTable PySem.Challenge.pw_drawndown_k74_whole_backs v 11 (some (.ref 6)) 5872 ⟨zhD w.params,11,(W.boot_heap w.params).life,Array.mk [],W.boot_drawn,W.boot_toks,os⟩ (W.topStub PySem.Challenge.pw_drawndown_k74_whole_backs)
noncomputable def ziV(w:World)(s:W.SharedT):Bool:=W.staticsOk (importedModules PySem.Challenge.pw_drawndown_k74_whole_backs.main.body) (W.boot_heap w.params) s.abs.heap&&W.namesBound PySem.Challenge.pw_drawndown_k74_whole_backs s.abs.heap&&W.gensDone s.abs&&W.laidKept (W.boot_heap w.params) s.abs.heap
noncomputable def seenQ(s:Shared):=W.openSeen qv looseQ (importedModules PySem.Challenge.pw_drawndown_k74_whole_backs.main.body) xtQ true s
theorem zlP{α β γ δ:Type}(x:α×β×γ×δ):(x.1,x.2.1,x.2.2.1,x.2.2.2)=x:=rfl
noncomputable def zgz(s:Shared):=((seenQ s).1,(seenQ s).2.1,(seenQ s).2.2.1,(seenQ s).2.2.2)
noncomputable def zgY:=((W.openGood qv looseQ).1,(W.openGood qv looseQ).2.1,(W.openGood qv looseQ).2.2.1,(W.openGood qv looseQ).2.2.2)
theorem z7N(s:Shared):zgz s=seenQ s:=zlP _
theorem z7W:zgY=W.openGood qv looseQ:=zlP _
set_option maxRecDepth 1000000 in
theorem z4q:∀(w:World)(os:OsState),(zh4 w (w.withFollow "special-get-raises" false) os).map (λs=>(ziV w s,obsS askQ s.abs))=some (true,valS askQ (w.withFollow "special-get-raises" false)):=by
 intro w os;kernel_rfl
set_option maxRecDepth 1000000 in
theorem z4s:∀(w:World)(os:OsState),(zh4 w (w.withFollow "special-get-raises" false) os).map (λs=>zgz s.abs)=some zgY:=by
 intro w os;kernel_rfl
theorem z4X(w:World)(os:OsState):(zh4 w (w.withFollow "special-get-raises" false) os).map (λs=>seenQ s.abs)=some (W.openGood qv looseQ):=by
 have h:=z4s w os;simp only[z7N,z7W]at h;exact h
set_option maxRecDepth 1000000 in
theorem z6h:∀(w:World)(os:OsState),(zh4 w (w.withFollow "special-get-raises" true) os).map (λs=>(ziV w s,obsS askQ s.abs))=some (true,valS askQ (w.withFollow "special-get-raises" true)):=by
 intro w os;kernel_rfl
set_option maxRecDepth 1000000 in
theorem z6E:∀(w:World)(os:OsState),(zh4 w (w.withFollow "special-get-raises" true) os).map (λs=>zgz s.abs)=some zgY:=by
 intro w os;kernel_rfl
theorem z6w(w:World)(os:OsState):(zh4 w (w.withFollow "special-get-raises" true) os).map (λs=>seenQ s.abs)=some (W.openGood qv looseQ):=by
 have h:=z6E w os;simp only[z7N,z7W]at h;exact h
set_option maxRecDepth 1000000 in
theorem said_:W.OpenLaw.wellSaid PySem.Challenge.rw_drawndown_k74_whole_backs=true:=by kernel_rfl
end bN
namespace L2
abbrev Key:=Sum Int Str
noncomputable def z3S:Key->Value->Bool
 | .inl k,v=>Value.isInt k v | .inr x,v=>Value.isStrOf x v
noncomputable def zmz(w:World):Key->Int
 | .inl k=>hashInt k | .inr x=>hashStr w x
theorem yb:∀{k:Key}{v:Value},z3S k v=true->(∃i t,k=Sum.inl i/\v=Value.int i t)\/(∃x t,k=Sum.inr x/\v=Value.str x t)
 | .inl i,v,h=>by
  obtain⟨t,e⟩:=Value.isInt_shape   h;exact .inl ⟨i,t,rfl,e⟩ | .inr x,v,h=>by
  obtain⟨t,e⟩:=Value.isStrOf_shape   h;exact .inr ⟨x,t,rfl,e⟩
theorem z9z(i:Int)(t:Tok):z3S (.inl i) (.int i t)=true:=by simp[z3S,Value.isInt]
theorem z1J(x:Str)(t:Tok):z3S (.inr x) (.str x t)=true:=by simp[z3S,Value.isStrOf]
theorem zjo(a b:Int):decide ((Sum.inl a:Key)=Sum.inl b)=(a==b):=by
 by_cases e:a=b;·subst e;simp
 ·rw[_af (λq=>e (Sum.inl.inj q))];exact (beq_eq_false_iff_ne.mpr e).symm
theorem zju(a b:Str):decide ((Sum.inr a:Key)=Sum.inr b)=decide (a=b):=by
 by_cases e:a=b;·simp
 ·rw[_af (λq=>e (Sum.inr.inj q)),_af e]
theorem zhP(a:Int)(b:Str):decide ((Sum.inl a:Key)=Sum.inr b)=false:=_af (λq=>nomatch q)
theorem zhY(a:Str)(b:Int):decide ((Sum.inr a:Key)=Sum.inl b)=false:=_af (λq=>nomatch q)
noncomputable def zH(prog:Program)(w:World):PySem.KeyKind prog w Key where
 is:=z3S;hash:=zmz w;inj:=λv a b ha hb=>by
  rcases yb ha with⟨i,t,rfl,rfl⟩ | ⟨x,t,rfl,rfl⟩
  ·rcases yb hb with⟨j,u,rfl,e⟩ | ⟨y,u,rfl,e⟩;·injection e with e1 _;rw[e1]
   ·exact nomatch e
  ·rcases yb hb with⟨j,u,rfl,e⟩ | ⟨y,u,rfl,e⟩;·exact nomatch e
   ·injection e with e1 _;rw[e1]
 byValue:=λk v h=>by rcases yb h with⟨i,t,rfl,rfl⟩ | ⟨x,t,rfl,rfl⟩<;>rfl
 pyHash:=λhv h=>by
  rcases yb hv with⟨i,t,rfl,rfl⟩ | ⟨x,t,rfl,rfl⟩;·exact wpAny_pyHash_int h
  ·exact wpAny_pyHash_str h
 eqBool:=λhu hv h=>by
  rcases yb hu with⟨i,t,rfl,rfl⟩ | ⟨x,t,rfl,rfl⟩
  ·rcases yb hv with⟨j,u,rfl,rfl⟩ | ⟨y,u,rfl,rfl⟩;·rw[zjo]at h;exact _cx h
   ·rw[zhP]at h;exact SeqAt.EqAt.int_str i t y u _ _ _ _ h
  ·rcases yb hv with⟨j,u,rfl,rfl⟩ | ⟨y,u,rfl,rfl⟩;·rw[zhY]at h;exact SeqAt.EqAt.str_int x t j u _ _ _ _ h
   ·rw[zju]at h;exact wpAny_eqBool_str h
 «strs» := λk x t v h=>by
  rcases yb h with⟨i,u,rfl,e⟩ | ⟨y,u,rfl,e⟩;·exact nomatch e
  ·injection e with e1 _;subst e1;cases v<;>rfl
theorem z2p(prog:Program)(w:World)(k:Key)(v:Value):(zH prog w).is k v=z3S k v:=rfl
theorem z5Q(prog:Program)(w:World)(i:Int)(t:Tok):(zH prog w).is (.inl i) (.int i t)=true:=z9z i t
theorem z13(prog:Program)(w:World)(x:Str)(t:Tok):(zH prog w).is (.inr x) (.str x t)=true:=z1J x t
inductive V where | non | bl (b:Bool) | int (i:Int) | str (x:Str) | byt (b:Array UInt8) | flt (b:UInt64) | ref (a:Addr) | ty (n:String) deriving DecidableEq
def ym:V->Value->Prop
 | .non,u=>u=Value.none | .bl b,u=>u=Value.bool b | .int i,u=>∃t,u=Value.int i t | .str x,u=>∃t,u=Value.str x t | .byt b,u=>∃t,u=Value.bytes b t | .flt b,u=>∃t,u=Value.float b t | .ref a,u=>u=Value.ref a | .ty n,u=>u=Value.type n
abbrev yp:List V->List Value->Prop:=Paired ym
theorem yp.length   (r:yp xs us):xs.length=us.length:=_cL r
theorem yp.get:∀{xs:List V}{us:List Value}{i:Nat}{x:V},yp xs us->xs[i]? = some x->∃u,us[i]? = some u/\ym x u
 | _,_,_,_,.nil,e=>by cases e | _,_,0,_,.cons r _,e=>by simp at e;subst e;exact⟨_,rfl,r⟩ | _,_,i+1,x,.cons _ t,e=>by
  obtain⟨u,h1,h2⟩:=yp.get   t (by exact e);exact⟨u,by exact h1,h2⟩
theorem yp.set   (r:ym x u):∀{xs:List V}{us:List Value}(i:Nat),yp xs us->yp (xs.set i x) (us.set i u)
 | _,_,_,.nil=>.nil | _,_,0,.cons _ t=>.cons r t | _,_,i+1,.cons q t=>.cons q (yp.set r i t)
theorem yp.append:∀{xs ys:List V}{us ws:List Value},yp xs us->yp ys ws->yp (xs++ys) (us++ws)
 | _,_,_,_,.nil,s=>s | _,_,_,_,.cons r t,s=>.cons r (yp.append t s)
theorem yp.take:∀{xs:List V}{us:List Value}(n:Nat),yp xs us->yp (xs.take n) (us.take n)
 | _,_,0,_=>.nil | _,_,_+1,.nil=>.nil | _,_,n+1,.cons r t=>.cons r (yp.take n t)
theorem yp.drop:∀{xs:List V}{us:List Value}(n:Nat),yp xs us->yp (xs.drop n) (us.drop n)
 | _,_,0,r=>r | _,_,_+1,.nil=>.nil | _,_,n+1,.cons _ t=>yp.drop n t
def z97:Option V->Option Value->Prop
 | some v,some u=>ym v u | none,none=>True | _,_=>False
def KV  : List (κ×V)->List (κ×Value)->Prop:=Paired λ(p:κ×V)(q:κ×Value)=>p.1=q.1/\ym p.2 q.2
noncomputable def kV:Key->V
 | .inl i=>.int i | .inr x=>.str x
inductive HO where | lst (xs:List V) | tup (xs:List V) | dK (kvs:List (Key×V)) | dT (kvs:List (List Key×V)) | set (S:Int->Bool)(n:Nat) | ins (C dx:Addr)(fs:List (Str×V)) | own (x:Addr) | xd (fs:List (Str×V)) | met (f x:Addr) | rng (lo hi:Int) | frz (o:Obj)(u:HO) | tbl (ps:Array Value) | ext (φ:Heap->Prop)
abbrev Hp:=Addr->Option HO
noncomputable def upd(H:Hp)(a:Addr)(o:HO):Hp:=λb=>if b=a then some o else H b
theorem zA    : upd H a o a=some o:=by unfold upd;rw[_g rfl]
theorem zk    (h:b≠a):upd H a o b=H b:=by unfold upd;rw[_l h]
theorem z9Q    : upd (upd H a o) a u=upd H a u:=by funext b;unfold upd;split<;>rfl
theorem zk1{H:Hp}   (h:H a=some o)(h':H b=some u)(d:o≠u):a≠b:=by intro e;subst e;rw[h]at h';exact d (_I h')
theorem yo{H:Hp}   (h:H a=some o)(h':H b=none):a≠b:=by intro e;subst e;rw[h]at h';cases h'
def zbN(h:Heap)(a:Addr)(items:Array Value):Prop:=∃o,h.get? a=some o/\o.cls=.type "tuple"/\o.dict=none/\∃n,o.data=.seq items n
theorem zbN.tup{h:Heap}{a:Addr}{items:Array Value}(x:zbN h a items):IsTup h a items:=let ⟨o,e,c,_,r⟩:=x;⟨o,e,c,r⟩
theorem zbN.new(h:Heap)(items:Array Value):zbN (h.push {cls:=.type "tuple",data:=.seq items}) h.objs.size items:=⟨_,_k _ rfl,rfl,rfl,_,rfl⟩
theorem zbN.lt    (x:zbN h a items):a<h.objs.size:=x.tup.lt
section
variable (P:Program)(w:World)
def xF(H:Hp)(h:Heap)(a:Addr):HO->Prop
 | .lst xs=>xs.length<=sizeLine/\∃(ae:List Value)(n:Nat),yp xs ae/\h.get? a=some {cls:=.type "list",data:=.seq ae.toArray n} | .tup xs=>xs.length<=sizeLine/\∃ae:List Value,yp xs ae/\zbN h a ae.toArray | .dK kvs=>kvs.length<=sizeLine/\(a==sysModules)=false/\∃vs,KV kvs vs/\h.DictOf (zH P w) a vs | .dT kvs=>kvs.length<=sizeLine/\(a==sysModules)=false/\∃xs:List (List Key×Addr×Value), Paired (λ(p:List Key×V)(q:List Key×Addr×Value)=>p.1=q.1/\H q.2.1=some (.tup (p.1.map kV))/\ym p.2 q.2.2) kvs xs/\ ∃o es ep,h.get? a=some o/\o.ExactDict/\o.data=.dict es ep/\es.toList=xs.map (entryOfKey (tupleKind (zH P w)))/\(xs.map (·.1)).Nodup | .set S n=>h.SetOf (intKind P w) a S n | .ins C dx fs=>H dx=some (.own a)/\fs.length<=1000/\dx≠a/\h.get? a=some (W.instObj C dx)/\ ∃mA,h.Ns1 dx mA/\(∀f,z97 (fs.lookup f) (mA f))/\PySem.Within mA (fs.map (·.1)) | .own _=>∃o,h.get? a=some o | .xd fs=>∃mA,h.Ns1 a mA/\∀f,z97 (fs.lookup f) (mA f) | .rng lo hi=>∃t u v,h.get? a=some {cls:=.type "range",data:=.fields #[.int lo t,.int hi u,.int 1 v]} | .frz o u=>h.get? a=some o/\xF H h a u | .tbl ps=>h.get? a=some {cls:=.none,data:=.fields ps} | .met f x=>h.get? a=some (W.methodObj (.ref f) (.ref x)) | .ext φ=>φ h/\(∃o,h.get? a=some o)/\∀h1 h2:Heap,φ h1->(∀o,h1.get? a=some o->h2.get? a=some o)->φ h2
def HOk(H:Hp)(h:Heap):Prop:=∀a o,H a=some o->xF P w H h a o
end
section
variable {P:Program}{w:World}{H H':Hp}{h h':Heap}{a:Addr}{o:HO}
theorem xF.lt(x:xF P w H h a o):a<h.objs.size:=by cases o with
 | lst xs=>obtain⟨_,_,_,_,e⟩:=x;exact _j e | tup xs=>obtain⟨_,_,_,p⟩:=x;exact p.lt | dK kvs=>obtain⟨_,_,_,_,o,_,_,e,_⟩:=x;exact _j e | dT kvs=>obtain⟨_,_,_,_,o,_,_,e,_⟩:=x;exact _j e | set S n=>obtain⟨o,_,_,_,e,_⟩:=x;exact _j e | ins C dx fs=>obtain⟨_,_,_,e,_⟩:=x;exact _j e | own y=>obtain⟨_,e⟩:=x;exact _j e | xd fs=>obtain⟨_,⟨_,_,_,e,_⟩,_⟩:=x;exact _j e | rng lo hi=>obtain⟨_,_,_,e⟩:=x;exact _j e | frz ob u=>obtain⟨e,_⟩:=x;exact _j e | tbl ps=>exact _j (x) | met f y=>exact _j (x) | ext φ=>obtain⟨_,⟨_,e⟩,_⟩:=x;exact _j e
theorem Paired.mapP   : ∀{l₁:List α}{l₂:List β},Paired F l₁ l₂->(∀a b,F a b->G a b)->Paired G l₁ l₂
 | _,_,.nil,_=>.nil | _,_,.cons r t,f=>.cons (f _ _ r) (Paired.mapP t f)
theorem xF.stay(x:xF P w H h a o)(k:∀b u,(b=a\/H b=some (.own a))->h.get? b=some u->h'.get? b=some u) (ho:∀b,H b=some (.own a)->H' b=some (.own a))(ht:∀b xs,H b=some (.tup xs)->H' b=some (.tup xs)):xF P w H' h' a o:=by induction o with
 | lst xs=>obtain⟨z,ae,n,r,e⟩:=x;exact⟨z,ae,n,r,k _ _ (.inl rfl) e⟩ | tup xs=>obtain⟨z,ae,r,ob,e,c⟩:=x;exact⟨z,ae,r,ob,k _ _ (.inl rfl) e,c⟩ | dK kvs=>obtain⟨z,y,vs,r,ob,es,ep,e,c⟩:=x;exact⟨z,y,vs,r,ob,es,ep,k _ _ (.inl rfl) e,c⟩ | dT kvs=>
  obtain⟨z,y,xs,r,ob,es,ep,e,c⟩:=x;exact⟨z,y,xs,Paired.mapP r λp q z=>⟨z.1,ht _ _ z.2.1,z.2.2⟩,ob,es,ep,k _ _ (.inl rfl) e,c⟩ | set S n=>obtain⟨ob,es,ep,t,e,c⟩:=x;exact⟨ob,es,ep,t,k _ _ (.inl rfl) e,c⟩ | ins C dx fs=>
  obtain⟨d,z,ne,e,mA,⟨od,es,ep,e2,c⟩,r⟩:=x;exact⟨ho _ d,z,ne,k _ _ (.inl rfl) e,mA,⟨od,es,ep,k _ _ (.inr d) e2,c⟩,r⟩ | own y=>obtain⟨ob,e⟩:=x;exact⟨ob,k _ _ (.inl rfl) e⟩ | xd fs=>obtain⟨mA,⟨od,es,ep,e,c⟩,r⟩:=x;exact⟨mA,⟨od,es,ep,k _ _ (.inl rfl) e,c⟩,r⟩ | rng lo hi=>obtain⟨t,u,v,e⟩:=x;exact⟨t,u,v,k _ _ (.inl rfl) e⟩ | frz ob u ih=>obtain⟨e,q⟩:=x;exact⟨k _ _ (.inl rfl) e,ih q⟩ | tbl ps=> exact k a _ (.inl rfl) x | met f y=> exact k a _ (.inl rfl) x | ext φ=>obtain⟨p,⟨o,e⟩,st⟩:=x;exact⟨st _ _ p λo q=>k _ _ (.inl rfl) q,⟨o,k _ _ (.inl rfl) e⟩,st⟩
theorem HOk.lt(x:HOk P w H h)(e:H a=some o):a<h.objs.size:=(x a o e).lt
theorem HOk.fresh(x:HOk P w H h)(e:h.objs.size<=a):H a=none:=by cases q:H a with
 | none=>rfl | some u=>exact absurd (_v (x.lt q) e) (_aB _)
theorem HOk.kept(x:HOk P w H h)(k:∀b u,h.get? b=some u->h'.get? b=some u):HOk P w H h':=λa o e=> (x a o e).stay (λb u _ q=>k b u q) (λ_ q=>q) λ_ _ q=>q
theorem HOk.laid(x:HOk P w H h)(k:∀b u,h.get? b=some u->h'.get? b=some u)(hp:h.objs.size<=a)(new:xF P w (upd H a o) h' a o):HOk P w (upd H a o) h':=λb u e=>by
 have hn:=x.fresh hp;by_cases hb:b=a;·subst hb;rw[zA]at e;cases e;exact new
 ·rw[zk hb]at e;exact (x b u e).stay (λc v _ q=>k c v q) (λc q=>by rw[zk (yo q hn)];exact q) λc xs q=>by rw[zk (yo q hn)];exact q
end
def Rd(H:Hp)(a:Addr)(u:HO):Prop:=H a=some u\/∃o,H a=some (.frz o u)
theorem Rd.ok       (r:Rd H a u)(x:HOk P w H h):xF P w H h a u:=by
 rcases r with r | ⟨o,r⟩;·exact x a u r
 ·obtain⟨_,q⟩:=x a _ r;exact q
def Mut:Option HO->Prop
 | some (.lst _)=>True | some (.dK _)=>True | some (.dT _)=>True | some (.set _ _)=>True | some (.ins _ _ _)=>True | some (.ext _)=>True | _=>False
section
variable {P:Program}{w:World}{H:Hp}{h h':Heap}{x e:Addr}{o':HO}
theorem HOk.write(ok:HOk P w H h)(mu:Mut (H x))(he:e=x\/H e=some (.own x))(k:∀b u,b≠e->h.get? b=some u->h'.get? b=some u)(fB:∃u,h'.get? e=some u) (new:xF P w (upd H x o') h' x o'):HOk P w (upd H x o') h':=λb u q=>by
 have fO:∀c y,H c=some (.own y)->c≠x:=λc y r z=>by subst z;rw[r]at mu;exact mu
 by_cases hb:b=x;·subst hb;rw[zA]at q;cases q;exact new
 ·rw[zk hb]at q;by_cases eE:b=e
  ·have q':H b=some (.own x):=by
    rcases he with z | z;·exact absurd (eE.trans z) hb
    ·rw[eE];exact z
   rw[q]at q';cases q';obtain⟨v,hv⟩:=fB;exact⟨v,by rw[eE];exact hv⟩
  ·refine (ok b u q).stay (λc v hc r=>k c v ?_ r) (λc r=>by rw[zk (fO c b r)];exact r) λc xs r=>by rw[zk ((λc xs r z=>by subst z;rw[r]at mu;exact mu) c xs r)];exact r
   rcases hc with rfl | hc;·exact eE
   ·rintro rfl;rcases he with z | z;·exact fO c b hc z
    ·rw[hc]at z;cases z;exact hb rfl
end
structure Un(fs ex:List Addr)(H H':Hp)(h h':Heap):Prop where
 keep:∀b o,h.get? b=some o->H b=none->b∉fs->b∉ex->h'.get? b=some o
 slot:∀b o,h.get? b=some o->H b=none->b∈fs->b∉ex->∃sl,h'.get? b=some {o with slots:=sl}
 free:∀b o,h.get? b=some o->H b=none->b∉ex->H' b=none
 there:∀b o,h.get? b=some o->b∉ex->∃o',h'.get? b=some o'
 tups:∀b xs,H b=some (.tup xs)->H' b=some (.tup xs)
 frzs:∀b o u,H b=some (.frz o u)->H' b=some (.frz o u)
 tbls:∀b ps,H b=some (.tbl ps)->∃more,H' b=some (.tbl (ps++more))
section
variable {fs fC ex sk:List Addr}{H H1 H2:Hp}{h h1 h2 h':Heap}{a x e:Addr}{o:HO}
theorem Un.any(u:Un fs ex H H1 h h1)   (q:h.get? b=some ob)(n:H b=none)(hx:b∉ex):∃sl,h1.get? b=some {ob with slots:=sl}:=by
 by_cases hb:b∈fs;·exact u.slot b ob q n hb hx
 ·exact⟨ob.slots,u.keep b ob q n hb hx⟩
theorem Un.kept(k:∀b u,h.get? b=some u->h'.get? b=some u):Un fs ex H H h h':= ⟨λb ob q _ _ _=>k b ob q,λb ob q _ _ _=>⟨ob.slots,k b ob q⟩,λ_ _ _ n _=>n,λb ob q _=>⟨ob,k b ob q⟩,λ_ _ q=>q,λ_ _ _ q=>q,λ_ ps q=>⟨#[],by rw[q];rfl⟩⟩
theorem Un.refl:Un fs ex H H h h:=Un.kept λ_ _ q=>q
theorem Un.laid(k:∀b u,h.get? b=some u->h'.get? b=some u)(hp:h.objs.size<=a)(hn:H a=none):Un fs ex H (upd H a o) h h' where
 keep:=λb u q _ _ _=>k b u q;slot:=λb u q _ _ _=>⟨u.slots,k b u q⟩;free:=λb u q n _=>by rw[zk (_t (_v (_j q) hp))];exact n
 there:=λb u q _=>⟨u,k b u q⟩;tups:=λb xs q=>by rw[zk (yo q hn)];exact q
 frzs:=λb u xs q=>by rw[zk (yo q hn)];exact q
 tbls:=λb ps q=>⟨#[],by rw[zk (yo q hn),q];rfl⟩
theorem Un.write(mu:Mut (H x))(he:e=x\/H e=some (.own x))(k:∀b u,b≠e->h.get? b=some u->h'.get? b=some u)(fB:∃u,h'.get? e=some u):Un fs ex H (upd H x o) h h':=by
 have hx:∀b,H b=none->b≠x:=λb n z=>by subst z;rw[n]at mu;exact mu
 have hb:∀b,H b=none->b≠e:=λb n z=>by
  subst z;rcases he with r | r;·exact hx b n r
  ·rw[n]at r;cases r
 have hm:∀b u,H b=some u->¬ Mut (some u)->b≠x:=λb u q nm z=>by subst z;rw[q]at mu;exact nm mu
 refine⟨λb u q n _ _=>k b u (hb b n) q,λb u q n _ _=>⟨u.slots,k b u (hb b n) q⟩,λb u q n _=>by rw[zk (hx b n)];exact n,λb u q _=>?_, λb xs q=>by rw[zk (hm b _ q λz=>z)];exact q,λb u xs q=>by rw[zk (hm b _ q λz=>z)];exact q,λb ps q=>⟨#[],by rw[zk (hm b _ q λz=>z),q];rfl⟩⟩;by_cases eE:b=e;·subst eE;exact fB
 ·exact⟨u,k b u eE q⟩
end
noncomputable def trk(h:Heap)(H:Hp):List Addr:=(List.range h.objs.size).filter λa=>(H a).isSome
noncomputable def zha(h:Heap)(H:Hp):Heap:=W.hideAll h (trk h H)
theorem z9j(h:Heap)(H:Hp):(zha h H).objs.size=h.objs.size:=W.hideAll_size _ _
theorem zcF     (e:h.get? b=some o)(n:H b=none):(zha h H).get? b=some o:= W.hideAll_get _ e λhm=>by
  have q  := (_bZ.mp hm).2;rw[n]at q;cases q
theorem zh0     (e:(zha h H).get? b=some o):h.get? b=some o/\H b=none:=by
 have e'  := W.of_hideAll (trk h H) e;refine⟨e',?_⟩;cases q:H b with
 | none=>rfl | some x=>
  have z:(zha h H).get? b=none:=W.hideAll_none (trk h H) (_bZ.mpr ⟨_X.mpr (_j e'),by simp[q]⟩);rw[z]at e;cases e
noncomputable def zgo(g h:Heap)(L:Addr):List (Addr×Obj):=(List.range h.objs.size).filterMap λa=>if a=L\/(g.get? a).isSome=true then none else (h.get? a).map λo=>(a,o)
noncomputable def vF(g h:Heap)(L d:Addr):List (Addr×Obj):=(zgo g h L).filter λp=>decide (p.1≠d)
structure Mod(K:W.Frag)(mg:Str->Option Value)(base:Heap):Prop where
 kin:K.In base
 glob:base.Ns mainGlobals mg
 blt:∃mb,base.Ns builtinsNs mb/\∀x:Str,x≠"__name__"->mb x=bootBuiltins x
 nolimit:base.NoLimit
structure Cx where
 prog:Program
 w:World
 K:W.Frag
 mg:Str->Option Value
 base:Heap
 A:Around
 N:List Str
 s₀:Shared
 H₀:Hp
 env:Env
 outer:List Env
 stack:List Env
 ex:List Addr
 fn:Str->Bool
 calm:Bool
 pn:List (Addr×Obj)
 xe:Value->Shared->Prop
noncomputable def frs(l:List Env):List Addr:=l.filterMap (·.frame)
noncomputable abbrev Cx.fs(X:Cx):List Addr:=frs X.outer
def Vis(sc:Scope)(x:Str):Prop:=sc.names.lookup x=some .local\/sc.names.lookup x=some .cell\/sc.names.lookup x=some .free
def Loc(sc:Scope)(x:Str):Prop:=sc.names.lookup x=some .local\/sc.names.lookup x=some .cell
def zmd(env:Env)(h:Heap)(m:Str->Option Value)(x:Str)(u:Value):Prop:= (env.kindOf x=some .local/\m x=some u)\/((env.kindOf x=some .cell\/env.kindOf x=some .free)/\∃c,env.cells.lookup x=some c/\h.IsCell c (some u))
structure Cx.Ok(X:Cx):Prop where
 mod:Mod X.K X.mg X.base
 kind:X.env.scope.kind=.function
 glob:X.env.globals=mainGlobals
 blt:X.env.builtins=builtinsNs
 above:X.s₀.heap.objs.size<=X.env.locals
 inj:∀x y c,X.env.cells.lookup x=some c->X.env.cells.lookup y=some c->x=y
 has:∀x,(X.env.kindOf x=some .cell\/X.env.kindOf x=some .free)->∃c,X.env.cells.lookup x=some c
 cab:∀x c,X.fn x=true->X.env.cells.lookup x=some c->X.s₀.heap.objs.size<=c
 hd:X.calm=true->X.A.handled=none
 frames:X.A.frames=some X.stack
 stk:X.stack=X.outer\/(X.stack=X.env::X.outer/\X.env.frame=some X.env.locals)
 exf:∀b∈X.ex,b≠X.env.locals/\∀x c,X.env.cells.lookup x=some c->c≠b
 bs:∀b o,X.base.get? b=some o->X.s₀.heap.get? b=some o/\X.H₀ b=none
 bsz:X.base.objs.size<=X.s₀.heap.objs.size
 noex:∀b o,X.base.get? b=some o->b∉X.ex
 exfs:∀b∈X.ex,b∉X.fs
 funs:X.s₀.heap.FunFrames X.base X.outer
 frf:∀b∈X.fs,X.H₀ b=none
structure Inv(X:Cx)(ac:List (Addr×Obj))(O:List (Option V))(H:Hp)(s:Shared):Prop where
 ok:X.Ok
 os:s.os=X.s₀.os
 bare:AllBare s.gens
 base:Un X.fs X.ex X.H₀ H X.s₀.heap s.heap
 loc:∃m,s.heap.Ns X.env.locals m/\∀(i:Nat)(x:Str)(v:V),X.N[i]? = some x->O[i]? = some (some v)->Vis X.env.scope x->∃u,ym v u/\zmd X.env s.heap m x u
 cell:∀x c,X.env.cells.lookup x=some c->∃v,s.heap.IsCell c v
 free:H X.env.locals=none
 freeC:∀x c,X.env.cells.lookup x=some c->H c=none
 pin:∀p∈X.pn++ac,s.heap.get? p.1=some p.2/\H p.1=none/\p.1≠X.env.locals/\p.1∉X.fs/\∀v,p.2.data≠.cell v
 hok:HOk X.prog X.w H s.heap
 len:O.length=X.N.length
section
variable {X:Cx}{ac:List (Addr×Obj)}{O:List (Option V)}{H H':Hp}{s:Shared}{h':Heap}
theorem Cx.Ok.nofr(ok:X.Ok)   (e:X.base.get? b=some o):b∉X.fs:=λhb=>by
 have:=(ok.funs.mem hb).1;rw[e]at this;cases this
theorem Inv.bs(I:Inv X ac O H s):∀b o,X.base.get? b=some o->s.heap.get? b=some o/\H b=none:=λb o e=> ⟨I.base.keep b o (I.ok.bs b o e).1 (I.ok.bs b o e).2 (I.ok.nofr e) (I.ok.noex b o e),I.base.free b o (I.ok.bs b o e).1 (I.ok.bs b o e).2 (I.ok.noex b o e)⟩
theorem Inv.bk(I:Inv X ac O H s):∀b o,X.base.get? b=some o->s.heap.get? b=some o:=λb o e=>(I.bs b o e).1
theorem Inv.mod(I:Inv X ac O H s):Mod X.K X.mg X.base:=I.ok.mod
theorem Inv.kIn(I:Inv X ac O H s):X.K.In s.heap:=I.ok.mod.kin.keeps I.bk
theorem Inv.fr(I:Inv X ac O H s):∃m,Fr X.base X.env.locals s.heap m:= let ⟨m,hn,_⟩:=I.loc;⟨m,hn,I.bk,_al I.ok.bsz I.ok.above⟩
theorem Inv.lt(I:Inv X ac O H s):X.env.locals<s.heap.objs.size:=let ⟨_,hn,_⟩:=I.loc;hn.lt
theorem Inv.sz(I:Inv X ac O H s):X.s₀.heap.objs.size<=s.heap.objs.size:=_al I.ok.above (_ax I.lt)
theorem Inv.nofs(I:Inv X ac O H s){a:Addr}(h:s.heap.objs.size<=a):a∉X.fs:=λhb=>by
 obtain⟨_,o,ho,_⟩:=I.ok.funs.mem hb;exact absurd (_v (_j ho) (_al I.sz h)) (_aB _)
theorem Inv.cne(I:Inv X ac O H s):∀x c,X.env.cells.lookup x=some c->c≠X.env.locals:=λx c e z=>by
 obtain⟨v,o,ho,hd⟩:=I.cell x c e;obtain⟨m,⟨o',es,ep,bE,dU,_⟩,_⟩:=I.loc;rw[z,bE]at ho;cases ho;rw[dU]at hd;cases hd
theorem Inv.funs(I:Inv X ac O H s):s.heap.FunFrames X.base X.outer:=(show ∀(l:List Env),(∀b∈frs l,b∈X.fs)->X.s₀.heap.FunFrames X.base l->s.heap.FunFrames X.base l from by
  intro l;induction l with
  | nil=>intro _ _;trivial | cons env r ih=>
   intro hs hl;obtain⟨hk,⟨L,o,hf,hn,ho,hd⟩,hr⟩:=hl;have hL  := hs L (by unfold frs;rw[_bS,hf];exact _O);obtain⟨sl,e⟩:=I.base.slot L o ho (I.ok.frf L hL) hL λz=>I.ok.exfs L z hL;exact⟨hk,⟨L,_,hf,hn,e,hd⟩,ih (λb hb=>hs b (by unfold frs;rw[_bS,hf];exact _G _ hb)) hr⟩) X.outer (λ_ hb=>hb) I.ok.funs
theorem Inv.stack(I:Inv X ac O H s):s.heap.FunFrames X.base X.stack:=by
 rcases I.ok.stk with e | ⟨e,hf⟩;·rw[e];exact I.funs
 ·rw[e];obtain⟨m,hn,_⟩:=I.loc;exact .cons (by rw[I.ok.kind];decide) hf hn (Heap.get?_none_of_le (_al I.ok.bsz I.ok.above)) I.funs
theorem Inv.stkSub(I:Inv X ac O H s):∀b∈frs X.stack,b∈X.env.locals::X.fs:=λb hb=>by
 rcases I.ok.stk with e | ⟨e,hf⟩;·rw[e]at hb;exact _G _ hb
 ·rw[e]at hb;unfold frs at hb;rw[_bS,hf]at hb;exact hb
theorem Inv.stkFree(I:Inv X ac O H s):∀b∈frs X.stack,H b=none:=λb hb=>by
 rcases _n.mp (I.stkSub b hb) with e | hb;·rw[e];exact I.free
 ·obtain⟨_,o,ho,_⟩:=I.ok.funs.mem hb;exact I.base.free b o ho (I.ok.frf b hb) λz=>I.ok.exfs b z hb
theorem Inv.step{g':Array GenState}{t':Nat}{d':Drawn}{ch:List Addr}(I:Inv X ac O H s) (dC:∀b∈ch,(b∈X.ex\/X.s₀.heap.objs.size<=b)/\b≠X.env.locals/\(∀x c,X.env.cells.lookup x=some c->c≠b)/\∀p∈X.pn++ac,p.1≠b) (keep:∀b o,b≠X.env.locals->b∉X.fs->b∉ch->s.heap.get? b=some o->H b=none->h'.get? b=some o) (slot:∀b o,b≠X.env.locals->b∈X.fs->b∉ch->s.heap.get? b=some o->H b=none->∃sl,h'.get? b=some {o with slots:=sl})(free:∀b o,b∉ch->s.heap.get? b=some o->H b=none->H' b=none) (there:∀b o,b∉ch->s.heap.get? b=some o->∃o',h'.get? b=some o') (tups:∀b xs,H b=some (.tup xs)->H' b=some (.tup xs))(frzs:∀b o u,H b=some (.frz o u)->H' b=some (.frz o u))(tbls:∀b ps,H b=some (.tbl ps)->∃more,H' b=some (.tbl (ps++more))) (ns:∀m,s.heap.Ns X.env.locals m->h'.Ns X.env.locals m)(hok:HOk X.prog X.w H' h')(hg:AllBare g'): Inv X ac O H' {s with heap:=h',gens:=g',drawn:=d',toks:=t'}:=by
 have mq:∀b o,X.s₀.heap.get? b=some o->b≠X.env.locals:=λb o e=>_t (_v (_j e) I.ok.above);have im:∀b o,X.s₀.heap.get? b=some o->b∉X.ex->b∉ch:=λb o e hx hb=>by
  rcases (dC b hb).1 with z | z;·exact hx z
  ·exact absurd (_v (_j e) z) (_aB _)
 have dW:∀x c,X.env.cells.lookup x=some c->∀v,s.heap.IsCell c v->h'.IsCell c v:=λx c e v ⟨o,ho,hd⟩=>by
  have fP  := λz=>(dC c z).2.2.1 x c e rfl;by_cases hc:c∈X.fs
  ·obtain⟨sl,q⟩:=slot c o (I.cne x c e) hc fP ho (I.freeC x c e);exact⟨_,q,hd⟩
  ·exact⟨o,keep c o (I.cne x c e) hc fP ho (I.freeC x c e),hd⟩
 refine⟨I.ok,I.os,hg,⟨λb o e n hb hx=>(keep b o (mq b o e) hb (im b o e hx) (I.base.keep b o e n hb hx) (I.base.free b o e n hx)),λb o e n hb hx=>?_,λb o e n hx=>?_,λb o e hx=>?_,λb xs e=>tups b xs (I.base.tups b xs e),λb o xs e=>frzs b o xs (I.base.frzs b o xs e),λb ps e=>?_⟩,?_,λx c e=>?_,?_,λx c e=>?_,λp hp=>?_,hok,I.len⟩
 ·obtain⟨sl,e1⟩:=I.base.slot b o e n hb hx;obtain⟨mr,e2⟩:=slot b _ (mq b o e) hb (im b o e hx) e1 (I.base.free b o e n hx);exact⟨mr,e2⟩
 ·obtain⟨o',e1⟩:=I.base.there b o e hx;exact free b o' (im b o e hx) e1 (I.base.free b o e n hx)
 ·obtain⟨o',e1⟩:=I.base.there b o e hx;exact there b o' (im b o e hx) e1
 ·obtain⟨m1,e1⟩:=I.base.tbls b ps e;obtain⟨m2,e2⟩:=tbls b _ e1;exact⟨m1++m2,by rw[e2,Array.append_assoc]⟩
 ·obtain⟨m,hn,hl⟩:=I.loc;refine⟨m,ns m hn,λi x v e1 e2 e3=>?_⟩;obtain⟨u,r,l⟩:=hl i x v e1 e2 e3;refine⟨u,r,?_⟩;rcases l with l | ⟨k,c,e,z⟩;·exact .inl l
  ·exact .inr ⟨k,c,e,dW x c e _ z⟩
 ·obtain⟨v,z⟩:=I.cell x c e;exact⟨v,dW x c e v z⟩
 ·obtain⟨m,⟨o,_,_,ho,_⟩,_⟩:=I.loc;exact free _ o (λz=>(dC _ z).2.1 rfl) ho I.free
 ·obtain⟨v,o,ho,hd⟩:=I.cell x c e;exact free c o (λz=>(dC c z).2.2.1 x c e rfl) ho (I.freeC x c e)
 ·obtain⟨e,n,ne,nf,d⟩:=I.pin p hp;have fP  := λz=>(dC p.1 z).2.2.2 p hp rfl;exact⟨keep p.1 p.2 ne nf fP e n,free p.1 p.2 fP e n,ne,nf,d⟩
theorem Inv.un  (I:Inv X ac O H s)(u:Un X.fs [] H H' s.heap h')(hok:HOk X.prog X.w H' h'):Inv X ac O H' {s with heap:=h',toks:=t'}:=by
 obtain⟨m,⟨o,es,ep,ho,r⟩,_⟩:=id I.loc;obtain⟨sl,hL⟩:=u.any ho I.free (by simp);exact I.step   (ch:=[]) (λ_ z=>nomatch z) (λb o _ hb _ e n=>u.keep b o e n hb (by simp)) (λb o _ hb _ e n=>u.slot b o e n hb (by simp)) (λb o _ e n=>u.free b o e n (by simp)) (λb o _ e=>u.there b o e (by simp)) u.tups u.frzs u.tbls (λm' hm=>by
  obtain⟨o',bL,cK,bE,r'⟩:=hm;rw[ho]at bE;cases bE;exact⟨_,bL,cK,hL,r'⟩) hok I.bare
theorem Inv.call     (I:Inv X ac O H s)(u:Un (frs X.stack) ch H H' s.heap h')(hok:HOk X.prog X.w H' h')(hg:AllBare g') (dC:∀b∈ch,(b∈X.ex\/X.s₀.heap.objs.size<=b)/\b≠X.env.locals/\(∀x c,X.env.cells.lookup x=some c->c≠b)/\∀p∈X.pn++ac,p.1≠b): Inv X ac O H' {s with heap:=h',gens:=g',drawn:=d',toks:=t'}:=by
 obtain⟨m,⟨o,es,ep,ho,r⟩,_⟩:=id I.loc;obtain⟨sl,hL⟩:=u.any ho I.free λz=>(dC _ z).2.1 rfl;exact I.step  dC (λb o hL hb hc e n=>u.keep b o e n (λz=>(_n.mp (I.stkSub b z)).elim hL hb) hc) (λb o _ _ hc e n=>u.any e n hc) (λb o hc e n=>u.free b o e n hc) (λb o hc e=>u.there b o e hc) u.tups u.frzs u.tbls (λm' hm=>by
  obtain⟨o',bL,cK,bE,r'⟩:=hm;rw[ho]at bE;cases bE;exact⟨_,bL,cK,hL,r'⟩) hok hg
theorem Inv.turned   (I:Inv X ac O H s)(k:∀b o,b≠it->s.heap.get? b=some o->h'.get? b=some o)(hn:H it=none)(hL:it≠X.env.locals) (h1:it∈X.ex\/X.s₀.heap.objs.size<=it)(h2:∀x c,X.env.cells.lookup x=some c->c≠it)(h3:∀p∈X.pn++ac,p.1≠it):Inv X ac O H {s with heap:=h',toks:=t'}:=by
 have fQ:∀b u,H b=some u->b≠it:=λb u e z=>by rw[z,hn]at e;cases e
 refine I.step   (ch:=[it]) (λb hb=>?_) (λb o _ _ hc e _=>k b o (λz=>hc (by simp[z])) e) (λb o _ _ hc e _=>⟨o.slots,k b o (λz=>hc (by simp[z])) e⟩) (λ_ _ _ _ n=>n) (λb o hc e=>⟨o,k b o (λz=>hc (by simp[z])) e⟩) (λ_ _ e=>e) (λ_ _ _ e=>e) (λb ps e=>⟨#[],by rw[e];rfl⟩) (λm hm=>?_) (λb u e=>?_) I.bare
 ·have e:b=it:=by simpa using hb
  subst e;exact⟨h1,hL,h2,h3⟩
 ·obtain⟨o,es,ep,ho,r⟩:=hm;exact⟨o,es,ep,k _ o (_ba hL) ho,r⟩
 ·refine (I.hok b u e).stay (λc v hc q=>k c v ?_ q) (λ_ q=>q) λ_ _ q=>q;rcases hc with z | z;·rw[z];exact fQ b u e
  ·exact fQ c _ z
theorem Inv.tok(I:Inv X ac O H s)(t:Nat):Inv X ac O H {s with toks:=t}:=I.un   Un.refl I.hok
theorem Inv.kept  (I:Inv X ac O H s)(k:∀b u,s.heap.get? b=some u->h'.get? b=some u):Inv X ac O H {s with heap:=h',toks:=t'}:=I.un (Un.kept k) (I.hok.kept k)
theorem Inv.laid {a:Addr}   (I:Inv X ac O H s) (k:∀b u,s.heap.get? b=some u->h'.get? b=some u) (hp:s.heap.objs.size<=a) (new:xF X.prog X.w (upd H a o) h' a o): Inv X ac O (upd H a o) {s with heap:=h',toks:=t'}:=I.un (Un.laid k hp (I.hok.fresh hp)) (I.hok.laid k hp new)
theorem Inv.write    (I:Inv X ac O H s) (mu:Mut (H x)) (he:e=x\/H e=some (.own x)) (k:∀b u,b≠e->s.heap.get? b=some u->h'.get? b=some u) (fB:∃u,h'.get? e=some u) (new:xF X.prog X.w (upd H x o) h' x o):Inv X ac O (upd H x o) {s with heap:=h',toks:=t'}:=I.un (Un.write mu he k fB) (I.hok.write mu he k fB new)
theorem Inv.weak  (I:Inv X ac O H s)(hl:O'.length=O.length)(w:∀(i:Nat) v,O'[i]? = some (some v)->O[i]? = some (some v)):Inv X ac O' H s:= ⟨I.ok,I.os,I.bare,I.base,let ⟨m,hn,fR⟩:=I.loc;⟨m,hn,λi x v e1 e2 e3=>fR i x v e1 (w i v e2) e3⟩,I.cell,I.free,I.freeC,I.pin,I.hok,hl.trans I.len⟩
theorem Inv.pins_of  (I:Inv X ac O H s)(h:∀p∈pins',s.heap.get? p.1=some p.2/\H p.1=none/\p.1≠X.env.locals/\p.1∉X.fs/\∀v,p.2.data≠.cell v):Inv X pins' O H s:= ⟨I.ok,I.os,I.bare,I.base,I.loc,I.cell,I.free,I.freeC,λp hp=>(_C.mp hp).elim (λz=>I.pin p (_am _ z)) (h p),I.hok,I.len⟩
theorem z79{N:List Str}(hN:N.Nodup){i j:Nat}  (a:N[i]? = some x)(b:N[j]? = some x):i=j:=by
 obtain⟨h1,e1⟩:=_d.mp a;obtain⟨h2,e2⟩:=_d.mp b;exact (_bN hN).mp (e1.trans e2.symm)
theorem jK         (I:Inv X ac O H s)(hN:X.N.Nodup)(hi:X.N[i]? = some x)(hx:Loc X.env.scope x)(r:ym v u) (h:∀s',Inv X ac (O.set i (some v)) H s'->(∃a,Heap.SameBut a s.heap s'.heap/\(a=X.env.locals\/X.env.cells.lookup x=some a))->Q () s')(hf:autoParam (X.fn x=true\/X.env.scope.names.lookup x=some .local) aLr):wpAny M A (storeName X.env x u) Q E s:=by
 obtain⟨m,hn,hl⟩:=id I.loc;have mw:i<O.length:=by rw[I.len];exact (_d.mp hi).1
 have cne:=I.cne;have cF:∀{a:Addr}{h':Heap},(∃o,s.heap.get? a=some o/\H a=none)->Heap.SameBut a s.heap h'->HOk X.prog X.w H h':=λ{a h'} ha hs b ob e=>by
  obtain⟨_,_,dX⟩:=ha;refine (I.hok b ob e).stay (λc w' hc q=>(hs.2 c ?_).trans q) (λ_ q=>q) λ_ _ q=>q;rintro rfl;rcases hc with rfl | hc;·rw[dX]at e;cases e
  ·rw[dX]at hc;cases hc
 rcases hx with hk | hk
 ·refine wpAny_storeName_local hk hn (λh' nV hs=>?_) (by rw[I.ok.kind];rfl);obtain⟨oL,_,_,nW,_⟩:=id hn;refine h _ ⟨I.ok,I.os,I.bare,⟨λb o e n hb hx=>?_,λb o e n hb hx=>?_,I.base.free,λb o e hx=>?_,I.base.tups,I.base.frzs,I.base.tbls⟩,⟨_,nV,λj y v' e1 e2 e3=>?_⟩,λy c e=>?_,I.free,I.freeC,λp hp=>?_,cF ⟨oL,nW,I.free⟩ hs,by simpa using I.len⟩ ⟨_,hs,.inl rfl⟩;·exact (hs.2 b (_t (_v (_j e) I.ok.above))).trans (I.base.keep b o e n hb hx)
  ·obtain⟨sl,e1⟩:=I.base.slot b o e n hb hx;exact⟨sl,(hs.2 b (_t (_v (_j e) I.ok.above))).trans e1⟩
  ·obtain⟨o',e1⟩:=I.base.there b o e hx;exact⟨o',(hs.2 b (_t (_v (_j e) I.ok.above))).trans e1⟩
  ·by_cases hj:j=i
   ·subst hj;rw[hi]at e1;cases e1;rw[_ac mw]at e2;cases e2;exact⟨u,r,.inl ⟨hk,by simp⟩⟩
   ·rw[_Q (_ba hj)]at e2;obtain⟨u',r',q⟩:=hl j y v' e1 e2 e3;refine⟨u',r',?_⟩;rcases q with⟨k,e⟩ | ⟨k,c,e,z⟩
    ·refine .inl ⟨k,?_⟩;have:y≠x:=λe=>hj (z79 hN e1 (e ▸ hi));simp[this,e]
    ·exact .inr ⟨k,c,e,z.sameBut hs (cne y c e)⟩
  ·obtain⟨w',z⟩:=I.cell y c e;exact⟨w',z.sameBut hs (cne y c e)⟩
  ·obtain⟨e,n,ne,nf,d⟩:=I.pin p hp;exact⟨(hs.2 p.1 ne).trans e,n,ne,nf,d⟩
 ·have iP:X.fn x=true:=by
   rcases hf with z | z;·exact z
   ·rw[z]at hk;cases hk
  obtain⟨c,hc⟩:=I.ok.has x (.inl hk);obtain⟨w',z⟩:=I.cell x c hc;refine wpAny_storeName_cell I.ok.kind hk hc z (λh' cu hs=>?_);obtain⟨oc,mB,iQ⟩:=id z;refine h {s with heap:=h'} ⟨I.ok,I.os,I.bare,⟨λb o e n hb hx=>((hs.2 b (_t (_v (_j e) (I.ok.cab x c iP hc)))).trans (I.base.keep b o e n hb hx)),λb o e n hb hx=>?_,I.base.free,λb o e hx=>?_,I.base.tups,I.base.frzs,I.base.tbls⟩,⟨m,hn.sameBut hs (_ba (cne x c hc)),λj y v' e1 e2 e3=>?_⟩,λy c' e=>?_,I.free,I.freeC,λp hp=>?_,cF ⟨oc,mB,I.freeC x c hc⟩ hs,by simpa using I.len⟩ ⟨c,hs,.inr hc⟩
  ·obtain⟨sl,e1⟩:=I.base.slot b o e n hb hx;exact⟨sl,(hs.2 b (_t (_v (_j e) (I.ok.cab x c iP hc)))).trans e1⟩
  ·obtain⟨o',e1⟩:=I.base.there b o e hx;exact⟨o',(hs.2 b (_t (_v (_j e) (I.ok.cab x c iP hc)))).trans e1⟩
  ·by_cases hj:j=i
   ·subst hj;rw[hi]at e1;cases e1;rw[_ac mw]at e2;cases e2;exact⟨u,r,.inr ⟨.inl hk,c,hc,cu⟩⟩
   ·rw[_Q (_ba hj)]at e2;obtain⟨u',r',q⟩:=hl j y v' e1 e2 e3;refine⟨u',r',?_⟩;rcases q with q | ⟨k,c',e,z'⟩;·exact .inl q
    ·refine .inr ⟨k,c',e,z'.sameBut hs ?_⟩;rintro rfl;exact hj (z79 hN e1 (I.ok.inj _ _ _ e hc ▸ hi))
  ·by_cases hcc:c'=c;·subst hcc;exact⟨_,cu⟩
   ·obtain⟨w2,z2⟩:=I.cell y c' e;exact⟨w2,z2.sameBut hs hcc⟩
  ·obtain⟨e,n,ne,nf,d⟩:=I.pin p hp;refine⟨(hs.2 p.1 ?_).trans e,n,ne,nf,d⟩;intro q;rw[q,mB]at e;exact d w' (by rw[<- (_I e)];exact iQ)
theorem jG         (I:Inv X ac O H s)(hN:X.N.Nodup)(hi:X.N[i]? = some x)(hx:Loc X.env.scope x)(r:ym v u) (h:∀s',Inv X ac (O.set i (some v)) H s'->Q () s')(hf:autoParam (X.fn x=true\/X.env.scope.names.lookup x=some .local) aLr):wpAny M A (storeName X.env x u) Q E s:= jK I hN hi hx r (λs' I' _=>h s' I') hf
theorem Inv.call'   (I:Inv X ac O H s)(ho:s'.os=s.os)(u:Un (frs X.stack) ch H H' s.heap s'.heap)(hok:HOk X.prog X.w H' s'.heap)(hg:AllBare s'.gens) (dC:∀b∈ch,(b∈X.ex\/X.s₀.heap.objs.size<=b)/\b≠X.env.locals/\(∀x c,X.env.cells.lookup x=some c->c≠b)/\∀p∈X.pn++ac,p.1≠b):Inv X ac O H' s':=by
 obtain⟨h',g',d',t',o'⟩:=s';subst ho;exact I.call    u hok hg dC
end
abbrev XK:=Value->Option Addr->Hp->Prop
abbrev St:=List (Option V)
abbrev VK:=V->Hp->Prop
abbrev TE:=St->Hp->VK->Prop
abbrev TT:=St->Hp->(Bool->Hp->Prop)->Prop
abbrev TA:=St->Hp->(List V->Hp->Prop)->Prop
structure zcP where
 nx:St->Hp->Prop
 rt:VK
 bk:St->Hp->Prop:=λ_ _=>False
 ct:St->Hp->Prop:=λ_ _=>False
abbrev TS:=zcP->St->Hp->Prop
def EP(X:Cx)(ac:List (Addr×Obj))(O:St)(Q:VK)(u:Value)(s':Shared):Prop:=∃v H',Inv X ac O H' s'/\ym v u/\Q v H'
def TP(X:Cx)(ac:List (Addr×Obj))(O:St)(Q:Bool->Hp->Prop)(b:Bool)(s':Shared):Prop:=∃H',Inv X ac O H' s'/\Q b H'
def AP(X:Cx)(ac:List (Addr×Obj))(O:St)(Q:List V->Hp->Prop)(us:List Value)(s':Shared):Prop:=∃vs H',Inv X ac O H' s'/\yp vs us/\Q vs H'
def SP(X:Cx)(ac:List (Addr×Obj))(D:zcP)(f:Flow)(s':Shared):Prop:= match f with
 | .next=>∃O' H',Inv X ac O' H' s'/\D.nx O' H' | .brk=>∃O' H',Inv X ac O' H' s'/\D.bk O' H' | .cont=>∃O' H',Inv X ac O' H' s'/\D.ct O' H' | .ret u=>∃v O' H',Inv X ac O' H' s'/\ym v u/\D.rt v H'
def PE(X:Cx)(e:Expr)(t:TE):Prop:= ∀(ac:List (Addr×Obj))(s:Shared)(O:St)(H:Hp)(Q:VK),Inv X ac O H s->t O H Q->wpAny (model X.prog X.w) X.A (eval e X.env) (EP X ac O Q) X.xe s
def PT(X:Cx)(e:Expr)(t:TT):Prop:= ∀(ac:List (Addr×Obj))(s:Shared)(O:St)(H:Hp)(Q:Bool->Hp->Prop),Inv X ac O H s->t O H Q->wpAny (model X.prog X.w) X.A (isTrue e X.env (eval e X.env)) (TP X ac O Q) X.xe s
def PW(X:Cx)(e:Expr)(t:TT):Prop:= ∀(aU:Sem Value)(ac:List (Addr×Obj))(s:Shared)(O:St)(H:Hp)(Q:Bool->Hp->Prop),Inv X ac O H s->t O H Q->wpAny (model X.prog X.w) X.A (isTrue e X.env aU) (TP X ac O Q) X.xe s
theorem PW.pt    (h:PW X e t):PT X e t:=h _
def PA(X:Cx)(es:List Expr)(t:TA):Prop:= ∀(pos:Pos)(ac:List (Addr×Obj))(s:Shared)(O:St)(H:Hp)(Q:List V->Hp->Prop),Inv X ac O H s->t O H Q->wpAny (model X.prog X.w) X.A (spliced (backTo pos (starEach es X.env))) (AP X ac O Q) X.xe s
def PS(X:Cx)(st:Stmt)(t:TS):Prop:= ∀(ac:List (Addr×Obj))(s:Shared)(O:St)(H:Hp)(D:zcP),Inv X ac O H s->t D O H->wpAny (model X.prog X.w) X.A (exec st X.env) (SP X ac D) X.xe s
def PSs(X:Cx)(st:List Stmt)(t:TS):Prop:= ∀(ac:List (Addr×Obj))(s:Shared)(O:St)(H:Hp)(D:zcP),Inv X ac O H s->t D O H->wpAny (model X.prog X.w) X.A (execs st X.env) (SP X ac D) X.xe s
theorem thn   {Q Q':α->Shared->Prop}     (h:wpAny M A t Q E s)(hQ:∀a s,Q a s->Q' a s):wpAny M A t Q' E s:=_z h hQ λ_ _ x=>x
section
variable {X:Cx}
def zlO(i:Nat):TE:=λO H Q=>∃v,O[i]? = some (some v)/\Q v H
def tC(v:V):TE:=λ_ H Q=>Q v H
theorem zab   {pos:Pos}(hN:X.N[i]? = some x)(hv:Vis X.env.scope x)(hd:autoParam ((x==("__debug__":Str))=false) aDe)(ce:autoParam ((x==("__classdict__":Str))=false) aDe):PE X (.Name x pos) (zlO i):=by
 intro ac s O H Q I h;obtain⟨v,e,h⟩:=h;obtain⟨m,hn,hl⟩:=I.loc;obtain⟨u,r,l⟩:=hl i x v hN e hv;have fin:EP X ac O Q u s:=⟨v,H,I,r,h⟩;rcases l with⟨hk,hm⟩ | ⟨hk,c,hc,bT⟩;·exact wpAny_Name (wpAny_loadName_local I.ok.kind hk hn hm fin) hd
 ·rcases hk with hk | hk;·exact wpAny_Name (wpAny_loadName_cell I.ok.kind hk hc bT fin) hd
  ·exact wpAny_Name (wpAny_loadName_free I.ok.kind hk hc bT fin ce) hd
theorem zeK  : PE X (.Constant (.int i) j pos) (tC (.int i)):=λ_ _ _ H _ I h=>wpAny_Constant_int ⟨.int i,H,I.tok _,⟨_,rfl⟩,h⟩
theorem zkW  : PE X (.Constant (.bool b) j pos) (tC (.bl b)):=λ_ _ _ H _ I h=>Constant_bool ⟨.bl b,H,I,rfl,h⟩
theorem ziO  : PE X (.Constant .none j pos) (tC .non):=λ_ _ _ H _ I h=>Constant_none ⟨.non,H,I,rfl,h⟩
theorem zeh  : PE X (.Constant (.str x) j pos) (tC (.str x)):=λ_ _ _ H _ I h=>Calls.Constant_str ⟨.str x,H,I.tok _,⟨_,rfl⟩,h⟩
def Gl(X:Cx)(x:Str):Prop:=X.env.kindOf x=some .globalImplicit
theorem z1Y    {O:St}      (I:Inv X ac O H s)(hg:Gl X x)(hm:X.mg x=some u)(h:Q u s) (hd:autoParam ((x==("__debug__":Str))=false) aDe):wpAny (model X.prog X.w) X.A (eval (.Name x pos) X.env) Q E s:= Calls.Name_function_global I.ok.kind hg (Calls.loadGlobal_global (by rw[I.ok.glob];exact I.mod.glob.keeps I.bk) hm h) hd
theorem jO{E:Value->Shared->Prop}   {O:St}    {pos:Pos}  (I:Inv X ac O H s)(hg:Gl X x)(hm:X.mg x=none)(hv:bootBuiltins x=some u)(h:Q u s) (hn:autoParam (x≠"__name__") aDe)(hd:autoParam ((x==("__debug__":Str))=false) aDe):wpAny (model X.prog X.w) X.A (eval (.Name x pos) X.env) Q E s:=by
 obtain⟨mb,h1,h2⟩:=I.mod.blt;exact Calls.Name_function_global I.ok.kind hg (Calls.loadGlobal_builtin (by rw[I.ok.glob];exact I.mod.glob.keeps I.bk) hm (by rw[I.ok.blt];exact h1.keeps I.bk) ((h2 x hn).trans hv) h) hd
theorem z6s     (hg:Gl X x)(hm:X.mg x=some u)(r:ym v u)(hd:autoParam ((x==("__debug__":Str))=false) aDe):PE X (.Name x pos) (tC v):= λ_ _ _ H _ I h=>z1Y I hg hm ⟨v,H,I,r,h⟩ hd
theorem zfP    {pos:Pos}(hg:Gl X x)(hm:X.mg x=none)(hv:bootBuiltins x=some u)(r:ym v u)(hn:autoParam (x≠"__name__") aDe)(hd:autoParam ((x==("__debug__":Str))=false) aDe):PE X (.Name x pos) (tC v):= λ_ _ _ H _ I h=>jO I hg hm hv ⟨v,H,I,r,h⟩ hn hd
variable {a b:Expr}{ta tb:TE}{pos:Pos}
def PC(X:Cx)(op:CmpOp)(a b:Expr)(t:TE):Prop:= ∀(ac:List (Addr×Obj))(s:Shared)(O:St)(H:Hp)(Q:VK),Inv X ac O H s->t O H Q-> wpAny (model X.prog X.w) X.A (eval a X.env) (λv s₁=>wpAny (model X.prog X.w) X.A (eval b X.env) (λu s₂=>wpAny (model X.prog X.w) X.A (compareOp op v u) (EP X ac O Q) X.xe s₂) X.xe s₁) X.xe s
def tB(t:TE):TT:=λO H Q=>t O H λx H1=>∃c,x=.bl c/\Q c H1
theorem zj4   (h:PE X e t)(he:autoParam (∀aU,isTrue e X.env aU=(do let v <- aU;standAt e.pos;holding [v] (truthy v))) aIr):PT X e (tB t):=by
 refine λac s O H Q I hw=>isTrue_plain (thn (h ac s O H _ I hw) λv s1 ⟨x,H1,I1,r1,q1⟩=>?_) (he _);obtain⟨d,rfl,q⟩:=q1;cases r1;exact _aD ⟨H1,I1,q⟩
variable {tA io:TT}{vF:List Expr}
def zlR(t u:TT):TT:=λO H Q=>t O H λc H1=>if c=true then u O H1 Q else Q false H1
def tOr(t u:TT):TT:=λO H Q=>t O H λc H1=>if c=true then Q true H1 else u O H1 Q
def zmv(t:TT):TT:=λO H Q=>t O H λc H1=>Q (!c) H1
theorem zgf(ha:PT X a tA):PW X (.BoolOp .And [a] pos) tA:=by
 refine λwh ac s O H Q I h=>isTrue_and (thn (ha ac s O H Q I h) λc s1 e=>?_);cases c with
 | true=>exact isTrue_and_nil e | false=>exact e
theorem zio(ha:PT X a tA):PW X (.BoolOp .Or [a] pos) tA:=by
 refine λwh ac s O H Q I h=>isTrue_or (thn (ha ac s O H Q I h) λc s1 e=>?_);cases c with
 | false=>exact isTrue_or_nil e | true=>exact e
theorem zim(ha:PT X a tA)(hb:PW X (.BoolOp .And (b::vF) pos) io):PW X (.BoolOp .And (a::b::vF) pos) (zlR tA io):=by
 refine λwh ac s O H Q I h=>isTrue_and (thn (ha ac s O H _ I h) λc s1 ⟨H1,I1,q1⟩=>?_);cases c with
 | true=>exact hb wh ac s1 O H1 Q I1 q1 | false=>exact⟨H1,I1,q1⟩
theorem zkZ(ha:PT X a tA)(hb:PW X (.BoolOp .Or (b::vF) pos) io):PW X (.BoolOp .Or (a::b::vF) pos) (tOr tA io):=by
 refine λwh ac s O H Q I h=>isTrue_or (thn (ha ac s O H _ I h) λc s1 ⟨H1,I1,q1⟩=>?_);cases c with
 | true=>exact⟨H1,I1,q1⟩ | false=>exact hb wh ac s1 O H1 Q I1 q1
theorem zhM(ha:PT X a tA):PT X (.UnaryOp .Not a pos) (zmv tA):=λac s O H Q I h=>isTrue_not (ha ac s O H (λc H1=>Q (!c) H1) I h)
def zki(ta tb:TE):TE:=λO H Q=>ta O H λx H1=>∃c,x=.bl c/\if c=true then tb O H1 Q else Q (.bl false) H1
def zkM(ta:TE):TE:=λO H Q=>ta O H λx H1=>∃c,x=.bl c/\Q (.bl (!c)) H1
theorem zi6   (h:PE X a t):PE X (.BoolOp op [a] pos) t:=λac s O H Q I hw=>BoolOp_one (h ac s O H Q I hw)
theorem zhk(ha:PE X a ta)(hb:PE X (.BoolOp .And (b::vF) pos) tb):PE X (.BoolOp .And (a::b::vF) pos) (zki ta tb):=by
 refine λac s O H Q I h=>BoolOp_and (thn (ha ac s O H _ I h) λv s1 ⟨x,H1,I1,r1,q1⟩=>?_);obtain⟨c,rfl,q1⟩:=q1;cases r1;refine _aD ?_;cases c with
 | true=>exact hb ac s1 O H1 Q I1 q1 | false=>exact⟨.bl false,H1,I1,rfl,q1⟩
theorem zjf(ha:PE X a ta):PE X (.UnaryOp .Not a pos) (zkM ta):=by
 refine λac s O H Q I h=>UnaryOp_ (thn (ha ac s O H _ I h) λv s1 ⟨x,H1,I1,r1,q1⟩=>?_);obtain⟨c,rfl,q1⟩:=q1;cases r1;exact not_of (_aD ⟨.bl (!c),H1,I1,rfl,q1⟩)
def tIf(t:TT)(ta tb:TE):TE:=λO H Q=>t O H λc H1=>if c=true then ta O H1 Q else tb O H1 Q
theorem zcE  (hc:PT X c tA)(ha:PE X a ta)(hb:PE X b tb):PE X (.IfExp c a b pos) (tIf tA ta tb):=by
 refine λac s O H Q I h=>wpAny_IfExp (thn (hc ac s O H _ I h) λd s1 ⟨H1,I1,q1⟩=>?_);cases d with
 | true=>exact ha ac s1 O H1 Q I1 q1 | false=>exact hb ac s1 O H1 Q I1 q1
end
def SqL(K:W.Frag)(H:Hp)(a:Addr)(xs:List V):Prop:= Rd H a (.lst xs)\/ ∃(o:Obj)(ae:Array Value)(n:Nat),K.lookup a=some o/\o.cls=.type "list"/\o.dict=none/\o.data=.seq ae n/\ae.size<=sizeLine/\yp xs ae.toList
def SqT(K:W.Frag)(H:Hp)(a:Addr)(xs:List V):Prop:= Rd H a (.tup xs)\/ ∃(o:Obj)(ae:Array Value)(n:Nat),K.lookup a=some o/\o.cls=.type "tuple"/\o.data=.seq ae n/\ae.size<=sizeLine/\yp xs ae.toList
noncomputable def zmD:Value->Option V
 | .none=>some .non | .bool b=>some (.bl b) | .int i _=>some (.int i) | .str x _=>some (.str x) | .bytes b _=>some (.byt b) | .float b _=>some (.flt b) | .ref a=>some (.ref a) | .type n=>some (.ty n) | _=>none
theorem ym.abs   (r:ym x u):zmD u=some x:=by cases x with
 | non=>cases r;rfl | bl _=>cases r;rfl | int _=>obtain⟨t,rfl⟩:=r;rfl | str _=>obtain⟨t,rfl⟩:=r;rfl | byt _=>obtain⟨t,rfl⟩:=r;rfl | flt _=>obtain⟨t,rfl⟩:=r;rfl | ref _=>cases r;rfl | ty _=>cases r;rfl
theorem ym.inj   (r:ym x u)(q:ym y u):x=y:=_I (r.abs.symm.trans q.abs)
theorem yp.inj:∀{xs ys:List V}{us:List Value},yp xs us->yp ys us->xs=ys
 | _,_,_,.nil,.nil=>rfl | _,_,_,.cons r t,.cons r' t'=>by rw[r.inj r',yp.inj t t']
section
variable {X:Cx}{ac:List (Addr×Obj)}{O:St}{H:Hp}{s:Shared}{a:Addr}{xs ys:List V}
theorem Inv.list(I:Inv X ac O H s)(h:SqL X.K H a xs):∃ae:List Value,yp xs ae/\PlainL s.heap a ae.toArray/\xs.length<=sizeLine:=by
 rcases h with h | ⟨o,ae,n,hk,hc,hd,hs,hz,r⟩
 ·obtain⟨z,ae,n,r,e⟩:=h.ok I.hok;exact⟨ae,r,⟨_,n,e,rfl,rfl,rfl⟩,z⟩
 ·refine⟨ae.toList,r,⟨o,n,I.kIn a o hk,hc,hd,by exact hs⟩,?_⟩;have e:=r.length;simp only[_N]at e;lia
theorem Inv.tuple(I:Inv X ac O H s)(h:SqT X.K H a xs):∃ae:List Value,yp xs ae/\IsTup s.heap a ae.toArray/\xs.length<=sizeLine:=by
 rcases h with h | ⟨o,ae,n,hk,hc,hs,hz,r⟩
 ·obtain⟨z,ae,r,p⟩:=h.ok I.hok;exact⟨ae,r,p.tup,z⟩
 ·refine⟨ae.toList,r,⟨o,I.kIn a o hk,hc,n,by exact hs⟩,?_⟩;have e:=r.length;simp only[_N]at e;lia
theorem Inv.list_inj(I:Inv X ac O H s)(h:SqL X.K H a xs)(h':SqL X.K H a ys):xs=ys:=by
 obtain⟨ae,r,⟨o,n,e,_,_,d⟩,_⟩:=I.list h;obtain⟨aM,r',⟨o',n',e',_,_,d'⟩,_⟩:=I.list h';rw[e]at e';cases e';rw[d]at d';injection d' with d1 _;have:ae=aM:=by exact _au Array.toList d1
 subst this;exact r.inj r'
theorem Inv.tuple_inj(I:Inv X ac O H s)(h:SqT X.K H a xs)(h':SqT X.K H a ys):xs=ys:=by
 obtain⟨ae,r,⟨o,e,_,n,d⟩,_⟩:=I.tuple h;obtain⟨aM,r',⟨o',e',_,n',d'⟩,_⟩:=I.tuple h';rw[e]at e';cases e';rw[d]at d';injection d' with d1 _;have:ae=aM:=by exact _au Array.toList d1
 subst this;exact r.inj r'
end
noncomputable abbrev Cx.wish(X:Cx)(E:Value->Shared->Prop):Cx:={X with xe:=E}
noncomputable abbrev Cx.nox(X:Cx):Cx:=X.wish λ_ _=>False
theorem Cx.Ok.wish{X:Cx}(ok:X.Ok)(E:Value->Shared->Prop):(X.wish E).Ok:= ⟨ok.mod,ok.kind,ok.glob,ok.blt,ok.above,ok.inj,ok.has,ok.cab,ok.hd,ok.frames,ok.stk,ok.exf,ok.bs,ok.bsz,ok.noex,ok.exfs,ok.funs,ok.frf⟩
theorem Cx.Ok.unwish{X:Cx}  (ok:(X.wish E).Ok):X.Ok:= ⟨ok.mod,ok.kind,ok.glob,ok.blt,ok.above,ok.inj,ok.has,ok.cab,ok.hd,ok.frames,ok.stk,ok.exf,ok.bs,ok.bsz,ok.noex,ok.exfs,ok.funs,ok.frf⟩
section
variable {X:Cx}{ac:List (Addr×Obj)}{O:St}{H:Hp}{s:Shared}{E:Value->Shared->Prop}
theorem Inv.wish(I:Inv X ac O H s)(E:Value->Shared->Prop):Inv (X.wish E) ac O H s:=⟨I.ok.wish E,I.os,I.bare,I.base,I.loc,I.cell,I.free,I.freeC,I.pin,I.hok,I.len⟩
theorem Inv.unwish(I:Inv (X.wish E) ac O H s):Inv X ac O H s:=⟨I.ok.unwish,I.os,I.bare,I.base,I.loc,I.cell,I.free,I.freeC,I.pin,I.hok,I.len⟩
theorem SP.unwish{D:zcP}{f:Flow}{s':Shared}(h:SP (X.wish E) ac D f s'):SP X ac D f s':=by cases f with
 | next=>obtain⟨O',H',I,q⟩:=h;exact⟨O',H',I.unwish,q⟩ | brk=>obtain⟨O',H',I,q⟩:=h;exact⟨O',H',I.unwish,q⟩ | cont=>obtain⟨O',H',I,q⟩:=h;exact⟨O',H',I.unwish,q⟩ | ret u=>obtain⟨v,O',H',I,r,q⟩:=h;exact⟨v,O',H',I.unwish,r,q⟩
theorem PSs.nox{st:List Stmt}  (h:PSs X.nox st t):PSs X st t:=λac s O H D I hw=> _z (h ac s O H D (I.wish _) hw) (λ_ _ q=>q.unwish) λ_ _ z=>False.elim z
end
section
variable {X:Cx}{st:Stmt}{vF:List Stmt}{t u:TS}{e:Expr}{te:TE}{pos:Pos}
def zky:TS:=λD O H=>D.nx O H
def zlr(t u:TS):TS:=λD O H=>t {D with nx:=u D} O H
theorem zfd:PSs X [] zky:=λ_ _ O H _ I h=>_cR ⟨O,H,I,h⟩
theorem zc5(h1:PS X st t)(h2:PSs X vF u):PSs X (st::vF) (zlr t u):=by
 refine λac s O H D I h=>wpAny_execs_cons (thn (h1 ac s O H {D with nx:=u D} I h) λf s1 q=>?_);cases f with
 | next=>
  obtain⟨O',H',I',q⟩:=q;exact h2 ac s1 O' H' D I' q | ret v=>exact q | brk=>exact q | cont=>exact q
theorem zfa(h1:PS X st t):PSs X [st] t:=by
 refine λac s O H D I h=>wpAny_execs_cons (thn (h1 ac s O H D I h) λf s1 q=>?_);cases f with
 | next=>exact _cR q | ret v=>exact q | brk=>exact q | cont=>exact q
theorem Inv.quiet  {O:St}   (I:Inv X ac O H s):interactive X.env=false:=by simp[interactive,I.ok.kind]
def zkS(te:TE):TS:=λD O H=>te O H λ_ H1=>D.nx O H1
theorem zgb(he:PE X e te)(hs:autoParam (swapsWith e none pos.line X.env=pure false) aRf):PS X (.Expr e pos) (zkS te):=λac s O H D I h=>wpAny_Expr_any (thn (he ac s O H _ I h) λv s1 ⟨x,H1,I1,r1,q1⟩=>⟨O,H1,I1,q1⟩) I.quiet hs
def zme(te:TE):TS:=λD O H=>te O H D.rt
theorem zhO(he:PE X e te):PS X (.Return (some e) pos) (zme te):=λac s O H D I h=>wpAny_Return_some (thn (he ac s O H _ I h) λv s1 ⟨x,H1,I1,r1,q1⟩=>⟨x,O,H1,I1,r1,q1⟩)
def zmy(c:TT)(t u:TS):TS:=λD O H=>c O H λb H1=>if b=true then t D O H1 else u D O H1
theorem zlh    (hc:PT X c tc)(ha:PSs X a t)(hb:PSs X b u):PS X (.If c a b pos) (zmy tc t u):=by
 refine λac s O H D I h=>wpAny_If (thn (hc ac s O H _ I h) λd s1 ⟨H1,I1,q1⟩=>?_);cases d with
 | true=>exact ha ac s1 O H1 D I1 q1 | false=>exact hb ac s1 O H1 D I1 q1
def zhB:TS:=λ_ _ _=>False
theorem zcj:PS X st zhB:=λ_ _ _ _ _ _ h=>h.elim
end
abbrev TG:=V->St->Hp->(St->Hp->Prop)->Prop
abbrev TGs:=List V->St->Hp->(St->Hp->Prop)->Prop
def PG(X:Cx)(bX:Expr)(t:TG):Prop:= ∀(ac:List (Addr×Obj))(s:Shared)(O:St)(H:Hp)(v:V)(u:Value)(Q:St->Hp->Prop),Inv X ac O H s->ym v u->t v O H Q-> wpAny (model X.prog X.w) X.A (assign bX X.env u) (λ_ s'=>∃O' H',Inv X ac O' H' s'/\Q O' H') X.xe s
def PGs(X:Cx)(ts:List Expr)(t:TGs):Prop:= ∀(ac:List (Addr×Obj))(s:Shared)(O:St)(H:Hp)(vs:List V)(us:List Value)(Q:St->Hp->Prop),Inv X ac O H s->yp vs us->t vs O H Q-> wpAny (model X.prog X.w) X.A (assignInOrder ((assignEach ts X.env).map (·.2)) us) (λ_ s'=>∃O' H',Inv X ac O' H' s'/\Q O' H') X.xe s
abbrev zlF:=V->V->V->Hp->(Hp->Prop)->Prop
def zlG(X:Cx)(t:zlF):Prop:= ∀(ac:List (Addr×Obj))(s:Shared)(O:St)(H:Hp)(o i v:V)(ov iv u:Value)(Q:Hp->Prop),Inv X ac O H s->ym o ov->ym i iv->ym v u->t o i v H Q-> wpAny (model X.prog X.w) X.A (setItem ov iv u) (λ_ s'=>∃H',Inv X ac O H' s'/\Q H') X.xe s
abbrev TIp:=V->V->Hp->VK->Prop
def PIp(X:Cx)(op:Operator)(t:TIp):Prop:= ∀(ac:List (Addr×Obj))(s:Shared)(O:St)(H:Hp)(x y:V)(v u:Value)(Q:VK),Inv X ac O H s->ym x v->ym y u->t x y H Q-> wpAny (model X.prog X.w) X.A (inplaceOp op v u) (EP X ac O Q) X.xe s
section
variable {X:Cx}{pos:Pos}
noncomputable def qi(i:Nat):TG:=λv O H Q=>Q (O.set i (some v)) H
theorem yr   (hN:X.N.Nodup)(hi:X.N[i]? = some x)(hx:Loc X.env.scope x)(hf:autoParam (X.fn x=true\/X.env.scope.names.lookup x=some .local) aLr):PG X (.Name x pos) (qi i):=λac s O H v u Q I r h=>_ce (jG I hN hi hx r (λs' I'=>⟨_,H,I',h⟩) hf)
noncomputable def zlw:TGs:=λvs O H Q=>vs=[]/\Q O H
def zg0(t:TG)(u:TGs):TGs:=λvs O H Q=>∃v r,vs=v::r/\t v O H λO' H'=>u r O' H' Q
theorem zb2:PGs X [] zlw:=by
 intro ac s O H vs us Q I r h;obtain⟨e,h⟩:=h;exact assignInOrder_nil ⟨O,H,I,h⟩
theorem z0K     (h1:PG X e t)(h2:PGs X es u) (hs:autoParam ((assignEach (e::es) X.env).map (·.2)=assign e X.env::(assignEach es X.env).map (·.2)) aRf):PGs X (e::es) (zg0 t u):=by
 intro ac s O H vs us Q I r h;obtain⟨v,vr,e1,h⟩:=h;subst e1;cases r with | cons r rr=>
  rw[hs];exact _c7 (thn (h1 ac s O H _ _ _ I r h) λ_ s1 ⟨O1,H1,I1,q1⟩=>(h2 ac s1 O1 H1 _ _ Q I1 rr q1))
def zlI(K:W.Frag)(n:Nat)(t:TGs):TG:=λv O H Q=>∃a xs,v=.ref a/\SqT K H a xs/\xs.length=n/\t xs O H Q
theorem zeA  {k:Nat}   (hc:X.calm=true)(h:PGs X es t) (hn:autoParam ((assignEach es X.env).length=n) aRf)(dD:autoParam ((assignEach es X.env).findIdx? (·.1)=none) aRf):PG X (.Tuple es k pos) (zlI X.K n t):=by
 intro ac s O H v u Q I r hw;obtain⟨a,xs,e1,hq,hl,hw⟩:=hw;subst e1;cases r;obtain⟨ae,rv,ht,hz⟩:=I.tuple hq;exact assign_Tuple_tuple (I.ok.hd hc) ht (by simp[hn,<- hl,rv.length]) dD λh' hx=>(h ac _ O H xs _ Q (I.kept (t':=s.toks) λb o e=>hx b o (_t (_j e)) e) (by exact rv) hw)
noncomputable def zmr(to ti:TE)(t:zlF):TG:=λv O H Q=>to O H λo H1=>ti O H1 λi H2=>t o i v H2 λH3=>Q O H3
theorem zhc    (ho:PE X o to)(hi:PE X i ti)(hs:zlG X t) (ha:∀v,assign (.Subscript o i pos) X.env v=(do
   let ov <- holding [v] (eval o X.env) let iv <- holding [v,ov] (eval i X.env)
   standAt pos
   holding [v,ov,iv] (setItem ov iv v)
   release [v,ov,iv] []):=by intro _;rfl):PG X (.Subscript o i pos) (zmr to ti t):=by
 intro ac s O H v u Q I r h;exact _a (_ak (thn (ho ac s O H _ I h) λov s1 ⟨x,H1,I1,r1,q1⟩=>(_a (_ak (thn (hi ac s1 O H1 _ I1 q1) λiv s2 ⟨y,H2,I2,r2,q2⟩=>(_a (_a6 (_a (_ak (thn (hs ac s2 O H2 x y v ov iv u _ I2 r1 r2 r q2) λ_ s3 ⟨H3,I3,q3⟩=>(wpAny_release ⟨O,H3,I3,q3⟩)))))))))))
def zkh(te:TE)(g:TG):TS:=λD O H=>te O H λx H1=>g x O H1 D.nx
theorem zee    (he:PE X e te)(hg:PG X tg g)(hs:autoParam (swapsWithSole [tg] e pos.line X.env=pure false) aRf)(hw:autoParam (swappedStores [tg] e X.env=pure none) aRf) (h1:autoParam ((assignEach [tg] X.env).map (·.2)=[assign tg X.env]) aRf):PS X (.Assign [tg] e pos) (zkh te g):=by
 refine λac s O H D I h=>wpAny_Assign_stores (thn (he ac s O H _ I h) λv s1 ⟨x,H1,I1,r1,q1⟩=>?_) hs hw;rw[h1];exact thn (hg ac s1 O H1 x v _ I1 r1 q1) λ_ s2 q=>q
theorem zjs      (hN:X.N.Nodup)(hi:X.N[i]? = some x)(hx:Loc X.env.scope x)(he:PE X e te)(hs:autoParam (swapsWith e (some (.Name x bx)) pos.line X.env=pure false) aRf)(hf:autoParam (X.fn x=true\/X.env.scope.names.lookup x=some .local) aLr): PS X (.Assign [.Name x bx] e pos) (zkh te (qi i)):=by exact λac s O H D I h=>wpAny_Assign_Name (thn (he ac s O H _ I h) λv s1 ⟨y,H1,I1,r1,q1⟩=>(jG I1 hN hi hx r1 (λs2 I2=>⟨_,H1,I2,q1⟩) hf)) hs
def zm0(i j:Nat)(ta:TA):TS:=λD O H=>ta O H λvs H1=>∃v w,vs=[v,w]/\D.nx ((O.set i (some v)).set j (some w)) H1
theorem ziu       (hc:X.calm=true) (hN:X.N.Nodup) (hi:X.N[i]? = some x) (hj:X.N[j]? = some y) (aI:i≠j) (hx:X.env.scope.names.lookup x=some .local) (hy:X.env.scope.names.lookup y=some .local) (ha:PA X [a,b] ta) (hw:swappedStores [.Tuple [.Name x px,.Name y py] kt pt] (.Tuple [a,b] k2 fD) X.env=pure (some [x,y])) (hs:autoParam (swapsWithSole [.Tuple [.Name x px,.Name y py] kt pt] (.Tuple [a,b] k2 fD) pos.line X.env=pure false) aRf): PS X (.Assign [.Tuple [.Name x px,.Name y py] kt pt] (.Tuple [a,b] k2 fD) pos) (zm0 i j ta):=by
 refine λac s O H D I h=>_a (_a6 ?_);refine _a (_b (_a (Tuple_ (thn (ha _ ac s O H _ I h) λus s1 ⟨vs,H1,I1,r1,q1⟩=>?_))));obtain⟨v,w,e1,q1⟩:=q1;subst e1;obtain⟨u1,u2,rfl,rv,cL⟩:∃u1 u2,us=[u1,u2]/\ym v u1/\ym w u2:=by cases r1 with | cons p q=> cases q with | cons p' q'=>
    cases q';exact⟨_,_,rfl,p,p'⟩
 refine _ag ?_ (by show 2<=sizeLine;decide);have I2:Inv X ac O H1 {s1 with heap:=s1.heap.push {cls:=.type "tuple",data:=.seq [u1,u2].toArray}}:=I1.kept  λb o e=>_c _ e;rw[hw];refine _a (_b ?_);refine _a (_aL (_a (unpackItems_tuple (items:=#[u1,u2]) (I.ok.hd hc) (IsTup.new s1.heap _) λh' hx'=>(_a (_c7 (wpAny_bindName (jG (I2.kept (h':=h') (t':=s1.toks) λb o e=>hx' b o (_t (_j e)) e) hN hj (.inl hy) cL (λs2 I4=>?_) (.inr hy))))))));refine _c7 (wpAny_bindName (jG I4 hN hi (.inl hx) rv (λs3 I5=>assignInOrder_nil (_b ?_)) (.inr hx)));rw[List.set_comm _ _ (_ba aI)]at I5;exact⟨_,H1,I5,q1⟩
def zmC(i:Nat)(te:TE)(ti:TIp):TS:=λD O H=>∃x,O[i]? = some (some x)/\te O H λy H1=>ti x y H1 λz H2=>D.nx (O.set i (some z)) H2
theorem zjI        (hN:X.N.Nodup)(hi:X.N[i]? = some x)(hx:Loc X.env.scope x)(he:PE X e te)(ho:PIp X op ti)(hf:autoParam (X.fn x=true\/X.env.scope.names.lookup x=some .local) aLr): PS X (.AugAssign (.Name x bx) op e pos) (zmC i te ti):=by
 intro ac s O H D I h;obtain⟨v,e1,h⟩:=h;obtain⟨m,hn,hl⟩:=I.loc;obtain⟨u,r,l⟩:=hl i x v hi e1 (by rcases hx with k | k;exact .inl k;exact .inr (.inl k));refine wpAny_AugAssign_Name ?_;have go:wpAny (model X.prog X.w) X.A (eval e X.env) (λw s₂=>wpAny (model X.prog X.w) X.A (inplaceOp op u w) (λr s₃=>wpAny (model X.prog X.w) X.A (storeName X.env x r) (λ_=>SP X ac D .next) X.xe s₃) X.xe s₂) X.xe s:=by exact thn (he ac s O H _ I h) λw s1 ⟨y,H1,I1,r1,q1⟩=>(thn (ho ac s1 O H1 v y u w _ I1 r r1 q1) λz s2 ⟨zv,H2,I2,r2,q2⟩=>(jG I2 hN hi hx r2 (λs3 I3=>⟨_,H2,I3,q2⟩) hf))
 rcases l with⟨hk,hm⟩ | ⟨hk,c,hc,bT⟩;·exact wpAny_loadName_local I.ok.kind hk hn hm go
 ·rcases hk with hk | hk;·exact wpAny_loadName_cell I.ok.kind hk hc bT go
  ·rcases hx with k | k
   ·have:X.env.scope.names.lookup x=some .free:=hk;rw[k]at this;cases this
   ·have:X.env.scope.names.lookup x=some .free:=hk;rw[k]at this;cases this
def ipI(f:Int->Int->Int):TIp:=λx y H Q=>∃i j,x=.int i/\y=.int j/\Q (.int (f i j)) H
theorem zjp:PIp X .Add (ipI λi j=>i+j):=by
 intro ac s O H x y v u Q I r1 r2 h;obtain⟨i,j,e1,e2,q⟩:=h;subst e1;subst e2;obtain⟨t,rfl⟩:=r1;obtain⟨t',rfl⟩:=r2;exact iadd_int ⟨.int _,H,I.tok _,⟨_,rfl⟩,q⟩
end
section
variable {X:Cx}{pos:Pos}
def zhV(c:TT)(tb:TS):TS:=λD O H=>∃W:Nat->St->Hp->Prop,(∃m,W m O H)/\∀m O H,W m O H-> c O H λb H1=>if b=true then ∃N:St->Hp->Prop,(∀O' H',N O' H'->∃m',m'<m/\W m' O' H')/\tb {D with nx:=N,ct:=N,bk:=D.nx} O H1 else D.nx O H1
theorem zdw     (hp:PassesOwn (model X.prog X.w) X.A X.env X.xe)(hc:PT X c tc)(hb:PSs X body tb):PS X (.While c body [] pos) (zhV tc tb):=by
 intro ac s O H D I h;obtain⟨W,⟨m0,w0⟩,turn⟩:=h;refine wpAny_While (codeAny_whileLoop (λn s'=>∃O' H',Inv X ac O' H' s'/\W n O' H') ?_ m0 ⟨O,H,I,w0⟩);rintro n s1 ⟨O1,H1,I1,w1⟩;refine _bm hp (thn (hc ac s1 O1 H1 _ I1 (turn n O1 H1 w1)) λb s2 ⟨H2,I2,q2⟩=>?_);cases b with
 | true=>
  obtain⟨N,hN,q2⟩:=q2;refine _bm hp (thn (hb ac s2 O1 H2 _ I2 q2) λf s3 q3=>?_);cases f with
  | next=>
   obtain⟨O3,H3,I3,n3⟩:=q3;obtain⟨m',hm,w3⟩:=hN O3 H3 n3;exact⟨m',hm,O3,H3,I3,w3⟩ | cont=>
   obtain⟨O3,H3,I3,n3⟩:=q3;obtain⟨m',hm,w3⟩:=hN O3 H3 n3;exact⟨m',hm,O3,H3,I3,w3⟩ | brk=>exact q3 | ret v=>exact q3
 | false=> exact _cR ⟨O1,H2,I2,q2⟩
end
structure It where
 go:Nat->Hp->Prop
 yld:Nat->Hp->V->Hp->Prop
 stop:Nat->Hp->Prop
def z5H(X:Cx)(ac:List (Addr×Obj))(H:Hp)(b:Addr):Prop:= H b=none/\b≠X.env.locals/\b∉X.fs/\(b∈X.ex\/X.s₀.heap.objs.size<=b)/\(∀x c,X.env.cells.lookup x=some c->c≠b)/\∀p∈X.pn++ac,p.1≠b
theorem Inv.fpOk   {O:St}   {b:Addr}(I:Inv X ac O H s)(hb:s.heap.objs.size<=b)(hn:H' b=none):z5H X ac H' b:=by
 refine⟨hn,_bO (_v I.lt hb),I.nofs hb,.inr (_al I.sz hb),λx c e z=>?_,λp hp z=>(absurd (_v (_j (I.pin p hp).1) (by rw[z];exact hb)) (_aB _))⟩
 ·obtain⟨v,q⟩:=I.cell x c e;exact absurd (_v q.lt (by rw[z];exact hb)) (_aB _)
structure zbT(P:Program)(w:World)(K:W.Frag)(tg:Expr)(J:It)(fp:List Addr)(it:Addr)(tn:Nat->Heap->Prop):Prop where
 mem:it∈fp
 obj:∀i h,tn i h->∀b∈fp,∃o,h.get? b=some o/\∀v,o.data≠.cell v
 keep:∀i h h',tn i h->(∀b∈fp,∀o,h.get? b=some o->h'.get? b=some o)->tn i h'
 item:∀(X:Cx),X.prog=P->X.w=w->X.K=K->X.calm=true->∀(i:Nat)(ac:List (Addr×Obj))(s:Shared)(O:St)(H:Hp)(E:Value->Shared->Prop),Inv X ac O H s->(∀b∈fp,z5H X ac H b)->tn i s.heap->J.go i H-> wpAny (model P w) X.A (pyNext (.ref it)) (λr s1=>∃u,r=some u/\ wpAny (model P w) X.A (letOwnedTupleGo tg (.ref it) u) (λ_ s2=>∃x H',Inv X ac O H' s2/\ym x u/\J.yld i H x H'/\tn (i+1) s2.heap/\∀b∈fp,H' b=none) E s1) E s
 done:∀(X:Cx),X.prog=P->X.w=w->X.K=K->X.calm=true->∀(i:Nat)(ac:List (Addr×Obj))(s:Shared)(O:St)(H:Hp)(E:Value->Shared->Prop),Inv X ac O H s->(∀b∈fp,z5H X ac H b)->tn i s.heap->J.stop i H-> wpAny (model P w) X.A (pyNext (.ref it)) (λr s1=>r=none/\Inv X ac O H s1) E s
 self:∀(A:Around)(i:Nat)(s:Shared)(Q:Value->Shared->Prop)(E:Value->Shared->Prop),tn i s.heap->Q (.ref it) s->wpAny (model P w) A (pyIter (.ref it)) Q E s
abbrev TI:=St->Hp->(It->Hp->Prop)->Prop
def PIE(X:Cx)(ac:List (Addr×Obj))(O:St)(tg:Expr)(R:It->Hp->Prop)(eF:Value)(s2:Shared):Prop:= ∃(it:Addr)(fp:List Addr)(tn:Nat->Heap->Prop)(J:It)(H':Hp),eF=.ref it/\Inv X ac O H' s2/\zbT X.prog X.w X.K tg J fp it tn/\tn 0 s2.heap/\(∀b∈fp,z5H X ac H' b)/\R J H'
def PI(X:Cx)(tg ao:Expr)(wi:TI):Prop:= ∀(ac:List (Addr×Obj))(s:Shared)(O:St)(H:Hp)(R:It->Hp->Prop),Inv X ac O H s->wi O H R-> wpAny (model X.prog X.w) X.A (eval ao X.env) (λv s1=>wpAny (model X.prog X.w) X.A (pyIter v) (PIE X ac O tg R) X.xe s1) X.xe s
theorem zci            (ho:s.heap.get? it=some o)(hc:o.cls=.type n)(hd:o.data=.fields vs) (hn:["enumerate","zip","dict_itemiterator","dict_reverseitemiterator","odict_iterator","itertools.zip_longest","itertools.pairwise"].contains n=false)(hQ:Q () s):wpAny M A (letOwnedTupleGo tg (.ref it) u) Q E s:=by cases tg<;>first
    | exact _b hQ | (cases u<;>first
        | exact _b hQ
        | (refine _a (wpAny_load ho ?_);rw[hc,hd];show wpAny M A (if (["enumerate","zip","dict_itemiterator","dict_reverseitemiterator","odict_iterator","itertools.zip_longest","itertools.pairwise"].contains n&&vs[0]? == some (rawInt _))=true then _ else _) Q E s;rw[_l (by intro h;rw[hn]at h;cases h)];exact _b hQ))
noncomputable def Itl(K:W.Frag)(a:Addr):It:= ⟨λi H=>∃xs x,SqL K H a xs/\xs[i]? = some x,λi H x H'=>H'=H/\∀xs,SqL K H a xs->xs[i]? = some x,λi H=>∃xs,SqL K H a xs/\xs.length<=i⟩
noncomputable def Itt(K:W.Frag)(a:Addr):It:= ⟨λi H=>∃xs x,SqT K H a xs/\xs[i]? = some x,λi H x H'=>H'=H/\∀xs,SqT K H a xs->xs[i]? = some x,λi H=>∃xs,SqT K H a xs/\xs.length<=i⟩
noncomputable def Itr(lo:Int)(n:Nat):It:=⟨λi _=>i<n,λi H x H'=>H'=H/\x=.int (lo+i),λi _=>n<=i⟩
theorem zav   {K:W.Frag}  (a it:Addr):zbT P w K tg (Itl K a) [it] it (λi h=>h.IsListIter it a i) where
 mem:=by simp
 obj:=λi h st b hb=>by
  have e:b=it:=by simpa using hb
  subst e;obtain⟨o,e,c,d⟩:=st;exact⟨o,e,λv z=>by rw[d]at z;cases z⟩
 keep:=λi h h' st k=>st.at λo e=>k it (by simp) o e;item:=by
  intro X hP hw hK hc i ac s O H E I hf st hg;subst hP hw hK;obtain⟨xs,x,hq,hx⟩:=hg;obtain⟨ae,rv,p,hz⟩:=I.list hq;obtain⟨u,hu,ru⟩:=rv.get hx;obtain⟨f0,f1,f2,f3,f4,f5⟩:=hf it (by simp);refine wpAny_pyNext_list_item st p.isList  (by simpa using hu) λh' ag sb=>?_;obtain⟨o,e,c,d⟩:=id ag;exact⟨u,rfl,zci  e c d (by decide) ⟨x,H,(I.turned (t':=s.toks) (λb o hb e=>(sb.2 b hb).trans e) f0 f1 f3 f4 f5),ru,⟨rfl,λys hy=>by rw[I.list_inj hy hq];exact hx⟩,ag,λb hb=>(hf b hb).1⟩⟩
 done:=by
  intro X hP hw hK hc i ac s O H E I hf st hg;subst hP hw hK;obtain⟨xs,hq,hx⟩:=hg;obtain⟨ae,rv,p,hz⟩:=I.list hq;obtain⟨f0,f1,f2,f3,f4,f5⟩:=hf it (by simp);have hl:=rv.length;exact wpAny_pyNext_list_end (I.ok.hd hc) st p.isList (by simp;lia) λh' eb=>⟨rfl,I.turned  (λb o hb e=>eb b o hb e) f0 f1 f3 f4 f5⟩
 self:=λ_ _ _ _ _ st h=>wpAny_pyIter_listiter st h
theorem z8S   {K:W.Frag}  (a it:Addr):zbT P w K tg (Itt K a) [it] it (λi h=>h.IsTupleIter it a i) where
 mem:=by simp
 obj:=λi h st b hb=>by
  have e:b=it:=by simpa using hb
  subst e;obtain⟨o,e,c,d⟩:=st;exact⟨o,e,λv z=>by rw[d]at z;cases z⟩
 keep:=λi h h' st k=>st.at λo e=>k it (by simp) o e;item:=by
  intro X hP hw hK hc i ac s O H E I hf st hg;subst hP hw hK;obtain⟨xs,x,hq,hx⟩:=hg;obtain⟨ae,rv,p,hz⟩:=I.tuple hq;obtain⟨u,hu,ru⟩:=rv.get hx;obtain⟨f0,f1,f2,f3,f4,f5⟩:=hf it (by simp);refine wpAny_pyNext_tuple_item st (p)  (by simpa using hu) λh' ag sb=>?_;obtain⟨o,e,c,d⟩:=id ag;exact⟨u,rfl,zci  e c d (by decide) ⟨x,H,(I.turned (t':=s.toks) (λb o hb e=>(sb.2 b hb).trans e) f0 f1 f3 f4 f5),ru,⟨rfl,λys hy=>by rw[I.tuple_inj hy hq];exact hx⟩,ag,λb hb=>(hf b hb).1⟩⟩
 done:=by
  intro X hP hw hK hc i ac s O H E I hf st hg;subst hP hw hK;obtain⟨xs,hq,hx⟩:=hg;obtain⟨ae,rv,p,hz⟩:=I.tuple hq;obtain⟨f0,f1,f2,f3,f4,f5⟩:=hf it (by simp);have hl:=rv.length;exact wpAny_pyNext_tuple_end (I.ok.hd hc) st (p) (by simp;lia) λh' eb=>⟨rfl,I.turned  (λb o hb e=>eb b o hb e) f0 f1 f3 f4 f5⟩
 self:=λ_ _ _ _ _ st h=>wpAny_pyIter_tupleiter st h
theorem z8s   {K:W.Frag}  (it:Addr) (lo:Int) (n:Nat):zbT P w K tg (Itr lo n) [it] it (λi h=>IsRangeIter h it (lo+(i:Nat)*1) ((n:Int)-(i:Nat)) 1) where
 mem:=by simp
 obj:=λi h st b hb=>by
  have e:b=it:=by simpa using hb
  subst e;exact⟨_,st,λv z=>by cases z⟩
 keep:=λi h h' st k=>k it (by simp) _ st;item:=by
  intro X hP hw hK hc i ac s O H E I hf st hg;subst hP hw hK;obtain⟨f0,f1,f2,f3,f4,f5⟩:=hf it (by simp);refine (Walks.range (prog:=X.prog) (w:=X.w) (I.ok.hd hc) it lo 1 n).item i s _ _ hg st λv h' tk hv ag kk=>?_;obtain⟨t,rfl⟩:=hv;have I1:Inv X ac O H {s with heap:=h',toks:=tk}:=I.turned (λb o hb e=>kk b o (by simpa using hb) e) f0 f1 f3 f4 f5;refine⟨_,rfl,zci   ag rfl rfl (by decide) ⟨.int (lo+i),H,I1,⟨t,?_⟩,⟨rfl,rfl⟩,ag,λb hb=>(hf b hb).1⟩⟩;rw[Int.mul_one]
 done:=by
  intro X hP hw hK hc i ac s O H E I hf st hg;obtain⟨f0,f1,f2,f3,f4,f5⟩:=hf it (by simp);exact wpAny_pyNext_range_end (I.ok.hd hc) st (by have:n<=i:=hg;lia) λh' eb=>⟨rfl,I.turned  (λb o hb e=>eb b o hb e) f0 f1 f3 f4 f5⟩
 self:=λ_ _ _ _ _ st h=>wpAny_pyIter_rangeiter st h
section
variable {X:Cx}{tg:Expr}
theorem z6Y{ac:List (Addr×Obj)}{O:St}{H:Hp}{s:Shared}{R:It->Hp->Prop}{E:Value->Shared->Prop}{lo hi:Int}{t u v:Tok}{tk:Nat}(I:Inv X ac O H s)(h1:-(2 ^ 62)<=lo)(h2:lo<2 ^ 62)(h3:-(2 ^ 62)<=hi)(h4:hi<2 ^ 62) (q:R (Itr lo (hi-lo).toNat) H):wpAny (model X.prog X.w) X.A (pyIter (.ref s.heap.objs.size)) (PIE X ac O tg R) E {s with heap:=s.heap.push {cls:=.type "range",data:=.fields #[.int lo t,.int hi u,.int 1 v]},toks:=tk}:=by
 refine wpAny_pyIter_range (IsRange.new ..) (small_one h1 h2 h3 h4) ?_;have I1:Inv X ac O H {s with heap:=s.heap.push {cls:=.type "range",data:=.fields #[.int lo t,.int hi u,.int 1 v]},toks:=tk}:=I.kept λb o e=>_c _ e;refine⟨(s.heap.push {cls:=.type "range",data:=.fields #[.int lo t,.int hi u,.int 1 v]}).objs.size,[(s.heap.push {cls:=.type "range",data:=.fields #[.int lo t,.int hi u,.int 1 v]}).objs.size],_,_,H,rfl, I1.kept  λb o e=>_c _ e,z8s _ lo (hi-lo).toNat,?_,λb hb=>?_,q⟩
 ·have e1:lo+(0:Nat)*1=lo:=by simp
  rw[e1,(show ((hi-lo).toNat:Nat)-(0:Nat)=Builtin.Range.rangeSize lo hi 1 from by rw[rangeSize_one];split<;>lia)];exact _k _ rfl
 ·have e:b=(s.heap.push {cls:=.type "range",data:=.fields #[.int lo t,.int hi u,.int 1 v]}).objs.size:=by simpa using hb
  subst e;exact I1.fpOk (_h _) (I1.hok.fresh (_h _))
def zk3(ta:TA):TI:=λO H R=>ta O H λvs H1=>∃j:Int,vs=[.int j]/\-(2 ^ 62)<=j/\j<2 ^ 62/\R (Itr 0 j.toNat) H1
def zkG(ta:TA):TI:=λO H R=>ta O H λvs H1=>∃i j:Int,vs=[.int i,.int j]/\(-(2 ^ 62)<=i/\i<2 ^ 62/\-(2 ^ 62)<=j/\j<2 ^ 62)/\R (Itr i (j-i).toNat) H1
theorem zbE    (hg:Gl X "range")(hm:X.mg "range"=none)(ha:PA X [a] ta)(hs:autoParam (starEach [a] X.env=[(false,eval a X.env)]) aRf):PI X tg (.Call (.Name "range" p) [a] [] pos) (zk3 ta):=by
 refine λac s O H R I h=>Call_ (jO I hg hm boot_range (_ap (thn (ha pos ac s O H _ I h) λus s1 ⟨vs,H1,I1,r1,q1⟩=>?_) hs rfl));obtain⟨j,e,q1,q2,q⟩:=q1;subst e;cases r1 with | cons r rr=>
  cases rr;obtain⟨t,rfl⟩:=r;exact call_range_1 (z6Y I1 (by lia) (by lia) q1 q2 (by simpa using q))
theorem za0   {p pos:Pos}(hg:Gl X "range")(hm:X.mg "range"=none)(ha:PA X [a,b] ta)(hs:autoParam (starEach [a,b] X.env=[(false,eval a X.env),(false,eval b X.env)]) aRf)(bO:autoParam (starEach [b] X.env=[(false,eval b X.env)]) aRf): PI X tg (.Call (.Name "range" p) [a,b] [] pos) (zkG ta):=by
 refine λac s O H R I h=>Call_ (jO I hg hm boot_range (_ap (thn (ha pos ac s O H _ I h) λus s1 ⟨vs,H1,I1,r1,q1⟩=>?_) (by rw[hs,bO]) (by rw[bO];rfl)));obtain⟨i,j,e,⟨q1,q2,q3,q4⟩,q⟩:=q1;subst e;cases r1 with | cons r rr=> cases rr with | cons r' rr=>
   cases rr;obtain⟨t,rfl⟩:=r;obtain⟨t',rfl⟩:=r';exact call_range_2 (z6Y I1 q1 q2 q3 q4 q)
def zmq(wi:TI)(g:TG)(tb:TS):TS:=λD O H=>wi O H λJ H1=>∃W:Nat->Nat->St->Hp->Prop,(∃m,W 0 m O H1)/\∀i m O H,W i m O H-> (J.stop i H/\D.nx O H)\/(J.go i H/\∃N:St->Hp->Prop,(∀O' H',N O' H'->∃m',m'<m/\W (i+1) m' O' H')/\∀x H',J.yld i H x H'->g x O H' λO2 H2=>tb {D with nx:=N,ct:=N,bk:=D.nx} O2 H2)
noncomputable def z2R(fp:List Addr)(h:Heap):List (Addr×Obj):=fp.filterMap λb=>(h.get? b).map λo=>(b,o)
theorem vP     (hb:b∈fp)(e:h.get? b=some o):(b,o)∈z2R fp h:=_bj.mpr ⟨b,hb,by rw[e];rfl⟩
theorem zah    (hp:p∈z2R fp h):p.1∈fp/\h.get? p.1=some p.2:=by
 obtain⟨b,hb,e⟩:=_bj.mp hp;cases q:h.get? b with
 | none=>rw[q]at e;cases e | some o=>
  rw[q]at e;have e'  := _I e;subst e';exact⟨hb,q⟩
theorem Inv.pinned  {O:St}    (I:Inv X ac O H s)(hf:∀b∈fp,z5H X ac H b)(ho:∀b∈fp,∃o,s.heap.get? b=some o/\∀v,o.data≠.cell v):Inv X (ac++z2R fp s.heap) O H s:= I.pins_of λp hp=>(_C.mp hp).elim (λz=>I.pin p (_y _ z)) λz=>by
  obtain⟨hb,e⟩:=zah z;obtain⟨f0,f1,f2,_⟩:=hf p.1 hb;obtain⟨o,e',d⟩:=ho p.1 hb;rw[e]at e';cases e';exact⟨e,f0,f1,f2,d⟩
theorem Inv.unpinned  {O:St}   (I:Inv X (ac++pl) O H s):Inv X ac O H s:=I.pins_of λp hp=>I.pin p (_y _ (_am _ hp))
theorem ziy       (hp:PassesOwn (model X.prog X.w) X.A X.env X.xe)(hc:X.calm=true)(hi:PI X tg ao wi)(hg:PG X tg g)(hb:PSs X body tb) (hs:autoParam (∀x,foldedSetIterable ao X.env x=pure x) aIr):PS X (.For tg ao body [] pos) (zmq wi g tb):=by
 refine λac s O H D I h=>wpAny_For (thn (hi ac s O H _ I h) λv s1 h1=>thn h1 λeF s2 h2=>?_) hs;obtain⟨it,fp,tn,J,H2,e,I2,T,au,f2,W,⟨m0,w0⟩,turn⟩:=h2;subst e;have bz:∀{H':Hp},(∀b∈fp,H' b=none)->∀b∈fp,z5H X ac H' b:=λhn b hb=>⟨hn b hb,(f2 b hb).2⟩;refine codeAny_forLoop_any (λn s'=>∃i O' H',Inv X ac O' H' s'/\tn i s'.heap/\(∀b∈fp,H' b=none)/\W i n O' H') ?_ m0 ⟨0,O,H2,I2,au,λb hb=>(f2 b hb).1,w0⟩;rintro n s3 ⟨i,O3,H3,I3,bU,mC,w3⟩;rcases turn i n O3 H3 w3 with⟨stop,qn⟩ | ⟨go,N,hN,step⟩
 ·refine _bm hp (thn (T.done X rfl rfl rfl hc i ac s3 O3 H3 X.xe I3 (bz mC) bU stop) λr s4 ⟨hr,I4⟩=>?_);subst hr;exact _cR ⟨O3,H3,I4,qn⟩
 ·refine _bm hp (thn (T.item X rfl rfl rfl hc i ac s3 O3 H3 X.xe I3 (bz mC) bU go) λr s4 ⟨u,hr,h4⟩=>?_);subst hr;refine _bm hp (thn h4 λ_ s5 ⟨x,H5,I5,r5,y5,fS,nX⟩=>(_bm hp (thn (hg _ s5 O3 H5 x u _ (I5.pinned (bz nX) (T.obj _ _ fS)) r5 (step x H5 y5)) λ_ s6 ⟨O6,H6,I6,q6⟩=>?_)));refine _bm hp (thn (hb _ s6 O6 H6 _ I6 q6) λf s7 q7=>?_);have again:∀{O7:St}{H7:Hp},Inv X (ac++z2R fp s5.heap) O7 H7 s7->N O7 H7->∃m,m<n/\∃i O' H',Inv X ac O' H' s7/\tn i s7.heap/\(∀b∈fp,H' b=none)/\W i m O' H':=λ{O7 H7} I7 n7=>by
   obtain⟨m',hm,w7⟩:=hN O7 H7 n7;refine⟨m',hm,i+1,O7,H7,I7.unpinned,T.keep _ _ _ fS λb hb o e=>(I7.pin (b,o) (_y _ (_y _ (vP hb e)))).1,λb hb=>?_,w7⟩;obtain⟨o,e,d⟩:=T.obj _ _ fS b hb;exact (I7.pin (b,o) (_y _ (_y _ (vP hb e)))).2.1
  cases f with
  | next=>obtain⟨O7,H7,I7,n7⟩:=q7;exact again I7 n7 | cont=>obtain⟨O7,H7,I7,n7⟩:=q7;exact again I7 n7 | brk=>obtain⟨O7,H7,I7,q7⟩:=q7;exact⟨O7,H7,I7.unpinned,q7⟩ | ret v=>obtain⟨x7,O7,H7,I7,r7,q7⟩:=q7;exact⟨x7,O7,H7,I7.unpinned,r7,q7⟩
end
abbrev R2:=V->V->Hp->VK->Prop
def OpR(X:Cx)(f:Value->Value->Sem Value)(r:R2):Prop:= ∀(ac:List (Addr×Obj))(s:Shared)(O:St)(H:Hp)(x y:V)(v u:Value)(Q:VK),Inv X ac O H s->ym x v->ym y u->r x y H Q-> wpAny (model X.prog X.w) X.A (f v u) (EP X ac O Q) X.xe s
def UnR(X:Cx)(f:Value->Sem Value)(r:V->Hp->VK->Prop):Prop:= ∀(ac:List (Addr×Obj))(s:Shared)(O:St)(H:Hp)(x:V)(v:Value)(Q:VK),Inv X ac O H s->ym x v->r x H Q-> wpAny (model X.prog X.w) X.A (f v) (EP X ac O Q) X.xe s
def xA(X:Cx)(f:Value)(r:List V->Hp->VK->Prop):Prop:= ∀(ac:List (Addr×Obj))(s:Shared)(O:St)(H:Hp)(xs:List V)(us:List Value)(Q:VK),Inv X ac O H s->yp xs us->r xs H Q-> wpAny (model X.prog X.w) X.A (call f us) (EP X ac O Q) X.xe s
def zmx(X:Cx)(r:V->Hp->(Bool->Hp->Prop)->Prop):Prop:= ∀(ac:List (Addr×Obj))(s:Shared)(O:St)(H:Hp)(x:V)(v:Value)(Q:Bool->Hp->Prop),Inv X ac O H s->ym x v->r x H Q-> wpAny (model X.prog X.w) X.A (truthy v) (TP X ac O Q) X.xe s
def tOp(r:R2)(ta tb:TE):TE:=λO H Q=>ta O H λx H1=>tb O H1 λy H2=>r x y H2 Q
def tUn(r:V->Hp->VK->Prop)(ta:TE):TE:=λO H Q=>ta O H λx H1=>r x H1 Q
def rI(C:Int->Int->Prop)(g:Int->Int->V):R2:=λx y H Q=>∃i j,x=.int i/\y=.int j/\C i j/\Q (g i j) H
def rI0(g:Int->Int->V):R2:=λx y H Q=>∃i j,x=.int i/\y=.int j/\Q (g i j) H
def rU(g:Int->V):V->Hp->VK->Prop:=λx H Q=>∃i,x=.int i/\Q (g i) H
section
variable {X:Cx}{a b c:Expr}{ta tb tc:TE}{pos:Pos}
theorem zlg(ha:PE X a ta)(hb:PE X b tb)   {O:St}  {R:V->V->Hp->Prop}(I:Inv X ac O H s) (h:ta O H λx H1=>tb O H1 λy H2=>R x y H2)  {f:Value->Value->Sem Value} (hf:∀v u s2 x y H2,Inv X ac O H2 s2->ym x v->ym y u->R x y H2->wpAny (model X.prog X.w) X.A (f v u) Q X.xe s2): wpAny (model X.prog X.w) X.A (eval a X.env) (λv s₁=>wpAny (model X.prog X.w) X.A (eval b X.env) (λu s₂=>wpAny (model X.prog X.w) X.A (f v u) Q X.xe s₂) X.xe s₁) X.xe s:=by exact thn (ha ac s O H _ I h) λv s1 ⟨x,H1,I1,r1,q1⟩=>(thn (hb ac s1 O H1 _ I1 q1) λu s2 ⟨y,H2,I2,r2,q2⟩=>(hf v u s2 x y H2 I2 r1 r2 q2))
theorem zjV   (ho:OpR X (binaryOp op) r)(ha:PE X a ta)(hb:PE X b tb):PE X (.BinOp a op b pos) (tOp r ta tb):=λac s O H Q I h=>wpAny_BinOp (zlg ha hb I h λv u s2 x y H2 I2 rx ry q=>ho ac s2 O H2 x y v u Q I2 rx ry q)
theorem zj7   (ho:UnR X (unaryOp op) r)(ha:PE X a ta):PE X (.UnaryOp op a pos) (tUn r ta):=λac s O H Q I h=>UnaryOp_ (thn (ha ac s O H _ I h) λv s1 ⟨x,H1,I1,r1,q1⟩=>ho ac s1 O H1 x v Q I1 r1 q1)
theorem opI   {g:Int->Int->Int} (rule:∀(i j:Int) (t u:Tok) (s:Shared) (Q:Value->Shared->Prop) (E:Value->Shared->Prop),C i j->Q (.int (g i j) s.toks) {s with toks:=s.toks+1}->wpAny (model X.prog X.w) X.A (f (.int i t) (.int j u)) Q E s): OpR X f (rI C λi j=>.int (g i j)):=by
 intro ac s O H x y v u Q I rx ry h;obtain⟨i,j,rfl,rfl,hc,q⟩:=h;obtain⟨t,rfl⟩:=rx;obtain⟨t',rfl⟩:=ry;exact rule i j t t' s _ _ hc ⟨.int (g i j),H,I.tok _,⟨_,rfl⟩,q⟩
theorem zlA  {g:Int->Int->Int} (rule:∀(i j:Int) (t u:Tok) (s:Shared) (Q:Value->Shared->Prop) (E:Value->Shared->Prop),Q (.int (g i j) s.toks) {s with toks:=s.toks+1}->wpAny (model X.prog X.w) X.A (f (.int i t) (.int j u)) Q E s): OpR X f (rI0 λi j=>.int (g i j)):=by
 intro ac s O H x y v u Q I rx ry h;obtain⟨i,j,rfl,rfl,q⟩:=h;obtain⟨t,rfl⟩:=rx;obtain⟨t',rfl⟩:=ry;exact rule i j t t' s _ _ ⟨.int (g i j),H,I.tok _,⟨_,rfl⟩,q⟩
theorem zjT  {g:Int->Int->Bool} (rule:∀(i j:Int)(t u:Tok)(s:Shared)(Q:Value->Shared->Prop)(E:Value->Shared->Prop),Q (.bool (g i j)) s->wpAny (model X.prog X.w) X.A (f (.int i t) (.int j u)) Q E s): OpR X f (rI0 λi j=>.bl (g i j)):=by
 intro ac s O H x y v u Q I rx ry h;obtain⟨i,j,rfl,rfl,q⟩:=h;obtain⟨t,rfl⟩:=rx;obtain⟨t',rfl⟩:=ry;exact rule i j t t' s _ _ ⟨.bl (g i j),H,I,rfl,q⟩
def zm4(i j:Int):Prop:=0<=j/\j<=1000000/\i.natAbs<2 ^ 64
theorem ziv:OpR X (binaryOp .Add) (rI0 λi j=>.int (i+j)):=zlA λ_ _ _ _ _ _ _ q=>add_int q
theorem zhv:OpR X (binaryOp .Sub) (rI0 λi j=>.int (i-j)):=zlA λ_ _ _ _ _ _ _ q=>sub_int q
theorem zhF:OpR X (binaryOp .Mod) (rI (λ_ j=>0<j) λi j=>.int (i % j)):=opI λi j _ _ _ _ _ hc q=>mod_int' (by lia) (by rw[Int.fmod_eq_emod_of_nonneg i (by lia)];exact q)
theorem zj8:OpR X (binaryOp .Pow) (rI zm4 λi j=>.int (i ^ j.toNat)):=opI λ_ _ _ _ _ _ _ hc q=>pow_int_small hc.1 hc.2.1 hc.2.2 q
theorem unI  {g:Int->Int} (rule:∀(i:Int) (t:Tok) (s:Shared) (Q:Value->Shared->Prop) (E:Value->Shared->Prop),Q (.int (g i) s.toks) {s with toks:=s.toks+1}->wpAny (model X.prog X.w) X.A (f (.int i t)) Q E s): UnR X f (rU λi=>.int (g i)):=by
 intro ac s O H x v Q I rx h;obtain⟨i,rfl,q⟩:=h;obtain⟨t,rfl⟩:=rx;exact rule i t s _ _ ⟨.int (g i),H,I.tok _,⟨_,rfl⟩,q⟩
theorem ze9:UnR X (unaryOp .USub) (rU λi=>.int (-i)):=unI λ_ _ _ _ _ q=>neg_int q
end
section
variable {X:Cx}{a b c:Expr}{ta tb tc:TE}{pos:Pos}
theorem ze8  {O:St}     (I:Inv X ac O H s)(q:Q (.bl k) H)(e:k=k'):EP X ac O Q (.bool k') s:=by
 subst e;exact⟨.bl k,H,I,rfl,q⟩
theorem zlc:OpR X (compareOp .Lt) (rI0 λi j=>.bl (decide (i<j))):=zjT λ_ _ _ _ _ _ _ q=>lt_int q
theorem zjX:OpR X (compareOp .LtE) (rI0 λi j=>.bl (decide (i<=j))):=zjT λ_ _ _ _ _ _ _ q=>le_int q
theorem zkE:OpR X (compareOp .Gt) (rI0 λi j=>.bl (decide (j<i))):=zjT λ_ _ _ _ _ _ _ q=>gt_int q
theorem zkK:OpR X (compareOp .GtE) (rI0 λi j=>.bl (decide (j<=i))):=zjT λ_ _ _ _ _ _ _ q=>ge_int q
theorem zhf:OpR X (compareOp .Is) (λx y H Q=>y=.non/\Q (.bl (decide (x=.non))) H):=by
 intro ac s O H x y v u Q I rx ry h;obtain⟨rfl,q⟩:=h;cases ry;refine is_none_gen (ze8 I q ?_);cases x<;>(obtain⟨t,rfl⟩:=rx;rfl)
theorem zfE:OpR X (compareOp .IsNot) (λx y H Q=>y=.non/\Q (.bl (!decide (x=.non))) H):=by
 intro ac s O H x y v u Q I rx ry h;obtain⟨rfl,q⟩:=h;cases ry;refine isnot_none_gen (ze8 I q ?_);cases x<;>(obtain⟨t,rfl⟩:=rx;rfl)
theorem OpR.or   (h:OpR X f r)(h':OpR X f r'):OpR X f (λx y H Q=>r x y H Q\/r' x y H Q):=by
 intro ac s O H x y v u Q I rx ry q;rcases q with q | q;·exact h ac s O H x y v u Q I rx ry q
 ·exact h' ac s O H x y v u Q I rx ry q
theorem zeH(b:Expr)  (h:autoParam (op≠.In) aDe)(h2:autoParam (op≠.NotIn) aDe):behindInMarks op b=false:=by
 have e1:(op==CmpOp.In)=false:=by cases op<;>first | rfl | exact absurd rfl h
 have e2:(op==CmpOp.NotIn)=false:=by cases op<;>first | rfl | exact absurd rfl h2
 cases b<;>simp[behindInMarks,e1,e2]
theorem zb9   (ho:OpR X (compareOp op) r)(ha:PE X a ta)(hb:PE X b tb)(hm:behindInMarks op b=false):PE X (.Compare a [op] [b] pos) (tOp r ta tb):=λac s O H Q I h=>wpAny_Compare1 (zlg ha hb I h λv u s2 x y H2 I2 rx ry q=>ho ac s2 O H2 x y v u Q I2 rx ry q) hm
def zfR(t:TE):TT:=λO H Q=>t O H λx H'=>∃k,x=.bl k/\Q k H'
theorem zfD   (ho:OpR X (compareOp op) r)(ha:PE X a ta)(hb:PE X b tb)(hm:behindInMarks op b=false):PT X (.Compare a [op] [b] pos) (zfR (tOp r ta tb)):=by
 refine λac s O H Q I h=>wpAny_isTrue_Compare1 (thn (ha ac s O H _ I h) λv s1 ⟨x,H1,I1,r1,q1⟩=>thn (hb ac s1 O H1 _ I1 q1) λu s2 ⟨y,H2,I2,r2,q2⟩=> thn (ho ac s2 O H2 x y v u _ I2 r1 r2 q2) λc s3 ⟨z,H3,I3,r3,k,e,q3⟩=>?_) hm;subst e;cases r3;exact _aD ⟨H3,I3,q3⟩
def z9N(r r':R2)(ta tb tc:TE):TE:=λO H Q=>ta O H λx H1=>tb O H1 λy H2=>r x y H2 λz H3=>∃k,z=.bl k/\ (if k=true then tc O H3 λw' H4=>r' y w' H4 Q else Q (.bl false) H3)
theorem zd3   (ho:OpR X (compareOp op) r)(bE:OpR X (compareOp cG) r')(ha:PE X a ta)(hb:PE X b tb)(hc:PE X c tc) (hm:autoParam (lastMarks [op,cG] [b,c]=false) aWu):PE X (.Compare a [op,cG] [b,c] pos) (z9N r r' ta tb tc):=by
 refine λac s O H Q I h=>Compare_chain (thn (ha ac s O H _ I h) λv s1 ⟨x,H1,I1,r1,q1⟩=>chain_link (thn (hb ac s1 O H1 _ I1 q1) λu s2 ⟨y,H2,I2,r2,q2⟩=> thn (ho ac s2 O H2 x y v u _ I2 r1 r2 q2) λd s3 ⟨z,H3,I3,r3,k,e,q3⟩=>?_)) hm;subst e;cases r3;refine _aD ?_;cases k with
 | false=>exact ite_ff ⟨.bl false,H3,I3,rfl,q3⟩ | true=>exact ite_tt (chain_last (thn (hc ac s3 O H3 _ I3 q3) λw' s4 ⟨z',H4,I4,r4,q4⟩=>bE ac s4 O H4 y z' u w' Q I4 r2 r4 q4))
theorem zda   (ho:OpR X (compareOp op) r)(bE:OpR X (compareOp cG) r')(ha:PE X a ta)(hb:PE X b tb)(hc:PE X c tc) (hm:autoParam (lastMarks [op,cG] [b,c]=false) aWu):PT X (.Compare a [op,cG] [b,c] pos) (zfR (z9N r r' ta tb tc)):=by
 refine λac s O H Q I h=>isTrue_chain (thn (ha ac s O H _ I h) λv s1 ⟨x,H1,I1,r1,q1⟩=>test_link (thn (hb ac s1 O H1 _ I1 q1) λu s2 ⟨y,H2,I2,r2,q2⟩=> thn (ho ac s2 O H2 x y v u _ I2 r1 r2 q2) λd s3 ⟨z,H3,I3,r3,k,e,q3⟩=>?_)) hm;subst e;cases r3;refine _aD ?_;cases k with
 | false=>
  obtain⟨k',e',q'⟩:=q3;cases e';exact ite_ff ⟨H3,I3,q'⟩ | true=>
  refine ite_tt (test_last (thn (hc ac s3 O H3 _ I3 q3) λw' s4 ⟨z',H4,I4,r4,q4⟩=>thn (bE ac s4 O H4 y z' u w' _ I4 r2 r4 q4) λd' s5 ⟨z2,H5,I5,r5,k2,e2,q5⟩=>?_));subst e2;cases r5;exact _aD ⟨H5,I5,q5⟩
def zlL(K:W.Frag)(x:V)(H:Hp)(k:Bool):Prop:= match x with
 | .non=>k=false | .bl b=>k=b | .int i=>k=(i != 0) | .str y=>y.length<=sizeLine/\k=((y.length:Int) != 0) | .byt y=>y.size<=sizeLine/\k=((y.size:Int) != 0) | .ref p=>(∃xs,SqL K H p xs/\k=!xs.isEmpty)\/(∃xs,SqT K H p xs/\k=!xs.isEmpty)\/∃kvs,H p=some (.dK kvs)/\k=!kvs.isEmpty | _=>False
theorem z8O   {vs:List (κ×Value)}(r:KV kvs vs):(!vs.isEmpty)=!kvs.isEmpty:=by cases r<;>rfl
theorem z2q   (r:yp xs ae):(!ae.toArray.isEmpty)=!xs.isEmpty:=by cases r<;>rfl
theorem z7v:(sizeLine:Nat)<2 ^ 63:=by decide
theorem zi8:zmx X (λx H Q=>∃k,zlL X.K x H k/\Q k H):=by
 intro ac s O H x v Q I rx h;obtain⟨k,e,q⟩:=h;have hs  := _bG;cases x with
 | non=>
  cases rx;subst e;exact truthy_none ⟨H,I,q⟩ | bl b=>
  cases rx;subst e;exact _aD ⟨H,I,q⟩ | int i=>
  obtain⟨t,rfl⟩:=rx;subst e;exact PySem.P.truthy_int ⟨H,I,q⟩ | str y=>
  obtain⟨t,rfl⟩:=rx;obtain⟨hy,e'⟩:y.length<=sizeLine/\k=((y.length:Int) != 0):=e;subst e';exact PySem.P.truthy_str (by lia) ⟨H,I.tok _,q⟩ | byt y=>
  obtain⟨t,rfl⟩:=rx;obtain⟨hy,e'⟩:y.size<=sizeLine/\k=((y.size:Int) != 0):=e;subst e';exact W.truthy_bytes (by lia) ⟨H,I.tok _,q⟩ | ref p=>
  cases rx;have e'  := e;rcases e' with⟨xs,hx,e'⟩ | ⟨xs,hx,e'⟩ | ⟨kvs,hx,e'⟩
  ·subst e';obtain⟨ae,r,pl,hz⟩:=I.list hx;have aF:=r.length;exact wpAny_truthy_list pl.isList (by simp only[_A];lia) ⟨H,I.tok _,by rw[z2q r];exact q⟩
  ·subst e';obtain⟨ae,r,pl,hz⟩:=I.tuple hx;have aF:=r.length;exact truthy_tuple pl (by simp only[_A];lia) ⟨H,I.tok _,by rw[z2q r];exact q⟩
  ·subst e';obtain⟨hz,hS,vs,r,m⟩:kvs.length<=sizeLine/\(p==sysModules)=false/\∃vs,KV kvs vs/\s.heap.DictOf (zH X.prog X.w) p vs:=I.hok p _ hx;have aF  := _cL r;exact wpAny_truthy_dict hS m (by lia) ⟨H,I.tok _,by rw[z8O r];exact q⟩ | _=>exact (show False from e).elim
theorem zcx(ha:PE X a ta)(he:∀aU,isTrue a X.env aU=(do let v <- aU;standAt a.pos;holding [v] (truthy v))): PT X a (λO H Q=>ta O H λx H'=>∃k,zlL X.K x H' k/\Q k H'):=λac s O H Q I h=>isTrue_plain (thn (ha ac s O H _ I h) λv s1 ⟨x,H1,I1,r1,q1⟩=>zi8 ac s1 O H1 x v Q I1 r1 q1) (he _)
theorem vals1   (r:yp [x] us):∃u,us=[u]/\ym x u:=by cases r with | cons r1 r2=>cases r2;exact⟨_,rfl,r1⟩
theorem vals2   (r:yp [x,y] us):∃u w',us=[u,w']/\ym x u/\ym y w':=by cases r with | cons r1 r2=> cases r2 with | cons r3 r4=>cases r4;exact⟨_,_,rfl,r1,r3⟩
theorem zaw(hc:X.calm=true):xA X (.builtin "max") (λxs H Q=>∃i j,xs=[.int i,.int j]/\Q (.int (if j > i then j else i)) H):=by
 intro ac s O H xs us Q I r h;obtain⟨i,j,rfl,q⟩:=h;obtain⟨u,w',rfl,⟨t,rfl⟩,⟨t',rfl⟩⟩:=vals2 r;refine max_two_ints (I.ok.hd hc) λh' tk k=>⟨_,H,I.kept k,?_,q⟩;by_cases hj:j > i;·rw[_g hj,_g hj];exact⟨_,rfl⟩
 ·rw[_l hj,_l hj];exact⟨_,rfl⟩
theorem z9v(hc:X.calm=true):xA X (.builtin "min") (λxs H Q=>∃i j,xs=[.int i,.int j]/\Q (.int (if j<i then j else i)) H):=by
 intro ac s O H xs us Q I r h;obtain⟨i,j,rfl,q⟩:=h;obtain⟨u,w',rfl,⟨t,rfl⟩,⟨t',rfl⟩⟩:=vals2 r;refine min_two_ints (I.ok.hd hc) λh' tk k=>⟨_,H,I.kept k,?_,q⟩;by_cases hj:j<i;·rw[_g hj,_g hj];exact⟨_,rfl⟩
 ·rw[_l hj,_l hj];exact⟨_,rfl⟩
end
structure zll(h:Heap)(x dx C:Addr)(mA:Str->Option Value):Prop where
 obj:h.get? x=some (W.instObj C dx)
 ns:h.Ns1 dx mA
 ne:dx≠x
theorem zb4{h:Heap}   (n:h.Ns1 dx mA):∃od,h.get? dx=some od/\∀name,W.lookIn name od=some (mA name):=by
 obtain⟨o,es,ep,ho,hd,hk,_,hm⟩:=n;refine⟨o,ho,λname=>?_⟩;have e:=hm name;unfold nsFind findBy at e;rw[<- Array.find?_toList]at e;unfold W.lookIn;rw[hd];dsimp only;split
 ·rename_i y q;rw[q]at e;exact _au some e
 ·rename_i q;rw[q]at e
  rw[_l (by rw[(show es.toList.any (·.refKey)=false from by
   rw[List.any_eq_false];intro y hy;obtain⟨z,t,iR⟩:=hk y (_cM.mp hy);simp[DictEntry.refKey,iR])];exact _aW)];exact _au some e
theorem zll.look    (I:zll h x dx C mA):∃od,W.InstAt h x (W.instObj C dx) C (some od)/\∀name,W.lookIn name od=some (mA name):= let ⟨od,ho,hl⟩:=zb4 I.ns;⟨od,⟨I.obj,rfl,rfl,ho⟩,hl⟩
theorem z97.some_of   (r:z97 (some v) o):∃u,o=some u/\ym v u:=by cases o with
 | none=>exact (r).elim | some u=>exact⟨u,rfl,r⟩
section
variable {P:Program}{w:World}{H H':Hp}{h h':Heap}{a C dx:Addr}{fs fC:List (Str×V)}
theorem zfZ(hok:HOk P w H h)(e:H a=some (.ins C dx fs)):∃mA,zll h a dx C mA/\(∀f,z97 (fs.lookup f) (mA f))/\PySem.Within mA (fs.map (·.1))/\fs.length<=1000/\H dx=some (.own a):=by
 obtain⟨d,z,ne,ob,mA,n,r,q⟩:=((hok a _ e));exact⟨mA,⟨ob,n,ne⟩,r,q,z,d⟩
end
structure Cls(K:W.Frag)(C:Addr):Prop where
 pg:W.plainGet K C Str.empty=true
 hd:W.hasDictIn K C=true
 po:W.plainOver K C=true
 sa:W.findIn K (.ref C) "__setattr__"=some (some (.builtin "object.__setattr__"))
theorem Cls.get{K:W.Frag}  (c:Cls K C)(f:Str):W.plainGet K C f=true:=c.pg
section
variable {X:Cx}{ac:List (Addr×Obj)}{O:St}{H:Hp}{s:Shared}{A:Around}{E:Value->Shared->Prop}{Q:Value->Shared->Prop}{c:Value}{b:Bool}
inductive z82(K:W.Frag)(H:Hp):V->Value->Prop where | non:z82 K H .non (.type "NoneType") | bl (x:Bool):z82 K H (.bl x) (.type "bool") | int (i:Int):z82 K H (.int i) (.type "int") | str (x:Str):z82 K H (.str x) (.type "str") | flt (x:UInt64):z82 K H (.flt x) (.type "float") | lst {a:Addr}{xs:List V}(e:H a=some (.lst xs)):z82 K H (.ref a) (.type "list") | frz {a:Addr}{o:Obj}{xs:List V}(e:H a=some (.frz o (.lst xs))):z82 K H (.ref a) (.type "list") | tup {a:Addr}{xs:List V}(e:H a=some (.tup xs)):z82 K H (.ref a) (.type "tuple") | dK {a:Addr}{kvs:List (Key×V)}(e:H a=some (.dK kvs)):z82 K H (.ref a) (.type "dict") | dT {a:Addr}{kvs:List (List Key×V)}(e:H a=some (.dT kvs)):z82 K H (.ref a) (.type "dict") | ins {a C dx:Addr}{fs:List (Str×V)}(e:H a=some (.ins C dx fs))(cl:Cls K C)(ha:W.findIn K (.ref C) "__class__"=some (some (.builtin "object.__class__"))) (hn:W.specialIn K (.builtin "object.__class__") "__get__"=some (some (.builtin "getset_descriptor.__get__")))(mD:W.takesIn K (.builtin "object.__class__")=some true) (hm:W.mroIn K C (.type "object")=some true):z82 K H (.ref a) (.ref C)
theorem za6   (I:Inv X ac O H s) (rx:ym x u) (ty:z82 X.K H x t) (e:W.kitOne X.K t c=some b) (h:∀tk,Q (.bool b) {s with toks:=tk}): wpAny (model X.prog X.w) A (call (.builtin "isinstance") [u,c]) Q E s:=by cases ty with
 | non=>cases (rx);exact _bA W.kitx_none I.kIn True.intro e (λz=>nomatch z) h | bl y=>cases (rx);exact _bA W.kitx_bool I.kIn True.intro e (λz=>nomatch z) h | int i=>obtain⟨t,q⟩:=(rx);cases q;exact _bA W.kitx_int I.kIn True.intro e (λz=>nomatch z) h | str y=>obtain⟨t,q⟩:=(rx);cases q;exact _bA W.kitx_str I.kIn True.intro e (λz=>nomatch z) h | flt y=>obtain⟨t,q⟩:=(rx);cases q;exact _bA W.kitx_float I.kIn True.intro e (λz=>nomatch z) h | @lst a xs ea=>
  cases (rx);obtain⟨_,_,n,_,h1⟩:=((I.hok a _ ea));exact _bA W.kitx_list I.kIn ⟨_,h1,rfl⟩ e (λz=>nomatch z) h | @frz a ob xs ea=>
  cases (rx);obtain⟨_,_,_,n,_,h1⟩:=((I.hok a _ ea));exact _bA W.kitx_list I.kIn ⟨_,h1,rfl⟩ e (λz=>nomatch z) h | @tup a xs ea=>
  cases (rx);obtain⟨_,_,_,p⟩:=((I.hok a _ ea));obtain⟨o,h1,h2,_⟩:=p;exact _bA W.kitx_tuple I.kIn ⟨o,h1,h2⟩ e (λz=>nomatch z) h | @dK a kvs ea=>
  cases (rx);obtain⟨_,_,vs,_,p⟩:=((I.hok a _ ea));obtain⟨o,es,ep,h1,h2,_⟩:=p;exact _bA W.kitx_dict I.kIn ⟨o,h1,h2.1⟩ e (λz=>nomatch z) h | @dT a kvs ea=>
  cases (rx);obtain⟨_,_,xs,_,o,es,ep,h1,h2,_⟩:=((I.hok a _ ea));exact _bA W.kitx_dict I.kIn ⟨o,h1,h2.1⟩ e (λz=>nomatch z) h | @ins a C dx fs ea cl ha hn mD hm=>
  cases (rx);obtain⟨mA,Oo,_⟩:=zfZ I.hok ea;obtain⟨od,J,_⟩:=Oo.look;exact _bA (W.kitx_own (cl.get _) cl.hd ha hn mD hm) I.kIn J e (λz=>nomatch z) h
end
structure kr(k:Nat)(A:Around):Prop where
 hd:A.handled=none
 dp:A.depth+3*k+5<recursionLimit
 un:A.units+16*k+200<cLine
 gd:A.guards=some []
theorem kr.mono   (r:kr k A)(h:j<=k):kr j A:=⟨r.hd,by have:=r.dp;lia,by have:=r.un;lia,r.gd⟩
theorem kr.deeper   (r:kr (k+1) A)(env:Env):kr k (A.deeper env):= ⟨r.hd,by have:=r.dp;show A.depth+1+3*k+5<_;lia,by have:=r.un;show A.units+3+16*k+200<_;lia,r.gd⟩
theorem kr.depth   (r:kr k A):A.depth<recursionLimit:=by have:=r.dp;lia
theorem kr.units   (r:kr k A):A.units+64<cLine:=by have:=r.un;lia
def zlv:TA:=λ_ H Q=>Q [] H
def zku(ta:TE)(tr:TA):TA:=λO H Q=>ta O H λx H1=>tr O H1 λxs H2=>Q (x::xs) H2
section
variable {X:Cx}{e:Expr}{es:List Expr}{te:TE}{t:TA}{pos:Pos}
theorem z1i:PA X [] zlv:=λ_ _ _ _ H Q I h=>_dn ⟨[],H,I,.nil,h⟩
theorem uT(ha:PE X e te)(hr:PA X es t)(hs:autoParam (starEach (e::es) X.env=(false,eval e X.env)::starEach es X.env) aRf):PA X (e::es) (zku te t):=by
 intro pos ac s O H Q I h;rw[hs];exact _b4 (thn (ha ac s O H _ I h) λu s1 ⟨x,H1,I1,r1,q1⟩=>(thn (hr pos ac s1 O H1 _ I1 q1) λus s2 ⟨xs,H2,I2,r2,q2⟩=>⟨x::xs,H2,I2,.cons r1 r2,q2⟩))
def zmf(t:TA):TE:=λO H Q=>t O H λxs H1=>xs.length<=sizeLine/\∀p,H1 p=none->Q (.ref p) (upd H1 p (.tup xs))
def zlW(t:TA):TE:=λO H Q=>t O H λxs H1=>xs.length<=sizeLine/\∀p,H1 p=none->Q (.ref p) (upd H1 p (.lst xs))
theorem zhJ  (h:PA X es t):PE X (.Tuple es x1 pos) (zmf t):=by
 refine λac s O H Q I hq=>wpAny_Tuple_spliced (thn (h pos ac s O H _ I hq) λus s1 ⟨xs,H1,I1,r,z,q⟩=>⟨by rw[<- r.length];exact z,?_⟩);exact⟨.ref s1.heap.objs.size,upd H1 s1.heap.objs.size (.tup xs),I1.laid  (λb u e=>_c _ e) (_h _) ⟨z,us,r,⟨_,_k _ rfl,rfl,rfl,_,rfl⟩⟩,rfl,q _ (I1.hok.fresh (_h _))⟩
theorem zeI(h:PA X es t):PE X (.List es pos) (zlW t):=by
 refine λac s O H Q I hq=>wpAny_List_spliced (thn (h pos ac s O H _ I hq) λus s1 ⟨xs,H1,I1,r,z,q⟩=>⟨by rw[<- r.length];exact z,?_⟩);exact⟨.ref s1.heap.objs.size,upd H1 s1.heap.objs.size (.lst xs),I1.laid  (λb u e=>_c _ e) (_h _) ⟨z,us,0,r,_k _ rfl⟩,rfl,q _ (I1.hok.fresh (_h _))⟩
end
abbrev Sp:=List V->Hp->VK->XK->Prop
abbrev CXT:=List Env->Hp->Shared->XK->Value->Shared->Prop
structure zjL(P:Program)(w:World)(K:W.Frag)(mg:Str->Option Value)(base:Heap)(A:Around)(outer:List Env)(s:Shared)(H:Hp):Prop where
 frames:A.frames=some outer
 mod:Mod K mg base
 bs:∀b o,base.get? b=some o->s.heap.get? b=some o/\H b=none
 bsz:base.objs.size<=s.heap.objs.size
 funs:s.heap.FunFrames base outer
 frf:∀b∈frs outer,H b=none
 hok:HOk P w H s.heap
 bare:AllBare s.gens
def CE(outer:List Env)(P:Program)(w:World)(H:Hp)(s:Shared)(Q:VK)(u:Value)(s':Shared):Prop:= ∃v H',s'.os=s.os/\AllBare s'.gens/\Un (frs outer) [] H H' s.heap s'.heap/\HOk P w H' s'.heap/\ym v u/\Q v H'
def CR(CX:CXT)(outer:List Env)(P:Program)(w:World)(H:Hp)(s:Shared)(Q:VK)(E:XK)(r:Result)(s':Shared):Prop:= match r with
 | .ok (.ret u)=>CE outer P w H s Q u s' | .ok _=>False | .error e=>CX outer H s E e s'
structure z3A(P:Program)(w:World)(K:W.Frag)(mg:Str->Option Value)(base:Heap)(CX:CXT)(k:Nat)(f:Addr)(fd:FuncData)(ps:List Str)(sp:Sp):Prop where
 len:∀vs H Q E,sp vs H Q E->vs.length=ps.length
 run:∀(A:Around)(outer:List Env)(s:Shared)(H:Hp)(args:Args)(us:List Value)(vs:List V)(Q:VK)(E:XK),kr k A->zjL P w K mg base A outer s H->BindsTo s fd args (ps.zip us)->yp vs us->sp vs H Q E-> codeAny (model P w) A (.call (.ref f) args) (CR CX outer P w H s Q E) s
theorem z3A.mono   {K:W.Frag}         (F:z3A P w K mg base CX j f fd ps sp)(h:j<=k): z3A P w K mg base CX k f fd ps sp:=⟨F.len,λA outer s H args us vs Q E hr=>F.run A outer s H args us vs Q E (hr.mono h)⟩
theorem z3A.imp   {K:W.Frag}         (F:z3A P w K mg base CX k f fd ps sp) (h:∀vs H Q E,nY vs H Q E->sp vs H Q E):z3A P w K mg base CX k f fd ps nY:= ⟨λvs H Q E q=>F.len vs H Q E (h _ _ _ _ q),λA outer s H args us vs Q E hr he hb hv hs=>F.run A outer s H args us vs Q E hr he hb hv (h _ _ _ _ hs)⟩
section
variable {X:Cx}{ac:List (Addr×Obj)}{O:St}{H:Hp}{s s':Shared}
theorem Inv.env0(I:Inv X ac O H s):zjL X.prog X.w X.K X.mg X.base X.A X.stack s H:= ⟨I.ok.frames,I.ok.mod,I.bs,_al I.ok.bsz I.sz,I.stack,I.stkFree,I.hok,I.bare⟩
theorem Inv.after   (I:Inv X ac O H s)(h:CE X.stack X.prog X.w H s Q u s'):EP X ac O Q u s':=by
 obtain⟨v,H',os,bare,un,hok,r,q⟩:=h;obtain⟨hh,g,d,t,nZ⟩:=s';obtain rfl:nZ=s.os:=os;exact⟨v,H',I.call      un hok bare (λb z=>absurd z (by simp)),r,q⟩
end
def zhR(sp:Sp)(dH:List V)(E:XK)(t:TA):TE:=λO H Q=>t O H λvs H1=>sp (vs++dH) H1 Q E
def Binds(K:W.Frag)(fd:FuncData)(ps:List Str)(ds:List Value):Prop:= ∀(s:Shared)(us:List Value),K.In s.heap->(us++ds).length=ps.length->BindsTo s fd ⟨us,[]⟩ (ps.zip (us++ds))
theorem Binds.all{K:W.Frag}   (h:∀us:List Value,us.length=ps.length->bindArgs fd ⟨us,[]⟩=pure (ps.zip us)):Binds K fd ps []:=λs us _ hl=>by
 rw[_bn]at hl ⊢;exact .of_eq (h us hl)
def Passes(CX:CXT)(X:Cx)(E:XK):Prop:=∀(ac:List (Addr×Obj))(O:St)(H:Hp)(s:Shared)(e:Value)(s':Shared),Inv X ac O H s->CX X.stack H s E e s'->X.xe e s'
section
variable {X:Cx}{CX:CXT}{k:Nat}{f C:Addr}{fd:FuncData}{ps:List Str}{sp:Sp}{dH:List V}{ds:List Value}{E:XK}{x m:Str}{p pos aV:Pos}{e o:Expr}{es:List Expr}{ta:TE}{t:TA}
theorem zbM  {O:St}      (F:z3A X.prog X.w X.K X.mg X.base CX k f fd ps sp)(hr:kr k X.A)(hb:Binds X.K fd ps ds)(hd:yp dH ds)(hx:Passes CX X E) (I:Inv X ac O H s)(r:yp vs us)(h:sp (vs++dH) H Q E):wpAny (model X.prog X.w) X.A (call (.ref f) us) (EP X ac O Q) X.xe s:=by
 have r2  := r.append hd;refine wpAny_call (_bP (F.run X.A X.stack s H ⟨us,[]⟩ (us++ds) (vs++dH) Q E hr I.env0 (hb s us I.kIn (by rw[<- r2.length];exact F.len _ _ _ _ h)) r2 h) λr s' hq=>?_);cases r with
 | error e=>exact hx ac O H s e s' I hq | ok fl=> cases fl with
  | ret u=>exact I.after hq | next=>exact False.elim hq | brk=>exact False.elim hq | cont=>exact False.elim hq
theorem zfq (F:z3A X.prog X.w X.K X.mg X.base CX k f fd ps sp) (hr:kr k X.A) (hg:Gl X x) (hm:X.mg x=some (.ref f)) (hk:W.keepIn X.K (.ref f)=true) (hb:Binds X.K fd ps ds) (hd:yp dH ds) (hx:Passes CX X E) (ha:PA X (e::es) t) (br:autoParam ((x==("__debug__":Str))=false) aDe) (he:autoParam (starEach (e::es) X.env=(false,eval e X.env)::starEach es X.env) aRf) (bh:autoParam ((backTo pos (starEach es X.env)).any (·.1)=false) aRf): PE X (.Call (.Name x p) (e::es) [] pos) (zhR sp dH E t):=by
 intro ac s O H Q I h;refine _aG (z1Y I hg hm (W.callWith_K  I.ok.mod.kin hk (thn (ha pos ac s O H _ I h) λus s1 ⟨vs,H1,I1,r,q⟩=>⟨I1.kIn,?_⟩) he bh) br);exact zbM F hr hb hd hx I1 r q
theorem zc4(F:z3A X.prog X.w X.K X.mg X.base CX k f fd ps sp)(hr:kr k X.A)(hg:Gl X x)(hm:X.mg x=some (.ref f))(hk:W.keepIn X.K (.ref f)=true)(hb:Binds X.K fd ps ds)(hd:yp dH ds)(hx:Passes CX X E) (br:autoParam ((x==("__debug__":Str))=false) aDe):PE X (.Call (.Name x p) [] [] pos) (zhR sp dH E zlv):=by exact λac s O H Q I h=>_aG (z1Y I hg hm (W.callWith_K0 I.kIn hk (zbM  F hr hb hd hx I .nil h)) br)
end
structure zq(N P:List Str)(sc:Scope):Prop where
 kind:sc.kind=.function
 co:sc.isCoroutine=false
 gen:sc.isGenerator=false
 nd:N.Nodup
 pre:N.take P.length=P
 par:∀x∈P,sc.names.lookup x=some .local\/sc.names.lookup x=some .cell
 nofree:∀y∈sc.names,y.2≠.free
theorem z5a{kindOf:Str->Option NameKind}  : ∀{binds:List (Str×Value)}{m:Str->Option Value},(∀v,(x,v)∉binds)->bindL kindOf binds m x=m x
 | [],_,_=>rfl | (n,v)::r,m,h=>by
  unfold bindL;rw[z5a λw hw=>h w (_G _ hw)];split;·simp[(show x≠n from by rintro rfl;exact h v _O)]
  ·rfl
theorem z5I{kindOf:Str->Option NameKind}  : ∀{binds:List (Str×Value)}{m:Str->Option Value},(∀v,(x,v)∉binds)->bindC kindOf binds m x=m x
 | [],_,_=>rfl | (n,v)::r,m,h=>by
  unfold bindC;rw[z5I λw hw=>h w (_G _ hw)];split;·rfl
  ·simp[(show x≠n from by rintro rfl;exact h v _O)]
theorem z4K{kindOf:Str->Option NameKind}   : ∀{P:List Str}{vs:List Value}{i:Nat}{m:Str->Option Value},P.Nodup->P[i]? = some x->vs[i]? = some v->kindOf x=some .local-> bindL kindOf (P.zip vs) m x=some v
 | [],_,_,_,_,h,_,_=>by cases h | _::_,[],_,_,_,_,h,_=>by cases h | p::P,w::vs,0,m,nd,h1,h2,hk=>by
  simp at h1 h2;subst h1;subst h2;show bindL kindOf ((p,w)::P.zip vs) m p=_;unfold bindL;rw[z5a λv hv=>(_b0.mp nd).1 (_cS hv).1,_g hk];simp | p::P,w::vs,i+1,m,nd,h1,h2,hk=>by
  unfold bindL;exact z4K  (_b0.mp nd).2 (by exact h1) (by exact h2) hk
theorem z5E{kindOf:Str->Option NameKind}   : ∀{P:List Str}{vs:List Value}{i:Nat}{m:Str->Option Value},P.Nodup->P[i]? = some x->vs[i]? = some v->kindOf x≠some .local-> bindC kindOf (P.zip vs) m x=some v
 | [],_,_,_,_,h,_,_=>by cases h | _::_,[],_,_,_,_,h,_=>by cases h | p::P,w::vs,0,m,nd,h1,h2,hk=>by
  simp at h1 h2;subst h1;subst h2;show bindC kindOf ((p,w)::P.zip vs) m p=_;unfold bindC;rw[z5I λv hv=>(_b0.mp nd).1 (_cS hv).1,_l hk];simp | p::P,w::vs,i+1,m,nd,h1,h2,hk=>by
  unfold bindC;exact z5E  (_b0.mp nd).2 (by exact h1) (by exact h2) hk
noncomputable def start(N:List Str)(vs:List V):St:=vs.map some++List.replicate (N.length-vs.length) none
noncomputable def z3J(CX:CXT)(P:Program)(w:World)(K:W.Frag)(mg:Str->Option Value)(base:Heap)(N:List Str)(qual:Str)(scope:Scope)(f:Addr)(cd:Value)(A:Around)(outer:List Env)(s:Shared)(H:Hp)(E:XK):Cx where
 prog:=P;w:=w;K:=K;mg:=mg;base:=base;A:=A.deeper (envOfC qual scope s.heap.objs.size f cd);N:=N;s₀:=s;H₀:=H;env:=envOfC qual scope s.heap.objs.size f cd;outer:=outer;stack:=envOfC qual scope s.heap.objs.size f cd::outer;ex:=[];calm:=A.handled.isNone;fn:=λ_=>true;pn:=[];xe:=λe s'=>wpAny (model P w) (A.deeper (envOfC qual scope s.heap.objs.size f cd)) (leaving (envOfC qual scope s.heap.objs.size f cd) e) (λ_ dY=>CX outer H s E e dY) (λe' dY=>CX outer H s E e' dY) s'
theorem z0w{sc:Scope}   (h:sc.names.lookup x=some .cell):∃c,(cellsFrom n sc.names []).lookup x=some c:=_aP.mp (W.cellsFrom_some sc.names n [] (.inl h))
theorem zan    {K:W.Frag} (S:zq N ps scope)(e0:zjL P w K mg base A outer s H)(hl:vs.length=ps.length)(r:yp vs us) (x:InCallC s s.heap.objs.size (bindL (envOfC qual scope s.heap.objs.size f cd).kindOf (ps.zip us) λ_=>none) (cellsFrom (s.heap.objs.size+1) scope.names []) (bindC (envOfC qual scope s.heap.objs.size f cd).kindOf (ps.zip us) λ_=>none) s1): Inv (z3J CX P w K mg base N qual scope f cd A outer s H E) [] (start N vs) H s1:=by
 have bh:ps.length<=N.length:=by have:=_au List.length S.pre;rw[_a4]at this;lia
 obtain⟨h1,tk,rfl,hk⟩:=x.done;have fT:∀b:Addr,b∉(z3J CX P w K mg base N qual scope f cd A outer s H E).ex:=λb z=>absurd (show b∈([]) from z) (by simp);refine⟨⟨e0.mod,S.kind,rfl,rfl,_h _,λy z c h1 h2=>(name_of_addr x.apart (_as h1) (_as h2)),λy hy=>?_,λy c _ h=>(_ax (x.above y c (_as h))),λh=>Option.isNone_iff_eq_none.mp h,Around.frames_deeper e0.frames,.inr ⟨rfl,rfl⟩,λb z=>absurd z (fT b),e0.bs,e0.bsz,λb _ _=>fT b,λb z=>absurd z (fT b),e0.funs,e0.frf⟩, rfl,e0.bare,Un.kept hk,⟨_,x.toInCall.ns,λi y v h1 h2 h3=>?_⟩,λy c h=>⟨_,x.cell y c h⟩,e0.hok.fresh (_h _),λy c h=>(e0.hok.fresh (_ax (x.above y c (_as h)))),λp hp=>absurd (show p∈([]) from hp) (by simp),e0.hok.kept hk,?_⟩
 ·rcases hy with hy | hy;·exact z0w hy
  ·exact absurd rfl (S.nofree _ (_as hy))
 ·have hi:i<vs.length:=by
   unfold start at h2;by_cases hi:i<vs.length;·exact hi
   ·rw[_ah (by simpa using hi)]at h2;rw[_b9]at h2;split at h2<;>cases h2
  obtain⟨u,hu,rv⟩:=r.get (by
   unfold start at h2;rw[_u (by simpa using hi),_Y]at h2;cases e:vs[i]? with
   | none=>rw[e]at h2;cases h2 | some a=>rw[e]at h2;cases h2;rfl);have hp:ps[i]? = some y:=by rw[<- S.pre,_aQ (by lia)];exact h1
  have mE:ps.Nodup:=by rw[<- S.pre];exact S.nd.sublist (_cf _ _)
  refine⟨u,rv,?_⟩;rcases S.par y (_r hp) with k | k;·exact .inl ⟨k,z4K mE hp hu k⟩
  ·obtain⟨c,e⟩:=z0w  k;refine .inr ⟨.inl k,c,e,?_⟩;have q:=x.cell y c e;rw[z5E mE hp hu (by show scope.names.lookup y≠_;rw[k];decide)]at q;exact q
 ·unfold start;show _=N.length;rw[_ab,_B,_ct];lia
theorem zhl    {K:W.Frag}         {dV kV bH pm aA ct oc:Value} (lk:K.lookup f=some ⟨oc,od,.func (W.fnOf name qual params body scope dV kV bH pm an aA ct),dE⟩)(ce:W.codeIn K aA qual=true)(S:zq N ps scope) (len:∀vs H Q E,sp vs H Q E->vs.length=ps.length) (cX:∀(A:Around)(outer:List Env)(s:Shared)(H:Hp)(vs:List V)(Q:VK)(E:XK),kr k (A.deeper (envOfC qual scope s.heap.objs.size f aA))->sp vs H Q E-> ∃t,PSs (z3J CX P w K mg base N qual scope f aA A outer s H E) body t/\t {nx:=λ_ H'=>Q .non H',rt:=Q} (start N vs) H): z3A P w K mg base CX (k+1) f (W.fnOf name qual params body scope dV kV bH pm an aA ct) ps sp:=by
 refine⟨len,λA outer s H args us vs Q E hr e0 hb r fE=>?_⟩;have KX  := e0.mod.kin.keeps λb o e=>(e0.bs b o e).1;refine codeAny_call_function hr.depth (KX _ _ lk) rfl S.co S.gen rfl (W.codeRec_of KX ce) (hb _ _ _ _ (wpAny_newFunctionEnv_cells S.kind (λ⟨n,v⟩ hy=>by
  rcases S.par n (_cS hy).1 with q | q;·exact .inl q
  ·exact .inr ⟨q,W.cellsFrom_some _ _ _ (.inl q)⟩) λenv he s1 x=>?_));subst he;refine⟨(e0.mod.nolimit.keeps λb o e=>(e0.bs b o e).1).keeps x.toInCall.keep,codeAny_func ?_⟩;obtain⟨t,ht,hq⟩:=cX A outer s H vs Q E (hr.deeper _) fE;refine _z (ht [] s1 (start N vs) H _ (zan S e0 (len _ _ _ _ fE) r x) hq) (λfl s' hs=>?_) λe s' hs=>hs;have fin:∀{O':St}{H':Hp}{v:V}{u:Value},Inv (z3J CX P w K mg base N qual scope f aA A outer s H E) [] O' H' s'->ym v u->Q v H'->CE outer P w H s Q u s':= λ{O' H' v u} J rv q=>⟨v,H',J.os,J.bare,J.base,J.hok,rv,q⟩;cases fl with
 | ret u=>
  obtain⟨v,O',H',J,rv,q⟩:=hs;exact fin J rv q | next=>
  obtain⟨O',H',J,q⟩:=hs;exact fin (v:=V.non)  J rfl q | brk=>
  obtain⟨_,_,_,q⟩:=hs;exact False.elim q | cont=>
  obtain⟨_,_,_,q⟩:=hs;exact False.elim q
section
variable {X:Cx}{x:Str}{p pos:Pos}{e:Expr}{es:List Expr}{t:TA}{id T:String}{r:List V->Hp->VK->Prop}
def tCB(r:List V->Hp->VK->Prop)(t:TA):TE:=λO H Q=>t O H λvs H1=>r vs H1 Q
theorem z4e (hc:xA X (.builtin id) r) (hg:Gl X x) (hm:X.mg x=none) (hv:bootBuiltins x=some (.builtin id)) (ha:PA X (e::es) t) (hn:autoParam (x≠"__name__") aDe) (br:autoParam ((x==("__debug__":Str))=false) aDe) (he:autoParam (starEach (e::es) X.env=(false,eval e X.env)::starEach es X.env) aRf) (bh:autoParam ((backTo pos (starEach es X.env)).any (·.1)=false) aRf):PE X (.Call (.Name x p) (e::es) [] pos) (tCB r t):=by
 intro ac s O H Q I h;exact _aG (jO I hg hm hv (PyProof.Rows.callWith_builtin1 (thn (ha pos ac s O H _ I h) λus s1 ⟨vs,H1,I1,r1,q1⟩=>hc ac s1 O H1 vs us Q I1 r1 q1) he bh) hn br)
theorem z5r (hc:xA X (.type T) r) (hg:Gl X x) (hm:X.mg x=none) (hv:bootBuiltins x=some (.type T)) (ha:PA X (e::es) t) (hn:autoParam (x≠"__name__") aDe) (br:autoParam ((x==("__debug__":Str))=false) aDe) (he:autoParam (starEach (e::es) X.env=(false,eval e X.env)::starEach es X.env) aRf) (bh:autoParam ((backTo pos (starEach es X.env)).any (·.1)=false) aRf):PE X (.Call (.Name x p) (e::es) [] pos) (tCB r t):=by
 intro ac s O H Q I h;exact _aG (jO I hg hm hv (_ap (thn (ha pos ac s O H _ I h) λus s1 ⟨vs,H1,I1,r1,q1⟩=>hc ac s1 O H1 vs us Q I1 r1 q1) he bh) hn br)
end
end L2
namespace HT
section
variable {prog:Program}{w:World}{A:Around}{E:Value->Shared->Prop}{s:Shared}
theorem zge    (ht:IsTup s.heap t vs.toArray) (hb:IsTup s.heap b ws.toArray) (hv:vs≠[]) (h1:ws=[]->Q (.ref t) s) (h2:ws≠[]->Q (.ref s.heap.objs.size) {s with heap:=s.heap.push {cls:=.type "tuple",data:=.seq (vs++ws).toArray}}) (hsz:vs.length+ws.length<=sizeLine):wpAny (model prog w) A (binaryOp .Add (.ref t) (.ref b)) Q E s:=by
 obtain⟨⟨cls,dd,data,sl⟩,ho,hc,n,hd⟩:=id ht;obtain⟨⟨iS,ip,data2,dF⟩,cY,iT,n2,iU⟩:=id hb;subst hc hd iT iU;have e:vs.toArray++ws.toArray=(vs++ws).toArray:=by simp
 by_cases hw:ws=[]
 ·exact concat_meets ⟨_,ho,rfl⟩ ⟨_,cY,rfl⟩ _dz seq_tuple_add _cg _ca (_bU _ _) (tuple_addW1 t b vs.toArray ws.toArray n n2 dd ip sl dF (by simpa using hv) (by simp[hw])) ⟨ho,cY,h1 hw⟩
 ·refine concat_meets ⟨_,ho,rfl⟩ ⟨_,cY,rfl⟩ _dz seq_tuple_add _cg _ca (_bU _ _) (tuple_addW2 t b vs.toArray ws.toArray n n2 dd ip sl dF (by simpa using hv) (by simpa using hw) (hsz)) ⟨ho,cY,?_⟩;rw[e];exact h2 hw
noncomputable def sIx(n d:Nat):Option Int->Nat
 | none=>d | some v=>if v<0 then (v+(n:Int)).toNat else min v.toNat n
theorem z7n(n d:Nat):sIx n d none=d:=rfl
theorem zai(n d k:Nat):sIx n d (some (k:Int))=min k n:=by
 show (if k<0 then ((k:Int)+n).toNat else min (k:Int).toNat n)=min k n;rw[_l (by lia),_bb]
theorem z9B(v:Int)(n d:Nat):(if v<0 then max (v+(n:Int)) 0 else min v (n:Int))=((sIx n d (some v):Nat):Int):=by
 show (if v<0 then max (v+n) 0 else min v n)=((if v<0 then (v+n).toNat else min v.toNat n):Nat);by_cases hv:v<0;·simp only[_g hv];lia
 ·simp only[_l hv];lia
theorem z8n(lo hi:Option Int)(n:Nat):Builtin.Slice.sliceAdjust lo hi 1 (n:Int)=(((sIx n 0 lo:Nat):Int),(sIx n n hi:Int)):=by
 refine Prod.ext ?_ ?_;·cases lo with
  | none=>rfl | some v=>exact z9B v n 0
 ·cases hi with
  | none=>rfl | some v=>exact z9B v n n
theorem z8H (i j:Nat):Builtin.Slice.slicePlaces (i:Int) (j:Int) 1=j-i:=by
 unfold Builtin.Slice.slicePlaces;split<;>lia
theorem z2W    (p:IsPart v o)(h:Q o s):wpAny (model prog w) A (Builtin.Slice.slicePartIndex v) Q E s:=by cases p with
 | none=>exact slicePart_none h | int i t=>exact slicePart_int h
theorem uu{sl:Addr}{vl vu:Value}{lo hi:Option Int}{n:Nat}{Q:Int×Int×Nat->Shared->Prop}(hs:s.heap.IsSliceOf sl vl vu .none)(pl:IsPart vl lo)(pu:IsPart vu hi) (h:Q (((sIx n 0 lo:Nat):Int),1,sIx n n hi-sIx n 0 lo) s):wpAny (model prog w) A (Builtin.Slice.sliceApplied (.ref sl) (pure (n:Int))) Q E s:=by
 obtain⟨os,eG,dI,fU⟩:=id hs;refine _a (_a (_ai eG fU  rfl (_a (_ai eG fU  rfl (_a (_ai eG fU  rfl (_b (_a (slicePart_none (_a (z2W pl (_a (z2W pu (_a (_b ?_)))))))))))))));show wpAny _ _ (match Builtin.Slice.sliceAdjust lo hi 1 n with | (lo,hi)=>pure (lo,(1:Int),Builtin.Slice.slicePlaces lo hi 1)) _ _ s;rw[z8n lo hi n];show wpAny _ _ (pure (((sIx n 0 lo):Int),1,Builtin.Slice.slicePlaces (sIx n 0 lo) (sIx n n hi) 1)) _ _ s;rw[z8H];exact _b h
theorem zcZ(xs:Array Value)(i k:Nat):((List.range k).filterMap λ(m:Nat)=>xs[((i:Int)+(m:Int)*1).toNat]?).toArray=((xs.toList.drop i).take k).toArray:=by
 have e:(λ(m:Nat)=>xs[(i+(m:Int)*1).toNat]?)=λm=>xs[i+m]? := by
  funext m;rw[(show ((i:Int)+m*1).toNat=i+m from by lia)]
 rw[e];have:=pick_run xs i k;rw[List.filterMap_map]at this;have e2:((λx=>xs[x]?) ∘ λx=>i+x)=λm=>xs[i+m]? := rfl;rw[e2]at this;rw[this]
theorem kq    {lo hi:Option Int}  (ht:IsTup s.heap t items) (hs:s.heap.IsSliceOf sl vl vu .none) (pl:IsPart vl lo) (pu:IsPart vu hi) (hw:¬ (sIx items.size 0 lo=0/\sIx items.size items.size hi=items.size)) (h:Q (.ref s.heap.objs.size) {s with heap:=s.heap.push {cls:=.type "tuple",data:=.seq ((items.toList.drop (sIx items.size 0 lo)).take (sIx items.size items.size hi-sIx items.size 0 lo)).toArray}}) (hsz:items.size<=sizeLine):wpAny (model prog w) A (getItem (.ref t) (.ref sl)) Q E s:=by
 obtain⟨os,eG,dI,fU⟩:=id hs;unfold getItem;try with_reducible refine _ak ?_
 refine _a (wpAny_sequenceKey ht.typeIs (by decide) (_a (_S  ht.typeIs _aq (_P _aq ht.typeIs entry_tuple_getitem ?_ (args_tuple_getitem _ _)))));show wpAny _ _ (Builtin.Tuple.tupleItemsOf (.ref t) >>= _) _ _ s;refine _a (tupleItemsOf_ ht ?_);refine _a (_c1 ⟨os,eG,dI⟩ (_a (uu hs pl pu ?_)));show wpAny _ _ (if (((sIx items.size 0 lo):Int)==0&&1==1&&(sIx items.size items.size hi-sIx items.size 0 lo)==items.size)=true then _ else _) _ _ s;rw[_l (by
  intro q;rw[_L,_L]at q;have q1  := eq_of_beq q.1.1;have q2  := eq_of_beq q.2;exact hw ⟨by lia,by lia⟩),zcZ];exact _a  (_ag (_b ⟨_,rfl,_b h⟩) (by
  show ((items.toList.drop (sIx items.size 0 lo)).take (sIx items.size items.size hi-sIx items.size 0 lo)).toArray.size<=sizeLine;rw[_A,_a4,_cy,_N];lia))
end
end HT
namespace L2
abbrev TO:=St->Hp->(Option Int->Hp->Prop)->Prop
def PO(X:Cx)(e:Option Expr)(t:TO):Prop:= ∀(ac:List (Addr×Obj))(s:Shared)(O:St)(H:Hp)(Q:Option Int->Hp->Prop),Inv X ac O H s->t O H Q-> wpAny (model X.prog X.w) X.A (evalPart e X.env) (λu s'=>∃o H',Inv X ac O H' s'/\IsPart u o/\Q o H') X.xe s
def zgA:TO:=λ_ H Q=>Q none H
def zko(t:TE):TO:=λO H Q=>t O H λx H1=>∃i,x=.int i/\Q (some i) H1
section
variable {X:Cx}{e:Expr}{te:TE}{lo hi:Option Expr}{tl th:TO}{pos p2:Pos}
theorem zfJ:PO X none zgA:=by exact λac s O H Q I h=>_b ⟨none,H,I,.none,h⟩
theorem zgd(h:PE X e te):PO X (some e) (zko te):=by
 refine λac s O H Q I hw=>thn (h ac s O H _ I hw) λu s1 ⟨x,H1,I1,r1,q1⟩=>?_;obtain⟨i,rfl,q⟩:=q1;obtain⟨t,rfl⟩:=r1;exact⟨some i,H1,I1,.int i t,q⟩
def SlR(X:Cx)(r:V->Option Int->Option Int->Hp->VK->Prop):Prop:= ∀(ac:List (Addr×Obj))(s:Shared)(O:St)(H:Hp)(x:V)(v vl vu:Value)(lo hi:Option Int)(sl:Addr)(Q:VK),Inv X ac O H s->ym x v->s.heap.IsSliceOf sl vl vu .none->IsPart vl lo->IsPart vu hi->r x lo hi H Q-> ∃T id,typeLookup (.type T) "__getitem__"=pure (some (.builtin id))/\s.TypeIs v T/\wpAny (model X.prog X.w) X.A (getItem v (.ref sl)) (EP X ac O Q) X.xe s
theorem SlR.or  (h:SlR X r)(h':SlR X r'):SlR X (λx lo hi H Q=>r x lo hi H Q\/r' x lo hi H Q):=by
 intro ac s O H x v vl vu lo hi sl Q I rx hs pl pu q;rcases q with q | q;·exact h ac s O H x v vl vu lo hi sl Q I rx hs pl pu q
 ·exact h' ac s O H x v vl vu lo hi sl Q I rx hs pl pu q
def tSl(r:V->Option Int->Option Int->Hp->VK->Prop)(te:TE)(tl th:TO):TE:=λO H Q=>te O H λx H1=>tl O H1 λl H2=>th O H2 λu H3=>r x l u H3 Q
theorem zcK  (hr:SlR X r)(he:PE X e te)(hl:PO X lo tl)(hu:PO X hi th):PE X (.Subscript e (.Slice lo hi none p2) pos) (tSl r te tl th):=by
 intro ac s O H Q I h;refine Subscript_ (thn (he ac s O H _ I h) λv s1 ⟨x,H1,I1,r1,q1⟩=>(wpAny_Slice (thn (hl ac s1 O H1 _ I1 q1) λvl s2 ⟨l,H2,I2,pl,q2⟩=>thn (hu ac s2 O H2 _ I2 q2) λvu s3 ⟨u,H3,I3,pu,q3⟩=>(_b ?_))));have I4:Inv X ac O H3 {s3 with heap:=s3.heap.push {cls:=.type "slice",data:=.fields #[vl,vu,.none]}}:=I3.kept  λb ob q=>_c _ q;obtain⟨T,id,hT,ht,hg⟩:=hr ac {s3 with heap:=s3.heap.push {cls:=.type "slice",data:=.fields #[vl,vu,.none]}} O H3 x v vl vu l u s3.heap.objs.size Q I4 r1 (Heap.IsSliceOf.new ..) pl pu q3;exact tail_any  ht hT hg (by with_unfolding_all rfl)
noncomputable def zh7(xs:List V)(lo hi:Option Int):List V:=(xs.drop (HT.sIx xs.length 0 lo)).take (HT.sIx xs.length xs.length hi-HT.sIx xs.length 0 lo)
theorem z0U(xs:List V)(lo hi:Option Int):(zh7 xs lo hi).length<=xs.length:=by
 unfold zh7;rw[_a4,_cy];lia
def zmp(K:W.Frag):V->Option Int->Option Int->Hp->VK->Prop:=λx lo hi H Q=>∃a xs,x=.ref a/\SqT K H a xs/\ ¬ (HT.sIx xs.length 0 lo=0/\HT.sIx xs.length xs.length hi=xs.length)/\∀p,H p=none->Q (.ref p) (upd H p (.tup (zh7 xs lo hi)))
theorem zib:SlR X (zmp X.K):=by
 intro ac s O H x v vl vu lo hi sl Q I rx hs pl pu h;obtain⟨a,xs,rfl,hx,hw,q⟩:=h;cases rx;obtain⟨ae,r,ht,hz⟩:=I.tuple hx;have aF:ae.toArray.size=xs.length:=r.length.symm;refine⟨"tuple",_,_aq.lookup,ht.typeIs,(HT.kq ht hs pl pu (by rw[aF];exact hw) ?_ (by rw[aF];exact hz))⟩;rw[aF];refine⟨.ref s.heap.objs.size,_,I.laid   (λb ob q=>_c _ q) (_h _) ?_,rfl,q _ (I.hok.fresh (_h _))⟩;exact⟨_al (z0U xs lo hi) hz,_,(r.drop (HT.sIx xs.length 0 lo)).take (HT.sIx xs.length xs.length hi-HT.sIx xs.length 0 lo),zbN.new _ _⟩
def zkr(K:W.Frag):R2:=λx y H Q=>∃a b xs ys,x=.ref a/\y=.ref b/\SqT K H a xs/\SqT K H b ys/\xs≠[]/\xs.length+ys.length<=sizeLine/\ (ys=[]->Q (.ref a) H)/\(ys≠[]->∀p,H p=none->Q (.ref p) (upd H p (.tup (xs++ys))))
theorem yp.nil_iff   (r:yp xs us):us=[] ↔ xs=[]:=by cases r with
 | nil=>decide | cons _ _=>simp
theorem zfA:OpR X (binaryOp .Add) (zkr X.K):=by
 intro ac s O H x y v u Q I rx ry h;obtain⟨a,b,xs,ys,rfl,rfl,ha,hb,hx,hz,q1,q2⟩:=h;cases rx;cases ry;obtain⟨ae,r1,p1,_⟩:=I.tuple ha;obtain⟨bu,r2,p2,_⟩:=I.tuple hb;refine HT.zge p1 p2 (λz=>hx (r1.nil_iff.mp z)) (λz=>⟨.ref a,H,I,rfl,q1 (r2.nil_iff.mp z)⟩) (λz=>⟨.ref s.heap.objs.size,_,I.laid   (λb ob q=>_c _ q) (_h _) ?_,rfl,q2 (λw=>z (r2.nil_iff.mpr w)) _ (I.hok.fresh (_h _))⟩) (by rw[<- r1.length,<- r2.length];exact hz);exact⟨by rw[_ab];exact hz,_,r1.append r2,zbN.new _ _⟩
end
noncomputable def ixN(n:Nat)(i:Int):Option Nat:=if 0<=i then (if i<n then some i.toNat else none) else if -(n:Int)<=i then some (i+n).toNat else none
noncomputable def atI{α:Type}(xs:List α)(i:Int):Option α:=(ixN xs.length i).bind λj=>xs[j]?
theorem z9T    (h:ixN n i=some j):seqIndex? i n=some j/\j<n/\-(n:Int)<=i/\i<n:=by
 unfold ixN at h;by_cases h0:0<=i
 ·rw[_g h0]at h;by_cases h1:i<n
  ·rw[_g h1]at h;have e  := _I h;exact⟨by rw[seqIndex_of h0 h1,e],by lia,by lia,h1⟩
  ·rw[_l h1]at h;cases h
 ·rw[_l h0]at h;by_cases h1:-n<=i
  ·rw[_g h1]at h;have e  := _I h;exact⟨by rw[seqIndex_neg (by lia) h1,e],by lia,h1,by lia⟩
  ·rw[_l h1]at h;cases h
theorem z9I    {v:α}(h:atI xs i=some v):∃j,seqIndex? i xs.length=some j/\xs[j]? = some v/\j<xs.length/\-(xs.length:Int)<=i/\i<xs.length:=by
 unfold atI at h;cases e:ixN xs.length i with
 | none=>rw[e]at h;cases h | some j=>
  rw[e]at h;obtain⟨h1,h2,h3,h4⟩:=z9T e;exact⟨j,h1,h,h2,h3,h4⟩
def z6o(b:Expr):Prop:=∀o i,subscripted b false o i=operate [o,i] (getItem o i)
def IxR(X:Cx)(r:R2):Prop:= ∀(aC slice:Expr)(ac:List (Addr×Obj))(s:Shared)(O:St)(H:Hp)(x y:V)(v u:Value)(Q:VK),Inv X ac O H s->ym x v->ym y u->r x y H Q-> subscripted slice false v u=operate [v,u] (getItem v u)->wpAny (model X.prog X.w) X.A (subscriptTail aC slice v u) (EP X ac O Q) X.xe s
def MtR (X:Cx) (id:String) (r:V->List V->Hp->VK->Prop):Prop:= ∀(ac:List (Addr×Obj)) (s:Shared) (O:St) (H:Hp) (x:V) (xs:List V) (v:Value) (us:List Value) (Q:VK),Inv X ac O H s->ym x v->yp xs us->r x xs H Q-> wpAny (model X.prog X.w) X.A (call (.builtin id) (v::us)) (EP X ac O Q) X.xe s
section
variable {X:Cx}{a b:Expr}{ta tb:TE}{pos:Pos}
theorem IxR.or  (h:IxR X r)(h':IxR X r'):IxR X (λx y H Q=>r x y H Q\/r' x y H Q):=by
 intro aC slice ac s O H x y v u Q I rx ry q hs;rcases q with q | q;·exact h aC slice ac s O H x y v u Q I rx ry q hs
 ·exact h' aC slice ac s O H x y v u Q I rx ry q hs
theorem zik  (hr:IxR X r)(ha:PE X a ta)(hb:PE X b tb)(hs:z6o b):PE X (.Subscript a b pos) (tOp r ta tb):=λac s O H Q I h=>Subscript_ (zlg ha hb I h λv u s2 x y H2 I2 rx ry q=>hr a b ac s2 O H2 x y v u Q I2 rx ry q (hs _ _))
def zmm(K:W.Frag):R2:=λx y H Q=>∃p xs i v,x=.ref p/\y=.int i/\SqL K H p xs/\atI xs i=some v/\Q v H
def zlS(K:W.Frag):R2:=λx y H Q=>∃p xs i v,x=.ref p/\y=.int i/\SqT K H p xs/\atI xs i=some v/\Q v H
theorem zfM:IxR X (zmm X.K):=by
 intro aC slice ac s O H x y v u Q I rx ry h hs;obtain⟨p,xs,i,z,rfl,rfl,hq,he,q⟩:=h;cases rx;obtain⟨t,rfl⟩:=ry;obtain⟨ae,r,pl,hz⟩:=I.list hq;obtain⟨j,h1,h2,h3,h4,h5⟩:=z9I he;obtain⟨w,ew,cL⟩:=r.get h2;have hl:=r.length;have hn:=z7v;have fin:EP X ac O Q w s:=⟨z,H,I,cL,q⟩;by_cases h0:0<=i
 ·have hj:i.toNat=j:=by
   rw[seqIndex_of h0 h5]at h1;exact _I h1
  exact item_listR pl.isList h0 (by lia) (by rw[hj];simpa using ew) fin hs
 ·have hj:(i+(ae.toArray.size:Int)).toNat=j:=by
   rw[seqIndex_neg (by lia) h4]at h1;rw[_A,<- hl];exact _I h1
  exact _ch  pl.isList.typeIs _do.lookup (wpAny_getItem_list_neg  pl.isList (by lia) (by rw[_A]<;>lia) (by lia) (by rw[hj];simpa using ew) ⟨rfl,fin⟩) hs
theorem ziJ:IxR X (zlS X.K):=by
 intro aC slice ac s O H x y v u Q I rx ry h hs;obtain⟨p,xs,i,z,rfl,rfl,hq,he,q⟩:=h;cases rx;obtain⟨t,rfl⟩:=ry;obtain⟨ae,r,pl,hz⟩:=I.tuple hq;obtain⟨j,h1,h2,h3,h4,h5⟩:=z9I he;obtain⟨w,ew,cL⟩:=r.get h2;have hn:=z7v;exact _ch  pl.typeIs slot_tuple_getitem.lookup (getItem_tuple   pl (by lia) (by lia) (by rw[_A,<- r.length];exact h1) (by simpa using ew) ⟨rfl,⟨z,H,I,cL,q⟩⟩) hs
theorem z8j (ae:List Value) (n j:Nat) (u:Value):Obj.mapSeq (·.setIfInBounds j u) {cls:=.type "list",data:=.seq ae.toArray n}={cls:=.type "list",data:=.seq (ae.set j u).toArray n}:=by simp[Obj.mapSeq]
theorem Inv.lst{ac:List (Addr×Obj)}{O:St}{H:Hp}{s:Shared}{p:Addr}{xs:List V}(I:Inv X ac O H s)(h:H p=some (.lst xs)): ∃(ae:List Value)(n:Nat),yp xs ae/\s.heap.get? p=some {cls:=.type "list",data:=.seq ae.toArray n}/\xs.length<=sizeLine:=by
 obtain⟨z,ae,n,r,e⟩:=I.hok p _ h;exact⟨ae,n,r,e,z⟩
theorem Inv.lstUpd  {O:St}     {ae aM:List Value}   (I:Inv X ac O H s) (h:H p=some (.lst xs)) (ho:s.heap.get? p=some {cls:=.type "list",data:=.seq ae.toArray n}) (hf:f {cls:=.type "list",data:=.seq ae.toArray n}={cls:=.type "list",data:=.seq aM.toArray n'}) (r:yp ys aM) (hz:ys.length<=sizeLine) (t:Nat): Inv X ac O (upd H p (.lst ys)) {s with heap:=s.heap.update p f,toks:=t}:=by
 have e:(s.heap.update p f).get? p=some {cls:=.type "list",data:=.seq aM.toArray n'}:=by rw[_ar f ho (by rw[hf]<;>rfl),hf]
 exact I.write   (by rw[h];trivial) (.inl rfl) (λb u hb q=>(_W _ _ (_ba hb)).trans q) ⟨_,e⟩ ⟨hz,aM,n',r,e⟩
def zk7:V->V->V->Hp->(Hp->Prop)->Prop:=λo i v H Q=>∃p xs k j,o=.ref p/\i=.int k/\H p=some (.lst xs)/\ixN xs.length k=some j/\Q (upd H p (.lst (xs.set j v)))
theorem set_list:zlG X zk7:=by
 intro ac s O H o i v ov iv u Q I ro ri rv h;obtain⟨p,xs,k,j,rfl,rfl,hp,hj,q⟩:=h;cases ro;obtain⟨t,rfl⟩:=ri;obtain⟨ae,n,r,ho,hz⟩:=I.lst hp;obtain⟨h1,h2,h3,h4⟩:=z9T hj;have hl:=r.length;have hn:=z7v;have I'  := I.lstUpd hp ho (z8j ae n j u) (r.set rv j) (by rw[List.length_set];exact hz) s.toks;by_cases h0:0<=k
 ·have hk:k.toNat=j:=by
   rw[seqIndex_of h0 h4]at h1;exact _I h1
  exact W.ki_setAt ho h0 (by lia) (by rw[_A,<- hl];exact h4) (by rw[hk];exact⟨_,I',q⟩)
 ·have hk:(k+ae.toArray.size).toNat=j:=by
   rw[seqIndex_neg (by lia) h3]at h1;rw[_A,<- hl];exact _I h1
  exact W.ki_setBack ho (by lia) (by rw[_A,<- hl];exact h3) (by lia) (by rw[hk];exact⟨_,I',q⟩)
theorem z5e(lo hi:Option Int)(n:Nat):(sliceBounds lo hi none n).1=((HT.sIx n 0 lo:Nat):Int)/\(sliceBounds lo hi none n).2.1=(HT.sIx n n hi:Int)/\(sliceBounds lo hi none n).2.2=1:=by
 refine⟨?_,?_,rfl⟩;·cases lo with
  | none=>rfl | some i=>
   simp only[sliceBounds,HT.sIx,Option.getD_none,_K];by_cases h:i<0;·simp only[h,_K]<;>lia
   ·simp only[h,_M]<;>lia
 ·cases hi with
  | none=>rfl | some i=>
   simp only[sliceBounds,HT.sIx,Option.getD_none,_K];by_cases h:i<0;·simp only[h,_K]<;>lia
   ·simp only[h,_M]<;>lia
theorem z3i(ae:List Value)(lo hi:Option Int):slicePick ae.toArray lo hi none=((ae.drop (HT.sIx ae.length 0 lo)).take (HT.sIx ae.length ae.length hi-HT.sIx ae.length 0 lo)).toArray:=by
 obtain⟨h1,h2,h3⟩:=z5e lo hi ae.toArray.size;unfold slicePick;rw[h1,h2,h3];simp only[sliceRange_one,pick_run,_A]<;>rfl
def zm9(K:W.Frag):V->Option Int->Option Int->Hp->VK->Prop:=λx lo hi H Q=>∃a xs,x=.ref a/\SqL K H a xs/\∀p,H p=none->Q (.ref p) (upd H p (.lst (zh7 xs lo hi)))
theorem zf5:SlR X (zm9 X.K):=by
 intro ac s O H x v vl vu lo hi sl Q I rx hs pl pu h;obtain⟨a,xs,rfl,hx,q⟩:=h;cases rx;obtain⟨ae,r,ht,hz⟩:=I.list hx;have aF:=r.length;refine⟨"list",_,_do.lookup,ht.isList.typeIs,(wpAny_getItem_list_slice ht.isList hs pl pu .none (by decide) ?_ (by rw[_A]<;>lia))⟩;rw[z3i,<- aF];refine⟨.ref s.heap.objs.size,_,I.laid   (λb ob q=>_c _ q) (_h _) ?_,rfl,q _ (I.hok.fresh (_h _))⟩;exact⟨_al (z0U xs lo hi) hz,_,0,(r.drop (HT.sIx xs.length 0 lo)).take (HT.sIx xs.length xs.length hi-HT.sIx xs.length 0 lo),_k _ rfl⟩
noncomputable def z2g:V->Bool
 | .non=>true | .bl _=>true | .int _=>true | .str _=>true | _=>false
noncomputable def eqV:V->V->Bool
 | .non,.non=>true | .bl a,.bl b=>a==b | .bl a,.int b=>(if a then 1 else 0)==b | .int a,.bl b=>a==(if b then 1 else 0) | .int a,.int b=>a==b | .str a,.str b=>a==b | _,_=>false
theorem zih     (ry:ym y u)(rx:ym x v)(fy:z2g y=true)(fx:z2g x=true):SeqAt.EqAt A s u v (eqV y x):=by cases y with
 | non=>
  cases ry;cases x with
  | non=>cases rx;exact SeqAt.EqAt.same _ | bl b=>cases rx;exact SeqAt.EqAt.none_bool b | int b=>obtain⟨t,rfl⟩:=rx;exact SeqAt.EqAt.none_int b t | str b=>obtain⟨t,rfl⟩:=rx;exact SeqAt.EqAt.none_str b t | _=>exact absurd (fx) _aW
 | bl a=>
  cases ry;cases x with
  | non=>cases rx;exact SeqAt.EqAt.bool_none a | bl b=>cases rx;exact SeqAt.EqAt.bool_bool a b | int b=>obtain⟨t,rfl⟩:=rx;exact SeqAt.EqAt.bool_int a b t | str b=>obtain⟨t,rfl⟩:=rx;exact SeqAt.EqAt.bool_str a b t | _=>exact absurd (fx) _aW
 | int a=>
  obtain⟨t',rfl⟩:=ry;cases x with
  | non=>cases rx;exact SeqAt.EqAt.int_none a t' | bl b=>cases rx;exact SeqAt.EqAt.int_bool a t' b | int b=>obtain⟨t,rfl⟩:=rx;exact SeqAt.EqAt.int_int a t' b t | str b=>obtain⟨t,rfl⟩:=rx;exact SeqAt.EqAt.int_str a t' b t | _=>exact absurd (fx) _aW
 | str a=>
  obtain⟨t',rfl⟩:=ry;cases x with
  | non=>cases rx;exact SeqAt.EqAt.str_none a t' | bl b=>cases rx;exact SeqAt.EqAt.str_bool a t' b | int b=>obtain⟨t,rfl⟩:=rx;exact SeqAt.EqAt.str_int a t' b t | str b=>obtain⟨t,rfl⟩:=rx;exact SeqAt.EqAt.str_str a t' b t | _=>exact absurd (fx) _aW
 | _=>exact absurd (fy) _aW
noncomputable def eqU(x:V)(u:Value):Bool:=match u with
 | .none=>eqV .non x | .bool b=>eqV (.bl b) x | .int i _=>eqV (.int i) x | .str z _=>eqV (.str z) x | _=>false
theorem ze7   (r:ym y u)(f:z2g y=true):eqU x u=eqV y x:=by cases y with
 | non=>cases r;rfl | bl b=>cases r;rfl | int i=>obtain⟨t,rfl⟩:=r;rfl | str z=>obtain⟨t,rfl⟩:=r;rfl | _=>exact absurd (f) _aW
theorem z6l  : ∀{xs:List V}{us:List Value},yp xs us->xs.all z2g=true->us.any (eqU x)=xs.any λy=>eqV y x
 | _,_,.nil,_=>rfl | y::xs,u::us,.cons r t,f=>by
  rw[List.all_cons,_L]at f;rw[_bs,_bs,ze7 r f.1,z6l t f.2]
theorem z3k     (rx:ym x v)(fx:z2g x=true):∀{xs:List V}{us:List Value},yp xs us->xs.all z2g=true->∀u∈us,SeqAt.EqAt A s u v (eqU x u)
 | _,_,.nil,_=>λu hu=>by cases hu | y::xs,u::us,.cons r t,f=>λu' hu=>by
  rw[List.all_cons,_L]at f;rcases _n.mp hu with rfl | hu;·rw[ze7 r f.1];exact zih r rx f.1 fx
  ·exact z3k rx fx t f.2 u' hu
noncomputable def inV(x:V)(xs:List V):Bool:=xs.any λy=>eqV y x
def rIn(K:W.Frag)(bA:Bool):R2:=λx y H Q=>∃p xs,y=.ref p/\(SqL K H p xs\/SqT K H p xs)/\z2g x=true/\xs.all z2g=true/\Q (.bl (if bA then !inV x xs else inV x xs)) H
theorem zbh:OpR X (compareOp .In) (rIn X.K false):=by
 intro ac s O H x y v u Q I rx ry h;obtain⟨p,xs,rfl,hq,fx,fs,q⟩:=h;cases ry;rcases hq with hq | hq
 ·obtain⟨ae,r,pl,hz⟩:=I.list hq;refine SeqAt.in_listAt (eqU x) pl.isList (λw hw=>z3k rx fx r fs w (by simpa using hw)) ⟨.bl _,H,I,rfl,?_⟩;rw[show ae.toArray.any (eqU x)=ae.any (eqU x) by simp,z6l r fs];exact q
 ·obtain⟨ae,r,pl,hz⟩:=I.tuple hq;refine SeqAt.in_tupleAt (eqU x) pl (λw hw=>z3k rx fx r fs w (by simpa using hw)) ⟨.bl _,H,I,rfl,?_⟩;rw[show ae.toArray.any (eqU x)=ae.any (eqU x) by simp,z6l r fs];exact q
theorem z4V:xA X (.builtin "len") (λxs H Q=>∃p ys,xs=[.ref p]/\(SqL X.K H p ys\/SqT X.K H p ys)/\Q (.int ys.length) H):=by
 intro ac s O H xs us Q I r h;obtain⟨p,ys,rfl,hq,q⟩:=h;obtain⟨u,rfl,rx⟩:=vals1 r;cases rx;have hn:=z7v;rcases hq with hq | hq
 ·obtain⟨ae,r',pl,hz⟩:=I.list hq;have aF:=r'.length;exact Calls.call_len_list pl.isList (by simp only[_A]<;>lia) ⟨.int ys.length,H,I.tok _,⟨s.toks+1,by rw[_A,aF]⟩,q⟩
 ·obtain⟨ae,r',pl,hz⟩:=I.tuple hq;have aF:=r'.length;exact len_tuple pl (by simp only[_A]<;>lia) ⟨.int ys.length,H,I.tok _,⟨s.toks+1,by rw[_A,aF]⟩,q⟩
theorem z43:xA X (.type "tuple") (λxs H Q=>∃p ys,xs=[.ref p]/\((SqL X.K H p ys/\∀l,H l=none->Q (.ref l) (upd H l (.tup ys)))\/(SqT X.K H p ys/\Q (.ref p) H))):=by
 intro ac s O H xs us Q I r h;obtain⟨p,ys,rfl,h⟩:=h;obtain⟨u,rfl,rx⟩:=vals1 r;cases rx;rcases h with⟨hq,q⟩ | ⟨hq,q⟩
 ·obtain⟨ae,r',pl,hz⟩:=I.list hq;have aF:=r'.length;refine call_tuple_list pl.isList (λh' kp=>?_) (by simp only[_A]<;>lia);have I1  := I.kept (t':=s.toks) kp;exact⟨.ref h'.objs.size,_,(I1.laid (t':=s.toks) (λb o e=>_c _ e) (_h _) (show xF X.prog X.w _ _ _ (.tup ys) from⟨hz,ae,r',zbN.new _ _⟩)),rfl,q _ (I1.hok.fresh (_h _))⟩
 ·obtain⟨ae,r',pl,hz⟩:=I.tuple hq;exact call_tuple_same pl ⟨.ref p,H,I,rfl,q⟩
def tyV(K:W.Frag)(T:String)(x:V)(H:Hp):Prop:=match x with
 | .str _=>T="str" | .int _=>T="int" | .ref p=>(T="list"/\∃xs,SqL K H p xs)\/(T="tuple"/\∃o,K.lookup p=some o/\o.cls=.type "tuple"/\o.dict=none)\/ (T="dict"/\((∃kvs,H p=some (.dK kvs))\/∃kvs,H p=some (.dT kvs)))\/(T="set"/\∃S n,H p=some (.set S n)) | _=>False
theorem zhZ  {O:St}      (I:Inv X ac O H s)(r:ym x v)(ty:tyV X.K T x H): s.TypeIs v T/\∀a,v=.ref a->∃ob,s.heap.get? a=some ob/\ob.dict=none:=by cases x with
 | str z=>
  obtain⟨t,rfl⟩:=r;cases (ty);exact⟨typeIs_str s z t,λ_ e=>nomatch e⟩ | int i=>
  obtain⟨t,rfl⟩:=r;cases (ty);exact⟨typeIs_int s i t,λ_ e=>nomatch e⟩ | ref p=>
  cases r;rcases ty with⟨rfl,xs,hq⟩ | ⟨rfl,o,hk,hc,hd⟩ | ⟨rfl,hk⟩ | ⟨rfl,S,n,hk⟩
  ·obtain⟨ae,_,pl,_⟩:=I.list hq;refine⟨pl.isList.typeIs,λa e=>?_⟩;cases e;obtain⟨o,n,e,c,hd,_⟩:=pl;exact⟨o,e,hd⟩
  ·refine⟨⟨o,I.kIn p o hk,hc⟩,λa e=>?_⟩;cases e;exact⟨o,I.kIn _ o hk,hd⟩
  ·obtain⟨o,e,ex⟩:=(show ∃o,s.heap.get? p=some o/\o.ExactDict from by
    rcases hk with⟨kvs,hk⟩ | ⟨kvs,hk⟩
    ·obtain⟨_,_,_,_,o,_,_,e,ex,_⟩:=I.hok p _ hk;exact⟨o,e,ex⟩
    ·obtain⟨_,_,_,_,o,_,_,e,ex,_⟩:=I.hok p _ hk;exact⟨o,e,ex⟩);refine⟨⟨o,e,ex.1⟩,λa e2=>?_⟩;cases e2;exact⟨o,e,ex.2.1⟩
  ·obtain⟨o,_,_,_,e,ex,_⟩:=I.hok p _ hk;refine⟨⟨o,e,ex.1⟩,λa e2=>?_⟩;cases e2;exact⟨o,e,ex.2.1⟩ | _=>exact False.elim ty
def tBM(K:W.Frag)(T:String)(r:V->List V->Hp->VK->Prop)(to:TE)(t:TA):TE:=λO H Q=>to O H λx H1=>tyV K T x H1/\t O H1 λxs H2=>r x xs H2 Q
variable {o e:Expr}{es:List Expr}{to:TE}{t:TA}{name:Str}{aV aG:Pos}{T id:String}{r:V->List V->Hp->VK->Prop}
theorem zld (pa:PlainAttrs T) (slot:Slot T name id) (iV:typeOf (.builtin id)=pure (.type "method_descriptor")) (hm:MtR X id r) (ho:PE X o to) (ha:PA X (e::es) t) (aW:autoParam (attributeBase o name X.env (eval o X.env)=eval o X.env) aRf) (bY:autoParam (((backTo aG (starEach (e::es) X.env)).all (λx=>!x.1)&&(backToKw aG (keywordEach [] X.env)).all (λx=>x.1.isSome) && decide ((e::es).length+([]:List Keyword).length+(if ([]:List Keyword).isEmpty then 0 else 1)<30))=true) aRf) (aD:autoParam ((aV.endLine==aG.line)=true) aRf) (hs:autoParam (starEach (e::es) X.env=(false,eval e X.env)::starEach es X.env) aRf) (bn:autoParam ((backTo aG (starEach es X.env)).any (·.1)=false) aRf): PE X (.Call (.Attribute o name aV) (e::es) [] aG) (tBM X.K T r to t):=by
 refine λac s O H Q I h=>wpAny_Call_method_late aW bY aD rfl (thn (ho ac s O H _ I h) λv s1 ⟨x,H1,I1,r1,ty,q1⟩=>?_);obtain⟨h1,h2⟩:=zhZ I1 r1 ty;refine⟨T,id,pa,slot,iV,h1,h2,?_⟩;have hA:=ha aG ac s1 O H1 _ I1 q1;rw[hs]at hA ⊢;exact _ci (by show (false||(backTo aG (starEach es X.env)).any (·.1))=false;rw[bn]<;>rfl) (_bH (thn hA λus s2 ⟨vs,H2,I2,r2,q2⟩=>hm ac s2 O H2 x vs v us Q I2 r1 r2 q2))
end
def MtM (X:Cx) (id:String) (r:V->List V->Hp->VK->Prop):Prop:= ∀(ac:List (Addr×Obj)) (s:Shared) (O:St) (H:Hp) (x:V) (xs:List V) (v:Value) (us:List Value) (Q:VK),Inv X ac O H s->ym x v->yp xs us->r x xs H Q-> wpAny (model X.prog X.w) X.A (call (.builtin id) (v::us)) (EP X ac O Q) X.xe s
theorem yp.one:∀{x:V}{us:List Value},yp [x] us->∃u,us=[u]/\ym x u | _,_,.cons r .nil=>⟨_,rfl,r⟩
section
variable {X:Cx}{ac:List (Addr×Obj)}{O:St}{H:Hp}{s:Shared}{l b:Addr}{xs ys zs:List V}
theorem Inv.lset {ae aM:List Value}    (I:Inv X ac O H s) (hH:H l=some (.lst xs)) (e:s.heap.get? l=some {cls:=.type "list",data:=.seq ae.toArray n}) (hf:f ae.toArray=aM.toArray) (hv:yp ys aM) (hz:ys.length<=sizeLine): Inv X ac O (upd H l (.lst ys)) {s with heap:=s.heap.update l (Obj.mapSeq f),toks:=t'}:=by
 have q:=PySem.IsL.update e f;rw[hf]at q;exact I.write   (by rw[hH];exact trivial) (.inl rfl) (λb' u hb hu=>(_W s.heap (Obj.mapSeq f) (_ba hb)).trans hu) ⟨_,q⟩ ⟨hz,aM,_,hv,q⟩
theorem Inv.lnew   (I:Inv X ac O H s) (hv:yp ys ae) (hz:ys.length<=sizeLine): Inv X ac O (upd H s.heap.objs.size (.lst ys)) {s with heap:=s.heap.push {cls:=.type "list",data:=.seq ae.toArray},toks:=t'}:= I.laid (λ_ _ q=>_c _ q) (_h _) ⟨hz,ae,0,hv,_k _ rfl⟩
theorem Inv.fresh(I:Inv X ac O H s):H s.heap.objs.size=none:=I.hok.fresh (_h _)
theorem Inv.lstM(I:Inv X ac O H s)(hH:H l=some (.lst xs)):xs.length<=sizeLine/\∃(ae:List Value)(n:Nat),yp xs ae/\xs.length=ae.length/\s.heap.get? l=some {cls:=.type "list",data:=.seq ae.toArray n}:=by
 obtain⟨z,ae,n,r,e⟩:=I.hok l _ hH;exact⟨z,ae,n,r,r.length,e⟩
end
section
variable {X:Cx}
def zg9:V->List V->Hp->VK->Prop:=λx vs H Q=>∃l xs y,x=.ref l/\vs=[y]/\H l=some (.lst xs)/\xs.length<sizeLine/\Q .non (upd H l (.lst (xs++[y])))
theorem zaC:MtM X "list.append" zg9:=by
 intro ac s O H x vs v us Q I rx rv h;obtain⟨l,xs,y,rfl,rfl,hH,hz,q⟩:=h;cases rx;obtain⟨u,rfl,ru⟩:=rv.one;obtain⟨z,ae,n,r,hl,e⟩:=I.lstM hH;refine call_meets F.slot_list_append ⟨_,e,rfl⟩ F.entry_list_append (F.args_list_append_2 _ _) (PySem.list_append l ae.toArray n u (by rw[_A];lia)) ⟨e,?_⟩;refine⟨.non,_,I.lset  hH e (by simp) (r.append (.cons ru .nil)) ?_,rfl,q⟩;rw[_ab,List.length_singleton];lia
end
end L2
namespace Att
open PySem.W PySem.Calls
theorem z1P   : ∀(ns:List Int)(vs:List Value),WellAll P h vs (ns.map WData.int)->IntsAre vs ns:=by
 intro ns;induction ns with
 | nil=>
  intro vs w;cases w;exact .nil | cons n ns ih=>
  intro vs w;cases w with | cons a b=>
   cases a;exact .cons _ _ (ih _ b)
theorem zbC {l:OpenLaw}  (hn:l.most=some n) (dJ:l.row.toRowW.claim.pre args=true) (iW:WellAll P h fV args): ∃a vs ns,fV=[Value.ref a]/\args=[WData.list (ns.map WData.int)]/\h.get? a=some {cls:=.type "list",data:=.seq vs.toArray}/\IntsAre vs ns/\ns.length<=n:=by
 have hc:l.pre.holds [] {args:=args}=true:=(pre_splitW dJ).2;obtain⟨d,r,rfl,h1,h2⟩:=hasAllW_cons ((pre_splitW dJ).1);obtain rfl:=hasAllW_nil h2;obtain⟨xs,rfl,h3⟩:=hasW_list h1;obtain⟨ns,rfl⟩:=items_int h3;cases iW with | cons w1 w2=>
  cases w2;cases w1 with | list ho bQ=>exact⟨_,_,ns,rfl,rfl,ho,z1P ns _ bQ,(by
  have h4:(WTm.not (.lt (.lit (.int n)) (.len (.arg 0)))).holds [] {args:=[.list (ns.map .int)]}=true:=by
   have h4:=(holds_andW hc).1;rw[hn]at h4;exact h4
  have h5:=condW_of h4 (w_not (w_lt w_lit (w_len_list (w_arg rfl))));(simp at h5;lia))⟩
theorem zaD(l:OpenLaw)(args:List WData):l.row.toRowW.claim.post args (.bool true) args=true:= postW_of ((by rfl)) ((w_eq_bool (w_res rfl) w_lit)) rfl
theorem z6b{l:OpenLaw} (hn:l.most=some n)(iX:d.params.defaults=[]) (call:∀(w:World)(s₀ s₁:Shared)(mg mb:Str->Option Value)(fa:Addr)(o:Obj)(pm cd bH:Value)(a:Addr)(vs:List Value)(ns:List Int), Ground q loose [] XP w s₀ mg mb s₁.heap->YP w s₁.heap-> s₁.heap.get? fa=some o->o.data=.func (docDef d.name d.params d.body d.scope pm cd bH)->s₁.heap.CodeRec cd d.name->mg d.name=some (.ref fa)-> s₁.heap.get? a=some {cls:=.type "list",data:=.seq vs.toArray}->IntsAre vs ns->ns.length<=n->s₁.gens=#[]-> codeAny (model l.prog w) callerA (.call (.ref fa) ⟨[.ref a],[]⟩) (λr s'=>r=.ok (.ret (.bool true))/\OldK s₁.heap s'.heap/\s'.os=s₁.os/\AllBare s'.gens) s₁): WalkO q loose XP YP l.row.toRowW d [] (λf vs=>PySem.call f vs):=by
 intro w s₀ s₁ mg mb G Yy fa o pm cd bH dV kV ho hd ce hD eI hg args fV as dJ n8 ss iW su;obtain rfl:dV=.none:=Dflts.none hD iX;obtain rfl:kV=.none:=Dflts.noKw hD;obtain⟨a,vs,ns,rfl,rfl,eJ,cZ,aF⟩:=zbC hn dJ iW;refine enter_call (_bP (call w s₀ s₁ mg mb fa o pm cd bH a vs ns G Yy ho (fd_plain hd) ce eI eJ cZ aF hg) λr s' hq=>?_);obtain⟨rfl,h2,h3,h4⟩:=hq;exact⟨.inl ⟨.bool true,.bool true,[],rfl,λ_=>rfl,.bool true,zaD l _,λ_=>⟨List.Pairwise.nil,λ_ hm=>(nomatch hm)⟩⟩,h2,h3,h4⟩
section
variable {prog:Program}{w:World}{A:Around}{E:Value->Shared->Prop}{s:Shared}{K:Frag}
noncomputable def ledger(h:Heap)(L d:Addr):List (Addr×Obj):=(List.range h.objs.size).filterMap λa=>if a=L\/a=d then none else (h.get? a).map λo=>(a,o)
end
end Att
namespace L2
theorem z4v:∀{vs:List Value}{ns:List Int},IntsAre vs ns->yp (ns.map V.int) vs
 | _,_,.nil=>.nil | _,_,.cons n t h=>.cons ⟨t,rfl⟩ (z4v h)
def zlb(H:Hp):Prop:=∀b,H b=none\/∃o xs,H b=some (.frz o (.lst xs))
theorem zcT   {K:W.Frag} (KX:K.In s₁.heap)(mF:s₁.heap.Ns mainGlobals mg)(hb:s₁.heap.Ns builtinsNs mb)(oh:∀x:Str,x≠"__name__"->mb x=bootBuiltins x)(iY:s₁.heap.NoLimit)(hg:s₁.gens=#[]) (ha:s₁.heap.get? a=some {cls:=.type "list",data:=.seq vs.toArray})(hi:IntsAre vs ns)(hl:ns.length<=sizeLine)(hr:kr k callerA) (F:∀base:Heap,K.In base->base.Ns mainGlobals mg->z3A P w K mg base CX k fa fd [x] sp)(fW:∀(s:Shared)(u:Value),BindsTo s fd ⟨[u],[]⟩ [(x,u)]) (fE:∀H:Hp,zlb H->SqL K H a (ns.map V.int)->sp [.ref a] H (λv _=>v=.bl true) λ_ _ _=>False) (oj:∀H e s',CX [] H s₁ (λ_ _ _=>False) e s'->False): codeAny (model P w) callerA (.call (.ref fa) ⟨[.ref a],[]⟩) (λr s'=>r=.ok (.ret (.bool true))/\OldK s₁.heap s'.heap/\s'.os=s₁.os/\AllBare s'.gens) s₁:=by
 have rv:=z4v hi;have fX:∀H:Hp,zlb H->SqL K H a (ns.map V.int)->HOk P w H s₁.heap->(∀b,H b≠none->b=a)->(H a≠none->K.lookup a=none)-> codeAny (model P w) callerA (.call (.ref fa) ⟨[.ref a],[]⟩) (λr s'=>r=.ok (.ret (.bool true))/\OldK s₁.heap s'.heap/\s'.os=s₁.os/\AllBare s'.gens) s₁:=by
  intro H hO hS hok hA hK;have cH:∀{b:Addr}{o:Obj},s₁.heap.get? b=some o->H b=none->(zha s₁.heap H).get? b=some o:=λe n=>zcF e n;have fT:∀{b:Addr}{o:Obj}{es:Array DictEntry}{ep:Nat},s₁.heap.get? b=some o->o.data=.dict es ep->H b=none:=λ{b o es ep} e d=>by cases q:H b with
   | none=>rfl | some u=>
    have e'  := hA b (by rw[q];simp);subst e';rw[ha]at e;cases e;cases d
  have iq:∀{b:Addr}{m:Str->Option Value},s₁.heap.Ns b m->(zha s₁.heap H).Ns b m:=λ{b m} ⟨o,es,ep,e,d,r⟩=>⟨o,es,ep,cH e (fT e d),d,r⟩;have mG  := λb o e=>cH (KX b o e) (by cases q:H b with
   | none=>rfl | some u=>
    have e'  := hA b (by rw[q];simp);subst e';rw[hK (by rw[q];simp)]at e;cases e);refine _bP ((F _ mG (iq mF)).run callerA [] s₁ H ⟨[.ref a],[]⟩ [.ref a] [.ref a] _ _ hr ⟨rfl,⟨mG,iq mF,⟨mb,iq hb,oh⟩,let ⟨mc,h1,h2⟩:=iY;⟨mc,iq h1,h2⟩⟩,λb o e=>zh0 e,Nat.le_of_eq (z9j _ _),trivial,λb hb=>absurd (show b∈([]:List Addr) from hb) (by simp),hok,.of_eq hg⟩ (fW s₁ (.ref a)) (.cons rfl .nil) (fE H hO hS)) λr s' h=>?_;cases r with
  | error e=>exact (oj H e s' h).elim | ok fl=> cases fl with
   | next=>exact False.elim h | brk=>exact False.elim h | cont=>exact False.elim h | ret u=>
    obtain⟨v,H',os,bare,un,iZ,r',q⟩:=h;subst q;obtain rfl:u=Value.bool true:=r';refine⟨rfl,OldK.of_keep λb o e=>?_,os,bare⟩;cases q:H b with
    | none=>exact un.keep b o e q (by exact λz=>absurd (show b∈([]) from z) (by simp)) (by simp) | some u=>
     rcases hO b with z | ⟨ob,xs,z⟩;·rw[q]at z;cases z
     ·obtain⟨e1,_⟩:=hok b _ z;obtain⟨e2,_⟩:=iZ b _ (un.frzs b ob _ z);rw[e]at e1;cases e1;exact e2
 cases hk:K.lookup a with
 | some o=>
  have e:=KX a o hk;rw[ha]at e;cases e;refine fX (λ_=>none) (λ_=>.inl rfl) (.inr ⟨_,vs.toArray,_,hk,rfl,rfl,rfl,by rw[_A,hi.length];exact hl,by exact rv⟩) (λb u z=>by have z'  := z;cases z') (λb z=>absurd rfl z) λz=>absurd rfl z | none=>
  refine fX (λb=>if b=a then some (.frz {cls:=.type "list",data:=.seq vs.toArray} (.lst (ns.map V.int))) else none) (λb=>?_) (.inl (.inr ⟨{cls:=.type "list",data:=.seq vs.toArray},_g rfl⟩)) (λb u z=>?_) (λb z=>?_) λ_=>hk
  ·by_cases hb:b=a;·exact .inr ⟨_,_,_g hb⟩
   ·exact .inl (_l hb)
  ·by_cases hb:b=a
   ·cases ((_g hb).symm.trans z);subst hb;exact⟨ha,by rw[_B];exact hl,vs,_,rv,ha⟩
   ·have z':=(_l hb).symm.trans z;cases z'
  ·by_cases hb:b=a;·exact hb
   ·exact absurd (_l hb) z
noncomputable abbrev KOf{K:W.Frag}{h:Heap}(_:K.In h):W.Frag:=K
noncomputable def qT(s:Stmt):Arguments:=match s with
 | .FunctionDef _ a _ _ _ _ _ _ _ _=>a | _=>{posonlyargs:=[],args:=[],vararg:=none,kwonlyargs:=[],kw_defaults:=[],kwarg:=none,defaults:=[]}
noncomputable def xM(s:Stmt):List Stmt:=match s with
 | .FunctionDef _ _ b _ _ _ _ _ _ _=>b | _=>[]
noncomputable def ze(s:Stmt):Scope:=match s with
 | .FunctionDef _ _ _ _ _ _ sc _ _ _=>sc | _=>{kind:=.function,names:=[],isGenerator:=false,isCoroutine:=false}
noncomputable abbrev CX0:CXT:=λ_ _ _ _ _ _=>False
abbrev E0:XK:=λ_ _ _=>False
theorem zcU  : Passes CX0 X E0:=λ_ _ _ _ _ _ _ h=>h.elim
structure Fun(K:W.Frag)(x qual:Str)(st:Stmt)(f:Addr)(fd:FuncData):Prop where
 ex:∃(oc:Value)(od:Option Addr)(kV bH pm:Value)(an:Option Addr)(aA ct:Value)(dE:Array (Option Value)), fd=W.fnOf x qual (qT st) (xM st) (ze st) .none kV bH pm an aA ct/\K.lookup f=some ⟨oc,od,.func fd,dE⟩/\W.codeIn K aA qual=true
 kp:W.keepIn K (.ref f)=true
section
variable {P:Program}{w:World}{K:W.Frag}{mg:Str->Option Value}{base:Heap}
theorem Fun.ok  {st:Stmt}      (F:Fun K x qual st f fd)(S:zq N ps (ze st))(len:∀vs H Q E,sp vs H Q E->vs.length=ps.length) (cX:∀(aA:Value)(A:Around)(outer:List Env)(s:Shared)(H:Hp)(vs:List V)(Q:VK)(E:XK),kr k (A.deeper (envOfC qual (ze st) s.heap.objs.size f aA))->sp vs H Q E-> ∃t,PSs (z3J CX0 P w K mg base N qual (ze st) f aA A outer s H E).nox (xM st) t/\t {nx:=λ_ H'=>Q .non H',rt:=Q} (start N vs) H):z3A P w K mg base CX0 (k+1) f fd ps sp:=by
 obtain⟨oc,od,kV,bH,pm,an,aA,ct,dE,rfl,lk,ce⟩:=F.ex;refine zhl lk ce S len λA outer s H vs Q E hr fE=>?_;obtain⟨t,h,q⟩:=cX aA A outer s H vs Q E hr fE;exact⟨t,h.nox,q⟩
theorem Fun.binds  {st:Stmt}    (F:Fun K x qual st f fd) (h:∀(kV bH pm:Value)(an:Option Addr)(aA ct:Value)(us:List Value),us.length=ps.length->bindArgs (W.fnOf x qual (qT st) (xM st) (ze st) .none kV bH pm an aA ct) ⟨us,[]⟩=pure (ps.zip us)):Binds K fd ps []:=by
 obtain⟨oc,od,kV,bH,pm,an,aA,ct,dE,rfl,lk,ce⟩:=F.ex;exact .all (h kV bH pm an aA ct)
theorem zj0  {st:Stmt}     {kV bH pm aA ct:Value}(l:K.lookup f=some ⟨oc,od,.func (W.fnOf x qual (qT st) (xM st) (ze st) .none kV bH pm an aA ct),dE⟩) (c:W.codeIn K aA qual=true)(k:W.keepIn K (.ref f)=true):Fun K x qual st f (W.fnOf x qual (qT st) (xM st) (ze st) .none kV bH pm an aA ct):=⟨⟨oc,od,kV,bH,pm,an,aA,ct,dE,rfl,l,c⟩,k⟩
end
section
variable {X:Cx}
theorem pv(i:Nat)  {pos:Pos}(hN:autoParam (X.N[i]? = some x) aRf)(hv:Vis X.env.scope x:=by first | exact Or.inl rfl | exact Or.inr (Or.inl rfl) | exact Or.inr (Or.inr rfl))(hd:autoParam ((x==("__debug__":Str))=false) aDe) (ce:autoParam ((x==("__classdict__":Str))=false) aDe):PE X (.Name x pos) (zlO i):=zab hN hv hd ce
end
end L2
set_option maxHeartbeats 4000000
namespace L2
noncomputable def z5M(env:Env):List (Str×NameKind)->List (Str×Addr)->List (Str×Addr)
 | [],af=>af | (n,k)::r,af=>z5M env r (if k==.free then (match env.cells.lookup n with | some c=>(n,c)::af | none=>af) else af)
theorem z1S  : ∀(names:List (Str×NameKind))(af:List (Str×Addr)),(∀x c,af.lookup x=some c->env.cells.lookup x=some c)->∀x c,(z5M env names af).lookup x=some c->env.cells.lookup x=some c
 | [],af,ha=>ha | (n,k)::r,af,ha=>by
  refine z1S r _ λx c=>?_;split
  ·split
   ·rename_i c' hc;intro h;rw[_Z]at h;split at h
    ·rename_i hb;cases h;rw[_aH.mp hb];exact hc
    ·exact ha x c h
   ·exact ha x c
  ·exact ha x c
theorem z5b   : ∀(names:List (Str×NameKind))(af:List (Str×Addr)),(af.lookup x).isSome=true->((z5M env names af).lookup x).isSome=true
 | [],af,ha=>ha | (n,k)::r,af,ha=>by
  refine z5b r _ ?_;split
  ·split
   ·rw[_Z];split;·rfl
    ·exact ha
   ·exact ha
  ·exact ha
theorem z36   : ∀(names:List (Str×NameKind))(af:List (Str×Addr)),(x,NameKind.free)∈names->(∃c,env.cells.lookup x=some c)->∃c,(z5M env names af).lookup x=some c
 | [],af,h,_=>nomatch h | (n,k)::r,af,h,hc=>by
  rcases _n.mp h with e | h
  ·cases e;obtain⟨c,hc⟩:=hc;unfold z5M;rw[hc];exact _aP.mp (z5b r _ (by simp))
  ·exact z36 r _ h hc
theorem z2x  (f:Str×NameKind->List (Str×Addr)->Sem (ForInStep (List (Str×Addr)))) (hf:∀n k cs,f (n,k) cs=if k==.free then (do let a <- cellOf env n;pure (.yield ((n,a)::cs))) else pure (.yield cs)): ∀(names:List (Str×NameKind))(af:List (Str×Addr)),(∀y∈names,y.2=.free->∃c,env.cells.lookup y.1=some c)->forIn names af f=pure (z5M env names af)
 | [],af,_=>rfl | (n,k)::r,af,h=>by
  rw[List.forIn_cons,hf];have ih:=λc8=>z2x f hf r c8 λy hy=>h y (_G _ hy);unfold z5M;by_cases hk:k=.free
  ·subst hk;obtain⟨c,hc⟩:=h (n,.free) _O rfl;have cu  := hc;have e:cellOf env n=pure c:=by unfold cellOf;rw[cu]
   rw[e,cu];exact ih _
  ·have hb:(k==NameKind.free)=false:=by simpa using hk
   rw[hb];exact ih _
theorem xw   (h:∀y∈scope.names,y.2=.free->∃c,env.cells.lookup y.1=some c):closureFor scope env=pure (z5M env scope.names []):=by
 simp only[closureFor];rw[z2x  _ (λn k cs=>by cases hk:k==NameKind.free<;>rfl) scope.names [] h];rfl
theorem wn:∀(names:List (Str×NameKind))(n:Nat)(af:List (Str×Addr)),cellsFrom n names af=cellsFrom n names []++af
 | [],_,_=>rfl | (x,k)::r,n,af=>by
  unfold cellsFrom;split
  ·rw[wn r (n+1) ((x,n)::af),wn r (n+1) [(x,n)]];simp
  ·exact wn r n af
theorem vX   : ∀(names:List (Str×NameKind))(n:Nat)(af:List (Str×Addr)),(x,c)∈cellsFrom n names af->(x,c)∈af\/(x,NameKind.cell)∈names
 | [],_,_,h=>.inl h | (y,k)::r,n,af,h=>by
  unfold cellsFrom at h;split at h
  ·rename_i hk;rcases vX r _ _ h with q | q
   ·rcases _n.mp q with e | q
    ·cases e;refine .inr ?_;rw[(_aH.mp hk)];exact _O
    ·exact .inl q
   ·exact .inr (_G _ q)
  ·rcases vX r _ _ h with q | q;·exact .inl q
   ·exact .inr (_G _ q)
noncomputable def z95(X:Cx)(scope:Scope)(C:Addr):Env:= {scope:=relabel scope X.env,locals:=C,globals:=X.env.globals,cells:=cellsFrom (C+1) scope.names []++z5M X.env scope.names [],qual:=X.env.qual,func:=none,code:=X.env.code,frame:=X.env.frame,builtins:=X.env.builtins}
noncomputable def zj(X:Cx)(N':List Str)(scope:Scope)(ex:List Addr)(s:Shared)(H:Hp):Cx where
 prog:=X.prog;w:=X.w;K:=X.K;mg:=X.mg;base:=X.base;A:=X.A;N:=N';s₀:=s;H₀:=H;env:=z95 X scope s.heap.objs.size;outer:=X.stack;stack:=X.stack;ex:=ex;fn:=λx=>scope.names.lookup x==some .cell;calm:=X.calm;pn:=[];xe:=λ_ _=>False
theorem qD{env:Env}{x:Str}{k:NameKind}:∀{names:List (Str×NameKind)},names.lookup x=some k-> (names.map λ(n,k)=>if (k==NameKind.free&&env.scope.kind==.function&&env.kindOf n==some .cell) then (n,NameKind.cell) else (n,k)).lookup x=some k\/ (k=.free/\(names.map λ(n,k)=>if (k==NameKind.free&&env.scope.kind==.function&&env.kindOf n==some .cell) then (n,NameKind.cell) else (n,k)).lookup x=some .cell)
 | [],h=>by cases h | (n,k')::r,h=>by
  have ih:=@qD env x k r;show List.lookup x ((if (k'==NameKind.free&&env.scope.kind==.function&&env.kindOf n==some .cell)=true then (n,NameKind.cell) else (n,k'))::_)=_\/(_/\List.lookup x ((if (k'==NameKind.free&&env.scope.kind==.function&&env.kindOf n==some .cell)=true then (n,NameKind.cell) else (n,k'))::_)=_);cases hx:x==n with
  | true=>
   simp only[_Z,hx]at h;cases h;by_cases hc:(k==NameKind.free&&env.scope.kind==.function&&env.kindOf n==some .cell)=true
   ·rw[_g hc];simp only[_L,_aH]at hc;exact .inr ⟨hc.1.1,by simp[_Z,hx]⟩
   ·rw[_l hc];exact .inl (by simp[_Z,hx]) | false=>
   simp only[_Z,hx]at h;by_cases hc:(k'==NameKind.free&&env.scope.kind==.function&&env.kindOf n==some .cell)=true;·rw[_g hc];simp only[_Z,hx];exact ih h
   ·rw[_l hc];simp only[_Z,hx];exact ih h
theorem vy{env:Env}{x:Str}{k:NameKind}:∀{names:List (Str×NameKind)}, (names.map λ(n,k)=>if (k==NameKind.free&&env.scope.kind==.function&&env.kindOf n==some .cell) then (n,NameKind.cell) else (n,k)).lookup x=some k->(k=.cell\/k=.free)->(x,NameKind.cell)∈names\/(x,NameKind.free)∈names
 | [],h,_=>by cases h | (n,k')::r,h,hk=>by
  change List.lookup x ((if (k'==NameKind.free&&env.scope.kind==.function&&env.kindOf n==some .cell)=true then (n,NameKind.cell) else (n,k'))::_)=_ at h;have step:(List.lookup x (r.map λ(n,k)=>if (k==NameKind.free&&env.scope.kind==.function&&env.kindOf n==some .cell) then (n,NameKind.cell) else (n,k))=some k)->(x,NameKind.cell)∈(n,k')::r\/(x,NameKind.free)∈(n,k')::r:=λq=> ((@vy env x k r) q hk).elim (λz=>.inl (_G _ z)) λz=>.inr (_G _ z);by_cases hc:(k'==NameKind.free&&env.scope.kind==.function&&env.kindOf n==some .cell)=true
  ·rw[_g hc,_Z]at h;split at h
   ·rename_i hb;simp only[_L,_aH]at hc;rw[_aH.mp hb,hc.1.1];exact .inr _O
   ·exact step h
  ·rw[_l hc,_Z]at h;split at h
   ·rename_i hb;cases h;rw[_aH.mp hb];rcases hk with rfl | rfl;·exact .inl _O
    ·exact .inr _O
   ·exact step h
noncomputable def inner(mp:List (Option Nat))(O:St):St:=mp.map λo=>match o with | some j=>(O[j]?).getD none | none=>none
noncomputable def z22(N:List Str)(names:List (Str×NameKind)):List Str->List (Option Nat)->Bool
 | [],[]=>true | _::r,none::mp=>z22 N names r mp | x::r,some j::mp=>N[j]? == some x&&names.lookup x==some .free&&z22 N names r mp | _,_=>false
theorem z3d   : ∀{N':List Str} {mp:List (Option Nat)},z22 N names N' mp=true->mp.length=N'.length
 | [],[],_=>rfl | _::r,none::mp,h=>_au (· + 1) (z3d (N':=r) (mp:=mp) h) | _::r,some _::mp,h=>_au (· + 1) (z3d (N':=r) (mp:=mp) (_ad.mp h).2) | [],none::_,h=>by cases h | [],some _::_,h=>by cases h | _::_,[],h=>by cases h
theorem z6Q   : ∀{N':List Str} {mp:List (Option Nat)} {i j:Nat} {x:Str},z22 N names N' mp=true->N'[i]? = some x->mp[i]? = some (some j)->N[j]? = some x/\names.lookup x=some .free
 | [],_,_,_,_,_,h,_=>by cases h | _::_,[],_,_,_,_,_,h=>by cases h | _::_,none::_,0,_,_,_,_,h=>by cases h | _::_,some _::_,0,_,_,h,h1,h2=>by
  have h:=_ad.mp (_ad.mp h).1;simp at h1 h2;subst h1 h2;exact⟨_aH.mp h.1,_aH.mp h.2⟩ | _::r,none::mp,i+1,_,_,h,h1,h2=>z6Q (N':=r) (mp:=mp) h (by exact h1) (by exact h2) | _::r,some _::mp,i+1,_,_,h,h1,h2=>z6Q (N':=r) (mp:=mp) (_ad.mp h).2 (by exact h1) (by exact h2)
section
variable {X:Cx}{ac:List (Addr×Obj)}{O:St}{H:Hp}{s s1:Shared}{scope:Scope}{N':List Str}{ex:List Addr}{mp:List (Option Nat)}
theorem z8R{α:Type}  {l1 l2:List (Str×α)}{c:α}(h:(l1++l2).lookup x=some c):l1.lookup x=some c\/(l1.lookup x=none/\l2.lookup x=some c):=by
 rw[_b5]at h;cases e:l1.lookup x with
 | some d=>rw[e]at h;exact .inl h | none=>rw[e]at h;exact .inr ⟨rfl,h⟩
theorem z8Y(I:Inv X ac O H s)(bc:scope.kind=.function)(aZ:∀y∈scope.names,scope.names.lookup y.1=some y.2) (aX:∀y∈scope.names,y.2=.free->X.env.kindOf y.1=some .cell\/X.env.kindOf y.1=some .free)(bi:z22 X.N scope.names N' mp=true) (bZ:∀b∈ex,b<s.heap.objs.size/\H b=none/\b≠X.env.locals/\b∉X.fs/\(b∈X.ex\/X.s₀.heap.objs.size<=b)/\(∀x c,X.env.cells.lookup x=some c->c≠b)) (e1:s1.heap=pushCells (s.heap.push {cls:=.type "dict",data:=.dict #[]}) scope.names)(e2:s1.os=s.os)(e3:s1.gens=s.gens): Inv (zj X N' scope ex s H) [] (inner mp O) H s1:=by
 have keep:∀b o,s.heap.get? b=some o->s1.heap.get? b=some o:=λb o e=>by rw[e1];exact pushCells_keeps _ _ b o (_c _ e)
 have ok:=cellsFrom_ok scope.names (s.heap.push {cls:=.type "dict",data:=.dict #[]}) (s.heap.objs.size+1) [] ⟨λ_ _ hm=>(nomatch hm),List.Pairwise.nil⟩ (by rw[_az];exact _h _);rw[_az,<- e1]at ok;have fY:∀x c,(z5M X.env scope.names []).lookup x=some c->X.env.cells.lookup x=some c:=z1S scope.names [] (λx c h=>by cases h);have mH:∀x c,X.env.cells.lookup x=some c->c<s.heap.objs.size:=λx c h=>by obtain⟨v,q⟩:=I.cell x c h;exact q.lt
 have own  := λx c h=>ok.empty x c (_as h);have c9:∀x c,(z95 X scope s.heap.objs.size).cells.lookup x=some c->((cellsFrom (s.heap.objs.size+1) scope.names []).lookup x=some c/\s1.heap.IsCell c none/\s.heap.objs.size+1<=c)\/(X.env.cells.lookup x=some c):=λx c h=>by
  rcases z8R h with q | ⟨_,q⟩;·exact .inl ⟨q,own x c q⟩
  ·exact .inr (fY x c q)
 refine⟨⟨I.ok.mod,bc,I.ok.glob,I.ok.blt,_h _,λx y c h1 h2=>?_,λx hx=>?_,λx c hf h=>?_,I.ok.hd,I.ok.frames,.inl rfl,λb hb=>⟨_t (bZ b hb).1,λx c h=>?_⟩,λb o e=>I.bs b o e,_al I.ok.bsz I.sz,λb o e hb=>?_,λb hb hf=>?_,I.stack,I.stkFree⟩, e2,by rw[e3];exact I.bare,Un.kept keep,?_,λx c h=>?_,I.hok.fresh (_h _),λx c h=>?_,λp hp=>absurd (show p∈([]) from hp) (by simp),I.hok.kept keep,?_⟩
 ·rcases c9 x c h1 with⟨q1,_,l1⟩ | q1<;>rcases c9 y c h2 with⟨q2,_,l2⟩ | q2;·exact name_of_addr ok.apart (_as q1) (_as q2)
  ·exact absurd (_v (mH y c q2) (_dp l1)) (_aB _)
  ·exact absurd (_v (mH x c q1) (_dp l2)) (_aB _)
  ·exact I.ok.inj x y c q1 q2
 ·have hx':(x,NameKind.cell)∈scope.names\/(x,NameKind.free)∈scope.names:=by
   rcases hx with hx | hx;·exact vy  hx (.inl rfl)
   ·exact vy  hx (.inr rfl)
  show ∃c,(cellsFrom (s.heap.objs.size+1) scope.names []++z5M X.env scope.names []).lookup x=some c;rw[_b5];cases e:(cellsFrom (s.heap.objs.size+1) scope.names []).lookup x with
  | some c=>exact⟨c,rfl⟩ | none=>
   rcases hx' with hx' | hx'
   ·obtain⟨c,q⟩:=z0w   (aZ (x,.cell) hx');rw[q]at e;cases e
   ·obtain⟨c,q⟩:=z36  scope.names [] hx' (I.ok.has x (aX (x,.free) hx' rfl));exact⟨c,by exact q⟩
 ·obtain⟨c',q⟩:=z0w   (_aH.mp hf);have h':(cellsFrom (s.heap.objs.size+1) scope.names []++z5M X.env scope.names []).lookup x=some c:=h;rw[_b5,q]at h';have e  := _I h';subst e;exact _ax (Nat.lt_of_succ_le (own x c' q).2)
 ·rcases c9 x c h with⟨_,_,l⟩ | q
  ·intro z;rw[z]at l;exact absurd (_v (bZ b hb).1 (_dp l)) (_aB _)
  ·exact (bZ b hb).2.2.2.2.2 x c q
 ·rcases (bZ b hb).2.2.2.2.1 with z | z;·exact I.ok.noex b o e z
  ·exact absurd (_v (_v (_j e) I.ok.bsz) z) (_aB _)
 ·rcases _n.mp (I.stkSub b hf) with z | z;·exact (bZ b hb).2.2.1 z
  ·exact (bZ b hb).2.2.2.1 z
 ·refine⟨λ_=>none,?_,λi x v h1 h2 h3=>?_⟩
  ·rw[e1];exact (Heap.Ns.new s.heap (.type "dict")).keeps (pushCells_keeps _ _)
  ·have cf  := h2;unfold inner at cf;rw[_Y]at cf;cases em:mp[i]? with
   | none=>rw[em]at cf;cases cf | some o=>
    rw[em]at cf;cases o with
    | none=>cases cf | some j=>
     obtain⟨hj,hl⟩:=z6Q bi h1 em;have fZ  := _as hl;obtain⟨m,hn,gc⟩:=I.loc;have kx  := aX _ fZ rfl;obtain⟨u,r,L⟩:=gc j x v hj (by
      simp only[_at]at cf;cases eO:O[j]? with
      | none=>rw[eO]at cf;cases cf | some o=>rw[eO]at cf;exact cf) (by rcases kx with k | k;exact .inr (.inl k);exact .inr (.inr k));refine⟨u,r,.inr ?_⟩;rcases L with⟨k,_⟩ | ⟨_,c,hc,bT⟩;·rcases kx with k' | k'<;>(rw[k]at k';cases k')
     ·refine⟨?_,c,?_,bT.keeps keep⟩
      ·rcases qD  hl with q | ⟨_,q⟩;·exact .inr q
       ·exact .inl q
      ·show (cellsFrom (s.heap.objs.size+1) scope.names []++z5M X.env scope.names []).lookup x=some c;rw[_b5];cases e:(cellsFrom (s.heap.objs.size+1) scope.names []).lookup x with
       | some c'=> exact absurd ((vX _ _ _ (_as e)).resolve_left (by simp)) (λz=>by
       have a:=aZ _ z;rw[hl]at a;cases a) | none=>
        obtain⟨c2,q⟩:=z36  scope.names [] fZ ⟨c,hc⟩;have q2:=fY x c2 q;rw[hc]at q2;cases q2;exact q
 ·rcases c9 x c h with⟨_,q,_⟩ | q;·exact⟨_,q⟩
  ·obtain⟨v,z⟩:=I.cell x c q;exact⟨v,z.keeps keep⟩
 ·rcases c9 x c h with⟨_,_,l⟩ | q;·exact I.hok.fresh (by lia)
  ·exact I.freeC x c q
 ·unfold inner;rw[_B];exact z3d bi
end
section
variable {M:Model}{A:Around}{E:Value->Shared->Prop}{s:Shared}
theorem z6M (h:Q {scope:=scope,locals:=s.heap.objs.size,globals:=env.globals,cells:=cellsFrom (s.heap.objs.size+1) scope.names cl,qual:=env.qual,func:=none,code:=env.code,frame:=env.frame,builtins:=env.builtins} {s with heap:=pushCells (s.heap.push {cls:=.type "dict",data:=.dict #[]}) scope.names}): wpAny M A (newFunctionEnv scope env.globals cl [] env.qual none .none (some env)) Q E s:=by
 refine _a (wpAny_alloc (_a (wpAny_layCells _ (λname kind cells=>by cases hkc:kind==NameKind.cell<;>simp[hkc]) _ _ _ _ ?_)));rw[(_az ..)];exact _a (_b (_b h))
end
section
variable {prog:Program}{w:World}{A:Around}{E:Value->Shared->Prop}{R:Result->Shared->Prop}{s:Shared}
theorem z4N       (I:Nat->Shared->Prop) (turn:∀n s,I n s->wpAny (model prog w) A (pyNext it) (λr s₁=>match r with
   | none=>R (.ok .next) s₁ | some v=>wpAny (model prog w) A (letOwnedTupleGo bX it v) (λ_ dZ=>wpAny (model prog w) A (assign bX env v) (λ_ s₂=> wpAny (model prog w) A (forIn bf true λc r=>if r=true then do let ok <- isTrue c env (eval c env);pure (ForInStep.yield ok) else pure (ForInStep.yield r)) (λok s₃=> if ok=true then wpAny (model prog w) A (eval aw env) (λx s₄=> wpAny (model prog w) A (call (.builtin "list.append") [af,x]) (λ_ s₅=>∃m,m<n/\I m s₅) (λ_ _=>False) s₄) (λ_ _=>False) s₃ else ∃m,m<n/\I m s₃) (λ_ _=>False) s₂) (λ_ _=>False) dZ) (λ_ _=>False) s₁) (λ_ _=>False) s) (n:Nat)(h:I n s): codeAny (model prog w) A (.compLoop (.ListComp aw [⟨bX,ao,bf,0⟩] scope pos) 0 it af env) R s:=by
 refine codeAny_loop rfl I (λn s hI=>(wpAny_noted ?_)) n h;refine _a (_a6 (_a (_z (turn n s hI) (λr s₁ h₁=>?_) λ_ _ h'=>h'.elim)));cases r with
 | none=>exact _b h₁ | some v=>
  refine _a (_z h₁ (λ_ dZ ge=>(_a (_z ge (λ_ s₂ h₂=>_a (_z h₂ (λok s₃ h₃=>?_) λ_ _ h'=>h'.elim)) λ_ _ h'=>h'.elim))) λ_ _ h'=>h'.elim);cases ok with
  | false=>exact _b ⟨rfl,h₃⟩ | true=> exact _a (_a (_z h₃ (λx s₄ h₄=>_a (_z h₄ (λ_ s₅ h₅=>_b (_b ⟨rfl,h₅⟩)) λ_ _ h'=>h'.elim)) λ_ _ h'=>h'.elim))
end
def z76(X:Cx)(bf:List Expr)(t:TT):Prop:= ∀(ac:List (Addr×Obj))(s:Shared)(O:St)(H:Hp)(Q:Bool->Hp->Prop),Inv X ac O H s->t O H Q-> wpAny (model X.prog X.w) X.A (forIn bf true λc r=>if r=true then do let ok <- isTrue c X.env (eval c X.env);pure (ForInStep.yield ok) else pure (ForInStep.yield r)) (TP X ac O Q) X.xe s
theorem zdr  : z76 X [] (λ_ H Q=>Q true H):=λ_ _ _ H _ I h=>wpAny_tests_nil ⟨H,I,h⟩
theorem zdF    (h:PT X c t):z76 X [c] t:=λac s O H Q I hq=>wpAny_tests_one (h ac s O H Q I hq)
theorem Inv.track   {O:St}     (I:Inv X ac O H s)(f:z5H X ac H a)(new:xF X.prog X.w (upd H a o) s.heap a o):Inv X ac O (upd H a o) s:=by
 obtain⟨f0,f1,f2,f3,f4,f5⟩:=f;exact I.step     (ch:=[a]) (λb hb=>by
  have e:b=a:=by simpa using hb
  subst e;exact⟨f3,f1,f4,f5⟩) (λb o _ _ _ e _=>e) (λb o _ _ _ e _=>⟨o.slots,e⟩) (λb o hb _ n=>by rw[zk (λz=>hb (by simp[z]))];exact n) (λb o _ e=>⟨o,e⟩) (λb xs q=>by rw[zk (yo q f0)];exact q) (λb u xs q=>by rw[zk (yo q f0)];exact q) (λb ps q=>⟨#[],by rw[zk (yo q f0),q];rfl⟩) (λ_ q=>q) (λb u e=>by
  by_cases hb:b=a;·subst hb;rw[zA]at e;cases e;exact new
  ·rw[zk hb]at e;exact (I.hok b u e).stay (λ_ _ _ q=>q) (λc q=>by rw[zk (yo q f0)];exact q) λc xs q=>by rw[zk (yo q f0)];exact q) I.bare
def zdE(wi:TI)(mp:List (Option Nat))(g:TG)(ti:TT)(te:TE):TE:=λO H Q=>wi O H λJ H1=>∃W:Nat->Nat->List V->Hp->Prop,(∃m,W 0 m [] H1)/\∀i m ys H,W i m ys H-> (J.stop i H/\ys.length<=sizeLine/\∀p,H p=none->Q (.ref p) (upd H p (.lst ys)))\/ (J.go i H/\∀x H',J.yld i H x H'->g x (inner mp O) H' λO2 H2=>(O2.length=(inner mp O).length/\∀(i:Nat) v,(inner mp O)[i]? = some (some v)->O2[i]? = some (some v))/\ ti O2 H2 λb H3=>if b=true then te O2 H3 λy H4=>ys.length<=sizeLine/\∃m',m'<m/\W (i+1) m' (ys++[y]) H4 else ∃m',m'<m/\W (i+1) m' ys H3)
def jj(X:Cx)(ac:List (Addr×Obj))(O:St)(C:Addr)(Q:VK)(af:Value)(s':Shared):Prop:= ∃v Hf,Inv X ac O Hf s'/\ym v af/\Q v Hf/\(∃m,s'.heap.Ns C m)/\z5H X ac Hf C
theorem z7p{gens:List Comprehension}{O:St} {RR:Value->Addr->Result->Shared->Prop} (bc:scope.kind=.function)(aZ:∀y∈scope.names,scope.names.lookup y.1=some y.2) (aX:∀y∈scope.names,y.2=.free->X.env.kindOf y.1=some .cell\/X.env.kindOf y.1=some .free)(bi:z22 X.N scope.names N' mp=true) (I2:Inv X ac O H2 s₂)(T:zbT X.prog X.w X.K tg J fp it tn)(au:tn 0 s₂.heap)(f2:∀b∈fp,z5H X ac H2 b) (go:∀(af:Addr)(s₃ s₄:Shared),Inv X ac O H2 s₃->H2 af=none->z5H X ac H2 af->(∀b∈fp,b<af)->af≠s₃.heap.objs.size-> Inv (zj X N' scope (af::fp) s₃ H2) [] (inner mp O) H2 s₄->s₄.heap.get? af=some (LCg.lst [])->tn 0 s₄.heap-> (∀{H':Hp}{o:Obj},(∀b∈fp,H' b=none)->∀b∈fp,z5H (zj X N' scope (af::fp) s₃ H2) [(af,o)] H' b)-> (∀{P:List (Addr×Obj)}{O':St}{H':Hp}{s':Shared}{ae:List Value},Inv (zj X N' scope (af::fp) s₃ H2) P O' H' s'->H' af=none->s'.heap.get? af=some (LCg.lst ae)->Inv (zj X N' scope (af::fp) s₃ H2) ([(af,LCg.lst ae)]++P) O' H' s')-> codeAny (model X.prog X.w) X.A (.compLoop (.ListComp aw (⟨tg,ao,bf,0⟩::gens) scope pos) 0 (.ref it) (.ref af) (z95 X scope s₃.heap.objs.size)) (RR (.ref af) s₃.heap.objs.size) s₄): wpAny (model X.prog X.w) X.A (newList []) (λaf s₃=>wpAny (model X.prog X.w) X.A (newFunctionEnv scope X.env.globals (z5M X.env scope.names []) [] X.env.qual none .none (some X.env)) (λcg s₄=> codeAny (model X.prog X.w) X.A (.compStart (.ListComp aw (⟨tg,ao,bf,0⟩::gens) scope pos) 0 (.ref it) af {cg with scope:=relabel scope X.env}) (RR af cg.locals) s₄) E s₃) E s₂:=by
 refine _ag ?_;have d8  := I2.hok.fresh (_h _);have fA  := I2.fpOk (_h _) d8;generalize cv:s₂.heap.objs.size=af at d8 fA ⊢;have I3:Inv X ac O H2 {s₂ with heap:=s₂.heap.push {cls:=.type "list",data:=.seq ([]:List Value).toArray}}:=I2.kept  λb o e=>_c _ e;have iu:(s₂.heap.push {cls:=.type "list",data:=.seq ([]:List Value).toArray}).get? af=some (LCg.lst []):=by rw[<- cv];exact _k _ rfl
 have om:(s₂.heap.push {cls:=.type "list",data:=.seq ([]:List Value).toArray}).objs.size=af+1:=by rw[_az,cv]
 have on:∀b o,s₂.heap.get? b=some o->(s₂.heap.push {cls:=.type "list",data:=.seq ([]:List Value).toArray}).get? b=some o:=λb o e=>_c _ e;generalize d9:({s₂ with heap:=s₂.heap.push {cls:=.type "list",data:=.seq ([]:List Value).toArray}}:Shared)=s₃ at I3 ⊢;have i6:s₃.heap.get? af=some (LCg.lst []):=by rw[<- d9];exact iu
 have dL:s₃.heap.objs.size=af+1:=by rw[<- d9];exact om
 have i7:∀b o,s₂.heap.get? b=some o->s₃.heap.get? b=some o:=by rw[<- d9];exact on
 have flt:∀b∈fp,b<af:=λb hb=>by
  obtain⟨o,e,_⟩:=T.obj 0 _ au b hb;rw[<- cv];exact _j e
 have gf  := λb hb=>_t (flt b hb);have oo  := T.keep 0 _ _ au λb hb o e=>i7 b o e;refine z6M ?_;rw[wn];have I4:=z8Y    (s1:={s₃ with heap:=pushCells (s₃.heap.push {cls:=.type "dict",data:=.dict #[]}) scope.names}) I3 bc aZ aX bi (λb hb=>by
  rcases _n.mp hb with z | hb
  ·subst z;exact⟨by rw[dL];exact _bQ _,d8,fA.2.1,fA.2.2.1,fA.2.2.2.1,fA.2.2.2.2.1⟩
  ·have q:=f2 b hb;exact⟨by rw[dL];exact _aM (flt b hb),q.1,q.2.1,q.2.2.1,q.2.2.2.1,q.2.2.2.2.1⟩) rfl rfl rfl;have mI:∀b o,s₃.heap.get? b=some o->(pushCells (s₃.heap.push {cls:=.type "dict",data:=.dict #[]}) scope.names).get? b=some o:=λb o e=>pushCells_keeps _ _ b o (_c _ e);generalize hs4:({s₃ with heap:=pushCells (s₃.heap.push {cls:=.type "dict",data:=.dict #[]}) scope.names}:Shared)=s₄ at I4 ⊢;have gj:s₄.heap.get? af=some (LCg.lst []):=by rw[<- hs4];exact mI _ _ i6
 have fF:tn 0 s₄.heap:=T.keep 0 _ _ oo λb hb o e=>by rw[<- hs4];exact mI b o e
 have ed:af≠s₃.heap.objs.size:=by rw[dL];exact _t (_bQ _)
 have cj  := λb hb=>(I4.ok.exf b hb).2;have bz:∀{H':Hp}{o:Obj},(∀b∈fp,H' b=none)->∀b∈fp,z5H (zj X N' scope (af::fp) s₃ H2) [(af,o)] H' b:=λ{H' o} hn b hb=> ⟨hn b hb,_t (by show b<s₃.heap.objs.size;rw[dL];exact _aM (flt b hb)),λhf=>I4.ok.exfs b (_G _ hb) hf,.inl (_G _ hb),cj b (_G _ hb),λp hp=>by
   have e:p=(af,o):=by simpa[zj] using hp
   rw[e];exact _ba (gf b hb)⟩;have i8:∀(ae:List Value)(v:Option Value),(LCg.lst ae).data≠.cell v:=λae v z=>by
  have z'  := z;cases z'
 have cM:∀{P:List (Addr×Obj)}{O':St}{H':Hp}{s':Shared}{ae:List Value},Inv (zj X N' scope (af::fp) s₃ H2) P O' H' s'->H' af=none->s'.heap.get? af=some (LCg.lst ae)->Inv (zj X N' scope (af::fp) s₃ H2) ([(af,LCg.lst ae)]++P) O' H' s':=λ{P O' H' s' ae} J' n' e'=> J'.pins_of λp hp=>by
   rcases _C.mp hp with hp | hp
   ·have e:p=(af,LCg.lst ae):=by simpa using hp
    subst e;exact⟨e',n',ed,λhf=>I4.ok.exfs af _O hf,i8 ae⟩
   ·exact J'.pin p (_y _ hp)
 have loop:=go af s₃ s₄ I3 d8 fA flt ed I4 gj fF bz cM;exact codeAny_compStart_list loop (T.self _ 0 _ _ _ fF loop)
theorem kn            {O:St} {RR:Value->Addr->Result->Shared->Prop} (hc:X.calm=true)(hg:∀ex s H,PG (zj X N' scope ex s H) tg g)(ht:∀ex s H,z76 (zj X N' scope ex s H) bf ti)(he:∀ex s H,PE (zj X N' scope ex s H) aw te) (bc:scope.kind=.function)(aZ:∀y∈scope.names,scope.names.lookup y.1=some y.2) (aX:∀y∈scope.names,y.2=.free->X.env.kindOf y.1=some .cell\/X.env.kindOf y.1=some .free)(bi:z22 X.N scope.names N' mp=true) (I2:Inv X ac O H2 s₂)(T:zbT X.prog X.w X.K tg J fp it tn)(au:tn 0 s₂.heap)(f2:∀b∈fp,z5H X ac H2 b) (W:Nat->Nat->List V->Hp->Prop)(w0:∃m,W 0 m [] H2) (turn:∀i m ys H,W i m ys H-> (J.stop i H/\ys.length<=sizeLine/\∀p,H p=none->Q (.ref p) (upd H p (.lst ys)))\/ (J.go i H/\∀x H',J.yld i H x H'->g x (inner mp O) H' λO2 H2=>(O2.length=(inner mp O).length/\∀(i:Nat) v,(inner mp O)[i]? = some (some v)->O2[i]? = some (some v))/\ ti O2 H2 λb H3=>if b=true then te O2 H3 λy H4=>ys.length<=sizeLine/\∃m',m'<m/\W (i+1) m' (ys++[y]) H4 else ∃m',m'<m/\W (i+1) m' ys H3)) (i9:∀af C s',jj X ac O C Q af s'->RR af C (.ok .next) s'): wpAny (model X.prog X.w) X.A (newList []) (λaf s₃=>wpAny (model X.prog X.w) X.A (newFunctionEnv scope X.env.globals (z5M X.env scope.names []) [] X.env.qual none .none (some X.env)) (λcg s₄=> codeAny (model X.prog X.w) X.A (.compStart (.ListComp aw [⟨tg,ao,bf,0⟩] scope pos) 0 (.ref it) af {cg with scope:=relabel scope X.env}) (RR af cg.locals) s₄) E s₃) E s₂:=by
 refine z7p bc aZ aX bi I2 T au f2 λaf s₃ s₄ I3 d8 fA flt ed I4 gj fF bz gn=>?_;have gf  := λb hb=>_t (flt b hb);have cj  := λb hb=>(I4.ok.exf b hb).2;have cM:∀{O':St}{H':Hp}{s':Shared}{ae:List Value},Inv (zj X N' scope (af::fp) s₃ H2) [] O' H' s'->H' af=none->s'.heap.get? af=some (LCg.lst ae)->Inv (zj X N' scope (af::fp) s₃ H2) [(af,LCg.lst ae)] O' H' s':=gn;obtain⟨m0,w0⟩:=w0;have loop:codeAny (model X.prog X.w) X.A (.compLoop (.ListComp aw [⟨tg,ao,bf,0⟩] scope pos) 0 (.ref it) (.ref af) (z95 X scope s₃.heap.objs.size)) (RR (.ref af) s₃.heap.objs.size) s₄:=by
  refine z4N (λn s'=>∃i ys ae H',Inv (zj X N' scope (af::fp) s₃ H2) [] (inner mp O) H' s'/\tn i s'.heap/\(∀b∈fp,H' b=none)/\H' af=none/\s'.heap.get? af=some (LCg.lst ae)/\yp ys ae/\W i n ys H') ?_ m0 ⟨0,[],[],H2,I4,fF,λb hb=>(f2 b hb).1,d8,gj,.nil,w0⟩;rintro n s5 ⟨i,ys,ae,H5,I5,gq,n5,eK,j0,eM,w5⟩;have gr:=cM I5 eK j0;rcases turn i n ys H5 w5 with⟨stop,hz,q⟩ | ⟨go,step⟩
  ·refine _z (T.done (zj X N' scope (af::fp) s₃ H2) rfl rfl rfl hc i _ s5 _ H5 (λ_ _=>False) gr (bz n5) gq stop) (λr s6 ⟨hr,I6⟩=>?_) λ_ _ z=>z;subst hr;have j3:=(I6.pin (af,LCg.lst ae) (by simp)).1;have un  := I6.base;have I7  := I3.call'  (I6.os) un I6.hok I6.bare λb hb=>by
    rcases _n.mp hb with z | hb;·subst z;exact⟨fA.2.2.2.1,fA.2.1,fA.2.2.2.2.1,fA.2.2.2.2.2⟩
    ·exact⟨(f2 b hb).2.2.2.1,(f2 b hb).2.1,(f2 b hb).2.2.2.2.1,(f2 b hb).2.2.2.2.2⟩
   have C7  := I3.fpOk (_h _) I6.free;refine i9 _ _ s6 ⟨.ref af,upd H5 af (.lst ys),I7.track ⟨eK,fA.2⟩ ?_,rfl,q af eK,?_,?_,C7.2⟩;·exact⟨hz,ae,_,eM,j3⟩
   ·obtain⟨m,hm,_⟩:=I6.loc;exact⟨m,hm⟩
   ·rw[zk (_ba ed)];exact I6.free
  ·refine _z (T.item (zj X N' scope (af::fp) s₃ H2) rfl rfl rfl hc i _ s5 _ H5 (λ_ _=>False) gr (bz n5) gq go) (λr s6 ⟨u,hr,h6⟩=>?_) λ_ _ z=>z;subst hr;refine _z h6 (λ_ s7 ⟨x,H7,I7,r7,y7,eN,n7⟩=>?_) λ_ _ z=>z;have iw:=I7.pinned (bz n7) (T.obj _ _ eN);refine _z (hg _ _ _ _ s7 (inner mp O) H7 x u _ iw r7 (step x H7 y7)) (λ_ s8 ⟨O8,H8,I8,⟨kl,kv⟩,q8⟩=>?_) λ_ _ z=>z;refine _z (ht _ _ _ _ s8 O8 H8 _ I8 q8) (λb s9 ⟨H9,I9,q9⟩=>?_) λ_ _ z=>z;have gu:∀{O':St}{H':Hp}{s':Shared},Inv (zj X N' scope (af::fp) s₃ H2) ([(af,LCg.lst ae)]++z2R fp s7.heap) O' H' s'->(∀b∈fp,H' b=none)/\H' af=none/\s'.heap.get? af=some (LCg.lst ae)/\tn (i+1) s'.heap/\∀b∈fp,∀o,s7.heap.get? b=some o->s'.heap.get? b=some o:=λ{O' H' s'} J'=>by
    have z:=J'.pin (af,LCg.lst ae) (by simp[zj]);have zz:∀b∈fp,∀o,s7.heap.get? b=some o->s'.heap.get? b=some o/\H' b=none:=λb hb o e=>by
     have y:=J'.pin (b,o) (_y _ (_y _ (vP hb e)));exact⟨y.1,y.2.1⟩
    refine⟨λb hb=>?_,z.2.1,z.1,T.keep _ _ _ eN λb hb o e=>(zz b hb o e).1,λb hb o e=>(zz b hb o e).1⟩;obtain⟨o,e,_⟩:=T.obj _ _ eN b hb;exact (zz b hb o e).2
   cases b with
   | false=>
    rw[_l (by decide)]at q9 ⊢;obtain⟨m',lt,w9⟩:=q9;obtain⟨z1,z2,z3,z4,_⟩:=gu I9;exact⟨m',lt,i+1,ys,ae,H9,(I9.pins_of  (λp hp=>absurd hp (by simp))).weak kl.symm kv,z4,z1,z2,z3,eM,w9⟩ | true=>
    rw[_g rfl]at q9 ⊢;refine _z (he _ _ _ _ s9 O8 H9 _ I9 q9) (λyv j4 ⟨y,j5,gv,oq,hz,m',lt,ot⟩=>?_) λ_ _ z=>z;obtain⟨z1,z2,z3,z4,_⟩:=gu gv;have zl:ae.toArray.size<=sizeLine:=by rw[_A,<- eM.length];exact hz
    refine append_at  z3 λmJ sb eP=>?_;have j6:=(gv.pins_of (pins':=[]) (λp hp=>absurd hp (by simp))).weak kl.symm kv;have j7  := j6.turned (t':=j4.toks) (λb o hb e=>(sb.2 b hb).trans e) z2 ed (.inl _O) (cj af _O) (λp hp=>absurd hp (by simp[zj]));exact⟨m',lt,i+1,ys++[y],ae++[yv],j5,j7,T.keep _ _ _ z4 (λb hb o e=>(sb.2 b (gf b hb)).trans e),z1,z2,eP.trans (_au some (LCg.lst_snoc ae yv)),eM.append (.cons oq .nil),ot⟩
 exact loop
section
variable {X:Cx}{tg ao aw:Expr}{bf:List Expr}{scope:Scope}{pos aP py:Pos}{wi:TI}{g:TG}{ti:TT}{te:TE}{N':List Str}{mp:List (Option Nat)}
theorem wW  {O:St}     (I:Inv X ac O H s)(f:z5H X ac H C)(sb:Heap.SameBut C s.heap h'):Inv X ac O H {s with heap:=h'}:= I.turned  (λb o hb e=>(sb.2 b hb).trans e) f.1 f.2.1 f.2.2.2.1 f.2.2.2.2.1 f.2.2.2.2.2
theorem zfU(N':List Str)(mp:List (Option Nat))(hc:X.calm=true)(hi:PI X tg ao wi)(hg:∀ex s H,PG (zj X N' scope ex s H) tg g)(ht:∀ex s H,z76 (zj X N' scope ex s H) bf ti)(he:∀ex s H,PE (zj X N' scope ex s H) aw te) (bc:scope.kind=.function)(aZ:∀y∈scope.names,scope.names.lookup y.1=some y.2) (aX:∀y∈scope.names,y.2=.free->X.env.kindOf y.1=some .cell\/X.env.kindOf y.1=some .free)(bi:z22 X.N scope.names N' mp=true) (hs:autoParam (∀x,foldedSetIterable ao X.env x=pure x) aIr):PE X (.ListComp aw [⟨tg,ao,bf,0⟩] scope pos) (zdE wi mp g ti te):=by
 refine λac s O H Q I h=>_a7  rfl hs (xw λy hy hf=>I.ok.has _ (aX y hy hf)) bc (λy hy hl=>by rw[aZ y hy,hl]) (thn (hi ac s O H _ I h) λxv s₁ h₁=>thn h₁ λeF s₂ h₂=>?_);obtain⟨it,fp,tn,J,H2,e,I2,T,au,f2,W,w0,turn⟩:=h₂;subst e;refine kn       hc hg ht he bc aZ aX bi I2 T au f2 W w0 turn ?_;rintro af C s' ⟨v,Hf,I3,r,q,⟨m,hm⟩,f⟩;exact⟨m,hm,λh' sb=>⟨v,Hf,wW I3 f sb,r,q⟩⟩
theorem z8G   (N':List Str)(mp:List (Option Nat))(hN:X.N.Nodup)(hy:X.N[i]? = some y)(cw:Loc X.env.scope y) (hc:X.calm=true)(hi:PI X tg ao wi)(hg:∀ex s H,PG (zj X N' scope ex s H) tg g)(ht:∀ex s H,z76 (zj X N' scope ex s H) bf ti)(he:∀ex s H,PE (zj X N' scope ex s H) aw te) (bc:scope.kind=.function)(aZ:∀y∈scope.names,scope.names.lookup y.1=some y.2) (aX:∀y∈scope.names,y.2=.free->X.env.kindOf y.1=some .cell\/X.env.kindOf y.1=some .free)(bi:z22 X.N scope.names N' mp=true) (hs:autoParam (∀x,foldedSetIterable ao X.env x=pure x) aIr) (cz:autoParam (swapsWith (.ListComp aw [⟨tg,ao,bf,0⟩] scope pos) (some (.Name y py)) aP.line X.env=pure true) aRf) (hf:autoParam (X.fn y=true\/X.env.scope.names.lookup y=some .local) aLr): PS X (.Assign [.Name y py] (.ListComp aw [⟨tg,ao,bf,0⟩] scope pos) aP) (zkh (zdE wi mp g ti te) (qi i)):=by
 intro ac s O H D I h;rw[_cu _ _ _ _ cz];refine _a (_a6 (_a (_a (_z (_a7   rfl hs (xw λy hy hf=>I.ok.has _ (aX y hy hf)) bc (λy hy hl=>by rw[aZ y hy,hl]) (thn (hi ac s O H _ I h) λxv s₁ h₁=>thn h₁ λeF s₂ h₂=>?_)) (λ_ s' hq=>_b (_b hq)) λ_ _ e=>e))));obtain⟨it,fp,tn,J,H2,e,I2,T,au,f2,W,w0,turn⟩:=h₂;subst e;refine kn     (Q:=λv H'=>D.nx (O.set i (some v)) H')  hc hg ht he bc aZ aX bi I2 T au f2 W w0 turn ?_;rintro af C s' ⟨v,Hf,I3,r,q,⟨m,hm⟩,f⟩;exact _ce (jK I3 hN hy cw r (λdY I4 ⟨a,sb,ha⟩=>⟨m,hm.sameBut sb (by
  rcases ha with z | z;·rw[z];exact f.2.1
  ·exact _ba (f.2.2.2.2.1 y a z)),λh' gy=>⟨_,Hf,wW I4 f gy,q⟩⟩) hf)
end
section
variable {κ:Type} [DecidableEq κ]
noncomputable def vf(kvs:List (κ×V))(k:κ):Option V:=(kvs.find? λkv=>decide (kv.1=k)).map (·.2)
noncomputable def jQ(kvs:List (κ×V))(k:κ)(v:V):List (κ×V):= if (kvs.any λkv=>decide (kv.1=k))=true then kvs.map (λkv=>if kv.1=k then (kv.1,v) else kv) else kvs++[(k,v)]
theorem xq   {k:κ}(e:p.1=k):vf (p::r) k=some p.2:=by simp[vf,e]
theorem xm   {k:κ}(e:¬ p.1=k):vf (p::r) k=vf r k:=by simp[vf,e]
theorem jm(k:κ):∀kvs:List (κ×V),(kvs.any λkv=>decide (kv.1=k))=(vf kvs k).isSome
 | []=>rfl | p::r=>by
  rw[_bs];by_cases e:p.1=k;·simp only[xq e,_aR e,Bool.true_or,Option.isSome_some]
  ·rw[xm e,_af e];exact jm k r
theorem z7E(k j:κ)(y:V):∀kvs:List (κ×V),vf (kvs.map λkv=>if kv.1=k then (kv.1,y) else kv) j=(vf kvs j).map λx=>if j=k then y else x
 | []=>rfl | p::r=>by
  have ih:=z7E k j y r;rw[_H];by_cases h:p.1=k
  ·rw[_g h];by_cases e:p.1=j;·rw[xq (p:=(p.1,y)) e,xq e,_at,_g (e.symm.trans h)]
   ·rw[xm (p:=(p.1,y)) e,xm e,ih]
  ·rw[_l h];by_cases e:p.1=j;·rw[xq  e,xq e,_at,_l (λz=>h (e.trans z))]
   ·rw[xm  e,xm e,ih]
theorem z5j(k j:κ)(y:V):∀kvs:List (κ×V),vf kvs k=none->vf (kvs++[(k,y)]) j=if j=k then some y else vf kvs j
 | [],_=>by
  by_cases e:k=j;·rw[_g e.symm];exact xq  e
  ·rw[_l (λz=>e z.symm)];exact xm  e | p::r,hn=>by
  rw[_cz];have hk:¬ p.1=k:=λz=>by rw[xq z]at hn;cases hn
  rw[xm hk]at hn;by_cases e:p.1=j;·rw[xq e,xq e,_l (λz=>hk (e.trans z))]
  ·rw[xm e,xm e,(z5j k j y r hn)]
theorem z7b(kvs:List (κ×V))(k j:κ)(y:V):vf (jQ kvs k y) j=if j=k then some y else vf kvs j:=by
 unfold jQ;by_cases a:(kvs.any λkv=>decide (kv.1=k))=true
 ·rw[_g a,z7E];rw[jm]at a;by_cases e:j=k
  ·obtain⟨x,hx⟩:=_aP.mp a;rw[_g e,e,hx,_at,_g rfl]
  ·rw[_l e];cases vf kvs j with
   | none=>rfl | some x=>rw[_at,_l e]
 ·rw[_l a];refine z5j k j y kvs ?_;rw[jm]at a;cases q:vf kvs k with
  | none=>rfl | some x=>rw[q]at a;exact (a rfl).elim
theorem z1V(kvs:List (κ×V))(k:κ)(v:V):(jQ kvs k v).length<=kvs.length+1:=by
 unfold jQ;split;·rw[_B];lia
 ·rw[_ab,_w,_R];lia
theorem z97.isSome_eq   (r:z97 o u):o.isSome=u.isSome:=by cases o with
 | none=>cases u with
  | none=>rfl | some _=>exact (r).elim
 | some _=>cases u with
  | none=>exact (r).elim | some _=>rfl
theorem z97.getD     (r:z97 o u)(rd:ym d d'):ym (o.getD d) (u.getD d'):=by cases o with
 | none=>cases u with
  | none=>exact rd | some _=>exact (r).elim
 | some _=>cases u with
  | none=>exact (r).elim | some _=>exact r
theorem KV.val   (r:KV kvs vs)(k:κ):z97 (vf kvs k) (valueAt vs k):=by induction r with
 | nil=>exact True.intro | @cons p q ps qs h t ih=>
  obtain⟨h1,h2⟩:=h;by_cases e:p.1=k;·rw[xq e,(show valueAt (q::qs) k=some q.2 from by simp[valueAt,(h1.symm.trans e)])];exact h2
  ·have e':¬ q.1=k:=λz=>e (h1.trans z);rw[xm e,(show valueAt (q::qs) k=valueAt qs k from by simp[valueAt,e'])];exact ih
theorem KV.any   (r:KV kvs vs)(k:κ):(kvs.any λkv=>decide (kv.1=k))=vs.any λkv=>decide (kv.1=k):=by induction r with
 | nil=>rfl | cons h t ih=>rw[_bs,_bs,ih,h.1]
theorem KV.repl   (r:KV kvs vs)(k:κ)   (ry:ym y u): KV (kvs.map λkv=>if kv.1=k then (kv.1,y) else kv) (vs.map λkv=>if kv.1=k then (kv.1,u) else kv):=by induction r with
 | nil=>exact .nil | @cons p q ps qs h t ih=>
  rw[_H,_H];refine .cons ?_ ih;obtain⟨h1,h2⟩:=h;by_cases e:p.1=k;·rw[_g e,_g (h1.symm.trans e)];exact⟨h1,ry⟩
  ·rw[_l e,_l (λz=>e (h1.trans z))];exact⟨h1,h2⟩
theorem KV.put   (r:KV kvs vs)(k:κ)   (ry:ym y u):KV (jQ kvs k y) (stored vs k u):=by
 unfold jQ stored;rw[r.any k];by_cases e:(vs.any λkv=>decide (kv.1=k))=true;·rw[_g e,_g e];exact r.repl k ry
 ·rw[_l e,_l e];exact Paired.snoc r ⟨rfl,ry⟩
theorem KV.length  {vs:List (κ×Value)}(r:KV kvs vs):kvs.length=vs.length:=_cL r
end
theorem zbH     (r:ym (kV k) u):(zH P w).is k u=true:=by cases k with
 | inl i=>obtain⟨t,e⟩:=(r);subst e;exact z5Q P w i t | inr x=>obtain⟨t,e⟩:=(r);subst e;exact z13 P w x t
theorem z4J   : ∀{ks:List Key}{us:List Value},yp (ks.map kV) us->ItemsAre (zH P w) ks us
 | [],_,r=>by cases r;exact .nil | k::ks,_,r=>by cases r with | cons h t=>exact .cons (zbH h) (z4J t)
abbrev KT(H:Hp):List (List Key×V)->List (List Key×Addr×Value)->Prop:=Paired λp q=>p.1=q.1/\H q.2.1=some (.tup (p.1.map kV))/\ym p.2 q.2.2
theorem KT.val    (r:KT H kvs xs)(k:List Key):z97 (vf kvs k) ((atKey xs k).map (·.2)):=by induction r with
 | nil=>exact True.intro | @cons p q ps qs h t ih=>
  obtain⟨h1,_,h2⟩:=h;by_cases e:p.1=k;·rw[xq e,(show atKey (q::qs) k=some q.2 from by simp[atKey,(h1.symm.trans e)])];exact h2
  ·have e':¬ q.1=k:=λz=>e (h1.trans z);rw[xm e,(show atKey (q::qs) k=atKey qs k from by simp[atKey,e'])];exact ih
theorem KT.repl    (r:KT H kvs xs)(k:List Key)   (ry:ym y u): KT H (kvs.map λkv=>if kv.1=k then (kv.1,y) else kv) (xs.map (putAt k u)):=by induction r with
 | nil=>exact .nil | @cons p q ps qs h t ih=>
  rw[_H];refine .cons ?_ ih;obtain⟨h1,h2,h3⟩:=h;unfold putAt;by_cases e:p.1=k;·rw[_g e,_g (h1.symm.trans e)];exact⟨h1,h2,ry⟩
  ·rw[_l e,_l (λz=>e (h1.trans z))];exact⟨h1,h2,h3⟩
theorem KT.put    (r:KT H kvs xs)(k:List Key)    (hb:H b=some (.tup (k.map kV)))(ry:ym y u): KT H (jQ kvs k y) (storedH xs k b u):=by
 unfold jQ storedH;rw[(show (kvs.any λkv=>decide (kv.1=k))=(atKey xs k).isSome from by rw[jm,(r.val k).isSome_eq,Option.isSome_map])];by_cases q:(atKey xs k).isSome=true;·rw[_g q,_g q];exact r.repl k ry
 ·rw[_l q,_l q];exact Paired.snoc r ⟨rfl,hb,ry⟩
theorem KT.keeps    (r:KT H kvs xs)(ht:∀b ys,H b=some (.tup ys)->H' b=some (.tup ys)):KT H' kvs xs:= Paired.mapP r λ_ _ z=>⟨z.1,ht _ _ z.2.1,z.2.2⟩
section
variable {P:Program}{w:World}{H:Hp}{h:Heap}{a:Addr}
theorem ziY  (ok:HOk P w H h)(e:Rd H a u):xF P w H h a u:=e.ok ok
theorem z96  (ok:HOk P w H h)(e:Rd H a (.dK kvs)):kvs.length<=sizeLine/\(a==sysModules)=false/\∃vs,KV kvs vs/\h.DictOf (zH P w) a vs:= (ziY ok e)
theorem zl1  (ok:HOk P w H h)(e:H a=some (.dK kvs)):kvs.length<=sizeLine/\(a==sysModules)=false/\∃vs,KV kvs vs/\h.DictOf (zH P w) a vs:=z96 ok (.inl e)
theorem z05  (ok:HOk P w H h)(e:H a=some (.tup (ks.map kV))):(tupleKind (zH P w)).is h ks a:=by
 obtain⟨_,ae,r,o,h1,h2,_,n,h3⟩:=((ok a _ e));exact⟨o,ae.toArray,n,h1,h2,h3,by exact z4J r⟩
theorem z8T  (ok:HOk P w H h)(e:Rd H a (.dT kvs)):kvs.length<=sizeLine/\(a==sysModules)=false/\ ∃xs,KT H kvs xs/\h.DictOfH (tupleKind (zH P w)) a xs:=by
 obtain⟨z,y,xs,r,o,es,ep,h1,h2,h3,h4,h5⟩:=((ziY ok e));exact⟨z,y,xs,r,o,es,ep,h1,h2,h3,h4,λx hx=>((show ∀{l:List (List Key×V)}{m:List (List Key×Addr×Value)},KT H l m->∀x∈m,(tupleKind (zH P w)).is h x.1 x.2.1 from by
  intro l m q;induction q with
  | nil=>intro x hx;exact nomatch hx | @cons p q ps qs hq t ih=>
   intro x hx;rcases _n.mp hx with e | hx
   ·subst e;exact z05 ok (by rw[<- hq.1];exact hq.2.1)
   ·exact ih x hx) r x hx),h5⟩
theorem zk4  (ok:HOk P w H h)(e:H a=some (.dT kvs)):kvs.length<=sizeLine/\(a==sysModules)=false/\ ∃xs,KT H kvs xs/\h.DictOfH (tupleKind (zH P w)) a xs:=z8T ok (.inl e)
end
def ze4(H:Hp)(a:Addr)(y:V)(r:Option V):Prop:= (∃kvs k,Rd H a (.dK kvs)/\y=kV k/\r=vf kvs k)\/∃kvs k b,Rd H a (.dT kvs)/\y=.ref b/\H b=some (.tup (k.map kV))/\r=vf kvs k
def zjH(H:Hp)(a:Addr)(y v:V)(H':Hp):Prop:= (∃kvs k,H a=some (.dK kvs)/\y=kV k/\kvs.length<sizeLine/\H'=upd H a (.dK (jQ kvs k v)))\/ ∃kvs k b,H a=some (.dT kvs)/\y=.ref b/\H b=some (.tup (k.map kV))/\kvs.length<sizeLine/\H'=upd H a (.dT (jQ kvs k v))
theorem zjH.t    {k:List Key}  (e:H a=some (.dT kvs))(eb:H b=some (.tup (k.map kV)))(hl:kvs.length<sizeLine): zjH H a (.ref b) v (upd H a (.dT (jQ kvs k v))):=.inr ⟨kvs,k,b,e,rfl,eb,hl,rfl⟩
section
variable {X:Cx}{ac:List (Addr×Obj)}{O:St}{H:Hp}{s:Shared}{a:Addr}{y v:V}{u r:Value}{o:Option V}{A:Around}{E:Value->Shared->Prop}
theorem Inv.big(I:Inv X ac O H s):sysModules<s.heap.objs.size:=_c2 (by decide) ((I.mod.glob.keeps I.bk).lt)
theorem zaq  (hu:A.units+1<cLine)(I:Inv X ac O H s)(g:ze4 H a y (some v))(ry:ym y u)(h:∀w' s',Inv X ac O H s'->ym v w'->Q w' s'): wpAny (model X.prog X.w) A (getItem (.ref a) u) Q E s:=by
 rcases g with⟨kvs,k,e,ey,l⟩ | ⟨kvs,k,b,e,ey,eb,l⟩
 ·subst ey;obtain⟨z,hd,vs,bJ,dd⟩:=z96 I.hok e;obtain⟨w',hw,cL⟩:=z97.some_of   (by rw[l];exact bJ.val k);exact wpAny_getItem_of (zbH ry) dd.mapOf hw (h w' _ (I.tok _) cL)
 ·subst ey;cases (ry);obtain⟨z,hd,xs,bJ,dd⟩:=z8T I.hok e;obtain⟨w',hw,cL⟩:=z97.some_of   (by rw[l];exact bJ.val k);obtain⟨p,hp,iz⟩:=_x.mp hw;refine wpAny_getItem_heap (_b6 hu) (z05 I.hok eb) dd hp ?_;rw[iz];exact h w' _ (I.tok _) cL
theorem zgu  (hu:A.units+1<cLine)(I:Inv X ac O H s)(g:ze4 H a y o)(ry:ym y u)(h:∀s',Inv X ac O H s'->Q (.bool (!o.isSome)) s'): wpAny (model X.prog X.w) A (compareOp .NotIn u (.ref a)) Q E s:=by
 rcases g with⟨kvs,k,e,ey,l⟩ | ⟨kvs,k,b,e,ey,eb,l⟩
 ·subst ey;obtain⟨z,hd,vs,bJ,dd⟩:=z96 I.hok e;refine wpAny_notIn_of (zbH ry) hd dd.mapOf ?_;rw[<- (bJ.val k).isSome_eq,<- l];exact h _ (I.tok _)
 ·subst ey;cases (ry);obtain⟨z,hd,xs,bJ,dd⟩:=z8T I.hok e;refine wpAny_notIn_heap (_b6 hu) (z05 I.hok eb) hd dd ?_;have q:=(bJ.val k).isSome_eq;rw[Option.isSome_map]at q;rw[<- q,<- l];exact h _ (I.tok _)
theorem z9x    (I:Inv X ac O H s) (mu:Mut (H a)) (hs:Heap.SameBut a s.heap h') (he:∃q,h'.get? a=some q) (new:xF X.prog X.w (upd H a ob) h' a ob): Inv X ac O (upd H a ob) {s with heap:=h',toks:=t'}:= I.write   mu (.inl rfl) (λb q hb z=>(hs.2 b hb).trans z) he new
theorem zhy       (z:kvs.length<=sizeLine)(hd:(a==sysModules)=false)(bJ:KV kvs vs)(dd:h'.DictOf (zH P w) a vs): xF P w H' h' a (.dK kvs):=⟨z,hd,vs,bJ,dd⟩
theorem z9U   (hu:A.units+1<cLine)(I:Inv X ac O H s)(g:zjH H a y v H')(ry:ym y u)(rv:ym v r)(h:∀s',Inv X ac O H' s'->Q () s'): wpAny (model X.prog X.w) A (setItem (.ref a) u r) Q E s:=by
 rcases g with⟨kvs,k,e,ey,l,eH⟩ | ⟨kvs,k,b,e,ey,eb,l,eH⟩
 ·subst ey eH;obtain⟨z,hd,vs,bJ,dd⟩:=zl1 I.hok e;have hz:vs.length<=sizeLine:=by rw[<- bJ.length];exact z
  have hl:(jQ kvs k v).length<=sizeLine:=by have:=z1V kvs k v;lia
  refine wpAny_setItem_pairs  (zbH ry) dd λh' eQ hs=>h _ ?_;have he:∃q,h'.get? a=some q:=let ⟨q,_,_,hq,_⟩:=eQ;⟨q,hq⟩;exact z9x I (by rw[e];exact True.intro) hs he (zhy hl hd (bJ.put k rv) eQ)
 ·subst ey eH;cases (show u=Value.ref b from ry);obtain⟨z,hd,xs,bJ,dd⟩:=zk4 I.hok e;have hz:xs.length<=sizeLine:=by rw[<- _cL bJ];exact z
  refine wpAny_setItem_heap (hsz:=hz) (_b6 hu) (z05 I.hok eb) dd λh' eQ hs=>h _ ?_;obtain⟨q,es,ep,hq,h2,h3,h4,_,h5⟩:=eQ;refine z9x I (by rw[e];exact True.intro) hs ⟨q,hq⟩ ⟨(by have:=z1V kvs k v;lia),hd,_,(bJ.put k eb rv).keeps λc ys ec=>?_,q,es,ep,hq,h2,h3,h4,h5⟩;rw[zk (zk1 ec e (λz=>nomatch z))];exact ec
end
def zkN(i:Expr):Prop:=∀ov iv,subscripted i false ov iv=operate [ov,iv] (getItem ov iv)
theorem zgI         {T id:String} (hl:typeLookup (.type T) "__getitem__"=pure (some (.builtin id)))(hs:zkN slice) (h:wpAny (model prog w) A (eval aC env) (λo s₁=>wpAny (model prog w) A (eval slice env) (λi s₂=>s₂.TypeIs o T/\wpAny (model prog w) A (getItem o i) Q E s₂) E s₁) E s): wpAny (model prog w) A (eval (.Subscript aC slice pos) env) Q E s:=by
 refine Subscript_ (_z h (λo s₁ h₁=>_z h₁ (λi s₂ h₂=>?_) λ_ _ x=>x) λ_ _ x=>x);obtain⟨hT,h₂⟩:=h₂;refine _a (_a (wpAny_specialOf hT hl ?_));exact _b (_a (by
  rw[hs o i];exact wpAny_operating (_z h₂ (λr s₃ h₃=>_a (wpAny_letTemporaryGo (_b h₃))) λ_ _ x=>x)))
theorem z6j   {O:St}      (I:Inv X ac O H s)(g:ze4 H a y o):s.TypeIs (.ref a) "dict":=by
 rcases g with⟨kvs,k,e,_,_⟩ | ⟨kvs,k,b,e,_,_,_⟩
 ·obtain⟨_,_,vs,_,dd⟩:=z96 I.hok e;exact dd.typeIs
 ·obtain⟨_,_,xs,_,dd⟩:=z8T I.hok e;exact dd.typeIs
def zkl(td ty:TE):TE:=λO H Q=>td O H λx H1=>ty O H1 λy H2=>∃a v,x=.ref a/\ze4 H2 a y (some v)/\Q v H2
def zkk(td ty tv:TE):TS:=λD O H=>tv O H λv H1=>td O H1 λx H2=>ty O H2 λy H3=>∃a H4,x=.ref a/\zjH H3 a y v H4/\D.nx O H4
section
variable {X:Cx}{o i e aC:Expr}{pos bx ou:Pos}{td ty tv:TE}
theorem zeQ(hu:X.A.units+1<cLine)(ho:PE X o td)(hi:PE X i ty)(hs:zkN i):PE X (.Subscript o i pos) (zkl td ty):=by
 refine λac s O H Q I h=>zgI PySem.F.slot_dict_getitem.lookup hs (thn (ho ac s O H _ I h) λu s1 ⟨x,H1,I1,rx,q1⟩=>thn (hi ac s1 O H1 _ I1 q1) λiv s2 ⟨y,H2,I2,ry,a,v,ex,g,q2⟩=>?_);subst ex;obtain rfl:u=Value.ref a:=rx;exact⟨z6j I2 g,zaq hu I2 g ry λw' s3 I3 cL=>⟨v,H2,I3,cL,q2⟩⟩
theorem zfb(hu:X.A.units+1<cLine)(ho:PE X o td)(hi:PE X i ty)(hv:PE X aC tv)(hs:swapsWith aC (some (.Subscript o i bx)) pos.line X.env=pure false): PS X (.Assign [.Subscript o i bx] aC pos) (zkk td ty tv):=by
 refine λac s O H D I h=>wpAny_Assign_Subscript (thn (hv ac s O H _ I h) λr s1 ⟨v,H1,I1,rv,q1⟩=>thn (ho ac s1 O H1 _ I1 q1) λu s2 ⟨x,H2,I2,rx,q2⟩=>thn (hi ac s2 O H2 _ I2 q2) λiv s3 ⟨y,H3,I3,ry,a,H4,ex,g,q3⟩=>?_) hs;subst ex;obtain rfl:u=Value.ref a:=rx;exact z9U hu I3 g ry rv λs4 I4=>⟨O,H4,I4,q3⟩
end
theorem zcR    (h:Heap)(hb:sysModules<h.objs.size):xF P w H (h.push {cls:=.type "dict",data:=.dict #[]}) h.objs.size (.dT []):= ⟨_aI _,beq_eq_false_iff_ne.mpr (_ba (_t hb)),[],.nil,_,#[],0,_k _ rfl,⟨rfl,rfl,rfl⟩,rfl,rfl,List.nodup_nil⟩
def zij:TE:=λ_ H Q=>∀p,H p=none->Q (.ref p) (upd H p (.dT []))
section
variable {X:Cx}{pos:Pos}
theorem zdz:PE X (.Dict [] [] pos) zij:=λac s O H Q I h=> wpAny_Dict_empty ⟨.ref s.heap.objs.size,_,I.laid    (λ_ _ q=>_c _ q) (_h _) (zcR s.heap I.big),rfl,h _ (I.hok.fresh (_h _))⟩
end
structure M2(X:Cx)(o:Expr)(m:Str)(aV:Pos)(e f:Expr)(aG:Pos):Prop where
 base:attributeBase o m X.env (eval o X.env)=eval o X.env
 few:((backTo aG (starEach [e,f] X.env)).all (λx=>!x.1)&&(backToKw aG (keywordEach [] X.env)).all (λx=>x.1.isSome) && decide (([e,f]:List Expr).length+([]:List Keyword).length+(if ([]:List Keyword).isEmpty then 0 else 1)<30))=true
 line:(aV.endLine==aG.line)=true
 trees:backTo aG (starEach [e,f] X.env)=[(false,eval e X.env),(false,eval f X.env)]
def IsD(H:Hp)(a:Addr):Prop:=(∃kvs,Rd H a (.dK kvs))\/∃kvs,Rd H a (.dT kvs)
theorem ziK   {O:St}    (I:Inv X ac O H s)(d:IsD H a): s.TypeIs (.ref a) "dict"/\(∀b,Value.ref a=.ref b->∃ob,s.heap.get? b=some ob/\ob.dict=none)/\(a==sysModules)=false:=by
 rcases d with⟨kvs,e⟩ | ⟨kvs,e⟩
 ·obtain⟨_,hd,vs,_,dd⟩:=z96 I.hok e;refine⟨dd.typeIs,λb q=>?_,hd⟩;cases q;obtain⟨ob,_,_,h1,h2,_⟩:=dd;exact⟨ob,h1,h2.2.1⟩
 ·obtain⟨_,hd,xs,_,dd⟩:=z8T I.hok e;refine⟨dd.typeIs,λb q=>?_,hd⟩;cases q;obtain⟨ob,_,_,h1,h2,_⟩:=dd;exact⟨ob,h1,h2.2.1⟩
section
variable {X:Cx}{ac:List (Addr×Obj)}{O:St}{H:Hp}{s:Shared}{a:Addr}{y d:V}{u r:Value}{o:Option V}{A:Around}{E:Value->Shared->Prop}
theorem zhK  (hu:A.units+1<cLine)(I:Inv X ac O H s)(g:ze4 H a y o)(ry:ym y u)(rd:ym d r)(h:∀w' s',Inv X ac O H s'->ym (o.getD d) w'->Q w' s'): wpAny (model X.prog X.w) A (call (.builtin "dict.get") [.ref a,u,r]) Q E s:=by
 rcases g with⟨kvs,k,e,ey,l⟩ | ⟨kvs,k,b,e,ey,eb,l⟩
 ·subst ey;obtain⟨z,hd,vs,bJ,dd⟩:=z96 I.hok e;refine call_meetsIn _cv dd.typeIs PySem.F.entry_dict_get (PySem.F.args_dict_get_3 _ _ _) (meets_dict_get_default (zH X.prog X.w) a (zbH ry) hd r) ⟨_,dd.mapOf,h _ _ (I.tok _) ?_⟩;rw[l];exact (bJ.val k).getD rd
 ·subst ey;cases (ry);obtain⟨z,hd,xs,bJ,dd⟩:=z8T I.hok e;refine call_meetsIn _cv dd.typeIs PySem.F.entry_dict_get (PySem.F.args_dict_get_3 _ _ _) (meetsH_dict_get_default (tupleKind (zH X.prog X.w)) a b hd r) ⟨_b6 hu,k,xs,z05 I.hok eb,dd,h _ _ (I.tok _) ?_⟩;rw[l];exact (bJ.val k).getD rd
end
def ziZ(td ty tx:TE):TE:=λO H Q=>td O H λx H1=>∃a,x=.ref a/\IsD H1 a/\ty O H1 λy H2=>tx O H2 λz H3=>∃o,ze4 H3 a y o/\Q (o.getD z) H3
section
variable {X:Cx}{o e f:Expr}{aV aG:Pos}{td ty tx:TE}
theorem zct(hu:X.A.units+1<cLine)(ho:PE X o td)(he:PE X e ty)(hf:PE X f tx)(m:M2 X o "get" aV e f aG):PE X (.Call (.Attribute o "get" aV) [e,f] [] aG) (ziZ td ty tx):=by
 refine λac s O H Q I h=>wpAny_Call_method m.base m.few m.line PySem.F.plainAttrs_dict _cv PySem.F.type_dict_get (thn (ho ac s O H _ I h) λu s1 ⟨x,H1,I1,rx,a,ex,d,q1⟩=>?_);subst ex;obtain rfl:u=Value.ref a:=rx;obtain⟨t1,t2,_⟩:=ziK I1 d;refine⟨t1,t2,?_⟩;rw[m.trees];exact _ci rfl (_bH (_b4 (thn (he ac s1 O H1 _ I1 q1) λiv s2 ⟨y,H2,I2,ry,q2⟩=> _b4 (thn (hf ac s2 O H2 _ I2 q2) λfv s3 ⟨z,H3,I3,rz,ov,g,q3⟩=>_dn (zhK hu I3 g ry rz λw' s4 I4 cL=>⟨_,H3,I4,cL,q3⟩)))))
end
end L2
set_option maxHeartbeats 4000000
namespace Dd
open L2
theorem zcD(xs:List Expr)(k:Nat)(p:Pos)(es:List Expr)(env:Env):starEach (.Tuple xs k p::es) env=(false,eval (.Tuple xs k p) env)::starEach es env:=rfl
theorem zd7(xs:List Expr)(p:Pos)(es:List Expr)(env:Env):starEach (.List xs p::es) env=(false,eval (.List xs p) env)::starEach es env:=rfl
theorem ja(f:Expr)(xs:List Expr)(ks:List Keyword)(p:Pos)(es:List Expr)(env:Env):starEach (.Call f xs ks p::es) env=(false,eval (.Call f xs ks p) env)::starEach es env:=rfl
theorem z3D(a:Expr)(o:Operator)(b:Expr)(p:Pos)(es:List Expr)(env:Env):starEach (.BinOp a o b p::es) env=(false,eval (.BinOp a o b p) env)::starEach es env:=rfl
theorem z3G(a b:Expr)(p:Pos)(es:List Expr)(env:Env):starEach (.Subscript a b p::es) env=(false,eval (.Subscript a b p) env)::starEach es env:=rfl
theorem wO(a:Expr)(g:List Comprehension)(sc:Scope)(p:Pos)(es:List Expr)(env:Env):starEach (.ListComp a g sc p::es) env=(false,eval (.ListComp a g sc p) env)::starEach es env:=rfl
theorem z2T(c:Const)(j:Nat)(p:Pos)(es:List Expr)(env:Env):starEach (.Constant c j p::es) env=(false,eval (.Constant c j p) env)::starEach es env:=rfl
theorem zB(x:Str)(p:Pos)(es:List Expr)(env:Env):starEach (.Name x p::es) env=(false,eval (.Name x p) env)::starEach es env:=rfl
inductive D where | non | bl (b:Bool) | int (i:Int) | str (x:Str) | tup (xs:List D) | lst (xs:List D) | dct | loc (l:Nat) | dlo (l:Nat) | fn (x:Str) | exc (x:Str) | scr (xs:List D)
abbrev Sto:=List (List D)
abbrev Ev:=List (Option D)
inductive R(α:Type) where | ok (a:α)(s:Sto) | ex (c:Str)(s:Sto) | no
noncomputable def R.bind  (r:R α)(k:α->Sto->R β):R β:=match r with
 | .ok a s=>k a s | .ex c s=>.ex c s | .no=>.no
@[simp] theorem R.bind_ok {α β:Type}(a:α)(s:Sto)(k:α->Sto->R β):(R.ok a s).bind k=k a s:=id rfl
abbrev Rb:=@R.bind_ok
@[simp] theorem R.bind_ex  (c:Str)(s:Sto)(k:α->Sto->R β):(R.ex c s:R α).bind k=.ex c s:=id rfl
noncomputable def D.flat:D->Bool
 | .tup xs=>flats xs | .lst xs=>flats xs | .scr xs=>flats xs | .loc _=>false | .dlo _=>false | _=>true
where flats:List D->Bool
 | []=>true | x::xs=>x.flat&&flats xs
theorem flN:D.flat.flats []=true:=id rfl
theorem flC:D.flat.flats (x::xs)=(x.flat&&D.flat.flats xs):=id rfl
theorem flT:(D.tup xs).flat=D.flat.flats xs:=id rfl
noncomputable def zfG(C a:Addr):HO:=.ext λh=>∃o vs,h.get? a=some o/\o.cls=.ref C/\o.data=.fields vs
structure Gm where
 m:Str->Option Value
 K:W.Frag
noncomputable abbrev gm(X:Cx):Gm:=⟨X.mg,X.K⟩
def IsL(H:Hp)(a:Addr):Prop:=∃vs,H a=some (.lst vs)
def IsC(H:Hp)(a:Addr):Prop:=(∃kvs,H a=some (.dT kvs))\/(∃o kvs,H a=some (.frz o (.dT kvs)))\/(∃kvs,kvs≠[]/\H a=some (.dK kvs))\/∃o kvs,H a=some (.frz o (.dK kvs))
def Own(H:Hp)(Y:List Addr)(b:Addr):Prop:=∃a∈Y,∃kvs k,H a=some (.dK kvs)/\(k,V.ref b)∈kvs
theorem IsL.notC   (h:IsL H a)(h':IsC H a):False:=by obtain⟨_,e⟩:=h;rcases h' with⟨_,e'⟩ | ⟨_,_,e'⟩ | ⟨_,_,e'⟩ | ⟨_,_,e'⟩<;>rw[e]at e'<;>cases e'
noncomputable def z8Q:Key->D
 | .inl i=>.int i | .inr x=>.str x
noncomputable def z8U:V->Option D
 | .int i=>some (.int i) | .bl b=>some (.bl b) | _=>none
noncomputable def zdC:List D->List (List Key×V)->Prop
 | [],kvs=>kvs=[] | d::ds,kvs=>∃k v x r,kvs=(k,v)::r/\z8U v=some x/\d=.tup [.tup (k.map z8Q),x]/\zdC ds r
def KL(K:W.Frag)(a:Addr)(xs:List V):Prop:=∃(o:Obj)(ae:Array Value)(n:Nat),K.lookup a=some o/\o.cls=.type "list"/\o.dict=none/\o.data=.seq ae n/\ae.size<=sizeLine/\yp xs ae.toList
section
variable (mg:Gm)
mutual
noncomputable def Den(H:Hp)(Y:List Addr):D->V->Prop
 | .non,v=>v=.non | .bl b,v=>v=.bl b | .int i,v=>v=.int i | .str x,v=>v=.str x | .tup ds,v=>∃a vs,v=.ref a/\H a=some (.tup vs)/\zG H Y ds vs | .lst ds,v=>∃a o vs,v=.ref a/\H a=some (.frz o (.lst vs))/\zG H Y ds vs | .dct,v=>∃a,v=.ref a/\H a=some (.dK []) | .loc l,v=>∃a,v=.ref a/\Y[l]? = some a/\IsL H a | .dlo l,v=>∃a,v=.ref a/\Y[l]? = some a/\IsC H a | .fn x,v=>∃a,v=.ref a/\mg.m x=some (.ref a) | .exc x,v=>∃a C,v=.ref a/\mg.m x=some (.ref C)/\H a=some (zfG C a) | .scr ds,v=>∃a vs,v=.ref a/\((∃o,H a=some (.frz o (.lst vs)))\/KL mg.K a vs)/\zG H Y ds vs
noncomputable def zG(H:Hp)(Y:List Addr):List D->List V->Prop
 | [],vs=>vs=[] | d::ds,vs=>∃v r,vs=v::r/\Den H Y d v/\zG H Y ds r
end
noncomputable def z4d(H:Hp)(Y:List Addr):List D->List (Key×V)->Prop
 | [],kvs=>kvs=[] | d::ds,kvs=>∃k ys b vs r,kvs=(Sum.inl k,V.ref b)::r/\zG mg H Y ys vs/\((d=.tup [.int k,.lst ys]/\H b=some (.lst vs))\/(d=.tup [.int k,.lst ys,.non]/\∃o,H b=some (.frz o (.lst vs))))/\z4d H Y ds r
def zfT(ys:List D):Prop:=∀d∈ys,∃k zs,d=.tup [.int k,.lst zs,.non]
def vS(H:Hp)(Y:List Addr)(xs:List D)(a:Addr):Prop:=(∃vs,H a=some (.lst vs)/\zG mg H Y xs vs)\/(∃kvs,H a=some (.dT kvs)/\zdC xs kvs)\/(∃o kvs ys,H a=some (.frz o (.dT kvs))/\xs=.non::ys/\zdC ys kvs)\/(∃kvs,kvs≠[]/\H a=some (.dK kvs)/\z4d mg H Y xs kvs)\/∃o kvs ys,H a=some (.frz o (.dK kvs))/\xs=.non::ys/\z4d mg H Y ys kvs/\zfT ys/\kvs≠[]
structure Rep(H:Hp)(Y:List Addr)(s:Sto):Prop where
 len:Y.length=s.length
 nd:Y.Nodup
 cell:∀(l:Nat)(xs:List D),s[l]? = some xs->∃a,Y[l]? = some a/\vS mg H Y xs a
 flat:∀xs∈s,D.flat.flats xs=true
 own:∀b,Own H Y b->b∉Y
 uq:∀a∈Y,∀a'∈Y,∀kvs aY (i j:Nat) k k' b,H a=some (.dK kvs)->H a'=some (.dK aY)->kvs[i]? = some (k,V.ref b)->aY[j]? = some (k',V.ref b)->a=a'/\i=j
structure yQ(H:Hp)(Y:List Addr)(H':Hp)(Y':List Addr)(s':Sto):Prop where
 rep:Rep mg H' Y' s'
 pre:Y <+: Y'
 keep:∀b o,H b=some o->b∉Y->(Own H Y b->∀vs,o≠.lst vs)->H' b=some o
 new:∀a∈Y',a∉Y->H a=none
 mt:∀a∈Y,(IsL H a/\IsL H' a)\/(IsC H a/\IsC H' a/\∀o u,H a=some (.frz o u)->H' a=some (.frz o u))
 dom:∀b,H' b=none->H b=none
 ow:∀b,Own H' Y' b->Own H Y b\/H b=none
end
section
variable {mg:Gm}{H H' H1 H2:Hp}{Y Y' Y1 Y2:List Addr}{s s' s1 s2:Sto}
theorem vS.kind   (h:vS mg H Y xs a):IsL H a\/IsC H a:=h.imp (λ⟨vs,e,_⟩=>⟨vs,e⟩) λh=>h.imp (λ⟨k,e,_⟩=>⟨k,e⟩) λh=>h.imp (λ⟨o,k,_,e,_⟩=>⟨o,k,e⟩) λh=>h.imp (λ⟨k,n,e,_⟩=>⟨k,n,e⟩) λ⟨o,k,_,e,_⟩=>⟨o,k,e⟩
theorem Rep.mt(r:Rep mg H Y s):∀a∈Y,IsL H a\/IsC H a:=λa ha=>by
 obtain⟨l,hl,e⟩:=_D.mp ha;have fR:l<s.length:=by rw[<- r.len];exact hl
 obtain⟨b,e1,c⟩:=r.cell l s[l] (_e fR);rw[_e hl]at e1;rw[<- e,(_I e1)];exact c.kind
theorem Rep.at_(r:Rep mg H Y s){l:Nat}   (h:s[l]? = some xs)(ha:Y[l]? = some a)(k:IsL H a):∃vs,H a=some (.lst vs)/\zG mg H Y xs vs:=by
 obtain⟨b,e1,c⟩:=r.cell l xs h;rw[ha]at e1;cases e1;rcases c with c | c;·exact c
 ·exact (k.notC (c.imp (λ⟨k,e,_⟩=>⟨k,e⟩) λh=>h.imp (λ⟨o,k,_,e,_⟩=>⟨o,k,e⟩) λh=>h.imp (λ⟨k,n,e,_⟩=>⟨k,n,e⟩) λ⟨o,k,_,e,_⟩=>⟨o,k,e⟩)).elim
theorem Rep.dic(r:Rep mg H Y s){l:Nat}   (h:s[l]? = some xs)(ha:Y[l]? = some a)(k:IsC H a):(∃kvs,H a=some (.dT kvs)/\zdC xs kvs)\/(∃o kvs ys,H a=some (.frz o (.dT kvs))/\xs=.non::ys/\zdC ys kvs)\/(∃kvs,kvs≠[]/\H a=some (.dK kvs)/\z4d mg H Y xs kvs)\/∃o kvs ys,H a=some (.frz o (.dK kvs))/\xs=.non::ys/\z4d mg H Y ys kvs/\zfT ys/\kvs≠[]:=by
 obtain⟨b,e1,c⟩:=r.cell l xs h;rw[ha]at e1;cases e1;rcases c with⟨vs,e,_⟩ | c;·exact (IsL.notC ⟨vs,e⟩ k).elim
 ·exact c
theorem yQ.refl(r:Rep mg H Y s):yQ mg H Y H Y s:=⟨r,_cA _,λ_ _ h _ _=>h,λa h1 h2=>absurd h1 h2,λa ha=>(r.mt a ha).imp (λh=>⟨h,h⟩) λh=>⟨h,h,λ_ _ q=>q⟩,λ_ h=>h,λ_ h=>.inl h⟩
theorem yQ.trans(a:yQ mg H Y H1 Y1 s1)(b:yQ mg H1 Y1 H2 Y2 s2):yQ mg H Y H2 Y2 s2:=by
 refine⟨b.rep,a.pre.trans b.pre,λc o h n g=>?_,λc h1 h2=>?_,λc hc=>?_,λc h=>a.dom c (b.dom c h),λc h=>(b.ow c h).elim (a.ow c) λz=>.inr (a.dom c z)⟩
 ·refine b.keep c o (a.keep c o h n g) (λz=>?_) λz=>?_;·rw[a.new c z n]at h;cases h
  ·rcases a.ow c z with z | z;·exact g z
   ·rw[z]at h;cases h
 ·by_cases h3:c∈Y1;·exact a.new c h3 h2
  ·exact a.dom c (b.new c h1 h3)
 ·have mK  := a.pre.subset hc;rcases a.mt c hc with⟨k1,k2⟩ | ⟨k1,k2,k3⟩
  ·rcases b.mt c mK with⟨_,q⟩ | ⟨q,_,_⟩;·exact .inl ⟨k1,q⟩
   ·exact (k2.notC q).elim
  ·rcases b.mt c mK with⟨q,_⟩ | ⟨_,q,q3⟩;·exact (q.notC k2).elim
   ·exact .inr ⟨k1,q,λo u z=>q3 o u (k3 o u z)⟩
theorem yQ.stay(stp:yQ mg H Y H' Y' s')   (h:H b=some o)(hn:∀vs,o≠.lst vs)(eR:∀kvs,o≠.dT kvs:=by intro vs z;cases z)(eS:∀kvs,kvs≠[]->o≠.dK kvs:=by intro kvs g z;cases z<;>exact g rfl):H' b=some o:=by
 by_cases hb:b∈Y
 ·rcases stp.mt b hb with⟨⟨vs,e⟩,_⟩ | ⟨⟨vs,e⟩ | ⟨p,vs,e⟩ | ⟨vs,g,e⟩ | ⟨p,vs,e⟩,_,q⟩
  ·rw[h]at e;exact absurd (_I e) (hn vs)
  ·rw[h]at e;exact absurd (_I e) (eR vs)
  ·rw[h]at e;cases e;exact q _ _ h
  ·rw[h]at e;exact absurd (_I e) (eS vs g)
  ·rw[h]at e;cases e;exact q _ _ h
 ·exact stp.keep b o h hb λ_=>hn
mutual
theorem Den.mono(stp:yQ mg H Y H' Y' s'):∀{d:D}{v:V},Den mg H Y d v->Den mg H' Y' d v
 | .non,_,h=>h | .bl _,_,h=>h | .int _,_,h=>h | .str _,_,h=>h | .tup ds,v,h=>by
  change ∃_,_;obtain⟨a,vs,e,h1,h2⟩:=h;exact⟨a,vs,e,stp.stay h1 (by intro vs z;cases z),zG.mono stp h2⟩ | .lst ds,v,h=>by
  change ∃_,_;obtain⟨a,o,vs,e,h1,h2⟩:=h;exact⟨a,o,vs,e,stp.stay h1 (by intro vs z;cases z),zG.mono stp h2⟩ | .dct,v,h=>by
  change ∃_,_;obtain⟨a,e,h1⟩:=h;exact⟨a,e,stp.stay h1 (by intro vs z;cases z)⟩ | .loc l,v,h=>by
  change ∃_,_;obtain⟨a,e,h1,k⟩:=h;obtain⟨t,ht⟩:=stp.pre;refine⟨a,e,?_,?_⟩
  ·rw[<- ht,_u (_d.mp h1).1];exact h1
  ·rcases stp.mt a (_r h1) with⟨_,q⟩ | ⟨q,_,_⟩;·exact q
   ·exact (k.notC q).elim | .dlo l,v,h=>by
  change ∃_,_;obtain⟨a,e,h1,k⟩:=h;obtain⟨t,ht⟩:=stp.pre;refine⟨a,e,?_,?_⟩
  ·rw[<- ht,_u (_d.mp h1).1];exact h1
  ·rcases stp.mt a (_r h1) with⟨q,_⟩ | ⟨_,q,_⟩;·exact (q.notC k).elim
   ·exact q | .fn _,_,h=>h | .exc x,v,h=>by
  change ∃_,_;obtain⟨a,C,e,h1,h2⟩:=h;exact⟨a,C,e,h1,stp.stay h2 (by intro vs z;cases z)⟩ | .scr ds,v,h=>by
  change ∃_,_;obtain⟨a,vs,e,h1,h2⟩:=h;exact⟨a,vs,e,h1.imp (λ⟨o,h1⟩=>⟨o,stp.stay h1 (by intro vs z;cases z)⟩) id,zG.mono stp h2⟩
theorem zG.mono(stp:yQ mg H Y H' Y' s'):∀{ds:List D}{vs:List V},zG mg H Y ds vs->zG mg H' Y' ds vs
 | [],_,h=>h | d::ds,vs,h=>by
  change ∃_,_;obtain⟨v,r,e,h1,h2⟩:=h;exact⟨v,r,e,Den.mono stp h1,zG.mono stp h2⟩
end
theorem zG.length:∀{ds:List D}{vs:List V},zG mg H Y ds vs->vs.length=ds.length
 | [],_,h=>by rw[h];rfl | d::ds,vs,h=>by
  obtain⟨v,r,rfl,_,h2⟩:=h;simp[zG.length h2]
theorem zG.get:∀{ds:List D}{vs:List V}{i:Nat}{d:D},zG mg H Y ds vs->ds[i]? = some d->∃v,vs[i]? = some v/\Den mg H Y d v
 | [],_,_,_,_,e=>by cases e | d::ds,vs,0,d',h,e=>by
  obtain⟨v,r,rfl,h1,_⟩:=h;simp at e;subst e;exact⟨v,by rfl,h1⟩ | d::ds,vs,i+1,d',h,e=>by
  obtain⟨v,r,rfl,_,h2⟩:=h;obtain⟨u,h3,h4⟩:=zG.get  h2 (by exact e);exact⟨u,by exact h3,h4⟩
theorem zG.append:∀{ds es:List D}{vs us:List V},zG mg H Y ds vs->zG mg H Y es us->zG mg H Y (ds++es) (vs++us)
 | [],_,_,_,h,h'=>by subst h;exact h' | d::ds,_,_,_,h,h'=>by
  obtain⟨v,r,rfl,h1,h2⟩:=h;exact⟨v,_,rfl,h1,zG.append h2 h'⟩
theorem zG.nil:zG mg H Y [] []:=by rfl
theorem zG.cons {d:D} {ds:List D} {v:V} {vs:List V} (h:Den mg H Y d v) (h':zG mg H Y ds vs):zG mg H Y (d::ds) (v::vs):=⟨v,vs,rfl,h,h'⟩
theorem zG.one   (h:Den mg H Y d v):zG mg H Y [d] [v]:=.cons h .nil
theorem zG.take:∀{ds:List D}{vs:List V}(n:Nat),zG mg H Y ds vs->zG mg H Y (ds.take n) (vs.take n)
 | ds,vs,0,h=>by rfl | [],vs,n+1,h=>by subst h;rfl | d::ds,vs,n+1,h=>by
  obtain⟨v,r,rfl,h1,h2⟩:=h;exact .cons h1 (zG.take n h2)
theorem zG.drop:∀{ds:List D}{vs:List V}(n:Nat),zG mg H Y ds vs->zG mg H Y (ds.drop n) (vs.drop n)
 | ds,vs,0,h=>by exact h | [],vs,n+1,h=>by subst h;rfl | d::ds,vs,n+1,h=>by
  obtain⟨v,r,rfl,h1,h2⟩:=h;exact zG.drop n h2
theorem zG.set:∀{ds:List D}{vs:List V}{d:D}{v:V}(n:Nat),zG mg H Y ds vs->Den mg H Y d v->zG mg H Y (ds.set n d) (vs.set n v)
 | [],vs,_,_,n,h,_=>by subst h;rfl | d::ds,vs,_,_,0,h,h'=>by
  obtain⟨v,r,rfl,h1,h2⟩:=h;exact zG.cons h' h2 | d::ds,vs,_,_,n+1,h,h'=>by
  obtain⟨v,r,rfl,h1,h2⟩:=h;exact zG.cons h1 (zG.set n h2 h')
mutual
theorem Den.flatten(k:∀b o,H b=some o->(∀vs,o≠.lst vs)->(∀kvs,o≠.dT kvs)->(∀kvs,kvs≠[]->o≠.dK kvs)->H' b=some o):∀{d:D}{v:V},d.flat=true->Den mg H Y d v->Den mg H' Y' d v
 | .non,_,_,h=>h | .bl _,_,_,h=>h | .int _,_,_,h=>h | .str _,_,_,h=>h | .tup ds,v,f,h=>by
  change ∃_,_;obtain⟨a,vs,e,h1,h2⟩:=h;exact⟨a,vs,e,k a _ h1 (by intro vs z;cases z) (by intro vs z;cases z) (by intro vs g z;cases z<;>exact g rfl),zG.flatten k f h2⟩ | .lst ds,v,f,h=>by
  change ∃_,_;obtain⟨a,o,vs,e,h1,h2⟩:=h;exact⟨a,o,vs,e,k a _ h1 (by intro vs z;cases z) (by intro vs z;cases z) (by intro vs g z;cases z<;>exact g rfl),zG.flatten k f h2⟩ | .dct,v,_,h=>by
  change ∃_,_;obtain⟨a,e,h1⟩:=h;exact⟨a,e,k a _ h1 (by intro vs z;cases z) (by intro vs z;cases z) (by intro vs g z;cases z<;>exact g rfl)⟩ | .loc l,v,f,h=>nomatch (f:false=true) | .dlo l,v,f,h=>nomatch (f:false=true) | .fn _,_,_,h=>h | .exc x,v,_,h=>by
  change ∃_,_;obtain⟨a,C,e,h1,h2⟩:=h;exact⟨a,C,e,h1,k a _ h2 (by intro vs z;cases z) (by intro vs z;cases z) (by intro vs g z;cases z<;>exact g rfl)⟩ | .scr ds,v,f,h=>by
  change ∃_,_;obtain⟨a,vs,e,h1,h2⟩:=h;exact⟨a,vs,e,h1.imp (λ⟨o,h1⟩=>⟨o,k a _ h1 (by intro vs z;cases z) (by intro vs z;cases z) (by intro vs g z;cases z<;>exact g rfl)⟩) id,zG.flatten k f h2⟩
theorem zG.flatten(k:∀b o,H b=some o->(∀vs,o≠.lst vs)->(∀kvs,o≠.dT kvs)->(∀kvs,kvs≠[]->o≠.dK kvs)->H' b=some o):∀{ds:List D}{vs:List V},D.flat.flats ds=true->zG mg H Y ds vs->zG mg H' Y' ds vs
 | [],_,_,h=>h | d::ds,vs,f,h=>by
  change ∃_,_;simp only[flC,flN,_L]at f;obtain⟨v,r,e,h1,h2⟩:=h;exact⟨v,r,e,Den.flatten k f.1 h1,zG.flatten k f.2 h2⟩
end
end
def okR{α β:Type}(mg:Gm)(E:XK)(H:Hp)(Y:List Addr)(Dn:Hp->List Addr->α->β->Prop)(r:R α)(Q:β->Hp->Prop):Prop:=match r with
 | .ok a s'=>∀b H' Y',yQ mg H Y H' Y' s'->Dn H' Y' a b->Q b H' | .ex c s'=>∀H' Y' C,yQ mg H Y H' Y' s'->mg.m c=some (.ref C)->E (.ref C) none H' | .no=>False
section
variable {α β α2 β2:Type}{mg:Gm}{E:XK}{H H' H1 H2:Hp}{Y Y' Y1 Y2:List Addr}{s s' s1 s2:Sto}{Dn:Hp->List Addr->α->β->Prop}{mL:Hp->List Addr->α2->β2->Prop}
theorem okR.rebase   (h:okR mg E H Y Dn r Q)(stp:yQ mg H Y H1 Y1 s1):okR mg E H1 Y1 Dn r Q:=by cases r with
 | ok a s'=>exact λb H' Y' cN=>h b H' Y' (stp.trans cN) | ex c s'=>exact λH' Y' C cN=>h H' Y' C (stp.trans cN) | no=>exact h
theorem okR.bind    (h:okR mg E H Y mL (r.bind k) Q): okR mg E H Y Dn r (λb H1=>∃Y1 s1 a,yQ mg H Y H1 Y1 s1/\Dn H1 Y1 a b/\okR mg E H1 Y1 mL (k a s1) Q):=by cases r with
 | ok a s'=>exact λb H' Y' stp dn=>⟨Y',s',a,stp,dn,okR.rebase h stp⟩ | ex c s'=>exact h | no=>exact h
theorem okR.imp   (h:okR mg E H Y Dn r Q)(i:∀b H',Q b H'->Q' b H'):okR mg E H Y Dn r Q':=by cases r with
 | ok a s'=>exact λb H' Y' stp dn=>i b H' (h b H' Y' stp dn) | ex c s'=>exact h | no=>exact h
theorem okR.here    (h:okR mg E H Y Dn (.ok a s) Q)(r:Rep mg H Y s)(d:Dn H Y a b):Q b H:=h b H Y (.refl r) d
end
structure vE(mg:Gm)(H:Hp)(Y:List Addr)(ρ:Ev)(O:L2.St):Prop where
 len:ρ.length=O.length
 at_:∀(i:Nat)(d:D),ρ[i]? = some (some d)->∃v,O[i]? = some (some v)/\Den mg H Y d v
theorem vE.mono       (e:vE mg H Y ρ O)(stp:yQ mg H Y H' Y' s'):vE mg H' Y' ρ O:= ⟨e.len,λi d h=>let ⟨v,h1,h2⟩:=e.at_ i d h;⟨v,h1,h2.mono stp⟩⟩
theorem vE.set        (e:vE mg H Y ρ O)(h:Den mg H Y d v)(i:Nat):vE mg H Y (ρ.set i (some d)) (O.set i (some v)):=by
 refine⟨by simp[e.len],λj d' hj=>?_⟩;by_cases aI:i=j
 ·subst aI;have hi:i<ρ.length:=by simpa using ((_d.mp hj).1)
  rw[_ac hi]at hj;cases hj;exact⟨v,by rw[_ac (by rw[<- e.len];exact hi)],h⟩
 ·rw[_Q aI]at hj ⊢;exact e.at_ j d' hj
abbrev FE:=Ev->Sto->R D
abbrev FT:=Ev->Sto->R Bool
abbrev FA:=Ev->Sto->R (List D)
inductive Fl where | nx (ρ:Ev) | rt (d:D) | bk (ρ:Ev) | ct (ρ:Ev)
inductive FlV where | nx (O:L2.St) | rt (v:V) | bk (O:L2.St) | ct (O:L2.St)
abbrev FS:=Ev->Sto->R Fl
def FlD(mg:Gm)(H:Hp)(Y:List Addr):Fl->FlV->Prop
 | .nx ρ,.nx O=>vE mg H Y ρ O | .rt d,.rt v=>Den mg H Y d v | .bk ρ,.bk O=>vE mg H Y ρ O | .ct ρ,.ct O=>vE mg H Y ρ O | _,_=>False
def zaz(D:zcP):FlV->Hp->Prop
 | .nx O,H=>D.nx O H | .rt v,H=>D.rt v H | .bk O,H=>D.bk O H | .ct O,H=>D.ct O H
def bD(_:Hp)(_:List Addr)(a b:Bool):Prop:=a=b
def tE(mg:Gm)(E:XK)(f:FE):TE:=λO H Q=>∃Y ρ s,Rep mg H Y s/\vE mg H Y ρ O/\okR mg E H Y (Den mg) (f ρ s) Q
def tT(mg:Gm)(E:XK)(f:FT):TT:=λO H Q=>∃Y ρ s,Rep mg H Y s/\vE mg H Y ρ O/\okR mg E H Y bD (f ρ s) Q
def tA(mg:Gm)(E:XK)(f:FA):TA:=λO H Q=>∃Y ρ s,Rep mg H Y s/\vE mg H Y ρ O/\okR mg E H Y (zG mg) (f ρ s) Q
def tS(mg:Gm)(E:XK)(f:FS):TS:=λD O H=>∃Y ρ s,Rep mg H Y s/\vE mg H Y ρ O/\okR mg E H Y (FlD mg) (f ρ s) (zaz D)
def RE(X:Cx)(E:XK)(e:Expr)(f:FE):Prop:=PE X e (tE (gm X) E f)
def RT(X:Cx)(E:XK)(e:Expr)(f:FT):Prop:=PT X e (tT (gm X) E f)
def RA(X:Cx)(E:XK)(es:List Expr)(f:FA):Prop:=PA X es (tA (gm X) E f)
def RS(X:Cx)(E:XK)(st:Stmt)(f:FS):Prop:=PS X st (tS (gm X) E f)
def RSs(X:Cx)(E:XK)(st:List Stmt)(f:FS):Prop:=PSs X st (tS (gm X) E f)
section
variable {X:Cx}{E:XK}{e a b c:Expr}{es:List Expr}{pos:Pos}
theorem zR  (h:PE X e t)(i:∀O H Q,t' O H Q->t O H Q):PE X e t':=λac s O H Q I q=>h ac s O H Q I (i O H Q q)
theorem z5x  (h:PT X e t)(i:∀O H Q,t' O H Q->t O H Q):PT X e t':=λac s O H Q I q=>h ac s O H Q I (i O H Q q)
theorem ze6  (h:PA X es t)(i:∀O H Q,t' O H Q->t O H Q):PA X es t':=λpos ac s O H Q I q=>h pos ac s O H Q I (i O H Q q)
theorem wH{st:Stmt}  (h:PS X st t)(i:∀D O H,t' D O H->t D O H):PS X st t':=λac s O H D I q=>h ac s O H D I (i D O H q)
theorem zaF{st:List Stmt}  (h:PSs X st t)(i:∀D O H,t' D O H->t D O H):PSs X st t':=λac s O H D I q=>h ac s O H D I (i D O H q)
theorem zN     {k:Ev->D->Sto->R α}   {Q:β->Hp->Prop}    (r:Rep mg H Y s)(en:vE mg H Y ρ O) (h:okR mg E H Y Dn ((f ρ s).bind (k ρ)) Q)(K:V->Hp->Prop) (hK:∀v H1 Y1 s1 d,Rep mg H1 Y1 s1->vE mg H1 Y1 ρ O->Den mg H1 Y1 d v->yQ mg H Y H1 Y1 s1->okR mg E H1 Y1 Dn (k ρ d s1) Q->K v H1):tE mg E f O H K:= ⟨Y,ρ,s,r,en,(okR.bind  h).imp λv H1 ⟨Y1,s1,d,stp,dn,q⟩=>hK v H1 Y1 s1 d stp.rep (en.mono stp) dn stp q⟩
theorem z1h     {k:Ev->Bool->Sto->R α}   {Q:β->Hp->Prop}    (r:Rep mg H Y s)(en:vE mg H Y ρ O) (h:okR mg E H Y Dn ((f ρ s).bind (k ρ)) Q)(K:Bool->Hp->Prop) (hK:∀v H1 Y1 s1,Rep mg H1 Y1 s1->vE mg H1 Y1 ρ O->yQ mg H Y H1 Y1 s1->okR mg E H1 Y1 Dn (k ρ v s1) Q->K v H1):tT mg E f O H K:= ⟨Y,ρ,s,r,en,(okR.bind  h).imp λv H1 ⟨Y1,s1,d,stp,dn,q⟩=>hK v H1 Y1 s1 stp.rep (en.mono stp) stp (by cases (dn);exact q)⟩
theorem vW     {k:Ev->List D->Sto->R α}   {Q:β->Hp->Prop}    (r:Rep mg H Y s)(en:vE mg H Y ρ O) (h:okR mg E H Y Dn ((f ρ s).bind (k ρ)) Q)(K:List V->Hp->Prop) (hK:∀v H1 Y1 s1 d,Rep mg H1 Y1 s1->vE mg H1 Y1 ρ O->zG mg H1 Y1 d v->yQ mg H Y H1 Y1 s1->okR mg E H1 Y1 Dn (k ρ d s1) Q->K v H1):tA mg E f O H K:= ⟨Y,ρ,s,r,en,(okR.bind  h).imp λv H1 ⟨Y1,s1,d,stp,dn,q⟩=>hK v H1 Y1 s1 d stp.rep (en.mono stp) dn stp q⟩
noncomputable def zd(i:Nat):FE:=fun ρ s=>match ρ[i]? with | some (some d)=>.ok d s | _=>.no
theorem zc(i:Nat)  (hN:autoParam (X.N[i]? = some x) aRf)(hv:Vis X.env.scope x:=by first | exact Or.inl rfl | exact Or.inr (Or.inl rfl) | exact Or.inr (Or.inr rfl))(hd:autoParam ((x==("__debug__":Str))=false) aDe) (ce:autoParam ((x==("__classdict__":Str))=false) aDe):RE X E (.Name x pos) (zd i):= zR (zab hN hv hd ce) λO H Q ⟨Y,ρ,s,r,en,h⟩=>by
  unfold zd at h;split at h
  ·rename_i d hd;obtain⟨v,h1,h2⟩:=en.at_ i d hd;exact⟨v,h1,h.here r h2⟩
  ·exact h.elim
noncomputable def eC(d:D):FE:=λ_ s=>.ok d s
theorem zt   : RE X E (.Constant (.int i) j pos) (eC (.int i)):=zR zeK λO H Q ⟨Y,ρ,s,r,en,h⟩=>okR.here  h r (by rfl)
theorem zbZ   : RE X E (.Constant (.bool i) j pos) (eC (.bl i)):=zR zkW λO H Q ⟨Y,ρ,s,r,en,h⟩=>okR.here  h r (by rfl)
theorem zbg  : RE X E (.Constant .none j pos) (eC .non):=zR ziO λO H Q ⟨Y,ρ,s,r,en,h⟩=>okR.here  h r (by rfl)
theorem z6G   : RE X E (.Constant (.str i) j pos) (eC (.str i)):=zR zeh λO H Q ⟨Y,ρ,s,r,en,h⟩=>okR.here  h r (by rfl)
theorem ziR    (hg:Gl X x)(hm:X.mg x=some (.int i t))(hd:autoParam ((x==("__debug__":Str))=false) aDe):RE X E (.Name x pos) (eC (.int i)):= zR (z6s hg hm (show ym (.int i) (.int i t) from⟨t,rfl⟩) hd) λO H Q ⟨Y,ρ,s,r,en,h⟩=>okR.here  h r (by rfl)
def OpF(X:Cx)(E:XK)(r:R2)(op:D->D->Sto->R D):Prop:= ∀H Y s d1 d2 v1 v2 (Q:VK),Rep (gm X) H Y s->Den (gm X) H Y d1 v1->Den (gm X) H Y d2 v2->okR (gm X) E H Y (Den (gm X)) (op d1 d2 s) Q->r v1 v2 H Q
noncomputable def eOp(op:D->D->Sto->R D)(fa fb:FE):FE:=fun ρ s=>(fa ρ s).bind λx s1=>(fb ρ s1).bind λy s2=>op x y s2
theorem z7V    (ho:OpF X E r op)    (h:tE (gm X) E (eOp op fa fb) O H Q):tOp r (tE (gm X) E fa) (tE (gm X) E fb) O H Q:=by
 obtain⟨Y,ρ,s,r',en,h⟩:=h;exact zN (k:=fun ρ x s1=>(fb ρ s1).bind λy s2=>op x y s2) r' en h _ λv H1 Y1 s1 d r1 aE dn stp h1=>(zN (k:=fun ρ y s2=>op d y s2) r1 aE h1 _ λv2 H2 Y2 s2 d2 r2 bw aJ ox h2=>(ho H2 Y2 s2 d d2 v v2 Q r2 (dn.mono ox) aJ h2))
theorem zm6     (ho:OpR X (binaryOp op) r/\OpF X E r fo)(ha:RE X E a fa)(hb:RE X E b fb):RE X E (.BinOp a op b pos) (eOp fo fa fb):= zR (zjV ho.1 ha hb) λO H Q h=>z7V ho.2 h
theorem zjW     (ho:OpR X (compareOp op) r/\OpF X E r fo)(ha:RE X E a fa)(hb:RE X E b fb)(hm:behindInMarks op b=false):RE X E (.Compare a [op] [b] pos) (eOp fo fa fb):= zR (zb9 ho.1 ha hb hm) λO H Q h=>z7V ho.2 h
end
end Dd
namespace L2
theorem Inv.freeze   {O:L2.St}      (I:Inv X ac O H s)(h:H a=some u)(e:s.heap.get? a=some o)(hu:∀xs,u≠.tup xs)(hf:∀o v,u≠.frz o v)(ht:∀ps,u≠.tbl ps)(ho:∀y,u≠.own y): Inv X ac O (upd H a (.frz o u)) s:=by
 have ne:∀{b:Addr}{v:HO},H b=some v->v≠u->b≠a:=λ{b v} hb hv z=>by subst z;rw[h]at hb;exact hv (_I hb).symm
 have stay:∀b v,xF X.prog X.w H s.heap b v->xF X.prog X.w (upd H a (.frz o u)) s.heap b v:=λb v q=> q.stay (λ_ _ _ q=>q) (λc q=>by rw[zk (ne q (λz=>ho b z.symm))];exact q) λc xs q=>by rw[zk (ne q (λz=>hu xs z.symm))];exact q
 exact I.step     (ch:=[]) (λb hb=>absurd hb (by simp)) (λb o _ _ _ e _=>e) (λb o _ _ _ e _=>⟨o.slots,e⟩) (λb v _ _ n=>by rw[zk (λz=>by subst z;rw[h]at n;cases n)];exact n) (λb o _ e=>⟨o,e⟩) (λb xs q=>by rw[zk (ne q (λz=>hu xs z.symm))];exact q) (λb o' v q=>by rw[zk (ne q (λz=>hf o' v z.symm))];exact q) (λb ps q=>⟨#[],by rw[zk (ne q (λz=>ht ps z.symm)),q];rfl⟩) (λ_ q=>q) (λb v q=>by
  by_cases hb:b=a
  ·subst hb;rw[zA]at q;cases q;exact⟨e,stay b u (I.hok b u h)⟩
  ·rw[zk hb]at q;exact stay b v (I.hok b v q)) I.bare
def zbV(Q:VK):VK:=λv H=>∃a xs,v=.ref a/\H a=some (.lst xs)/\∀o,Q v (upd H a (.frz o (.lst xs)))
theorem EP.freeze       (h:EP X ac O (zbV Q) u s):EP X ac O Q u s:=by
 obtain⟨v,H',I,r,a,xs,rfl,ha,q⟩:=h;obtain⟨ae,n,rv,e,_⟩:=I.lst ha;exact⟨_,_,I.freeze ha e (by intro _ z;cases z) (by intro _ _ z;cases z) (by intro _ z;cases z) (by intro _ z;cases z),r,q _⟩
theorem OpR.freeze    (h:OpR X f r):OpR X f (λx y H Q=>r x y H (zbV Q)):=λac s O H x y v u Q I rx ry q=>thn (h ac s O H x y v u _ I rx ry q) λ_ _ z=>z.freeze
theorem xA.freeze    (h:xA X f r):xA X f (λxs H Q=>r xs H (zbV Q)):=λac s O H xs us Q I rs q=>thn (h ac s O H xs us _ I rs q) λ_ _ z=>z.freeze
theorem PE.freeze    (h:PE X e t):PE X e (λO H Q=>t O H (zbV Q)):=λac s O H Q I q=>thn (h ac s O H _ I q) λ_ _ z=>z.freeze
theorem SlR.freeze   (h:SlR X r):SlR X (λx lo hi H Q=>r x lo hi H (zbV Q)):=λac s O H x v vl vu lo hi sl Q I rx hs pl pu q=>by
 obtain⟨T,id,h1,h2,h3⟩:=h ac s O H x v vl vu lo hi sl _ I rx hs pl pu q;exact⟨T,id,h1,h2,thn h3 λ_ _ z=>z.freeze⟩
section
variable {X:Cx}
theorem zeU:OpR X (binaryOp .Add) (λx y H Q=>∃l b xs zs,x=.ref l/\y=.ref b/\Rd H l (.lst xs)/\Rd H b (.lst zs)/\xs.length+zs.length<=sizeLine/\∀p,H p=none->Q (.ref p) (upd H p (.lst (xs++zs)))):=by
 intro ac s O H x y v u Q I rx ry h;obtain⟨l,b,xs,zs,rfl,rfl,hH,hB,hz,q⟩:=h;cases rx;cases ry;obtain⟨z,ae,n,r,e⟩:=hH.ok I.hok;obtain⟨z2,bu,n2,r2,e2⟩:=hB.ok I.hok;have hl:=r.length;have gz:=r2.length;refine PySem.P.add_list e e2 ?_ (by rw[_A,_A];lia);rw[(show ae.toArray++bu.toArray=(ae++bu).toArray from by simp)];exact⟨.ref _,_,I.lnew  (r.append r2) (by rw[_ab];lia),rfl,q _ I.fresh⟩
end
section
variable {X:Cx}
theorem zd4:OpR X (binaryOp .Add) (λx y H Q=>∃a b ys,x=.ref a/\y=.ref b/\SqT X.K H a []/\SqT X.K H b ys/\Q (.ref b) H):=by
 intro ac s O H x y v u Q I rx ry h;obtain⟨a,b,ys,rfl,rfl,ha,hb,q⟩:=h;cases rx;cases ry;obtain⟨ae,r1,p1,_⟩:=I.tuple ha;obtain⟨bu,r2,p2,_⟩:=I.tuple hb;cases r1;obtain⟨⟨cls,dd,data,sl⟩,ho,hc,n,hd⟩:=id p1;obtain⟨⟨iS,ip,data2,dF⟩,cY,iT,n2,iU⟩:=id p2;subst hc hd iT iU;exact concat_meets ⟨_,ho,rfl⟩ ⟨_,cY,rfl⟩ _dz seq_tuple_add _cg _ca (_bU _ _) (tuple_addW0 a b _ _ n n2 dd ip sl dF (by rfl)) ⟨ho,cY,⟨.ref b,H,I,rfl,q⟩⟩
theorem zgG:SlR X (λx lo hi H Q=>∃a xs,x=.ref a/\SqT X.K H a xs/\(HT.sIx xs.length 0 lo=0/\HT.sIx xs.length xs.length hi=xs.length)/\Q (.ref a) H):=by
 intro ac s O H x v vl vu lo hi sl Q I rx hs pl pu h;obtain⟨a,xs,rfl,hx,hw,q⟩:=h;cases rx;obtain⟨ae,r,ht,hz⟩:=I.tuple hx;refine⟨"tuple",_,_aq.lookup,ht.typeIs,?_⟩;obtain⟨os,eG,dI,fU⟩:=id hs;unfold getItem;try with_reducible refine _ak ?_
 refine _a (wpAny_sequenceKey ht.typeIs (by decide) (_a (_S  ht.typeIs _aq (_P _aq ht.typeIs entry_tuple_getitem ?_ (args_tuple_getitem _ _)))));show wpAny _ _ (Builtin.Tuple.tupleItemsOf (.ref a) >>= _) _ _ s;refine _a (tupleItemsOf_ ht (_a (_c1 ⟨os,eG,dI⟩ ?_)));refine _a (HT.uu hs pl pu ?_);rw[(show ae.toArray.size=xs.length from by exact r.length.symm),hw.1,hw.2];show wpAny _ _ (if (0==0&&1==1&&(xs.length-0)==xs.length)=true then _ else _) _ _ s;rw[_g (by simp)];exact _a (_a (_c1 ht.typeIs (_b (_a (_aL (_b ⟨_,rfl,_b ⟨.ref a,H,I,rfl,q⟩⟩))))))
end
end L2
namespace Dd
open L2
section
variable {mg:Gm}{H H' H1 H2:Hp}{Y Y' Y1 Y2:List Addr}{s s' s1 s2:Sto}
structure Kp(H H':Hp):Prop where
 k:∀b o,H b=some o->(∀vs,o≠.lst vs)->(∀kvs,o≠.dT kvs)->(∀kvs,kvs≠[]->o≠.dK kvs)->H' b=some o
 l:∀a,IsL H a->IsL H' a
 c:∀a,IsC H a->IsC H' a
mutual
theorem Den.gen(k:Kp H H')(hi:∀(l:Nat) a,Y[l]? = some a->Y'[l]? = some a):∀{d:D}{v:V},Den mg H Y d v->Den mg H' Y' d v
 | .non,_,h=>h | .bl _,_,h=>h | .int _,_,h=>h | .str _,_,h=>h | .tup ds,v,h=>by
  change ∃_,_;obtain⟨a,vs,e,h1,h2⟩:=h;exact⟨a,vs,e,k.k a _ h1 (by intro vs z;cases z) (by intro vs z;cases z) (by intro vs g z;cases z<;>exact g rfl),zG.gen k hi h2⟩ | .lst ds,v,h=>by
  change ∃_,_;obtain⟨a,o,vs,e,h1,h2⟩:=h;exact⟨a,o,vs,e,k.k a _ h1 (by intro vs z;cases z) (by intro vs z;cases z) (by intro vs g z;cases z<;>exact g rfl),zG.gen k hi h2⟩ | .dct,v,h=>by
  change ∃_,_;obtain⟨a,e,h1⟩:=h;exact⟨a,e,k.k a _ h1 (by intro vs z;cases z) (by intro vs z;cases z) (by intro vs g z;cases z<;>exact g rfl)⟩ | .loc l,v,h=>by
  change ∃_,_;obtain⟨a,e,h1,q⟩:=h;exact⟨a,e,hi l a h1,k.l a q⟩ | .dlo l,v,h=>by
  change ∃_,_;obtain⟨a,e,h1,q⟩:=h;exact⟨a,e,hi l a h1,k.c a q⟩ | .fn _,_,h=>h | .exc x,v,h=>by
  change ∃_,_;obtain⟨a,C,e,h1,h2⟩:=h;exact⟨a,C,e,h1,k.k a _ h2 (by intro vs z;cases z) (by intro vs z;cases z) (by intro vs g z;cases z<;>exact g rfl)⟩ | .scr ds,v,h=>by
  change ∃_,_;obtain⟨a,vs,e,h1,h2⟩:=h;exact⟨a,vs,e,h1.imp (λ⟨o,h1⟩=>⟨o,k.k a _ h1 (by intro vs z;cases z) (by intro vs z;cases z) (by intro vs g z;cases z<;>exact g rfl)⟩) id,zG.gen k hi h2⟩
theorem zG.gen(k:Kp H H')(hi:∀(l:Nat) a,Y[l]? = some a->Y'[l]? = some a):∀{ds:List D}{vs:List V},zG mg H Y ds vs->zG mg H' Y' ds vs
 | [],_,h=>h | d::ds,vs,h=>by
  change ∃_,_;obtain⟨v,r,e,h1,h2⟩:=h;exact⟨v,r,e,Den.gen k hi h1,zG.gen k hi h2⟩
end
theorem yY   (hp:H p=none):∀b u,H b=some u->upd H p o b=some u:=λb u h=>by rw[zk (yo h hp)];exact h
theorem Kp.new   (hp:H p=none):Kp H (upd H p o):=⟨λb u h _ _ _=>yY hp b u h,λa ⟨vs,e⟩=>⟨vs,yY hp a _ e⟩,λa h=>h.imp (λ⟨vs,e⟩=>⟨vs,yY hp a _ e⟩) λh=>h.imp (λ⟨o,vs,e⟩=>⟨o,vs,yY hp a _ e⟩) λh=>h.imp (λ⟨vs,g,e⟩=>⟨vs,g,yY hp a _ e⟩) λ⟨o,vs,e⟩=>⟨o,vs,yY hp a _ e⟩⟩
theorem Kp.putL   (h:IsL H a):Kp H (upd H a (.lst vs)):=by
 obtain⟨ws,e⟩:=h;have ne:∀{b u},H b=some u->(∀vs,u≠.lst vs)->b≠a:=λ{b u} q n z=>by subst z;rw[e]at q;exact n ws (_I q).symm
 refine⟨λb o q n1 n2 _=>by rw[zk (ne q n1)];exact q,λb ⟨us,q⟩=>?_,λb h=>?_⟩
 ·by_cases z:b=a;·subst z;exact⟨vs,zA⟩
  ·exact⟨us,by rw[zk z];exact q⟩
 ·rcases h with⟨us,q⟩ | ⟨o,us,q⟩ | ⟨us,g,q⟩ | ⟨o,us,q⟩;·exact .inl ⟨us,by rw[zk (ne q (by intro _ z;cases z))];exact q⟩
  ·exact .inr (.inl ⟨o,us,by rw[zk (ne q (by intro _ z;cases z))];exact q⟩)
  ·exact .inr (.inr (.inl ⟨us,g,by rw[zk (ne q (by intro _ z;cases z))];exact q⟩))
  ·exact .inr (.inr (.inr ⟨o,us,by rw[zk (ne q (by intro _ z;cases z))];exact q⟩))
theorem Kp.putC   (h:∃ws,H a=some (.dT ws))(hu:(∃kvs,u=.dT kvs)\/∃o kvs,u=.frz o (.dT kvs)):Kp H (upd H a u):=by
 obtain⟨ws,e⟩:=h;have ne:∀{b u},H b=some u->(∀vs,u≠.dT vs)->b≠a:=λ{b u} q n z=>by subst z;rw[e]at q;exact n ws (_I q).symm
 refine⟨λb o q n1 n2 _=>by rw[zk (ne q n2)];exact q,λb ⟨us,q⟩=>⟨us,by rw[zk (ne q (by intro _ z;cases z))];exact q⟩,λb h=>?_⟩;by_cases z:b=a
 ·subst z;rcases hu with⟨k,rfl⟩ | ⟨o,k,rfl⟩;·exact .inl ⟨k,zA⟩
  ·exact .inr (.inl ⟨o,k,zA⟩)
 ·rcases h with⟨us,q⟩ | ⟨o,us,q⟩ | ⟨us,g,q⟩ | ⟨o,us,q⟩;·exact .inl ⟨us,by rw[zk z];exact q⟩
  ·exact .inr (.inl ⟨o,us,by rw[zk z];exact q⟩)
  ·exact .inr (.inr (.inl ⟨us,g,by rw[zk z];exact q⟩))
  ·exact .inr (.inr (.inr ⟨o,us,by rw[zk z];exact q⟩))
theorem z4d.imp    : ∀{xs:List D}{kvs:List (Key×V)},(∀ys vs k,(D.tup [.int k,.lst ys]∈xs\/D.tup [.int k,.lst ys,.non]∈xs)->zG mg H Y ys vs->zG mg H' Y' ys vs)->(∀k b vs,(k,V.ref b)∈kvs->H b=some (.lst vs)->H' b=some (.lst vs))->(∀b o vs,H b=some (.frz o (.lst vs))->H' b=some (.frz o (.lst vs)))->z4d mg H Y xs kvs->z4d mg H' Y' xs kvs
 | [],_,_,_,_,h=>h | d::ds,kvs,g,w,z,h=>by
  obtain⟨k,ys,b,vs,r,rfl,h1,h2,h3⟩:=h;refine⟨k,ys,b,vs,r,rfl,g ys vs k (h2.imp (λq=>by rw[q.1];simp) λq=>by rw[q.1];simp) h1,h2.imp (λq=>⟨q.1,w (Sum.inl k) b vs (by simp) q.2⟩) (λq=>⟨q.1,q.2.imp λo e=>z b o vs e⟩),z4d.imp (λys vs k hm=>g ys vs k (hm.imp (λq=>by simp[q]) λq=>by simp[q])) (λk b vs hm=>w k b vs (by simp[hm])) z h3⟩
theorem z4d.fz    : ∀{xs:List D}{kvs:List (Key×V)}{k:Key}{b:Addr}{us:List V},z4d mg H Y xs kvs->zfT xs->(k,V.ref b)∈kvs->H b=some (.lst us)->False
 | [],_,k,b,us,h,f,hm,z=>by subst h;simp at hm | d::ds,kvs,k,b,us,h,f,hm,z=>by
  obtain⟨k',ys,b',vs,r,rfl,h1,h2,h3⟩:=h;rcases _n.mp hm with e | hm
  ·cases e;rcases h2 with⟨q,_⟩ | ⟨_,o,q⟩
   ·obtain⟨k2,zs,e2⟩:=f d (.head _);rw[e2]at q;simp at q
   ·rw[q]at z;cases z
  ·exact z4d.fz h3 (λd hd=>f d (.tail _ hd)) hm z
theorem z4d.at_    : ∀{xs:List D}{kvs:List (Key×V)}{k:Key}{b:Addr},z4d mg H Y xs kvs->(k,V.ref b)∈kvs->∃u,H b=some u
 | [],_,k,b,h,hm=>by subst h;simp at hm | d::ds,kvs,k,b,h,hm=>by
  obtain⟨k',ys,b',vs,r,rfl,h1,h2,h3⟩:=h;rcases _n.mp hm with e | hm
  ·cases e;rcases h2 with⟨_,q⟩ | ⟨_,o,q⟩<;>exact⟨_,q⟩
  ·exact z4d.at_ h3 hm
theorem Rep.ownAt(r:Rep mg H Y s)  (h:Own H Y b):∃u,H b=some u:=by
 obtain⟨a,ha,kvs,k,e,hm⟩:=h;obtain⟨l,hl,el⟩:=_D.mp ha;have fR:l<s.length:=by rw[<- r.len];exact hl
 obtain⟨b',e1,c⟩:=r.cell l s[l] (_e fR);rw[_e hl]at e1;have  := _I e1;subst this;rw[el]at c;rcases c with⟨_,z,_⟩ | ⟨_,z,_⟩ | ⟨_,_,_,z,_⟩ | ⟨aY,_,z,dk⟩ | ⟨_,_,_,z,_⟩<;>rw[e]at z<;>cases z;exact dk.at_ hm
def DkS(H:Hp)(Y:List Addr)(H':Hp)(Y':List Addr):Prop:=∀a∈Y',∀kvs,H' a=some (.dK kvs)->a∈Y/\H a=some (.dK kvs)
theorem DkS.own(d:DkS H Y H' Y')  (h:Own H' Y' b):Own H Y b:=by
 obtain⟨a,ha,kvs,k,e,hm⟩:=h;obtain⟨h1,h2⟩:=d a ha kvs e;exact⟨a,h1,kvs,k,h2,hm⟩
theorem DkS.uq(r:Rep mg H Y s)(d:DkS H Y H' Y'):∀a∈Y',∀a'∈Y',∀kvs aY (i j:Nat) k k' b,H' a=some (.dK kvs)->H' a'=some (.dK aY)->kvs[i]? = some (k,V.ref b)->aY[j]? = some (k',V.ref b)->a=a'/\i=j:=λa ha a' gA kvs aY i j k k' b e e'=> r.uq a (d a ha kvs e).1 a' (d a' gA aY e').1 kvs aY i j k k' b (d a ha kvs e).2 (d a' gA aY e').2
theorem z1G    (h:upd H p o b=none):H b=none:=by
 by_cases z:b=p;·subst z;rw[zA]at h;cases h
 ·rw[zk z]at h;exact h
theorem vS.gen   (k:Kp H H')(hi:∀(l:Nat) a,Y[l]? = some a->Y'[l]? = some a)(e:H' a=H a)(ha:a∈Y)(ro:∀b,Own H Y b->b∉Y)(w:∀b vs,b∉Y->H b=some (.lst vs)->H' b=some (.lst vs))(h:vS mg H Y xs a):vS mg H' Y' xs a:=by
 rcases h with⟨vs,h1,h2⟩ | ⟨kvs,h1,h2⟩ | ⟨o,kvs,ys,h1,h2⟩ | ⟨kvs,g,h1,h2⟩ | ⟨o,kvs,ys,h1,e1,h2,f⟩;·exact .inl ⟨vs,e.trans h1,h2.gen k hi⟩
 ·exact .inr (.inl ⟨kvs,e.trans h1,h2⟩)
 ·exact .inr (.inr (.inl ⟨o,kvs,ys,e.trans h1,h2⟩))
 ·exact .inr (.inr (.inr (.inl ⟨kvs,g,e.trans h1,h2.imp (λ_ _ _ _ q=>q.gen k hi) (λq b vs hm=>w b vs (ro b ⟨a,ha,kvs,q,h1,hm⟩)) λb o vs q=>k.k b _ q (by intro vs z;cases z) (by intro vs z;cases z) (by intro vs g z;cases z)⟩)))
 ·exact .inr (.inr (.inr (.inr ⟨o,kvs,ys,e.trans h1,e1,h2.imp (λ_ _ _ _ q=>q.gen k hi) (λq b vs hm z=>(h2.fz f.1 hm z).elim) λb o vs q=>k.k b _ q (by intro vs z;cases z) (by intro vs z;cases z) (by intro vs g z;cases z),f⟩)))
theorem vS.ne   (h:vS mg H Y xs a)(hp:H p=none):a≠p:=by
 rintro rfl;rcases h.kind with⟨_,e⟩ | ⟨_,e⟩ | ⟨_,_,e⟩ | ⟨_,_,e⟩ | ⟨_,_,e⟩<;>rw[hp]at e<;>cases e
theorem Rep.notin  (r:Rep mg H Y s)(hp:H p=none):p∉Y:=λz=>by rcases r.mt p z with⟨_,e⟩ | ⟨_,e⟩ | ⟨_,_,e⟩ | ⟨_,_,e⟩ | ⟨_,_,e⟩<;>rw[hp]at e<;>cases e
theorem yQ.lay   (r:Rep mg H Y s)(hp:H p=none)(ho:∀vs,o≠.lst vs):yQ mg H Y (upd H p o) Y s:= have d:DkS H Y (upd H p o) Y:=λa ha kvs e=>⟨ha,by rw[zk (show a≠p from λz=>r.notin hp (z ▸ ha))]at e;exact e⟩;⟨⟨r.len,r.nd,λl xs h=>let ⟨a,h1,h2⟩:=r.cell l xs h;⟨a,h1,h2.gen (.new hp) (λ_ _ q=>q) (zk (h2.ne hp)) (_r h1) r.own (λb vs _ q=>yY hp b _ q)⟩,r.flat,λb h=>r.own b (d.own h),d.uq r⟩,_cA _,λb u h _ _=>yY hp b u h,λa h1 h2=>absurd h1 h2,λa ha=>(r.mt a ha).imp (λh=>⟨h,(Kp.new hp).l a h⟩) λh=>⟨h,(Kp.new hp).c a h,λ_ _ e=>yY hp a _ e⟩,λb h=>z1G h,λb h=>.inl (d.own h)⟩
theorem yQ.layC    (r:Rep mg H Y s)(hp:H p=none)(hc:vS mg (upd H p o) (Y++[p]) xs p)(hf:D.flat.flats xs=true)(ho:∀kvs,o≠.dK kvs:=by intro _ z;cases z):yQ mg H Y (upd H p o) (Y++[p]) (s++[xs]):=by
 have d:DkS H Y (upd H p o) (Y++[p]):=λa ha kvs e=>by
  by_cases z:a=p;·subst z;rw[zA]at e;exact absurd (_I e) (ho kvs)
  ·rw[zk z]at e;exact⟨(_C.mp ha).elim id λq=>absurd (by simpa using q) z,e⟩
 have hi:∀(l:Nat) a,Y[l]? = some a->(Y++[p])[l]? = some a:=λl a h=>by rw[_u (_d.mp h).1];exact h
 refine⟨⟨by simp[r.len],?_,λl ys h=>?_,λys h=>?_,λb h=>?_,d.uq r⟩,List.prefix_append _ _,λb u h _ _=>yY hp b u h,λa h1 h2=>?_,λa ha=>(r.mt a ha).imp (λh=>⟨h,(Kp.new hp).l a h⟩) λh=>⟨h,(Kp.new hp).c a h,λ_ _ e=>yY hp a _ e⟩,λb h=>z1G h,λb h=>.inl (d.own h)⟩
 ·rw[List.nodup_append];exact⟨r.nd,by simp,λa ha b hb=>by
   have:b=p:=by simpa using hb
   subst this;exact λz=>(r.notin hp) (z ▸ ha)⟩
 ·by_cases hl:l<s.length
  ·rw[_u hl]at h;obtain⟨a,h1,h2⟩:=r.cell l ys h;exact⟨a,hi l a h1,h2.gen (.new hp) hi (zk (h2.ne hp)) (_r h1) r.own (λb vs _ q=>yY hp b _ q)⟩
  ·have h0:l=s.length:=by
    have:=(_d.mp h).1;simp at this;lia
   subst h0;simp at h;subst h;exact⟨p,by rw[<- r.len];simp,hc⟩
 ·rcases _C.mp h with h | h;·exact r.flat ys h
  ·rw[(show ys=xs from by simpa using h)];exact hf
 ·have q:=d.own h;obtain⟨u,hu⟩:=r.ownAt q;intro z;rcases _C.mp z with z | z;·exact r.own b q z
  ·rw[(show b=p from by simpa using z),hp]at hu;cases hu
 ·rcases _C.mp h1 with h | h;·exact absurd h h2
  ·rw[(show a=p from by simpa using h)];exact hp
theorem yQ.layL    (r:Rep mg H Y s)(hp:H p=none)(hd:zG mg H Y xs vs)(hf:D.flat.flats xs=true):yQ mg H Y (upd H p (.lst vs)) (Y++[p]) (s++[xs]):= yQ.layC r hp (.inl ⟨vs,zA,hd.gen (.new hp) λl a h=>by rw[_u (_d.mp h).1];exact h⟩) hf
theorem yQ.putC     (r:Rep mg H Y s)(ha:Y[l]? = some a)(k:Kp H (upd H a o))(hc:vS mg (upd H a o) Y xs a)(hf:D.flat.flats xs=true)(ho:∀kvs,o≠.dK kvs:=by intro _ z;cases z):yQ mg H Y (upd H a o) Y (s.set l xs):=by
 have d:DkS H Y (upd H a o) Y:=λb hb kvs e=>by
  by_cases z:b=a;·subst z;rw[zA]at e;exact absurd (_I e) (ho kvs)
  ·rw[zk z]at e;exact⟨hb,e⟩
 have mM  := _r ha;refine⟨⟨by simp[r.len],r.nd,λj ys h=>?_,λys h=>?_,λb h=>r.own b (d.own h),d.uq r⟩,_cA _,λb u h hn _=>?_,λa h1 h2=>absurd h1 h2,λb hb=>(r.mt b hb).imp (λh=>⟨h,k.l b h⟩) λh=>⟨h,k.c b h,λ_ _ e=>k.k b _ e (by intro _ z;cases z) (by intro _ z;cases z) (by intro _ _ z;cases z)⟩,λb h=>z1G h,λb h=>.inl (d.own h)⟩
 ·by_cases hj:l=j
  ·subst hj;rw[_ac (by rw[<- r.len];exact (_d.mp ha).1)]at h;cases h;exact⟨a,ha,hc⟩
  ·rw[_Q hj]at h;obtain⟨b,h1,h2⟩:=r.cell j ys h;refine⟨b,h1,h2.gen k (λ_ _ q=>q) (zk ?_) (_r h1) r.own (λc vs hc q=>by rw[zk (show c≠a from λz=>hc (z ▸ mM))];exact q)⟩;rintro rfl;exact hj ((_bN r.nd).mp (((_d.mp ha).2).trans ((_d.mp h1).2).symm))
 ·rcases List.mem_or_eq_of_mem_set h with h | h;·exact r.flat ys h
  ·rw[h];exact hf
 ·rw[zk (λz=>by subst z;exact hn mM)];exact h
theorem yQ.put     (r:Rep mg H Y s)(ha:Y[l]? = some a)(ka:IsL H a)(hd:zG mg H Y xs vs)(hf:D.flat.flats xs=true):yQ mg H Y (upd H a (.lst vs)) Y (s.set l xs):= yQ.putC r ha (.putL ka) (.inl ⟨vs,zA,hd.gen (.putL ka) λ_ _ q=>q⟩) hf
noncomputable def listOf(s:Sto):D->Option (List D)
 | .lst xs=>some xs | .loc l=>s[l]? | _=>none
noncomputable def zU(s:Sto):D->Option (List D)
 | .tup xs=>some xs | .lst xs=>some xs | .scr xs=>some xs | .loc l=>s[l]? | _=>none
theorem zJ    (r:Rep mg H Y s)(h:listOf s d=some xs)(dn:Den mg H Y d v):∃a vs,v=.ref a/\Rd H a (.lst vs)/\zG mg H Y xs vs:=by cases d with
 | lst ys=>
  simp only[listOf,_J]at h;subst h;obtain⟨a,o,vs,e,h1,h2⟩:=dn;exact⟨a,vs,e,.inr ⟨o,h1⟩,h2⟩ | loc l=>
  obtain⟨a,e,h1,k⟩:=dn;obtain⟨vs,h3,h4⟩:=r.at_ h h1 k;exact⟨a,vs,e,.inl h3,h4⟩ | _=>simp[listOf]at h
theorem zek   (dn:Den mg H Y (.scr xs) v):∃a vs,v=.ref a/\SqL mg.K H a vs/\zG mg H Y xs vs:=by
 obtain⟨a,vs,e,h1,h2⟩:=dn;exact⟨a,vs,e,h1.elim (λ⟨o,h⟩=>.inl (.inr ⟨o,h⟩)) .inr,h2⟩
theorem vn{K:W.Frag}    (r:Rep mg H Y s)(h:zU s d=some xs)(dn:Den mg H Y d v)(hK:autoParam (mg.K=K) aRf):∃a vs,v=.ref a/\(SqL K H a vs\/SqT K H a vs)/\zG mg H Y xs vs:=by cases d with
 | tup ys=>
  simp only[zU,_J]at h;subst h;obtain⟨a,vs,e,h1,h2⟩:=dn;exact⟨a,vs,e,.inr (.inl (.inl h1)),h2⟩ | lst ys=>
  obtain⟨a,vs,e,h1,h2⟩:=zJ (d:=.lst ys) r h dn;exact⟨a,vs,e,.inl (.inl h1),h2⟩ | scr ys=>
  simp only[zU,_J]at h;subst h;subst hK;obtain⟨a,vs,e,h1,h2⟩:=zek dn;exact⟨a,vs,e,.inl h1,h2⟩ | loc l=>
  obtain⟨a,vs,e,h1,h2⟩:=zJ (d:=.loc l) r h dn;exact⟨a,vs,e,.inl (.inl h1),h2⟩ | _=>simp[zU]at h
theorem qL{K:W.Frag}   (dn:Den mg H Y (.tup xs) v):∃a vs,v=.ref a/\SqT K H a vs/\zG mg H Y xs vs:=by
 obtain⟨a,vs,e,h1,h2⟩:=dn;exact⟨a,vs,e,.inl (.inl h1),h2⟩
end
noncomputable def cap:Nat:=100000
theorem jh  (h:n<=cap):n<=sizeLine:=_al h (by decide)
theorem zjq  (h:n<cap):n<sizeLine:=_v h (by decide)
noncomputable def BIG:Nat:=2 ^ 4096
noncomputable def zf9(x y:D)(s:Sto):R D:=match listOf s x,listOf s y with
 | some a,some b=>if a.length+b.length<=cap then .ok (.lst (a++b)) s else .no | _,_=>.no
def xZ:D->D->Sto->R D
 | .int i,.int j,s=>.ok (.int (i+j)) s | .tup a,.tup b,s=>if a.length+b.length<=cap then .ok (.tup (a++b)) s else .no | x,y,s=>zf9 x y s
section
variable {X:Cx}{E:XK}
theorem zO      (h:Den mg H Y (.int i) v):v=.int i:=h
theorem uo      (h:Den mg H Y (.bl i) v):v=.bl i:=h
theorem z39      (h:Den mg H Y (.str i) v):v=.str i:=h
theorem yg     : Den mg H Y (.int i) (.int i):=rfl
theorem yh     : Den mg H Y (.bl i) (.bl i):=rfl
theorem uD       {Q:VK}(r:Rep mg H Y s)(h:okR mg E H Y (Den mg) (.ok (.lst xs) s) Q)(hd:zG mg H Y xs vs):∀p,H p=none->zbV Q (.ref p) (upd H p (.lst vs)):=λp hp=>by
 refine⟨p,vs,rfl,zA,λo=>?_⟩;rw[z9Q];have stp:=yQ.lay (o:=.frz o (.lst vs)) r hp (by intro _ z;cases z);exact h _ _ _ stp ⟨p,o,vs,rfl,zA,hd.mono stp⟩
theorem z2J       {Q:VK}(r:Rep mg H Y s)(h:okR mg E H Y (Den mg) (.ok (.tup xs) s) Q)(hd:zG mg H Y xs vs):∀p,H p=none->Q (.ref p) (upd H p (.tup vs)):=λp hp=>by
 have stp:=yQ.lay (o:=.tup vs) r hp (by intro _ z;cases z);exact h _ _ _ stp ⟨p,vs,rfl,zA,hd.mono stp⟩
theorem z6A{Q:VK}(r:Rep (gm X) H Y s)(h1:Den (gm X) H Y d1 v1)(h2:Den (gm X) H Y d2 v2)(h:okR (gm X) E H Y (Den (gm X)) (zf9 d1 d2 s) Q):∃l b xs zs,v1=V.ref l/\v2=V.ref b/\Rd H l (.lst xs)/\Rd H b (.lst zs)/\xs.length+zs.length<=sizeLine/\∀p,H p=none->zbV Q (.ref p) (upd H p (.lst (xs++zs))):=by
 unfold zf9 at h;cases ha:listOf s d1 with
 | none=>rw[ha]at h;exact (h:False).elim | some a=>
  rw[ha]at h;cases hb:listOf s d2 with
  | none=>rw[hb]at h;exact (h:False).elim | some b=>
   rw[hb]at h;obtain⟨l,vs,e,q1,q2⟩:=zJ r ha h1;obtain⟨l',eT,e',iA,fG⟩:=zJ r hb h2;have h:okR (gm X) E H Y (Den (gm X)) (if a.length+b.length<=cap then .ok (.lst (a++b)) s else .no) Q:=h;split at h
   ·rename_i hl;exact⟨l,l',vs,eT,e,e',q1,iA,by rw[q2.length,fG.length];exact jh hl,uD r h (q2.append fG)⟩
   ·exact h.elim
theorem xL:∃r,OpR X (binaryOp .Add) r/\OpF X E r xZ:=by
 refine⟨_,ziv.or ((zd4).or ((zfA).or (zeU.freeze))),?_⟩;intro H Y s d1 d2 v1 v2 Q r h1 h2 h;cases d1 with
 | int i=>cases d2 with
  | int j=>
   cases zO h1;cases zO h2;exact .inl ⟨i,j,rfl,rfl,okR.here h r yg⟩ | _=>exact .inr (.inr (.inr (z6A r h1 h2 h)))
 | tup a=>cases d2 with
  | tup b=>
   obtain⟨l,vs,rfl,q1,q2⟩:=qL  h1;obtain⟨l',eT,rfl,iA,fG⟩:=qL  h2;have h:okR (gm X) E H Y (Den (gm X)) (if a.length+b.length<=cap then .ok (.tup (a++b)) s else .no) Q:=h;split at h
   ·rename_i hl;cases a with
    | nil=>
     subst q2;exact .inr (.inl ⟨l,l',eT,rfl,rfl,q1,iA,h.here r h2⟩) | cons x a=>
     refine .inr (.inr (.inl ⟨l,l',vs,eT,rfl,rfl,q1,iA,(λz=>by have:=q2.length;rw[z]at this;simp at this),by rw[q2.length,fG.length];exact jh hl,λz=>?_,λz=>z2J r h (q2.append fG)⟩));have eb:b=[]:=by
      have:=fG.length;rw[z]at this;exact _aY.mp this.symm
     subst eb;rw[_bn]at h;exact h.here r h1
   ·exact h.elim | _=>exact .inr (.inr (.inr (z6A r h1 h2 h)))
 | _=>exact .inr (.inr (.inr (z6A r h1 h2 h)))
end
noncomputable def dII(g:Int->Int->R D):D->D->Sto->R D
 | .int i,.int j,s=>match g i j with | .ok d _=>.ok d s | _=>.no
 | _,_,_=>.no
noncomputable def iOk(d:D):R D:=.ok d []
noncomputable def z8d:D->D->Sto->R D:=dII λi j=>iOk (.int (i-j))
noncomputable def uH:D->D->Sto->R D:=dII λi j=>if i.natAbs<BIG/\j.natAbs<BIG then iOk (.int (i*j)) else .no
noncomputable def z6f:D->D->Sto->R D:=dII λi j=>if 0<j/\j.natAbs<BIG then iOk (.int (i / j)) else .no
noncomputable def zau:D->D->Sto->R D:=dII λi j=>if 0<j then iOk (.int (i % j)) else .no
noncomputable def z7F:D->D->Sto->R D:=dII λi j=>if 0<=j/\j<=1000/\i.natAbs<1000 then iOk (.int (i ^ j.toNat)) else .no
noncomputable def dLt:D->D->Sto->R D:=dII λi j=>iOk (.bl (decide (i<j)))
noncomputable def dLe:D->D->Sto->R D:=dII λi j=>iOk (.bl (decide (i<=j)))
noncomputable def dGt:D->D->Sto->R D:=dII λi j=>iOk (.bl (decide (j<i)))
noncomputable def dGe:D->D->Sto->R D:=dII λi j=>iOk (.bl (decide (j<=i)))
section
variable {X:Cx}{E:XK}
theorem jM   (h:∀i j d t H Q,g i j=.ok d t->(∀v,(∀H Y,Den (gm X) H Y d v)->Q v H)->r (.int i) (.int j) H Q):OpF X E r (dII g):=by
 intro H Y s d1 d2 v1 v2 Q rp h1 h2 hq;unfold dII at hq;split at hq
 ·rename_i i j;cases zO h1;cases zO h2;split at hq
  ·rename_i d t e;exact h i j d t H Q e λv hv=>hq.here rp (hv H Y)
  ·exact hq.elim
 ·exact hq.elim
theorem z8B:∃r,OpR X (binaryOp .Sub) r/\OpF X E r z8d:=⟨_,zhv,jM λi j d t H Q e q=>by
 simp only[iOk,R.ok.injEq]at e;exact⟨i,j,rfl,rfl,q _ (by intro H Y;rw[<- e.1];exact yg)⟩⟩
theorem z7M  (h:i.natAbs<BIG):Builtin.Int.intBits i<=2 ^ 20:=by
 have q  := (PySem.intBits_le_iff ).mpr h;lia
theorem zgy:OpR X (binaryOp .Mult) (rI (λi j=>i.natAbs<BIG/\j.natAbs<BIG) λi j=>.int (i*j)):=opI λ_ _ _ _ _ _ _ hc q=>mul_int q (IntMulOk.of_bits (z7M hc.1) (z7M hc.2))
theorem z1l:∃r,OpR X (binaryOp .Mult) r/\OpF X E r uH:=⟨_,zgy,jM λi j d t H Q e q=>by
 split at e
 ·rename_i hc;simp only[iOk,R.ok.injEq]at e;exact⟨i,j,rfl,rfl,hc,q _ (by intro H Y;rw[<- e.1];exact yg)⟩
 ·cases e⟩
theorem zfp{j:Int}(h:j.natAbs<BIG):j.natAbs.log2<9000:=by
 by_cases h0:j.natAbs=0;·rw[h0];decide +kernel
 ·have  := (Nat.log2_lt h0).mpr h;lia
theorem zdl:OpR X (binaryOp .FloorDiv) (rI (λ_ j=>0<j/\j.natAbs<BIG) λi j=>.int (i / j)):=opI λi j _ _ _ _ _ hc q=>by
 refine floordiv_int (by lia) ?_ (.inl (PyProof.noPylong_of_log2 (zfp hc.2)));rw[Int.fdiv_eq_ediv_of_nonneg _ (by lia)];exact q
theorem zet:∃r,OpR X (binaryOp .FloorDiv) r/\OpF X E r z6f:=⟨_,zdl,jM λi j d t H Q e q=>by
 split at e
 ·rename_i hc;simp only[iOk,R.ok.injEq]at e;exact⟨i,j,rfl,rfl,hc,q _ (by intro H Y;rw[<- e.1];exact yg)⟩
 ·cases e⟩
theorem zcC:∃r,OpR X (binaryOp .Mod) r/\OpF X E r zau:=⟨_,zhF,jM λi j d t H Q e q=>by
 split at e
 ·rename_i hc;simp only[iOk,R.ok.injEq]at e;exact⟨i,j,rfl,rfl,hc,q _ (by intro H Y;rw[<- e.1];exact yg)⟩
 ·cases e⟩
theorem zcV:∃r,OpR X (binaryOp .Pow) r/\OpF X E r z7F:=⟨_,zj8,jM λi j d t H Q e q=>by
 split at e
 ·rename_i hc;simp only[iOk,R.ok.injEq]at e;exact⟨i,j,rfl,rfl,⟨hc.1,by lia,by lia⟩,q _ (by intro H Y;rw[<- e.1];exact yg)⟩
 ·cases e⟩
theorem zlN:∃r,OpR X (compareOp .Lt) r/\OpF X E r dLt:=⟨_,zlc,jM λi j d t H Q e q=>by
 simp only[iOk,R.ok.injEq]at e;exact⟨i,j,rfl,rfl,q _ (by intro H Y;rw[<- e.1];exact yh)⟩⟩
theorem zc3:∃r,OpR X (compareOp .LtE) r/\OpF X E r dLe:=⟨_,zjX,jM λi j d t H Q e q=>by
 simp only[iOk,R.ok.injEq]at e;exact⟨i,j,rfl,rfl,q _ (by intro H Y;rw[<- e.1];exact yh)⟩⟩
theorem zli:∃r,OpR X (compareOp .Gt) r/\OpF X E r dGt:=⟨_,zkE,jM λi j d t H Q e q=>by
 simp only[iOk,R.ok.injEq]at e;exact⟨i,j,rfl,rfl,q _ (by intro H Y;rw[<- e.1];exact yh)⟩⟩
theorem zlM:∃r,OpR X (compareOp .GtE) r/\OpF X E r dGe:=⟨_,zkK,jM λi j d t H Q e q=>by
 simp only[iOk,R.ok.injEq]at e;exact⟨i,j,rfl,rfl,q _ (by intro H Y;rw[<- e.1];exact yh)⟩⟩
end
mutual
noncomputable def z0j:D->PyData
 | .non=>.none | .bl b=>.bool b | .int i=>.int i | .str x=>.str x | .tup xs=>.tuple (toPys xs) | .lst xs=>.list (toPys xs) | _=>.dict []
noncomputable def toPys:List D->List PyData
 | []=>[] | d::ds=>z0j d::toPys ds
end
theorem zkx(i:Int):z0j (.int i)=.int i:=id rfl
theorem zlZ(x:Str):z0j (.str x)=.str x:=id rfl
theorem ziP(xs:List D):z0j (.tup xs)=.tuple (toPys xs):=id rfl
theorem tPn:toPys []=[]:=id rfl
theorem tPc(d:D)(ds:List D):toPys (d::ds)=z0j d::toPys ds:=id rfl
theorem zkY(xs:List D):z0j (.lst xs)=.list (toPys xs):=id rfl
noncomputable def eqD(a b:D):Bool:=PyData.eqv (z0j a) (z0j b)
noncomputable def zdc(d:D):Bool:=SeqAt.shaped (z0j d)
noncomputable def dEq(x y:D)(s:Sto):R D:=if zdc x=true/\zdc y=true then .ok (.bl (eqD x y)) s else .no
noncomputable def dNe(x y:D)(s:Sto):R D:=if zdc x=true/\zdc y=true then .ok (.bl (!eqD x y)) s else .no
section
variable {P:Program}{w:World}{mg:Gm}{H:Hp}{Y:List Addr}{h:Heap}
mutual
theorem Den.reads(ok:HOk P w H h):∀{d:D}{v:V}{u:Value},PyData.canLay0 (z0j d)=true->Den mg H Y d v->ym v u->∃as,Reads h u (z0j d) as
 | .non,_,_,_,dn,r=>by obtain rfl:=dn;cases r;exact⟨_,Reads.none⟩ | .bl b,_,_,_,dn,r=>by obtain rfl:=dn;cases r;exact⟨_,Reads.bool b⟩ | .int i,_,_,_,dn,r=>by obtain rfl:=dn;obtain⟨t,rfl⟩:=r;exact⟨_,Reads.int i t⟩ | .str x,_,_,_,dn,r=>by obtain rfl:=dn;obtain⟨t,rfl⟩:=r;exact⟨_,Reads.str x t⟩ | .tup ds,_,_,c,dn,r=>by
  obtain⟨a,vs,rfl,h1,h2⟩:=dn;cases r;obtain⟨_,ae,rv,o,e,hc,_,n,hd⟩:=ok a _ h1;obtain⟨as,q⟩:=zG.reads ok c h2 rv;exact⟨as,Reads.tuple e hc hd (by simpa using q)⟩ | .lst ds,_,_,c,dn,r=>by
  obtain⟨a,o,vs,rfl,h1,h2⟩:=dn;cases r;obtain⟨_,_,ae,n,rv,e⟩:=ok a _ h1;obtain⟨as,q⟩:=zG.reads ok c h2 rv;exact⟨_,Reads.list e rfl rfl (by simpa using q)⟩ | .dct,_,_,c,_,_=>nomatch (c:false=true) | .loc _,_,_,c,_,_=>nomatch (c:false=true) | .fn _,_,_,c,_,_=>nomatch (c:false=true) | .exc _,_,_,c,_,_=>nomatch (c:false=true)
theorem zG.reads(ok:HOk P w H h):∀{ds:List D}{vs:List V}{us:List Value},PyData.canLayAll0 (toPys ds)=true->zG mg H Y ds vs->yp vs us->∃as,ReadsAll h us (toPys ds) as
 | [],_,_,_,dn,r=>by obtain rfl:=dn;cases r;exact⟨_,ReadsAll.nil⟩ | d::ds,_,_,c,dn,r=>by
  obtain⟨v,vs,rfl,h1,h2⟩:=dn;have c:=_ad.mp c;cases r with | cons r1 r2=>
   obtain⟨as,q⟩:=Den.reads ok c.1 h1 r1;obtain⟨bs,q'⟩:=zG.reads ok c.2 h2 r2;exact⟨_,ReadsAll.cons q q'⟩
end
end
section
variable {X:Cx}{E:XK}
def zlC(mg:Gm)(bA:Bool):R2:=λx y H Q=>∃Y d1 d2,Den mg H Y d1 x/\Den mg H Y d2 y/\zdc d1=true/\zdc d2=true/\Q (.bl (if bA then !eqD d1 d2 else eqD d1 d2)) H
theorem ziT(hu:X.A.units+64<cLine):OpR X (compareOp .Eq) (zlC (gm X) false):=by
 intro ac s O H x y v u Q I rx ry ⟨Y,d1,d2,h1,h2,p1,p2,q⟩;obtain⟨as,ra⟩:=Den.reads I.hok (_bx p1) h1 rx;obtain⟨bs,rb⟩:=Den.reads I.hok (_bx p2) h2 ry;exact SeqAt.compareEq_shaped ra rb p1 p2 hu ⟨.bl (eqD d1 d2),H,I,rfl,q⟩
theorem zjA(hu:X.A.units+64<cLine):OpR X (compareOp .NotEq) (zlC (gm X) true):=by
 intro ac s O H x y v u Q I rx ry ⟨Y,d1,d2,h1,h2,p1,p2,q⟩;obtain⟨as,ra⟩:=Den.reads I.hok (_bx p1) h1 rx;obtain⟨bs,rb⟩:=Den.reads I.hok (_bx p2) h2 ry;exact SeqAt.compareNe_shaped ra rb p1 p2 hu ⟨.bl (!eqD d1 d2),H,I,rfl,q⟩
theorem z8l(hu:X.A.units+64<cLine):∃r,OpR X (compareOp .Eq) r/\OpF X E r dEq:=⟨_,ziT hu,λH Y s d1 d2 v1 v2 Q r h1 h2 h=>by
 unfold dEq at h;split at h
 ·rename_i hc;exact⟨Y,d1,d2,h1,h2,hc.1,hc.2,h.here r yh⟩
 ·exact h.elim⟩
theorem zbP(hu:X.A.units+64<cLine):∃r,OpR X (compareOp .NotEq) r/\OpF X E r dNe:=⟨_,zjA hu,λH Y s d1 d2 v1 v2 Q r h1 h2 h=>by
 unfold dNe at h;split at h
 ·rename_i hc;exact⟨Y,d1,d2,h1,h2,hc.1,hc.2,h.here r yh⟩
 ·exact h.elim⟩
noncomputable def z7t:D->Option V
 | .non=>some .non | .bl b=>some (.bl b) | .int i=>some (.int i) | .str x=>some (.str x) | _=>none
theorem z5i      (h:z7t d=some w)(dn:Den mg H Y d v):v=w/\z2g v=true:=by cases d<;>first | (cases h;subst dn;exact⟨rfl,rfl⟩) | cases h
noncomputable def ku:List D->Option (List V)
 | []=>some [] | d::ds=>match z7t d,ku ds with | some v,some vs=>some (v::vs) | _,_=>none
theorem z2Q    : ∀{ds:List D}{vs ws:List V},ku ds=some ws->zG mg H Y ds vs->vs=ws/\vs.all z2g=true
 | [],_,_,h,dn=>by cases h;subst dn;exact⟨rfl,rfl⟩ | d::ds,_,_,h,dn=>by
  obtain⟨v,vs,rfl,h1,h2⟩:=dn;simp only[ku]at h;split at h
  ·rename_i w ws e1 e2;cases h;obtain⟨a1,a2⟩:=z5i e1 h1;obtain⟨b1,b2⟩:=z2Q e2 h2;exact⟨by rw[a1,b1],by rw[List.all_cons,a2,b2];rfl⟩
  ·cases h
noncomputable def zeY(bA:Bool)(x y:D)(s:Sto):R D:=match z7t x,(zU s y).bind ku with
 | some v,some vs=>.ok (.bl (if bA then !inV v vs else inV v vs)) s | _,_=>.no
theorem zjm{bA:Bool}:OpF X E (rIn X.K bA) (zeY bA):=λH Y s d1 d2 v1 v2 Q r h1 h2 h=>by
 unfold zeY at h;split at h
 ·rename_i v vs e1 e2;cases e3:zU s d2 with
  | none=>rw[e3]at e2;cases e2 | some xs=>
   rw[e3]at e2;obtain⟨a,ws,rfl,q1,q2⟩:=vn  r e3 h2;obtain⟨b1,b2⟩:=z2Q e2 q2;obtain⟨a1,a2⟩:=z5i e1 h1;subst a1 b1;exact⟨a,ws,rfl,q1,a2,b2,h.here r yh⟩
 ·exact h.elim
theorem zmi:∃r,OpR X (compareOp .In) r/\OpF X E r (zeY false):=⟨_,zbh,zjm⟩
noncomputable def dIs:D->D->Sto->R D
 | .bl a,.bl b,s=>.ok (.bl (a==b)) s | .non,.non,s=>.ok (.bl true) s | .bl _,.non,s=>.ok (.bl false) s | .int _,.non,s=>.ok (.bl false) s | .str _,.non,s=>.ok (.bl false) s | .tup _,.non,s=>.ok (.bl false) s | .lst _,.non,s=>.ok (.bl false) s | _,_,_=>.no
theorem zjh:OpR X (compareOp .Is) (λx y H Q=>∃a b,x=.bl a/\y=.bl b/\Q (.bl (a==b)) H):=by
 intro ac s O H x y v u Q I rx ry ⟨a,b,e1,e2,q⟩;subst e1 e2;cases rx;cases ry;exact is_bool ⟨.bl (a==b),H,I,rfl,q⟩
theorem zlX:∃r,OpR X (compareOp .Is) r/\OpF X E r dIs:=⟨_,zjh.or zhf,λH Y s d1 d2 v1 v2 Q r h1 h2 h=>by cases d2 with
 | bl b=>cases d1 with
  | bl a=>cases uo h1;cases uo h2;exact .inl ⟨_,_,rfl,rfl,okR.here h r yh⟩ | _=>exact (show False from h).elim
 | non=>cases d1 with
  | non=>subst h1 h2;exact .inr ⟨rfl,by exact (okR.here h r yh)⟩ | bl _=>subst h1 h2;exact .inr ⟨rfl,by exact (okR.here h r yh)⟩ | int _=>subst h1 h2;exact .inr ⟨rfl,by exact (okR.here h r yh)⟩ | str _=>subst h1 h2;exact .inr ⟨rfl,by exact (okR.here h r yh)⟩ | tup _=>obtain⟨a,vs,rfl,_⟩:=h1;subst h2;exact .inr ⟨rfl,by exact (okR.here h r yh)⟩ | lst _=>obtain⟨a,o,vs,rfl,_⟩:=h1;subst h2;exact .inr ⟨rfl,by exact (okR.here h r yh)⟩ | _=>exact (show False from h).elim
 | _=>cases d1<;>exact (show False from h).elim⟩
noncomputable def dIx(x y:D)(s:Sto):R D:=match y,zU s x with
 | .int i,some xs=>match atI xs i with | some d=>.ok d s | none=>.no
 | _,_=>.no
theorem zcs        (h:zG mg H Y xs vs)(e:atI xs i=some d):∃v,atI vs i=some v/\Den mg H Y d v:=by
 unfold atI at e ⊢;rw[h.length];cases q:ixN xs.length i with
 | none=>rw[q]at e;cases e | some j=>
  rw[q]at e;exact h.get e
theorem zmt:∃r,IxR X r/\OpF X E r dIx:=⟨_,zfM.or ziJ,λH Y s d1 d2 v1 v2 Q r h1 h2 h=>by
 unfold dIx at h;split at h
 ·rename_i i xs e;split at h
  ·rename_i d e2;cases zO h2;obtain⟨a,vs,rfl,q1,q2⟩:=vn  r e h1;obtain⟨v,e3,e4⟩:=zcs q2 e2;rcases q1 with q1 | q1;·exact .inl ⟨a,vs,i,v,rfl,rfl,q1,e3,h.here r e4⟩
   ·exact .inr ⟨a,vs,i,v,rfl,rfl,q1,e3,h.here r e4⟩
  ·exact h.elim
 ·exact h.elim⟩
end
section
variable {X:Cx}{E:XK}{e a b c:Expr}{es:List Expr}{pos:Pos}
theorem zT    (ho:∃r,OpR X (binaryOp op) r/\OpF X E r fo)(ha:RE X E a fa)(hb:RE X E b fb):RE X E (.BinOp a op b pos) (eOp fo fa fb):=let ⟨_,h⟩:=ho;zm6 h ha hb
theorem z4H    (ho:∃r,OpR X (compareOp op) r/\OpF X E r fo)(ha:RE X E a fa)(hb:RE X E b fb)(hm:behindInMarks op b=false:=by first | exact zeH _ | rfl):RE X E (.Compare a [op] [b] pos) (eOp fo fa fb):=let ⟨_,h⟩:=ho;zjW h ha hb hm
noncomputable def tOf(f:FE):FT:=fun ρ s=>(f ρ s).bind λd s1=>match d with | .bl k=>.ok k s1 | _=>.no
theorem z32     (h:tT (gm X) E (tOf f) O H Q):zfR (tE (gm X) E f) O H Q:=by
 obtain⟨Y,ρ,s,r,en,h⟩:=h;refine zN (k:=fun ρ d s1=>match d with | .bl k=>.ok k s1 | _=>.no) r en h _ λv H1 Y1 s1 d r1 aE dn stp h1=>?_;cases d with
 | bl k=>
  cases uo dn;exact⟨k,rfl,h1.here  r1 rfl⟩ | _=>exact h1.elim
theorem zX    (ho:∃r,OpR X (compareOp op) r/\OpF X E r fo)(ha:RE X E a fa)(hb:RE X E b fb)(hm:behindInMarks op b=false:=by first | exact zeH _ | rfl):RT X E (.Compare a [op] [b] pos) (tOf (eOp fo fa fb)):=by
 obtain⟨r,h1,h2⟩:=ho;exact z5x (zfD h1 ha hb hm) λO H Q h=>z7V h2 (z32 h)
noncomputable def z0e(fo dG:D->D->Sto->R D)(fa fb fc:FE):FE:=fun ρ s=>(fa ρ s).bind λx s1=>(fb ρ s1).bind λy s2=>(fo x y s2).bind λz s3=>match z with
 | .bl true=>(fc ρ s3).bind λw s4=>dG y w s4 | .bl false=>.ok (.bl false) s3 | _=>.no
theorem z56    (ho:OpF X E r fo)(bE:OpF X E r' dG)    (h:tE (gm X) E (z0e fo dG fa fb fc) O H Q):z9N r r' (tE (gm X) E fa) (tE (gm X) E fb) (tE (gm X) E fc) O H Q:=by
 obtain⟨Y,ρ,s,rp,en,h⟩:=h;refine zN (k:=fun ρ x s1=>(fb ρ s1).bind λy s2=>(fo x y s2).bind λz s3=>match z with
  | .bl true=>(fc ρ s3).bind λw s4=>dG y w s4 | .bl false=>.ok (.bl false) s3 | _=>.no) rp en h _ λv H1 Y1 s1 d r1 aE dn stp h1=>(zN (k:=fun ρ y s2=>(fo d y s2).bind λz s3=>match z with
  | .bl true=>(fc ρ s3).bind λw s4=>dG y w s4 | .bl false=>.ok (.bl false) s3 | _=>.no) r1 aE h1 _ λv2 H2 Y2 s2 d2 r2 bw aJ ak h2=>(ho H2 Y2 s2 d d2 v v2 _ r2 (dn.mono ak) aJ ((okR.bind  h2).imp λv3 H3 ⟨Y3,s3,d3,aq,b9,h3⟩=>?_)));cases d3 with
 | bl k=>
  cases uo b9;refine⟨k,rfl,?_⟩;cases k with
  | true=> exact zN (k:=fun ρ w s4=>dG d2 w s4) aq.rep (bw.mono aq) h3 _ λv4 H4 Y4 s4 d4 r4 j8 oy bg h4=>(bE H4 Y4 s4 d2 d4 v2 v4 Q r4 ((aJ.mono aq).mono bg) oy h4) | false=> exact okR.here  h3 aq.rep yh
 | _=>exact h3.elim
theorem zg5    (ho:∃r,OpR X (compareOp op) r/\OpF X E r fo)(bE:∃r,OpR X (compareOp cG) r/\OpF X E r dG)(ha:RE X E a fa)(hb:RE X E b fb)(hc:RE X E c fc) (hm:autoParam (lastMarks [op,cG] [b,c]=false) aWu):RE X E (.Compare a [op,cG] [b,c] pos) (z0e fo dG fa fb fc):=by
 obtain⟨r,h1,h2⟩:=ho;obtain⟨r',gB,cf⟩:=bE;exact zR (zd3 h1 gB ha hb hc hm) λO H Q h=>z56 h2 cf h
noncomputable def zfL(fa fb:FE):FE:=fun ρ s=>(fa ρ s).bind λx s1=>match x with | .bl true=>fb ρ s1 | .bl false=>.ok (.bl false) s1 | _=>.no
noncomputable def zjS(fa:FE):FE:=fun ρ s=>(fa ρ s).bind λx s1=>match x with | .bl k=>.ok (.bl (!k)) s1 | _=>.no
variable {vF:List Expr}
theorem zax   (h:RE X E a f):RE X E (.BoolOp op [a] pos) f:=zi6 h
theorem zb8  (ha:RE X E a fa)(hb:RE X E (.BoolOp .And (b::vF) pos) fb):RE X E (.BoolOp .And (a::b::vF) pos) (zfL fa fb):= zR (zhk ha hb) λO H Q ⟨Y,ρ,s,r,en,h⟩=>by
  refine zN (k:=fun ρ x s1=>match x with | .bl true=>fb ρ s1 | .bl false=>.ok (.bl false) s1 | _=>.no) r en h _ λv H1 Y1 s1 d r1 aE dn stp h1=>?_;cases d with
  | bl k=>
   cases uo dn;refine⟨k,rfl,?_⟩;cases k with
   | true=>exact⟨Y1,ρ,s1,r1,aE,h1⟩ | false=>exact okR.here  h1 r1 yh
  | _=>exact h1.elim
theorem zi5  (ha:RE X E a fa):RE X E (.UnaryOp .Not a pos) (zjS fa):= zR (zjf ha) λO H Q ⟨Y,ρ,s,r,en,h⟩=>by
  refine zN (k:=fun ρ x s1=>match x with | .bl k=>R.ok (D.bl (!k)) s1 | _=>.no) r en h _ λv H1 Y1 s1 d r1 aE dn stp h1=>?_;cases d with
  | bl k=>
   cases uo dn;exact⟨k,rfl,okR.here  h1 r1 yh⟩ | _=>exact h1.elim
noncomputable def zft(fa fb:FT):FT:=fun ρ s=>(fa ρ s).bind λx s1=>if x=true then fb ρ s1 else .ok false s1
noncomputable def fOr(fa fb:FT):FT:=fun ρ s=>(fa ρ s).bind λx s1=>if x=true then .ok true s1 else fb ρ s1
noncomputable def z0F(fa:FT):FT:=fun ρ s=>(fa ρ s).bind λx s1=>.ok (!x) s1
def RW(X:Cx)(E:XK)(e:Expr)(f:FT):Prop:=PW X e (tT (gm X) E f)
theorem RW.rt  (h:RW X E e f):RT X E e f:=PW.pt h
theorem zeb  (h:PW X e t)(i:∀O H Q,t' O H Q->t O H Q):PW X e t':=λwh ac s O H Q I q=>h wh ac s O H Q I (i O H Q q)
theorem z7y  (h:RT X E a f):RW X E (.BoolOp .And [a] pos) f:=zgf h
theorem z6i  (h:RT X E a f):RW X E (.BoolOp .Or [a] pos) f:=zio h
theorem w_and  (ha:RT X E a fa)(hb:RW X E (.BoolOp .And (b::vF) pos) fb):RW X E (.BoolOp .And (a::b::vF) pos) (zft fa fb):= zeb (zim ha hb) λO H Q ⟨Y,ρ,s,r,en,h⟩=>by
  refine z1h (k:=fun ρ x s1=>if x=true then fb ρ s1 else .ok false s1) r en h _ λv H1 Y1 s1 r1 aE stp h1=>?_;cases v with
  | true=>exact⟨Y1,ρ,s1,r1,aE,h1⟩ | false=>exact h1.here r1 rfl
theorem zdv  (ha:RT X E a fa)(hb:RW X E (.BoolOp .Or (b::vF) pos) fb):RW X E (.BoolOp .Or (a::b::vF) pos) (fOr fa fb):= zeb (zkZ ha hb) λO H Q ⟨Y,ρ,s,r,en,h⟩=>by
  refine z1h (k:=fun ρ x s1=>if x=true then .ok true s1 else fb ρ s1) r en h _ λv H1 Y1 s1 r1 aE stp h1=>?_;cases v with
  | false=>exact⟨Y1,ρ,s1,r1,aE,h1⟩ | true=>exact h1.here r1 rfl
theorem uz  (ha:RT X E a fa):RT X E (.UnaryOp .Not a pos) (z0F fa):= z5x (zhM ha) λO H Q ⟨Y,ρ,s,r,en,h⟩=>z1h (k:=fun ρ x s1=>.ok (!x) s1) r en h _ λv H1 Y1 s1 r1 aE stp h1=>h1.here r1 rfl
theorem uy  (h:RE X E a f)(he:autoParam (∀aU,isTrue a X.env aU=(do let v <- aU;standAt a.pos;holding [v] (truthy v))) aIr):RT X E a (tOf f):= z5x (zj4 h he) λO H Q h=>z32 h
noncomputable def eIf(ft:FT)(fa fb:FE):FE:=fun ρ s=>(ft ρ s).bind λx s1=>if x=true then fa ρ s1 else fb ρ s1
theorem zhH   (hc:RT X E c ft)(ha:RE X E a fa)(hb:RE X E b fb):RE X E (.IfExp c a b pos) (eIf ft fa fb):= zR (zcE hc ha hb) λO H Q ⟨Y,ρ,s,r,en,h⟩=>z1h (k:=fun ρ x s1=>if x=true then fa ρ s1 else fb ρ s1) r en h _ λv H1 Y1 s1 r1 aE stp h1=>by cases v with
  | true=>exact⟨Y1,ρ,s1,r1,aE,h1⟩ | false=>exact⟨Y1,ρ,s1,r1,aE,h1⟩
theorem z2n  (ha:RE X E a fa)(hb:RE X E b fb)(hs:z6o b:=by intro _ _;rfl):RE X E (.Subscript a b pos) (eOp dIx fa fb):=by
 obtain⟨r,h1,h2⟩:=zmt;exact zR (zik h1 ha hb hs) λO H Q h=>z7V h2 h
noncomputable def zn:FA:=λ_ s=>.ok [] s
noncomputable def za(fa:FE)(fr:FA):FA:=fun ρ s=>(fa ρ s).bind λx s1=>(fr ρ s1).bind λxs s2=>.ok (x::xs) s2
theorem zf:RA X E [] zn:=ze6 z1i λO H Q ⟨Y,ρ,s,r,en,h⟩=>h.here r zG.nil
theorem kL   (ha:RE X E e fa)(hr:RA X E es fr)(hs:autoParam (starEach (e::es) X.env=(false,eval e X.env)::starEach es X.env) aRf):RA X E (e::es) (za fa fr):= ze6 (uT ha hr hs) λO H Q ⟨Y,ρ,s,r,en,h⟩=>by exact zN (k:=fun ρ x s1=>(fr ρ s1).bind λxs s2=>.ok (x::xs) s2) r en h _ λv H1 Y1 s1 d r1 aE dn stp h1=>(vW (k:=fun ρ xs s2=>.ok (d::xs) s2) r1 aE h1 _ λvs H2 Y2 s2 ds r2 bw aJ ak h2=>(h2.here r2 (zG.cons (dn.mono ak) aJ)))
noncomputable def jY(f:FA):FE:=fun ρ s=>(f ρ s).bind λxs s1=>if xs.length<=cap then .ok (.tup xs) s1 else .no
theorem qM   (h:RA X E es f):RE X E (.Tuple es x1 pos) (jY f):= zR (zhJ h) λO H Q ⟨Y,ρ,s,r,en,h⟩=>by
  refine vW (k:=fun ρ xs s1=>if xs.length<=cap then R.ok (D.tup xs) s1 else .no) r en h _ λvs H2 Y2 s2 ds r2 bw aJ ak h2=>?_;split at h2
  ·rename_i hl;exact⟨by rw[aJ.length];exact jh hl,z2J r2 h2 aJ⟩
  ·exact h2.elim
noncomputable def z4o(f:FA):FE:=fun ρ s=>(f ρ s).bind λxs s1=>if xs.length<=cap then .ok (.lst xs) s1 else .no
theorem z0m  (h:RA X E es f):RE X E (.List es pos) (z4o f):= zR (zeI h).freeze λO H Q ⟨Y,ρ,s,r,en,h⟩=>by
  refine vW (k:=fun ρ xs s1=>if xs.length<=cap then R.ok (D.lst xs) s1 else .no) r en h _ λvs H2 Y2 s2 ds r2 bw aJ ak h2=>?_;split at h2
  ·rename_i hl;exact⟨by rw[aJ.length];exact jh hl,uD r2 h2 aJ⟩
  ·exact h2.elim
noncomputable def zg7(f:FA):FE:=fun ρ s=>(f ρ s).bind λxs s1=>if xs.length<=cap/\D.flat.flats xs=true then .ok (.loc s1.length) (s1++[xs]) else .no
theorem zhn       {Q:VK}(r:Rep mg H Y s)(h:okR mg E H Y (Den mg) (.ok (.loc s.length) (s++[xs])) Q)(hf:D.flat.flats xs=true)(hd:zG mg H Y xs vs):∀p,H p=none->Q (.ref p) (upd H p (.lst vs)):=λp hp=>by exact h _ _ _ (yQ.layL r hp hd hf) ⟨p,rfl,by rw[<- r.len];simp,vs,zA⟩
theorem zba  (h:RA X E es f):RE X E (.List es pos) (zg7 f):= zR (zeI h) λO H Q ⟨Y,ρ,s,r,en,h⟩=>by
  refine vW (k:=fun ρ xs s1=>if xs.length<=cap/\D.flat.flats xs=true then R.ok (D.loc s1.length) (s1++[xs]) else .no) r en h _ λvs H2 Y2 s2 ds r2 bw aJ ak h2=>?_;split at h2
  ·rename_i hl;exact⟨by rw[aJ.length];exact jh hl.1,zhn r2 h2 hl.2 aJ⟩
  ·exact h2.elim
def z1Q(X:Cx)(E:XK)(r:List V->Hp->VK->Prop)(g:List D->Sto->R D):Prop:= ∀H Y s ds vs (Q:VK),Rep (gm X) H Y s->zG (gm X) H Y ds vs->okR (gm X) E H Y (Den (gm X)) (g ds s) Q->r vs H Q
noncomputable def zh(g:List D->Sto->R D)(f:FA):FE:=fun ρ s=>(f ρ s).bind λxs s1=>g xs s1
theorem zK  {p:Pos} {id:String}   (hc:∃r,xA X (.builtin id) r/\z1Q X E r g) (hg:Gl X x) (hm:X.mg x=none) (hv:bootBuiltins x=some (.builtin id)) (ha:RA X E (e::es) f) (hn:autoParam (x≠"__name__") aDe) (br:autoParam ((x==("__debug__":Str))=false) aDe) (he:autoParam (starEach (e::es) X.env=(false,eval e X.env)::starEach es X.env) aRf) (bh:autoParam ((backTo pos (starEach es X.env)).any (·.1)=false) aRf):RE X E (.Call (.Name x p) (e::es) [] pos) (zh g f):=by
 obtain⟨r,h1,h2⟩:=hc;exact zR (z4e h1 hg hm hv ha hn br he bh) λO H Q ⟨Y,ρ,s,r,en,h⟩=> vW (k:=fun ρ xs s1=>g xs s1) r en h _ λvs H2 Y2 s2 ds r2 bw aJ ak h3=>h2 H2 Y2 s2 ds vs Q r2 aJ h3
theorem z5W  {p:Pos}    (hc:∃r,xA X (.type T) r/\z1Q X E r g) (hg:Gl X x) (hm:X.mg x=none) (hv:bootBuiltins x=some (.type T)) (ha:RA X E (e::es) f) (hn:autoParam (x≠"__name__") aDe) (br:autoParam ((x==("__debug__":Str))=false) aDe) (he:autoParam (starEach (e::es) X.env=(false,eval e X.env)::starEach es X.env) aRf) (bh:autoParam ((backTo pos (starEach es X.env)).any (·.1)=false) aRf):RE X E (.Call (.Name x p) (e::es) [] pos) (zh g f):=by
 obtain⟨r,h1,h2⟩:=hc;exact zR (z5r h1 hg hm hv ha hn br he bh) λO H Q ⟨Y,ρ,s,r,en,h⟩=> vW (k:=fun ρ xs s1=>g xs s1) r en h _ λvs H2 Y2 s2 ds r2 bw aJ ak h3=>h2 H2 Y2 s2 ds vs Q r2 aJ h3
theorem z3r      (h:zG mg H Y [d] vs):∃v,vs=[v]/\Den mg H Y d v:=by
 obtain⟨v,r,rfl,h1,rfl⟩:=h;exact⟨v,rfl,h1⟩
theorem z5P      (h:zG mg H Y [d,d'] vs):∃v v',vs=[v,v']/\Den mg H Y d v/\Den mg H Y d' v':=by
 obtain⟨v,r,rfl,h1,v',r',rfl,h2,rfl⟩:=h;exact⟨v,v',rfl,h1,h2⟩
noncomputable def qI:List D->Sto->R D
 | [d],s=>match zU s d with | some xs=>.ok (.int xs.length) s | none=>.no
 | _,_=>.no
theorem z0l:∃r,xA X (.builtin "len") r/\z1Q X E r qI:=⟨_,z4V,λH Y s ds vs Q r hd h=>by
 unfold qI at h;split at h
 ·split at h
  ·rename_i d xs e;obtain⟨v,rfl,dn⟩:=z3r hd;obtain⟨a,ws,rfl,q1,q2⟩:=vn  r e dn;exact⟨a,ws,rfl,q1,by rw[q2.length];exact h.here r yg⟩
  ·exact h.elim
 ·exact h.elim⟩
noncomputable def z1r:List D->Sto->R D
 | [d],s=>match zU s d with | some xs=>.ok (.tup xs) s | none=>.no
 | _,_=>.no
theorem z6N:∃r,xA X (.type "tuple") r/\z1Q X E r z1r:=⟨_,z43,λH Y s ds vs Q r hd h=>by match ds,hd,h with
 | [],_,h=>exact h.elim | _::_::_,_,h=>exact h.elim | [d],hd,h=>
  obtain⟨v,rfl,dn⟩:=z3r hd;simp only[z1r]at h;cases e:zU s d with
  | none=>rw[e]at h;exact h.elim | some xs=>
   rw[e]at h;cases d with
   | tup ys=>
    simp only[zU,_J]at e;subst e;obtain⟨a,ws,rfl,q1,q2⟩:=qL  dn;exact⟨a,ws,rfl,.inr ⟨q1,h.here r dn⟩⟩ | lst ys=>
    obtain⟨a,ws,rfl,q1,q2⟩:=zJ (d:=.lst ys) r e dn;exact⟨a,ws,rfl,.inl ⟨.inl q1,z2J r h q2⟩⟩ | loc l=>
    obtain⟨a,ws,rfl,q1,q2⟩:=zJ (d:=.loc l) r e dn;exact⟨a,ws,rfl,.inl ⟨.inl q1,z2J r h q2⟩⟩ | scr ys=>
    simp only[zU,_J]at e;subst e;obtain⟨a,ws,rfl,q1,q2⟩:=zek dn;exact⟨a,ws,rfl,.inl ⟨q1,z2J r h q2⟩⟩ | _=>simp[zU]at e⟩
noncomputable def zd8:List D->Sto->R D
 | [.int i,.int j],s=>.ok (.int (if j > i then j else i)) s | _,_=>.no
noncomputable def z6L:List D->Sto->R D
 | [.int i,.int j],s=>.ok (.int (if j<i then j else i)) s | _,_=>.no
theorem zjG(hc:X.calm=true):∃r,xA X (.builtin "max") r/\z1Q X E r zd8:=⟨_,zaw hc,λH Y s ds vs Q r hd h=>by
 unfold zd8 at h;split at h
 ·rename_i i j;obtain⟨v,v',rfl,d1,d2⟩:=z5P hd;cases zO d1;cases zO d2;exact⟨i,j,rfl,h.here r yg⟩
 ·exact h.elim⟩
theorem zem(hc:X.calm=true):∃r,xA X (.builtin "min") r/\z1Q X E r z6L:=⟨_,z9v hc,λH Y s ds vs Q r hd h=>by
 unfold z6L at h;split at h
 ·rename_i i j;obtain⟨v,v',rfl,d1,d2⟩:=z5P hd;cases zO d1;cases zO d2;exact⟨i,j,rfl,h.here r yg⟩
 ·exact h.elim⟩
abbrev FO:=Ev->Sto->R (Option Int)
def oD(_:Hp)(_:List Addr)(a b:Option Int):Prop:=a=b
def tO(mg:Gm)(E:XK)(f:FO):TO:=λO H Q=>∃Y ρ s,Rep mg H Y s/\vE mg H Y ρ O/\okR mg E H Y oD (f ρ s) Q
def RO(X:Cx)(E:XK)(e:Option Expr)(f:FO):Prop:=PO X e (tO (gm X) E f)
theorem ze3   (h:PO X o t)(i:∀O H Q,t' O H Q->t O H Q):PO X o t':=λac s O H Q I q=>h ac s O H Q I (i O H Q q)
noncomputable def zQ:FO:=λ_ s=>.ok none s
noncomputable def xK(f:FE):FO:=fun ρ s=>(f ρ s).bind λd s1=>match d with | .int i=>.ok (some i) s1 | _=>.no
theorem ur:RO X E none zQ:=ze3 zfJ λO H Q ⟨Y,ρ,s,r,en,h⟩=>h.here  r rfl
theorem uv  (h:RE X E e f):RO X E (some e) (xK f):=ze3 (zgd h) λO H Q ⟨Y,ρ,s,r,en,h⟩=>by
 refine zN (k:=fun ρ d s1=>match d with | .int i=>.ok (some i) s1 | _=>.no) r en h _ λv H1 Y1 s1 d r1 aE dn stp h1=>?_;cases d with
 | int i=>cases zO dn;exact⟨i,rfl,h1.here  r1 rfl⟩ | _=>exact h1.elim
noncomputable def cutD(xs:List D)(lo hi:Option Int):List D:=(xs.drop (HT.sIx xs.length 0 lo)).take (HT.sIx xs.length xs.length hi-HT.sIx xs.length 0 lo)
theorem z3s      (h:zG mg H Y xs vs)(lo hi:Option Int):zG mg H Y (cutD xs lo hi) (zh7 vs lo hi):=by
 unfold cutD zh7;rw[h.length];exact (h.drop _).take _
noncomputable def dSl(x:D)(lo hi:Option Int)(s:Sto):R D:=match x with
 | .tup xs=>.ok (.tup (cutD xs lo hi)) s | x=>match listOf s x with | some xs=>.ok (.lst (cutD xs lo hi)) s | none=>.no
noncomputable def eSl(fe:FE)(fl fh:FO):FE:=fun ρ s=>(fe ρ s).bind λx s1=>(fl ρ s1).bind λlo s2=>(fh ρ s2).bind λhi s3=>dSl x lo hi s3
theorem zaU     {k:Ev->Option Int->Sto->R α}   {Q:β->Hp->Prop}    (r:Rep mg H Y s)(en:vE mg H Y ρ O) (h:okR mg E H Y Dn ((f ρ s).bind (k ρ)) Q)(K:Option Int->Hp->Prop) (hK:∀v H1 Y1 s1,Rep mg H1 Y1 s1->vE mg H1 Y1 ρ O->yQ mg H Y H1 Y1 s1->okR mg E H1 Y1 Dn (k ρ v s1) Q->K v H1):tO mg E f O H K:= ⟨Y,ρ,s,r,en,(okR.bind  h).imp λv H1 ⟨Y1,s1,d,stp,dn,q⟩=>hK v H1 Y1 s1 stp.rep (en.mono stp) stp (by cases (dn);exact q)⟩
theorem we{lo hi:Option Expr}    (he:RE X E e fe)(hl:RO X E lo fl)(hh:RO X E hi fh):RE X E (.Subscript e (.Slice lo hi none p2) pos) (eSl fe fl fh):= zR (zcK ((zib.or zgG).or zf5.freeze) he hl hh) λO H Q ⟨Y,ρ,s,r,en,h⟩=>by
  refine zN (k:=fun ρ x s1=>(fl ρ s1).bind λlo s2=>(fh ρ s2).bind λhi s3=>dSl x lo hi s3) r en h _ λv H1 Y1 s1 d r1 aE dn stp h1=>(zaU (k:=fun ρ lo s2=>(fh ρ s2).bind λhi s3=>dSl d lo hi s3) r1 aE h1 _ λlo H2 Y2 s2 r2 bw ak h2=>?_);refine zaU (k:=fun ρ hi s3=>dSl d lo hi s3) r2 bw h2 _ λhi H3 Y3 s3 r3 fH aq h3=>?_;have b9:=(dn.mono ak).mono aq;cases d with
  | tup xs=>
   obtain⟨a,vs,rfl,q1,q2⟩:=qL  b9;have j9:okR (gm X) E H3 Y3 (Den (gm X)) (.ok (.tup (cutD xs lo hi)) s3) Q:=h3;by_cases hw:HT.sIx vs.length 0 lo=0/\HT.sIx vs.length vs.length hi=vs.length
   ·refine .inl (.inr ⟨a,vs,rfl,q1,hw,?_⟩);rw[(show cutD xs lo hi=xs from by
     unfold cutD;rw[<- q2.length,hw.1,hw.2];simp[q2.length])]at j9;exact j9.here r3 b9
   ·exact .inl (.inl ⟨a,vs,rfl,q1,hw,z2J r3 j9 (z3s q2 lo hi)⟩) | lst xs=>
   obtain⟨a,vs,rfl,q1,q2⟩:=zJ  r3 rfl b9;exact .inr ⟨a,vs,rfl,.inl q1,uD r3 h3 (z3s q2 lo hi)⟩ | loc l=>
   simp only[dSl]at h3;split at h3
   ·rename_i xs e;obtain⟨a,vs,rfl,q1,q2⟩:=zJ  r3 e b9;exact .inr ⟨a,vs,rfl,.inl q1,uD r3 h3 (z3s q2 lo hi)⟩
   ·exact h3.elim | _=>exact h3.elim
end
abbrev Mir:=List D->Sto->R D
def ze1(mg:Gm)(M:Mir):Sp:=λvs H Q E=>∃Y s ds,Rep mg H Y s/\zG mg H Y ds vs/\okR mg E H Y (Den mg) (M ds s) Q
def Has(P:Program)(w:World)(K:W.Frag)(mg:Str->Option Value)(base:Heap)(CX:CXT)(x:Str)(n:Nat)(M:Mir):Prop:= ∃f fd ps,z3A P w K mg base CX n f fd ps (ze1 ⟨mg,K⟩ M)/\Binds K fd ps []/\W.keepIn K (.ref f)=true/\mg x=some (.ref f)
section
variable {X:Cx}{E:XK}{e a b c:Expr}{es:List Expr}{pos:Pos}{CX:CXT}
theorem zjw  {p:Pos}    (F:Has X.prog X.w X.K X.mg X.base CX x n M) (hr:kr n X.A) (hx:Passes CX X E) (hg:Gl X x) (ha:RA X E (e::es) f) (br:autoParam ((x==("__debug__":Str))=false) aDe) (he:autoParam (starEach (e::es) X.env=(false,eval e X.env)::starEach es X.env) aRf) (bh:autoParam ((backTo pos (starEach es X.env)).any (·.1)=false) aRf):RE X E (.Call (.Name x p) (e::es) [] pos) (zh M f):=by
 obtain⟨fa,fd,ps,F,hb,hk,hm⟩:=F;refine zR (zfq F hr hg hm hk hb .nil hx ha br he bh) λO H Q ⟨Y,ρ,s,r,en,h⟩=>(vW (k:=fun ρ xs s1=>M xs s1) r en h _ λvs H2 Y2 s2 ds r2 bw aJ ak h3=>?_);rw[_bn];exact⟨Y2,s2,ds,r2,aJ,h3⟩
noncomputable def zL(f g:FS):FS:=fun ρ s=>(f ρ s).bind λfl s1=>match fl with | .nx ρ'=>g ρ' s1 | fl=>.ok fl s1
noncomputable def xf:FS:=fun ρ s=>.ok (.nx ρ) s
variable {st:Stmt}{rs:List Stmt}
theorem ziH   {D:zcP}   (h:tS mg E (zL f g) D O H):zlr (tS mg E f) (tS mg E g) D O H:=by
 obtain⟨Y,ρ,s,r,en,h⟩:=h;refine⟨Y,ρ,s,r,en,(okR.bind  h).imp λfv H1 ⟨Y1,s1,fl,stp,dn,q⟩=>?_⟩;cases fl with
 | nx ρ'=> cases fv with
  | nx O'=>exact⟨Y1,ρ',s1,stp.rep,dn,q⟩ | _=>exact (dn).elim
 | rt d=> cases fv with
  | rt v=>exact okR.here  (Q:=zaz D)   q stp.rep dn | _=>exact (dn).elim
 | bk ρ'=> cases fv with
  | bk v=>exact okR.here  (Q:=zaz D)   q stp.rep dn | _=>exact (dn).elim
 | ct ρ'=> cases fv with
  | ct v=>exact okR.here  (Q:=zaz D)   q stp.rep dn | _=>exact (dn).elim
theorem yk:RSs X E [] xf:=zaF zfd λD O H ⟨Y,ρ,s,r,en,h⟩=>okR.here (b:=FlV.nx O) h r en
theorem zg  (h1:RS X E st f)(h2:RSs X E rs g):RSs X E (st::rs) (zL f g):=zaF (zc5 h1 h2) λD O H h=>ziH h
theorem zi  (h1:RS X E st f):RSs X E [st] f:=zfa h1
noncomputable def fNo:FS:=λ_ _=>.no
theorem z0T:RS X E st fNo:=wH zcj λD O H ⟨_,_,_,_,_,h⟩=>h
noncomputable def wS(f:FE):FS:=fun ρ s=>(f ρ s).bind λ_ s1=>.ok (.nx ρ) s1
theorem xu  (he:RE X E e f)(hs:autoParam (swapsWith e none pos.line X.env=pure false) aRf):RS X E (.Expr e pos) (wS f):= wH (zgb he hs) λD O H ⟨Y,ρ,s,r,en,h⟩=>zN (k:=fun ρ _ s1=>R.ok (Fl.nx ρ) s1) r en h _ λv H1 Y1 s1 d r1 aE dn stp h1=>okR.here (b:=FlV.nx O)  h1 r1 aE
noncomputable def wc(f:FE):FS:=fun ρ s=>(f ρ s).bind λd s1=>.ok (.rt d) s1
theorem zS  (he:RE X E e f):RS X E (.Return (some e) pos) (wc f):= wH (zhO he) λD O H ⟨Y,ρ,s,r,en,h⟩=>zN (k:=fun ρ d s1=>R.ok (Fl.rt d) s1) r en h _ λv H1 Y1 s1 d r1 aE dn stp h1=>okR.here (b:=FlV.rt v)  h1 r1 dn
noncomputable def fIf(ft:FT)(f g:FS):FS:=fun ρ s=>(ft ρ s).bind λx s1=>if x=true then f ρ s1 else g ρ s1
theorem jW    (hc:RT X E c ft)(ha:RSs X E as f)(hb:RSs X E bs g):RS X E (.If c as bs pos) (fIf ft f g):= wH (zlh hc ha hb) λD O H ⟨Y,ρ,s,r,en,h⟩=>z1h (k:=fun ρ x s1=>if x=true then f ρ s1 else g ρ s1) r en h _ λv H1 Y1 s1 r1 aE stp h1=>by cases v with
  | true=>exact⟨Y1,ρ,s1,r1,aE,h1⟩ | false=>exact⟨Y1,ρ,s1,r1,aE,h1⟩
abbrev FG:=D->Ev->Sto->R Ev
def tG(mg:Gm)(E:XK)(f:FG):TG:=λv O H Q=>∃Y ρ s d,Rep mg H Y s/\vE mg H Y ρ O/\Den mg H Y d v/\okR mg E H Y (vE mg) (f d ρ s) (λO' H'=>Q O' H')
def RG(X:Cx)(E:XK)(tg:Expr)(f:FG):Prop:=PG X tg (tG (gm X) E f)
theorem zdP   (h:PG X tg t)(i:∀v O H Q,t' v O H Q->t v O H Q):PG X tg t':=λac s O H v u Q I r q=>h ac s O H v u Q I r (i v O H Q q)
noncomputable def qZ(i:Nat):FG:=λd ρ s=>.ok (ρ.set i (some d)) s
theorem z0c(i:Nat)  (hN:X.N.Nodup)(hi:autoParam (X.N[i]? = some x) aRf)(hx:autoParam (Loc X.env.scope x) aOr)(hf:autoParam (X.fn x=true\/X.env.scope.names.lookup x=some .local) aLr):RG X E (.Name x pos) (qZ i):= zdP (yr hN hi hx hf) λv O H Q ⟨Y,ρ,s,d,r,en,dn,h⟩=>okR.here  h r (en.set dn i)
noncomputable def qU(i j:Nat):FG:=λd ρ s=>match d with | .tup [x,y]=>.ok ((ρ.set i (some x)).set j (some y)) s | _=>.no
theorem z2B(i j:Nat){x y:Str}{px py:Pos}{kt:Nat}(hc:X.calm=true)(hN:X.N.Nodup)(hi:autoParam (X.N[i]? = some x) aRf)(hj:autoParam (X.N[j]? = some y) aRf)(hx:autoParam (Loc X.env.scope x) aOr)(hy:autoParam (Loc X.env.scope y) aOr) (hf:autoParam (X.fn x=true\/X.env.scope.names.lookup x=some .local) aLr)(k6:autoParam (X.fn y=true\/X.env.scope.names.lookup y=some .local) aLr): RG X E (.Tuple [.Name x px,.Name y py] kt pos) (qU i j):= zdP (zeA hc (z0K (yr hN hi hx hf) (z0K (yr hN hj hy k6) zb2))) λv O H Q ⟨Y,ρ,s,d,r,en,dn,h⟩=>by
  unfold qU at h;split at h
  ·obtain⟨p,vs,rfl,q1,q2⟩:=qL  dn;obtain⟨v1,v2,rfl,e1,e2⟩:=z5P q2;exact⟨p,[v1,v2],rfl,q1,rfl,v1,[v2],rfl,v2,[],rfl,rfl,okR.here h r ((en.set e1 i).set e2 j)⟩
  ·exact h.elim
noncomputable def ve(i:Nat)(f:FE):FS:=fun ρ s=>(f ρ s).bind λd s1=>.ok (.nx (ρ.set i (some d))) s1
theorem yX(i:Nat)  {bx:Pos}  (hN:X.N.Nodup)(he:RE X E e f)(hi:autoParam (X.N[i]? = some x) aRf)(hx:autoParam (Loc X.env.scope x) aOr)(hs:autoParam (swapsWith e (some (.Name x bx)) pos.line X.env=pure false) aRf) (hf:autoParam (X.fn x=true\/X.env.scope.names.lookup x=some .local) aLr):RS X E (.Assign [.Name x bx] e pos) (ve i f):= wH (zjs hN hi hx he hs hf) λD O H ⟨Y,ρ,s,r,en,h⟩=>zN (k:=fun ρ d s1=>R.ok (Fl.nx (ρ.set i (some d))) s1) r en h _ λv H1 Y1 s1 d r1 aE dn stp h1=>okR.here (b:=FlV.nx (O.set i (some v)))  h1 r1 (aE.set dn i)
noncomputable def zh2(f:FE)(g:FG):FS:=fun ρ s=>(f ρ s).bind λd s1=>(g d ρ s1).bind fun ρ' s2=>.ok (.nx ρ') s2
theorem z9m    (he:RE X E e f)(hg:RG X E tg g)(hs:autoParam (swapsWithSole [tg] e pos.line X.env=pure false) aRf)(hw:autoParam (swappedStores [tg] e X.env=pure none) aRf) (h1:autoParam ((assignEach [tg] X.env).map (·.2)=[assign tg X.env]) aRf):RS X E (.Assign [tg] e pos) (zh2 f g):= wH (zee he hg hs hw h1) λD O H ⟨Y,ρ,s,r,en,h⟩=>zN (k:=fun ρ d s1=>(g d ρ s1).bind fun ρ' s2=>R.ok (Fl.nx ρ') s2) r en h _ λv H1 Y1 s1 d r1 aE dn stp h1=> ⟨Y1,ρ,s1,d,r1,aE,dn,(okR.bind  h1).imp λO' H' ⟨Y2,s2,ρ',ak,bw,q⟩=>okR.here (b:=FlV.nx O')  q ak.rep bw⟩
noncomputable def zjQ(i j:Nat)(f:FA):FS:=fun ρ s=>(f ρ s).bind λds s1=>match ds with | [x,y]=>.ok (.nx ((ρ.set i (some x)).set j (some y))) s1 | _=>.no
theorem zjj(i j:Nat){x y:Str}{px py pt:Pos}{kt k2:Nat}{fD:Pos}  (hc:X.calm=true)(hN:X.N.Nodup)(ha:RA X E [a,b] f)(hi:autoParam (X.N[i]? = some x) aRf)(hj:autoParam (X.N[j]? = some y) aRf)(aI:autoParam (i≠j) aDe) (hx:autoParam (X.env.scope.names.lookup x=some .local) aRf)(hy:autoParam (X.env.scope.names.lookup y=some .local) aRf) (hw:autoParam (swappedStores [.Tuple [.Name x px,.Name y py] kt pt] (.Tuple [a,b] k2 fD) X.env=pure (some [x,y])) aRf) (hs:autoParam (swapsWithSole [.Tuple [.Name x px,.Name y py] kt pt] (.Tuple [a,b] k2 fD) pos.line X.env=pure false) aRf): RS X E (.Assign [.Tuple [.Name x px,.Name y py] kt pt] (.Tuple [a,b] k2 fD) pos) (zjQ i j f):= wH (ziu hc hN hi hj aI hx hy ha hw hs) λD O H ⟨Y,ρ,s,r,en,h⟩=>by
  refine vW (k:=fun ρ ds s1=>match ds with | [x,y]=>R.ok (Fl.nx ((ρ.set i (some x)).set j (some y))) s1 | _=>.no) r en h _ λvs H1 Y1 s1 ds r1 aE dn stp h1=>?_;match ds,dn,h1 with
  | [],_,h1=>exact h1.elim | [_],_,h1=>exact h1.elim | _::_::_::_,_,h1=>exact h1.elim | [d1,d2],dn,h1=>
   obtain⟨v1,v2,rfl,e1,e2⟩:=z5P dn;exact⟨v1,v2,rfl,okR.here (b:=FlV.nx ((O.set i (some v1)).set j (some v2)))  h1 r1 ((aE.set e1 i).set e2 j)⟩
noncomputable def z6p(fo fi fv:FE):FS:=fun ρ s=>(fv ρ s).bind λd s1=>(fo ρ s1).bind λo s2=>(fi ρ s2).bind λi s3=>match o,i with
 | .loc l,.int k=>match s3[l]? with
  | some xs=>match ixN xs.length k with
   | some j=>if d.flat=true then .ok (.nx ρ) (s3.set l (xs.set j d)) else .no | none=>.no
  | none=>.no
 | _,_=>.no
theorem z4x:∀{xs:List D}{d:D}{j:Nat},D.flat.flats xs=true->d.flat=true->D.flat.flats (xs.set j d)=true
 | [],_,_,_,_=>rfl | x::xs,d,0,h,hd=>by
  simp only[flC,flN,_L,List.set_cons_zero]at h ⊢;exact⟨hd,h.2⟩ | x::xs,d,j+1,h,hd=>by
  simp only[flC,flN,_L,List.set_cons_succ]at h ⊢;exact⟨h.1,z4x h.2 hd⟩
theorem z0b:∀{xs ys:List D},D.flat.flats xs=true->D.flat.flats ys=true->D.flat.flats (xs++ys)=true
 | [],_,_,h=>h | x::xs,ys,h,h'=>by
  simp only[flC,flN,_L,_cz]at h ⊢;exact⟨h.1,z0b h.2 h'⟩
theorem z7L    (hv:RE X E e fv)(ho:RE X E o fo)(hi:RE X E i fi) (ha:∀v,assign (.Subscript o i p1) X.env v=(do
   let ov <- holding [v] (eval o X.env) let iv <- holding [v,ov] (eval i X.env)
   standAt p1
   holding [v,ov,iv] (setItem ov iv v)
   release [v,ov,iv] []):=by intro _;rfl) (hs:autoParam (swapsWithSole [.Subscript o i p1] e pos.line X.env=pure false) aRf)(hw:autoParam (swappedStores [.Subscript o i p1] e X.env=pure none) aRf) (h1:autoParam ((assignEach [.Subscript o i p1] X.env).map (·.2)=[assign (.Subscript o i p1) X.env]) aRf):RS X E (.Assign [.Subscript o i p1] e pos) (z6p fo fi fv):= wH (zee hv (zhc ho hi set_list ha) hs hw h1) λD O H ⟨Y,ρ,s,r,en,h⟩=>by
  refine⟨Y,ρ,s,r,en,(okR.bind  h).imp λv H1 ⟨Y1,s1,d,stp,dn,h1⟩=>⟨Y1,ρ,s1,stp.rep,en.mono stp,(okR.bind  h1).imp λov H2 ⟨Y2,s2,od,ak,aJ,h2⟩=>⟨Y2,ρ,s2,ak.rep,(en.mono stp).mono ak,(okR.bind  h2).imp λiv H3 ⟨Y3,s3,id,aq,b9,h3⟩=>?_⟩⟩⟩;have dv:=(dn.mono ak).mono aq;have k7:=aJ.mono aq;cases od with
  | loc l=> cases id with
   | int k=>
    simp only at h3;split at h3
    ·rename_i xs ex;split at h3
     ·rename_i j ej;split at h3
      ·rename_i hf;cases zO b9;obtain⟨a,rfl,e1,ka⟩:=k7;obtain⟨vs,q1,q2⟩:=aq.rep.at_ ex e1 ka;have bg:=yQ.put   aq.rep e1 ka (q2.set j dv) (z4x (aq.rep.flat xs (_r ex)) hf);exact⟨a,vs,k,j,rfl,rfl,q1,by rw[q2.length];exact ej,h3 (.nx O) _ _ bg ((((en.mono stp).mono ak).mono aq).mono bg)⟩
      ·exact h3.elim
     ·exact h3.elim
    ·exact h3.elim | _=>exact h3.elim
  | _=>exact h3.elim
noncomputable def zix(fo fv:FE):FE:=fun ρ s=>(fo ρ s).bind λo s1=>match o with
 | .loc l=>(fv ρ s1).bind λd s2=>match s2[l]? with
  | some xs=>if d.flat=true/\xs.length<cap then .ok .non (s2.set l (xs++[d])) else .no | none=>.no
 | _=>.no
theorem z44  {aV:Pos}  (ho:RE X E o fo)(hv:RE X E e fv)(aW:autoParam (attributeBase o "append" X.env (eval o X.env)=eval o X.env) aRf) (bY:autoParam (((backTo pos (starEach [e] X.env)).all (λx=>!x.1)&&(backToKw pos (keywordEach [] X.env)).all (λx=>x.1.isSome) && decide ([e].length+([]:List Keyword).length+(if ([]:List Keyword).isEmpty then 0 else 1)<30))=true) aRf) (aD:autoParam ((aV.endLine==pos.line)=true) aRf)(hs:autoParam (starEach [e] X.env=(false,eval e X.env)::starEach [] X.env) aRf)(bn:autoParam ((backTo pos (starEach [] X.env)).any (·.1)=false) aRf): RE X E (.Call (.Attribute o "append" aV) [e] [] pos) (zix fo fv):= zR (zld PySem.F.plainAttrs_list PySem.F.slot_list_append PySem.F.type_list_append zaC ho (uT hv z1i hs) aW bY aD hs bn) λO H Q ⟨Y,ρ,s,r,en,h⟩=>by
  refine⟨Y,ρ,s,r,en,(okR.bind  h).imp λov H1 ⟨Y1,s1,od,stp,dn,h1⟩=>?_⟩;cases od with
  | loc l=>
   refine⟨(by
    obtain⟨a,rfl,e1,vs,e2⟩:=dn;exact .inl ⟨rfl,vs,.inl (.inl e2)⟩),⟨Y1,ρ,s1,stp.rep,en.mono stp,(okR.bind  h1).imp λv H2 ⟨Y2,s2,d,ak,aJ,h2⟩=>?_⟩⟩;split at h2
   ·rename_i xs ex;split at h2
    ·rename_i hf;obtain⟨a,rfl,e1,ka⟩:=(dn.mono ak);obtain⟨vs,q1,q2⟩:=ak.rep.at_ ex e1 ka;refine⟨a,vs,v,rfl,rfl,q1,by rw[q2.length];exact zjq hf.2,h2 .non _ _ (yQ.put   ak.rep e1 ka (q2.append (zG.one aJ)) (z0b (ak.rep.flat xs (_r ex)) (by simp[flC,flN,hf.1]))) (by rfl)⟩
    ·exact h2.elim
   ·exact h2.elim | _=>exact h1.elim
end
end Dd
namespace L2
theorem ziW    (hl:PE X l tl):PI X tg l (λO H R=>tl O H λx H1=>∃a,x=.ref a/\(((∃xs,SqL X.K H1 a xs)/\R (Itl X.K a) H1)\/((∃xs,SqT X.K H1 a xs)/\R (Itt X.K a) H1))):=by
 refine λac s O H R I h=>thn (hl ac s O H _ I h) λv s1 ⟨x,H1,I1,r1,q1⟩=>?_;obtain⟨a,e,q⟩:=q1;subst e;cases r1;rcases q with⟨⟨xs,hq⟩,q⟩ | ⟨⟨xs,hq⟩,q⟩
 ·obtain⟨ae,rv,p,hz⟩:=I1.list hq;refine _dq p.isList ⟨s1.heap.objs.size,[s1.heap.objs.size],_,_,H1,rfl,I1.kept  λb o e=>_c _ e,zav a _,⟨_,_k _ rfl,rfl,rfl⟩,λb hb=>?_,q⟩;have e:b=s1.heap.objs.size:=by simpa using hb
  subst e;exact I1.fpOk (_h _) (I1.hok.fresh (_h _))
 ·obtain⟨ae,rv,p,hz⟩:=I1.tuple hq;refine wpAny_pyIter_tuple (p) ⟨s1.heap.objs.size,[s1.heap.objs.size],_,_,H1,rfl,I1.kept  λb o e=>_c _ e,z8S a _,⟨_,_k _ rfl,rfl,rfl⟩,λb hb=>?_,q⟩;have e:b=s1.heap.objs.size:=by simpa using hb
  subst e;exact I1.fpOk (_h _) (I1.hok.fresh (_h _))
theorem jj.freeze        (h:jj X ac O C (zbV Q) af s'):jj X ac O C Q af s':=by
 obtain⟨v,Hf,I,r,⟨a,xs,rfl,ha,q⟩,hm,f⟩:=h;obtain⟨ae,n,rv,e,_⟩:=I.lst ha;refine⟨_,_,I.freeze ha e (by intro _ z;cases z) (by intro _ _ z;cases z) (by intro _ z;cases z) (by intro _ z;cases z),r,q _,hm,?_,f.2⟩;rw[zk (λz=>by have:=f.1;rw[z,ha]at this;cases this)];exact f.1
theorem z61     {pos aP py:Pos}       (N':List Str)(mp:List (Option Nat))(hN:X.N.Nodup)(hy:X.N[i]? = some y)(cw:Loc X.env.scope y) (hc:X.calm=true)(hi:PI X tg ao wi)(hg:∀ex s H,PG (zj X N' scope ex s H) tg g)(ht:∀ex s H,z76 (zj X N' scope ex s H) bf ti)(he:∀ex s H,PE (zj X N' scope ex s H) aw te) (bc:scope.kind=.function)(aZ:∀y∈scope.names,scope.names.lookup y.1=some y.2) (aX:∀y∈scope.names,y.2=.free->X.env.kindOf y.1=some .cell\/X.env.kindOf y.1=some .free)(bi:z22 X.N scope.names N' mp=true) (hs:autoParam (∀x,foldedSetIterable ao X.env x=pure x) aIr) (cz:autoParam (swapsWith (.ListComp aw [⟨tg,ao,bf,0⟩] scope pos) (some (.Name y py)) aP.line X.env=pure true) aRf) (hf:autoParam (X.fn y=true\/X.env.scope.names.lookup y=some .local) aLr): PS X (.Assign [.Name y py] (.ListComp aw [⟨tg,ao,bf,0⟩] scope pos) aP) (λD O H=>zdE wi mp g ti te O H (zbV λv H'=>D.nx (O.set i (some v)) H')):=by
 intro ac s O H D I h;rw[_cu _ _ _ _ cz];refine _a (_a6 (_a (_a (_z (_a7   rfl hs (xw λy hy hf=>I.ok.has _ (aX y hy hf)) bc (λy hy hl=>by rw[aZ y hy,hl]) (thn (hi ac s O H _ I h) λxv s₁ h₁=>thn h₁ λeF s₂ h₂=>?_)) (λ_ s' hq=>_b (_b hq)) λ_ _ e=>e))));obtain⟨it,fp,tn,J,H2,e,I2,T,au,f2,W,w0,turn⟩:=h₂;subst e;refine kn       hc hg ht he bc aZ aX bi I2 T au f2 W w0 turn ?_;intro af C s' hd;obtain⟨v,Hf,I3,r,q,⟨m,hm⟩,f⟩:=hd.freeze;exact _ce (jK I3 hN hy cw r (λdY I4 ⟨a,sb,ha⟩=>⟨m,hm.sameBut sb (by
  rcases ha with z | z;·rw[z];exact f.2.1
  ·exact _ba (f.2.2.2.2.1 y a z)),λh' gy=>⟨_,Hf,wW I4 f gy,q⟩⟩) hf)
end L2
namespace Dd
open L2
noncomputable abbrev ItD:=List D×List (Nat×List D)
def okG(g:List (Nat×List D))(all:List D)(s:Sto):Prop:=∀p∈g,s[p.1]? = some p.2
def zjP(mg:Gm)(H0:Hp)(Y0:List Addr)(a:ItD)(J:It):Prop:=∀H Y s,yQ mg H0 Y0 H Y s->okG a.2 a.1 s->∀i:Nat, (∀d,a.1[i]? = some d->J.go i H/\∀x H',J.yld i H x H'->∃Y',yQ mg H Y H' Y' s/\Den mg H' Y' d x)/\(a.1.length<=i->J.stop i H)
abbrev FI:=Ev->Sto->R ItD
def tI(mg:Gm)(E:XK)(f:FI):TI:=λO H Rr=>∃Y ρ s,Rep mg H Y s/\vE mg H Y ρ O/\okR mg E H Y (zjP mg) (f ρ s) Rr
def RI(X:Cx)(E:XK)(tg it:Expr)(f:FI):Prop:=PI X tg it (tI (gm X) E f)
section
variable {X:Cx}{E:XK}{e a b c tg:Expr}{es:List Expr}{pos:Pos}{CX:CXT}
theorem z2v   (h:PI X tg it t)(i:∀O H Q,t' O H Q->t O H Q):PI X tg it t':=λac s O H Q I q=>h ac s O H Q I (i O H Q q)
noncomputable def wZ(f:FE):FI:=fun ρ s=>(f ρ s).bind λd s1=>match d with
 | .tup xs=>.ok (xs,[]) s1 | .lst xs=>.ok (xs,[]) s1 | .loc l=>match s1[l]? with | some xs=>.ok (xs,[(l,xs)]) s1 | none=>.no
 | _=>.no
theorem z0t  (h:RE X E e f):RI X E tg e (wZ f):=z2v (ziW h) λO H Q ⟨Y,ρ,s,r,en,h⟩=>by
 refine⟨Y,ρ,s,r,en,(okR.bind  h).imp λv H1 ⟨Y1,s1,d,stp,dn,h1⟩=>?_⟩;have lst:∀(a:Addr)(xs:List D)(g:List (Nat×List D)),(∀H2 Y2 s2,yQ (gm X) H1 Y1 H2 Y2 s2->okG g xs s2->∃ws,SqL X.K H2 a ws/\zG (gm X) H2 Y2 xs ws)->zjP (gm X) H1 Y1 (xs,g) (Itl X.K a):=λa xs g hq H2 Y2 s2 ak hg i=>by
  obtain⟨ws,q1,q2⟩:=hq H2 Y2 s2 ak hg;refine⟨λd hd=>?_,λhl=>⟨ws,q1,by rw[q2.length];exact hl⟩⟩;obtain⟨v,e1,e2⟩:=q2.get hd;refine⟨⟨ws,v,q1,e1⟩,λx H' ⟨e3,y⟩=>?_⟩;subst e3;have e4:=y ws q1;rw[e1]at e4;cases e4;exact⟨Y2,.refl ak.rep,e2⟩
 have tup:∀(a:Addr)(xs:List D),(∀H2 Y2 s2,yQ (gm X) H1 Y1 H2 Y2 s2->∃ws,SqT X.K H2 a ws/\zG (gm X) H2 Y2 xs ws)->zjP (gm X) H1 Y1 (xs,[]) (Itt X.K a):=λa xs hq H2 Y2 s2 ak hg i=>by
  obtain⟨ws,q1,q2⟩:=hq H2 Y2 s2 ak;refine⟨λd hd=>?_,λhl=>⟨ws,q1,by rw[q2.length];exact hl⟩⟩;obtain⟨v,e1,e2⟩:=q2.get hd;refine⟨⟨ws,v,q1,e1⟩,λx H' ⟨e3,y⟩=>?_⟩;subst e3;have e4:=y ws q1;rw[e1]at e4;cases e4;exact⟨Y2,.refl ak.rep,e2⟩
 cases d with
 | tup xs=>
  obtain⟨a,vs,rfl,q1,q2⟩:=qL  dn;refine⟨a,rfl,.inr ⟨⟨vs,q1⟩,h1.here stp.rep (tup a xs λH2 Y2 s2 ak=>?_)⟩⟩;obtain⟨a',ws,e,q3,q4⟩:=qL  (dn.mono ak);cases e;exact⟨ws,q3,q4⟩ | lst xs=>
  obtain⟨a,vs,rfl,q1,q2⟩:=zJ  stp.rep rfl dn;refine⟨a,rfl,.inl ⟨⟨vs,.inl q1⟩,h1.here stp.rep (lst a xs [] λH2 Y2 s2 ak _=>?_)⟩⟩;obtain⟨a',ws,e,q3,q4⟩:=zJ  ak.rep rfl (dn.mono ak);cases e;exact⟨ws,.inl q3,q4⟩ | loc l=>
  simp only at h1;split at h1
  ·rename_i xs ex;obtain⟨a,vs,rfl,q1,q2⟩:=zJ (d:=.loc l) stp.rep ex dn;refine⟨a,rfl,.inl ⟨⟨vs,.inl q1⟩,h1.here stp.rep (lst a xs [(l,xs)] λH2 Y2 s2 ak hg=>?_)⟩⟩;obtain⟨a',ws,e,q3,q4⟩:=zJ (d:=.loc l) ak.rep (hg (l,xs) (by simp)) (dn.mono ak);cases e;exact⟨ws,.inl q3,q4⟩
  ·exact h1.elim | _=>exact h1.elim
end
section
variable {X:Cx}{E:XK}{e a b c tg:Expr}{es:List Expr}{pos:Pos}{CX:CXT}
noncomputable def vh(n:Nat):List D:=(List.range n).map λ(k:Nat)=>D.int ((k:Nat):Int)
noncomputable def z5U(f:FA):FI:=fun ρ s=>(f ρ s).bind λds s1=>match ds with
 | [.int j]=>if -(2 ^ 62)<=j/\j<2 ^ 62 then .ok (vh j.toNat,[]) s1 else .no | _=>.no
theorem qQ   (hg:Gl X "range")(hm:X.mg "range"=none)(ha:RA X E [a] f)(hs:autoParam (starEach [a] X.env=[(false,eval a X.env)]) aRf):RI X E tg (.Call (.Name "range" p) [a] [] pos) (z5U f):= z2v (zbE hg hm ha hs) λO H Q ⟨Y,ρ,s,r,en,h⟩=>by
  refine⟨Y,ρ,s,r,en,(okR.bind  h).imp λvs H1 ⟨Y1,s1,ds,stp,dn,h1⟩=>?_⟩;split at h1
  ·rename_i j;split at h1
   ·rename_i hj;obtain⟨v,rfl,d1⟩:=z3r dn;cases zO d1;refine⟨j,rfl,hj.1,hj.2,h1.here stp.rep λH2 Y2 s2 ak _ i=>⟨λd hd=>?_,λhl=>?_⟩⟩
    ·have hi:i<j.toNat:=by simpa[vh] using ((_d.mp hd).1)
     refine⟨hi,λx H' ⟨e1,e2⟩=>?_⟩;subst e1 e2;refine⟨Y2,.refl ak.rep,?_⟩;rw[(show d=D.int i from by
      simp only[vh,_Y,_cX hi,_at,_J]at hd;exact hd.symm)];exact _au V.int (Int.zero_add _)
    ·rw[<- (show (vh j.toNat).length=j.toNat from by simp[vh])];exact hl
   ·exact h1.elim
  ·exact h1.elim
open Classical in
noncomputable def ui(g:List (Nat×List D))(all:List D)(body:D->Ev->Sto->R Fl):List D->Ev->Sto->R Fl
 | [],ρ,s=>if okG g all s then .ok (.nx ρ) s else .no | x::xs,ρ,s=>if okG g all s then (body x ρ s).bind λfl s1=>match fl with
   | .nx ρ'=>ui g all body xs ρ' s1 | .ct ρ'=>ui g all body xs ρ' s1 | .bk ρ'=>.ok (.nx ρ') s1 | .rt d=>.ok (.rt d) s1 else .no
noncomputable def z9X(fi:FI)(fg:FG)(fb:FS):FS:=fun ρ s=>(fi ρ s).bind λit s1=>ui it.2 it.1 (λd ρ s=>(fg d ρ s).bind fun ρ' s'=>fb ρ' s') it.1 ρ s1
theorem z3T      (hp:PassesOwn (model X.prog X.w) X.A X.env X.xe)(hc:X.calm=true)(hi:RI X E tg ao fi)(hg:RG X E tg fg)(hb:RSs X E body fb) (hs:autoParam (∀x,foldedSetIterable ao X.env x=pure x) aIr):RS X E (.For tg ao body [] pos) (z9X fi fg fb):= wH (ziy hp hc hi hg hb hs) λD O H ⟨Y,ρ,s,r,en,h⟩=>by
  refine⟨Y,ρ,s,r,en,(okR.bind  h).imp λJ H1 ⟨Y1,s1,it,stp,ok,h1⟩=>?_⟩;obtain⟨items,g⟩:=it;refine⟨λi m O H=>∃Y ρ s,yQ (gm X) H1 Y1 H Y s/\vE (gm X) H Y ρ O/\m=items.length-i/\i<=items.length/\ okR (gm X) E H Y (FlD (gm X)) (ui g items (λd ρ s=>(fg d ρ s).bind fun ρ' s'=>fb ρ' s') (items.drop i) ρ s) (zaz D), ⟨items.length,Y1,ρ,s1,.refl stp.rep,en.mono stp,by rfl,_aI _,by exact h1⟩,?_⟩;rintro i m O H ⟨Y2,ρ2,s2,ak,bw,rfl,mO,h2⟩;by_cases ck:i<items.length
  ·right;rw[_aw ck,ui]at h2;split at h2
   ·rename_i hG;obtain⟨go,yl⟩:=((ok H Y2 s2 ak hG i).1 items[i] (_e ck));refine⟨go,λO' H'=>∃Y ρ s,yQ (gm X) H1 Y1 H' Y s/\vE (gm X) H' Y ρ O'/\okR (gm X) E H' Y (FlD (gm X)) (ui g items (λd ρ s=>(fg d ρ s).bind fun ρ' s'=>fb ρ' s') (items.drop (i+1)) ρ s) (zaz D), λO' H' ⟨Y3,ρ3,s3,q1,q2,q3⟩=>⟨items.length-(i+1),by omega,Y3,ρ3,s3,q1,q2,rfl,ck,q3⟩,λx H' y=>?_⟩;obtain⟨Y3,aq,b9⟩:=yl x H' y;refine⟨Y3,ρ2,s2,items[i],aq.rep,bw.mono aq,b9,(okR.bind  (okR.bind (Dn:=FlD (gm X)) (okR.rebase h2 aq))).imp λO5 H5 ⟨Y5,s5,ρ5,bB,k8,h5⟩=>?_⟩;refine⟨Y5,ρ5,s5,bB.rep,k8,h5.imp λfv H6 ⟨Y6,s6,fl,bI,cS,q6⟩=>?_⟩;have gC  := (ak.trans aq).trans bI;cases fl with
    | nx ρ'=> cases fv with
     | nx O'=>exact⟨Y6,ρ',s6,gC,cS,q6⟩ | _=>exact (cS).elim
    | ct ρ'=> cases fv with
     | ct O'=>exact⟨Y6,ρ',s6,gC,cS,q6⟩ | _=>exact (cS).elim
    | bk ρ'=> cases fv with
     | bk O'=>exact okR.here (b:=FlV.nx O')    q6 bI.rep cS | _=>exact (cS).elim
    | rt d=> cases fv with
     | rt v=>exact okR.here  (Q:=zaz D)   q6 bI.rep cS | _=>exact (cS).elim
   ·exact h2.elim
  ·left;have e:i=items.length:=by omega
   subst e;rw[_cB,ui]at h2;split at h2
   ·rename_i hG;exact⟨(ok H Y2 s2 ak hG _).2 (_h _),okR.here (b:=FlV.nx O)  h2 ak.rep bw⟩
   ·exact h2.elim
end
end Dd
namespace Zz
def Sit(b:Bool)(h:Heap)(it l:Addr)(k:Nat):Prop:=match b with
 | true=>h.IsListIter it l k | false=>h.IsTupleIter it l k
def Sco(b:Bool)(h:Heap)(l:Addr)(xs:Array Value):Prop:=match b with
 | true=>h.IsList l xs | false=>h.IsTuple l xs
theorem Sit.to     (x:Sit b h it l k)(e:∀o,h.get? it=some o->h'.get? it=some o):Sit b h' it l k:=by cases b with
 | true=>obtain⟨o,ho,r⟩:=x;exact⟨o,e _ ho,r⟩ | false=>obtain⟨o,ho,r⟩:=x;exact⟨o,e _ ho,r⟩
theorem Sco.to     (x:Sco b h l xs)(e:∀o,h.get? l=some o->h'.get? l=some o):Sco b h' l xs:=by cases b with
 | true=>obtain⟨o,ho,r⟩:=x;exact⟨o,e _ ho,r⟩ | false=>obtain⟨o,ho,r⟩:=x;exact⟨o,e _ ho,r⟩
theorem Sit.lt     (x:Sit b h it l k):it<h.objs.size:=by cases b with
 | true=>obtain⟨o,ho,r⟩:=x;exact _j ho | false=>obtain⟨o,ho,r⟩:=x;exact _j ho
theorem Sit.ob     (x:Sit b h it l k):∃o,h.get? it=some o/\∀v,o.data≠.cell v:=by cases b with
 | true=>obtain⟨o,ho,_,d⟩:=x;exact⟨o,ho,λv z=>by rw[d]at z;cases z⟩ | false=>obtain⟨o,ho,_,d⟩:=x;exact⟨o,ho,λv z=>by rw[d]at z;cases z⟩
section
variable {P:Program}{w:World}{A:Around}{E:Value->Shared->Prop}{s:Shared}
theorem zhE{it l:Addr}{k:Nat}{xs:Array Value}{x:Value}{R:Value->Shared->Prop}(h1:s.heap.IsTupleIter it l k)(h2:s.heap.IsTuple l xs)(e:xs[k]? = some x) (q:∀h',h'.IsTupleIter it l (k+1)->Heap.SameBut it s.heap h'->R x {s with heap:=h'}):wpAny (model P w) A (Builtin.SmallTypes.nextOf (.ref it)) R E s:=by
 obtain⟨o,ho,hc,hd⟩:=id h1;obtain⟨ol,ee,_,nl,fI⟩:=h2;refine _a (_S  h1.typeIs _bk (_P _bk h1.typeIs F.entry_tuple_iterator_next ?_ (F.args_tuple_iterator_next_1 _)));show wpAny _ _ (field (.ref it) 0 >>= _) _ _ s;refine _a (_ai ho hd  rfl ?_);refine _a (_ai ho hd  rfl (_a (_aA ee fI ?_)));simp only[_bb,e];exact _a (_bu ho hd (by simp) (_b ⟨x,rfl,_b (q _ ⟨_,_ar _ ho (Obj.isFreed_of_fields (Obj.data_mapFields hd _)),(Obj.cls_mapFields ..).trans hc,by rw[Obj.data_mapFields hd];rfl⟩ (_a0 ..))⟩))
theorem z8u {it l:Addr} {k:Nat} {xs:Array Value} {R:Value->Shared->Prop} (hh:A.handled=none) (h1:s.heap.IsTupleIter it l k) (h2:s.heap.IsTuple l xs) (e:xs[k]? = none) (q:∀h' e,Heap.ExtBut it s.heap h'->(∃o,h'.get? e=some o/\o.cls=.type "StopIteration")->E (.ref e) {s with heap:=h'}):wpAny (model P w) A (Builtin.SmallTypes.nextOf (.ref it)) R E s:=by
 obtain⟨o,ho,hc,hd⟩:=id h1;obtain⟨ol,ee,_,nl,fI⟩:=h2;refine _a (_S  h1.typeIs _bk (_P _bk h1.typeIs F.entry_tuple_iterator_next ?_ (F.args_tuple_iterator_next_1 _)));show wpAny _ _ (field (.ref it) 0 >>= _) _ _ s;refine _a (_ai ho hd  rfl (_a (_ai ho hd  rfl ?_)));refine _a (_aA ee fI ?_);simp only[_bb,e];refine _a (_aL (_a (_bu ho hd (by simp) (_a ?_))));refine _a (_ag ?_ (by size_fits));refine _a  (_cN  (by rfl) (_ag (_a (wpAny_handled ?_)) (by size_fits)));rw[hh];exact _a (_b (wpAny_throw (q _ _ (((_a0 ..).extBut.push _).push _) ⟨_,_k _ rfl,rfl⟩)))
theorem nx{b:Bool}{it l:Addr}{k:Nat}{xs:Array Value}{x:Value}{R:Value->Shared->Prop}(h1:Sit b s.heap it l k)(h2:Sco b s.heap l xs)(e:xs[k]? = some x) (q:∀h',Sit b h' it l (k+1)->Heap.SameBut it s.heap h'->R x {s with heap:=h'}):wpAny (model P w) A (Builtin.SmallTypes.nextOf (.ref it)) R E s:=by cases b with
 | true=>exact wpAny_nextOf_list_item h1 h2 e q | false=>exact zhE h1 h2 e q
theorem z9O {b:Bool} {it l:Addr} {k:Nat} {xs:Array Value} {R:Value->Shared->Prop} (hh:A.handled=none) (h1:Sit b s.heap it l k) (h2:Sco b s.heap l xs) (e:xs[k]? = none) (q:∀h' e,Heap.ExtBut it s.heap h'->(∃o,h'.get? e=some o/\o.cls=.type "StopIteration")->E (.ref e) {s with heap:=h'}):wpAny (model P w) A (Builtin.SmallTypes.nextOf (.ref it)) R E s:=by cases b with
 | true=>exact wpAny_nextOf_list_end hh h1 h2 e q | false=>exact z8u hh h1 h2 e q
theorem zp   (hs:Heap.SameBut a h h')   (n:b≠a)(e:h.get? b=some o):h'.get? b=some o:=hs.extBut _ _ n e
theorem zfi {z TI TO i1 i2 l1 l2:Addr} {b1 b2:Bool} {k:Nat} {xs ys:Array Value} {x y a b:Value} {Q:Option Value->Shared->Prop} (D:ZipApart z TI TO i1 i2 l1 l2) (hz:IsZip s.heap z TI TO .none) (cA:IsPair s.heap TI (.ref i1) (.ref i2)) (cI:IsPair s.heap TO a b) (h1:Sit b1 s.heap i1 l1 k) (h2:Sit b2 s.heap i2 l2 k) (c1:Sco b1 s.heap l1 xs) (c2:Sco b2 s.heap l2 ys) (ex:xs[k]? = some x) (ey:ys[k]? = some y) (q:∀h',IsZip h' z TI TO (rawInt s.heap.objs.size)->IsPair h' TO x y->Sit b1 h' i1 l1 (k+1)->Sit b2 h' i2 l2 (k+1)->IsPair h' s.heap.objs.size x y->h'.objs.size=s.heap.objs.size+1-> (∀c o,c≠z->c≠TO->c≠i1->c≠i2->s.heap.get? c=some o->h'.get? c=some o)->Q (some (.ref s.heap.objs.size)) {s with heap:=h'}):wpAny (model P w) A (pyNext (.ref z)) Q E s:=by
 have hT:s.TypeIs (.ref z) "zip":=⟨_,hz,rfl⟩;unfold pyNext;refine _a (_bt (_S  hT _cU (_P _cU hT F.entry_zip_next  ?_ (F.args_zip_next_1 _))));show wpAny _ _ (field (.ref z) 2 >>= _) _ _ _;refine _a (_ai hz rfl  rfl ?_);refine _a (_ai hz rfl  rfl ?_);refine _a (_aA cA rfl ?_);refine _a ?_;unfold Builtin.SmallTypes.ownedTupleIsFree;refine _a (_ai hz rfl  rfl (_b ?_));simp only[_K];refine _a (_aL ?_);refine _a (_ai hz rfl  rfl ?_);refine _a (_ao hz (by simp) λg1 z1 s1=>?_);replace z1  := z1;refine _a ?_;refine _a (_a (_dw ?_));refine _a (nx (h1.to λo e=>zp s1 D.i1z e) (c1.to λo e=>zp s1 D.l1z e) ex λg2 t2 s2=>_b ?_);have o2  := zp s2 D.TOi1 (zp s1 D.TOz cI);refine _a (_aA o2 rfl ?_);refine _a (_cO o2 λg3 o3 s3=>?_);replace o3  := o3;refine _a (_bI (_b ?_));refine _a (_a (_dw ?_));refine _a (nx (h2.to λo e=>zp s3 D.TOi2.symm (zp s2 D.i12.symm (zp s1 D.i2z e))) (c2.to λo e=>zp s3 D.l2TO (zp s2 D.l2i1 (zp s1 D.l2z e))) ey λg4 t4 s4=>_b ?_);have o4  := zp s4 D.TOi2 o3;refine _a (_aA o4 rfl ?_);refine _a (_cO o4 λg5 o5 s5=>?_);replace o5:IsPair g5 TO x y:=o5;refine _a (_bI (_b (_b ?_)));refine _a (_aA o5 rfl ?_);refine _a (wpAny_newTuple ?_);have sz:g5.objs.size=s.heap.objs.size:=by rw[s5.1,s4.1,s3.1,s2.1,s1.1]
 have z5  := zp s5 D.TOz.symm (zp s4 D.i2z.symm (zp s3 D.TOz.symm (zp s2 D.i1z.symm z1)));have t5:Sit b1 g5 i1 l1 (k+1):=t2.to λo e=>zp s5 D.TOi1.symm (zp s4 D.i12 (zp s3 D.TOi1.symm e));have u5:Sit b2 g5 i2 l2 (k+1):=t4.to λo e=>zp s5 D.TOi2.symm e;have zl  := _j z5;refine _a ?_;have z6:IsZip (g5.push {cls:=.type "tuple",data:=.seq #[x,y]}) z TI TO .ellipsis:=_c _ z5;refine _a (_ao z6 (by simp) λg7 z7 s7=>?_);replace z7  := z7;refine _ao z7 (by simp) λg8 z8 s8=>?_;replace z8  := z8;have up:∀c o,c≠z->g5.get? c=some o->g8.get? c=some o:=λc o n e=>zp s8 n (zp s7 n (_c _ e));have p8  := zp s8 (_bO zl) (zp s7 (_bO zl) (_k _ rfl));have e8:g8.objs.size=g5.objs.size+1:=by rw[s8.1,s7.1,_az]
 rw[sz]at z8 p8 e8;refine _b ⟨_,rfl,_b ?_⟩;show Q (some (.ref g5.objs.size)) _;rw[sz];exact q g8 z8 (up _ _ D.TOz o5) (t5.to λo e=>up _ o D.i1z e) (u5.to λo e=>up _ o D.i2z e) p8 e8 λc o n1 n2 n3 n4 e=>up c o n1 ((λc o n1 n2 n3 n4 e=>zp s5 n2 (zp s4 n4 (zp s3 n2 (zp s2 n3 (zp s1 n1 e))))) c o n1 n2 n3 n4 e)
theorem zjd{z TI TO i1 i2 l1 l2:Addr}{b1 b2:Bool}{k:Nat}{xs ys:Array Value}{a b:Value}{Q:Option Value->Shared->Prop}(hh:A.handled=none)(D:ZipApart z TI TO i1 i2 l1 l2) (hz:IsZip s.heap z TI TO .none)(cA:IsPair s.heap TI (.ref i1) (.ref i2))(cI:IsPair s.heap TO a b) (h1:Sit b1 s.heap i1 l1 k)(h2:Sit b2 s.heap i2 l2 k)(c1:Sco b1 s.heap l1 xs)(c2:Sco b2 s.heap l2 ys)(en:xs[k]? = none\/ys[k]? = none) (q:∀h',(∀c o,c≠z->c≠TO->c≠i1->c≠i2->s.heap.get? c=some o->h'.get? c=some o)->Q none {s with heap:=h'}):wpAny (model P w) A (pyNext (.ref z)) Q E s:=by
 have hT:s.TypeIs (.ref z) "zip":=⟨_,hz,rfl⟩;have fin:∀h' e,(∀c o,c≠z->c≠TO->c≠i1->c≠i2->s.heap.get? c=some o->h'.get? c=some o)->(∃o,h'.get? e=some o/\o.cls=.type "StopIteration")-> wpAny (model P w) A (isInstance (.ref e) (.type "StopIteration") >>= λb=>if b=true then (pure none) else throw (.ref e)) Q E {s with heap:=h'}:=λh' e hk he=>by
  obtain⟨o,ho,hc⟩:=he;exact _a (_bh   ⟨o,ho,hc⟩ _c8 (_b (q _ hk)))
 refine _a (_bt (_S  hT _cU (_P _cU hT F.entry_zip_next ?_ (F.args_zip_next_1 _))));show wpAny _ _ (field (.ref z) 2 >>= _) _ _ _;refine _a (_ai hz rfl  rfl ?_);refine _a (_ai hz rfl  rfl (_a (_aA cA rfl ?_)));refine _a ?_;refine _a (_ai hz rfl  rfl (_b ?_));refine _a (_aL ?_);refine _a (_ai hz rfl  rfl (_a (_ao hz (by simp) λg1 z1 s1=>?_)));refine _a ?_;refine _a (_a (_dw ?_));cases ex:xs[k]? with
 | none=>
  refine _a (z9O hh (h1.to λo e=>zp s1 D.i1z e) (c1.to λo e=>zp s1 D.l1z e) ex λg2 e s2 he=>?_);obtain⟨oe,eU,gD⟩:=he;have z2  := s2 _ _ D.i1z.symm z1;exact _ao z2 (by simp) λg3 _ s3=>fin g3 e (λc o n1 _ n3 _ t=>zp s3 n1 (s2 _ _ n3 (zp s1 n1 t))) ⟨oe,zp s3 (λt=>by subst t;rw[z2]at eU;cases eU;simp at gD) eU,gD⟩ | some x=>
  refine _a (nx (h1.to λo e=>zp s1 D.i1z e) (c1.to λo e=>zp s1 D.l1z e) ex λg2 t2 s2=>_b ?_);have o2  := zp s2 D.TOi1 (zp s1 D.TOz cI);refine _a (_aA o2 rfl ?_);refine _a (_cO o2 λg3 o3 s3=>(_a (_bI (_b ?_))));refine _a (_a (_dw ?_));refine _a (z9O hh (h2.to λo e=>zp s3 D.TOi2.symm (zp s2 D.i12.symm (zp s1 D.i2z e))) (c2.to λo e=>zp s3 D.l2TO (zp s2 D.l2i1 (zp s1 D.l2z e))) (by rcases en with t | t;rw[ex]at t;cases t;exact t) λg4 e s4 he=>?_);obtain⟨oe,eU,gD⟩:=he;have z4:IsZip g4 z TI TO .ellipsis:=s4 _ _ D.i2z.symm (zp s3 D.TOz.symm (zp s2 D.i1z.symm z1));exact _ao z4 (by simp) λg5 _ s5=>fin g5 e (λc o n1 n2 n3 n4 t=>zp s5 n1 (s4 _ _ n4 (zp s3 n2 (zp s2 n3 (zp s1 n1 t))))) ⟨oe,zp s5 (λt=>by subst t;rw[z4]at eU;cases eU;simp at gD) eU,gD⟩
end
noncomputable def itO(b:Bool)(l:Addr):Obj:=match b with
 | true=>{cls:=.type "list_iterator",data:=.fields #[.ref l,.int 0 0]} | false=>{cls:=.type "tuple_iterator",data:=.fields #[.ref l,.int 0 0]}
theorem z4O    (e:h.get? a=some (itO b l)):Sit b h a l 0:=by cases b with
 | true=>exact⟨_,e,rfl,rfl⟩ | false=>exact⟨_,e,rfl,rfl⟩
theorem z0H(b:Bool)(l:Addr):(itO b l).isFreed=false:=by cases b<;>rfl
section
variable {P:Program}{w:World}{A:Around}{E:Value->Shared->Prop}{s:Shared}
theorem z2E     (h:Sco b s.heap l xs) (q:Q (.ref s.heap.objs.size) {s with heap:=s.heap.push (itO b l)}):wpAny (model P w) A (pyIter (.ref l)) Q E s:=by cases b with
 | true=>exact _dq h q | false=>exact wpAny_pyIter_tuple h q
end
noncomputable abbrev G1(b1:Bool)(h:Heap)(l1:Addr):Heap:=h.push (itO b1 l1)
noncomputable abbrev G2(b1 b2:Bool)(h:Heap)(l1 l2:Addr):Heap:=(G1 b1 h l1).push (itO b2 l2)
noncomputable abbrev G3(b1 b2:Bool)(h:Heap)(l1 l2:Addr):Heap:=(G2 b1 b2 h l1 l2).push {cls:=.type "tuple",data:=.seq #[.ref h.objs.size,.ref (G1 b1 h l1).objs.size]}
noncomputable abbrev G4(b1 b2:Bool)(h:Heap)(l1 l2:Addr):Heap:=(G3 b1 b2 h l1 l2).push {cls:=.type "tuple",data:=.seq #[.none,.none]}
noncomputable abbrev G5(b1 b2:Bool)(h:Heap)(l1 l2:Addr):Heap:=(G4 b1 b2 h l1 l2).push {cls:=.type "zip",data:=.fields #[.none,.bool false,.bool false,.ref (G2 b1 b2 h l1 l2).objs.size,.ref (G3 b1 b2 h l1 l2).objs.size]}
theorem zbF (b1 b2:Bool) (l1 l2:Addr) (xs ys:Array Value): Meets (Builtin.«zip.__new__» ⟨[.type "zip",.ref l1,.ref l2],[]⟩) (λ_ R s=>Sco b1 s.heap l1 xs/\Sco b2 s.heap l2 ys/\R (.ok (.ret (.ref (G4 b1 b2 s.heap l1 l2).objs.size))) {s with heap:=G5 b1 b2 s.heap l1 l2}):= .of_wp λprog w A R s h=>by
  obtain⟨hp,g,d,tk,os⟩:=s;obtain⟨c1,c2,h⟩:=h;have cB:=sub_zip;have q1  := c1;have q2:Sco b2 (Shared.heap ⟨hp.push (itO b1 l1),g,d,tk,os⟩) l2 ys:=c2.to λo e=>_c _ e;wp_walk using z2E q1,z2E q2;exact⟨_,rfl,h⟩
section
variable {P:Program}{w:World}{A:Around}{E:Value->Shared->Prop}{s:Shared}
theorem zdg     (c1:Sco b1 s.heap l1 xs) (c2:Sco b2 s.heap l2 ys) (h:∀h',IsZip h' (s.heap.objs.size+4) (s.heap.objs.size+2) (s.heap.objs.size+3) .none->IsPair h' (s.heap.objs.size+2) (.ref s.heap.objs.size) (.ref (s.heap.objs.size+1))-> IsPair h' (s.heap.objs.size+3) .none .none->Sit b1 h' s.heap.objs.size l1 0->Sit b2 h' (s.heap.objs.size+1) l2 0->(∀c o,s.heap.get? c=some o->h'.get? c=some o)->Q (.ref (s.heap.objs.size+4)) {s with heap:=h'}): wpAny (model P w) A (call (.type "zip") [.ref l1,.ref l2]) Q E s:=by
 refine callType_new F.called_zip (by decide) (F.typeCall_zip_2 _ _) (F.newCall_zip_2 _ _) (λobj=>F.args_object_init_3 obj _ _) F.entry_zip_new (zbF b1 b2 l1 l2 xs ys) ⟨c1,c2,?_⟩;have z1:(G1 b1 s.heap l1).objs.size=s.heap.objs.size+1:=_az ..;have z2:(G2 b1 b2 s.heap l1 l2).objs.size=s.heap.objs.size+2:=by rw[_az,z1]
 have z3:(G3 b1 b2 s.heap l1 l2).objs.size=s.heap.objs.size+3:=by rw[_az,z2]
 have z4:(G4 b1 b2 s.heap l1 l2).objs.size=s.heap.objs.size+4:=by rw[_az,z3]
 have up:∀{h:Heap} {o:Obj} {c:Addr} {u:Obj},h.get? c=some u->(h.push o).get? c=some u:=λe=>_c _ e;have g5:(G5 b1 b2 s.heap l1 l2).get? (G4 b1 b2 s.heap l1 l2).objs.size=some _:=_k _ rfl;have g4:(G5 b1 b2 s.heap l1 l2).get? (G3 b1 b2 s.heap l1 l2).objs.size=some _:=up (_k _ rfl);have g3:(G5 b1 b2 s.heap l1 l2).get? (G2 b1 b2 s.heap l1 l2).objs.size=some _:=up (up (_k _ rfl));have g2:(G5 b1 b2 s.heap l1 l2).get? (G1 b1 s.heap l1).objs.size=some (itO b2 l2):=up (up (up (_k _ (z0H b2 l2))));rw[z2,z3,z4]at g5;rw[z1,z2]at g3;rw[z3]at g4;rw[z1]at g2;rw[z4];exact⟨⟨_,g5,rfl⟩,h _ g5 g3 g4 (z4O (up (up (up (up (_k _ (z0H b1 l1))))))) (z4O g2) λc o e=>up (up (up (up (up e))))⟩
end
end Zz
namespace L2
open Zz
def Sq(b:Bool)(K:W.Frag)(H:Hp)(a:Addr)(xs:List V):Prop:=match b with
 | true=>SqL K H a xs | false=>SqT K H a xs
section
variable {X:Cx}{ac:List (Addr×Obj)}{O:St}{H:Hp}{s:Shared}{h':Heap}
theorem Inv.sq    (I:Inv X ac O H s)(h:Sq b X.K H a xs):∃ae:List Value,yp xs ae/\Sco b s.heap a ae.toArray:=by cases b with
 | true=>obtain⟨ae,r,p,_⟩:=I.list h;exact⟨ae,r,p.isList⟩ | false=>obtain⟨ae,r,p,_⟩:=I.tuple h;exact⟨ae,r,p⟩
theorem Inv.sq_inj    (I:Inv X ac O H s)(h:Sq b X.K H a xs)(h':Sq b X.K H a ys):xs=ys:=by cases b with
 | true=>exact I.list_inj h h' | false=>exact I.tuple_inj h h'
theorem Inv.turnedL  {ch:List Addr}(I:Inv X ac O H s)(k:∀b o,b∉ch->s.heap.get? b=some o->h'.get? b=some o)(f:∀b∈ch,z5H X ac H b):Inv X ac O H {s with heap:=h',toks:=t'}:=by
 have fQ:∀b u,H b=some u->b∉ch:=λb u e z=>by rw[(f b z).1]at e;cases e
 refine I.step    (λb hb=>⟨(f b hb).2.2.2.1,(f b hb).2.1,(f b hb).2.2.2.2.1,(f b hb).2.2.2.2.2⟩) (λb o _ _ hc e _=>k b o hc e) (λb o _ _ hc e _=>⟨o.slots,k b o hc e⟩) (λ_ _ _ _ n=>n) (λb o hc e=>⟨o,k b o hc e⟩) (λ_ _ e=>e) (λ_ _ _ e=>e) (λb ps e=>⟨#[],by rw[e];simp⟩) (λm hm=>?_) (λb u e=>?_) I.bare
 ·obtain⟨o,es,ep,ho,r⟩:=hm;exact⟨o,es,ep,k _ o (λz=>(f _ z).2.1 rfl) ho,r⟩
 ·refine (I.hok b u e).stay (λc v hc q=>k c v ?_ q) (λ_ q=>q) λ_ _ q=>q;rcases hc with z | z;·rw[z];exact fQ b u e
  ·exact fQ c _ z
end
noncomputable def Itz(K:W.Frag)(b1 b2:Bool)(l1 l2:Addr):It:= ⟨λi H=>∃xs ys x y,Sq b1 K H l1 xs/\Sq b2 K H l2 ys/\xs[i]? = some x/\ys[i]? = some y, λi H v H'=>∃T x y,H T=none/\v=.ref T/\H'=upd H T (.tup [x,y])/\(∀xs,Sq b1 K H l1 xs->xs[i]? = some x)/\∀ys,Sq b2 K H l2 ys->ys[i]? = some y, λi H=>∃xs ys,Sq b1 K H l1 xs/\Sq b2 K H l2 ys/\(xs.length<=i\/ys.length<=i)⟩
theorem zd9   {K:W.Frag}     {z TI TO i1 i2 l1 l2:Addr}(D:ZipApart z TI TO i1 i2 l1 l2): zbT P w K (.Tuple bR kt tp) (Itz K b1 b2 l1 l2) [z,TI,TO,i1,i2] z (λi h=>IsZip h z TI TO .none/\IsPair h TI (.ref i1) (.ref i2)/\(∃a b,IsPair h TO a b)/\Sit b1 h i1 l1 i/\Sit b2 h i2 l2 i) where
 mem:=by simp
 obj:=λi h ⟨hz,cA,⟨a,b,cI⟩,h1,h2⟩ c hc=>by
  rcases (by simpa using hc) with rfl | rfl | rfl | rfl | rfl;·exact⟨_,hz,λv e=>by simp at e⟩
  ·exact⟨_,cA,λv e=>by simp at e⟩
  ·exact⟨_,cI,λv e=>by simp at e⟩
  ·exact h1.ob
  ·exact h2.ob
 keep:=λi h h' ⟨hz,cA,⟨a,b,cI⟩,h1,h2⟩ k=>⟨k z (by simp) _ hz,k TI (by simp) _ cA,⟨a,b,k TO (by simp) _ cI⟩,h1.to λo e=>k i1 (by simp) o e,h2.to λo e=>k i2 (by simp) o e⟩;item:=by
  intro X hP hw hK hc i ac s O H E I hf ⟨hz,cA,⟨a,b,cI⟩,h1,h2⟩ ⟨xs,ys,x,y,qx,qy,ex,ey⟩;subst hP hw hK;obtain⟨ix,rx,cx⟩:=I.sq qx;obtain⟨iy,ry,cy⟩:=I.sq qy;obtain⟨u,hu,ru⟩:=rx.get ex;obtain⟨v,hv,rv⟩:=ry.get ey;refine zfi D hz cA cI h1 h2 cx cy   (by simpa using hu) (by simpa using hv) λg a1 a2 a3 a4 a5 a6 hk=>⟨_,rfl,?_⟩;have I1  := I.turnedL (t':=s.toks) (λc o n e=>hk c o (λt=>n (by simp[t])) (λt=>n (by simp[t])) (λt=>n (by simp[t])) (λt=>n (by simp[t])) e) λc hc=>hf c ((λc hc=>by rcases (by simpa using hc) with rfl | rfl | rfl | rfl<;>simp:∀c∈[z,TO,i1,i2],c∈[z,TI,TO,i1,i2]) c hc);refine wpAny_letOwnedTupleGo_zip a1 λg2 z2 s2=>?_;obtain⟨f0,f1,f2,f3,f4,f5⟩:=hf z (by simp);have new  := I.fpOk (_h _) (I.hok.fresh (_h _));have ne:∀{c:Addr}{o:Obj},s.heap.get? c=some o->c≠s.heap.objs.size:=λe=>_t (_j e);refine⟨.ref s.heap.objs.size,upd H s.heap.objs.size (.tup [x,y]),(I1.turned (t':=s.toks) (λc o n e=>zp s2 n e) f0 f1 f3 f4 f5).track new ⟨?_,[u,v],.cons ru (.cons rv .nil),⟨_,(zp s2 (ne hz).symm a5),rfl,rfl,_,rfl⟩⟩,rfl,⟨_,x,y,new.1,rfl,rfl,λzs qz=>?_,λzs qz=>?_⟩,⟨z2,?_,⟨_,_,zp s2 D.TOz a2⟩,a3.to λo e=>zp s2 D.i1z e,a4.to λo e=>zp s2 D.i2z e⟩,λc hc=>?_⟩;·show 2<=sizeLine;decide
  ·rw[I.sq_inj qz qx];exact ex
  ·rw[I.sq_inj qz qy];exact ey
  ·exact zp s2 D.TIz (hk TI _ D.TIz D.TITO D.TIi1 D.TIi2 cA)
  ·rw[zk (by
    rcases (by simpa using hc) with rfl | rfl | rfl | rfl | rfl;·exact ne hz
    ·exact ne cA
    ·exact ne cI
    ·exact _t h1.lt
    ·exact _t h2.lt)];exact (hf c hc).1
 done:=by
  intro X hP hw hK hc i ac s O H E I hf ⟨hz,cA,⟨a,b,cI⟩,h1,h2⟩ ⟨xs,ys,qx,qy,hl⟩;subst hP hw hK;obtain⟨ix,rx,cx⟩:=I.sq qx;obtain⟨iy,ry,cy⟩:=I.sq qy;have lx:=rx.length;have ly:=ry.length;refine zjd (I.ok.hd hc) D hz cA cI h1 h2 cx cy ?_ λg hk=>⟨rfl,(I.turnedL  (ch:=[z,TO,i1,i2]) (λc o n e=>hk c o (λt=>n (by simp[t])) (λt=>n (by simp[t])) (λt=>n (by simp[t])) (λt=>n (by simp[t])) e) λc hc=>hf c (by rcases (by simpa using hc) with rfl | rfl | rfl | rfl<;>simp))⟩
  ·rcases hl with hl | hl;·exact .inl (by simp;lia)
   ·exact .inr (by simp;lia)
 self:=λ_ _ _ _ _ st h=>wpAny_pyIter_zip st.1 h
theorem zjr  {bR:List Expr}{kt:Nat}{tp:Pos}   {p pos:Pos}(hg:Gl X "zip")(hm:X.mg "zip"=none)(ha:PA X [a,b] ta)(hs:autoParam (starEach [a,b] X.env=(false,eval a X.env)::starEach [b] X.env) aRf)(bh:autoParam ((backTo pos (starEach [b] X.env)).any (·.1)=false) aRf): PI X (.Tuple bR kt tp) (.Call (.Name "zip" p) [a,b] [] pos) (λO H R=>ta O H λvs H1=>∃l1 l2 b1 b2,vs=[.ref l1,.ref l2]/\(∃xs,Sq b1 X.K H1 l1 xs)/\(∃ys,Sq b2 X.K H1 l2 ys)/\R (Itz X.K b1 b2 l1 l2) H1):=by
 refine λac s O H R I h=>_aG (jO I hg hm  (by rfl) (_ap (thn (ha pos ac s O H _ I h) λus s1 ⟨vs,H1,I1,r1,q1⟩=>?_) hs bh) (by decide) (by decide));obtain⟨l1,l2,b1,b2,rfl,⟨xs,qx⟩,⟨ys,qy⟩,q⟩:=q1;cases r1 with | cons r1 r2=> cases r2 with | cons r2 r3=>
   cases r3;cases r1;cases r2;obtain⟨ix,rx,cx⟩:=I1.sq qx;obtain⟨iy,ry,cy⟩:=I1.sq qy;have oA:l1<s1.heap.objs.size:=by cases b1 with
    | true=>obtain⟨o,e,_⟩:=cx;exact _j e | false=>obtain⟨o,e,_⟩:=cx;exact _j e
   refine zdg cx cy λg hz cA cI h1 h2 hk=>(wpAny_pyIter_zip hz ?_);refine⟨_,_,_,_,H1,rfl,I1.kept  hk,zd9 (by
    have e1:∀k:Nat,l1≠s1.heap.objs.size+k:=λk=>_t (_v oA (_dB _ _));have e2:∀k:Nat,l2≠s1.heap.objs.size+k:=λk=>_t (_v (by cases b2 with
    | true=>obtain⟨o,e,_⟩:=cy;exact _j e | false=>obtain⟨o,e,_⟩:=cy;exact _j e) (_dB _ _));have nk:∀(m j k:Nat),j≠k->m+j≠m+k:=λm j k h z=>h (Nat.add_left_cancel z);exact⟨nk _ 2 4 (by decide),nk _ 3 4 (by decide),nk _ 0 4 (by decide),nk _ 1 4 (by decide),nk _ 2 3 (by decide),nk _ 2 0 (by decide),nk _ 2 1 (by decide),nk _ 3 0 (by decide),nk _ 3 1 (by decide),nk _ 0 1 (by decide),e1 4,e1 3,e1 0,e1 1,e2 4,e2 3,e2 0,e2 1⟩),⟨hz,cA,⟨_,_,cI⟩,h1,h2⟩,λc hc=>?_,q⟩;have cu:s1.heap.objs.size<=c:=by rcases (by simpa using hc) with rfl | rfl | rfl | rfl | rfl<;>first | exact _h _ | exact _dB _ _
   exact I1.fpOk cu (I1.hok.fresh cu)
end L2
namespace Zz
section
variable {P:Program}{w:World}{A:Around}{E:Value->Shared->Prop}{s:Shared}
theorem z4j     (hh:A.handled=none)(h:Sco b s.heap l ae) (k:∀s2:Shared,s2={s with heap:=s.heap.push (itO b l)}->∀St:Nat->Heap->Prop,Walks P w A s.heap.objs.size [s.heap.objs.size,l] [s.heap.objs.size] ae.size (λi v=>ae[i]? = some v) St->St 0 s2.heap-> (∀c∈[s.heap.objs.size,l],c<s2.heap.objs.size)->(∀h':Heap,(∀c o,c∉[s.heap.objs.size]->s2.heap.get? c=some o->h'.get? c=some o)->∀c o,s.heap.get? c=some o->h'.get? c=some o)->Q (.ref s.heap.objs.size) s2):wpAny (model P w) A (pyIter (.ref l)) Q E s:=by
 have lt:l<s.heap.objs.size:=by cases b with
  | true=>obtain⟨o,e,_⟩:=h;exact _j e | false=>obtain⟨o,e,_⟩:=h;exact _j e
 have ne  := _t lt;have bd:∀c∈[s.heap.objs.size,l],c<(s.heap.push (itO b l)).objs.size:=λc hc=>by
  rw[_az];rcases (by simpa using hc) with rfl | rfl;·exact _bQ _
  ·exact _aM lt
 have bM:∀h':Heap,(∀c o,c∉[s.heap.objs.size]->(s.heap.push (itO b l)).get? c=some o->h'.get? c=some o)->∀c o,s.heap.get? c=some o->h'.get? c=some o:=λh' hk c o e=> hk c o (λz=>absurd ((show c=s.heap.objs.size from by simpa using z) ▸ _j e) (_aB _)) (_c _ e);refine z2E h ?_;have g:(s.heap.push (itO b l)).get? s.heap.objs.size=some (itO b l):=_k _ (z0H b l);cases b with
 | true=>exact k _ rfl _ (Walks.list hh _ l ne ae) ⟨z4O  g,Sco.to  h λo e=>_c _ e⟩ bd bM | false=>exact k _ rfl _ (Walks.tuple hh _ l ne ae) ⟨z4O  g,Sco.to  h λo e=>_c _ e⟩ bd bM
end
end Zz
namespace L2
open Zz
noncomputable def maxL:List Int->Int
 | []=>0 | x::xs=>xs.foldl max x
noncomputable def minL:List Int->Int
 | []=>0 | x::xs=>xs.foldl min x
theorem vo:∀(xs:List Int)(x:Int),x<=xs.foldl max x/\(∀y∈xs,y<=xs.foldl max x)/\(xs.foldl max x=x\/xs.foldl max x∈xs)
 | [],x=>⟨Int.le_refl _,by simp,.inl rfl⟩ | y::ys,x=>by
  obtain⟨h1,h2,h3⟩:=vo ys (max x y);refine⟨by simp only[_bo];lia,λz hz=>?_,?_⟩
  ·simp only[_bo];rcases _n.mp hz with rfl | hz;·lia
   ·exact h2 z hz
  ·simp only[_bo];rcases h3 with h3 | h3
   ·rw[h3];rcases Int.le_total x y with h | h;·exact .inr (by rw[Int.max_eq_right h];simp)
    ·exact .inl (Int.max_eq_left h)
   ·exact .inr (_G _ h3)
theorem vw:∀(xs:List Int)(x:Int),xs.foldl min x<=x/\(∀y∈xs,xs.foldl min x<=y)/\(xs.foldl min x=x\/xs.foldl min x∈xs)
 | [],x=>⟨Int.le_refl _,by simp,.inl rfl⟩ | y::ys,x=>by
  obtain⟨h1,h2,h3⟩:=vw ys (min x y);refine⟨by simp only[_bo];lia,λz hz=>?_,?_⟩
  ·simp only[_bo];rcases _n.mp hz with rfl | hz;·lia
   ·exact h2 z hz
  ·simp only[_bo];rcases h3 with h3 | h3
   ·rw[h3];rcases Int.le_total x y with h | h;·exact .inl (Int.min_eq_left h)
    ·exact .inr (by rw[Int.min_eq_right h];simp)
   ·exact .inr (_G _ h3)
theorem maxL_ge  : ∀y∈xs,y<=maxL xs:=by cases xs with
 | nil=>decide | cons x xs=>intro y hy;rcases _n.mp hy with rfl | hy;exact (vo xs y).1;exact (vo xs x).2.1 y hy
theorem maxL_mem  (h:xs≠[]):maxL xs∈xs:=by cases xs with
 | nil=>exact absurd rfl h | cons x xs=>rcases (vo xs x).2.2 with e | e;exact (show xs.foldl max x∈x::xs by rw[e];simp);exact _G _ e
theorem minL_le  : ∀y∈xs,minL xs<=y:=by cases xs with
 | nil=>decide | cons x xs=>intro y hy;rcases _n.mp hy with rfl | hy;exact (vw xs y).1;exact (vw xs x).2.1 y hy
theorem minL_mem  (h:xs≠[]):minL xs∈xs:=by cases xs with
 | nil=>exact absurd rfl h | cons x xs=>rcases (vw xs x).2.2 with e | e;exact (show xs.foldl min x∈x::xs by rw[e];simp);exact _G _ e
section
variable {X:Cx}
theorem z4i {ns:List Int}  (r:yp (ns.map V.int) ae)   (e:ae.toArray[i]? = some v):∃t,v=.int (ns.getD i 0) t/\i<ns.length:=by
 have e':ae[i]? = some v:=by simpa using e
 have hl:=r.length;have hi:i<ns.length:=by
  have:=(_d.mp e').1;simp at hl;lia
 obtain⟨u,hu,ru⟩:=r.get (i:=i) (x:=V.int ns[i]) (by simp[hi]);rw[e']at hu;cases hu;obtain⟨t,rfl⟩:=ru;exact⟨t,by simp[hi],hi⟩
theorem getD_in{ns:List Int}  (h:i<ns.length):ns.getD i 0∈ns:=by
 rw[List.getD,_e h];exact _bv _
theorem zbw (hc:X.calm=true):xA X (.builtin "max") (λxs H Q=>∃b p ns,xs=[.ref p]/\Sq b X.K H p (ns.map V.int)/\ns≠[]/\Q (.int (maxL ns)) H):=by
 intro ac s O H xs us Q I r h;obtain⟨b,p,ns,rfl,hq,eV,q⟩:=h;obtain⟨u,rfl,ru⟩:=vals1 r;cases ru;obtain⟨ae,rv,co⟩:=I.sq hq;have hl:ae.length=ns.length:=by have:=rv.length;simp at this;lia
 refine call_max_walk (z4j (I.ok.hd hc) co λs2 e2 St W st bd bM=>?_);subst e2;refine⟨_,_,_,_,_,_,_,rfl,W,st,bd,by simpa[hl] using (_cY.mpr eV),CmpOf.ints_gt (λi=>ns.getD i 0) (λi v e=>let ⟨t,e1,_⟩:=z4i rv e;⟨t,e1⟩),λv h' tk e hk=>?_⟩;obtain⟨t,e1,lt⟩:=z4i rv e;obtain⟨h1,h2⟩:=argBest_gt (λi=>ns.getD i 0) (ae.toArray.size-1);rw[e1,(show ns.getD (argBest (λi j=>decide (ns.getD i 0 > ns.getD j 0)) (ae.toArray.size-1)) 0=maxL ns from by
  refine Int.le_antisymm (maxL_ge _ (getD_in lt)) ?_
  ·obtain⟨j,hj,ej⟩:=_D.mp (maxL_mem eV);have:=h2 j (by simp[hl];lia);simp only[List.getD,_e hj,ej]at this;exact this)];exact⟨.int (maxL ns),H,I.kept  (bM h' hk),⟨t,rfl⟩,q⟩
theorem z9C (hc:X.calm=true):xA X (.builtin "min") (λxs H Q=>∃b p ns,xs=[.ref p]/\Sq b X.K H p (ns.map V.int)/\ns≠[]/\Q (.int (minL ns)) H):=by
 intro ac s O H xs us Q I r h;obtain⟨b,p,ns,rfl,hq,eV,q⟩:=h;obtain⟨u,rfl,ru⟩:=vals1 r;cases ru;obtain⟨ae,rv,co⟩:=I.sq hq;have hl:ae.length=ns.length:=by have:=rv.length;simp at this;lia
 refine call_min_walk (z4j (I.ok.hd hc) co λs2 e2 St W st bd bM=>?_);subst e2;refine⟨_,_,_,_,_,_,_,rfl,W,st,bd,by simpa[hl] using (_cY.mpr eV),CmpOf.ints_lt (λi=>ns.getD i 0) (λi v e=>let ⟨t,e1,_⟩:=z4i rv e;⟨t,e1⟩),λv h' tk e hk=>?_⟩;obtain⟨t,e1,lt⟩:=z4i rv e;obtain⟨h1,h2⟩:=argBest_lt (λi=>ns.getD i 0) (ae.toArray.size-1);rw[e1,(show ns.getD (argBest (λi j=>decide (ns.getD i 0<ns.getD j 0)) (ae.toArray.size-1)) 0=minL ns from by
  refine Int.le_antisymm ?_ (minL_le _ (getD_in lt))
  ·obtain⟨j,hj,ej⟩:=_D.mp (minL_mem eV);have:=h2 j (by simp[hl];lia);simp only[List.getD,_e hj,ej]at this;exact this)];exact⟨.int (minL ns),H,I.kept  (bM h' hk),⟨t,rfl⟩,q⟩
theorem all_range{bs:List Bool}:(List.range bs.length).all (λi=>bs.getD i false)=bs.all id:=by
 rw[Bool.eq_iff_iff];simp only[_aC,_X,id];constructor
 ·intro h x hx;obtain⟨j,hj,ej⟩:=_D.mp hx;simpa[hj,ej] using (h j hj)
 ·intro h i hi;simp only[List.getD,_e hi,_cC];exact h _ (_bv _)
theorem zap (hc:X.calm=true):xA X (.builtin "all") (λxs H Q=>∃(b:Bool) (p:Addr) (bs:List Bool),xs=[.ref p]/\Sq b X.K H p (bs.map V.bl)/\Q (.bl (bs.all id)) H):=by
 intro ac s O H xs us Q I r h;obtain⟨b,p,bs,rfl,hq,q⟩:=h;obtain⟨u,rfl,ru⟩:=vals1 r;cases ru;obtain⟨ae,rv,co⟩:=I.sq hq;have hl:ae.length=bs.length:=by have:=rv.length;simp at this;lia
 refine call_all_walk (z4j (I.ok.hd hc) co λs2 e2 St W st bd bM=>?_);subst e2;refine⟨_,_,_,_,_,_,λi=>bs.getD i false,rfl,W,st,λi v s3 Q3 E3 e q3=>?_,λh' tk hk=>?_⟩
 ·have e':ae[i]? = some v:=by simpa using e
  have hi:i<bs.length:=by have:=(_d.mp e').1;lia
  obtain⟨u,hu,ru⟩:=rv.get (i:=i) (x:=V.bl bs[i]) (by simp[hi]);rw[e']at hu;cases hu;cases ru;have q3:Q3 (bs.getD i false) s3:=q3;rw[(show bs.getD i false=bs[i] from by simp[List.getD,hi])]at q3;exact _aD q3
 ·rw[(show ae.toArray.size=bs.length from by exact hl ..),all_range];exact⟨.bl (bs.all id),H,I.kept  (bM h' hk),rfl,q⟩
end
end L2
namespace L2
theorem z6x  : xA X (.builtin "isinstance") (λxs H Q=>∃x t T b,xs=[x,.ty T]/\z82 X.K H x t/\W.kitOne X.K t (.type T)=some b/\Q (.bl b) H):=by
 intro ac s O H xs us Q I r h;obtain⟨x,t,T,b,rfl,ht,hk,q⟩:=h;obtain⟨u,v,rfl,ru,rv⟩:=vals2 r;cases rv;exact za6 I ru ht hk λtk=>⟨.bl b,H,I.tok _,rfl,q⟩
end L2
namespace Dd
open L2
noncomputable def tyD:D->Option String
 | .non=>some "NoneType" | .bl _=>some "bool" | .int _=>some "int" | .str _=>some "str" | .tup _=>some "tuple" | .lst _=>some "list" | .loc _=>some "list" | .dct=>some "dict" | _=>none
noncomputable def isT(T t:String):Bool:=t==T||(T=="int"&&t=="bool")
noncomputable def gIs(T:String):D->Sto->R D:=λd s=>match tyD d with | some t=>.ok (.bl (isT T t)) s | none=>.no
theorem zgM{K:W.Frag}  (h:t∈["NoneType","bool","int","str","tuple","list","dict"])(T:String)(hT:T∈["int","bool","str","tuple","list"]):W.kitOne K (.type t) (.type T)=some (isT T t):=by rcases (by simpa using h) with rfl | rfl | rfl | rfl | rfl | rfl | rfl<;>rcases (by simpa using hT) with rfl | rfl | rfl | rfl | rfl<;>kernel_rfl
theorem ziB        (r:Rep mg H Y s)(dn:Den mg H Y d v)(e:tyD d=some t):z82 mg.K H v (.type t)/\t∈["NoneType","bool","int","str","tuple","list","dict"]:=by cases d with
 | non=>subst dn;cases e;exact⟨.non,by decide⟩ | bl b=>cases uo dn;cases e;exact⟨.bl b,by decide⟩ | int b=>cases zO dn;cases e;exact⟨.int b,by decide⟩ | str b=>cases z39 dn;cases e;exact⟨.str b,by decide⟩ | tup b=>
  cases e;obtain⟨a,vs,rfl,h1,_⟩:=dn;exact⟨.tup h1,by decide⟩ | lst b=>
  cases e;obtain⟨a,o,vs,rfl,h1,_⟩:=dn;exact⟨.frz h1,by decide⟩ | loc l=>
  cases e;obtain⟨a,rfl,h1,vs,h2⟩:=dn;exact⟨.lst h2,by decide⟩ | dct=>
  cases e;obtain⟨a,rfl,h1⟩:=dn;exact⟨.dK h1,by decide⟩ | _=>cases e
section
variable {X:Cx}{E:XK}{e a b c tg:Expr}{es:List Expr}{pos:Pos}{CX:CXT}
noncomputable def eIs(T:String)(f:FE):FE:=fun ρ s=>(f ρ s).bind λd s1=>gIs T d s1
theorem zi0{p p2:Pos}    (hT:T∈["int","bool","str","tuple","list"])(hv:bootBuiltins tn=some (.type T))(hg:Gl X "isinstance")(hm:X.mg "isinstance"=none)(cn:Gl X tn)(bK:X.mg tn=none)(he:RE X E e f) (hn:autoParam (tn≠"__name__") aDe)(hd:autoParam ((tn==("__debug__":Str))=false) aDe) (hs:autoParam (starEach [e,.Name tn p2] X.env=(false,eval e X.env)::starEach [.Name tn p2] X.env) aRf)(bh:autoParam ((backTo pos (starEach [.Name tn p2] X.env)).any (·.1)=false) aRf):RE X E (.Call (.Name "isinstance" p) [e,.Name tn p2] [] pos) (eIs T f):= zR (z4e z6x hg hm (by decide +kernel) (uT he (uT (zfP cn bK hv (show ym (.ty T) (.type T) from rfl) hn hd) z1i) hs) (by decide) (by decide) hs bh) λO H Q ⟨Y,ρ,s,r,en,h⟩=>by
  refine zN (k:=fun ρ d s1=>gIs T d s1) r en h _ λv H1 Y1 s1 d r1 aE dn stp h1=>?_;unfold gIs at h1;split at h1
  ·rename_i t et;obtain⟨q1,q2⟩:=ziB r1 dn et;exact⟨v,.type t,T,isT T t,rfl,q1,zgM q2 T hT,okR.here  h1 r1 yh⟩
  ·exact h1.elim
noncomputable def zmE:List D->Sto->R D
 | [.int i],s=>.ok (.int (if i<0 then -i else i)) s | _,_=>.no
noncomputable def intsOf:List D->Option (List Int)
 | []=>some [] | .int i::r=>(intsOf r).map (i::·) | _=>none
noncomputable def bools:List D->Option (List Bool)
 | []=>some [] | .bl i::r=>(bools r).map (i::·) | _=>none
theorem jc:∀{xs:List D}{ns:List Int},intsOf xs=some ns->xs=ns.map D.int
 | [],ns,h=>by cases h;rfl | .int i::r,ns,h=>by
  obtain⟨ms,h1,rfl⟩:=_x.mp h;rw[jc h1];rfl
theorem vN(ns:List Int):intsOf (ns.map D.int)=some ns:=by induction ns with
 | nil=>rfl | cons n ns ih=>show (intsOf _).map (n::·)=_;rw[ih];rfl
theorem z7i:∀{xs:List D}{ns:List Bool},bools xs=some ns->xs=ns.map D.bl
 | [],ns,h=>by cases h;rfl | .bl i::r,ns,h=>by
  obtain⟨ms,h1,rfl⟩:=_x.mp h;rw[z7i h1];rfl
theorem z9H(ns:List Bool):bools (ns.map D.bl)=some ns:=by induction ns with
 | nil=>rfl | cons n ns ih=>show (bools _).map (n::·)=_;rw[ih];rfl
theorem jd    : ∀{ns:List Int}{vs:List V},zG mg H Y (ns.map D.int) vs->vs=ns.map V.int
 | [],vs,h=>by exact h | n::ns,vs,h=>by
  obtain⟨v,r,rfl,h1,h2⟩:=h;cases zO h1;rw[jd h2];rfl
theorem z6S    : ∀{ns:List Bool}{vs:List V},zG mg H Y (ns.map D.bl) vs->vs=ns.map V.bl
 | [],vs,h=>by exact h | n::ns,vs,h=>by
  obtain⟨v,r,rfl,h1,h2⟩:=h;cases uo h1;rw[z6S h2];rfl
noncomputable def yT:List D->Sto->R D
 | [d],s=>match (zU s d).bind intsOf with | some (n::ns)=>.ok (.int (maxL (n::ns))) s | _=>.no
 | _,_=>.no
noncomputable def z3f:List D->Sto->R D
 | [d],s=>match (zU s d).bind intsOf with | some (n::ns)=>.ok (.int (minL (n::ns))) s | _=>.no
 | _,_=>.no
noncomputable def zig:List D->Sto->R D
 | [d],s=>match (zU s d).bind bools with | some ns=>.ok (.bl (ns.all id)) s | none=>.no
 | _,_=>.no
theorem z7w{K:W.Frag}  {a:Addr}  (h:SqL K H a vs\/SqT K H a vs):∃b,Sq b K H a vs:=h.elim (λh=>⟨true,h⟩) λh=>⟨false,h⟩
theorem qB(hc:X.calm=true):∃r,xA X (.builtin "max") r/\z1Q X E r yT:=⟨_,zbw hc,λH Y s ds vs Q r hd h=>by
 unfold yT at h;split at h
 ·split at h
  ·rename_i n ns e;obtain⟨xs,e1,e2⟩:=_aF.mp e;have:=jc e2;subst this;obtain⟨v,rfl,dn⟩:=z3r hd;obtain⟨a,ws,rfl,q1,q2⟩:=vn  r e1 dn;cases jd q2;obtain⟨b,q⟩:=z7w q1;exact⟨b,a,n::ns,rfl,q,by simp,h.here r yg⟩
  ·exact h.elim
 ·exact h.elim⟩
theorem ze2(hc:X.calm=true):∃r,xA X (.builtin "min") r/\z1Q X E r z3f:=⟨_,z9C hc,λH Y s ds vs Q r hd h=>by
 unfold z3f at h;split at h
 ·split at h
  ·rename_i n ns e;obtain⟨xs,e1,e2⟩:=_aF.mp e;have:=jc e2;subst this;obtain⟨v,rfl,dn⟩:=z3r hd;obtain⟨a,ws,rfl,q1,q2⟩:=vn  r e1 dn;cases jd q2;obtain⟨b,q⟩:=z7w q1;exact⟨b,a,n::ns,rfl,q,by simp,h.here r yg⟩
  ·exact h.elim
 ·exact h.elim⟩
theorem zkH(hc:X.calm=true):∃r,xA X (.builtin "all") r/\z1Q X E r zig:=⟨_,zap hc,λH Y s ds vs Q r hd h=>by
 unfold zig at h;split at h
 ·split at h
  ·rename_i ns e;obtain⟨xs,e1,e2⟩:=_aF.mp e;have:=z7i e2;subst this;obtain⟨v,rfl,dn⟩:=z3r hd;obtain⟨a,ws,rfl,q1,q2⟩:=vn  r e1 dn;cases z6S q2;obtain⟨b,q⟩:=z7w q1;exact⟨b,a,ns,rfl,q,h.here r yh⟩
  ·exact h.elim
 ·exact h.elim⟩
noncomputable def zbX:List D->List D->List D
 | x::xs,y::ys=>.tup [x,y]::zbX xs ys | _,_=>[]
theorem z1D:∀(xs ys:List D),(zbX xs ys).length=min xs.length ys.length
 | [],ys=>by rfl | x::xs,[]=>by rfl | x::xs,y::ys=>by simp only[zbX,_w,z1D xs ys];omega
theorem z9n:∀{xs ys:List D}{i:Nat}{d:D},(zbX xs ys)[i]? = some d->∃x y,xs[i]? = some x/\ys[i]? = some y/\d=.tup [x,y]
 | [],ys,i,d,h=>by cases h | x::xs,[],i,d,h=>by cases h | x::xs,y::ys,0,d,h=>by simp[zbX]at h;exact⟨x,y,by rfl,by rfl,h.symm⟩ | x::xs,y::ys,i+1,d,h=>by
  simp only[zbX,_p]at h;obtain⟨a,b,h1,h2,h3⟩:=z9n h;exact⟨a,b,by exact h1,by exact h2,h3⟩
noncomputable def zd0(s:Sto):D->Option (List D×List (Nat×List D))
 | .tup xs=>some (xs,[]) | .lst xs=>some (xs,[]) | .loc l=>(s[l]?).map λxs=>(xs,[(l,xs)]) | _=>none
theorem z6k         (r:Rep mg H Y s)(h:zd0 s d=some (xs,g))(dn:Den mg H Y d v):okG g [] s/\∃(b:Bool)(a:Addr),v=.ref a/\ ∀H2 Y2 s2,yQ mg H Y H2 Y2 s2->okG g [] s2->∃ws,Sq b mg.K H2 a ws/\zG mg H2 Y2 xs ws:=by cases d with
 | tup ys=>
  cases h;obtain⟨a,vs,rfl,q1,q2⟩:=qL (K:=mg.K) dn;refine⟨(by intro p hp;cases hp),false,a,rfl,λH2 Y2 s2 stp _=>?_⟩;obtain⟨a',ws,e,q3,q4⟩:=qL  (dn.mono stp);cases e;exact⟨ws,q3,q4⟩ | lst ys=>
  cases h;obtain⟨a,vs,rfl,q1,q2⟩:=zJ  r rfl dn;refine⟨(by intro p hp;cases hp),true,a,rfl,λH2 Y2 s2 stp _=>?_⟩;obtain⟨a',ws,e,q3,q4⟩:=zJ  stp.rep rfl (dn.mono stp);cases e;exact⟨ws,.inl q3,q4⟩ | loc l=>
  simp only[zd0,_x]at h;obtain⟨ys,ey,e2⟩:=h;cases e2;obtain⟨a,vs,rfl,q1,q2⟩:=zJ (d:=.loc l) r ey dn;refine⟨(λp hp=>by
   have:p=(l,xs):=by simpa using hp
   subst this;exact ey),true,a,rfl,λH2 Y2 s2 stp hg=>?_⟩;obtain⟨a',ws,e,q3,q4⟩:=zJ (d:=.loc l) stp.rep (hg (l,xs) (by simp)) (dn.mono stp);cases e;exact⟨ws,.inl q3,q4⟩ | _=>cases h
noncomputable def zj6(f:FA):FI:=fun ρ s=>(f ρ s).bind λds s1=>match ds with
 | [x,y]=>match zd0 s1 x,zd0 s1 y with
  | some p,some q=>.ok (zbX p.1 q.1,p.2++q.2) s1 | _,_=>.no
 | _=>.no
theorem zhs{p tp:Pos}{bR:List Expr}{kt:Nat}  (hg:Gl X "zip")(hm:X.mg "zip"=none)(ha:RA X E [a,b] f)(hs:autoParam (starEach [a,b] X.env=(false,eval a X.env)::starEach [b] X.env) aRf)(bh:autoParam ((backTo pos (starEach [b] X.env)).any (·.1)=false) aRf): RI X E (.Tuple bR kt tp) (.Call (.Name "zip" p) [a,b] [] pos) (zj6 f):= z2v (zjr hg hm ha hs bh) λO H Q ⟨Y,ρ,s,r,en,h⟩=>by
  refine⟨Y,ρ,s,r,en,(okR.bind  h).imp λvs H1 ⟨Y1,s1,ds,stp,dn,h1⟩=>?_⟩;split at h1
  ·split at h1
   ·rename_i p q ex ey;obtain⟨v,v',rfl,d1,d2⟩:=z5P dn;obtain⟨k9,b1,a1,rfl,k1⟩:=z6k stp.rep ex d1;obtain⟨oB,b2,a2,rfl,k2⟩:=z6k stp.rep ey d2;obtain⟨w1,q1,_⟩:=k1 H1 Y1 s1 (.refl stp.rep) k9;obtain⟨w2,q2,_⟩:=k2 H1 Y1 s1 (.refl stp.rep) oB;refine⟨a1,a2,b1,b2,rfl,⟨w1,q1⟩,⟨w2,q2⟩,h1.here stp.rep λH2 Y2 s2 ak og i=>?_⟩;have h3  := λp hp=>og p (_am _ hp);have h4  := λp hp=>og p (_y _ hp);refine⟨λd hd=>?_,λhl=>?_⟩
    ·obtain⟨x,y,e1,e2,rfl⟩:=z9n hd;obtain⟨w1,q1,n1⟩:=k1 H2 Y2 s2 ak h3;obtain⟨w2,q2,n2⟩:=k2 H2 Y2 s2 ak h4;obtain⟨u1,g1,m1⟩:=n1.get e1;obtain⟨u2,g2,m2⟩:=n2.get e2;refine⟨⟨w1,w2,u1,u2,q1,q2,g1,g2⟩,λz H' ⟨T,p,q,hT,ez,eH,hp,hq⟩=>?_⟩;subst ez eH;have e3:=hp w1 q1;have e4:=hq w2 q2;rw[g1]at e3;rw[g2]at e4;cases e3;cases e4;have bU:=yQ.lay (o:=.tup [u1,u2]) ak.rep hT (by intro _ z;cases z);exact⟨Y2,bU,⟨T,[u1,u2],rfl,zA,(zG.cons m1 (zG.one m2)).mono bU⟩⟩
    ·obtain⟨w1,q1,n1⟩:=k1 H2 Y2 s2 ak h3;obtain⟨w2,q2,n2⟩:=k2 H2 Y2 s2 ak h4;refine⟨w1,w2,q1,q2,?_⟩;rw[n1.length,n2.length];simp only[z1D]at hl;omega
   ·exact h1.elim
  ·exact h1.elim
end
noncomputable def ye(mp:List (Option Nat))(ρ:Ev):Ev:=mp.map λo=>match o with | some j=>(ρ[j]?).getD none | none=>none
theorem vE.inner       (en:vE mg H Y ρ O):vE mg H Y (ye mp ρ) (inner mp O):=by
 refine⟨by simp[ye,L2.inner],λi d h=>?_⟩;simp only[ye,_Y,_x]at h;obtain⟨o,h1,h2⟩:=h;cases o with
 | none=>cases h2 | some j=>
  simp only at h2;obtain⟨v,h4,h5⟩:=en.at_ j d (by cases e:ρ[j]? with
   | none=>rw[e]at h2;cases h2 | some x=>rw[e]at h2;simp at h2;rw[h2]);exact⟨v,by simp[L2.inner,h1,h4],h5⟩
open Classical in
noncomputable def va(g:List (Nat×List D))(all:List D)(body:D->Sto->R (Option D)):List D->List D->Sto->R (List D)
 | [],af,s=>if okG g all s then .ok af s else .no | x::xs,af,s=>if okG g all s then (body x s).bind λo s1=>match o with
   | some d=>if af.length<cap then va g all body xs (af++[d]) s1 else .no | none=>va g all body xs af s1 else .no
noncomputable def z4u(fi:FI)(mp:List (Option Nat))(fg:FG)(ft:FT)(fe:FE):FA:=fun ρ s=>(fi ρ s).bind λit s1=>va it.2 it.1 (λd s=>(fg d (ye mp ρ) s).bind fun ρ' s'=>(ft ρ' s').bind λb s2=>if b=true then (fe ρ' s2).bind λd s3=>.ok (some d) s3 else .ok none s2) it.1 [] s1
def z3B(mg:Gm)(E:XK)(mp:List (Option Nat))(g:TG)(fg:FG):Prop:=∀(O:L2.St) H Y ρ s x d (Q:L2.St->Hp->Prop),Rep mg H Y s->vE mg H Y (ye mp ρ) (inner mp O)->Den mg H Y d x->okR mg E H Y (vE mg) (fg d (ye mp ρ) s) Q-> g x (inner mp O) H (λO2 H2=>(O2.length=(inner mp O).length/\∀(i:Nat) v,(inner mp O)[i]? = some (some v)->O2[i]? = some (some v))/\Q O2 H2)
theorem z1k  {i:Nat}(h:mp[i]? = some none)(O:L2.St):(inner mp O)[i]? = some none:=by simp[L2.inner,h]
theorem z3a{O:L2.St}   (h:O[i]? = some none):(O.set i (some v)).length=O.length/\∀(j:Nat) u,O[j]? = some (some u)->(O.set i (some v))[j]? = some (some u):=by
 refine⟨by simp,λj u e=>?_⟩;rw[_Q (λz=>by subst z;rw[h]at e;cases e)];exact e
section
variable {X:Cx}{E:XK}{e a b c tg ao aw:Expr}{es:List Expr}{pos:Pos}{CX:CXT}{mp:List (Option Nat)}
theorem vp(i:Nat)(h:mp[i]? = some none):z3B (gm X) E mp (qi i) (qZ i):=λO H Y ρ s x d Q r en dn ok=>⟨z3a (z1k h O),(okR.here  ok r (en.set dn i))⟩
theorem z4g               {Dn:Hp->List Addr->β->β2->Prop}  (hg:z3B (gm X) E mp g fg)(r:Rep (gm X) H Y s)(en:vE (gm X) H Y ρ O) (h:okR (gm X) E H Y Dn ((z4u fi mp fg ft fe ρ s).bind kR) Q2) (fin:∀H1 Y1 s1 xs vs,Rep (gm X) H1 Y1 s1->vE (gm X) H1 Y1 ρ O->zG (gm X) H1 Y1 xs vs->okR (gm X) E H1 Y1 Dn (kR xs s1) Q2->xs.length<=cap->∀p,H1 p=none->Q (.ref p) (upd H1 p (.lst vs))): zdE (tI (gm X) E fi) mp g (tT (gm X) E ft) (tE (gm X) E fe) O H Q:=by
 unfold z4u at h;have assoc:∀{α γ δ:Type}(x:R α)(f:α->Sto->R γ)(k:γ->Sto->R δ),(x.bind f).bind k=x.bind λa s=>(f a s).bind k:=λx f k=>by cases x<;>rfl
 rw[assoc]at h;refine⟨Y,ρ,s,r,en,(okR.bind  h).imp λJ H1 ⟨Y1,s1,it,stp,ok,h1⟩=>?_⟩;obtain⟨items,gd⟩:=it;refine⟨λi m ys H=>∃Y s af,yQ (gm X) H1 Y1 H Y s/\zG (gm X) H Y af ys/\af.length<=cap/\m=items.length-i/\i<=items.length/\ okR (gm X) E H Y Dn ((va gd items (λd s=>(fg d (ye mp ρ) s).bind fun ρ' s'=>(ft ρ' s').bind λb s2=>if b=true then (fe ρ' s2).bind λd s3=>.ok (some d) s3 else .ok none s2) (items.drop i) af s).bind kR) Q2, ⟨items.length,Y1,s1,[],.refl stp.rep,zG.nil,_aI _,by rfl,_aI _,by exact h1⟩,?_⟩;rintro i m ys H2 ⟨Y2,s2,af,ak,aJ,bC,rfl,mO,h2⟩;have bw  := (en.mono stp).mono ak;by_cases ck:i<items.length
 ·right;rw[_aw ck,va]at h2;split at h2
  ·rename_i hG;obtain⟨go,yl⟩:=((ok H2 Y2 s2 ak hG i).1 items[i] (_e ck));refine⟨go,λx H' y=>?_⟩;obtain⟨Y3,aq,b9⟩:=yl x H' y;have h3:=okR.rebase h2 aq;rw[assoc,assoc]at h3;refine hg O H' Y3 ρ s2 x items[i] _ aq.rep ((bw.mono aq).inner) b9 ((okR.bind (Dn:=vE (gm X)) h3).imp λO4 H4 ⟨Y4,s4,ρ4,bg,j8,h5⟩=>?_);rw[assoc]at h5;refine⟨Y4,ρ4,s4,bg.rep,j8,(okR.bind  h5).imp λbb H5 ⟨Y5,s5,b',bB,eb,h6⟩=>?_⟩;cases (eb);have gE  := ((ak.trans aq).trans bg).trans bB;cases bb with
   | true=>
    rw[_g rfl]at h6 ⊢;rw[assoc]at h6;refine⟨Y5,ρ4,s5,bB.rep,j8.mono bB,(okR.bind  h6).imp λy H6 ⟨Y6,s6,d6,bI,cS,h7⟩=>?_⟩;split at h7;·refine⟨by rw[aJ.length];exact jh bC,items.length-(i+1),by omega,Y6,s6,af++[d6],(gE.trans bI),((((aJ.mono aq).mono bg).mono bB).mono bI).append (zG.one cS),by simp;omega,rfl,ck,h7⟩
    ·exact h7.elim | false=> exact⟨items.length-(i+1),by omega,Y5,s5,af,gE,((aJ.mono aq).mono bg).mono bB,bC,rfl,ck,h6⟩
  ·exact h2.elim
 ·left;have e:i=items.length:=by omega
  subst e;rw[_cB,va]at h2;split at h2
  ·rename_i hG;exact⟨(ok H2 Y2 s2 ak hG _).2 (_h _),by rw[aJ.length];exact jh bC,fin H2 Y2 s2 af ys ak.rep bw aJ h2 bC⟩
  ·exact h2.elim
noncomputable def xl(fi:FI)(mp:List (Option Nat))(fg:FG)(ft:FT)(fe:FE):FE:=fun ρ s=>(z4u fi mp fg ft fe ρ s).bind λxs s1=>.ok (.lst xs) s1
noncomputable def z2F(fi:FI)(mp:List (Option Nat))(fg:FG)(ft:FT)(fe:FE):FE:=fun ρ s=>(z4u fi mp fg ft fe ρ s).bind λxs s1=>if D.flat.flats xs=true then .ok (.loc s1.length) (s1++[xs]) else .no
noncomputable def z0u:FT:=λ_ s=>.ok true s
theorem z0X  : z76 Yy [] (tT (gm Yy) E z0u):=λac s O H Q I ⟨Y,ρ,st,r,en,h⟩=>zdr ac s O H Q I (h.here  r rfl)
theorem z0Q   (h:RT Yy E c f):z76 Yy [c] (tT (gm Yy) E f):=zdF h
section
variable {scope:Scope}{bf:List Expr}{fi:FI}{fg:FG}{ft:FT}{fe:FE}{g:TG}{aP py:Pos}
theorem zhq(N':List Str)(mp:List (Option Nat))(hc:X.calm=true)(hi:RI X E tg ao fi)(hg:∀ex s H,PG (zj X N' scope ex s H) tg g)(de:z3B (gm X) E mp g fg)(ht:∀ex s H,z76 (zj X N' scope ex s H) bf (tT (gm X) E ft))(he:∀ex s H,RE (zj X N' scope ex s H) E aw fe) (bc:scope.kind=.function)(aZ:∀y∈scope.names,scope.names.lookup y.1=some y.2) (aX:∀y∈scope.names,y.2=.free->X.env.kindOf y.1=some .cell\/X.env.kindOf y.1=some .free)(bi:z22 X.N scope.names N' mp=true) (hs:autoParam (∀x,foldedSetIterable ao X.env x=pure x) aIr):RE X E (.ListComp aw [⟨tg,ao,bf,0⟩] scope pos) (xl fi mp fg ft fe):= zR (zfU (te:=tE (gm X) E fe) N' mp hc hi hg ht (λex s H=>he ex s H) bc aZ aX bi hs).freeze λO H Q ⟨Y,ρ,s,r,en,h⟩=> z4g de r en h λH1 Y1 s1 xs vs r1 aE dn h1 bC=>uD r1 h1 dn
theorem z8g   (N':List Str)(mp:List (Option Nat))(hN:X.N.Nodup)(hc:X.calm=true)(hi:RI X E tg ao fi)(hg:∀ex s H,PG (zj X N' scope ex s H) tg g)(de:z3B (gm X) E mp g fg)(ht:∀ex s H,z76 (zj X N' scope ex s H) bf (tT (gm X) E ft))(he:∀ex s H,RE (zj X N' scope ex s H) E aw fe) (bc:scope.kind=.function)(aZ:∀y∈scope.names,scope.names.lookup y.1=some y.2) (aX:∀y∈scope.names,y.2=.free->X.env.kindOf y.1=some .cell\/X.env.kindOf y.1=some .free)(bi:z22 X.N scope.names N' mp=true)(hy:autoParam (X.N[i]? = some y) aRf)(cw:autoParam (Loc X.env.scope y) aOr) (hs:autoParam (∀x,foldedSetIterable ao X.env x=pure x) aIr) (cz:autoParam (swapsWith (.ListComp aw [⟨tg,ao,bf,0⟩] scope pos) (some (.Name y py)) aP.line X.env=pure true) aRf) (hf:autoParam (X.fn y=true\/X.env.scope.names.lookup y=some .local) aLr): RS X E (.Assign [.Name y py] (.ListComp aw [⟨tg,ao,bf,0⟩] scope pos) aP) (ve i (xl fi mp fg ft fe)):= wH (z61 (te:=tE (gm X) E fe) N' mp hN hy cw hc hi hg ht (λex s H=>he ex s H) bc aZ aX bi hs cz hf) λD O H ⟨Y,ρ,s,r,en,h⟩=>by
  unfold ve xl at h;rw[(λx f k=>by cases x<;>rfl:∀{α γ δ:Type}(x:R α)(f:α->Sto->R γ)(k:γ->Sto->R δ),(x.bind f).bind k=x.bind λa s=>(f a s).bind k)]at h;exact z4g de r en h λH1 Y1 s1 xs vs r1 aE dn h1 bC p hp=>(uD (E:=E)   r1 (λv H2 Y2 stp aJ=>(h1 (.nx (O.set i (some v))) H2 Y2 stp ((aE.mono stp).set aJ i))) dn p hp)
theorem z8J   (N':List Str)(mp:List (Option Nat))(hN:X.N.Nodup)(hc:X.calm=true)(hi:RI X E tg ao fi)(hg:∀ex s H,PG (zj X N' scope ex s H) tg g)(de:z3B (gm X) E mp g fg)(ht:∀ex s H,z76 (zj X N' scope ex s H) bf (tT (gm X) E ft))(he:∀ex s H,RE (zj X N' scope ex s H) E aw fe) (bc:scope.kind=.function)(aZ:∀y∈scope.names,scope.names.lookup y.1=some y.2) (aX:∀y∈scope.names,y.2=.free->X.env.kindOf y.1=some .cell\/X.env.kindOf y.1=some .free)(bi:z22 X.N scope.names N' mp=true)(hy:autoParam (X.N[i]? = some y) aRf)(cw:autoParam (Loc X.env.scope y) aOr) (hs:autoParam (∀x,foldedSetIterable ao X.env x=pure x) aIr) (cz:autoParam (swapsWith (.ListComp aw [⟨tg,ao,bf,0⟩] scope pos) (some (.Name y py)) aP.line X.env=pure true) aRf) (hf:autoParam (X.fn y=true\/X.env.scope.names.lookup y=some .local) aLr): RS X E (.Assign [.Name y py] (.ListComp aw [⟨tg,ao,bf,0⟩] scope pos) aP) (ve i (z2F fi mp fg ft fe)):= wH (z8G (te:=tE (gm X) E fe) N' mp hN hy cw hc hi hg ht (λex s H=>he ex s H) bc aZ aX bi hs cz hf) λD O H ⟨Y,ρ,s,r,en,h⟩=>by
  unfold ve z2F at h;rw[(λx f k=>by cases x<;>rfl:∀{α γ δ:Type}(x:R α)(f:α->Sto->R γ)(k:γ->Sto->R δ),(x.bind f).bind k=x.bind λa s=>(f a s).bind k)]at h;refine z4g de r en h λH1 Y1 s1 xs vs r1 aE dn h1 bC p hp=>?_;split at h1
  ·rename_i hf;have stp:=yQ.layL  r1 hp dn hf;refine h1 (.nx (O.set i (some (.ref p)))) _ _ stp ((aE.mono stp).set ?_ i);exact⟨p,rfl,by rw[<- r1.len];simp,vs,zA⟩
  ·exact h1.elim
end
end
section
variable {X:Cx}{E:XK}{e a b c tg ao aw:Expr}{es:List Expr}{pos:Pos}{CX:CXT}{mp:List (Option Nat)}
noncomputable def zeJ(K:W.Frag)(i j:Nat):TG:=zlI K 2 (zg0 (qi i) (zg0 (qi j) zlw))
theorem z7J(i j:Nat){x y:Str}{px py:Pos}{kt:Nat}(hc:X.calm=true)(hN:X.N.Nodup)(hi:autoParam (X.N[i]? = some x) aRf)(hj:autoParam (X.N[j]? = some y) aRf)(hx:autoParam (Loc X.env.scope x) aOr)(hy:autoParam (Loc X.env.scope y) aOr) (hf:autoParam (X.fn x=true\/X.env.scope.names.lookup x=some .local) aLr)(k6:autoParam (X.fn y=true\/X.env.scope.names.lookup y=some .local) aLr): PG X (.Tuple [.Name x px,.Name y py] kt pos) (zeJ X.K i j):=zeA hc (z0K (yr hN hi hx hf) (z0K (yr hN hj hy k6) zb2))
theorem z6U(i j:Nat)(aI:i≠j)(h:mp[i]? = some none)(h':mp[j]? = some none):z3B (gm X) E mp (zeJ X.K i j) (qU i j):=λO H Y ρ s x d Q r en dn ok=>by
 unfold qU at ok;split at ok
 ·obtain⟨p,vs,rfl,q1,q2⟩:=qL  dn;obtain⟨v1,v2,rfl,e1,e2⟩:=z5P q2;have k1:=z3a (v:=v1) (z1k h O);have k2:=z3a (v:=v2) (show ((inner mp O).set i (some v1))[j]? = some none from by rw[_Q aI];exact z1k h' O);exact⟨p,[v1,v2],rfl,q1,rfl,v1,[v2],rfl,v2,[],rfl,rfl,⟨k2.1.trans k1.1,λl u e=>k2.2 l u (k1.2 l u e)⟩,okR.here ok r ((en.set e1 i).set e2 j)⟩
 ·exact ok.elim
end
noncomputable def zE(N:List Str)(ds:List D):Ev:=ds.map some++List.replicate (N.length-ds.length) none
theorem kB     : ∀{ds:List D}{vs:List V},zG mg H Y ds vs->vE mg H Y (zE N ds) (L2.start N vs):=λ{ds vs} h=>by
 have hl:=h.length;refine⟨by simp[zE,L2.start,hl],λi d e=>?_⟩;unfold zE at e;have hi:i<ds.length:=by
  by_cases hi:i<ds.length;·exact hi
  ·rw[_ah (by simpa using hi),_b9]at e;split at e<;>cases e
 rw[_u (by simpa using hi),_Y]at e;obtain⟨v,h1,h2⟩:=h.get (by cases q:ds[i]? with
  | none=>rw[q]at e;cases e | some x=>rw[q]at e;simp at e;rw[e]);refine⟨v,?_,h2⟩;unfold L2.start;rw[_u (by simpa[hl] using hi),_Y,h1];rfl
noncomputable def Mof(N:List Str)(n:Nat)(fs:FS):Mir:=λds s=>if ds.length=n then (match fs (zE N ds) s with
 | .ok (.rt d) s'=>.ok d s' | .ok (.nx _) s'=>.ok .non s' | _=>.no) else .no
section
variable {P:Program}{w:World}{K:W.Frag}{mg:Str->Option Value}{base:Heap}
theorem Has.mono     (h:Has P w K mg base CX x n M)(hl:n<=m):Has P w K mg base CX x m M:=by
 obtain⟨f,fd,ps,F,r⟩:=h;exact⟨f,fd,ps,F.mono hl,r⟩
theorem ziU  {st:Stmt}      (F:Fun K x qual st f fd)(hm:mg x=some (.ref f))(hb:Binds K fd ps [])(S:zq N ps (ze st))(hn:ps.length=n) (body:∀(aA:Value)(A:Around)(outer:List Env)(s:Shared)(H:Hp)(E:XK),kr k (A.deeper (envOfC qual (ze st) s.heap.objs.size f aA))->(z3J CX0 P w K mg base N qual (ze st) f aA A outer s H E).nox.calm=true-> RSs (z3J CX0 P w K mg base N qual (ze st) f aA A outer s H E).nox E0 (xM st) fs):Has P w K mg base CX0 x (k+1) (Mof N n fs):=by
 subst hn;refine⟨f,fd,ps,F.ok S (λvs H Q E h=>?_) (λaA A outer s H vs Q E hr h=>?_),hb,F.kp,hm⟩
 ·obtain⟨Y,s,ds,_,dn,h⟩:=h;unfold Mof at h;split at h;·rename_i e;rw[dn.length];exact e
  ·exact h.elim
 ·obtain⟨Y,cJ,ds,r,dn,h⟩:=h;refine⟨_,body aA A outer s H E hr (by show A.handled.isNone=true;rw[show A.handled=none from hr.hd];rfl),Y,zE N ds,cJ,r,kB dn,?_⟩;unfold Mof at h;split at h
  ·split at h
   ·rename_i d s' e;rw[e];intro fv H' Y' stp fd;cases fv with
    | rt v=>exact h v H' Y' stp fd | _=>exact (fd).elim
   ·rename_i ρ s' e;rw[e];intro fv H' Y' stp fd;cases fv with
    | nx v=>exact h .non H' Y' stp rfl | _=>exact (fd).elim
   ·exact h.elim
  ·exact h.elim
end
def zga(K:W.Frag):Sp:=λvs H Q _=>∃(a:Addr)(ns:List Int),vs=[.ref a]/\zlb H/\SqL K H a (ns.map V.int)/\ns.length<=63/\∀H',Q (.bl true) H'
theorem uY    : ∀(ns:List Int),zG mg H Y (ns.map D.int) (ns.map V.int)
 | []=>zG.nil | n::ns=>zG.cons yg (uY ns)
theorem zjt   {K:W.Frag}   {x:Str}      (F:z3A P w K mg base CX0 n f fd ps (ze1 ⟨mg,K⟩ M)) (h:∀ns:List Int,ns.length<=63->∃s',M [.scr (ns.map D.int)] []=.ok (.bl true) s'):z3A P w K mg base CX0 n f fd ps (zga K):= F.imp λvs H Q E ⟨a,ns,e,ho,hq,hl,q⟩=>by
  subst e;obtain⟨s',hs⟩:=h ns hl;refine⟨[],[],[.scr (ns.map D.int)],⟨rfl,List.nodup_nil,λl xs z=>by simp at z,λxs z=>by simp at z,λb h z=>by simp at z,λa ha=>by simp at ha⟩,zG.one ?_,?_⟩
  ·refine⟨a,ns.map V.int,rfl,?_,uY ns⟩;rcases hq with (z | z) | z
   ·rcases ho a with y | ⟨o,xs,y⟩;·rw[y]at z;cases z
    ·rw[y]at z;cases z
   ·exact .inl z
   ·exact .inr z
  ·rw[hs];intro v H' Y' stp dn;cases uo dn;exact q H'
section
variable {X:Cx}{E:XK}{e a b c tg ao aw:Expr}{es:List Expr}{pos:Pos}{CX:CXT}
noncomputable def z49(f:FE):FE:=fun ρ s=>(f ρ s).bind λd s1=>match d with | .int i=>.ok (.int (-i)) s1 | _=>.no
theorem z3z  (h:RE X E a f):RE X E (.UnaryOp .USub a pos) (z49 f):= zR (zj7 ze9 h) λO H Q ⟨Y,ρ,s,r,en,h⟩=>by
  refine zN (k:=fun ρ d s1=>match d with | .int i=>R.ok (D.int (-i)) s1 | _=>.no) r en h _ λv H1 Y1 s1 d r1 aE dn stp h1=>?_;cases d with
  | int i=>
   cases zO dn;exact⟨i,rfl,okR.here  h1 r1 yg⟩ | _=>exact h1.elim
theorem z6m    (ho:∃r,OpR X (compareOp op) r/\OpF X E r fo)(bE:∃r,OpR X (compareOp cG) r/\OpF X E r dG)(ha:RE X E a fa)(hb:RE X E b fb)(hc:RE X E c fc) (hm:autoParam (lastMarks [op,cG] [b,c]=false) aWu):RT X E (.Compare a [op,cG] [b,c] pos) (tOf (z0e fo dG fa fb fc)):=by
 obtain⟨r,h1,h2⟩:=ho;obtain⟨r',gB,cf⟩:=bE;exact z5x (zda h1 gB ha hb hc hm) λO H Q h=>z56 h2 cf (z32 h)
noncomputable def qR(i:Int)(n:Nat):List D:=(List.range n).map λ(k:Nat)=>D.int (i+((k:Nat):Int))
noncomputable def z65(f:FA):FI:=fun ρ s=>(f ρ s).bind λds s1=>match ds with
 | [.int i,.int j]=>if -(2 ^ 62)<=i/\i<2 ^ 62/\-(2 ^ 62)<=j/\j<2 ^ 62 then .ok (qR i (j-i).toNat,[]) s1 else .no | _=>.no
theorem z7C{p:Pos}  (hg:Gl X "range")(hm:X.mg "range"=none)(ha:RA X E [a,b] f)(hs:autoParam (starEach [a,b] X.env=[(false,eval a X.env),(false,eval b X.env)]) aRf)(bO:autoParam (starEach [b] X.env=[(false,eval b X.env)]) aRf):RI X E tg (.Call (.Name "range" p) [a,b] [] pos) (z65 f):= z2v (za0 hg hm ha hs bO) λO H Q ⟨Y,ρ,s,r,en,h⟩=>by
  refine⟨Y,ρ,s,r,en,(okR.bind  h).imp λvs H1 ⟨Y1,s1,ds,stp,dn,h1⟩=>?_⟩;split at h1
  ·rename_i i j;split at h1
   ·rename_i hj;obtain⟨v,v',rfl,d1,d2⟩:=z5P dn;cases zO d1;cases zO d2;refine⟨i,j,rfl,hj,h1.here stp.rep λH2 Y2 s2 ak _ k=>⟨λd hd=>?_,λhl=>?_⟩⟩
    ·have hi:k<(j-i).toNat:=by simpa[qR] using ((_d.mp hd).1)
     refine⟨hi,λx H' ⟨e1,e2⟩=>?_⟩;subst e1 e2;refine⟨Y2,.refl ak.rep,?_⟩;rw[(show d=D.int (i+k) from by
      simp only[qR,_Y,_cX hi,_at,_J]at hd;exact hd.symm)];exact yg
    ·rw[<- (show (qR i (j-i).toNat).length=(j-i).toNat from by simp[qR])];exact hl
   ·exact h1.elim
  ·exact h1.elim
end
noncomputable def isK(o:Option NameKind)(k:NameKind):Bool:=match o,k with
 | some .local,.local=>true | some .cell,.cell=>true | some .free,.free=>true | some .globalImplicit,.globalImplicit=>true | _,_=>false
theorem zar   (h:isK o k=true):o=some k:=by cases o with
 | none=>cases k<;>cases h | some j=>cases j<;>cases k<;>first | rfl | cases h
noncomputable def isF(k:NameKind):Bool:=match k with | .free=>true | _=>false
theorem zhQ  (h:k=.free):isF k=true:=by subst h;rfl
noncomputable def z8M(ko:Str->Option NameKind)(names:List (Str×NameKind)):Bool:=names.all λy=>!isF y.2||(isK (ko y.1) .cell||isK (ko y.1) .free)
theorem jf   (h:z8M ko names=true):∀y∈names,y.2=.free->ko y.1=some .cell\/ko y.1=some .free:=λy hy hf=>by
 have:=_aC.mp h y hy;rw[zhQ hf]at this;simp only[_a8,Bool.false_or,Bool.or_eq_true]at this;exact this.imp zar zar
noncomputable def z8a(names:List (Str×NameKind)):Bool:=names.all λy=>isK (names.lookup y.1) y.2
theorem jF  (h:z8a names=true):∀y∈names,names.lookup y.1=some y.2:=λy hy=>zar (_aC.mp h y hy)
section
variable {X:Cx}{E:XK}{e a b c tg ao aw:Expr}{es:List Expr}{pos:Pos}{CX:CXT}
variable {scope:Scope}{bf:List Expr}{fi:FI}{fg:FG}{ft:FT}{fe:FE}{g:TG}{aP py:Pos}
theorem zeN   (hg:Gl X x)(hm:∃t,X.mg x=some (.int i t))(hd:autoParam ((x==("__debug__":Str))=false) aDe):RE X E (.Name x pos) (eC (.int i)):=let ⟨_,h⟩:=hm;ziR hg h hd
theorem uS(N':List Str)(mp:List (Option Nat))(hc:X.calm=true)(hi:RI X E tg ao fi)(hg:∀ex s H,PG (zj X N' scope ex s H) tg g)(de:z3B (gm X) E mp g fg)(ht:∀ex s H,z76 (zj X N' scope ex s H) bf (tT (gm X) E ft))(he:∀ex s H,RE (zj X N' scope ex s H) E aw fe) (bc:autoParam (scope.kind=.function) aRf)(aZ:autoParam (z8a scope.names=true) aRf)(aX:autoParam (z8M X.env.kindOf scope.names=true) aRf)(bi:autoParam (z22 X.N scope.names N' mp=true) aRf) (hs:autoParam (∀x,foldedSetIterable ao X.env x=pure x) aIr):RE X E (.ListComp aw [⟨tg,ao,bf,0⟩] scope pos) (xl fi mp fg ft fe):= zhq N' mp hc hi hg de ht he bc (jF aZ) (jf aX) bi hs
theorem zfk(i:Nat){y:Str}(N':List Str)(mp:List (Option Nat))(hN:X.N.Nodup)(hc:X.calm=true)(hi:RI X E tg ao fi)(hg:∀ex s H,PG (zj X N' scope ex s H) tg g)(de:z3B (gm X) E mp g fg)(ht:∀ex s H,z76 (zj X N' scope ex s H) bf (tT (gm X) E ft))(he:∀ex s H,RE (zj X N' scope ex s H) E aw fe) (bc:autoParam (scope.kind=.function) aRf)(aZ:autoParam (z8a scope.names=true) aRf)(aX:autoParam (z8M X.env.kindOf scope.names=true) aRf)(bi:autoParam (z22 X.N scope.names N' mp=true) aRf)(hy:autoParam (X.N[i]? = some y) aRf)(cw:autoParam (Loc X.env.scope y) aOr) (hs:autoParam (∀x,foldedSetIterable ao X.env x=pure x) aIr) (cz:autoParam (swapsWith (.ListComp aw [⟨tg,ao,bf,0⟩] scope pos) (some (.Name y py)) aP.line X.env=pure true) aRf) (hf:autoParam (X.fn y=true\/X.env.scope.names.lookup y=some .local) aLr): RS X E (.Assign [.Name y py] (.ListComp aw [⟨tg,ao,bf,0⟩] scope pos) aP) (ve i (xl fi mp fg ft fe)):= z8g N' mp hN hc hi hg de ht he bc (jF aZ) (jf aX) bi hy cw hs cz hf
theorem zgp(i:Nat){y:Str}(N':List Str)(mp:List (Option Nat))(hN:X.N.Nodup)(hc:X.calm=true)(hi:RI X E tg ao fi)(hg:∀ex s H,PG (zj X N' scope ex s H) tg g)(de:z3B (gm X) E mp g fg)(ht:∀ex s H,z76 (zj X N' scope ex s H) bf (tT (gm X) E ft))(he:∀ex s H,RE (zj X N' scope ex s H) E aw fe) (bc:autoParam (scope.kind=.function) aRf)(aZ:autoParam (z8a scope.names=true) aRf)(aX:autoParam (z8M X.env.kindOf scope.names=true) aRf)(bi:autoParam (z22 X.N scope.names N' mp=true) aRf)(hy:autoParam (X.N[i]? = some y) aRf)(cw:autoParam (Loc X.env.scope y) aOr) (hs:autoParam (∀x,foldedSetIterable ao X.env x=pure x) aIr) (cz:autoParam (swapsWith (.ListComp aw [⟨tg,ao,bf,0⟩] scope pos) (some (.Name y py)) aP.line X.env=pure true) aRf) (hf:autoParam (X.fn y=true\/X.env.scope.names.lookup y=some .local) aLr): RS X E (.Assign [.Name y py] (.ListComp aw [⟨tg,ao,bf,0⟩] scope pos) aP) (ve i (z2F fi mp fg ft fe)):= z8J N' mp hN hc hi hg de ht he bc (jF aZ) (jf aX) bi hy cw hs cz hf
end
theorem zi1   {K:W.Frag}    {st:Stmt}      (F:Fun K x qual st f fd)(S:zq N ps (ze st))(hn:ps.length=n) (body:∀(aA:Value)(A:Around)(outer:List Env)(s:Shared)(H:Hp)(E:XK),kr k (A.deeper (envOfC qual (ze st) s.heap.objs.size f aA))->(z3J CX0 P w K mg base N qual (ze st) f aA A outer s H E).nox.calm=true-> RSs (z3J CX0 P w K mg base N qual (ze st) f aA A outer s H E).nox E0 (xM st) fs):z3A P w K mg base CX0 (k+1) f fd ps (ze1 ⟨mg,K⟩ (Mof N n fs)):=by
 subst hn;refine F.ok S (λvs H Q E h=>?_) (λaA A outer s H vs Q E hr h=>?_)
 ·obtain⟨Y,s,ds,_,dn,h⟩:=h;unfold Mof at h;split at h;·rename_i e;rw[dn.length];exact e
  ·exact h.elim
 ·obtain⟨Y,cJ,ds,r,dn,h⟩:=h;refine⟨_,body aA A outer s H E hr (by show A.handled.isNone=true;rw[show A.handled=none from hr.hd];rfl),Y,zE N ds,cJ,r,kB dn,?_⟩;unfold Mof at h;split at h
  ·split at h
   ·rename_i d s' e;rw[e];intro fv H' Y' stp fd;cases fv with
    | rt v=>exact h v H' Y' stp fd | _=>exact (fd).elim
   ·rename_i ρ s' e;rw[e];intro fv H' Y' stp fd;cases fv with
    | nx v=>exact h .non H' Y' stp (by rfl) | _=>exact (fd).elim
   ·exact h.elim
  ·exact h.elim
section
variable {all xs:List D}{ρ:Ev}{s:Sto}
theorem z0D  (I:Ev->Sto->Prop):∀(xs:List D),(∀x∈xs,∀ ρ s,I ρ s->∃ ρ' s',body x ρ s=.ok (.nx ρ') s'/\I ρ' s')->∀ ρ s,I ρ s->∃ ρ' s',ui [] all body xs ρ s=.ok (.nx ρ') s'/\I ρ' s'
 | [],_,ρ,s,h=>⟨ρ,s,by simp[ui,okG],h⟩ | x::xs,hb,ρ,s,h=>by
  obtain⟨ρ1,s1,e1,h1⟩:=hb x (by simp) ρ s h;obtain⟨ρ2,s2,e2,h2⟩:=z0D I xs (λy hy=>hb y (by simp[hy])) ρ1 s1 h1;exact⟨ρ2,s2,by simp[ui,okG,e1,e2],h2⟩
theorem z4M  (f:D->D):∀(xs af:List D),(∀x∈xs,body x s=.ok (some (f x)) s)->af.length+xs.length<=cap->va [] all body xs af s=.ok (af++xs.map f) s
 | [],af,_,_=>by simp[va,okG] | x::xs,af,hb,hl=>by
  rw[va];simp[okG,hb x (by simp),(show af.length<cap from by simp at hl;lia),(z4M f xs (af++[f x]) (λy hy=>hb y (by simp[hy])) (by simp at hl ⊢;lia))]
end
section
variable (i j k n:Nat)(ρ:Ev)(s:Sto)(f g fa fb fc:FE)(d x y:D)(ds:List D)(ar:FA)(op cG:D->D->Sto->R D)(ft iB:FT)(fs fC:FS)(M:Mir)(T:String)(fl fh fo:FO)(fi:FI)(fg:FG)(mp:List (Option Nat))(N:List Str)
@[simp] theorem xV:zd i ρ s=(match ρ[i]? with | some (some d)=>.ok d s | _=>.no):=id rfl
@[simp] theorem z3y:eC d ρ s=.ok d s:=id rfl
@[simp] theorem vT:eOp op fa fb ρ s=(fa ρ s).bind λx s1=>(fb ρ s1).bind λy s2=>op x y s2:=id rfl
@[simp] theorem xr:zh M ar ρ s=(ar ρ s).bind λxs s1=>M xs s1:=id rfl
@[simp] theorem zM:zn ρ s=.ok [] s:=id rfl
@[simp] theorem zr:za f ar ρ s=(f ρ s).bind λx s1=>(ar ρ s1).bind λxs s2=>.ok (x::xs) s2:=id rfl
@[simp] theorem qo:jY ar ρ s=(ar ρ s).bind λxs s1=>if xs.length<=cap then .ok (.tup xs) s1 else .no:=id rfl
@[simp] theorem kU:z4o ar ρ s=(ar ρ s).bind λxs s1=>if xs.length<=cap then .ok (.lst xs) s1 else .no:=id rfl
@[simp] theorem zbk:zg7 ar ρ s=(ar ρ s).bind λxs s1=>if xs.length<=cap/\D.flat.flats xs=true then .ok (.loc s1.length) (s1++[xs]) else .no:=id rfl
@[simp] theorem zml:eIs T f ρ s=(f ρ s).bind λd s1=>gIs T d s1:=id rfl
@[simp] theorem z7d:z49 f ρ s=(f ρ s).bind λd s1=>match d with | .int i=>.ok (.int (-i)) s1 | _=>.no:=id rfl
@[simp] theorem zhd:zjS f ρ s=(f ρ s).bind λx s1=>match x with | .bl k=>.ok (.bl (!k)) s1 | _=>.no:=id rfl
@[simp] theorem zjl:zfL fa fb ρ s=(fa ρ s).bind λx s1=>match x with | .bl true=>fb ρ s1 | .bl false=>.ok (.bl false) s1 | _=>.no:=id rfl
@[simp] theorem zb6:eIf ft fa fb ρ s=(ft ρ s).bind λx s1=>if x=true then fa ρ s1 else fb ρ s1:=id rfl
@[simp] theorem z2j:eSl f fl fh ρ s=(f ρ s).bind λx s1=>(fl ρ s1).bind λlo s2=>(fh ρ s2).bind λhi s3=>dSl x lo hi s3:=id rfl
@[simp] theorem xW:zQ ρ s=.ok none s:=id rfl
@[simp] theorem uV:xK f ρ s=(f ρ s).bind λd s1=>match d with | .int i=>.ok (some i) s1 | _=>.no:=id rfl
@[simp] theorem z6K:tOf f ρ s=(f ρ s).bind λd s1=>match d with | .bl k=>.ok k s1 | _=>.no:=id rfl
@[simp] theorem z1X:zft ft iB ρ s=(ft ρ s).bind λx s1=>if x=true then iB ρ s1 else .ok false s1:=id rfl
@[simp] theorem zkO:fOr ft iB ρ s=(ft ρ s).bind λx s1=>if x=true then .ok true s1 else iB ρ s1:=id rfl
@[simp] theorem z5L:z0F ft ρ s=(ft ρ s).bind λx s1=>.ok (!x) s1:=id rfl
@[simp] theorem zjK:z0e op cG fa fb fc ρ s=(fa ρ s).bind λx s1=>(fb ρ s1).bind λy s2=>(op x y s2).bind λz s3=>match z with
 | .bl true=>(fc ρ s3).bind λw s4=>cG y w s4 | .bl false=>.ok (.bl false) s3 | _=>.no:=id rfl
@[simp] theorem zht:zL fs fC ρ s=(fs ρ s).bind λfl s1=>match fl with | .nx ρ'=>fC ρ' s1 | fl=>.ok fl s1:=id rfl
@[simp] theorem zkF:xf ρ s=.ok (.nx ρ) s:=id rfl
@[simp] theorem zmh:fNo ρ s=.no:=id rfl
@[simp] theorem qe:wS f ρ s=(f ρ s).bind λ_ s1=>.ok (.nx ρ) s1:=id rfl
@[simp] theorem xo:wc f ρ s=(f ρ s).bind λd s1=>.ok (.rt d) s1:=id rfl
@[simp] theorem z1d:fIf ft fs fC ρ s=(ft ρ s).bind λx s1=>if x=true then fs ρ s1 else fC ρ s1:=id rfl
@[simp] theorem yn:ve i f ρ s=(f ρ s).bind λd s1=>.ok (.nx (ρ.set i (some d))) s1:=id rfl
@[simp] theorem zjk:zh2 f fg ρ s=(f ρ s).bind λd s1=>(fg d ρ s1).bind fun ρ' s2=>.ok (.nx ρ') s2:=id rfl
@[simp] theorem zdZ:zjQ i j ar ρ s=(ar ρ s).bind λds s1=>match ds with | [x,y]=>.ok (.nx ((ρ.set i (some x)).set j (some y))) s1 | _=>.no:=id rfl
@[simp] theorem zjb:qZ i d ρ s=.ok (ρ.set i (some d)) s:=id rfl
@[simp] theorem zeT:qU i j (.tup [x,y]) ρ s=.ok ((ρ.set i (some x)).set j (some y)) s:=id rfl
@[simp] theorem zgr:z6p fa fb fc ρ s=(fc ρ s).bind λd s1=>(fa ρ s1).bind λo s2=>(fb ρ s2).bind λi s3=>match o,i with
 | .loc l,.int k=>match s3[l]? with
  | some xs=>match ixN xs.length k with
   | some j=>if d.flat=true then .ok (.nx ρ) (s3.set l (xs.set j d)) else .no | none=>.no
  | none=>.no
 | _,_=>.no:=id rfl
@[simp] theorem zkm:wZ f ρ s=(f ρ s).bind λd s1=>match d with
 | .tup xs=>.ok (xs,[]) s1 | .lst xs=>.ok (xs,[]) s1 | .loc l=>match s1[l]? with | some xs=>.ok (xs,[(l,xs)]) s1 | none=>.no
 | _=>.no:=id rfl
@[simp] theorem zen:z5U ar ρ s=(ar ρ s).bind λds s1=>match ds with
 | [.int j]=>if -(2 ^ 62)<=j/\j<2 ^ 62 then .ok (vh j.toNat,[]) s1 else .no | _=>.no:=id rfl
@[simp] theorem zad:z65 ar ρ s=(ar ρ s).bind λds s1=>match ds with
 | [.int i,.int j]=>if -(2 ^ 62)<=i/\i<2 ^ 62/\-(2 ^ 62)<=j/\j<2 ^ 62 then .ok (qR i (j-i).toNat,[]) s1 else .no | _=>.no:=id rfl
@[simp] theorem zia:zj6 ar ρ s=(ar ρ s).bind λds s1=>match ds with
 | [x,y]=>match zd0 s1 x,zd0 s1 y with
  | some p,some q=>.ok (zbX p.1 q.1,p.2++q.2) s1 | _,_=>.no
 | _=>.no:=id rfl
@[simp] theorem jU:z9X fi fg fs ρ s=(fi ρ s).bind λit s1=>ui it.2 it.1 (λd ρ s=>(fg d ρ s).bind fun ρ' s'=>fs ρ' s') it.1 ρ s1:=id rfl
@[simp] theorem z6J:z4u fi mp fg ft f ρ s=(fi ρ s).bind λit s1=>va it.2 it.1 (λd s=>(fg d (ye mp ρ) s).bind fun ρ' s'=>(ft ρ' s').bind λb s2=>if b=true then (f ρ' s2).bind λd s3=>.ok (some d) s3 else .ok none s2) it.1 [] s1:=id rfl
@[simp] theorem z7Z:xl fi mp fg ft f ρ s=(z4u fi mp fg ft f ρ s).bind λxs s1=>.ok (.lst xs) s1:=id rfl
@[simp] theorem zc9:z2F fi mp fg ft f ρ s=(z4u fi mp fg ft f ρ s).bind λxs s1=>if D.flat.flats xs=true then .ok (.loc s1.length) (s1++[xs]) else .no:=id rfl
@[simp] theorem zl6:z0u ρ s=.ok true s:=id rfl
@[simp] theorem zbv:zix fa fb ρ s=(fa ρ s).bind λo s1=>match o with
 | .loc l=>(fb ρ s1).bind λd s2=>match s2[l]? with
  | some xs=>if d.flat=true/\xs.length<cap then .ok .non (s2.set l (xs++[d])) else .no | none=>.no
 | _=>.no:=id rfl
@[simp] theorem zdY:ye [] ρ=[]:=id rfl
@[simp] theorem zh3:ye (some i::mp) ρ=(ρ[i]?).getD none::ye mp ρ:=id rfl
@[simp] theorem zh6:ye (none::mp) ρ=none::ye mp ρ:=id rfl
variable (a b:Int)(u v:Bool)(xs ys:List D)
@[simp] theorem jn:xZ (.int a) (.int b) s=.ok (.int (a+b)) s:=rfl
@[simp] theorem jq:xZ (.tup xs) (.tup ys) s=if xs.length+ys.length<=cap then .ok (.tup (xs++ys)) s else .no:=rfl
@[simp] theorem zed:xZ (.lst xs) (.lst ys) s=if xs.length+ys.length<=cap then .ok (.lst (xs++ys)) s else .no:=rfl
@[simp] theorem zhr:z8d (.int a) (.int b) s=.ok (.int (a-b)) s:=rfl
theorem zdW:uH (.int a) (.int b) s=if a.natAbs<BIG/\b.natAbs<BIG then .ok (.int (a*b)) s else .no:=by
 simp only[uH,dII,iOk];split<;>(rename_i h;split at h<;>simp_all)
theorem zaA:z6f (.int a) (.int b) s=if 0<b/\b.natAbs<BIG then .ok (.int (a / b)) s else .no:=by
 simp only[z6f,dII,iOk];split<;>(rename_i h;split at h<;>simp_all)
theorem zhw:zau (.int a) (.int b) s=if 0<b then .ok (.int (a % b)) s else .no:=by
 simp only[zau,dII,iOk];split<;>(rename_i h;split at h<;>simp_all)
theorem zew:z7F (.int a) (.int b) s=if 0<=b/\b<=1000/\a.natAbs<1000 then .ok (.int (a ^ b.toNat)) s else .no:=by
 simp only[z7F,dII,iOk];split<;>(rename_i h;split at h<;>simp_all)
@[simp] theorem zkg:dLt (.int a) (.int b) s=.ok (.bl (decide (a<b))) s:=rfl
@[simp] theorem ziA:dLe (.int a) (.int b) s=.ok (.bl (decide (a<=b))) s:=rfl
@[simp] theorem zlY:dGt (.int a) (.int b) s=.ok (.bl (decide (b<a))) s:=rfl
@[simp] theorem zm7:dGe (.int a) (.int b) s=.ok (.bl (decide (b<=a))) s:=rfl
@[simp] theorem z8t:dEq (.int a) (.int b) s=.ok (.bl (decide (a=b))) s:=by rfl
@[simp] theorem zkw:dNe (.int a) (.int b) s=.ok (.bl (decide (a≠b))) s:=by
 rw[dNe,(show eqD (.int a) (.int b)=decide (a=b) from by
  simp only[eqD,zkx,PyData.eqv];rw[Bool.eq_iff_iff];rfl),_g (by constructor<;>rfl)];simp
@[simp] theorem zma:dEq (.bl u) (.bl v) s=.ok (.bl (u==v)) s:=by cases u<;>cases v<;>rfl
@[simp] theorem zm8:dNe (.bl u) (.bl v) s=.ok (.bl (u != v)) s:=by cases u<;>cases v<;>rfl
end
theorem zo    (h:f ρ s=.ok (.nx ρ') s'):zL f g ρ s=g ρ' s':=by simp[h]
theorem z5p     (h:f ρ s=.ok (.rt d) s'):zL f g ρ s=.ok (.rt d) s':=by simp[h]
theorem qh   (I:Nat->Ev->Sto->Prop):∀(xs:List D)(k:Nat),(∀j x,xs[j]? = some x->∀ ρ s,I (k+j) ρ s->∃ ρ' s',body x ρ s=.ok (.nx ρ') s'/\I (k+j+1) ρ' s')-> ∀ ρ s,I k ρ s->∃ ρ' s',ui [] all body xs ρ s=.ok (.nx ρ') s'/\I (k+xs.length) ρ' s'
 | [],k,_,ρ,s,h=>⟨ρ,s,by simp[ui,okG],h⟩ | x::xs,k,hb,ρ,s,h=>by
  obtain⟨ρ1,s1,e1,h1⟩:=hb 0 x (by rfl) ρ s h;obtain⟨ρ2,s2,e2,h2⟩:=qh (all:=all) I xs (k+1) (λj y hy ρ s hi=>by
   rw[(show k+1+j=k+(j+1) from by lia)]at hi ⊢;exact hb (j+1) y (by exact hy) ρ s hi) ρ1 s1 h1;refine⟨ρ2,s2,by simp[ui,okG,e1,e2],?_⟩;rw[(show k+(x::xs).length=k+1+xs.length from by simp;lia)];exact h2
theorem z5t   (h:(vh n)[j]? = some x):j<n/\x=.int j:=by
 have hj:j<n:=by simpa[vh] using ((_d.mp h).1)
 refine⟨hj,?_⟩;simp only[vh,_Y,_cX hj,_at,_J]at h;exact h.symm
theorem z8L   (h:x∈vh n):∃j:Nat,j<n/\x=.int j:=by
 obtain⟨j,hj,e⟩:=_D.mp h;have:=z5t    (by rw[_e hj,e]);exact⟨j,this.1,this.2⟩
theorem xN:∀(ns:List Int),D.flat.flats (ns.map D.int)=true
 | []=>rfl | n::ns=>xN ns
theorem z0z(i:Int):(D.int i).flat=true:=rfl
theorem uP:∀{xs:List D}{d:D},D.flat.flats xs=true->d∈xs->d.flat=true
 | x::xs,d,f,h=>by
  simp only[flC,flN,_L]at f;rcases _n.mp h with rfl | h;·exact f.1
  ·exact uP f.2 h
theorem vS.flatten      (k:∀b o,H b=some o->(∀vs,o≠.lst vs)->(∀kvs,o≠.dT kvs)->(∀kvs,kvs≠[]->o≠.dK kvs)->H' b=some o)(f:D.flat.flats ys=true)(e:H' c=H c)(ha:c∈Y)(ro:∀b,Own H Y b->b∉Y)(w:∀b vs,b∉Y->H b=some (.lst vs)->H' b=some (.lst vs))(h:vS mg H Y ys c):vS mg H' Y' ys c:=by
 rcases h with⟨vs,h1,h2⟩ | ⟨kvs,h1,h2⟩ | ⟨o,kvs,ys,h1,h2⟩ | ⟨kvs,g,h1,h2⟩ | ⟨o,kvs,ys,h1,e1,h2,fz⟩;·exact .inl ⟨vs,e.trans h1,h2.flatten k f⟩
 ·exact .inr (.inl ⟨kvs,e.trans h1,h2⟩)
 ·exact .inr (.inr (.inl ⟨o,kvs,ys,e.trans h1,h2⟩))
 ·refine .inr (.inr (.inr (.inl ⟨kvs,g,e.trans h1,h2.imp (λzs vs k' hm q=>q.flatten k ?_) (λq b vs hm=>w b vs (ro b ⟨c,ha,kvs,q,h1,hm⟩)) λb o vs q=>k b _ q (by intro vs z;cases z) (by intro vs z;cases z) (by intro vs g z;cases z)⟩)));rcases hm with hm | hm;·exact (_ad.mp (uP f hm)).1
  ·exact (_ad.mp (uP f hm)).1
 ·subst e1;have f:D.flat.flats ys=true:=by exact f
  refine .inr (.inr (.inr (.inr ⟨o,kvs,ys,e.trans h1,rfl,h2.imp (λzs vs k' hm q=>q.flatten k ?_) (λq b vs hm z=>(h2.fz fz.1 hm z).elim) λb o vs q=>k b _ q (by intro vs z;cases z) (by intro vs z;cases z) (by intro vs g z;cases z),fz⟩)));rcases hm with hm | hm;·exact (_ad.mp (uP f hm)).1
  ·exact (_ad.mp (uP f hm)).1
end Dd
namespace Zz
open PySem.AutoSeq1 (wpAny_loadPart')
section
variable {P:Program}{w:World}{A:Around}{E:Value->Shared->Prop}{s:Shared}
theorem zgt   {k:Nat}    (he:IsEnum s.heap e it k bM) (h1:Sit b s.heap it l k) (c1:Sco b s.heap l xs) (ex:xs[k]? = some x) (ne:e≠it) (q:∀h',IsEnumOut h' e it ((k:Int)+1) x s.heap.objs.size->Sit b h' it l (k+1)->h'.get? s.heap.objs.size=some {cls:=.type "tuple",data:=.seq #[.int k s.toks,x]}-> (∀c o,c≠e->c≠it->s.heap.get? c=some o->h'.get? c=some o)->Q (some (.ref s.heap.objs.size)) {s with heap:=h',toks:=s.toks+1}):wpAny (model P w) A (pyNext (.ref e)) Q E s:=by
 have hT:s.TypeIs (.ref e) "enumerate":=⟨_,he,rfl⟩;refine _a (_bt (_S  hT _bD (_P _bD hT F.entry_enumerate_next  ?_ (F.args_enumerate_next_1 _))));obtain⟨hp,g,d,tk,os⟩:=s;show wpAny _ _ (field (.ref e) 2 >>= _) _ _ _;refine _a (_ai he rfl  rfl (_a (nx h1 c1 ex λg1 t1 s1=>?_)));have e1  := (s1.2 e ne).trans he;refine _a (_ai e1 rfl  rfl ?_);refine _a (_ai e1 rfl  rfl ?_);refine _a (wpAny_mkInt ?_);refine _a (_ao e1 (by simp) λg2 e2 s2=>?_);refine _a (_ao e2 (by simp) λg3 e3 s3=>?_);refine _a (wpAny_newTuple ?_);have e4:IsEnum (g3.push {cls:=.type "tuple",data:=.seq #[.int k tk,x]}) e it (k+1) bM:=_c _ e3;generalize hg4:g3.push {cls:=.type "tuple",data:=.seq #[.int k tk,x]}=g4 at e4;have sz:g3.objs.size=hp.objs.size:=by rw[s3.1,s2.1,s1.1]
 have el  := _j he;have t4:g4.get? hp.objs.size=some {cls:=.type "tuple",data:=.seq #[.int k tk,x]}:=by rw[<- hg4,<- sz];exact _k _ rfl
 have i4:Sit b g4 it l (k+1):=t1.to λo z=>by rw[<- hg4];exact _c _ (zp s3 ne.symm (zp s2 ne.symm z))
 rw[sz];refine _a ?_;refine _a (_ai e4 rfl  rfl (_b ?_));refine _a (_aL ?_);refine _a (_ai e4 rfl  rfl (_a (_ao e4 (by simp) λg5 e5 s5=>?_)));refine _a ?_;refine _a (_ao e5 (by simp) λg6 e6 s6=>?_);refine _ao e6 (by simp) λg7 e7 s7=>?_;have up:∀c o,c≠e->g4.get? c=some o->g7.get? c=some o:=λc o n z=>zp s7 n (zp s6 n (zp s5 n z));refine _a (_bI (_b ⟨_,rfl,_b (q g7 e7 (i4.to λo z=>up _ o ne.symm z) (up _ _ (_bO el) t4) λc o n1 n2 z=>up c o n1 ((λc o n1 n2 z=>by rw[<- hg4];exact _c _ (zp s3 n1 (zp s2 n1 (zp s1 n2 z)))) c o n1 n2 z))⟩))
theorem zjD   {k:Nat}    (hh:A.handled=none)(he:IsEnum s.heap e it k bM)(h1:Sit b s.heap it l k)(c1:Sco b s.heap l xs)(ex:xs[k]? = none) (q:∀h',Heap.ExtBut it s.heap h'->Q none {s with heap:=h'}):wpAny (model P w) A (pyNext (.ref e)) Q E s:=by
 have hT:s.TypeIs (.ref e) "enumerate":=⟨_,he,rfl⟩;refine _a (_bt (_S  hT _bD (_P _bD hT F.entry_enumerate_next ?_ (F.args_enumerate_next_1 _))));show wpAny _ _ (field (.ref e) 2 >>= _) _ _ _;refine _a (_ai he rfl  rfl (_a (z9O hh h1 c1 ex λh' x cT hx'=>?_)));obtain⟨o,ho,hc⟩:=hx';exact _a (_bh   ⟨o,ho,hc⟩ _c8 (_b (q _ cT)))
end
theorem zdH(b:Bool)(l:Addr)(xs:Array Value): Meets (Builtin.«enumerate.__new__» ⟨[.type "enumerate",.ref l],[]⟩) (λ_ R s=>Sco b s.heap l xs/\R (.ok (.ret (.ref (s.heap.push (itO b l)).objs.size))) {s with heap:=(s.heap.push (itO b l)).push {cls:=.type "enumerate",data:=.fields #[.none,.bool false,.ref s.heap.objs.size,rawInt 0,.none,.none]}}):= .of_wp λprog w A R s h=>by
  obtain⟨hp,g,d,tk,os⟩:=s;obtain⟨c1,h⟩:=h;have cB:=sub_enumerate;have q1  := c1;obtain⟨o,hl⟩:∃o,hp.get? l=some o:=by cases b with
   | true=>obtain⟨o,e,_⟩:=c1;exact⟨o,e⟩ | false=>obtain⟨o,e,_⟩:=c1;exact⟨o,e⟩
  wp_walk using _a1 hl;refine wpAny_stack_any λst=>_b ?_;split
  ·rename_i c _ _ _ _ _;cases (c==Value.type "enumerate")
   ·wp_walk using _a1 hl,z2E q1;exact⟨_,rfl,h⟩
   ·wp_walk using _a1 hl,z2E q1;exact⟨_,rfl,h⟩
  ·wp_walk using _a1 hl,z2E q1;exact⟨_,rfl,h⟩
section
variable {P:Program}{w:World}{A:Around}{E:Value->Shared->Prop}{s:Shared}
theorem zg4     (c1:Sco b s.heap l xs) (h:∀h',IsEnum h' (s.heap.objs.size+1) s.heap.objs.size 0 .none->Sit b h' s.heap.objs.size l 0->(∀c o,s.heap.get? c=some o->h'.get? c=some o)->Q (.ref (s.heap.objs.size+1)) {s with heap:=h'}): wpAny (model P w) A (call (.type "enumerate") [.ref l]) Q E s:=by
 refine callType_new F.called_enumerate (by decide) (F.typeCall_enumerate_1 _) (F.newCall_enumerate_1 _) (λobj=>F.args_object_init_2 obj _) F.entry_enumerate_new (zdH b l xs) ⟨c1,?_⟩;have z1:(s.heap.push (itO b l)).objs.size=s.heap.objs.size+1:=_az ..;have g2:=_k (s.heap.push (itO b l)) (o:={cls:=.type "enumerate",data:=.fields #[.none,.bool false,.ref s.heap.objs.size,rawInt 0,.none,.none]}) rfl;have g1:((s.heap.push (itO b l)).push {cls:=.type "enumerate",data:=.fields #[.none,.bool false,.ref s.heap.objs.size,rawInt 0,.none,.none]}).get? s.heap.objs.size=some (itO b l):=_c _ (_k _ (z0H b l));rw[z1]at g2;rw[z1];exact⟨⟨_,g2,rfl⟩,h _ g2 (z4O g1) λc o e=>_c _ (_c _ e)⟩
end
end Zz
namespace L2
open Zz
def Ite(K:W.Frag)(b:Bool)(l:Addr):It:= ⟨λi H=>∃xs x,Sq b K H l xs/\xs[i]? = some x, λi H v H'=>∃T x,H T=none/\v=.ref T/\H'=upd H T (.tup [.int i,x])/\∀xs,Sq b K H l xs->xs[i]? = some x, λi H=>∃xs,Sq b K H l xs/\xs.length<=i⟩
theorem zaM{P:Program}{w:World}{K:W.Frag}{bR:List Expr}{kt:Nat}{tp:Pos}{b:Bool}{e it l:Addr}(ne:e≠it): zbT P w K (.Tuple bR kt tp) (Ite K b l) [e,it] e (λi h=>(∃bM,IsEnum h e it ((i:Nat):Int) bM)/\Sit b h it l i) where
 mem:=by simp
 obj:=λi h ⟨⟨bM,he⟩,h1⟩ c hc=>by
  rcases (by simpa using hc) with rfl | rfl;·exact⟨_,he,λv z=>by simp at z⟩
  ·exact h1.ob
 keep:=λi h h' ⟨⟨bM,he⟩,h1⟩ k=>⟨⟨bM,k e (by simp) _ he⟩,h1.to λo z=>k it (by simp) o z⟩;item:=by
  intro X hP hw hK hc i ac s O H E I hf ⟨⟨bM,he⟩,h1⟩ ⟨xs,x,qx,ex⟩;subst hP hw hK;obtain⟨ix,rx,cx⟩:=I.sq qx;obtain⟨u,hu,ru⟩:=rx.get ex;refine zgt he h1 cx  (by simpa using hu) ne λg a1 a2 a3 hk=>⟨_,rfl,(wpAny_letOwnedTupleGo_enum a1 λg2 e2 s2=>?_)⟩;obtain⟨f0,f1,f2,f3,f4,f5⟩:=hf e (by simp);have new  := I.fpOk (_h _) (I.hok.fresh (_h _));have el  := _t (_j he);refine⟨.ref s.heap.objs.size,upd H s.heap.objs.size (.tup [.int i,x]),((I.turnedL (t':=s.toks+1)  (λc o n z=>hk c o (λt=>n (by simp[t])) (λt=>n (by simp[t])) z) hf).turned (t':=s.toks+1) (λc o n z=>zp s2 n z) f0 f1 f3 f4 f5).track new ⟨?_,[.int i s.toks,u],.cons ⟨_,rfl⟩ (.cons ru .nil),⟨_,(zp s2 el.symm a3),rfl,rfl,_,rfl⟩⟩,rfl,⟨_,x,new.1,rfl,rfl,λzs qz=>?_⟩,⟨⟨_,by simpa using e2⟩,a2.to λo z=>zp s2 ne.symm z⟩,λc hc=>?_⟩;·show 2<=sizeLine;decide
  ·rw[I.sq_inj qz qx];exact ex
  ·rw[zk (by
    rcases (by simpa using hc) with rfl | rfl;·exact el
    ·exact _t h1.lt)];exact (hf c hc).1
 done:=by
  intro X hP hw hK hc i ac s O H E I hf ⟨⟨bM,he⟩,h1⟩ ⟨xs,qx,hl⟩;subst hP hw hK;obtain⟨ix,rx,cx⟩:=I.sq qx;have lx:=rx.length;obtain⟨f0,f1,f2,f3,f4,f5⟩:=hf it (by simp);exact zjD (I.ok.hd hc) he h1 cx (by simp;lia) λg hk=>⟨rfl,I.turned  (λc o n z=>hk c o n z) f0 f1 f3 f4 f5⟩
 self:=λ_ _ _ _ _ ⟨⟨_,he⟩,_⟩ h=>wpAny_pyIter_enum he h
theorem zfF  {bR:List Expr}{kt:Nat}{tp:Pos}   {p pos:Pos}(hg:Gl X "enumerate")(hm:X.mg "enumerate"=none)(ha:PA X [a] ta)(hs:autoParam (starEach [a] X.env=(false,eval a X.env)::starEach [] X.env) aRf)(bh:autoParam ((backTo pos (starEach [] X.env)).any (·.1)=false) aRf): PI X (.Tuple bR kt tp) (.Call (.Name "enumerate" p) [a] [] pos) (λO H R=>ta O H λvs H1=>∃l b,vs=[.ref l]/\(∃xs,Sq b X.K H1 l xs)/\R (Ite X.K b l) H1):=by
 refine λac s O H R I h=>_aG (jO I hg hm (u:=.type "enumerate") (by decide +kernel) (_ap (thn (ha pos ac s O H _ I h) λus s1 ⟨vs,H1,I1,r1,q1⟩=>?_) hs bh) (by decide) (by decide));obtain⟨l,b,rfl,⟨xs,qx⟩,q⟩:=q1;obtain⟨u,rfl,ru⟩:=vals1 r1;cases ru;obtain⟨ix,rx,cx⟩:=I1.sq qx;refine zg4 cx λg he h1 hk=>(wpAny_pyIter_enum he ⟨_,_,_,_,H1,rfl,I1.kept  hk,zaM (Nat.succ_ne_self _),⟨⟨_,he⟩,h1⟩,λc hc=>?_,q⟩);have cu:s1.heap.objs.size<=c:=by
  rcases (by simpa using hc) with rfl | rfl;·exact Nat.le_succ _
  ·exact _h _
 exact I1.fpOk cu (I1.hok.fresh cu)
end L2
namespace Dd
open L2
section
variable {X:Cx}{E:XK}{e a b c tg ao aw:Expr}{es:List Expr}{pos:Pos}{CX:CXT}
noncomputable def zmb(i j k:Nat)(f:FA):FS:=fun ρ s=>(f ρ s).bind λds s1=>match ds with | [x,y,z]=>.ok (.nx (((ρ.set i (some x)).set j (some y)).set k (some z))) s1 | _=>.no
def z35:Nat->List D->List D
 | _,[]=>[] | i,x::xs=>.tup [.int i,x]::z35 (i+1) xs
theorem kM:∀(i:Nat)(xs:List D),(z35 i xs).length=xs.length
 | _,[]=>rfl | i,x::xs=>by simp[z35,kM (i+1) xs]
theorem z7O:∀{i k:Nat}{xs:List D}{d:D},(z35 i xs)[k]? = some d->∃x,xs[k]? = some x/\d=.tup [.int ((i+k:Nat):Int),x]
 | _,_,[],_,h=>by cases h | i,0,x::xs,d,h=>by simp[z35]at h;exact⟨x,by rfl,by simp[h]⟩ | i,k+1,x::xs,d,h=>by
  simp only[z35,_p]at h;obtain⟨y,h1,h2⟩:=z7O h;refine⟨y,by exact h1,?_⟩;rw[h2,show i+1+k=i+(k+1) by lia]
noncomputable def zcd(f:FA):FI:=fun ρ s=>(f ρ s).bind λds s1=>match ds with
 | [x]=>match zd0 s1 x with
  | some p=>.ok (z35 0 p.1,p.2) s1 | none=>.no
 | _=>.no
theorem zji{p tp:Pos}{bR:List Expr}{kt:Nat}  (hg:Gl X "enumerate")(hm:X.mg "enumerate"=none)(ha:RA X E [a] f)(hs:autoParam (starEach [a] X.env=(false,eval a X.env)::starEach [] X.env) aRf)(bh:autoParam ((backTo pos (starEach [] X.env)).any (·.1)=false) aRf): RI X E (.Tuple bR kt tp) (.Call (.Name "enumerate" p) [a] [] pos) (zcd f):= z2v (zfF hg hm ha hs bh) λO H Q ⟨Y,ρ,s,r,en,h⟩=>by
  refine⟨Y,ρ,s,r,en,(okR.bind  h).imp λvs H1 ⟨Y1,s1,ds,stp,dn,h1⟩=>?_⟩;split at h1
  ·split at h1
   ·rename_i p ex;obtain⟨v,rfl,d1⟩:=z3r dn;obtain⟨k9,b1,a1,rfl,k1⟩:=z6k stp.rep ex d1;obtain⟨w1,q1,_⟩:=k1 H1 Y1 s1 (.refl stp.rep) k9;refine⟨a1,b1,rfl,⟨w1,q1⟩,h1.here stp.rep λH2 Y2 s2 ak og i=>⟨λd hd=>?_,λhl=>?_⟩⟩
    ·obtain⟨x,e1,rfl⟩:=z7O hd;obtain⟨w1,q1,n1⟩:=k1 H2 Y2 s2 ak og;obtain⟨u1,g1,m1⟩:=n1.get e1;refine⟨⟨w1,u1,q1,g1⟩,λz H' ⟨T,p,hT,ez,eH,hp⟩=>?_⟩;subst ez eH;have e3:=hp w1 q1;rw[g1]at e3;cases e3;have bU:=yQ.lay (o:=.tup [.int i,u1]) ak.rep hT (by intro _ z;cases z);refine⟨Y2,bU,?_⟩;simp only[_ay];exact⟨T,[.int i,u1],rfl,zA,(zG.cons yg (zG.one m1)).mono bU⟩
    ·obtain⟨w1,q1,n1⟩:=k1 H2 Y2 s2 ak og;refine⟨w1,q1,?_⟩;rw[n1.length];simpa only [kM] using hl
   ·exact h1.elim
  ·exact h1.elim
end
end Dd
namespace L2
theorem z0Z:∀{xs:List V}{us:List Value},us.length=xs.length->(∀(j:Nat) u,us[j]? = some u->∃x,xs[j]? = some x/\ym x u)->yp xs us
 | [],[],_,_=>.nil | [],_::_,h,_=>by cases h | _::_,[],h,_=>by cases h | x::xs,u::us,h,k=>by
  obtain⟨y,e,r⟩:=k 0 u (by rfl);have:y=x:=by simpa using e.symm
  subst this;exact .cons r (z0Z (by simpa using h) λj v hv=>k (j+1) v (by exact hv))
end L2
namespace Dd
open L2
noncomputable def vb(ft:FT)(fb:FS):Nat->Ev->Sto->R Fl
 | 0,_,_=>.no | k+1,ρ,s=>(ft ρ s).bind λb s1=>if b=true then (fb ρ s1).bind λfl s2=>match fl with
   | .nx ρ'=>vb ft fb k ρ' s2 | .ct ρ'=>vb ft fb k ρ' s2 | .bk ρ'=>.ok (.nx ρ') s2 | .rt d=>.ok (.rt d) s2 else .ok (.nx ρ) s1
theorem kz   : ∀{k:Nat}{ρ:Ev}{s:Sto},vb ft fb k ρ s≠.no->vb ft fb (k+1) ρ s=vb ft fb k ρ s
 | 0,ρ,s,h=>absurd rfl h | k+1,ρ,s,h=>by
  rw[vb]at h ⊢;conv=>rhs;rw[vb]
  cases e:ft ρ s with
  | no=>rfl | ex c t=>rfl | ok b s1=>
   rw[e]at h;simp only[Rb]at h ⊢;cases b with
   | false=>rfl | true=> cases e2:fb ρ s1 with
    | no=>rfl | ex c t=>rfl | ok fl s2=>
     rw[e2]at h;cases fl with
     | nx ρ'=>exact kz h | ct ρ'=>exact kz h | bk ρ'=>rfl | rt d=>rfl
theorem z7A      (h:vb ft fb k ρ s≠.no)(hm:k<=m):vb ft fb m ρ s=vb ft fb k ρ s:=by induction hm with
 | refl=>rfl | step _ ih=>rw[kz (by rw[ih];exact h),ih]
open Classical in
def z2S(ft:FT)(fb:FS):FS:=fun ρ s=>if h:∃k,vb ft fb k ρ s≠.no then vb ft fb h.choose ρ s else .no
theorem z7Q       (h:vb ft fb k ρ s=r)(hr:r≠.no):z2S ft fb ρ s=r:=by
 subst h;have hx:∃k,vb ft fb k ρ s≠.no:=⟨k,hr⟩;unfold z2S;rw[dif_pos hx];rcases Nat.le_total k hx.choose with z | z;·exact z7A hr z
 ·exact (z7A hx.choose_spec z).symm
theorem za9        (hp:PassesOwn (model X.prog X.w) X.A X.env X.xe)(hc:RT X E c ft)(hb:RSs X E body fb):RS X E (.While c body [] pos) (z2S ft fb):= wH (zdw hp hc hb) λD O H ⟨Y,ρ,s,r,en,h⟩=>by
  unfold z2S at h;split at h
  ·refine⟨λm O H=>∃Y ρ s,Rep (gm X) H Y s/\vE (gm X) H Y ρ O/\okR (gm X) E H Y (FlD (gm X)) (vb ft fb m ρ s) (zaz D),⟨_,Y,ρ,s,r,en,h⟩,?_⟩;rintro m O H ⟨Y,ρ,s,r,en,h⟩;cases m with
   | zero=>exact h.elim | succ m=>
    refine⟨Y,ρ,s,r,en,(okR.bind  h).imp λb H1 ⟨Y1,s1,b',stp,eb,h1⟩=>?_⟩;cases (eb);cases b with
    | false=> exact okR.here (b:=FlV.nx O)  h1 stp.rep (en.mono stp) | true=>
     refine⟨λO' H'=>∃Y ρ s,Rep (gm X) H' Y s/\vE (gm X) H' Y ρ O'/\okR (gm X) E H' Y (FlD (gm X)) (vb ft fb m ρ s) (zaz D),λO' H' q=>⟨m,_bQ _,q⟩,Y1,ρ,s1,stp.rep,en.mono stp,(okR.bind  h1).imp λfv H2 ⟨Y2,s2,fl,ak,dn,h2⟩=>?_⟩;cases fl with
     | nx ρ'=> cases fv with
      | nx O'=>exact⟨Y2,ρ',s2,ak.rep,dn,h2⟩ | _=>exact (dn).elim
     | ct ρ'=> cases fv with
      | ct O'=>exact⟨Y2,ρ',s2,ak.rep,dn,h2⟩ | _=>exact (dn).elim
     | bk ρ'=> cases fv with
      | bk O'=>exact okR.here (b:=FlV.nx O')    h2 ak.rep dn | _=>exact (dn).elim
     | rt d=> cases fv with
      | rt v=>exact okR.here  (Q:=zaz D)   h2 ak.rep dn | _=>exact (dn).elim
  ·exact h.elim
end Dd
namespace PySem
open PySem.AutoSeq1 (wpAny_loadPart')
open MeetsSeq MeetsSeq2 SeqAt
theorem z8k      (f:Nat->β->Sem (ForInStep β))(I:Nat->β->Shared->Prop)(Q:β->Shared->Prop)(n:Nat) (turn:∀i b s,i<n->I i b s->wpAny M A (f i b) (λr s'=>match r with | .yield b'=>I (i+1) b' s' | .done b'=>Q b' s') E s) (fin:∀b s,I n b s->Q b s)(b:β)(h:I 0 b s):wpAny M A (forIn ([0:n]:Std.Legacy.Range) b f) Q E s:=by
 rw[Std.Legacy.Range.forIn_eq_forIn_range'];refine _bw f (λvF b s'=>∃i,vF=List.range' i (n-i)/\i<=n/\I i b s') _ ?_ ?_ _ _ ⟨0,by simp,_aI _,h⟩
 ·rintro x vF b s' ⟨i,hr,hi,hI⟩;have ck:i<n:=by
   rcases _c4 i n with h | h;·exact h
   ·rw[Nat.sub_eq_zero_of_le h]at hr;simp at hr
  obtain⟨rfl,gF⟩:x=i/\vF=List.range' (i+1) (n-(i+1)):=by
   rw[(show n-i=(n-(i+1))+1 from by omega)]at hr;injection hr with h1 h2;exact⟨h1,h2⟩
  refine _z (turn x b s' ck hI) (λr s2 hr=>?_) λ_ _ h'=>h';cases r with
  | done b'=>exact hr | yield b'=>exact⟨x+1,gF,ck,hr⟩
 ·rintro b s' ⟨i,hr,hi,hI⟩;have:i=n:=by
   have:=_au List.length hr;simp at this;omega
  subst this;exact fin _ _ hI
theorem z28 (l:Addr) (items:Array Value) (n:Nat) (dd:Option Addr) (sl:Array (Option Value)) (x:Value) (e:Value->Bool) (j:Nat) (hj:j<items.size) (cO:e items[j]=true) (sv:∀m (hm:m<items.size),m<j->e items[m]=false): Meets (Builtin.«tuple.index» ⟨[.ref l,x],[]⟩) (λA R s=>s.heap.get? l=some {cls:=.type "tuple",dict:=dd,data:=.seq items n,slots:=sl}/\(∀y,y∈items->EqAt A.in1 s y x (e y))/\R (.ok (.ret (.int j s.toks))) {s with toks:=s.toks+1}):= .of_wp λprog w A R s h=>by
  obtain⟨hp,g,d,tk,os⟩:=s;obtain⟨hl,he,h⟩:=h;wp_walk using _a1 hl,z8k _ (λi b s'=>b.1=none/\s'=⟨hp,g,d,tk,os⟩/\i<=j) _ _;case turn=>
   rintro i ⟨b1,b2⟩ s' hi ⟨hb,rfl,aI⟩;rw[(Nat.min_self _)]at hi;rw[Array.getElem?_eq_getElem hi];refine _a (he _ (Array.getElem_mem hi) prog w _ _ ?_);rcases Nat.lt_or_eq_of_le aI with lt | rfl
   ·wp_walk;exact⟨rfl,rfl,lt⟩
   ·wp_walk;exact⟨_,rfl,h⟩
  case fin=> omega
  case h=>exact⟨rfl,rfl,_aI _⟩
end PySem
namespace L2
section
variable {X:Cx}{o e:Expr}{to:TE}{t:TA}{name:Str}{aV aG:Pos}{id:String}{r:V->List V->Hp->VK->Prop}
theorem zhu(slot:Slot "tuple" name id)(iV:typeOf (.builtin id)=pure (.type "method_descriptor"))(hm:MtR X id r)(ho:PE X o to)(ha:PA X [e] t) (aW:autoParam (attributeBase o name X.env (eval o X.env)=eval o X.env) aRf) (bY:autoParam (((backTo aG (starEach [e] X.env)).all (λx=>!x.1)&&(backToKw aG (keywordEach [] X.env)).all (λx=>x.1.isSome) && decide ([e].length+([]:List Keyword).length+(if ([]:List Keyword).isEmpty then 0 else 1)<30))=true) aRf) (aD:autoParam ((aV.endLine==aG.line)=true) aRf)(hs:autoParam (starEach [e] X.env=(false,eval e X.env)::starEach [] X.env) aRf)(bn:autoParam ((backTo aG (starEach [] X.env)).any (·.1)=false) aRf): PE X (.Call (.Attribute o name aV) [e] [] aG) (λO H Q=>to O H λx H1=>(∃p vs,x=.ref p/\H1 p=some (.tup vs))/\t O H1 λxs H2=>r x xs H2 Q):=by
 refine λac s O H Q I h=>wpAny_Call_method_late aW bY aD rfl (thn (ho ac s O H _ I h) λv s1 ⟨x,H1,I1,r1,ty,q1⟩=>?_);obtain⟨p,vs,rfl,hp⟩:=ty;cases r1;obtain⟨_,ae,_,ob,e1,c1,d1,n,w1⟩:=I1.hok p _ hp;refine⟨"tuple",id,PySem.F.plainAttrs_tuple,slot,iV,⟨ob,e1,c1⟩,λa e=>?_,?_⟩
 ·cases e;exact⟨ob,e1,d1⟩
 have hA:=ha aG ac s1 O H1 _ I1 q1;rw[hs]at hA ⊢;exact _ci (by show (false||(backTo aG (starEach [] X.env)).any (·.1))=false;rw[bn]<;>rfl) (_bH (thn hA λus s2 ⟨vs,H2,I2,r2,q2⟩=>hm ac s2 O H2 (.ref p) vs _ us Q I2 rfl r2 q2))
theorem kF:∀{ns:List Int}{ae:List Value},yp (ns.map V.int) ae->IntsAre ae ns
 | [],_,.nil=>.nil | n::ns,_,.cons r rs=>by
  obtain⟨t,rfl⟩:=r;exact .cons n t (kF rs)
def zlj:V->List V->Hp->VK->Prop:=λx vs H Q=>∃(p:Addr)(ns:List Int)(k:Int),x=.ref p/\vs=[.int k]/\H p=some (.tup (ns.map V.int))/\k∈ns/\Q (.int (ns.idxOf k:Nat)) H
theorem z6C:MtR X "tuple.index" zlj:=by
 intro ac s O H x vs v us Q I rx rv h;obtain⟨p,ns,k,rfl,rfl,hp,hk,q⟩:=h;cases rx;obtain⟨u,rfl,⟨t,rfl⟩⟩:=vals1 rv;obtain⟨_,ae,r,ob,e1,c1,d1,n,w1⟩:=I.hok p _ hp;have hi:=kF r;have aF:=hi.length;have hj  := List.idxOf_lt_length_iff.mpr hk;obtain⟨cls,dd,data,sl⟩:=ob;simp only at c1 d1 w1;subst c1 d1 w1;refine call_meets PySem.F.slot_tuple_index ⟨_,e1,rfl⟩ PySem.F.entry_tuple_index (PySem.F.args_tuple_index_2 _ _) (z28 p ae.toArray n _ sl (.int k t) (isInt k) (ns.idxOf k) (by simpa[aF] using hj) ?_ ?_) ⟨e1,λy hy=>(eq_isInt k t hi y (by simpa using hy)).at _ _,?_⟩
 ·show isInt k ae[ns.idxOf k]=true;rw[isInt_at k hi _ (by omega) hj];simpa using List.getElem_idxOf hj
 ·intro j oC ck;show isInt k ae[j]=false;rw[isInt_at k hi j (by simpa using oC) (by omega)];exact ne_of_lt_idxOf ck _
 ·exact⟨.int (ns.idxOf k:Nat),H,I.kept (λb o e=>e),⟨s.toks,rfl⟩,q⟩
end
end L2
namespace Dd
open L2
section
variable {X:Cx}{E:XK}{o e:Expr}{pos:Pos}
noncomputable def zc0(fo fv:FE):FE:=fun ρ s=>(fo ρ s).bind λo s1=>match o with
 | .tup ds=>(fv ρ s1).bind λd s2=>match intsOf ds,d with
  | some ns,.int k=>if k∈ns then .ok (.int (ns.idxOf k:Nat)) s2 else .no | _,_=>.no
 | _=>.no
theorem z3Z{aV:Pos}  (ho:RE X E o fo)(hv:RE X E e fv)(aW:autoParam (attributeBase o "index" X.env (eval o X.env)=eval o X.env) aRf) (bY:autoParam (((backTo pos (starEach [e] X.env)).all (λx=>!x.1)&&(backToKw pos (keywordEach [] X.env)).all (λx=>x.1.isSome) && decide ([e].length+([]:List Keyword).length+(if ([]:List Keyword).isEmpty then 0 else 1)<30))=true) aRf) (aD:autoParam ((aV.endLine==pos.line)=true) aRf)(hs:autoParam (starEach [e] X.env=(false,eval e X.env)::starEach [] X.env) aRf)(bn:autoParam ((backTo pos (starEach [] X.env)).any (·.1)=false) aRf): RE X E (.Call (.Attribute o "index" aV) [e] [] pos) (zc0 fo fv):= zR (zhu PySem.F.slot_tuple_index PySem.F.type_tuple_index z6C ho (uT hv z1i hs) aW bY aD hs bn) λO H Q ⟨Y,ρ,s,r,en,h⟩=>by
  refine⟨Y,ρ,s,r,en,(okR.bind  h).imp λov H1 ⟨Y1,s1,od,stp,dn,h1⟩=>?_⟩;cases od with
  | tup ds=>
   refine⟨(by
    obtain⟨a,vs,rfl,e1,_⟩:=dn;exact⟨a,vs,rfl,e1⟩),⟨Y1,ρ,s1,stp.rep,en.mono stp,(okR.bind  h1).imp λv H2 ⟨Y2,s2,d,ak,aJ,h2⟩=>?_⟩⟩;split at h2
   ·rename_i ns k ei;split at h2
    ·rename_i hk;obtain⟨a,vs,rfl,e1,e2⟩:=(dn.mono ak);rw[jc ei]at e2;cases jd e2;cases zO aJ;exact⟨a,ns,k,rfl,rfl,e1,hk,okR.here h2 ak.rep yg⟩
    ·exact h2.elim
   ·exact h2.elim | _=>exact h1.elim
@[simp] theorem zhp (fo fv:FE)(ρ:Ev)(s:Sto):zc0 fo fv ρ s=(fo ρ s).bind λo s1=>match o with
 | .tup ds=>(fv ρ s1).bind λd s2=>match intsOf ds,d with
  | some ns,.int k=>if k∈ns then .ok (.int (ns.idxOf k:Nat)) s2 else .no | _,_=>.no
 | _=>.no:=id rfl
end
def zii(P:Program)(w:World)(K:W.Frag)(mg:Str->Option Value)(x:Str)(tb:List (Str×Str)):Prop:= ∃a o es ep,mg x=some (.ref a)/\(a==sysModules)=false/\K.lookup a=some o/\o.ExactDict/\o.data=.dict es ep/\PySem.KeysOf (zH P w) es/\ (∀k y,tb.lookup k=some y->∃f,findBy (zH P w).is es (.inr k)=some (.ref f)/\mg y=some (.ref f))/\∀k,tb.lookup k=none->findBy (zH P w).is es (.inr k)=none
theorem z4D     (r:ym (.str k) u):(zH P w).is (.inr k) u=true:=by
 obtain⟨t,e⟩:=(r);subst e;exact z1J k t
section
variable {X:Cx}{E:XK}{e a b c:Expr}{es:List Expr}{pos:Pos}{CX:CXT}
theorem z72  {O:L2.St}       (I:Inv X ac O H s)(hk:X.K.lookup d=some o)(hx:o.ExactDict)(hd:o.data=.dict en ep)(ks:PySem.KeysOf (zH X.prog X.w) en): s.heap.MapOf (zH X.prog X.w) d (λk=>findBy (zH X.prog X.w).is en k):=⟨o,en,ep,I.kIn d o hk,hx,hd,ks,λ_=>rfl⟩
noncomputable def zkT(tb:List (Str×Str))(f:FE):FE:=fun ρ s=>(f ρ s).bind λd s1=>match d with
 | .str k=>match tb.lookup k with | some y=>.ok (.fn y) s1 | none=>.no
 | _=>.no
theorem zkb     (hT:zii X.prog X.w X.K X.mg x tb)(hg:Gl X x)(he:RE X E e f)(hs:z6o e)(br:autoParam ((x==("__debug__":Str))=false) aDe): RE X E (.Subscript (.Name x p) e pos) (zkT tb f):=by
 obtain⟨d,o,en,ep,hm,mP,hk,hx,hd,ks,h1,h2⟩:=hT;refine zR (zik (r:=λv y H Q=>v=.ref d/\∃k g,y=.str k/\findBy (zH X.prog X.w).is en (.inr k)=some (.ref g)/\Q (.ref g) H) ?_ (z6s hg hm (show ym (.ref d) (.ref d) from rfl) br) he hs) λO H Q ⟨Y,ρ,s,r,en',h⟩=>?_
 ·intro aC slice ac s O H v y u u2 Q I rx ry h bO;obtain⟨rfl,k,g,rfl,hf,q⟩:=h;cases rx;have mp:=z72 I hk hx hd ks;exact _ch  mp.typeIs PySem.F.slot_dict_getitem.lookup (wpAny_getItem_of  (z4D ry) mp hf ⟨rfl,.ref g,H,I.tok _,rfl,q⟩) bO
 ·refine⟨Y,ρ,s,r,en',(okR.bind  h).imp λv H1 ⟨Y1,s1,dd,stp,dn,q⟩=>?_⟩;split at q
  ·rename_i k;split at q
   ·rename_i y hy;obtain⟨g,e1,e2⟩:=h1 k y hy;cases z39 dn;exact⟨rfl,k,g,rfl,e1,okR.here  q stp.rep (⟨g,rfl,e2⟩)⟩
   ·exact q.elim
  ·exact q.elim
noncomputable def zaQ(tb:List (Str×Str))(bA:Bool)(f:FE):FE:=fun ρ s=>(f ρ s).bind λd s1=>match d with
 | .str k=>.ok (.bl (xor bA (tb.lookup k).isSome)) s1 | _=>.no
theorem zgm     (hT:zii X.prog X.w X.K X.mg x tb)(hg:Gl X x)(he:RE X E e f)(oE:autoParam (behindInMarks .In (.Name x p)=false) aRf)(br:autoParam ((x==("__debug__":Str))=false) aDe): RE X E (.Compare e [.In] [.Name x p] pos) (zaQ tb false f):=by
 obtain⟨d,o,en,ep,hm,mP,hk,hx,hd,ks,h1,h2⟩:=hT;refine zR (zb9 (r:=λy v H Q=>v=.ref d/\∃k,y=.str k/\Q (.bl (findBy (zH X.prog X.w).is en (.inr k)).isSome) H) ?_ he (z6s hg hm (show ym (.ref d) (.ref d) from rfl) br) oE) λO H Q ⟨Y,ρ,s,r,en',h⟩=>?_
 ·intro ac s O H y v u u2 Q I ry rx h;obtain⟨rfl,k,rfl,q⟩:=h;cases rx;exact wpAny_in_of (z4D ry) mP (z72 I hk hx hd ks) ⟨.bl _,H,I.tok _,rfl,q⟩
 ·refine⟨Y,ρ,s,r,en',(okR.bind  h).imp λv H1 ⟨Y1,s1,dd,stp,dn,q⟩=>?_⟩;split at q
  ·rename_i k;cases z39 dn;exact⟨rfl,k,rfl,okR.here  q stp.rep (by change V.bl _=V.bl _;simp[(show (findBy (zH X.prog X.w).is en (.inr k)).isSome=(tb.lookup k).isSome from by cases z:tb.lookup k with
    | none=>rw[h2 k z];rfl | some y=>obtain⟨g,e1,_⟩:=h1 k y z;rw[e1];rfl)])⟩
  ·exact q.elim
noncomputable def z7u(i:Nat)(Ms:List (Str×Mir))(f:FA):FE:=fun ρ s=>match ρ[i]? with
 | some (some (.fn y))=>match Ms.lookup y with
  | some M=>(f ρ s).bind λxs s1=>M xs s1 | none=>.no
 | _=>.no
theorem zgl (i:Nat)  {p:Pos}  {Ms:List (Str×Mir)}  (F:∀y M,Ms.lookup y=some M->Has X.prog X.w X.K X.mg X.base CX y n M) (hr:kr n X.A) (oF:Passes CX X E) (ha:RA X E (e::es) f) (hN:autoParam (X.N[i]? = some x) aRf) (hv:Vis X.env.scope x:=by first | exact Or.inl rfl | exact Or.inr (Or.inl rfl) | exact Or.inr (Or.inr rfl)) (hd:autoParam ((x==("__debug__":Str))=false) aDe) (ce:autoParam ((x==("__classdict__":Str))=false) aDe) (he:autoParam (starEach (e::es) X.env=(false,eval e X.env)::starEach es X.env) aRf) (bh:autoParam ((backTo pos (starEach es X.env)).any (·.1)=false) aRf):RE X E (.Call (.Name x p) (e::es) [] pos) (z7u i Ms f):=by
 intro ac s O H Q I ⟨Y,ρ,st,r,en,h⟩;unfold z7u at h;split at h
 ·rename_i y hy;split at h
  ·rename_i M hM;obtain⟨v,oG,dv⟩:=en.at_ i (.fn y) hy;obtain⟨g,rfl,eI⟩:=dv;obtain⟨fa,fd,ps,Fk,hb,hk,hm⟩:=F y M hM;have e0:g=fa:=by cases eI.symm.trans hm;rfl
   subst e0;refine _aG (thn (zab  hN hv hd ce ac s O H (λv H1=>v=.ref g/\H1=H) I ⟨.ref g,oG,rfl,rfl⟩) λu s1 ⟨v,H1,I1,r1,e1,e2⟩=>?_);subst e1 e2;cases r1;exact W.callWith_K  I1.ok.mod.kin hk (thn (ha pos ac s1 O H1 (λvs H2=>ze1 (gm X) M (vs++[]) H2 Q E) I1 (vW (k:=fun ρ xs s1=>M xs s1) r en h _ λvs H2 Y2 s2 ds r2 bw aJ ak h3=>by
    rw[_bn];exact⟨Y2,s2,ds,r2,aJ,h3⟩)) λus s2 ⟨vs,H2,I2,r2,q⟩=>⟨I2.kIn,(zbM Fk hr hb .nil oF I2 r2 q)⟩) he bh
  ·exact h.elim
 ·exact h.elim
@[simp] theorem zlp (tb:List (Str×Str))(f:FE)(ρ:Ev)(s:Sto):zkT tb f ρ s=(f ρ s).bind λd s1=>match d with
 | .str k=>match tb.lookup k with | some y=>.ok (.fn y) s1 | none=>.no
 | _=>.no:=id rfl
@[simp] theorem zjO (tb:List (Str×Str))(bA:Bool)(f:FE)(ρ:Ev)(s:Sto):zaQ tb bA f ρ s=(f ρ s).bind λd s1=>match d with
 | .str k=>.ok (.bl (xor bA (tb.lookup k).isSome)) s1 | _=>.no:=id rfl
@[simp] theorem zd1 (i:Nat)(Ms:List (Str×Mir))(f:FA)(ρ:Ev)(s:Sto):z7u i Ms f ρ s=match ρ[i]? with
 | some (some (.fn y))=>match Ms.lookup y with
  | some M=>(f ρ s).bind λxs s1=>M xs s1 | none=>.no
 | _=>.no:=id rfl
end
theorem yQ.cut     (stp:yQ mg H Y H1 Y1 s1):yQ mg H Y H1 (Y1.take Y.length) (s1.take Y.length):=by
 have dk:DkS H1 Y1 H1 (Y1.take Y.length):=λb hb kvs e=>⟨_ae hb,e⟩;refine⟨⟨by simp[stp.rep.len],stp.rep.nd.sublist (_cf _ _),λj ys h=>?_,λys h=>stp.rep.flat ys (_ae h),λb h z=>stp.rep.own b (dk.own h) (_ae z),dk.uq stp.rep⟩,?_,stp.keep,λc h1 h2=>stp.new c (_ae h1) h2,stp.mt,stp.dom,λb h=>stp.ow b (dk.own h)⟩
 ·have hj:j<Y.length:=by
   have:=(_d.mp h).1;simp at this;lia
  rw[_aQ hj]at h ⊢;obtain⟨c,q1,q2⟩:=stp.rep.cell j ys h;exact⟨c,q1,q2.flatten (λ_ _ h _ _ _=>h) (stp.rep.flat _ (_r h)) rfl (_r q1) stp.rep.own (λ_ _ _ q=>q)⟩
 ·obtain⟨t,ht⟩:=stp.pre;exact⟨[],by rw[<- ht];simp⟩
theorem yQ.frzC       (stp:yQ mg H Y H1 Y1 s1)  (hl:Y.length<=l)(hx:s1[l]? = some xs)(e1:Y1[l]? = some a)(ka:IsL H1 a):∃vs,H1 a=some (.lst vs)/\ ∀o,yQ mg H Y (upd H1 a (.frz o (.lst vs))) (Y1.take Y.length) (s1.take Y.length)/\Den mg (upd H1 a (.frz o (.lst vs))) (Y1.take Y.length) (.lst xs) (.ref a):=by
 obtain⟨vs,e2,e3⟩:=stp.rep.at_ hx e1 ka;refine⟨vs,e2,λo=>?_⟩;have an:a∉Y:=λz=>by
  obtain⟨j,hj,ej⟩:=_D.mp z;obtain⟨t,ht⟩:=stp.pre;have:=(_bN stp.rep.nd).mp (((_d.mp (by rw[<- ht,_u hj,_e hj,ej])).2).trans ((_d.mp e1).2).symm);lia
 have a0  := stp.new a (_r e1) an;have k:∀b u,H1 b=some u->(∀vs,u≠.lst vs)->(∀kvs,u≠.dT kvs)->(∀kvs,kvs≠[]->u≠.dK kvs)->upd H1 a (.frz o (.lst vs)) b=some u:=λb u h hn _ _=>by rw[zk (λz=>by subst z;rw[e2]at h;exact hn vs (_I h).symm)];exact h
 have dk:DkS H1 Y1 (upd H1 a (.frz o (.lst vs))) (Y1.take Y.length):=λb hb kvs e=>by
  by_cases z:b=a;·subst z;rw[zA]at e;cases e
  ·rw[zk z]at e;exact⟨_ae hb,e⟩
 have mem:∀{j:Nat}{ys:List D},s1[j]? = some ys->D.flat.flats ys=true:=λe=>stp.rep.flat _ (_r e);refine⟨⟨⟨by simp[stp.rep.len],stp.rep.nd.sublist (_cf _ _),λj ys h=>?_,λys h=>stp.rep.flat ys (_ae h),λb h z=>stp.rep.own b (dk.own h) (_ae z),dk.uq stp.rep⟩,?_,λb u h n g=>?_,λc h1 h2=>stp.new c (_ae h1) h2,λb hb=>?_,λb h=>stp.dom b (z1G h),λb h=>stp.ow b (dk.own h)⟩,?_⟩
 ·have hj:j<Y.length:=by
   have:=(_d.mp h).1;simp at this;lia
  rw[_aQ hj]at h ⊢;obtain⟨c,q1,q2⟩:=stp.rep.cell j ys h;refine⟨c,q1,q2.flatten k (mem h) (zk λz=>?_) (_r q1) stp.rep.own (λb vs hb q=>by rw[zk (show b≠a from λz=>hb (z ▸ _r e1))];exact q)⟩;subst z;have:=(_bN stp.rep.nd).mp (((_d.mp q1).2).trans ((_d.mp e1).2).symm);lia
 ·obtain⟨t,ht⟩:=stp.pre;exact⟨[],by rw[<- ht];simp⟩
 ·rw[zk (λz=>by subst z;rw[a0]at h;cases h)];exact stp.keep b u h n g
 ·have ne:b≠a:=λz=>an (z ▸ hb);rcases stp.mt b hb with⟨q1,q2⟩ | ⟨q1,q2,q3⟩;·exact .inl ⟨q1,by rw[IsL,zk ne];exact q2⟩
  ·exact .inr ⟨q1,by rw[IsC,zk ne];exact q2,λo u z=>by rw[zk ne];exact q3 o u z⟩
 ·exact⟨a,o,vs,rfl,zA,(λf h=>h.flatten k f) (mem hx) e3⟩
noncomputable def zi9(n:Nat):R D->R D
 | .ok (.loc l) s1=>match s1[l]? with
  | some xs=>if n<=l then .ok (.lst xs) (s1.take n) else .no | none=>.no
 | .ok _ _=>.no | .ex c s1=>.ex c s1 | .no=>.no
noncomputable def z27(f:FE):FE:=fun ρ s=>zi9 s.length (f ρ s)
section
variable {X:Cx}{E:XK}{e:Expr}
theorem zbl  (h:RE X E e f):RE X E e (z27 f):= zR (PE.freeze h) λO H Q ⟨Y,ρ,s,r,en,h⟩=>by
  refine⟨Y,ρ,s,r,en,?_⟩;unfold z27 zi9 at h;split at h
  ·rename_i l s1 e1;rw[e1];split at h
   ·rename_i xs ex;split at h
    ·rename_i hl;intro v H1 Y1 stp dn;obtain⟨a,rfl,q1,ka⟩:=dn;obtain⟨vs,q2,q3⟩:=stp.frzC (by rw[r.len];exact hl) ex q1 ka;rw[<- r.len]at h;exact⟨a,vs,rfl,q2,λo=>h _ _ _ (q3 o).1 (q3 o).2⟩
    ·exact h.elim
   ·exact h.elim
  ·exact h.elim
  ·rename_i e1;rw[e1];exact h
  ·exact h.elim
end
@[simp] theorem zeS (f:FE)(ρ:Ev)(s:Sto):z27 f ρ s=zi9 s.length (f ρ s):=id rfl
@[simp] theorem zdy   : zi9 s.length (.ok (.loc s.length) (s++[xs]))=.ok (.lst xs) s:=by simp[zi9]
noncomputable def z88(n:Nat):R D->R D
 | .ok (.loc l) s1=>if l<n then .ok (.loc l) (s1.take n) else .ok (.loc l) s1 | .ok d s1=>if d.flat=true then .ok d (s1.take n) else .ok d s1 | r=>r
noncomputable def z8P(M:Mir):Mir:=λds s=>z88 s.length (M ds s)
theorem zfl       (h:ze1 mg (z8P M) vs H Q E):ze1 mg M vs H Q E:=by
 obtain⟨Y,s,ds,r,dn,h⟩:=h;refine⟨Y,s,ds,r,dn,?_⟩;unfold z8P z88 at h;split at h
 ·rename_i l s1 e;rw[e];split at h
  ·rename_i hl;intro v H1 Y1 stp dv;rw[<- r.len]at h;refine h v H1 _ stp.cut ?_;obtain⟨a,rfl,e1,ka⟩:=dv;exact⟨a,rfl,by rw[_aQ (by rw[r.len];exact hl)];exact e1,ka⟩
  ·exact h
 ·rename_i d s1 hn e;rw[e];split at h
  ·rename_i hf;intro v H1 Y1 stp dv;rw[<- r.len]at h;exact h v H1 _ stp.cut (dv.flatten (λ_ _ h _ _ _=>h) hf)
  ·exact h
 ·exact h
section
variable {P:Program}{w:World}{K:W.Frag}{mg:Str->Option Value}{base:Heap}
theorem Has.tidy     (h:Has P w K mg base CX x n M):Has P w K mg base CX x n (z8P M):=by
 obtain⟨f,fd,ps,F,r⟩:=h;exact⟨f,fd,ps,F.imp λvs H Q E h=>zfl h,r⟩
end
@[simp] theorem zfI (M:Mir)(ds:List D)(s:Sto):z8P M ds s=z88 s.length (M ds s):=id rfl
@[simp] theorem z8x    (h:d.flat=true):z88 n (.ok d s1)=.ok d (s1.take n):=by cases d<;>first | exact nomatch (h:false=true) | simp[z88,h]
section
variable {X:Cx}{E:XK}{e a b c:Expr}{es:List Expr}{pos:Pos}{CX:CXT}
theorem za4     (F:Has X.prog X.w X.K X.mg X.base CX x n M)(hr:kr n X.A)(hx:Passes CX X E)(hg:Gl X x)(br:autoParam ((x==("__debug__":Str))=false) aDe):RE X E (.Call (.Name x p) [] [] pos) (zh M zn):=by
 obtain⟨fa,fd,ps,F,hb,hk,hm⟩:=F;exact zR (zc4 F hr hg hm hk hb .nil hx br) λO H Q ⟨Y,ρ,s,r,en,h⟩=>⟨Y,s,[],r,zG.nil,h⟩
end
section
variable {P:Program}{w:World}{K:W.Frag}{mg:Str->Option Value}{base:Heap}{CX:CXT}{n:Nat}
noncomputable def zbK:List DictEntry->List (Str×Value)
 | []=>[] | e::es=>match e.key with
  | .str k _=>(k,e.val)::zbK es | _=>zbK es
theorem kj {P:Program} {w:World}  : ∀{es:List DictEntry},findBy (zH P w).is es.toArray (.inr k)=(zbK es).lookup k
 | []=>by simp[findBy,zbK] | e::es=>by
  have ih:=kj (P:=P) (w:=w) (k:=k) (es:=es);simp only[findBy,List.find?_toArray]at ih ⊢;rw[List.find?_cons];cases hk:e.key with
  | str y t=>
   simp only[zbK,hk,_Z];by_cases z:k=y
   ·subst z;simp[z13]
   ·rw[(show (zH P w).is (.inr k) (.str y t)=false from by
     rw[z2p];cases q:z3S (.inr k) (.str y t) with
     | false=>rfl | true=>
      rcases yb q with⟨i,u,h1,h2⟩ | ⟨x,u,h1,h2⟩;·cases h2
      ·cases h1;cases h2;exact absurd rfl z),show (k==y)=false from by simpa using z];exact ih | _=>
   simp only[zbK,hk,(show (zH P w).is (.inr k) e.key=false from by
    rw[z2p];cases q:z3S (.inr k) e.key with
    | false=>rfl | true=>
     rcases yb q with⟨i,u,h1,h2⟩ | ⟨x,u,h1,h2⟩;·cases h1
     ·rw[hk]at h2;cases h2)];exact ih
theorem zcg:∀y M,([]:List (Str×Mir)).lookup y=some M->Has P w K mg base CX y n M:=λy M h=>by simp at h
theorem jI    (h:Has P w K mg base CX x n M0)(hs:∀y M,Ms.lookup y=some M->Has P w K mg base CX y n M):∀y M,((x,M0)::Ms).lookup y=some M->Has P w K mg base CX y n M:=λy M e=>by
 rw[_Z]at e;split at e
 ·rename_i hb;cases e;have:y=x:=by simpa using hb
  subst this;exact h
 ·exact hs y M e
end
def Sub(K:W.Frag)(h:Heap):Prop:=∀p∈K,h.get? p.1=some p.2
theorem Sub.in_{K:W.Frag}  (s:Sub K h):K.In h:=λa o e=>by induction K with
 | nil=>simp at e | cons p K ih=>
  obtain⟨b,u⟩:=p;rw[_Z]at e;split at e
  ·rename_i hb;cases e;have:a=b:=by simpa using hb
   subst this;exact s (a,o) (by simp)
  ·exact ih (λq hq=>s q (by simp[hq])) e
theorem z3x(h:Heap)(a:Addr):Sub (z64 h a) h:=λp hp=>by
 unfold z64 at hp;split at hp
 ·rename_i o e;simp at hp;subst hp;exact e
 ·simp at hp
theorem Sub.app{K L:W.Frag}  (a:Sub K h)(b:Sub L h):Sub (K++L) h:=λp hp=>(_C.mp hp).elim (a p) (b p)
theorem zf3(h:Heap)(ns:List Str):Sub (gat h ns) h:=by
 refine (z3x h _).app λp hp=>?_;obtain⟨x,_,hx⟩:=_cD.mp hp;unfold zly at hx;split at hx
 ·rcases _C.mp hx with hx | hx;·exact z3x h _ p hx
  ·split at hx
   ·split at hx;·exact z3x h _ p hx
    ·simp at hx
   ·exact z3x h _ p hx
   ·simp at hx
 ·simp at hx
def zlq(K:W.Frag)(x:Str)(st:Stmt):Prop:=∃f fd,W.nsIn K mainGlobals x=some (some (.ref f))/\Fun K x x st f fd
theorem zfQ{K:W.Frag}  {st:Stmt}(h:zgn K x=zkq x st):zlq K x st:=by
 unfold zgn zkq at h;split at h
 ·rename_i f hf;split at h
  ·rename_i oc od fd sl hl;simp only[_J,_bB]at h;obtain⟨h1,h2,h3,h4,h5,h6,h7,h8,h9,dM,mJ⟩:=h;obtain⟨a1,a2,a3,a4,a5,a6,a7,a8,a9,sw,sA,sB,sC,sD,sE⟩:=fd;simp only at h1 h2 h3 h4 h5 h6 h7 h8 h9 dM;subst h1 h3 h4 h5 h6 h7 h8 h9;subst h2;exact⟨f,_,hf,zj0 hl dM mJ⟩
  ·cases h
 ·cases h
theorem zcf{K:W.Frag}  (h:zfN K x=true):W.nsIn K mainGlobals x=some none:=by
 unfold zfN at h;split at h;·rename_i e;exact e
 ·cases h
theorem zdA{K:W.Frag}   (h:zgZ K x=some i):∃t,W.nsIn K mainGlobals x=some (some (.int i t)):=by
 unfold zgZ at h;split at h;·rename_i j t e;cases h;exact⟨t,e⟩
 ·cases h
theorem z75   {K:W.Frag}   (X:K.In h)(G:h.Ns mainGlobals mg):∀{es:List DictEntry}{tb:List (Str×Str)},z87 K es (tb.map (·.2))=tb.map (λp=>(PyData.keyHash w.params p.1,some p.1,true))-> PySem.KeysOf (zH P w) es.toArray/\(∀k y,tb.lookup k=some y->∃f,(zbK es).lookup k=some (.ref f)/\mg y=some (.ref f))/\∀k,tb.lookup k=none->(zbK es).lookup k=none
 | [],[],_=>⟨λe he=>by simp at he,λk y h=>by simp at h,λk _=>by simp[zbK]⟩ | [],_::_,h=>by simp[z87]at h | _::_,[],h=>by simp[z87]at h | e::es,(k0,y0)::tb,h=>by
  simp only[_H,z87,_be,_bB]at h;obtain⟨⟨h1,h2,h3⟩,h4⟩:=h;obtain⟨i1,i2,i3⟩:=z75 (P:=P) X G h4;obtain⟨hh,kk,vv⟩:=e;simp only at h1 h2 h3;cases kk with
  | str ks t=>
   simp only[zbo,_J]at h2;subst h2;obtain⟨f,rfl,e1⟩:=(show ∃f,vv=.ref f/\W.nsIn K mainGlobals y0=some (some (.ref f)) from by
    unfold sameRef at h3;split at h3
    ·rename_i f g e1;have:f=g:=by simpa using h3
     subst this;exact⟨f,rfl,e1⟩
    ·cases h3);refine⟨λe he=>?_,λk y hy=>?_,λk hy=>?_⟩
   ·simp only[List.mem_toArray,_n]at he;rcases he with rfl | he;·exact⟨.inr ks,z1J ks t,h1⟩
    ·exact i1 e (by simpa using he)
   ·simp only[zbK,_Z]at hy ⊢;by_cases z:k=ks
    ·subst z;simp at hy ⊢;subst hy;exact W.mg_of X G e1
    ·rw[show (k==ks)=false from by simpa using z]at hy ⊢;exact i2 k y hy
   ·simp only[zbK,_Z]at hy ⊢;by_cases z:k=ks;·subst z;simp at hy
    ·rw[show (k==ks)=false from by simpa using z]at hy ⊢;exact i3 k hy | _=>simp[zbo]at h2
theorem zfe   {K:W.Frag}     (X:K.In h)(G:h.Ns mainGlobals mg)(e:zgh K x (tb.map (·.2))=zk9 w tb):zii P w K mg x tb:=by
 unfold zgh zk9 at e;split at e
 ·rename_i a ha;split at e
  ·rename_i c d es ep sl hl;simp only[_J,_bB]at e;obtain⟨e1,e2,e3,e4,e5⟩:=e;obtain⟨i1,i2,i3⟩:=z75  X G e5;have hs:sl=#[]:=Array.eq_empty_of_size_eq_zero (by simpa using e3);refine⟨a,_,es,ep,W.mg_of X G ha,e4,hl,⟨(by
    unfold z51 at e1;split at e1
    ·rename_i n;have:n="dict":=by simpa using e1
     rw[this]
    ·cases e1),(by simpa using e2),hs⟩,rfl,i1,λk y hy=>?_,λk hy=>?_⟩;·rw[kj];exact i2 k y hy
   ·rw[kj];exact i3 k hy
  ·cases e
 ·cases e
def saysS(q:Ask)(w:World)(h:Heap):Prop:=∃K:W.Frag,K.In h/\z9d q K=valS q w
theorem zf0(q:Ask)(w:World)(s:Shared)(e:obsS q s=valS q w):saysS q w s.heap:=⟨_,(zf3 _ _).in_,e⟩
theorem z8F(q:Ask)(w:World)(h h':Heap)(x:saysS q w h)(k:∀b o,h.get? b=some o->h'.get? b=some o):saysS q w h':=let ⟨K,a,b⟩:=x;⟨K,a.keeps k,b⟩
theorem z2X{α β:Type}{f g:α->β}:∀{l:List α},l.map f=l.map g->∀x∈l,f x=g x:=λh x hx=>List.map_inj_left.mp h x hx
theorem zlf   {K:W.Frag}(e:z9d q K=valS q w)(x:Str)(st:Stmt)(hx:(x,st)∈q.fs):zlq K x st:=zfQ (z2X (_au Prod.fst e) (x,st) hx)
theorem zkt   {K:W.Frag}(e:z9d q K=valS q w)(x:Str)(hx:x∈q.bs):W.nsIn K mainGlobals x=some none:=zcf (z2X (_au (λz=>z.2.1) e) x hx)
theorem zlk   {K:W.Frag}(e:z9d q K=valS q w)(x:Str)(i:Int)(hx:(x,i)∈q.cs):∃t,W.nsIn K mainGlobals x=some (some (.int i t)):=zdA (z2X (_au (λz=>z.2.2.1) e) (x,i) hx)
theorem zk6    {K:W.Frag}   (X:K.In h)(G:h.Ns mainGlobals mg)(e:z9d q K=valS q w)(x:Str)(tb:List (Str×Str))(hx:(x,tb)∈q.ts):zii P w K mg x tb:=zfe X G (z2X (_au (λz=>z.2.2.2.1) e) (x,tb) hx)
theorem zb5      {Ya:World->α}   (row:String) (bo:∀w:World,(W.fencedOpening treeTable p w N).map (λs=>(s.heap,s.gens,s.drawn,s.toks))=some (W.boot_heap w.params,Array.mk [],W.boot_drawn,W.boot_toks)) (hf:∀(w:World)(os:OsState),(W.topFrom treeTable p (w.withFollow row false) N ⟨W.boot_heap w.params,Array.mk [],W.boot_drawn,W.boot_toks,os⟩).map (λs=>(W.openSeen q loose (importedModules p.main.body) Xt g0 s,Yf s))=some (W.openGood q loose,Ya (w.withFollow row false))) (ht:∀(w:World)(os:OsState),(W.topFrom treeTable p (w.withFollow row true) N ⟨W.boot_heap w.params,Array.mk [],W.boot_drawn,W.boot_toks,os⟩).map (λs=>(W.openSeen q loose (importedModules p.main.body) Xt g0 s,Yf s))=some (W.openGood q loose,Ya (w.withFollow row true))):W.LeftO p q loose Xt Yf Ya N g0:= W.LeftO.of_split row λw=>by
  obtain⟨⟨h,gs,d,k,os⟩,e,e'⟩:=_x.mp (bo w);obtain⟨rfl,rfl,rfl,rfl⟩:h=W.boot_heap w.params/\gs=Array.mk []/\d=W.boot_drawn/\k=W.boot_toks:=by simpa only [_bB] using e'
  rw[e,_at,hf w os,ht w os]
theorem z4Z      : ∀{n:Nat}{s s':W.SharedT}{t:Thread},z1L tb p w n₀ eD n s t=some s'->W.topRun tb p w n₀ eD n s.abs t=some s'.abs
 | 0,_,_,_,h=>by cases h | n+1,s,s',t,h=>by
  unfold z1L at h;unfold W.topRun;cases he:W.through t with
  | true=>rw[he]at h;cases h;rfl | false=>
   rw[he]at h;cases hk:W.stepOk n₀ eD t with
   | false=>rw[hk]at h;cases h | true=>
    rw[hk]at h;cases hs:W.stepT (denote tb) p w s t with
    | none=>rw[hs]at h;cases h | some r=>rw[hs]at h;rw[W.stepT_spec hs];exact z4Z h
theorem z2r       {os:OsState}    (ha:W.absHeap t0 m₀ h.life=h) (sz:(h.isNs mainGlobals&&(Array.mk []:Array GenState).size==0,h.objs.size,h.nsMap mainGlobals "__annotations__")=(true,m₀,eD)){α:Type}{f:Shared->α}{v:α} (hr:(z1L treeTable p w m₀ eD N ⟨t0,m₀,h.life,Array.mk [],d,k,os⟩ (W.topStub p)).map (λsT=>(W.staticsOk (importedModules p.main.body) h sT.abs.heap&&W.namesBound p sT.abs.heap&&W.gensDone sT.abs&&W.laidKept h sT.abs.heap,f sT.abs))=some (true,v)): (W.topFrom treeTable p w N ⟨h,Array.mk [],d,k,os⟩).map f=some v:=by
 obtain⟨sT,e1,e2⟩:=_x.mp hr;obtain⟨e3,e4⟩:=Prod.mk.inj e2;obtain⟨z1,z2,z3⟩:_/\_/\_:=by simpa only [_bB] using sz
 have r:=z4Z e1;rw[(show (⟨t0,m₀,h.life,Array.mk [],d,k,os⟩:W.SharedT).abs=⟨h,Array.mk [],d,k,os⟩from by
  show (⟨W.absHeap t0 m₀ h.life,Array.mk [],d,k,os⟩:Shared)=_;rw[ha])]at r;have t:W.topFrom treeTable p w N ⟨h,Array.mk [],d,k,os⟩=some sT.abs:=by
  unfold W.topFrom;rw[z1,z2,z3,r];show (match (W.staticsOk (importedModules p.main.body) h sT.abs.heap&&W.namesBound p sT.abs.heap&&W.gensDone sT.abs&&W.laidKept h sT.abs.heap) with | true=>some sT.abs | false=>none)=_;rw[e3]
 rw[t,_at,e4]
theorem z5J{α β γ δ:Type}{r:Option α}{f:α->β}{g:α->γ}{k:α->δ}{x:β}{y:γ}{z:δ}(h1:r.map (λs=>(f s,k s))=some (x,z))(h2:r.map g=some y):r.map (λs=>(f s,(g s,k s)))=some (x,(y,z)):=by
 obtain⟨s,e1,e2⟩:=_x.mp h1;obtain⟨s',e3,e4⟩:=_x.mp h2;rw[e1]at e3;cases e3;obtain⟨e5,e6⟩:=Prod.mk.inj e2;rw[e1,_at,e4,e5,e6]
theorem walkY{l:W.OpenLaw} (hn:l.most=some n)(eR:n<=sizeLine)(eS:n<=63)(iX:d.params.defaults=[])(hr:kr k callerA) (F:∀(w:World)(mg:Str->Option Value)(fa:Addr)(h:Heap),YP w h->h.Ns mainGlobals mg->mg d.name=some (.ref fa)->XP mg h-> ∃K:W.Frag,K.In h/\∃fd:FuncData,(∀(s:Shared)(u:Value),BindsTo s fd ⟨[u],[]⟩ [(x,u)])/\ ∀base:Heap,K.In base->base.Ns mainGlobals mg->z3A l.prog w K mg base CX0 k fa fd [x] (zga K)): W.WalkO q loose XP YP l.row.toRowW d [] (λf vs=>PySem.call f vs):=by
 refine Att.z6b hn iX λw s₀ s₁ mg mb fa o pm cd bH a vs ns G Yy ho hd ce eI eJ cZ aF hg=>?_;obtain⟨K,KX,fd,hb,hF⟩:=F w mg fa _ Yy G.T.g eI G.X;exact zcT KX G.T.g G.T.b G.T.builtins G.T.nolimit hg eJ cZ (_al aF eR) hr hF hb (λH hO hS=>⟨a,ns,rfl,hO,hS,_al aF eS,λ_=>rfl⟩) λH e s' z=>z
end Dd
namespace Dd
open L2
section
variable {X:Cx}{E:XK}{e:Expr}{pos p2 p3 p4:Pos}
theorem zG.rev{mg:Gm}{H:Hp}{Y:List Addr}:∀{xs:List D}{vs:List V},zG mg H Y xs vs->zG mg H Y xs.reverse vs.reverse
 | [],vs,h=>by obtain rfl:=h;exact zG.nil | d::ds,vs,h=>by
  obtain⟨v,r,rfl,h1,h2⟩:=h;rw[_bc,_bc];exact (zG.rev h2).append (.one h1)
end
section
variable {X:Cx}{E:XK}{e a b c:Expr}{es:List Expr}{pos:Pos}
noncomputable def zbx(x y:D)(s:Sto):R D:=(dIs x y s).bind λd s1=>match d with | .bl k=>.ok (.bl (!k)) s1 | _=>.no
theorem zb7:OpR X (compareOp .IsNot) (λx y H Q=>∃a b,x=.bl a/\y=.bl b/\Q (.bl (a != b)) H):=by
 intro ac s O H x y v u Q I rx ry ⟨a,b,e1,e2,q⟩;subst e1 e2;cases rx;cases ry;exact isnot_bool ⟨.bl (a != b),H,I,rfl,q⟩
theorem zgO:∃r,OpR X (compareOp .IsNot) r/\OpF X E r zbx:=⟨_,zb7.or zfE,λH Y s d1 d2 v1 v2 Q r h1 h2 h=>by cases d2 with
 | bl b=>cases d1 with
  | bl a=>cases uo h1;cases uo h2;exact .inl ⟨_,_,rfl,rfl,okR.here h r yh⟩ | _=>exact (show False from h).elim
 | non=>cases d1 with
  | non=>subst h1 h2;exact .inr ⟨rfl,by exact (okR.here h r yh)⟩ | bl _=>subst h1 h2;exact .inr ⟨rfl,by exact (okR.here h r yh)⟩ | int _=>subst h1 h2;exact .inr ⟨rfl,by exact (okR.here h r yh)⟩ | str _=>subst h1 h2;exact .inr ⟨rfl,by exact (okR.here h r yh)⟩ | tup _=>obtain⟨a,vs,rfl,_⟩:=h1;subst h2;exact .inr ⟨rfl,by exact (okR.here h r yh)⟩ | lst _=>obtain⟨a,o,vs,rfl,_⟩:=h1;subst h2;exact .inr ⟨rfl,by exact (okR.here h r yh)⟩ | _=>exact (show False from h).elim
 | _=>cases d1<;>exact (show False from h).elim⟩
end
structure Fly(P:Program)(w:World)(outer:List Env)(H:Hp)(s:Shared)(C ea:Addr)(H':Hp)(s':Shared):Prop where
 os:s'.os=s.os
 bare:AllBare s'.gens
 un:Un (frs outer) [] H H' s.heap s'.heap
 hok:HOk P w H' s'.heap
 fly:∃B a0,Heap.FlyingW B outer ea (.ref C) a0 s'.heap/\∀b o,s'.heap.get? b=some o->(H' b≠none\/((∃o',s.heap.get? b=some o')/\b∉frs outer))->B.get? b=some o
def CX1(P:Program)(w:World):CXT:=λouter H s E e s'=>∃C ea H',e=.ref ea/\Fly P w outer H s C ea H' s'/\E (.ref C) none H'
theorem HOk.cov    {h h' B:Heap}(x:HOk P w H h)(c:∀b o,h.get? b=some o->H b≠none->B.get? b=some o)(k:B.StaysIn h'):HOk P w H h':=λa o e=> (x a o e).stay (λb u hb q=>by
  refine k b u (c b u q ?_);rcases hb with rfl | hb;·rw[e];simp
  ·rw[hb];simp) (λ_ q=>q) λ_ _ q=>q
theorem zcA       (x:xF P w H h a o):∃ob,h.get? a=some ob:=by cases o with
 | lst xs=>obtain⟨_,_,_,_,e⟩:=x;exact⟨_,e⟩ | tup xs=>obtain⟨_,_,_,ob,e,_⟩:=x;exact⟨_,e⟩ | dK kvs=>obtain⟨_,_,_,_,o,_,_,e,_⟩:=x;exact⟨_,e⟩ | dT kvs=>obtain⟨_,_,_,_,o,_,_,e,_⟩:=x;exact⟨_,e⟩ | set S n=>obtain⟨o,_,_,_,e,_⟩:=x;exact⟨_,e⟩ | ins C dx fs=>obtain⟨_,_,_,e,_⟩:=x;exact⟨_,e⟩ | own y=>exact x | xd fs=>obtain⟨_,⟨_,_,_,e,_⟩,_⟩:=x;exact⟨_,e⟩ | rng lo hi=>obtain⟨_,_,_,e⟩:=x;exact⟨_,e⟩ | frz ob u=>obtain⟨e,_⟩:=x;exact⟨_,e⟩ | tbl ps=>exact⟨_,(x)⟩ | met f y=>exact⟨_,(x)⟩ | ext φ=>obtain⟨_,e,_⟩:=x;exact e
section
variable {X:Cx}{E:XK}{ac:List (Addr×Obj)}{O:L2.St}{H:Hp}{s:Shared}
theorem Inv.left     (I:Inv X ac O H s)(bZ:X.ex=[])(ho:X.outer=outer)(fl:Heap.FlyingW B outer ea (.ref C) a0 h')(sm:s.heap.UpToSlots h') (c:∀b o,s.heap.get? b=some o->(H b≠none\/((∃o',X.s₀.heap.get? b=some o')/\b∉frs outer))->B.get? b=some o)    (hg:AllBare g): Fly X.prog X.w outer X.H₀ X.s₀ C ea H ⟨h',g,d,t,s.os⟩:=by
 subst ho;have k:=fl.1;refine⟨I.os,hg,⟨λb o e n nf ne=>(k b o (c b o (I.base.keep b o e n nf (by rw[bZ];exact ne)) (.inr ⟨⟨o,e⟩,nf⟩))),λb o e n hf ne=>?_,λb o e n ne=>(I.base.free b o e n (by rw[bZ];exact ne)),λb o e ne=>?_,I.base.tups,I.base.frzs,I.base.tbls⟩,HOk.cov I.hok (λb o e n=>c b o e (.inl n)) k,B,a0,fl,λb o e q=>?_⟩
 ·obtain⟨sl,e1⟩:=I.base.slot b o e n hf (by rw[bZ];exact ne);obtain⟨_,o2,e2,dN⟩:=I.funs.mem hf;rw[e1]at e2;cases e2;obtain⟨dF,e3⟩:=sm b _ e1 dN;exact⟨dF,e3⟩
 ·by_cases hf:b∈frs X.outer
  ·obtain⟨_,o2,e2,dN⟩:=I.funs.mem hf;obtain⟨dF,e3⟩:=sm b _ e2 dN;exact⟨_,e3⟩
  ·obtain⟨o1,e1⟩:=I.base.there b o e (by rw[bZ];exact ne);exact⟨o1,k b o1 (c b o1 e1 (.inr ⟨⟨o,e⟩,hf⟩))⟩
 ·have back:∀o1,s.heap.get? b=some o1->B.get? b=some o:=λo1 e1=>by
   have e2:=c b o1 e1 (q.imp id λz=>z);have:h'.get? b=some o:=e;rw[(k b o1 e2)]at this;cases this;exact e2
  rcases q with q | ⟨⟨o',e'⟩,nf⟩;·cases z:H b with
   | none=>exact absurd z q | some u=>
    obtain⟨o1,e1⟩:∃o1,s.heap.get? b=some o1:=zcA (I.hok b u z);exact back o1 e1
  ·obtain⟨o1,e1⟩:=I.base.there b o' e' (by rw[bZ];simp);exact back o1 e1
end
section
variable {P:Program}{w:World}{K:W.Frag}{mg:Str->Option Value}{base:Heap}{N:List Str}{qual:Str}{scope:Scope}{f:Addr}{cd:Value}{A:Around}{outer:List Env}{s:Shared}{H:Hp}{E:XK}
theorem kC:(envOfC qual scope s.heap.objs.size f cd).frame=some s.heap.objs.size:=rfl
theorem z1C:Passes (CX1 P w) (z3J (CX1 P w) P w K mg base N qual scope f cd A outer s H E) E:=by
 intro ac O H1 s1 e s' I h;obtain⟨C,ea,H',he,fl,hE⟩:=h;subst he;obtain⟨h2,g2,d2,t2,oH⟩:=s';have oI:oH=s1.os:=fl.os;subst oI;have I':=I.call (h':=h2) (g':=g2) (d':=d2) (t':=t2) (ch:=[]) fl.un fl.hok fl.bare (λb z=>absurd z (by simp));obtain⟨B,a0,fw,cov⟩:=fl.fly;refine wpAny_leaves_onW (base:=B) (outer:=outer) I.ok.frames kC fw λh' oJ sm=>⟨C,ea,H',rfl,Inv.left I' rfl rfl oJ sm (λb o e q=>cov b o e (q.imp id λz=>?_)) I'.bare,hE⟩;obtain⟨⟨o',e'⟩,nf⟩:=z;obtain⟨o1,e1⟩:=I.base.there b o' e' (by show b∉([]);simp);refine⟨⟨o1,e1⟩,λz=>?_⟩;rcases _n.mp z with z | z
 ·have:=_j e';rw[z]at this;exact absurd this (_aB _)
 ·exact nf z
theorem ziF  {O:L2.St}      (I:Inv (z3J (CX1 P w) P w K mg base N qual scope f cd A outer s H E) ac O H1 s1) (hx:Heap.MadeExcOf s1.heap h' e (.ref C) args) (hE:E (.ref C) none H1): (z3J (CX1 P w) P w K mg base N qual scope f cd A outer s H E).xe (.ref e) {s1 with heap:=h'}:=by
 refine wpAny_leaves_madeW (base:=W.hideAll s1.heap (frs (envOfC qual scope s.heap.objs.size f cd::outer))) (h:=s1.heap) (outer:=outer) I.ok.frames kC (λb o q=>W.of_hideAll _ q) (W.funFrames_hide I.stack (λenv he b hb=>_bj.mpr ⟨env,he,hb⟩)) hx λsF t fw tup bt sm=>⟨C,e,H1,rfl,Inv.left I rfl rfl fw ((Heap.UpToSlots.of_keeps hx.keeps).trans sm) (λb o eb q=>W.hideAll_get _ eb λz=>?_) I.bare,hE⟩;rcases q with q | ⟨⟨o',e'⟩,nf⟩;·exact q (I.stkFree b z)
 ·rcases _n.mp z with z | z
  ·have:=_j e';rw[z]at this;exact absurd this (_aB _)
  ·exact nf z
end
def z9M (X:Cx) (E:XK):Prop:=∀(ac:List (Addr×Obj)) (O:L2.St) (H1:Hp) (s1:Shared) (h':Heap) (e C:Addr) (args:List Value),Inv X ac O H1 s1->Heap.MadeExcOf s1.heap h' e (.ref C) args->E (.ref C) none H1->X.xe (.ref e) {s1 with heap:=h'}
def zeO(K:W.Frag)(mg:Str->Option Value)(x:Str):Prop:=∃C,mg x=some (.ref C)/\W.excIn K C bmV "ValueError.__new__"=true
theorem zbp{K:W.Frag}     (X:K.In h₀)(q:W.excIn K C bmB bF=true): ∃bm N nm q bs hdct sn sub ab col dd k0 k1 k2 k3 k5 mN,h₀.get? C=some (excClassObj nm q C N bs bm hdct sn sub ab col dd k0 k1 k2 k3 k5 bF)/\h₀.Ns N mN/\mN "__init__"=none/\OwnTail h₀ bmB bm:=by
 unfold W.excIn at q;split at q
 ·rename_i dd cd sl ho;split at q
  ·rename_i C' bm k0 k1 k2 k3 n k5 hm hs;simp only[_L,_aH,_aN]at q;obtain⟨⟨⟨⟨⟨rfl,rfl⟩,lf⟩,ht⟩,hok⟩,iC⟩:=q;obtain⟨nm,bs,mro,ns,qn,hd,sn,sub,ab,col,sG⟩:=cd;subst hm lf;have oK:sl=#[k0,k1,k2,k3,some (.builtin n),k5]:=by
    obtain⟨l⟩:=sl;simp only at hs;rw[hs]
   subst oK;exact⟨bm,ns,nm,qn,bs,hd,sn,sub,ab,col,dd,k0,k1,k2,k3,k5,_,X _ _ ho,.of_isNs (W.isNs_of_in X hok),W.nsMap_none_of_in X hok iC,W.tail_of_in X ht⟩
  ·cases q
 ·cases q
section
variable {X:Cx}{E:XK}{pos:Pos}
noncomputable def z2L(c:Str):FS:=λ_ s=>.ex c s
theorem z0L     (hk:zeO X.K X.mg x) (oM:z9M X E) (hc:X.calm=true) (hg:Gl X x) (hd:autoParam ((x==("__debug__":Str))=false) aDe): RS X E (.Raise (some (.Call (.Name x np) [.Constant (.str m) j p] [] aG)) none pos) (z2L x):=by
 intro ac s O H D I h;obtain⟨Y,ρ,st,r,en,h⟩:=h;obtain⟨C,hm,hq⟩:=hk;have hE:E (.ref C) none H:=h H Y C (yQ.refl r) hm;obtain⟨tl,Nn,nm,q,bs,hdct,sn,sub,ab,col,dd,k0,k1,k2,k3,k5,mN,hC,hN,iC,T⟩:=zbp I.mod.kin hq;refine wpAny_Raise_call_subT (C:=C) (nm:=nm) (q:=q) (N:=Nn) (bs:=bs) (bm:=tl) (hdct:=hdct) (sn:=sn) (sub:=sub) (ab:=ab) (col:=col) (dd:=dd) (k0:=k0) (k1:=k1) (k2:=k2) (k3:=k3) (k5:=k5) _bJ (mN:=mN) (T.hasType _bJ.hasBase) (I.ok.hd hc) rfl iC (z1Y I hg hm ⟨rfl,(_bH (thn (uT (X:=X) (zeh (X:=X)) (z1i (X:=X)) rfl aG ac s O H (λvs H1=>vs=[.str m]/\H1=H) I ⟨rfl,rfl⟩) λus s2 h2=>?_))⟩ hd);obtain⟨vs,H1,I1,r1,e1,e2⟩:=h2;subst e1 e2;obtain⟨u,rfl,ru⟩:=r1.one;exact⟨rfl,by show 1<=sizeLine;decide,I1.bk _ _ hC,hN.keeps I1.bk,T.keeps I1.bk,λh' e mk=>oM ac O _ s2 h' e C [u] I1 mk hE⟩
end
noncomputable def z5w(N:List Str)(n:Nat)(fs:FS):Mir:=λds s=>if ds.length=n then (match fs (zE N ds) s with
 | .ok (.rt d) s'=>.ok d s' | .ok (.nx _) s'=>.ok .non s' | .ex c s'=>.ex c s' | _=>.no) else .no
section
variable {P:Program}{w:World}{K:W.Frag}{mg:Str->Option Value}{base:Heap}
theorem zac   : Passes CX0 X E:=λ_ _ _ _ _ _ _ h=>h.elim
theorem zfm  {st:Stmt}      (F:Fun K x qual st f fd)(hm:mg x=some (.ref f))(hb:Binds K fd ps [])(S:zq N ps (ze st))(hn:ps.length=n) (body:∀(aA:Value)(A:Around)(outer:List Env)(s:Shared)(H:Hp)(E:XK),kr k (A.deeper (envOfC qual (ze st) s.heap.objs.size f aA))->(z3J (CX1 P w) P w K mg base N qual (ze st) f aA A outer s H E).calm=true-> RSs (z3J (CX1 P w) P w K mg base N qual (ze st) f aA A outer s H E) E (xM st) fs):Has P w K mg base (CX1 P w) x (k+1) (z5w N n fs):=by
 subst hn;obtain⟨oc,od,kV,bH,pm,an,aA,ct,dE,rfl,lk,ce⟩:=F.ex;refine⟨f,_,ps,zhl lk ce S (λvs H Q E h=>?_) (λA outer s H vs Q E hr h=>?_),hb,F.kp,hm⟩
 ·obtain⟨Y,s,ds,_,dn,h⟩:=h;unfold z5w at h;split at h;·rename_i e;rw[dn.length];exact e
  ·exact h.elim
 ·obtain⟨Y,cJ,ds,r,dn,h⟩:=h;refine⟨_,body aA A outer s H E hr (by show A.handled.isNone=true;rw[show A.handled=none from hr.hd];rfl),Y,zE N ds,cJ,r,kB dn,?_⟩;unfold z5w at h;split at h
  ·split at h
   ·rename_i d s' e;rw[e];intro fv H' Y' stp fd;cases fv with
    | rt v=>exact h v H' Y' stp fd | _=>exact (fd).elim
   ·rename_i ρ s' e;rw[e];intro fv H' Y' stp fd;cases fv with
    | nx v=>exact h .non H' Y' stp (by rfl) | _=>exact (fd).elim
   ·rename_i c s' e;rw[e];exact h
   ·exact h.elim
  ·exact h.elim
noncomputable def zmF(M:Mir):Mir:=λds s=>match M ds s with | .ex _ _=>.no | r=>r
end
noncomputable def z3K(f:FS):FS:=fun ρ s=>match f ρ s with | .ex _ _=>.no | r=>r
theorem z7l   {st:Stmt}  (h:RS X.nox E0 st f):RS X E st (z3K f):=λac s O H D I hw=>by
 obtain⟨Y,ρ,cJ,r,en,q⟩:=hw;exact _z (h ac s O H D (I.wish _) ⟨Y,ρ,cJ,r,en,(by
  unfold z3K at q;cases e:f ρ cJ with
  | ok d s'=>rw[e]at q;exact q | ex c s'=>rw[e]at q;exact q.elim | no=>rw[e]at q;exact q.elim)⟩) (λ_ _ q=>q.unwish) λ_ _ z=>False.elim z
@[simp] theorem zfY (f:FS)(ρ:Ev)(s:Sto):z3K f ρ s=(match f ρ s with | .ex _ _=>.no | r=>r):=id rfl
theorem jo   {K:W.Frag}             : z9M (z3J (CX1 P w) P w K mg base N qual scope f cd A outer s H E) E:=λ_ _ _ _ _ _ _ _ I hx hE=>ziF I hx hE
end Dd
namespace PySem
open PySem.Sem (wp)
section
variable {M:Model}{A:Around}{E:Value->Shared->Prop}
theorem ug{h:Heap}{g:Array GenState}{d:Drawn}{t:Nat}{os:OsState}{e C D:Addr}{oe:Obj}{Q:Bool->Shared->Prop} {nm q:Str}{N:Addr}{bs bm:List Value}{hdct:Bool}{sn:List Str}{sub:List Value}{ab:Bool}{col:Option Bool}{dd:Option Addr}{k0 k1 k2 k3 k5:Option Value}{bF:String} {mQ q':Str}{N':Addr}{mR iD:List Value}{eh:Bool}{mS:List Str}{gG:List Value}{mT:Bool}{gH:Option Bool}{eQ:Option Addr}{dO eW fJ fK mU:Option Value}{df:String} (hC:h.get? C=some (excClassObj nm q C N bs bm hdct sn sub ab col dd k0 k1 k2 k3 k5 bF))(hD:h.get? D=some (excClassObj mQ q' D N' mR iD eh mS gG mT gH eQ dO eW fJ fK mU df)) (he:h.get? e=some oe)(cP:oe.cls=.ref C)(aW:iD.contains (.type "BaseException")=true)(cB:(Value.ref C::bm).contains (.ref D)=true) (hq:Q true ⟨h,g,d,t,os⟩):wpAny M A (excMatches (.ref e) (.ref D)) Q E ⟨h,g,d,t,os⟩:=by
 have f:=tc_notTuple;repeat (first | (with_reducible rw[cP]) | with_reducible refine wpAny_loadPart_at hD ?_ | with_reducible refine wpAny_loadPart_at hC ?_ | (with_reducible refine wpAny_isSubtype_exc hD ?_;rw[(show (Value.ref D::iD).contains (.type "BaseException")=true from by rw[List.contains_cons,aW,Bool.or_true])]) | (with_reducible refine wpAny_isSubtype_exc hC ?_;rw[cB]) | wp_step)
 exact hq
end
end PySem
namespace Dd
open L2
noncomputable abbrev Cx.at_(X:Cx)(pn:List (Addr×Obj))(xe:Value->Shared->Prop):Cx:={X with pn:=pn,xe:=xe}
noncomputable abbrev Cx.mk_(X:Cx)(e:Addr)(pn:List (Addr×Obj)):Cx:={X with A:=X.A.mark (some (.ref e)),calm:=false,pn:=pn,xe:=λ_ _=>False}
theorem Cx.ok_at  (ok:X.Ok)   : (Cx.at_ X pn xe).Ok:= ⟨ok.mod,ok.kind,ok.glob,ok.blt,ok.above,ok.inj,ok.has,ok.cab,ok.hd,ok.frames,ok.stk,ok.exf,ok.bs,ok.bsz,ok.noex,ok.exfs,ok.funs,ok.frf⟩
theorem Cx.ok_of    (ok:(Cx.at_ X pn xe).Ok):X.Ok:= ⟨ok.mod,ok.kind,ok.glob,ok.blt,ok.above,ok.inj,ok.has,ok.cab,ok.hd,ok.frames,ok.stk,ok.exf,ok.bs,ok.bsz,ok.noex,ok.exfs,ok.funs,ok.frf⟩
theorem Cx.ok_mk  (ok:X.Ok)   : (Cx.mk_ X e pn).Ok:= ⟨ok.mod,ok.kind,ok.glob,ok.blt,ok.above,ok.inj,ok.has,ok.cab,(λh=>by cases h),ok.frames,ok.stk,ok.exf,ok.bs,ok.bsz,ok.noex,ok.exfs,ok.funs,ok.frf⟩
section
variable {X:Cx}{ac:List (Addr×Obj)}{O:L2.St}{H:Hp}{s:Shared}
theorem _root_.L2.Inv.at_(I:L2.Inv X ac O H s)  : L2.Inv (Cx.at_ X (X.pn++ac) xe) [] O H s:= ⟨Cx.ok_at I.ok,I.os,I.bare,I.base,I.loc,I.cell,I.free,I.freeC,λp hp=>I.pin p (by simpa using hp),I.hok,I.len⟩
theorem _root_.L2.Inv.of_at   (I:L2.Inv (Cx.at_ X (X.pn++ac) xe) pins' O H s):L2.Inv X ac O H s:= ⟨Cx.ok_of I.ok,I.os,I.bare,I.base,I.loc,I.cell,I.free,I.freeC,λp hp=>I.pin p (_am _ hp),I.hok,I.len⟩
theorem _root_.L2.Inv.mk_(I:L2.Inv X ac O H s)  : L2.Inv (Cx.mk_ X e (X.pn++ac)) [] O H s:= ⟨Cx.ok_mk I.ok,I.os,I.bare,I.base,I.loc,I.cell,I.free,I.freeC,λp hp=>I.pin p (by simpa using hp),I.hok,I.len⟩
theorem _root_.L2.Inv.of_mk   (ok:X.Ok)(I:L2.Inv (Cx.mk_ X e (X.pn++ac)) pins' O H s):L2.Inv X ac O H s:= ⟨ok,I.os,I.bare,I.base,I.loc,I.cell,I.free,I.freeC,λp hp=>I.pin p (_am _ hp),I.hok,I.len⟩
theorem Fly.land     {s s':Shared}    (un:Un (frs outer) [] H H' s.heap s'.heap)(hok:HOk P w H' s'.heap)(fw:Heap.FlyingW B outer ea (.ref C) a0 s'.heap) (cov:∀b o,s'.heap.get? b=some o->(H' b≠none\/((∃o',s.heap.get? b=some o')/\b∉frs outer))->B.get? b=some o)(eX:Heap.FlyingW B outer ea (.ref C) a0 h5)(sm:s'.heap.UpToSlots h5): s.heap.get? ea=none/\H' ea=none/\Un (frs outer) [] H (upd H' ea (zfG C ea)) s.heap h5/\HOk P w (upd H' ea (zfG C ea)) h5/\∃oe,h5.get? ea=some oe/\oe.cls=.ref C:=by
 have k:=eX.1;obtain⟨oe,vs,T,oT,ts,he,⟨cP,_⟩,hd,_⟩:=eX.2.2.2;obtain⟨sH,eT,_,_,_,cT,_,dU,_⟩:=fw.2.2.2;have new:s.heap.get? ea=none:=by cases z:s.heap.get? ea with
  | none=>rfl | some o=>
   exfalso;obtain⟨o1,e1⟩:=un.there ea o z (by simp);by_cases hf:ea∈frs outer
   ·obtain⟨_,o2,e2,dN⟩:=fw.2.2.1.mem hf;rw[cT]at e2;cases e2;exact dN _ dU
   ·have:=cov ea o1 e1 (.inr ⟨⟨o,z⟩,hf⟩);rw[fw.2.1]at this;cases this
 have hn:H' ea=none:=by cases z:H' ea with
  | none=>rfl | some u=>
   have:=cov ea _ cT (.inl (by rw[z];simp));rw[fw.2.1]at this;cases this
 have gI:∀b u,H' b=some u->b≠ea:=λb u e z=>by rw[z,hn]at e;cases e
 refine⟨new,hn,⟨λb o e n nf _=>(k b o (cov b o (un.keep b o e n nf (by simp)) (.inr ⟨⟨o,e⟩,nf⟩))),λb o e n hf _=>?_,λb o e n _=>?_,λb o e _=>?_,λb xs e=>?_,λb o u e=>?_,λb ps e=>?_⟩,λa o e=>?_,oe,he,cP⟩
 ·obtain⟨sl,e1⟩:=un.slot b o e n hf (by simp);obtain⟨_,o2,e2,dN⟩:=fw.2.2.1.mem hf;rw[e1]at e2;cases e2;obtain⟨dF,e3⟩:=sm b _ e1 dN;exact⟨dF,e3⟩
 ·rw[zk ((λb o e z=>by rw[z,new]at e;cases e) b o e)];exact un.free b o e n (by simp)
 ·by_cases hf:b∈frs outer
  ·obtain⟨_,o2,e2,dN⟩:=fw.2.2.1.mem hf;obtain⟨dF,e3⟩:=sm b _ e2 dN;exact⟨_,e3⟩
  ·obtain⟨o1,e1⟩:=un.there b o e (by simp);exact⟨o1,k b o1 (cov b o1 e1 (.inr ⟨⟨o,e⟩,hf⟩))⟩
 ·have q:=un.tups b xs e;rw[zk (gI b _ q)];exact q
 ·have q:=un.frzs b o u e;rw[zk (gI b _ q)];exact q
 ·obtain⟨more,q⟩:=un.tbls b ps e;exact⟨more,by rw[zk (gI b _ q)];exact q⟩
 ·by_cases z:a=ea
  ·subst z;rw[zA]at e;cases e;exact⟨⟨oe,vs,he,cP,hd⟩,⟨oe,he⟩,λh1 h2 ⟨o,ws,q1,q2,q3⟩ st=>⟨o,ws,st o q1,q2,q3⟩⟩
  ·rw[zk z]at e;refine (HOk.cov hok (λb o e n=>cov b o e (.inl n)) k a o e).stay (λb u _ q=>q) (λb q=>?_) λb xs q=>?_;·rw[zk (gI b _ q)];exact q
   ·rw[zk (gI b _ q)];exact q
end
def zks(K:W.Frag)(mg:Str->Option Value)(x y:Str):Prop:=∃C D,mg x=some (.ref C)/\mg y=some (.ref D)/\W.excIn K C bmV "ValueError.__new__"=true/\W.excIn K D bmV "ValueError.__new__"=true/\ ∀h₀:Heap,K.In h₀->∃bm N nm q bs hdct sn sub ab col dd k0 k1 k2 k3 k5,h₀.get? C=some (excClassObj nm q C N bs bm hdct sn sub ab col dd k0 k1 k2 k3 k5 "ValueError.__new__")/\(Value.ref C::bm).contains (.ref D)=true
end Dd
namespace PySem
open PySem.Sem (wp)
open PySem.W
structure ExcCls(K:Frag)(C:Addr):Prop where
 ga:findIn K (.ref C) "__getattribute__"=some (some (.builtin "BaseException.__getattribute__"))
 gh:findIn K (.ref C) "__getattr__"=some none
 cl:findIn K (.ref C) "__class__"=some (some (.builtin "object.__class__"))
 ob:mroIn K C (.type "object")=some true
 be:mroIn K C (.type "BaseException")=some true
 ty:∃d cd sl,K.lookup C=some ⟨.type "type",d,.cls cd,sl⟩
end PySem
namespace L2
structure zkQ(k:Nat)(A:Around):Prop where
 dp:A.depth+3*k+5<recursionLimit
 un:A.units+16*k+200<cLine
 gd:A.guards=some []
structure zl2(P:Program)(w:World)(K:W.Frag)(mg:Str->Option Value)(base:Heap)(CX:CXT)(k:Nat)(f:Addr)(fd:FuncData)(ps:List Str)(sp:Sp):Prop where
 len:∀vs H Q E,sp vs H Q E->vs.length=ps.length
 run:∀(A:Around)(outer:List Env)(s:Shared)(H:Hp)(args:Args)(us:List Value)(vs:List V)(Q:VK)(E:XK),zkQ k A->zjL P w K mg base A outer s H->BindsTo s fd args (ps.zip us)->yp vs us->sp vs H Q E-> codeAny (model P w) A (.call (.ref f) args) (CR CX outer P w H s Q E) s
end L2
namespace Dd
open L2
def zmc(P:Program)(w:World)(K:W.Frag)(mg:Str->Option Value)(base:Heap)(CX:CXT)(x:Str)(n:Nat)(M:Mir):Prop:= ∃f fd ps,zl2 P w K mg base CX n f fd ps (ze1 ⟨mg,K⟩ M)/\Binds K fd ps []/\W.keepIn K (.ref f)=true/\mg x=some (.ref f)
end Dd
namespace Dd
open L2
structure XOk(K:W.Frag)(C:Addr):Prop where
 exc:W.excIn K C bmV "ValueError.__new__"=true
 cls:PySem.ExcCls K C
 val:W.kitOne K (.ref C) (.type "ValueError")=some true
theorem z5c{K:W.Frag}  (h:z1E K C=true):∃d cd sl,K.lookup C=some ⟨.type "type",d,.cls cd,sl⟩:=by
 unfold z1E at h;split at h
 ·rename_i t d cd sl e;have:=_aH.mp h;subst this;exact⟨_,_,_,e⟩
 ·cases h
theorem z3C{K:W.Frag}  (h:z5T K x=true):∃C,W.nsIn K mainGlobals x=some (some (.ref C))/\XOk K C:=by
 unfold z5T at h;split at h
 ·rename_i C e;simp only[_L]at h;obtain⟨h1,h2,h3,h4,h5,h6,h7,h8⟩:=h;exact⟨C,e,h1,⟨_aH.mp h2,_aH.mp h3,_aH.mp h4,_aH.mp h5,_aH.mp h6,z5c h7⟩,_aH.mp h8⟩
 ·cases h
section
variable {K:W.Frag}{mg:Str->Option Value}(G:∀(x:Str)(v:Value),W.nsIn K mainGlobals x=some (some v)->mg x=some v)
include G
theorem z0P  (h:z5T K x=true):zeO K mg x:=by
 obtain⟨C,e,o⟩:=z3C h;exact⟨C,G x _ e,o.exc⟩
theorem zgB  (hx:z5T K x=true)(hy:z5T K y=true)(h:(z7f K x y).map (·.1)=some (some true)):zks K mg x y:=by
 obtain⟨C,e1,o1⟩:=z3C hx;obtain⟨D,e2,o2⟩:=z3C hy;refine⟨C,D,G x _ e1,G y _ e2,o1.exc,o2.exc,λh₀ X=>?_⟩;unfold z7f at h;rw[e1,e2]at h;have hm:W.mroIn K C (.ref D)=some true:=by simpa using h
 obtain⟨bm,N,nm,q,bs,hdct,sn,sub,ab,col,dd,k0,k1,k2,k3,k5,mN,hC,_⟩:=zbp X o1.exc;refine⟨bm,N,nm,q,bs,hdct,sn,sub,ab,col,dd,k0,k1,k2,k3,k5,hC,?_⟩;obtain⟨d',oN,mr,hl⟩:=o1.cls.ty;have h2:=X _ _ hl;rw[hC]at h2;unfold W.mroIn W.clsIn at hm;rw[hl]at hm;simp only[_U]at hm;split at hm;·cases hm
 ·simp only[_J,Obj.mk.injEq,Data.cls.injEq]at h2;obtain⟨_,_,h3,_⟩:=h2;rw[(show oN.mro=Value.ref C::bm from by rw[<- h3])]at hm;simpa using hm
end
theorem z62   {K:W.Frag}(e:z9d q K=valS q w)(x:Str)(hx:x∈q.xs):z5T K x=true:=z2X (_au (λz=>z.2.2.2.2.2.1) e) x hx
theorem zlm   {K:W.Frag}(e:z9d q K=valS q w)(x y:Str)(b:Bool)(hx:((x,y),b)∈q.ps):z7f K x y=some (some b,some b):=z2X (_au (λz=>z.2.2.2.2.2.2) e) ((x,y),b) hx
def LeS(f g:FS):Prop:=∀ ρ s a s',f ρ s=.ok a s'->g ρ s=.ok a s'
def LeM(M N:Mir):Prop:=∀ds s d s',M ds s=.ok d s'->N ds s=.ok d s'
theorem LeS.rfl  : LeS f f:=λ_ _ _ _ h=>h
theorem LeS.no  (h:LeS f g):LeS f (z3K g):=fun ρ s a s' e=>by rw[zfY,h ρ s a s' e]
theorem LeS.calm  : LeS f (z3K f):=LeS.rfl.no
theorem LeS.fNo  : LeS fNo g:=λ_ _ _ _ h=>by cases h
theorem LeM.mof    (h:LeS f g):LeM (Mof N n f) (z5w N n g):=λds s d s' e=>by
 unfold Mof at e;unfold z5w;split at e
 ·rename_i hl;rw[_g hl];split at e
  ·rename_i d' s1 e1;rw[h _ _ _ _ e1];exact e
  ·rename_i ρ s1 e1;rw[h _ _ _ _ e1];exact e
  ·cases e
 ·cases e
def LeE(f g:FE):Prop:=∀ ρ s a s',f ρ s=.ok a s'->g ρ s=.ok a s'
theorem z0y  {r:R α}  {b:β}  (h:r.bind k=.ok b s'):∃a s1,r=.ok a s1/\k a s1=.ok b s':=by cases r with
 | ok a s=>exact⟨a,s,Eq.refl _,h⟩ | ex c s=>cases h | no=>cases h
theorem LeS.seq  (h:LeS f f')(h2:LeS g g'):LeS (zL f g) (zL f' g'):=fun ρ s a s' e=>by
 obtain⟨fl,s1,e1,e2⟩:=z0y e;show (f' ρ s).bind _=_;rw[h _ _ _ _ e1];cases fl with
 | nx ρ'=>exact h2 _ _ _ _ e2 | _=>exact e2
theorem LeS.drop  (h:LeE f f'):LeS (wS f) (wS f'):=fun ρ s a s' e=>by
 obtain⟨d,s1,e1,e2⟩:=z0y e;show (f' ρ s).bind _=_;rw[h _ _ _ _ e1];exact e2
theorem LeE.call   (h:LeM M M'):LeE (zh M f) (zh M' f):=fun ρ s a s' e=>by
 obtain⟨d,s1,e1,e2⟩:=z0y e;show (f ρ s).bind _=_;rw[e1];exact h _ _ _ _ e2
theorem LeS.if_   (h:LeS f f')(h2:LeS g g'):LeS (fIf t f g) (fIf t f' g'):=fun ρ s a s' e=>by
 obtain⟨d,s1,e1,e2⟩:=z0y e;show (t ρ s).bind _=_;rw[e1];cases d with
 | true=>exact h _ _ _ _ e2 | false=>exact h2 _ _ _ _ e2
theorem LeM.ok  (h:LeM M N)    (e:M ds s=.ok d s'):N ds s=.ok d s':=h ds s d s' e
end Dd
namespace Dd
open L2
section
variable {X:Cx}{E:XK}{es:List Expr}{fa:FE}{fr:FA}
theorem aN   (ha:RE X E (.Name x p) fa)(hr:RA X E es fr):RA X E ((.Name x p)::es) (za fa fr):=kL ha hr (zB ..)
theorem aK    (ha:RE X E (.Constant c j p) fa)(hr:RA X E es fr):RA X E ((.Constant c j p)::es) (za fa fr):=kL ha hr (z2T ..)
theorem aQ     (ha:RE X E (.Call g xs ks p) fa)(hr:RA X E es fr):RA X E ((.Call g xs ks p)::es) (za fa fr):=kL ha hr (ja ..)
theorem aT    (ha:RE X E (.Tuple xs k p) fa)(hr:RA X E es fr):RA X E ((.Tuple xs k p)::es) (za fa fr):=kL ha hr (zcD ..)
theorem aS   (ha:RE X E (.Subscript a b p) fa)(hr:RA X E es fr):RA X E ((.Subscript a b p)::es) (za fa fr):=kL ha hr (z3G ..)
theorem aB    (ha:RE X E (.BinOp a o b p) fa)(hr:RA X E es fr):RA X E ((.BinOp a o b p)::es) (za fa fr):=kL ha hr (z3D ..)
theorem aL   (ha:RE X E (.List xs p) fa)(hr:RA X E es fr):RA X E ((.List xs p)::es) (za fa fr):=kL ha hr (zd7 ..)
theorem aO{a:Expr}{g:List Comprehension}{sc:Scope}{p:Pos}(ha:RE X E (.ListComp a g sc p) fa)(hr:RA X E es fr):RA X E ((.ListComp a g sc p)::es) (za fa fr):=kL ha hr (wO ..)
theorem zkR  {pos:Pos}   {p:Pos}    (F:Has X.prog X.w X.K X.mg X.base CX x n M) (hr:kr k X.A) (hx:Passes CX X E) (ha:RA X E (e::es) f) (hk:autoParam (n<=k) aDe) (hg:autoParam (Gl X x) aRf) (br:autoParam ((x==("__debug__":Str))=false) aDe) (he:autoParam (starEach (e::es) X.env=(false,eval e X.env)::starEach es X.env) aRf) (bh:autoParam ((backTo pos (starEach es X.env)).any (·.1)=false) aRf):RE X E (.Call (.Name x p) (e::es) [] pos) (zh M f):=zjw F (hr.mono hk) hx hg ha br he bh
end
section
variable {q:Ask}{w:World}{K:W.Frag}{h:Heap}{mg:Str->Option Value}
theorem zei(X:K.In h)(G:h.Ns mainGlobals mg)(e:z9d q K=valS q w)(i:Nat)  {st:Stmt}(hx:q.fs[i]? = some (x,st)):∃f fd,mg x=some (.ref f)/\Fun K x x st f fd:=let ⟨f,fd,a,F⟩:=zlf e x st (_r hx);⟨f,fd,W.mg_of X G a,F⟩
theorem wL(X:K.In h)(G:h.Ns mainGlobals mg)(e:z9d q K=valS q w)(i:Nat)  (hx:q.bs[i]? = some x):mg x=none:=W.mg_none_of X G (zkt e x (_r hx))
theorem z12(X:K.In h)(G:h.Ns mainGlobals mg)(e:z9d q K=valS q w)(i:Nat)   (hx:q.cs[i]? = some (x,c)):∃t,mg x=some (.int c t):=let ⟨t,z⟩:=zlk e x c (_r hx);⟨t,W.mg_of X G z⟩
end
def Fq(K:W.Frag)(mg:Str->Option Value)(x:Str)(st:Stmt):Prop:=∃f fd,mg x=some (.ref f)/\Fun K x x st f fd
class Hs (P:Program)(w:World)(K:W.Frag)(mg:Str->Option Value)(base:Heap)(CX:CXT)(x:Str)(n:outParam Nat)(M:outParam Mir):Prop where h:Has P w K mg base CX x n M
structure Rm(P:Program)(w:World)(K:W.Frag)(mg:Str->Option Value)(base:Heap)(k:Nat)(A:Around):Prop where r:kr k A
section
variable {P:Program}{w:World}{K:W.Frag}{mg:Str->Option Value}{base:Heap}{k n:Nat}{A:Around}
theorem Rm.units(h:Rm P w K mg base k A):A.units+64<cLine:=h.r.units
theorem Rm.mono(h:Rm P w K mg base k A)(l:n<=k):kr n A:=h.r.mono l
theorem Rm.has(_:Rm P w K mg base k A)(x:Str){M:Mir}[F:Hs P w K mg base CX0 x n M]:Has P w K mg base CX0 x n M:=F.h
theorem r_k    {pos:Pos}  {p:Pos}   (hr:Rm P w K mg base k A) (ha:RA X E0 (e::es) f) [F:Hs P w K mg base CX0 x n M] (q:autoParam ((X.A,X.prog,X.w,X.K,X.mg,X.base)=(A,P,w,K,mg,base)) aRf) (hk:n<=k:=by first | decide | omega) (hg:autoParam (Gl X x) aRf) (br:autoParam ((x==("__debug__":Str))=false) aDe) (he:autoParam (starEach (e::es) X.env=(false,eval e X.env)::starEach es X.env) aRf) (bh:autoParam ((backTo pos (starEach es X.env)).any (·.1)=false) aRf)   : RE X E0 (.Call (.Name x p) (e::es) [] pos) (zh M f):=by cases q;exact zkR F.h hr.r zcU ha hk hg br he bh
theorem Hs.tidy     (h:Hs P w K mg base CX x n M):Hs P w K mg base CX x n (z8P M):=⟨h.h.tidy⟩
theorem yA  {st:Stmt}    (q:Fq K mg x st)(S:zq N ps (ze st)) (body:∀{f:Addr}{aA:Value}{A:Around}{outer:List Env}{s:Shared}{H:Hp}{E:XK},Rm P w K mg base k (A.deeper (envOfC x (ze st) s.heap.objs.size f aA))->(z3J CX0 P w K mg base N x (ze st) f aA A outer s H E).nox.calm=true-> RSs (z3J CX0 P w K mg base N x (ze st) f aA A outer s H E).nox E0 (xM st) fs) (hb:∀(kV bH pm:Value)(an:Option Addr)(aA ct:Value)(us:List Value),us.length=ps.length->bindArgs (W.fnOf x x (qT st) (xM st) (ze st) .none kV bH pm an aA ct) ⟨us,[]⟩=pure (ps.zip us))(hn:autoParam (ps.length=n) aRf):Hs P w K mg base CX0 x (k+1) (Mof N n fs):= let ⟨_,_,hm,F⟩:=q;⟨ziU F hm (F.binds hb) S hn λ_ _ _ _ _ _ hr hc=>body ⟨hr⟩ hc⟩
end
class HsH (P:Program)(w:World)(K:W.Frag)(mg:Str->Option Value)(base:Heap)(CX:CXT)(x:Str)(n:outParam Nat)(M:outParam Mir):Prop where h:zmc P w K mg base CX x n M
section
variable {P:Program}{w:World}{K:W.Frag}{mg:Str->Option Value}{base:Heap}{k n:Nat}{A:Around}
theorem Rm.hasX(_:Rm P w K mg base k A)(x:Str){M:Mir}[F:Hs P w K mg base (CX1 P w) x n M]:Has P w K mg base (CX1 P w) x n M:=F.h
theorem z5N {X:Cx} {E:XK} {CX:CXT} {es:List Expr} {e:Expr} {pos:Pos} {x:Str} {p:Pos} {M:Mir} {f:FA} (hr:Rm P w K mg base k A) (hx:Passes CX X E) (ha:RA X E (e::es) f) [F:Hs P w K mg base CX x n M] (q:autoParam ((X.A,X.prog,X.w,X.K,X.mg,X.base)=(A,P,w,K,mg,base)) aRf) (hk:n<=k:=by first | decide | omega) (hg:autoParam (Gl X x) aRf) (br:autoParam ((x==("__debug__":Str))=false) aDe) (he:autoParam (starEach (e::es) X.env=(false,eval e X.env)::starEach es X.env) aRf) (bh:autoParam ((backTo pos (starEach es X.env)).any (·.1)=false) aRf):RE X E (.Call (.Name x p) (e::es) [] pos) (zh M f):=by cases q;exact zkR F.h hr.r hx ha hk hg br he bh
theorem jC{x:Str}{st:Stmt}{N ps:List Str}{k n:Nat}{fs:FS}(q:Fq K mg x st)(S:zq N ps (ze st)) (body:∀{f:Addr}{aA:Value}{A:Around}{outer:List Env}{s:Shared}{H:Hp}{E:XK},Rm P w K mg base k (A.deeper (envOfC x (ze st) s.heap.objs.size f aA))->(z3J (CX1 P w) P w K mg base N x (ze st) f aA A outer s H E).calm=true-> RSs (z3J (CX1 P w) P w K mg base N x (ze st) f aA A outer s H E) E (xM st) fs) (hb:∀(kV bH pm:Value)(an:Option Addr)(aA ct:Value)(us:List Value),us.length=ps.length->bindArgs (W.fnOf x x (qT st) (xM st) (ze st) .none kV bH pm an aA ct) ⟨us,[]⟩=pure (ps.zip us))(hn:autoParam (ps.length=n) aRf):Hs P w K mg base (CX1 P w) x (k+1) (z5w N n fs):= let ⟨_,_,hm,F⟩:=q;⟨zfm F hm (F.binds hb) S hn λ_ _ _ _ _ _ hr hc=>body ⟨hr⟩ hc⟩
end
open PySem.W
end Dd
namespace Dd
open L2
section
variable {X:Cx}{E:XK}{e:Expr}{pos bx:Pos}
noncomputable def zho(i:Nat)(f:FE):FS:=fun ρ s=>match ρ[i]? with
 | some (some (.int a))=>(f ρ s).bind λd s1=>match d with | .int b=>.ok (.nx (ρ.set i (some (.int (a+b))))) s1 | _=>.no
 | _=>.no
theorem zl7(i:Nat)   (hN:X.N.Nodup)(he:RE X E e f)(hi:autoParam (X.N[i]? = some x) aRf)(hx:autoParam (Loc X.env.scope x) aOr)(hf:autoParam (X.fn x=true\/X.env.scope.names.lookup x=some .local) aLr): RS X E (.AugAssign (.Name x bx) .Add e pos) (zho i f):= wH (zjI hN hi hx he zjp hf) λD O H ⟨Y,ρ,s,r,en,h⟩=>by
  unfold zho at h;split at h
  ·rename_i a ea;obtain⟨v,h1,h2⟩:=en.at_ i _ ea;cases zO h2;refine⟨_,h1,?_⟩;refine zN (k:=fun ρ d s1=>match d with | .int b=>R.ok (Fl.nx (ρ.set i (some (.int (a+b))))) s1 | _=>.no) r en h _ λv H1 Y1 s1 d r1 aE dn stp h3=>?_;cases d with
   | int b=>
    cases zO dn;refine⟨_,_,rfl,rfl,?_⟩;exact okR.here (b:=FlV.nx (O.set i (some (.int (a+b))))) h3 r1 (aE.set yg i) | _=>exact h3.elim
  ·exact h.elim
@[simp] theorem zlz       (h:ρ[i]? = some (some (.int a)))(hf:f ρ s=.ok (.int b) s1):zho i f ρ s=.ok (.nx (ρ.set i (some (.int (a+b))))) s1:=by simp only[zho,h,hf,Rb]
end
open PySem.W
end Dd
namespace L2
theorem z3U(ae:List Value):slicePick ae.toArray none none (some (-1))=ae.reverse.toArray:=by
 unfold slicePick;have e:sliceRange (sliceBounds none none (some (-1)) ae.toArray.size).1 (sliceBounds none none (some (-1)) ae.toArray.size).2.1 (sliceBounds none none (some (-1)) ae.toArray.size).2.2=(List.range ae.length).map λk=>ae.length-1-k:=by
  simp only[sliceBounds,_cC,_A];unfold sliceRange;have c:(if (-1:Int) > 0 then (if ((ae.length:Int)-1) < -1 then (-1-((ae.length:Int)-1)+-1-1) / -1 else 0) else if ((ae.length:Int)-1) > -1 then (((ae.length:Int)-1) - -1 - -1-1) / - -1 else 0).toNat=ae.length:=by
   rw[_l (by decide)];by_cases h:ae.length=0;·rw[h];rfl
   ·rw[_g (by lia)];have:(((ae.length:Int)-1) - -1 - -1-1) / - -1=ae.length:=by simp
    rw[this];simp
  simp only[show ¬ ((-1:Int) > 0) by decide,_M]at c ⊢;rw[c];refine _bT λk hk=>?_;have:=_X.mp hk;lia
 rw[e];congr 1;have key:∀k,k<=ae.length->((List.range k).map λk=>ae.length-1-k).filterMap (λx=>ae.toArray[x]?)=ae.reverse.take k:=by
  intro k;induction k with
  | zero=>simp | succ k ih=>
   intro hk;rw[List.range_succ,_b1,List.filterMap_append,ih (by lia)];have hl:k<ae.reverse.length:=by simp;lia
   rw[List.take_succ,_e hl];have h2:ae.length-1-k<ae.length:=by lia
   simp[h2]
 rw[key _ (_h _),_aZ (by simp)]
section
variable {X:Cx}{e m:Expr}{te:TE}{pos p2:Pos}
def zl8(K:W.Frag)(te:TE):TE:=λO H Q=>te O H λx H1=>∃a xs,x=.ref a/\SqL K H1 a xs/\∀p,H1 p=none->Q (.ref p) (upd H1 p (.lst xs.reverse))
theorem zgW (he:PE X e te) (hm:∀(ac:List (Addr×Obj)) (s:Shared) (O:St) (H:Hp),Inv X ac O H s->wpAny (model X.prog X.w) X.A (evalPart (some m) X.env) (λu s'=>∃t,u=.int (-1) t/\Inv X ac O H s') X.xe s): PE X (.Subscript e (.Slice none none (some m) p2) pos) (zl8 X.K te):=by
 intro ac s O H Q I h;refine Subscript_ (thn (he ac s O H _ I h) λv s1 ⟨x,H1,I1,r1,q1⟩=>?_);refine wpAny_Slice ?_;rw[evalPart_none];refine _b (_b ?_);refine thn (hm ac s1 O H1 I1) λu s3 ⟨t,eu,I3⟩=>?_;subst eu;have I4:Inv X ac O H1 {s3 with heap:=s3.heap.push {cls:=.type "slice",data:=.fields #[.none,.none,.int (-1) t]}}:=I3.kept (t':=s3.toks) λb ob q=>_c _ q;obtain⟨a,xs,rfl,hx,q⟩:=q1;cases r1;obtain⟨ae,r,ht,hz⟩:=I4.list hx;show wpAny (model X.prog X.w) X.A (subscriptTail e (.Slice none none (some m) p2) (.ref a) (.ref s3.heap.objs.size)) (EP X ac O Q) X.xe {s3 with heap:=s3.heap.push {cls:=.type "slice",data:=.fields #[.none,.none,.int (-1) t]}};refine tail_any (ops:=[.ref a,.ref s3.heap.objs.size]) ht.isList.typeIs _do.lookup ?_ (by with_unfolding_all rfl);have aF:=r.length;refine wpAny_getItem_list_slice ht.isList (Heap.IsSliceOf.new ..) .none .none (.int _ _) (by simp) ?_ (by rw[_A]<;>lia);rw[z3U];refine⟨.ref _,_,I4.laid (t':=s3.toks) (o:=.lst xs.reverse) (λb ob q=>_c _ q) (_h _) ?_,rfl,q _ (I4.hok.fresh (_h _))⟩;have hr:yp xs.reverse ae.reverse:=by
  clear hx hz ht q I4 aF;induction r with
  | nil=>exact .nil | cons p _ ih=>rw[_bc,_bc];exact ih.append (.cons p .nil)
 exact⟨by simpa using hz,_,0,hr,_k _ rfl⟩
end
end L2
namespace Dd
open L2
section
variable {X:Cx}{E:XK}{e:Expr}{pos p2 p3 p4:Pos}
noncomputable def zaW(f:FE):FE:=fun ρ s=>(f ρ s).bind λd s1=>match listOf s1 d with
 | some xs=>.ok (.lst xs.reverse) s1 | none=>.no
theorem ziz {j:Nat} {f:FE} (he:RE X E e f):RE X E (.Subscript e (.Slice none none (some (.UnaryOp .USub (.Constant (.int 1) j p3) p4)) p2) pos) (zaW f):= zR (zgW he λac s O H I=>by
  rw[evalPart_some];refine thn ((zj7 (pos:=p4) ze9 (zeK (i:=1) (j:=j) (pos:=p3))) ac s O H (λv H1=>v=.int (-1)/\H1=H) I ?_) λu s1 ⟨x,H1,I1,r1,e1,e2⟩=>?_;·exact⟨1,rfl,rfl,rfl⟩
  ·subst e1 e2;obtain⟨t,rfl⟩:=r1;exact⟨t,rfl,I1⟩).freeze λO H Q ⟨Y,ρ,s,r,en,h⟩=>by
  unfold zaW at h;refine⟨Y,ρ,s,r,en,(okR.bind (Dn:=Den (gm X)) h).imp λv H1 ⟨Y1,s1,d,stp,dn,h1⟩=>?_⟩;split at h1
  ·rename_i xs ex;obtain⟨a,ws,rfl,q1,q2⟩:=zJ stp.rep ex dn;exact⟨a,ws,rfl,.inl q1,uD stp.rep h1 q2.rev⟩
  ·exact h1.elim
@[simp] theorem zf4 (f:FE)(ρ:Ev)(s:Sto):zaW f ρ s=(f ρ s).bind λd s1=>match listOf s1 d with
 | some xs=>.ok (.lst xs.reverse) s1 | none=>.no:=id rfl
end
noncomputable def jZ:List D->Option (List Key)
 | []=>some [] | .int i::r=>(jZ r).map (Sum.inl i::·) | .str x::r=>(jZ r).map (Sum.inr x::·) | _=>none
noncomputable def vV:D->Option V
 | .int i=>some (.int i) | .bl b=>some (.bl b) | _=>none
def vD:V->D
 | .int i=>.int i | .bl b=>.bl b | _=>.non
noncomputable def encD(kvs:List (List Key×V)):List D:=kvs.map λp=>.tup [.tup (p.1.map z8Q),vD p.2]
noncomputable def z41:List D->Option (List (List Key×V))
 | []=>some [] | .tup [.tup ks,.int i]::r=>(jZ ks).bind λk=>(z41 r).map ((k,V.int i)::·) | .tup [.tup ks,.bl b]::r=>(jZ ks).bind λk=>(z41 r).map ((k,V.bl b)::·) | _=>none
theorem z0J:∀k:List Key,jZ (k.map z8Q)=some k
 | []=>rfl | .inl i::k=>by simp[z8Q,jZ,z0J k] | .inr x::k=>by simp[z8Q,jZ,z0J k]
theorem z3q:∀{ds:List D}{k:List Key},jZ ds=some k->ds=k.map z8Q
 | [],k,e=>by simp[jZ]at e;subst e;rfl | .int i::r,k,e=>by
  simp only[jZ,_x]at e;obtain⟨a,h1,rfl⟩:=e;rw[z3q h1];rfl | .str i::r,k,e=>by
  simp only[jZ,_x]at e;obtain⟨a,h1,rfl⟩:=e;rw[z3q h1];rfl | .non::_,_,e=>by simp[jZ]at e | .bl _::_,_,e=>by simp[jZ]at e | .tup _::_,_,e=>by simp[jZ]at e | .lst _::_,_,e=>by simp[jZ]at e | .dct::_,_,e=>by simp[jZ]at e | .loc _::_,_,e=>by simp[jZ]at e | .dlo _::_,_,e=>by simp[jZ]at e | .fn _::_,_,e=>by simp[jZ]at e | .exc _::_,_,e=>by simp[jZ]at e | .scr _::_,_,e=>by simp[jZ]at e
theorem z0A    : ∀{k:List Key}{vs:List V},zG mg H Y (k.map z8Q) vs->vs=k.map kV
 | [],_,h=>h | .inl i::k,vs,h=>by
  obtain⟨v,r,rfl,h1,h2⟩:=h;rw[zO h1,z0A h2];rfl | .inr i::k,vs,h=>by
  obtain⟨v,r,rfl,h1,h2⟩:=h;rw[z39 h1,z0A h2];rfl
theorem z42    : ∀(k:List Key),zG mg H Y (k.map z8Q) (k.map kV)
 | []=>rfl | .inl i::k=>by simp only[_H];exact zG.cons rfl (z42 k) | .inr i::k=>by simp only[_H];exact zG.cons rfl (z42 k)
theorem zag   (h:z8U v=some x):x=vD v:=by cases v<;>simp[z8U]at h<;>simp[vD,h]
theorem ziC   (h:vV d=some u):z8U u=some d/\vD u=d:=by cases d<;>simp[vV]at h<;>subst h<;>exact⟨rfl,rfl⟩
theorem zj1      (h:vV d=some u)(dn:Den mg H Y d v):v=u:=by cases d with
 | int i=>simp[vV]at h;subst h;exact zO dn | bl b=>simp[vV]at h;subst h;exact uo dn | _=>simp[vV]at h
def zbq(kvs:List (List Key×V)):Prop:=∀p∈kvs,(z8U p.2).isSome=true
theorem z1B:∀{xs:List D}{kvs:List (List Key×V)},zdC xs kvs->xs=encD kvs/\zbq kvs/\z41 xs=some kvs
 | [],kvs,h=>by simp only[zdC]at h;subst h;exact⟨rfl,(λp hp=>by simp at hp),rfl⟩ | d::ds,kvs,h=>by
  simp only[zdC]at h;obtain⟨k,v,x,r,rfl,h1,rfl,h2⟩:=h;obtain⟨i1,i2,i3⟩:=z1B h2;refine⟨?_,λp hp=>?_,?_⟩
  ·rw[zag h1];show _::ds=encD ((k,v)::r);rw[encD,_H];congr 1
  ·rcases _n.mp hp with rfl | hp;·rw[h1];rfl
   ·exact i2 p hp
  ·cases v with
   | int i=>simp only[z8U,_J]at h1;subst h1;simp[z41,z0J,i3] | bl b=>simp only[z8U,_J]at h1;subst h1;simp[z41,z0J,i3] | _=>simp[z8U]at h1
theorem z3l:∀{kvs:List (List Key×V)},zbq kvs->zdC (encD kvs) kvs
 | [],_=>rfl | (k,v)::r,h=>by
  obtain⟨x,hx⟩:=_aP.mp (h (k,v) (by simp));refine⟨k,v,x,r,rfl,hx,?_,z3l λp hp=>h p (by simp[hp])⟩;rw[zag hx]
theorem dec_enc  (h:zbq kvs):z41 (encD kvs)=some kvs:=(z1B (z3l h)).2.2
theorem z4m       (h:z4d mg H Y xs aY)(hd:z41 xs=some kvs):aY=[]:=by cases xs with
 | nil=>exact h | cons d ds=>
  obtain⟨k,ys,b,vs,r,rfl,h1,h2,h3⟩:=h;rcases h2 with⟨rfl,_⟩ | ⟨rfl,_⟩<;>simp[z41]at hd
theorem Rep.dicU     (r:Rep mg H Y s){l:Nat}    (h:s[l]? = some xs)(ha:Y[l]? = some a)(k:IsC H a)(hd:z41 xs=some kvs):H a=some (.dT kvs)/\zbq kvs/\xs=encD kvs:=by
 rcases r.dic h ha k with⟨aY,q1,q2⟩ | ⟨o,aY,ys,q1,rfl,q2⟩ | ⟨aY,g,q1,q2⟩ | ⟨o,aY,ys,q1,rfl,q2⟩
 ·obtain⟨z1,z2,z3⟩:=z1B q2;rw[z3]at hd;cases hd;exact⟨q1,z2,z1⟩
 ·simp[z41]at hd
 ·exact absurd (z4m q2 hd) (by intro z;exact g z)
 ·simp[z41]at hd
theorem z3W:∀k:List Key,D.flat.flats (k.map z8Q)=true
 | []=>rfl | .inl i::k=>z3W k | .inr i::k=>z3W k
theorem z3c:∀kvs:List (List Key×V),D.flat.flats (encD kvs)=true
 | []=>rfl | (k,v)::r=>by
  have:(vD v).flat=true:=by cases v<;>rfl
  simp only[encD,_H,flC,flN,flT,z3W,this,Bool.and_true,Bool.true_and];exact z3c r
theorem zbq.put    (h:zbq kvs)(hu:(z8U u).isSome=true):zbq (jQ kvs k u):=by
 unfold jQ;split
 ·intro p hp;obtain⟨q,hq,rfl⟩:=_E.mp hp;split;·exact hu
  ·exact h q hq
 ·intro p hp;rcases _C.mp hp with hp | hp;·exact h p hp
  ·simp only[_n,_cE,or_false]at hp;subst hp;exact hu
section
variable {X:Cx}{E:XK}{o i e aC:Expr}{pos bx:Pos}
noncomputable def zic:FE:=λ_ s=>.ok (.dlo s.length) (s++[[]])
theorem ziL:RE X E (.Dict [] [] pos) zic:=zR zdz λO H Q ⟨Y,ρ,s,r,en,h⟩ p hp=>by
 refine h _ _ _ (yQ.layC r hp (o:=.dT []) (.inr (.inl ⟨[],zA,rfl⟩)) rfl) ?_;change ∃_,_;exact⟨p,rfl,by rw[<- r.len];simp,.inl ⟨[],zA⟩⟩
noncomputable def zbf(fo fk fv:FE):FS:=fun ρ s=>(fv ρ s).bind λv s1=>(fo ρ s1).bind λo s2=>(fk ρ s2).bind λk s3=>match o,k,vV v with
 | .dlo l,.tup ks,some u=>match (s3[l]?).bind z41,jZ ks with
  | some kvs,some key=>if kvs.length<cap then .ok (.nx ρ) (s3.set l (encD (jQ kvs key u))) else .no | _,_=>.no
 | _,_,_=>.no
theorem zhI  (hu:X.A.units+64<cLine) (hv:RE X E aC fv) (ho:RE X E o fo) (hi:RE X E i fk) (hs:autoParam (swapsWith aC (some (.Subscript o i bx)) pos.line X.env=pure false) aRf): RS X E (.Assign [.Subscript o i bx] aC pos) (zbf fo fk fv):= wH (zfb (by lia) ho hi hv hs) λD O H ⟨Y,ρ,s,r,en,h⟩=>by
  unfold zbf at h;refine zN (k:=fun ρ v s1=>(fo ρ s1).bind λo s2=>(fk ρ s2).bind λk s3=>match o,k,vV v with
   | .dlo l,.tup ks,some u=>match (s3[l]?).bind z41,jZ ks with
    | some kvs,some key=>if kvs.length<cap then R.ok (Fl.nx ρ) (s3.set l (encD (jQ kvs key u))) else .no | _,_=>.no
   | _,_,_=>.no) r en h _ λv H1 Y1 s1 d r1 aE dn stp h1=>?_;refine zN (k:=fun ρ o s2=>(fk ρ s2).bind λk s3=>match o,k,vV d with
   | .dlo l,.tup ks,some u=>match (s3[l]?).bind z41,jZ ks with
    | some kvs,some key=>if kvs.length<cap then R.ok (Fl.nx ρ) (s3.set l (encD (jQ kvs key u))) else .no | _,_=>.no
   | _,_,_=>.no) r1 aE h1 _ λv2 H2 Y2 s2 od r2 bw aJ ak h2=>?_;refine zN (k:=fun ρ k s3=>match od,k,vV d with
   | .dlo l,.tup ks,some u=>match (s3[l]?).bind z41,jZ ks with
    | some kvs,some key=>if kvs.length<cap then R.ok (Fl.nx ρ) (s3.set l (encD (jQ kvs key u))) else .no | _,_=>.no
   | _,_,_=>.no) r2 bw h2 _ λv3 H3 Y3 s3 kd r3 fH b9 aq h3=>?_;split at h3
  ·rename_i l ks u eu;split at h3
   ·rename_i kvs key ek lh;split at h3
    ·rename_i hl;have dv:=(dn.mono ak).mono aq;obtain rfl:u=v:=(zj1 eu dv).symm;have k7:=aJ.mono aq;obtain⟨a,rfl,e1,ka⟩:=k7;obtain⟨xs,ex,gJ⟩:=_aF.mp ek;obtain⟨q1,z2,z1⟩:=r3.dicU ex e1 ka gJ;rw[z3q lh]at b9;obtain⟨b,vs,rfl,hb,hd⟩:=b9;rw[z0A hd]at hb;have ap:=z2.put (k:=key) (u:=u) (by rw[(ziC eu).1];rfl);have bg:=yQ.putC (l:=l) (o:=.dT (jQ kvs key u)) r3 e1 (.putC ⟨_,q1⟩ (.inl ⟨_,rfl⟩)) (.inr (.inl ⟨_,zA,z3l ap⟩)) (z3c _);exact⟨a,_,rfl,zjH.t q1 hb (_v hl (by decide)),h3 (.nx O) _ _ bg (fH.mono bg)⟩
    ·exact h3.elim
   ·exact h3.elim
  ·exact h3.elim
end
theorem zc6 {prog:Program} {w:World} {A:Around} {E:Value->Shared->Prop} {s:Shared} {it d:Addr} {i ep:Nat} {o:Obj} {es:Array DictEntry} {e:DictEntry} {Q:Option Value->Shared->Prop} (cO:s.heap.IsKeyIter it d i es.size ep) (gK:s.heap.get? d=some o) (gL:o.data=.dict es ep) (he:es[i]? = some e) (hQ:∀h':Heap,h'.IsKeyIter it d (i+1) es.size ep->Heap.SameBut it s.heap h'->Q (some e.key) {s with heap:=h'}):wpAny (model prog w) A (pyNext (.ref it)) Q E s:=by
 obtain⟨oi,ho,hc,hd⟩:=id cO;refine _a (_bt (_S cO.typeIs _aS (_P _aS cO.typeIs _cP ?_ (_cF _))));refine _a (_b (_a (_a (_a (_a9 cO.typeIs (_b (_a (wpAny_fieldsOf ho hd ?_))))))));have dh:Builtin.Dict_items.ownsTuple "dict_keyiterator"=false:=by decide +kernel
 rw[dh];simp only[_o,_M,List.drop_zero];show wpAny _ _ (if (Value.ref d==Value.none)=true then _ else _) _ _ _;rw[_l (by simp)];refine _a (_b (_a (_dr gK gL ?_)));rw[_l (by simp)];refine _a (_b (_a (wpAny_dictEpoch gK gL ?_)));rw[_l (by simp)];refine _b ?_;have hi:(if (i:Int)<0 then none else es[(i:Int).toNat]?)=some e:=by rw[_l (by lia)];simpa using he
 show wpAny _ _ (match (if (i:Int)<0 then none else es[(i:Int).toNat]?) with | some e=>_ | none=>_) _ _ _;rw[hi];refine _a (_a (_a9 cO.typeIs (_b ?_)));rw[dh];refine _a (wpAny_isOneOf_keyiter cO.typeIs ?_);refine _a (_bu ho hd (show 1<4 by decide) ?_);have ag:∀g:Array Value->Array Value,g #[Value.ref d,Value.int (i:Int) 0,Value.int (es.size:Int) 0,Value.int (ep:Int) 0]=#[Value.ref d,Value.int ((i+1:Nat):Int) 0,Value.int (es.size:Int) 0,Value.int (ep:Int) 0]->(s.heap.update it (Obj.mapFields g)).IsKeyIter it d (i+1) es.size ep:=λg hg=>by
  obtain⟨c0,d0,da,sl⟩:=oi;simp only at hc hd;subst hc hd;refine⟨_,_ar _ ho rfl,rfl,?_⟩;show Data.fields (g _)=_;rw[hg]
 have au:=ag (λx=>x.setIfInBounds 1 (rawInt ((i:Int)+1))) (by simp[rawInt]);refine _a (_ak ?_);refine _a (wpAny_isOneOf_keyiter au.typeIs ?_);rw[_g (by decide +kernel)];refine _b (_b ⟨_,rfl,_b ?_⟩);exact hQ _ au (_a0 ..)
theorem zf2 {prog:Program} {w:World} {A:Around} {E:Value->Shared->Prop} {s:Shared} {it d:Addr} {i ep:Nat} {o:Obj} {es:Array DictEntry} {Q:Option Value->Shared->Prop} (hh:A.handled=none) (cO:s.heap.IsKeyIter it d i es.size ep) (gK:s.heap.get? d=some o) (gL:o.data=.dict es ep) (he:es[i]? = none) (hQ:∀h':Heap,Heap.ExtBut it s.heap h'->Q none {s with heap:=h'}):wpAny (model prog w) A (pyNext (.ref it)) Q E s:=by
 obtain⟨oi,ho,hc,hd⟩:=id cO;refine _a (_bt (_S cO.typeIs _aS (_P _aS cO.typeIs _cP ?_ (_cF _))));refine _a (_b (_a (_a (_a (_a9 cO.typeIs (_b (_a (wpAny_fieldsOf ho hd ?_))))))));have dh:Builtin.Dict_items.ownsTuple "dict_keyiterator"=false:=by decide +kernel
 rw[dh];simp only[_o,_M,List.drop_zero];show wpAny _ _ (if (Value.ref d==Value.none)=true then _ else _) _ _ _;rw[_l (by simp)];refine _a (_b (_a (_dr gK gL ?_)));rw[_l (by simp)];refine _a (_b (_a (wpAny_dictEpoch gK gL ?_)));rw[_l (by simp)];refine _b ?_;have hi:(if (i:Int)<0 then none else es[(i:Int).toNat]?)=none:=by rw[_l (by lia)];simpa using he
 show wpAny _ _ (match (if (i:Int)<0 then none else es[(i:Int).toNat]?) with | some e=>_ | none=>_) _ _ _;rw[hi];refine _a (_a (_a9 cO.typeIs (_b ?_)));rw[dh];refine _a (_bu ho hd (show 0<4 by decide) ?_);show wpAny _ _ (newExc (.type "StopIteration") [] >>= _) _ _ _;refine _a ?_;simp only[newExc,newTuple];refine _a (_ag ?_ (by size_fits));refine _a (m:=firstArgMember _ _) (_cN (a:=Value.none) (by first | rfl | (simp only[firstArgMember];rfl)) ?_);refine _ag ?_ (by size_fits);simp only[raiseNew];refine _a (wpAny_handled ?_);first | rw[show A.in1.handled=none from hh] | rw[hh]
 refine _a (_b (wpAny_throw ?_));refine _a (_bh (T:="StopIteration") (b:=true) ⟨_,_k _ rfl,rfl⟩ _c8 ?_);exact _b (hQ _ (((_a0 ..).extBut.push _).push _))
section
variable {prog:Program}{w:World}{A:Around}{E:Value->Shared->Prop}{s:Shared}{d:Addr}{es:Array DictEntry}{ep:Nat}
def zjZ(h:Heap)(d:Addr)(es:Array DictEntry)(ep:Nat):Prop:=∃o,h.get? d=some o/\o.ExactDict/\o.data=.dict es ep
theorem zjZ.typeIs(h:zjZ s.heap d es ep):s.TypeIs (.ref d) "dict":=let ⟨o,ho,hc,_⟩:=h;⟨o,ho,hc.1⟩
theorem zdm {Q:Value->Shared->Prop} (hd:(d==sysModules)=false) (hm:zjZ s.heap d es ep) (hQ:Q (.ref s.heap.objs.size) {s with heap:=s.heap.push {cls:=.type "dict_keyiterator",data:=.fields #[.ref d,.int 0 0,.int es.size 0,.int ep 0]}}): wpAny (model prog w) A (pyIter (.ref d)) Q E s:=by
 obtain⟨o,ho,hc,gM⟩:=id hm;have hT:=hm.typeIs;refine _ds hT F.slot_dict_iter (_P F.slot_dict_iter hT F.entry_dict_iter ?_ (F.args_dict_iter_1 _));unfold Builtin.«dict.__iter__»;refine _a ?_;unfold Builtin.Dict.dictSlotNone;refine _a (wpAny_notOrdered_dict hT ?_);show wpAny _ _ (pure (Value.ref d)) _ _ s;refine _b ?_;show wpAny _ _ (Builtin.Dict.showsAll d >>= _) _ _ s;unfold Builtin.Dict.showsAll;rw[_l (by rw[hd];exact _aW)];refine _a (_b (_a (_dr ho gM (_a (wpAny_dictEpoch ho gM ?_)))));refine _a (_ag (_b ⟨_,rfl,"dict_keyiterator",_,⟨_,_k _ rfl,rfl⟩,_aS.lookup,?_⟩));simpa[rawInt] using hQ
end
noncomputable def z34(kvs:List (List Key×V)):List D:=kvs.map λp=>.tup (p.1.map z8Q)
noncomputable def zdL:List D->Option (List Int)
 | []=>some [] | .int i::r=>(zdL r).map (i::·) | _=>none
noncomputable def zgQ:D->Option (List Int)
 | .tup ds=>zdL ds | _=>none
noncomputable def z37:List D->Option (List (List Int))
 | []=>some [] | d::ds=>match zgQ d,z37 ds with | some n,some ns=>some (n::ns) | _,_=>none
theorem z3H:∀ns:List Int,zdL (ns.map D.int)=some ns
 | []=>rfl | i::r=>by simp[zdL,z3H r]
theorem zb1:∀{ds:List D}{ns:List Int},zdL ds=some ns->ds=ns.map D.int
 | [],_,e=>by simp[zdL]at e;subst e;rfl | d::r,ns,e=>by cases d with
  | int i=>
   simp only[zdL,_x]at e;obtain⟨a,h1,rfl⟩:=e;rw[zb1 h1];rfl | _=>simp[zdL]at e
theorem z6W(ns:List Int):zgQ (.tup (ns.map D.int))=some ns:=z3H ns
theorem zgx   (e:zgQ d=some ns):d=.tup (ns.map D.int):=by cases d with
 | tup ds=>rw[zb1 e] | _=>simp[zgQ]at e
theorem jP:∀L:List (List Int),z37 (L.map λns=>.tup (ns.map D.int))=some L
 | []=>rfl | n::L=>by simp only[_H,z37,z6W,jP L]
def AtN(H:Hp)(v:V)(ns:List Int):Prop:=∃b,v=.ref b/\H b=some (.tup (ns.map V.int))
theorem z7G:∀{a b:List Int},a.map V.int=b.map V.int->a=b
 | [],[],_=>rfl | [],_::_,h=>by simp at h | _::_,[],h=>by simp at h | x::a,y::b,h=>by
  simp only[_H,_be,V.int.injEq]at h;rw[h.1,z7G h.2]
theorem z48       (h:zgQ d=some ns)(dn:Den mg H Y d v):AtN H v ns:=by
 rw[zgx h]at dn;obtain⟨a,vs,rfl,e,dd⟩:=dn;rw[(show ∀{ns:List Int}{vs:List V},zG mg H Y (ns.map D.int) vs->vs=ns.map V.int from by
  intro ns;induction ns with
  | nil=>exact id | cons i r ih=>
   intro vs h;obtain⟨v,r',rfl,h1,h2⟩:=h;rw[zO h1,ih h2];rfl) dd]at e;exact⟨a,rfl,e⟩
theorem jV    : ∀{ds:List D}{vs:List V}{L:List (List Int)},z37 ds=some L->zG mg H Y ds vs->Paired (λv ns=>AtN H v ns) vs L
 | [],_,_,h,dn=>by simp only[z37,_J]at h;subst dn;subst h;exact .nil | d::ds,_,_,h,dn=>by
  obtain⟨v,vs,rfl,h1,h2⟩:=dn;simp only[z37]at h;split at h
  ·rename_i n ns e1 e2;cases h;exact .cons (z48 e1 h1) (jV e2 h2)
  ·cases h
theorem z16:∀ns:List Int,PyData.canLayAll0 (toPys (ns.map D.int))=true/\PyData.depthAll (toPys (ns.map D.int))<=1
 | []=>by decide | i::k=>by
  have:=z16 k;simp only[_H,zkx,tPc,PyData.canLayAll0,PyData.canLay0,PyData.depthAll,PyData.depth,Bool.true_and,this.1,true_and];lia
theorem jT:∀a b:List Int,PyData.eqvAll (toPys (a.map D.int)) (toPys (b.map D.int))=decide (a=b)
 | [],[]=>by simp[tPn,PyData.eqvAll] | [],_::_=>by simp[tPn,tPc,PyData.eqvAll] | _::_,[]=>by simp[tPn,tPc,PyData.eqvAll] | x::a,y::b=>by
  simp only[_H,tPc,zkx,PyData.eqvAll,PyData.eqv,jT a b,_be];by_cases h:x=y<;>by_cases h2:a=b<;>simp[h,h2]
section
variable {X:Cx}{ac:List (Addr×Obj)}{O:L2.St}{H:Hp}{s:Shared}
theorem AtN.reads (mg:Gm)    (ok:HOk P w H h)    (a:AtN H v ns) (r:ym v u):∃as,Reads h u (z0j (.tup (ns.map D.int))) as:=by
 refine Den.reads (mg:=mg) (Y:=[])   ok ((z16 ns).1) ?_ r;obtain⟨b,rfl,e⟩:=a;refine⟨b,_,rfl,e,?_⟩;clear e;induction ns with
 | nil=>exact zG.nil | cons i r ih=>exact zG.cons yg ih
theorem AtN.eqAt(mg:Gm)    (ok:HOk P w H s.heap)(hu:A.units+2<cLine)    (a:AtN H v ns)(r:ym v u)(b:AtN H x ms)(q:ym x y): SeqAt.EqAt A s u y (decide (ns=ms)):=by
 obtain⟨as,ra⟩:=a.reads mg ok r;obtain⟨bs,rb⟩:=b.reads mg ok q;have h:=SeqAt.eqAt_reads _ _ A s u y as bs ra rb ((z16 ns).1) ((z16 ms).1) (by
  have h1:=(z16 ns).2;have h3:(z0j (.tup (ns.map D.int))).depth<=2:=by simp only[ziP,PyData.depth];lia
  lia);rw[show PyData.eqv (z0j (.tup (ns.map D.int))) (z0j (.tup (ms.map D.int)))=decide (ns=ms) by simp only[ziP,PyData.eqv,jT]]at h;exact h
end
section
variable {X:Cx}{E:XK}
open Classical in
def eqN(H:Hp)(ms:List Int)(u:Value):Bool:=match u with
 | .ref b=>if h:∃ns:List Int,H b=some (.tup (ns.map V.int)) then decide (h.choose=ms) else false | _=>false
theorem zex     (a:AtN H v ns)(r:ym v u):eqN H ms u=decide (ns=ms):=by
 obtain⟨b,rfl,e⟩:=a;cases (show u=Value.ref b from r);have h:∃ns:List Int,H b=some (.tup (ns.map V.int)):=⟨ns,e⟩;have e2:=e.symm.trans h.choose_spec;simp only[_J,HO.tup.injEq]at e2;simp only[eqN,h,dite_true];rw[<- z7G e2]
theorem z6c   : ∀{xs:List V}{us:List Value}{L:List (List Int)},yp xs us->Paired (λv ns=>AtN H v ns) xs L->us.any (eqN H ms)=L.any λns=>decide (ns=ms)
 | _,_,_,.nil,.nil=>rfl | y::xs,u::us,ns::L,.cons r t,.cons a p=>by rw[_bs,_bs,zex a r,z6c t p]
theorem z60(mg:Gm)      (ok:HOk P w H s.heap)(hu:A.units+2<cLine)    (a:AtN H x ms)(rx:ym x v): ∀{xs:List V}{us:List Value}{L:List (List Int)},yp xs us->Paired (λv ns=>AtN H v ns) xs L->∀u∈us,SeqAt.EqAt A s u v (eqN H ms u)
 | _,_,_,.nil,.nil=>λu hu=>by cases hu | y::xs,u::us,ns::L,.cons r t,.cons b p=>λu' hu'=>by
  rcases _n.mp hu' with rfl | hu';·rw[zex b r];exact b.eqAt mg ok hu r a rx
  ·exact z60 mg ok hu a rx t p u' hu'
def zlK(K:W.Frag)(bA:Bool):R2:=λx y H Q=>∃p xs ms L,y=.ref p/\(SqL K H p xs\/SqT K H p xs)/\AtN H x ms/\Paired (λv ns=>AtN H v ns) xs L/\Q (.bl (if bA then !(L.any λns=>decide (ns=ms)) else L.any λns=>decide (ns=ms))) H
theorem zak(hu:X.A.units+64<cLine):OpR X (compareOp .NotIn) (zlK X.K true):=by
 intro ac s O H x y v u Q I rx ry h;obtain⟨p,xs,ms,L,rfl,hq,fx,fs,q⟩:=h;cases ry;have hu':X.A.in1.units+2<cLine:=by have:X.A.in1.units=X.A.units+1:=rfl;lia
 rcases hq with hq | hq
 ·obtain⟨ae,r,pl,hz⟩:=I.list hq;refine SeqAt.notIn_listAt (eqN H ms) pl.isList (λw hw=>z60 (gm X) I.hok hu' fx rx r fs w (by simpa using hw)) ⟨.bl _,H,I,rfl,?_⟩;rw[show ae.toArray.any (eqN H ms)=ae.any (eqN H ms) by simp,z6c r fs];exact q
 ·obtain⟨ae,r,pl,hz⟩:=I.tuple hq;refine SeqAt.notIn_tupleAt (eqN H ms) pl (λw hw=>z60 (gm X) I.hok hu' fx rx r fs w (by simpa using hw)) ⟨.bl _,H,I,rfl,?_⟩;rw[show ae.toArray.any (eqN H ms)=ae.any (eqN H ms) by simp,z6c r fs];exact q
noncomputable def zh9(bA:Bool)(x y:D)(s:Sto):R D:=match zgQ x,(zU s y).bind z37 with
 | some ms,some L=>.ok (.bl (if bA then !(L.any λns=>decide (ns=ms)) else L.any λns=>decide (ns=ms))) s | _,_=>.no
theorem zgS{bA:Bool}:OpF X E (zlK X.K bA) (zh9 bA):=λH Y s d1 d2 v1 v2 Q r h1 h2 h=>by
 unfold zh9 at h;split at h
 ·rename_i ms L e1 e2;cases e3:zU s d2 with
  | none=>rw[e3]at e2;cases e2 | some xs=>
   rw[e3]at e2;obtain⟨a,ws,rfl,q1,q2⟩:=vn  r e3 h2;exact⟨a,ws,ms,L,rfl,q1,z48 e1 h1,jV e2 q2,h.here r yh⟩
 ·exact h.elim
theorem zd6(hu:X.A.units+64<cLine):∃r,OpR X (compareOp .NotIn) r/\OpF X E r (zh9 true):=⟨_,zak hu,zgS⟩
end
end Dd
namespace Zz
noncomputable abbrev T1(b1:Bool)(h:Heap)(l1:Addr):Heap:=h.push (itO b1 l1)
noncomputable abbrev T2(b1 b2:Bool)(h:Heap)(l1 l2:Addr):Heap:=(T1 b1 h l1).push (itO b2 l2)
end Zz
namespace Dd
open L2
noncomputable def lexN:List Int->List Int->Bool
 | [],[]=>false | [],_::_=>true | _::_,[]=>false | x::a,y::b=>if x=y then lexN a b else decide (x<y)
inductive yd:List Value->List Int->Prop | nil:yd [] [] | cons {i t vs ns}:yd vs ns->yd (.int i t::vs) (i::ns)
theorem yd.of_vals:∀{ns:List Int}{us:List Value},yp (ns.map V.int) us->yd us ns
 | [],_,.nil=>.nil | _::_,_,.cons ⟨_,rfl⟩ r=>.cons (yd.of_vals r)
theorem yd.length:∀{us ns},yd us ns->us.length=ns.length
 | _,_,.nil=>rfl | _,_,.cons r=>by simp[r.length]
section
variable {prog:Program}{w:World}{A:Around}{E:Value->Shared->Prop}{s:Shared}
theorem z6y     (ha:s.heap.IsTuple a xs)(hb:s.heap.IsTuple b ys)(hx:yd xs.toList ns)(hy:yd ys.toList ms) (h:P (.done (.ret (.bool (lexN ns ms)))) s):wpAny (model prog w) A (Builtin.«tuple.__lt__» ⟨[.ref a,.ref b],[]⟩) P E s:=by
 obtain⟨oa,ga,ca,na,da⟩:=ha;obtain⟨ob,gb,cb,nb,db⟩:=hb;show wpAny _ _ (isInstance (.ref b) (.type "tuple") >>= _) _ _ s;refine _a (_bh ⟨ob,gb,cb⟩ isSubtype_tuple_tuple (_a (_b7 ga da (_a (_b7 gb db (_a (_bw _ (λvF r s'=>r.1=none/\s'=s/\∃us vs iE iF,vF=List.zip us vs/\yd us iE/\yd vs iF/\lexN iE iF=lexN ns ms/\(decide (us.length<vs.length))=decide (xs.size<ys.size)) _ ?_ ?_ _ _ ⟨rfl,rfl,xs.toList,ys.toList,ns,ms,rfl,hx,hy,rfl,by rfl⟩)))))))
 ·rintro⟨u,v⟩ vF r s' ⟨hr,rfl,us,vs,iE,iF,hz,h1,h2,hl,hs⟩;cases h1 with
  | nil=>cases hz | @cons i t iG li gB=>cases h2 with
   | nil=>cases hz | @cons j t' eT lj cf=>
    obtain⟨⟨rfl,rfl⟩,rfl⟩:=hz;refine _a (_cx ?_);by_cases e:i=j
    ·subst e;simp only[_dD,_M];exact _b ⟨rfl,rfl,iG,eT,li,lj,rfl,gB,cf,by rw[<- hl];simp[lexN],by simpa using hs⟩
    ·rw[show (i==j)=false by simpa using e];rw[(show lexN ns ms=decide (i<j) from by rw[<- hl];simp[lexN,e])]at h;exact _a (_aL (_a ((_cZ (_a (_b (_b (_b h))))))))
 ·rintro⟨r1,r2⟩ s' ⟨hr,rfl,us,vs,iE,iF,hz,h1,h2,hl,hs⟩;subst hr;refine _b ?_;show P (.done (.ret (.bool (decide (xs.size<ys.size))))) s';rw[(show decide (xs.size<ys.size)=lexN ns ms from by
   rw[<- hl,<- hs];cases h1 with
   | nil=>cases h2<;>rfl | cons _=>cases h2 with
    | nil=>rfl | cons _=>cases hz)];exact h
theorem zjE     (hu:A.units<cLine)(ha:s.heap.IsTuple a xs)(hb:s.heap.IsTuple b ys)(hx:yd xs.toList ns)(hy:yd ys.toList ms) (h:Q (.bool (lexN ns ms)) s):wpAny (model prog w) A (richCompare .Lt (.ref a) (.ref b)) Q E s:=by
 have ta:s.TypeIs (.ref a) "tuple":=by obtain⟨o,g,c,_⟩:=ha;exact⟨o,g,c⟩
 exact wpAny_richCompare_same_room ta (by obtain⟨o,g,c,_⟩:=hb;exact⟨o,g,c⟩) _bE (_P _bE ta PySem.F.entry_tuple_lt (z6y ha hb hx hy ⟨_,rfl,by simp,h⟩) (PySem.F.args_tuple_lt_2 _ _)) hu
end
section
variable {prog:Program}{w:World}{A:Around}{R:Result->Shared->Prop}{I S:Addr}{fp wr:List Addr}{n:Nat}{P:Nat->Value->Prop}{St:Nat->Heap->Prop}{Kh:Heap->Prop}{bt:Nat->Nat->Bool}
theorem z89 (W:Walks prog w A.in1 I fp wr n P St) (cmp:∀i j vi vj (s:Shared) (Q:Value->Shared->Prop) (E:Value->Shared->Prop),Kh s.heap->P i vi->P j vj->Q (.bool (bt i j)) s->wpAny (model prog w) A.in1 (richCompare .Lt vi vj) Q E s) (keep:∀h h':Heap,Kh h->(∀b o,b∉wr->b≠S->h.get? b=some o->h'.get? b=some o)->Kh h') (out:S∉fp) (k:Nat): ∀(j:Nat) (s:Shared) (v:Value) (c:Nat),n=j+1+k->St (j+1) s.heap->Kh s.heap->P (argBest bt j) v->s.heap.get? S=some (seqObj "list" #[v,v] c)-> (∀u h' tk,P (argBest bt (n-1)) u->(∀b o,b∉wr->b≠S->s.heap.get? b=some o->h'.get? b=some o)->R (.ok (.ret u)) {s with heap:=h',toks:=tk})-> codeAny (model prog w) A (.builtin "min.loop" ⟨[.ref I,.none,.ref S],[]⟩) R s:=by
 have ow  := λz=>out (W.sub _ z);have nm:(toString "min"++toString ".loop":String)="min.loop":=by decide
 induction k with
 | zero=>
  intro j s v c en st kh pv gS fin;refine _a2 _cj ?_;rw[_aJ _aK _];show wpAny _ A.in1 (seqItems? (.ref S) >>= _) _ _ s;refine _a (_aA gS rfl ?_);show wpAny _ A.in1 (tryCatch (pyNext (.ref I)) _ >>= _) _ _ s;refine _a (_c9 (W.done s _ _ (by rw[en];exact st) λh1 tk k1=>?_));show wpAny _ A.in1 (updateSeq S (λ_=>#[]) >>= _) _ _ _;refine _a (wpAny_updateSeq (k1 S _ ow gS) rfl (_a (_bI (_b ?_))));exact fin v _ tk (by rw[show n-1=j by lia];exact pv) λb o hb hS e=>(_W _ _ (_ba hS)).trans (k1 b o hb e) | succ k ih=>
  intro j s v c en st kh pv gS fin;refine _a2 _cj ?_;rw[_aJ _aK _];show wpAny _ A.in1 (seqItems? (.ref S) >>= _) _ _ s;refine _a (_aA gS rfl ?_);show wpAny _ A.in1 (tryCatch (pyNext (.ref I)) _ >>= _) _ _ s;refine _a (_c9 (W.item (j+1) s _ _ (by lia) st λu h1 tk pu bq k1=>?_));have fL:=k1 S _ ow gS;show wpAny _ A.in1 (tryCatch (holding [u,u] (richCompare .Lt u v >>= _)) _ >>= _) _ _ _;refine _a (_c9 (_ak (_a (cmp (j+1) (argBest bt j) u v _ _ _ (keep _ _ kh λb o hb _ e=>k1 b o hb e) pu pv ?_))));refine _a (_ak (_aD (_a (_bI (_b ?_)))));by_cases q:bt (j+1) (argBest bt j)=true
  ·rw[q];simp only[_K];refine _a (wpAny_updateSeq fL rfl (_a (_bI ?_)));rw[nm];refine _b ⟨_bC _aK _,ih (j+1) _ u _ (by lia) (W.frame _ _ _ bq λb hb o e=>(_W _ _ (λz:S=b=>out (z ▸ hb))).trans e) ?_ (by rw[show argBest bt (j+1)=j+1 by simp[argBest,q]];exact pu) (_ar _ fL rfl) λu' h2 eY p2 k2=>?_⟩;·exact keep _ _ kh λb o hb hS e=>(_W _ _ (_ba hS)).trans (k1 b o hb e)
   ·exact fin u' h2 eY p2 λb o hb hS e=>k2 b o hb hS ((_W _ _ (_ba hS)).trans (k1 b o hb e))
  ·rw[show bt (j+1) (argBest bt j)=false by simpa using q];simp only[_M];refine _a (_bI ?_);rw[nm];refine _b ⟨_bC _aK _,ih (j+1) _ v c (by lia) bq (keep _ _ kh λb o hb _ e=>k1 b o hb e) (by rw[show argBest bt (j+1)=argBest bt j by simp[argBest,q]];exact pv) fL λu' h2 eY p2 k2=>?_⟩;exact fin u' h2 eY p2 λb o hb hS e=>k2 b o hb hS (k1 b o hb e)
end
section
variable {prog:Program}{w:World}{A:Around}{E:Value->Shared->Prop}{s:Shared}
theorem z8X (h:wpAny (model prog w) A.in1 (pyIter x) (λit s2=>∃I fp wr n P St bt,∃Kh:Heap->Prop,it=.ref I/\Walks prog w A.in1 I fp wr n P St/\St 0 s2.heap/\(∀b∈fp,b<s2.heap.objs.size)/\0<n/\Kh s2.heap/\ (∀i j vi vj (s:Shared) (Q:Value->Shared->Prop) (E:Value->Shared->Prop),Kh s.heap->P i vi->P j vj->Q (.bool (bt i j)) s->wpAny (model prog w) A.in1 (richCompare .Lt vi vj) Q E s)/\ (∀h h':Heap,Kh h->(∀b o,b∉wr->b<s2.heap.objs.size->h.get? b=some o->h'.get? b=some o)->Kh h')/\ ∀v h' tk,P (argBest bt (n-1)) v->(∀b o,b∉wr->s2.heap.get? b=some o->h'.get? b=some o)->Q v {s2 with heap:=h',toks:=tk}) E s): wpAny (model prog w) A (call (.builtin "min") [x]) Q E s:=by
 have nm:(toString "min"++toString ".loop":String)="min.loop":=by decide
 refine call_function_tree PySem.F.kind_min PySem.F.plain_min PySem.F.entry_min (PySem.F.args_min1 _) ?_;show wpAny _ A.in1 (Builtin.Builtins.bindParams "min" ["key","default"] 0 ⟨[],[]⟩ >>= _) _ _ s;refine _a (_cN (show Builtin.Builtins.bindParams "min" ["key","default"] 0 ⟨[],[]⟩=pure [none,none] from rfl) (_a (_b ?_)));refine _a (_z h (λit s2 z=>?_) λ_ _ e=>e);obtain⟨I,fp,wr,n,P,St,bt,Kh,rfl,W,st,bd,hn,kh,cmp,keep,fin⟩:=z;refine _a (_ag ?_);have out  := λz=>_aB _ (bd _ z);have ow  := λz=>out (W.sub _ z);have eo:∀h h':Heap,Kh h->(∀b o,b∉wr->b≠s2.heap.objs.size->h.get? b=some o->h'.get? b=some o)->Kh h':=λh h' z k=>keep h h' z λb o hb lt e=>k b o hb (_t lt) e;rw[nm];refine _b ⟨_bC _aK _,_a2 _cj ?_⟩;have gS:(s2.heap.push (seqObj "list" #[] 0)).get? s2.heap.objs.size=some (seqObj "list" #[] 0):=_k _ rfl;rw[_aJ _aK _];show wpAny _ A.in1 (seqItems? (.ref s2.heap.objs.size) >>= _) _ _ {s2 with heap:=s2.heap.push (seqObj "list" #[] 0)};refine _a (_aA gS rfl ?_);show wpAny _ A.in1 (tryCatch (pyNext (.ref I)) _ >>= _) _ _ _;refine _a (_c9 (W.item 0 _ _ _ hn (W.frame _ _ _ st λb _ o e=>_c _ e) λu h1 tk pu bq k1=>?_));have fL:=k1 _ _ ow gS;show wpAny _ A.in1 (updateSeq s2.heap.objs.size (λ_=>#[u,u]) >>= _) _ _ _;refine _a (wpAny_updateSeq fL rfl ?_);rw[nm];have bM:∀b o,b∉wr->b≠s2.heap.objs.size->s2.heap.get? b=some o->(h1.update s2.heap.objs.size (Obj.mapSeq λ_=>#[u,u])).get? b=some o:=λb o hb hS e=> (_W _ _ (_ba hS)).trans (k1 b o hb (_c _ e));refine _b ⟨_bC _aK _,z89 W cmp eo out (n-1) 0 _ u _ (by lia) (W.frame _ _ _ bq λb hb o e=>(_W _ _ (λz:s2.heap.objs.size=b=>out (z ▸ hb))).trans e) (eo _ _ kh bM) pu (_ar _ fL rfl) λu' h2 eY p2 k2=>?_⟩;exact fin u' h2 eY p2 λb o hb e=>k2 b o hb (_t (_j e)) (bM b o hb (_t (_j e)) e)
end
end Dd
namespace Dd
open L2
section
variable {X:Cx}{E:XK}
theorem ky  {R:α->β->Prop}:∀{xs:List α}{ys:List β},Paired R xs ys->∀(i:Nat)(x:α),xs[i]? = some x->∃y,ys[i]? = some y/\R x y
 | _,_,.nil,i,x,e=>by cases e | _,_,.cons h r,0,x,e=>by simp at e;subst e;exact⟨_,rfl,h⟩ | _,_,.cons h r,i+1,x,e=>by exact ky r i x (by simpa using e)
theorem z2D  {R:α->β->Prop}:∀{xs:List α}{ys:List β},Paired R xs ys->xs.length=ys.length
 | _,_,.nil=>rfl | _,_,.cons h r=>by simp[z2D r]
theorem AtN.tuple  {O:L2.St}   (I:Inv X ac O H s)    (a:AtN H v ns)(r:ym v u):∃b ae,v=.ref b/\u=.ref b/\s.heap.IsTuple b ae/\yd ae.toList ns:=by
 obtain⟨b,rfl,e⟩:=a;cases (show u=Value.ref b from r);obtain⟨ae,r,pl,hz⟩:=I.tuple (.inl (.inl e));exact⟨b,ae.toArray,rfl,rfl,pl,yd.of_vals (by exact r)⟩
end
end Dd
namespace L2
section
variable {prog:Program}{w:World}{A:Around}{R:Result->Shared->Prop}{s:Shared}{aw t1 i1 t2 i2:Expr}{scope:Scope}{pos:Pos}{it af:Value}{env:Env}
theorem z9F:compTurn (.ListComp aw [⟨t1,i1,[],0⟩,⟨t2,i2,[],0⟩] scope pos) 0 it af env=(standAt i1.pos >>= λ_=>pyNext it >>= λr=>match r with
  | none=>pure (.done .next) | some v=>letOwnedTupleGo t1 it v >>= λ_=>assign t1 env v >>= λ_=>eval i2 env >>= λx=>standAt i2.pos >>= λ_=>foldedSetIterable i2 env x >>= λx=>holding [x] (pyIter x) >>= λjt=> runOwn (.compStart (.ListComp aw [⟨t1,i1,[],0⟩,⟨t2,i2,[],0⟩] scope pos) 1 jt af env) env >>= λ_=>again (.compLoop (.ListComp aw [⟨t1,i1,[],0⟩,⟨t2,i2,[],0⟩] scope pos) 0 it af env)):=by rfl
theorem z9L:compTurn (.ListComp aw [⟨t1,i1,[],0⟩,⟨t2,i2,[],0⟩] scope pos) 1 it af env=(standAt i2.pos >>= λ_=>pyNext it >>= λr=>match r with
  | none=>pure (.done .next) | some v=>letOwnedTupleGo t2 it v >>= λ_=>assign t2 env v >>= λ_=>(eval aw env >>= λx=>call (.builtin "list.append") [af,x] >>= λ_=>pure ()) >>= λ_=> again (.compLoop (.ListComp aw [⟨t1,i1,[],0⟩,⟨t2,i2,[],0⟩] scope pos) 1 it af env)):=by rfl
theorem z9A(I:Nat->Shared->Prop) (turn:∀n s,I n s->wpAny (model prog w) A (pyNext it) (λr s₁=>match r with
   | none=>R (.ok .next) s₁ | some v=>wpAny (model prog w) A (letOwnedTupleGo t2 it v) (λ_ dZ=>wpAny (model prog w) A (assign t2 env v) (λ_ s₂=>wpAny (model prog w) A (eval aw env) (λx s₄=> wpAny (model prog w) A (call (.builtin "list.append") [af,x]) (λ_ s₅=>∃m,m<n/\I m s₅) (λ_ _=>False) s₄) (λ_ _=>False) s₂) (λ_ _=>False) dZ) (λ_ _=>False) s₁) (λ_ _=>False) s) (n:Nat)(h:I n s):codeAny (model prog w) A (.compLoop (.ListComp aw [⟨t1,i1,[],0⟩,⟨t2,i2,[],0⟩] scope pos) 1 it af env) R s:=by
 refine codeAny_loop rfl I (λn s hI=>(wpAny_noted ?_)) n h;rw[z9L];refine _a (_a6 (_a (_z (turn n s hI) (λr s₁ h₁=>?_) λ_ _ h'=>h'.elim)));cases r with
 | none=>exact _b h₁ | some v=> exact _a (_z h₁ (λ_ dZ ge=>_a (_z ge (λ_ s₂ h₂=>(_a (_a (_z h₂ (λx s₄ h₄=>_a (_z h₄ (λ_ s₅ h₅=>_b (_b ⟨rfl,h₅⟩)) λ_ _ h'=>h'.elim)) λ_ _ h'=>h'.elim)))) λ_ _ h'=>h'.elim)) λ_ _ h'=>h'.elim)
theorem z8C(h0:codeAny (model prog w) A (.compLoop (.ListComp aw [⟨t1,i1,[],0⟩,⟨t2,i2,[],0⟩] scope pos) 1 it af env) R s) (h:wpAny (model prog w) A (pyIter it) (λmV s'=>codeAny (model prog w) A (.compLoop (.ListComp aw [⟨t1,i1,[],0⟩,⟨t2,i2,[],0⟩] scope pos) 1 mV af env) R s') (notedBy (model prog w) A env λx s'=>R (.error x) s') s): codeAny (model prog w) A (.compStart (.ListComp aw [⟨t1,i1,[],0⟩,⟨t2,i2,[],0⟩] scope pos) 1 it af env) R s:=by
 refine codeAny_of_tree (wpAny_notedAt ?_);refine _a (_bi (wpAny_ite ?_));split;·exact _b (And.intro rfl h0)
 ·exact _a (_aL (_a (_a6 (_a (_z h (λmV s' h'=>_b (And.intro rfl h')) λ_ _ x=>x)))))
theorem zae(bO:∀x,foldedSetIterable i2 env x=pure x)(I:Nat->Shared->Prop) (turn:∀n s,I n s->wpAny (model prog w) A (pyNext it) (λr s₁=>match r with
   | none=>R (.ok .next) s₁ | some v=>wpAny (model prog w) A (letOwnedTupleGo t1 it v) (λ_ dZ=>wpAny (model prog w) A (assign t1 env v) (λ_ s₂=>wpAny (model prog w) A (eval i2 env) (λx s₃=>wpAny (model prog w) A (pyIter x) (λjt s₄=> codeAny (model prog w) A (.compStart (.ListComp aw [⟨t1,i1,[],0⟩,⟨t2,i2,[],0⟩] scope pos) 1 jt af env) (λr s₅=>match r with | .ok _=>∃m,m<n/\I m s₅ | .error _=>False) s₄) (λ_ _=>False) s₃) (λ_ _=>False) s₂) (λ_ _=>False) dZ) (λ_ _=>False) s₁) (λ_ _=>False) s) (n:Nat)(h:I n s):codeAny (model prog w) A (.compLoop (.ListComp aw [⟨t1,i1,[],0⟩,⟨t2,i2,[],0⟩] scope pos) 0 it af env) R s:=by
 refine codeAny_loop rfl I (λn s hI=>(wpAny_noted ?_)) n h;rw[z9F];refine _a (_a6 (_a (_z (turn n s hI) (λr s₁ h₁=>?_) λ_ _ h'=>h'.elim)));cases r with
 | none=>exact _b h₁ | some v=>
  refine _a (_z h₁ (λ_ dZ ge=>_a (_z ge (λ_ s₂ h₂=>(_a (_z h₂ (λx s₃ h₃=>_a (_a6 (_a (_cN (bO x) (_a (_ak (_z h₃ (λjt s₄ h₄=>(_a (wpAny_runOwn (_bP h₄ λr s₅ h₅=>?_)))) λ_ _ h'=>h'.elim))))))) λ_ _ h'=>h'.elim))) λ_ _ h'=>h'.elim)) λ_ _ h'=>h'.elim);cases r with
  | ok f=>exact _b ⟨rfl,h₅⟩ | error e=>exact h₅.elim
end
def zbA(wi:TI)(mp:List (Option Nat))(k1 k2:Nat)(wi2:TI)(te:TE):TE:=λO H Q=>wi O H λJ H1=>∃W:Nat->Nat->List V->Hp->Prop,(∃m,W 0 m [] H1)/\∀i m ys H,W i m ys H-> (J.stop i H/\ys.length<=sizeLine/\∀p,H p=none->Q (.ref p) (upd H p (.lst ys)))\/ (J.go i H/\∀x H',J.yld i H x H'->wi2 ((inner mp O).set k1 (some x)) H' λJ2 H3=>∃W2:Nat->Nat->List V->Hp->Prop,(∃m2,W2 0 m2 ys H3)/\∀j m2 cc H4,W2 j m2 cc H4-> (J2.stop j H4/\∃m',m'<m/\W (i+1) m' cc H4)\/ (J2.go j H4/\∀x2 H5,J2.yld j H4 x2 H5->te (((inner mp O).set k1 (some x)).set k2 (some x2)) H5 λy H6=>cc.length<=sizeLine/\∃m',m'<m2/\W2 (j+1) m' (cc++[y]) H6))
theorem z4F{O:St}   (h:O[i]? = some none):(O.set i (some v)).length=O.length/\∀(j:Nat) u,O[j]? = some (some u)->(O.set i (some v))[j]? = some (some u):=by
 refine⟨by simp,λj u e=>?_⟩;rw[_Q (λz=>by subst z;rw[h]at e;cases e)];exact e
theorem z19           {O:St} {RR:Value->Addr->Result->Shared->Prop} (hc:X.calm=true)(bS:mp[k1]? = some none)(bK:mp[k2]? = some none)(hk:k1≠k2)(hg:∀ex s H,PG (zj X N' scope ex s H) tg (qi k1))(cn:∀ex s H,PG (zj X N' scope ex s H) bV (qi k2))(bP:∀ex s H,PI (zj X N' scope ex s H) bV ax wi2)(he:∀ex s H,PE (zj X N' scope ex s H) aw te) (bO:∀env x,foldedSetIterable ax env x=pure x) (bc:scope.kind=.function)(aZ:∀y∈scope.names,scope.names.lookup y.1=some y.2) (aX:∀y∈scope.names,y.2=.free->X.env.kindOf y.1=some .cell\/X.env.kindOf y.1=some .free)(bi:z22 X.N scope.names N' mp=true) (I2:Inv X ac O H2 s₂)(T:zbT X.prog X.w X.K tg J fp it tn)(au:tn 0 s₂.heap)(f2:∀b∈fp,z5H X ac H2 b) (W:Nat->Nat->List V->Hp->Prop)(w0:∃m,W 0 m [] H2) (turn:∀i m ys H,W i m ys H-> (J.stop i H/\ys.length<=sizeLine/\∀p,H p=none->Q (.ref p) (upd H p (.lst ys)))\/ (J.go i H/\∀x H',J.yld i H x H'->wi2 ((inner mp O).set k1 (some x)) H' λJ2 H3=>∃W2:Nat->Nat->List V->Hp->Prop,(∃m2,W2 0 m2 ys H3)/\∀j m2 cc H4,W2 j m2 cc H4-> (J2.stop j H4/\∃m',m'<m/\W (i+1) m' cc H4)\/ (J2.go j H4/\∀x2 H5,J2.yld j H4 x2 H5->te (((inner mp O).set k1 (some x)).set k2 (some x2)) H5 λy H6=>cc.length<=sizeLine/\∃m',m'<m2/\W2 (j+1) m' (cc++[y]) H6))) (i9:∀af C s',jj X ac O C Q af s'->RR af C (.ok .next) s'): wpAny (model X.prog X.w) X.A (newList []) (λaf s₃=>wpAny (model X.prog X.w) X.A (newFunctionEnv scope X.env.globals (z5M X.env scope.names []) [] X.env.qual none .none (some X.env)) (λcg s₄=> codeAny (model X.prog X.w) X.A (.compStart (.ListComp aw [⟨tg,ao,[],0⟩,⟨bV,ax,[],0⟩] scope pos) 0 (.ref it) af {cg with scope:=relabel scope X.env}) (RR af cg.locals) s₄) E s₃) E s₂:=by
 refine z7p bc aZ aX bi I2 T au f2 λaf s₃ s₄ I3 d8 fA flt ed I4 gj fF bz cM=>?_;have gf  := λb hb=>_t (flt b hb);have cj  := λb hb=>(I4.ok.exf b hb).2;obtain⟨m0,w0⟩:=w0;have loop:codeAny (model X.prog X.w) X.A (.compLoop (.ListComp aw [⟨tg,ao,[],0⟩,⟨bV,ax,[],0⟩] scope pos) 0 (.ref it) (.ref af) (z95 X scope s₃.heap.objs.size)) (RR (.ref af) s₃.heap.objs.size) s₄:=by
  refine zae (bO _) (λn s'=>∃i ys ae H',Inv (zj X N' scope (af::fp) s₃ H2) [] (inner mp O) H' s'/\tn i s'.heap/\(∀b∈fp,H' b=none)/\H' af=none/\s'.heap.get? af=some (LCg.lst ae)/\yp ys ae/\W i n ys H') ?_ m0 ⟨0,[],[],H2,I4,fF,λb hb=>(f2 b hb).1,d8,gj,.nil,w0⟩;rintro n s5 ⟨i,ys,ae,H5,I5,gq,n5,eK,j0,eM,w5⟩;have gr  := cM I5 eK j0;rcases turn i n ys H5 w5 with⟨stop,hz,q⟩ | ⟨go,step⟩
  ·refine _z (T.done (zj X N' scope (af::fp) s₃ H2) rfl rfl rfl hc i _ s5 _ H5 (λ_ _=>False) gr (bz n5) gq stop) (λr s6 ⟨hr,I6⟩=>?_) λ_ _ z=>z;subst hr;have j3:=(I6.pin (af,LCg.lst ae) (by simp)).1;have un  := I6.base;have I7  := I3.call'  (I6.os) un I6.hok I6.bare λb hb=>by
    rcases _n.mp hb with z | hb;·subst z;exact⟨fA.2.2.2.1,fA.2.1,fA.2.2.2.2.1,fA.2.2.2.2.2⟩
    ·exact⟨(f2 b hb).2.2.2.1,(f2 b hb).2.1,(f2 b hb).2.2.2.2.1,(f2 b hb).2.2.2.2.2⟩
   have C7  := I3.fpOk (_h _) I6.free;refine i9 _ _ s6 ⟨.ref af,upd H5 af (.lst ys),I7.track ⟨eK,fA.2⟩ ?_,rfl,q af eK,?_,?_,C7.2⟩;·exact⟨hz,ae,_,eM,j3⟩
   ·obtain⟨m,hm,_⟩:=I6.loc;exact⟨m,hm⟩
   ·rw[zk (_ba ed)];exact I6.free
  ·refine _z (T.item (zj X N' scope (af::fp) s₃ H2) rfl rfl rfl hc i _ s5 _ H5 (λ_ _=>False) gr (bz n5) gq go) (λr s6 ⟨u,hr,h6⟩=>?_) λ_ _ z=>z;subst hr;refine _z h6 (λ_ s7 ⟨x,H7,I7,r7,y7,eN,n7⟩=>?_) λ_ _ z=>z;have iw:=I7.pinned (bz n7) (T.obj _ _ eN);generalize hP:z2R fp s7.heap=P7 at iw;have oO:∀b∈fp,∀o,s7.heap.get? b=some o->(b,o)∈P7:=λb hb o e=>by rw[<- hP];exact vP hb e
   have back:∀{O':St}{H':Hp}{s':Shared}{aM:List Value},Inv (zj X N' scope (af::fp) s₃ H2) ([(af,LCg.lst aM)]++P7) O' H' s'->(∀b∈fp,H' b=none)/\H' af=none/\s'.heap.get? af=some (LCg.lst aM)/\tn (i+1) s'.heap:=λ{O' H' s' aM} J'=>by
    have z:=J'.pin (af,LCg.lst aM) (by simp[zj]);have zz:∀b∈fp,∀o,s7.heap.get? b=some o->s'.heap.get? b=some o/\H' b=none:=λb hb o e=>by
     have y:=J'.pin (b,o) (_y _ (_y _ (oO b hb o e)));exact⟨y.1,y.2.1⟩
    refine⟨λb hb=>?_,z.2.1,z.1,T.keep _ _ _ eN λb hb o e=>(zz b hb o e).1⟩;obtain⟨o,e,_⟩:=T.obj _ _ eN b hb;exact (zz b hb o e).2
   have oP:(inner mp O)[k1]? = some none:=by simp[L2.inner,bS]
   have mW:=z4F (v:=x) oP;have oQ:((inner mp O).set k1 (some x))[k2]? = some none:=by rw[_Q hk];simp[L2.inner,bK]
   refine _z (hg _ _ _ _ s7 (inner mp O) H7 x u (λO8 H8=>O8=(inner mp O).set k1 (some x)/\H8=H7) iw r7 ⟨rfl,rfl⟩) (λ_ s8 ⟨O8,H8,I8,e8,oR⟩=>?_) λ_ _ z=>z;subst e8 oR;refine _z (bP _ _ _ _ s8 _ H8 _ I8 (step x H8 y7)) (λxv s9 h9=>?_) λ_ _ z=>z;refine _z h9 (λjt j4 dM=>?_) λ_ _ z=>z;obtain⟨cC,gN,oS,J2,j5,oU,gv,T2,gO,f10,W2,⟨m2,v0⟩,gP⟩:=dM;subst oU;obtain⟨_,lm,lq,_⟩:=back gv;have dj:∀{H':Hp}{aM:List Value},(∀b∈gN,H' b=none)->∀b∈gN,z5H (zj X N' scope (af::fp) s₃ H2) ([(af,LCg.lst aM)]++P7) H' b:=λ{H' aM} hn b hb=>by
    obtain⟨q1,q2,q3,q4,q5,q6⟩:=f10 b hb;refine⟨hn b hb,q2,q3,q4,q5,λp hp=>?_⟩;rcases _C.mp hp with hp | hp;·exact q6 p (_am _ hp)
    ·rcases _C.mp hp with hp | hp
     ·have e:p=(af,LCg.lst aM):=by simpa using hp
      rw[e];exact q6 (af,LCg.lst ae) (_y _ (_am _ (by simp)))
     ·exact q6 p (_y _ (_y _ hp))
   have mX:∀{O':St}{H':Hp}{s':Shared}{aM:List Value},Inv (zj X N' scope (af::fp) s₃ H2) ([(af,LCg.lst aM)]++P7) O' H' s'->Inv (zj X N' scope (af::fp) s₃ H2) P7 O' H' s':=λJ'=>J'.pins_of λp hp=>J'.pin p (_y _ (_y _ hp));have eA:codeAny (model X.prog X.w) X.A (.compLoop (.ListComp aw [⟨tg,ao,[],0⟩,⟨bV,ax,[],0⟩] scope pos) 1 (.ref cC) (.ref af) (z95 X scope s₃.heap.objs.size)) (λr s'=>match r with | .ok _=>∃m,m<n/\∃i ys ae H',Inv (zj X N' scope (af::fp) s₃ H2) [] (inner mp O) H' s'/\tn i s'.heap/\(∀b∈fp,H' b=none)/\H' af=none/\s'.heap.get? af=some (LCg.lst ae)/\yp ys ae/\W i m ys H' | .error _=>False) j4:=by
    refine z9A (λn' s'=>∃j cc bu H',Inv (zj X N' scope (af::fp) s₃ H2) P7 ((inner mp O).set k1 (some x)) H' s'/\oS j s'.heap/\(∀b∈gN,H' b=none)/\H' af=none/\s'.heap.get? af=some (LCg.lst bu)/\yp cc bu/\W2 j n' cc H') ?_ m2 ⟨0,ys,ae,j5,mX gv,gO,λb hb=>(f10 b hb).1,lm,lq,eM,v0⟩;rintro n' mY ⟨j,cc,bu,iH,j7,gQ,mZ,lr,eP,eZ,oV⟩;have gR:=cM j7 lr eP;rcases gP j n' cc iH oV with⟨gT,m',lt,oW⟩ | ⟨lv,gU⟩
    ·refine _z (T2.done (zj X N' scope (af::fp) s₃ H2) rfl rfl rfl hc j _ mY _ iH (λ_ _=>False) gR (dj mZ) gQ gT) (λr oX ⟨hr,m6⟩=>?_) λ_ _ z=>z;subst hr;obtain⟨z1,z2,z3,z4⟩:=back m6;exact⟨m',lt,i+1,cc,bu,iH,(m6.pins_of  (λp hp=>absurd hp (by simp))).weak mW.1.symm mW.2,z4,z1,z2,z3,eZ,oW⟩
    ·refine _z (T2.item (zj X N' scope (af::fp) s₃ H2) rfl rfl rfl hc j _ mY _ iH (λ_ _=>False) gR (dj mZ) gQ lv) (λr oX ⟨u2,hr,oY⟩=>?_) λ_ _ z=>z;subst hr;refine _z oY (λ_ m7 ⟨x2,m8,oZ,o0,o6,e9,o7⟩=>?_) λ_ _ z=>z;have lA:=oZ.pinned (dj o7) (T2.obj _ _ e9);have nc:=z4F (v:=x2) oQ;refine _z (cn _ _ _ _ m7 _ m8 x2 u2 (λnh iI=>nh=((inner mp O).set k1 (some x)).set k2 (some x2)/\iI=m8) lA o0 ⟨rfl,rfl⟩) (λ_ o8 ⟨nh,iI,o9,pc,lB⟩=>?_) λ_ _ z=>z;subst pc lB;refine _z (he _ _ _ _ o8 _ iI _ o9 (gU x2 iI o6)) (λyv lC ⟨y,lD,nj,pd,hz,m',lt,pe⟩=>?_) λ_ _ z=>z;have gV  := nj.unpinned;obtain⟨z1,z2,z3,z4⟩:=back gV;have zz:∀b∈gN,∀o,m7.heap.get? b=some o->lC.heap.get? b=some o/\lD b=none:=λb hb o e=>by
      have y:=nj.pin (b,o) (_y _ (_y _ (vP hb e)));exact⟨y.1,y.2.1⟩
     have lE:∀b∈gN,b≠af:=λb hb=>by
      have:=(f10 b hb).2.2.2.2.2 (af,LCg.lst ae) (_y _ (_am _ (by simp)));exact _ba this
     have zl:bu.toArray.size<=sizeLine:=by rw[_A,<- eZ.length];exact hz
     refine append_at (hsz:=zl) z3 λpf sb lF=>?_;have lG:=(mX gV).weak nc.1.symm nc.2;have ph:Inv (zj X N' scope (af::fp) s₃ H2) P7 ((inner mp O).set k1 (some x)) lD {lC with heap:=pf}:=lG.turned (t':=lC.toks) (λb o hb e=>(sb.2 b hb).trans e) z2 ed (.inl _O) (cj af _O) (λp hp=>by
      have gW:p∈P7:=by exact hp
      rw[<- hP]at gW;obtain⟨b,hb,e⟩:=_bj.mp gW;obtain⟨o,_,e2⟩:=_x.mp e;rw[<- e2];exact gf b hb);refine⟨m',lt,j+1,cc++[y],bu++[yv],lD,ph,T2.keep _ _ _ e9 (λb hb o e=>(sb.2 b (lE b hb)).trans (zz b hb o e).1),λb hb=>?_,z2,lF.trans (_au some (LCg.lst_snoc bu yv)),eZ.append (.cons pd .nil),pe⟩;obtain⟨o,e,_⟩:=T2.obj _ _ e9 b hb;exact (zz b hb o e).2
   exact z8C eA (T2.self _ 0 _ _ _ gO eA)
 exact loop
section
variable {X:Cx}{tg ao bV ax aw:Expr}{scope:Scope}{pos aP py:Pos}{wi wi2:TI}{te:TE}{k1 k2:Nat}
theorem zck(N':List Str)(mp:List (Option Nat))(hc:X.calm=true)(bS:mp[k1]? = some none)(bK:mp[k2]? = some none)(hk:k1≠k2)(hi:PI X tg ao wi)(hg:∀ex s H,PG (zj X N' scope ex s H) tg (qi k1))(cn:∀ex s H,PG (zj X N' scope ex s H) bV (qi k2))(bP:∀ex s H,PI (zj X N' scope ex s H) bV ax wi2)(he:∀ex s H,PE (zj X N' scope ex s H) aw te) (bO:∀env x,foldedSetIterable ax env x=pure x)(bc:scope.kind=.function)(aZ:∀y∈scope.names,scope.names.lookup y.1=some y.2) (aX:∀y∈scope.names,y.2=.free->X.env.kindOf y.1=some .cell\/X.env.kindOf y.1=some .free)(bi:z22 X.N scope.names N' mp=true) (hs:autoParam (∀x,foldedSetIterable ao X.env x=pure x) aIr):PE X (.ListComp aw [⟨tg,ao,[],0⟩,⟨bV,ax,[],0⟩] scope pos) (zbA wi mp k1 k2 wi2 te):=by
 intro ac s O H Q I h;rw[eval_ListComp];refine _a7  rfl hs (xw λy hy hf=>I.ok.has _ (aX y hy hf)) bc (λy hy hl=>by rw[aZ y hy,hl]) (thn (hi ac s O H _ I h) λxv s₁ h₁=>thn h₁ λeF s₂ h₂=>?_);obtain⟨it,fp,tn,J,H2,e,I2,T,au,f2,W,w0,turn⟩:=h₂;subst e;refine z19       hc bS bK hk hg cn bP he bO bc aZ aX bi I2 T au f2 W w0 turn ?_;rintro af C s' ⟨v,Hf,I3,r,q,⟨m,hm⟩,f⟩;exact⟨m,hm,λh' sb=>⟨v,Hf,wW I3 f sb,r,q⟩⟩
theorem z5Y   (N':List Str)(mp:List (Option Nat))(hN:X.N.Nodup)(hy:X.N[i]? = some y)(cw:Loc X.env.scope y)(hc:X.calm=true)(bS:mp[k1]? = some none)(bK:mp[k2]? = some none)(hk:k1≠k2)(hi:PI X tg ao wi)(hg:∀ex s H,PG (zj X N' scope ex s H) tg (qi k1))(cn:∀ex s H,PG (zj X N' scope ex s H) bV (qi k2))(bP:∀ex s H,PI (zj X N' scope ex s H) bV ax wi2)(he:∀ex s H,PE (zj X N' scope ex s H) aw te) (bO:∀env x,foldedSetIterable ax env x=pure x)(bc:scope.kind=.function)(aZ:∀y∈scope.names,scope.names.lookup y.1=some y.2) (aX:∀y∈scope.names,y.2=.free->X.env.kindOf y.1=some .cell\/X.env.kindOf y.1=some .free)(bi:z22 X.N scope.names N' mp=true) (hs:autoParam (∀x,foldedSetIterable ao X.env x=pure x) aIr) (cz:autoParam (swapsWith (.ListComp aw [⟨tg,ao,[],0⟩,⟨bV,ax,[],0⟩] scope pos) (some (.Name y py)) aP.line X.env=pure true) aRf) (hf:autoParam (X.fn y=true\/X.env.scope.names.lookup y=some .local) aLr): PS X (.Assign [.Name y py] (.ListComp aw [⟨tg,ao,[],0⟩,⟨bV,ax,[],0⟩] scope pos) aP) (λD O H=>zbA wi mp k1 k2 wi2 te O H (zbV λv H'=>D.nx (O.set i (some v)) H')):=by
 intro ac s O H D I h;rw[_cu _ _ _ _ cz];refine _a (_a6 (_a (_a (_z (_a7   rfl hs (xw λy hy hf=>I.ok.has _ (aX y hy hf)) bc (λy hy hl=>by rw[aZ y hy,hl]) (thn (hi ac s O H _ I h) λxv s₁ h₁=>thn h₁ λeF s₂ h₂=>?_)) (λ_ s' hq=>_b (_b hq)) λ_ _ e=>e))));obtain⟨it,fp,tn,J,H2,e,I2,T,au,f2,W,w0,turn⟩:=h₂;subst e;refine z19       hc bS bK hk hg cn bP he bO bc aZ aX bi I2 T au f2 W w0 turn ?_;intro af C s' hd;obtain⟨v,Hf,I3,r,q,⟨m,hm⟩,f⟩:=hd.freeze;exact _ce (jK I3 hN hy cw r (λdY I4 ⟨a,sb,ha⟩=>⟨m,hm.sameBut sb (by
  rcases ha with z | z;·rw[z];exact f.2.1
  ·exact _ba (f.2.2.2.2.1 y a z)),λh' gy=>⟨_,Hf,wW I4 f gy,q⟩⟩) hf)
end
end L2
namespace Dd
open L2
open Classical in
noncomputable def z3o(g:List (Nat×List D))(all:List D)(body:D->List D->Sto->R (List D)):List D->List D->Sto->R (List D)
 | [],af,s=>if okG g all s then .ok af s else .no | x::xs,af,s=>if okG g all s then (body x af s).bind λc8 s1=>z3o g all body xs c8 s1 else .no
noncomputable def z7x(fi:FI)(mp:List (Option Nat))(k1 k2:Nat)(fi2:FI)(fe:FE):FA:=fun ρ s=>(fi ρ s).bind λit s1=>z3o it.2 it.1 (λd af s=>(fi2 ((ye mp ρ).set k1 (some d)) s).bind λcC s2=>va cC.2 cC.1 (λd2 s=>(fe (((ye mp ρ).set k1 (some d)).set k2 (some d2)) s).bind λd s3=>.ok (some d) s3) cC.1 af s2) it.1 [] s1
section
variable {X:Cx}{E:XK}{tg ao bV ax aw:Expr}{pos aP py:Pos}{mp:List (Option Nat)}{k1 k2:Nat}{fi fi2:FI}{fe:FE}{scope:Scope}
theorem z5D          {Dn:Hp->List Addr->β->β2->Prop}  (r:Rep (gm X) H Y s)(en:vE (gm X) H Y ρ O) (h:okR (gm X) E H Y Dn ((z7x fi mp k1 k2 fi2 fe ρ s).bind kR) Q2) (fin:∀H1 Y1 s1 xs vs,Rep (gm X) H1 Y1 s1->vE (gm X) H1 Y1 ρ O->zG (gm X) H1 Y1 xs vs->okR (gm X) E H1 Y1 Dn (kR xs s1) Q2->xs.length<=cap->∀p,H1 p=none->Q (.ref p) (upd H1 p (.lst vs))): zbA (tI (gm X) E fi) mp k1 k2 (tI (gm X) E fi2) (tE (gm X) E fe) O H Q:=by
 unfold z7x at h;have assoc:∀{α γ δ:Type}(x:R α)(f:α->Sto->R γ)(k:γ->Sto->R δ),(x.bind f).bind k=x.bind λa s=>(f a s).bind k:=λx f k=>by cases x<;>rfl
 rw[assoc]at h;refine⟨Y,ρ,s,r,en,(okR.bind  h).imp λJ H1 ⟨Y1,s1,it,stp,ok,h1⟩=>?_⟩;obtain⟨items,gd⟩:=it;generalize hb:(λd af s=>(fi2 ((ye mp ρ).set k1 (some d)) s).bind λcC s2=>va cC.2 cC.1 (λd2 s=>(fe (((ye mp ρ).set k1 (some d)).set k2 (some d2)) s).bind λd s3=>R.ok (some d) s3) cC.1 af s2)=body at h1;refine⟨λi m ys H=>∃Y s af,yQ (gm X) H1 Y1 H Y s/\zG (gm X) H Y af ys/\af.length<=cap/\m=items.length-i/\i<=items.length/\okR (gm X) E H Y Dn ((z3o gd items body (items.drop i) af s).bind kR) Q2, ⟨items.length,Y1,s1,[],.refl stp.rep,zG.nil,_aI _,by rfl,_aI _,by exact h1⟩,?_⟩;rintro i m ys H2 ⟨Y2,s2,af,ak,aJ,bC,rfl,mO,h2⟩;have bw  := (en.mono stp).mono ak;by_cases ck:i<items.length
 ·right;rw[_aw ck,z3o]at h2;split at h2
  ·rename_i hG;obtain⟨go,yl⟩:=((ok H2 Y2 s2 ak hG i).1 items[i] (_e ck));refine⟨go,λx H' y=>?_⟩;obtain⟨Y3,aq,b9⟩:=yl x H' y;have h3:=okR.rebase h2 aq;rw[<- hb]at h3;simp only at h3;rw[hb,assoc,assoc]at h3;have fH:vE (gm X) H' Y3 ((ye mp ρ).set k1 (some items[i])) ((inner mp O).set k1 (some x)):=((bw.mono aq).inner).set b9 k1;refine⟨Y3,(ye mp ρ).set k1 (some items[i]),s2,aq.rep,fH,(okR.bind  h3).imp λJ2 H4 ⟨Y4,s4,cC,bg,nq,h4⟩=>?_⟩;obtain⟨aR,pk⟩:=cC;generalize dP:(λd2 s=>(fe (((ye mp ρ).set k1 (some items[i])).set k2 (some d2)) s).bind λd s3=>R.ok (some d) s3)=body2 at h4;have lH  := (ak.trans aq).trans bg;refine⟨λj m2 cc H=>∃Y s cQ,yQ (gm X) H4 Y4 H Y s/\zG (gm X) H Y cQ cc/\cQ.length<=cap/\m2=aR.length-j/\j<=aR.length/\okR (gm X) E H Y Dn ((va pk aR body2 (aR.drop j) cQ s).bind λc8 s1=>(z3o gd items body (items.drop (i+1)) c8 s1).bind kR) Q2, ⟨aR.length,Y4,s4,af,.refl bg.rep,(aJ.mono aq).mono bg,bC,by rfl,_aI _,by exact h4⟩,?_⟩;rintro j m2 cc H5 ⟨Y5,s5,cQ,bB,lI,eB,rfl,sI,h5⟩;have k8  := (fH.mono bg).mono bB;by_cases hlt2:j<aR.length
   ·right;rw[_aw hlt2,va]at h5;split at h5
    ·rename_i lJ;obtain⟨lv,pp⟩:=((nq H5 Y5 s5 bB lJ j).1 aR[j] (_e hlt2));refine⟨lv,λx2 H6 y2=>?_⟩;obtain⟨Y6,bI,cS⟩:=pp x2 H6 y2;have h6:=okR.rebase h5 bI;rw[<- dP]at h6;simp only at h6;rw[dP,assoc,assoc]at h6;refine⟨Y6,((ye mp ρ).set k1 (some items[i])).set k2 (some aR[j]),s5,bI.rep,((k8.mono bI).set cS k2),(okR.bind  h6).imp λyv H7 ⟨Y7,s7,d7,gX,pq,h7⟩=>?_⟩;split at h7;·refine⟨by rw[lI.length];exact jh eB,aR.length-(j+1),by omega,Y7,s7,cQ++[d7],((bB.trans bI).trans gX),((lI.mono bI).mono gX).append (zG.one pq),by simp;omega,rfl,hlt2,h7⟩
     ·exact h7.elim
    ·exact h5.elim
   ·left;have e:j=aR.length:=by omega
    subst e;rw[_cB,va]at h5;split at h5
    ·rename_i lJ;exact⟨(nq H5 Y5 s5 bB lJ _).2 (_h _),items.length-(i+1),by omega,Y5,s5,cQ,lH.trans bB,lI,eB,rfl,ck,h5⟩
    ·exact h5.elim
  ·exact h2.elim
 ·left;have e:i=items.length:=by omega
  subst e;rw[_cB,z3o]at h2;split at h2
  ·rename_i hG;exact⟨(ok H2 Y2 s2 ak hG _).2 (_h _),by rw[aJ.length];exact jh bC,fin H2 Y2 s2 af ys ak.rep bw aJ h2 bC⟩
  ·exact h2.elim
noncomputable def jR(fi:FI)(mp:List (Option Nat))(k1 k2:Nat)(fi2:FI)(fe:FE):FE:=fun ρ s=>(z7x fi mp k1 k2 fi2 fe ρ s).bind λxs s1=>.ok (.lst xs) s1
theorem zfg (N':List Str) (mp:List (Option Nat)) (k1 k2:Nat) (hc:X.calm=true) (hi:RI X E tg ao fi) (hg:∀ex s H,PG (zj X N' scope ex s H) tg (qi k1)) (cn:∀ex s H,PG (zj X N' scope ex s H) bV (qi k2)) (bP:∀ex s H,RI (zj X N' scope ex s H) E bV ax fi2) (he:∀ex s H,RE (zj X N' scope ex s H) E aw fe) (bS:autoParam (mp[k1]? = some none) aRf) (bK:autoParam (mp[k2]? = some none) aRf) (hk:autoParam (k1≠k2) aDe) (bO:∀env x,foldedSetIterable ax env x=pure x:=by intro _ _;rfl) (bc:autoParam (scope.kind=.function) aRf) (aZ:autoParam (z8a scope.names=true) aRf) (aX:autoParam (z8M X.env.kindOf scope.names=true) aRf) (bi:autoParam (z22 X.N scope.names N' mp=true) aRf) (hs:autoParam (∀x,foldedSetIterable ao X.env x=pure x) aIr):RE X E (.ListComp aw [⟨tg,ao,[],0⟩,⟨bV,ax,[],0⟩] scope pos) (jR fi mp k1 k2 fi2 fe):= zR (zck (te:=tE (gm X) E fe) (wi2:=tI (gm X) E fi2) N' mp hc bS bK hk hi hg cn (λex s H=>bP ex s H) (λex s H=>he ex s H) bO bc (jF aZ) (jf aX) bi hs).freeze λO H Q ⟨Y,ρ,s,r,en,h⟩=> z5D r en h λH1 Y1 s1 xs vs r1 aE dn h1 bC=>uD r1 h1 dn
theorem zaP (i:Nat) {y:Str} (N':List Str) (mp:List (Option Nat)) (k1 k2:Nat) (hN:X.N.Nodup) (hc:X.calm=true) (hi:RI X E tg ao fi) (hg:∀ex s H,PG (zj X N' scope ex s H) tg (qi k1)) (cn:∀ex s H,PG (zj X N' scope ex s H) bV (qi k2)) (bP:∀ex s H,RI (zj X N' scope ex s H) E bV ax fi2) (he:∀ex s H,RE (zj X N' scope ex s H) E aw fe) (bS:autoParam (mp[k1]? = some none) aRf) (bK:autoParam (mp[k2]? = some none) aRf) (hk:autoParam (k1≠k2) aDe) (bO:∀env x,foldedSetIterable ax env x=pure x:=by intro _ _;rfl) (bc:autoParam (scope.kind=.function) aRf) (aZ:autoParam (z8a scope.names=true) aRf) (aX:autoParam (z8M X.env.kindOf scope.names=true) aRf) (bi:autoParam (z22 X.N scope.names N' mp=true) aRf) (hy:autoParam (X.N[i]? = some y) aRf) (cw:autoParam (Loc X.env.scope y) aOr) (hs:autoParam (∀x,foldedSetIterable ao X.env x=pure x) aIr) (cz:autoParam (swapsWith (.ListComp aw [⟨tg,ao,[],0⟩,⟨bV,ax,[],0⟩] scope pos) (some (.Name y py)) aP.line X.env=pure true) aRf) (hf:autoParam (X.fn y=true\/X.env.scope.names.lookup y=some .local) aLr): RS X E (.Assign [.Name y py] (.ListComp aw [⟨tg,ao,[],0⟩,⟨bV,ax,[],0⟩] scope pos) aP) (ve i (jR fi mp k1 k2 fi2 fe)):= wH (z5Y (te:=tE (gm X) E fe) (wi2:=tI (gm X) E fi2) N' mp hN hy cw hc bS bK hk hi hg cn (λex s H=>bP ex s H) (λex s H=>he ex s H) bO bc (jF aZ) (jf aX) bi hs cz hf) λD O H ⟨Y,ρ,s,r,en,h⟩=>by
  unfold ve jR at h;rw[(λx f k=>by cases x<;>rfl:∀{α γ δ:Type} (x:R α) (f:α->Sto->R γ) (k:γ->Sto->R δ),(x.bind f).bind k=x.bind λa s=>(f a s).bind k)]at h;exact z5D r en h λH1 Y1 s1 xs vs r1 aE dn h1 bC p hp=>(uD (E:=E)   r1 (λv H2 Y2 stp aJ=>(h1 (.nx (O.set i (some v))) H2 Y2 stp ((aE.mono stp).set aJ i))) dn p hp)
end
end Dd
namespace L2
noncomputable def n3(a b c:Int):Nat:=if a<b then ((b-a-1) / c+1).toNat else 0
noncomputable def z54(a c:Int)(n:Nat):List V:=(List.range n).map λk=>V.int (a+((k:Nat):Int)*c)
theorem zi2{a b c:Int}(ha:0<=a)(hb:b<=1000)(hc:1<=c):Builtin.Range.rangeSize a b c=(n3 a b c:Int)/\n3 a b c<=1000:=by
 unfold Builtin.Range.rangeSize n3;rw[_g (by lia:c > 0)];by_cases h:a<b
 ·rw[_g h,_g h];have h0:0<=(b-a-1) / c:=_cV (by lia) (by lia);have h1:(b-a-1) / c<=b-a-1:=_dF _ (by lia);lia
 ·rw[_l h,_l h];exact⟨rfl,by lia⟩
theorem ziN{a b c:Int}(ha:0<=a)(gA:a<=1000)(hb:0<=b)(gY:b<=1000)(hc:1<=c)(cu:c<=1000):Builtin.Range.small a b c=true:=by
 obtain⟨h1,h2⟩:=zi2 (a:=a) ha gY hc;unfold Builtin.Range.small;rw[h1];simp only[Builtin.Range.rangeFitsLong,_L,Bool.or_eq_true,_s,_aH];have hm:(n3 a b c:Int)*c<=1000*1000:=Int.mul_le_mul (by lia) cu (by lia) (by lia);have sJ:0<=(n3 a b c:Int)*c:=_da (by lia) (by lia);generalize n3 a b c=n at *;refine⟨by lia,.inr ?_⟩;rw[_g (by lia)];simp only[_L,_s];lia
theorem z4k {X:Cx} {a b c:Expr} {ta:TA} {p p2 pos bv:Pos} (hc:X.calm=true) (hg:Gl X "list") (hm:X.mg "list"=none) (cn:Gl X "range") (bK:X.mg "range"=none) (ha:PA X [a,b,c] ta) (bO:autoParam (starEach [a,b,c] X.env=[(false,eval a X.env),(false,eval b X.env),(false,eval c X.env)]) aRf) (d9:autoParam (starEach [b,c] X.env=[(false,eval b X.env),(false,eval c X.env)]) aRf) (hs:autoParam (starEach [.Call (.Name "range" p2) [a,b,c] [] bv] X.env=(false,eval (.Call (.Name "range" p2) [a,b,c] [] bv) X.env)::starEach [] X.env) aRf) (bh:autoParam ((backTo pos (starEach [] X.env)).any (·.1)=false) aRf): PE X (.Call (.Name "list" p) [.Call (.Name "range" p2) [a,b,c] [] bv] [] pos) (λO H Q=>ta O H λvs H1=>∃i j k:Int,vs=[.int i,.int j,.int k]/\(0<=i/\i<=1000/\0<=j/\j<=1000/\1<=k/\k<=1000)/\∀l,H1 l=none->Q (.ref l) (upd H1 l (.lst (z54 i k (n3 i j k))))):=by
 intro ac s O H Q I h;refine _aG (jO I hg hm (u:=.type "list") (by decide +kernel) ?_ (by decide) (by decide));refine _ap ?_ hs bh;rw[hs];show wpAny _ _ (spliced ((false,eval (.Call (.Name "range" p2) [a,b,c] [] bv) X.env)::backTo pos (starEach [] X.env))) _ _ s;refine _b4 (_aG (jO I cn bK boot_range (_ap (thn (ha bv ac s O H _ I h) λus s1 ⟨vs,H1,I1,r1,q1⟩=>?_) (by rw[bO,d9]) (by rw[d9];rfl)) (by decide) (by decide)));obtain⟨i,j,k,e,⟨b1,b2,b3,b4,b5,b6⟩,q⟩:=q1;subst e;cases r1 with | cons r r1=>cases r1 with | cons r' r1=>cases r1 with | cons pr r1=>
    cases r1;obtain⟨t,rfl⟩:=r;obtain⟨t',rfl⟩:=r';obtain⟨pA,rfl⟩:=pr;have pl:Builtin.divisionGoesByPylong (j-i) k=false:=PyProof.noPylong_of_log2 (by
     have:k.natAbs<=1000:=by lia
     have h2:k.natAbs.log2<=1000:=_al (Nat.log2_le_self _) this;lia);refine call_range_3 (by lia) (_dn ?_) (.inl pl);obtain⟨hsz,hn⟩:=zi2 (a:=i) (b:=j) (c:=k) b1 b4 b5;refine call_list_range (I.ok.hd hc) (IsRange.new ..) (ziN b1 b2 b3 b4 b5 b6) hsz (by lia) λh' tk af c' hk hS cv=>?_;have I2:Inv X ac O H1 {s1 with heap:=s1.heap.push {cls:=.type "range",data:=.fields #[.int i t,.int j t',.int k pA]},toks:=s1.toks}:=I1.kept (t':=s1.toks) λb o e=>_c _ e;have hl:(z54 i k (n3 i j k)).length=n3 i j k:=by simp[z54]
    have hv:yp (z54 i k (n3 i j k)) af.toList:=z0Z (by simp[cv.1,hl]) λx v hv=>by
     obtain⟨eY,rfl⟩:=cv.2 x v (by simpa using hv);have hi:x<n3 i j k:=by
      have:=(_d.mp hv).1;simp[cv.1]at this;lia
     exact⟨.int (i+(x:Int)*k),by simp[z54,hi],⟨eY,rfl⟩⟩
    refine⟨.ref _,upd H1 _ (.lst (z54 i k (n3 i j k))),I2.laid (t':=tk) hk (_h _) ?_,rfl,q _ (I2.hok.fresh (_h _))⟩;exact⟨by rw[hl];exact _al hn (by decide),af.toList,c',hv,by simpa using hS⟩
end L2
namespace Dd
open L2
section
variable {X:Cx}{E:XK}{a b c:Expr}{pos:Pos}
noncomputable def zaf(a c:Int)(n:Nat):List D:=(List.range n).map λk=>D.int (a+((k:Nat):Int)*c)
theorem zaX{mg:Gm}{H:Hp}{Y:List Addr}(a c:Int)(n:Nat):zG mg H Y (zaf a c n) (z54 a c n):=by
 unfold zaf z54;induction (List.range n) with
 | nil=>exact zG.nil | cons k ks ih=>exact zG.cons yg ih
noncomputable def zjM(f:FA):FE:=fun ρ s=>(f ρ s).bind λds s1=>match ds with
 | [.int i,.int j,.int k]=>if 0<=i/\i<=1000/\0<=j/\j<=1000/\1<=k/\k<=1000 then .ok (.lst (zaf i k (n3 i j k))) s1 else .no | _=>.no
theorem z52{p p2 bv:Pos}{f:FA}(hc:X.calm=true)(hg:Gl X "list")(hm:X.mg "list"=none)(cn:Gl X "range")(bK:X.mg "range"=none)(ha:RA X E [a,b,c] f) (bO:autoParam (starEach [a,b,c] X.env=[(false,eval a X.env),(false,eval b X.env),(false,eval c X.env)]) aRf)(d9:autoParam (starEach [b,c] X.env=[(false,eval b X.env),(false,eval c X.env)]) aRf) (hs:autoParam (starEach [.Call (.Name "range" p2) [a,b,c] [] bv] X.env=(false,eval (.Call (.Name "range" p2) [a,b,c] [] bv) X.env)::starEach [] X.env) aRf)(bh:autoParam ((backTo pos (starEach [] X.env)).any (·.1)=false) aRf): RE X E (.Call (.Name "list" p) [.Call (.Name "range" p2) [a,b,c] [] bv] [] pos) (zjM f):= zR (z4k hc hg hm cn bK ha bO d9 hs bh).freeze λO H Q ⟨Y,ρ,s,r,en,h⟩=>by
  unfold zjM at h;refine⟨Y,ρ,s,r,en,(okR.bind (Dn:=zG (gm X)) h).imp λvs H1 ⟨Y1,s1,ds,stp,dn,h1⟩=>?_⟩;split at h1
  ·rename_i i j k;split at h1
   ·rename_i hb;obtain⟨v1,r1,rfl,d1,v2,r2,rfl,d2,v3,r3,rfl,d3,rfl⟩:=dn;cases zO d1;cases zO d2;cases zO d3;exact⟨i,j,k,rfl,hb,uD stp.rep h1 (zaX _ _ _)⟩
   ·exact h1.elim
  ·exact h1.elim
@[simp] theorem ziX (f:FA)(ρ:Ev)(s:Sto):zjM f ρ s=(f ρ s).bind λds s1=>match ds with
 | [.int i,.int j,.int k]=>if 0<=i/\i<=1000/\0<=j/\j<=1000/\1<=k/\k<=1000 then .ok (.lst (zaf i k (n3 i j k))) s1 else .no | _=>.no:=id rfl
end
open PySem.W
noncomputable def zhU(fin:Bool):List Int->List Int->Bool
 | x::a,y::b=>if x=y then zhU fin a b else decide (x<y) | _,_=>fin
theorem zbr (f:Bool) (x y:Int) (a b:List Int):zhU f (x::a) (y::b)=if x=y then zhU f a b else decide (x<y):=id rfl
theorem zeE:∀ns ms:List Int,zhU (decide (ns.length<ms.length)) ns ms=lexN ns ms
 | [],[]=>by rfl | [],_::_=>by rfl | _::_,[]=>by rfl | x::a,y::b=>by simp only[zbr,lexN,_w,Nat.add_lt_add_iff_right,(zeE a b)]
def TupAt(h:Heap)(v:Value)(ns:List Int):Prop:=∃a o n us,v=.ref a/\h.get? a=some o/\o.cls=.type "tuple"/\o.data=.seq us n/\yd us.toList ns/\ns≠[]
inductive vg (h:Heap):List Value->List (List Int)->Prop | nil:vg h [] [] | cons {v p vs ps}:TupAt h v p->vg h vs ps->vg h (v::vs) (p::ps)
theorem vg.mono  (k:∀b o,h.get? b=some o->h'.get? b=some o):∀{vs ps},vg h vs ps->vg h' vs ps
 | _,_,.nil=>.nil | _,_,.cons ⟨a,o,n,us,e,g,c,d,i,z⟩ r=>.cons ⟨a,o,n,us,e,k _ _ g,c,d,i,z⟩ (r.mono k)
theorem vg.tups  : ∀{vs ps},vg h vs ps->∃fs,KatTups h vs fs/\fs.length=ps.length/\∀v∈fs,∃i t,v=.int i t
 | _,_,.nil=>⟨[],KatTups.nil,rfl,λv hv=>by cases hv⟩ | _,_,.cons  ⟨a,o,n,us,e,g,c,d,i,z⟩ r=>by
  obtain⟨fs,k,l,m⟩:=r.tups;subst e;obtain⟨ul⟩:=us;cases i with
  | nil=>exact absurd rfl z | @cons x t ws ns i'=>
   refine⟨.int x t::fs,KatTups.cons g c d rfl k,by simp[l],λv hv=>?_⟩;rcases _n.mp hv with rfl | hv;·exact⟨_,_,rfl⟩
   ·exact m v hv
section
variable {prog:Program}{w:World}{A:Around}{E:Value->Shared->Prop}{s:Shared}
theorem z7q   : ∀{xs ys:List Value}{ns ms:List Int}(i:Nat),yd xs ns->yd ys ms->C (zhU fin ns ms) s->KatLex prog w A true fin C (xs.zip ys) i s
 | _,_,_,_,i,.nil,_,h=>by
  refine kat_nil ?_;exact h | _,_,_,_,i,.cons _,.nil,h=>by
  refine kat_nil ?_;exact h | _,_,_,_,i,.cons (i:=x)  r,.cons (i:=y)  r',h=>by
  refine kat_cons (_cx (kat_go (λe=>kat_yes (z7q (i+1) r r' ?_)) λe=>kat_no ?_));·simpa[zbr,(by simpa using e)] using h
  ·have h':C (decide (x<y)) s:=by simpa[zbr,(by simpa using e)] using h
   cases i with
   | zero=> exact oneLt_int h' | succ i=> exact kat_one _ _ (_cZ h')
theorem zfV    (hv:TupAt s.heap v p)(hu:TupAt s.heap u q)(h:C (lexN p q) s):wpAny (model prog w) A (keyLt' (tuples' true) v u) C E s:=by
 obtain⟨a,o,n,us,rfl,g,c,d,i,_⟩:=hv;obtain⟨b,o',n',iG,rfl,g',c',d',i',_⟩:=hu;refine kat_lt g d g' d' (z7q 0 i i' ?_);rw[(show decide (us.size<iG.size)=decide (p.length<q.length) from by
  have:=i.length;have:=i'.length;simp only[_N]at *;simp[*]),zeE];exact h
theorem zay    (hp:vg s.heap vs ps)(h0:0<ps.length)(h:Q (tuples' true) s):wpAny (model prog w) A (keyKind' vs.toArray) Q E s:=by
 obtain⟨fs,k,l,m⟩:=hp.tups;refine kat_kind (T:=.type "int") k (by rw[l];exact h0) (λv hv=>?_) rfl h;obtain⟨i,t,rfl⟩:=m v hv;exact Looks.of_pure rfl
end
section
variable {X:Cx}{E:XK}
theorem zaZ  {O:L2.St}   (I:Inv X ac O H s):∀{ys:List V}{ae:List Value}{ps:List (List Int)},yp ys ae->Paired (λv ns=>AtN H v ns) ys ps->(∀n∈ps,n≠[])->vg s.heap ae ps
 | [],_,_,.nil,.nil,_=>.nil | y::ys,_,_,.cons r rs,.cons a p,hn=>by
  refine .cons ?_ (zaZ I rs p λn hm=>hn n (.tail _ hm));obtain⟨b,ae,rfl,rfl,⟨o,g,c,k,d⟩,z⟩:=a.tuple I r;exact⟨b,o,k,ae,rfl,g,c,d,z,hn _ (.head _)⟩
end
end Dd
namespace Dd
open L2
noncomputable def zfh:List D->Option (List (List Key×V))
 | .non::ys=>z41 ys | xs=>z41 xs
theorem z3b  (h:zbq kvs):zfh (encD kvs)=some kvs:=by
 have:=dec_enc h;cases kvs with
 | nil=>exact this | cons p r=>exact this
theorem Rep.dicF     (r:Rep mg H Y s){l:Nat}    (h:s[l]? = some xs)(ha:Y[l]? = some a)(k:IsC H a)(hd:zfh xs=some kvs):zbq kvs/\((H a=some (.dT kvs)/\xs=encD kvs)\/∃o,H a=some (.frz o (.dT kvs))/\xs=.non::encD kvs):=by
 rcases r.dic h ha k with⟨aY,q1,q2⟩ | ⟨o,aY,ys,q1,rfl,q2⟩ | ⟨aY,g,q1,q2⟩ | ⟨o,aY,ys,q1,rfl,q2,fz⟩
 ·obtain⟨z1,z2,z3⟩:=z1B q2;rw[z1,z3b z2]at hd;cases hd;exact⟨z2,.inl ⟨q1,z1⟩⟩
 ·obtain⟨z1,z2,z3⟩:=z1B q2;have hd:z41 ys=some kvs:=hd;rw[z3]at hd;cases hd;exact⟨z2,.inr ⟨o,q1,by rw[z1]⟩⟩
 ·refine absurd (z4m q2 (kvs:=kvs) ?_) g;cases xs with
  | nil=>exact hd | cons d ds=>
   obtain⟨k,ys,b,vs,r,rfl,h1,h2,h3⟩:=q2;rcases h2 with⟨rfl,_⟩ | ⟨rfl,_⟩<;>exact hd
 ·have hd:z41 ys=some kvs:=hd;have e:=z4m q2 hd;exact absurd e fz.2
theorem zl5   (h:IsC H p):IsD H p:=by
 rcases h with⟨kvs,q⟩ | ⟨o,kvs,q⟩ | ⟨kvs,_,q⟩ | ⟨o,kvs,q⟩;·exact .inr ⟨kvs,.inl q⟩
 ·exact .inr ⟨kvs,.inr ⟨o,q⟩⟩
 ·exact .inl ⟨kvs,.inl q⟩
 ·exact .inl ⟨kvs,.inr ⟨o,q⟩⟩
noncomputable def uN(s:Sto)(o k:D):Option (Option V):=match o,k with
 | .dlo l,.tup ks=>match (s[l]?).bind zfh,jZ ks with
  | some kvs,some key=>some (vf kvs key) | _,_=>none
 | _,_=>none
theorem zdN  (h:zbq kvs)   (e:vf kvs k=some v):(z8U v).isSome=true:=by
 unfold vf at e;obtain⟨p,hp,rfl⟩:=_x.mp e;exact h p (List.mem_of_find?_eq_some hp)
theorem zea     (h:(z8U v).isSome=true):Den mg H Y (vD v) v:=by cases v with
 | int i=>rfl | bl b=>rfl | _=>simp[z8U]at h
section
variable {X:Cx}{E:XK}{a b e f o i:Expr}{pos aV:Pos}
theorem z5V       (r:Rep (gm X) H Y s)(h1:Den (gm X) H Y od x)(h2:Den (gm X) H Y kd y)(h:uN s od kd=some ov):∃p,x=.ref p/\ze4 H p y ov/\(∀v,ov=some v->(z8U v).isSome=true):=by
 unfold uN at h;split at h
 ·rename_i l ks;split at h
  ·rename_i kvs key ek lh;cases h;obtain⟨p,rfl,e1,ka⟩:=h1;obtain⟨xs,ex,gJ⟩:=_aF.mp ek;obtain⟨z2,q⟩:=r.dicF ex e1 ka gJ;have rd:Rd H p (.dT kvs):=q.imp (λq=>q.1) λ⟨o,q,_⟩=>⟨o,q⟩;rw[z3q lh]at h2;obtain⟨c,vs,rfl,hb,hd⟩:=h2;rw[z0A hd]at hb;exact⟨p,rfl,.inr ⟨kvs,key,c,rd,rfl,hb,rfl⟩,λv e=>zdN z2 e⟩
  ·cases h
 ·cases h
noncomputable def zh8(bA:Bool)(k o:D)(s:Sto):R D:=match uN s o k with
 | some ov=>.ok (.bl (if bA then !ov.isSome else ov.isSome)) s | none=>.no
def zlu(bA:Bool):R2:=λy x H Q=>∃p ov,x=.ref p/\ze4 H p y ov/\Q (.bl (if bA then !ov.isSome else ov.isSome)) H
theorem zbt(hu:X.A.units+64<cLine):OpR X (compareOp .NotIn) (zlu true):=by
 intro ac s O H x y v u Q I rx ry h;obtain⟨p,ov,rfl,g,q⟩:=h;cases ry;exact zgu (A:=X.A) (by lia) I g rx λs' I'=>⟨.bl (!ov.isSome),H,I',rfl,q⟩
theorem zeZ{bA:Bool}:OpF X E (zlu bA) (zh8 bA):=λH Y s d1 d2 v1 v2 Q r h1 h2 h=>by
 unfold zh8 at h;split at h
 ·rename_i ov e1;obtain⟨p,rfl,g,_⟩:=z5V r h2 h1 e1;exact⟨p,ov,rfl,g,h.here r yh⟩
 ·exact h.elim
theorem zcJ(hu:X.A.units+64<cLine):∃r,OpR X (compareOp .NotIn) r/\OpF X E r (zh8 true):=⟨_,zbt hu,zeZ⟩
noncomputable def zbL(fo fk:FE):FE:=fun ρ s=>(fo ρ s).bind λo s1=>(fk ρ s1).bind λk s2=>match uN s2 o k with
 | some (some v)=>.ok (vD v) s2 | _=>.no
theorem ziG  (hu:X.A.units+64<cLine)(ho:RE X E o fo)(hi:RE X E i fk)(hs:zkN i:=by intro _ _;rfl):RE X E (.Subscript o i pos) (zbL fo fk):= zR (zeQ (by lia) ho hi hs) λO H Q ⟨Y,ρ,s,r,en,h⟩=>by
  unfold zbL at h;refine zN (k:=fun ρ o s1=>(fk ρ s1).bind λk s2=>match uN s2 o k with | some (some v)=>.ok (vD v) s2 | _=>.no) r en h _ λv H1 Y1 s1 d r1 aE dn stp h1=>?_;refine zN (k:=fun ρ k s2=>match uN s2 d k with | some (some v)=>.ok (vD v) s2 | _=>.no) r1 aE h1 _ λv2 H2 Y2 s2 kd r2 bw aJ ak h2=>?_;split at h2
  ·rename_i u eu;obtain⟨p,rfl,g,al⟩:=z5V r2 (dn.mono ak) aJ eu;exact⟨p,u,rfl,g,h2.here r2 (zea (al u rfl))⟩
  ·exact h2.elim
noncomputable def z7e(fo fk fx:FE):FE:=fun ρ s=>(fo ρ s).bind λo s1=>match o with
 | .dlo l=>(fk ρ s1).bind λk s2=>(fx ρ s2).bind λx s3=>match uN s3 (.dlo l) k with
  | some ov=>.ok (match ov with | some v=>vD v | none=>x) s3 | none=>.no
 | _=>.no
theorem zfr  (hu:X.A.units+64<cLine)(ho:RE X E o fo)(he:RE X E e fk)(hf:RE X E f fx)(aW:autoParam (attributeBase o "get" X.env (eval o X.env)=eval o X.env) aRf) (bY:autoParam (((backTo pos (starEach [e,f] X.env)).all (λx=>!x.1)&&(backToKw pos (keywordEach [] X.env)).all (λx=>x.1.isSome) && decide (([e,f]:List Expr).length+([]:List Keyword).length+(if ([]:List Keyword).isEmpty then 0 else 1)<30))=true) aRf) (aD:autoParam ((aV.endLine==pos.line)=true) aRf)(pB:autoParam (backTo pos (starEach [e,f] X.env)=[(false,eval e X.env),(false,eval f X.env)]) aRf): RE X E (.Call (.Attribute o "get" aV) [e,f] [] pos) (z7e fo fk fx):= zR (zct (by lia) ho he hf ⟨aW,bY,aD,pB⟩) λO H Q ⟨Y,ρ,s,r,en,h⟩=>by
  unfold z7e at h;refine zN (k:=fun ρ o s1=>match o with
   | .dlo l=>(fk ρ s1).bind λk s2=>(fx ρ s2).bind λx s3=>match uN s3 (.dlo l) k with
    | some ov=>.ok (match ov with | some v=>vD v | none=>x) s3 | none=>.no
   | _=>.no) r en h _ λv H1 Y1 s1 d r1 aE dn stp h1=>?_;split at h1
  ·rename_i l;have dl:=dn;obtain⟨p,rfl,e1,ka⟩:=dl;have pC:IsD H1 p:=zl5 ka;refine⟨p,rfl,pC,?_⟩;refine zN (k:=fun ρ k s2=>(fx ρ s2).bind λx s3=>match uN s3 (.dlo l) k with
    | some ov=>.ok (match ov with | some v=>vD v | none=>x) s3 | none=>.no) r1 aE h1 _ λv2 H2 Y2 s2 kd r2 bw aJ ak h2=>?_;refine zN (k:=fun ρ x s3=>match uN s3 (.dlo l) kd with
    | some ov=>.ok (match ov with | some v=>vD v | none=>x) s3 | none=>.no) r2 bw h2 _ λv3 H3 Y3 s3 xd r3 fH b9 aq h3=>?_;split at h3
   ·rename_i ov eu;obtain⟨p',e',g,al⟩:=z5V r3 ((dn.mono ak).mono aq) (aJ.mono aq) eu;cases e';refine⟨ov,g,?_⟩;cases ov with
    | none=>exact h3.here r3 b9 | some u=>exact h3.here r3 (zea (al u rfl))
   ·exact h3.elim
  ·exact h1.elim
end
@[simp] theorem zg3 (fo fk:FE)(ρ:Ev)(s:Sto):zbL fo fk ρ s=(fo ρ s).bind λo s1=>(fk ρ s1).bind λk s2=>match uN s2 o k with
 | some (some v)=>.ok (vD v) s2 | _=>.no:=id rfl
@[simp] theorem zcv (fo fk fx:FE)(ρ:Ev)(s:Sto):z7e fo fk fx ρ s=(fo ρ s).bind λo s1=>match o with
 | .dlo l=>(fk ρ s1).bind λk s2=>(fx ρ s2).bind λx s3=>match uN s3 (.dlo l) k with
  | some ov=>.ok (match ov with | some v=>vD v | none=>x) s3 | none=>.no
 | _=>.no:=id rfl
end Dd
namespace L2
open Dd
def Itd(a:Addr)(o:Obj)(kvs:List (List Key×V)):It:= ⟨λi H=>H a=some (.frz o (.dT kvs))/\i<kvs.length,λi H x H'=>H'=H/\∃p b,kvs[i]? = some p/\x=.ref b/\H b=some (.tup (p.1.map kV)),λi H=>H a=some (.frz o (.dT kvs))/\kvs.length<=i⟩
theorem zcr{P:Program}{w:World}{K:W.Frag}{tg:Expr}(a it:Addr){o:Obj}{es:Array DictEntry}{ep:Nat}(ho:o.data=.dict es ep)(kvs:List (List Key×V)):zbT P w K tg (Itd a o kvs) [it] it (λi h=>h.IsKeyIter it a i es.size ep) where
 mem:=by simp
 obj:=λi h st b hb=>by
  have e:b=it:=by simpa using hb
  subst e;obtain⟨o,e,c,d⟩:=st;exact⟨o,e,λv z=>by rw[d]at z;cases z⟩
 keep:=λi h h' st k=>st.at λo e=>k it (by simp) o e;item:=by
  intro X hP hw hK hc i ac s O H E I hf st hg;subst hP hw hK;obtain⟨ha,hi⟩:=hg;obtain⟨h0,z,lo,xs,bJ,o',bL,cK,h1,h2,h3,h4,h5⟩:=(show xF X.prog X.w H s.heap a (.frz o (.dT kvs)) from I.hok a _ ha);rw[h0]at h1;cases h1;rw[ho]at h3;cases h3;obtain⟨p,hp⟩:∃p,kvs[i]? = some p:=⟨kvs[i],_e hi⟩;obtain⟨x,hx,r1,r2,r3⟩:=Dd.ky bJ i p hp;obtain⟨f0,f1,f2,f3,f4,f5⟩:=hf it (by simp);have he:es[i]? = some (entryOfKey (tupleKind (zH X.prog X.w)) x):=by rw[entry_at h4,hx];rfl
  refine zc6 st h0 ho he λh' ag sb=>?_;have I1:Inv X ac O H {s with heap:=h'}:=I.turned (t':=s.toks) (λb o hb e=>(sb.2 b hb).trans e) f0 f1 f3 f4 f5;obtain⟨o2,e,c,d⟩:=id ag;exact⟨_,rfl,zci (s:={s with heap:=h'}) e c d (by decide) ⟨.ref x.2.1,H,I1,rfl,⟨rfl,p,x.2.1,hp,rfl,r2⟩,ag,λb hb=>(hf b hb).1⟩⟩
 done:=by
  intro X hP hw hK hc i ac s O H E I hf st hg;subst hP hw hK;obtain⟨ha,hi⟩:=hg;obtain⟨h0,z,lo,xs,bJ,o',bL,cK,h1,h2,h3,h4,h5⟩:=(show xF X.prog X.w H s.heap a (.frz o (.dT kvs)) from I.hok a _ ha);rw[h0]at h1;cases h1;rw[ho]at h3;cases h3;have hl:xs.length=kvs.length:=(_cL bJ).symm;have hsz:es.size=xs.length:=size_of_entries h4;obtain⟨f0,f1,f2,f3,f4,f5⟩:=hf it (by simp);exact zf2 (I.ok.hd hc) st h0 ho (by simp;lia) λh' eb=>⟨rfl,I.turned (t':=s.toks) (λb o hb e=>eb b o hb e) f0 f1 f3 f4 f5⟩
 self:=λ_ _ _ _ _ st hQ=>wpAny_pyIter_keyiter st hQ
theorem ziI{X:Cx}{tg l:Expr}{tl:TE}(hl:PE X l tl):PI X tg l (λO H R=>tl O H λx H1=>∃a kvs,x=.ref a/\((H1 a=some (.dT kvs)/\∀o,R (Itd a o kvs) (upd H1 a (.frz o (.dT kvs))))\/∃o,H1 a=some (.frz o (.dT kvs))/\R (Itd a o kvs) H1)):=by
 intro ac s O H R I h;refine thn (hl ac s O H _ I h) λv s1 ⟨x,H1,I1,r1,q1⟩=>?_;obtain⟨a,kvs,e,q⟩:=q1;subst e;cases r1;have fin:∀(o:Obj)(H2:Hp),Inv X ac O H2 s1->H2 a=some (.frz o (.dT kvs))->R (Itd a o kvs) H2->wpAny (model X.prog X.w) X.A (pyIter (.ref a)) (PIE X ac O tg R) X.xe s1:=λo H2 I2 ha q=>by
  obtain⟨h0,z,lo,xs,bJ,o',es,ep,h1,h2,h3,h4,h5⟩:=(show xF X.prog X.w H2 s1.heap a (.frz o (.dT kvs)) from I2.hok a _ ha);rw[h0]at h1;cases h1;refine zdm lo ⟨o,h0,h2,h3⟩ ?_;refine⟨s1.heap.objs.size,[s1.heap.objs.size],_,_,H2,rfl,I2.kept (t':=s1.toks) λb o e=>_c _ e,zcr a _ h3 kvs,⟨_,_k _ rfl,rfl,rfl⟩,λb hb=>?_,q⟩;have e:b=s1.heap.objs.size:=by simpa using hb
  subst e;exact I2.fpOk (_h _) (I2.hok.fresh (_h _))
 rcases q with⟨ha,q⟩ | ⟨o,ha,q⟩
 ·obtain⟨_,_,xs,_,o,es,ep,h1,_⟩:=(show xF X.prog X.w H1 s1.heap a (.dT kvs) from I1.hok a _ ha);exact fin o _ (I1.freeze ha h1 (by intro _ z;cases z) (by intro _ _ z;cases z) (by intro _ z;cases z) (by intro _ z;cases z)) zA (q o)
 ·exact fin o H1 I1 ha q
end L2
namespace Dd
open L2
section
variable {X:Cx}{E:XK}{e tg:Expr}
noncomputable def z8Z(f:FE):FI:=fun ρ s=>(f ρ s).bind λd s1=>match d with
 | .dlo l=>match (s1[l]?).bind zfh with
  | some kvs=>.ok (z34 kvs,[]) (s1.set l (.non::encD kvs)) | none=>.no
 | _=>.no
theorem zfj{mg:Gm}{H:Hp}{Y:List Addr}{p:List Key×V}{b:Addr}(h:H b=some (.tup (p.1.map kV))):Den mg H Y (.tup (p.1.map z8Q)) (.ref b):=by
 change ∃_,_;exact⟨b,_,rfl,h,z42 _⟩
theorem zka {f:FE} (h:RE X E e f):RI X E tg e (z8Z f):=z2v (ziI h) λO H Q ⟨Y,ρ,s,r,en,h⟩=>by
 unfold z8Z at h;refine⟨Y,ρ,s,r,en,(okR.bind (Dn:=Den (gm X)) h).imp λv H1 ⟨Y1,s1,d,stp,dn,h1⟩=>?_⟩;split at h1
 ·rename_i l;split at h1
  ·rename_i kvs ek;obtain⟨xs,ex,gJ⟩:=_aF.mp ek;obtain⟨a,rfl,e1,ka⟩:=dn;obtain⟨al,q⟩:=stp.rep.dicF ex e1 ka gJ;have fl:D.flat.flats (D.non::encD kvs)=true:=z3c kvs;have ok:∀(o:Obj) (H2:Hp) (Y2:List Addr),H2 a=some (.frz o (.dT kvs))->zjP (gm X) H2 Y2 (z34 kvs,[]) (Itd a o kvs):=λo H2 Y2 ha H3 Y3 s3 aq _ i=>by
    have iu:=aq.stay ha (by intro _ z;cases z);refine⟨λd hd=>?_,λhl=>⟨iu,by simpa[z34] using hl⟩⟩;have hi:i<kvs.length:=by have:=(_d.mp hd).1;simpa[z34] using this
    refine⟨⟨iu,hi⟩,λx H' ⟨e3,p,b,hp,ex,hb⟩=>?_⟩;subst e3 ex;have:d=.tup (p.1.map z8Q):=by
     have hd:(z34 kvs)[i]? = some d:=hd;rw[z34,_Y,hp]at hd;exact (_I hd).symm
    subst this;exact⟨Y3,.refl aq.rep,zfj hb⟩
   refine⟨a,kvs,rfl,?_⟩;rcases q with⟨ha,hx⟩ | ⟨o,ha,hx⟩
   ·refine .inl ⟨ha,λo=>?_⟩;have ak:=yQ.putC (l:=l) (o:=.frz o (.dT kvs)) stp.rep e1 (.putC ⟨_,ha⟩ (.inr ⟨o,kvs,rfl⟩)) (.inr (.inr (.inl ⟨o,kvs,encD kvs,zA,rfl,z3l al⟩))) fl;exact h1 _ _ _ ak (ok o _ _ zA)
   ·refine .inr ⟨o,ha,?_⟩;have e2:s1.set l (.non::encD kvs)=s1:=by
     rw[<- hx];exact _dt λj=>by
      by_cases z:l=j;·subst z;rw[_ac (_d.mp ex).1,ex]
      ·rw[_Q z]
    rw[e2]at h1;exact h1 _ _ _ (.refl stp.rep) (ok o _ _ ha)
  ·exact h1.elim
 ·exact h1.elim
end
@[simp] theorem zfx (f:FE)(ρ:Ev)(s:Sto):z8Z f ρ s=(f ρ s).bind λd s1=>match d with
 | .dlo l=>match (s1[l]?).bind zfh with
  | some kvs=>.ok (z34 kvs,[]) (s1.set l (.non::encD kvs)) | none=>.no
 | _=>.no:=id rfl
section
variable {X:Cx}{E:XK}{a:Expr}
noncomputable def zkP(f:FE):FT:=fun ρ s=>(f ρ s).bind λd s1=>match listOf s1 d with | some xs=>.ok (!xs.isEmpty) s1 | none=>.no
theorem z8o      (h:zG mg H Y ds vs):vs.isEmpty=ds.isEmpty:=by
 have:=h.length;cases ds<;>cases vs<;>simp at this ⊢
theorem zl4  (h:RE X E a f)(he:autoParam (∀aU,isTrue a X.env aU=(do let v <- aU;standAt a.pos;holding [v] (truthy v))) aIr):RT X E a (zkP f):= z5x (zcx h he) λO H Q ⟨Y,ρ,s,r,en,h⟩=>by
  refine zN (k:=fun ρ d s1=>match listOf s1 d with | some xs=>.ok (!xs.isEmpty) s1 | none=>.no) r en h _ λv H1 Y1 s1 d r1 aE dn stp h1=>?_;split at h1
  ·rename_i xs e;obtain⟨p,vs,rfl,q1,q2⟩:=zJ r1 e dn;exact⟨!xs.isEmpty,.inl ⟨vs,.inl q1,by rw[z8o q2]⟩,h1.here  r1 rfl⟩
  ·exact h1.elim
end
@[simp] theorem zjn (f:FE)(ρ:Ev)(s:Sto):zkP f ρ s=(f ρ s).bind λd s1=>match listOf s1 d with | some xs=>.ok (!xs.isEmpty) s1 | none=>.no:=id rfl
abbrev NP:=Int×List Int
noncomputable def z9e(p q:NP):Bool:=if p.1=q.1 then lexN p.2 q.2 else decide (p.1<q.1)
section
variable {prog:Program}{w:World}{A:Around}{E:Value->Shared->Prop}{s:Shared}
theorem z8b       (hu:A.units+1<cLine)(ha:s.heap.IsTuple a #[.int i t,.ref c])(hb:s.heap.IsTuple b #[.int j t',.ref d]) (hc:s.heap.IsTuple c us)(hd:s.heap.IsTuple d vs)(hx:yd us.toList ns)(hy:yd vs.toList ms)(he:SeqAt.EqAt A s (.ref c) (.ref d) (decide (ns=ms))) (h:P (.done (.ret (.bool (z9e (i,ns) (j,ms))))) s):wpAny (model prog w) A (Builtin.«tuple.__lt__» ⟨[.ref a,.ref b],[]⟩) P E s:=by
 obtain⟨oa,ga,ca,na,da⟩:=ha;obtain⟨ob,gb,cb,nb,db⟩:=hb;have tb:s.TypeIs (.ref b) "tuple":=⟨ob,gb,cb⟩;show wpAny _ _ (isInstance (.ref b) (.type "tuple") >>= _) _ _ s;refine _a (_bh tb isSubtype_tuple_tuple ?_);simp only[_M];refine _a (_b7 ga da (_a (_b7 gb db (_a ?_))));refine _bw _ (λvF r s'=>r.1=none/\s'=s/\(vF=[(Value.int i t,Value.int j t'),(.ref c,.ref d)]\/(vF=[(.ref c,.ref d)]/\i=j)\/(vF=[]/\i=j/\ns=ms))) _ ?_ ?_ _ _ ⟨rfl,rfl,.inl rfl⟩
 ·rintro⟨u,v⟩ vF r s' ⟨hr,rfl,hz⟩;rcases hz with hz | ⟨hz,e⟩ | ⟨hz,_⟩
  ·simp only[_be,_bB]at hz;obtain⟨⟨rfl,rfl⟩,rfl⟩:=hz;refine _a (_cx ?_);by_cases e:i=j
   ·subst e;simp only[_dD,_M];exact _b ⟨rfl,rfl,.inr (.inl ⟨trivial,trivial⟩)⟩
   ·rw[show (i==j)=false by simpa using e];simp only[_K];have hf:z9e (i,ns) (j,ms)=decide (i<j):=by simp[z9e,e]
    rw[hf]at h;refine _a (_aL (_a (show wpAny _ _ (compareOp .Lt (.int i t) (.int j t')) _ _ _ from _cZ ?_)));exact _a (_b (_b (_b h)))
  ·simp only[_be,_bB]at hz;obtain⟨⟨rfl,rfl⟩,rfl⟩:=hz;refine _a (he _ _ _ _ ?_);by_cases e2:ns=ms
   ·rw[_aR e2];simp only[_M];exact _b ⟨rfl,rfl,.inr (.inr ⟨trivial,e,e2⟩)⟩
   ·rw[_af e2];simp only[_K];have hf:z9e (i,ns) (j,ms)=lexN ns ms:=by simp[z9e,e]
    rw[hf]at h;refine _a (_aL (_a (show wpAny _ _ (compareOp .Lt (.ref c) (.ref d)) _ _ _ from zjE (by lia) hc hd hx hy ?_)));exact _a (_b (_b (_b h)))
  ·cases hz
 ·rintro⟨r1,r2⟩ s' ⟨hr,rfl,hz⟩;simp only at hr;subst hr;refine _b ?_;rcases hz with hz | ⟨hz,_⟩ | ⟨_,e1,e2⟩;·cases hz
  ·cases hz
  ·have irr:∀a:List Int,lexN a a=false:=λa=>by induction a with
    | nil=>rfl | cons x a ih=>simp[lexN,ih]
   have hf:z9e (i,ns) (j,ms)=false:=by simp[z9e,e1,e2,irr]
   rw[hf]at h;exact h
theorem zkD       (hu:A.units+2<cLine)(ha:s.heap.IsTuple a #[.int i t,.ref c])(hb:s.heap.IsTuple b #[.int j t',.ref d]) (hc:s.heap.IsTuple c us)(hd:s.heap.IsTuple d vs)(hx:yd us.toList ns)(hy:yd vs.toList ms)(he:SeqAt.EqAt A.in1 s (.ref c) (.ref d) (decide (ns=ms))) (h:Q (.bool (z9e (i,ns) (j,ms))) s):wpAny (model prog w) A (richCompare .Lt (.ref a) (.ref b)) Q E s:=by
 have ta:s.TypeIs (.ref a) "tuple":=by obtain⟨o,g,c,_⟩:=ha;exact⟨o,g,c⟩
 have tb:s.TypeIs (.ref b) "tuple":=by obtain⟨o,g,c,_⟩:=hb;exact⟨o,g,c⟩
 refine wpAny_richCompare_same_room ta tb _bE (_P _bE ta PySem.F.entry_tuple_lt ?_ (PySem.F.args_tuple_lt_2 _ _)) (by lia);exact z8b (by have:A.in1.units=A.units+1:=rfl;lia) ha hb hc hd hx hy he ⟨_,rfl,by simp,h⟩
end
def z9c:NP->List NP->NP
 | b,[]=>b | b,x::r=>z9c (if z9e x b then x else b) r
noncomputable def zdB:D->Option NP
 | .tup [.int i,.tup ds]=>(zdL ds).map λns=>(i,ns) | _=>none
noncomputable def z1o:List D->Option (List NP)
 | []=>some [] | d::ds=>match zdB d,z1o ds with | some p,some ps=>some (p::ps) | _,_=>none
noncomputable def pairD(p:NP):D:=.tup [.int p.1,.tup (p.2.map D.int)]
theorem zgq(p:NP):zdB (pairD p)=some p:=by simp[zdB,pairD,z3H]
theorem z7c:∀L:List NP,z1o (L.map pairD)=some L
 | []=>rfl | p::L=>by simp only[_H,z1o,zgq,z7c L]
noncomputable def z9p:Mir:=λds s=>match ds with
 | [d]=>match (zU s d).bind z1o with
  | some (p::L)=>.ok (pairD (z9c p L)) s | _=>.no
 | _=>.no
theorem z7B  {L:List NP}(hb:∀i j,bt i j=z9e (L.getD i (0,[])) (L.getD j (0,[]))):∀k,k<L.length->∀n M,L=n::M->L.getD (argBest bt k) (0,[])=z9c n (M.take k)
 | 0,_,n,M,e=>by subst e;simp[argBest,z9c] | k+1,hk,n,M,e=>by
  have ih:=z7B hb k (by lia) n M e;have hM:k<M.length:=by subst e;simpa using hk
  have gk:L.getD (k+1) (0,[])=M[k]:=by subst e;simp[hM]
  have app:∀(b:NP)(A:List NP)(x:NP),z9c b (A++[x])=if z9e x (z9c b A) then x else z9c b A:=by
   intro b A;induction A generalizing b with
   | nil=>intro x;rfl | cons y A ih=>intro x;exact ih _ x
  rw[_ck,_e hM,Option.toList_some,app,<- ih];simp only[argBest,hb (k+1) (argBest bt k),gk];split;·exact gk
  ·rfl
def AtP(H:Hp)(v:V)(p:NP):Prop:=∃b c,v=.ref b/\H b=some (.tup [.int p.1,.ref c])/\H c=some (.tup (p.2.map V.int))
section
variable {X:Cx}{E:XK}
def zkI(K:W.Frag):List V->Hp->VK->Prop:=λxs H Q=>∃b p ys n L,xs=[.ref p]/\Sq b K H p ys/\Paired (λv ns=>AtP H v ns) ys (n::L)/\∀v,AtP H v (z9c n L)->Q v H
theorem AtP.tuple  {O:L2.St}   (I:Inv X ac O H s)    (a:AtP H v p)(r:ym v u):∃b c t ae,u=.ref b/\AtN H (.ref c) p.2/\s.heap.IsTuple b #[.int p.1 t,.ref c]/\s.heap.IsTuple c ae/\yd ae.toList p.2:=by
 obtain⟨b,c,rfl,e,e2⟩:=a;cases (show u=Value.ref b from r);obtain⟨ae,r,pl,hz⟩:=I.tuple (.inl (.inl e));obtain⟨bu,r2,pD,sK⟩:=I.tuple (.inl (.inl e2));cases r with | cons h1 r=>
  obtain⟨t,rfl⟩:=h1;cases r with | cons h2 r=>
   cases r;cases (show _=Value.ref c from h2);exact⟨b,c,t,bu.toArray,rfl,⟨c,rfl,e2⟩,pl,pD,yd.of_vals (by simpa using r2)⟩
theorem zbD(hc:X.calm=true)(hu:X.A.units+64<cLine):xA X (.builtin "min") (zkI X.K):=by
 intro ac s O H xs us Q I r h;obtain⟨b,p,ys,n,L,rfl,hq,hp,q⟩:=h;obtain⟨u,rfl,ru⟩:=vals1 r;cases ru;obtain⟨ae,rv,co⟩:=I.sq hq;have hl:ae.length=(n::L).length:=by rw[<- z2D hp,rv.length]
 have at_:∀i v,ae.toArray[i]? = some v->∃y,ys[i]? = some y/\ym y v/\AtP H y ((n::L).getD i (0,[])):=λi v e=>by
  have e':ae[i]? = some v:=by simpa using e
  have hi:i<ys.length:=by have:=(_d.mp e').1;have:=rv.length;lia
  obtain⟨w,hw,pE⟩:=rv.get   (_e hi);rw[e']at hw;cases hw;obtain⟨ns,e1,e2⟩:=ky hp i _ (_e hi);exact⟨ys[i],_e hi,pE,by rw[List.getD,e1];exact e2⟩
 refine z8X (Zz.z4j (I.ok.hd hc) co λs2 e2 St W st bd bM=>?_);subst e2;refine⟨_,_,_,_,_,_,λi j=>z9e ((n::L).getD i (0,[])) ((n::L).getD j (0,[])),λh=>∀c o,s.heap.get? c=some o->h.get? c=some o,rfl,W,st,bd,by simp[hl],λc o e=>_c _ e,λi j vi vj s3 Q3 E3 kh pi pj q3=>?_,λh h' kh k c o e=>?_,λv h' tk e hk=>?_⟩
 ·obtain⟨yi,_,ri,ai⟩:=at_ i vi pi;obtain⟨yj,_,rj,aj⟩:=at_ j vj pj;obtain⟨b1,c1,k1,t1,rfl,n1,x1,y1,z1⟩:=ai.tuple I ri;obtain⟨b2,c2,k2,t2,rfl,n2,x2,y2,z2⟩:=aj.tuple I rj;have up:∀{c:Addr}{ae:Array Value},s.heap.IsTuple c ae->s3.heap.IsTuple c ae:=λ⟨o,g,w⟩=>⟨o,kh _ _ g,w⟩;have u1:X.A.in1.units=X.A.units+1:=rfl;have u2:X.A.in1.in1.units=X.A.units+2:=rfl;have pF:SeqAt.EqAt X.A.in1.in1 s3 (.ref c1) (.ref c2) (decide (((n::L).getD i (0,[])).2=((n::L).getD j (0,[])).2)):=by
   have I3  := λa o ha=>(I.hok a o ha).stay (λ_ _ _ q=>kh _ _ q) (λ_ q=>q) λ_ _ q=>q;exact AtN.eqAt (gm X) I3 (by lia) n1 rfl n2 rfl
  exact zkD (by lia) (up x1) (up x2) (up y1) (up y2) z1 z2 pF q3
 ·refine k c o (λz=>?_) (by rw[_az];exact _aM (_j e)) (kh c o e);have:c=s.heap.objs.size:=by simpa using z
  exact absurd (this ▸ _j e) (_aB _)
 ·obtain⟨y,_,ry,ay⟩:=at_ _ v e;have em:=z7B   (λi j=>rfl) (ae.toArray.size-1) (by simp[hl]) n L rfl;have pG:L.take (ae.toArray.size-1)=L:=by simp[hl]
  rw[pG]at em;rw[em]at ay;exact⟨y,H,I.kept  (bM h' hk),ry,q y ay⟩
theorem z2A    : ∀{ds:List D}{vs:List V}{L:List NP},z1o ds=some L->zG mg H Y ds vs->Paired (λv p=>AtP H v p) vs L
 | [],_,_,h,dn=>by simp only[z1o,_J]at h;obtain rfl:=dn;subst h;exact .nil | d::ds,_,_,h,dn=>by
  obtain⟨v,vs,rfl,h1,h2⟩:=dn;simp only[z1o]at h;split at h
  ·rename_i p ps e1 e2;cases h;refine .cons ?_ (z2A e2 h2);unfold zdB at e1;split at e1
   ·rename_i i es;obtain⟨ns,en,rfl⟩:=_x.mp e1;obtain⟨b,ws,rfl,hb,hd⟩:=h1;obtain⟨v1,r1,rfl,d1,v2,r2,rfl,d2,rfl⟩:=hd;cases zO d1;obtain⟨c,rfl,hc⟩:=z48 (show zgQ (.tup es)=some ns from en) d2;exact⟨b,c,rfl,hb,hc⟩
   ·cases e1
  ·cases h
theorem zj2(hc:X.calm=true)(hu:X.A.units+64<cLine):∃r,xA X (.builtin "min") r/\z1Q X E r z9p:=⟨_,zbD hc hu,λH Y s ds vs Q r hd h=>by
 unfold z9p at h;split at h
 ·rename_i d;split at h
  ·rename_i n L e;obtain⟨xs,e1,e2⟩:=_aF.mp e;obtain⟨v,rfl,dn⟩:=z3r hd;obtain⟨a,ws,rfl,q1,q2⟩:=vn  r e1 dn;obtain⟨b,q⟩:=z7w q1;refine⟨b,a,ws,n,L,rfl,q,z2A e2 q2,λv av=>h.here r ?_⟩;obtain⟨b,c,rfl,eb,ec⟩:=av;have dc:Den (gm X) H Y (.tup ((z9c n L).2.map D.int)) (.ref c):=by
    change ∃_,_;refine⟨c,_,rfl,ec,?_⟩;generalize (z9c n L).2=ns;induction ns with
    | nil=>exact zG.nil | cons i r ih=>exact zG.cons yg ih
   unfold pairD;change ∃_,_;exact⟨b,_,rfl,eb,zG.cons yg (zG.cons dc zG.nil)⟩
  ·exact h.elim
 ·exact h.elim⟩
end
end Dd
namespace Pg
open L2 Dd
noncomputable def jE:List (Str×Str):=[("next","by_next"),("least","by_least"),("all","by_all"),("turn","by_turn")]
@[simp] noncomputable def z5s:FS:=(wc (zfL (eIs "int" (zd 0)) (zjS (eIs "bool" (zd 0)))))
noncomputable def z66:FS:=z5s
noncomputable def xc:Mir:=Mof ["thing"] 1 z66
@[simp] noncomputable def z5F:FS:=(wc (zfL (eIs "tuple" (zd 0)) (z0e dLe dLe (eC (.int 2)) (zh qI (za (zd 0) zn)) (eC (.int 4)))))
noncomputable def z1b:FS:=z5F
noncomputable def vG:Mir:=Mof ["thing"] 1 z1b
@[simp] noncomputable def yD:FS:=(ve 3 (z4o (za (jY zn) zn)))
@[simp] noncomputable def yE:FS:=(ve 3 (jR (wZ (zd 3)) [some 1,some 2,none,none] 2 3 (z65 (za (zd 0) (za (eOp xZ (zd 1) (eC (.int 1))) zn))) (eOp xZ (zd 2) (jY (za (zd 3) zn)))))
@[simp] noncomputable def yC:FS:=(z9X (z5U (za (zd 0) zn)) (qZ 4) yE)
@[simp] noncomputable def jv:FS:=(wc (zd 3))
noncomputable def vH:FS:=(zL yD (zL yC jv))
noncomputable def yc:Mir:=Mof ["size","least","most","found","place"] 3 vH
@[simp] noncomputable def z25:FS:=(wc (eC (.bl false)))
@[simp] noncomputable def z2d:FS:=(fIf (fOr (z0F (tOf (eIs "tuple" (zd 0)))) (tOf (eOp dNe (zh qI (za (zd 0) zn)) (zd 1)))) z25 xf)
@[simp] noncomputable def z2k:FS:=(wc (zh zig (za (xl (wZ (zd 0)) [none] (qZ 0) z0u (zh xc (za (zd 0) zn))) zn)))
noncomputable def jl:FS:=(zL z2d z2k)
noncomputable def xT:Mir:=Mof ["thing","many"] 2 jl
@[simp] noncomputable def z1q:FS:=fNo
@[simp] noncomputable def uK:FS:=(fIf (fOr (z0F (tOf (zh xc (za (zd 0) zn)))) (z0F (tOf (z0e dLe dLe (zd 1) (zd 0) (zd 2))))) z1q xf)
noncomputable def qJ:FS:=uK
noncomputable def yO:Mir:=Mof ["thing","least","most"] 3 qJ
@[simp] noncomputable def z0p:FS:=(fIf (fOr (z0F (tOf (zh xc (za (zd 0) zn)))) (z0F (tOf (z0e dLe dLe (zd 1) (zd 0) (zd 2))))) (z2L "NoNumber") xf)
noncomputable def z1m:FS:=z0p
noncomputable def ub:Mir:=z5w ["thing","least","most"] 3 z1m
@[simp] noncomputable def z3p:FS:=fNo
@[simp] noncomputable def z4n:FS:=(fIf (fOr (z0F (tOf (zh xc (za (zd 0) zn)))) (z0F (tOf (z0e dLe dLe (eC (.int 2)) (zd 0) (zd 1))))) z3p xf)
noncomputable def z00:FS:=z4n
noncomputable def wI:Mir:=Mof ["thing","most"] 2 z00
@[simp] noncomputable def z93:FS:=(wc (eC (.bl false)))
@[simp] noncomputable def z92:FS:=(fIf (fOr (z0F (tOf (zh vG (za (zd 0) zn)))) (z0F (tOf (zh xT (za (zd 0) (za (zh qI (za (zd 0) zn)) zn)))))) z93 xf)
@[simp] noncomputable def z8q:FS:=(wc (zfL (eOp dGe (zh z3f (za (zd 0) zn)) (eC (.int 0))) (eOp dGt (zh yT (za (zd 0) zn)) (eC (.int 0)))))
noncomputable def z4G:FS:=(zL z92 z8q)
noncomputable def wq:Mir:=Mof ["thing"] 1 z4G
@[simp] noncomputable def z4w:FS:=fNo
@[simp] noncomputable def z57:FS:=(fIf (z0F (tOf (zh wq (za (zd 0) zn)))) z4w xf)
noncomputable def z1z:FS:=z57
noncomputable def yM:Mir:=Mof ["thing"] 1 z1z
@[simp] noncomputable def z40:FS:=(fIf (z0F (tOf (zh wq (za (zd 0) zn)))) (z2L "NoLot") xf)
noncomputable def z4P:FS:=z40
noncomputable def qg:Mir:=z5w ["thing"] 1 z4P
@[simp] noncomputable def z3Y:FS:=(wS (zh yM (za (zd 0) zn)))
@[simp] noncomputable def uh:FS:=(wc (eOp dEq (zh qI (za (xl (wZ (zd 0)) [none] (qZ 0) (tOf (eOp dNe (zd 0) (eC (.int 0)))) (zd 0)) zn)) (eC (.int 1))))
noncomputable def kG:FS:=(zL z3Y uh)
noncomputable def zP:Mir:=Mof ["lot"] 1 kG
@[simp] noncomputable def z2b:FS:=(wS (zh qg (za (zd 0) zn)))
noncomputable def z3I:FS:=(zL z2b (z3K uh))
noncomputable def uj:Mir:=z5w ["lot"] 1 z3I
@[simp] noncomputable def xh:FS:=(ve 1 (zc0 (zd 0) (zh yT (za (zd 0) zn))))
@[simp] noncomputable def xj:FS:=(wc (jY (za (zd 1) (za (eOp xZ (eOp xZ (eSl (zd 0) zQ (xK (zd 1))) (jY (za (eC (.int 0)) zn))) (eSl (zd 0) (xK (eOp xZ (zd 1) (eC (.int 1)))) zQ)) zn))))
noncomputable def xB:FS:=(zL xh xj)
noncomputable def zu:Mir:=Mof ["lot","at"] 1 xB
@[simp] noncomputable def uW:FS:=(wc (zc0 (zd 0) (zh z3f (za (xl (wZ (zd 0)) [none] (qZ 0) (tOf (eOp dNe (zd 0) (eC (.int 0)))) (zd 0)) zn))))
noncomputable def qm:FS:=uW
noncomputable def yf:Mir:=Mof ["lot"] 1 qm
@[simp] noncomputable def z1a:FS:=(wc (xl (z5U (za (zh qI (za (zd 0) zn)) zn)) [some 1,none] (qZ 1) (tOf (eOp dNe (zd 1) (zd 0))) (zd 1)))
noncomputable def z2w:FS:=z1a
noncomputable def xY:Mir:=Mof ["lot","place"] 2 z2w
@[simp] noncomputable def z6r:FS:=(wc (zfL (eIs "str" (zd 0)) (zaQ jE false (zd 0))))
noncomputable def z2y:FS:=z6r
noncomputable def uJ:Mir:=Mof ["thing"] 1 z2y
@[simp] noncomputable def z4W:FS:=(wc (eIf (tOf (eOp dEq (zd 0) (eC (.str "turn")))) (eOp xZ (eSl (zd 1) (xK (eC (.int 1))) zQ) (eSl (zd 1) zQ (xK (eC (.int 1))))) (zd 1)))
noncomputable def z80:FS:=z4W
noncomputable def kc:Mir:=Mof ["rule","numbers"] 2 z80
@[simp] noncomputable def z6D:FS:=(zh2 (zh zu (za (zd 0) zn)) (qU 1 2))
@[simp] noncomputable def z1K:FS:=(wc (jY (za (zc0 (zd 2) (zh yT (za (zd 2) zn))) (za (z4o (za (zd 1) zn)) zn))))
noncomputable def z2C:FS:=(zL z6D z1K)
noncomputable def wM:Mir:=Mof ["lot","greatest","others"] 1 z2C
@[simp] noncomputable def z4B:FS:=(zh2 (zh zu (za (zd 0) zn)) (qU 1 2))
@[simp] noncomputable def z55:FS:=(wc (jY (za (zh yf (za (zd 2) zn)) (za (z4o (za (zd 1) zn)) zn))))
noncomputable def z1x:FS:=(zL z4B z55)
noncomputable def xH:Mir:=Mof ["lot","greatest","others"] 1 z1x
@[simp] noncomputable def z8E:FS:=(ve 1 (zh yf (za (zd 0) zn)))
@[simp] noncomputable def z8A:FS:=(wc (jY (za (zd 1) (za (zh xY (za (zd 0) (za (zd 1) zn))) zn))))
noncomputable def z5q:FS:=(zL z8E z8A)
noncomputable def uc:Mir:=Mof ["lot","by"] 1 z5q
@[simp] noncomputable def z68:FS:=(wc (jY (za (eC (.int 0)) (za (z4o zn) zn))))
@[simp] noncomputable def z67:FS:=(fIf (tOf (eOp dEq (eOp dIx (zd 0) (eC (.int 0))) (eC (.int 0)))) z68 xf)
@[simp] noncomputable def z6H:FS:=(wc (jY (za (eC (.int 0)) (za (zh xY (za (zd 0) (za (eC (.int 0)) zn))) zn))))
noncomputable def z2O:FS:=(zL z67 z6H)
noncomputable def wN:Mir:=Mof ["lot"] 1 z2O
@[simp] noncomputable def z3M:FS:=fNo
@[simp] noncomputable def z3P:FS:=(fIf (z0F (tOf (zh uJ (za (zd 0) zn)))) z3M xf)
noncomputable def kZ:FS:=z3P
noncomputable def yI:Mir:=Mof ["thing"] 1 kZ
@[simp] noncomputable def z2e:FS:=(fIf (z0F (tOf (zh uJ (za (zd 0) zn)))) (z2L "NoRule") xf)
noncomputable def z47:FS:=z2e
noncomputable def qV:Mir:=z5w ["thing"] 1 z47
@[simp] noncomputable def z5n:FS:=(ve 2 (zkT jE (zd 0)))
@[simp] noncomputable def kT:FS:=(zh2 (z7u 2 [("by_next",wM),("by_least",xH),("by_all",uc),("by_turn",wN)] (za (zd 1) zn)) (qU 3 4))
@[simp] noncomputable def z07:FS:=(wc (jY (za (zd 3) (za (xl (z5U (za (zh qI (za (zd 1) zn)) zn)) [some 4,some 1,some 3,none] (qZ 3) z0u (eIf (tOf (eOp (zeY false) (zd 3) (zd 0))) (eOp z6f (eOp dIx (zd 1) (zd 3)) (eOp dIx (zd 1) (zd 2))) (eC (.int 0)))) zn))))
noncomputable def z20:FS:=(zL z5n (zL kT z07))
noncomputable def xO:Mir:=Mof ["rule","lot","deal","by","divided"] 2 z20
@[simp] noncomputable def uC:FS:=(wS (zh yI (za (zd 0) zn)))
@[simp] noncomputable def uM:FS:=(wS (zh yM (za (zd 1) zn)))
noncomputable def wj:FS:=(zL uC uM)
noncomputable def zw:Mir:=Mof ["rule","lot"] 2 wj
@[simp] noncomputable def ux:FS:=(wS (zh qV (za (zd 0) zn)))
@[simp] noncomputable def uA:FS:=(wS (zh qg (za (zd 1) zn)))
noncomputable def uZ:FS:=(zL ux uA)
noncomputable def zY:Mir:=z5w ["rule","lot"] 2 uZ
@[simp] noncomputable def z4a:FS:=(wS (zh zw (za (zd 0) (za (zd 1) zn))))
@[simp] noncomputable def z3m:FS:=fNo
@[simp] noncomputable def z3V:FS:=(fIf (tOf (zh zP (za (zd 1) zn))) z3m xf)
noncomputable def z0a:FS:=(zL z4a z3V)
noncomputable def yZ:Mir:=Mof ["rule","lot"] 2 z0a
@[simp] noncomputable def z2a:FS:=(wS (zh zY (za (zd 0) (za (zd 1) zn))))
@[simp] noncomputable def z2h:FS:=(fIf (tOf (zh uj (za (zd 1) zn))) (z2L "Ended") xf)
noncomputable def z3O:FS:=(zL z2a z2h)
noncomputable def qY:Mir:=z5w ["rule","lot"] 2 z3O
@[simp] noncomputable def zca:FS:=(wS (zh yZ (za (zd 0) (za (zd 1) zn))))
@[simp] noncomputable def zce:FS:=(zh2 (zh xO (za (zd 0) (za (zd 1) zn))) (qU 2 3))
@[simp] noncomputable def z81:FS:=(ve 4 (zh z1r (za (xl (zj6 (za (zd 1) (za (zd 3) zn))) [some 1,some 2,none,none] (qU 2 3) z0u (eOp z8d (zd 2) (eOp uH (zd 3) (eOp dIx (zd 0) (zd 1))))) zn)))
@[simp] noncomputable def z3N:FS:=(wc (zh kc (za (zd 0) (za (zd 4) zn))))
noncomputable def zaG:FS:=(zL zca (zL zce (zL z81 z3N)))
noncomputable def M_step:Mir:=Mof ["rule","lot","by","quotients","left"] 2 zaG
@[simp] noncomputable def zaH:FS:=(wS (zh qY (za (zd 0) (za (zd 1) zn))))
@[simp] noncomputable def z9q:FS:=(zh2 (zh xO (za (zd 0) (za (zd 1) zn))) (qU 2 3))
@[simp] noncomputable def za8:FS:=(ve 4 (zh z1r (za (xl (zj6 (za (zd 1) (za (zd 3) zn))) [some 1,some 2,none,none] (qU 2 3) z0u (eOp z8d (zd 2) (eOp uH (zd 3) (eOp dIx (zd 0) (zd 1))))) zn)))
noncomputable def zdD:FS:=(zL zaH (zL z9q (zL za8 (z3K z3N))))
noncomputable def X_step:Mir:=z5w ["rule","lot","by","quotients","left"] 2 zdD
@[simp] noncomputable def zeW:FS:=(wS (zh zw (za (zd 0) (za (zd 1) zn))))
@[simp] noncomputable def zaV:FS:=(ve 2 (zg7 (za (zd 1) zn)))
@[simp] noncomputable def z3n:FS:=(wS (zix (zd 2) (zh M_step (za (zd 0) (za (eOp dIx (zd 2) (z49 (eC (.int 1)))) zn)))))
@[simp] noncomputable def zg1:FS:=(z2S (z0F (tOf (zh zP (za (eOp dIx (zd 2) (z49 (eC (.int 1)))) zn)))) z3n)
@[simp] noncomputable def zeR:FS:=(wc (zd 2))
noncomputable def zep:FS:=(zL zeW (zL zaV (zL zg1 zeR)))
noncomputable def M_run:Mir:=Mof ["rule","lot","lots"] 2 zep
@[simp] noncomputable def wb:FS:=(ve 3 zic)
@[simp] noncomputable def yt:FS:=(ve 5 (zg7 (za (zd 4) zn)))
@[simp] noncomputable def yU:FS:=(wS (zix (zd 5) (zh M_step (za (zd 0) (za (eOp dIx (zd 5) (z49 (eC (.int 1)))) zn)))))
@[simp] noncomputable def yw:FS:=(z2S (zft (tOf (eOp (zh8 true) (eOp dIx (zd 5) (z49 (eC (.int 1)))) (zd 3))) (z0F (tOf (zh zP (za (eOp dIx (zd 5) (z49 (eC (.int 1)))) zn))))) yU)
@[simp] noncomputable def yu:FS:=(ve 6 (z7e (zd 3) (eOp dIx (zd 5) (z49 (eC (.int 1)))) (eC (.int 0))))
@[simp] noncomputable def yz:FS:=(zbf (zd 3) (zd 7) (zd 6))
@[simp] noncomputable def wf:FS:=(zho 6 (eC (.int 1)))
@[simp] noncomputable def yW:FS:=(z9X (wZ (zaW (zd 5))) (qZ 7) (zL yz wf))
@[simp] noncomputable def yV:FS:=(z9X (wZ (eSl (zh yc (za (zd 1) (za (eC (.int 0)) (za (zd 2) zn)))) (xK (eC (.int 1))) zQ)) (qZ 4) (zL yt (zL yw (zL yu yW))))
@[simp] noncomputable def ke:FS:=(wc (zd 3))
noncomputable def qf:FS:=(zL wb (zL yV ke))
noncomputable def yB:Mir:=Mof ["rule","size","most","steps","lot","path","many","behind"] 3 qf
@[simp] noncomputable def qE:FS:=(wc (eOp z8d (zh qI (za (z27 (zh M_run (za (zd 0) (za (zd 1) zn)))) zn)) (eC (.int 1))))
noncomputable def js:FS:=qE
noncomputable def vk:Mir:=Mof ["rule","lot"] 2 js
@[simp] noncomputable def qc:FS:=(wc (jR (z5U (za (zh qI (za (zd 0) zn)) zn)) [some 0,some 1,none,none] 2 3 (z65 (za (eOp xZ (eOp dIx (zd 0) (zd 2)) (eC (.int 1))) (za (eOp xZ (zd 1) (eC (.int 1))) zn))) (eOp xZ (eOp xZ (eSl (zd 0) zQ (xK (zd 2))) (jY (za (zd 3) zn))) (eSl (zd 0) (xK (eOp xZ (zd 2) (eC (.int 1)))) zQ))))
noncomputable def qu:FS:=qc
noncomputable def xp:Mir:=Mof ["lot","most"] 2 qu
@[simp] noncomputable def wX:FS:=(wc (eIf (tOf (eOp dLt (zd 0) (zd 1))) (zjM (za (zd 0) (za (eOp xZ (zd 2) (eC (.int 1))) (za (zd 1) zn)))) (z4o zn)))
noncomputable def vm:FS:=wX
noncomputable def yN:Mir:=Mof ["left","divider","most"] 3 vm
@[simp] noncomputable def jJ:FS:=(wc (z4o (za (zd 0) zn)))
@[simp] noncomputable def vU:FS:=(fIf (tOf (eOp dEq (eOp dIx (zd 0) (zd 1)) (eC (.int 0)))) jJ xf)
@[simp] noncomputable def jA:FS:=(ve 3 (z4o (za (jY zn) zn)))
@[simp] noncomputable def wA:FS:=(ve 6 (eIf (tOf (eOp dEq (zd 4) (zd 1))) (z4o (za (zd 5) zn)) (zh yN (za (zd 5) (za (eOp dIx (zd 0) (zd 1)) (za (zd 2) zn))))))
@[simp] noncomputable def wz:FS:=(ve 3 (jR (wZ (zd 3)) [some 6,none,none] 1 2 (wZ (zd 0)) (eOp xZ (zd 1) (jY (za (zd 2) zn)))))
@[simp] noncomputable def jz:FS:=(z9X (zcd (za (zd 0) zn)) (qU 4 5) (zL wA wz))
@[simp] noncomputable def z4b:FS:=(wc (zd 3))
noncomputable def kJ:FS:=(zL vU (zL jA (zL jz z4b)))
noncomputable def wV:Mir:=Mof ["lot","by","most","found","at","number","numbers"] 3 kJ
@[simp] noncomputable def uQ:FS:=(wc (zh wV (za (eOp xZ (eSl (zd 1) (xK (z49 (eC (.int 1)))) zQ) (eSl (zd 1) zQ (xK (z49 (eC (.int 1)))))) (za (eC (.int 0)) (za (zd 2) zn)))))
@[simp] noncomputable def wE:FS:=(fIf (tOf (eOp dEq (zd 0) (eC (.str "turn")))) uQ xf)
@[simp] noncomputable def qa:FS:=(wc (zh wV (za (zd 1) (za (zc0 (zd 1) (zh yT (za (zd 1) zn))) (za (zd 2) zn)))))
@[simp] noncomputable def wQ:FS:=(fIf (tOf (eOp dEq (zd 0) (eC (.str "all")))) qa xf)
@[simp] noncomputable def uB:FS:=(wc (zh xp (za (zd 1) (za (zd 2) zn))))
noncomputable def qq:FS:=(zL wE (zL wQ uB))
noncomputable def wx:Mir:=Mof ["rule","lot","most"] 3 qq
@[simp] noncomputable def jk:FS:=(wc (zfL (zjS (zh uj (za (zd 1) zn))) (eOp dEq (zh X_step (za (zd 0) (za (zd 1) zn))) (zd 2))))
noncomputable def z06:FS:=jk
noncomputable def vM:Mir:=z5w ["rule","ahead","lot"] 3 z06
@[simp] noncomputable def z1f:FS:=(ve 3 (zg7 zn))
@[simp] noncomputable def z1I:FS:=(wS (zix (zd 3) (zd 4)))
@[simp] noncomputable def qK:FS:=(wS (zh yI (za (zd 0) zn)))
@[simp] noncomputable def qr:FS:=(wS (zh wI (za (zd 1) (za (eC (.int 3)) zn))))
@[simp] noncomputable def qp:FS:=(wS (zh yO (za (zd 2) (za (eC (.int 0)) (za (eC (.int 12)) zn)))))
@[simp] noncomputable def qF:FS:=(ve 3 (zh yB (za (zd 0) (za (zd 1) (za (eC (.int 16)) zn)))))
@[simp] noncomputable def xP:FS:=(ve 4 (xl (z8Z (zd 3)) [some 2,some 3,none] (qZ 2) (tOf (eOp dEq (zbL (zd 1) (zd 2)) (zd 0))) (jY (za (zh yT (za (zd 2) zn)) (za (zd 2) zn)))))
@[simp] noncomputable def vB:FS:=(wc (eIf (zkP (zd 4)) (eOp dIx (zh z9p (za (zd 4) zn)) (eC (.int 1))) (eC .non)))
noncomputable def jN:FS:=(zL qK (zL qr (zL qp (zL qF (zL xP vB)))))
noncomputable def xU:Mir:=Mof ["rule","size","steps","many","found"] 3 jN
@[simp] noncomputable def z0i:FS:=(wc (eOp dIx (zd 0) (zd 1)))
@[simp] noncomputable def z0o:FS:=(fIf (tOf (eOp dLt (zd 1) (zh qI (za (zd 0) zn)))) z0i xf)
@[simp] noncomputable def z0k:FS:=(wc (eC (.int 0)))
noncomputable def wK:FS:=(zL z0o z0k)
noncomputable def yR:Mir:=Mof ["_law_script","_law_k"] 2 wK
@[simp] noncomputable def z5f:FS:=(wc (zg7 (za (eOp z8d (zd 0) (eOp z7F (eC (.int 10)) (eC (.int 18)))) zn)))
@[simp] noncomputable def z5o:FS:=(fIf (tOf (eOp dGe (zd 0) (eOp z7F (eC (.int 10)) (eC (.int 18))))) z5f xf)
@[simp] noncomputable def z5y:FS:=(ve 1 (eC (.int 0)))
@[simp] noncomputable def kQ:FS:=(ve 3 (eOp zau (eOp uH (eOp xZ (eOp xZ (eOp zau (zd 0) (eC (.int 2147483629))) (eOp uH (eC (.int 7919)) (zd 2))) (eC (.int 1))) (eC (.int 48271))) (eC (.int 2147483647))))
@[simp] noncomputable def kI:FS:=(ve 3 (eOp zau (eOp xZ (eOp xZ (eOp uH (zd 3) (zd 3)) (eOp uH (eC (.int 69621)) (zd 2))) (eC (.int 7))) (eC (.int 2147483587))))
@[simp] noncomputable def kW:FS:=(ve 1 (eOp xZ (eOp uH (zd 1) (eC (.int 2147483587))) (zd 3)))
@[simp] noncomputable def kP:FS:=(z9X (z5U (za (eC (.int 64)) zn)) (qZ 2) (zL kQ (zL kI kW)))
@[simp] noncomputable def z5l:FS:=(wc (zg7 (za (zd 1) zn)))
noncomputable def qS:FS:=(zL z5o (zL z5y (zL kP z5l)))
noncomputable def vJ:Mir:=Mof ["_law_cell","_law_number","_law_j","_law_more"] 1 qS
@[simp] noncomputable def kg:FS:=(wc (z4o (za (eC (.str "next")) (za (eC (.str "least")) (za (eC (.str "all")) (za (eC (.str "turn")) zn))))))
noncomputable def z0s:FS:=kg
noncomputable def yJ:Mir:=Mof [] 0 z0s
@[simp] noncomputable def z4c:FS:=(ve 2 (eOp zau (eOp dIx (zd 0) (eC (.int 0))) (zd 1)))
@[simp] noncomputable def z3e:FS:=(z6p (zd 0) (eC (.int 0)) (eOp z6f (eOp dIx (zd 0) (eC (.int 0))) (zd 1)))
@[simp] noncomputable def z3g:FS:=(wc (zd 2))
noncomputable def kY:FS:=(zL z4c (zL z3e z3g))
noncomputable def zF:Mir:=Mof ["_law_pot_here","_law_far","_law_found"] 2 kY
@[simp] noncomputable def wY:FS:=(ve 3 (zh z6L (za (eOp xZ (zd 2) (eC (.int 1))) (za (eOp dIx (z4o (za (eC (.int 4)) (za (eC (.int 31)) (za (eC (.int 1001)) (za (eOp z7F (eC (.int 10)) (eC (.int 15))) (za (eOp z7F (eC (.int 10)) (eC (.int 39))) zn)))))) (zh zF (za (zd 0) (za (eC (.int 5)) zn)))) zn))))
@[simp] noncomputable def wU:FS:=(ve 4 (z2F (z5U (za (zd 1) zn)) [some 0,some 3,none] (qZ 2) z0u (zh zF (za (zd 0) (za (zd 1) zn)))))
@[simp] noncomputable def wR:FS:=(ve 5 (zh zF (za (zd 0) (za (eC (.int 6)) zn))))
@[simp] noncomputable def wT:FS:=(zjQ 6 7 (za (zh zF (za (zd 0) (za (zd 1) zn))) (za (zh zF (za (zd 0) (za (zd 1) zn))) zn)))
@[simp] noncomputable def qd:FS:=(z6p (zd 4) (zd 6) (eC (.int 0)))
@[simp] noncomputable def xn:FS:=(fIf (tOf (eOp dEq (zd 5) (eC (.int 0)))) qd xf)
@[simp] noncomputable def uO:FS:=(z6p (zd 4) (zd 6) (eOp dIx (zd 4) (zd 7)))
@[simp] noncomputable def xk:FS:=(fIf (tOf (eOp dEq (zd 5) (eC (.int 1)))) uO xf)
@[simp] noncomputable def ut:FS:=(z6p (zd 4) (zd 7) (eOp xZ (eC (.int 1)) (zh zF (za (zd 0) (za (eOp z8d (zd 3) (eC (.int 1))) zn)))))
@[simp] noncomputable def xz:FS:=(fIf (tOf (eOp dEq (zh yT (za (zd 4) zn)) (eC (.int 0)))) ut xf)
@[simp] noncomputable def uw:FS:=(wc (zh z1r (za (zd 4) zn)))
noncomputable def qt:FS:=(zL wY (zL wU (zL wR (zL wT (zL xn (zL xk (zL xz uw)))))))
noncomputable def wy:Mir:=z8P (Mof ["_law_pot_here","_law_size","_law_most","_law_far","_law_found","_law_way","_law_at","_law_to"] 3 qt)
end Pg
set_option maxRecDepth 1000000
set_option maxHeartbeats 4000000
namespace Pm
abbrev Tb:=List (List Int)
end Pm
set_option maxRecDepth 1000000
set_option maxHeartbeats 40000000
set_option maxRecDepth 1000000
set_option maxHeartbeats 40000000
namespace Pm
abbrev Sz(n:Nat):Prop:=n=2\/n=3\/n=4
open L2 (maxL minL maxL_ge maxL_mem minL_le minL_mem)
inductive Rl where | nx | le | al | tu deriving DecidableEq
structure Lot(n:Nat)(v:List Int):Prop where
 sz:Sz n
 len:v.length=n
 nn:∀x∈v,0<=x
 pos:∃x∈v,0<x
noncomputable def nz(v:List Int):List Int:=v.filter λx=>decide (x≠0)
noncomputable def ended(v:List Int):Bool:=decide ((nz v).length=1)
noncomputable def gp(v:List Int):Nat:=v.idxOf (maxL v)
noncomputable def others(v:List Int):List Int:=v.take (gp v)++[0]++v.drop (gp v+1)
noncomputable def lp(v:List Int):Nat:=v.idxOf (minL (nz v))
noncomputable def xi(v:List Int)(p:Nat):List Nat:=(List.range v.length).filter λi=>decide (i≠p)
def deal:Rl->List Int->Nat×List Nat
 | .nx,v=>((others v).idxOf (maxL (others v)),[gp v]) | .le,v=>(lp (others v),[gp v]) | .al,v=>(lp v,xi v (lp v)) | .tu,v=>(0,if v.getD 0 0=0 then [] else xi v 0)
noncomputable def zV(v:List Int)(d:Nat×List Nat):List Int:=(List.range v.length).map λi=>if i∈d.2 then v.getD i 0 / v.getD d.1 0 else 0
def rot{α:Type}(xs:List α):List α:=xs.drop 1++xs.take 1
noncomputable def mvd  (r:Rl)(xs:List α):List α:=if r=.tu then rot xs else xs
noncomputable def left(v qs:List Int)(b:Nat):List Int:=List.zipWith (λx q=>x-q*v.getD b 0) v qs
noncomputable def stp(r:Rl)(v:List Int):List Int:=mvd r (left v (zV v (deal r v)) (deal r v).1)
theorem zaL   {xs:List α}:x∈rot xs ↔ x∈xs:=by cases xs with
 | nil=>simp[rot] | cons a xs=>simp[rot,or_comm]
theorem z6g   {xs:List α}  : x∈mvd l xs ↔ x∈xs:=by
 unfold mvd;split;·exact zaL
 ·rfl
theorem zf8  (xs:List α):(rot xs).length=xs.length:=by cases xs<;>simp[rot]
theorem zgV   (xs:List α):(mvd l xs).length=xs.length:=by
 unfold mvd;split;·exact zf8 xs
 ·rfl
structure Qs(v:List Int)(b:Nat)(qs:List Int):Prop where
 lt:b<v.length
 len:qs.length=v.length
 zero:qs[b]? = some 0
 nn:∀q∈qs,0<=q
 fit:∀i,0<=v.getD i 0-qs.getD i 0*v.getD b 0
 pos:(∀q∈qs,q=0)\/0<v.getD b 0
theorem zdd{α:Type}{v:List α}  (h:b<v.length):∃v1 z v2,v=v1++z::v2/\v1.length=b:= ⟨v.take b,v[b],v.drop (b+1),by rw[<- _aw h,_aO],by simp;lia⟩
theorem getD_at{α:Type}{v1 v2:List α}{z d:α}  (h:v1.length=b):(v1++z::v2).getD b d=z:=by
 subst h;simp[List.getD]
theorem ww   (h:qs.length=v.length):(left v qs b).length=v.length:=by simp[left,h]
theorem zfC   (h:Qs v b qs):∀x∈left v qs b,0<=x:=λx hx=>by
 obtain⟨i,hi,e⟩:=_D.mp hx;have:=h.fit i;have hl:=ww (b:=b) h.len;have h1:i<v.length:=by lia
 simp only[List.getD,_e h1,_e (by rw[h.len];exact h1),_cC]at this;rw[<- e];simpa[left,List.getD] using this
theorem z9l  (xs:List α):mvd .tu xs=rot xs:=by rfl
theorem z7D   (h:r≠.tu)(xs:List α):mvd r xs=xs:=by simp[mvd,h]
theorem ji   : x∈nz v ↔ x∈v/\x≠0:=by simp[nz]
theorem getD_mem{v:List Int}  (h:i<v.length):v.getD i 0∈v:=by simp[_e h]
theorem xG{v:List Int}(h:∀x∈v,0<=x)(i:Nat):0<=v.getD i 0:=by
 by_cases hi:i<v.length;·exact h _ (getD_mem hi)
 ·simp[_a3 (_dS.mp hi)]
theorem z1g{v:List Int}  (h:x∈v):v.idxOf x<v.length/\v.getD (v.idxOf x) 0=x:=by
 have hl:=List.idxOf_lt_length_of_mem h;exact⟨hl,by simp[_e hl,List.getElem_idxOf hl]⟩
theorem Lot.ne   (h:Lot n v):v≠[]:=λz=>by
 obtain⟨x,hx,_⟩:=h.pos;rw[z]at hx;simp at hx
theorem Lot.nzne   (h:Lot n v):nz v≠[]:=λz=>by
 obtain⟨x,hx,h0⟩:=h.pos;have  := ji.mpr ⟨hx,by lia⟩;rw[z]at this;simp at this
theorem z8r  (h:nz v≠[]):lp v<v.length/\v.getD (lp v) 0=minL (nz v)/\minL (nz v)≠0:=by
 have m:=ji.mp (minL_mem h);have:=z1g m.1;exact⟨this.1,this.2,m.2⟩
theorem z6e  (h:v≠[]):gp v<v.length/\v.getD (gp v) 0=maxL v:=z1g (maxL_mem h)
theorem others_eq  (h:v≠[]):others v=v.set (gp v) 0:=by
 unfold others;rw[_cd,_g ((z6e h).1)];simp
theorem qX  (h:v≠[])(i:Nat):(others v).getD i 0=if i=gp v then 0 else v.getD i 0:=by
 rw[others_eq h];by_cases e:i=gp v
 ·subst e;simp[((z6e h).1)]
 ·simp[e,_Q (_ba e)]
theorem wD  (h:v≠[]):(others v).length=v.length:=by rw[others_eq h];simp
theorem zaN:∀{v:List Int}{p:Nat},(nz v).length≠1->v.getD p 0≠0->∃j,j≠p/\j<v.length/\v.getD j 0≠0:=by
 intro v p he hp;apply _T;intro hn;apply he;obtain⟨v1,z,v2,rfl,e1⟩:=zdd (show p<v.length from by
  apply _T;exact λz=>hp (by simp[_a3 (_dS.mp z)]));rw[getD_at e1]at hp;have g2:v2.filter (λx=>decide (x≠0))=[]:=_cl.mpr λx hx=>by simp[(λx hx=>by
  obtain⟨j,hj,rfl⟩:=_D.mp hx;apply _T;refine λz0=>hn ⟨v1.length+1+j,by lia,by simp;lia,?_⟩;rw[List.getD,(show (v1++z::v2)[v1.length+1+j]? = some v2[j] from by rw[_ah (by lia),show v1.length+1+j-v1.length=j+1 by lia,_p,_e hj])];simpa using z0:∀x∈v2,x=0) x hx]
 simp only[nz,List.filter_append,List.filter_cons,(_cl.mpr λx hx=>by simp[(λx hx=>by
  obtain⟨j,hj,rfl⟩:=_D.mp hx;apply _T;intro z0;exact hn ⟨j,by lia,by simp;lia,by simpa[_u hj,_e hj] using z0⟩:∀x∈v1,x=0) x hx]:v1.filter (λx=>decide (x≠0))=[]),g2];simp[hp]
theorem z33  (he:ended v=false):(nz v).length≠1:=by simpa[ended] using he
structure Dl(v:List Int)(b:Nat)(dv:List Nat):Prop where
 lt:b<v.length
 nb:b∉dv
 pos:dv=[]\/0<v.getD b 0
theorem yP   : i∈xi v p ↔ i<v.length/\i≠p:=by simp[xi]
theorem z9r   (h:Lot n v)  (hb:b<v.length)(h0:(others v).getD b 0≠0):Dl v b [gp v]/\0<v.getD b 0/\v.getD b 0<=v.getD (gp v) 0:=by
 rw[qX h.ne]at h0;have p0:0<v.getD b 0:=by have:=xG h.nn b;lia
 refine⟨⟨hb,by simpa using (λe=>by rw[_g e]at h0;exact h0 rfl),.inr p0⟩,p0,?_⟩;rw[(z6e h.ne).2];exact maxL_ge _ (getD_mem hb)
theorem z10   (h:Lot n v)(he:ended v=false):nz (others v)≠[]:=by
 have mx:0<maxL v:=by
  obtain⟨x,hx,h0⟩:=h.pos;have:=maxL_ge  x hx;lia
 obtain⟨j,h1,h2,h3⟩:=zaN  (z33 he) (by rw[(z6e h.ne).2];lia);intro z;have  := ji.mpr ⟨by
  have:=getD_mem   (by rw[wD h.ne];exact h2);rw[qX h.ne,_l h1]at this;exact this,h3⟩;rw[z]at this;simp at this
theorem qN   (r:Rl)(h:Lot n v)(he:ended v=false):Dl v (deal r v).1 (deal r v).2:=by cases r with
 | nx=>
  have a:=z1g (maxL_mem (λz=>by
   have:=wD h.ne;rw[z]at this;exact h.ne (_aY.mp this.symm):others v≠[]));refine (z9r h (by rw[<- wD h.ne];exact a.1) ?_).1;show (others v).getD ((others v).idxOf (maxL (others v))) 0≠0;have m:=ji.mp (minL_mem (z10 h he));have m1:=maxL_ge _ m.1;have m2:0<=minL (nz (others v)):=by
   obtain⟨i,hi,e⟩:=_D.mp m.1;have:=qX h.ne i;rw[(show (others v).getD i 0=minL (nz (others v)) from by simp[_e hi,e])]at this;rw[this];split;·lia
   ·exact xG h.nn i
  lia | le=>
  have a:=z8r (z10 h he);refine (z9r h (by rw[<- wD h.ne];exact a.1) ?_).1;show (others v).getD (lp (others v)) 0≠0;rw[a.2.1];exact a.2.2 | al=>
  have a:=z8r h.nzne;refine⟨a.1,by simp[deal,yP],.inr ?_⟩;show 0<v.getD (lp v) 0;have:=xG h.nn (lp v);lia | tu=>
  refine⟨(show 0<v.length from by have:=h.sz;rw[h.len];lia),?_,?_⟩
  ·show 0∉(if v.getD 0 0=0 then [] else xi v 0);split<;>simp[yP]
  ·show (if v.getD 0 0=0 then [] else xi v 0)=[]\/0<v.getD 0 0;split;·exact .inl rfl
   ·have:=xG h.nn 0;exact .inr (by lia)
theorem yH(v:List Int)(d:Nat×List Nat):(zV v d).length=v.length:=by simp[zV]
theorem z8D(v:List Int)(d:Nat×List Nat)(i:Nat):(zV v d).getD i 0=if i<v.length/\i∈d.2 then v.getD i 0 / v.getD d.1 0 else 0:=by
 unfold zV;by_cases hi:i<v.length;·simp[hi]
 ·simp[hi]
theorem vZ   (i:Nat):v.getD i 0-(zV v d).getD i 0*v.getD d.1 0=if i<v.length/\i∈d.2 then v.getD i 0 % v.getD d.1 0 else v.getD i 0:=by
 rw[z8D];split
 ·have:=_bF (v.getD i 0) (v.getD d.1 0);have e:=_dT (v.getD i 0 / v.getD d.1 0) (v.getD d.1 0);lia
 ·lia
theorem zgk   (hv:∀x∈v,0<=x)(h:Dl v d.1 d.2):Qs v d.1 (zV v d):=by
 refine⟨h.lt,yH _ _,?_,λq hq=>?_,λi=>?_,?_⟩;·simp[zV,h.lt,h.nb]
 ·obtain⟨i,hi,rfl⟩:=_D.mp hq;simp only[zV,_cG,List.getElem_range];split;·exact _cV (xG hv _) (xG hv _)
  ·lia
 ·rw[vZ];split
  ·rename_i hi;rcases h.pos with z | z;·rw[z]at hi;simp at hi
   ·exact _bp _ (by lia)
  ·exact xG hv i
 ·rcases h.pos with z | z
  ·refine .inl λq hq=>?_;obtain⟨i,hi,rfl⟩:=_D.mp hq;simp[zV,z]
  ·exact .inr z
noncomputable def bl(n:Nat):Nat:=if n=0 then 0 else bl (n / 2)+1
termination_by n
decreasing_by lia
theorem z5S:bl 0=0:=by rw[bl];rfl
theorem z7g  (h:n≠0):bl n=bl (n / 2)+1:=by rw[bl,_l h]
theorem za7:∀(b a:Nat),a<=b->bl a<=bl b:=by
 intro b;induction b using Nat.strongRecOn with | ind b ih=>
  intro a h;by_cases h0:a=0;·subst h0;rw[z5S];lia
  ·rw[z7g h0,z7g (show b≠0 by lia)];have:=ih (b / 2) (by lia) (a / 2) (by lia);lia
theorem zg6  (h:2*a<b):bl a<bl b:=by
 rw[z7g (show b≠0 by lia)];have:=za7 (b / 2) a (by lia);lia
theorem zhm:∀(k n:Nat),n<2 ^ k->bl n<=k
 | 0,n,h=>by simp at h;subst h;rw[z5S];lia | k+1,n,h=>by
  by_cases h0:n=0;·subst h0;rw[z5S];lia
  ·rw[z7g h0];have:=zhm k (n / 2) (by lia);lia
noncomputable def wt(v:List Int):Nat:=(v.map λx=>bl x.toNat).sum
theorem zhA:∀{u v:List Int},u.length=v.length->(∀i,bl (u.getD i 0).toNat<=bl (v.getD i 0).toNat)->wt u<=wt v/\((∃i,bl (u.getD i 0).toNat<bl (v.getD i 0).toNat)->wt u<wt v)
 | [],[],_,_=>⟨by decide,λ⟨i,h⟩=>by simp at h⟩ | a::u,b::v,hl,h=>by
  have ih:=zhA   (by simpa using hl) λi=>by exact h (i+1)
  have h0:bl a.toNat<=bl b.toNat:=by exact h 0
  simp only[wt,_H,List.sum_cons]at ih ⊢;refine⟨by lia,λ⟨i,hi⟩=>?_⟩;cases i with
  | zero=>
   have:bl a.toNat<bl b.toNat:=by exact hi
   lia | succ i=>
   have:=ih.2 ⟨i,by exact hi⟩;lia
 | [],_::_,h,_=>by cases h | _::_,[],h,_=>by cases h
theorem vL   (h:qs.length=v.length)(i:Nat):(left v qs b).getD i 0=v.getD i 0-qs.getD i 0*v.getD b 0:=by
 unfold left;by_cases hi:i<v.length;·simp[List.getElem?_zipWith,_e hi,_e (show i<qs.length from by lia)]
 ·simp[List.getElem?_zipWith,_a3 (_dS.mp hi),_a3 (_dS.mp (show ¬ i<qs.length from by lia))]
theorem z3u{u v:List Int}(hl:u.length=v.length)(h:∀i,u.getD i 0=v.getD i 0):u=v:=by
 refine _cH hl λi h1 h2=>?_;simpa[_e h1,_e h2] using (h i)
theorem zds{a b:Int}(h0:0<b)(h:b<=a):2*(a % b)<a:=by
 have h1:=_bF a b;have h2:=_bl a h0;have h5:b*1<=b*(a / b):=Int.mul_le_mul_of_nonneg_left (by
  have:=Int.ediv_le_ediv h0 h;rwa [Int.ediv_self (by lia)]at this) (by lia);lia
theorem z9y{a b:Int}(ha:0<=a)(h0:0<b):a % b<=a:=by
 have h1:=_bF a b;have h3:0<=b*(a / b):=_da (by lia) (_cV ha (by lia));lia
theorem zgw   (hv:∀x∈v,0<=x)(h:Dl v d.1 d.2):wt (left v (zV v d) d.1)<=wt v/\((∃i,i<v.length/\i∈d.2/\v.getD d.1 0<=v.getD i 0)->wt (left v (zV v d) d.1)<wt v):=by
 have hl:=yH v d;have key:∀i,(left v (zV v d) d.1).getD i 0=if i<v.length/\i∈d.2 then v.getD i 0 % v.getD d.1 0 else v.getD i 0:=λi=>by rw[vL hl,vZ]
 have p:∀i,i<v.length/\i∈d.2->0<v.getD d.1 0:=λi hi=>by
  rcases h.pos with z | z;·rw[z]at hi;simp at hi
  ·exact z
 have w:=zhA   (ww hl) λi=>by
  rw[key];split
  ·rename_i hi;have:=z9y (xG hv i) (p i hi);exact za7 _ _ (by lia)
  ·exact _h _
 refine⟨w.1,λ⟨i,h1,h2,h3⟩=>w.2 ⟨i,?_⟩⟩;rw[key,_g ⟨h1,h2⟩];have h0:=p i ⟨h1,h2⟩;have:=zds h0 h3;exact zg6 (by lia)
theorem zeu(v:List Int):wt (rot v)=wt v:=by cases v with
 | nil=>rfl | cons a v=>simp[rot,wt];lia
theorem z8p  (h:∀x,x∈a ↔ x∈b)(ha:a≠[]):minL a=minL b:=by
 have h1:=minL_le  _ ((h _).mp (minL_mem ha));have h2:=minL_le  _ ((h _).mpr (minL_mem (λz=>by
  have:=(h _).mp (minL_mem ha);rw[z]at this;cases this)));lia
theorem zil  (h:nz v≠[])(h0:v.getD 0 0≠minL (nz v)):lp (rot v)<lp v:=by cases v with
 | nil=>exact absurd h (by decide) | cons a t=>
  have m:=(ji.mp (minL_mem h)).1;have ha:a≠minL (nz (a::t)):=by exact h0
  unfold lp;rw[((z8p (λx=>by rw[ji,ji,zaL]) h).symm)];generalize minL (nz (a::t))=m' at *;show List.idxOf m' (t++[a])<_;rw[List.idxOf_append,_g ((_n.mp m).resolve_left λz=>ha z.symm),List.idxOf_cons,show (a==m')=false from by simpa using ha];simp
noncomputable def mu(r:Rl)(v:List Int):Nat:=5*wt v+(if r=.tu then lp v else 0)
theorem Lot.step{n:Nat}{v:List Int}(r:Rl)(h:Lot n v)(he:ended v=false):Lot n (stp r v):=by
 have dl:=qN r h he;have q:=zgk h.nn dl;refine⟨h.sz,by rw[stp,zgV,ww q.len,h.len],λx hx=>zfC q x (z6g.mp hx),?_⟩;have fin:∀x∈left v (zV v (deal r v)) (deal r v).1,0<x->∃x∈stp r v,0<x:=λx hx h0=>⟨x,z6g.mpr hx,h0⟩;rcases dl.pos with z | z
 ·obtain⟨x,hx,h0⟩:=h.pos;refine fin x ?_ h0;rw[(z3u (ww q.len) λi=>by rw[vL q.len,vZ,z];simp)];exact hx
 ·refine fin (v.getD (deal r v).1 0) ?_ z;rw[<- (show (left v (zV v (deal r v)) (deal r v).1).getD (deal r v).1 0=v.getD (deal r v).1 0 from by rw[vL q.len,vZ,_l (λw=>dl.nb w.2)])];exact getD_mem (by rw[ww q.len];exact dl.lt)
theorem zhh   (h:Lot n v):lp v<4:=by
 have:=(z8r h.nzne).1;have:=h.len;have:=h.sz;lia
theorem z3h   (r:Rl)(h:Lot n v)(he:ended v=false):mu r (stp r v)<mu r v:=by
 have dl:=qN r h he;have w:=zgw h.nn dl;have mn:∀j,j<v.length->v.getD j 0≠0->minL (nz v)<=v.getD j 0:=λj hj h0=>minL_le _ (ji.mpr ⟨getD_mem hj,h0⟩);cases r with
 | nx=>
  have g:=z6e h.ne;have:wt (stp .nx v)<wt v:=by
   refine w.2 ⟨gp v,g.1,by simp[deal],?_⟩;rw[g.2];exact maxL_ge _ (getD_mem dl.lt)
  simp only[mu];rw[_l (by decide)];lia | le=>
  have g:=z6e h.ne;have:wt (stp .le v)<wt v:=by
   refine w.2 ⟨gp v,g.1,by simp[deal],?_⟩;rw[g.2];exact maxL_ge _ (getD_mem dl.lt)
  simp only[mu];rw[_l (by decide)];lia | al=>
  have l:=z8r h.nzne;obtain⟨j,h1,h2,h3⟩:=zaN  (z33 he) (by rw[l.2.1];exact l.2.2);have:wt (stp .al v)<wt v:=by
   refine w.2 ⟨j,h2,by simp[deal,yP,h1,h2],?_⟩;show v.getD (lp v) 0<=_;rw[l.2.1];exact mn j h2 h3
  simp only[mu];rw[_l (by decide)];lia | tu=>
  simp only[mu];rw[_g trivial];have l4:=zhh (h.step .tu he);have same:left v (zV v (deal .tu v)) (deal .tu v).1=v->v.getD 0 0≠minL (nz v)->5*wt (stp .tu v)+lp (stp .tu v)<5*wt v+lp v:=λe h0=>by
   have:=zil h.nzne h0;rw[(show stp .tu v=rot v from by rw[stp,z9l,e]),zeu];lia
  by_cases z:v.getD 0 0=0
  ·refine same (z3u (ww (yH _ _)) λi=>?_) λq=>((z8r h.nzne).2.2 (by rw[<- q,z]))
   ·rw[vL (yH _ _),vZ];rw[show (deal .tu v).2=[] from by show (if v.getD 0 0=0 then [] else xi v 0)=[];rw[_g z]];simp
  ·by_cases ex:∃i,i<v.length/\i≠0/\v.getD 0 0<=v.getD i 0
   ·obtain⟨i,h1,h2,h3⟩:=ex;have:wt (stp .tu v)<wt v:=by
     rw[stp,z9l,zeu];refine w.2 ⟨i,h1,?_,h3⟩;show i∈(if v.getD 0 0=0 then [] else xi v 0);rw[_l z];exact yP.mpr ⟨h1,h2⟩
    lia
   ·refine same (z3u (ww (yH _ _)) λi=>?_) λq=>?_
    ·rw[vL (yH _ _),vZ];split
     ·rename_i hi;have:¬ v.getD 0 0<=v.getD i 0:=λw=>ex ⟨i,hi.1,(by
       have:=hi.2;simp only[deal,_l z,yP]at this;exact this.2),w⟩;show v.getD i 0 % v.getD 0 0=_;exact Int.emod_eq_of_lt (xG h.nn i) (by lia)
     ·rfl
    ·obtain⟨j,h1,h2,h3⟩:=zaN  (z33 he) z;have:=mn j h2 h3;exact ex ⟨j,h2,h1,by lia⟩
inductive Run(r:Rl):List Int->List (List Int)->Prop | done {v:List Int}:ended v=true->Run r v [v] | step {v:List Int}{ls:List (List Int)}:ended v=false->Run r (stp r v) ls->Run r v (v::ls)
theorem zeC   : ∀(k:Nat)(v:List Int),Lot n v->mu r v<=k->∃ls,Run r v ls/\ls.length<=k+1
 | k,v,h,hk=>by cases he:ended v with
  | true=>exact⟨[v],.done he,by simp⟩ | false=>
   have lt:=z3h r h he;match k,hk with
   | 0,hk=>lia | k+1,hk=>
    obtain⟨ls,h1,h2⟩:=zeC (r:=r) k (stp r v) (h.step r he) (by lia);exact⟨v::ls,.step he h1,by simp;lia⟩
theorem ziM  : ∀{v:List Int},(∀x∈v,x.toNat<2 ^ m)->wt v<=v.length*m
 | [],_=>by simp[wt] | a::v,h=>by
  have ih:=ziM (v:=v) λx hx=>h x (by simp[hx]);have:=zhm m a.toNat (h a (by simp));simp only[wt,_H,List.sum_cons,_w,Nat.succ_mul]at ih ⊢;lia
theorem zhe    (h:Lot n v)(hb:∀x∈v,x.toNat<2 ^ m):mu r v<=20*m+3:=by
 have w:=ziM hb;have l:=zhh h;have:v.length*m<=4*m:=Nat.mul_le_mul_right m (by have:=h.len;have:=h.sz;lia);unfold mu;split<;>lia
theorem z84    (r:Rl)(h:Lot n v)(he:ended v=false)(hb:∀y∈v,y<=B):∀y∈stp r v,y<=B:=λy hy=>by
 have dl:=qN r h he;have q:=zgk h.nn dl;obtain⟨i,hi,rfl⟩:=_D.mp (z6g.mp hy);have b:=hb _ (getD_mem (by rw[<- ww  q.len];exact hi));rw[(show (left v (zV v (deal r v)) (deal r v).1)[i]=(left v (zV v (deal r v)) (deal r v).1).getD i 0 from by simp[_e hi]),vL q.len,vZ];split
 ·rename_i w;rcases dl.pos with z | z;·rw[z]at w;simp at w
  ·have:=z9y (xG h.nn i) z;lia
 ·exact b
open Dd (lexN)
theorem z0v:∀a:List Int,lexN a a=false
 | []=>rfl | x::a=>by simp[lexN,z0v a]
theorem z83:∀{a b:List Int},a≠b->lexN b a=!lexN a b
 | [],[],h=>absurd rfl h | [],_::_,_=>rfl | _::_,[],_=>rfl | x::a,y::b,h=>by
  by_cases e:x=y
  ·subst e;simp only[lexN,_K];exact z83 (λz=>h (by rw[z]))
  ·have e':¬ y=x:=λz=>e z.symm;simp only[lexN,e,e',_M];by_cases l:x<y;·simp[l];lia
   ·simp[l];lia
theorem za1:∀{a b c:List Int},lexN a b=true->lexN b c=true->lexN a c=true
 | [],[],_,h,_=>by simp[lexN]at h | [],_::_,[],_,h=>by simp[lexN]at h | [],_::_,_::_,_,_=>rfl | _::_,[],_,h,_=>by simp[lexN]at h | _::_,_::_,[],_,h=>by simp[lexN]at h | x::a,y::b,z::c,h1,h2=>by
  simp only[lexN]at h1 h2 ⊢;by_cases e1:x=y
  ·subst e1;by_cases e2:x=z
   ·subst e2;simp only[_K]at h1 h2 ⊢;exact za1 h1 h2
   ·simp only[e2,_M]at h2 ⊢;exact h2
  ·simp only[e1,_M,_s]at h1;by_cases e2:y=z
   ·subst e2;simp only[e1,_M,_s];exact h1
   ·simp only[e2,_M,_s]at h2;simp only[(show ¬ x=z from by lia),_M,_s];lia
theorem z11:∀{a b:List Int}{x y:Int},a.length=b.length->(lexN a b=true\/(a=b/\x<y))->lexN (a++[x]) (b++[y])=true
 | [],[],x,y,_,h=>by
  rcases h with h | ⟨_,h⟩;·simp[lexN]at h
  ·simp[lexN,(show ¬ x=y from by lia),h] | [],_::_,_,_,h,_=>by simp at h | _::_,[],_,_,h,_=>by simp at h | u::a,w::b,x,y,hl,h=>by
  simp only[_cz,lexN];by_cases e:u=w
  ·subst e;simp only[_K];refine z11 (by simpa using hl) ?_;rcases h with h | ⟨h1,h2⟩;·exact .inl (by simpa[lexN] using h)
   ·exact .inr ⟨by simpa using h1,h2⟩
  ·rcases h with h | ⟨h1,h2⟩;·simpa[lexN,e] using h
   ·simp at h1;exact absurd h1.1 e
abbrev Up(L:List (List Int)):Prop:=L.Pairwise λa b=>lexN a b=true
theorem Up.nodup  (h:Up L):L.Nodup:=h.imp λ{a b} q z=>by rw[z,z0v]at q;cases q
theorem z7r{α:Type}{a b:List α}  {d:α}(h:i<a.length):(a++b).getD i d=a.getD i d:=by simp[_u h]
theorem zjy{α:Type}{a b:List α}  {d:α}(h:a.length<=i):(a++b).getD i d=b.getD (i-a.length) d:=by simp[_ah h]
noncomputable def z99(F:List (List Int))(c:List Int):List (List Int):=F.flatMap λa=>c.map λg=>a++[g]
noncomputable def yF(cs:List (List Int)):List (List Int):=cs.foldl z99 [[]]
theorem wC(cs:List (List Int))(c:List Int):yF (cs++[c])=z99 (yF cs) c:=by simp[yF]
theorem snoc_ind{α:Type}{P:List α->Prop}(h0:P [])(h1:∀l x,P l->P (l++[x]))(l:List α):P l:=by
 exact (show ∀n (l:List α),l.length=n->P l from by
  intro n;induction n with
  | zero=>intro l hl;rw[_aY.mp hl];exact h0 | succ n ih=>
   intro l hl;rw[<- _bz (λz=>by rw[z]at hl;simp at hl:l≠[])];exact h1 _ _ (ih _ (by simp[hl]))) _ l rfl
theorem uR(cs:List (List Int)):∀v:List Int,v∈yF cs ↔ v.length=cs.length/\∀i,i<cs.length->v.getD i 0∈cs.getD i []:=by
 refine snoc_ind (P:=λcs=>∀v:List Int,v∈yF cs ↔ v.length=cs.length/\∀i,i<cs.length->v.getD i 0∈cs.getD i []) ?_ ?_ cs;·simp[yF]
 ·intro cs c ih v;rw[wC];simp only[z99,_cD,_E];constructor
  ·rintro⟨a,ha,g,hg,rfl⟩;obtain⟨l,h⟩:=(ih a).mp ha;refine⟨by simp[l],λi hi=>?_⟩;by_cases q:i<cs.length
   ·rw[z7r (a:=a) (by lia),z7r q];exact (h i q)
   ·have e:i=cs.length:=by simp at hi;lia
    subst e;simp[l,hg]
  ·rintro⟨l,h⟩;have ne:v≠[]:=λz=>by rw[z]at l;simp at l
   refine⟨v.dropLast,(ih _).mpr ⟨by simp[l],λi hi=>?_⟩,v.getLast ne,?_,_bz ne⟩
   ·have:=h i (by simp;lia);rw[z7r hi]at this;rw[(show v.dropLast.getD i 0=v.getD i 0 from by
     have l':v.length=cs.length+1:=by simpa using l
     simp[l',hi,_e (show i<v.length from by lia)])];exact this
   ·have:=h cs.length (by simp);rw[(show v.getD cs.length 0=v.getLast ne from by
     rw[List.getLast_eq_getElem];simp[l])]at this;simpa using this
theorem z7k(cs:List (List Int)):(∀c∈cs,c.Pairwise (· < ·))->Up (yF cs):=by
 refine snoc_ind (P:=λcs=>(∀c∈cs,c.Pairwise (· < ·))->Up (yF cs)) (λ_=>by simp[yF,Up]) ?_ cs;intro cs c ih h;have hl:=λv hv=>((uR cs v).mp hv).1;rw[wC];unfold z99 Up;rw[List.pairwise_flatMap];refine⟨λa ha=>?_,?_⟩
 ·rw[_bd];exact (h c (by simp)).imp λ{x y} q=>z11 rfl (.inr ⟨rfl,q⟩)
 ·refine _bV (λ{a b} ha hb q=>?_) (ih λc hc=>h c (by simp[hc]));intro x hx y hy;obtain⟨g,_,rfl⟩:=_E.mp hx;obtain⟨k,_,rfl⟩:=_E.mp hy;exact z11 (by rw[hl a ha,hl b hb]) (.inl q)
theorem z1U(cs:List (List Int))  : (∀c∈cs,c.length<=k)->(yF cs).length<=k ^ cs.length:=by
 refine snoc_ind (P:=λcs=>(∀c∈cs,c.length<=k)->(yF cs).length<=k ^ cs.length) (λ_=>by simp[yF]) ?_ cs;intro cs c ih h;have ih:=ih λc hc=>h c (by simp[hc]);rw[wC];have e:(z99 (yF cs) c).length=(yF cs).length*c.length:=by
  unfold z99;induction (yF cs) with
  | nil=>simp | cons a l ih=>simp[ih,Nat.add_mul,Nat.add_comm]
 rw[e,_ab];exact _db ih (h c (by simp))
end Pm
namespace Pg
open L2 Dd Pm
noncomputable abbrev iL(ns:List Int):List D:=ns.map D.int
theorem zlx{i:Int}  (h:i.natAbs<2 ^ m)(hm:m<=2000):i.natAbs<BIG:=_v h (_av (by decide) (by lia))
theorem zhz   (s:Sto)(ha:a.natAbs<2 ^ m)(hm:m<=2000)(hb:b.natAbs<2 ^ k)(hk:k<=2000):uH (.int a) (.int b) s=.ok (.int (a*b)) s:=by rw[zdW,_g ⟨zlx ha hm,zlx hb hk⟩]
theorem z7o  (s:Sto)(hb:0<b):zau (.int a) (.int b) s=.ok (.int (a % b)) s:=by rw[zhw,_g hb]
theorem zcy  (s:Sto)(h:∀x∈xs,x=.bl true):zig [.lst xs] s=.ok (.bl true) s:=by simp[zig,zU,(show bools xs=some (xs.map λ_=>true) from by
  conv=>lhs;rw[(show xs=(xs.map λ_=>true).map D.bl from by
  rw[_aT];conv=>lhs;rw[<- List.map_id xs]
  exact _bT λx hx=>h x hx)]
  exact z9H _)]
theorem kS  (s:Sto)(h:ns≠[]):yT [.tup (iL ns)] s=.ok (.int (maxL ns)) s:=by cases ns with
 | nil=>exact absurd rfl h | cons n ns=>simp only[yT,zU,_U,vN]
theorem zid  (s:Sto)(h:ns≠[]):z3f [.tup (iL ns)] s=.ok (.int (minL ns)) s:=by cases ns with
 | nil=>exact absurd rfl h | cons n ns=>simp only[z3f,zU,_U,vN]
theorem zcM    (h:ns≠[])(e:s[l]? = some (iL ns)):yT [.loc l] s=.ok (.int (maxL ns)) s:=by cases ns with
 | nil=>exact absurd rfl h | cons n ns=>simp only[yT,zU,e,_U,vN]
theorem zf6(ps:List Int)(q:Int)(s:Sto):dSl (.tup (iL (ps++[q]))) none (some (-1)) s=.ok (.tup (iL ps)) s:=by
 have e:Dd.cutD (iL (ps++[q])) none (some (-1))=iL ps:=by
  have e1:HT.sIx (iL (ps++[q])).length (iL (ps++[q])).length (some (-1))=ps.length:=by
   unfold HT.sIx;simp only;rw[_g (by lia)];simp;lia
  unfold Dd.cutD;rw[e1];simp[HT.sIx]
 simp only[dSl,e]
theorem zjC(xs:List D)(s:Sto):gIs "tuple" (.tup xs) s=.ok (.bl true) s:=id rfl
theorem zkX(x:Str)(s:Sto):gIs "str" (.str x) s=.ok (.bl true) s:=id rfl
theorem z8N(i:Int)(s:Sto):xc [.int i] s=.ok (.bl true) s:=by rfl
theorem z8I(xs:List D)(s:Sto)(h:2<=xs.length/\xs.length<=4):vG [.tup xs] s=.ok (.bl true) s:=by simp[vG,Mof,z1b,zE,zjC,qI,zU,(show (2:Int)<=xs.length from by lia),(show (xs.length:Int)<=4 from by lia)]
theorem z4A (ns:List Int) (s:Sto) (h:ns.length<=1000):xT [.tup (iL ns),.int ns.length] s=.ok (.bl true) s:=by
 simp[xT,Mof,jl,zE,zjC,qI,zU];rw[z4M (λ_=>D.bl true) (iL ns) [] (by intro x hx;obtain⟨n,_,rfl⟩:=_E.mp hx;rfl) (by simp[cap];lia)];simp only[Rb,_b2];rw[zcy s (by intro x hx;obtain⟨_,_,rfl⟩:=_E.mp hx;rfl)];rfl
noncomputable abbrev rD(r:List Int):D:=.tup (iL r)
noncomputable abbrev tD(T:Tb):D:=.tup (T.map rD)
theorem zir  {j:Nat}  (s:Sto)(h:xs[j]? = some d):dIx (.tup xs) (.int j) s=.ok d s:=by
 have hj  := (_d.mp h).1;simp only[dIx,zU,atI,(show ixN xs.length j=some j from by
  unfold ixN;rw[_g (by lia),_g (by lia)];rfl),_U,h]
theorem ze5     (hn:n<=1000)(h:ar ρ s=.ok [.int n] s1):z5U ar ρ s=.ok (vh n,[]) s1:=by
 rw[zen,h,Rb];simp only;rw[_g (by lia),_bb]
theorem z5Z(xs:List D)(i:Nat)(s:Sto):dSl (.tup xs) none (some (i:Int)) s=.ok (.tup (xs.take i)) s:=by simp only[dSl,(show Dd.cutD xs none (some i)=xs.take i from by
  unfold Dd.cutD;rw[HT.z7n,HT.zai];simp[List.take_eq_take_min])]
theorem z1O(xs:List D)(i:Nat)(s:Sto):dSl (.tup xs) (some (i:Int)) none s=.ok (.tup (xs.drop i)) s:=by simp only[dSl,(show Dd.cutD xs (some i) none=xs.drop i from by
  unfold Dd.cutD;rw[HT.z7n,HT.zai];by_cases h:i<=xs.length
  ·rw[Nat.min_eq_left h];exact _aZ (by simp)
  ·rw[Nat.min_eq_right (by lia)];simp[List.drop_of_length_le (show xs.length<=i by lia)])]
theorem z4S  {j:Nat}(s:Sto)(h:j<r.length):dIx (rD r) (.int (j:Int)) s=.ok (.int (r.getD j 0)) s:=zir    s (by simp[_e h,List.getD])
theorem uL{α:Type}    (g f:α->D)(p:α->Bool):∀(l:List α)(af:List D),(∀a∈l,body (g a) s=.ok (if p a=true then some (f a) else none) s)->af.length+l.length<=cap->va [] all body (l.map g) af s=.ok (af++(l.filter p).map f) s
 | [],af,_,_=>by simp[va,okG] | x::xs,af,hb,hl=>by
  rw[_H,va,_g (by intro p hp;cases hp),hb x (by simp)];cases hp:p x with
  | true=> simp[(show af.length<cap from by simp at hl;lia),(uL (all:=all) g f p xs (af++[f x]) (λy hy=>hb y (by simp[hy])) (by simp at hl ⊢;lia)),hp] | false=> simp[(uL (all:=all) g f p xs af (λy hy=>hb y (by simp[hy])) (by simp at hl ⊢;lia)),hp]
theorem z3L{α:Type}        (g f:α->D)(p:α->Bool)(ev:α->Ev)(l:List α) (hi:fi ρ s=.ok (l.map g,[]) s)(hg:∀a∈l,fg (g a) (ye mp ρ) s=.ok (ev a) s)(ht:∀a∈l,ft (ev a) s=.ok (p a) s)(he:∀a∈l,p a=true->fe (ev a) s=.ok (f a) s)(hl:l.length<=cap): xl fi mp fg ft fe ρ s=.ok (.lst ((l.filter p).map f)) s:=by
 rw[z7Z,z6J,hi,Rb,uL g f p l [] (by
  intro a ha;simp only[hg a ha,ht a ha,Rb];cases hp:p a with
  | true=>simp[he a ha hp] | false=>rfl) (by simpa using hl)];rfl
theorem comp_map{α:Type}       (g f:α->D)(ev:α->Ev)(l:List α) (hi:fi ρ s=.ok (l.map g,[]) s)(hg:∀a∈l,fg (g a) (ye mp ρ) s=.ok (ev a) s)(he:∀a∈l,fe (ev a) s=.ok (f a) s)(hl:l.length<=cap): xl fi mp fg z0u fe ρ s=.ok (.lst (l.map f)) s:=by
 have:=z3L (ft:=z0u) g f (λ_=>true) ev l hi hg (λa _=>rfl) (λa ha _=>he a ha) hl;rw[(List.filter_eq_self.mpr (by simp))]at this;exact this
theorem zdu     (h:f ρ s=.ok (.tup xs) s):wZ f ρ s=.ok (xs,[]) s:=by simp[h]
theorem wv     (h:f ρ s=.ok (.lst xs) s):wZ f ρ s=.ok (xs,[]) s:=by simp[h]
structure LotB(n m:Nat)(v:List Int):Prop extends Lot n v where bd:∀x∈v,x<2 ^ m
theorem LotB.abs{n m:Nat}{v:List Int}(h:LotB n m v):∀x∈v,x.natAbs<2 ^ m:=λx hx=>by
 have:(x.natAbs:Int)<((2 ^ m:Nat):Int):=by rw[(_cQ (h.nn x hx))];exact (h.bd x hx)
 lia
theorem LotB.toN   (h:LotB n m v):∀x∈v,x.toNat<2 ^ m:=λx hx=>by
 have h1:=h.abs x hx;lia
theorem _root_.Pm.Lot.le4   (h:Lot n v):v.length<=4/\2<=v.length:=by have:=h.len;have:=h.sz;lia
theorem z7I   (h:Lot n v)(s:Sto):wq [rD v] s=.ok (.bl true) s:=by
 have l4:=h.le4;have h1:=z8I (iL v) s (by simp;lia);have h2:=z4A v s (by lia);have g1:=kS s h.ne;have g2:=zid s h.ne;have mx:0<maxL v:=by obtain⟨x,hx,h0⟩:=h.pos;have:=maxL_ge  x hx;lia
 exact (λd a1 a2 a3 a4 a5=>by simp[wq,Mof,z4G,zE,a1,a2,a3,a4,a5,(h.nn _ (minL_mem h.ne)),mx]:∀d:D,vG [d] s=.ok (.bl true) s->qI [d] s=.ok (.int v.length) s->xT [d,.int v.length] s=.ok (.bl true) s->yT [d] s=.ok (.int (maxL v)) s->z3f [d] s=.ok (.int (minL v)) s->wq [d] s=.ok (.bl true) s) _ h1 (by simp[qI,zU]) h2 g1 g2
theorem z2K   (h:Lot n v)(s:Sto):yM [rD v] s=.ok .non s:=by exact (λd a1=>by simp[yM,Mof,z1z,zE,a1]:∀d:D,wq [d] s=.ok (.bl true) s->yM [d] s=.ok .non s) _ (z7I h s)
theorem nzC     {mp:List (Option Nat)}(hf:f ρ s=.ok (rD v) s)(hl:v.length<=4):xl (wZ f) [none] (qZ 0) (tOf (eOp dNe (zd 0) (eC (.int 0)))) (zd 0) ρ s=.ok (.lst (iL (nz v))) s:=by
 rw[z3L D.int D.int (λx=>decide (x≠0)) (λx=>[some (.int x)]) v (zdu hf) (λa _=>by rfl) (λa _=>by simp) (λa _ _=>by rfl) (by simp[cap];lia)];rfl
theorem wF   (h:Lot n v) (s:Sto):zP [rD v] s=.ok (.bl (ended v)) s:=by exact (λd a1 a2=>by
  have st:zE ["lot"] [d]=[some d]:=rfl;simp only[zP,Mof,kG,st,_w,_R,_K];rw[zo (ρ':=[some d]) (s':=s) (by simp[a1])];simp only[uh,xo,vT,xr,zr,zM,z3y,a2,Rb];simp only[qI,zU,Rb,z8t,_B];have:decide (((nz v).length:Int)=1)=ended v:=by
   unfold ended;by_cases e:(nz v).length=1;·simp[e]
   ·have:¬ ((nz v).length:Int)=1:=by lia
    simp[e,this]
  rw[this]:∀d:D,yM [d] s=.ok .non s->xl (wZ (zd 0)) [none] (qZ 0) (tOf (eOp dNe (zd 0) (eC (.int 0)))) (zd 0) [some d] s=.ok (.lst (iL (nz v))) s->zP [d] s=.ok (.bl (ended v)) s) _ (z2K h s) (nzC (mp:=[]) (by rfl) h.le4.1)
end Pg
namespace Pm
open L2 (maxL minL maxL_ge maxL_mem minL_le minL_mem n3)
theorem z9V{l k:List Int}(h:l.length=k.length)(e:∀i,i<l.length->l.getD i 0=k.getD i 0):l=k:=by
 apply _cH h;intro i h1 h2;have:=e i h1;rw[_F,_F,_e h1,_e h2]at this;simpa using this
noncomputable def z0n(left d most:Int):List Int:=if left<d then (List.range (n3 left (most+1) d)).map λk=>left+((k:Nat):Int)*d else []
theorem zcS{x d most:Int}(h0:0<=x)(hm:x<=most)(hd:0<d):x∈z0n (x % d) d most:=by
 have l1:=_bp x (by lia:d≠0);have l2:=_bl x hd;have e:=_bF x d;have q0:0<=x / d:=_cV h0 (by lia);have l3:x % d<=x:=by have:=_da (show 0<=d by lia) q0;lia
 unfold z0n;rw[_g l2,_E];refine⟨(x / d).toNat,?_,by rw[Int.toNat_of_nonneg q0,_dT];lia⟩;rw[_X];unfold n3;rw[_g (by lia)];have h1:x / d<=(most-x % d) / d:=by
  refine (Int.le_ediv_iff_mul_le hd).mpr ?_;rw[_dT];lia
 rw[show most+1-x % d-1=most-x % d by lia];lia
theorem zcG{left d most x:Int}(h0:0<=left)(h:x∈z0n left d most):0<=x:=by
 unfold z0n at h;split at h
 ·rename_i q;obtain⟨k,_,rfl⟩:=_E.mp h;have:=_da (show (0:Int)<=(k:Int) by lia) (show 0<=d by lia);lia
 ·cases h
theorem zcm{left d most:Int}(h0:0<=left):(z0n left d most).Pairwise (· < ·):=by
 unfold z0n;split
 ·rename_i q;rw[_bd];refine _bf.imp λ{a b} h=>?_;have:((a:Nat):Int)*d<((b:Nat):Int)*d:=Int.mul_lt_mul_of_pos_right (by lia) (by lia);lia
 ·exact List.Pairwise.nil
theorem zby{left d most:Int}(h0:0<=left)(hm:0<=most):((z0n left d most).length:Int)<=most+1:=by
 unfold z0n;split
 ·rename_i q;rw[_B,_cm];unfold n3;split
  ·rename_i q2;have h1:(most+1-left-1) / d<=most+1-left-1:=_dF _ (by lia);lia
  ·lia
 ·simp;lia
noncomputable def zI(w:List Int)(b:Nat)(most:Int):List (List Int):=w.zipIdx.map λp=>if p.2=b then [p.1] else z0n p.1 (w.getD b 0) most
theorem wP{w:List Int}{b:Nat}{most:Int}{i:Nat}(hi:i<w.length):(zI w b most).getD i []=if i=b then [w.getD i 0] else z0n (w.getD i 0) (w.getD b 0) most:=by simp[zI,_F,hi]
theorem uf(w:List Int)(b:Nat)(most:Int):(zI w b most).length=w.length:=by simp[zI]
noncomputable def kA(w:List Int)(b:Nat)(most:Int):List (List Int):=if w.getD b 0=0 then [w] else yF (zI w b most)
theorem z7m {v w:List Int} {b:Nat} {most:Int} (hl:w.length=v.length) (hb:b<v.length) (e1:w.getD b 0=v.getD b 0) (hp:0<v.getD b 0) (e2:∀i,i<v.length->i≠b->w.getD i 0=v.getD i 0 % v.getD b 0) (h0:∀x∈v,0<=x) (hm:∀x∈v,x<=most):v∈kA w b most:=by
 unfold kA;rw[_l (by lia),uR,uf];refine⟨hl.symm,λi hi=>?_⟩;rw[wP hi];have m:=getD_mem (v:=v) (i:=i) (by lia);by_cases q:i=b;·rw[_g q,q,e1];simp
 ·rw[_l q,e2 i (by lia) q,e1];exact zcS (h0 _ m) (hm _ m) hp
theorem z86{w:List Int}{b:Nat}{most:Int}(h:∀x∈w,0<=x):∀c∈zI w b most,c.Pairwise (· < ·):=λc hc=>by
 unfold zI at hc;obtain⟨p,hp,rfl⟩:=_E.mp hc;have hx:p.1∈w:=by
  have:=List.mem_zipIdx_iff_getElem?.mp (show (p.1,p.2)∈w.zipIdx from hp);exact _r this
 split;·simp
 ·exact zcm (h _ hx)
theorem z7H{w:List Int}{b:Nat}{most:Int}(h:∀x∈w,0<=x):Up (kA w b most):=by
 unfold kA;split;·simp[Up]
 ·exact z7k _ (z86 h)
theorem jx {n:Nat} {w:List Int} {b:Nat} {most:Int} (h:Lot n w) (hb:b<w.length):∀a∈kA w b most,Lot n a:=λa ha=>by
 unfold kA at ha;split at ha
 ·have:a=w:=by simpa using ha
  rw[this];exact h
 ·rename_i q;obtain⟨l,k⟩:=(uR _ a).mp ha;rw[uf]at l k;have nn:∀x∈a,0<=x:=λx hx=>by
   obtain⟨i,hi,rfl⟩:=_D.mp hx;have:=k i (by lia);rw[wP (by lia)]at this;have e:a.getD i 0=a[i]:=by simp[_F,hi]
   rw[e]at this;have w0:=h.nn _ (getD_mem (v:=w) (i:=i) (by lia));split at this;·rw[_V.mp this];exact w0
   ·exact zcG w0 this
  refine⟨h.sz,by rw[l,h.len],nn,⟨a.getD b 0,getD_mem (by lia),?_⟩⟩;have:=k b hb;rw[wP hb,_g rfl]at this;have w0:=h.nn _ (getD_mem (v:=w) (i:=b) hb);rw[_V.mp this];lia
noncomputable def z8W(g:List Int)(most:Int):List (List Int):=(List.range g.length).flatMap λi=>(List.range (most-g.getD i 0).toNat).map λk=>g.take i++[g.getD i 0+1+((k:Nat):Int)]++g.drop (i+1)
theorem z3E{g:List Int}{i j:Nat}{x:Int}(hi:i<g.length):(g.take i++[x]++g.drop (i+1)).getD j 0=if j=i then x else g.getD j 0:=by
 have e:g.take i++[x]++g.drop (i+1)=g.set i x:=by rw[_cd,_g hi];simp
 rw[e];by_cases q:j=i;·subst q;simp[_F,hi]
 ·have:¬ i=j:=λz=>q z.symm;simp[_F,q,List.getElem?_set,this]
theorem z6z{g:List Int}{i:Nat}{x:Int}(hi:i<g.length):(g.take i++[x]++g.drop (i+1)).length=g.length:=by simp;lia
theorem zaB{g:List Int}{most:Int}:(z8W g most).Nodup:=by
 unfold z8W List.Nodup;rw[List.pairwise_flatMap];refine⟨λi hi=>?_,?_⟩
 ·have bG:i<g.length:=by simpa using hi
  rw[_bd];refine _cI.imp λ{a b} h z=>h ?_;have:=_au (λl:List Int=>l.getD i 0) z;simp only[z3E bG,_K]at this;lia
 ·refine _bV (λ{i j} hi hj q=>?_) _bf;intro x hx y hy z;have bG:i<g.length:=by simpa using hi
  have fM:j<g.length:=by simpa using hj
  obtain⟨k,_,rfl⟩:=_E.mp hx;obtain⟨m,_,rfl⟩:=_E.mp hy;have:=_au (λl:List Int=>l.getD i 0) z;simp only[z3E bG,z3E fM,_K]at this;rw[_l (by lia)]at this;lia
theorem z0x{n:Nat}{g:List Int}{most:Int}(h:Lot n g):∀a∈z8W g most,Lot n a:=λa ha=>by
 unfold z8W at ha;obtain⟨i,hi,ha⟩:=_cD.mp ha;obtain⟨k,_,rfl⟩:=_E.mp ha;have bG:i<g.length:=by simpa using hi
 have g0:=h.nn _ (getD_mem bG);refine⟨h.sz,by rw[z6z bG,h.len],λx hx=>?_,⟨g.getD i 0+1+(k:Int),_am _ (_y _ (_V.mpr rfl)),by lia⟩⟩
 ·rcases _C.mp hx with hx | hx
  ·rcases _C.mp hx with hx | hx;·exact h.nn x (_ae hx)
   ·rw[_V.mp hx];lia
  ·exact h.nn x (List.mem_of_mem_drop hx)
theorem zc2 {g:List Int} {most:Int} {m:Nat} (h0:∀x∈g,0<=x) (hm:most<=m):(z8W g most).length<=g.length*m:=by
 unfold z8W;rw[List.length_flatMap];have:∀l:List Nat,(∀i∈l,i<g.length)->(l.map λi=>((List.range (most-g.getD i 0).toNat).map λk=>g.take i++[g.getD i 0+1+((k:Nat):Int)]++g.drop (i+1)).length).sum<=l.length*m:=by
  intro l;induction l with
  | nil=>simp | cons i l ih=>
   intro h;have ih:=ih λj hj=>h j (.tail _ hj);have:=h0 _ (getD_mem (v:=g) (i:=i) (h i (.head _)));simp only[_H,List.sum_cons,_B,_cm,_w,Nat.succ_mul]at ih ⊢;lia
 have:=this (List.range g.length) (λi hi=>by simpa using hi);simpa using this
noncomputable def ahead(r:Rl)(g:List Int)(most:Int):List (List Int):=match r with
 | .tu=>kA (g.drop (g.length-1)++g.take (g.length-1)) 0 most | .al=>kA g (g.idxOf (maxL g)) most | _=>z8W g most
theorem vY{v:List Int}{b:Nat}{gone:List Nat}{i:Nat}(hi:i<v.length):(left v (zV v (b,gone)) b).getD i 0=if i∈gone then v.getD i 0 % v.getD b 0 else v.getD i 0:=by
 have hq:(zV v (b,gone)).getD i 0=if i∈gone then v.getD i 0 / v.getD b 0 else 0:=by simp[zV,_F,hi]
 have hl:(zV v (b,gone)).length=v.length:=yH _ _;have e:(left v (zV v (b,gone)) b).getD i 0=v.getD i 0-(zV v (b,gone)).getD i 0*v.getD b 0:=by simp[left,_F,hi,hl]
 rw[e,hq];split;·rw[Int.emod_def,_dT]
 ·simp
theorem zl9{w:List Int}(h:w≠[]):(rot w).drop ((rot w).length-1)++(rot w).take ((rot w).length-1)=w:=by cases w with
 | nil=>exact absurd rfl h | cons x w=>simp[rot]
theorem zbB {n:Nat} {v g:List Int} {r:Rl} {most:Int} (h:Lot n v) (he:ended v=false) (hm:∀x∈v,x<=most) (e:stp r v=g):v∈ahead r g most:=by
 have dl:=qN r h he;have lw:(left v (zV v (deal r v)) (deal r v).1).length=v.length:=by simp[left,yH]
 cases r with
 | tu=>
  have e1:rot (left v (zV v (deal .tu v)) (deal .tu v).1)=g:=by rw[<- e];unfold stp;rw[z9l]
  have ne:left v (zV v (deal .tu v)) (deal .tu v).1≠[]:=λz=>by rw[z]at lw;exact h.ne (_aY.mp lw.symm)
  show v∈kA (g.drop (g.length-1)++g.take (g.length-1)) 0 most;rw[<- e1,zl9 ne];have nr:0<v.length:=_cY.mpr h.ne;by_cases q:v.getD 0 0=0
  ·have e2:deal .tu v=(0,[]):=by show (0,if v.getD 0 0=0 then [] else xi v 0)=_;rw[_g q]
   have ev:left v (zV v (0,[])) 0=v:=by
    apply _cH;·simp[left,yH]
    ·intro i h1 h2;have:=vY (v:=v) (b:=0) (gone:=[]) (i:=i) h2;simpa[_F,h1,h2] using this
   rw[e2,ev];unfold kA;rw[_g q];simp
  ·have e2:deal .tu v=(0,xi v 0):=by show (0,if v.getD 0 0=0 then [] else xi v 0)=_;rw[_l q]
   have p0:0<v.getD 0 0:=by have:=xG h.nn 0;lia
   rw[e2]at lw ⊢;refine z7m lw nr ?_ p0 (λi hi gZ=>?_) h.nn hm;·rw[vY nr,_l (by rw[yP];lia)]
   ·rw[vY hi,_g (yP.mpr ⟨hi,gZ⟩)] | al=>
  have e1:left v (zV v (lp v,xi v (lp v))) (lp v)=g:=by rw[<- e];unfold stp;rw[z7D (by decide)];rfl
  obtain⟨l1,l2,l3⟩:=z8r h.nzne;have p0:0<v.getD (lp v) 0:=by have:=xG h.nn (lp v);lia
  have gl:g.length=v.length:=by rw[<- e1];simp[left,yH]
  have gb:g.getD (lp v) 0=v.getD (lp v) 0:=by rw[<- e1,vY l1,_l (by rw[yP];lia)]
  have go:∀i,i<v.length->i≠lp v->g.getD i 0=v.getD i 0 % v.getD (lp v) 0:=λi hi gZ=>by rw[<- e1,vY hi,_g (yP.mpr ⟨hi,gZ⟩)]
  have pH:g≠[]:=λz=>by rw[z]at gl;exact h.ne (_aY.mp gl.symm)
  have ix:g.idxOf (maxL g)=lp v:=by
   obtain⟨i1,i2⟩:=z1g (maxL_mem pH);by_cases q:g.idxOf (maxL g)=lp v;·exact q
   ·exfalso;have h1:=go _ (by lia) q;have h2:=maxL_ge (xs:=g) _ (getD_mem (v:=g) (i:=lp v) (by lia));have h3:=_bl (v.getD (g.idxOf (maxL g)) 0) p0;lia
  show v∈kA g (g.idxOf (maxL g)) most;rw[ix];exact z7m gl l1 gb p0 go h.nn hm | nx=>
  have e1:left v (zV v ((deal .nx v).1,[gp v])) (deal .nx v).1=g:=by rw[<- e];unfold stp;rw[z7D (by decide)];rfl
  exact one_in h hm dl.lt (λz=>dl.nb (by rw[z];simp[deal])) (dl.pos.resolve_left (by simp[deal])) e1 | le=>
  have e1:left v (zV v ((deal .le v).1,[gp v])) (deal .le v).1=g:=by rw[<- e];unfold stp;rw[z7D (by decide)];rfl
  exact one_in h hm dl.lt (λz=>dl.nb (by rw[z];simp[deal])) (dl.pos.resolve_left (by simp[deal])) e1
where
 one_in {n:Nat} {v g:List Int} {most:Int} {b:Nat} (h:Lot n v) (hm:∀x∈v,x<=most) (hb:b<v.length) (nb:b≠gp v) (hp:0<v.getD b 0) (e1:left v (zV v (b,[gp v])) b=g):v∈z8W g most:=by
  obtain⟨g1,g2⟩:=z6e h.ne;have gl:g.length=v.length:=by rw[<- e1];simp[left,yH]
  have gg:g.getD (gp v) 0=v.getD (gp v) 0 % v.getD b 0:=by rw[<- e1,vY g1,_g (by simp)]
  have go:∀i,i<v.length->i≠gp v->g.getD i 0=v.getD i 0:=λi hi gZ=>by rw[<- e1,vY hi,_l (by simpa using gZ)]
  have l1:=_bl (v.getD (gp v) 0) hp;have l2:=_bp (v.getD (gp v) 0) (by lia:v.getD b 0≠0);have l3:=maxL_ge (xs:=v) _ (getD_mem (v:=v) (i:=b) hb);have l4:=hm _ (getD_mem (v:=v) (i:=gp v) g1);unfold z8W;refine _cD.mpr ⟨gp v,by simpa using (by lia:gp v<g.length),_E.mpr ⟨(v.getD (gp v) 0-g.getD (gp v) 0-1).toNat,?_,?_⟩⟩;·rw[_X];lia
  ·have hk:g.getD (gp v) 0+1+(((v.getD (gp v) 0-g.getD (gp v) 0-1).toNat:Nat):Int)=v.getD (gp v) 0:=by lia
   rw[hk];refine z9V (by rw[z6z (by lia),gl]) λi hi=>?_;rw[z6z (by lia),gl]at hi;rw[z3E (by lia)];split;·rename_i q;rw[q]
   ·rename_i q;exact go i hi q
end Pm
namespace Pg
open L2 Dd Pm
def nmR:Rl->Str | .nx=>"next" | .le=>"least" | .al=>"all" | .tu=>"turn"
theorem z7h      (h1:fo ρ s=.ok (rD v) s)(h2:fv ρ s=.ok (.int k) s)(hk:k∈v):zc0 fo fv ρ s=.ok (.int (v.idxOf k:Nat)) s:=by simp only[zhp,h1,h2,Rb,vN,_g hk]
theorem z2P   (h:Lot n v) (s:Sto):zu [rD v] s=.ok (.tup [.int (gp v:Nat),rD (others v)]) s:=by
 have l4:=h.le4;have g1:=kS s h.ne;exact (λd hd=>by
  have st:zE ["lot","at"] [d]=[some d,none]:=rfl;have gm:yT [d] s=.ok (.int (maxL v)) s:=by rw[hd];exact g1
  have i1:zc0 (zd 0) (zh yT (za (zd 0) zn)) [some d,none] s=.ok (.int (gp v)) s:=z7h (by simp[hd]) (by exact gm ..) (maxL_mem h.ne);simp only[zu,Mof,xB,st,_w,_R,_K];rw[zo (ρ':=[some d,some (.int (gp v))]) (s':=s) (by rw[xh,yn,i1];rfl)];have e2:=z1O (iL v) (gp v+1) s;rw[show ((gp v+1:Nat))=((gp v):Int)+1 from rfl]at e2;simp only[xj,xo,qo,zr,zM,xV,vT,z2j,xW,uV,z3y,_q,_p,Rb,jn,hd,(z5Z (iL v) (gp v) s),e2];rw[_g (by decide),Rb,jq,_g (by simp[cap];omega),Rb,e2,Rb,jq,_g (by simp[cap];omega),Rb,Rb,Rb,_g (by simp[cap])];simp[others,_bW]:∀d:D,d=rD v->zu [d] s=.ok (.tup [.int (gp v),rD (others v)]) s) _ rfl
theorem jL  (h:nz v≠[]) (hl:v.length<=4) (s:Sto):yf [rD v] s=.ok (.int (lp v:Nat)) s:=by
 exact (λd hd=>by
  have st:zE ["lot"] [d]=[some d]:=rfl;have gm:z3f [.lst (iL (nz v))] s=.ok (.int (minL (nz v))) s:=by
   obtain⟨a,t,e⟩:=List.exists_cons_of_ne_nil h;rw[e];simp only[z3f,zU,_U,iL];rw[vN]
  simp only[yf,Mof,qm,st,uW,xo];rw[z7h   (by simp[hd]) (by rw[xr,zr,(nzC (mp:=[]) (f:=zd 0) (ρ:=[some d]) (s:=s)  (by simp[hd]) hl)];exact gm ..) (ji.mp (minL_mem h)).1];rfl:∀d:D,d=rD v->yf [d] s=.ok (.int (lp v)) s) _ rfl
noncomputable abbrev nL(l:List Nat):List D:=l.map λi=>D.int ((i:Nat):Int)
theorem z5m {v:List Int} (p:Nat) (hl:v.length<=4) (s:Sto):xY [rD v,.int (p:Nat)] s=.ok (.lst (nL (xi v p))) s:=by
 exact (λd hd=>by
  have st:zE ["lot","place"] [d,.int p]=[some d,some (.int p)]:=rfl;simp only[xY,Mof,z2w,st,z1a,xo];rw[z3L (λi:Nat=>D.int ((i:Nat):Int)) (λi:Nat=>D.int ((i:Nat):Int)) (λi=>decide (i≠p)) (λi=>[some (.int (p:Nat)),some (.int (i:Nat))]) (List.range v.length) (by
   rw[ze5 (n:=v.length) (s1:=s) (by omega) (by simp[hd])];rfl) (λa _=>by rfl) (λa _=>by
   have:decide ((a:Int)≠(p:Nat))=decide (a≠p):=by
    by_cases e:a=p;·simp[e]
    ·have:¬ (a:Int)=(p:Nat):=by omega
     simp[e,this]
   simp only[z6K,vT,xV,_p,_q,Rb,zkw,this]) (λa _ _=>by rfl) (by simp[cap];omega)];rfl:∀d:D,qI [d] s=.ok (.int v.length) s->xY [d,.int p] s=.ok (.lst (nL (xi v p))) s) _ (by simp[qI,zU])
noncomputable abbrev z1F(d:Nat×List Nat):D:=.tup [.int d.1,.lst (nL d.2)]
theorem z9u   (h:Lot n v) (s:Sto):wM [rD v] s=.ok (z1F (deal .nx v)) s:=by
 have ne:others v≠[]:=λz=>by
  have:=wD h.ne;rw[z]at this;exact h.ne (_aY.mp this.symm)
 have g1:=kS  s ne;exact (λd e he hg=>by
  have st:zE ["lot","greatest","others"] [d]=[some d,none,none]:=rfl;have gm:yT [e] s=.ok (.int (maxL (others v))) s:=by rw[he];exact g1
  simp only[wM,Mof,z2C,st,_K];rw[zo (ρ':=[some d,some (.int (gp v)),some e]) (s':=s) (by simp[hg])];simp only[z1K,xo,qo,zr,(z7h  (by simp[he]) (by exact gm ..) (maxL_mem ne):zc0 (zd 2) (zh yT (za (zd 2) zn)) [some d,some (.int (gp v:Nat)),some e] s=.ok (.int ((others v).idxOf (maxL (others v)):Nat)) s),_p];rfl:∀d e:D,e=rD (others v)->zu [d] s=.ok (.tup [.int (gp v),e]) s->wM [d] s=.ok (z1F (deal .nx v)) s) _ _ rfl (z2P h s)
theorem z91   (h:Lot n v) (he:ended v=false) (s:Sto):xH [rD v] s=.ok (z1F (deal .le v)) s:=by
 have g:=z2P h s;exact (λd e he hg=>by
  have st:zE ["lot","greatest","others"] [d]=[some d,none,none]:=rfl;simp only[xH,Mof,z1x,st,_K];rw[zo (ρ':=[some d,some (.int (gp v:Nat)),some e]) (s':=s) (by simp[hg])];simp[he,cap,deal]:∀d e:D,yf [e] s=.ok (.int (lp (others v):Nat)) s->zu [d] s=.ok (.tup [.int (gp v:Nat),e]) s->xH [d] s=.ok (z1F (deal .le v)) s) _ _ (jL (z10 h he) (by rw[wD h.ne];exact h.le4.1) s) g
theorem zcY   (h:Lot n v) (s:Sto):uc [rD v] s=.ok (z1F (deal .al v)) s:=by
 have ab:=z5m  (lp v) h.le4.1 s;exact (λd h1 h2=>by
  have st:zE ["lot","by"] [d]=[some d,none]:=rfl;simp only[uc,Mof,z5q,st,_K];rw[zo (ρ':=[some d,some (.int (lp v:Nat))]) (s':=s) (by simp[h1])];simp[h2,cap,deal]:∀d:D,yf [d] s=.ok (.int (lp v:Nat)) s->xY [d,.int (lp v:Nat)] s=.ok (.lst (nL (xi v (lp v)))) s->uc [d] s=.ok (z1F (deal .al v)) s) _ (jL h.nzne h.le4.1 s) ab
theorem za2   (h:Lot n v) (s:Sto):wN [rD v] s=.ok (z1F (deal .tu v)) s:=by
 have ab:=z5m  0 h.le4.1 s;exact (λd h1 h2=>by
  have st:zE ["lot"] [d]=[some d]:=rfl;simp only[wN,Mof,z2O,st,_w,_R,_K];by_cases z:v.getD 0 0=0;·rw[z5p (d:=z1F (deal .tu v)) (s':=s) (by
    rw[z]at h1;rw[(show deal .tu v=(0,[]) from by show (0,if v.getD 0 0=0 then [] else xi v 0)=_;rw[_g z])];simp[h1,cap])]
  ·rw[zo (ρ':=[some d]) (s':=s) (by
    generalize v.getD 0 0=y at *;simp[h1,z])];rw[(show deal .tu v=(0,xi v 0) from by show (0,if v.getD 0 0=0 then [] else xi v 0)=_;rw[_l z])];simp[h2,cap]:∀d:D,dIx d (.int 0) s=.ok (.int (v.getD 0 0)) s->xY [d,.int 0] s=.ok (.lst (nL (xi v 0))) s->wN [d] s=.ok (z1F (deal .tu v)) s) _ (z4S (j:=0) s (by have:=h.le4.2;omega)) ab
theorem z9Y(r:Rl)(s:Sto):uJ [.str (nmR r)] s=.ok (.bl true) s:=by simp[uJ,Mof,z2y,zE,zkX,(λr=>by cases r<;>decide:∀r,(jE.lookup (nmR r)).isSome=true)]
theorem z18(r:Rl)(s:Sto):yI [.str (nmR r)] s=.ok .non s:=by simp[yI,Mof,kZ,zE,(z9Y r s)]
theorem z0W   (r:Rl)(h:Lot n v)(s:Sto):zw [.str (nmR r),rD v] s=.ok .non s:=by
 have h1:=z18 r s;exact (λd e a1 a2=>by simp[zw,Mof,wj,zE,a1,a2]:∀d e:D,yI [d] s=.ok .non s->yM [e] s=.ok .non s->zw [d,e] s=.ok .non s) _ _ h1 (z2K h s)
theorem z6q   (r:Rl)(h:Lot n v)(he:ended v=false)(s:Sto):yZ [.str (nmR r),rD v] s=.ok .non s:=by
 have h2:=wF h s;rw[he]at h2;exact (λd e a1 a2=>by simp[yZ,Mof,z0a,zE,a1,a2]:∀d e:D,zw [d,e] s=.ok .non s->zP [e] s=.ok (.bl false) s->yZ [d,e] s=.ok .non s) _ _ (z0W r h s) h2
def dfR:Rl->Str | .nx=>"by_next" | .le=>"by_least" | .al=>"by_all" | .tu=>"by_turn"
noncomputable def MR:Rl->Mir | .nx=>wM | .le=>xH | .al=>uc | .tu=>wN
theorem zm5   (r:Rl)(h:Lot n v)(he:ended v=false)(s:Sto):MR r [rD v] s=.ok (z1F (deal r v)) s:=by cases r with
 | nx=>exact z9u h s | le=>exact z91 h he s | al=>exact zcY h s | tu=>exact za2 h s
theorem zjU(r:Rl):jE.lookup (nmR r)=some (dfR r):=by cases r<;>decide
theorem zms(r:Rl):([("by_next",wM),("by_least",xH),("by_all",uc),("by_turn",wN)]:List (Str×Mir)).lookup (dfR r)=some (MR r):=by
 cases r;·rfl
 ·rfl
 ·rfl
 ·rfl
theorem zl3(i:Nat)(l:List Nat)(s:Sto):zeY false (.int i) (.lst (nL l)) s=.ok (.bl (decide (i∈l))) s:=by
 have ev:∀a b:Int,eqV (.int a) (.int b)=(a==b):=λ_ _=>id rfl;have e2:∀l:List Nat,inV (.int i) (l.map λj=>V.int (j:Nat))=decide (i∈l):=by
  intro l;induction l with
  | nil=>rfl | cons a l ih=>
   simp only[inV,_H,_bs]at ih ⊢;rw[ih];by_cases q:i=a;·subst q;simp[ev]
   ·simp[ev,q,(show ¬ (a:Int)=i from by omega)]
 have pi:∀i:Int,z7t (.int i)=some (.int i):=λ_=>id rfl;simp only[zeY,pi,zU,_U,(show ∀l:List Nat,ku (nL l)=some (l.map λj=>V.int (j:Nat)) from by
  intro l;induction l with
  | nil=>rfl | cons a l ih=>simp[ku,pi,ih]),e2];rfl
theorem z8f   (r:Rl) (h:LotB n m v) (he:ended v=false) (hm:m<=1999) (s:Sto):xO [.str (nmR r),rD v] s=.ok (.tup [.int ((deal r v).1:Nat),.lst (iL (zV v (deal r v)))]) s:=by
 have dl:=qN r h.toLot he;have l4:=h.toLot.le4;have pI:=zm5 r h.toLot he s;have key:∀d e:D,e=.str (nmR r)->MR r [d] s=.ok (z1F (deal r v)) s->qI [d] s=.ok (.int v.length) s->(∀i,i<v.length->dIx d (.int (i:Nat)) s=.ok (.int (v.getD i 0)) s)->xO [e,d] s=.ok (.tup [.int ((deal r v).1),.lst (iL (zV v (deal r v)))]) s:=λd e cT h1 h2 h3=>by
  have st:zE ["rule","lot","deal","by","divided"] [e,d]=[some e,some d,none,none,none]:=rfl;simp only[xO,Mof,z20,st,_w,_R,_K];rw[zo (ρ':=[some e,some d,some (.fn (dfR r)),none,none]) (s':=s) (by simp[cT,(zjU r)])];rw[zo (ρ':=[some e,some d,some (.fn (dfR r)),some (.int ((deal r v).1:Nat)),some (.lst (nL (deal r v).2))]) (s':=s) (by
   rw[kT,zjk,zd1];simp only[_q,_p];rw[(zms r)];simp only[zr,zM,xV,_q,_p,Rb,h1,zeT,List.set_cons_succ,List.set_cons_zero])];have ir:z5U (za (zh qI (za (zd 1) zn)) zn) [some e,some d,some (.fn (dfR r)),some (.int ((deal r v).1)),some (.lst (nL (deal r v).2))] s=.ok ((List.range v.length).map λi=>D.int (i:Nat),[]) s:=by
   rw[ze5 (n:=v.length) (s1:=s) (by lia) (by simp[h2])];rfl
  have c:=comp_map (mp:=[some 4,some 1,some 3,none]) (fg:=qZ 3) (fe:=eIf (tOf (eOp (zeY false) (zd 3) (zd 0))) (eOp z6f (eOp dIx (zd 1) (zd 3)) (eOp dIx (zd 1) (zd 2))) (eC (.int 0))) (λi:Nat=>D.int (i:Nat)) (λi:Nat=>D.int (if i∈(deal r v).2 then v.getD i 0 / v.getD (deal r v).1 0 else 0)) (λi=>[some (.lst (nL (deal r v).2)),some d,some (.int ((deal r v).1)),some (.int i)]) (List.range v.length) ir (λa _=>by rfl) (λi hi=>by
    have i1:=zl3 i (deal r v).2 s;simp only[zb6,z6K,vT,xV,z3y,_q,_p,Rb,i1,(h3 i (by simpa using hi)),(h3 _ dl.lt)];by_cases q:i∈(deal r v).2
    ·simp only[q,decide_true,_K];rw[zaA,_g ⟨(by
      rcases dl.pos with z | z;·rw[z]at q;cases q
      ·exact z),(_v (h.abs _ (Pm.getD_mem dl.lt)) (_av (by decide) (by lia)))⟩]
    ·simp only[q,decide_false,_M];rfl) (by simp[cap];lia);simp only[z07,xo,qo,zr,c,Rb,zM,xV,_q,_p];rw[_g (by simp[cap])];simp[zV,_bq]
 exact key _ _ rfl pI (by simp[qI,zU]) (λi hi=>z4S s hi)
theorem eq_str  (ha:PyData.strOk a=true)(hb:PyData.strOk b=true)(s:Sto):dEq (.str a) (.str b) s=.ok (.bl (a==b)) s:=by simp[dEq,zdc,eqD,zlZ,PyData.eqv,SeqAt.shaped,PyData.canLay0,PyData.depth,ha,hb]
theorem zev(r:Rl):PyData.strOk (nmR r)=true:=by cases r<;>decide +kernel
theorem zbc(r:Rl)(s:Sto):dEq (.str (nmR r)) (.str "turn") s=.ok (.bl (decide (r=.tu))) s:=by
 rw[eq_str (zev r) (by decide +kernel)];congr 2;cases r<;>decide +kernel
theorem zg2(r:Rl)(xs:List D)(hl:xs.length<=4)(s:Sto):kc [.str (nmR r),.tup xs] s=.ok (.tup (mvd r xs)) s:=by
 have e1:=z5Z xs 1 s;have e2:=z1O xs 1 s;have cp:(xs.drop 1).length+(xs.take 1).length<=cap:=by simp[cap];lia
 exact (λd e hd he=>by
  have st:zE ["rule","numbers"] [d,e]=[some d,some e]:=rfl;simp only[kc,Mof,z80,st,z4W,xo,zb6,(show tOf (eOp dEq (zd 0) (eC (.str "turn"))) [some d,some e] s=.ok (decide (r=.tu)) s from by simp only[z6K,vT,xV,z3y,_q,Rb,hd,zbc]),Rb];by_cases q:r=.tu
  ·subst q;simp only[vT,z2j,xV,xW,uV,z3y,_q,_p,Rb,he];rw[show (1:Int)=(1:Nat) from rfl,e2,Rb,e1,Rb,jq,_g cp];rfl
  ·simp only[q,decide_false];rw[z7D q];simp[he]:∀d e:D,d=.str (nmR r)->e=.tup xs->kc [d,e] s=.ok (.tup (mvd r xs)) s) _ _ rfl rfl
theorem z7K{α β:Type}(f:α->D)(g:β->D):∀(l:List α)(k:List β),zbX (l.map f) (k.map g)=(l.zip k).map λp=>D.tup [f p.1,g p.2]
 | [],_=>by rfl | _::_,[]=>by rfl | a::l,b::k=>by simp[zbX,z7K f g l k]
theorem zgF  (r:Rl)(f:α->β)(xs:List α):mvd r (xs.map f)=(mvd r xs).map f:=by unfold mvd rot;split<;>simp[_bW]
theorem LotB.q   (r:Rl)(h:LotB n m v)(he:ended v=false):Qs v (deal r v).1 (zV v (deal r v)):=zgk h.nn (qN r h.toLot he)
theorem zk5   (r:Rl)(h:LotB n m v)(he:ended v=false):∀q∈zV v (deal r v),0<=q/\q<2 ^ m:=λq hq=>by
 have Q:=h.q r he;refine⟨Q.nn q hq,?_⟩;obtain⟨i,hi,rfl⟩:=_D.mp hq;simp only[zV,_cG,List.getElem_range];have b:=h.bd _ (Pm.getD_mem (by rw[<- Q.len];exact hi));have n0:=xG h.nn i;split
 ·have:=_dF (v.getD (deal r v).1 0) n0;lia
 ·lia
theorem z53 {n m:Nat} {v:List Int} (r:Rl) (h:LotB n m v) (he:ended v=false) (hm:m<=1999) (s:Sto):M_step [.str (nmR r),rD v] s=.ok (rD (stp r v)) s:=by
 have l4:=h.toLot.le4;have w:=z6q r h.toLot he s;have dl:=qN r h.toLot he;have ix  := z4S s dl.lt;have mo:=zg2 r (iL (left v (zV v (deal r v)) (deal r v).1)) (by simp[ww (h.q r he).len];lia) s;have key:∀d e:D,e=rD v->yZ [d,e] s=.ok .non s->xO [d,e] s=.ok (.tup [.int ((deal r v).1),.lst (iL (zV v (deal r v)))]) s->kc [d,.tup (iL (left v (zV v (deal r v)) (deal r v).1))] s=.ok (.tup (mvd r (iL (left v (zV v (deal r v)) (deal r v).1)))) s-> M_step [d,e] s=.ok (rD (stp r v)) s:=λd e hd h1 h2 h3=>by
  have st:zE ["rule","lot","by","quotients","left"] [d,e]=[some d,some e,none,none,none]:=rfl;have pJ:dIx e (.int ((deal r v).1)) s=.ok (.int (v.getD (deal r v).1 0)) s:=by rw[hd];exact ix
  simp only[M_step,Mof,zaG,st,_K];rw[zo (ρ':=[some d,some e,none,none,none]) (s':=s) (by simp[h1]),zo (ρ':=[some d,some e,some (.int ((deal r v).1)),some (.lst (iL (zV v (deal r v)))),none]) (s':=s) (by simp[h2])];have ir:zj6 (za (zd 1) (za (zd 3) zn)) [some d,some e,some (.int ((deal r v).1)),some (.lst (iL (zV v (deal r v)))),none] s=.ok ((v.zip (zV v (deal r v))).map λp=>D.tup [.int p.1,.int p.2],[]) s:=by simp only[zia,zr,zM,xV,_q,_p,Rb,hd,zd0,z7K,_bn]
  have c:=comp_map (mp:=[some 1,some 2,none,none]) (fg:=qU 2 3) (fe:=eOp z8d (zd 2) (eOp uH (zd 3) (eOp dIx (zd 0) (zd 1)))) (λp:Int×Int=>D.tup [.int p.1,.int p.2]) (λp:Int×Int=>D.int (p.1-p.2*v.getD (deal r v).1 0)) (λp=>[some e,some (.int ((deal r v).1)),some (.int p.1),some (.int p.2)]) _ ir (λp _=>by rfl) (λp hp=>by
    have hq:=zk5 r h he p.2 (_cS hp).2;have ab:p.2.natAbs<2 ^ m:=by
     have:(p.2.natAbs:Int)<((2 ^ m:Nat):Int):=by rw[(_cQ hq.1)];exact hq.2
     lia
    simp only[vT,xV,_q,_p,Rb,pJ,(zhz   s ab (by lia) (h.abs _ (Pm.getD_mem dl.lt)) (by lia)),zhr]) (by simp[cap];lia);rw[(show (v.zip (zV v (deal r v))).map (λp:Int×Int=>D.int (p.1-p.2*v.getD (deal r v).1 0))=iL (left v (zV v (deal r v)) (deal r v).1) from by
   unfold left;show _=List.map D.int _;rw[List.zip,List.map_zipWith,List.map_zipWith])]at c;rw[zo (ρ':=[some d,some e,some (.int ((deal r v).1)),some (.lst (iL (zV v (deal r v)))),some (.tup (iL (left v (zV v (deal r v)) (deal r v).1)))]) (s':=s) (by
   rw[z81,yn,xr,zr,c];rfl)];simp only[z3N,xo,xr,zr,zM,xV,_q,_p,Rb,h3];rw[zgF];rfl
 exact key _ _ rfl w (z8f r h he hm s) mo
theorem vc{M:Mir}     (h:f ρ s=.ok x s):zh M (za f zn) ρ s=M [x] s:=by simp only[xr,zr,zM,h,Rb]
theorem call2{M:Mir}     (h:f ρ s=.ok x s)(h2:g ρ s=.ok y s):zh M (za f (za g zn)) ρ s=M [x,y] s:=by simp only[xr,zr,zM,h,h2,Rb]
theorem uX{M:Mir}     (h:f ρ s=.ok x s)(h2:g ρ s=.ok y s)(h3:k ρ s=.ok z s):zh M (za f (za g (za k zn))) ρ s=M [x,y,z] s:=by simp only[xr,zr,zM,h,h2,h3,Rb]
theorem op2      (h:f ρ s=.ok x s)(h2:g ρ s=.ok y s):eOp o f g ρ s=o x y s:=by simp only[vT,h,h2,Rb]
theorem z45    (h:zU s x=some (xs++[d])):dIx x (.int (-1)) s=.ok d s:=by
 simp only[dIx,h,atI,(show ixN (xs++[d]).length (-1)=some xs.length from by
  unfold ixN;simp;lia),_U];simp
theorem _root_.Pg.LotB.step{n m:Nat}{v:List Int}(r:Rl)(h:LotB n m v)(he:ended v=false):LotB n m (stp r v):=by
 refine⟨h.toLot.step r he,λx hx=>?_⟩;have:=z84 (B:=2 ^ m-1) r h.toLot he (λy hy=>by have:=h.bd y hy;lia) x hx;lia
theorem zco    (hd:d=.str (nmR r)) (hm:m<=1999) (s:Sto)   (Rn:Run r c ls):∀(pre:List (List Int)),LotB n m c->pre.length+ls.length<=50000-> vb (z0F (tOf (zh zP (za (eOp dIx (zd 2) (z49 (eC (.int 1)))) zn)))) z3n (ls.length+1) [some d,some e,some (.loc s.length)] (s++[(pre++[c]).map rD])=.ok (.nx [some d,some e,some (.loc s.length)]) (s++[(pre++ls).map rD]):=by
 have nt:∀(pre:List (List Int)) (c:List Int),LotB n m c->z0F (tOf (zh zP (za (eOp dIx (zd 2) (z49 (eC (.int 1)))) zn))) [some d,some e,some (.loc s.length)] (s++[(pre++[c]).map rD])=.ok (!ended c) (s++[(pre++[c]).map rD]):=λpre c h=>by
  simp only[z5L,z6K,xr,zr,zM,vT,xV,z7d,z3y,_q,_p,Rb];rw[(z45 (x:=.loc s.length) (d:=rD c) (xs:=pre.map rD) (s:=s++[(pre++[c]).map rD]) (by simp[zU]))];simp only[Rb];rw[(wF h.toLot (s++[(pre++[c]).map rD]))];rfl
 induction Rn with
 | @done v hend=>
  intro pre h hl;rw[vb,nt pre v h,hend];rfl | @step v ls hend Rn ih=>
  intro pre h hl;rw[_w,vb,nt pre v h,hend,Rb];have cN:=z53 r h hend hm (s++[(pre++[v]).map rD]);rw[<- hd]at cN;have ix:=z45 (x:=.loc s.length) (d:=rD v) (xs:=pre.map rD) (s:=s++[(pre++[v]).map rD]) (by simp[zU]);have body:z3n [some d,some e,some (.loc s.length)] (s++[(pre++[v]).map rD])=.ok (.nx [some d,some e,some (.loc s.length)]) (s++[(pre++[v]++[stp r v]).map rD]):=by
   have au:(s++[(pre++[v]).map rD]).set s.length ((pre++[v]).map rD++[rD (stp r v)])=s++[(pre++[v]++[stp r v]).map rD]:=by simp
   simp only[z3n,qe,zbv,xr,zr,zM,vT,xV,z7d,z3y,_q,_p,Rb];rw[ix];simp only[Rb];rw[cN];simp only[Rb];rw[(show (s++[(pre++[v]).map rD])[s.length]? = some ((pre++[v]).map rD) from by simp)];simp only;rw[_g ⟨(xN _),(by simp[cap]at hl ⊢;lia)⟩,au];rfl
  rw[body,Rb];simp only;rw[(ih (pre++[v]) (h.step r hend) (by simp at hl ⊢;lia))];simp
theorem zk8    (r:Rl) (h:LotB n m v) (Rn:Run r v ls) (hm:m<=1999) (hl:ls.length<=50000) (s:Sto):M_run [.str (nmR r),rD v] s=.ok (.loc s.length) (s++[ls.map rD]):=by
 have w:=z0W r h.toLot s;have key:∀d e:D,d=.str (nmR r)->e=rD v->M_run [d,e] s=.ok (.loc s.length) (s++[ls.map rD]):=λd e hd he=>by
  have st:zE ["rule","lot","lots"] [d,e]=[some d,some e,none]:=rfl;simp only[M_run,Mof,zep,st,_K];rw[zo (ρ':=[some d,some e,none]) (s':=s) (by simp[(show zw [d,e] s=.ok .non s from by rw[hd,he];exact w)])];rw[zo   (by
   simp only[zaV,yn,zbk,zr,zM,xV,_p,_q,Rb];rw[_g ⟨by simp[cap],by simp[flC,flN,(show e.flat=true from by rw[he];exact (xN _))]⟩];rfl)];have lp:=zco (e:=e) hd hm s Rn [] h (by simpa using hl);rw[_b2]at lp;rw[show ([v]).map rD=[e] from by rw[he];rfl]at lp;rw[zo   (by exact z7Q lp (by simp))];rfl
 exact key _ _ rfl rfl
theorem z6d    (r:Rl)(h:LotB n m v)(Rn:Run r v ls)(hm:m<=1999)(hl:ls.length<=50000)    (hf:f ρ s=.ok (.str (nmR r)) s)(hg:g ρ s=.ok (rD v) s):z27 (zh M_run (za f (za g zn))) ρ s=.ok (.lst (ls.map rD)) s:=by rw[zeS,call2 hf hg,zk8 r h Rn hm hl s,zdy]
theorem zbu{i:Int}(h0:0<=i)(h:i<2 ^ 2000):i.natAbs<BIG:=by exact Int.ofNat_lt.mp (Int.lt_of_lt_of_le (by rw[(_cQ h0)];exact h) (by decide +kernel))
theorem z1T  (s:Sto)(ha:0<=a)(gA:a<2 ^ 2000)(hb:0<=b)(gY:b<2 ^ 2000):uH (.int a) (.int b) s=.ok (.int (a*b)) s:=by rw[zdW,_g ⟨zbu ha gA,zbu hb gY⟩]
theorem zfS  (s:Sto)(hb:0<b)(gY:b<2 ^ 2000):z6f (.int a) (.int b) s=.ok (.int (a / b)) s:=by rw[zaA,_g ⟨hb,zbu (by lia) gY⟩]
theorem zhS(ns:List Int)(k:Nat)(s:Sto):∃c,yR [.scr (iL ns),.int k] s=.ok (.int c) s:=by
 by_cases h:k<ns.length
 ·have hk:k<ns.length:=by omega
  have e:ixN (iL ns).length k=some k:=by
   unfold ixN;rw[_g (by omega),_g (by simpa using hk)];rfl
  simp[yR,Mof,wK,zE,qI,zU,hk,(show dIx (.scr (iL ns)) (.int k) s=.ok (.int ns[k]) s from by
   simp only[dIx,zU,atI,e,_U];simp[h])]
 ·exact⟨0,by simp[yR,Mof,wK,zE,qI,zU,(by omega)]⟩
def Pot(s:Sto)(l:Nat):Prop:=∃p:Int,s[l]? = some [.int p]
theorem Pot.lt   (h:Pot s l):l<s.length:=by
 obtain⟨p,e⟩:=h;exact (_d.mp e).1
theorem Pot.app   (h:Pot s l)(t:Sto):Pot (s++t) l:=by
 obtain⟨p,e⟩:=h;exact⟨p,by rw[_u (_d.mp e).1];exact e⟩
structure uE(s s':Sto)(l:Nat):Prop where
 pot:Pot s' l
 len:s'.length=s.length
 oth:∀m,m≠l->s'[m]? = s[m]?
theorem zeF    (h:Pot s l)(h0:0<far)(h1:far<2 ^ 2000):∃r s',zF [.loc l,.int far] s=.ok (.int r) s'/\0<=r/\r<far/\uE s s' l:=by
 obtain⟨p,e⟩:=h;refine⟨p % far,s.set l [.int (p / far)],?_,_bp _ (by lia),_bl _ h0,⟨p / far,by rw[_ac ((_d.mp e).1)]⟩,by simp,λm hm=>_Q (_ba hm)⟩;simp[zF,Mof,kY,zE,(show dIx (.loc l) (.int 0) s=.ok (.int p) s from by simp[dIx,zU,e,atI,ixN]),z7o s h0,zfS s h0 h1,e,ixN,z0z,List.replicate]
theorem zi4(s:Sto):z7F (.int 10) (.int 18) s=.ok (.int 1000000000000000000) s:=by rfl
theorem zjY(s:Sto):z7F (.int 10) (.int 15) s=.ok (.int 1000000000000000) s:=by rw[zew];rfl
theorem zle(s:Sto):z7F (.int 10) (.int 39) s=.ok (.int 1000000000000000000000000000000000000000) s:=by rw[zew];rfl
theorem pow_step  (h:m<2147483648 ^ j)(hr:r<2147483587):m*2147483587+r<2147483648 ^ (j+1):=by lia
theorem zj3{m j:Nat}(h:m<2147483648 ^ j)(hj:j<=64):(m:Int)<2 ^ 2000:=by
 have h2:2147483648 ^ 64<=2 ^ 2000:=by decide +kernel
 exact Int.ofNat_lt.mpr (_v h (_al (_av (by decide) hj) h2))
theorem zkV (c:Int) (s:Sto):∃p:Int,vJ [.int c] s=.ok (.loc s.length) (s++[[.int p]]):=by
 by_cases h:1000000000000000000<=c;·exact⟨c-1000000000000000000,by simp[vJ,Mof,qS,zE,zi4,h,flC,flN,z0z,cap,List.replicate]⟩
 ·have lp:∃ ρ' s',kP [some (.int c),some (.int 0),none,none] s=.ok (.nx ρ') s'/\∃(m:Nat) (a b:Option D),ρ'=[some (.int c),some (.int m),a,b]/\s'=s:=by
   obtain⟨ρ',s',e,m,a,b,e1,e2,_⟩:=qh  (body:=λd ρ s=>(qZ 2 d ρ s).bind fun ρ' s'=>(zL kQ (zL kI kW)) ρ' s') (λj ρ s'=>∃(m:Nat) (a b:Option D),ρ=[some (.int c),some (.int m),a,b]/\s'=s/\m<2147483648 ^ j) (vh 64) 0 (λj x hx ρ s' hi=>by
    obtain⟨m,a,b,rfl,rfl,hm⟩:=hi;obtain⟨hj,rfl⟩:=z5t hx;rw[_ay]at hm;have a1:zau (.int c) (.int 2147483629) s'=.ok (.int (c % 2147483629)) s':=z7o s' (by decide);have a2:uH (.int 7919) (.int j) s'=.ok (.int (7919*j)) s':=z1T s' (by decide) (by decide +kernel) (by lia) (by lia);have a3:uH (.int (c % 2147483629+7919*j+1)) (.int 48271) s'=.ok (.int ((c % 2147483629+7919*j+1)*48271)) s':=z1T s' (by lia) (by lia) (by decide) (by decide +kernel);generalize hx1:(c % 2147483629+7919*j+1)*48271 % 2147483647=x1;have b0:0<=x1:=by rw[<- hx1];exact _bp _ (by decide)
    have a4:zau (.int ((c % 2147483629+7919*j+1)*48271)) (.int 2147483647) s'=.ok (.int x1) s':=by rw[<- hx1];exact z7o s' (by decide)
    have a6:uH (.int 69621) (.int j) s'=.ok (.int (69621*j)) s':=z1T s' (by decide) (by decide +kernel) (by lia) (by lia);generalize hx2:(x1*x1+69621*j+7) % 2147483587=x2;have a7:zau (.int (x1*x1+69621*j+7)) (.int 2147483587) s'=.ok (.int x2) s':=by rw[<- hx2];exact z7o s' (by decide)
    have a8:uH (.int m) (.int 2147483587) s'=.ok (.int (m*2147483587)) s':=z1T s' (by lia) (zj3 hm (by lia)) (by decide) (by decide +kernel);obtain⟨y,rfl⟩:=_cb (show 0<=x2 from by rw[<- hx2];exact _bp _ (by decide));refine⟨[some (.int c),some (.int (m*2147483587+y:Nat)),some (.int j),some (.int y)],s',?_,m*2147483587+y,_,_,rfl,rfl,?_⟩;·simp[a1,a2,a3,a4,(z1T s' b0 (by lia) b0 (by lia)),a6,a7,a8]
    ·rw[_ay];exact pow_step hm (by lia)) [some (.int c),some (.int 0),none,none] s ⟨0,none,none,rfl,rfl,by decide⟩;exact⟨ρ',s',by exact e,m,a,b,e1,e2⟩
  obtain⟨ρ',s',e,m,a,b,rfl,rfl⟩:=lp;have st:zE ["_law_cell","_law_number","_law_j","_law_more"] [.int c]=[some (.int c),none,none,none]:=rfl;simp only[vJ,Mof,qS,st,_w,_R,_K];rw[zo (ρ':=[some (.int c),none,none,none]) (s':=s') (by simp[zi4,h]),zo (ρ':=[some (.int c),some (.int 0),none,none]) (s':=s') (by rfl),zo e];simp[flC,flN,z0z,cap]
structure LS(s0:Sto)(l:Nat)(s:Sto)(xs:List Int):Prop where
 pot:Pot s l
 len:s.length=s0.length+1
 at_:s[s0.length]? = some (iL xs)
 oth:∀m,m≠l->m<s0.length->s[m]? = s0[m]?
theorem LS.drawn    (h:LS s0 l s xs)(hl:l<s0.length)(d:uE s s' l):LS s0 l s' xs:= ⟨d.pot,by rw[d.len,h.len],by rw[d.oth _ (by lia)];exact h.at_,λm h1 h2=>by rw[d.oth m h1];exact h.oth m h1 h2⟩
theorem LS.set    (h:LS s0 l s xs)(hl:l<s0.length)(ys:List Int):LS s0 l (s.set s0.length (iL ys)) ys:=by
 refine⟨?_,by simp[h.len],_ac (by rw[h.len];lia),λm h1 h2=>?_⟩
 ·obtain⟨p,e⟩:=h.pot;exact⟨p,by rw[_Q (by lia)];exact e⟩
 ·rw[_Q (by lia)];exact h.oth m h1 h2
theorem LS.fin    (h:LS s0 l s xs)(hl:l<s0.length):uE s0 (s.take s0.length) l:=by
 obtain⟨p,e⟩:=h.pot;refine⟨⟨p,by rw[_aQ hl];exact e⟩,by simp[h.len],λm h1=>?_⟩;by_cases h2:m<s0.length;·rw[_aQ h2];exact h.oth m h1 h2
 ·rw[_a3 (by simp[h.len];lia),_a3 (by lia)]
theorem LS.start   (d:uE s0 s l)(h:Pot s0 l)(xs:List Int):LS s0 l (s++[iL xs]) xs:= ⟨d.pot.app _,by simp[d.len],by rw[<- d.len];simp,λm h1 h2=>by rw[_u (by rw[d.len];exact h2)];exact d.oth m h1⟩
theorem uE.trans   (a:uE s s1 l)(b:uE s1 s2 l):uE s s2 l:=⟨b.pot,by rw[b.len,a.len],λm h=>by rw[b.oth m h,a.oth m h]⟩
theorem qH      (h:Pot s l)(h0:0<far)(h1:far<2 ^ 2000)(hf:f ρ s=.ok (.loc l) s)(hg:g ρ s=.ok (.int far) s):∃r s',zh zF (za f (za g zn)) ρ s=.ok (.int r) s'/\0<=r/\r<far/\uE s s' l:=by
 obtain⟨r,s',e,a,b,c⟩:=zeF h h0 h1;exact⟨r,s',by rw[call2 hf hg,e],a,b,c⟩
theorem zhG      (hl:s[l]? = some xs)(h0:0<=i)(h:xs[i.toNat]? = some d):dIx (.loc l) (.int i) s=.ok d s:=by
 have hj  := (_d.mp h).1;simp only[dIx,zU,hl,atI,(show ixN xs.length i=some i.toNat from by
  unfold ixN;rw[_g h0,_g (by lia)]),_U,h]
theorem z5R      {i x:Int}(hc:fc ρ s=.ok (.int x) s1)(ha:fa ρ s1=.ok (.loc L) s1)(hb:fb ρ s1=.ok (.int i) s2)(at_:s2[L]? = some (iL xs))(h0:0<=i)(h1:i<xs.length):z6p fa fb fc ρ s=.ok (.nx ρ) (s2.set L (iL (xs.set i.toNat x))):=by
 rw[zgr,hc,Rb,ha,Rb,hb,Rb];simp only[at_,(show ixN (iL xs).length i=some i.toNat from by
  unfold ixN;rw[_g h0,_g (by simp;lia)]),z0z,_K,List.map_set]
theorem zbI{xs:List Int}   (h:∀y∈xs,0<=y/\y<=B)(hx:0<=x/\x<=B):∀y∈xs.set i x,0<=y/\y<=B:=λy hy=>by
 rcases List.mem_or_eq_of_mem_set hy with h2 | h2;·exact h y h2
 ·rw[h2];exact hx
theorem z3X{x:Int}(h:x<=1000):x<2 ^ 2000:=Int.lt_of_le_of_lt h (by decide +kernel)
theorem zcW    : z88 n (.ok (rD v) s)=.ok (rD v) (s.take n):=z8x (xN v)
theorem zfX      (h:ns≠[])(e:s[L]? = some (iL ns))(hf:f ρ s=.ok (.loc L) s):tOf (eOp dEq (zh yT (za f zn)) (eC (.int 0))) ρ s=.ok (decide (maxL ns=0)) s:=by
 rw[z6K,vT,vc hf,zcM h e];rfl
theorem z8V  (h:ns≠[])(hn:∀y∈ns,0<=y)(hm:maxL ns≠0):∃x∈ns,0<x:=⟨maxL ns,maxL_mem h,by have:=hn _ (maxL_mem h);lia⟩
noncomputable def okD:Nat->D->Bool
 | _,.non=>true | _,.bl _=>true | _,.int _=>true | _,.str x=>PyData.strOk x | k+1,.tup xs=>xs.all (okD k) | k+1,.lst xs=>xs.all (okD k) | _,_=>false
theorem zkL  : ∀(xs:List D),(∀x∈xs,PyData.canLay0 (z0j x)=true/\PyData.depth (z0j x)<=2*k+3/\PyData.eqv (z0j x) (z0j x)=true)->PyData.canLayAll0 (toPys xs)=true/\PyData.depthAll (toPys xs)<=2*k+4/\PyData.eqvAll (toPys xs) (toPys xs)=true
 | [],_=>⟨rfl,by simp[tPn,PyData.depthAll],by simp[tPn,PyData.eqvAll]⟩ | x::xs,h=>by
  have h1:=h x (by simp);have h2:=zkL xs λy hy=>h y (by simp[hy]);refine⟨by simp[tPc,PyData.canLayAll0,h1.1,h2.1],?_,by simp[tPc,PyData.eqvAll,h1.2.2,h2.2.2]⟩;simp only[tPc,PyData.depthAll];lia
theorem zer:∀(k:Nat)(d:D),okD k d=true->PyData.canLay0 (z0j d)=true/\PyData.depth (z0j d)<=2*k+3/\PyData.eqv (z0j d) (z0j d)=true:=by
 intro k;induction k with
 | zero=>
  intro d h;cases d with
  | str x=>change PyData.strOk x=true at h;change PyData.canLay0 (.str x)=true/\PyData.depth (.str x)<=_/\PyData.eqv (.str x) (.str x)=true;simp[PyData.canLay0,PyData.depth,PyData.eqv,h] | non=>change PyData.canLay0 .none=true/\PyData.depth .none<=_/\PyData.eqv .none .none=true;simp[PyData.canLay0,PyData.depth,PyData.eqv] | bl b=>change PyData.canLay0 (.bool b)=true/\PyData.depth (.bool b)<=_/\PyData.eqv (.bool b) (.bool b)=true;simp[PyData.canLay0,PyData.depth,PyData.eqv] | int i=>change PyData.canLay0 (.int i)=true/\PyData.depth (.int i)<=_/\PyData.eqv (.int i) (.int i)=true;simp[PyData.canLay0,PyData.depth,PyData.eqv] | _=>exact nomatch (h:false=true)
 | succ k ih=>
  intro d h;cases d with
  | str x=>change PyData.strOk x=true at h;change PyData.canLay0 (.str x)=true/\PyData.depth (.str x)<=_/\PyData.eqv (.str x) (.str x)=true;simp[PyData.canLay0,PyData.depth,PyData.eqv,h] | non=>change PyData.canLay0 .none=true/\PyData.depth .none<=_/\PyData.eqv .none .none=true;simp[PyData.canLay0,PyData.depth,PyData.eqv] | bl b=>change PyData.canLay0 (.bool b)=true/\PyData.depth (.bool b)<=_/\PyData.eqv (.bool b) (.bool b)=true;simp[PyData.canLay0,PyData.depth,PyData.eqv] | int i=>change PyData.canLay0 (.int i)=true/\PyData.depth (.int i)<=_/\PyData.eqv (.int i) (.int i)=true;simp[PyData.canLay0,PyData.depth,PyData.eqv] | tup xs=>
   have h:=_aC.mp h;have q:=zkL  xs λx hx=>ih x (h x hx);refine⟨by simp only[ziP,PyData.canLay0,q.1],?_,by simp only[ziP,PyData.eqv,q.2.2]⟩;simp only[ziP,PyData.depth];lia | lst xs=>
   have h:=_aC.mp h;have q:=zkL  xs λx hx=>ih x (h x hx);refine⟨by simp only[zkY,PyData.canLay0,q.1],?_,by simp only[zkY,PyData.eqv,q.2.2]⟩;simp only[zkY,PyData.depth];lia | _=>exact nomatch (h:false=true)
theorem z9i   (h:okD k d=true)(hk:k<=10):zdc d=true:=by
 have q:=zer k d h;simp only[zdc,SeqAt.shaped,q.1];simp;lia
theorem ne_self   (h:okD k d=true)(hk:k<=10)(s:Sto):dNe d d s=.ok (.bl false) s:=by
 have o:=z9i h hk;rw[dNe,_g ⟨o,o⟩];simp only[eqD,(zer k d h).2.2];rfl
theorem zfs(k:Nat)(ns:List Int):(iL ns).all (okD k)=true:=by
 rw[_aC];intro x hx;obtain⟨n,_,rfl⟩:=_E.mp hx;cases k<;>rfl
theorem z7S(k:Nat)(ns:List Int):okD (k+1) (rD ns)=true:=zfs k ns
theorem zi7(k:Nat)(T:Tb):okD (k+2) (tD T)=true:=by
 show (T.map rD).all (okD (k+1))=true;rw[_aC];intro x hx;obtain⟨n,_,rfl⟩:=_E.mp hx;exact z7S k n
theorem z9k(k:Nat)(T:Tb):okD (k+2) (.lst (T.map rD))=true:=zi7 k T
end Pg
namespace Pn
open L2 Dd Pm Pg
noncomputable def isI:D->Bool
 | .int _=>true | _=>false
theorem z6P  (h:(tyD d).isSome=true)(s:Sto):xc [d] s=.ok (.bl (isI d)) s:=by cases d<;>first | rfl | cases h
theorem z1w:LeM yM qg:=LeM.mof (LeS.if_ LeS.fNo LeS.rfl)
theorem kN:LeM zP uj:=LeM.mof (LeS.seq (LeS.drop (LeE.call z1w)) LeS.calm)
theorem ziE     (h:f ρ s=.ex c s'):zL f g ρ s=.ex c s':=by rw[zht,h,R.bind_ex]
end Pn
namespace Pg
open L2 Dd Pm
theorem vr     (h:ρ[i]? = some (some d)):zd i ρ s=.ok d s:=by rw[xV,h]
theorem z9f     (h:t ρ s=.ok false s):fIf t f g ρ s=g ρ s:=by rw[z1d,h,Rb,_l (by decide)]
theorem zbm    (h:t ρ s=.ok false s)(h2:u ρ s=.ok false s):fOr t u ρ s=.ok false s:=by rw[zkO,h,Rb,_l (by decide),h2]
theorem xg     (h:f ρ s=.ok (.bl b) s):tOf f ρ s=.ok b s:=by rw[z6K,h];rfl
theorem zd2    (h:t ρ s=.ok true s):z0F t ρ s=.ok false s:=by rw[z5L,h];rfl
end Pg
namespace Pg
open L2 Dd Pm
theorem z38{ar:FA}{ρ:Ev}{s s1:Sto}{n:Nat}(hn:n<=1000)(h:ar ρ s=.ok [.int n] s1):z5U ar ρ s=.ok ((List.range n).map λk:Nat=>D.int ((k:Nat):Int),[]) s1:=by
 rw[zen,h,Dd.R.bind_ok];simp only;rw[_g ⟨by lia,by lia⟩];rfl
end Pg
namespace Pm
open L2 (maxL minL maxL_ge maxL_mem minL_le minL_mem)
noncomputable abbrev enP(v:List Int):List (Int×Nat):=v.zipIdx
end Pm
namespace Pg
open L2 Dd Pm
theorem z7a{α:Type}   (g:α->D)(P:Nat->Sto->Prop)(Q:D->Prop):∀(l:List α)(j:Nat)(af:List D)(s:Sto),(∀i a,l[i]? = some a->∀s,P (j+i) s->∃y s',body (g a) s=.ok (some y) s'/\Q y/\P (j+i+1) s')->af.length+l.length<=cap->P j s->(∀y∈af,Q y)->∃ys s',va [] all body (l.map g) af s=.ok ys s'/\ys.length=af.length+l.length/\(∀y∈ys,Q y)/\P (j+l.length) s'
 | [],j,af,s,_,_,hP,hQ=>⟨af,s,by simp[va,okG],by simp,hQ,hP⟩ | x::xs,j,af,s,hb,hl,hP,hQ=>by
  obtain⟨y,s1,e,hy,pK⟩:=hb 0 x (by simp) s hP;obtain⟨ys,s2,e2,h1,h2,h3⟩:=z7a (all:=all) g P Q xs (j+1) (af++[y]) s1 (λi a ha s h=>by
   have:=hb (i+1) a (by simpa using ha) s (by rw[show j+(i+1)=j+1+i by lia];exact h);rw[show j+(i+1)+1=j+1+i+1 by lia]at this;exact this) (by simp at hl ⊢;lia) pK (by
   intro z hz;rcases _C.mp hz with hz | hz;·exact hQ z hz
   ·simp at hz;rw[hz];exact hy);refine⟨ys,s2,?_,by simp at h1 ⊢;lia,h2,by rw[_w,show j+(xs.length+1)=j+1+xs.length by lia];exact h3⟩;rw[_H,va,_g (by intro p hp;simp at hp),e];simp[(show af.length<cap from by simp at hl;lia),e2]
theorem zdj{α:Type}       (g:α->D)(ev:α->Ev)(P:Nat->Sto->Prop)(Q:D->Prop)(l:List α) (hi:fi ρ s=.ok (l.map g,[]) s0)(hg:∀a∈l,∀s,fg (g a) (ye mp ρ) s=.ok (ev a) s)(he:∀i a,l[i]? = some a->∀s,P i s->∃y s',fe (ev a) s=.ok y s'/\Q y/\P (i+1) s')(hl:l.length<=cap)(hP:P 0 s0): ∃ys s',z4u fi mp fg z0u fe ρ s=.ok ys s'/\ys.length=l.length/\(∀y∈ys,Q y)/\P l.length s':=by
 obtain⟨ys,s',e,h1,h2,h3⟩:=z7a  (body:=λd s=>(fg d (ye mp ρ) s).bind fun ρ' s1=>(z0u ρ' s1).bind λt s2=>if t=true then (fe ρ' s2).bind λy s3=>.ok (some y) s3 else .ok none s2) g P Q l 0 [] s0 (λi a ha s hP=>by
  rw[_ay]at hP ⊢;obtain⟨y,s',e,hq,hp⟩:=he i a ha s hP;exact⟨y,s',by simp[hg a (_r ha) s,e],hq,hp⟩) (by simpa using hl) hP (by simp);refine⟨ys,s',?_,by simpa using h1,h2,by simpa using h3⟩;rw[z6J,hi];exact e
theorem zch{α:Type}       (g:α->D)(ev:α->Ev)(P:Nat->Sto->Prop)(Q:D->Prop)(l:List α) (hi:fi ρ s=.ok (l.map g,[]) s0)(hg:∀a∈l,∀s,fg (g a) (ye mp ρ) s=.ok (ev a) s)(he:∀i a,l[i]? = some a->∀s,P i s->∃y s',fe (ev a) s=.ok y s'/\Q y/\P (i+1) s')(hl:l.length<=cap)(hP:P 0 s0)(hf:∀y,Q y->y.flat=true): ∃ys s',z2F fi mp fg z0u fe ρ s=.ok (.loc s'.length) (s'++[ys])/\ys.length=l.length/\(∀y∈ys,Q y)/\P l.length s':=by
 obtain⟨ys,s',e,h1,h2,h3⟩:=zdj g ev P Q l hi hg he hl hP;exact⟨ys,s',by rw[zc9,e,Dd.R.bind_ok,_g ((λzs=>by induction zs with
  | nil=>intro _;rfl | cons z zs ih=>intro hz;simp only[flC,flN,_L];exact⟨hf z (hz z (by simp)),ih λy hy=>hz y (by simp[hy])⟩:∀zs:List D,(∀y∈zs,Q y)->D.flat.flats zs=true) ys h2)],h1,h2,h3⟩
end Pg
namespace Po
open L2 Dd Pm Pg Pn
theorem z4E:∀(v:List Int)(k:Nat),z35 k (iL v)=(v.zipIdx k).map λp=>D.tup [.int ((p.2:Nat):Int),.int p.1]
 | [],k=>rfl | x::v,k=>by simp[z35,z4E v (k+1)]
theorem zcl{v:List Int}{f:FE}{ρ:Ev}{s:Sto}(hf:f ρ s=.ok (rD v) s):zcd (za f zn) ρ s=.ok ((enP v).map λp=>D.tup [.int ((p.2:Nat):Int),.int p.1],[]) s:=by simp only[zcd,zr,hf,Rb,zM,zd0,z4E]
theorem z8w     (h:t ρ s=.ok true s):fIf t f g ρ s=f ρ s:=by rw[z1d,h,Rb,_g rfl]
end Po
namespace Pr
open L2 Dd Pm Pg Pn Po
theorem zkU(r:Rl)(s:Sto):dEq (.str (nmR r)) (.str "all") s=.ok (.bl (decide (r=.al))) s:=by
 rw[Pg.eq_str (zev r) (by decide +kernel)];congr 2;cases r<;>decide +kernel
end Pr
namespace Pn
open L2 Dd Pm Pg
theorem _root_.Dd.LeS.ifT   (h0:∀ ρ s b s',t ρ s=.ok b s'->t' ρ s=.ok b s')(h:LeS f f')(h2:LeS g g'):LeS (fIf t f g) (fIf t' f' g'):=fun ρ s a s' e=>by
 rw[z1d]at e ⊢;cases q:t ρ s with
 | ok b s1=>
  rw[q]at e;rw[h0 ρ s b s1 q];cases b;·exact h2 ρ s1 a s' e
  ·exact h ρ s1 a s' e | ex c s1=>rw[q]at e;cases e | no=>rw[q]at e;cases e
theorem zhN  (h:LeE f g):∀ ρ s b s',tOf f ρ s=.ok b s'->tOf g ρ s=.ok b s':=fun ρ s b s' e=>by
 rw[z6K]at e ⊢;cases q:f ρ s with
 | ok d s1=>rw[q]at e;rw[h ρ s d s1 q];exact e | ex c s1=>rw[q]at e;cases e | no=>rw[q]at e;cases e
theorem z58:LeM yI qV:=LeM.mof (LeS.if_ LeS.fNo LeS.rfl)
theorem z2s:LeM zw zY:=LeM.mof (LeS.seq (LeS.drop (LeE.call z58)) (LeS.drop (LeE.call z1w)))
theorem z4Y:LeM yZ qY:=LeM.mof (LeS.seq (LeS.drop (LeE.call z2s)) (LeS.ifT (zhN (LeE.call kN)) LeS.fNo LeS.rfl))
theorem le_step:LeM M_step X_step:=LeM.mof (LeS.seq (LeS.drop (LeE.call z4Y)) (LeS.seq LeS.rfl (LeS.seq LeS.rfl LeS.calm)))
end Pn
namespace Pr
open L2 Dd Pm Pg Pn Po
open PySem.W
theorem z4y {α β:Type}   {fi2:D->Sto->R ItD} {fb:D->D->Sto->R D} (g:α->D) (g2:α->β->D) (l2:α->List β) (f:α->β->D):∀(l:List α) (af:List D),(∀a∈l,fi2 (g a) s=.ok ((l2 a).map (g2 a),[]) s)->(∀a∈l,∀b∈l2 a,fb (g a) (g2 a b) s=.ok (f a b) s)->af.length+(l.flatMap λa=>(l2 a).map (f a)).length<=cap-> z3o [] all (λd af s=>(fi2 d s).bind λcC s2=>va cC.2 cC.1 (λd2 s=>(fb d d2 s).bind λd s3=>.ok (some d) s3) cC.1 af s2) (l.map g) af s=.ok (af++l.flatMap λa=>(l2 a).map (f a)) s
 | [],af,_,_,_=>by simp[z3o,okG] | x::xs,af,h1,h2,hl=>by
  rw[List.flatMap_cons,_ab,_B]at hl;rw[_H,z3o,_g (by intro p hp;simp at hp),h1 x (by simp),Rb,(uL (s:=s) (all:=(l2 x).map (g2 x)) (body:=λd2 s=>(fb (g x) d2 s).bind λd s3=>.ok (some d) s3) (g2 x) (f x) (λ_=>true) (l2 x) af (λb hb=>by simp[h2 x (by simp) b hb]) (by lia)),Rb,List.filter_eq_self.mpr (by simp),z4y g g2 l2 f xs _ (λa ha=>h1 a (by simp[ha])) (λa ha=>h2 a (by simp[ha])) (by simp only[_ab,_B];lia)];simp
theorem z1v{α β:Type}        (g:α->D)(g2:α->β->D)(l:List α)(l2:α->List β)(f:α->β->D) (hi:fi ρ s=.ok (l.map g,[]) s)(bP:∀a∈l,fi2 ((ye mp ρ).set k1 (some (g a))) s=.ok ((l2 a).map (g2 a),[]) s)(he:∀a∈l,∀b∈l2 a,fe (((ye mp ρ).set k1 (some (g a))).set k2 (some (g2 a b))) s=.ok (f a b) s) (hl:(l.flatMap λa=>(l2 a).map (f a)).length<=cap):jR fi mp k1 k2 fi2 fe ρ s=.ok (.lst (l.flatMap λa=>(l2 a).map (f a))) s:=by
 unfold jR z7x;rw[hi,Rb,z4y   g g2 l2 f l [] bP he (by simpa using hl)];rfl
theorem zhT  {m:Nat}(s:Sto)(h0:0<=x)(h1:x<=1000)(d0:0<=d)(d1:d<=1000)(hm:m<=99):yN [.int x,.int d,.int m] s=.ok (.lst (iL (z0n x d m))) s:=by
 have st:zE ["left","divider","most"] [.int x,.int d,.int m]=[some (.int x),some (.int d),some (.int m)]:=rfl;unfold yN Mof vm;rw[_g (by rfl),st,wX,xo,zb6,xg  (by rw[op2   (vr rfl) (vr rfl),zkg]),Rb];unfold z0n;by_cases q:x<d
 ·rw[_g (by simpa using q),_g q,ziX,zr,vr  rfl,Rb,zr,op2   (vr rfl) rfl,jn,Rb,zr,vr  rfl,Rb,zM];simp only[Rb];rw[_g ⟨h0,h1,by lia,by lia,by lia,d1⟩];simp[zaf,_bq]
 ·rw[_l (by simpa using q),_l q,kU,zM];simp[cap]
end Pr
namespace Dd
open L2
def asT:D->List D
 | .tup l=>l | _=>[]
def asI:D->Option Int
 | .int i=>some i | _=>none
def asL:D->Option (List D)
 | .lst l=>some l | _=>none
noncomputable def zkj(x:D):Option (Int×List D×Bool):=((asT x)[0]?.bind asI).bind λi=>((asT x)[1]?.bind asL).map λys=>(i,ys,(asT x)[2]?.isSome)
def zmu(k:Int):List D->Option (Option (List D×Bool))
 | []=>some none | x::t=>(zkj x).bind λq=>if q.1=k then some (some q.2) else zmu k t
def chK(g:List D->D)(k:Int):List D->List D
 | []=>[] | x::t=>(zkj x).elim (x::chK g k t) λq=>if q.1=k then g q.2.1::t else x::chK g k t
section
variable {mg:Gm}{H H':Hp}{Y:List Addr}{s:Sto}{l:Nat}{a p b:Addr}{xs ys:List D}{kvs:List (Key×V)}{k:Int}{vs:List V}{d:D}{v:V}
theorem z4d.cons{x:D}(h:z4d mg H Y (x::xs) kvs):∃i ys z b vs r,zkj x=some (i,ys,z)/\kvs=(Sum.inl i,V.ref b)::r/\zG mg H Y ys vs/\((x=.tup [.int i,.lst ys]/\z=false/\H b=some (.lst vs))\/(x=.tup [.int i,.lst ys,.non]/\z=true/\∃o,H b=some (.frz o (.lst vs))))/\z4d mg H Y xs r:= let ⟨i,ys,b,vs,r,e,h1,h2,h3⟩:=h;h2.elim (λ⟨q,w⟩=>⟨i,ys,false,b,vs,r,q ▸ rfl,e,h1,.inl ⟨q,rfl,w⟩,h3⟩) λ⟨q,w⟩=>⟨i,ys,true,b,vs,r,q ▸ rfl,e,h1,.inr ⟨q,rfl,w⟩,h3⟩
theorem yQ.layP  (r:Rep mg H Y s)(hp:H p=none):yQ mg H Y (upd H p o) Y s:= have d:DkS H Y (upd H p o) Y:=λa ha kvs e=>⟨ha,by rw[zk (show a≠p from λz=>r.notin hp (z ▸ ha))]at e;exact e⟩;⟨⟨r.len,r.nd,λl xs h=>let ⟨a,h1,h2⟩:=r.cell l xs h;⟨a,h1,h2.gen (.new hp) (λ_ _ q=>q) (zk (h2.ne hp)) (_r h1) r.own (λb vs _ q=>yY hp b _ q)⟩,r.flat,λb h=>r.own b (d.own h),d.uq r⟩,_cA _,λb u h _ _=>yY hp b u h,λa h1 h2=>absurd h1 h2,λa ha=>(r.mt a ha).imp (λh=>⟨h,(Kp.new hp).l a h⟩) λh=>⟨h,(Kp.new hp).c a h,λ_ _ e=>yY hp a _ e⟩,λb h=>z1G h,λb h=>.inl (d.own h)⟩
end
end Dd
namespace Dt
noncomputable def z1n:Bool->Keyed->Array Keyed->Nat->Nat->Nat->StateT SortSt Sem (Option Nat):=sortPriv% PySem.Builtin.gallop
noncomputable def zdf:Array Keyed->Array Keyed->StateT SortSt Sem (Array Keyed):=sortPriv% PySem.Builtin.mergeLo
noncomputable def zdh:Array Keyed->Array Keyed->StateT SortSt Sem (Array Keyed):=sortPriv% PySem.Builtin.mergeHi
noncomputable def zgR(left:Bool)(key:Keyed)(arr:Array Keyed)(base i:Nat):StateT SortSt Sem (Option Bool):=do
 let x <- elem' arr (base+i) if left then lt' x key else return (<- lt' key x).map (!·)
noncomputable def at_(arr:Array Keyed)(i:Nat):Keyed:=arr.getD i (Value.none,Value.none)
theorem z63   (h:i<arr.size):arr[i]? = some (at_ arr i):=by simp[at_,h]
structure Env(prog:Program)(w:World)(A:Around)(s:Shared)(κ:SortKind)(P:Keyed->Prop)(rk:Keyed->Nat):Prop where cmp:∀x y,P x->P y->∀(C:Bool->Shared->Prop)(E:Value->Shared->Prop),C (decide (rk x<rk y)) s->wpAny (model prog w) A (keyLt' κ x.1 y.1) C E s
section
variable {prog:Program}{w:World}{A:Around}{E:Value->Shared->Prop}{s:Shared}{κ:SortKind}{P:Keyed->Prop}{rk:Keyed->Nat}(V:Env prog w A s κ P rk) {arr a b:Array Keyed}{st:SortSt}
theorem zW   (h:i<arr.size)(q:Q (at_ arr i) st):wpS (model prog w) A E s (elem' arr i) Q st:=by
 rw[elem'_eq,z63 h];exact _m q
include V
theorem zbd   (hk:kindOf st=κ)(hx:P x)(hy:P y)(h:Q (some (decide (rk x<rk y))) st):wpS (model prog w) A E s (lt' x y) Q st:=by
 rw[lt'_eq];refine _i (_cn ?_);rw[hk];exact _i (_dc (_bt (V.cmp x y hx hy _ _ ⟨rfl,(_m h)⟩)))
noncomputable def bey(rk:Keyed->Nat)(left:Bool)(key x:Keyed):Bool:=if left then decide (rk x<rk key) else !decide (rk key<rk x)
theorem uF{left:Bool}{key:Keyed}{base i:Nat}{Q:Option Bool->SortSt->Prop}(hk:kindOf st=κ)(hP:∀i,i<arr.size->P (at_ arr i))(hx:P key)(hi:base+i<arr.size)(h:Q (some (bey rk left key (at_ arr (base+i)))) st):wpS (model prog w) A E s (zgR left key arr base i) Q st:=by
 refine _i (zW hi ?_);cases left;·exact _i (zbd V hk hx (hP _ hi) (_m h))
 ·exact zbd V hk (hP _ hi) hx h
theorem vR{left:Bool}{key:Keyed}{base n hint:Nat}{Q:Option Nat->SortSt->Prop}(hk:kindOf st=κ)(hP:∀i,i<arr.size->P (at_ arr i))(hx:P key)(hb:base+n<=arr.size)(hh:hint<n) (mono:∀i j,i<=j->j<n->bey rk left key (at_ arr (base+j))=true->bey rk left key (at_ arr (base+i))=true) (h:∀k,k<=n->(∀i,i<k->bey rk left key (at_ arr (base+i))=true)->(∀i,k<=i->i<n->bey rk left key (at_ arr (base+i))=false)->Q (some k) st):wpS (model prog w) A E s (z1n left key arr base n hint) Q st:=by
 have cR:∀i j,i<=j->j<n->bey rk left key (at_ arr (base+i))=false->bey rk left key (at_ arr (base+j))=false:=λi j h1 h2 h3=>by
  cases e:bey rk left key (at_ arr (base+j));·rfl
  ·rw[mono i j h1 h2 e]at h3;cases h3
 refine _i (uF V hk hP hx  (by lia) ?_);dsimp only;cases e:bey rk left key (at_ arr (base+hint))
 ·refine _i (_bK (_aU (I:=λx c ag=>ag=st/\∃l o,c=(none,l,o)/\x+1<=o/\l<o/\l<=hint/\bey rk left key (at_ arr (base+(hint-l)))=false) (Q:=λc ag=>ag=st/\∃l o,c=(none,l,o)/\hint+1-min o (hint+1)<=hint-l/\hint-l<=n/\(∀i,i<hint+1-min o (hint+1)->bey rk left key (at_ arr (base+i))=true)/\(∀i,hint-l<=i->i<n->bey rk left key (at_ arr (base+i))=false)) ?_ ?_ ⟨rfl,0,1,rfl,by lia,by lia,by lia,e⟩) ?_)
  ·rintro x c ag _ hx' ⟨rfl,l,o,rfl,h1,h2,h3,h4⟩;dsimp only;by_cases q:o ≥ hint+1
   ·rw[_g q];exact _m ⟨rfl,l,o,rfl,by lia,by lia,λi hi=>by lia,λi hi hn=>cR _ _ hi hn h4⟩
   ·rw[_l q];refine _i (uF V hk hP hx  (by lia) ?_);dsimp only;cases e2:bey rk left key (at_ arr (base+(hint-o)));·exact _m ⟨rfl,o,2*o+1,rfl,by lia,by lia,by lia,e2⟩
    ·simp only[_K];exact _m ⟨rfl,l,o,rfl,by lia,by lia,λi hi=>mono i (hint-o) (by lia) (by lia) e2,λi hi hn=>cR _ _ hi hn h4⟩
  ·rintro c ag ⟨rfl,l,o,rfl,h1,h2,h3,h4⟩;exact⟨rfl,l,o,rfl,by lia,by lia,λi hi=>by lia,λi hi hn=>cR _ _ hi hn h4⟩
  ·rintro c ag ⟨rfl,l,o,rfl,f1,f2,f3,f4⟩;dsimp only;generalize hint+1-min o (hint+1)=lo at f1 f3;generalize hint-l=hi at f1 f2 f4;refine _i (_bK (_aU (I:=λx c au=>au=ag/\∃lo hi,c=(none,lo,hi)/\hi-lo<=n-x/\lo<=hi/\hi<=n/\(∀i,i<lo->bey rk left key (at_ arr (base+i))=true)/\(∀i,hi<=i->i<n->bey rk left key (at_ arr (base+i))=false)) (Q:=λc au=>au=ag/\∃k,c=(none,k,k)/\k<=n/\(∀i,i<k->bey rk left key (at_ arr (base+i))=true)/\(∀i,k<=i->i<n->bey rk left key (at_ arr (base+i))=false)) ?_ ?_ ⟨rfl,lo,hi,rfl,by lia,f1,f2,f3,f4⟩) ?_)
   ·rintro x c au _ hx' ⟨rfl,lo,hi,rfl,h0,h1,h2,h3,h4⟩;dsimp only;by_cases q:lo ≥ hi
    ·rw[_g q];have:lo=hi:=by lia
     subst this;exact _m ⟨rfl,lo,rfl,h2,h3,h4⟩
    ·rw[_l q];refine _i (uF V hk hP hx  (by lia) ?_);dsimp only;cases e2:bey rk left key (at_ arr (base+(lo+(hi-lo) / 2)));·exact _m ⟨rfl,lo,_,rfl,by lia,by lia,by lia,h3,λi bG hn=>cR _ _ bG hn e2⟩
     ·simp only[_K];exact _m ⟨rfl,_,hi,rfl,by lia,by lia,by lia,λi bG=>mono _ _ (by lia) (by lia) e2,h4⟩
   ·rintro c au ⟨rfl,lo,hi,rfl,h0,h1,h2,h3,h4⟩;have:lo=hi:=by lia
    subst this;exact⟨rfl,lo,rfl,h2,h3,h4⟩
   ·rintro c au ⟨rfl,k,rfl,h2,h3,h4⟩;exact _m (h k h2 h3 h4)
 ·simp only[_K];refine _i (_bK (_aU (I:=λx c ag=>ag=st/\∃l o,c=(none,l,o)/\x+1<=o/\l<o/\hint+l<n/\bey rk left key (at_ arr (base+(hint+l)))=true) (Q:=λc ag=>ag=st/\∃l o,c=(none,l,o)/\hint+l+1<=hint+min o (n-hint)/\hint+min o (n-hint)<=n/\(∀i,i<hint+l+1->bey rk left key (at_ arr (base+i))=true)/\(∀i,hint+min o (n-hint)<=i->i<n->bey rk left key (at_ arr (base+i))=false)) ?_ ?_ ⟨rfl,0,1,rfl,by lia,by lia,by lia,e⟩) ?_)
  ·rintro x c ag _ hx' ⟨rfl,l,o,rfl,h1,h2,h3,h4⟩;dsimp only;by_cases q:o ≥ n-hint
   ·rw[_g q];exact _m ⟨rfl,l,o,rfl,by lia,by lia,λi hi=>mono i (hint+l) (by lia) h3 h4,λi hi hn=>by lia⟩
   ·rw[_l q];refine _i (uF V hk hP hx  (by lia) ?_);dsimp only;cases e2:bey rk left key (at_ arr (base+(hint+o)));·exact _m ⟨rfl,l,o,rfl,by lia,by lia,λi hi=>mono i (hint+l) (by lia) h3 h4,λi hi hn=>cR (hint+o) i (by lia) hn e2⟩
    ·exact _m ⟨rfl,o,2*o+1,rfl,by lia,by lia,by lia,e2⟩
  ·rintro c ag ⟨rfl,l,o,rfl,h1,h2,h3,h4⟩;exact⟨rfl,l,o,rfl,by lia,by lia,λi hi=>mono i (hint+l) (by lia) h3 h4,λi hi hn=>by lia⟩
  ·rintro c ag ⟨rfl,l,o,rfl,f1,f2,f3,f4⟩;dsimp only;generalize hint+l+1=lo at f1 f3;generalize hint+min o (n-hint)=hi at f1 f2 f4;refine _i (_bK (_aU (I:=λx c au=>au=ag/\∃lo hi,c=(none,lo,hi)/\hi-lo<=n-x/\lo<=hi/\hi<=n/\(∀i,i<lo->bey rk left key (at_ arr (base+i))=true)/\(∀i,hi<=i->i<n->bey rk left key (at_ arr (base+i))=false)) (Q:=λc au=>au=ag/\∃k,c=(none,k,k)/\k<=n/\(∀i,i<k->bey rk left key (at_ arr (base+i))=true)/\(∀i,k<=i->i<n->bey rk left key (at_ arr (base+i))=false)) ?_ ?_ ⟨rfl,lo,hi,rfl,by lia,f1,f2,f3,f4⟩) ?_)
   ·rintro x c au _ hx' ⟨rfl,lo,hi,rfl,h0,h1,h2,h3,h4⟩;dsimp only;by_cases q:lo ≥ hi
    ·rw[_g q];have:lo=hi:=by lia
     subst this;exact _m ⟨rfl,lo,rfl,h2,h3,h4⟩
    ·rw[_l q];refine _i (uF V hk hP hx  (by lia) ?_);dsimp only;cases e2:bey rk left key (at_ arr (base+(lo+(hi-lo) / 2)));·exact _m ⟨rfl,lo,_,rfl,by lia,by lia,by lia,h3,λi bG hn=>cR _ _ bG hn e2⟩
     ·simp only[_K];exact _m ⟨rfl,_,hi,rfl,by lia,by lia,by lia,λi bG=>mono _ _ (by lia) (by lia) e2,h4⟩
   ·rintro c au ⟨rfl,lo,hi,rfl,h0,h1,h2,h3,h4⟩;have:lo=hi:=by lia
    subst this;exact⟨rfl,lo,rfl,h2,h3,h4⟩
   ·rintro c au ⟨rfl,k,rfl,h2,h3,h4⟩;exact _m (h k h2 h3 h4)
end
section
variable {rk:Keyed->Nat}{a b out:Array Keyed}{ia ib:Nat}
def Srt(rk:Keyed->Nat)(a:Array Keyed):Prop:=∀i j,i<=j->j<a.size->rk (at_ a i)<=rk (at_ a j)
structure Mlo(rk:Keyed->Nat)(a b:Array Keyed)(ia ib:Nat)(out:Array Keyed):Prop where
 pm:out.toList.Perm (a.toList.take ia++b.toList.take ib)
 pw:out.toList.Pairwise λx y=>rk x<=rk y
 la:∀x∈out.toList,∀i,ia<=i->i<a.size->rk x<=rk (at_ a i)
 lb:∀x∈out.toList,∀j,ib<=j->j<b.size->rk x<=rk (at_ b j)
theorem zeV  (h:i<a.size):a.toList.take (i+1)=a.toList.take i++[at_ a i]:=by
 rw[List.take_succ];simp[at_,h]
theorem Mlo.pushA(h:Mlo rk a b ia ib out)(sa:Srt rk a)(hi:ia<a.size)(le:∀j,ib<=j->j<b.size->rk (at_ a ia)<=rk (at_ b j)):Mlo rk a b (ia+1) ib (out.push (at_ a ia)):=by
 refine⟨?_,?_,?_,?_⟩
 ·rw[zeV hi,_an];refine (h.pm.append_right _).trans ?_;rw[_aa,_aa];exact _cw.append_left _
 ·rw[_an,List.pairwise_append];exact⟨h.pw,List.pairwise_singleton _ _,λx hx y hy=>by rw[_V.mp hy];exact h.la x hx _ (_h _) hi⟩
 ·intro x hx i h1 h2;rw[_an]at hx;rcases _C.mp hx with hx | hx;·exact h.la x hx i (by lia) h2
  ·rw[_V.mp hx];exact sa _ _ (by lia) h2
 ·intro x hx j h1 h2;rw[_an]at hx;rcases _C.mp hx with hx | hx;·exact h.lb x hx j h1 h2
  ·rw[_V.mp hx];exact le j h1 h2
theorem Mlo.swap(h:Mlo rk a b ia ib out):Mlo rk b a ib ia out:=⟨h.pm.trans _cw,h.pw,h.lb,h.la⟩
theorem Mlo.pushB(h:Mlo rk a b ia ib out)(sb:Srt rk b)(hi:ib<b.size)(le:∀i,ia<=i->i<a.size->rk (at_ b ib)<=rk (at_ a i)):Mlo rk a b ia (ib+1) (out.push (at_ b ib)):=(h.swap.pushA sb hi le).swap
theorem zcw  (h:i+k<a.size):a.extract i (i+(k+1))=(a.extract i (i+k)).push (at_ a (i+k)):=by
 apply Array.ext_getElem?;intro j;rw[Array.getElem?_push,_co,_co,_dd];by_cases e:j=k
 ·subst e;rw[_g (by lia),_g (by lia)];exact z63 h
 ·rw[_l (show ¬ j=min (i+k) a.size-i by lia)];by_cases q:j<k;·rw[_g (by lia),_g (by lia)]
  ·rw[_l (by lia),_l (by lia)]
theorem Mlo.moreA(h:Mlo rk a b ia ib out)(sa:Srt rk a):∀k,ia+k<=a.size->(∀i,ia<=i->i<ia+k->∀j,ib<=j->j<b.size->rk (at_ a i)<=rk (at_ b j))->Mlo rk a b (ia+k) ib (out++a.extract ia (ia+k))
 | 0,_,_=>by
  rw[_by,show a.extract ia ia=#[] by simp;lia];exact h | k+1,hk,le=>by
  rw[zcw (by lia),Array.append_push];exact (h.moreA sa k (by lia) λi h1 h2=>le i h1 (by lia)).pushA sa (by lia) λj=>le _ (by lia) (by lia) j
theorem Mlo.moreB(h:Mlo rk a b ia ib out)(sb:Srt rk b)(k:Nat)(hk:ib+k<=b.size)(le:∀j,ib<=j->j<ib+k->∀i,ia<=i->i<a.size->rk (at_ b j)<=rk (at_ a i)):Mlo rk a b ia (ib+k) (out++b.extract ib (ib+k)):=(h.swap.moreA sb k hk le).swap
def Mrg(rk:Keyed->Nat)(a b r:Array Keyed):Prop:=r.toList.Perm (a.toList++b.toList)/\r.toList.Pairwise λx y=>rk x<=rk y
theorem Mlo.fin(h:Mlo rk a b a.size b.size out):Mrg rk a b out:=⟨by have:=h.pm;rwa [_aZ (by simp),_aZ (by simp)]at this,h.pw⟩
theorem Mlo.done(h:Mlo rk a b ia ib out)(sa:Srt rk a)(hi:ia<=a.size)(e:ib=b.size):Mrg rk a b (out++a.extract ia a.size++b.extract ib b.size):=by
 subst e;have:=h.moreA sa (a.size-ia) (by lia) λi h1 h2 j h3 h4=>absurd h3 (by lia);rw[show ia+(a.size-ia)=a.size by lia]at this;rw[show b.extract b.size b.size=#[] by simp];exact this.fin
theorem Mlo.lastA(h:Mlo rk a b ia ib out)(sa:Srt rk a)(sb:Srt rk b)(hi:ib<=b.size)(e:ia+1=a.size)(lt:∀j,j<b.size->rk (at_ b j)<=rk (at_ a (a.size-1))):Mrg rk a b (out++b.extract ib b.size++a.extract ia a.size):=by
 have h1:=h.moreB sb (b.size-ib) (by lia) λj h1 h2 i h3 h4=>by
  have:i=a.size-1:=by lia
  subst this;exact lt j (by lia)
 rw[show ib+(b.size-ib)=b.size by lia]at h1;have h2:=h1.moreA sa 1 (by lia) λi h1 h2 j h3 h4=>absurd h3 (by lia);rw[e]at h2;exact h2.fin
end
section
variable {prog:Program}{w:World}{A:Around}{E:Value->Shared->Prop}{s:Shared}{κ:SortKind}{P:Keyed->Prop}{rk:Keyed->Nat}(V:Env prog w A s κ P rk) {arr a b:Array Keyed}{st:SortSt}
omit V in
theorem yq{α:Type}{c:Prop} [Decidable c]{u v:StateT SortSt Sem α}{Q:α->SortSt->Prop}{st:SortSt}(h1:c->wpS (model prog w) A E s u Q st)(h2:¬ c->wpS (model prog w) A E s v Q st):wpS (model prog w) A E s (if c then u else v) Q st:=by
 split;·exact h1 ‹_›
 ·exact h2 ‹_›
omit V in
theorem z09{α:Type}{c:Prop} [Decidable c]{u v:StateT SortSt Sem α}{Q:α->SortSt->Prop}{st:SortSt}(h1:c)(h2:wpS (model prog w) A E s u Q st):wpS (model prog w) A E s (if c then u else v) Q st:=yq (λ_=>h2) λh=>absurd h1 h
omit V in
omit V in
theorem zjN{α:Type}{c:Prop} [Decidable c]{u v x:StateT SortSt Sem α}{Q:α->SortSt->Prop}{st:SortSt}(h1:c->u=x)(h2:¬ c->v=x)(h:wpS (model prog w) A E s x Q st):wpS (model prog w) A E s (if c then u else v) Q st:=by
 split;·rw[h1 ‹_›];exact h
 ·rw[h2 ‹_›];exact h
omit V in
theorem zdn{a:Array Keyed}{i k:Nat}(h:¬ k > 0)(out:Array Keyed):out++a.extract i (i+k)=out/\i+k=i:=by
 have:k=0:=by lia
 subst this;refine⟨?_,rfl⟩;rw[show a.extract i (i+0)=#[] by simp;lia,Array.append_empty]
def z3j(st ag:SortSt):Prop:=kindOf ag=kindOf st/\arrOf ag=arrOf st/\pendingOf ag=pendingOf st/\failedOf ag=failedOf st
def zcP{ω τ:Type}(Tq:ω->SortSt->Prop)(J I:τ->SortSt->Prop):ForInStep (Option ω×τ)->SortSt->Prop
 | .done (some r,_),st=>Tq r st | .done (none,c),st=>J c st | .yield (some _,_),_=>False | .yield (none,c),st=>I c st
omit V in
theorem kf {ω τ:Type} {n m:Nat} {f:Nat->Option ω×τ->StateT SortSt Sem (ForInStep (Option ω×τ))} {K:Option ω×τ->SortSt->Prop} {c0:τ} (Tq:ω->SortSt->Prop) (J:τ->SortSt->Prop) (I:Nat->τ->SortSt->Prop) (step:∀i c st,m<=i->i<n->I i c st->wpS (model prog w) A E s (f i (none,c)) (zcP Tq J (I (i+1))) st) (fin:∀c st,I (max m n) c st->J c st) (h0:I m c0 st) (ret:∀r d st,Tq r st->K (some r,d) st) (nxt:∀c st,J c st->K (none,c) st):wpS (model prog w) A E s (forIn [m:n] (none,c0) f) K st:=by
 refine _bK (_aU (I:=λx c ag=>∃d,c=(none,d)/\I x d ag) (Q:=λc ag=>(∃r d,c=(some r,d)/\Tq r ag)\/∃d,c=(none,d)/\J d ag) ?_ ?_ ⟨_,rfl,h0⟩) ?_
 ·rintro i c ag hm hi ⟨d,rfl,h⟩;refine _bK (step i d ag hm hi h) λr au e=>?_;match r,e with
  | .done (some r,d),e=>exact .inl ⟨r,d,rfl,e⟩ | .done (none,d),e=>exact .inr ⟨d,rfl,e⟩ | .yield (none,d),e=>exact⟨d,rfl,e⟩
 ·rintro c ag ⟨d,rfl,h⟩;exact .inr ⟨d,rfl,fin d ag h⟩
 ·rintro c ag (⟨r,d,rfl,h⟩ | ⟨d,rfl,h⟩);·exact ret r d ag h
  ·exact nxt d ag h
include V
theorem z98  (hk:kindOf st=κ) (Pa:∀i,i<a.size->P (at_ a i)) (Pb:∀i,i<b.size->P (at_ b i)) (sa:Srt rk a) (sb:Srt rk b) (na:1<=a.size) (nb:1<=b.size) (first:rk (at_ b 0)<rk (at_ a 0)) (cD:rk (at_ b (b.size-1))<rk (at_ a (a.size-1))) (h:∀r ag,z3j st ag->Mrg rk a b r->Q r ag):wpS (model prog w) A E s (zdf a b) Q st:=by
 have lastA:∀j,j<b.size->rk (at_ b j)<rk (at_ a (a.size-1)):=λj hj=>by have:=sb j (b.size-1) (by lia) (by lia);lia
 have ff  := λj hj=>_ax (lastA j hj);have m1:Mlo rk a b 0 1 #[at_ b 0]:=by
  have m0:Mlo rk a b 0 0 #[]:=⟨by simp,by simp,λx hx=>by simp at hx,λx hx=>by simp at hx⟩;exact m0.pushB sb (by lia) λi _ hi=>by have:=sa 0 i (by lia) hi;lia
 have fin:∀{out:Array Keyed} {ia ib:Nat},Mlo rk a b ia ib out->ib<=b.size->ia+1=a.size->Mrg rk a b (out++b.extract ib b.size++a.extract ia a.size):=λm hb e=>m.lastA sa sb hb e ff;have ga:∀{ag:SortSt} {ia ib:Nat} {R:Option Nat->SortSt->Prop},kindOf ag=κ->ia<a.size->ib<b.size->(∀k,ia+k<a.size->(∀i,ia<=i->i<ia+k->rk (at_ a i)<=rk (at_ b ib))->(∀i,ia+k<=i->i<a.size->rk (at_ b ib)<rk (at_ a i))->R (some k) ag)->wpS (model prog w) A E s (z1n false (at_ b ib) a ia (a.size-ia) 0) R ag:=λ{ag ia ib R} k1 h1 h2 hh=>by
  refine vR V k1 Pa (Pb _ h2) (by lia) (by lia) (λi j aI hj=>?_) λk hk f1 f2=>?_
  ·simp only[bey,_o,_M,_aN,_aj];have:=sa (ia+i) (ia+j) (by lia) (by lia);lia
  ·simp only[bey,_o,_M,_aN,_aj,_de,_s]at f1 f2;have kl:ia+k<a.size:=by
    rcases _c4 (ia+k) a.size with z | z;·exact z
    ·have z1:=f1 (a.size-1-ia) (by lia);rw[show ia+(a.size-1-ia)=a.size-1 by lia]at z1;exact absurd (lastA ib h2) z1
   refine hh k kl (λi z1 z2=>?_) λi z1 z2=>?_
   ·have:=f1 (i-ia) (by lia);rw[show ia+(i-ia)=i by lia]at this;lia
   ·have:=f2 (i-ia) (by lia) (by lia);rwa [show ia+(i-ia)=i by lia]at this
 have gb:∀{ag:SortSt} {ia ib:Nat} {R:Option Nat->SortSt->Prop},kindOf ag=κ->ia<a.size->ib<b.size->(∀k,ib+k<=b.size->(∀j,ib<=j->j<ib+k->rk (at_ b j)<rk (at_ a ia))->(∀j,ib+k<=j->j<b.size->rk (at_ a ia)<=rk (at_ b j))->R (some k) ag)->wpS (model prog w) A E s (z1n true (at_ a ia) b ib (b.size-ib) 0) R ag:=λ{ag ia ib R} k1 h1 h2 hh=>by
  refine vR V k1 Pb (Pa _ h1) (by lia) (by lia) (λi j aI hj=>?_) λk hk f1 f2=>?_
  ·simp only[bey,_K,_s];have:=sb (ib+i) (ib+j) (by lia) (by lia);lia
  ·simp only[bey,_K,_s,_aj]at f1 f2;refine hh k (by lia) (λi z1 z2=>?_) λi z1 z2=>?_
   ·have:=f1 (i-ib) (by lia);rwa [show ib+(i-ib)=i by lia]at this
   ·have:=f2 (i-ib) (by lia) (by lia);rw[show ib+(i-ib)=i by lia]at this;lia
 refine _i (_dc (_aL ⟨rfl,_i (zW (by lia) (yq (λq1=>_m (h _ _ ⟨rfl,rfl,rfl,rfl⟩ (m1.done sa (by lia) (by simpa using q1)))) λq1=>yq (λq2=>_m (h _ _ ⟨rfl,rfl,rfl,rfl⟩ (fin m1 (by lia) (by simpa using q2)))) λq2=>_i (_cn (_i ?_))))⟩));have q1:=show ¬ 1=b.size by simpa using q1
 have q2:=show ¬ 0+1=a.size by simpa using q2
 refine kf (λr ag=>z3j st ag/\Mrg rk a b r) (λ_ _=>False) (λx c ag=>x+1<=c.2.1+c.2.2.1/\z3j st ag/\Mlo rk a b c.2.1 c.2.2.1 c.1/\c.2.1+1<a.size/\c.2.2.1<b.size) ?_ (λc ag z=>absurd z.1 (by lia)) ⟨by show 0+1<=0+1;lia,⟨rfl,rfl,rfl,rfl⟩,m1,by show 0+1<a.size;lia,by show 1<b.size;lia⟩ (λr d ag z=>_m (h r _ z.1 z.2)) (λc ag z=>z.elim);intro x c bq _ hx I0;refine _i (kf (λr ag=>z3j st ag/\Mrg rk a b r) (λc ag=>x+1<=c.2.1+c.2.2.1/\z3j st ag/\Mlo rk a b c.2.1 c.2.2.1 c.1/\c.2.1+1<a.size/\c.2.2.1<b.size) (λy c ag=>x+1+y<=c.2.1+c.2.2.1/\z3j st ag/\Mlo rk a b c.2.1 c.2.2.1 c.1/\c.2.1+1<a.size/\c.2.2.1<b.size) ?_ (λc ag z=>absurd z.1 (by lia)) I0 (λr d ag z=>_m z) λc au J0=>?_)
 ·intro y c au _ hy I1;have lk:=I1.2.1;have m:=I1.2.2.1;have c1:=I1.1;have c2:=I1.2.2.2.1;have c3:=I1.2.2.2.2;refine _i (zW c3 (_i (zW (_br c2) (_i (zbd V (lk.1.trans hk) (Pb _ c3) (Pa _ (_br c2)) (yq (λq=>?_) λq=>?_))))))
  ·have m2:=m.pushB sb c3 λi h1 h2=>by have:=sa _ i h1 h2;simp only[_s]at q;lia
   have b1:x+1<=c.2.1+(c.2.2.1+1):=by lia
   have b2:x+1+(y+1)<=c.2.1+(c.2.2.1+1):=by lia
   have b3:¬ ((c.2.2.1+1==b.size)=true)->c.2.2.1+1<b.size:=λe=>by have  := (by simpa using e);lia
   exact _i (zW c3 (yq (λe=>_m ⟨lk,m2.done sa (_ax (_br c2)) (by simpa using e)⟩) λe=>yq (λ_=>_m ⟨b1,lk,m2,c2,b3 e⟩) λ_=>_m ⟨b2,lk,m2,c2,b3 e⟩))
  ·have m2:=m.pushA sa (_br c2) λi h1 h2=>by have:=sb _ i h1 h2;simp only[_s]at q;lia
   have b1:x+1<=c.2.1+1+c.2.2.1:=by lia
   have b2:x+1+(y+1)<=c.2.1+1+c.2.2.1:=by lia
   have b3:¬ ((c.2.1+1+1==a.size)=true)->c.2.1+1+1<a.size:=λe=>by have  := (by simpa using e);lia
   exact _i (zW (_br c2) (yq (λe=>_m ⟨lk,fin m2 (_ax c3) (by simpa using e)⟩) λe=>yq (λ_=>_m ⟨b1,lk,m2,b3 e,c3⟩) λ_=>_m ⟨b2,lk,m2,b3 e,c3⟩))
 have lk:=J0.2.1;have m:=J0.2.2.1;have c1:=J0.1;have c2:=J0.2.2.2.1;have c3:=J0.2.2.2.2;refine _i (_dc (_aL ⟨rfl,_i (kf (λr ag=>z3j st ag/\Mrg rk a b r) (λc ag=>x+1+1<=c.2.1+c.2.2.1/\z3j st ag/\Mlo rk a b c.2.1 c.2.2.1 c.1/\c.2.1+1<a.size/\c.2.2.1<b.size) (λy c ag=>x+1+y<=c.2.1+c.2.2.1/\z3j st ag/\Mlo rk a b c.2.1 c.2.2.1 c.1/\c.2.1+1<a.size/\c.2.2.1<b.size) ?_ (λc ag z=>absurd z.1 (by lia)) J0 (λr d ag z=>_m z) λc bU z=>_i (_a5 (_m z)))⟩));intro y c bU _ hy I1;have lk:=I1.2.1;have m:=I1.2.2.1;have c1:=I1.1;have c2:=I1.2.2.2.1;have c3:=I1.2.2.2.2;have cq:∀{k:Nat},c.2.1+k<a.size->(∀i,c.2.1<=i->i<c.2.1+k->rk (at_ a i)<=rk (at_ b c.2.2.1))->(∀i,c.2.1+k<=i->i<a.size->rk (at_ b c.2.2.1)<rk (at_ a i))->Mlo rk a b (c.2.1+k) c.2.2.1 (c.1++a.extract c.2.1 (c.2.1+k))/\Mlo rk a b (c.2.1+k) (c.2.2.1+1) ((c.1++a.extract c.2.1 (c.2.1+k)).push (at_ b c.2.2.1)):=λ{k} k1 k2 k3=>by
  have m2:=m.moreA sa k (by lia) λi h1 h2 j h3 h4=>by have:=k2 i h1 h2;have:=sb _ j h3 h4;lia
  exact⟨m2,m2.pushB sb c3 λi h1 h2=>_ax (k3 i h1 h2)⟩
 refine yq (λ_=>?_) λ_=>?_;all_goals
  refine _i (_a5 (_i (zW c3 (_i (ga (ia:=c.2.1)  (lk.1.trans hk) (_br c2) c3 λk k1 k2 k3=>?_)))));have L:=cq k1 k2 k3;have m2:=L.1;have m3:=L.2;by_cases e1:c.2.1+k+1=a.size
  ·have k0:k > 0:=by lia
   exact z09 k0 (z09 (by simpa using e1) (_m ⟨lk,fin m2 (_ax c3) e1⟩))
  have sL:c.2.1+k+1<a.size:=by lia
  have sM:x+1+y<=c.2.1+k+c.2.2.1:=by lia
  have z1:¬ c.2.1+k=a.size:=by lia
  clear m m2 L cq c1 I1;refine zjN (λk0=>(_l (by simpa using e1)).trans (_l (by simpa using z1))) (λk0=>by rw[(zdn k0 c.1).1,(zdn (a:=a) (i:=c.2.1) k0 c.1).2]) ?_;refine _i (zW c3 (yq (λe2=>_m ⟨lk,m3.done sa (by lia) (by simpa using e2)⟩) λe2=>?_));have e2:¬ c.2.2.1+1=b.size:=by simpa using e2
  refine _i (zW k1 (_i (gb (ia:=c.2.1+k) (ib:=c.2.2.1+1) (lk.1.trans hk) k1 (by lia) λk' eW fJ fK=>?_)));have m4:=m3.moreB sb k' eW λj h1 h2 i h3 h4=>by have:=fJ j h1 h2;have:=sa _ i h3 h4;lia
  by_cases e3:c.2.2.1+1+k'=b.size
  ·have dO:k' > 0:=by lia
   exact z09 dO (z09 (by simpa using e3) (_m ⟨lk,m4.done sa (by lia) e3⟩))
  have m5:=m4.pushA sa k1 λj h1 h2=>fK j h1 h2;have nu:c.2.2.1+1+k'<b.size:=by lia
  have b1:x+1+1<=c.2.1+k+1+(c.2.2.1+1+k'):=by lia
  have b2:x+1+(y+1)<=c.2.1+k+1+(c.2.2.1+1+k'):=by lia
  clear m3 m4;refine zjN (λdO=>_l (by simpa using e3)) (λdO=>by rw[(zdn dO _).1,(zdn (a:=b) (i:=c.2.2.1+1) dO #[]).2]) ?_;refine _i (zW k1 (yq (λe4=>_m ⟨lk,fin m5 (by lia) (by simpa using e4)⟩) λe4=>?_));have b3:c.2.1+k+1+1<a.size:=by
   have:¬ c.2.1+k+1+1=a.size:=(by simpa using e4);lia
  exact yq (λ_=>_m ⟨b1,lk,m5,b3,nu⟩) λ_=>_m ⟨b2,lk,m5,b3,nu⟩
end
section
variable {rk:Keyed->Nat}{a b out:Array Keyed}{na nb:Nat}
structure Mhi(rk:Keyed->Nat)(a b:Array Keyed)(na nb:Nat)(out:Array Keyed):Prop where
 pm:out.toList.reverse.Perm (a.toList.drop na++b.toList.drop nb)
 pw:out.toList.reverse.Pairwise λx y=>rk x<=rk y
 la:∀x∈out.toList,∀i,i<na->rk (at_ a i)<=rk x
 lb:∀x∈out.toList,∀j,j<nb->rk (at_ b j)<=rk x
theorem zam  (h:i<a.size):a.toList.drop i=at_ a i::a.toList.drop (i+1):=by
 rw[_aw (by simpa using h)];simp[at_,h]
theorem Mhi.pushA  (h:Mhi rk a b (m+1) nb out)(sa:Srt rk a)(hi:m<a.size)(le:∀j,j<nb->rk (at_ b j)<=rk (at_ a m)):Mhi rk a b m nb (out.push (at_ a m)):=by
 have er:(out.push (at_ a m)).toList.reverse=at_ a m::out.toList.reverse:=by simp
 refine⟨?_,?_,?_,?_⟩
 ·rw[er,zam hi];exact h.pm.cons _
 ·rw[er,_b8];exact⟨λx hx=>h.la x (_dH.mp hx) m (by lia),h.pw⟩
 ·intro x hx i h1;rw[_an]at hx;rcases _C.mp hx with hx | hx;·exact h.la x hx i (by lia)
  ·rw[_V.mp hx];exact sa _ _ (by lia) hi
 ·intro x hx j h1;rw[_an]at hx;rcases _C.mp hx with hx | hx;·exact h.lb x hx j h1
  ·rw[_V.mp hx];exact le j h1
theorem Mhi.swap(h:Mhi rk a b na nb out):Mhi rk b a nb na out:=⟨h.pm.trans _cw,h.pw,h.lb,h.la⟩
theorem Mhi.pushB  (h:Mhi rk a b na (m+1) out)(sb:Srt rk b)(hi:m<b.size)(le:∀j,j<na->rk (at_ a j)<=rk (at_ b m)):Mhi rk a b na m (out.push (at_ b m)):=(h.swap.pushA sb hi le).swap
theorem zgP  (h:i<a.size)(hk:i<k)(hz:k<=a.size):(a.extract i k).reverse=(a.extract (i+1) k).reverse.push (at_ a i):=by
 apply Array.toList_inj.mp;simp only[Array.toList_reverse,_an,Array.toList_extract,List.extract_eq_take_drop];rw[zam h,show k-i=(k-(i+1))+1 by lia,List.take_succ_cons,_bc]
theorem Mhi.moreA(h:Mhi rk a b na nb out)(sa:Srt rk a)(hz:na<=a.size):∀k m,m+k=na->(∀i,m<=i->i<na->∀j,j<nb->rk (at_ b j)<=rk (at_ a i))->Mhi rk a b m nb (out++(a.extract m na).reverse)
 | 0,m,e,_=>by
  rw[show m=na by lia,show a.extract na na=#[] by simp;lia];exact h | k+1,m,e,le=>by
  rw[zgP (by lia) (by lia) hz,Array.append_push];exact (h.moreA sa hz k (m+1) (by lia) λi h1 h2=>le i (by lia) h2).pushA sa (by lia) (le m (_h _) (by lia))
theorem Mhi.moreB(h:Mhi rk a b na nb out)(sb:Srt rk b)(hz:nb<=b.size)(k m:Nat)(e:m+k=nb)(le:∀j,m<=j->j<nb->∀i,i<na->rk (at_ a i)<=rk (at_ b j)):Mhi rk a b na m (out++(b.extract m nb).reverse):=(h.swap.moreA sb hz k m e le).swap
theorem Mhi.fin(h:Mhi rk a b 0 0 out):Mrg rk a b out.reverse:=⟨by simpa using h.pm,by simpa using h.pw⟩
theorem z6u(x y:Array Keyed):(x++y.reverse).reverse=y++x.reverse:=by simp
theorem Mhi.done(h:Mhi rk a b na nb out)(sb:Srt rk b)(hz:nb<=b.size)(e:na=0):Mrg rk a b (a.extract 0 na++b.extract 0 nb++out.reverse):=by
 subst e;have:=h.moreB sb hz nb 0 (by lia) λj _ _ i hi=>by lia
 rw[show a.extract 0 0=#[] by simp,Array.empty_append,<- z6u];exact this.fin
theorem Mhi.firstB(h:Mhi rk a b na nb out)(sa:Srt rk a)(sb:Srt rk b)(hz:na<=a.size)(zb:nb<=b.size)(e:nb=1)(lt:∀i,i<a.size->rk (at_ b 0)<=rk (at_ a i)):Mrg rk a b (b.extract 0 nb++a.extract 0 na++out.reverse):=by
 subst e;have h1:=h.moreA sa hz na 0 (by lia) λi h1 h2 j h3=>by
  have:j=0:=by lia
  subst this;exact lt i (by lia)
 have h2:=h1.moreB sb zb 1 0 (by lia) λj _ _ i hi=>by lia
 rw[Array.append_assoc,<- z6u,<- z6u];exact h2.fin
end
theorem zcQ{a:Array Keyed}  (hk:k<=n)(h:¬ n-k > 0)(out:Array Keyed):out++(a.extract k n).reverse=out/\k=n:=by
 have:n=k:=by lia
 subst this;refine⟨?_,rfl⟩;rw[show a.extract n n=#[] by simp;lia,Array.reverse_empty,Array.append_empty]
section
variable {prog:Program}{w:World}{A:Around}{E:Value->Shared->Prop}{s:Shared}{κ:SortKind}{P:Keyed->Prop}{rk:Keyed->Nat}(V:Env prog w A s κ P rk) {arr a b:Array Keyed}{st:SortSt}
include V
theorem z8m  (hk:kindOf st=κ) (Pa:∀i,i<a.size->P (at_ a i)) (Pb:∀i,i<b.size->P (at_ b i)) (sa:Srt rk a) (sb:Srt rk b) (pa:1<=a.size) (pb:1<=b.size) (first:rk (at_ b 0)<rk (at_ a 0)) (cD:rk (at_ b (b.size-1))<rk (at_ a (a.size-1))) (h:∀r ag,z3j st ag->Mrg rk a b r->Q r ag):wpS (model prog w) A E s (zdh a b) Q st:=by
 have lastA:∀j,j<b.size->rk (at_ b j)<rk (at_ a (a.size-1)):=λj hj=>by have:=sb j (b.size-1) (by lia) (by lia);lia
 have firstB:∀i,i<a.size->rk (at_ b 0)<rk (at_ a i):=λi hi=>by have:=sa 0 i (by lia) hi;lia
 have dQ  := λi hi=>_ax (firstB i hi);have m1:Mhi rk a b (a.size-1) b.size #[at_ a (a.size-1)]:=by
  have m0:Mhi rk a b (a.size-1+1) b.size #[]:=⟨by rw[show a.size-1+1=a.size by lia];simp,by simp,λx hx=>by simp at hx,λx hx=>by simp at hx⟩;exact m0.pushA sa (by lia) λi hi=>_ax (lastA i hi)
 have ga:∀{ag:SortSt} {na nb:Nat} {R:Option Nat->SortSt->Prop},kindOf ag=κ->0<na->na<=a.size->nb<b.size->(∀k,k<=na->(∀i,i<k->rk (at_ a i)<=rk (at_ b nb))->(∀i,k<=i->i<na->rk (at_ b nb)<rk (at_ a i))->R (some k) ag)->wpS (model prog w) A E s (z1n false (at_ b nb) a 0 na (na-1)) R ag:=λ{ag na nb R} k1 h0 h1 h2 hh=>by
  refine vR V k1 Pa (Pb _ h2) (by lia) (by lia) (λi j aI hj=>?_) λk hk f1 f2=>?_
  ·simp only[bey,_o,_M,_aN,_aj];have:=sa (0+i) (0+j) (by lia) (by lia);lia
  ·simp only[bey,_o,_M,_aN,_aj,_de,_s,_ay]at f1 f2;exact hh k hk (λi z1=>by have:=f1 i z1;lia) f2
 have gb:∀{ag:SortSt} {na nb:Nat} {R:Option Nat->SortSt->Prop},kindOf ag=κ->na<a.size->0<nb->nb<=b.size->(∀k,1<=k->k<=nb->(∀j,j<k->rk (at_ b j)<rk (at_ a na))->(∀j,k<=j->j<nb->rk (at_ a na)<=rk (at_ b j))->R (some k) ag)->wpS (model prog w) A E s (z1n true (at_ a na) b 0 nb (nb-1)) R ag:=λ{ag na nb R} k1 h0 h1 h2 hh=>by
  refine vR V k1 Pb (Pa _ h0) (by lia) (by lia) (λi j aI hj=>?_) λk hk f1 f2=>?_
  ·simp only[bey,_K,_s];have:=sb (0+i) (0+j) (by lia) (by lia);lia
  ·simp only[bey,_K,_s,_aj,_ay]at f1 f2;have k1:1<=k:=by
    rcases Nat.eq_zero_or_pos k with z | z;·exact absurd (firstB na h0) (f2 0 (by lia) h1)
    ·exact z
   exact hh k k1 hk f1 (λi z1 z2=>by have:=f2 i z1 z2;lia)
 have fin:∀{out:Array Keyed} {na nb:Nat},Mhi rk a b na nb out->na<=a.size->nb<=b.size->nb=1->Mrg rk a b (b.extract 0 nb++a.extract 0 na++out.reverse):=λm ha hb e=>m.firstB sa sb ha hb e dQ;refine _i (_dc (_aL ⟨rfl,_i (zW (by lia) (yq (λq1=>_m (h _ _ ⟨rfl,rfl,rfl,rfl⟩ (m1.done sb (_h _) (by simpa using q1)))) λq1=>yq (λq2=>_m (h _ _ ⟨rfl,rfl,rfl,rfl⟩ (fin m1 (Nat.sub_le _ _) (_h _) (by simpa using q2)))) λq2=>_i (_cn (_i ?_))))⟩));have q1:¬ a.size-1=0:=by simpa using q1
 have q2:¬ b.size=1:=by simpa using q2
 refine kf (λr ag=>z3j st ag/\Mrg rk a b r) (λ_ _=>False) (λx c ag=>c.1+c.2.1+x<a.size+b.size/\z3j st ag/\Mhi rk a b c.1 c.2.1 c.2.2.1/\(0<c.1/\c.1<=a.size)/\1<c.2.1/\c.2.1<=b.size) ?_ (λc ag z=>absurd z.1 (by lia)) ⟨by show a.size-1+b.size+0<_;lia,⟨rfl,rfl,rfl,rfl⟩,m1,⟨by show 0<a.size-1;lia,Nat.sub_le _ _⟩,by show 1<b.size;lia,_h _⟩ (λr d ag z=>_m (h r _ z.1 z.2)) (λc ag z=>z.elim);intro x c bq _ hx I0;refine _i (kf (λr ag=>z3j st ag/\Mrg rk a b r) (λc ag=>c.1+c.2.1+x<a.size+b.size/\z3j st ag/\Mhi rk a b c.1 c.2.1 c.2.2.1/\(0<c.1/\c.1<=a.size)/\1<c.2.1/\c.2.1<=b.size) (λy c ag=>c.1+c.2.1+x+y<a.size+b.size/\z3j st ag/\Mhi rk a b c.1 c.2.1 c.2.2.1/\(0<c.1/\c.1<=a.size)/\1<c.2.1/\c.2.1<=b.size) ?_ (λc ag z=>absurd z.1 (by lia)) I0 (λr d ag z=>_m z) λc au J0=>?_)
 ·intro y c au _ hy I1;have lk:=I1.2.1;have m:=I1.2.2.1;have c1:=I1.1;have c2:=I1.2.2.2.1;have c3:=I1.2.2.2.2;have la:c.1-1<a.size:=by lia
  have lb:c.2.1-1<b.size:=by lia
  have ea:c.1-1+1=c.1:=by lia
  have eb:c.2.1-1+1=c.2.1:=by lia
  refine _i (zW lb (_i (zW la (_i (zbd V (lk.1.trans hk) (Pb _ lb) (Pa _ la) (yq (λq=>?_) λq=>?_))))))
  ·have m2:=Mhi.pushA  (by rw[ea];exact m) sa la λi h1=>by have:=sb i (c.2.1-1) (by lia) lb;simp only[_s]at q;lia
   have b1:c.1-1+c.2.1+x<a.size+b.size:=by lia
   have b2:c.1-1+c.2.1+x+(y+1)<a.size+b.size:=by lia
   have b3:¬ ((c.1-1==0)=true)->0<c.1-1:=λe=>by have:¬ c.1-1=0:=(by simpa using e);lia
   have b4:c.1-1<=a.size:=by lia
   exact _i (zW la (yq (λe=>_m ⟨lk,m2.done sb c3.2 (by simpa using e)⟩) λe=>yq (λ_=>_m ⟨b1,lk,m2,⟨b3 e,b4⟩,c3⟩) λ_=>_m ⟨b2,lk,m2,⟨b3 e,b4⟩,c3⟩))
  ·have m2:=Mhi.pushB (m:=c.2.1-1) (by rw[eb];exact m) sb lb λi h1=>by have:=sa i (c.1-1) (by lia) la;simp only[_s]at q;lia
   have b1:c.1+(c.2.1-1)+x<a.size+b.size:=by lia
   have b2:c.1+(c.2.1-1)+x+(y+1)<a.size+b.size:=by lia
   have b3:¬ ((c.2.1-1==1)=true)->1<c.2.1-1:=λe=>by have:¬ c.2.1-1=1:=(by simpa using e);lia
   have b4:c.2.1-1<=b.size:=by lia
   exact _i (zW lb (yq (λe=>_m ⟨lk,fin m2 c2.2 b4 (by simpa using e)⟩) λe=>yq (λ_=>_m ⟨b1,lk,m2,c2,b3 e,b4⟩) λ_=>_m ⟨b2,lk,m2,c2,b3 e,b4⟩))
 refine _i (_dc (_aL ⟨rfl,_i (kf (λr ag=>z3j st ag/\Mrg rk a b r) (λc ag=>c.1+c.2.1+x+1<a.size+b.size/\z3j st ag/\Mhi rk a b c.1 c.2.1 c.2.2.1/\(0<c.1/\c.1<=a.size)/\1<c.2.1/\c.2.1<=b.size) (λy c ag=>c.1+c.2.1+x+y<a.size+b.size/\z3j st ag/\Mhi rk a b c.1 c.2.1 c.2.2.1/\(0<c.1/\c.1<=a.size)/\1<c.2.1/\c.2.1<=b.size) ?_ (λc ag z=>absurd z.1 (by lia)) J0 (λr d ag z=>_m z) λc bU z=>_i (_a5 (_m z)))⟩));intro y c bU _ hy I1;have lk:=I1.2.1;have m:=I1.2.2.1;have c1:=I1.1;have c2:=I1.2.2.2.1;have c3:=I1.2.2.2.2;have lb:c.2.1-1<b.size:=by lia
 have eb:c.2.1-1+1=c.2.1:=by lia
 have cq:∀{k:Nat},k<=c.1->(∀i,i<k->rk (at_ a i)<=rk (at_ b (c.2.1-1)))->(∀i,k<=i->i<c.1->rk (at_ b (c.2.1-1))<rk (at_ a i))->Mhi rk a b k c.2.1 (c.2.2.1++(a.extract k c.1).reverse)/\Mhi rk a b k (c.2.1-1) ((c.2.2.1++(a.extract k c.1).reverse).push (at_ b (c.2.1-1))):=λ{k} k1 k2 k3=>by
  have m2:=m.moreA sa c2.2 (c.1-k) k (by lia) λi h1 h2 j h3=>by have:=k3 i h1 h2;have:=sb j (c.2.1-1) (by lia) lb;lia
  exact⟨m2,Mhi.pushB (m:=c.2.1-1) (by rw[eb];exact m2) sb lb k2⟩
 refine yq (λ_=>?_) λ_=>?_;all_goals
  refine _i (_a5 (_i (zW lb (_i (ga (na:=c.1) (nb:=c.2.1-1) (lk.1.trans hk) c2.1 c2.2 lb λk k1 k2 k3=>?_)))));have L:=cq k1 k2 k3;have m2:=L.1;have m3:=L.2;by_cases e1:k=0
  ·have k0:c.1-k > 0:=by lia
   exact z09 k0 (z09 (by simpa using e1) (_m ⟨lk,m2.done sb c3.2 e1⟩))
  clear m m2 L cq I1;have g9:k-1<a.size:=by lia
  have ek:k-1+1=k:=by lia
  have b6:k<=a.size:=by lia
  have b7:c.2.1-1<=b.size:=by lia
  have b8:0<c.2.1-1:=by lia
  refine zjN (λk0=>_l (by simpa using e1)) (λk0=>by rw[(zcQ k1 k0 c.2.2.1).1,(zcQ (a:=a) k1 k0 c.2.2.1).2]) ?_;refine _i (zW lb (yq (λe2=>_m ⟨lk,fin m3 b6 b7 (by simpa using e2)⟩) λe2=>?_));have e2:¬ c.2.1-1=1:=by simpa using e2
  refine _i (zW g9 (_i (gb (na:=k-1) (nb:=c.2.1-1) (lk.1.trans hk) g9 b8 b7 λk' dO eW fJ fK=>?_)));have m4:=m3.moreB sb b7 (c.2.1-1-k') k' (by lia) λj h1 h2 i h3=>by have:=fK j h1 h2;have:=sa i (k-1) (by lia) g9;lia
  by_cases e3:k'=1
  ·have dq:c.2.1-1-k' > 0:=by lia
   exact z09 dq (z09 (by simpa using e3) (_m ⟨lk,fin m4 b6 (by lia) e3⟩))
  have m5:=Mhi.pushA (m:=k-1) (by rw[ek];exact m4) sa g9 λj h1=>_ax (fJ j h1);have z1:¬ k'=0:=by lia
  have b1:k-1+k'+x+1<a.size+b.size:=by lia
  have b2:k-1+k'+x+(y+1)<a.size+b.size:=by lia
  have b5:1<k'/\k'<=b.size:=by lia
  clear m3 m4;refine zjN (λdq=>(_l (by simpa using e3)).trans (_l (by simpa using z1))) (λdq=>by rw[(zcQ eW dq _).1,(zcQ (a:=b) eW dq #[]).2]) ?_;refine _i (zW g9 (yq (λe4=>_m ⟨lk,m5.done sb b5.2 (by simpa using e4)⟩) λe4=>?_));have b3:0<k-1/\k-1<=a.size:=by
   have:¬ k-1=0:=(by simpa using e4);lia
  exact yq (λ_=>_m ⟨b1,lk,m5,b3,b5⟩) λ_=>_m ⟨b2,lk,m5,b3,b5⟩
end
section
variable {rk:Keyed->Nat}{a b x y r:Array Keyed}
def wo(rk:Keyed->Nat)(a:Array Keyed)(lo hi:Nat):Prop:=∀i j,lo<=i->i<=j->j<hi->rk (at_ a i)<=rk (at_ a j)
def zlE(a b:Array Keyed)(lo hi:Nat):Prop:=∀i,i<lo\/hi<=i->at_ b i=at_ a i
theorem zeo{i lo hi:Nat}(h1:lo+i<hi)(h2:hi<=a.size):at_ (a.extract lo hi) i=at_ a (lo+i):=by
 simp only[at_,_bg];rw[_co,_g (by lia)]
theorem zb3  (h:v∈a.toList):∃j,j<a.size/\v=at_ a j:=by
 obtain⟨j,hj,e⟩:=_D.mp h;have fM:j<a.size:=by exact hj
 exact⟨j,fM,by simp[at_,fM,<- e]⟩
noncomputable def write(a r:Array Keyed)(sa:Nat):Array Keyed:=r.toList.zipIdx.foldl (λa p=>a.setIfInBounds (sa+p.2) p.1) a
theorem z4f:∀(l:List Keyed)(k sa:Nat)(a:Array Keyed),((l.zipIdx k).foldl (λa p=>a.setIfInBounds (sa+p.2) p.1) a).size=a.size/\∀i,((l.zipIdx k).foldl (λa p=>a.setIfInBounds (sa+p.2) p.1) a)[i]? = if sa+k<=i/\i<sa+k+l.length/\i<a.size then l[i-(sa+k)]? else a[i]?
 | [],k,sa,a=>⟨rfl,λi=>by rw[_l (by simp;lia)];rfl⟩ | v::l,k,sa,a=>by
  obtain⟨h1,h2⟩:=z4f l (k+1) sa (a.setIfInBounds (sa+k) v);refine⟨h1.trans (by simp),λi=>(h2 i).trans ?_⟩;rw[Array.size_setIfInBounds,_w];by_cases e:i=sa+k
  ·subst e;rw[_l (by lia)];by_cases q:sa+k<a.size;·rw[_g (by lia),Array.getElem?_setIfInBounds_self_of_lt q];simp
   ·simp[q]
  ·rw[Array.getElem?_setIfInBounds_ne (by lia)];by_cases q:sa+(k+1)<=i/\i<sa+(k+1)+l.length/\i<a.size;·rw[_g q,_g (by lia),show i-(sa+k)=(i-(sa+(k+1)))+1 by lia,_p]
   ·rw[_l q,_l (by lia)]
theorem z8e  (h:sa+r.size<=a.size):(write a r sa).toList=a.toList.take sa++r.toList++a.toList.drop (sa+r.size):=by
 obtain⟨h1,h2⟩:=z4f r.toList 0 sa a;apply _dt;intro i;rw[(show (write a r sa).toList[i]? = (write a r sa)[i]? from by simp)];refine (h2 i).trans ?_;simp only[_N,_by];by_cases q1:i<sa;·rw[_l (by lia),_aa,_u (by simp;lia),List.getElem?_take,_g q1];simp
 ·by_cases q2:i<sa+r.size;·rw[_g (by lia),_aa,_ah (by simp;lia),_a4,_N,Nat.min_eq_left (by lia),_u (by simp;lia)]
  ·rw[_l (by lia),_ah (by simp;lia),List.getElem?_drop];simp only[_ab,_a4,_N];rw[show sa+r.size+(i-(min sa a.size+r.size))=i by lia];simp
theorem zcX  (h:sa+r.size<=a.size):at_ (write a r sa) i=if sa<=i/\i<sa+r.size then at_ r (i-sa) else at_ a i:=by
 obtain⟨h1,h2⟩:=z4f r.toList 0 sa a;simp only[at_,_bg];have:=h2 i;simp only[_N,_by]at this;rw[show (write a r sa)[i]? = _ from this];by_cases q:sa<=i/\i<sa+r.size;·rw[_g (by lia),_g q];simp
 ·rw[_l (by lia),_l q]
theorem ziS(h:r.toList.Pairwise λx y=>rk x<=rk y):Srt rk r:=λi j aI hj=>by
 rcases _c4 i j with q | q
 ·have:=_bR.mp h i j (by simp;lia) (by exact hj) q;simpa[at_,hj,show i<r.size by lia] using this
 ·rw[show i=j by lia];exact _h _
end
section
variable {prog:Program}{w:World}{A:Around}{E:Value->Shared->Prop}{s:Shared}{κ:SortKind}{a₀:Array Keyed}{rk:Keyed->Nat}(V:Env prog w A s κ (· ∈ a₀.toList) rk) {st:SortSt}
structure SB(κ:SortKind)(a₀:Array Keyed)(st:SortSt):Prop where
 perm:(arrOf st).Perm a₀
 kind:kindOf st=κ
 failed:failedOf st=none
theorem SB.size(h:SB κ a₀ st):(arrOf st).size=a₀.size:=h.perm.size_eq
theorem SB.mem(h:SB κ a₀ st):∀i,i<(arrOf st).size->at_ (arrOf st) i∈a₀.toList:=λi hi=>(_bL.mp h.perm).mem_iff.mp (by simp[at_,hi])
include V
theorem z8v   (B:SB κ a₀ st) (h1:(pendingOf st)[i]? = some (sa,na,p)) (h2:(pendingOf st)[i+1]? = some (sb,nb,p')) (eb:sb=sa+na) (pa:1<=na) (pb:1<=nb) (hz:sb+nb<=a₀.size) (s1:wo rk (arrOf st) sa (sa+na)) (s2:wo rk (arrOf st) sb (sb+nb)) (h:∀ag,SB κ a₀ ag->pendingOf ag=((pendingOf st).setIfInBounds i (sa,na+nb,p)).eraseIdxIfInBounds (i+1)->zlE (arrOf st) (arrOf ag) sa (sa+(na+nb))->wo rk (arrOf ag) sa (sa+(na+nb))->Q true ag):wpS (model prog w) A E s (mergeAt' i) Q st:=by
 have sz:=B.size;have mem:=B.mem;have nf:=B.failed;refine _i (_cn ?_);rw[h1,h2];dsimp only;refine _i (_a5 (f:=λ_=>setPending st (((pendingOf st).setIfInBounds i (sa,na+nb,p)).eraseIdxIfInBounds (i+1))) ?_);have B1:SB κ a₀ (setPending st (((pendingOf st).setIfInBounds i (sa,na+nb,p)).eraseIdxIfInBounds (i+1))):=⟨B.perm,B.kind,B.failed⟩;have a1:arrOf (setPending st (((pendingOf st).setIfInBounds i (sa,na+nb,p)).eraseIdxIfInBounds (i+1)))=arrOf st:=rfl;have p1:pendingOf (setPending st (((pendingOf st).setIfInBounds i (sa,na+nb,p)).eraseIdxIfInBounds (i+1)))=((pendingOf st).setIfInBounds i (sa,na+nb,p)).eraseIdxIfInBounds (i+1):=rfl;generalize setPending st (((pendingOf st).setIfInBounds i (sa,na+nb,p)).eraseIdxIfInBounds (i+1))=bq at B1 a1 p1;refine _i (zW (arr:=arrOf st) (by lia) (_i (vR V (arr:=arrOf st) B1.kind mem (mem _ (by lia)) (by lia) (by lia) (λi j aI hj=>?_) λk hk f1 f2=>?_)))
 ·simp only[bey,_o,_M,_aN,_aj];have:=s1 (sa+i) (sa+j) (by lia) (by lia) (by lia);lia
 simp only[bey,_o,_M,_aN,_aj,_de,_s]at f1 f2;dsimp only;by_cases q:na-k=0
 ·rw[_g (by simpa using q)];refine _m (h _ B1 p1 (λi _=>by rw[a1]) λi j hi aI hj=>?_);rw[a1];by_cases c1:j<sb;·exact s1 i j hi aI (by lia)
  ·by_cases c2:sb<=i;·exact s2 i j c2 aI (by lia)
   ·have e1:=f1 (i-sa) (by lia);rw[show sa+(i-sa)=i by lia]at e1;have e2:=s2 sb j (_h _) (by lia) (by lia);lia
 rw[_l (by simpa using q)];refine _i (zW (arr:=arrOf st) (by lia) (_i (vR V (arr:=arrOf st) B1.kind mem (mem _ (by lia)) (by lia) (by lia) (λi j aI hj=>?_) λm hm g1 g2=>?_)))
 ·simp only[bey,_K,_s];have:=s2 (sb+i) (sb+j) (by lia) (by lia) (by lia);lia
 simp only[bey,_K,_s,_aj]at g1 g2;dsimp only;have f0:=f2 k (_h _) (by lia);have m1:1<=m:=by
  rcases Nat.eq_zero_or_pos m with z | z
  ·have e1:=g2 0 (by lia) (by lia);rw[_by]at e1;have:=s1 (sa+k) (sa+k+(na-k)-1) (by lia) (by lia) (by lia);lia
  ·exact z
 rw[_l (by simp;lia)];have xs:((arrOf st).extract (sa+k) sb).size=na-k:=by rw[_dd];lia
 have ys:((arrOf st).extract sb (sb+m)).size=m:=by rw[_dd];lia
 have xa:∀i,i<na-k->at_ ((arrOf st).extract (sa+k) sb) i=at_ (arrOf st) (sa+k+i):=λi hi=>zeo (by lia) (by lia);have ya:∀i,i<m->at_ ((arrOf st).extract sb (sb+m)) i=at_ (arrOf st) (sb+i):=λi hi=>zeo (by lia) (by lia);have fin:∀r ag,z3j bq ag->Mrg rk ((arrOf st).extract (sa+k) sb) ((arrOf st).extract sb (sb+m)) r->wpS (model prog w) A E s (do
   modify λs=>setArr s (write (arrOf s) r (sa+k)) return (failedOf (<- get)).isNone) Q ag:=λr ag lk mg=>by
  have al  := lk.2.1.trans a1;have rs:r.size=na-k+m:=by
   have:=mg.1.length_eq;simp only[_ab,_N]at this;lia
  have hw:sa+k+r.size<=(arrOf st).size:=by lia
  refine _i (_a5 (_i (_cn ?_)));have B2:SB κ a₀ (setArr ag (write (arrOf ag) r (sa+k))):=by
   refine⟨?_,lk.1.trans B1.kind,lk.2.2.2.trans B1.failed⟩;show (write (arrOf ag) r (sa+k)).Perm a₀;rw[al];refine Array.Perm.trans (_bL.mpr ?_) B.perm;rw[z8e hw];have e1:(arrOf st).toList=(arrOf st).toList.take (sa+k)++((arrOf st).extract (sa+k) sb).toList++((arrOf st).extract sb (sb+m)).toList++(arrOf st).toList.drop (sa+k+r.size):=by
    simp only[Array.toList_extract,List.extract_eq_take_drop];have:=_aO (sa+k) (arrOf st).toList;have d1:=_aO (sb-(sa+k)) ((arrOf st).toList.drop (sa+k));have d2:=_aO (sb+m-sb) ((arrOf st).toList.drop sb);rw[List.drop_drop,show sa+k+(sb-(sa+k))=sb by lia]at d1;rw[List.drop_drop,show sb+(sb+m-sb)=sa+k+r.size by lia]at d2;rw[_aa,_aa,d2,d1,this]
   conv=>rhs;rw[e1]
   rw[_aa,_aa,_aa];refine List.Perm.append_left _ ?_;rw[<- _aa];exact mg.1.append_right _
  have sr:=ziS mg.2;have wa:∀i,at_ (arrOf (setArr ag (write (arrOf ag) r (sa+k)))) i=if sa+k<=i/\i<sa+k+r.size then at_ r (i-(sa+k)) else at_ (arrOf st) i:=λi=>by
   show at_ (write (arrOf ag) r (sa+k)) i=_;rw[al];exact zcX hw
  have rm:∀i,i<r.size->(∃j,sa+k<=j/\j<sb/\at_ r i=at_ (arrOf st) j)\/∃j,sb<=j/\j<sb+m/\at_ r i=at_ (arrOf st) j:=λi hi=>by
   have:at_ r i∈r.toList:=by simp[at_,hi]
   rcases _C.mp (mg.1.mem_iff.mp this) with z | z
   ·obtain⟨j,hj,e⟩:=zb3 z;exact .inl ⟨sa+k+j,by lia,by lia,by rw[e,xa j (by lia)]⟩
   ·obtain⟨j,hj,e⟩:=zb3 z;exact .inr ⟨sb+j,by lia,by lia,by rw[e,ya j (by lia)]⟩
  rw[show (failedOf (setArr ag (write (arrOf ag) r (sa+k)))).isNone=true by rw[B2.failed];rfl];refine _m (h _ B2 (lk.2.2.1.trans p1) (λi hi=>?_) λi j hi aI hj=>?_);·rw[wa,_l (by lia)]
  ·-- lo part<=b0<merged;merged<cD a<=hi part
   have hJ:∀i,sa<=i->i<sa+k->∀j,j<r.size->rk (at_ (arrOf st) i)<=rk (at_ r j):=λi i1 i2 j hj=>by
    have e1:=f1 (i-sa) (by lia);rw[show sa+(i-sa)=i by lia]at e1;rcases rm j hj with⟨j',j1,j2,e⟩ | ⟨j',j1,j2,e⟩;·rw[e];exact s1 i j' i1 (by lia) (by lia)
    ·rw[e];have:=s2 sb j' (_h _) j1 (by lia);lia
   have nv:∀j,sb+m<=j->j<sb+nb->∀i,i<r.size->rk (at_ r i)<=rk (at_ (arrOf st) j):=λj j1 j2 i hi=>by
    have e1:=g2 (j-sb) (by lia) (by lia);rw[show sb+(j-sb)=j by lia]at e1;rcases rm i hi with⟨i',i1,i2,e⟩ | ⟨i',i1,i2,e⟩
    ·rw[e];have:=s1 i' (sa+k+(na-k)-1) (by lia) (by lia) (by lia);lia
    ·rw[e];exact s2 i' j i1 (by lia) j2
   rw[wa,wa];by_cases c1:sa+k<=i/\i<sa+k+r.size
   ·rw[_g c1];by_cases c2:sa+k<=j/\j<sa+k+r.size;·rw[_g c2];exact sr _ _ (by lia) (by lia)
    ·rw[_l c2];exact nv j (by lia) (by lia) _ (by lia)
   ·rw[_l c1];by_cases c2:sa+k<=j/\j<sa+k+r.size
    ·rw[_g c2];exact hJ i hi (by lia) _ (by lia)
    ·rw[_l c2];by_cases c3:sb<=i;·exact s2 i j c3 aI (by lia)
     ·by_cases c4:j<sb;·exact s1 i j hi aI (by lia)
      ·have z1:=hJ i hi (by lia) 0 (by lia);have z2:=nv j (by lia) (by lia) 0 (by lia);lia
 have args:(∀i,i<((arrOf st).extract (sa+k) sb).size->at_ ((arrOf st).extract (sa+k) sb) i∈a₀.toList)/\(∀i,i<((arrOf st).extract sb (sb+m)).size->at_ ((arrOf st).extract sb (sb+m)) i∈a₀.toList)/\Srt rk ((arrOf st).extract (sa+k) sb)/\Srt rk ((arrOf st).extract sb (sb+m)):=by
  refine⟨λi hi=>?_,λi hi=>?_,λi j aI hj=>?_,λi j aI hj=>?_⟩;·rw[xa i (by lia)];exact mem _ (by lia)
  ·rw[ya i (by lia)];exact mem _ (by lia)
  ·rw[xa i (by lia),xa j (by lia)];exact s1 _ _ (by lia) (by lia) (by lia)
  ·rw[ya i (by lia),ya j (by lia)];exact s2 _ _ (by lia) (by lia) (by lia)
 obtain⟨Px,Py,sx,sy⟩:=args;have hU:rk (at_ ((arrOf st).extract sb (sb+m)) 0)<rk (at_ ((arrOf st).extract (sa+k) sb) 0):=by rw[xa 0 (by lia),ya 0 (by lia),_by,_by];exact f0
 have hY:rk (at_ ((arrOf st).extract sb (sb+m)) (((arrOf st).extract sb (sb+m)).size-1))<rk (at_ ((arrOf st).extract (sa+k) sb) (((arrOf st).extract (sa+k) sb).size-1)):=by
  rw[xs,ys,xa _ (by lia),ya _ (by lia),show sa+k+(na-k-1)=sa+k+(na-k)-1 by lia];exact g1 (m-1) (by lia)
 refine yq (λ_=>?_) λ_=>?_;·exact _i (z98 V (a:=(arrOf st).extract (sa+k) sb) (b:=(arrOf st).extract sb (sb+m)) B1.kind Px Py sx sy (by lia) (by lia) hU hY fin)
 ·exact _i (z8m V (a:=(arrOf st).extract (sa+k) sb) (b:=(arrOf st).extract sb (sb+m)) B1.kind Px Py sx sy (by lia) (by lia) hU hY fin)
end
noncomputable def zmn(lo a aH:Nat):StateT SortSt Sem (Option (Option Nat)×Nat):= forIn [a:aH] ((none,a):Option (Option Nat)×Nat) λ_ c=>do match <- ltAt' (lo+c.2) (lo+c.2-1) with
  | some less=>if less=true then pure (.done (none,c.2)) else pure (.yield (none,c.2+1)) | _=>pure (.done (some none,c.2))
noncomputable def zlT(lo n aH:Nat):StateT SortSt Sem (Option (Option Nat)×Nat×Nat):= forIn [n:aH] ((none,n,0):Option (Option Nat)×Nat×Nat) λ_ c=>do match <- ltAt' (lo+c.2.1) (lo+c.2.1-1) with
  | some less=>
   if less=true then
    if c.2.2 > 0 then do
     reverseSlice' (lo+c.2.1-(c.2.2+1)) (lo+c.2.1)
     pure (.yield (none,c.2.1+1,0)) else pure (.yield (none,c.2.1+1,0)) else do match <- ltAt' (lo+c.2.1-1) (lo+c.2.1) with
    | some more=>if more=true then pure (.done (none,c.2.1,c.2.2)) else pure (.yield (none,c.2.1+1,c.2.2+1)) | _=>pure (.done (some none,c.2.1,c.2.2))
  | _=>pure (.done (some none,c.2.1,c.2.2))
section
variable {rk:Keyed->Nat}{a:Array Keyed}
theorem qA  (hj:j<=a.size)(k:Nat):at_ (mirror a i j ((j-i) / 2)) k=if i<=k/\k<j then at_ a (i+j-1-k) else at_ a k:=by
 simp only[at_,_bg];rw[getElem?_mirror_all hj];split<;>rfl
theorem ju  (hj:j<=a.size)(he:∀k,i<=k->k<j->rk (at_ a k)=rk (at_ a (j-1)))(k:Nat):rk (at_ (mirror a i j ((j-i) / 2)) k)=rk (at_ a k):=by
 rw[qA hj];split;·rw[he _ (by lia) (by lia),he k (by lia) (by lia)]
 ·rfl
def Dsc(rk:Keyed->Nat)(a:Array Keyed)(lo hi:Nat):Prop:=∀i j,lo<=i->i<=j->j<hi->rk (at_ a j)<=rk (at_ a i)
theorem Dsc.more{lo x:Nat}(h:Dsc rk a lo (lo+x))(hx:1<=x)(e:rk (at_ a (lo+x))<=rk (at_ a (lo+x-1))):Dsc rk a lo (lo+(x+1)):=λi j hi aI hj=>by
 by_cases q:j<lo+x;·exact h i j hi aI q
 ·have:j=lo+x:=by lia
  subst this;by_cases q2:i=lo+x;·rw[q2];exact _h _
  ·have:=h i (lo+x-1) hi (by lia) (by lia);lia
theorem wo.more{lo x:Nat}(h:wo rk a lo (lo+x))(hx:1<=x)(e:rk (at_ a (lo+x-1))<=rk (at_ a (lo+x))):wo rk a lo (lo+(x+1)):=λi j hi aI hj=>by
 by_cases q:j<lo+x;·exact h i j hi aI q
 ·have:j=lo+x:=by lia
  subst this;by_cases q2:i=lo+x;·rw[q2];exact _h _
  ·have:=h i (lo+x-1) hi (by lia) (by lia);lia
end
section
variable {prog:Program}{w:World}{A:Around}{E:Value->Shared->Prop}{s:Shared}{κ:SortKind}{a₀:Array Keyed}{rk:Keyed->Nat}(V:Env prog w A s κ (· ∈ a₀.toList) rk) {st:SortSt}{lo aH:Nat}
theorem SB.set(h:SB κ a₀ st)  (hp:xs.Perm (arrOf st)):SB κ a₀ (setArr st xs):=⟨hp.trans h.perm,h.kind,h.failed⟩
theorem kE   (h:Q () (setArr st (mirror (arrOf st) i j ((j-i) / 2)))):wpS (model prog w) A E s (reverseSlice' i j) Q st:=_a5 h
def z2i(lo:Nat)(st ag:SortSt):Prop:=(∀i,i<lo->at_ (arrOf ag) i=at_ (arrOf st) i)/\pendingOf ag=pendingOf st
theorem z2i.refl:z2i lo st st:=⟨λ_ _=>rfl,rfl⟩
theorem z2i.mir  (h:z2i lo st ag)  (hi:lo<=i)(hj:j<=(arrOf ag).size):z2i lo st (setArr ag (mirror (arrOf ag) i j ((j-i) / 2))):= ⟨λk hk=>by rw[qA hj,_l (by lia)];exact h.1 k hk,h.2⟩
include V
theorem z0S   (B:SB κ a₀ st)(hi:i<a₀.size)(hj:j<a₀.size)(h:Q (some (decide (rk (at_ (arrOf st) i)<rk (at_ (arrOf st) j)))) st):wpS (model prog w) A E s (ltAt' i j) Q st:=by
 have sz:=B.size;rw[ltAt'_eq];exact _i (_cn (_i (zW  (by lia) (_i (zW  (by lia) (zbd V B.kind (B.mem _ (by lia)) (B.mem _ (by lia)) h))))))
theorem z5v   (hn:lo+aH<=a₀.size)(ha:1<=a)(lK:a<=aH)(B:SB κ a₀ st)(hs:wo rk (arrOf st) lo (lo+a)) (h:∀n,a<=n->n<=aH->wo rk (arrOf st) lo (lo+n)->(n=aH\/rk (at_ (arrOf st) (lo+n))<rk (at_ (arrOf st) (lo+n-1)))->Q (none,n) st):wpS (model prog w) A E s (zmn lo a aH) Q st:=by
 refine _aU (I:=λx c ag=>ag=st/\c=(none,x)/\wo rk (arrOf st) lo (lo+x)) ?_ ?_ ⟨rfl,rfl,hs⟩
 ·rintro x c ag h1 h2 ⟨rfl,rfl,hZ⟩;refine _i (z0S V B (by lia) (by lia) (yq (λq=>(_m (h x h1 (by lia) hZ (.inr (by simpa using q))))) λq=>?_))
  ·simp only[_s]at q;exact _m ⟨rfl,rfl,hZ.more (by lia) (by lia)⟩
 ·rintro c ag ⟨rfl,rfl,hZ⟩;rw[show max a aH=aH by lia]at hZ ⊢;exact h aH lK (_h _) hZ (.inl rfl)
theorem zef    (hn:lo+aH<=a₀.size)(ha:1<=n)(lK:n<=aH)(B:SB κ a₀ st)(kp:z2i lo cJ st)(hs:Dsc rk (arrOf st) lo (lo+n)) (h:∀m q ag,SB κ a₀ ag->z2i lo cJ ag->n<=m->m<=aH->Dsc rk (arrOf ag) lo (lo+m)->q+1<=m->(∀i,lo+m-(q+1)<=i->i<lo+m->rk (at_ (arrOf ag) i)=rk (at_ (arrOf ag) (lo+m-1)))->Q (none,m,q) ag):wpS (model prog w) A E s (zlT lo n aH) Q st:=by
 refine _aU (I:=λx c ag=>∃q,c=(none,x,q)/\SB κ a₀ ag/\z2i lo cJ ag/\Dsc rk (arrOf ag) lo (lo+x)/\q+1<=x/\∀i,lo+x-(q+1)<=i->i<lo+x->rk (at_ (arrOf ag) i)=rk (at_ (arrOf ag) (lo+x-1))) ?_ ?_ ⟨0,rfl,B,kp,hs,by lia,λi h1 h2=>by congr 2;lia⟩
 ·rintro x c ag h1 h2 ⟨q,rfl,B',fN,ds,qx,eq⟩;have sz:=B'.size;dsimp only;refine _i (z0S V B' (by lia) (by lia) (yq (λc1=>?_) λc1=>?_))
  ·simp only[_s]at c1;refine yq (λc2=>?_) λc2=>(_m ⟨0,rfl,B',fN,ds.more (by lia) (by lia),by lia,λi h1 h2=>by congr 2;lia⟩)
   ·have me  := ju (by lia) eq;refine _i (kE (_m ⟨0,rfl,B'.set (_bM _ _ _ _),fN.mir (by lia) (by lia),Dsc.more (λi j hi aI hj=>?_) (by lia) ?_,by lia,λi h1 h2=>by congr 2;lia⟩));·rw[me,me];exact ds i j hi aI hj
    ·rw[me,me];lia
  ·simp only[_s]at c1;refine _i (z0S V B' (by lia) (by lia) (yq (λc2=>(_m (h x q ag B' fN h1 (by lia) ds qx eq))) λc2=>?_))
   ·simp only[_s]at c2;refine _m ⟨q+1,rfl,B',fN,ds.more (by lia) (by lia),by lia,λi h1 h2=>?_⟩;rw[show lo+(x+1)-1=lo+x by lia];by_cases z:i=lo+x;·rw[z]
    ·rw[(show rk (at_ (arrOf ag) (lo+x))=rk (at_ (arrOf ag) (lo+x-1)) from by lia)];exact eq i (by lia) (by lia)
 ·rintro c ag ⟨q,rfl,B',fN,ds,qx,eq⟩;rw[show max n aH=aH by lia]at ds qx eq ⊢;exact h aH q ag B' fN lK (_h _) ds qx eq
theorem zcH  (hn:lo+aH<=a₀.size) (h1:1<=aH) (B:SB κ a₀ st) (h:∀m ag,SB κ a₀ ag->z2i lo st ag->1<=m->m<=aH->wo rk (arrOf ag) lo (lo+m)->Q (some m) ag):wpS (model prog w) A E s (countRun' lo aH) Q st:=by
 have sz:=B.size;refine _i (z5v V hn (_h 1) h1 B (λi j hi aI hj=>by rw[show i=j by lia];exact _h _) λn n1 n2 sn or=>?_);dsimp only;by_cases e:n=aH
 ·rw[_g (by simpa using e)];exact _m (h n st B .refl n1 n2 sn)
 rw[_l (by simpa using e)];refine yq (λc=>?_) λc=>?_
 ·refine _i (z0S V B (by lia) (by lia) ?_);dsimp only;refine yq (λc2=>?_) λc2=>?_;·exact _m (h n st B .refl n1 n2 sn)
  ·simp only[_s]at c2;have all:∀k,lo<=k->k<lo+n->rk (at_ (arrOf st) k)=rk (at_ (arrOf st) (lo+n-1)):=λk z1 z2=>by
    have a1:=sn lo k (_h _) z1 z2;have a2:=sn k (lo+n-1) z1 (by lia) (by lia);lia
   refine _i (kE ?_);have B1:=SB.set B (_bM _ lo (lo+n) ((lo+n-lo) / 2));have k1:=z2i.mir (z2i.refl  (st:=st)) (i:=lo) (j:=lo+n) (_h _) (by lia);refine _i (_dc (_aL ⟨rfl,?_⟩));refine _i (zef V hn (by lia) (by lia) B1 k1 (by
    refine Dsc.more (λi j hi aI hj=>?_) n1 ?_
    ·show rk (at_ (mirror _ _ _ _) j)<=rk (at_ (mirror _ _ _ _) i);rw[ju  (by lia) all,ju  (by lia) all,all i hi (by lia),all j (by lia) hj];exact _h _
    ·show rk (at_ (mirror _ _ _ _) _)<=rk (at_ (mirror _ _ _ _) _);rw[ju  (by lia) all,ju  (by lia) all];lia) λm q au B2 k2 m1 m2 ic q1 eq=>?_);have pM:=B2.size;dsimp only;refine yq (λc=>?_) λc=>?_
   ·refine _i (kE ?_);have Bm:=SB.set B2 (_bM _ (lo+m-(q+1)) (lo+m) ((lo+m-(lo+m-(q+1))) / 2));have km:=z2i.mir k2 (i:=lo+m-(q+1)) (j:=lo+m) (by lia) (by lia);have dm:Dsc rk (mirror (arrOf au) (lo+m-(q+1)) (lo+m) ((lo+m-(lo+m-(q+1))) / 2)) lo (lo+m):=λi j hi aI hj=>by
     rw[ju  (by lia) eq,ju  (by lia) eq];exact ic i j hi aI hj
    generalize mirror (arrOf au) (lo+m-(q+1)) (lo+m) ((lo+m-(lo+m-(q+1))) / 2)=am at Bm km dm;have pN  := Bm.size;refine _i (kE ?_);have B3:=SB.set Bm (_bM _ lo (lo+m) ((lo+m-lo) / 2));have k3:=z2i.mir km  (j:=lo+m) (_h _) (by lia);refine _i (z5v V hn (by lia) m2 B3 (λi j hi aI hj=>?_) λm' lL fj sm _=>_m (h m' _ B3 k3 (by lia) fj sm));rw[qA (by lia),qA (by lia),_g (by lia),_g (by lia)];exact dm _ _ (by lia) (by lia) (by lia)
   ·refine _i (kE ?_);have B3:=SB.set B2 (_bM _ lo (lo+m) ((lo+m-lo) / 2));have k3:=z2i.mir k2  (j:=lo+m) (_h _) (by lia);refine _i (z5v V hn (by lia) m2 B3 (λi j hi aI hj=>?_) λm' lL fj sm _=>_m (h m' _ B3 k3 (by lia) fj sm));rw[qA (by lia),qA (by lia),_g (by lia),_g (by lia)];exact ic _ _ (by lia) (by lia) (by lia)
 ·have pO:n=1:=by lia
  subst pO;have B1:=B;have k1:=z2i.refl (lo:=lo) (st:=st);refine _i (_dc (_aL ⟨rfl,?_⟩));refine _i (zef V hn (by lia) (by lia) B1 k1 (Dsc.more (λi j hi aI hj=>by rw[show i=j by lia];exact _h _) (_h _) (by lia)) λm q au B2 k2 m1 m2 ic q1 eq=>?_);have pM:=B2.size;dsimp only;refine yq (λc=>?_) λc=>?_
  ·refine _i (kE ?_);have Bm:=SB.set B2 (_bM _ (lo+m-(q+1)) (lo+m) ((lo+m-(lo+m-(q+1))) / 2));have km:=z2i.mir k2 (i:=lo+m-(q+1)) (j:=lo+m) (by lia) (by lia);have dm:Dsc rk (mirror (arrOf au) (lo+m-(q+1)) (lo+m) ((lo+m-(lo+m-(q+1))) / 2)) lo (lo+m):=λi j hi aI hj=>by
    rw[ju  (by lia) eq,ju  (by lia) eq];exact ic i j hi aI hj
   generalize mirror (arrOf au) (lo+m-(q+1)) (lo+m) ((lo+m-(lo+m-(q+1))) / 2)=am at Bm km dm;have pN  := Bm.size;refine _i (kE ?_);have B3:=SB.set Bm (_bM _ lo (lo+m) ((lo+m-lo) / 2));have k3:=z2i.mir km (i:=lo) (j:=lo+m) (_h _) (by lia);refine _i (z5v V hn (by lia) m2 B3 (λi j hi aI hj=>?_) λm' lL fj sm _=>_m (h m' _ B3 k3 (by lia) fj sm));rw[qA (by lia),qA (by lia),_g (by lia),_g (by lia)];exact dm _ _ (by lia) (by lia) (by lia)
  ·refine _i (kE ?_);have B3:=SB.set B2 (_bM _ lo (lo+m) ((lo+m-lo) / 2));have k3:=z2i.mir k2 (i:=lo) (j:=lo+m) (_h _) (by lia);refine _i (z5v V hn (by lia) m2 B3 (λi j hi aI hj=>?_) λm' lL fj sm _=>_m (h m' _ B3 k3 (by lia) fj sm));rw[qA (by lia),qA (by lia),_g (by lia),_g (by lia)];exact ic _ _ (by lia) (by lia) (by lia)
end
theorem zgJ(c:Prop) [Decidable c](x:Nat):(if c then x-1 else x)<=x:=by split<;>lia
abbrev Run:=Nat×Nat×Nat
section
variable {rk:Keyed->Nat}{a b:Array Keyed}
theorem zjv  (hs:src<a.size)(hd:d<=src)(k:Nat):at_ (bubble a src d) k=if k=src-d then at_ a src else if src-d<k/\k<=src then at_ a (k-1) else at_ a k:=by
 simp only[at_,_bg];rw[getElem?_bubble hs d hd];split;·rfl
 ·split<;>rfl
noncomputable def Chain(rk:Keyed->Nat)(a:Array Keyed):List Run->Nat->Nat->Prop
 | [],lo,hi=>lo=hi | (x,n,_)::t,lo,hi=>x=lo/\1<=n/\wo rk a x (x+n)/\Chain rk a t (x+n) hi
theorem Chain.len:∀{l:List Run}{lo hi:Nat},Chain rk a l lo hi->l.length+lo<=hi
 | [],_,_,h=>by simp only[Chain]at h;simp[h] | (x,n,_)::t,lo,hi,⟨h1,h2,_,h4⟩=>by have:=h4.len;simp only[_w];lia
theorem Chain.same:∀{l:List Run}{lo hi:Nat},(∀i,lo<=i->i<hi->at_ b i=at_ a i)->Chain rk a l lo hi->Chain rk b l lo hi
 | [],_,_,_,h=>h | (x,n,_)::t,lo,hi,e,⟨h1,h2,h3,h4⟩=>by
  have:=h4.len;exact⟨h1,h2,λi j hi aI hj=>by rw[e i (by lia) (by lia),e j (by lia) (by lia)];exact h3 i j hi aI hj,h4.same λi i1 i2=>e i (by lia) i2⟩
theorem Chain.push{n p lo:Nat}:∀{l:List Run}{st:Nat},Chain rk a l st lo->1<=n->wo rk a lo (lo+n)->Chain rk a (l++[(lo,n,p)]) st (lo+n)
 | [],st,h,h1,h2=>⟨h.symm,h1,h2,rfl⟩ | (x,m,_)::t,st,⟨g1,g2,g3,g4⟩,h1,h2=>⟨g1,g2,g3,g4.push h1 h2⟩
theorem Chain.modify  (hf:∀x,(f x).1=x.1/\(f x).2.1=x.2.1):∀{l:List Run}{k lo hi:Nat},Chain rk a l lo hi->Chain rk a (l.modify k f) lo hi
 | [],k,lo,hi,h=>by cases k<;>exact h | x::t,0,lo,hi,h=>by
  have e:=hf x;show Chain rk a (f x::t) lo hi;generalize f x=y at e;obtain⟨x1,x2,x3⟩:=x;obtain⟨rfl,rfl⟩:=e;exact h | (x,n,p)::t,k+1,lo,hi,⟨g1,g2,g3,g4⟩=>⟨g1,g2,g3,g4.modify hf⟩
theorem Chain.two{sa na p sb nb p' hi:Nat}:∀{l:List Run}{i lo:Nat},Chain rk a l lo hi->l[i]? = some (sa,na,p)->l[i+1]? = some (sb,nb,p')->lo<=sa/\sb=sa+na/\1<=na/\1<=nb/\sb+nb<=hi/\wo rk a sa (sa+na)/\wo rk a sb (sb+nb)
 | x::[],i,lo,h,e1,e2=>by cases e2 | x::y::t,0,lo,h,e1,e2=>by
  simp only[_q,_J]at e1;simp only[_p,_q,_J]at e2;subst e1 e2;obtain⟨g1,g2,g3,h1,h2,h3,h4⟩:=h;have:=h4.len;exact⟨by lia,by lia,g2,h2,by lia,g3,h3⟩ | (x,n,p)::y::t,i+1,lo,⟨g1,g2,g3,g4⟩,e1,e2=>by
  have:=g4.two  e1 (by exact e2);exact⟨by lia,this.2⟩
theorem Chain.merge{sa na p sb nb p' hi:Nat}(S:zlE a b sa (sa+(na+nb)))(s:wo rk b sa (sa+(na+nb))):∀{l:List Run}{i lo:Nat},Chain rk a l lo hi->l[i]? = some (sa,na,p)->l[i+1]? = some (sb,nb,p')->Chain rk b ((l.set i (sa,na+nb,p)).eraseIdx (i+1)) lo hi
 | x::[],i,lo,h,e1,e2=>by cases e2 | x::y::t,0,lo,h,e1,e2=>by
  simp only[_q,_J]at e1;simp only[_p,_q,_J]at e2;subst e1 e2;obtain⟨g1,g2,g3,h1,h2,h3,h4⟩:=h;exact⟨g1,by lia,s,((show Chain rk a t (sa+(na+nb)) hi from by rw[show sa+(na+nb)=sb+nb by lia];exact h4).same λi i1 i2=>S i (.inr i1))⟩ | (x,n,q)::y::t,i+1,lo,⟨g1,g2,g3,g4⟩,e1,e2=>by
  have nw:(y::t)[i+1]? = some (sb,nb,p'):=by exact e2
  have tw:=g4.two e1 nw;exact⟨g1,g2,λi j hi aI hj=>by rw[S i (by lia),S j (by lia)];exact g3 i j hi aI hj,g4.merge S s e1 nw⟩
end
section
variable {prog:Program}{w:World}{A:Around}{E:Value->Shared->Prop}{s:Shared}{κ:SortKind}{a₀:Array Keyed}{rk:Keyed->Nat}(V:Env prog w A s κ (· ∈ a₀.toList) rk) {st:SortSt}{lo aH:Nat}
include V
theorem zjc   (hn:lo+n<=a₀.size)(hok:ok<=n)(B:SB κ a₀ st)(hs:wo rk (arrOf st) lo (lo+ok))(h:∀ag,SB κ a₀ ag->z2i lo st ag->wo rk (arrOf ag) lo (lo+n)->Q true ag):wpS (model prog w) A E s (binarySort' lo n ok) Q st:=by
 refine _i (_bK (_aU (I:=λk c ag=>c=(none,())/\SB κ a₀ ag/\z2i lo st ag/\wo rk (arrOf ag) lo (lo+min k n)) (Q:=λc ag=>c=(none,())/\SB κ a₀ ag/\z2i lo st ag/\wo rk (arrOf ag) lo (lo+n)) ?_ ?_ ?_) ?_)
 ·rintro k c bq h1 h2 ⟨rfl,B1,k1,s1⟩;have sz:=B1.size;rw[show min k n=k by lia]at s1;refine _i (_bK (_aU (I:=λx c au=>au=bq/\∃l r,c=(none,l,r)/\l<=r/\r<=k/\r-l<=k-x/\(∀i,lo<=i->i<lo+l->rk (at_ (arrOf bq) i)<=rk (at_ (arrOf bq) (lo+k)))/\(∀i,lo+r<=i->i<lo+k->rk (at_ (arrOf bq) (lo+k))<rk (at_ (arrOf bq) i))) (Q:=λc au=>au=bq/\∃l r,c=(none,l,r)/\l<=k/\(∀i,lo<=i->i<lo+l->rk (at_ (arrOf bq) i)<=rk (at_ (arrOf bq) (lo+k)))/\(∀i,lo+l<=i->i<lo+k->rk (at_ (arrOf bq) (lo+k))<rk (at_ (arrOf bq) i))) ?_ ?_ ⟨rfl,0,k,rfl,by lia,by lia,by lia,λi _ hi=>by lia,λi h1 h2=>by lia⟩) ?_)
  ·rintro x c au _ hx ⟨rfl,l,r,rfl,c1,c2,c3,c4,c5⟩;dsimp only;refine yq (λq=>?_) λq=>?_
   ·have:l=r:=by lia
    subst this;exact _m ⟨rfl,l,l,rfl,c2,c4,c5⟩
   ·refine _i (z0S V B1 (by lia) (by lia) ?_);refine yq (λq2=>?_) λq2=>?_
    ·simp only[_s]at q2;refine _m ⟨rfl,l,(l+r) / 2,rfl,by lia,by lia,by lia,c4,λi i1 i2=>?_⟩;have:=s1 (lo+(l+r) / 2) i (by lia) i1 i2;lia
    ·simp only[_s]at q2;refine _m ⟨rfl,(l+r) / 2+1,r,rfl,by lia,by lia,by lia,λi i0 i1=>?_,c5⟩;have:=s1 i (lo+(l+r) / 2) i0 (by lia) (by lia);lia
  ·rintro c au ⟨rfl,l,r,rfl,c1,c2,c3,c4,c5⟩;have:l=r:=by lia
   subst this;exact⟨rfl,l,l,rfl,c2,c4,c5⟩
  ·rintro c au ⟨rfl,l,r,rfl,c2,c4,c5⟩;have ab:∀i,at_ (bubble (arrOf au) (lo+k) (lo+k-(lo+l))) i=if i=lo+l then at_ (arrOf au) (lo+k) else if lo+l<i/\i<=lo+k then at_ (arrOf au) (i-1) else at_ (arrOf au) i:=λi=>by rw[zjv (by lia) (by lia),show lo+k-(lo+k-(lo+l))=lo+l by lia]
   refine _i (_a5 (_m ⟨rfl,B1.set (bubble_perm _ _ _),⟨λi hi=>?_,k1.2⟩,?_⟩))
   ·show at_ (bubble (arrOf au) (lo+k) (lo+k-(lo+l))) i=_;rw[ab,_l (by lia),_l (by lia)];exact k1.1 i hi
   ·intro i j i1 i2 i3;show rk (at_ (bubble (arrOf au) (lo+k) (lo+k-(lo+l))) i)<=rk (at_ (bubble (arrOf au) (lo+k) (lo+k-(lo+l))) j);rw[ab,ab];repeat' split
    all_goals first
     | (lia) | exact _h _ | exact c4 _ (by lia) (by lia) | exact _ax (c5 _ (by lia) (by lia)) | exact s1 _ _ (by lia) (by lia) (by lia)
 ·rintro c bq ⟨hc,B1,k1,s1⟩;rw[show min (max (max ok 1) n) n=n by lia]at s1;exact⟨hc,B1,k1,s1⟩
 ·refine⟨rfl,B,.refl,λi j i1 i2 i3=>?_⟩;by_cases z:ok=0;·rw[show i=j by lia];exact _h _
  ·exact hs i j i1 i2 (by lia)
 ·rintro c bq ⟨rfl,B1,k1,s1⟩;exact _m (h bq B1 k1 s1)
theorem z0V{i hi:Nat}{Q:Bool->SortSt->Prop}(B:SB κ a₀ st)(c:Chain rk (arrOf st) (pendingOf st).toList 0 hi)(hz:hi<=a₀.size)(bG:i+1<(pendingOf st).size) (h:∀ag,SB κ a₀ ag->Chain rk (arrOf ag) (pendingOf ag).toList 0 hi->(pendingOf ag).size+1=(pendingOf st).size->(∀i,hi<=i->at_ (arrOf ag) i=at_ (arrOf st) i)->Q true ag):wpS (model prog w) A E s (mergeAt' i) Q st:=by
 obtain⟨⟨sa,na,p⟩,e1⟩:∃x,(pendingOf st)[i]? = some x:=⟨_,_dU _ i (by lia)⟩;obtain⟨⟨sb,nb,p'⟩,e2⟩:∃x,(pendingOf st)[i+1]? = some x:=⟨_,_dU _ (i+1) bG⟩;have l1:(pendingOf st).toList[i]? = some (sa,na,p):=by simpa using e1
 have l2:(pendingOf st).toList[i+1]? = some (sb,nb,p'):=by simpa using e2
 have tw:=c.two l1 l2;refine z8v V B e1 e2 tw.2.1 tw.2.2.1 tw.2.2.2.1 (by lia) tw.2.2.2.2.2.1 tw.2.2.2.2.2.2 λag B' ep S s'=>h ag B' ?_ ?_ λi hi=>S i (by lia)
 ·rw[ep,_cs,Array.toList_setIfInBounds];exact c.merge S s' l1 l2
 ·have:=_au (λa=>a.toList.length) ep;simp only[_cs,Array.toList_setIfInBounds,List.length_eraseIdx,List.length_set,_N]at this;rw[_g bG]at this;lia
theorem zfW  (B:SB κ a₀ st)(hp:pendingOf st=#[])(h:∀ag,SB κ a₀ ag->wo rk (arrOf ag) 0 a₀.size->Q () ag):wpS (model prog w) A E s sortRuns' Q st:=by
 have sz:=B.size;refine _i (_cn ?_);dsimp only;rw[show (arrOf st).size=a₀.size from sz];refine _i (_bK (_aU (I:=λx c ag=>∃lo,c=(none,lo)/\SB κ a₀ ag/\lo<=a₀.size/\min x a₀.size<=lo/\Chain rk (arrOf ag) (pendingOf ag).toList 0 lo) (Q:=λc ag=>c=(none,a₀.size)/\SB κ a₀ ag/\Chain rk (arrOf ag) (pendingOf ag).toList 0 a₀.size) ?_ ?_ ⟨0,rfl,B,by lia,by lia,by rw[hp];exact rfl⟩) ?_)
 ·rintro x c bq _ hx ⟨lo,rfl,B1,l1,l2,ch⟩;dsimp only;refine yq (λq=>?_) λq=>?_
  ·have:lo=a₀.size:=by lia
   subst this;exact _m ⟨rfl,B1,ch⟩
  refine _i (zcH V (by lia) (by lia) B1 λm au B2 k2 m1 m2 s2=>?_);dsimp only;have c2:Chain rk (arrOf au) (pendingOf au).toList 0 lo:=by
   rw[k2.2];exact ch.same λi _ hi=>k2.1 i hi
  refine yq (λq1=>?_) λq1=>?_
  ·refine _i (_dc (_aL ⟨rfl,?_⟩));refine _i (zjc V  (by lia) (by lia) B2 s2 λbU B3 k3 s3=>?_);have n2:=Nat.min_le_left (a₀.size-lo) (minRun' a₀.size a₀.size 0);have n1:1<=min (a₀.size-lo) (minRun' a₀.size a₀.size 0):=by
    have:m<minRun' a₀.size a₀.size 0:=q1;lia
   have c3:Chain rk (arrOf bU) (pendingOf bU).toList 0 lo:=by
    rw[k3.2];exact c2.same λi _ hi=>k3.1 i hi
   rw[_l (by decide)];have en:∃n,n=min (a₀.size-lo) (minRun' a₀.size a₀.size 0):=⟨_,rfl⟩;obtain⟨n,en⟩:=en;rw[<- en]at n1 n2;have s3:wo rk (arrOf bU) lo (lo+n):=by rw[en];exact s3
   refine _i (_cn ?_);cases e:(pendingOf bU).back? with
   | none=>
    dsimp only;refine _i (_a5 (_m ⟨lo+n,by first | rfl | (rw[en];rfl),⟨B3.perm,B3.kind,B3.failed⟩,by lia,by lia,?_⟩));rw[_an];first | exact c3.push n1 s3 | (rw[en]at n1 s3 ⊢;exact c3.push n1 s3)
   | some y=>
    obtain⟨y1,y2,y3⟩:=y;dsimp only;refine _i (_bK (_aU (I:=λx c ag=>c=(none,())/\SB κ a₀ ag/\Chain rk (arrOf ag) (pendingOf ag).toList 0 lo/\wo rk (arrOf ag) lo (lo+n)) ?_ (λc ag z=>z) ⟨rfl,B3,c3,s3⟩) ?_)
    ·rintro x' c dt _ hx' ⟨rfl,B4,c4,s4⟩;refine _i (_cn ?_);by_cases g:(pendingOf dt).size > 1
     ·rw[_g g];obtain⟨⟨z1,z2,z3⟩,ez⟩:∃x,(pendingOf dt)[(pendingOf dt).size-2]? = some x:=⟨_,_dU _ _ (by lia)⟩;rw[ez];dsimp only;refine yq (λ_=>_m ⟨rfl,B4,c4,s4⟩) λ_=>?_;refine _i (z0V V (i:=(pendingOf dt).size-2) B4 c4 l1 (by lia) λfS B5 c5 _ fr=>?_);rw[_l (by decide)];exact _m ⟨rfl,B5,c5,λi j i1 i2 i3=>by rw[fr i i1,fr j (by lia)];exact s4 i j i1 i2 i3⟩
     ·rw[_l g];exact _m ⟨rfl,B4,c4,s4⟩
    ·rintro c dt ⟨rfl,B4,c4,s4⟩;dsimp only;refine _i (_a5 (_i (_a5 (_m ⟨lo+n,by first | rfl | (rw[en];rfl),⟨B4.perm,B4.kind,B4.failed⟩,by lia,by lia,?_⟩))));rw[_an,Array.toList_modify];(rw[en]at n1 s4 ⊢;refine Chain.push (Chain.modify ?_ c4) n1 s4;exact λx=>⟨rfl,rfl⟩)
  ·have n1:=m1;have n2:=m2;have c3:=c2;have B3:=B2;have s3:=s2;generalize m=n at n1 n2 s3;generalize au=bU at B3 c3 s3;refine _i (_cn ?_);cases e:(pendingOf bU).back? with
   | none=>
    dsimp only;refine _i (_a5 (_m ⟨lo+n,by first | rfl | (rw[en];rfl),⟨B3.perm,B3.kind,B3.failed⟩,by lia,by lia,?_⟩));rw[_an];exact c3.push n1 s3 | some y=>
    dsimp only;refine _i (_bK (_aU (I:=λx c ag=>c=(none,())/\SB κ a₀ ag/\Chain rk (arrOf ag) (pendingOf ag).toList 0 lo/\wo rk (arrOf ag) lo (lo+n)) ?_ (λc ag z=>z) ⟨rfl,B3,c3,s3⟩) ?_)
    ·rintro x' c dt _ hx' ⟨rfl,B4,c4,s4⟩;refine _i (_cn ?_);by_cases g:(pendingOf dt).size > 1
     ·rw[_g g];obtain⟨⟨z1,z2,z3⟩,ez⟩:∃x,(pendingOf dt)[(pendingOf dt).size-2]? = some x:=⟨_,_dU _ _ (by lia)⟩;rw[ez];dsimp only;refine yq (λ_=>_m ⟨rfl,B4,c4,s4⟩) λ_=>?_;refine _i (z0V V (i:=(pendingOf dt).size-2) B4 c4 l1 (by lia) λfS B5 c5 _ fr=>?_);rw[_l (by decide)];exact _m ⟨rfl,B5,c5,λi j i1 i2 i3=>by rw[fr i i1,fr j (by lia)];exact s4 i j i1 i2 i3⟩
     ·rw[_l g];exact _m ⟨rfl,B4,c4,s4⟩
    ·rintro c dt ⟨rfl,B4,c4,s4⟩;dsimp only;refine _i (_a5 (_i (_a5 (_m ⟨lo+n,by first | rfl | (rw[en];rfl),⟨B4.perm,B4.kind,B4.failed⟩,by lia,by lia,?_⟩))));rw[_an,Array.toList_modify];(refine Chain.push (Chain.modify ?_ c4) n1 s4;exact λx=>⟨rfl,rfl⟩)
 ·rintro c bq ⟨lo,rfl,B1,l1,l2,ch⟩;have:lo=a₀.size:=by lia
  subst this;exact⟨rfl,B1,ch⟩
 ·rintro c bq ⟨rfl,B1,ch⟩;dsimp only;refine _i (_bK (_aU (I:=λx c ag=>c=(none,())/\SB κ a₀ ag/\Chain rk (arrOf ag) (pendingOf ag).toList 0 a₀.size/\(pendingOf ag).size<=max 1 (a₀.size-x)) (Q:=λc ag=>c=(none,())/\SB κ a₀ ag/\Chain rk (arrOf ag) (pendingOf ag).toList 0 a₀.size/\(pendingOf ag).size<=1) ?_ ?_ ⟨rfl,B1,ch,?_⟩) ?_)
  ·rintro x c au _ hx ⟨rfl,B2,c2,l2⟩;refine _i (_cn ?_);refine yq (λq=>_m ⟨rfl,B2,c2,q⟩) λq=>?_;have q:¬ (pendingOf au).size<=1:=q;refine _i (z0V V B2 c2 (_h _) ?_ λbU B3 c3 e3 _=>?_)
   ·refine Nat.lt_of_le_of_lt (Nat.add_le_add_right (show _<=(pendingOf au).size-2 from ?_) 1) (by lia);exact zgJ _ _
   ·rw[_l (by decide)];exact _m ⟨rfl,B3,c3,by lia⟩
  ·rintro c au ⟨rfl,B2,c2,l2⟩;exact⟨rfl,B2,c2,by lia⟩
  ·have:=ch.len;simp only[_N]at this;lia
  ·rintro c au ⟨rfl,B2,c2,l2⟩;refine _m (h au B2 ?_);have ny:(pendingOf au).toList.length<=1:=by exact l2
   generalize (pendingOf au).toList=l at c2 ny;match l,c2,ny with
   | [],c2,_=>rw[show 0=a₀.size from c2];exact λi j i1 i2 i3=>by lia | (x,n,p)::[],⟨g1,g2,g3,g4⟩,_=>
    have e  := g4;rw[e,g1]at g3;exact g3 | _::_::_,_,z=>simp at z
end
end Dt
namespace Dd
open L2 PySem.W Dt
theorem z0C{α β:Type}{f:α->β}:∀{ys xs:List β},ys.Perm xs->∀l:List α,l.map f=xs->∃l':List α,l'.Perm l/\l'.map f=ys:=by
 intro ys xs p;induction p with
 | nil=>exact λl e=>⟨l,.refl _,e⟩ | cons x p ih=>
  intro l e;cases l with
  | nil=>simp at e | cons a l=>
   simp only[_H,_be]at e;obtain⟨l',p',e'⟩:=ih l e.2;exact⟨a::l',p'.cons a,by simp[e',e.1]⟩
 | swap x y l0=>
  intro l e;match l,e with
  | a::b::l,e=>
   simp only[_H,_be]at e;exact⟨b::a::l,.swap a b l,by simp[e.1,e.2.1,e.2.2]⟩
 | trans p1 p2 ih1 ih2=>
  intro l e;obtain⟨l2,q2,e2⟩:=ih2 l e;obtain⟨l1,q1,e1⟩:=ih1 l2 e2;exact⟨l1,q1.trans q2,e1⟩
theorem z9S{α β:Type}:∀Z:List (α×β),(Z.map Prod.fst).zip (Z.map Prod.fst)=Z.map λz=>(z.1,z.1)
 | []=>rfl | z::Z=>by simp[z9S Z]
structure vQ{K:Type}(lt:K->K->Bool):Prop where
 irr:∀a,lt a a=false
 tot:∀a b,a≠b->lt b a=!lt a b
 tr:∀a b c,lt a b=true->lt b c=true->lt a c=true
section
variable {K:Type}{lt:K->K->Bool}(Oo:vQ lt)
include Oo
theorem zey{L:List K}  (ha:a∈L):decide (L.countP (λz=>lt z a)<L.countP λz=>lt z b)=lt a b:=by
 have mono:∀{a b:K},lt a b=true->∀L:List K,L.countP (λz=>lt z a)<=L.countP λz=>lt z b:=λ{a b} h L=>List.countP_mono_left λz _ hz=>Oo.tr _ _ _ hz h;cases h:lt a b with
 | true=> exact _aR ((show ∀L:List K,a∈L->L.countP (λz=>lt z a)<L.countP λz=>lt z b from by
   intro L;induction L with
   | nil=>intro h;cases h | cons x L ih=>
    intro hm;rw[List.countP_cons,List.countP_cons];rcases _n.mp hm with e | hm
    ·subst e;rw[Oo.irr,h];have:=mono h L;simp;lia
    ·have i:=ih hm;by_cases c:lt x a=true;·rw[_g c,_g (Oo.tr _ _ _ c h)];lia
     ·rw[_l c];lia) L ha) | false=>
  refine _af ?_;by_cases e:a=b;·subst e;lia
  ·have:=mono (by rw[Oo.tot a b e,h];rfl) L;lia
end
section
variable {prog:Program}{w:World}{A:Around}{E:Value->Shared->Prop}{s:Shared}
open Classical in
def keyOf{K:Type}(d:K)(Z:List (Value×K))(v:Value):K:=if h:∃z∈Z,z.1=v then (choose h).2 else d
theorem keyOf_eq{K:Type}{d:K}{Z:List (Value×K)}(fn:∀x∈Z,∀y∈Z,x.1=y.1->x.2=y.2){z:Value×K}(hz:z∈Z):keyOf d Z z.1=z.2:=by
 have h:∃x∈Z,x.1=z.1:=⟨z,hz,rfl⟩;rw[keyOf,dif_pos h];exact fn _ h.choose_spec.1 _ hz h.choose_spec.2
def z9W(prog:Program)(w:World)(A:Around){K:Type}(lt:K->K->Bool)(κ:SortKind)(Z:List (Value×K))(s:Shared):Prop:= (∀(Q:SortKind->Shared->Prop)(E:Value->Shared->Prop),0<Z.length->Q κ s->wpAny (model prog w) A (keyKind' (Z.map Prod.fst).toArray) Q E s)/\ ∀x∈Z,∀y∈Z,∀(C:Bool->Shared->Prop)(E:Value->Shared->Prop),C (lt x.2 y.2) s->wpAny (model prog w) A (keyLt' κ x.1 y.1) C E s
theorem z2U {K:Type} {lt:K->K->Bool} (Oo:vQ lt) (d:K)  {Z:List (Value×K)} (fn:∀x∈Z,∀y∈Z,x.1=y.1->x.2=y.2) (ho:s.heap.get? a=some (seqObj "list" (Z.map Prod.fst).toArray n)) (hp:∀s':Shared,(∀b o,b≠a->s.heap.get? b=some o->s'.heap.get? b=some o)->z9W prog w A lt κ Z s') (aD:Z.length<=sizeLine) (h:∀Z':List (Value×K),Z'.Perm Z->(Z'.map Prod.snd).Pairwise (λa b=>lt b a=false)->P (.done (.ret .none)) {s with heap:=sortedHeap s.heap a (Z.map Prod.fst) (Z'.map Prod.fst).toArray}):wpAny (model prog w) A (Builtin.«list.sort» ⟨[.ref a],[]⟩) P E s:=by
 have hv:(Z.map Prod.fst).length=Z.length:=_B _;generalize hvs:Z.map Prod.fst=vs at *;obtain⟨e1,g1⟩:∃e1,(s.heap.update a (Obj.mapSeq λ_=>(#[]:Array Value))).get? a=some (seqObj "list" #[] e1):=⟨_,get?_update_seq ho λ_=>#[]⟩;have g2:(((s.heap.update a (Obj.mapSeq λ_=>(#[]))).push (seqObj "tuple" vs.toArray 0)).push (seqObj "list" #[] 0)).get? a=some (seqObj "list" #[] e1):=_c _ (_c _ g1);have ok:=hp {s with heap:=((s.heap.update a (Obj.mapSeq λ_=>(#[]:Array Value))).push (seqObj "tuple" vs.toArray 0)).push (seqObj "list" #[] 0)} λb o hb e=> _c _ (_c _ (((_a0 s.heap a (Obj.mapSeq λ_=>(#[]:Array Value))).2 b hb).trans e));rw[list_sort_plain];refine _a (listItems_at ho rfl (_a (listUpdate_at ho rfl (_a (seqEpoch_at g1 rfl (_a (wpAny_newTuple (_a (wpAny_newList (_ak ?_) (_aI _))) (by rw[hv];exact aD))))) (by rw[_A,hv];exact aD) (_aI _))));dsimp only;by_cases big:vs.toArray.size<2
 ·rw[_g big,_g big];have small:vs.length<2:=by simpa using big
  refine _a (_b (_a (_b ?_)));dsimp only;have out:(arrOf (SortSt.mk' general' (vs.toArray.zip vs.toArray) #[] 7 none)).map (·.2)=vs.toArray:=by
   show ((vs.toArray.zip vs.toArray).map (·.2))=_;apply Array.ext_getElem?;intro i;by_cases hi:i<vs.length<;>simp[hi]
  rw[out];refine _a (seqEpoch_at g2 rfl (_a (listUpdate_at g2 rfl ?_ (_aI _) (by rw[_A,hv];exact Nat.le_succ_of_le aD))));simp only[_cp,_M];have h':=h Z (.refl _) (by match Z,hv with
   | [],_=>exact .nil | [x],_=>exact List.pairwise_singleton _ _ | _::_::_,z=>simp at z;lia);rw[hvs]at h';exact _b h'
 ·rw[_l big,_l big];have b2:2<=vs.length:=by simpa using big
  have nA:=ok.1;rw[hvs]at nA;refine _a (nA _ _ (by lia) ?_);have mz:∀x∈(pairsOf vs).toList,∃z∈Z,x=(z.1,z.1):=λx hx=>by
   rw[pairsOf_toList]at hx;obtain⟨e,hm⟩:=mem_zip_self hx;rw[<- hvs]at hm;obtain⟨z,hz,ez⟩:=_E.mp hm;exact⟨z,hz,Prod.ext ez.symm (by rw[<- e];exact ez.symm)⟩
  have V:Env prog w A {s with heap:=((s.heap.update a (Obj.mapSeq λ_=>(#[]))).push (seqObj "tuple" vs.toArray 0)).push (seqObj "list" #[] 0)} κ (· ∈ (pairsOf vs).toList) (λx=>(Z.map Prod.snd).countP λz=>lt z (keyOf d Z x.1)):=⟨λx y hx hy C E hc=>by
   obtain⟨zx,mx,rfl⟩:=mz x hx;obtain⟨zy,my,rfl⟩:=mz y hy;refine ok.2 zx mx zy my C E ?_;simp only[keyOf_eq fn mx,keyOf_eq fn my]at hc;rw[zey Oo (_c0 mx)]at hc;exact hc⟩;refine _a (_z ((zfW V  (Q:=λ_ ag=>SB κ (pairsOf vs) ag/\wo (λx=>(Z.map Prod.snd).countP λz=>lt z (keyOf d Z x.1)) (arrOf ag) 0 (pairsOf vs).size) ⟨Array.Perm.refl _,rfl,rfl⟩ rfl λag B sr=>⟨B,sr⟩)) ?_ λ_ _ z=>z);rintro⟨⟨⟩,ag⟩ s' ⟨rfl,B,sr⟩;dsimp only at B sr ⊢;have pl:(arrOf ag).toList.Perm (vs.zip vs):=by rw[<- pairsOf_toList];exact _bL.mp B.perm
  obtain⟨Z',pz,ez⟩:=z0C pl Z (by rw[<- hvs,z9S]);have out:(arrOf ag).map (·.2)=(Z'.map Prod.fst).toArray:=by
   apply Array.toList_inj.mp;rw[Array.toList_map,<- ez,_aT];rfl
  rw[out,B.failed];refine _a (seqEpoch_at g2 rfl (_a (listUpdate_at g2 rfl ?_ (_aI _) (by rw[_A,_B,pz.length_eq];exact Nat.le_succ_of_le aD))));simp only[_cp,_M];exact _b (h Z' pz (by
   rw[_bR];intro i j hi hj aI;have bG:i<Z'.length:=by simpa using hi
   have fM:j<Z'.length:=by simpa using hj
   have sz:(arrOf ag).size=Z'.length:=by rw[<- _N,<- ez,_B]
   have az:∀k (hk:k<Z'.length),at_ (arrOf ag) k=(Z'[k].1,Z'[k].1):=λk hk=>by
    have:(arrOf ag).toList[k]? = some (Z'[k].1,Z'[k].1):=by rw[<- ez,_Y,_e hk];rfl
    have e2:(arrOf ag)[k]? = some (Z'[k].1,Z'[k].1):=by simpa using this
    have e3:=z63 (arr:=arrOf ag) (i:=k) (by lia);rw[e2]at e3;exact (_I e3).symm
   have r:=sr i j (_aI _) (_ax aI) (by rw[<- B.size];lia);rw[az i bG,az j fM]at r;have mi:Z'[i]∈Z:=pz.mem_iff.mp (_bv _);have mj:Z'[j]∈Z:=pz.mem_iff.mp (_bv _);simp only[keyOf_eq fn mi,keyOf_eq fn mj]at r;rw[_cG,_cG,<- zey Oo  (_c0 mj)];exact _af (by omega)))
theorem z90 {K:Type} {lt:K->K->Bool} (Oo:vQ lt) (d:K)  {Z:List (Value×K)} (fn:∀x∈Z,∀y∈Z,x.1=y.1->x.2=y.2) (hl:s.heap.IsList l (Z.map Prod.fst).toArray) (hp:∀(A':Around) (s':Shared),A'.units<=A.units+4->(∀b o,s.heap.get? b=some o->s'.heap.get? b=some o)->z9W prog w A' lt κ Z s') (aD:Z.length<=sizeLine) (h:∀Z':List (Value×K),Z'.Perm Z->(Z'.map Prod.snd).Pairwise (λa b=>lt b a=false)->Q (.ref (s.heap.objs.size+1)) {s with heap:=sortedAll s.heap (Z.map Prod.fst) (Z'.map Prod.fst).toArray}): wpAny (model prog w) A (call (.builtin "sorted") [.ref l]) Q E s:=by
 have dy:(Z.map Prod.fst).toArray.size<=sizeLine:=by simpa using aD
 refine Calls.call_function_entry kind_sorted plain_sorted entry_sorted (args_sorted1 _) (_a  (_b (_a (collect_list hl (_a (wpAny_newList ?_ dy)) dy))));have sz:((s.heap.push (seqObj "list" #[] 0)).update s.heap.objs.size (Obj.mapSeq (· ++ (Z.map Prod.fst).toArray))).objs.size=s.heap.objs.size+1:=by rw[Heap.size_update,size_push']
 have g:(((s.heap.push (seqObj "list" #[] 0)).update s.heap.objs.size (Obj.mapSeq (· ++ (Z.map Prod.fst).toArray))).push (seqObj "list" (Z.map Prod.fst).toArray 0)).get? (s.heap.objs.size+1)=some (seqObj "list" (Z.map Prod.fst).toArray 0):=by
  rw[<- sz];exact _k _ rfl
 have keep:∀b o,s.heap.get? b=some o->(((s.heap.push (seqObj "list" #[] 0)).update s.heap.objs.size (Obj.mapSeq (· ++ (Z.map Prod.fst).toArray))).push (seqObj "list" (Z.map Prod.fst).toArray 0)).get? b=some o/\b≠s.heap.objs.size+1:=λb o q=>by
  have lt  := _j q;refine⟨?_,_t (_aM lt)⟩;rw[_cq _ _ _ (by rw[sz];exact _t (_aM lt)),Heap.get?_update_ne _ _ _ _ (_t lt),_cq _ _ _ (_t lt)];exact q
 rw[sz];exact _a (_ak (_P slot_list_sort ⟨_,g,rfl⟩ entry_list_sort (z2U Oo d fn g (λs' k=>hp _ s' (by simp[Around.in1]) λb o q=>k b o (keep b o q).2 (keep b o q).1) aD λZ' pz pw=>⟨_,rfl,_b ⟨_,rfl,h Z' pz pw⟩⟩) (args_list_sort _)))
end
open Pm
theorem zez{K:Type}{lt:K->K->Bool}(Oo:vQ lt):∀{xs ys:List K},xs.Perm ys->xs.Pairwise (λa b=>lt b a=false)->ys.Pairwise (λa b=>lt b a=false)->xs=ys
 | [],ys,p,_,_=>by rw[List.Perm.nil_eq p] | x::xs,[],p,_,_=>by simp at p | x::xs,y::ys,p,h1,h2=>by
  have hx:x∈y::ys:=p.mem_iff.mp (by simp);have hy:y∈x::xs:=p.mem_iff.mpr (by simp);rw[_b8]at h1 h2;have e:x=y:=by
   rcases _n.mp hx with e | hx;·exact e
   ·rcases _n.mp hy with e | hy;·exact e.symm
    ·refine _T λne=>?_;have b:=h2.1 x hx;rw[Oo.tot y x λz=>ne z.symm,(h1.1 y hy)]at b;cases b
  subst e;rw[zez Oo ((List.perm_cons x).mp p) h1.2 h2.2]
noncomputable def qj{K:Type}(lt:K->K->Bool)(L:List K):List K:=L.mergeSort λa b=>!lt b a
theorem wB{K:Type}(lt:K->K->Bool)(L:List K):(qj lt L).Perm L:=List.mergeSort_perm L _
theorem z0E{K:Type}{lt:K->K->Bool}(Oo:vQ lt){L L':List K}(p:L'.Perm L)(h:L'.Pairwise λa b=>lt b a=false):qj lt L=L':=by
 refine zez Oo ((wB lt L).trans p.symm) ?_ h;have:=List.pairwise_mergeSort (le:=λa b=>!lt b a) (λa b c h1 h2=>by
  simp only[_aN]at h1 h2 ⊢;by_cases e1:a=b;·rw[e1];exact h2
  by_cases e2:b=c;·rw[<- e2];exact h1
  have q3:=Oo.tr _ _ _ (by rw[Oo.tot b a λz=>e1 z.symm,h1];rfl) (by rw[Oo.tot c b λz=>e2 z.symm,h2];rfl);rw[Oo.tot a c (λz=>by rw[z,Oo.irr]at q3;cases q3),q3];rfl) (λa b=>by
  by_cases e:a=b;·rw[e,Oo.irr];rfl
  ·rw[Oo.tot a b e];cases lt a b<;>rfl) L;exact this.imp λh=>by simpa using h
theorem xQ:vQ lexN:=⟨z0v,λ_ _=>z83,λ_ _ _=>za1⟩
theorem z31:∀{vs:List Value}{a b:List Int},yd vs a->yd vs b->a=b
 | _,_,_,.nil,.nil=>rfl | _,_,_,.cons h1,.cons h2=>by rw[z31 h1 h2]
theorem TupAt.one    (h1:TupAt h v p)(h2:TupAt h v q):p=q:=by
 obtain⟨a,o,n,us,rfl,g,c,d,i,_⟩:=h1;obtain⟨b,o',n',iG,e,g',c',d',i',_⟩:=h2;cases e;rw[g]at g';cases g';rw[d]at d';cases d';exact z31 i i'
theorem z4h:∀{h:Heap}{vs:List Value}{ps:List (List Int)},vg h vs ps->(vs.zip ps).map Prod.fst=vs/\(vs.zip ps).map Prod.snd=ps/\∀z∈vs.zip ps,TupAt h z.1 z.2
 | _,_,_,.nil=>⟨rfl,rfl,λz hz=>by cases hz⟩ | _,_,_,.cons p r=>by
  obtain⟨h1,h2,h3⟩:=z4h r;refine⟨by simp[h1],by simp[h2],λz hz=>?_⟩;rcases _n.mp hz with rfl | hz;·exact p
  ·exact h3 z hz
section
variable {X:Cx}{E:XK}
theorem zbe       (h:vg s.heap vs ps):z9W prog w A lexN (tuples' true) (vs.zip ps) s:=by
 obtain⟨h1,h2,h3⟩:=z4h h;refine⟨λQ E h0 q=>?_,λx hx y hy C E hc=>zfV (h3 x hx) (h3 y hy) hc⟩;rw[h1];refine zay h (by rw[<- h2,_B];exact h0) q
theorem zlJ  : ∀{ys:List V} {ae:List Value} {ps:List (List Int)},yp ys ae->Paired (λv ns=>AtN H v ns) ys ps->∃T:List (V×Value×List Int),T.map (λt=>t.2)=ae.zip ps/\∀t∈T,ym t.1 t.2.1/\AtN H t.1 t.2.2
 | _,_,_,.nil,.nil=>⟨[],rfl,λt h=>by cases h⟩ | _,_,_,.cons (a:=y) (b:=v) r rs,.cons (b:=p) a ps=>by
  obtain⟨T,h1,h2⟩:=zlJ rs ps;refine⟨(y,v,p)::T,by simp[h1],λt ht=>?_⟩;rcases _n.mp ht with rfl | ht;·exact⟨r,a⟩
  ·exact h2 t ht
theorem z5z  : ∀{T:List (V×Value×List Int)},(∀t∈T,ym t.1 t.2.1/\AtN H t.1 t.2.2)->yp (T.map Prod.fst) (T.map λt=>t.2.1)/\Paired (λv ns=>AtN H v ns) (T.map Prod.fst) (T.map λt=>t.2.2)
 | [],_=>⟨.nil,.nil⟩ | t::T,h=>by
  obtain⟨h1,h2⟩:=z5z  λt ht=>h t (.tail _ ht);exact⟨.cons (h t (.head _)).1 h1,.cons (h t (.head _)).2 h2⟩
def zeg(K:W.Frag):List V->Hp->VK->Prop:=λxs H Q=>∃(l:Addr)(ys:List V)(ps:List (List Int)),xs=[.ref l]/\SqL K H l ys/\Paired (λv ns=>AtN H v ns) ys ps/\(∀n∈ps,n≠[])/\ ∀zs,Paired (λv ns=>AtN H v ns) zs (qj lexN ps)->∀r,H r=none->Q (.ref r) (upd H r (.lst zs))
theorem z8z:xA X (.builtin "sorted") (zeg X.K):=by
 intro ac s O H xs us Q I r h;obtain⟨l,ys,ps,rfl,hq,hp,hn,q⟩:=h;obtain⟨u,rfl,rx⟩:=vals1 r;cases rx;obtain⟨ae,r',pl,hz⟩:=I.list hq;have aF:=r'.length;have tu:=zaZ I r' hp hn;obtain⟨h1,h2,h3⟩:=z4h tu;obtain⟨T,t1,t2⟩:=zlJ r' hp;have lz:(ae.zip ps).length=ae.length:=by rw[<- _B  ,h1]
 refine z90 xQ []   (λx hx y hy e=>(h3 x hx).one (by rw[e];exact h3 y hy)) (by rw[h1];exact pl.isList) (λA' s' _ k=>zbe (tu.mono k)) (by lia) λZ' pz pw=>?_;rw[h1];obtain⟨T',pt,et⟩:=z0C  pz T t1;have pP:T'.map (λt=>t.2.1)=Z'.map Prod.fst:=by rw[<- et,_aT];rfl
 have pQ:T'.map (λt=>t.2.2)=Z'.map Prod.snd:=by rw[<- et,_aT];rfl
 obtain⟨b1,b2⟩:=z5z  λt ht=>t2 t (pt.mem_iff.mp ht);rw[pP]at b1;rw[pQ,<- z0E xQ (show (Z'.map Prod.snd).Perm ps from by have:=pz.map Prod.snd;rwa [h2]at this) pw]at b2;obtain⟨c',e⟩:=sortedAll_at s.heap ae (Z'.map Prod.fst).toArray;refine⟨.ref (s.heap.objs.size+1),_,I.laid  (λb o z=>sortedAll_old z) (Nat.le_succ _) (show xF X.prog X.w _ (sortedAll s.heap ae (Z'.map Prod.fst).toArray) _ (.lst (T'.map Prod.fst)) from⟨?_,_,c',b1,e⟩),rfl,q _ b2 _ (I.hok.fresh (Nat.le_succ _))⟩;have l1:T'.length=(ae.zip ps).length:=by rw[pt.length_eq,<- _B  ,t1]
 rw[_B,l1,lz];lia
theorem z1u    : ∀{zs:List V}{ps:List (List Int)},Paired (λv ns=>AtN H v ns) zs ps->zG mg H Y (ps.map λns=>.tup (ns.map D.int)) zs
 | _,_,.nil=>zG.nil | _,_,.cons (b:=p) ⟨b,e,h⟩ r=>by exact⟨_,_,rfl,⟨b,_,e,h,uY p⟩,z1u r⟩
noncomputable def z5k(s:Sto)(d:D):Option (List (List Int)):=match listOf s d with
 | some xs=>match z37 xs with
  | some L=>if L.all (λn=>!n.isEmpty)=true then some (qj lexN L) else none | none=>none
 | none=>none
noncomputable def zkB:Mir:=λds s=>match ds with
 | [d]=>match z5k s d with | some L=>.ok (.loc s.length) (s++[L.map λns=>.tup (ns.map D.int)]) | none=>.no
 | _=>.no
noncomputable def z5g:Mir:=λds s=>match ds with
 | [d]=>match z5k s d with | some L=>.ok (.lst (L.map λns=>.tup (ns.map D.int))) s | none=>.no
 | _=>.no
theorem zcb        (r:Rep (gm X) H Y s)(dn:Den (gm X) H Y d v)(e:z5k s d=some L)(q:∀vs,zG (gm X) H Y (L.map λns=>.tup (ns.map D.int)) vs->∀a,H a=none->Q (.ref a) (upd H a (.lst vs))):zeg X.K [v] H Q:=by
 unfold z5k at e;split at e
 ·rename_i xs ex;split at e
  ·rename_i L eL;split at e
   ·rename_i hp;cases e;obtain⟨a,ws,rfl,q1,q2⟩:=zJ r ex dn;exact⟨a,ws,L,rfl,.inl q1,jV eL q2,(λn hn z=>by have:=_aC.mp hp n hn;rw[z]at this;cases this),λzs pz=>q zs (z1u pz)⟩
   ·cases e
  ·cases e
 ·cases e
theorem zfw:∃r,xA X (.builtin "sorted") r/\z1Q X E r z5g:=⟨_,z8z.freeze,λH Y s ds vs Q r hd h=>by
 unfold z5g at h;split at h
 ·split at h
  ·rename_i L e;obtain⟨v,rfl,dn⟩:=z3r hd;exact zcb r dn e λvs dv=>uD r h dv
  ·exact h.elim
 ·exact h.elim⟩
end
end Dd
namespace Dd
open L2
section
variable {prog:Program}{w:World}{A:Around}{E:Value->Shared->Prop}{s:Shared}{env:Env}
theorem z5d{e C D:Addr}{t:Expr}{b₀:Stmt}{bW:List Stmt}{pos:Pos}{vF:List ExceptHandler}{Q:Flow->Shared->Prop} (h:wpAny (model prog w) (A.mark (some (.ref e))) (eval t env) (λc s₁=>c=.ref D/\ (∃bm N nm q bs hdct sn sub ab col dd k0 k1 k2 k3 k5 bF,s₁.heap.get? C=some (excClassObj nm q C N bs bm hdct sn sub ab col dd k0 k1 k2 k3 k5 bF)/\(Value.ref C::bm).contains (.ref D)=true)/\ (∃bm N nm q bs hdct sn sub ab col dd k0 k1 k2 k3 k5 bF,s₁.heap.get? D=some (excClassObj nm q D N bs bm hdct sn sub ab col dd k0 k1 k2 k3 k5 bF)/\bm.contains (.type "BaseException")=true)/\(∃oe,s₁.heap.get? e=some oe/\oe.cls=.ref C)/\ wpAny (model prog w) (A.mark (some (.ref e))) (setFlight (.ref e) none) (λ_ s₂=> wpAny (model prog w) (A.mark (some (.ref e))) (execs (b₀::bW) env) Q (notedBy (model prog w) (A.mark (some (.ref e))) env (cameBackBy (model prog w) A env E)) s₂) (notedBy (model prog w) (A.mark (some (.ref e))) env (cameBackBy (model prog w) A env E)) s₁) (notedBy (model prog w) (A.mark (some (.ref e))) env (cameBackBy (model prog w) A env E)) s): wpAny (model prog w) A (handleBy (.ref e) env (.ExceptHandler (some t) none (b₀::bW) pos::vF)) Q E s:=by
 refine wpAny_handleBy_cons (codeAny_handlers_test (_z h (λc s₁ h₁=>?_) λ_ _ y=>y)) (by intro q;cases q);obtain⟨rfl,⟨bm,N,nm,q,bs,hdct,sn,sub,ab,col,dd,k0,k1,k2,k3,k5,bF,hC,cB⟩,⟨iD,N',mQ,q',mR,eh,mS,gG,mT,gH,eQ,dO,eW,fJ,fK,mU,df,hD,aW⟩,⟨oe,he,cP⟩,hk⟩:=h₁;obtain⟨hh,g,d,tk,os⟩:=s₁;exact ug hC hD he cP aW cB (codeAny_handlers_suite hk)
end
noncomputable def zbs(y:Str)(fb fh:FS):FS:=fun ρ s=>match fb ρ s with
 | .ex c s1=>if c=y then (match fh (List.replicate ρ.length none) s1 with
  | .ok (.rt d) s2=>.ok (.rt d) s2 | .ok (.nx ρ') s2=>.ok (.nx ρ') s2 | _=>.no) else .no | .ok (.rt d) s1=>.ok (.rt d) s1 | .ok (.nx ρ') s1=>.ok (.nx ρ') s1 | _=>.no
section
variable {X:Cx}{E:XK}{pos ie np:Pos}
theorem zhx {y:Str} {body:List Stmt} {b₀:Stmt} {bW:List Stmt} {fb fh:FS} (dD:X.stack=X.env::X.outer) (aX:X.env.frame=some X.env.locals) (bZ:X.ex=[]) (dI:zks X.K X.mg y y) (hg:Gl X y) (hb:∀(pn:List (Addr×Obj)) (xe:Value->Shared->Prop) (E1:XK),Passes (CX1 X.prog X.w) (Cx.at_ X pn xe) E1->RSs (Cx.at_ X pn xe) E1 body fb) (hh:∀(e:Addr) (pn:List (Addr×Obj)),RSs (Cx.mk_ X e pn) E0 (b₀::bW) fh) (br:autoParam ((y==("__debug__":Str))=false) aDe): RS X E (.Try body [.ExceptHandler (some (.Name y np)) none (b₀::bW) ie] [] [] pos) (zbs y fb fh):=by
 intro ac s O H D I hw;obtain⟨Y,ρ,cJ,r,en,h⟩:=hw;have aF:ρ.length=X.N.length:=by rw[en.len,I.len]
 refine wpAny_Try_except ?_;generalize hEb:(λ(e:Value) (s₁:Shared)=>wpAny (model X.prog X.w) X.A (noteFrame e X.env) (λ_ s₂=>wpAny (model X.prog X.w) X.A (setFlight e none) (λ_ s₃=>wpAny (model X.prog X.w) X.A (handleBy e X.env [.ExceptHandler (some (.Name y np)) none (b₀::bW) ie]) (SP X ac D) X.xe s₃) X.xe s₂) X.xe s₁)=Eb;let E1:XK:=λv _ H'=>∃Y' ag C fl s2,v=.ref C/\X.mg y=some (.ref C)/\yQ (gm X) H Y H' Y' ag/\fh (List.replicate ρ.length none) ag=.ok fl s2/\(match fl with | .rt _=>True | .nx _=>True | _=>False)/\okR (gm X) E H Y (FlD (gm X)) (.ok fl s2) (zaz D);have lN:Passes (CX1 X.prog X.w) (Cx.at_ X (X.pn++ac) Eb) E1:=by
  intro pins' O' H1 s1 e s' I1 pR;obtain⟨C,ea,H',he,fl,hE⟩:=pR;subst he;obtain⟨Y',ag,C',d,s2,eC,iJ,stp,pS,kd,ok⟩:=hE;cases eC;have J1:=I1.of_at;obtain⟨B,a0,fw,cov⟩:=fl.fly;have fw:Heap.FlyingW B (X.env::X.outer) ea (.ref C) a0 s'.heap:=by rw[<- dD];exact fw
  have un:Un (frs (X.env::X.outer)) [] H1 H' s1.heap s'.heap:=by rw[<- dD];exact fl.un
  have cov:∀b o,s'.heap.get? b=some o->(H' b≠none\/((∃o',s1.heap.get? b=some o')/\b∉frs (X.env::X.outer)))->B.get? b=some o:=by rw[<- dD];exact cov
  have land:∀h5,Heap.FlyingW B (X.env::X.outer) ea (.ref C) a0 h5->s'.heap.UpToSlots h5->L2.Inv X ac O' (upd H' ea (zfG C ea)) {s' with heap:=h5}/\H' ea=none/\∃oe,h5.get? ea=some oe/\oe.cls=.ref C:=λh5 eX sm=>by
   obtain⟨_,hn,pT,lO,oe⟩:=Fly.land un fl.hok fw cov eX sm;exact⟨J1.call' (s':={s' with heap:=h5}) (ch:=[]) fl.os (by rw[dD];exact pT) lO fl.bare (λb z=>absurd z (by simp)),hn,oe⟩
  rw[<- hEb];have lP:X.A.frames=some (X.env::X.outer):=by rw[<- dD];exact J1.ok.frames
  show wpAny (model X.prog X.w) X.A (noteFrame (.ref ea) X.env) _ _ s';refine wpAny_looks_onW (base:=B) lP aX fw λh4 lQ nB=>?_;refine wpAny_landsW lQ λh5 eX nC=>?_;obtain⟨I5,sN,pU⟩:=land h5 eX (nB.trans nC);obtain⟨C2,D2,bK,pV,q1,q2,cB⟩:=dI;rw[iJ]at bK;cases bK;refine z5d (C:=C) (D:=D2) (z1Y (X:=Cx.mk_ X ea (X.pn++ac)) I5.mk_ hg pV ⟨rfl,?_,?_,pU,?_⟩ br)
  ·obtain⟨bm,N,nm,q,bs,hdct,sn,sub,ab,col,dd,k0,k1,k2,k3,k5,hC,hs⟩:=cB _ I5.kIn;exact⟨bm,N,nm,q,bs,hdct,sn,sub,ab,col,dd,k0,k1,k2,k3,k5,_,hC,hs⟩
  ·obtain⟨bm,N,nm,q,bs,hdct,sn,sub,ab,col,dd,k0,k1,k2,k3,k5,mN,hC,sO,iC,T⟩:=zbp I5.kIn q2;exact⟨bm,N,nm,q,bs,hdct,sn,sub,ab,col,dd,k0,k1,k2,k3,k5,_,hC,T.hasType _bJ.hasBase⟩
  ·refine lands_againW eX λh6 pW pX=>?_;obtain⟨I6,pY,sP⟩:=land h6 pW ((nB.trans nC).trans pX);have pZ:yQ (gm X) H' Y' (upd H' ea (zfG C ea)) Y' ag:=yQ.lay stp.rep pY (by intro vs z;cases z);have fm:=stp.trans pZ;have p6:vE (gm X) (upd H' ea (zfG C ea)) Y' (List.replicate ρ.length none) O':=by
    refine⟨by rw[_ct,aF];exact J1.len.symm,λi d' hi=>?_⟩;rw[_b9]at hi;split at hi<;>cases hi
   have run:=hh ea (X.pn++ac) [] _ O' (upd H' ea (zfG C ea)) {nx:=D.nx,rt:=D.rt} I6.mk_ ⟨Y',_,ag,fm.rep,p6,by
    rw[pS];intro fv H2 Y2 ak fd;cases fv with
    | rt v=>exact ok (.rt v) H2 Y2 (fm.trans ak) fd | nx v=>exact ok (.nx v) H2 Y2 (fm.trans ak) fd | _=>cases d<;>first | exact kd.elim | exact (show False from fd).elim⟩;refine _z run (λfl s8 q8=>?_) λ_ _ z=>z.elim;cases fl with
   | ret u=>
    obtain⟨v,O8,H8,I8,rv,q8⟩:=q8;exact⟨v,O8,H8,I8.of_mk J1.ok,rv,q8⟩ | next=>
    obtain⟨O8,H8,I8,q8⟩:=q8;exact⟨O8,H8,I8.of_mk J1.ok,q8⟩ | brk=>obtain⟨_,_,_,z⟩:=q8;exact z.elim | cont=>obtain⟨_,_,_,z⟩:=q8;exact z.elim
 have run:=hb (X.pn++ac) Eb E1 lN [] s O H {nx:=D.nx,rt:=D.rt} I.at_ ⟨Y,ρ,cJ,r,en,?_⟩
 ·refine _z run (λfl s1 q1=>?_) λ_ _ z=>z;cases fl with
  | ret u=>
   obtain⟨v,O8,H8,I8,rv,q8⟩:=q1;exact⟨v,O8,H8,I8.of_at,rv,q8⟩ | next=>
   obtain⟨O8,H8,I8,q8⟩:=q1;exact (show wpAny (model X.prog X.w) X.A (pure Flow.next) (SP X ac D) X.xe s1 from _b ⟨O8,H8,I8.of_at,q8⟩) | brk=>obtain⟨_,_,_,z⟩:=q1;exact z.elim | cont=>obtain⟨_,_,_,z⟩:=q1;exact z.elim
 ·unfold zbs at h;cases e:fb ρ cJ with
  | no=>rw[e]at h;exact h.elim | ok fl s1=>
   rw[e]at h;cases fl with
   | rt d=>
    intro fv H2 Y2 ak fd;cases fv with
    | rt v=>exact h (.rt v) H2 Y2 ak fd | _=>exact (show False from fd).elim
   | nx ρ'=>
    intro fv H2 Y2 ak fd;cases fv with
    | nx v=>exact h (.nx v) H2 Y2 ak fd | _=>exact (show False from fd).elim
   | _=>exact h.elim
  | ex c s1=>
   rw[e]at h;intro H' Y' C stp iJ;simp only at h;split at h
   ·rename_i rc;subst rc;cases e2:fh (List.replicate ρ.length none) s1 with
    | no=>rw[e2]at h;exact h.elim | ex _ _=>rw[e2]at h;exact h.elim | ok fl s2=>
     rw[e2]at h;cases fl with
     | rt d=>exact⟨Y',s1,C,.rt d,s2,rfl,iJ,stp,e2,trivial,h⟩ | nx d=>exact⟨Y',s1,C,.nx d,s2,rfl,iJ,stp,e2,trivial,h⟩ | _=>exact h.elim
   ·exact h.elim
end
open PySem.W
section
theorem zbG(h:Int):SetTable.bits h<2 ^ 64:=by
 unfold SetTable.bits;have:=_bl h (show (0:Int)<2 ^ 64 by decide);have:=_bp h (show (2 ^ 64:Int)≠0 by decide);omega
end
end Dd
set_option maxHeartbeats 3200000
namespace Dd
open L2 PySem.W
section
variable {prog:Program}{w:World}{A:Around}{E:Value->Shared->Prop}{s:Shared}
noncomputable abbrev zbj(w:World):Obj:={cls:=.type "set",dict:=none,data:=.set #[] 0 (.fresh 0 0 (!w.params.followText "set-order"))}
theorem zgD (x:Value) {Z:Value->Shared->Prop} (q:Z (.ref s.heap.objs.size) {s with heap:=s.heap.push (zbj w)}):codeAny (model prog w) A (.call (.builtin "set.__new__") ⟨[.type "set",x],[]⟩) (wants Z E) s:=by
 have e0:checkBuiltinCall "set.__new__" ⟨[.type "set",x],[]⟩=pure ():=PySem.F.newCall_set_1 x;refine codeAny_of_tree (_a (_cN e0 (_b ⟨_bC PySem.F.plain_set_new _,_a2 PySem.F.entry_set_new ?_⟩)));rw[_aJ PySem.F.plain_set_new _];have e1:=PySem.sub_set_self;cases s;unfold Builtin.«set.__new__» Builtin.Frozenset.newClass;wp_walk;refine _bi (_b ?_);simp only[newObj];exact _a (wpAny_alloc (_b (_b q)))
end
section
variable {prog:Program}{w:World}{A:Around}{E:Value->Shared->Prop}{s:Shared}{a:Addr}{o:Obj}{ns:List Int}
structure zkn(prog:Program)(w:World)(A:Around)(a:Addr)(o:Obj)(ep:Nat)(os:List Value)(sl:Nat->Nat):Prop where
 z:sl 0=0
 nx:∀(i:Nat)(s:Shared)(Q:Option (Value×Nat)->Shared->Prop)(E:Value->Shared->Prop),i<=os.length->s.heap.get? a=some o->Q ((os[i]?).map λv=>(v,sl (i+1))) s->wpAny (model prog w) A (setNext a (sl i) i ep) Q E s
end
end Dd
set_option maxHeartbeats 800000
namespace Dd
open L2 PySem.W
namespace cU
theorem nxt:Slot "set_iterator" "__next__" "set_iterator.__next__":=.of (owner:="set_iterator") (n:="__next__") (by rw[typeLookup_type,builtinLookup_eq_fast];kernel_rfl) (by decide +kernel) (by decide +kernel) (by decide +kernel) (by first | exact .inl (by decide +kernel) | exact .inr (by decide +kernel)) (by rw[isSubtype_type];kernel_rfl)
theorem itr:Slot "set_iterator" "__iter__" "set_iterator.__iter__":=.of (owner:="set_iterator") (n:="__iter__") (by rw[typeLookup_type,builtinLookup_eq_fast];kernel_rfl) (by decide +kernel) (by decide +kernel) (by decide +kernel) (by first | exact .inl (by decide +kernel) | exact .inr (by decide +kernel)) (by rw[isSubtype_type];kernel_rfl)
theorem enxt:entryFor table "set_iterator.__next__"=some Builtin.«set_iterator.__next__» := entryFor_of_tree (by kernel_rfl)
theorem eitr:entryFor table "set_iterator.__iter__"=some Builtin.«dict_keyiterator.__iter__» := entryFor_alias (id':="dict_keyiterator.__iter__") (by kernel_rfl) rfl (by decide +kernel) (by kernel_rfl)
theorem eset:entryFor table "set.__iter__"=some Builtin.«frozenset.__iter__» := entryFor_alias (id':="frozenset.__iter__") (by kernel_rfl) rfl (by decide +kernel) (by kernel_rfl)
theorem anxt(a:Value):argsOk "set_iterator.__next__" ⟨[a],[]⟩:=by unfold argsOk;kernel_rfl
theorem aitr(a:Value):argsOk "set_iterator.__iter__" ⟨[a],[]⟩:=by unfold argsOk;kernel_rfl
end cU
section
variable {prog:Program}{w:World}{A:Around}{E:Value->Shared->Prop}{s:Shared}{a I:Addr}{o:Obj}{ns:List Int}
def z2l(h:Heap)(I a:Addr)(sl i n ep:Nat):Prop:=∃oi,h.get? I=some oi/\oi.cls=.type "set_iterator"/\oi.data=.fields #[.int (sl:Int) 0,.int (i:Int) 0,.ref a,.int (n:Int) 0,.int (ep:Int) 0]
theorem z2l.ty{sl i n ep:Nat}(h:z2l s.heap I a sl i n ep):s.TypeIs (.ref I) "set_iterator":=let ⟨o,g,c,_⟩:=h;⟨o,g,c⟩
theorem z2l.at_{h h':Heap}{sl i n ep:Nat}(x:z2l h I a sl i n ep)(e:∀o,h.get? I=some o->h'.get? I=some o):z2l h' I a sl i n ep:=let ⟨o,g,r⟩:=x;⟨o,e _ g,r⟩
theorem z2l.self_{sl i n ep:Nat}{Q:Value->Shared->Prop}(h:z2l s.heap I a sl i n ep)(q:Q (.ref I) s):wpAny (model prog w) A (pyIter (.ref I)) Q E s:= _ds h.ty cU.itr (_P cU.itr h.ty cU.eitr (show wpAny _ _ (ret (.ref I)) _ _ s from _b ⟨_,rfl,"set_iterator",_,h.ty,cU.nxt.lookup,q⟩) (cU.aitr _))
section
variable {ep:Nat}{os:List Value}{sl:Nat->Nat}{es:Array (Int×Value)}{t:SetTable}
theorem z6T {i:Nat} {Q:Option Value->Shared->Prop} (hh:A.handled=none) (G:zkn prog w A.in1 a o ep os sl) (hd:o.data=.set es ep t) (hf:t.fits es.size=true) (hz:es.size=os.length) (it:z2l s.heap I a (sl i) i os.length ep) (ho:s.heap.get? a=some o) (hi:i<=os.length) (ne:a≠I) (q1:∀v h',os[i]? = some v->z2l h' I a (sl (i+1)) (i+1) os.length ep->(∀b u,b≠I->s.heap.get? b=some u->h'.get? b=some u)->Q (some v) {s with heap:=h'}) (q0:∀h',os[i]? = none->(∀b u,b≠I->s.heap.get? b=some u->h'.get? b=some u)->Q none {s with heap:=h'}):wpAny (model prog w) A (pyNext (.ref I)) Q E s:=by
 obtain⟨oi,gi,ci,di⟩:=id it;refine _a (_bt (_S it.ty cU.nxt (_P cU.nxt it.ty cU.enxt ?_ (cU.anxt _))));unfold Builtin.«set_iterator.__next__»;refine _a (m:=slotArgs "__next__" 0 _) (_b ?_);refine _a (wpAny_fieldsOf gi di ?_);show wpAny _ _ (setEntries a >>= _) _ _ s;refine _a (wpAny_setEntries_of ho hd hf ?_);rw[_l (by rw[hz];simp)];show wpAny _ _ (setNext a (sl i:Int).toNat (i:Int).toNat (ep:Int).toNat >>= _) _ _ s;rw[_bb,_bb,_bb];refine _a (G.nx i s _ _ hi ho ?_);cases e:os[i]? with
 | some v=>
  rw[_at];refine _a (_bu gi di (show 0<5 by decide) ?_);have g1:=_ar (Obj.mapFields λx=>x.setIfInBounds 0 (rawInt ((sl (i+1):Nat):Int))) gi (by obtain⟨c0,d0,da,iK⟩:=oi;simp only at di;subst di;rfl);have d1:(Obj.mapFields (λx=>x.setIfInBounds 0 (rawInt ((sl (i+1):Nat):Int))) oi).data=.fields #[.int ((sl (i+1):Nat):Int) 0,.int (i:Int) 0,.ref a,.int (os.length:Int) 0,.int (ep:Int) 0]:=by
   obtain⟨c0,d0,da,iK⟩:=oi;simp only at di;subst di;rfl
  refine _a (_bu g1 d1 (show 1<5 by decide) ?_);have g2:=_ar (Obj.mapFields λx=>x.setIfInBounds 1 (rawInt ((i:Int)+1))) g1 (by obtain⟨c0,d0,da,iK⟩:=oi;simp only at di;subst di;rfl);refine _b ⟨_,rfl,_b ?_⟩;refine q1 v _ e ⟨_,g2,?_,?_⟩ λb u hb eb=>?_
  ·obtain⟨c0,d0,da,iK⟩:=oi;simp only at ci di;subst ci di;rfl
  ·obtain⟨c0,d0,da,iK⟩:=oi;simp only at di;subst di;rfl
  ·exact (_W _ _ hb.symm).trans ((_W _ _ hb.symm).trans eb) | none=>
  rw[Option.map_none];refine _a (_bu gi di (show 2<5 by decide) ?_);show wpAny _ _ (newExc (.type "StopIteration") [] >>= _) _ _ _;refine _a ?_;simp only[newExc,newTuple];refine _a (_ag ?_ (by size_fits));refine _a (m:=firstArgMember _ _) (_cN (a:=Value.none) (by first | rfl | (simp only[firstArgMember];rfl)) ?_);refine _ag ?_ (by size_fits);simp only[raiseNew];refine _a (wpAny_handled ?_);first | rw[show A.in1.handled=none from hh] | rw[hh]
  refine _a (_b (wpAny_throw ?_));refine _a (_bh (T:="StopIteration") (b:=true) ⟨_,_k _ rfl,rfl⟩ _c8 ?_);exact _b (q0 _ e λb u hb eb=>_c _ (_c _ ((_W _ _ hb.symm).trans eb)))
theorem zcI {Q:Bool->Shared->Prop} (hT:s.TypeIs (.ref a) "set") (q:Q false s):wpAny (model prog w) A (Builtin.List.listLengthHint (.ref a)) Q E s:=by
 unfold Builtin.List.listLengthHint;refine _a (wpAny_specialOf hT PySem.F.slot_set_len.lookup ?_);generalize hid:("set.__len__":String)=id0;wp_delta;rw[show splitId id0=some ("set","__len__") from by subst hid;decide +kernel];subst hid;refine _a (_bh (T:="set") (b:=true) hT (by rw[isSubtype_type];kernel_rfl) ?_);refine wpAny_ite_split (λz=>absurd z (by decide)) λ_=>wpAny_ite_split (λ_=>?_) λz=>absurd (by decide +kernel) z;exact _a (_c1 hT (_b q))
theorem zdM {Q:Value->Shared->Prop} (bZ:o.ExactSet) (hd:o.data=.set es ep t) (hf:t.fits es.size=true) (hp:t.plain=true) (ho:s.heap.get? a=some o) (q:Q (.ref s.heap.objs.size) {s with heap:=s.heap.push {cls:=.type "set_iterator",data:=.fields #[.int 0 0,.int 0 0,.ref a,.int (es.size:Int) 0,.int (ep:Int) 0]}}):wpAny (model prog w) A (pyIter (.ref a)) Q E s:=by
 have hT:s.TypeIs (.ref a) "set":=⟨o,ho,bZ.1⟩;refine _ds hT PySem.F.slot_set_iter (_P PySem.F.slot_set_iter hT cU.eset ?_ (PySem.F.args_set_iter_1 _));unfold Builtin.«frozenset.__iter__»;refine _a (m:=Builtin.Frozenset.slot0 "__iter__" ⟨[.ref a],[]⟩) (_b ?_);refine _a (show wpAny _ _ (Builtin.Frozenset.sizeOf a) _ _ _ from _a (wpAny_setEntries_of ho hd hf (_b ?_)));refine _a (show wpAny _ _ (setDrawn a) _ _ _ from ?_);unfold setDrawn;refine _a (_aE ho hd hf ?_);refine _a (show wpAny _ _ setsByText _ _ _ from _a (_bi (_b ?_)));refine _b ?_;dsimp only;show wpAny _ _ (if (!(w.params.followText "set-order")&&(!t.plain&&decide (es.size > 1)))=true then _ else _) _ _ _;rw[hp];simp only[_a8,Bool.false_and,_cr,_o,_M];refine _a (_b (_a (wpAny_setEpoch_of ho hd hf ?_)));refine _a (_ag (_b ⟨_,rfl,"set_iterator",_,⟨_,_k _ rfl,rfl⟩,cU.nxt.lookup,?_⟩));simpa[rawInt] using q
theorem zf1{os:List Value}{sl:Nat->Nat}(G:∀A:Around,zkn prog w A a o ep os sl)(bZ:o.ExactSet)(hd:o.data=.set es ep t)(hf:t.fits es.size=true)(hp:t.plain=true)(hz:es.size=os.length):KdlSrc prog w "set" a a os.length (λi v=>os[i]? = some v) (λh=>h.get? a=some o) where
 type:=λ_ ho=>⟨o,ho,bZ.1⟩;there:=λ_ ho=>⟨_j ho,_j ho⟩;keep:=λ_ _ ho k=>k a (.inl rfl) o ho;notList:=by decide
 notTuple:=by decide
 hint:=λ_ _ s _ ho q=>zcI ⟨o,ho,bZ.1⟩ q;iter:=λA s hh ho=>by
  have ne:a≠s.heap.objs.size:=_t (_j ho);refine⟨_,λi h=>z2l h s.heap.objs.size a (sl i) i os.length ep/\h.get? a=some o,λE Q q=>zdM bZ hd hf hp ho q,⟨λb hb=>by simp at hb;simp[hb],λi h h' st k=>⟨st.1.at_ λo e=>k _ (by simp) o e,k a (by simp) o st.2⟩,λi s1 Q E hi st q=>?_,λs1 Q E st q=>?_,λi s1 Q E st q=>st.1.self_ q⟩,⟨⟨_,_k _ rfl,rfl,by rw[(G A).z,hz];rfl⟩,_c _ ho⟩⟩
  ·refine z6T hh (G A.in1) hd hf hz st.1 st.2 (by omega) ne (λv h' e it k=>?_) λh' e=>?_;·exact q v h' s1.toks e ⟨it,k a o ne st.2⟩ λb u hb=>k b u (by simpa using hb)
   ·rw[_e hi]at e;cases e
  ·refine z6T hh (G A.in1) hd hf hz st.1 st.2 (_h _) ne (λv h' e=>?_) λh' e k=>?_;·simp at e
   ·exact q h' s1.toks λb u hb=>k b u (by simpa using hb)
end
theorem z6I {T:String} {r d:Addr} {n:Nat} {P:Nat->Value->Prop} {OK:Heap->Prop} {Z:List Value->Shared->Prop} (K:KdlSrc prog w T r d n P OK) (hh:A.handled=none) (ok:OK s.heap) (hn:n<=sizeLine) (z:∀(h':Heap) (tk:Nat) (af:Array Value),s.heap.objs.size<h'.objs.size->(∀b u,s.heap.get? b=some u->h'.get? b=some u)->ItemsOf P af n->Z af.toList {s with heap:=h',toks:=tk}):wpAny (model prog w) A (collect (.ref r)) Z E s:=by
 have lt:=K.there _ ok;let ig:Result->Shared->Prop:=λq s2=>∃h' tk af c,q=.ok (.ret (.ref s.heap.objs.size))/\s2={s with heap:=h',toks:=tk}/\(∀b u,s.heap.get? b=some u->h'.get? b=some u)/\h'.get? s.heap.objs.size=some {cls:=.type "list",dict:=none,data:=.seq af c,slots:=#[]}/\ItemsOf P af n;have run:=kdl_extend (A:=A) (s:={s with heap:=s.heap.push {cls:=.type "list",data:=.seq ([]:List Value).toArray}}) (R:=ig) K hh (K.keep _ _ ok λb _ u e=>_c _ e) s.heap.objs.size (_bO lt.1) (_bO lt.2) (.ref s.heap.objs.size) 0 (_k _ rfl) (λh' tk af c k g it=>⟨h',tk,af,c,rfl,rfl,λb u e=>k b u (_t (_j e)) (_c _ e),g,it⟩) hn;have cD:∀q s2,ig q s2->∃h' tk af c,q=.ok (.ret (.ref s.heap.objs.size))/\s2={s with heap:=h',toks:=tk}/\h'.get? s.heap.objs.size=some {cls:=.type "list",dict:=none,data:=.seq af c,slots:=#[]}/\Z af.toList s2:=λq s2 ⟨h',tk,af,c,e1,e2,k,g,it⟩=>⟨h',tk,af,c,e1,e2,g,by rw[e2];exact z h' tk af (_j g) k it⟩;refine _a (wpAny_runValue (_a2 entry_proto_collect' ?_));rw[_aJ PySem.F.plain_proto_collect _];refine _a (show wpAny _ A.in1 (newList []) _ _ s from _ag (_b ⟨_bC PySem.F.plain_list_iadd _,_a2 entry_list_iadd' ?_⟩));rw[_aJ PySem.F.plain_list_iadd _];refine _z (show wpAny _ A.in1 (Builtin.List.listExtendWith (.ref s.heap.objs.size) (.ref r) (.ref s.heap.objs.size)) _ _ _ from run) (λfin s2 x=>?_) λe s2 x=>?_;·cases fin with
  | done f=>
   obtain⟨h',tk,af,c,e1,e2,g,zz⟩:=cD _ _ x;cases e1;subst e2;exact _a (wpAny_load g (_b zz)) | again c1=>
   refine⟨x.1,_bP x.2 λq s3 y=>?_⟩;obtain⟨h',tk,af,c,e1,e2,g,zz⟩:=cD _ _ y;subst e1 e2;exact _a (wpAny_load g (_b zz))
 ·obtain⟨_,_,_,_,e1,_⟩:=x;cases e1
end
end Dd
namespace Dd
open L2
open PySem.W
abbrev Ris(xs:Array Nat):Prop:=xs.toList.Pairwise (· < ·)
theorem Ris.at_{xs:Array Nat}(h:Ris xs){i k:Nat}(hk:k<xs.size)(hi:i<k):xs[i]'(_c2 hi hk)<xs[k]:=by
 have:=_bR.mp h i k (by simpa using _c2 hi hk) (by simpa using hk) hi;simpa using this
theorem z4l{xs:Array Nat}{j:Nat}(hr:Ris xs):∀(f lo hi:Nat),lo<=hi->hi<=xs.size->hi-lo<=f->(∀i (h:i<xs.size),i<lo->xs[i]<j)->(∀i (h:i<xs.size),hi<=i->j<=xs[i])-> SetTable.below.go xs j f lo hi<=xs.size/\(∀i (h:i<xs.size),i<SetTable.below.go xs j f lo hi->xs[i]<j)/\(∀i (h:i<xs.size),SetTable.below.go xs j f lo hi<=i->j<=xs[i])
 | 0,lo,hi,h1,h2,h3,h4,h5=>by
  have:lo=hi:=by omega
  subst this;exact⟨h2,h4,h5⟩ | f+1,lo,hi,h1,h2,h3,h4,h5=>by
  unfold SetTable.below.go;by_cases c:lo<hi
  ·rw[_g c];have hm:(lo+hi) / 2<xs.size:=by omega
   have eg:xs.getD ((lo+hi) / 2) j=xs[(lo+hi) / 2]:=by simp[hm]
   simp only[eg];by_cases d:xs[(lo+hi) / 2]<j
   ·rw[_g d];refine z4l hr f _ hi (by omega) h2 (by omega) (λi h bP=>?_) h5;rcases _c4 i ((lo+hi) / 2) with z | z;·exact _c2 (hr.at_ hm z) d
    ·have:i=(lo+hi) / 2:=by omega
     subst this;exact d
   ·rw[_l d];refine z4l hr f lo _ (by omega) (by omega) (by omega) h4 λi h bP=>?_;rcases _c4 ((lo+hi) / 2) i with z | z;·exact _al (Nat.le_of_not_lt d) (_ax (hr.at_ h z))
    ·have:i=(lo+hi) / 2:=by omega
     subst this;exact Nat.le_of_not_lt d
  ·rw[_l c];have:lo=hi:=by omega
   subst this;exact⟨h2,h4,h5⟩
theorem z0I{xs:Array Nat}(hr:Ris xs)(j:Nat):SetTable.below xs j<=xs.size/\(∀i (h:i<xs.size),i<SetTable.below xs j->xs[i]<j)/\(∀i (h:i<xs.size),SetTable.below xs j<=i->j<=xs[i]):= z4l hr xs.size 0 xs.size (_aI _) (_h _) (by omega) (λi h z=>absurd z (_b3 _)) λi h z=>absurd z (by omega)
theorem zkd(j:Nat):SetTable.has #[] j=false:=rfl
section
variable {t:SetTable}(hd:t.dummies=#[])
include hd
theorem z4U{j i:Nat}(h:t.slot j=.live i):∃hi:i<t.place.size,t.place[i]=j:=by
 unfold SetTable.slot at h;simp only[hd,zkd]at h;split at h
 ·rename_i e;injection h with h;subst h;have:=eq_of_beq e;obtain⟨h1,h2⟩:=Array.getElem?_eq_some_iff.mp this;exact⟨h1,h2⟩
 ·simp at h
theorem zao{j:Nat}(h:t.slot j≠.empty):∃i,t.slot j=.live i:=by
 unfold SetTable.slot at h ⊢;simp only[hd,zkd]at h ⊢;split;·exact⟨_,rfl⟩
 ·rename_i e;rw[_l e]at h;simp at h
theorem zeP(hr:Ris t.place){j:Nat}(h:t.slot j=.empty):∀i (hi:i<t.place.size),t.place[i]≠j:=λi hi z=>by
 obtain⟨b1,b2,b3⟩:=z0I hr j;have e:SetTable.below t.place j=i:=by
  rcases Nat.lt_trichotomy i (SetTable.below t.place j) with q | q | q;·have:=b2 i hi q;omega
  ·exact q.symm
  ·have b4:=b3 (SetTable.below t.place j) (by omega) (_h _);have:=hr.at_ hi q;omega
 unfold SetTable.slot at h;simp only[e]at h;rw[_g (by rw[Array.getElem?_eq_getElem hi,z];exact _dD _)]at h;cases h
theorem zkp(j:Nat):t.put j=({t with place:=SetTable.insertAt t.place (SetTable.below t.place j) j},SetTable.below t.place j):=by
 unfold SetTable.put;simp only[hd,zkd];obtain⟨mk,pl,du,fi,le,mo,pn⟩:=t;simp only at hd;subst hd;rfl
theorem zfz(hr:Ris t.place){j:Nat}(h:t.slot j=.empty):Ris (SetTable.insertAt t.place (SetTable.below t.place j) j):=by
 obtain⟨b1,b2,b3⟩:=z0I hr j;have ne:=zeP hd hr h;show (SetTable.insertAt t.place (SetTable.below t.place j) j).toList.Pairwise (· < ·);rw[_bX];generalize SetTable.below t.place j=p at *;have lt:∀a∈t.place.toList.take p,a<j:=λa ha=>by
  obtain⟨i,hi,rfl⟩:=_D.mp ha;have h1:i<t.place.size/\i<p:=by
   rw[_a4]at hi;simp at hi;omega
  have:=b2 i h1.1 h1.2;simpa using this
 have gt:∀a∈t.place.toList.drop p,j<a:=λa ha=>by
  obtain⟨i,hi,rfl⟩:=_D.mp ha;rw[_cy]at hi;have h1:p+i<t.place.size:=by simp at hi;omega
  have h2:=b3 (p+i) h1 (by omega);have h3:=ne (p+i) h1;have:j<t.place[p+i]:=by omega
  simpa using this
 refine List.pairwise_append.mpr ⟨List.Pairwise.sublist (_cf _ _) hr,_b8.mpr ⟨gt,List.Pairwise.sublist (List.drop_sublist _ _) hr⟩,λa ha b hb=>?_⟩;rcases _n.mp hb with q | q;·rw[q];exact lt a ha
 ·exact _c2 (lt a ha) (gt b q)
end
def orb(m:Nat):Nat->Nat->Nat
 | 0,i=>i | n+1,i=>orb m n ((i*5+1) % m)
def zke(m:Nat):Nat->Nat->List Nat
 | 0,_=>[] | n+1,i=>i::zke m n ((i*5+1) % m)
theorem z6X{m e:Nat}:∀{n i:Nat},e∈zke m n i->∃k,k<n/\orb m k i=e
 | 0,_,h=>by cases h | n+1,i,h=>by
  rcases _n.mp h with rfl | h;·exact⟨0,by omega,rfl⟩
  ·obtain⟨k,h1,h2⟩:=z6X h;exact⟨k+1,by omega,h2⟩
theorem z3t(m:Nat):∀(a b i:Nat),orb m (a+b) i=orb m b (orb m a i)
 | 0,b,i=>by rw[_ay];rfl | a+1,b,i=>by
  rw[show a+1+b=(a+b)+1 by omega];exact z3t m a b _
def zkv(m:Nat):Nat->Nat->Nat->Nat
 | 0,_,a=>a | n+1,i,a=>zkv m n ((i*5+1) % m) (a ||| 1 <<< i)
theorem z78{m e:Nat}:∀{n i a:Nat},(zkv m n i a).testBit e=true->a.testBit e=true\/e∈zke m n i
 | 0,_,_,h=>.inl h | n+1,i,a,h=>by
  rcases z78 (n:=n) h with h | h
  ·rw[Nat.testBit_or,Bool.or_eq_true]at h;rcases h with h | h;·exact .inl h
   ·rw[Nat.one_shiftLeft,Nat.testBit_two_pow]at h;exact .inr (_n.mpr (.inl (of_decide_eq_true h).symm))
  ·exact .inr (.tail _ h)
noncomputable def okM(m:Nat):Bool:=zkv m m 0 0==2 ^ m-1&&orb m m 0==0
theorem zmA:okM 8=true:=by decide +kernel
theorem zkA:okM 32=true:=by decide +kernel
theorem zie:okM 128=true:=by decide +kernel
theorem zjg:okM 512=true:=by decide +kernel
theorem zgX:okM 2048=true:=by decide +kernel
theorem zeX{m:Nat}(h:okM m=true){i e:Nat}(hi:i<m)(he:e<m):∃n,n<m/\orb m n i=e:=by
 unfold okM at h;rw[_L]at h;obtain⟨h1,h2⟩:=h;have z:=eq_of_beq h2;have key:∀e,e<m->∃k,k<m/\orb m k 0=e:=λe he=>z6X ((z78 (by rw[eq_of_beq h1,Nat.testBit_two_pow_sub_one];exact _aR he)).resolve_left (by simp));obtain⟨a,a1,a2⟩:=key i hi;obtain⟨b,b1,b2⟩:=key e he;by_cases c:a<=b
 ·refine⟨b-a,by omega,?_⟩;rw[<- a2,<- z3t,show a+(b-a)=b by omega,b2]
 ·refine⟨m-a+b,by omega,?_⟩;rw[<- a2,<- z3t,show a+(m-a+b)=m+b by omega,z3t,z,b2]
def z0r(mask:Nat):Nat->Nat->Nat->Nat×Nat
 | 0,i,p=>(i,p) | n+1,i,p=>z0r mask n (SetTable.leap mask i p).1 (SetTable.leap mask i p).2
theorem zaa(mask:Nat):∀n i,z0r mask n i 0=(orb (mask+1) n i,0)
 | 0,i=>rfl | n+1,i=>by
  show z0r mask n ((i*5+1+0 / 32) % (mask+1)) (0 / 32)=_;rw[Nat.zero_div,_by,zaa mask n];rfl
theorem z5A(mask:Nat):∀a b i p,z0r mask (a+b) i p=z0r mask b (z0r mask a i p).1 (z0r mask a i p).2
 | 0,b,i,p=>by rw[_ay];rfl | a+1,b,i,p=>by
  rw[show a+1+b=(a+b)+1 by omega];exact z5A mask a b _ _
theorem z9Z(mask:Nat):∀n i p,i<mask+1->p<32 ^ n->(z0r mask n i p).2=0/\(z0r mask n i p).1<mask+1
 | 0,i,p,hi,hp=>⟨show p=0 by simpa using hp,hi⟩ | n+1,i,p,hi,hp=>by
  refine z9Z mask n _ _ (Nat.mod_lt _ (by omega)) ?_;show p / 32<32 ^ n;rw[Nat.div_lt_iff_lt_mul (by decide)];rw[Nat.pow_succ]at hp;exact hp
theorem z5B{mask:Nat}(h:okM (mask+1)=true){i p e:Nat}(hi:i<mask+1)(hp:p<2 ^ 64)(he:e<mask+1):∃r,r<mask+14/\(z0r mask r i p).1=e:=by
 obtain⟨h1,h2⟩:=z9Z mask 13 i p hi (_v hp (by decide));obtain⟨n,n1,n2⟩:=zeX h h2 he;refine⟨13+n,by omega,?_⟩;rw[z5A,h1,zaa];exact n2
def Emp(t:SetTable):Nat->SetTable.Probe->Prop
 | 0,p=>t.slot p.j=.empty | n+1,p=>t.slot p.j=.empty\/Emp t n (t.advance p)
theorem Emp.up{t:SetTable}:∀{n:Nat}{p:SetTable.Probe},Emp t n p->Emp t (n+1) p
 | 0,p,h=>.inl h | n+1,p,h=>h.elim .inl λh=>.inr h.up
theorem Emp.mono{t:SetTable}{n m:Nat}{p:SetTable.Probe}(h:Emp t n p)(hl:n<=m):Emp t m p:=by
 obtain⟨k,rfl⟩:=Nat.exists_eq_add_of_le hl;induction k with
 | zero=>exact h | succ k ih=>exact (ih (by omega)).up
theorem zhC{t:SetTable}{p:SetTable.Probe}(h:p.dummy=none):(t.advance p).dummy=none:=by
 unfold SetTable.advance;split<;>exact h
section
variable {t:SetTable}(hd:t.dummies=#[])(hashAt:Nat->Int)(h:Int)
include hd
theorem zec:∀(n bj:Nat)(p:SetTable.Probe),n<bj->Emp t n p->p.dummy=none-> (∃j,SetTable.probe.go t hashAt h bj p=some (.empty j none)/\t.slot j=.empty)\/∃j i next n',SetTable.probe.go t hashAt h bj p=some (.candidate j i next)/\t.slot j=.live i/\Emp t n' next/\n'<n/\next.dummy=none
 | n,0,p,hf,_,_=>absurd hf (_b3 _) | n,bj+1,p,hf,he,h0=>by
  unfold SetTable.probe.go;by_cases z:t.slot p.j=.empty
  ·rw[z];exact .inl ⟨p.j,by rw[h0],z⟩
  ·obtain⟨i,e⟩:=zao hd z;rw[e];simp only;match n,he,hf with
   | 0,he,_=>exact absurd he z | n+1,he,hf=>
    have cT:=he.resolve_left z;by_cases q:(hashAt i==h)=true
    ·rw[_g q];exact .inr ⟨p.j,i,_,n,rfl,e,cT,by omega,zhC h0⟩
    ·rw[_l q];rcases zec n bj (t.advance p) (by omega) cT (zhC h0) with g | ⟨j,i2,nx,n',g1,g2,g3,g4,g5⟩;·exact .inl g
     ·exact .inr ⟨j,i2,nx,n',g1,g2,g3,by omega,g5⟩
end
noncomputable def nxt(t:SetTable)(p:SetTable.Probe):SetTable.Probe:={p with j:=(SetTable.leap t.mask p.i p.perturb).1,more:=SetTable.runEnd t.mask (SetTable.leap t.mask p.i p.perturb).1-(SetTable.leap t.mask p.i p.perturb).1,i:=(SetTable.leap t.mask p.i p.perturb).1,perturb:=(SetTable.leap t.mask p.i p.perturb).2}
theorem zaI{t:SetTable}{n:Nat}:∀(k:Nat)(p:SetTable.Probe),p.more=k->Emp t n (nxt t p)->Emp t (n+k+1) p
 | 0,p,hk,h=>.inr (by
  have e:t.advance p=nxt t p:=by
   unfold SetTable.advance;rw[_l (by omega)];rfl
  rw[e];exact h) | k+1,p,hk,h=>.inr (by
  have e:t.advance p={p with j:=p.j+1,more:=p.more-1}:=by
   unfold SetTable.advance;rw[_g (by omega)]
  rw[e];exact zaI k _ (by show p.more-1=k;omega) h)
theorem z4r{t:SetTable}{e:Nat}(he:t.slot e=.empty):∀(r:Nat)(p:SetTable.Probe),p.j=p.i->p.more=SetTable.runEnd t.mask p.i-p.i->(z0r t.mask r p.i p.perturb).1=e->Emp t (10*r) p
 | 0,p,hj,hm,h=>by
  show t.slot p.j=.empty;rw[hj,show p.i=e from h];exact he | r+1,p,hj,hm,h=>by
  have m9:p.more<=9:=by
   rw[hm];unfold SetTable.runEnd;split<;>omega
  exact (zaI p.more p rfl (z4r he r (nxt t p) rfl rfl h)).mono (by omega)
theorem zat {t:SetTable} (hd:t.dummies=#[]) (hs:t.place.size<=t.mask):∃e,e<t.mask+1/\t.slot e=.empty:=by
 refine _T λz=>?_;have all:∀e,e<t.mask+1->e∈t.place.toList:=λe he=>by
  obtain⟨i,h⟩:=zao hd λq=>z ⟨e,he,q⟩;obtain⟨hi,h⟩:=z4U hd h;rw[<- h];simp
 have:=_cJ (l₁:=List.range (t.mask+1)) (l₂:=t.place.toList) _cI λe he=>all e (_X.mp he);simp at this;omega
theorem z9E {t:SetTable} (hd:t.dummies=#[]) (hs:t.place.size<=t.mask) (hm:okM (t.mask+1)=true) (h:Int):Emp t (10*(t.mask+14)) (t.probeStart h):=by
 obtain⟨e,he,z⟩:=zat hd hs;obtain⟨r,r1,r2⟩:=z5B hm (i:=SetTable.bits h % (t.mask+1)) (p:=SetTable.bits h) (Nat.mod_lt _ (by omega)) (zbG h) he;exact (z4r z r (t.probeStart h) rfl rfl r2).mono (by omega)
theorem z9w{mask:Nat}{owner:Array (Option Nat)}{e:Nat}(he:owner.getD e (some 0)=none):∀(r bj i p:Nat),r<bj->(z0r mask r i p).1=e->∃j,SetTable.layClean.free mask owner bj i p=some j/\owner.getD j (some 0)=none
 | r,0,i,p,hf,_=>absurd hf (_b3 _) | r,bj+1,i,p,hf,h=>by
  unfold SetTable.layClean.free;cases q:(List.range (SetTable.runEnd mask i+1-i)).find? λk=>(owner.getD (i+k) (some 0)).isNone with
  | some k=>
   refine⟨i+k,rfl,?_⟩;have:=List.find?_some q;simpa using this | none=> match r,h with
   | 0,h=>
    exfalso;have:=List.find?_eq_none.mp q 0 (_X.mpr (by unfold SetTable.runEnd;split<;>omega));rw[_by,show i=e from h,he]at this;exact this rfl | r+1,h=>exact z9w he r bj _ _ (by omega) h
structure zej(mask:Nat)(owner:Array (Option Nat))(k:Nat):Prop where
 sz:owner.size=mask+1
 lt:∀j v,owner.getD j none=some v->v<k
 al:∀v,v<k->∃j,owner.getD j none=some v
 un:∀i j v,owner.getD i none=some v->owner.getD j none=some v->i=j
theorem getD_in{owner:Array (Option Nat)}{j v:Nat}(h:owner.getD j none=some v):j<owner.size:=by
 refine _T λz=>?_;simp[Array.getD,z]at h
theorem zgv{owner:Array (Option Nat)}{j:Nat}(h:owner.getD j (some 0)=none):j<owner.size/\owner.getD j none=none:=by
 by_cases z:j<owner.size
 ·simp[Array.getD,z]at h ⊢;exact h
 ·simp[Array.getD,z]at h
theorem zej.room {mask k:Nat} {owner:Array (Option Nat)} (Oo:zej mask owner k) (hk:k<=mask):∃e,e<mask+1/\owner.getD e (some 0)=none:=by
 refine _T λz=>?_;have all:∀e,e<mask+1->∃v,owner.getD e none=some v:=λe he=>by cases q:owner.getD e none with
  | some v=>exact⟨v,rfl⟩ | none=>
   refine absurd ⟨e,he,?_⟩ z;have hs:e<owner.size:=by rw[Oo.sz];exact he
   simp[Array.getD,hs]at q ⊢;exact q
 have:=_cJ (l₁:=(List.range (mask+1)).map λe=>(owner.getD e none).getD 0) (l₂:=List.range k) (by
  refine _bd.mpr (_bV (λ{a b} ha hb ne h=>?_) _cI);obtain⟨u,hu⟩:=all a (_X.mp ha);obtain⟨v,hv⟩:=all b (_X.mp hb);rw[hu,hv]at h;simp only[_cC]at h;exact ne (Oo.un a b u hu (by rw[hv,h]))) (λx hx=>by
  obtain⟨e,he,rfl⟩:=_E.mp hx;obtain⟨v,hv⟩:=all e (_X.mp he);rw[hv];exact _X.mpr (Oo.lt e v hv));simp at this;omega
theorem zej.put{mask k j:Nat}{owner:Array (Option Nat)}(Oo:zej mask owner k)(hj:owner.getD j (some 0)=none):zej mask (owner.setIfInBounds j (some k)) (k+1):=by
 obtain⟨h1,h2⟩:=zgv hj;have g:∀i,(owner.setIfInBounds j (some k)).getD i none=if i=j then some k else owner.getD i none:=λi=>by
  by_cases e:i=j
  ·subst e;simp[Array.getD,h1]
  ·rw[_l e];simp only[Array.getD,Array.size_setIfInBounds];split
   ·rename_i hi;have bG:i<owner.size:=hi;show (owner.setIfInBounds j (some k))[i]'(by simpa using bG)=owner[i];rw[Array.getElem_setIfInBounds bG,_l (λz:j=i=>e z.symm)]
   ·rfl
 refine⟨by simp[Oo.sz],λi v h=>?_,λv hv=>?_,λa b v ha hb=>?_⟩
 ·rw[g]at h;split at h;·injection h with h;omega
  ·have:=Oo.lt i v h;omega
 ·by_cases e:v=k;·exact⟨j,by rw[g,_g rfl,e]⟩
  ·obtain⟨i,hi⟩:=Oo.al v (by omega);refine⟨i,?_⟩;rw[g,_l (λz=>by rw[z,h2]at hi;cases hi)];exact hi
 ·rw[g]at ha hb;split at ha
  ·rename_i ea;injection ha with ha;subst ha;split at hb;·rename_i eb;rw[ea,eb]
   ·have:=Oo.lt b _ hb;omega
  ·split at hb
   ·injection hb with hb;subst hb;have:=Oo.lt a _ ha;omega
   ·exact Oo.un a b v ha hb
theorem z70 {mask:Nat} (hm:okM (mask+1)=true):∀(hs:List Int) (owner:Array (Option Nat)) (k:Nat),zej mask owner k->k+hs.length<=mask->∃dA,hs.foldl (init:=some (owner,k)) (λaf h=>do
  let (owner,k) <- af let j <- SetTable.layClean.free mask owner (SetTable.turns mask) (SetTable.bits h % (mask+1)) (SetTable.bits h)
  pure (owner.setIfInBounds j (some k),k+1))=some (dA,k+hs.length)/\zej mask dA (k+hs.length)
 | [],owner,k,Oo,_=>⟨owner,rfl,Oo⟩ | h::hs,owner,k,Oo,hk=>by
  rw[_w]at hk;obtain⟨e,he,z⟩:=Oo.room (by omega);obtain⟨r,r1,r2⟩:=z5B hm (i:=SetTable.bits h % (mask+1)) (p:=SetTable.bits h) (Nat.mod_lt _ (by omega)) (zbG h) he;obtain⟨j,j1,j2⟩:=z9w z r (SetTable.turns mask) (SetTable.bits h % (mask+1)) (SetTable.bits h) (by unfold SetTable.turns;omega) r2;obtain⟨o',f1,f2⟩:=z70 hm hs (owner.setIfInBounds j (some k)) (k+1) (Oo.put j2) (by omega);refine⟨o',?_,?_⟩
  ·rw[_bo,show k+(h::hs).length=k+1+hs.length by simp;omega,<- f1];congr 1;show ((SetTable.layClean.free mask owner (SetTable.turns mask) (SetTable.bits h % (mask+1)) (SetTable.bits h)).bind _)=_;rw[j1];rfl
  ·rw[show k+(h::hs).length=k+1+hs.length by simp;omega];exact f2
theorem zmg (mask:Nat):zej mask (Array.replicate (mask+1) none) 0:=by
 have g:∀j,(Array.replicate (mask+1) (none:Option Nat)).getD j none=none:=λj=>by
  simp only[Array.getD];split<;>simp
 exact⟨by simp,(λj v h=>by rw[g]at h;cases h),λv h=>absurd h (_b3 _),λi j v h=>by rw[g]at h;cases h⟩
theorem zfB{mask fi mo:Nat}{le pn:Bool}{hashes:Array Int}(hm:okM (mask+1)=true)(hn:hashes.size<=mask): ∃place order,SetTable.laid mask fi mo le pn hashes=some ({mask:=mask,place:=place,dummies:=#[],finger:=fi,led:=le,moves:=mo,plain:=pn},order)/\Ris place/\place.size=hashes.size/\order.toList.Perm (List.range hashes.size)/\order.size=hashes.size:=by
 obtain⟨owner,f,Oo⟩:=z70 hm hashes.toList (Array.replicate (mask+1) none) 0 (zmg mask) (by simpa using hn);rw[_ay]at f Oo;have lc:SetTable.layClean mask hashes=some owner:=by
  unfold SetTable.layClean;rw[<- Array.foldl_toList,f];rfl
 rw[show hashes.toList.length=hashes.size by simp]at Oo;have fs:∀{j:Nat}{b:Nat×Nat},(owner.getD j none).map (λv=>(j,v))=some b->b.1=j/\owner.getD j none=some b.2:=λ{j b} h=>by
  rw[_x]at h;obtain⟨v,hv,rfl⟩:=h;exact⟨rfl,hv⟩
 have re:(((List.range (mask+1)).filterMap λj=>(owner.getD j none).map (j,·)).map (·.1)).Pairwise (· < ·):=by
  rw[_bd,List.pairwise_filterMap];refine _bf.imp λ{a b} lt x hx y hy=>?_;rw[(fs hx).1,(fs hy).1];exact lt
 have perm:(((List.range (mask+1)).filterMap λj=>(owner.getD j none).map (j,·)).map (·.2)).Perm (List.range hashes.size):=by
  refine (List.perm_ext_iff_of_nodup ?_ _cI).mpr λv=>?_
  ·show List.Pairwise _ _;rw[_bd,List.pairwise_filterMap];refine _bf.imp λ{a b} lt x hx y hy e=>?_;have h1:=(fs hx).2;have h2:=(fs hy).2;rw[e]at h1;exact _t lt (Oo.un a b _ h1 h2)
  ·rw[_E,_X];constructor
   ·rintro⟨b,hb,rfl⟩;obtain⟨j,_,hj⟩:=_bj.mp hb;exact Oo.lt j _ (fs hj).2
   ·intro hv;obtain⟨j,hj⟩:=Oo.al v hv;refine⟨(j,v),_bj.mpr ⟨j,_X.mpr (by have:=getD_in hj;rw[Oo.sz]at this;exact this),by rw[hj];rfl⟩,rfl⟩
 have len:=perm.length_eq;rw[_B,_cm]at len;refine⟨(((List.range (mask+1)).filterMap λj=>(owner.getD j none).map (j,·)).map (·.1)).toArray,(((List.range (mask+1)).filterMap λj=>(owner.getD j none).map (j,·)).map (·.2)).toArray,?_,re,by simpa using len,perm,by simpa using len⟩;unfold SetTable.laid;rw[lc];rfl
section
variable {prog:Program}{w:World}{A:Around}{E:Value->Shared->Prop}{s:Shared}
theorem int_is{k:Int}{v:Value}(h:(intKind prog w).is k v=true):∃t,v=.int k t:=Value.isInt_shape h
theorem items_int{ks:List Int}{vs:List Value}(h:ItemsAre (intKind prog w) ks vs):∀v∈vs,∃k t,v=.int k t:=by induction h with
 | nil=>intro v hv;cases hv | cons h1 _ ih=>
  intro v hv;rcases _n.mp hv with rfl | hv;·obtain⟨t,e⟩:=int_is h1;exact⟨_,t,e⟩
  ·exact ih v hv
theorem z9o{ks:List Int}{a:Addr}{Q:Bool->Shared->Prop}(hk:IsTupleKey (intKind prog w) s.heap ks a)(q:Q true s):wpAny (model prog w) A (hashByValue 8 (.ref a)) Q E s:=by
 have hT:=hk.typeIs;obtain⟨o,items,n,ho,_,hd,hi⟩:=hk;unfold hashByValue;refine _a (wpAny_specialOf hT F.slot_tuple_hash.lookup ?_);show wpAny _ _ (do
   for x in (<- seqItems? (.ref a)).getD #[.ellipsis] do if !(<- hashByValue 7 x) then return false
   return true) _ _ s;refine _a (_aA ho hd ?_);refine _a ?_;show wpAny _ _ (forIn items _ _) _ _ s;rw[<- Array.forIn_toList];refine _bw _ (λvF r s'=>r.1=none/\s'=s/\∀v∈vF,∃k t,v=Value.int k t) _ ?_ ?_ _ _ ⟨rfl,rfl,items_int hi⟩
 ·rintro v vF r s' ⟨hr,rfl,bQ⟩;obtain⟨k,t,rfl⟩:=bQ v _O;refine _a (show wpAny _ _ (hashByValue 7 (.int k t)) _ _ _ from _b ?_);simp only[_a8,_o,_M];exact _b ⟨rfl,rfl,λu hu'=>bQ u (_G _ hu')⟩
 ·rintro⟨r1,r2⟩ s' ⟨hr,rfl,_⟩;simp only at hr;subst hr;exact _b q
theorem z4C{ks:List Int}{a:Addr}{Q:Bool->Shared->Prop}(hk:IsTupleKey (intKind prog w) s.heap ks a)(q:Q false s):wpAny (model prog w) A (ofAClassStatement 8 (.ref a)) Q E s:=by
 have hT:=hk.typeIs;obtain⟨o,items,n,ho,_,hd,hi⟩:=hk;unfold ofAClassStatement;refine _a (_c1 hT ?_);simp only;refine _a (show wpAny _ _ (pure true) _ _ s from _b ?_);simp only[_a8,_o,_M];refine _a (_aA ho hd ?_);refine _a ?_;show wpAny _ _ (forIn items _ _) _ _ s;rw[<- Array.forIn_toList];refine _bw _ (λvF r s'=>r.1=none/\s'=s/\∀v∈vF,∃k t,v=Value.int k t) _ ?_ ?_ _ _ ⟨rfl,rfl,items_int hi⟩
 ·rintro v vF r s' ⟨hr,rfl,bQ⟩;obtain⟨k,t,rfl⟩:=bQ v _O;refine _a (show wpAny _ _ (ofAClassStatement 7 (.int k t)) _ _ _ from _b ?_);simp only[_o,_M];exact _b ⟨rfl,rfl,λu hu'=>bQ u (_G _ hu')⟩
 ·rintro⟨r1,r2⟩ s' ⟨hr,rfl,_⟩;simp only at hr;subst hr;exact _b q
theorem zfo{ks:List Int}{a:Addr}{ys:List Value}{Q:Bool->Shared->Prop}(hk:IsTupleKey (intKind prog w) s.heap ks a)(hy:∀y∈ys,∃k b,y=.ref b/\IsTupleKey (intKind prog w) s.heap k b)(q:Q false s):wpAny (model prog w) A (searchCouldBeSeen (.ref a) ys) Q E s:=by
 unfold searchCouldBeSeen;refine _a ?_;refine _bw _ (λvF r s'=>r.1=none/\s'=s/\∀y∈vF,∃k b,y=.ref b/\IsTupleKey (intKind prog w) s.heap k b) _ ?_ ?_ _ _ ⟨rfl,rfl,hy⟩
 ·rintro v vF r s' ⟨hr,rfl,bQ⟩;obtain⟨k,b,rfl,kb⟩:=bQ v _O;have go:∀r:Option Bool×PUnit,r.1=none->r.1=none/\s'=s'/\∀y∈vF,∃k b,y=Value.ref b/\IsTupleKey (intKind prog w) s'.heap k b:=λr hr=>⟨hr,rfl,λu hu'=>bQ u (_G _ hu')⟩;by_cases e:(a==b)=true
  ·simp only[e,Bool.true_or,_K];exact _b (go _ rfl)
  ·have e':(a==b)=false:=by simpa using e
   simp only[e',carriedByValue,Bool.false_or,Bool.and_self,_o,_M];refine _a (wpAny_eqIsQuiet_tuple hk ?_);simp only[_a8,_o,_M];refine _a (wpAny_eqIsQuiet_tuple kb ?_);simp only[_a8,_o,_M];refine _a (z4C hk ?_);simp only[_o,_M];refine _a (z4C kb ?_);simp only[_o,_M];exact _b (go _ rfl)
 ·rintro⟨r1,r2⟩ s' ⟨hr,rfl,_⟩;simp only at hr;subst hr;exact _b q
end
section
variable {prog:Program}{w:World}{A:Around}{E:Value->Shared->Prop}{s:Shared}
noncomputable abbrev qP(prog:Program)(w:World)(k:List Int):Int:=tupleKeyHash (intKind prog w) k
def Msk(m:Nat):Prop:=m=7\/m=31\/m=127\/m=511\/m=2047
theorem Msk.ok{m:Nat}(h:Msk m):okM (m+1)=true:=by
 rcases h with rfl | rfl | rfl | rfl | rfl;·exact zmA
 ·exact zkA
 ·exact zie
 ·exact zjg
 ·exact zgX
theorem Msk.odd{m:Nat}(h:Msk m):m % 2=1:=by rcases h with rfl | rfl | rfl | rfl | rfl<;>rfl
structure z21(prog:Program)(w:World)(h:Heap)(o:Obj)(es:Array (Int×Value))(ep:Nat)(t:SetTable)(L:List (List Int×Addr)):Prop where
 ex:o.ExactSet
 hd:o.data=.set es ep t
 mm:Msk t.mask
 du:t.dummies=#[]
 le:t.led=(!w.params.followText "set-order")
 pl:t.plain=true
 ri:Ris t.place
 sz:t.place.size=es.size
 fl:es.size*5<t.mask*3
 eL:es.toList=L.map λx=>(qP prog w x.1,Value.ref x.2)
 at_:∀x∈L,IsTupleKey (intKind prog w) h x.1 x.2
section
variable {a:Addr}{o:Obj}{es:Array (Int×Value)}{ep:Nat}{t:SetTable}{L:List (List Int×Addr)}
theorem z21.fits(U:z21 prog w s.heap o es ep t L):t.fits es.size=true:=by
 have:=U.fl;unfold SetTable.fits SetTable.fill;rw[U.sz,U.du];simp;omega
theorem z21.get(U:z21 prog w s.heap o es ep t L){i:Nat}(hi:i<es.size):∃x∈L,es[i]? = some (qP prog w x.1,.ref x.2):=by
 have e:es[i]? = es.toList[i]? := by simp
 rw[e,U.eL];have hl:i<L.length:=by have:=_au List.length U.eL;simp at this;omega
 exact⟨L[i],_bv hl,by simp[hl]⟩
theorem z1R{t:SetTable}(hd:t.dummies=#[]){hA:Nat->Int}{h:Int}{p:SetTable.Probe}{r:Option SetTable.Met}(hr:t.probe hA h p=r){n:Nat}(dM:n<10*SetTable.turns t.mask)(he:Emp t n p)(h0:p.dummy=none): (∃j,r=some (.empty j none)/\t.slot j=.empty)\/∃j i next n',r=some (.candidate j i next)/\t.slot j=.live i/\Emp t n' next/\n'<n/\next.dummy=none:=by
 subst hr;exact zec hd hA h n (10*SetTable.turns t.mask) p dM he h0
theorem qO(U:z21 prog w s.heap o es ep t L)(ho:s.heap.get? a=some o){k:List Int}{b:Addr}(hk:IsTupleKey (intKind prog w) s.heap k b)(hn:∀x∈L,x.1≠k)(hu:A.units<cLine){Q:SetFound->Shared->Prop}(q:∀j,t.slot j=.empty->Q (.free j false) s): ∀(n bj:Nat)(cr:Option SetTable.Probe),n<bj->n<10*SetTable.turns t.mask->Emp t n (cr.getD (t.probeStart (qP prog w k)))->(cr.getD (t.probeStart (qP prog w k))).dummy=none->wpAny (model prog w) A (setSearchFrom a (.ref b) (qP prog w k) true bj cr) Q E s
 | n,0,cr,hf,_,_,_=>absurd hf (_b3 _) | n,bj+1,cr,hf,dM,he,h0=>by
  unfold setSearchFrom;refine _a (_aE ho U.hd U.fits ?_);have gw:t.gaveWay=false:=by unfold SetTable.gaveWay;rw[U.mm.odd];rfl
  simp only[gw,_o,_M];split
  ·rename_i met dR;rcases z1R U.du dR dM he h0 with⟨j,e,z⟩ | ⟨j,i,next,n',e,z,g3,g4,g5⟩
   ·injection e with e;subst e;exact _b (q j z)
   ·injection e with e;subst e;obtain⟨hi,_⟩:=z4U U.du z;rw[U.sz]at hi;obtain⟨x,hx,ex⟩:=U.get hi;have kx:=U.at_ x hx;have sm:t.sameMemory t.moves t.mask=some true:=by unfold SetTable.sameMemory;simp
    cases hb:t.led with
    | true=>
     simp only[_a8,_o,_M];rw[ex];refine _a (_ak (wpAny_eqBool_tuple hu kx hk ?_));rw[_af (hn x hx)];refine _a (_aE ho U.hd U.fits ?_);simp only[_cr,_o,_M,sm,_K,z,ex];refine _a (wpAny_isSame_ref_self (_a (_b ?_)));simp only[_K];exact qO U ho hk hn hu q n' bj (some next) (by omega) (by omega) g3 g5 | false=>
     simp only[_dg,_K];refine _a (zfo hk (λy hy=>?_) ?_)
     ·obtain⟨p,hp,rfl⟩:=_E.mp hy;have iz:p∈es.toList:=by
       have:=(_cM.mp hp);exact _cM.mpr (Array.mem_filter.mp this).1
      rw[U.eL]at iz;obtain⟨x,hx,rfl⟩:=_E.mp iz;exact⟨x.1,x.2,rfl,U.at_ x hx⟩
     ·simp only[_o,_M];rw[ex];refine _a (_ak (wpAny_eqBool_tuple hu kx hk ?_));rw[_af (hn x hx)];refine _a (_aE ho U.hd U.fits ?_);simp only[_cr,_o,_M,sm,_K,z,ex];refine _a (wpAny_isSame_ref_self (_a (_b ?_)));simp only[_K];exact qO U ho hk hn hu q n' bj (some next) (by omega) (by omega) g3 g5
  ·rename_i dR;rcases z1R U.du rfl dM he h0 with⟨j,e,z⟩ | ⟨j,i,next,n',e,_⟩;·exact absurd e (dR _)
   ·exact absurd e (dR _)
end
end
section
variable {prog:Program}{w:World}{A:Around}{E:Value->Shared->Prop}{s:Shared}
variable {a:Addr}{o:Obj}{es:Array (Int×Value)}{ep:Nat}{t:SetTable}{L:List (List Int×Addr)}
theorem IsTupleKey.same{h h':Heap}{ks:List Int}{b:Addr}(x:IsTupleKey (intKind prog w) h ks b)(ho:h.get? a=some o)(hd:o.data=.set es ep t)(hs:Heap.SameBut a h h'):IsTupleKey (intKind prog w) h' ks b:=by
 obtain⟨o',items,n,bE,hc,dU,hi⟩:=x;have eV:b≠a:=by
  rintro rfl;obtain rfl:o'=o:=_I (bE.symm.trans ho);rw[hd]at dU;exact nomatch dU
 exact⟨o',items,n,(hs.2 b eV).trans bE,hc,dU,hi⟩
theorem z2V{α:Type}:∀xs:List α,(List.range xs.length).filterMap (xs[·]?)=xs
 | []=>rfl | x::t=>by
  rw[_w,List.range_succ_eq_map,_bS];simp only[_q,List.filterMap_map];congr 1;have:((λi:Nat=>(x::t)[i]?) ∘ Nat.succ)=λi=>t[i]? := funext λi=>by simp
  rw[this];exact z2V t
theorem z7U{α:Type}{n:Nat}(xs:List α)(os:List Nat)(p:os.Perm (List.range n))(hn:xs.length=n):(os.filterMap (xs[·]?)).Perm xs:=by
 have h:=p.filterMap (xs[·]?);subst hn;rw[z2V]at h;exact h
theorem zdI (ex:o.ExactSet) (hd:o.data=.set es ep t) (ho:s.heap.get? a=some o) (hm:Msk t.mask) (hf:t.fits es.size=true) (le:t.led=(!w.params.followText "set-order")) (pl:t.plain=true) (eL:es.toList=L.map λx=>(qP prog w x.1,Value.ref x.2)) (at_:∀x∈L,IsTupleKey (intKind prog w) s.heap x.1 x.2) {m cE:Nat} (hs:SetTable.sizeAbove cE=m+1) (bK:Msk m) (fl:es.size*5<m*3) (big:es.size<=sizeLine) {Q:Unit->Shared->Prop} (q:∀h' o' bL cK t' L',Heap.SameBut a s.heap h'->h'.get? a=some o'->z21 prog w h' o' bL cK t' L'->L'.Perm L->Q () {s with heap:=h'}):wpAny (model prog w) A (setRelay a cE) Q E s:=by
 unfold setRelay;refine _a (_aE ho hd hf ?_);have rf:m<=2047:=by rcases bK with rfl | rfl | rfl | rfl | rfl<;>decide
 simp only;rw[_l (by rw[hs,_bG];omega)];obtain⟨place,order,e,ri,sz,pm,oz⟩:=zfB (mask:=m) (fi:=t.finger) (mo:=t.movedTo m) (le:=t.led) (pn:=t.plain) (hashes:=es.map (·.1)) bK.ok (by simp;omega);have er:t.relaid (es.map (·.1)) cE=some ({mask:=m,place:=place,dummies:=#[],finger:=t.finger,led:=t.led,moves:=t.movedTo m,plain:=t.plain},order):=by
  unfold SetTable.relaid;rw[hs];exact e
 rw[er];rw[Array.size_map]at sz pm oz;have p1:=z7U es.toList order.toList pm (by simp);have p2:(order.filterMap (es[·]?)).toList=order.toList.filterMap (es.toList[·]?):=by simp
 have z1:(order.filterMap (es[·]?)).size=es.size:=by
  have:=p1.length_eq;rw[<- p2,_N,_N]at this;exact this
 have rg:(order.filterMap (es[·]?)).toList=(order.toList.filterMap (L[·]?)).map λx=>(qP prog w x.1,Value.ref x.2):=by
  rw[p2,eL,List.map_filterMap];refine _au (λf=>List.filterMap f order.toList) (funext λi=>?_);simp
 have ll:L.length=es.size:=by have:=_au List.length eL;simpa using this.symm
 have pL:=z7U L order.toList pm ll;show wpAny _ _ ((if ((order.filterMap (es[·]?)).size != es.size)=true then _ else _) >>= _) _ _ s;rw[z1];simp only[_cp,_o,_M];refine _a (_b ?_);refine wpAny_storeSet_of ho hd ?_ (by rw[z1];exact big);have sb:Heap.SameBut a s.heap (s.heap.update a (Obj.putSet (order.filterMap (es[·]?)) {mask:=m,place:=place,dummies:=#[],finger:=t.finger,led:=t.led,moves:=t.movedTo m,plain:=t.plain})):=_a0 s.heap a _;refine q _ _ (order.filterMap (es[·]?)) (ep+1) {mask:=m,place:=place,dummies:=#[],finger:=t.finger,led:=t.led,moves:=t.movedTo m,plain:=t.plain} (order.toList.filterMap (L[·]?)) sb (_ar _ ho (by rw[_dL _ _ hd];rfl)) ⟨?_,?_,bK,rfl,le,pl,ri,by rw[z1];exact sz,by rw[z1];exact fl,rg,λx hx=>IsTupleKey.same (at_ x (pL.mem_iff.mp hx)) ho hd sb⟩ pL;·rw[_dL _ _ hd];exact ex
 ·rw[_dL _ _ hd]
end
section
variable {prog:Program}{w:World}{A:Around}{E:Value->Shared->Prop}{s:Shared}
variable {a:Addr}{o:Obj}{es:Array (Int×Value)}{ep:Nat}{t:SetTable}{L:List (List Int×Addr)}
theorem zdJ (U:z21 prog w s.heap o es ep t L) (ho:s.heap.get? a=some o) {k:List Int} {b:Addr} (hk:IsTupleKey (intKind prog w) s.heap k b) (hn:∀x∈L,x.1≠k) (hu:A.units<cLine) (hl:L.length<1000) {Q:Bool->Shared->Prop} (q:∀h' o' bL cK t' L',Heap.SameBut a s.heap h'->h'.get? a=some o'->z21 prog w h' o' bL cK t' L'->L'.Perm (L++[(k,b)])->Q true {s with heap:=h'}):wpAny (model prog w) A (setAddHashed a (.ref b) (qP prog w k)) Q E s:=by
 have hf:=U.fits;have ll:es.size=L.length:=by have:=_au List.length U.eL;simpa using this
 unfold setAddHashed;refine _ak ?_;show wpAny _ _ (setAddHashedIn a (.ref b) (qP prog w k) (99999+1)) _ _ s;unfold setAddHashedIn;refine _a (_aE ho U.hd hf ?_);have bs:byScan (.ref b) es=false:=rfl;simp only[bs,_o,_M];have tm:t.mask<=2047:=by rcases U.mm with e | e | e | e | e<;>rw[e]<;>decide
 have sf:=U.fl;refine _a (show wpAny _ _ (setSearchFrom a (.ref b) (qP prog w k) true 100000 none) _ _ s from qO U ho hk hn hu (λj hj=>?_) (10*(t.mask+14)) 100000 none (by omega) (by unfold SetTable.turns;omega) (z9E U.du (by rw[U.sz];omega) U.mm.ok _) rfl);simp only;refine _a (_aE ho U.hd hf ?_);simp only[zkp U.du];rw[_g U.pl];refine _a (z9o hk ?_);simp only[_K];have bp:=(z0I U.ri j).1;have rh:=zfz U.du U.ri hj;have e1:(SetTable.insertAt es (SetTable.below t.place j) (qP prog w k,Value.ref b)).toList=(L.take (SetTable.below t.place j)++(k,b)::L.drop (SetTable.below t.place j)).map λx=>(qP prog w x.1,Value.ref x.2):=by rw[_bX,U.eL,_b1,_H,List.map_take,_bW]
 have z1:(SetTable.insertAt es (SetTable.below t.place j) (qP prog w k,Value.ref b)).size=es.size+1:=by
  have:=_au List.length e1;rw[_N]at this;rw[this,ll];simp;have:=U.sz;omega
 have z2:(SetTable.insertAt t.place (SetTable.below t.place j) j).size=es.size+1:=by
  rw[<- _N,_bX];simp;have:=U.sz;omega
 have pm:(L.take (SetTable.below t.place j)++(k,b)::L.drop (SetTable.below t.place j)).Perm (L++[(k,b)]):=by
  refine (List.perm_middle).trans ?_;rw[_aO];exact (List.perm_append_singleton (k,b) L).symm
 generalize SetTable.insertAt es (SetTable.below t.place j) (qP prog w k,Value.ref b)=bL at *;generalize SetTable.insertAt t.place (SetTable.below t.place j) j=pl' at *;generalize L.take (SetTable.below t.place j)++(k,b)::L.drop (SetTable.below t.place j)=L' at *;refine _a (wpAny_storeSet_of ho U.hd ?_ (by rw[z1,_bG];omega));have sb:Heap.SameBut a s.heap (s.heap.update a (Obj.putSet bL {t with place:=pl'})):=_a0 s.heap a _;have g1:(s.heap.update a (Obj.putSet bL {t with place:=pl'})).get? a=some (Obj.putSet bL {t with place:=pl'} o):=_ar _ ho (by rw[_dL _ _ U.hd];rfl);have nD:(Obj.putSet bL {t with place:=pl'} o).data=.set bL (ep+1) {t with place:=pl'}:=by rw[_dL _ _ U.hd]
 have nE:(Obj.putSet bL {t with place:=pl'} o).ExactSet:=by rw[_dL _ _ U.hd];exact U.ex
 have nF:∀x∈L',IsTupleKey (intKind prog w) (s.heap.update a (Obj.putSet bL {t with place:=pl'})) x.1 x.2:=λx hx=>by
  refine IsTupleKey.same ?_ ho U.hd sb;rcases _C.mp (pm.mem_iff.mp hx) with h | h;·exact U.at_ x h
  ·rw[_V.mp h];exact hk
 have fi:({t with place:=pl'}:SetTable).fill=es.size+1:=by
  unfold SetTable.fill;simp only[U.du];rw[z2];rfl
 by_cases tf:({t with place:=pl'}:SetTable).tooFull=true
 ·simp only[tf,_dg,Bool.and_self,_K];have fq:(es.size+1)*5 ≥ t.mask*3:=by
   unfold SetTable.tooFull at tf;rw[fi]at tf;simpa using tf
  have lR:∃m,SetTable.sizeAbove (SetTable.grown (es.size+1))=m+1/\Msk m/\(es.size+1)*5<m*3:=by
   rcases U.mm with e | e | e | e | e
   ·rw[e]at sf fq;have:es.size=4:=by omega
    rw[this];exact⟨31,by decide,.inr (.inl rfl),by decide⟩
   ·rw[e]at sf fq;have:es.size=18:=by omega
    rw[this];exact⟨127,by decide,.inr (.inr (.inl rfl)),by decide⟩
   ·rw[e]at sf fq;have:es.size=76:=by omega
    rw[this];exact⟨511,by decide,.inr (.inr (.inr (.inl rfl))),by decide⟩
   ·rw[e]at sf fq;have:es.size=306:=by omega
    rw[this];exact⟨2047,by decide,.inr (.inr (.inr (.inr rfl))),by decide⟩
   ·rw[e]at sf fq;omega
  obtain⟨m,m1,m2,m3⟩:=lR;refine _a (zdI (s:={s with heap:=s.heap.update a (Obj.putSet bL {t with place:=pl'})}) (L:=L') nE nD g1 (show Msk t.mask from U.mm) (by unfold SetTable.fits;rw[fi,z1];simp[z2];omega) U.le U.pl e1 nF m1 m2 (by rw[z1];exact m3) (by rw[z1,_bG];omega) λh' o' lT lU t2 L2 rn cY U2 lV=>?_);exact _b (q h' o' lT lU t2 L2 (sb.trans rn) cY U2 (lV.trans pm))
 ·have iM:({t with place:=pl'}:SetTable).tooFull=false:=by simpa using tf
  simp only[iM,_cr,_o,_M];have fq:(es.size+1)*5<t.mask*3:=by
   unfold SetTable.tooFull at iM;rw[fi]at iM;simpa using iM
  refine _a (_b (_b ?_));exact q _ _ bL (ep+1) {t with place:=pl'} L' sb g1 ⟨nE,nD,U.mm,U.du,U.le,U.pl,rh,by rw[z1];exact z2,by rw[z1];exact fq,e1,nF⟩ pm
end
end Dd
set_option maxHeartbeats 3200000
namespace Dd
open L2 PySem.W
section
variable {prog:Program}{w:World}{A:Around}{E:Value->Shared->Prop}{s:Shared}
theorem z9D{h h':Heap}{ks:List Int}{b:Addr}(x:IsTupleKey (intKind prog w) h ks b)(k:∀u,h.get? b=some u->h'.get? b=some u):IsTupleKey (intKind prog w) h' ks b:= let ⟨o,items,n,ho,r⟩:=x;⟨o,items,n,k o ho,r⟩
theorem z21.to{h h':Heap}{o:Obj}{es:Array (Int×Value)}{ep:Nat}{t:SetTable}{L:List (List Int×Addr)}(U:z21 prog w h o es ep t L)(k:∀x∈L,∀u,h.get? x.2=some u->h'.get? x.2=some u):z21 prog w h' o es ep t L:= ⟨U.ex,U.hd,U.mm,U.du,U.le,U.pl,U.ri,U.sz,U.fl,U.eL,λx hx=>z9D (U.at_ x hx) (k x hx)⟩
theorem zhL:z21 prog w s.heap (zbj w) #[] 0 (.fresh 0 0 (!w.params.followText "set-order")) []:= ⟨⟨rfl,rfl,rfl⟩,rfl,.inl rfl,rfl,rfl,rfl,List.Pairwise.nil,rfl,by show 0*5<7*3;decide,rfl,λx hx=>by cases hx⟩
noncomputable def zdk(key:Nat->List Int)(cV:Nat->Addr)(i:Nat):List (List Int×Addr):=(List.range i).map λj=>(key j,cV j)
theorem z6V{R:Result->Shared->Prop}{I S:Addr}{fp wr:List Addr}{G:Array GenState->Array GenState->Prop}{n:Nat}{P:Nat->Value->Prop}{St:Nat->Shared->Prop}(W:WalksS prog w A.in1 I fp wr G n P St)(hS:S∉fp)(key:Nat->List Int)(cV:Nat->Addr)(dB:∀i v,P i v->v=.ref (cV i))(ii:∀i,i<n->cV i∉wr/\cV i≠S)(nG:∀i j,i<j->j<n->key i≠key j)(hu:A.in1.units<cLine)(nH:n<=1000): ∀(k i:Nat)(s:Shared)(o:Obj)(es:Array (Int×Value))(ep:Nat)(t:SetTable)(L:List (List Int×Addr)),i+k=n->L.Perm (zdk key cV i)->St i s->s.heap.get? S=some o->z21 prog w s.heap o es ep t L->(∀j,j<n->IsTupleKey (intKind prog w) s.heap (key j) (cV j))-> (∀s' o' bL cK t' L',Moved (S::wr) G s s'->s'.heap.get? S=some o'->z21 prog w s'.heap o' bL cK t' L'->L'.Perm (zdk key cV n)->R (.ok (.ret .none)) s')->codeAny (model prog w) A (.builtin "set.update.loop" ⟨[.ref S,.ref I],[]⟩) R s
 | 0,i,s,o,es,ep,t,L,hn,pm,st,ho,U,hk,q=>by
  refine _a2 F.entry_set_update_loop ?_;rw[_aJ _cc _];refine _a (show wpAny _ A.in1 (pyNext (.ref I)) _ _ s from W.done s _ _ (by rw[<- hn];exact st) λs' mv=>?_);have e:i=n:=by omega
  subst e;refine _b (q s' o es ep t L (mv.mono λb hb=>.tail _ hb) (mv.heap S _ (λz=>hS (W.sub _ z)) ho) (U.to λx hx u e=>?_) pm);obtain⟨j,hj,rfl⟩:=_E.mp (pm.mem_iff.mp hx);exact mv.heap _ u (ii j (_X.mp hj)).1 e | k+1,i,s,o,es,ep,t,L,hn,pm,st,ho,U,hk,q=>by
  refine _a2 F.entry_set_update_loop ?_;rw[_aJ _cc _];have lt:i<n:=by omega
  refine _a (show wpAny _ A.in1 (pyNext (.ref I)) _ _ s from W.item i s _ _ lt st λv s1 pv bq mv=>?_);obtain rfl:=dB i v pv;have nI:∀x∈L,∃j,j<i/\x=(key j,cV j):=λx hx=>by
   obtain⟨j,hj,rfl⟩:=_E.mp (pm.mem_iff.mp hx);exact⟨j,_X.mp hj,rfl⟩
  have U1:z21 prog w s1.heap o es ep t L:=U.to λx hx u e=>by
   obtain⟨j,hj,rfl⟩:=nI x hx;exact mv.heap _ u (ii j (by omega)).1 e
  have lW:∀j,j<n->IsTupleKey (intKind prog w) s1.heap (key j) (cV j):=λj hj=>z9D (hk j hj) λu e=>mv.heap _ u (ii j hj).1 e;have rq:s1.heap.get? S=some o:=mv.heap S _ (λz=>hS (W.sub _ z)) ho;refine _a (_ak (_ak (_a (wpAny_pyHash_tuple hu (lW i lt) ?_))));refine zdJ (s:={s1 with toks:=s1.toks+((key i).length+1)}) U1 rq (lW i lt) (λx hx z=>?_) hu (by rw[pm.length_eq];simp[zdk];omega) λh' o' bL cK t' L' sb bE U' rA=>?_
  ·obtain⟨j,hj,rfl⟩:=nI x hx;exact nG j i hj lt z
  ·have lV:L'.Perm (zdk key cV (i+1)):=by
    refine rA.trans ?_;unfold zdk;rw[List.range_succ,_b1];exact pm.append_right _
   refine _b ⟨_bC _cc _,z6V W hS key cV dB ii nG hu nH k (i+1) _ o' bL cK t' L' (by omega) lV (W.frame _ s1 _ _ bq (by show s1.toks<=s1.toks+_;omega) λc hc u e=>?_) bE U' (λj hj=>z9D (lW j hj) λu e=>(sb.2 _ (ii j hj).2).trans e) λs2 o2 lT lU t2 L2 rB cY U2 iN=>?_⟩;·exact (sb.2 c λz=>hS (z ▸ hc)).trans e
   ·refine q s2 o2 lT lU t2 L2 (Moved.trans W.gtrans ((mv.mono λb hb=>.tail _ hb).then_heap (by show s1.toks<=s1.toks+_;omega) λc u hc e=>?_) rB) cY U2 iN;exact (sb.2 c λz=>hc (z ▸ .head _)).trans e
end
end Dd
set_option maxHeartbeats 3200000
namespace Dd
open L2 PySem.W
section
variable {prog:Program}{w:World}{A:Around}{E:Value->Shared->Prop}{s:Shared}
theorem zaT{ks:List (List Int)}{bs:List Addr}(lk:ks.length=bs.length){L:List (List Int×Addr)}(h:L.Perm (zdk (λi=>ks.getD i []) (λi=>bs.getD i 0) bs.length)):(L.map (·.1)).Perm ks:=by
 refine (h.map (·.1)).trans (List.Perm.of_eq ?_);unfold zdk;rw[_aT,<- lk];refine _cH (by simp) λi h1 h2=>?_;simp at h1;simp[_F,h2]
theorem zbz {l:Addr} {items:Array Value} {ks:List (List Int)} {bs:List Addr} {Q:Value->Shared->Prop} (hh:A.handled=none) (hu:A.units+8<cLine) (hl:s.heap.IsList l items) (hi:items.toList=bs.map Value.ref) (lk:ks.length=bs.length) (hk:∀i,i<bs.length->IsTupleKey (intKind prog w) s.heap (ks.getD i []) (bs.getD i 0)) (nd:ks.Nodup) (h2:bs.length<=1000) (q:∀(h':Heap) (tk:Nat) (o:Obj) (es:Array (Int×Value)) (ep:Nat) (t:SetTable) (L:List (List Int×Addr)),h'.get? s.heap.objs.size=some o->z21 prog w h' o es ep t L->L.Perm (zdk (λi=>ks.getD i []) (λi=>bs.getD i 0) bs.length)->(∀b u,s.heap.get? b=some u->h'.get? b=some u)->Q (.ref s.heap.objs.size) {s with heap:=h',toks:=tk}): wpAny (model prog w) A (call (.type "set") [.ref l]) Q E s:=by
 have dS:items.size=bs.length:=by have:=_au List.length hi;simpa using this
 obtain⟨c,tl,rC⟩:=_aX.mro;have a1:=_aX.made;have a2:=_aX.sub;have a3:=_aX.notType;have a4:=_aX.canCreate;have a5:=PySem.F.typeCall_set_1 (.ref l);refine wpAny_call (codeAny_of_tree (show wpAny _ _ (callAny (.type "set") _) _ _ _ from _b ⟨Code.quiet_builtin _ (by decide +kernel),_a2 PySem.F.entry_type_call ?_⟩));rw[Around.under_plain (weight_type_call_type "set" [.ref l] []) rfl];repeat (any_goals (first | assumption | wp_step))
 refine _bP (zgD (.ref l) (E:=E) (Z:=λv s1=>v=.ref s.heap.objs.size/\s1={s with heap:=s.heap.push (zbj w)}) ⟨rfl,rfl⟩) λr s1 hr=>?_;cases r with
 | error e=>exact hr | ok fl=>cases fl with
  | ret obj=>
   obtain⟨rfl,rfl⟩:=hr;have gS:(s.heap.push (zbj w)).get? s.heap.objs.size=some (zbj w):=_k _ rfl;have hT:Shared.TypeIs {s with heap:=s.heap.push (zbj w)} (.ref s.heap.objs.size) "set":=⟨_,gS,rfl⟩;have a6:=_aX.init.lookup;have a7:=_aX.init.bind (.ref s.heap.objs.size);repeat (any_goals (first | assumption | wp_step))
   refine _bP (codeAny_call_builtin (R:=wants (λr s2=>r=.none/\∃h' tk o es ep t L,s2={s with heap:=h',toks:=tk}/\h'.get? s.heap.objs.size=some o/\z21 prog w h' o es ep t L/\L.Perm (zdk (λi=>ks.getD i []) (λi=>bs.getD i 0) bs.length)/\∀b u,s.heap.get? b=some u->h'.get? b=some u) E) _aX.init.plain PySem.F.entry_set_init (check_set_init_1 hT ?_)) λr2 s2 lX=>?_
   ·have nJ:l<s.heap.objs.size:=by obtain⟨ol,ee,_⟩:=hl;exact _j ee
    have nK:(s.heap.push (zbj w)).IsList l items:=hl.push _;obtain⟨⟨oc,od,sQ,dE⟩,ee,nM,nl,fI⟩:=hl;simp only at nM fI;subst nM fI;have rE:(s.heap.push (zbj w)).get? l=some {cls:=.type "list",dict:=od,data:=.seq items nl,slots:=dE}:=_c _ ee;have b1:=PySem.F.sub_list_set;have b2:=PySem.F.sub_list_frozenset;have b3:(Value.type "list"==Value.type "dict")=false:=by decide
    unfold Builtin.«set.__init__» noKeywords Builtin.Frozenset.updateFrom;generalize hPI:pyIter=PI;wp_walk;subst hPI;refine _dq nK (_a (wpAny_runValue ?_));have iO:(s.heap.push (zbj w)).objs.size=s.heap.objs.size+1:=_az _ _;have rF:l≠(s.heap.push (zbj w)).objs.size:=by rw[iO];exact _t (_aM nJ)
    have W:=(Walks.list (prog:=prog) (w:=w) (A:=A.in1.in1.in1) (show A.in1.in1.in1.handled=none by simp[hh]) _ l rF items).toS;have rG:∀i,i<bs.length->bs.getD i 0<s.heap.objs.size/\bs.getD i 0≠l:=λi bP=>by
     obtain⟨o',it,n',bE,cu,dU,_⟩:=hk i bP;refine⟨_j bE,λz=>?_⟩;rw[z]at bE;obtain rfl:=_I (bE.symm.trans ee);exact absurd (show Value.type "list"=Value.type "tuple" from cu) (by decide)
    refine z6V W (S:=s.heap.objs.size) (by rw[iO];simp only[_n,_cE,or_false,not_or];exact⟨_t (_bQ _),_bO nJ⟩) (λi=>ks.getD i []) (λi=>bs.getD i 0) (λi v hv=>?_) (λi bP=>?_) (λi j aI hj z=>?_) (by simp;omega) (by omega) items.size 0 _ (zbj w) _ _ _ [] (by omega) (.refl _) ⟨⟨_,_k _ rfl,rfl,rfl⟩,nK.push _⟩ (_c _ gS) zhL (λj hj=>?_) λs3 o3 rH rJ t3 L3 mv rK rL iN=>?_
    ·have e:items.toList[i]? = some v:=by rw[Array.getElem?_toList];exact hv
     rw[hi,_Y,_x]at e;obtain⟨b,hb,rfl⟩:=e;rw[_F,hb];rfl
    ·rw[dS]at bP;obtain⟨t1,t2⟩:=rG i bP;refine⟨λz=>?_,_t t1⟩;have:=W.sub _ z;rw[iO]at this;simp only[_n,_cE,or_false]at this;rcases this with e | e
     ·have e':bs.getD i 0=s.heap.objs.size+1:=e;rw[e']at t1;exact absurd t1 (_dS.mpr (Nat.le_succ _))
     ·exact t2 e
    ·rw[dS]at hj;have h1:ks.getD i []=ks[i]'(by omega):=by simp[_F,show i<ks.length by omega]
     have h2:ks.getD j []=ks[j]'(by omega):=by simp[_F,show j<ks.length by omega]
     simp only[h1,h2]at z;have:=(_bN nd).mp z;omega
    ·rw[dS]at hj;exact z9D (hk j hj) λu e=>_c _ (_c _ e)
    rw[dS]at iN;rw[Moved.eq_with mv];refine _b (_b ⟨rfl,_,_,o3,rH,rJ,t3,L3,rfl,rK,rL,iN,λb u e=>?_⟩);have lb:=_j e;exact mv.heap b u (by rw[iO];simp only[_n,_cE,or_false,not_or];exact⟨_t lb,_t (_aM lb)⟩) (_c _ (_c _ e))
   ·cases r2 with
    | error e=>exact lX | ok fl2=>cases fl2 with
     | ret r=>
      obtain⟨rfl,h',tk,o,es,ep,t,L,rfl,ho,hI,pm,k⟩:=lX;repeat (any_goals (first | assumption | wp_step))
      exact q _ _ _ _ _ _ _ ho hI pm k | _=>exact lX.elim
  | _=>exact hr.elim
end
section
variable {prog:Program}{w:World}{A:Around}{E:Value->Shared->Prop}{s:Shared}
variable {a:Addr}{o:Obj}{es:Array (Int×Value)}{ep:Nat}{t:SetTable}{L:List (List Int×Addr)}
theorem za5{α:Type}(f:Nat->Nat):∀(n k:Nat)(left:List α)(out:Array α),left.length=n->(pickOrder.go f n k left out).toList.Perm (out.toList++left)
 | 0,k,left,out,h=>by
  rw[List.eq_nil_of_length_eq_zero h,_bn];exact .refl _ | n+1,k,left,out,h=>by
  unfold pickOrder.go;have hl:f k % left.length<left.length:=Nat.mod_lt _ (by omega);rw[_e hl];simp only;refine (za5 f n (k+1) _ _ (by rw[List.length_eraseIdx];simp[hl];omega)).trans ?_;rw[_an,_aa];refine List.Perm.append_left _ ?_;rw[List.eraseIdx_eq_take_drop_succ];refine (List.perm_middle (l₁:=left.take (f k % left.length))).symm.trans (List.Perm.of_eq ?_);rw[<- _aw hl,_aO]
theorem z4T{α:Type}(f:Nat->Nat)(xs:Array α):(pickOrder f xs).toList.Perm xs.toList:=by
 have:=za5 f xs.size 0 xs.toList #[] (by simp);simpa[pickOrder] using this
theorem zkC{h:Heap}(U:z21 prog w h o es ep t L):∃os sl,es.size=os.length/\(∀A:Around,zkn prog w A a o ep os sl)/\os.Perm (L.map λx=>Value.ref x.2):=by
 have hf:t.fits es.size=true:=by
  have:=U.fl;unfold SetTable.fits SetTable.fill;rw[U.sz,U.du];simp;omega
 have hp:(es.toList.map (·.2))=L.map λx=>Value.ref x.2:=by rw[U.eL,_aT];rfl
 cases hb:w.params.followText "set-order" with
 | true=>
  refine⟨(pickOrder (w.params.setOrder a ep) es).toList.map (·.2),λ_=>0,?_,λA=>⟨rfl,λi s Q E hi ho hq=>?_⟩,?_⟩
  ·have:=(z4T (w.params.setOrder a ep) es).length_eq;rw[_B,this];simp
  ·unfold setNext;refine _a (_aE ho U.hd hf ?_);refine _a (show wpAny _ _ setsByText _ _ _ from _a (_bi (_b ?_)));dsimp only;rw[show (model prog w).w.params.followText "set-order"=true from hb];simp only[_K,_cp,_o,_M];refine _a ?_;unfold setWalk;refine _a (_aE ho U.hd hf ?_);refine _a (show wpAny _ _ setsByText _ _ _ from _a (_bi (_b ?_)));dsimp only;rw[show (model prog w).w.params.followText "set-order"=true from hb];simp only[_K];refine _a (_bi (_b ?_));refine _b ?_;dsimp only;show Q (((pickOrder (w.params.setOrder a ep) es)[i]?).map λe=>(e.2,0)) s;simpa[_bq] using hq
  ·rw[<- hp];exact (z4T _ _).map _ | false=>
  refine⟨es.toList.map (·.2),λi=>if i=0 then 0 else t.place.getD (i-1) 0+1,by simp,λA=>⟨rfl,λi s Q E hi ho hq=>?_⟩,by rw[hp]⟩;have bG:i<=es.size:=by simpa using hi
  have bl:SetTable.below t.place (if i=0 then 0 else t.place.getD (i-1) 0+1)=i:=by
   obtain⟨b1,b2,b3⟩:=z0I U.ri (if i=0 then 0 else t.place.getD (i-1) 0+1);rcases Nat.lt_trichotomy (SetTable.below t.place (if i=0 then 0 else t.place.getD (i-1) 0+1)) i with c | c | c
   ·have i1:i-1<t.place.size:=by rw[U.sz];omega
    have:=b3 (i-1) i1 (by omega);rw[_l (by omega)]at this;simp[Array.getD,i1]at this;omega
   ·exact c
   ·have i1:i<t.place.size:=by omega
    have:=b2 i i1 c;by_cases z:i=0;·rw[_g z]at this;omega
    ·rw[_l z]at this;have i2:i-1<t.place.size:=by omega
     have lt:=U.ri.at_ i1 (show i-1<i by omega);simp[Array.getD,i2]at this;omega
  unfold setNext;refine _a (_aE ho U.hd hf ?_);refine _a (show wpAny _ _ setsByText _ _ _ from _a (_bi (_b ?_)));dsimp only;rw[show (model prog w).w.params.followText "set-order"=false from hb];simp only[_o,_M];show wpAny _ _ (if (!t.plain&&decide (es.size > 1))=true then _ else _) _ _ _;rw[U.pl];simp only[_a8,Bool.false_and,_o,_M];refine _a (show wpAny _ _ (if (!t.led&&!es.isEmpty)=true then _ else pure ()) _ _ _ from ?_);rw[U.le,hb];simp only[_dg,_a8,Bool.false_and,_o,_M];refine _b (_b ?_);rw[bl];by_cases bP:i<es.size
  ·have e1:es[i]? = some es[i]:=by simp[bP]
   have i3:i<t.place.size:=by rw[U.sz];exact bP
   have e2:t.place[i]? = some t.place[i]:=by simp[i3]
   rw[e1,e2];have e3:(es.toList.map (·.2))[i]? = some es[i].2:=by simp[bP]
   rw[e3]at hq;simp only[_at]at hq;rw[_l (by omega)]at hq;simpa[Array.getD,i3] using hq
  ·have e1:es[i]? = none:=by simp;omega
   rw[e1];have e3:(es.toList.map (·.2))[i]? = none:=by simp;omega
   rw[e3]at hq;exact hq
end
section
variable {prog:Program}{w:World}{A:Around}{E:Value->Shared->Prop}{s:Shared}
variable {a:Addr}{o:Obj}{es:Array (Int×Value)}{ep:Nat}{t:SetTable}{L:List (List Int×Addr)}
theorem zd5{ks:List Int}{vs:List Value}(h:ItemsAre (intKind prog w) ks vs):yd vs ks:=by induction h with
 | nil=>exact .nil | cons h1 _ ih=>obtain⟨t,rfl⟩:=int_is h1;exact .cons ih
theorem zj9{h:Heap}{ks:List Int}{b:Addr}(x:IsTupleKey (intKind prog w) h ks b)(ne:ks≠[]):TupAt h (.ref b) ks:=by
 obtain⟨o,us,n,ho,hc,hd,hi⟩:=x;exact⟨b,o,n,us,rfl,ho,hc,hd,zd5 hi,ne⟩
theorem zel{h:Heap}:∀L:List (List Int×Addr),(∀x∈L,IsTupleKey (intKind prog w) h x.1 x.2/\x.1≠[])->vg h (L.map λx=>Value.ref x.2) (L.map (·.1))
 | [],_=>.nil | x::L,hx=>.cons (zj9 (hx x (.head _)).1 (hx x (.head _)).2) (zel L λy hy=>hx y (.tail _ hy))
theorem z69 {Q:Value->Shared->Prop} (hh:A.handled=none) (ho:s.heap.get? a=some o) (U:z21 prog w s.heap o es ep t L) (ne:∀x∈L,x.1≠[]) (q:∀(h':Heap) (tk:Nat) (r:Addr) (L':List (List Int×Addr)) (c:Nat),L'.Perm L->L'.map (·.1)=qj lexN (L.map (·.1))->s.heap.objs.size<=r->h'.get? r=some (seqObj "list" (L'.map λx=>Value.ref x.2).toArray c)->(∀b u,s.heap.get? b=some u->h'.get? b=some u)->Q (.ref r) {s with heap:=h',toks:=tk}): wpAny (model prog w) A (call (.builtin "sorted") [.ref a]) Q E s:=by
 obtain⟨os,sl,hz,G,pm⟩:=zkC (a:=a) U;obtain⟨M,mp,me⟩:=z0C (f:=λx:List Int×Addr=>Value.ref x.2) pm L rfl;have lM:os.length<=1228:=by
  have:=U.fl;have:t.mask<=2047:=by rcases U.mm with e | e | e | e | e<;>rw[e]<;>decide
  omega
 have hf:t.fits es.size=true:=U.fits;refine Calls.call_function_entry kind_sorted plain_sorted entry_sorted (args_sorted1 _) ?_;unfold Builtin.«sorted»;refine _a (m:=checkCount "sorted" 1 1 _) (_b (_a (z6I (zf1 G U.ex U.hd hf U.pl hz) (show A.in1.handled=none from hh) ho (by rw[_bG];omega) λh' tk af big k it=>?_)));have ea:af.toList=os:=by
  refine _dt λi=>?_;by_cases hi:i<af.size
  ·have e1:af.toList[i]? = some af[i]:=by simp[hi]
   rw[e1,it.2 i af[i] (by simp[hi])]
  ·have e1:af.toList[i]? = none:=by simp;omega
   have e2:os[i]? = none:=by have:=it.1;simp;omega
   rw[e1,e2]
 rw[ea];refine _a (wpAny_newList ?_ (by rw[_bG];omega));have g:(h'.push (seqObj "list" os.toArray 0)).get? h'.objs.size=some (seqObj "list" os.toArray 0):=_k _ rfl;have tM:∀s':Shared,(∀b u,s.heap.get? b=some u->s'.heap.get? b=some u)->vg s'.heap os (M.map (·.1)):=λs' k'=>by
  rw[<- me];exact zel M λx hx=>⟨z9D (U.at_ x (mp.mem_iff.mp hx)) λu e=>k' _ u e,ne x (mp.mem_iff.mp hx)⟩
 have zm:os.zip (M.map (·.1))=M.map λx=>(Value.ref x.2,x.1):=by rw[<- me,List.zip_map']
 have z1:(M.map λx=>(Value.ref x.2,x.1)).map Prod.fst=os:=by rw[_aT,<- me];rfl
 have g':(h'.push (seqObj "list" os.toArray 0)).get? h'.objs.size=some (seqObj "list" ((M.map λx=>(Value.ref x.2,x.1)).map Prod.fst).toArray 0):=by rw[z1];exact g
 refine _a (_ak (_P slot_list_sort ⟨_,g,rfl⟩ entry_list_sort (z2U xQ [] (κ:=tuples' true) (Z:=M.map λx=>(Value.ref x.2,x.1)) (λx hx y hy e=>?_) g' (λs' k'=>?_) (by rw[_B,<- _B (f:=λx:List Int×Addr=>Value.ref x.2),me,_bG];omega) λZ' pz pw=>?_) (args_list_sort _)))
 ·obtain⟨x',hx',rfl⟩:=_E.mp hx;obtain⟨y',rM,rfl⟩:=_E.mp hy;simp only[Value.ref.injEq]at e;have h1:=U.at_ x' (mp.mem_iff.mp hx');have h2:=U.at_ y' (mp.mem_iff.mp rM);rw[e]at h1;exact h1.inj h2
 ·have:=zbe (prog:=prog) (w:=w) (A:=A.in1.in1) (s:=s') (tM s' λb u e=>k' b u (_t (_j (k b u e))) (by rw[_cq _ _ _ (_t (_j (k b u e)))];exact k b u e));rw[zm]at this;exact this
 ·obtain⟨M',nN,nO⟩:=z0C (f:=λx:List Int×Addr=>(Value.ref x.2,x.1)) pz M rfl;have e1:Z'.map Prod.fst=M'.map λx=>Value.ref x.2:=by rw[<- nO,_aT];rfl
  have e2:Z'.map Prod.snd=M'.map (·.1):=by rw[<- nO,_aT];rfl
  rw[e2]at pw;have so:=z0E xQ (L:=L.map (·.1)) ((nN.trans mp).map (·.1)) pw;rw[z1,e1];obtain⟨c,e⟩:=sortedHeap_at (vs:=os) (out:=(M'.map λx=>Value.ref x.2).toArray) g;refine⟨_,rfl,_b ⟨_,rfl,q _ tk _ M' c (nN.trans mp) so.symm (_ax big) e λb u eb=>?_⟩⟩;have lb:b<h'.objs.size:=_j (k b u eb);rw[sortedHeap_old (_t lb) (by rw[size_push'];exact _aM lb),_cq _ _ _ (_t lb)];exact k b u eb
end
structure zjJ(prog:Program)(w:World)(o:Obj)(es:Array (Int×Value))(ep:Nat)(t:SetTable)(L:List (List Int×Addr)):Prop where
 ex:o.ExactSet
 hd:o.data=.set es ep t
 mm:Msk t.mask
 du:t.dummies=#[]
 le:t.led=(!w.params.followText "set-order")
 pl:t.plain=true
 ri:Ris t.place
 sz:t.place.size=es.size
 fl:es.size*5<t.mask*3
 eL:es.toList=L.map λx=>(qP prog w x.1,Value.ref x.2)
theorem z21.v{prog:Program}{w:World}{h:Heap}{o:Obj}{es:Array (Int×Value)}{ep:Nat}{t:SetTable}{L:List (List Int×Addr)}(U:z21 prog w h o es ep t L):zjJ prog w o es ep t L:=⟨U.ex,U.hd,U.mm,U.du,U.le,U.pl,U.ri,U.sz,U.fl,U.eL⟩
theorem zjJ.u{prog:Program}{w:World}{h:Heap}{o:Obj}{es:Array (Int×Value)}{ep:Nat}{t:SetTable}{L:List (List Int×Addr)}(U:zjJ prog w o es ep t L)(k:∀x∈L,IsTupleKey (intKind prog w) h x.1 x.2):z21 prog w h o es ep t L:=⟨U.ex,U.hd,U.mm,U.du,U.le,U.pl,U.ri,U.sz,U.fl,U.eL,k⟩
theorem z2Y{prog:Program}{w:World}:∀{vs:List Value}{ns:List Int},yd vs ns->ItemsAre (intKind prog w) ns vs
 | _,_,.nil=>.nil | _,_,.cons h=>.cons (intKind_is prog w _ _) (z2Y h)
section
variable {X:Cx}{E:XK}
def z9t(X:Cx)(a:Addr)(L:List (List Int×Addr)):HO:=.ext λh=>∃o es ep t,h.get? a=some o/\zjJ X.prog X.w o es ep t L
theorem z05{ac:List (Addr×Obj)}{O:L2.St}{H:Hp}{s:Shared}(I:Inv X ac O H s){b:Addr}{ns:List Int}(a:AtN H (.ref b) ns):IsTupleKey (intKind X.prog X.w) s.heap ns b:=by
 obtain⟨b',ae,e,e',⟨o,g,c,k,d⟩,z⟩:=a.tuple I (show ym (.ref b) (.ref b) from rfl);cases e;exact⟨o,ae,k,g,c,d,z2Y z⟩
theorem zaO{H:Hp}:∀{ys:List V}{ae:List Value}{ps:List (List Int)},yp ys ae->Paired (λv ns=>AtN H v ns) ys ps->∃bs:List Addr,ae=bs.map Value.ref/\ps.length=bs.length/\∀i,i<bs.length->AtN H (.ref (bs.getD i 0)) (ps.getD i [])
 | _,_,_,.nil,.nil=>⟨[],rfl,rfl,λi hi=>by simp at hi⟩ | _,_,_,.cons (b:=v) r rs,.cons (b:=p) a ps=>by
  obtain⟨bs,h1,h2,h3⟩:=zaO rs ps;obtain⟨b,rfl,e⟩:=a;cases (show v=Value.ref b from r);refine⟨b::bs,by rw[h1];rfl,by simp[h2],λi hi=>?_⟩;cases i with
  | zero=>exact⟨b,rfl,e⟩ | succ i=>exact h3 i (by simpa using hi)
def zkJ(X:Cx):List V->Hp->VK->Prop:=λxs H Q=>∃(l:Addr)(ys:List V)(ps:List (List Int)),xs=[.ref l]/\SqL X.K H l ys/\Paired (λv ns=>AtN H v ns) ys ps/\ps.Nodup/\ps.length<=1000/\ ∀L p,(L.map (·.1)).Perm ps->(∀x∈L,AtN H (.ref x.2) x.1)->H p=none->Q (.ref p) (upd H p (z9t X p L))
theorem z94 (hc:X.calm=true) (hu:X.A.units+64<cLine):xA X (.type "set") (zkJ X):=by
 intro ac s O H xs us Q I r h;obtain⟨l,ys,ps,rfl,hq,hp,nd,nH,q⟩:=h;obtain⟨u,rfl,ru⟩:=vals1 r;cases (show u=Value.ref l from ru);obtain⟨ae,r',pl,hz⟩:=I.list hq;obtain⟨bs,e1,e2,e3⟩:=zaO r' hp;refine zbz (I.ok.hd hc) (by omega) pl.isList (ks:=ps) (bs:=bs) (by simpa using e1) e2 (λi hi=>z05 I (e3 i hi)) nd (by omega) λh' tk o es ep t L ho U pm k=>?_;refine⟨.ref _,_,I.laid (o:=z9t X s.heap.objs.size L) (t':=tk) k (_h _) ⟨⟨o,es,ep,t,ho,U.v⟩,⟨o,ho⟩,λh1 h2 ⟨o1,rN,rO,t1,g1,i1⟩ z=>⟨o1,rN,rO,t1,z o1 g1,i1⟩⟩,rfl,q L _ (zaT e2 pm) (λx hx=>?_) (I.hok.fresh (_h _))⟩;obtain⟨i,hi,rfl⟩:=_E.mp (pm.mem_iff.mp hx);exact e3 i (_X.mp hi)
def ziD(X:Cx):List V->Hp->VK->Prop:=λxs H Q=>∃(a:Addr)(L:List (List Int×Addr)),xs=[.ref a]/\H a=some (z9t X a L)/\(∀x∈L,AtN H (.ref x.2) x.1/\x.1≠[])/\ ∀zs,Paired (λv ns=>AtN H v ns) zs (qj lexN (L.map (·.1)))->∀p,H p=none->Q (.ref p) (upd H p (.lst zs))
theorem zdX{H:Hp}:∀L:List (List Int×Addr),(∀x∈L,AtN H (.ref x.2) x.1)->Paired (λv ns=>AtN H v ns) (L.map λx=>V.ref x.2) (L.map (·.1))/\yp (L.map λx=>V.ref x.2) (L.map λx=>Value.ref x.2)
 | [],_=>⟨.nil,.nil⟩ | x::L,h=>by
  obtain⟨h1,h2⟩:=zdX L λy hy=>h y (.tail _ hy);exact⟨.cons (h x (.head _)) h1,.cons rfl h2⟩
theorem z8i (hc:X.calm=true):xA X (.builtin "sorted") (ziD X):=by
 intro ac s O H xs us Q I r h;obtain⟨a,L,rfl,ha,hx,q⟩:=h;obtain⟨u,rfl,ru⟩:=vals1 r;cases (show u=Value.ref a from ru);obtain⟨⟨o,es,ep,t,ho,hV⟩,_,_⟩:=(show xF X.prog X.w H s.heap a (z9t X a L) from I.hok a _ ha);refine z69 (I.ok.hd hc) ho (hV.u λx m=>z05 I (hx x m).1) (λx m=>(hx x m).2) λh' tk r L' c pm so le g k=>?_;obtain⟨p1,p2⟩:=zdX L' λx m=>(hx x (pm.mem_iff.mp m)).1;rw[so]at p1;have ll:L'.length<=1228:=by
  have:=_au List.length hV.eL;have:=hV.fl;have:t.mask<=2047:=by rcases hV.mm with e | e | e | e | e<;>rw[e]<;>decide
  have:=pm.length_eq;simp at *;omega
 exact⟨.ref r,_,I.laid (o:=.lst (L'.map λx=>V.ref x.2)) (t':=tk) k le ⟨by simp[_bG];omega,_,c,p2,g⟩,rfl,q _ p1 _ (I.hok.fresh le)⟩
end
theorem z9J(L:List (List Int)):(qj lexN L).Pairwise λa b=>lexN b a=false:=by
 have ng:∀{a b c:List Int},lexN b a=false->lexN c b=false->lexN c a=false:=λ{a b c} h1 h2=>by cases q:lexN c a with
  | false=>rfl | true=>
   by_cases e:a=b;·rw[e,h2]at q;cases q
   ·have:=xQ.tot a b e;rw[h1]at this;have ab:lexN a b=true:=by simpa using this.symm
    rw[xQ.tr c a b q ab]at h2;cases h2
 have:=List.pairwise_mergeSort (le:=λa b:List Int=>!lexN b a) (λa b c h1 h2=>by
  simp only[_aN]at h1 h2 ⊢;exact ng h1 h2) (λa b=>by
  by_cases e:a=b;·rw[e,xQ.irr];rfl
  ·rw[xQ.tot a b e];cases lexN a b<;>rfl) L;exact this.imp λ{a b} h=>by simpa using h
theorem z3w{L M:List (List Int)}(h:L.Perm M):qj lexN L=qj lexN M:=z0E xQ ((wB lexN M).trans h.symm) (z9J M)
theorem AtN.up{H:Hp}{z:Addr}{o:HO}{v:V}{ns:List Int}(hz:H z=none)(a:AtN H v ns):AtN (upd H z o) v ns:=by
 obtain⟨b,rfl,e⟩:=a;exact⟨b,rfl,by rw[zk (λq=>by subst q;rw[hz]at e;cases e)];exact e⟩
theorem z50{H:Hp}{z:Addr}{o:HO}(hz:H z=none):∀{zs:List V}{ps:List (List Int)},Paired (λv ns=>AtN H v ns) zs ps->Paired (λv ns=>AtN (upd H z o) v ns) zs ps
 | _,_,.nil=>.nil | _,_,.cons a r=>.cons (a.up hz) (z50 hz r)
section
variable {X:Cx}{E:XK}{a:Expr}{x y:Str}{p p2 pos bv:Pos}
noncomputable def zaj(s:Sto)(d:D):Option (List (List Int)):=match listOf s d with
 | some xs=>match z37 xs with
  | some L=>if L.all (λn=>!n.isEmpty)=true/\L.length<=1000/\L.Nodup then some (qj lexN L) else none | none=>none
 | none=>none
noncomputable def eSU(fa:FE):FE:=fun ρ s=>(fa ρ s).bind λd s1=>match zaj s1 d with
 | some L=>.ok (.lst (L.map λns=>.tup (ns.map D.int))) s1 | none=>.no
theorem zmo{fa:FE}(hc:X.calm=true)(hu:X.A.units+64<cLine)(ha:RE X E a fa)(hg:Gl X x)(hm:X.mg x=none)(hv:bootBuiltins x=some (.builtin "sorted"))(cn:Gl X y)(bK:X.mg y=none)(rP:bootBuiltins y=some (.type "set")) (hn:autoParam (x≠"__name__") aDe)(br:autoParam ((x==("__debug__":Str))=false) aDe)(eR:autoParam (y≠"__name__") aDe)(lY:autoParam ((y==("__debug__":Str))=false) aDe) (h1:autoParam (starEach [.Call (.Name y p2) [a] [] bv] X.env=(false,eval (.Call (.Name y p2) [a] [] bv) X.env)::starEach [] X.env) aRf)(h2:autoParam ((backTo pos (starEach [] X.env)).any (·.1)=false) aRf) (h3:autoParam (starEach [a] X.env=(false,eval a X.env)::starEach [] X.env) aRf)(h4:autoParam ((backTo bv (starEach [] X.env)).any (·.1)=false) aRf): RE X E (.Call (.Name x p) [.Call (.Name y p2) [a] [] bv] [] pos) (eSU fa):= zR (PE.freeze (z4e (z8i hc) hg hm hv (uT (z5r (z94 hc hu) cn bK rP (uT ha z1i h3) eR lY h3 h4) z1i h1) hn br h1 h2)) λO H Q ⟨Y,ρ,s,r,en,h⟩=>by
  refine zN (k:=fun ρ d s1=>match zaj s1 d with
   | some L=>R.ok (D.lst (L.map λns=>.tup (ns.map D.int))) s1 | none=>.no) r en h _ λu H1 Y1 s1 du r1 aE dn stp h1=>?_;split at h1
  ·rename_i L e;unfold zaj at e;split at e
   ·rename_i xs ex;split at e
    ·rename_i ps eL;split at e
     ·rename_i hp;cases e;obtain⟨l,ws,rfl,q1,q2⟩:=zJ r1 ex dn;refine⟨l,ws,ps,rfl,.inl q1,jV eL q2,hp.2.2,hp.2.1,λL2 q pm at_ hq=>?_⟩;refine⟨q,L2,rfl,zA,λx hx=>⟨(at_ x hx).up hq,λz=>?_⟩,λzs pz z hz=>⟨z,_,rfl,zA,λo=>?_⟩⟩
      ·have:=_aC.mp hp.1 x.1 (pm.mem_iff.mp (_E.mpr ⟨x,hx,rfl⟩));rw[z]at this;cases this
      ·rw[z9Q];rw[z3w pm]at pz;have bq:yQ (gm X) H1 Y1 (upd H1 q (z9t X q L2)) Y1 s1:=yQ.layP r1 hq;have au:=bq.trans (yQ.layP (o:=.frz o (.lst zs)) bq.rep hz);refine h1 _ _ _ au ?_;simp only[Den];exact⟨z,o,_,rfl,zA,z1u (z50 hz pz)⟩
     ·cases e
    ·cases e
   ·cases e
  ·exact h1.elim
end
end Dd
namespace bN
open L2 Dd Pg
noncomputable def rsX:List Str:=["Ended","NoLot","NoNumber","NoRule","TooMany"]
@[simp] noncomputable def z03:FS:=(wS (zh Pg.zY (za (zd 0) (za (zd 1) zn))))
@[simp] noncomputable def kX:FS:=(wS (zh Pg.ub (za (zd 2) (za (eC (.int 1)) (za (eC (.int 30)) zn)))))
@[simp] noncomputable def xb:FS:=(fIf (zft (tOf (eOp dLe (zh yT (za (zd 4) zn)) (zd 2))) (tOf (zh Pg.vM (za (zd 0) (za (zd 4) (za (zd 1) zn)))))) (z3K z1I) xf)
@[simp] noncomputable def yG:FS:=(fIf (tOf (eOp dGt (zh qI (za (zd 3) zn)) (eC (.int 1000)))) (z2L "TooMany") xf)
@[simp] noncomputable def xX:FS:=(z9X (wZ (zh Pg.wx (za (zd 0) (za (zd 1) (za (zd 2) zn))))) (qZ 4) (zL xb yG))
@[simp] noncomputable def vt:FS:=(wc (zh z5g (za (zd 3) zn)))
noncomputable def z1y:FS:=(zL z03 (zL kX (zL (z3K z1f) (zL xX vt))))
noncomputable def vO:Mir:=z5w ["rule","lot","most","found","ahead"] 3 z1y
@[simp] noncomputable def wg:FS:=(ve 3 (eC .non))
@[simp] noncomputable def yy:FS:=(ve 3 (zh vO (za (zd 0) (za (zd 1) (za (zd 2) zn)))))
@[simp] noncomputable def z0h:FS:=(ve 3 (eC .non))
@[simp] noncomputable def yx:FS:=(zbs "TooMany" yy z0h)
@[simp] noncomputable def z0q:FS:=(wc (zd 3))
noncomputable def wJ:FS:=(zL wg (zL yx z0q))
noncomputable def zD:Mir:=Mof ["_law_rule","_law_lot_here","_law_most","_law_found"] 3 wJ
@[simp] noncomputable def vx:FS:=(ve 3 (zh Pg.M_step (za (zd 0) (za (zd 1) zn))))
@[simp] noncomputable def vA:FS:=(ve 4 (zh zD (za (zd 0) (za (zd 3) (za (zd 2) zn)))))
@[simp] noncomputable def z2o:FS:=(wc (eC (.bl true)))
@[simp] noncomputable def xR:FS:=(fIf (tOf (eOp dIs (zd 4) (eC .non))) z2o xf)
@[simp] noncomputable def z23:FS:=(wc (eC (.bl false)))
@[simp] noncomputable def vz:FS:=(fIf (fOr (tOf (eOp (zh9 true) (zd 1) (zd 4))) (tOf (eOp dNe (zd 4) (eSU (zd 4))))) z23 xf)
@[simp] noncomputable def z29:FS:=(wc (eC (.bl false)))
@[simp] noncomputable def yS:FS:=(fIf (fOr (z0F (tOf (zh Pg.wq (za (zd 5) zn)))) (fOr (tOf (eOp dGt (zh yT (za (zd 5) zn)) (zd 2))) (fOr (tOf (eOp dNe (zh Pg.M_step (za (zd 0) (za (zd 5) zn))) (zd 3))) (tOf (eOp dNe (z27 (zh Pg.M_run (za (zd 0) (za (zd 5) zn)))) (eOp xZ (z4o (za (zd 5) zn)) (z27 (zh Pg.M_run (za (zd 0) (za (zd 3) zn)))))))))) z29 xf)
@[simp] noncomputable def vC:FS:=(z9X (wZ (eOp xZ (eSl (zd 4) zQ (xK (eC (.int 20)))) (eSl (zd 4) (xK (z49 (eC (.int 20)))) zQ))) (qZ 5) yS)
@[simp] noncomputable def z14:FS:=(wc (eC (.bl true)))
noncomputable def ud:FS:=(zL vx (zL vA (zL xR (zL vz (zL vC z14)))))
noncomputable def yK:Mir:=Mof ["_law_rule","_law_lot_here","_law_most","_law_later","_law_some","_law_one"] 3 ud
@[simp] noncomputable def z0N:FS:=(ve 2 (zh Pg.vJ (za (zh Pg.yR (za (zd 0) (za (zd 1) zn))) zn)))
@[simp] noncomputable def z1W:FS:=(ve 3 (eOp xZ (eC (.int 2)) (zh Pg.zF (za (zd 2) (za (eC (.int 3)) zn)))))
@[simp] noncomputable def z1t:FS:=(ve 4 (zh Pg.wy (za (zd 2) (za (zd 3) (za (eC (.int 30)) zn)))))
@[simp] noncomputable def z0Y:FS:=(ve 5 (eOp xZ (zh yT (za (zd 4) zn)) (zh Pg.zF (za (zd 2) (za (eOp z8d (eC (.int 31)) (zh yT (za (zd 4) zn))) zn)))))
@[simp] noncomputable def zfO:FS:=(wc (eC (.bl false)))
@[simp] noncomputable def z1j:FS:=(fIf (zft (z0F (tOf (zh Pg.zP (za (zd 4) zn)))) (z0F (tOf (zh yK (za (zd 6) (za (zd 4) (za (zd 5) zn))))))) zfO xf)
@[simp] noncomputable def zcu:FS:=(wc (eC (.bl false)))
@[simp] noncomputable def z1e:FS:=(fIf (tOf (eOp dNe (zh zD (za (zd 6) (za (eOp xZ (jY (za (eC (.int 31)) zn)) (eSl (zd 4) (xK (eC (.int 1))) zQ)) (za (eC (.int 30)) zn)))) (z4o zn))) zcu xf)
@[simp] noncomputable def z1c:FS:=(z9X (wZ (zh Pg.yJ zn)) (qZ 6) (zL z1j z1e))
@[simp] noncomputable def jw:FS:=(zjQ 6 7 (za (eOp dIx (zh Pg.yJ zn) (zh Pg.zF (za (zd 2) (za (eC (.int 4)) zn)))) (za (zh Pg.zF (za (zd 2) (za (eC (.int 7)) zn))) zn)))
@[simp] noncomputable def jD:FS:=(ve 8 (zh Pg.xU (za (zd 6) (za (eOp xZ (eC (.int 2)) (zh Pg.zF (za (zd 2) (za (eC (.int 2)) zn)))) (za (zd 7) zn)))))
@[simp] noncomputable def zdb:FS:=(wc (eC (.bl false)))
@[simp] noncomputable def uk:FS:=(fIf (zft (tOf (eOp zbx (zd 8) (eC .non))) (tOf (eOp dNe (zh Pg.vk (za (zd 6) (za (zd 8) zn))) (zd 7)))) zdb xf)
@[simp] noncomputable def z6a:FS:=(z9X (z5U (za (zh zd8 (za (eC (.int 1)) (za (zh z6L (za (zh qI (za (zd 0) zn)) (za (eC (.int 3)) zn))) zn))) zn)) (qZ 1) (zL z0N (zL z1W (zL z1t (zL z0Y (zL z1c (zL jw (zL jD uk))))))))
@[simp] noncomputable def zdi:FS:=(wc (eC (.bl true)))
noncomputable def zdS:FS:=(zL z6a zdi)
noncomputable def zgi:Mir:=Mof ["_law_script","_law_at","_law_pot_here","_law_size","_law_lot_here","_law_most","_law_rule","_law_steps","_law_found"] 1 zdS
end bN
set_option maxHeartbeats 6000000
namespace bN
open L2 Dd Pg
class Txt (P:Program)(w:World)(K:W.Frag)(mg:Str->Option Value):Prop where
 f0:∃t,mg "LEAST_SIZE"=some (.int 2 t)
 f1:∃t,mg "MOST_AHEAD"=some (.int 30 t)
 f2:∃t,mg "MOST_LOTS"=some (.int 1000 t)
 f3:∃t,mg "MOST_NUMBER"=some (.int 16 t)
 f4:∃t,mg "MOST_SIZE"=some (.int 4 t)
 f5:∃t,mg "MOST_SIZE_LED"=some (.int 3 t)
 f6:∃t,mg "MOST_STEPS"=some (.int 12 t)
 f7:mg "all"=none
 f8:mg "bool"=none
 f9:mg "enumerate"=none
 f10:mg "int"=none
 f11:mg "isinstance"=none
 f12:mg "len"=none
 f13:mg "list"=none
 f14:mg "max"=none
 f15:mg "min"=none
 f16:mg "range"=none
 f17:mg "set"=none
 f18:mg "sorted"=none
 f19:mg "str"=none
 f20:mg "tuple"=none
 f21:mg "zip"=none
 q:∀(i:Nat){x:Str}{st:Stmt},askQ.fs[i]? = some (x,st)->Fq K mg x st
 T_RULES:zii P w K mg "RULES" jE
 E_NoNumber:zeO K mg "NoNumber"
 E_NoRule:zeO K mg "NoRule"
 E_NoLot:zeO K mg "NoLot"
 E_Ended:zeO K mg "Ended"
 E_TooMany:zeO K mg "TooMany"
 KQ:zks K mg "TooMany" "TooMany"
theorem zhi:bootBuiltins "all"=some (.builtin "all"):=by decide +kernel
theorem zgj:bootBuiltins "bool"=some (.type "bool"):=by decide +kernel
theorem ziQ:bootBuiltins "int"=some (.type "int"):=by decide +kernel
theorem um:bootBuiltins "len"=some (.builtin "len"):=by decide +kernel
theorem uG:bootBuiltins "max"=some (.builtin "max"):=by decide +kernel
theorem z5h:bootBuiltins "min"=some (.builtin "min"):=by decide +kernel
theorem zin:bootBuiltins "set"=some (.type "set"):=by decide +kernel
theorem z4t:bootBuiltins "sorted"=some (.builtin "sorted"):=by decide +kernel
theorem ziq:bootBuiltins "str"=some (.type "str"):=by decide +kernel
theorem jr:bootBuiltins "tuple"=some (.type "tuple"):=by decide +kernel
theorem zl0:(["number"]:List Str).Nodup:=by decide +kernel
theorem zlU:(["part"]:List Str).Nodup:=by decide +kernel
theorem zmj:(["_law_pot_here","_law_far","_law_place"]:List Str).Nodup:=by decide +kernel
theorem zlQ:(["lot","by","number","quotient"]:List Str).Nodup:=by decide +kernel
theorem zlV:(["divided","lot","by","at"]:List Str).Nodup:=by decide +kernel
theorem zm1:(["place","at"]:List Str).Nodup:=by decide +kernel
theorem zlB:(["lot","most","at","number"]:List Str).Nodup:=by decide +kernel
theorem zlt:(["numbers","ahead","greater"]:List Str).Nodup:=by decide +kernel
theorem zmk:(["steps","many","lot"]:List Str).Nodup:=by decide +kernel
theorem zlD:(["least","most","ahead","number"]:List Str).Nodup:=by decide +kernel
section
local macro_rules | `(tactic| trivial)=>`(tactic| exact⟨rfl,rfl,rfl,by decide +kernel,rfl,by decide +kernel,by decide +kernel⟩)
theorem z6v:zq ["thing"] ["thing"] (ze z1H):=by trivial
theorem z6F:zq ["thing"] ["thing"] (ze z17):=by trivial
theorem yL:zq ["size","least","most","found","place"] ["size","least","most"] (ze vI):=by trivial
theorem xD:zq ["lot","at"] ["lot"] (ze xC):=by trivial
theorem z24:zq ["lot"] ["lot"] (ze qG):=by trivial
theorem z8y:zq ["lot","place"] ["lot","place"] (ze z30):=by trivial
theorem z8c:zq ["thing"] ["thing"] (ze z2G):=by trivial
theorem zcp:zq ["rule","numbers"] ["rule","numbers"] (ze z7P):=by trivial
theorem z2m:zq ["lot","most"] ["lot","most"] (ze qk):=by trivial
theorem jH:zq ["left","divider","most"] ["left","divider","most"] (ze vq):=by trivial
theorem z15:zq ["_law_script","_law_k"] ["_law_script","_law_k"] (ze uI):=by trivial
theorem xJ:zq ["_law_cell","_law_number","_law_j","_law_more"] ["_law_cell"] (ze z1Z):=by trivial
theorem kK:zq ["_law_pot_here","_law_far","_law_found"] ["_law_pot_here","_law_far"] (ze z0g):=by trivial
theorem z3Q:zq [] [] (ze je):=by trivial
theorem z3F:zq ["thing","many"] ["thing","many"] (ze jb):=by trivial
theorem qC:zq ["thing","least","most"] ["thing","least","most"] (ze qw):=by trivial
theorem z4z:zq ["thing","most"] ["thing","most"] (ze z0f):=by trivial
theorem z2H:zq ["lot","greatest","others"] ["lot"] (ze z2N):=by trivial
theorem z1p:zq ["lot","greatest","others"] ["lot"] (ze z0O):=by trivial
theorem z4R:zq ["lot","by"] ["lot"] (ze z4L):=by trivial
theorem z8K:zq ["lot"] ["lot"] (ze z2Z):=by trivial
theorem z02:zq ["thing"] ["thing"] (ze kO):=by trivial
theorem xS:zq ["lot","by","most","found","at","number","numbers"] ["lot","by","most"] (ze z01):=by trivial
theorem wG:zq ["_law_pot_here","_law_size","_law_most","_law_far","_law_found","_law_way","_law_at","_law_to"] ["_law_pot_here","_law_size","_law_most"] (ze z1A):=by trivial
theorem z9G:zq ["thing"] ["thing"] (ze z5C):=by trivial
theorem qW:zq ["rule","lot","deal","by","divided"] ["rule","lot"] (ze z1s):=by trivial
theorem z2f:zq ["rule","lot","most"] ["rule","lot","most"] (ze ql):=by trivial
theorem z0R:zq ["thing"] ["thing"] (ze z0M):=by trivial
theorem z04:zq ["lot"] ["lot"] (ze kH):=by trivial
theorem wl:zq ["rule","lot"] ["rule","lot"] (ze wm):=by trivial
theorem z08:zq ["rule","lot"] ["rule","lot"] (ze z0d):=by trivial
theorem ki:zq ["rule","lot","by","quotients","left"] ["rule","lot"] (ze z9K):=by trivial
theorem zdT:zq ["rule","lot","lots"] ["rule","lot"] (ze zes):=by trivial
theorem zZ:zq ["rule","size","most","steps","lot","path","many","behind"] ["rule","size","most"] (ze uU):=by trivial
theorem z6B:zq ["rule","ahead","lot"] ["rule","ahead","lot"] (ze z1M):=by trivial
theorem z3v:zq ["rule","lot"] ["rule","lot"] (ze jB):=by trivial
theorem kw:zq ["rule","lot","most","found","ahead"] ["rule","lot","most"] (ze z2z):=by trivial
theorem ua:zq ["rule","size","steps","many","found"] ["rule","size","steps"] (ze jp):=by trivial
theorem xx:zq ["_law_rule","_law_lot_here","_law_most","_law_found"] ["_law_rule","_law_lot_here","_law_most"] (ze qb):=by trivial
theorem wu:zq ["_law_rule","_law_lot_here","_law_most","_law_later","_law_some","_law_one"] ["_law_rule","_law_lot_here","_law_most"] (ze jS):=by trivial
theorem jy:zq ["_law_script","_law_at","_law_pot_here","_law_size","_law_lot_here","_law_most","_law_rule","_law_steps","_law_found"] ["_law_script"] (ze z2t):=by trivial
end
section
variable {P:Program}{w:World}{K:W.Frag}{mg:Str->Option Value}{base:Heap}[T:Txt P w K mg]
local macro_rules | `(tactic| trivial)=>`(tactic| first | exact (λ_ _ _ _ _ _ us hl=>match us,hl with | [],_=>rfl) | exact (λ_ _ _ _ _ _ us hl=>match us,hl with | [_],_=>rfl) | exact (λ_ _ _ _ _ _ us hl=>match us,hl with | [_,_],_=>rfl) | exact (λ_ _ _ _ _ _ us hl=>match us,hl with | [_,_,_],_=>rfl))
instance zeB:Hs P w K mg base CX0 "is_whole" 1 Pg.xc:= yA (T.q 0 rfl) z6v (λhr _=> (zi (zS (zb8 (zi0 (by decide) ziQ (by rfl) T.f11 (by rfl) T.f10 (zc 0)) (zax (zi5 (zi0 (by decide) zgj (by rfl) T.f11 (by rfl) T.f8 (zc 0)))))))) (by trivial)
instance zeq:Hs P w K mg base CX0 "has_size" 1 Pg.vG:= yA (T.q 1 rfl) z6F (λhr _=> (zi (zS (zb8 (zi0 (by decide) jr (by rfl) T.f11 (by rfl) T.f20 (zc 0)) (zax (zg5 zc3 zc3 (zeN (by rfl) T.f0) (zK z0l (by rfl) T.f12 um (aN (zc 0) zf) (he:=(zB ..))) (zeN (by rfl) T.f4))))))) (by trivial)
instance z7s:Hs P w K mg base CX0 "tuples_between" 1 Pg.yc:= yA (T.q 2 rfl) yL (λhr hc=> (zg (yX 3 yL.nd (z0m (aT (qM zf) zf))) (zg (z3T _aV hc (qQ (by rfl) T.f16 (aN (zc 0) zf)) (z0c 4 yL.nd) (zi (zaP 3 ["least","most","ahead","number"] [some 1,some 2,none,none] 2 3 yL.nd hc (z0t (zc 3)) (λ_ _ _=>yr (i:=2) zlD (by rfl) (by first | exact Or.inl rfl | exact Or.inr rfl)) (λ_ _ _=>yr (i:=3) zlD (by rfl) (by first | exact Or.inl rfl | exact Or.inr rfl)) (λ_ _ _=>(z7C (by rfl) T.f16 (aN (zc 0) (aB (zT xL (zc 1) zt) zf)))) (λ_ _ _=>(zT xL (zc 2) (qM (aN (zc 3) zf))))))) (zi (zS (zc 3)))))) (by trivial)
instance z3R:Hs P w K mg base CX0 "greatest_and_others" 1 Pg.zu:= yA (T.q 3 rfl) xD (λhr hc=> (zg (yX 1 xD.nd (z3Z (zc 0) (zK (qB (by exact hc)) (by rfl) T.f14 uG (aN (zc 0) zf) (he:=(zB ..))))) (zi (zS (qM (aN (zc 1) (aB (zT xL (zT xL (we (zc 0) ur (uv (zc 1))) (qM (aK zt zf))) (we (zc 0) (uv (zT xL (zc 1) zt)) ur)) zf))))))) (by trivial)
instance zbn:Hs P w K mg base CX0 "least_place" 1 Pg.yf:= yA (T.q 4 rfl) z24 (λhr hc=> have hu:=hr.units;(zi (zS (z3Z (zc 0) (zK (ze2 (by exact hc)) (by rfl) T.f15 z5h (aO (uS ["number"] [none] (by exact hc) (z0t (zc 0)) (λ_ _ _=>yr (i:=0) zl0 (by rfl) (by first | exact Or.inl rfl | exact Or.inr rfl)) (vp 0 (by rfl)) (λ_ _ _=>z0Q (zX (zbP hu) (zc 0) zt)) (λ_ _ _=>(zc 0))) zf) (he:=(wO ..))))))) (by trivial)
instance zh1:Hs P w K mg base CX0 "all_but" 1 Pg.xY:= yA (T.q 5 rfl) z8y (λhr hc=> have hu:=hr.units;(zi (zS (uS ["place","at"] [some 1,none] (by exact hc) (qQ (by rfl) T.f16 (aQ (zK z0l (by rfl) T.f12 um (aN (zc 0) zf) (he:=(zB ..))) zf)) (λ_ _ _=>yr (i:=1) zm1 (by rfl) (by first | exact Or.inl rfl | exact Or.inr rfl)) (vp 1 (by rfl)) (λ_ _ _=>z0Q (zX (zbP hu) (zc 1) (zc 0))) (λ_ _ _=>(zc 1)))))) (by trivial)
instance zgg:Hs P w K mg base CX0 "is_rule" 1 Pg.uJ:= yA (T.q 6 rfl) z8c (λhr _=> (zi (zS (zb8 (zi0 (by decide) ziq (by rfl) T.f11 (by rfl) T.f19 (zc 0)) (zax (zgm T.T_RULES (by rfl) (zc 0))))))) (by trivial)
instance zis:Hs P w K mg base CX0 "moved" 1 Pg.kc:= yA (T.q 7 rfl) zcp (λhr _=> have hu:=hr.units;(zi (zS (zhH (zX (z8l hu) (zc 0) z6G) (zT xL (we (zc 1) (uv zt) ur) (we (zc 1) ur (uv zt))) (zc 1))))) (by trivial)
instance zb0:Hs P w K mg base CX0 "one_greater" 1 Pg.xp:= yA (T.q 8 rfl) z2m (λhr hc=> (zi (zS (zfg ["lot","most","at","number"] [some 0,some 1,none,none] 2 3 (by exact hc) (qQ (by rfl) T.f16 (aQ (zK z0l (by rfl) T.f12 um (aN (zc 0) zf) (he:=(zB ..))) zf)) (λ_ _ _=>yr (i:=2) zlB (by rfl) (by first | exact Or.inl rfl | exact Or.inr rfl)) (λ_ _ _=>yr (i:=3) zlB (by rfl) (by first | exact Or.inl rfl | exact Or.inr rfl)) (λ_ _ _=>(z7C (by rfl) T.f16 (aB (zT xL (z2n (zc 0) (zc 2)) zt) (aB (zT xL (zc 1) zt) zf)))) (λ_ _ _=>(zT xL (zT xL (we (zc 0) ur (uv (zc 2))) (qM (aN (zc 3) zf))) (we (zc 0) (uv (zT xL (zc 2) zt)) ur))))))) (by trivial)
instance z6t:Hs P w K mg base CX0 "numbers_leaving" 1 Pg.yN:= yA (T.q 9 rfl) jH (λhr hc=> (zi (zS (zhH (zX zlN (zc 0) (zc 1)) (z52 (by exact hc) (by rfl) T.f13 (by rfl) T.f16 (aN (zc 0) (aB (zT xL (zc 2) zt) (aN (zc 1) zf)))) (z0m zf))))) (by trivial)
instance z9h:Hs P w K mg base CX0 "_law_cell_at" 1 Pg.yR:= yA (T.q 10 rfl) z15 (λhr _=> (zg (jW (zX zlN (zc 1) (zK z0l (by rfl) T.f12 um (aN (zc 0) zf) (he:=(zB ..)))) (zi (zS (z2n (zc 0) (zc 1)))) yk) (zi (zS zt)))) (by trivial)
instance zeG:Hs P w K mg base CX0 "_law_pot" 1 Pg.vJ:= yA (T.q 11 rfl) xJ (λhr hc=> (zg (jW (zX zlM (zc 0) (zT zcV zt zt)) (zi (zS (zba (aB (zT z8B (zc 0) (zT zcV zt zt)) zf)))) yk) (zg (yX 1 xJ.nd zt) (zg (z3T _aV hc (qQ (by rfl) T.f16 (aK zt zf)) (z0c 2 xJ.nd) (zg (yX 3 xJ.nd (zT zcC (zT z1l (zT xL (zT xL (zT zcC (zc 0) zt) (zT z1l zt (zc 2))) zt) zt) zt)) (zg (yX 3 xJ.nd (zT zcC (zT xL (zT xL (zT z1l (zc 3) (zc 3)) (zT z1l zt (zc 2))) zt) zt)) (zi (yX 1 xJ.nd (zT xL (zT z1l (zc 1) zt) (zc 3))))))) (zi (zS (zba (aN (zc 1) zf)))))))) (by trivial)
instance zc7:Hs P w K mg base CX0 "_law_take" 1 Pg.zF:= yA (T.q 12 rfl) kK (λhr _=> (zg (yX 2 kK.nd (zT zcC (z2n (zc 0) zt) (zc 1))) (zg (z7L (zT zet (z2n (zc 0) zt) (zc 1)) (zc 0) zt) (zi (zS (zc 2)))))) (by trivial)
instance zbO:Hs P w K mg base CX0 "_law_rules" 1 Pg.yJ:= yA (T.q 13 rfl) z3Q (λhr _=> (zi (zS (z0m (aK z6G (aK z6G (aK z6G (aK z6G zf)))))))) (by trivial)
instance zbW:Hs P w K mg base CX0 "are_wholes" 2 Pg.xT:= yA (T.q 14 rfl) z3F (λhr hc=> have hu:=hr.units;(zg (jW (RW.rt (zdv (uz (uy (zi0 (by decide) jr (by rfl) T.f11 (by rfl) T.f20 (zc 0)))) (z6i (zX (zbP hu) (zK z0l (by rfl) T.f12 um (aN (zc 0) zf) (he:=(zB ..))) (zc 1))))) (zi (zS zbZ)) yk) (zi (zS (zK (zkH (by exact hc)) (by rfl) T.f7 zhi (aO (uS ["part"] [none] (by exact hc) (z0t (zc 0)) (λ_ _ _=>yr (i:=0) zlU (by rfl) (by first | exact Or.inl rfl | exact Or.inr rfl)) (vp 0 (by rfl)) (λ_ _ _=>z0X) (λ_ _ _=>(r_k hr (aN (zc 0) zf)))) zf) (he:=(wO ..))))))) (by trivial)
instance z9g:Hs P w K mg base (CX1 P w) "want_number" 2 Pg.ub:= jC (T.q 15 rfl) qC (λhr hc=> (zi (jW (RW.rt (zdv (uz (uy (z5N hr zac (aN (zc 0) zf)))) (z6i (uz (z6m zc3 zc3 (zc 1) (zc 0) (zc 2)))))) (zi (z0L T.E_NoNumber jo hc (by rfl))) yk))) (by trivial)
instance zbi:Hs P w K mg base CX0 "want_number" 2 Pg.yO:= yA (T.q 15 rfl) qC (λhr _=> (zi (jW (RW.rt (zdv (uz (uy (r_k hr (aN (zc 0) zf)))) (z6i (uz (z6m zc3 zc3 (zc 1) (zc 0) (zc 2)))))) (zi z0T) yk))) (by trivial)
instance zcz:Hs P w K mg base CX0 "want_size" 2 Pg.wI:= yA (T.q 16 rfl) z4z (λhr _=> (zi (jW (RW.rt (zdv (uz (uy (r_k hr (aN (zc 0) zf)))) (z6i (uz (z6m zc3 zc3 (zeN (by rfl) T.f0) (zc 0) (zc 1)))))) (zi z0T) yk))) (by trivial)
instance zff:Hs P w K mg base CX0 "by_next" 2 Pg.wM:= yA (T.q 17 rfl) z2H (λhr hc=> (zg (z9m (r_k hr (aN (zc 0) zf)) (z2B 1 2 hc z2H.nd)) (zi (zS (qM (aQ (z3Z (zc 2) (zK (qB (by exact hc)) (by rfl) T.f14 uG (aN (zc 2) zf) (he:=(zB ..)))) (aL (z0m (aN (zc 1) zf)) zf))))))) (by trivial)
instance zdV:Hs P w K mg base CX0 "by_least" 2 Pg.xH:= yA (T.q 18 rfl) z1p (λhr hc=> (zg (z9m (r_k hr (aN (zc 0) zf)) (z2B 1 2 hc z1p.nd)) (zi (zS (qM (aQ (r_k hr (aN (zc 2) zf)) (aL (z0m (aN (zc 1) zf)) zf))))))) (by trivial)
instance zhb:Hs P w K mg base CX0 "by_all" 2 Pg.uc:= yA (T.q 19 rfl) z4R (λhr _=> (zg (yX 1 z4R.nd (r_k hr (aN (zc 0) zf))) (zi (zS (qM (aN (zc 1) (aQ (r_k hr (aN (zc 0) (aN (zc 1) zf))) zf))))))) (by trivial)
instance zfy:Hs P w K mg base CX0 "by_turn" 2 Pg.wN:= yA (T.q 20 rfl) z8K (λhr _=> have hu:=hr.units;(zg (jW (zX (z8l hu) (z2n (zc 0) zt) zt) (zi (zS (qM (aK zt (aL (z0m zf) zf))))) yk) (zi (zS (qM (aK zt (aQ (r_k hr (aN (zc 0) (aK zt zf))) zf))))))) (by trivial)
instance zbY:Hs P w K mg base (CX1 P w) "want_rule" 2 Pg.qV:= jC (T.q 21 rfl) z02 (λhr hc=> (zi (jW (uz (uy (z5N hr zac (aN (zc 0) zf)))) (zi (z0L T.E_NoRule jo hc (by rfl))) yk))) (by trivial)
instance zdt:Hs P w K mg base CX0 "want_rule" 2 Pg.yI:= yA (T.q 21 rfl) z02 (λhr _=> (zi (jW (uz (uy (r_k hr (aN (zc 0) zf)))) (zi z0T) yk))) (by trivial)
instance zdx:Hs P w K mg base CX0 "undivided" 2 Pg.wV:= yA (T.q 22 rfl) xS (λhr hc=> have hu:=hr.units;(zg (jW (zX (z8l hu) (z2n (zc 0) (zc 1)) zt) (zi (zS (z0m (aN (zc 0) zf)))) yk) (zg (yX 3 xS.nd (z0m (aT (qM zf) zf))) (zg (z3T _aV hc (zji (by rfl) T.f9 (aN (zc 0) zf)) (z2B 4 5 hc xS.nd) (zg (yX 6 xS.nd (zhH (zX (z8l hu) (zc 4) (zc 1)) (z0m (aN (zc 5) zf)) (r_k hr (aN (zc 5) (aS (z2n (zc 0) (zc 1)) (aN (zc 2) zf)))))) (zi (zaP 3 ["numbers","ahead","greater"] [some 6,none,none] 1 2 xS.nd hc (z0t (zc 3)) (λ_ _ _=>yr (i:=1) zlt (by rfl) (by first | exact Or.inl rfl | exact Or.inr rfl)) (λ_ _ _=>yr (i:=2) zlt (by rfl) (by first | exact Or.inl rfl | exact Or.inr rfl)) (λ_ _ _=>(z0t (zc 0))) (λ_ _ _=>(zT xL (zc 1) (qM (aN (zc 2) zf)))))))) (zi (zS (zc 3))))))) (by trivial)
instance zdR:Hs P w K mg base CX0 "_law_lot" 2 Pg.wy:= (yA (T.q 23 rfl) wG (λhr hc=> have hu:=hr.units;(zg (yX 3 wG.nd (zK (zem (by exact hc)) (by rfl) T.f15 z5h (aB (zT xL (zc 2) zt) (aS (z2n (z0m (aK zt (aK zt (aK zt (aB (zT zcV zt zt) (aB (zT zcV zt zt) zf)))))) (r_k hr (aN (zc 0) (aK zt zf)))) zf)) (he:=(z3D ..)))) (zg (zgp 4 ["_law_pot_here","_law_far","_law_place"] [some 0,some 3,none] wG.nd hc (qQ (by rfl) T.f16 (aN (zc 1) zf)) (λ_ _ _=>yr (i:=2) zmj (by rfl) (by first | exact Or.inl rfl | exact Or.inr rfl)) (vp 2 (by rfl)) (λ_ _ _=>z0X) (λ_ _ _=>(r_k hr (aN (zc 0) (aN (zc 1) zf))))) (zg (yX 5 wG.nd (r_k hr (aN (zc 0) (aK zt zf)))) (zg (zjj 6 7 hc wG.nd (aQ (r_k hr (aN (zc 0) (aN (zc 1) zf))) (aQ (r_k hr (aN (zc 0) (aN (zc 1) zf))) zf))) (zg (jW (zX (z8l hu) (zc 5) zt) (zi (z7L zt (zc 4) (zc 6))) yk) (zg (jW (zX (z8l hu) (zc 5) zt) (zi (z7L (z2n (zc 4) (zc 7)) (zc 4) (zc 6))) yk) (zg (jW (zX (z8l hu) (zK (qB (by exact hc)) (by rfl) T.f14 uG (aN (zc 4) zf) (he:=(zB ..))) zt) (zi (z7L (zT xL zt (r_k hr (aN (zc 0) (aB (zT z8B (zc 3) zt) zf)))) (zc 4) (zc 7))) yk) (zi (zS (z5W z6N (by rfl) T.f20 jr (aN (zc 4) zf) (he:=(zB ..))))))))))))) (by trivial)).tidy
instance zh5:Hs P w K mg base CX0 "is_lot" 3 Pg.wq:= yA (T.q 24 rfl) z9G (λhr hc=> (zg (jW (RW.rt (zdv (uz (uy (r_k hr (aN (zc 0) zf)))) (z6i (uz (uy (r_k hr (aN (zc 0) (aQ (zK z0l (by rfl) T.f12 um (aN (zc 0) zf) (he:=(zB ..))) zf)))))))) (zi (zS zbZ)) yk) (zi (zS (zb8 (z4H zlM (zK (ze2 (by exact hc)) (by rfl) T.f15 z5h (aN (zc 0) zf) (he:=(zB ..))) zt) (zax (z4H zli (zK (qB (by exact hc)) (by rfl) T.f14 uG (aN (zc 0) zf) (he:=(zB ..))) zt))))))) (by trivial)
instance zdQ:Hs P w K mg base CX0 "division" 3 Pg.xO:= yA (T.q 25 rfl) qW (λhr hc=> (zg (yX 2 qW.nd (zkb T.T_RULES (by rfl) (zc 0) (λ_ _=>rfl))) (zg (z9m (zgl (n:=2) 2 (jI (Has.mono (hr.has "by_next") (by decide)) (jI (Has.mono (hr.has "by_least") (by decide)) (jI (Has.mono (hr.has "by_all") (by decide)) (jI (Has.mono (hr.has "by_turn") (by decide)) zcg)))) (hr.mono (by decide)) zcU (aN (zc 1) zf) (he:=(zB ..))) (z2B 3 4 hc qW.nd)) (zi (zS (qM (aN (zc 3) (aO (uS ["divided","lot","by","at"] [some 4,some 1,some 3,none] (by exact hc) (qQ (by rfl) T.f16 (aQ (zK z0l (by rfl) T.f12 um (aN (zc 1) zf) (he:=(zB ..))) zf)) (λ_ _ _=>yr (i:=3) zlV (by rfl) (by first | exact Or.inl rfl | exact Or.inr rfl)) (vp 3 (by rfl)) (λ_ _ _=>z0X) (λ_ _ _=>(zhH (zX zmi (zc 3) (zc 0)) (zT zet (z2n (zc 1) (zc 3)) (z2n (zc 1) (zc 2))) zt))) zf)))))))) (by trivial)
instance zaE:Hs P w K mg base CX0 "maybe_ahead" 3 Pg.wx:= yA (T.q 26 rfl) z2f (λhr hc=> have hu:=hr.units;(zg (jW (zX (z8l hu) (zc 0) z6G) (zi (zS (r_k hr (aB (zT xL (we (zc 1) (uv (z3z zt)) ur) (we (zc 1) ur (uv (z3z zt)))) (aK zt (aN (zc 2) zf))) (he:=(z3D ..))))) yk) (zg (jW (zX (z8l hu) (zc 0) z6G) (zi (zS (r_k hr (aN (zc 1) (aQ (z3Z (zc 1) (zK (qB (by exact hc)) (by rfl) T.f14 uG (aN (zc 1) zf) (he:=(zB ..)))) (aN (zc 2) zf)))))) yk) (zi (zS (r_k hr (aN (zc 1) (aN (zc 2) zf)))))))) (by trivial)
instance zcL:Hs P w K mg base (CX1 P w) "want_lot" 4 Pg.qg:= jC (T.q 27 rfl) z0R (λhr hc=> (zi (jW (uz (uy (z5N hr zac (aN (zc 0) zf)))) (zi (z0L T.E_NoLot jo hc (by rfl))) yk))) (by trivial)
instance zeM:Hs P w K mg base CX0 "want_lot" 4 Pg.yM:= yA (T.q 27 rfl) z0R (λhr _=> (zi (jW (uz (uy (r_k hr (aN (zc 0) zf)))) (zi z0T) yk))) (by trivial)
instance zbR:Hs P w K mg base (CX1 P w) "has_ended" 5 Pg.uj:= jC (T.q 28 rfl) z04 (λhr hc=> have hu:=hr.units;(zg (xu (z5N hr z1C (aN (zc 0) zf))) (zi (z7l (zS (z4H (z8l hu) (zK z0l (by rfl) T.f12 um (aO (uS ["number"] [none] (by exact hc) (z0t (zc 0)) (λ_ _ _=>yr (i:=0) zl0 (by rfl) (by first | exact Or.inl rfl | exact Or.inr rfl)) (vp 0 (by rfl)) (λ_ _ _=>z0Q (zX (zbP hu) (zc 0) zt)) (λ_ _ _=>(zc 0))) zf) (he:=(wO ..))) zt)))))) (by trivial)
instance zcN:Hs P w K mg base CX0 "has_ended" 5 Pg.zP:= yA (T.q 28 rfl) z04 (λhr hc=> have hu:=hr.units;(zg (xu (r_k hr (aN (zc 0) zf))) (zi (zS (z4H (z8l hu) (zK z0l (by rfl) T.f12 um (aO (uS ["number"] [none] (by exact hc) (z0t (zc 0)) (λ_ _ _=>yr (i:=0) zl0 (by rfl) (by first | exact Or.inl rfl | exact Or.inr rfl)) (vp 0 (by rfl)) (λ_ _ _=>z0Q (zX (zbP hu) (zc 0) zt)) (λ_ _ _=>(zc 0))) zf) (he:=(wO ..))) zt))))) (by trivial)
instance z4p:Hs P w K mg base (CX1 P w) "want_rule_and_lot" 5 Pg.zY:= jC (T.q 29 rfl) wl (λhr _=> (zg (xu (z5N hr z1C (aN (zc 0) zf))) (zi (xu (z5N hr z1C (aN (zc 1) zf)))))) (by trivial)
instance z5K:Hs P w K mg base CX0 "want_rule_and_lot" 5 Pg.zw:= yA (T.q 29 rfl) wl (λhr _=> (zg (xu (r_k hr (aN (zc 0) zf))) (zi (xu (r_k hr (aN (zc 1) zf)))))) (by trivial)
instance zbS:Hs P w K mg base (CX1 P w) "want_step" 6 Pg.qY:= jC (T.q 30 rfl) z08 (λhr hc=> (zg (xu (z5N hr z1C (aN (zc 0) (aN (zc 1) zf)))) (zi (jW (uy (z5N hr z1C (aN (zc 1) zf))) (zi (z0L T.E_Ended jo hc (by rfl))) yk)))) (by trivial)
instance zdK:Hs P w K mg base CX0 "want_step" 6 Pg.yZ:= yA (T.q 30 rfl) z08 (λhr _=> (zg (xu (r_k hr (aN (zc 0) (aN (zc 1) zf)))) (zi (jW (uy (r_k hr (aN (zc 1) zf))) (zi z0T) yk)))) (by trivial)
instance zhg:Hs P w K mg base (CX1 P w) "step" 7 Pg.X_step:= jC (T.q 31 rfl) ki (λhr hc=> (zg (xu (z5N hr z1C (aN (zc 0) (aN (zc 1) zf)))) (zg (z9m (z5N hr zac (aN (zc 0) (aN (zc 1) zf))) (z2B 2 3 hc ki.nd)) (zg (yX 4 ki.nd (z5W z6N (by rfl) T.f20 jr (aO (uS ["lot","by","number","quotient"] [some 1,some 2,none,none] (by exact hc) (zhs (by rfl) T.f21 (aN (zc 1) (aN (zc 3) zf))) (λ_ _ _=>z7J 2 3 (by exact hc) zlQ) (z6U 2 3 (by decide) (by rfl) (by rfl)) (λ_ _ _=>z0X) (λ_ _ _=>(zT z8B (zc 2) (zT z1l (zc 3) (z2n (zc 0) (zc 1)))))) zf) (he:=(wO ..)))) (zi (z7l (zS (r_k hr (aN (zc 0) (aN (zc 4) zf)))))))))) (by trivial)
instance zjR:Hs P w K mg base CX0 "step" 7 Pg.M_step:= yA (T.q 31 rfl) ki (λhr hc=> (zg (xu (r_k hr (aN (zc 0) (aN (zc 1) zf)))) (zg (z9m (r_k hr (aN (zc 0) (aN (zc 1) zf))) (z2B 2 3 hc ki.nd)) (zg (yX 4 ki.nd (z5W z6N (by rfl) T.f20 jr (aO (uS ["lot","by","number","quotient"] [some 1,some 2,none,none] (by exact hc) (zhs (by rfl) T.f21 (aN (zc 1) (aN (zc 3) zf))) (λ_ _ _=>z7J 2 3 (by exact hc) zlQ) (z6U 2 3 (by decide) (by rfl) (by rfl)) (λ_ _ _=>z0X) (λ_ _ _=>(zT z8B (zc 2) (zT z1l (zc 3) (z2n (zc 0) (zc 1)))))) zf) (he:=(wO ..)))) (zi (zS (r_k hr (aN (zc 0) (aN (zc 4) zf))))))))) (by trivial)
instance zk0:Hs P w K mg base CX0 "run" 8 Pg.M_run:= yA (T.q 32 rfl) zdT (λhr _=> (zg (xu (r_k hr (aN (zc 0) (aN (zc 1) zf)))) (zg (yX 2 zdT.nd (zba (aN (zc 1) zf))) (zg (za9 _aV (uz (uy (r_k hr (aS (z2n (zc 2) (z3z zt)) zf) (he:=(z3G ..))))) (zi (xu (z44 (zc 2) (r_k hr (aN (zc 0) (aS (z2n (zc 2) (z3z zt)) zf))))))) (zi (zS (zc 2))))))) (by trivial)
instance z9a:Hs P w K mg base CX0 "steps_of_all" 8 Pg.yB:= yA (T.q 33 rfl) zZ (λhr hc=> have hu:=hr.units;(zg (yX 3 zZ.nd ziL) (zg (z3T _aV hc (z0t (we (r_k hr (aN (zc 1) (aK zt (aN (zc 2) zf)))) (uv zt) ur)) (z0c 4 zZ.nd) (zg (yX 5 zZ.nd (zba (aN (zc 4) zf))) (zg (za9 _aV (RW.rt (w_and (zX (zcJ hu) (z2n (zc 5) (z3z zt)) (zc 3)) (z7y (uz (uy (r_k hr (aS (z2n (zc 5) (z3z zt)) zf) (he:=(z3G ..)))))))) (zi (xu (z44 (zc 5) (r_k hr (aN (zc 0) (aS (z2n (zc 5) (z3z zt)) zf))))))) (zg (yX 6 zZ.nd (zfr hu (zc 3) (z2n (zc 5) (z3z zt)) zt)) (zi (z3T _aV hc (z0t (ziz (zc 5))) (z0c 7 zZ.nd) (zg (zhI hu (zc 6) (zc 3) (zc 7)) (zi (zl7 6 zZ.nd zt))))))))) (zi (zS (zc 3)))))) (by trivial)
instance zc8:Hs P w K mg base (CX1 P w) "comes_to" 8 Pg.vM:= jC (T.q 34 rfl) z6B (λhr _=> have hu:=hr.units;(zi (zS (zb8 (zi5 (z5N hr z1C (aN (zc 1) zf))) (zax (z4H (z8l hu) (z5N hr z1C (aN (zc 0) (aN (zc 1) zf))) (zc 2))))))) (by trivial)
instance zc1:Hs P w K mg base CX0 "many_steps" 9 Pg.vk:= yA (T.q 35 rfl) z3v (λhr _=> (zi (zS (zT z8B (zK z0l (by rfl) T.f12 um (aQ (zbl (r_k hr (aN (zc 0) (aN (zc 1) zf)))) zf) (he:=(ja ..))) zt)))) (by trivial)
instance ze0:Hs P w K mg base (CX1 P w) "lots_to" 9 vO:= jC (T.q 36 rfl) kw (λhr hc=> (zg (xu (z5N hr z1C (aN (zc 0) (aN (zc 1) zf)))) (zg (xu (z5N hr z1C (aN (zc 2) (aK zt (aN (zeN (by rfl) T.f1) zf))))) (zg (z7l (yX 3 kw.nd (zba zf))) (zg (z3T PassesOwn.leaving hc (z0t (z5N hr zac (aN (zc 0) (aN (zc 1) (aN (zc 2) zf))))) (z0c 4 kw.nd) (zg (jW (RW.rt (w_and (zX zc3 (zK (qB (by exact hc)) (by rfl) T.f14 uG (aN (zc 4) zf) (he:=(zB ..))) (zc 2)) (z7y (uy (z5N hr z1C (aN (zc 0) (aN (zc 4) (aN (zc 1) zf)))))))) (zi (z7l (xu (z44 (zc 3) (zc 4))))) yk) (zi (jW (zX zli (zK z0l (by rfl) T.f12 um (aN (zc 3) zf) (he:=(zB ..))) (zeN (by rfl) T.f2)) (zi (z0L T.E_TooMany jo hc (by rfl))) yk)))) (zi (zS (zK zfw (by rfl) T.f18 z4t (aN (zc 3) zf) (he:=(zB ..)))))))))) (by trivial)
instance zbQ:Hs P w K mg base CX0 "least_with" 9 Pg.xU:= yA (T.q 37 rfl) ua (λhr hc=> have hu:=hr.units;(zg (xu (r_k hr (aN (zc 0) zf))) (zg (xu (r_k hr (aN (zc 1) (aN (zeN (by rfl) T.f5) zf)))) (zg (xu (r_k hr (aN (zc 2) (aK zt (aN (zeN (by rfl) T.f6) zf))))) (zg (yX 3 ua.nd (r_k hr (aN (zc 0) (aN (zc 1) (aN (zeN (by rfl) T.f3) zf))))) (zg (zfk 4 ["steps","many","lot"] [some 2,some 3,none] ua.nd hc (zka (zc 3)) (λ_ _ _=>yr (i:=2) zmk (by rfl) (by first | exact Or.inl rfl | exact Or.inr rfl)) (vp 2 (by rfl)) (λ_ _ _=>z0Q (zX (z8l hu) (ziG hu (zc 1) (zc 2)) (zc 0))) (λ_ _ _=>(qM (aQ (zK (qB (by exact hc)) (by rfl) T.f14 uG (aN (zc 2) zf) (he:=(zB ..))) (aN (zc 2) zf))))) (zi (zS (zhH (zl4 (zc 4)) (z2n (zK (zj2 (by exact hc) hu) (by rfl) T.f15 z5h (aN (zc 4) zf) (he:=(zB ..))) zt) zbg))))))))) (by trivial)
instance z9b:Hs P w K mg base CX0 "_law_come_to" 10 zD:= yA (T.q 38 rfl) xx (λhr _=> (zg (yX 3 xx.nd zbg) (zg (zhx rfl rfl rfl T.KQ (by rfl) (λpn xe E1 hp=>(zi (yX 3 xx.nd (zkR (hr.hasX "lots_to") hr.r hp (aN (zc 0) (aN (zc 1) (aN (zc 2) zf))))))) (λe pn=>(zi (yX 3 xx.nd zbg)))) (zi (zS (zc 3)))))) (by trivial)
instance zbU:Hs P w K mg base CX0 "_law_right" 11 yK:= yA (T.q 39 rfl) wu (λhr hc=> have hu:=hr.units;(zg (yX 3 wu.nd (r_k hr (aN (zc 0) (aN (zc 1) zf)))) (zg (yX 4 wu.nd (r_k hr (aN (zc 0) (aN (zc 3) (aN (zc 2) zf))))) (zg (jW (zX zlX (zc 4) zbg) (zi (zS zbZ)) yk) (zg (jW (RW.rt (zdv (zX (zd6 hu) (zc 1) (zc 4)) (z6i (zX (zbP hu) (zc 4) (zmo (by exact hc) hu (zc 4) (by rfl) T.f18 z4t (by rfl) T.f17 zin))))) (zi (zS zbZ)) yk) (zg (z3T _aV hc (z0t (zT xL (we (zc 4) ur (uv zt)) (we (zc 4) (uv (z3z zt)) ur))) (z0c 5 wu.nd) (zi (jW (RW.rt (zdv (uz (uy (r_k hr (aN (zc 5) zf)))) (zdv (zX zli (zK (qB (by exact hc)) (by rfl) T.f14 uG (aN (zc 5) zf) (he:=(zB ..))) (zc 2)) (zdv (zX (zbP hu) (r_k hr (aN (zc 0) (aN (zc 5) zf))) (zc 3)) (z6i (zX (zbP hu) (zbl (r_k hr (aN (zc 0) (aN (zc 5) zf)))) (zT xL (z0m (aN (zc 5) zf)) (zbl (r_k hr (aN (zc 0) (aN (zc 3) zf))))))))))) (zi (zS zbZ)) yk))) (zi (zS zbZ)))))))) (by trivial)
theorem z85 {f:Addr} {fd:FuncData} (F:Fun K "law" "law" z2t f fd):z3A P w K mg base CX0 12 f fd ["_law_script"] (ze1 ⟨mg,K⟩ zgi):= zi1 F jy rfl λaA A outer s H E hr hc=> have hr:Rm P w K mg base 11 _:=⟨hr⟩;have hu:=hr.units;(zg (z3T _aV hc (qQ (by rfl) T.f16 (aQ (zK (zjG (by exact hc)) (by rfl) T.f14 uG (aK zt (aQ (zK (zem (by exact hc)) (by rfl) T.f15 z5h (aQ (zK z0l (by rfl) T.f12 um (aN (zc 0) zf) (he:=(zB ..))) (aK zt zf)) (he:=(ja ..))) zf)) (he:=(z2T ..))) zf)) (z0c 1 jy.nd) (zg (yX 2 jy.nd (r_k hr (aQ (r_k hr (aN (zc 0) (aN (zc 1) zf))) zf) (he:=(ja ..)))) (zg (yX 3 jy.nd (zT xL zt (r_k hr (aN (zc 2) (aK zt zf))))) (zg (yX 4 jy.nd (r_k hr (aN (zc 2) (aN (zc 3) (aK zt zf))))) (zg (yX 5 jy.nd (zT xL (zK (qB (by exact hc)) (by rfl) T.f14 uG (aN (zc 4) zf) (he:=(zB ..))) (r_k hr (aN (zc 2) (aB (zT z8B zt (zK (qB (by exact hc)) (by rfl) T.f14 uG (aN (zc 4) zf) (he:=(zB ..)))) zf))))) (zg (z3T _aV hc (z0t (za4 (hr.has "_law_rules") (hr.mono (by decide)) zcU (by rfl))) (z0c 6 jy.nd) (zg (jW (RW.rt (w_and (uz (uy (r_k hr (aN (zc 4) zf)))) (z7y (uz (uy (r_k hr (aN (zc 6) (aN (zc 4) (aN (zc 5) zf))))))))) (zi (zS zbZ)) yk) (zi (jW (zX (zbP hu) (r_k hr (aN (zc 6) (aB (zT xL (qM (aK zt zf)) (we (zc 4) (uv zt) ur)) (aK zt zf)))) (z0m zf)) (zi (zS zbZ)) yk)))) (zg (zjj 6 7 hc jy.nd (aS (z2n (za4 (hr.has "_law_rules") (hr.mono (by decide)) zcU (by rfl)) (r_k hr (aN (zc 2) (aK zt zf)))) (aQ (r_k hr (aN (zc 2) (aK zt zf))) zf))) (zg (yX 8 jy.nd (r_k hr (aN (zc 6) (aB (zT xL zt (r_k hr (aN (zc 2) (aK zt zf)))) (aN (zc 7) zf))))) (zi (jW (RW.rt (w_and (zX zgO (zc 8) zbg) (z7y (zX (zbP hu) (r_k hr (aN (zc 6) (aN (zc 8) zf))) (zc 7))))) (zi (zS zbZ)) yk)))))))))) (zi (zS zbZ)))
end
end bN
namespace Pr
open L2 Dd Pm Pg Pn Po
theorem jT:∀a b:List Int,PyData.eqvAll (toPys (iL a)) (toPys (iL b))=decide (a=b)
 | [],[]=>by simp[toPys,PyData.eqvAll] | [],_::_=>by simp[toPys,PyData.eqvAll] | _::_,[]=>by simp[toPys,PyData.eqvAll] | x::a,y::b=>by
  have ih:=jT a b;simp only[iL]at ih;simp[toPys,z0j,PyData.eqvAll,PyData.eqv,ih];rfl
theorem zdO(a b:List Int):eqD (rD a) (rD b)=decide (a=b):=by
 have:=jT a b;simp only[eqD,z0j,PyData.eqv,this]
theorem zfK(a b:List Int)(s:Sto):dEq (rD a) (rD b) s=.ok (.bl (decide (a=b))) s:=by rw[dEq,_g ⟨z9i (k:=1) (z7S 0 a) (by decide),z9i (k:=1) (z7S 0 b) (by decide)⟩,zdO]
theorem z77:∀(F:List (List Int)),D.flat.flats (F.map rD)=true
 | []=>rfl | r::T=>by
  have:=z77 T;simp[flC,flN,flT,this,xN]
theorem z2I {w:List Int} {b m:Nat} (h0:∀x∈w,0<=x):∀c∈zI w b m,c.length<=m+1:=λc hc=>by
 unfold zI at hc;obtain⟨p,hp,rfl⟩:=_E.mp hc;have hx:p.1∈w:=_r (List.mem_zipIdx_iff_getElem?.mp (show (p.1,p.2)∈w.zipIdx from hp));split;·simp
 ·have:=zby (d:=w.getD b 0) (most:=m) (h0 _ hx) (by lia);lia
theorem z9P{k:Nat}(hk:1<=k)(cs:List (List Int)):(∀c∈cs,c.length<=k)->∀b,b<cs.length->(cs.getD b []).length<=1->(yF cs).length<=k ^ (cs.length-1):=by
 refine snoc_ind (P:=λcs=>(∀c∈cs,c.length<=k)->∀b,b<cs.length->(cs.getD b []).length<=1->(yF cs).length<=k ^ (cs.length-1)) (λ_ b hb=>by simp at hb) ?_ cs;intro cs c ih h b hb h1;have hc:=h c (by simp);have e:(z99 (yF cs) c).length=(yF cs).length*c.length:=by
  unfold z99;rw[List.length_flatMap];simp;induction (yF cs) with
  | nil=>simp | cons a l ih=>simp[ih,Nat.add_mul,Nat.add_comm]
 rw[wC,e];have dI:∀c∈cs,c.length<=k:=λc hc=>h c (by simp[hc]);simp only[_ab,List.length_singleton]at hb ⊢;rw[show cs.length+1-1=cs.length by lia];by_cases q:b=cs.length
 ·rw[q,zjy (_h _)]at h1;simp at h1;have:=_db (z1U cs dI) h1;lia
 ·rw[z7r (by lia)]at h1;have:=_db (ih dI b (by lia) h1) hc;rw[<- Nat.pow_succ]at this;rwa [show (cs.length-1).succ=cs.length by lia]at this
theorem take_snoc{α:Type}{l:List α}{i:Nat}{d:α}(h:i<l.length):l.take (i+1)=l.take i++[l.getD i d]:=by
 rw[_ck,_e h];simp[_F,h]
end Pr
namespace Pt
open L2 Dd Pm Pg Pn Po Pr
def cnt(r:Rl):Nat->List Int->Nat
 | 0,_=>0 | f+1,v=>if ended v=true then 0 else cnt r f (stp r v)+1
noncomputable def nst(r:Rl)(v:List Int):Nat:=cnt r (mu r v) v
theorem z5X   : ∀(f g:Nat)(v:List Int),Lot n v->mu r v<=f->mu r v<=g->cnt r f v=cnt r g v
 | 0,0,_,_,_,_=>rfl | 0,g+1,v,h,hf,hg=>by
  rw[cnt,cnt];by_cases e:ended v=true;·rw[_g e]
  ·have:=z3h r h (by simpa using e);lia | f+1,0,v,h,hf,hg=>by
  rw[cnt,cnt];by_cases e:ended v=true;·rw[_g e]
  ·have:=z3h r h (by simpa using e);lia | f+1,g+1,v,h,hf,hg=>by
  rw[cnt,cnt];by_cases e:ended v=true;·rw[_g e,_g e]
  ·have:=z3h r h (by simpa using e);rw[_l e,_l e,z5X f g (stp r v) (h.step r (by simpa using e)) (by lia) (by lia)]
theorem z9s   (e:ended v=true):nst r v=0:=by
 unfold nst;cases mu r v with
 | zero=>rfl | succ k=>rw[cnt,_g e]
theorem z6R    (h:Lot n v)(e:ended v=false):nst r v=nst r (stp r v)+1:=by
 have m:=z3h r h e;have e1:nst r v=cnt r (mu r v+1) v:=z5X _ _ v h (_h _) (by lia);rw[e1,cnt,_l (by simp[e]),z5X (mu r v) (mu r (stp r v)) _ (h.step r e) (by lia) (_h _)];rfl
noncomputable def K(v:List Int):List Key:=v.map Sum.inl
theorem zit:∀{v w:List Int},K v=K w->v=w
 | [],[],_=>rfl | [],_::_,h=>by simp[K]at h | _::_,[],h=>by simp[K]at h | x::v,y::w,h=>by
  simp only[K,_H,_be,Sum.inl.injEq]at h;rw[h.1,zit   h.2]
theorem z0B:∀v:List Int,jZ (iL v)=some (K v)
 | []=>rfl | x::v=>by
  have:=z0B v;simp only[K]at this;simp[jZ,this,K]
theorem zdq(v:List Int):D.tup ((K v).map z8Q)=rD v:=by
 unfold K;rw[_aT];rfl
abbrev Kv:=List (List Key×V)
structure Lt(n b:Nat)(v:List Int):Prop where
 lot:Lot n v
 le:∀x∈v,x<=(b:Int)
theorem Lt.step{n b:Nat}{v:List Int}(h:Lt n b v)(r:Rl)(e:ended v=false):Lt n b (stp r v):=⟨h.lot.step r e,z84 r h.lot e h.le⟩
theorem Lt.B   (h:Lt n b v)(hb:b<=900):LotB n 10 v:=⟨h.lot,λx hx=>by
 have:=h.le x hx;have e:(2:Int) ^ 10=1024:=by decide
 lia⟩
structure Dk(n b:Nat)(d:Kv):Prop where
 nd:(d.map (·.1)).Nodup
 key:∀p∈d,∃v,Lt n b v/\p.1=K v/\∃z:Nat,p.2=.int ((z:Nat):Int)
def Ok(r:Rl)(d:Kv):Prop:=∀p∈d,∀v,p.1=K v->p.2=.int (nst r v)
theorem Dk.all   (h:Dk n b d):zbq d:=λp hp=>by
 obtain⟨v,_,_,z,e⟩:=h.key p hp;rw[e];rfl
theorem z74{d:Kv}   (h:vf d k=some u):(k,u)∈d:=by
 unfold vf at h;obtain⟨p,hp,rfl⟩:=_x.mp h;have e:p.1=k:=by simpa using List.find?_some hp
 rw[<- e];exact List.mem_of_find?_eq_some hp
theorem zaR{d:Kv}  (h:p∈d):∃u,vf d p.1=some u:=by
 have:(d.any λkv=>decide (kv.1=p.1))=true:=_cK.mpr ⟨p,h,by simp⟩;rw[jm]at this;exact _aP.mp this
theorem z7T{d:Kv}    (h:p∈jQ d k u):p=(k,u)\/(p∈d/\p.1≠k):=by
 unfold jQ at h;split at h
 ·obtain⟨q,hq,rfl⟩:=_E.mp h;by_cases e:q.1=k;·rw[_g e,e];exact .inl rfl
  ·rw[_l e];exact .inr ⟨hq,e⟩
 ·rename_i q;rcases _C.mp h with h | h
  ·refine .inr ⟨h,λe=>q ?_⟩;exact _cK.mpr ⟨p,h,by simpa using e⟩
  ·exact .inl (by simpa using h)
theorem zas{d:Kv}   : (jQ d k u).map (·.1)=if (d.any λkv=>decide (kv.1=k))=true then d.map (·.1) else d.map (·.1)++[k]:=by
 unfold jQ;split
 ·rw[_aT];refine _bT λp hp=>?_;simp only[Function.comp];split;·rfl
  ·rfl
 ·simp
theorem Dk.put{n b:Nat}{d:Kv}(h:Dk n b d){v:List Int}(hv:Lt n b v)(z:Nat):Dk n b (jQ d (K v) (.int z)):=by
 refine⟨?_,λp hp=>?_⟩
 ·rw[zas];split;·exact h.nd
  ·rename_i q;rw[List.nodup_append];refine⟨h.nd,by simp,λa ha c hc e=>q ?_⟩;have hc:c=K v:=by simpa using hc
   obtain⟨p,hp,rfl⟩:=_E.mp ha;exact _cK.mpr ⟨p,hp,by simpa using e.trans hc⟩
 ·rcases z7T hp with rfl | ⟨hp,_⟩;·exact⟨v,hv,rfl,z,rfl⟩
  ·exact h.key p hp
theorem Ok.put{r:Rl}{d:Kv}(h:Ok r d){v:List Int}:Ok r (jQ d (K v) (.int (nst r v))):=λp hp w e=>by
 rcases z7T hp with rfl | ⟨hp,_⟩;·rw[zit e]
 ·exact h p hp w e
theorem Ok.val{r:Rl}{d:Kv}(h:Ok r d){v:List Int}{u:V}(e:vf d (K v)=some u):u=.int (nst r v):=h _ (z74 e) v rfl
theorem len_sub{α:Type}:∀{l m:List α},l.Nodup->(∀x∈l,x∈m)->l.length<=m.length
 | [],m,_,_=>_aI _ | a::l,m,nd,h=>by
  obtain⟨h1,h2⟩:=_b0.mp nd;obtain⟨p,q,rfl⟩:=List.append_of_mem (h a (.head _));have:=len_sub  (m:=p++q) h2 λx hx=>by
   have z:=h x (.tail _ hx);rcases _C.mp z with z | z;·exact _am _ z
   ·rcases _n.mp z with z | z;·exact absurd z (λe=>h1 (e ▸ hx))
    ·exact _y _ z
  simp only[_ab,_w]at this ⊢;lia
noncomputable def z5O(m:Nat):List Int:=(List.range (m+1)).map λk:Nat=>((k:Nat):Int)
theorem z6Z   : x∈z5O m ↔ 0<=x/\x<=m:=by
 unfold z5O;rw[_E];constructor
 ·rintro⟨k,hk,rfl⟩;rw[_X]at hk;lia
 ·rintro⟨h0,h1⟩;exact⟨x.toNat,by rw[_X];lia,by lia⟩
theorem zg8(m:Nat):(z5O m).Pairwise (· < ·):=by
 unfold z5O;rw[_bd];exact _bf.imp λ{a b} h=>by lia
noncomputable def jX(n m:Nat):List (List Int):=yF (List.replicate n (z5O m))
theorem z5G(n m:Nat):jX (n+1) m=z99 (jX n m) (z5O m):=by
 unfold jX;rw[List.replicate_succ',wC]
theorem z71  : (jX n m).length<=(m+1) ^ n:=by
 have:=z1U (List.replicate n (z5O m)) (k:=m+1) λc hc=>by rw[_bY hc];simp[z5O]
 simpa[jX] using this
theorem zfH(n m:Nat):Up (jX n m):=z7k _ λc hc=>by rw[_bY hc];exact zg8 m
theorem z0G   : v∈jX n m ↔ v.length=n/\∀x∈v,0<=x/\x<=m:=by
 unfold jX;rw[uR,_ct];constructor
 ·rintro⟨h1,h2⟩;refine⟨h1,λx hx=>?_⟩;obtain⟨i,hi,rfl⟩:=_D.mp hx;have:=h2 i (by lia);rw[show v.getD i 0=v[i] by simp[hi],show (List.replicate n (z5O m)).getD i []=z5O m by simp[show i<n by lia]]at this;exact z6Z.mp this
 ·rintro⟨h1,h2⟩;refine⟨h1,λi hi=>?_⟩;rw[show (List.replicate n (z5O m)).getD i []=z5O m by simp[hi]];exact z6Z.mpr (h2 _ (Pm.getD_mem (by lia)))
theorem z5u(m:Nat):∀n,∃t,jX n m=List.replicate n 0::t
 | 0=>⟨[],rfl⟩ | n+1=>by
  obtain⟨t,e⟩:=z5u m n;rw[z5G,e,z99,List.flatMap_cons];have:z5O m=0::(z5O m).tail:=by unfold z5O;rw[List.range_succ_eq_map];rfl
  rw[this,_H,_cz,List.replicate_succ'];exact⟨_,rfl⟩
noncomputable def every(n m:Nat):List (List Int):=(jX n m).drop 1
theorem z59  (hn:Sz n)  : v∈every n m ↔ Lt n m v:=by
 obtain⟨t,e⟩:=z5u m n;have up:=(_b8.mp (e ▸ zfH n m)).1;have et:every n m=t:=by unfold every;rw[e];rfl
 rw[et];constructor
 ·intro h;have h1:v∈jX n m:=by rw[e];exact .tail _ h
  obtain⟨l,b⟩:=z0G.mp h1;refine⟨⟨hn,l,λx hx=>(b x hx).1,?_⟩,λx hx=>(b x hx).2⟩;refine _T λz=>?_;have ez:v=List.replicate n 0:=by
   rw[List.eq_replicate_iff];refine⟨l,λx hx=>?_⟩;have:=(b x hx).1;refine _T λq=>z ⟨x,hx,by lia⟩
  have:=up v h;rw[ez,z0v]at this;cases this
 ·rintro⟨h,b⟩;have h1  := z0G.mpr ⟨h.len,λx hx=>⟨h.nn x hx,b x hx⟩⟩;rw[e]at h1;rcases _n.mp h1 with z | z
  ·obtain⟨x,hx,p⟩:=h.pos;rw[z]at hx;rw[_bY hx]at p;lia
  ·exact z
theorem Dk.len   (h:Dk n b d)(hn:Sz n):d.length<=(b+1) ^ n:=by
 have h1:=len_sub   h.nd λk hk=>by
  obtain⟨p,hp,rfl⟩:=_E.mp hk;obtain⟨v,hv,e,_⟩:=h.key p hp;rw[e];exact _c0 (z0G.mpr ⟨hv.lot.len,λx hx=>⟨hv.lot.nn x hx,hv.le x hx⟩⟩)
 simp only[_B]at h1;exact _al h1 z71
theorem zeD   (h:Dk n b d)   (e:s[l]? = some (encD d))(v:List Int):uN s (.dlo l) (rD v)=some (vf d (K v)):=by simp only[uN,e,_U,z3b h.all,z0B]
theorem zje   (h:Dk n b d)   (e:s[l]? = some (.non::encD d))(v:List Int):uN s (.dlo l) (rD v)=some (vf d (K v)):=by
 have:zfh (.non::encD d)=some d:=dec_enc h.all;simp only[uN,e,_U,this,z0B]
theorem zfu{n b:Nat}{d:Kv}(h:Dk n b d){fo fk fv:FE}{ρ:Ev}{s s1:Sto}{l:Nat}{v:List Int}{z:Nat}(hv:fv ρ s=.ok (.int z) s1)(ho:fo ρ s1=.ok (.dlo l) s1)(hk:fk ρ s1=.ok (rD v) s1)(e:s1[l]? = some (encD d))(hl:d.length<cap): zbf fo fk fv ρ s=.ok (.nx ρ) (s1.set l (encD (jQ d (K v) (.int z)))):=by simp only[zbf,hv,ho,hk,Rb,vV,e,_U,dec_enc h.all,z0B,_g hl]
end Pt
namespace Pp
open L2 Dd
open Pm Pg
theorem z9R(s:Sto)(a b:List D):(s++[a]).set s.length b=s++[b]:=by rw[List.set_append_right _ _ (by lia)];simp
open Pn
theorem z2M  (h1:a<=x)(h2:x<=b)(s:Sto):yO [.int x,.int a,.int b] s=.ok .non s:=by
 have w:xc [.int x] s=.ok (.bl true) s:=z6P (by rfl) s;have st:zE ["thing","least","most"] [.int x,.int a,.int b]=[some (.int x),some (.int a),some (.int b)]:=rfl;simp only[yO,Mof,qJ,st,_w,_R,_K];rw[uK,z9f];·rfl
 ·refine zbm (zd2 (xg ?_)) (zd2 (xg ?_));·rw[vc (x:=.int x) (by rfl)];exact w
  ·simp[h1,h2]
end Pp
namespace Pr
open L2 Dd Pm Pg Pn Po Pp
theorem zf7(ps:List Int)(q:Int)(s:Sto):dSl (rD (ps++[q])) (some (-1)) none s=.ok (rD [q]) s:=by
 have e:Dd.cutD (iL (ps++[q])) (some (-1)) none=iL [q]:=by
  have e1:HT.sIx (iL (ps++[q])).length 0 (some (-1))=ps.length:=by
   unfold HT.sIx;simp only;rw[_g (by lia)];simp;lia
  unfold Dd.cutD;rw[e1];simp[HT.sIx]
 exact _au (λx=>R.ok (Dd.D.tup x) s) e
theorem vK{g:List Int}:(g.drop (g.length-1)++g.take (g.length-1)).length=g.length:=by simp
theorem z1N{g:List Int}{x:Int}:x∈g.drop (g.length-1)++g.take (g.length-1) ↔ x∈g:=by
 have e:=_aO (g.length-1) g;rw[_C,or_comm,<- _C,e]
theorem jg{n:Nat}{g:List Int}(h:Lot n g):Lot n (g.drop (g.length-1)++g.take (g.length-1)):=by
 obtain⟨x,hx,p⟩:=h.pos;exact⟨h.sz,by rw[vK,h.len],λx hx=>h.nn x (z1N.mp hx),⟨x,z1N.mpr hx,p⟩⟩
end Pr
namespace Pt
open L2 Dd Pm Pg Pn Po Pr Pp
theorem zcB {n m:Nat} (hn:n<=4) (hm:m<=30) (hs:(m+1) ^ n<=90000) (s:Sto):yc [.int n,.int 0,.int m] s=.ok (.lst ((jX n m).map rD)) s:=by
 have f1:yD [some (.int n),some (.int 0),some (.int m),none,none] s=.ok (.nx [some (.int n),some (.int 0),some (.int m),some (.lst ((jX 0 m).map rD)),none]) s:=by
  rw[yD,yn,kU,zr,qo,zM];simp[cap,jX,yF]
 obtain⟨ρ',S',lp,a4,hρ,rfl⟩:=qh (all:=(List.range n).map λk:Nat=>D.int ((k:Nat):Int)) (body:=λx ρ s=>(qZ 4 x ρ s).bind fun ρ' s'=>yE ρ' s') (λi ρ S'=>∃a4,ρ=[some (.int n),some (.int 0),some (.int m),some (.lst ((jX i m).map rD)),a4]/\S'=s) ((List.range n).map λk:Nat=>D.int ((k:Nat):Int)) 0 (by
   intro i x hx ρ S' ⟨a4,hρ,hS⟩;subst hρ hS;rw[_ay];have hi:i<n:=by have:=(_d.mp hx).1;simpa using this
   have eg:((jX i m).flatMap λa=>(List.range (m+1)).map λk=>rD (a++[((k:Nat):Int)]))=(jX (i+1) m).map rD:=by
    rw[z5G,z99,_dN,z5O];simp[_bq]
   have c:=z1v (fi:=wZ (zd 3)) (mp:=[some 1,some 2,none,none]) (k1:=2) (k2:=3) (fi2:=z65 (za (zd 0) (za (eOp xZ (zd 1) (eC (.int 1))) zn))) (fe:=eOp xZ (zd 2) (jY (za (zd 3) zn))) (ρ:=[some (.int n),some (.int 0),some (.int m),some (.lst ((jX i m).map rD)),some x]) (s:=S') rD (λ_ (k:Nat)=>D.int ((k:Nat):Int)) (jX i m) (λ_=>List.range (m+1)) (λa k=>rD (a++[((k:Nat):Int)])) (wv (vr rfl)) (λa _=>by
     rw[zad,zr,vr (d:=.int 0) rfl,Rb,zr,op2 (x:=.int m) (y:=.int 1) (vr rfl) rfl,jn,Rb,zM];simp only[Rb];rw[_g (by lia),show ((m:Int)+1-0).toNat=m+1 by lia];simp[qR]) (λa ha k _=>by
     have la:=(z0G.mp ha).1;rw[op2 (x:=rD a) (y:=rD [(k:Int)]) (vr rfl) (by
      rw[qo,zr,vr (d:=.int k) rfl,Rb,zM];simp[cap]),jq,_g (by simp[cap];lia)];simp) (by
     rw[eg,_B];have h1:=z71 (n:=i+1) (m:=m);have h2:(m+1) ^ (i+1)<=(m+1) ^ n:=_av (by lia) (by lia);have:(90000:Nat)<=cap:=by unfold cap;lia
     lia);rw[eg]at c;refine⟨[some (.int n),some (.int 0),some (.int m),some (.lst ((jX (i+1) m).map rD)),some x],S',?_,some x,rfl,rfl⟩;rw[zjb,Rb];show yE [some (.int n),some (.int 0),some (.int m),some (.lst ((jX i m).map rD)),some x] S'=_;rw[yE,yn,c];rfl) [some (.int n),some (.int 0),some (.int m),some (.lst ((jX 0 m).map rD)),none] s ⟨none,rfl,rfl⟩;rw[_ay,_B,_cm]at hρ;have f2:yC [some (.int n),some (.int 0),some (.int m),some (.lst ((jX 0 m).map rD)),none] S'=.ok (.nx ρ') S':=by
  rw[yC,jU,z38 (n:=n) (s1:=S') (by lia) (by rw[zr,vr (d:=.int n) rfl,Rb,zM];rfl),Rb];exact lp
 have key:∀(dn dz dm d0 d:D) (a4:Option D),yD [some dn,some dz,some dm,none,none] S'=.ok (.nx [some dn,some dz,some dm,some d0,none]) S'->yC [some dn,some dz,some dm,some d0,none] S'=.ok (.nx [some dn,some dz,some dm,some d,a4]) S'->yc [dn,dz,dm] S'=.ok d S':=λdn dz dm d0 d a4 h1 h2=>by
  have st:zE ["size","least","most","found","place"] [dn,dz,dm]=[some dn,some dz,some dm,none,none]:=rfl;simp only[yc,Mof,vH,st,_w,_R,_K];rw[zo h1,zo h2];rfl
 rw[hρ]at f2;exact key _ _ _ _ _ _ f1 f2
theorem z6n{n b:Nat}(h1:2<=n)(h2:n<=b)(s:Sto):wI [.int n,.int b] s=.ok .non s:=by
 have w:=z8N (n:Int) s;have a1:decide ((2:Int)<=(n:Int))=true:=_aR (by lia);have a2:decide ((n:Int)<=(b:Int))=true:=_aR (by lia);have a3:¬ b<n:=by lia
 simp[wI,Mof,z00,zE,w,a1,a2,a3]
def wk(r:Rl)(d:Kv):Nat->List Int->List (List Int)
 | 0,c=>[c] | f+1,c=>if (vf d (K c)).isSome=true\/ended c=true then [c] else c::wk r d f (stp r c)
inductive Chain(r:Rl):List (List Int)->Prop | one (c:List Int):Chain r [c] | cons {c:List Int}{t:List (List Int)}:ended c=false->Chain r (stp r c::t)->Chain r (c::stp r c::t)
theorem za3(r:Rl)(d:Kv)(f:Nat)(c:List Int):∃t,wk r d f c=c::t:=by cases f with
 | zero=>exact⟨[],rfl⟩ | succ f=>
  rw[wk];split;·exact⟨[],rfl⟩
  ·exact⟨_,rfl⟩
theorem z7j(r:Rl)(d:Kv):∀(f:Nat)(c:List Int),Chain r (wk r d f c)
 | 0,c=>.one c | f+1,c=>by
  rw[wk];split;·exact .one c
  ·rename_i q;have ih:=z7j r d f (stp r c);obtain⟨t,e⟩:=za3 r d f (stp r c);rw[e]at ih ⊢;exact .cons (by cases h:ended c with | false=>rfl | true=>exact absurd (.inr h) q) ih
theorem zgU{n b:Nat}{r:Rl}{d:Kv}:∀(f:Nat)(c:List Int),Lt n b c->∀v∈wk r d f c,Lt n b v
 | 0,c,h,v,hv=>by rw[_V.mp hv];exact h | f+1,c,h,v,hv=>by
  rw[wk]at hv;split at hv;·rw[_V.mp hv];exact h
  ·rename_i q;rcases _n.mp hv with rfl | hv;·exact h
   ·exact zgU f _ (h.step r (by cases z:ended c with | false=>rfl | true=>exact absurd (.inr z) q)) v hv
theorem zaY {n b:Nat} {r:Rl} {d:Kv}:∀(f:Nat) (c:List Int),Lt n b c->mu r c<=f->∃p e,wk r d f c=p++[e]/\((vf d (K e)).isSome=true\/ended e=true)
 | 0,c,h,hf=>by
  refine⟨[],c,rfl,?_⟩;cases z:ended c with
  | true=>exact .inr rfl | false=>have:=z3h r h.lot z;lia
 | f+1,c,h,hf=>by
  rw[wk];split;·rename_i q;exact⟨[],c,rfl,q⟩
  ·rename_i q;have z:ended c=false:=by cases z:ended c with | false=>rfl | true=>exact absurd (.inr z) q
   have:=z3h r h.lot z;obtain⟨p,e,h1,h2⟩:=zaY (r:=r) (d:=d) f (stp r c) (h.step r z) (by lia);exact⟨c::p,e,by rw[h1];rfl,h2⟩
theorem zaK{n b:Nat}{r:Rl}{W:List (List Int)}(h:Chain r W):(∀v∈W,Lt n b v)->∀(j:Nat)(v:List Int),W.reverse[j]? = some v->∃e,W.reverse[0]? = some e/\nst r v=nst r e+j:=by induction h with
 | one c=>
  intro _ j v hj;have:j=0:=by have:=(_d.mp hj).1;simp at this;lia
  subst this;exact⟨v,hj,rfl⟩ | @cons c t he h ih=>
  intro hl j v hj;have ih:=ih λv hv=>hl v (.tail _ hv);rw[_bc]at hj ⊢;have z0:((stp r c::t).reverse++[c])[0]? = (stp r c::t).reverse[0]? := _u (by simp);rw[z0];by_cases q:j<(stp r c::t).reverse.length
  ·rw[_u q]at hj;exact ih j v hj
  ·rw[_ah (by lia)]at hj;have e1:j-(stp r c::t).reverse.length=0:=by have:=(_d.mp hj).1;simp at this ⊢;lia
   rw[e1]at hj;have:v=c:=by simpa using hj.symm
   subst this;obtain⟨e,h1,h2⟩:=ih t.length (stp r v) (by rw[_bc,_ah (by simp)];simp);refine⟨e,h1,?_⟩;rw[z6R (hl v (.head _)).lot he,h2];simp at e1 q;lia
noncomputable abbrev F8(a0 a1 a2 a3 a4 a5 a6 a7:Option D):Ev:=[a0,a1,a2,a3,a4,a5,a6,a7]
noncomputable abbrev zkf:FT:=zft (tOf (eOp (zh8 true) (eOp dIx (zd 5) (z49 (eC (.int 1)))) (zd 3))) (z0F (tOf (zh zP (za (eOp dIx (zd 5) (z49 (eC (.int 1)))) zn))))
section
variable {n b:Nat}{r:Rl}{d:Kv}{S:Sto}{l:Nat}(hd:Dk n b d)(hl:S[l]? = some (encD d))(hb:b<=900){a1 a2 a4 a6 a7:Option D}
include hd hl hb
theorem zal (ps:List (List Int)) (c:List Int) (a0:Option D):eOp dIx (zd 5) (z49 (eC (.int 1))) (F8 a0 a1 a2 (some (.dlo l)) a4 (some (.loc S.length)) a6 a7) (S++[(ps++[c]).map rD])=.ok (rD c) (S++[(ps++[c]).map rD]):=by
 rw[op2 (x:=.loc S.length) (y:=.int (-1)) (vr rfl) rfl];exact z45 (xs:=ps.map rD) (by simp[zU])
theorem z7Y {c:List Int} (hc:Lt n b c) (ps:List (List Int)) (a0:Option D):zkf (F8 a0 a1 a2 (some (.dlo l)) a4 (some (.loc S.length)) a6 a7) (S++[(ps++[c]).map rD])=.ok (!(vf d (K c)).isSome&&!ended c) (S++[(ps++[c]).map rD]):=by
 have ll:l<S.length:=(_d.mp hl).1;have gz:(S++[(ps++[c]).map rD])[l]? = some (encD d):=by rw[_u ll];exact hl
 have ix:=zal (a1:=a1) (a2:=a2) (a4:=a4) (a6:=a6) (a7:=a7) hd hl hb ps c a0;have he:=wF hc.lot (S++[(ps++[c]).map rD]);have da:=zeD hd gz c;generalize S++[(ps++[c]).map rD]=T at *;unfold zkf;rw[z1X,xg (b:=!(vf d (K c)).isSome) (by
  rw[op2 (x:=rD c) (y:=.dlo l) ix (vr rfl)];simp only[zh8,da];rfl),Rb];cases (vf d (K c)).isSome with
 | true=>rfl | false=>
  rw[_g (by rfl:(!false)=true),z5L,xg (b:=ended c) (by rw[vc (x:=rD c) ix];exact he),Rb];rfl
theorem z4Q:∀(f:Nat) (c:List Int) (ps:List (List Int)),Lt n b c->mu r c<=f->ps.length+f+1<90000-> vb zkf yU (f+1) (F8 (some (.str (nmR r))) a1 a2 (some (.dlo l)) a4 (some (.loc S.length)) a6 a7) (S++[(ps++[c]).map rD])=.ok (.nx (F8 (some (.str (nmR r))) a1 a2 (some (.dlo l)) a4 (some (.loc S.length)) a6 a7)) (S++[(ps++wk r d f c).map rD])
 | 0,c,ps,h,hf,hp=>by
  have t:=z7Y (a1:=a1) (a2:=a2) (a4:=a4) (a6:=a6) (a7:=a7) hd hl hb h ps (some (.str (nmR r)));have e:ended c=true:=by cases z:ended c with
   | true=>rfl | false=>have:=z3h r h.lot z;lia
  rw[e,_a8,_cr]at t;rw[vb,t,Rb];rfl | f+1,c,ps,h,hf,hp=>by
  have t:=z7Y (a1:=a1) (a2:=a2) (a4:=a4) (a6:=a6) (a7:=a7) hd hl hb h ps (some (.str (nmR r)));rw[vb,t,Rb,wk];by_cases q:(vf d (K c)).isSome=true\/ended c=true;·rw[_g q,_l (by rcases q with q | q<;>simp[q])]
  ·have z:ended c=false:=by cases z:ended c with | false=>rfl | true=>exact absurd (.inr z) q
   have k:(vf d (K c)).isSome=false:=by cases k:(vf d (K c)).isSome with | false=>rfl | true=>exact absurd (.inl k) q
   have m:=z3h r h.lot z;rw[_l q,_g (by simp[z,k])];have ix:=zal (a1:=a1) (a2:=a2) (a4:=a4) (a6:=a6) (a7:=a7) hd hl hb ps c (some (.str (nmR r)));have sp:=z53 r (h.B hb) z (by decide) (S++[(ps++[c]).map rD]);have fl:(rD (stp r c)).flat=true:=xN _;have ih:=z4Q f (stp r c) (ps++[c]) (h.step r z) (by lia) (by simp;lia);have ea:(ps++[c]++[stp r c]).map rD=(ps++[c]).map rD++[rD (stp r c)]:=by simp
   rw[_aa ps [c] (wk r d f (stp r c)),ea]at ih;have ln:((ps++[c]).map rD).length<90000:=by simp;lia
   have f5:yU (F8 (some (.str (nmR r))) a1 a2 (some (.dlo l)) a4 (some (.loc S.length)) a6 a7) (S++[(ps++[c]).map rD])=.ok (.nx (F8 (some (.str (nmR r))) a1 a2 (some (.dlo l)) a4 (some (.loc S.length)) a6 a7)) (S++[(ps++[c]).map rD++[rD (stp r c)]]):=by
    generalize (ps++[c]).map rD=X at *;generalize rD (stp r c)=y at *;generalize rD c=w at *;rw[yU,qe,zbv,vr (d:=.loc S.length) rfl,Rb];simp only;rw[call2 (x:=.str (nmR r)) (y:=w) (vr rfl) ix,sp,Rb];have gt:(S++[X])[S.length]? = some X:=by simp
    rw[gt];simp only;rw[_g ⟨fl,by unfold cap;lia⟩,z9R];rfl
   rw[f5,Rb];exact ih
end
def zgK(d d':Kv):Prop:=∀k,(vf d k).isSome=true->(vf d' k).isSome=true
theorem zgK.put(d:Kv)(k:List Key)(u:V):zgK d (jQ d k u):=λj h=>by
 rw[z7b];split;·rfl
 ·exact h
noncomputable abbrev zjF:D->Ev->Sto->R Fl:=λx ρ s=>(qZ 7 x ρ s).bind fun ρ' s'=>(zL yz wf) ρ' s'
theorem zbb {n b:Nat} {r:Rl} (hn:Sz n) (hb:(b+1) ^ n<=90000) {W:List (List Int)} (ch:Chain r W) (hW:∀v∈W,Lt n b v) {e:List Int} (he:W.reverse[0]? = some e) {d:Kv} {S:Sto} {l:Nat} (hd:Dk n b d) (ho:Ok r d) (hl:S[l]? = some (encD d)) (a0 a1 a2 a4 a5 a7:Option D): ∃b6 b7 d' S',ui [] (W.reverse.map rD) zjF (W.reverse.map rD) (F8 a0 a1 a2 (some (.dlo l)) a4 a5 (some (.int (nst r e))) a7) S=.ok (.nx (F8 a0 a1 a2 (some (.dlo l)) a4 a5 b6 b7)) S'/\Dk n b d'/\Ok r d'/\S'[l]? = some (encD d')/\zgK d d'/\(∀v∈W,(vf d' (K v)).isSome=true):=by
 obtain⟨ρ',S',lp,z7,d',hρ,h1,h2,h3,h4,h5⟩:=qh (all:=W.reverse.map rD) (body:=zjF) (λj ρ S'=>∃z7 d',ρ=F8 a0 a1 a2 (some (.dlo l)) a4 a5 (some (.int ((nst r e+j:Nat):Int))) z7/\Dk n b d'/\Ok r d'/\S'[l]? = some (encD d')/\zgK d d'/\∀v∈W.reverse.take j,(vf d' (K v)).isSome=true) (W.reverse.map rD) 0 (by
  intro j x hx ρ S1 ⟨z7,d1,hρ,h1,h2,h3,h4,h5⟩;subst hρ;rw[_ay]at h5 ⊢;rw[_Y,_x]at hx;obtain⟨v,hv,rfl⟩:=hx;obtain⟨e',cT,hj⟩:=zaK ch hW j v hv;rw[he]at cT;cases cT;have rQ:v∈W:=_dH.mp (_r hv);have ln:d1.length<cap:=by have:=h1.len hn;unfold cap;lia
  have l1:l<S1.length:=(_d.mp h3).1;have f8:yz (F8 a0 a1 a2 (some (.dlo l)) a4 a5 (some (.int ((nst r e+j:Nat):Int))) (some (rD v))) S1=.ok (.nx (F8 a0 a1 a2 (some (.dlo l)) a4 a5 (some (.int ((nst r e+j:Nat):Int))) (some (rD v)))) (S1.set l (encD (jQ d1 (K v) (.int (nst r v))))):=by
   rw[yz,hj];exact zfu h1 (vr rfl) (vr rfl) (vr rfl) h3 ln
  refine⟨F8 a0 a1 a2 (some (.dlo l)) a4 a5 (some (.int ((nst r e+(j+1):Nat):Int))) (some (rD v)),S1.set l (encD (jQ d1 (K v) (.int (nst r v)))),?_,some (rD v),_,rfl,h1.put (hW v rQ) _,h2.put,_ac l1,λk hk=>zgK.put _ _ _ k (h4 k hk),λw hw=>?_⟩
  ·show (zL yz wf) (F8 a0 a1 a2 (some (.dlo l)) a4 a5 (some (.int ((nst r e+j:Nat):Int))) (some (rD v))) S1=_;rw[zo f8];rfl
  ·have ts:W.reverse.take (j+1)=W.reverse.take j++[v]:=by rw[_ck,hv];rfl
   rw[ts]at hw;rcases _C.mp hw with hw | hw;·exact zgK.put _ _ _ _ (h5 w hw)
   ·rw[_V.mp hw,z7b,_g rfl];rfl) (F8 a0 a1 a2 (some (.dlo l)) a4 a5 (some (.int (nst r e))) a7) S ⟨a7,d,rfl,hd,ho,hl,λ_ h=>h,by simp⟩;refine⟨_,z7,d',S',lp.trans (by rw[hρ]),h1,h2,h3,h4,λv hv=>h5 v ?_⟩;rw[_ay,_B,List.take_length];exact _dH.mpr hv
noncomputable abbrev ziw:D->Ev->Sto->R Fl:=λx ρ s=>(qZ 4 x ρ s).bind fun ρ' s'=>(zL yt (zL yw (zL yu yW))) ρ' s'
theorem zdG {n b:Nat} {r:Rl} (hn:Sz n) (hb:b<=30) (dP:(b+1) ^ n<=90000) {v:List Int} (hv:Lt n b v) {d:Kv} {S:Sto} {l:Nat} (hd:Dk n b d) (ho:Ok r d) (hl:S[l]? = some (encD d)) (a1 a2 a4 a5 a6 a7:Option D): ∃b5 b6 b7 d' S',ziw (rD v) (F8 (some (.str (nmR r))) a1 a2 (some (.dlo l)) a4 a5 a6 a7) S=.ok (.nx (F8 (some (.str (nmR r))) a1 a2 (some (.dlo l)) (some (rD v)) b5 b6 b7)) S'/\Dk n b d'/\Ok r d'/\S'[l]? = some (encD d')/\zgK d d'/\(vf d' (K v)).isSome=true:=by
 have mb:mu r v<=103:=by
  have:=zhe (m:=5) (r:=r) hv.lot λx hx=>by
   have h1:=hv.le x hx;have h2:=hv.lot.nn x hx;have:x.toNat<=30:=by lia
   exact Nat.lt_of_le_of_lt this (by decide)
  lia
 have ll:l<S.length:=(_d.mp hl).1;obtain⟨p,e,lZ,ij⟩:=zaY (r:=r) (d:=d) 103 v hv mb;have he:Lt n b e:=zgU (r:=r) (d:=d) 103 v hv e (by rw[lZ];simp);have f3:yt (F8 (some (.str (nmR r))) a1 a2 (some (.dlo l)) (some (rD v)) a5 a6 a7) S=.ok (.nx (F8 (some (.str (nmR r))) a1 a2 (some (.dlo l)) (some (rD v)) (some (.loc S.length)) a6 a7)) (S++[([]++[v]).map rD]):=by
  have fl:=z77 [v];simp only[_H,_dW]at fl;simp only[_b2,_H,_dW];generalize rD v=x at *;rw[yt,yn,zbk,zr,vr (d:=x) rfl,Rb,zM];simp only[Rb];rw[_g ⟨by simp[cap],fl⟩];rfl
 have f4:yw (F8 (some (.str (nmR r))) a1 a2 (some (.dlo l)) (some (rD v)) (some (.loc S.length)) a6 a7) (S++[([]++[v]).map rD])=.ok (.nx (F8 (some (.str (nmR r))) a1 a2 (some (.dlo l)) (some (rD v)) (some (.loc S.length)) a6 a7)) (S++[(wk r d 103 v).map rD]):=by
  have lp:=z4Q (r:=r) (a1:=a1) (a2:=a2) (a4:=some (rD v)) (a6:=a6) (a7:=a7) hd hl (by lia) 103 v [] hv mb (by simp);rw[_b2 (wk r d 103 v)]at lp;rw[yw];exact z7Q lp (by simp)
 have gz:(S++[(wk r d 103 v).map rD])[l]? = some (encD d):=by rw[_u ll];exact hl
 have da:=zeD hd gz e;have f6:yu (F8 (some (.str (nmR r))) a1 a2 (some (.dlo l)) (some (rD v)) (some (.loc S.length)) a6 a7) (S++[(wk r d 103 v).map rD])=.ok (.nx (F8 (some (.str (nmR r))) a1 a2 (some (.dlo l)) (some (rD v)) (some (.loc S.length)) (some (.int (nst r e))) a7)) (S++[(wk r d 103 v).map rD]):=by
  have ix:eOp dIx (zd 5) (z49 (eC (.int 1))) (F8 (some (.str (nmR r))) a1 a2 (some (.dlo l)) (some (rD v)) (some (.loc S.length)) a6 a7) (S++[(wk r d 103 v).map rD])=.ok (rD e) (S++[(wk r d 103 v).map rD]):=by
   rw[op2 (x:=.loc S.length) (y:=.int (-1)) (vr rfl) rfl];exact z45 (xs:=p.map rD) (by simp[zU,lZ])
  generalize S++[(wk r d 103 v).map rD]=T at *;rw[yu,yn,zcv,vr (d:=.dlo l) rfl,Rb];simp only;rw[ix,Rb,z3y,Rb,da];cases dB:vf d (K e) with
  | some u=>rw[ho.val dB];rfl | none=>
   have:ended e=true:=ij.resolve_left (by simp[dB]);rw[z9s this];rfl
 have l5:(wk r d 103 v).reverse[0]? = some e:=by rw[lZ];simp
 obtain⟨b6,b7,d',S',lp,h1,h2,h3,h4,h5⟩:=zbb hn dP (z7j r d 103 v) (zgU 103 v hv) l5 hd ho gz (some (.str (nmR r))) a1 a2 (some (rD v)) (some (.loc S.length)) a7;refine⟨some (.loc S.length),b6,b7,d',S',?_,h1,h2,h3,h4,h5 v ?_⟩
 ·show (zL yt (zL yw (zL yu yW))) (F8 (some (.str (nmR r))) a1 a2 (some (.dlo l)) (some (rD v)) a5 a6 a7) S=_;rw[zo f3,zo f4,zo f6];have it:wZ (zaW (zd 5)) (F8 (some (.str (nmR r))) a1 a2 (some (.dlo l)) (some (rD v)) (some (.loc S.length)) (some (.int (nst r e))) a7) (S++[(wk r d 103 v).map rD])=.ok ((wk r d 103 v).reverse.map rD,[]) (S++[(wk r d 103 v).map rD]):=by
   refine wv ?_;rw[zf4,vr (d:=.loc S.length) rfl,Rb];simp[Dd.listOf]
  rw[yW,jU,it,Rb];exact lp
 ·obtain⟨t,ht⟩:=za3 r d 103 v;rw[ht];exact .head _
theorem z26 {n b:Nat} (r:Rl) (hn:Sz n) (hb:b<=30) (dP:(b+1) ^ n<=90000) (s:Sto):∃d S',yB [.str (nmR r),.int n,.int b] s=.ok (.dlo s.length) S'/\Dk n b d/\Ok r d/\S'[s.length]? = some (encD d)/\∀v,Lt n b v->(vf d (K v)).isSome=true:=by
 have tb:=zcB (n:=n) (m:=b) (by unfold Sz at hn;lia) hb dP (s++[Dd.encD []]);obtain⟨ρ',S',lp,b4,b5,b6,b7,d,hρ,h1,h2,h3,h5⟩:=qh (all:=(every n b).map rD) (body:=ziw) (λi ρ S'=>∃b4 b5 b6 b7 d,ρ=F8 (some (.str (nmR r))) (some (.int n)) (some (.int b)) (some (.dlo s.length)) b4 b5 b6 b7/\Dk n b d/\Ok r d/\S'[s.length]? = some (encD d)/\∀v∈(every n b).take i,(vf d (K v)).isSome=true) ((every n b).map rD) 0 (by
  intro i x hx ρ S1 ⟨b4,b5,b6,b7,d,hρ,h1,h2,h3,h5⟩;subst hρ;rw[_ay]at h5 ⊢;rw[_Y,_x]at hx;obtain⟨v,hv,rfl⟩:=hx;obtain⟨c5,c6,c7,d',S',e,k1,k2,k3,k4,k5⟩:=zdG (r:=r) hn hb dP ((z59 hn).mp (_r hv)) h1 h2 h3 (some (.int n)) (some (.int b)) b4 b5 b6 b7;refine⟨_,S',e,_,_,_,_,d',rfl,k1,k2,k3,λw hw=>?_⟩;have ts:(every n b).take (i+1)=(every n b).take i++[v]:=by rw[_ck,hv];rfl
  rw[ts]at hw;rcases _C.mp hw with hw | hw;·exact k4 _ (h5 w hw)
  ·rw[_V.mp hw];exact k5) (F8 (some (.str (nmR r))) (some (.int n)) (some (.int b)) (some (.dlo s.length)) none none none none) (s++[Dd.encD []]) ⟨_,_,_,_,[],rfl,⟨List.Pairwise.nil,by simp⟩,λp hp=>by simp at hp,by simp,by simp⟩;refine⟨d,S',?_,h1,h2,h3,λv hv=>h5 v ?_⟩
 ·have f1:wb (F8 (some (.str (nmR r))) (some (.int n)) (some (.int b)) none none none none none) s=.ok (.nx (F8 (some (.str (nmR r))) (some (.int n)) (some (.int b)) (some (.dlo s.length)) none none none none)) (s++[Dd.encD []]):=rfl;have it:wZ (eSl (zh yc (za (zd 1) (za (eC (.int 0)) (za (zd 2) zn)))) (xK (eC (.int 1))) zQ) (F8 (some (.str (nmR r))) (some (.int n)) (some (.int b)) (some (.dlo s.length)) none none none none) (s++[Dd.encD []])=.ok ((every n b).map rD,[]) (s++[Dd.encD []]):=by
   refine wv ?_;have sl:dSl (.lst ((jX n b).map rD)) (some ((1:Nat):Int)) none (s++[Dd.encD []])=.ok (.lst ((every n b).map rD)) (s++[Dd.encD []]):=by
    have e:=z1O ((jX n b).map rD) 1 (s++[Dd.encD []]);have e2:Dd.cutD ((jX n b).map rD) (some ((1:Nat):Int)) none=((jX n b).map rD).drop 1:=by simpa[dSl] using e
    simp only[dSl,Dd.listOf,e2];rw[every,_bW]
   generalize (jX n b).map rD=A at *;generalize (every n b).map rD=B at *;rw[z2j,uX (x:=.int n) (y:=.int 0) (z:=.int b) (vr rfl) rfl (vr rfl),tb,Rb];simp only[uV,z3y,xW,Rb];exact sl
  have f2:yV (F8 (some (.str (nmR r))) (some (.int n)) (some (.int b)) (some (.dlo s.length)) none none none none) (s++[Dd.encD []])=.ok (.nx ρ') S':=by
   rw[yV,jU,it,Rb];exact lp
  rw[hρ]at f2;have key:∀(dr dn db:D) (b4 b5 b6 b7:Option D),wb (F8 (some dr) (some dn) (some db) none none none none none) s=.ok (.nx (F8 (some dr) (some dn) (some db) (some (.dlo s.length)) none none none none)) (s++[Dd.encD []])->yV (F8 (some dr) (some dn) (some db) (some (.dlo s.length)) none none none none) (s++[Dd.encD []])=.ok (.nx (F8 (some dr) (some dn) (some db) (some (.dlo s.length)) b4 b5 b6 b7)) S'->yB [dr,dn,db] s=.ok (.dlo s.length) S':=λdr dn db b4 b5 b6 b7 k1 k2=>by
   have st:zE ["rule","size","most","steps","lot","path","many","behind"] [dr,dn,db]=F8 (some dr) (some dn) (some db) none none none none none:=rfl;simp only[yB,Mof,qf,st,_w,_R,_K];rw[zo k1,zo k2];rfl
  exact key _ _ _ _ _ _ _ f1 f2
 ·rw[_ay,_B,List.take_length];exact (z59 hn).mpr hv
noncomputable def unK(k:List Key):List Int:=k.map λ| .inl i=>i | .inr _=>0
theorem z2c:LeM yO ub:=LeM.mof (LeS.if_ LeS.fNo LeS.rfl)
end Pt
namespace Pr
open L2 Dd Pm Pg Pn Po Pp
noncomputable abbrev E5(a0 a1 a2 a3 a4:Option D):Ev:=[a0,a1,a2,a3,a4]
noncomputable def cms(r:Rl)(g:List Int)(m:Nat)(v:List Int):Bool:=decide (maxL v<=(m:Int))&&(!ended v&&decide (stp r v=g))
theorem Lot.small{n m:Nat}{v:List Int}(h:Lot n v)(hm:m<=900)(hv:maxL v<=(m:Int)):LotB n 10 v:=⟨h,λx hx=>by
 have:=maxL_ge (xs:=v) x hx;have e:(2:Int) ^ 10=1024:=by decide
 lia⟩
end Pr
namespace Pp
open L2 Dd Pm Pg Pn
noncomputable abbrev T39:Int:=1000000000000000000000000000000000000000
theorem t39:T39<2 ^ 2000:=by decide +kernel
theorem zmB{r:Int}(s:Sto)(h0:0<=r)(h1:r<5):∃far:Int,dIx (.lst [.int 4,.int 31,.int 1001,.int 1000000000000000,.int T39]) (.int r) s=.ok (.int far) s/\4<=far/\far<=T39:=by
 obtain⟨k,rfl⟩:=_cb h0;have:k=0\/k=1\/k=2\/k=3\/k=4:=by lia
 rcases this with rfl | rfl | rfl | rfl | rfl;·exact⟨4,rfl,by decide,by decide⟩
 ·exact⟨31,rfl,by decide,by decide⟩
 ·exact⟨1001,rfl,by decide,by decide⟩
 ·exact⟨1000000000000000,rfl,by decide,by decide⟩
 ·exact⟨T39,rfl,by decide,by decide⟩
theorem z73  : ∀ys:List D,(∀y∈ys,∃x:Int,y=.int x/\0<=x/\x<=M)->∃xs:List Int,ys=iL xs/\∀x∈xs,0<=x/\x<=M
 | [],_=>⟨[],rfl,by simp⟩ | y::ys,h=>by
  obtain⟨x,rfl,hx⟩:=h y (by simp);obtain⟨xs,rfl,hs⟩:=z73 ys λz hz=>h z (by simp[hz]);exact⟨x::xs,rfl,λz hz=>by rcases _n.mp hz with rfl | hz;exact hx;exact hs z hz⟩
noncomputable abbrev EvM(M:Int)(l:Nat)(n:Nat)(a3 a4 a5 a6 a7:Option D):Ev:=[some (.loc l),some (.int n),some (.int M),a3,a4,a5,a6,a7]
theorem zgC {s:Sto} {l n:Nat} {M:Int} (h:Pot s l) (hsz:Sz n) (sR:1<=M) (sS:M<T39):∃v s',wy [.loc l,.int n,.int M] s=.ok (rD v) s'/\Lot n v/\(∀x∈v,x<=M)/\uE s s' l:=by
 have hl:=h.lt;have hn:2<=n/\n<=4:=by unfold Sz at hsz;lia
 have st:zE ["_law_pot_here","_law_size","_law_most","_law_far","_law_found","_law_way","_law_at","_law_to"] [.loc l,.int n,.int M]=EvM M l n none none none none none:=rfl;obtain⟨r1,s1,e1,a1,b1,d1⟩:=qH (ρ:=EvM M l n none none none none none) (f:=zd 0) (g:=eC (.int 5)) (far:=5) h (by decide) (z3X (by decide)) (by simp) (by simp);obtain⟨fr,ef,sU,sV⟩:=zmB s1 a1 b1;obtain⟨far,l6,f0,f1,f2⟩:∃far:Int,far=(if fr<M+1 then fr else M+1)/\2<=far/\far<=T39/\far<=M+1:=⟨_,rfl,by split<;>lia,by split<;>lia,by split<;>lia⟩;have p1:wY (EvM M l n none none none none none) s=.ok (.nx (EvM M l n (some (.int far)) none none none none)) s1:=by
  have x1:eOp xZ (zd 2) (eC (.int 1)) (EvM M l n none none none none none) s=.ok (.int (M+1)) s:=by simp
  have x2:eOp dIx (z4o (za (eC (.int 4)) (za (eC (.int 31)) (za (eC (.int 1001)) (za (eOp z7F (eC (.int 10)) (eC (.int 15))) (za (eOp z7F (eC (.int 10)) (eC (.int 39))) zn)))))) (zh zF (za (zd 0) (za (eC (.int 5)) zn))) (EvM M l n none none none none none) s=.ok (.int fr) s1:=by
   rw[vT];have:z4o (za (eC (.int 4)) (za (eC (.int 31)) (za (eC (.int 1001)) (za (eOp z7F (eC (.int 10)) (eC (.int 15))) (za (eOp z7F (eC (.int 10)) (eC (.int 39))) zn))))) (EvM M l n none none none none none) s=.ok (.lst [.int 4,.int 31,.int 1001,.int 1000000000000000,.int T39]) s:=by
    simp only[kU,zr,zM,z3y,vT,Rb,zjY,zle];rw[_g (by simp[cap])]
   rw[this,Rb,e1,Rb,ef]
  have x3:z6L [.int (M+1),.int fr] s1=.ok (.int far) s1:=by
   simp only[z6L];rw[l6]
  rw[wY,yn,xr,zr,x1,Rb,zr,x2];simp only[Rb,zM,x3];rfl
 obtain⟨ys,s2,e2,y1,y2,d2⟩:=zch (fi:=z5U (za (zd 1) zn)) (mp:=[some 0,some 3,none]) (fg:=qZ 2) (fe:=zh zF (za (zd 0) (za (zd 1) zn))) (ρ:=EvM M l n (some (.int far)) none none none none) (s:=s1)  (λk:Nat=>D.int ((k:Nat):Int)) (λk=>[some (.loc l),some (.int far),some (.int ((k:Nat):Int))]) (λ_ s'=>uE s s' l) (λy=>∃x:Int,y=.int x/\0<=x/\x<=M) (List.range n) (z38  (by lia) (by simp)) (λk _ s=>by simp) (λi k _ s' hd=>by
   obtain⟨x,dY,e,x0,x1,d⟩:=zeF hd.pot  (by lia) (Int.lt_of_le_of_lt f1 t39);exact⟨.int x,dY,by rw[call2   (vr rfl) (vr rfl)];exact e,⟨x,rfl,x0,by lia⟩,hd.trans d⟩) (by simp[cap];lia) d1 (λy ⟨x,hx,_⟩=>by subst hx;rfl);obtain⟨xs,rfl,x2⟩:=z73 ys y2;have n2:xs.length=n:=by simpa using y1
 have p2:wU (EvM M l n (some (.int far)) none none none none) s1=.ok (.nx (EvM M l n (some (.int far)) (some (.loc s.length)) none none none)) (s2++[iL xs]):=by
  rw[wU,yn,e2,Rb,d2.len];rfl
 have L2:=LS.start d2 h xs;obtain⟨cW,s3,e3,a3,b3,d3⟩:=qH (ρ:=EvM M l n (some (.int far)) (some (.loc s.length)) none none none) (f:=zd 0) (g:=eC (.int 6)) (far:=6) L2.pot (by decide) (z3X (by decide)) (by simp) (by simp);have L3:=L2.drawn hl d3;have p3:wR (EvM M l n (some (.int far)) (some (.loc s.length)) none none none) (s2++[iL xs])=.ok (.nx (EvM M l n (some (.int far)) (some (.loc s.length)) (some (.int cW)) none none)) s3:=by rw[wR,yn,e3];rfl
 obtain⟨at_,s4,e4,a4,b4,d4⟩:=qH (ρ:=EvM M l n (some (.int far)) (some (.loc s.length)) (some (.int cW)) none none) (f:=zd 0) (g:=zd 1) (far:=n) L3.pot (by lia) (z3X (by lia)) (by simp) (by simp);have L4:=L3.drawn hl d4;obtain⟨to,s5,e5,a5,b5,d5⟩:=qH (ρ:=EvM M l n (some (.int far)) (some (.loc s.length)) (some (.int cW)) none none) (f:=zd 0) (g:=zd 1) (far:=n) L4.pot (by lia) (z3X (by lia)) (by simp) (by simp);have L5:=L4.drawn hl d5;have p4:wT (EvM M l n (some (.int far)) (some (.loc s.length)) (some (.int cW)) none none) s3=.ok (.nx (EvM M l n (some (.int far)) (some (.loc s.length)) (some (.int cW)) (some (.int at_)) (some (.int to)))) s5:=by
  rw[wT,zdZ,zr,e4,Rb,zr,e5];rfl
 let E:=EvM M l n (some (.int far)) (some (.loc s.length)) (some (.int cW)) (some (.int at_)) (some (.int to));have rR:∃s6 ys,xn E s5=.ok (.nx E) s6/\LS s l s6 ys/\(∀y∈ys,0<=y/\y<=M)/\ys.length=n:=by
  have t:tOf (eOp dEq (zd 5) (eC (.int 0))) E s5=.ok (decide (cW=0)) s5:=xg (by rw[op2 (x:=.int cW) (y:=.int 0) (vr rfl) rfl,z8t]);by_cases z:cW=0
  ·refine⟨_,_,?_,L5.set hl (xs.set at_.toNat 0),zbI x2 (by lia),by simp[n2]⟩;rw[xn,z1d,t,Rb,_g (by simpa using z),qd];exact z5R (s1:=s5) (s2:=s5) (x:=0) rfl (vr rfl) (vr rfl) L5.at_ a4 (by lia)
  ·refine⟨s5,xs,?_,L5,x2,n2⟩;rw[xn,z1d,t,Rb,_l (by simpa using z)];rfl
 obtain⟨s6,ys,p5,L6,x6,n6⟩:=rR;have rS:∃s7 zs,xk E s6=.ok (.nx E) s7/\LS s l s7 zs/\(∀y∈zs,0<=y/\y<=M)/\zs.length=n:=by
  have t:tOf (eOp dEq (zd 5) (eC (.int 1))) E s6=.ok (decide (cW=1)) s6:=xg (by rw[op2 (x:=.int cW) (y:=.int 1) (vr rfl) rfl,z8t]);by_cases z:cW=1
  ·have nP:to.toNat<ys.length:=by lia
   have ix:=zhG (d:=.int ys[to.toNat]) L6.at_ a5 (by simp[nP]);have my:=x6 ys[to.toNat] (_bv nP);refine⟨_,_,?_,L6.set hl (ys.set at_.toNat ys[to.toNat]),zbI x6 my,by simp[n6]⟩;rw[xk,z1d,t,Rb,_g (by simpa using z),uO];exact z5R (s1:=s6) (s2:=s6) (x:=ys[to.toNat]) (by rw[op2 (x:=.loc s.length) (y:=.int to) (vr rfl) (vr rfl)];exact ix) (vr rfl) (vr rfl) L6.at_ a4 (by lia)
  ·refine⟨s6,ys,?_,L6,x6,n6⟩;rw[xk,z1d,t,Rb,_l (by simpa using z)];rfl
 obtain⟨s7,zs,p7,L7,x7,n7⟩:=rS;have nQ:zs≠[]:=λz=>by rw[z]at n7;simp at n7;lia
 have rT:∃s9 ws,xz E s7=.ok (.nx E) s9/\LS s l s9 ws/\(∀y∈ws,0<=y/\y<=M)/\ws.length=n/\∃x∈ws,0<x:=by
  have t:=zfX (f:=zd 4) (ρ:=E) nQ L7.at_ (vr rfl);by_cases z:maxL zs=0
  ·obtain⟨ra,sa,ea,aa,ba,da⟩:=qH (ρ:=E) (f:=zd 0) (g:=eOp z8d (zd 3) (eC (.int 1))) (far:=far-1) L7.pot (by lia) (Int.lt_trans (by lia:far-1<T39) t39) (vr rfl) (by rw[op2 (x:=.int far) (y:=.int 1) (vr rfl) rfl];rfl);have La:=L7.drawn hl da;refine⟨_,_,?_,La.set hl (zs.set to.toNat (1+ra)),zbI x7 (by lia),by simp[n7],1+ra,List.mem_set (by lia) _,by lia⟩;rw[xz,z1d,t,Rb,_g (by simpa using z),ut];exact z5R (s1:=sa) (s2:=sa) (x:=1+ra) (by rw[vT,z3y,Rb,ea];rfl) (vr rfl) (vr rfl) La.at_ a5 (by lia)
  ·refine⟨s7,zs,?_,L7,x7,n7,z8V nQ (λy hy=>(x7 y hy).1) z⟩;rw[xz,z1d,t,Rb,_l (by simpa using z)];rfl
 obtain⟨s9,ws,p9,L9,x9,n9,w9⟩:=rT;refine⟨ws,s9.take s.length,?_,⟨hsz,n9,λx hx=>(x9 x hx).1,w9⟩,λx hx=>(x9 x hx).2,L9.fin hl⟩
 ·simp only[wy,zfI,Mof,qt,st,_w,_R,_K];rw[zo p1,zo p2,zo p3,zo p4,zo p5,zo p7,zo p9];have c:z1r [.loc s.length] s9=.ok (rD ws) s9:=by simp only[z1r,zU,L9.at_]
  rw[uw,xo,vc (x:=.loc s.length) (vr rfl),c];simp only[Rb];exact zcW
end Pp
namespace Pr
open L2 Dd Pm Pg Pn Po Pp
noncomputable def zjx:List Rl:=[.nx,.le,.al,.tu]
theorem z7z(s:Sto):yJ [] s=.ok (.lst (zjx.map λr=>D.str (nmR r))) s:=by
 have c4:(4:Nat)<=cap:=by decide
 have st:zE [] []=[]:=rfl;simp only[yJ,_g c4];rfl
theorem zhj(n:Nat)(b:Nat):∃k:Nat,(if (if (b:Int)<(n:Int) then (b:Int) else n) > 1 then (if (b:Int)<(n:Int) then (b:Int) else n) else 1)=(k:Int)/\k<=b+1:=by
 by_cases h:(b:Int)<n
 ·rw[_g h];by_cases h2:(b:Int) > 1;·exact⟨b,by rw[_g h2],by lia⟩
  ·exact⟨1,by rw[_l h2];rfl,by lia⟩
 ·rw[_l h];by_cases h2:(n:Int) > 1;·exact⟨n,by rw[_g h2],by lia⟩
  ·exact⟨1,by rw[_l h2];rfl,by lia⟩
end Pr
namespace Po
open L2 Dd Pm Pg Pn
theorem zaS   (r:Rl)(h:LotB n 104 v):∃ls,Run r v ls/\ls.length<=50000:=by
 obtain⟨ls,Rn,ll⟩:=zeC (r:=r) (20*104+3) v h.toLot (zhe (r:=r) h.toLot h.toN);exact⟨ls,Rn,by lia⟩
end Po
namespace bN
open L2 Dd Pm Pg Pn Po Pr Pp Pt
theorem zgH {w:List Int} {b m k:Nat} (hb:b<w.length) (h0:∀x∈w,0<=x):(yF ((zI w b m).take k)).length<=(m+1) ^ (w.length-1):=by
 have cl:=uf w b m;have l7:=z2I (b:=b) (m:=m) h0;by_cases hk:k<w.length
 ·have h2:=z1U ((zI w b m).take k) (k:=m+1) λc hc=>l7 c (_ae hc);have h3:(m+1) ^ ((zI w b m).take k).length<=(m+1) ^ (w.length-1):=_av (by omega) (by simp;omega);omega
 ·rw[_aZ (by omega)];have:=z9P (k:=m+1) (by omega) (zI w b m) l7 b (by rw[cl];exact hb) (by rw[wP hb,_g rfl];simp);rwa [cl]at this
theorem z7X {m:Nat} {w:List Int} {b:Nat} (hm:m<=30) (hp:(m+1) ^ (w.length-1)<=90000) (h4:w.length<=4) (hb:b<w.length) (h0:∀x∈w,0<=x) (h1:∀x∈w,x<=1000) (s:Sto):wV [rD w,.int b,.int m] s=.ok (.lst ((kA w b m).map rD)) s:=by
 have l8:dIx (rD w) (.int b) s=.ok (.int (w.getD b 0)) s:=z4S s hb;have rV:=h0 _ (Pm.getD_mem hb);have rW:=h1 _ (Pm.getD_mem hb);have en:=fun ρ=>zcl (v:=w) (f:=zd 0) (ρ:=ρ) (s:=s);generalize hd:rD w=d at l8 en;have st:zE ["lot","by","most","found","at","number","numbers"] [d,.int b,.int m]=[some d,some (.int b),some (.int m),none,none,none,none]:=rfl;unfold wV Mof kJ;rw[_g (by rfl),st];have t1:tOf (eOp dEq (eOp dIx (zd 0) (zd 1)) (eC (.int 0))) [some d,some (.int b),some (.int m),none,none,none,none] s=.ok (decide (w.getD b 0=0)) s:=by
  refine xg ?_;rw[op2 (x:=.int (w.getD b 0)) (y:=.int 0) (by rw[op2 (x:=d) (y:=.int b) (vr rfl) (vr rfl)];exact l8) rfl,z8t]
 unfold kA;by_cases q:w.getD b 0=0
 ·rw[_g q,z5p (d:=.lst [d]) (s':=s) (by
   rw[vU,z8w (by rw[t1,_aR q]),jJ,xo,kU,zr,vr (d:=d) rfl,Rb,zM];simp[cap])];rw[<- hd];rfl
 ·rw [_l q,zo (ρ':=[some d,some (.int b),some (.int m),none,none,none,none]) (s':=s) (by rw[vU,z9f (by rw[t1,_af q])];rfl)];rw[zo (ρ':=[some d,some (.int b),some (.int m),some (.lst ((yF []).map rD)),none,none,none]) (s':=s) (by
   rw[jA,yn,kU,zr,qo,zM];simp[cap,yF])];have l9:=uf w b m;have l7:=z2I (b:=b) (m:=m) h0;obtain⟨ρ',s',lp,a4,a5,a6,hρ,rfl⟩:=qh (all:=(enP w).map λp=>D.tup [.int ((p.2:Nat):Int),.int p.1]) (body:=λx ρ s=>(qU 4 5 x ρ s).bind fun ρ' s'=>zL wA wz ρ' s') (λi ρ S=>∃a4 a5 a6,ρ=[some d,some (.int b),some (.int m),some (.lst ((yF ((zI w b m).take i)).map rD)),a4,a5,a6]/\S=s) ((enP w).map λp=>D.tup [.int ((p.2:Nat):Int),.int p.1]) 0 (by
   intro i x hx ρ S' ⟨a4,a5,a6,hρ,hS⟩;subst hρ hS;rw[_ay];rw[_Y,_x]at hx;obtain⟨p,hp,rfl⟩:=hx;have hi:i<w.length:=by have:=(_d.mp hp).1;simpa using this
   have ep:p=(w.getD i 0,i):=by
    have:=(_d.mp hp).2;rw[<- this];simp[_F,hi]
   subst ep;have x0:=h0 _ (Pm.getD_mem hi);have x1:=h1 _ (Pm.getD_mem hi);have ci:=wP (b:=b) (most:=m) hi;have ts:=take_snoc (l:=zI w b m) (i:=i) (d:=[]) (by omega);have f5:wA [some d,some (.int b),some (.int m),some (.lst ((yF ((zI w b m).take i)).map rD)),some (.int i),some (.int (w.getD i 0)),a6] S'=.ok (.nx [some d,some (.int b),some (.int m),some (.lst ((yF ((zI w b m).take i)).map rD)),some (.int i),some (.int (w.getD i 0)),some (.lst (iL ((zI w b m).getD i [])))]) S':=by
    rw[wA,yn,zb6,xg (b:=decide (i=b)) (by rw[op2 (x:=.int i) (y:=.int b) (vr rfl) (vr rfl),z8t];congr 2;exact decide_eq_decide.mpr (by omega)),Rb,ci];by_cases z:i=b
    ·rw[_g (by simpa using z),_g z,kU,zr,vr (d:=.int (w.getD i 0)) rfl,Rb,zM];simp[cap]
    ·rw[_l (by simpa using z),_l z,uX (x:=.int (w.getD i 0)) (y:=.int (w.getD b 0)) (z:=.int m) (vr rfl) (by rw[op2 (x:=d) (y:=.int b) (vr rfl) (vr rfl)];exact l8) (vr rfl),zhT _ x0 x1 rV rW (by omega)];rfl
   have f6:wz [some d,some (.int b),some (.int m),some (.lst ((yF ((zI w b m).take i)).map rD)),some (.int i),some (.int (w.getD i 0)),some (.lst (iL ((zI w b m).getD i [])))] S'=.ok (.nx [some d,some (.int b),some (.int m),some (.lst ((yF ((zI w b m).take (i+1))).map rD)),some (.int i),some (.int (w.getD i 0)),some (.lst (iL ((zI w b m).getD i [])))]) S':=by
    have eg:((yF ((zI w b m).take i)).flatMap λa=>((zI w b m).getD i []).map λz=>rD (a++[z]))=(yF ((zI w b m).take (i+1))).map rD:=by
     rw[ts,wC,z99,_dN];simp[_bq]
    have c:=z1v (fi:=wZ (zd 3)) (mp:=[some 6,none,none]) (k1:=1) (k2:=2) (fi2:=wZ (zd 0)) (fe:=eOp xZ (zd 1) (jY (za (zd 2) zn))) (ρ:=[some d,some (.int b),some (.int m),some (.lst ((yF ((zI w b m).take i)).map rD)),some (.int i),some (.int (w.getD i 0)),some (.lst (iL ((zI w b m).getD i [])))]) (s:=S') rD (λ_ z=>D.int z) (yF ((zI w b m).take i)) (λ_=>(zI w b m).getD i []) (λa z=>rD (a++[z])) (wv (vr rfl)) (λa ha=>wv (vr rfl)) (λa ha z hz=>by
      have al:=((uR _ a).mp ha).1;rw[_a4]at al;rw[op2 (x:=rD a) (y:=rD [z]) (vr rfl) (by
       rw[qo,zr,vr (d:=.int z) rfl,Rb,zM];simp[cap]),jq,_g (by simp[cap];omega)];simp) (by
      rw[eg,_B];have:=zgH (b:=b) (m:=m) (k:=i+1) hb h0;unfold cap;omega);rw[eg]at c;rw[wz,yn,c];rfl
   exact⟨_,_,(zo f5).trans f6,_,_,_,rfl,rfl⟩) [some d,some (.int b),some (.int m),some (.lst ((yF []).map rD)),none,none,none] s ⟨none,none,none,by simp,rfl⟩;have ef:(zI w b m).take (0+((enP w).map λp=>D.tup [.int ((p.2:Nat):Int),.int p.1]).length)=zI w b m:=_aZ (by simp[l9]);rw[ef]at hρ;rw[zo (ρ':=ρ') (s':=s') (by
   rw[jz,jU,en _ (vr rfl),Rb];exact lp),hρ];rfl
theorem zhW {m:Nat} {g:List Int} (h4:g.length<=4) (hm:m<=30) (h0:∀x∈g,0<=x) (h1:∀x∈g,x<=1000) (s:Sto):xp [rD g,.int m] s=.ok (.lst ((z8W g m).map rD)) s:=by
  have eg:((List.range g.length).flatMap λi=>(List.range ((m:Int)-g.getD i 0).toNat).map λk=>rD (g.take i++[g.getD i 0+1+((k:Nat):Int)]++g.drop (i+1)))=(z8W g m).map rD:=by
    rw[z8W,_dN];simp[_bq]
  have ol:=zc2 (g:=g) (most:=m) (m:=m) h0 (Int.le_refl _);have c:=z1v (fi:=z5U (za (zh qI (za (zd 0) zn)) zn)) (mp:=[some 0,some 1,none,none]) (k1:=2) (k2:=3) (fi2:=z65 (za (eOp xZ (eOp dIx (zd 0) (zd 2)) (eC (.int 1))) (za (eOp xZ (zd 1) (eC (.int 1))) zn))) (fe:=eOp xZ (eOp xZ (eSl (zd 0) zQ (xK (zd 2))) (jY (za (zd 3) zn))) (eSl (zd 0) (xK (eOp xZ (zd 2) (eC (.int 1)))) zQ)) (ρ:=[some (rD g),some (.int m)]) (s:=s) (λi:Nat=>D.int ((i:Nat):Int)) (λi k=>D.int (g.getD i 0+1+((k:Nat):Int))) (List.range g.length) (λi=>List.range ((m:Int)-g.getD i 0).toNat) (λi k=>rD (g.take i++[g.getD i 0+1+((k:Nat):Int)]++g.drop (i+1))) (z38 (n:=g.length) (s1:=s) (by lia) (by rw[zr,vc (x:=rD g) (vr rfl)];simp[qI,zU])) (λi hi=>by
      have bG:i<g.length:=by simpa using hi
      have x0:=h0 _ (Pm.getD_mem bG);have x1:=h1 _ (Pm.getD_mem bG);rw[zad,zr,op2 (x:=.int (g.getD i 0)) (y:=.int 1) (by rw[op2 (x:=rD g) (y:=.int ((i:Nat):Int)) (vr rfl) (vr rfl)];exact z4S s bG) rfl,jn,Rb,zr,op2 (x:=.int m) (y:=.int 1) (vr rfl) rfl,jn,Rb,zM];simp only[Rb];rw[_g (by lia),show ((m:Int)+1-(g.getD i 0+1)).toNat=((m:Int)-g.getD i 0).toNat by lia];rfl) (λi hi k hk=>by
      have bG:i<g.length:=by simpa using hi
      have a1:eSl (zd 0) zQ (xK (zd 2)) [some (rD g),some (.int m),some (.int i),some (.int (g.getD i 0+1+(k:Int)))] s=.ok (rD (g.take i)) s:=by
        have:=z5Z (iL g) i s;simp only[z2j,vr (d:=rD g) (i:=0) (ρ:=[some (rD g),some (.int m),some (.int i),some (.int (g.getD i 0+1+(k:Int)))]) rfl,Rb,xW,uV,xV,_q,_p];rw[this,<- List.map_take]
      have a2:eSl (zd 0) (xK (eOp xZ (zd 2) (eC (.int 1)))) zQ [some (rD g),some (.int m),some (.int i),some (.int (g.getD i 0+1+(k:Int)))] s=.ok (rD (g.drop (i+1))) s:=by
        have:=z1O (iL g) (i+1) s;rw[show (((i+1:Nat):Nat):Int)=(i:Int)+1 by simp]at this;simp only[z2j,vr (d:=rD g) (i:=0) (ρ:=[some (rD g),some (.int m),some (.int i),some (.int (g.getD i 0+1+(k:Int)))]) rfl,Rb,xW,uV,xV,vT,z3y,jn,_q,_p];rw[this,<- _bW]
      have a3:jY (za (zd 3) zn) [some (rD g),some (.int m),some (.int i),some (.int (g.getD i 0+1+(k:Int)))] s=.ok (rD [g.getD i 0+1+(k:Int)]) s:=by
        rw[qo,zr,vr (d:=.int (g.getD i 0+1+(k:Int))) rfl,Rb,zM];simp[cap]
      have a4:eOp xZ (eSl (zd 0) zQ (xK (zd 2))) (jY (za (zd 3) zn)) [some (rD g),some (.int m),some (.int i),some (.int (g.getD i 0+1+(k:Int)))] s=.ok (rD (g.take i++[g.getD i 0+1+(k:Int)])) s:=by rw[op2 a1 a3,jq,_g (by simp[cap];lia),<- _b1]
      have a5:=op2 (o:=xZ) a4 a2;rw[jq,_g (by simp[cap];lia),<- _b1]at a5;exact a5)
    (by rw[eg,_B];have:(120:Nat)<=cap:=by decide
        have:=_db h4 hm;omega);rw[eg]at c;have key:∀(d e X:D),jR (z5U (za (zh qI (za (zd 0) zn)) zn)) [some 0,some 1,none,none] 2 3 (z65 (za (eOp xZ (eOp dIx (zd 0) (zd 2)) (eC (.int 1))) (za (eOp xZ (zd 1) (eC (.int 1))) zn))) (eOp xZ (eOp xZ (eSl (zd 0) zQ (xK (zd 2))) (jY (za (zd 3) zn))) (eSl (zd 0) (xK (eOp xZ (zd 2) (eC (.int 1)))) zQ)) [some d,some e] s=.ok X s->xp [d,e] s=.ok X s:=λd e X hX=>by
    have st:zE ["lot","most"] [d,e]=[some d,some e]:=rfl;simp only[xp,Mof,qu,st,_w,_R,_K];rw[qc,xo,hX];rfl
  exact key _ _ _ c
theorem zdo {n m:Nat} {g:List Int} (h:Lot n g) (hm:m<=30) (hp:(m+1) ^ (n-1)<=90000) (hg:∀x∈g,x<=1000) (r:Rl) (s:Sto):wx [.str (nmR r),rD g,.int m] s=.ok (.lst ((ahead r g m).map rD)) s:=by
 have l4:=h.le4;have hl:=h.len;have e1:=zbc r s;have e2:=zkU r s;have mx:=kS s h.ne;have gW:(m+1) ^ (g.length-1)<=90000:=by rw[hl];exact hp
 have u1:=z7X (w:=g.drop (g.length-1)++g.take (g.length-1)) (b:=0) hm (by rw[vK];exact gW) (by rw[vK];omega) (by rw[vK];omega) (jg h).nn (λx hx=>hg x (z1N.mp hx)) s;have u2:=z7X (w:=g) (b:=g.idxOf (maxL g)) hm gW (by omega) (z1g (maxL_mem h.ne)).1 h.nn hg s;have u3:=zhW (m:=m) (by omega) hm h.nn hg s;have cD:r≠.tu->r≠.al->ahead r g m=z8W g m:=λa b=>by cases r<;>first | rfl | exact absurd rfl a | exact absurd rfl b
 have s1:eOp xZ (eSl (zd 1) (xK (z49 (eC (.int 1)))) zQ) (eSl (zd 1) zQ (xK (z49 (eC (.int 1))))) [some (.str (nmR r)),some (rD g),some (.int m)] s=.ok (rD (g.drop (g.length-1)++g.take (g.length-1))) s:=by
  have ne:=h.ne;obtain⟨ps,q,rfl⟩:∃pre x,g=pre++[x]:=⟨g.dropLast,g.getLast ne,(_bz ne).symm⟩;have k1:=zf7 ps q s;have k2:=zf6 ps q s;rw[op2 (x:=rD [q]) (y:=rD ps) (by
   simp only[z2j,vr (d:=rD (ps++[q])) (i:=1) (ρ:=[some (.str (nmR r)),some (rD (ps++[q])),some (.int m)]) rfl,Rb,xW,uV,z7d,z3y];exact k1) (by
   simp only[z2j,vr (d:=rD (ps++[q])) (i:=1) (ρ:=[some (.str (nmR r)),some (rD (ps++[q])),some (.int m)]) rfl,Rb,xW,uV,z7d,z3y];exact k2),jq,_g (by simp[cap]at *;omega)];simp
 have s2:zc0 (zd 1) (zh yT (za (zd 1) zn)) [some (.str (nmR r)),some (rD g),some (.int m)] s=.ok (.int ((g.idxOf (maxL g):Nat):Int)) s:=z7h (vr rfl) (by rw[vc (x:=rD g) (vr rfl)];exact mx) (maxL_mem h.ne);have st:zE ["rule","lot","most"] [.str (nmR r),rD g,.int m]=[some (.str (nmR r)),some (rD g),some (.int m)]:=rfl;unfold wx Mof qq;rw[_g (by rfl),st];have t1:tOf (eOp dEq (zd 0) (eC (.str "turn"))) [some (.str (nmR r)),some (rD g),some (.int m)] s=.ok (decide (r=.tu)) s:=xg (by rw[op2 (x:=.str (nmR r)) (y:=.str "turn") (vr rfl) rfl];exact e1);have t2:tOf (eOp dEq (zd 0) (eC (.str "all"))) [some (.str (nmR r)),some (rD g),some (.int m)] s=.ok (decide (r=.al)) s:=xg (by rw[op2 (x:=.str (nmR r)) (y:=.str "all") (vr rfl) rfl];exact e2);by_cases z1:r=.tu;·rw[z5p (d:=.lst ((ahead r g m).map rD)) (s':=s) (by
   rw[wE,z8w (by rw[t1,_aR z1]),uQ,xo,uX (x:=rD (g.drop (g.length-1)++g.take (g.length-1))) (y:=.int ((0:Nat):Int)) (z:=.int m) s1 rfl (vr rfl),u1,z1];rfl)]
 ·rw[zo (ρ':=[some (.str (nmR r)),some (rD g),some (.int m)]) (s':=s) (by rw[wE,z9f (by rw[t1,_af z1])];rfl)];by_cases z2:r=.al;·rw[z5p (d:=.lst ((ahead r g m).map rD)) (s':=s) (by
    rw[wQ,z8w (by rw[t2,_aR z2]),qa,xo,uX (x:=rD g) (y:=.int ((g.idxOf (maxL g):Nat):Int)) (z:=.int m) (vr rfl) s2 (vr rfl),u2,z2];rfl)]
  ·rw[zo (ρ':=[some (.str (nmR r)),some (rD g),some (.int m)]) (s':=s) (by rw[wQ,z9f (by rw[t2,_af z2])];rfl),cD z1 z2,uB,xo,call2 (x:=rD g) (y:=.int m) (vr rfl) (vr rfl),u3];rfl
theorem og0(all:List D)(s:Sto):okG [] all s:=by intro p hp;simp at hp
theorem zgN {n:Nat} {v g:List Int} (r:Rl) (h:LotB n 10 v) (s:Sto):vM [.str (nmR r),rD v,rD g] s=.ok (.bl (!ended v&&decide (stp r v=g))) s:=by
 have st:zE ["rule","ahead","lot"] [.str (nmR r),rD v,rD g]=[some (.str (nmR r)),some (rD v),some (rD g)]:=rfl;unfold vM z5w z06;rw[_g (by rfl),st,jk,xo,zjl,zhd,vc (x:=rD v) (vr rfl),kN.ok (wF h.toLot s),Rb];cases he:ended v with
 | true=>rfl | false=>
  simp only[Rb,_dg,Bool.true_and];rw[op2 (x:=rD (stp r v)) (y:=rD g) (by rw[call2 (x:=.str (nmR r)) (y:=rD v) (vr rfl) (vr rfl)];exact le_step.ok (z53 r h he (by decide) s)) (vr rfl),zfK];rfl
section
variable {n m:Nat}{g:List Int}(hm:m<=30)(r:Rl)
include hm
theorem zif {v:List Int} (hv:Lot n v) {F:List (List Int)} (hF:F.length<=1000) (s:Sto): (zL xb yG) (E5 (some (.str (nmR r))) (some (rD g)) (some (.int m)) (some (.loc s.length)) (some (rD v))) (s++[F.map rD]) = if (F++[v].filter (cms r g m)).length<=1000 then .ok (.nx (E5 (some (.str (nmR r))) (some (rD g)) (some (.int m)) (some (.loc s.length)) (some (rD v)))) (s++[(F++[v].filter (cms r g m)).map rD]) else .ex "TooMany" (s++[(F++[v].filter (cms r g m)).map rD]):=by
 have mx:yT [rD v] (s++[F.map rD])=.ok (.int (maxL v)) (s++[F.map rD]):=kS (s++[F.map rD]) hv.ne;have cm:maxL v<=(m:Int)->vM [.str (nmR r),rD v,rD g] (s++[F.map rD])=.ok (.bl (!ended v&&decide (stp r v=g))) (s++[F.map rD]):=λq=>zgN r (Lot.small hv (by omega) q) _;have fl:(rD v).flat=true:=by simp[D.flat,xN]
 have t7:∀(G:List D) (d e f:D),yG (E5 (some d) (some e) (some (.int m)) (some (.loc s.length)) (some f)) (s++[G])=if G.length<=1000 then .ok (.nx (E5 (some d) (some e) (some (.int m)) (some (.loc s.length)) (some f))) (s++[G]) else .ex "TooMany" (s++[G]):=λG d e f=>by
  have t:tOf (eOp dGt (zh qI (za (zd 3) zn)) (eC (.int 1000))) (E5 (some d) (some e) (some (.int m)) (some (.loc s.length)) (some f)) (s++[G])=.ok (decide (1000<G.length)) (s++[G]):=xg (by
   rw[op2 (x:=.int (G.length:Int)) (y:=.int 1000) (by rw[vc (x:=.loc s.length) (vr rfl)];simp[qI,zU]) rfl];simp;omega);by_cases q:G.length<=1000
  ·rw[_g q,yG,z9f (by rw[t,_af (by omega)])];rfl
  ·rw[_l q,yG,z8w (by rw[t,_aR (by omega)])];rfl
 have hl:(F.map rD).length=F.length:=by simp
 have ap:(F++[v]).map rD=F.map rD++[rD v]:=by simp
 by_cases q:cms r g m v=true
 ·have e1:[v].filter (cms r g m)=[v]:=by simp[q]
  rw[e1,ap];have ln:(F++[v]).length=(F.map rD++[rD v]).length:=by simp
  rw[ln];simp only[cms,_L,_s]at q;have cm:=cm q.1;have hc:(!ended v&&decide (stp r v=g))=true:=by simp[q.2.1,q.2.2]
  rw[hc]at cm;generalize F.map rD=X at *;generalize rD v=d at *;generalize rD g=gd at *;rw[zo (ρ':=E5 (some (.str (nmR r))) (some gd) (some (.int m)) (some (.loc s.length)) (some d)) (s':=s++[X++[d]]) (by
   rw[xb,z8w (by
    rw[z1X,xg (b:=true) (by rw[op2 (x:=.int (maxL v)) (y:=.int m) (by rw[vc (x:=d) (vr rfl)];exact mx) (vr rfl),ziA,_aR q.1]),Rb,_g rfl];exact xg (by rw[uX (x:=.str (nmR r)) (y:=d) (z:=gd) (vr rfl) (vr rfl) (vr rfl)];exact cm))];refine LeS.calm _ _ _ _ ?_;rw[z1I,qe,zbv,vr (d:=.loc s.length) rfl,Rb];simp only;rw[vr (d:=d) rfl,Rb];have gt:(s++[X])[s.length]? = some X:=by simp
   rw[gt];simp only;rw[_g ⟨fl,by simp[cap];omega⟩,z9R];rfl)];exact t7 _ _ _ _
 ·have e1:[v].filter (cms r g m)=[]:=by simp[q]
  rw[e1,_bn];rw[<- hl];simp only[cms,_L,_s]at q;have k:maxL v<=(m:Int)->(!ended v&&decide (stp r v=g))=false:=λz=>by cases hc:(!ended v&&decide (stp r v=g)) with
   | false=>rfl | true=>exact absurd ⟨z,by simpa using hc⟩ q
  generalize (!ended v&&decide (stp r v=g))=bb at *;generalize F.map rD=X at *;generalize rD v=d at *;generalize rD g=gd at *;rw[zo (ρ':=E5 (some (.str (nmR r))) (some gd) (some (.int m)) (some (.loc s.length)) (some d)) (s':=s++[X]) (by
   rw[xb,z9f (by
    rw[z1X,xg (b:=decide (maxL v<=(m:Int))) (by rw[op2 (x:=.int (maxL v)) (y:=.int m) (by rw[vc (x:=d) (vr rfl)];exact mx) (vr rfl),ziA]),Rb];by_cases z:maxL v<=(m:Int)
    ·rw[_g (by simpa using z)];exact xg (by rw[uX (x:=.str (nmR r)) (y:=d) (z:=gd) (vr rfl) (vr rfl) (vr rfl),cm z,k z])
    ·rw[_l (by simpa using z)])];rfl)];exact t7 _ _ _ _
noncomputable abbrev bdy:D->Ev->Sto->R Fl:=λx ρ s=>(qZ 4 x ρ s).bind fun ρ' s'=>zL xb yG ρ' s'
theorem zeL{all:List D}(s:Sto):∀(xs F:List (List Int))(a4:Option D),(∀v∈xs,Lot n v)->F.length<=1000-> (∃b4,(F++xs.filter (cms r g m)).length<=1000/\ui [] all bdy (xs.map rD) (E5 (some (.str (nmR r))) (some (rD g)) (some (.int m)) (some (.loc s.length)) a4) (s++[F.map rD])=.ok (.nx (E5 (some (.str (nmR r))) (some (rD g)) (some (.int m)) (some (.loc s.length)) b4)) (s++[(F++xs.filter (cms r g m)).map rD])) \/ ∃t,1000<(F++xs.filter (cms r g m)).length/\ui [] all bdy (xs.map rD) (E5 (some (.str (nmR r))) (some (rD g)) (some (.int m)) (some (.loc s.length)) a4) (s++[F.map rD])=.ex "TooMany" (s++[t])
 | [],F,a4,_,hF=>.inl ⟨a4,by simpa using hF,by rw[_dW,ui,_g (og0 _ _)];simp⟩ | v::xs,F,a4,hx,hF=>by
  have t:=zif (g:=g) hm r (hx v (.head _)) hF s;have fe:(v::xs).filter (cms r g m)=[v].filter (cms r g m)++xs.filter (cms r g m):=by rw[<- List.filter_append];rfl
  have b:bdy (rD v) (E5 (some (.str (nmR r))) (some (rD g)) (some (.int m)) (some (.loc s.length)) a4) (s++[F.map rD])=(zL xb yG) (E5 (some (.str (nmR r))) (some (rD g)) (some (.int m)) (some (.loc s.length)) (some (rD v))) (s++[F.map rD]):=rfl;rw[fe,<- _aa,_H,ui,_g (og0 _ _),b,t];by_cases q:(F++[v].filter (cms r g m)).length<=1000
  ·rw[_g q,Rb];exact zeL s xs _ (some (rD v)) (λw hw=>hx w (.tail _ hw)) q
  ·rw[_l q];exact .inr ⟨_,by rw[_ab];omega,rfl⟩
end
theorem zm3 {n m:Nat} {g:List Int} (h:Lot n g) (bS:1<=m) (hm:m<=30) (hp:(m+1) ^ (n-1)<=90000) (hg:∀x∈g,x<=1000) (r:Rl) (s:Sto): (((ahead r g m).filter (cms r g m)).length<=1000/\∃t,vO [.str (nmR r),rD g,.int m] s=.ok (.lst ((qj lexN ((ahead r g m).filter (cms r g m))).map rD)) (s++[t])) \/ (1000<((ahead r g m).filter (cms r g m)).length/\∃t,vO [.str (nmR r),rD g,.int m] s=.ex "TooMany" (s++[t])):=by
 have w1:=z2s.ok (z0W r h s);have w2:=Pt.z2c.ok (z2M (x:=((m:Nat):Int)) (a:=1) (b:=30) (by omega) (by omega) s);have ah:=zdo h hm hp hg r (s++[[]]);have al:∀a∈ahead r g m,Lot n a:=λa ha=>by
  have l4:=h.le4;cases r with
  | tu=>exact jx (jg h) (by rw[vK];omega) a ha | al=>exact jx h (z1g (maxL_mem h.ne)).1 a ha | nx=>exact z0x h a ha | le=>exact z0x h a ha
 have lp:=zeL (g:=g) hm r (all:=(ahead r g m).map rD) s (ahead r g m) [] none al (by simp);simp only[_b2,_dW]at lp;have st:∀gd:D,zE ["rule","lot","most","found","ahead"] [.str (nmR r),gd,.int m]=E5 (some (.str (nmR r))) (some gd) (some (.int m)) none none:=λ_=>rfl;have nR:∀(gd:D) (R':R D),zY [.str (nmR r),gd] s=.ok .non s->(match (zL xX vt) (E5 (some (.str (nmR r))) (some gd) (some (.int m)) (some (.loc s.length)) none) (s++[[]]) with | .ok (.rt d) s'=>R.ok d s' | .ok (.nx _) s'=>.ok .non s' | .ex c s'=>.ex c s' | _=>.no)=R'->vO [.str (nmR r),gd,.int m] s=R':=λgd R' w1 hR=>by
  simp only[vO,z5w,z1y,st,_w,_R,_K];rw[zo (ρ':=E5 (some (.str (nmR r))) (some gd) (some (.int m)) none none) (s':=s) (by rw[z03,qe,call2 (x:=.str (nmR r)) (y:=gd) (vr rfl) (vr rfl),w1];rfl)];rw[zo (ρ':=E5 (some (.str (nmR r))) (some gd) (some (.int m)) none none) (s':=s) (by rw[kX,qe,uX (x:=.int m) (y:=.int 1) (z:=.int 30) (vr rfl) rfl rfl,w2];rfl)];rw[zo (ρ':=E5 (some (.str (nmR r))) (some gd) (some (.int m)) (some (.loc s.length)) none) (s':=s++[[]]) (LeS.calm _ _ _ _ (by
   rw[z1f,yn,zbk,zM];simp only[Rb];rw[_g ⟨by simp[cap],rfl⟩];rfl))];rw[<- hR]<;>(generalize (zL xX vt) (E5 (some (.str (nmR r))) (some gd) (some (.int m)) (some (.loc s.length)) none) (s++[[]])=Zq;rfl)
 rcases lp with⟨b4,hl,lp⟩ | ⟨t,hl,lp⟩
 ·have tu:=jP ((ahead r g m).filter (cms r g m));have gs:z5g [.loc s.length] (s++[((ahead r g m).filter (cms r g m)).map rD])=.ok (.lst ((qj lexN ((ahead r g m).filter (cms r g m))).map rD)) (s++[((ahead r g m).filter (cms r g m)).map rD]):=by
   simp only[z5g,z5k,Dd.listOf,List.getElem?_concat_length,tu];rw[_g (_aC.mpr λx hx=>by have:=(al x (_bZ.mp hx).1).ne;cases x<;>simp_all)]
  refine .inl ⟨hl,((ahead r g m).filter (cms r g m)).map rD,nR _ _ w1 ?_⟩;generalize (qj lexN ((ahead r g m).filter (cms r g m))).map rD=Yy at *;generalize ((ahead r g m).filter (cms r g m)).map rD=X at *;generalize (ahead r g m).map rD=A at *;generalize rD g=gd at *;rw[zo (by
   rw[xX,jU,wv (xs:=A) (by rw[uX (x:=.str (nmR r)) (y:=gd) (z:=.int m) (vr rfl) (vr rfl) (vr rfl)];exact ah),Rb];exact lp),vt,xo,vc (x:=.loc s.length) (vr rfl),gs];rfl
 ·refine .inr ⟨hl,t,nR _ _ w1 ?_⟩;generalize ((ahead r g m).filter (cms r g m)).map rD=X at *;generalize (ahead r g m).map rD=A at *;generalize rD g=gd at *;rw[ziE (by
   rw[xX,jU,wv (xs:=A) (by rw[uX (x:=.str (nmR r)) (y:=gd) (z:=.int m) (vr rfl) (vr rfl) (vr rfl)];exact ah),Rb];exact lp)]
noncomputable abbrev due(r:Rl)(g:List Int)(m:Nat):List (List Int):=qj lexN ((ahead r g m).filter (cms r g m))
section
variable {n m:Nat}{g:List Int}(h:Lot n g)(bS:1<=m)(hm:m<=30)(hg:∀x∈g,x<=1000)(r:Rl)
include h bS hm hg
theorem zdU (s:Sto): (((ahead r g m).filter (cms r g m)).length<=1000/\∃t,zD [.str (nmR r),rD g,.int m] s=.ok (.lst ((due r g m).map rD)) (s++[t])) \/ (1000<((ahead r g m).filter (cms r g m)).length/\∃t,zD [.str (nmR r),rD g,.int m] s=.ok .non (s++[t])):=by
 have hp:(m+1) ^ (n-1)<=90000:=by
  have l4:=h.sz;have h1:(m+1) ^ (n-1)<=31 ^ (n-1):=Nat.pow_le_pow_left (by omega) _;have h2:31 ^ (n-1)<=31 ^ 3:=_av (by decide) (by unfold Sz at l4;omega);have h3:(31:Nat) ^ 3=29791:=by decide
  omega
 have st:∀d e f:D,zE ["_law_rule","_law_lot_here","_law_most","_law_found"] [d,e,f]=[some d,some e,some f,none]:=λ_ _ _=>rfl;have key:∀(d e f:D) (b:D) (s':Sto),yx [some d,some e,some f,some .non] s=.ok (.nx [some d,some e,some f,some b]) s'->zD [d,e,f] s=.ok b s':=λd e f b s' h2=>by
  simp only[zD,Mof,wJ,st,_w,_R,_K];rw[zo (ρ':=[some d,some e,some f,some .non]) (s':=s) (by rw[wg,yn];rfl),zo h2];rfl
 have ma:∀(d e f:D) (s':Sto),yx [some d,some e,some f,some .non] s=.ok (.nx [none,none,none,some .non]) s'->zD [d,e,f] s=.ok .non s':=λd e f s' h2=>by
  simp only[zD,Mof,wJ,st,_w,_R,_K];rw[zo (ρ':=[some d,some e,some f,some .non]) (s':=s) (by rw[wg,yn];rfl),zo h2];rfl
 rcases zm3 h bS hm hp hg r s with⟨h1,t,e⟩ | ⟨h1,t,e⟩
 ·refine .inl ⟨h1,t,key _ _ _ _ _ ?_⟩;generalize (due r g m).map rD=Yy at *;generalize rD g=gd at *;rw[yx];unfold zbs;rw[show yy [some (.str (nmR r)),some gd,some (.int m),some .non] s=.ok (.nx [some (.str (nmR r)),some gd,some (.int m),some (.lst Yy)]) (s++[t]) from by
   rw[yy,yn,uX (x:=.str (nmR r)) (y:=gd) (z:=.int m) (vr rfl) (vr rfl) (vr rfl),e];rfl]
 ·refine .inr ⟨h1,t,ma _ _ _ _ ?_⟩;generalize rD g=gd at *;rw[yx];unfold zbs;rw[show yy [some (.str (nmR r)),some gd,some (.int m),some .non] s=.ex "TooMany" (s++[t]) from by
   rw[yy,yn,uX (x:=.str (nmR r)) (y:=gd) (z:=.int m) (vr rfl) (vr rfl) (vr rfl),e];rfl];rfl
end
theorem zbJ{n m:Nat}{g:List Int}{r:Rl}(h:Lot n g){v:List Int}:v∈due r g m ↔ v∈ahead r g m/\maxL v<=(m:Int)/\ended v=false/\stp r v=g:=by
 rw[(wB lexN _).mem_iff,_bZ];simp[cms]
theorem z2u{n m:Nat}{g:List Int}{r:Rl}(h:Lot n g):∀a∈ahead r g m,Lot n a:=λa ha=>by
 have l4:=h.le4;have hl:=h.len;cases r with
 | tu=>exact jx (jg h) (by rw[vK];omega) a ha | al=>exact jx h (z1g (maxL_mem h.ne)).1 a ha | nx=>exact z0x h a ha | le=>exact z0x h a ha
theorem zcn{n m:Nat}{g:List Int}{r:Rl}(h:Lot n g):(ahead r g m).Nodup:=by cases r with
 | tu=>exact (z7H (jg h).nn).nodup | al=>exact (z7H h.nn).nodup | nx=>exact zaB | le=>exact zaB
theorem zja{n m:Nat}{g:List Int}{r:Rl}(h:Lot n g):(due r g m).Nodup:=(wB lexN _).nodup_iff.mpr ((zcn h).filter _)
theorem zgE{m:Nat}{g:List Int}{r:Rl}:(due r g m).length=((ahead r g m).filter (cms r g m)).length:=(wB lexN _).length_eq
theorem zcO{m:Nat}{g:List Int}{r:Rl}:qj lexN (due r g m)=due r g m:=z0E xQ (List.Perm.refl _) (z9J _)
theorem z6O{n a b:Nat}{v:List Int}(h:LotB n a v)(nS:a<=b):LotB n b v:=⟨h.toLot,λx hx=>Int.lt_of_lt_of_le (h.2 x hx) (by
 have:(2:Nat) ^ a<=2 ^ b:=_av (by decide) nS;exact_mod_cast this)⟩
theorem zkc{L:List (List Int)}{f:FE}{ρ:Ev}{s:Sto}(ne:∀x∈L,x≠[])(hl:L.length<=1000)(nd:L.Nodup)(so:qj lexN L=L)(hf:f ρ s=.ok (.lst (L.map rD)) s):eSU f ρ s=.ok (.lst (L.map rD)) s:=by
 have e:zaj s (.lst (L.map rD))=some L:=by
  unfold zaj;simp only[Dd.listOf];rw[jP L];simp only;rw[_g ⟨_aC.mpr λx hx=>by have:=ne x hx;cases x<;>simp_all,hl,nd⟩,so]
 unfold eSU;rw[hf,Rb,e]
theorem zln{L:List (List Int)}{v:List Int}(hv:v∈L)(s:Sto):zh9 true (rD v) (.lst (L.map rD)) s=.ok (.bl false) s:=by
 unfold zh9;rw[z6W v];simp only[zU,_U];rw[jP L];have:(L.any λns=>decide (ns=v))=true:=_cK.mpr ⟨v,hv,by simp⟩;simp[this]
noncomputable abbrev R6(a0 a1 a2 a3 a4 a5:Option D):Ev:=[a0,a1,a2,a3,a4,a5]
theorem zlo {dr dv dg dw Yy:D} {lw:List D} {a b:Int} {s:Sto} (hA:wq [dw] s=.ok (.bl true) s) (hB:yT [dw] s=.ok (.int a) s) (nS:a<=b) (hC:M_step [dr,dw] s=.ok dg s) (rX:dNe dg dg s=.ok (.bl false) s) (h1:z27 (zh M_run (za (zd 0) (za (zd 5) zn))) (R6 (some dr) (some dv) (some (.int b)) (some dg) (some Yy) (some dw)) s=.ok (.lst (dw::lw)) s) (h2:z27 (zh M_run (za (zd 0) (za (zd 3) zn))) (R6 (some dr) (some dv) (some (.int b)) (some dg) (some Yy) (some dw)) s=.ok (.lst lw) s) (lc:lw.length<cap) (hD:dNe (.lst (dw::lw)) (.lst (dw::lw)) s=.ok (.bl false) s): yS (R6 (some dr) (some dv) (some (.int b)) (some dg) (some Yy) (some dw)) s=.ok (.nx (R6 (some dr) (some dv) (some (.int b)) (some dg) (some Yy) (some dw))) s:=by
 rw [yS,z9f (zbm (zd2 (xg (by rw[vc (x:=dw) (vr rfl)];exact hA))) (zbm (xg (b:=false) (by
  rw[op2 (x:=.int a) (y:=.int b) (by rw[vc (x:=dw) (vr rfl)];exact hB) (vr rfl)];simp;omega)) (zbm (xg (b:=false) (by
  rw[op2 (x:=dg) (y:=dg) (by rw[call2 (x:=dr) (y:=dw) (vr rfl) (vr rfl)];exact hC) (vr rfl)];exact rX)) (xg (b:=false) (by
  rw[op2 (x:=.lst (dw::lw)) (y:=.lst (dw::lw)) h1 (by
   rw[op2 (x:=.lst [dw]) (y:=.lst lw) (by
    rw[kU,zr,vr (d:=dw) rfl,Rb,zM];simp[cap]) h2,zed,_g (by simp;omega)];rfl)];exact hD)))))];rfl
section
variable {n m:Nat}{v:List Int}(hv:Lot n v)(he:ended v=false)(bS:1<=m)(hm:m<=30)(hx:∀x∈v,x<=(m:Int))(r:Rl)
include hv he bS hm hx
theorem zfc (s:Sto):∃t,yK [.str (nmR r),rD v,.int m] s=.ok (.bl true) (s++[t]):=by
 have hB:LotB n 10 v:=Lot.small hv (by omega) (hx _ (maxL_mem hv.ne));have hg:Lot n (stp r v):=hv.step r he;have gx:∀x∈stp r v,x<=(m:Int):=z84 r hv he hx;have nT:LotB n 10 (stp r v):=Lot.small hg (by omega) (gx _ (maxL_mem hg.ne));have e1:∀s,M_step [.str (nmR r),rD v] s=.ok (rD (stp r v)) s:=λs=>z53 r hB he (by decide) s;have g2:=λs=>ne_self (d:=rD (stp r v)) (k:=1) (z7S 0 _) (by decide) s;obtain⟨lg,Rg,_⟩:=zaS r (z6O nT (by decide));have cm:=zdU hg bS hm (λx h=>by have:=gx x h;omega) r s;have rY:=zbJ (m:=m) (r:=r) hg (v:=v);have dm:=λw=>zbJ (m:=m) (r:=r) hg (v:=w);have lo:=z2u (m:=m) (r:=r) hg;have dn:=zja (m:=m) (r:=r) hg;have dl:=zgE (m:=m) (r:=r) (g:=stp r v);have ds:=zcO (m:=m) (r:=r) (g:=stp r v);have rZ:v∈due r (stp r v) m:=rY.mpr ⟨zbB hv he hx rfl,hx _ (maxL_mem hv.ne),he,rfl⟩;have one:∀w∈due r (stp r v) m,∀(Yy:D) (S:Sto),yS (R6 (some (.str (nmR r))) (some (rD v)) (some (.int m)) (some (rD (stp r v))) (some Yy) (some (rD w))) S=.ok (.nx (R6 (some (.str (nmR r))) (some (rD v)) (some (.int m)) (some (rD (stp r v))) (some Yy) (some (rD w)))) S:=λw hw Yy S=>by
  obtain⟨w1,w2,w3,w4⟩:=(dm w).mp hw;have hw:=lo w w1;have md:LotB n 10 w:=Lot.small hw (by omega) w2;obtain⟨lw,Rw,mf⟩:=zaS r (z6O md (by decide));cases Rw with
  | done z=>rw[w3]at z;cases z | step z R2=>
   rename_i ls;rw[w4]at R2;have ll:ls.length<cap:=by simp at mf;unfold cap;omega
   refine zlo (z7I hw S) (kS S hw.ne) w2 (by rw[z53 r md w3 (by decide) S,w4]) (g2 S) (lw:=ls.map rD) ?_ ?_ (by simpa using ll) ?_;·exact z6d r md (.step w3 (by rw[w4];exact R2)) (by decide) mf (vr rfl) (vr rfl)
   ·exact z6d r nT R2 (by decide) (by simp at mf;omega) (vr rfl) (vr rfl)
   ·exact ne_self (k:=2) (z9k 0 (w::ls)) (by decide) S
 have st:∀d e f:D,zE ["_law_rule","_law_lot_here","_law_most","_law_later","_law_some","_law_one"] [d,e,f]=R6 (some d) (some e) (some f) none none none:=λ_ _ _=>rfl;generalize stp r v=g at *;have q1:∀(S:Sto),vx (R6 (some (.str (nmR r))) (some (rD v)) (some (.int m)) none none none) S=.ok (.nx (R6 (some (.str (nmR r))) (some (rD v)) (some (.int m)) (some (rD g)) none none)) S:=λS=>by
  have:=e1 S;generalize rD v=vd at *;generalize rD g=gd at *;rw[vx,yn,call2 (x:=.str (nmR r)) (y:=vd) (vr rfl) (vr rfl),this];rfl
 have q2:∀(b:D) (S':Sto),zD [.str (nmR r),rD g,.int m] s=.ok b S'->vA (R6 (some (.str (nmR r))) (some (rD v)) (some (.int m)) (some (rD g)) none none) s=.ok (.nx (R6 (some (.str (nmR r))) (some (rD v)) (some (.int m)) (some (rD g)) (some b) none)) S':=λb S' e=>by
  generalize rD v=vd at *;generalize rD g=gd at *;rw[vA,yn,uX (x:=.str (nmR r)) (y:=gd) (z:=.int m) (vr rfl) (vr rfl) (vr rfl),e];rfl
 rcases cm with⟨c1,t,e⟩ | ⟨_,t,e⟩<;>refine⟨t,?_⟩<;>generalize s++[t]=S' at e ⊢
 ·have i5:=zln rZ S';have s5:∀ ρ:Ev,ρ[4]? = some (some (.lst ((due r g m).map rD)))->eSU (zd 4) ρ S'=.ok (.lst ((due r g m).map rD)) S':=fun ρ hρ=>zkc (λx hx=>(lo x ((dm x).mp hx).1).ne) (by rw[dl];exact c1) dn ds (vr hρ);have n5:=ne_self (d:=.lst ((due r g m).map rD)) (k:=2) (z9k 0 _) (by decide) S';have mem:∀x∈(due r g m).map rD,∃w∈due r g m,x=rD w:=λx hx=>by
   obtain⟨w,hw,rfl⟩:=_E.mp hx;exact⟨w,hw,rfl⟩
  have len:((due r g m).map rD).length<=1000:=by rw[_B,dl];exact c1
  have e2:=q2 _ _ e;generalize (due r g m).map rD=Yy at *;have q3:xR (R6 (some (.str (nmR r))) (some (rD v)) (some (.int m)) (some (rD g)) (some (.lst Yy)) none) S'=.ok (.nx (R6 (some (.str (nmR r))) (some (rD v)) (some (.int m)) (some (rD g)) (some (.lst Yy)) none)) S':=by
   rw[xR,z9f (xg (b:=false) (by rw[op2 (x:=.lst Yy) (y:=.non) (vr rfl) rfl];rfl))];rfl
  have q5:vz (R6 (some (.str (nmR r))) (some (rD v)) (some (.int m)) (some (rD g)) (some (.lst Yy)) none) S'=.ok (.nx (R6 (some (.str (nmR r))) (some (rD v)) (some (.int m)) (some (rD g)) (some (.lst Yy)) none)) S':=by
   rw[vz,z9f (zbm (xg (b:=false) (by rw[op2 (x:=rD v) (y:=.lst Yy) (vr rfl) (vr rfl)];exact i5)) (xg (b:=false) (by rw[op2 (x:=.lst Yy) (y:=.lst Yy) (vr rfl) (s5 _ rfl)];exact n5)))];rfl
  have cut:∀lo hi,∀x∈Dd.cutD Yy lo hi,x∈Yy:=λlo hi x hx=>List.mem_of_mem_drop (_ae hx);have ik:∀lo hi,(Dd.cutD Yy lo hi).length<=1000:=λlo hi=>_al (by unfold Dd.cutD;rw[_a4,_cy];omega) len;obtain⟨ρ',s2,lp,a5,hρ,hs⟩:=z0D (all:=Dd.cutD Yy none (some 20)++Dd.cutD Yy (some (-20)) none) (body:=λx ρ s=>(qZ 5 x ρ s).bind fun ρ' s'=>yS ρ' s') (fun ρ S=>∃a5,ρ=R6 (some (.str (nmR r))) (some (rD v)) (some (.int m)) (some (rD g)) (some (.lst Yy)) a5/\S=S') (Dd.cutD Yy none (some 20)++Dd.cutD Yy (some (-20)) none) (λx hx ρ S ⟨a5,hρ,hS⟩=>by
   subst hρ hS;obtain⟨w,hw,rfl⟩:=mem x ((_C.mp hx).elim (cut _ _ x) (cut _ _ x));exact⟨_,_,one w hw (.lst Yy) S,_,rfl,rfl⟩) (R6 (some (.str (nmR r))) (some (rD v)) (some (.int m)) (some (rD g)) (some (.lst Yy)) none) S' ⟨none,rfl,rfl⟩;subst hs;have q7:vC (R6 (some (.str (nmR r))) (some (rD v)) (some (.int m)) (some (rD g)) (some (.lst Yy)) none) s2=.ok (.nx ρ') s2:=by
   rw[vC,jU,wv (xs:=Dd.cutD Yy none (some 20)++Dd.cutD Yy (some (-20)) none) (by rw[op2 (x:=.lst (Dd.cutD Yy none (some 20))) (y:=.lst (Dd.cutD Yy (some (-20)) none)) (by rw[z2j,vr (d:=.lst Yy) rfl];rfl) (by rw[z2j,vr (d:=.lst Yy) rfl];rfl),zed,_g (by have:=ik none (some 20);have:=ik (some (-20)) none;unfold cap;omega)]),Rb];exact lp
  generalize rD v=vd at *;generalize rD g=gd at *;simp only[yK,Mof,ud,st,_w,_R,_K];rw[zo (q1 s),zo e2,zo q3,zo q5,zo q7];rfl
 ·have e2:=q2 _ _ e;generalize rD v=vd at *;generalize rD g=gd at *;simp only[yK,Mof,ud,st,_w,_R,_K];rw[zo (q1 s),zo e2,z5p (d:=.bl true) (s':=S') (by
   rw[xR,z8w (xg (b:=true) (by rw[op2 (x:=.non) (y:=.non) (vr rfl) rfl];rfl))];rfl)]
end
def oD:Option (List Int)->D
 | some v=>rD v | none=>.non
def zm2(n:Nat)(r:Rl)(st:Nat)(o:Option (List Int)):Prop:=∀v,o=some v->Lt n 16 v/\nst r v=st
theorem z46:∀(p:NP)(L:List NP),z9c p L∈p::L
 | p,[]=>.head _ | p,q::L=>by
  rw[z9c];split;·exact .tail _ (z46 q L)
  ·rcases _n.mp (z46 p L) with h | h;·rw[h];exact .head _
   ·exact .tail _ (.tail _ h)
theorem zcc:∀v:List Int,unK (Pt.K v)=v
 | []=>rfl | x::v=>by
  have:=zcc v;simp only[unK,Pt.K,_H]at this ⊢;rw[this]
theorem zfv{α:Type}{fi:FI}{mp:List (Option Nat)}{fg:FG}{ft:FT}{fe:FE}{ρ:Ev}{s s1:Sto}(g f:α->D)(p:α->Bool)(ev:α->Ev)(l:List α) (hi:fi ρ s=.ok (l.map g,[]) s1)(hg:∀a∈l,fg (g a) (ye mp ρ) s1=.ok (ev a) s1)(ht:∀a∈l,ft (ev a) s1=.ok (p a) s1)(he:∀a∈l,p a=true->fe (ev a) s1=.ok (f a) s1)(hl:l.length<=cap): xl fi mp fg ft fe ρ s=.ok (.lst ((l.filter p).map f)) s1:=by
 rw[z7Z,z6J,hi,Rb];rw[uL g f p l [] (by
  intro a ha;simp only[hg a ha,ht a ha,Rb];cases hp:p a with
  | true=>simp[he a ha hp] | false=>simp) (by simpa using hl)];rfl
noncomputable abbrev W5(a0 a1 a2 a3 a4:Option D):Ev:=[a0,a1,a2,a3,a4]
theorem z4I {n:Nat} (hn:Sz n) (eS:n<=3) (r:Rl) {st:Nat} (dD:st<=12) (s:Sto):∃o S',xU [.str (nmR r),.int n,.int st] s=.ok (oD o) S'/\zm2 n r st o:=by
 have n2:2<=n:=by unfold Sz at hn;omega
 have dP:(16+1) ^ n<=90000:=by
  have h4:(16+1) ^ n<=(16+1) ^ 3:=_av (by decide) eS;have h5:((16:Nat)+1) ^ 3=4913:=by decide
  omega
 have w1:=z18 r s;have w2:=Pt.z6n (b:=3) n2 eS s;have w3:=z2M (x:=(st:Int)) (a:=0) (b:=12) (by omega) (by omega) s;obtain⟨d,S',e,dk,ok,hl,all⟩:=z26 r hn (b:=16) (by decide) dP s;have dl:d.length<=4913:=by
  have h1:=dk.len hn;have h4:(16+1) ^ n<=(16+1) ^ 3:=_av (by decide) eS;have h5:((16:Nat)+1) ^ 3=4913:=by decide
  omega
 have lS:s.length<S'.length:=(_d.mp hl).1;have hF:(S'.set s.length (.non::Dd.encD d))[s.length]? = some (.non::Dd.encD d):=_ac lS;have fu:∀v∈d.map (λp=>unK p.1),Lt n 16 v/\vf d (Pt.K v)=some (.int (nst r v)):=λv hv=>by
  obtain⟨p,hp,rfl⟩:=_E.mp hv;obtain⟨w,hw,e1,_⟩:=dk.key p hp;obtain⟨u,hu⟩:=zaR hp;rw[e1]at hu;simp only[e1,zcc];exact⟨hw,by rw[hu,ok.val hu]⟩
 have kD:z34 d=(d.map λp=>unK p.1).map rD:=by
  rw[z34,_aT];refine _bT λp hp=>?_;obtain⟨w,hw,e1,_⟩:=dk.key p hp;simp only[Function.comp,e1,zcc];exact zdq w
 have mem:∀v,Lt n 16 v->v∈d.map (λp=>unK p.1):=λv hv=>by
  obtain⟨u,hu⟩:=_aP.mp (all v hv);exact _E.mpr ⟨_,z74 hu,zcc v⟩
 have ll:(d.map λp=>unK p.1).length<=4913:=by simpa using dl
 have mh:zfh (Dd.encD d)=some d:=z3b dk.all;generalize hL:(d.map λp=>unK p.1)=L at *;have dg:∀v∈L,uN (S'.set s.length (.non::Dd.encD d)) (.dlo s.length) (rD v)=some (some (.int (nst r v))):=λv hv=>by rw[zje dk hF,(fu v hv).2]
 have it:∀ ρ:Ev,ρ[3]? = some (some (.dlo s.length))->z8Z (zd 3) ρ S'=.ok (L.map rD,[]) (S'.set s.length (.non::Dd.encD d)):=fun ρ hρ=>by
  rw[zfx,vr hρ,Rb];simp only[hl,_U,mh];rw[kD]
 generalize S'.set s.length (.non::Dd.encD d)=T at *;have c:=zfv (s:=S') (s1:=T) (ρ:=W5 (some (.str (nmR r))) (some (.int n)) (some (.int st)) (some (.dlo s.length)) none) (fi:=z8Z (zd 3)) (mp:=[some 2,some 3,none]) (fg:=qZ 2) (ft:=tOf (eOp dEq (zbL (zd 1) (zd 2)) (zd 0))) (fe:=jY (za (zh yT (za (zd 2) zn)) (za (zd 2) zn))) rD (λv=>Dd.pairD (maxL v,v)) (λv=>decide (nst r v=st)) (λv=>[some (.int st),some (.dlo s.length),some (rD v)]) L (it _ rfl) (λv _=>rfl) (λv hv=>xg (by rw[op2 (x:=.int (nst r v)) (y:=.int st) (by rw[zg3,vr (d:=.dlo s.length) rfl,Rb,vr (d:=rD v) rfl,Rb,dg v hv];rfl) (vr rfl),z8t,show decide ((nst r v:Int)=(st:Int))=decide (nst r v=st) from decide_eq_decide.mpr (by omega)])) (λv hv _=>by
   have mx:yT [rD v] T=.ok (.int (maxL v)) T:=kS T (fu v hv).1.lot.ne;have k2:∀x:D,yT [x] T=.ok (.int (maxL v)) T->jY (za (zh yT (za (zd 2) zn)) (za (zd 2) zn)) [some (.int st),some (.dlo s.length),some x] T=.ok (.tup [.int (maxL v),x]) T:=λx hx=>by
    rw[qo,zr,vc (x:=x) (vr rfl),hx,Rb,zr,vr (d:=x) rfl,Rb,zM];simp only[Rb];rw[_g (by simp[cap])]
   exact k2 _ mx) (by unfold cap;omega);have e5:(L.filter λv=>decide (nst r v=st)).map (λv=>Dd.pairD (maxL v,v))=((L.filter λv=>decide (nst r v=st)).map λv=>(maxL v,v)).map Dd.pairD:=by rw[_aT];rfl
 rw[e5]at c;have ml:∀v,v∈L.filter (λv=>decide (nst r v=st)) ↔ Lt n 16 v/\nst r v=st:=λv=>by
  rw[_bZ];simp only[_s];exact⟨λh=>⟨(fu v h.1).1,h.2⟩,λh=>⟨mem v h.1,h.2⟩⟩
 generalize L.filter (λv=>decide (nst r v=st))=F at *;have key:∀(dr dn ds y:D),yI [dr] s=.ok .non s->wI [dn,.int 3] s=.ok .non s->yO [ds,.int 0,.int 12] s=.ok .non s->yB [dr,dn,.int 16] s=.ok (.dlo s.length) S'->xP (W5 (some dr) (some dn) (some ds) (some (.dlo s.length)) none) S'=.ok (.nx (W5 (some dr) (some dn) (some ds) (some (.dlo s.length)) (some (.lst ((F.map λv=>(maxL v,v)).map Dd.pairD))))) T->vB (W5 (some dr) (some dn) (some ds) (some (.dlo s.length)) (some (.lst ((F.map λv=>(maxL v,v)).map Dd.pairD)))) T=.ok (.rt y) T->xU [dr,dn,ds] s=.ok y T:=λdr dn ds y h1 h2 h3 h4 h5 h6=>by
  have st:zE ["rule","size","steps","many","found"] [dr,dn,ds]=W5 (some dr) (some dn) (some ds) none none:=rfl;simp only[xU,Mof,jN,st,_w,_R,_K];rw[zo (ρ':=W5 (some dr) (some dn) (some ds) none none) (s':=s) (by rw[qK,qe,vc (x:=dr) (vr rfl),h1];rfl)];rw[zo (ρ':=W5 (some dr) (some dn) (some ds) none none) (s':=s) (by rw[qr,qe,call2 (x:=dn) (y:=.int 3) (vr rfl) rfl,h2];rfl)];rw[zo (ρ':=W5 (some dr) (some dn) (some ds) none none) (s':=s) (by rw[qp,qe,uX (x:=ds) (y:=.int 0) (z:=.int 12) (vr rfl) rfl rfl,h3];rfl)];rw[zo (ρ':=W5 (some dr) (some dn) (some ds) (some (.dlo s.length)) none) (s':=S') (by rw[qF,yn,uX (x:=dr) (y:=dn) (z:=.int 16) (vr rfl) (vr rfl) rfl,h4];rfl)];rw[zo h5,h6]
 have f5:xP (W5 (some (.str (nmR r))) (some (.int n)) (some (.int st)) (some (.dlo s.length)) none) S'=.ok (.nx (W5 (some (.str (nmR r))) (some (.int n)) (some (.int st)) (some (.dlo s.length)) (some (.lst ((F.map λv=>(maxL v,v)).map Dd.pairD))))) T:=by
  rw[xP,yn,c];rfl
 cases F with
 | nil=>
  refine⟨none,T,key _ _ _ _ w1 w2 w3 e f5 ?_,λw z=>by cases z⟩;rfl | cons v F=>
  have mm:=z46 (maxL v,v) (F.map λv=>(maxL v,v));rw[<- _H (f:=λv=>(maxL v,v))]at mm;obtain⟨u,hu,eu⟩:=_E.mp mm;refine⟨some u,T,key _ _ _ _ w1 w2 w3 e f5 ?_,λw z=>by cases z;exact (ml u).mp hu⟩
  ·have pn:=z7c (((v::F).map λv=>(maxL v,v)));have gm:z9p [.lst (((v::F).map λv=>(maxL v,v)).map Dd.pairD)] T=.ok (Dd.pairD (maxL u,u)) T:=by
    rw[eu];simp only[z9p,zU,_U];rw[pn];rfl
   have ne:(((v::F).map λv=>(maxL v,v)).map Dd.pairD).isEmpty=false:=rfl;generalize ((v::F).map λv=>(maxL v,v)).map Dd.pairD=X at *;rw[vB,xo,zb6,zjn,vr (d:=.lst X) rfl,Rb];simp only[Dd.listOf,ne,Rb];rw[_g (by rfl),op2 (x:=Dd.pairD (maxL u,u)) (y:=.int 1) (by rw[vc (x:=.lst X) (vr rfl)];exact gm) rfl];rfl
theorem zgT{n:Nat}{r:Rl}{v:List Int}{ls:List (List Int)}(R:Pm.Run r v ls):Lot n v->ls.length=nst r v+1:=by induction R with
 | done e=>intro _;rw[z9s e];rfl | step e _ ih=>intro h;rw[z6R h e,_w,ih (h.step r e)]
theorem zfn {n:Nat} {r:Rl} {v:List Int} (h:Lt n 16 v) (s:Sto):vk [.str (nmR r),rD v] s=.ok (.int (nst r v)) s:=by
 have hB:=h.B (by decide);obtain⟨ls,R,hl⟩:=zaS r (z6O hB (by decide:10<=104));have ln:=zgT R h.lot;have fz:∀ ρ:Ev,ρ[0]? = some (some (.str (nmR r)))->ρ[1]? = some (some (rD v))->z27 (zh M_run (za (zd 0) (za (zd 1) zn))) ρ s=.ok (.lst (ls.map rD)) s:=fun ρ h0 h1=>z6d r hB R (by decide) hl (vr h0) (vr h1);have st:∀d e:D,zE ["rule","lot"] [d,e]=[some d,some e]:=λ_ _=>rfl;generalize rD v=vd at *;simp only[vk,Mof,js,st,_w,_R,_K];rw[qE,xo,op2 (x:=.int ls.length) (y:=.int 1) (by rw[vc (fz _ rfl rfl)];simp[qI,zU]) rfl,ln];rw[show z8d (.int ((nst r v+1:Nat):Int)) (.int 1) s=.ok (.int (((nst r v+1:Nat):Int)-1)) s from rfl];rw[show (((nst r v+1:Nat):Int)-1)=(nst r v:Int) by omega];rfl
noncomputable abbrev Z9(a0 a1 a2 a3 a4 a5 a6 a7 a8:Option D):Ev:=[a0,a1,a2,a3,a4,a5,a6,a7,a8]
theorem zgs{k:Int}(h0:0<=k)(h3:k<4)(s:Sto):∃r,dIx (.lst (zjx.map λr=>D.str (nmR r))) (.int k) s=.ok (.str (nmR r)) s:=by
 obtain⟨j,rfl⟩:=_cb h0;have:j=0\/j=1\/j=2\/j=3:=by omega
 rcases this with rfl | rfl | rfl | rfl;·exact⟨.nx,rfl⟩
 ·exact⟨.le,rfl⟩
 ·exact⟨.al,rfl⟩
 ·exact⟨.tu,rfl⟩
theorem zdp {n:Nat} {v:List Int} (hv:Lot n v) (hx:∀x∈v,x<=1000) (r:Rl) (s:Sto):∃t,zD [.str (nmR r),rD (31::v.drop 1),.int 30] s=.ok (.lst []) (s++[t]):=by
 have l2:2<=v.length:=by have:=hv.len;have:=hv.sz;unfold Sz at this;omega
 obtain⟨x,w,rfl⟩:∃x w,v=x::w:=by cases v with | nil=>simp at l2 | cons x w=>exact⟨x,w,rfl⟩
 have hg:Lot n (31::(x::w).drop 1):=⟨hv.sz,by have:=hv.len;simpa using this,λy hy=>by
  rcases _n.mp hy with rfl | hy;·decide
  ·exact hv.nn y (.tail _ hy),31,.head _,by decide⟩;have nil:(ahead r (31::(x::w).drop 1) ((30:Nat):Int)).filter (cms r (31::(x::w).drop 1) 30)=[]:=by
  rw[_cl];intro u hu h;simp only[cms,_L,_s]at h;have lu:=z2u (m:=30) hg u hu;have:=z84 r lu (by simpa using h.2.1) (B:=30) (λy hy=>Int.le_trans (maxL_ge y hy) h.1) 31 (by rw[h.2.2];exact .head _);exact absurd this (by decide)
 rcases zdU hg (m:=30) (by decide) (by decide) (λy hy=>by
  rcases _n.mp hy with rfl | hy;·decide
  ·exact hx y (.tail _ hy)) r s with⟨_,t,e⟩ | ⟨c,_⟩
 ·refine⟨t,?_⟩;rw[show due r (31::(x::w).drop 1) 30=[] from by unfold due;rw[nil];exact (wB lexN []).eq_nil]at e;exact e
 ·rw[nil]at c;exact absurd c (by decide)
theorem zla {v:List Int} {ρ:Ev} {s:Sto} (h:ρ[4]? = some (some (rD v))) (hl:v.length<=4):eOp xZ (jY (za (eC (.int 31)) zn)) (eSl (zd 4) (xK (eC (.int 1))) zQ) ρ s=.ok (rD (31::v.drop 1)) s:=by
 have sd:=z1O (iL v) 1 s;rw[op2 (x:=rD [31]) (y:=rD (v.drop 1)) (by
  rw[qo,zr,z3y,Rb,zM];simp only[Rb];rw[_g (by simp[cap])];rfl) (by
  rw[z2j,vr h,Rb];simp only[uV,z3y,Rb,xW];refine sd.trans ?_;rw[<- _bW]),jq,_g (by simp[cap];omega)];rfl
section
variable {n m:Nat}{v:List Int}(hv:Lot n v)(bS:1<=m)(hm:m<=30)(hx:∀x∈v,x<=(m:Int))(r:Rl)
include hv bS hm hx
theorem zaJ (a0 a1 a2 a3 a7 a8:Option D) (S:Sto):∃T:Sto,(zL z1j z1e) (Z9 a0 a1 a2 a3 (some (rD v)) (some (.int m)) (some (.str (nmR r))) a7 a8) S=.ok (.nx (Z9 a0 a1 a2 a3 (some (rD v)) (some (.int m)) (some (.str (nmR r))) a7 a8)) (S++T):=by
 have l4:v.length<=4:=by have:=hv.len;have:=hv.le4;omega
 have il:∀x∈v,x<=1000:=λx h=>by have:=hx x h;omega
 have q9:∀S:Sto,∃t,z1e (Z9 a0 a1 a2 a3 (some (rD v)) (some (.int m)) (some (.str (nmR r))) a7 a8) S=.ok (.nx (Z9 a0 a1 a2 a3 (some (rD v)) (some (.int m)) (some (.str (nmR r))) a7 a8)) (S++[t]):=λS=>by
  obtain⟨t,e⟩:=zdp hv il r S;have r0:=zla (v:=v) (ρ:=Z9 a0 a1 a2 a3 (some (rD v)) (some (.int m)) (some (.str (nmR r))) a7 a8) (s:=S) rfl l4;refine⟨t,?_⟩;generalize rD (31::v.drop 1)=gd at *;generalize rD v=vd at *;have tt:tOf (eOp dNe (zh zD (za (zd 6) (za (eOp xZ (jY (za (eC (.int 31)) zn)) (eSl (zd 4) (xK (eC (.int 1))) zQ)) (za (eC (.int 30)) zn)))) (z4o zn)) (Z9 a0 a1 a2 a3 (some vd) (some (.int m)) (some (.str (nmR r))) a7 a8) S=.ok false (S++[t]):=by
   have e0:eOp dNe (zh zD (za (zd 6) (za (eOp xZ (jY (za (eC (.int 31)) zn)) (eSl (zd 4) (xK (eC (.int 1))) zQ)) (za (eC (.int 30)) zn)))) (z4o zn) (Z9 a0 a1 a2 a3 (some vd) (some (.int m)) (some (.str (nmR r))) a7 a8) S=.ok (.bl false) (S++[t]):=by
    rw[vT,uX (x:=.str (nmR r)) (y:=gd) (z:=.int 30) (vr rfl) r0 rfl,e,Rb,kU,zM,Rb,_g (by decide),Rb];rfl
   simp only[tOf,e0,Rb]
  rw[z1e,z1d,tt,Rb,_l (by decide)];rfl
 have en:=λS=>wF hv S;cases he:ended v with
 | true=>
  obtain⟨t,e⟩:=q9 S;refine⟨[t],?_⟩;have e1:=en S;rw[he]at e1;generalize rD v=vd at *;rw[zo (ρ':=Z9 a0 a1 a2 a3 (some vd) (some (.int m)) (some (.str (nmR r))) a7 a8) (s':=S) (by
   rw[z1j,z9f (by rw[z1X,zd2 (xg (b:=true) (by rw[vc (x:=vd) (vr rfl)];exact e1)),Rb,_l (by decide)])];rfl)];exact e | false=>
  obtain⟨t1,e2⟩:=zfc hv he bS hm hx r S;obtain⟨t,e⟩:=q9 (S++[t1]);refine⟨[t1]++[t],?_⟩;rw[<- _aa];have e1:=en S;rw[he]at e1;generalize rD v=vd at *;rw[zo (ρ':=Z9 a0 a1 a2 a3 (some vd) (some (.int m)) (some (.str (nmR r))) a7 a8) (s':=S++[t1]) (by
   rw[z1j,z1d,z1X,z5L,xg (b:=false) (by rw[vc (x:=vd) (vr rfl)];exact e1),Rb,Rb,_g (by decide),z5L];rw[show tOf (zh yK (za (zd 6) (za (zd 4) (za (zd 5) zn)))) (Z9 a0 a1 a2 a3 (some vd) (some (.int m)) (some (.str (nmR r))) a7 a8) S=.ok true (S++[t1]) from by
    have:zh yK (za (zd 6) (za (zd 4) (za (zd 5) zn))) (Z9 a0 a1 a2 a3 (some vd) (some (.int m)) (some (.str (nmR r))) a7 a8) S=.ok (.bl true) (S++[t1]):=by rw[uX (x:=.str (nmR r)) (y:=vd) (z:=.int m) (vr rfl) (vr rfl) (vr rfl),e2]
    simp only[tOf,this,Rb],Rb,Rb,_l (by decide)];rfl)];exact e
end
theorem z8h {n m:Nat} {v:List Int} (hv:Lot n v) (bS:1<=m) (hm:m<=30) (hx:∀x∈v,x<=(m:Int)) (a0 a1 a3 a6 a7 a8:Option D) {l:Nat} {S:Sto} (p:Pot S l): ∃b6 S',z1c (Z9 a0 a1 (some (.loc l)) a3 (some (rD v)) (some (.int m)) a6 a7 a8) S=.ok (.nx (Z9 a0 a1 (some (.loc l)) a3 (some (rD v)) (some (.int m)) b6 a7 a8)) S'/\Pot S' l:=by
 have tn:=λr S=>zaJ hv bS hm hx r a0 a1 (some (.loc l)) a3 a7 a8 S;generalize rD v=vd at *;obtain⟨ρ',S',lp,b6,hρ,hS⟩:=z0D (all:=zjx.map λr=>D.str (nmR r)) (body:=λx ρ s=>(qZ 6 x ρ s).bind fun ρ' s'=>(zL z1j z1e) ρ' s') (fun ρ S=>∃a6,ρ=Z9 a0 a1 (some (.loc l)) a3 (some vd) (some (.int m)) a6 a7 a8/\Pot S l) (zjx.map λr=>D.str (nmR r)) (λx hx ρ S ⟨a6,hρ,hS⟩=>by
  subst hρ;obtain⟨r,_,rfl⟩:=_E.mp hx;obtain⟨T,e⟩:=tn r S;exact⟨_,_,e,_,rfl,hS.app _⟩) (Z9 a0 a1 (some (.loc l)) a3 (some vd) (some (.int m)) a6 a7 a8) S ⟨a6,rfl,p⟩;subst hρ;refine⟨b6,S',?_,hS⟩;rw[z1c,jU,wv (xs:=zjx.map λr=>D.str (nmR r)) (by rw[xr,zM,Rb,z7z]),Rb];exact lp
noncomputable abbrev zgc:D->Ev->Sto->R Fl:=λd ρ s=>(qZ 1 d ρ s).bind fun ρ' s'=>(zL z0N (zL z1W (zL z1t (zL z0Y (zL z1c (zL jw (zL jD uk))))))) ρ' s'
def ShL(ns:List Int)(ρ:Ev):Prop:=∃a1 a2 a3 a4 a5 a6 a7 a8,ρ=Z9 (some (.scr (iL ns))) a1 a2 a3 a4 a5 a6 a7 a8
theorem zgL (ns:List Int) (j:Nat) (ρ:Ev) (s:Sto) (h:ShL ns ρ):∃ ρ' s',zgc (.int j) ρ s=.ok (.nx ρ') s'/\ShL ns ρ':=by
 obtain⟨a1,a2,a3,a4,a5,a6,a7,a8,rfl⟩:=h;rw[show zgc (.int j) (Z9 (some (.scr (iL ns))) a1 a2 a3 a4 a5 a6 a7 a8) s=(zL z0N (zL z1W (zL z1t (zL z0Y (zL z1c (zL jw (zL jD uk))))))) (Z9 (some (.scr (iL ns))) (some (.int j)) a2 a3 a4 a5 a6 a7 a8) s from rfl];obtain⟨c,e1⟩:=zhS ns j s;obtain⟨q0,e2⟩:=zkV c s;have p0:Pot (s++[[.int q0]]) s.length:=⟨q0,by simp⟩;have g2:z0N (Z9 (some (.scr (iL ns))) (some (.int j)) a2 a3 a4 a5 a6 a7 a8) s=.ok (.nx (Z9 (some (.scr (iL ns))) (some (.int j)) (some (.loc s.length)) a3 a4 a5 a6 a7 a8)) (s++[[.int q0]]):=by rw[z0N,yn,vc (x:=.int c) (by rw[call2 (x:=.scr (iL ns)) (y:=.int j) (vr rfl) (vr rfl),e1]),e2];rfl
 generalize s.length=l at p0 g2;generalize s++[[D.int q0]]=s0 at p0 g2;generalize hsc:D.scr (iL ns)=sc at g2;obtain⟨r1,s1,t1,x0,x1,d1⟩:=qH (ρ:=Z9 (some sc) (some (.int j)) (some (.loc l)) a3 a4 a5 a6 a7 a8) (f:=zd 2) (g:=eC (.int 3)) (far:=3) p0 (by decide) (z3X (by decide)) (vr rfl) rfl;obtain⟨n,eR⟩:∃n:Nat,2+r1=((n:Nat):Int):=⟨(2+r1).toNat,by omega⟩;have hn:Sz n:=by unfold Sz;omega
 have g3:z1W (Z9 (some sc) (some (.int j)) (some (.loc l)) a3 a4 a5 a6 a7 a8) s0=.ok (.nx (Z9 (some sc) (some (.int j)) (some (.loc l)) (some (.int n)) a4 a5 a6 a7 a8)) s1:=by rw[z1W,yn,vT,z3y,Rb,t1,Rb,jn,eR];rfl
 obtain⟨v,s2,e4,hv,r6,d2⟩:=zgC (M:=30) d1.pot hn (by decide) (by decide +kernel);have g4:z1t (Z9 (some sc) (some (.int j)) (some (.loc l)) (some (.int n)) a4 a5 a6 a7 a8) s1=.ok (.nx (Z9 (some sc) (some (.int j)) (some (.loc l)) (some (.int n)) (some (rD v)) a5 a6 a7 a8)) s2:=by
  rw[z1t,yn,uX (x:=.loc l) (y:=.int n) (z:=.int 30) (vr rfl) (vr rfl) rfl,e4];rfl
 have mx:∀S,yT [rD v] S=.ok (.int (maxL v)) S:=λS=>kS S hv.ne;have mp:1<=maxL v:=by
  obtain⟨x,hx,x0⟩:=hv.pos;have:=maxL_ge x hx;omega
 have sW:maxL v<=30:=r6 _ (maxL_mem hv.ne);have r8:∀x∈v,x<=maxL v:=λx hx=>maxL_ge x hx;have rl:=λ(m:Nat) (h1:1<=m) (h2:m<=30) (h3:maxL v<=(m:Int)) (a6:Option D) {S:Sto} (p:Pot S l)=>z8h hv h1 h2 (λx hx=>Int.le_trans (r8 x hx) h3) (some sc) (some (.int j)) (some (.int n)) a6 a7 a8 p;generalize maxL v=M at *;generalize rD v=vd at *;have far:∀S,eOp z8d (eC (.int 31)) (zh yT (za (zd 4) zn)) (Z9 (some sc) (some (.int j)) (some (.loc l)) (some (.int n)) (some vd) a5 a6 a7 a8) S=.ok (.int (31-M)) S:=λS=>by
  rw[op2 (x:=.int 31) (y:=.int M) rfl (by rw[vc (x:=vd) (vr rfl)];exact mx S)];rfl
 obtain⟨r2,s3,t2,y0,y1,d3⟩:=qH (ρ:=Z9 (some sc) (some (.int j)) (some (.loc l)) (some (.int n)) (some vd) a5 a6 a7 a8) (f:=zd 2) (g:=eOp z8d (eC (.int 31)) (zh yT (za (zd 4) zn))) (far:=31-M) d2.pot (by omega) (z3X (by omega)) (vr rfl) (far s2);obtain⟨m,hm⟩:∃m:Nat,M+r2=((m:Nat):Int):=⟨(M+r2).toNat,by omega⟩;have g5:z0Y (Z9 (some sc) (some (.int j)) (some (.loc l)) (some (.int n)) (some vd) a5 a6 a7 a8) s2=.ok (.nx (Z9 (some sc) (some (.int j)) (some (.loc l)) (some (.int n)) (some vd) (some (.int ((m:Nat):Int))) a6 a7 a8)) s3:=by
  rw[z0Y,yn,vT,vc (x:=vd) (vr rfl),mx s2,Rb,t2,Rb,jn,hm];rfl
 obtain⟨b6,s4,g6,p4⟩:=rl m (by omega) (by omega) (by omega) a6 d3.pot;obtain⟨r3,s5,t3,z0,z1,d4⟩:=qH (ρ:=Z9 (some sc) (some (.int j)) (some (.loc l)) (some (.int n)) (some vd) (some (.int m)) b6 a7 a8) (f:=zd 2) (g:=eC (.int 4)) (far:=4) p4 (by decide) (z3X (by decide)) (vr rfl) rfl;obtain⟨r,er⟩:=zgs z0 z1 s5;obtain⟨r4,s6,t4,w0,w1,d5⟩:=qH (ρ:=Z9 (some sc) (some (.int j)) (some (.loc l)) (some (.int n)) (some vd) (some (.int m)) b6 a7 a8) (f:=zd 2) (g:=eC (.int 7)) (far:=7) d4.pot (by decide) (z3X (by decide)) (vr rfl) rfl;obtain⟨st,dD⟩:∃st:Nat,r4=((st:Nat):Int):=⟨r4.toNat,by omega⟩;have r9:jw (Z9 (some sc) (some (.int j)) (some (.loc l)) (some (.int n)) (some vd) (some (.int m)) b6 a7 a8) s4=.ok (.nx (Z9 (some sc) (some (.int j)) (some (.loc l)) (some (.int n)) (some vd) (some (.int m)) (some (.str (nmR r))) (some (.int ((st:Nat):Int))) a8)) s6:=by
  rw[jw,zdZ,zr,vT,xr,zM,Rb,z7z,Rb,t3,Rb,er,Rb,zr,t4,Rb,zM];simp only[Rb];rw[dD];rfl
 obtain⟨r5,s7,t5,k0,k1,d6⟩:=qH (ρ:=Z9 (some sc) (some (.int j)) (some (.loc l)) (some (.int n)) (some vd) (some (.int m)) (some (.str (nmR r))) (some (.int st)) a8) (f:=zd 2) (g:=eC (.int 2)) (far:=2) d5.pot (by decide) (z3X (by decide)) (vr rfl) rfl;obtain⟨k,hk⟩:∃k:Nat,2+r5=((k:Nat):Int):=⟨(2+r5).toNat,by omega⟩;obtain⟨o,s8,e8,fo⟩:=z4I (n:=k) (by unfold Sz;omega) (by omega) r (st:=st) (by omega) s7;have se:jD (Z9 (some sc) (some (.int j)) (some (.loc l)) (some (.int n)) (some vd) (some (.int m)) (some (.str (nmR r))) (some (.int st)) a8) s6=.ok (.nx (Z9 (some sc) (some (.int j)) (some (.loc l)) (some (.int n)) (some vd) (some (.int m)) (some (.str (nmR r))) (some (.int st)) (some (oD o)))) s8:=by
  rw[jD,yn,xr,zr,vr (d:=.str (nmR r)) rfl,Rb,zr,vT,z3y,Rb,t5,Rb,jn,hk,Rb,zr,vr (d:=.int st) rfl,Rb,zM];simp only[Rb];rw[e8];rfl
 have sg:uk (Z9 (some sc) (some (.int j)) (some (.loc l)) (some (.int n)) (some vd) (some (.int m)) (some (.str (nmR r))) (some (.int st)) (some (oD o))) s8=.ok (.nx (Z9 (some sc) (some (.int j)) (some (.loc l)) (some (.int n)) (some vd) (some (.int m)) (some (.str (nmR r))) (some (.int st)) (some (oD o)))) s8:=by cases o with
  | none=>
   rw[uk,z9f (by rw[z1X,xg (b:=false) (by rw[op2 (x:=.non) (y:=.non) (vr rfl) rfl];rfl),Rb,_l (by decide)])];rfl | some w=>
   obtain⟨hw,hs⟩:=fo w rfl;have mn:=zfn (r:=r) hw s8;rw[hs]at mn;have nn:zbx (rD w) .non s8=.ok (.bl true) s8:=rfl;show uk (Z9 _ _ _ _ _ _ _ _ (some (rD w))) s8=.ok (.nx (Z9 _ _ _ _ _ _ _ _ (some (rD w)))) s8;generalize rD w=wd at *;have ni:dNe (.int st) (.int st) s8=.ok (.bl false) s8:=by simp
   rw[uk,z9f (by
    rw[z1X,xg (b:=true) (by rw[op2 (x:=wd) (y:=.non) (vr rfl) rfl];exact nn),Rb,_g rfl];exact xg (by rw[op2 (x:=.int st) (y:=.int st) (by rw[call2 (x:=.str (nmR r)) (y:=wd) (vr rfl) (vr rfl)];exact mn) (vr rfl)];exact ni))];rfl
 refine⟨Z9 (some sc) (some (.int j)) (some (.loc l)) (some (.int n)) (some vd) (some (.int m)) (some (.str (nmR r))) (some (.int st)) (some (oD o)),s8,?_,?_⟩;·rw[zo g2,zo g3,zo g4,zo g5,zo g6,zo r9,zo se,sg]
 ·rw[<- hsc];exact⟨_,_,_,_,_,_,_,_,rfl⟩
theorem zjz (ns:List Int):∃ ρ' s',z6a (Z9 (some (.scr (iL ns))) none none none none none none none none) []=.ok (.nx ρ') s':=by
 obtain⟨k,ek,hk⟩:=zhj ns.length 3;rw[show ((3:Nat):Int)=3 from rfl]at ek;obtain⟨ρ',s',e,_⟩:=z0D (all:=vh k) (body:=zgc) (fun ρ _=>ShL ns ρ) (vh k) (λx hx ρ s hI=>by
  obtain⟨j,_,rfl⟩:=z8L hx;exact zgL ns j ρ s hI) (Z9 (some (.scr (iL ns))) none none none none none none none none) [] ⟨_,_,_,_,_,_,_,_,rfl⟩;refine⟨ρ',s',?_⟩;unfold z6a;rw[jU,z38 (n:=k) (s1:=[]) (by omega) (by simp only[xr,zr,zM,z3y,xV,_q,Rb,qI,zU,_B,z6L,zd8,ek]),Rb];exact e
theorem zde:∀ns:List Int,ns.length<=63->∃s',zgi [.scr (ns.map D.int)] []=.ok (.bl true) s':=λns hn=>by
 obtain⟨ρ',s',e⟩:=zjz ns;refine⟨s',?_⟩;have st:zE ["_law_script","_law_at","_law_pot_here","_law_size","_law_lot_here","_law_most","_law_rule","_law_steps","_law_found"] [.scr (ns.map D.int)]=Z9 (some (.scr (iL ns))) none none none none none none none none:=rfl;unfold zgi Mof zdS;rw[_g (by rfl),st,zo e];rfl
end bN
namespace bN
open L2 Dd Pg
theorem zjB:∀x∈rsX,x∈askQ.xs:=by decide +kernel
theorem zlH:("TooMany":Str)∈askQ.xs:=by decide +kernel
theorem zmw:((("TooMany":Str),("TooMany":Str)),true)∈askQ.ps:=by decide +kernel
theorem all_mk{P:Program}{w:World}{K:W.Frag}{h:Heap}{mg:Str->Option Value}{fa:Addr}(X:K.In h)(G:h.Ns mainGlobals mg)(sh:mg "law"=some (.ref fa))(e:z9d askQ K=valS askQ w) : ∃fd:FuncData,(∀(s:Shared)(v:Value),BindsTo s fd ⟨[v],[]⟩ [("_law_script",v)])/\∀base:Heap,K.In base->base.Ns mainGlobals mg->z3A P w K mg base CX0 12 fa fd ["_law_script"] (zga K):=by
 obtain⟨sX,sY,si,nU⟩:=zei X G e 40 rfl;have e0:=sh.symm.trans si;cases e0;obtain⟨oc,od,kV,bH,pm,an,aA,ct,dE,rfl,hl,hc⟩:=nU.ex;have GG:∀(x:Str)(v:Value),W.nsIn K mainGlobals x=some (some v)->mg x=some v:=λx v h=>W.mg_of X G h;have:Txt P w K mg:=⟨z12 X G e 0 rfl,z12 X G e 1 rfl,z12 X G e 2 rfl,z12 X G e 3 rfl,z12 X G e 4 rfl,z12 X G e 5 rfl,z12 X G e 6 rfl,wL X G e 0 rfl,wL X G e 1 rfl,wL X G e 2 rfl,wL X G e 3 rfl,wL X G e 4 rfl,wL X G e 5 rfl,wL X G e 6 rfl,wL X G e 7 rfl,wL X G e 8 rfl,wL X G e 9 rfl,wL X G e 10 rfl,wL X G e 11 rfl,wL X G e 12 rfl,wL X G e 13 rfl,wL X G e 14 rfl,λi _ _=>zei X G e i,zk6 X G e "RULES" z7R (_r (i:=0) rfl),z0P GG (z62 e "NoNumber" (zjB _ (by decide +kernel))),z0P GG (z62 e "NoRule" (zjB _ (by decide +kernel))),z0P GG (z62 e "NoLot" (zjB _ (by decide +kernel))),z0P GG (z62 e "Ended" (zjB _ (by decide +kernel))),z0P GG (z62 e "TooMany" (zjB _ (by decide +kernel))),zgB GG (z62 e "TooMany" zlH) (z62 e "TooMany" zlH) (by rw[zlm e "TooMany" "TooMany" true zmw];rfl)⟩;refine⟨W.fnOf "law" "law" (qT z2t) (xM z2t) (ze z2t) .none kV bH pm an aA ct,λs v=>.of_eq rfl,λbase _ _=>?_⟩;exact zjt (x:="law") (z85 nU) zde
theorem boot_:∀w:World,(W.fencedOpening treeTable PySem.Challenge.pw_drawndown_k74_whole_backs w 5872).map (λs=>(s.heap,s.gens,s.drawn,s.toks))=some (W.boot_heap w.params,Array.mk [],W.boot_drawn,W.boot_toks):= W.boot_open (by kernel_rfl) (by decide) (λs=>by kernel_rfl)
theorem left_:W.LeftO PySem.Challenge.pw_drawndown_k74_whole_backs qv looseQ xtQ (obsS askQ) (valS askQ) 5872:=zb5 "special-get-raises" boot_ (λw os=>z2r (f:=λs=>(seenQ s,obsS askQ s)) (zls w) (bsz w) (z5J (z4q w os) (z4X w os))) (λw os=>z2r (f:=λs=>(seenQ s,obsS askQ s)) (zls w) (bsz w) (z5J (z6h w os) (z6w w os)))
end bN
open PySem.W
set_option maxRecDepth 100000 in
set_option maxHeartbeats 0 in
theorem PySem.Challenge.cw_drawndown_k74_whole_backs_holds : PySem.Challenge.rw_drawndown_k74_whole_backs.Holds := by
  w_on; refine holds_law bN.said_ λsj => ?_
  refine holds_open (q := bN.qv) (loose := bN.looseQ) (Xt := bN.xtQ) (XP := XL bN.qv bN.lvQ) (Yf := Dd.obsS bN.askQ) (Ya := Dd.valS bN.askQ) (YP := Dd.saysS bN.askQ) (N := 5872) bN.left_ (Dd.zf0 bN.askQ) (Dd.z8F bN.askQ) (λs e => xl_of s (_ad.mp e).1) XL.keeps (by rfl) (by rfl) (by rfl) (λs e => recFacts_of (_ad.mp e).2) (by rfl) (by first | assumption | decide +kernel) (by decide +kernel) ⟨rfl, rfl, rfl, rfl, rfl, by decide +kernel⟩ ?hw ?hc
  (case hw => w_witness2)
  refine Dd.walkY (l := PySem.Challenge.rw_drawndown_k74_whole_backs) (n := 63) (k := 12) (x := "_law_script") rfl (by decide) (by decide) rfl ⟨rfl, by decide, by decide, rfl⟩ ?F
  case F =>
    intro w mg fa h Yy G eI XP
    obtain⟨K, KX, e⟩ := Yy
    exact⟨K, KX, bN.all_mk KX G eI e ⟩
