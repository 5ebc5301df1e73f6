import PyProof.Rows.All
import Wide.All
import OpenK.AllK
import Wide.FinOn
import Lean
import PyProof.EqAt
import PyProof.EqKinds
import PyProof.TupleCall
import PyProof.ExcArgsOwn
import PyProof.ExcAttrAll.ValueError
import PyProof.ListMulRoad
import PyProof.Rows.Range3
import KE.KDictLaws
import PyProof.Rows.CallKwBuiltin
import PyProof.Rows.SortRuns
import PySem.Challenge.RW_drawndown_k54_whole_least
set_option compiler.extract_closed false
set_option Elab.async false
set_option linter.all false
set_option maxRecDepth 100000
set_option maxHeartbeats 1000000
set_option exponentiation.threshold 5000
theorem aDe_(_:True:=by decide):True:=trivial
def aDe:Lean.Syntax:=aDe_._auto_1
theorem aLr_(_:True:=by first | exact .inl rfl | exact .inr rfl | assumption):True:=trivial
def aLr:Lean.Syntax:=aLr_._auto_1
theorem aOr_(_:True:=by first | exact Or.inl rfl | exact Or.inr rfl):True:=trivial
def aOr:Lean.Syntax:=aOr_._auto_1
theorem aIr_(_:True:=by intro _;rfl):True:=trivial
def aIr:Lean.Syntax:=aIr_._auto_1
theorem aRf_(_:True:=by rfl):True:=trivial
def aRf:Lean.Syntax:=aRf_._auto_1
theorem aWu_(_:True:=by with_unfolding_all rfl):True:=trivial
def aWu:Lean.Syntax:=aWu_._auto_1
open PySem PySem.Spec PyProof.Rows
abbrev _a:=@wpAny_bind
noncomputable abbrev _b:=@List.getElem?_eq_some_iff
noncomputable abbrev _c:=@List.getElem?_eq_getElem
noncomputable abbrev _d:=@List.mem_of_getElem?
noncomputable abbrev _e:=@Heap.get?_push_of_some
noncomputable abbrev _g:=@List.getElem?_cons_zero
abbrev _h:=@Nat.le_refl
abbrev _i:=@wpAny_pure
abbrev _j:=@wpS_bind
noncomputable abbrev _k:=@List.getElem?_cons_succ
abbrev _l:=@if_pos
abbrev _m:=@List.mem_map
abbrev _n:=@List.length_cons
abbrev _o:=@wpS_pure
abbrev _p:=@if_neg
noncomputable abbrev _q:=@Nat.lt_of_lt_of_le
abbrev _r:=@List.mem_cons
noncomputable abbrev _s:=@decide_eq_true_eq
abbrev _t:=@List.size_toArray
abbrev _u:=@Heap.lt_size
noncomputable abbrev _v:=@List.mem_iff_getElem
noncomputable abbrev _w:=@List.mem_append_right
noncomputable abbrev _x:=@Heap.get?_push_size
noncomputable abbrev _y:=@List.getElem?_append_left
abbrev _z:=@List.length_map
abbrev _A:=@List.map_cons
noncomputable abbrev _B:=@Bool.and_eq_true_iff
abbrev _C:=@Function.comp_def
abbrev _D:=@List.mem_append
abbrev _E:=@Option.some.inj
abbrev _F:=@wpAny_mono
abbrev _G:=@if_true
abbrev _H:=@Nat.ne_of_lt
abbrev _I:=@List.length_nil
noncomputable abbrev _J:=@List.mem_cons_of_mem
abbrev _K:=@Option.some.injEq
abbrev _L:=@List.mem_filter
noncomputable abbrev _M:=@List.getElem?_set_ne
noncomputable abbrev _N:=@List.mem_of_mem_take
noncomputable abbrev _O:=@Option.map_eq_some_iff
noncomputable abbrev _P:=@List.length_append
noncomputable abbrev _Q:=@Classical.byContradiction
abbrev _R:=@decide_eq_false
abbrev _S:=@Nat.le_trans
noncomputable abbrev _T:=@List.getElem?_set_self
noncomputable abbrev _U:=@List.getElem?_append_right
abbrev _V:=@List.lookup_cons
noncomputable abbrev _W:=@List.getElem?_eq_none
noncomputable abbrev _X:=@List.mem_cons_self
noncomputable abbrev _Y:=@Array.length_toList
noncomputable abbrev _Z:=@Nat.pow_le_pow_right
abbrev _aa:=@wpAny_field
noncomputable abbrev _ab:=@decide_eq_false_iff_not
abbrev _ac:=@Bool.and_eq_true
abbrev _ad:=@Option.bind_some
noncomputable abbrev _ae:=@List.getElem?_map
noncomputable abbrev _af:=@List.append_assoc
noncomputable abbrev _ag:=@wpAny_setField_rec
noncomputable abbrev _ah:=@PyProof.Rows.callWith_type1
noncomputable abbrev _ai:=@PyProof.Rows.slot_tuple_getitem
noncomputable abbrev _aj:=@PySem.mem_of_lookup
noncomputable abbrev _ak:=@Nat.pow_le_pow_left
abbrev _al:=@decide_eq_true
noncomputable abbrev _am:=@wpAny_callSpecial?_slot
noncomputable abbrev _an:=@Array.toList_push
noncomputable abbrev _ao:=@wpAny_Call_Name_kw
noncomputable abbrev _ap:=@Heap.get?_update_other
noncomputable abbrev _aq:=@List.set_cons_zero
noncomputable abbrev _ar:=@List.zipWith_cons_cons
abbrev _as:=@List.cons.injEq
abbrev _at:=@wpAny_call_entry
noncomputable abbrev _au:=@List.take_append_drop
noncomputable abbrev _av:=@wpAny_truthy_bool
abbrev _aw:=@congrArg
abbrev _ax:=@wpAny_rule
abbrev _ay:=@Heap.size_push
abbrev _az:=@Nat.zero_le
noncomputable abbrev _aA:=@Nat.mul_le_mul_right
abbrev _aB:=@Nat.lt_irrefl
abbrev _aC:=@wpAny_loadPart'
abbrev _aD:=@Nat.le_of_lt
abbrev _aE:=@List.getElem_mem
abbrev _aF:=@List.all_eq_true
abbrev _aG:=@List.map_map
noncomputable abbrev _aH:=@List.drop_eq_getElem_cons
noncomputable abbrev _aI:=@List.getElem?_take_of_lt
abbrev _aJ:=@wpAny_seqItems
abbrev _aK:=@wpS_forRange
abbrev _aL:=@PassesOwn.never
noncomputable abbrev _aM:=@Bool.false_ne_true
noncomputable abbrev _aN:=@List.set_cons_succ
noncomputable abbrev _aO:=@List.mem_append_left
abbrev _aP:=@if_false
abbrev _aQ:=@List.cons_append
noncomputable abbrev _aR:=@Option.bind_eq_some_iff
noncomputable abbrev _aS:=@List.mem_of_mem_drop
noncomputable abbrev _aT:=@Int.eq_ofNat_of_zero_le
abbrev _aU:=@wpAny_holding
abbrev _aV:=@Nat.zero_add
noncomputable abbrev _aW:=@List.exists_cons_of_ne_nil
abbrev _aX:=@List.nil_append
noncomputable abbrev _aY:=@List.mem_or_eq_of_mem_set
abbrev _aZ:=@List.length_take
abbrev _a0:=@wpS_modify
abbrev _a1:=@wpAny_standAt
abbrev _a2:=@List.sum_cons
noncomputable abbrev _a3:=@List.eq_of_mem_replicate
noncomputable abbrev _a4:=@Int.mul_le_mul_of_nonneg_left
noncomputable abbrev _a5:=@Nat.div_le_of_le_mul
abbrev _a6:=@Ne.symm
noncomputable abbrev _a7:=@Bool.not_eq_true'
abbrev _a8:=@Option.map_some
noncomputable abbrev _a9:=@List.take_of_length_le
noncomputable abbrev _ba:=@Array.getD_eq_getD_getElem?
noncomputable abbrev _bb:=@PySem.F.plain_min_loop
abbrev _bc:=@List.getElem_inj
abbrev _bd:=@List.prefix_refl
abbrev _be:=@Option.getD_some
noncomputable abbrev _bf:=@F.slot_tuple_iterator_next
abbrev _bg:=@Nat.mul_le_mul
noncomputable abbrev _bh:=@List.mem_singleton
noncomputable abbrev _bi:=@Bool.false_eq_true
noncomputable abbrev _bj:=@PySem.F.slot_tuple_lt
noncomputable abbrev _bk:=@List.length_filter_le
abbrev _bl:=@wpAny_passesOwn
abbrev _bm:=@List.of_mem_zip
noncomputable abbrev _bn:=@wpAny_newObj_type
noncomputable abbrev _bo:=@Int.toNat_natCast
noncomputable abbrev _bp:=@Nat.lt_succ_of_lt
noncomputable abbrev _bq:=@Nat.lt_of_succ_lt
noncomputable abbrev _br:=@wpAny_comprehension_free
abbrev _bs:=@List.mem_range
noncomputable abbrev _bt:=@List.length_eq_zero_iff
abbrev _bu:=@List.map_zipWith
noncomputable abbrev _bv:=@List.eq_nil_of_length_eq_zero
abbrev _bw:=@Int.sub_mul
noncomputable abbrev _bx:=@Calls.spliced_cons
noncomputable abbrev _by:=@SeqAt.canLay_of_shaped
abbrev _bz:=@List.append_nil
abbrev _bA:=@List.foldl_cons
abbrev _bB:=@Int.emod_nonneg
noncomputable abbrev _bC:=@List.dropLast_concat_getLast
abbrev _bD:=@W.kia_one
noncomputable abbrev _bE:=@List.length_replicate
noncomputable abbrev _bF:=@Heap.get?_update_self
noncomputable abbrev _bG:=@F.slot_enumerate_next
noncomputable abbrev _bH:=@List.pairwise_map
abbrev _bI:=@beq_iff_eq
abbrev _bJ:=@wpAny_letGo
noncomputable abbrev _bK:=@Int.natAbs_of_nonneg
abbrev _bL:=@wpS_mono
noncomputable abbrev _bM:=@Array.perm_iff_toList_perm
abbrev _bN:=@mirror_perm
noncomputable abbrev _bO:=@List.perm_ext_iff_of_nodup
abbrev _bP:=@Nat.le_add_right
abbrev _bQ:=@List.filter_cons
abbrev _bR:=@List.not_mem_nil
abbrev _bS:=@Nat.mul_comm
noncomputable abbrev _bT:=@List.take_succ_cons
noncomputable abbrev _bU:=@List.filter_eq_self
noncomputable abbrev _bV:=@PySem.F.args_tuple_add_2
abbrev _bW:=@List.any_cons
noncomputable abbrev _bX:=@List.Pairwise.imp_of_mem
abbrev _bY:=@List.map_drop
abbrev _bZ:=@List.nodup_cons
abbrev _b0:=@List.map_append
noncomputable abbrev _b1:=@List.lookup_append
noncomputable abbrev _b2:=@wpAny_tupleItemsOf
noncomputable abbrev _b3:=@Int.emod_lt_of_pos
noncomputable abbrev _b4:=@List.pairwise_cons
noncomputable abbrev _b5:=@PySem.F.args_tuple_lt_2
noncomputable abbrev _b6:=@PySem.F.entry_tuple_add
noncomputable abbrev _b7:=@wpAny_assign_Name
noncomputable abbrev _b8:=@Calls.spliced_nil
noncomputable abbrev _b9:=@PySem.F.entry_tuple_lt
noncomputable abbrev _ca:=@PySem.F.slot_tuple_add
noncomputable abbrev _cb:=@subscriptTail_builtinR
noncomputable abbrev _cc:=@Calls.callWith_builtin
abbrev _cd:=@Int.natAbs_mul
noncomputable abbrev _ce:=@List.filter_eq_nil_iff
abbrev _cf:=@Int.mul_comm
noncomputable abbrev _cg:=@PySem.F.slot_list_iadd
abbrev _ch:=@wpS_get
noncomputable abbrev _ci:=@Array.getElem?_extract
abbrev _cj:=@Nat.add_zero
noncomputable abbrev _ck:=@bne_self_eq_false
noncomputable abbrev _cl:=@PySem.F.entry_min_loop
abbrev _cm:=@wpAny_tryCatch
noncomputable abbrev _cn:=@Array.toList_eraseIdxIfInBounds
noncomputable abbrev _co:=@exec_Assign_Name_used
noncomputable abbrev _cp:=@PySem.F.slot_dict_get
noncomputable abbrev _cq:=@List.zipWith_nil_left
noncomputable abbrev _cr:=@Int.mul_ediv_add_emod
noncomputable abbrev _cs:=@List.perm_append_comm
abbrev _ct:=@wpAny_forIn_list
abbrev _cu:=@Nat.lt_succ_self
abbrev _cv:=@List.drop_length
abbrev _cw:=@wpAny_isInstance
abbrev _cx:=@List.getElem_map
abbrev _cy:=@wpAny_attempt
abbrev _cz:=@Prod.mk.injEq
noncomputable abbrev _cA:=@Calls.evalArgs_plain
noncomputable abbrev _cB:=@wpAny_updateSeq_pair
abbrev _cC:=@Int.neg_mul
abbrev _cD:=@wpAny_execs_nil
abbrev _cF:=@F.slot_zip_next
noncomputable abbrev _cH:=@List.filterMap_cons
noncomputable abbrev _cI:=@PyProof.Rows.lt_int
noncomputable abbrev _cJ:=@List.getElem?_range
noncomputable abbrev _cK:=@Heap.SameBut.update
noncomputable abbrev _cL:=@List.length_pos_iff
noncomputable abbrev _cM:=@List.map_congr_left
noncomputable abbrev _cN:=@Int.toNat_of_nonneg
noncomputable abbrev _cR:=@assignInOrder_cons
noncomputable abbrev _cS:=@List.mem_filterMap
abbrev _cT:=@Int.mul_nonneg
abbrev _cU:=@Nat.not_lt
abbrev _cV:=@wpS_lift
noncomputable abbrev _cW:=@Array.size_extract
noncomputable abbrev _cX:=@Bool.not_eq_false'
noncomputable abbrev _cY:=@Nat.eq_zero_or_pos
noncomputable abbrev _c0:=@Nat.lt_of_le_of_lt
noncomputable abbrev _c4:=@List.take_sublist
noncomputable abbrev _c5:=@Nat.le_of_succ_le
abbrev _c6:=@wpAny_of_eq
abbrev _da:=@wpAny_onRaise
abbrev _dc:=@Int.dvd_trans
abbrev _dd:=@plainId_quiet
abbrev _de:=@wpAny_eqBool_int
abbrev _dg:=@noFill_tuple_add
abbrev _dh:=@List.length_drop
abbrev _dm:=@List.mem_flatMap
abbrev _do:=@Nat.ne_of_gt
abbrev _dp:=@codeAny_mono
abbrev _dq:=@wpAny_typeOf
abbrev _du:=@List.map_nil
abbrev _dv:=@Int.dvd_zero
abbrev _dw:=@getElem?_pos
noncomputable section
namespace Dd
noncomputable def dArgs(s:Stmt):Arguments:=match s with
 | .FunctionDef _ a _ _ _ _ _ _ _ _=>a | _=>{posonlyargs:=[],args:=[],vararg:=none,kwonlyargs:=[],kw_defaults:=[],kwarg:=none,defaults:=[]}
noncomputable def znz(s:Stmt):List Stmt:=match s with
 | .FunctionDef _ _ b _ _ _ _ _ _ _=>b | _=>[]
noncomputable def zkP(s:Stmt):Scope:=match s with
 | .FunctionDef _ _ _ _ _ _ sc _ _ _=>sc | _=>{kind:=.function,names:=[],isGenerator:=false,isCoroutine:=false}
noncomputable def z8F(h:Heap)(a:Addr):W.Frag:=match h.get? a with | some o=>[(a,o)] | none=>[]
noncomputable def zpi(h:Heap)(g:W.Frag)(x:Str):W.Frag:=match W.nsIn g mainGlobals x with
 | some (some (.ref f))=>z8F h f++(match h.get? f with
   | some ⟨_,_,.func fd,_⟩=>(match fd.code with | .ref c=>z8F h c | _=>[]) | some ⟨_,_,.cls cd,_⟩=>z8F h cd.ns | _=>[]) | _=>[]
noncomputable def gat(h:Heap)(ns:List Str):W.Frag:=z8F h mainGlobals++ns.flatMap (zpi h (z8F h mainGlobals))
noncomputable abbrev FV:=Str×Str×Arguments×FuncBody×Scope×Addr×List (Str×Addr)×Value×Addr×Bool×Bool
noncomputable def zji(K:W.Frag)(x:Str):Option FV:=match W.nsIn K mainGlobals x with
 | some (some (.ref f))=>(match K.lookup f with
   | some ⟨_,_,.func fd,_⟩=>some (fd.name,fd.qualname,fd.params,fd.body,fd.scope,fd.globals,fd.closure,fd.defaults,fd.builtins,W.codeIn K fd.code fd.qualname,W.keepIn K (.ref f)) | _=>none) | _=>none
noncomputable def znl(x:Str)(st:Stmt):Option FV:=some (x,x,dArgs st,.stmts (znz st),zkP st,mainGlobals,[],.none,builtinsNs,true,true)
noncomputable def ziC(K:W.Frag)(x:Str):Bool:=match W.nsIn K mainGlobals x with | some none=>true | _=>false
noncomputable def zjQ(K:W.Frag)(x:Str):Option Int:=match W.nsIn K mainGlobals x with | some (some (.int i _))=>some i | _=>none
noncomputable def sameRef:Value->Option (Option Value)->Bool
 | .ref f,some (some (.ref g))=>f==g | _,_=>false
noncomputable def zeg:Value->Option Str
 | .str k _=>some k | _=>none
noncomputable def z7i:Value->Bool
 | .type c=>c=="dict" | _=>false
noncomputable def zaR(K:W.Frag):List DictEntry->List Str->List (Int×Option Str×Bool)
 | e::es,y::ys=>(e.hash,zeg e.key,sameRef e.val (W.nsIn K mainGlobals y))::zaR K es ys | [],[]=>[] | _,_=>[(0,none,false)]
noncomputable def zj8(K:W.Frag)(x:Str)(ys:List Str):Option (Bool×Bool×Bool×Bool×List (Int×Option Str×Bool)):=match W.nsIn K mainGlobals x with
 | some (some (.ref a))=>(match K.lookup a with
   | some ⟨c,d,.dict es _,sl⟩=>some (z7i c,d.isNone,sl.size==0,a==sysModules,zaR K es.toList ys) | _=>none) | _=>none
noncomputable def zn8(w:World)(tb:List (Str×Str)):Option (Bool×Bool×Bool×Bool×List (Int×Option Str×Bool)):=some (true,true,true,false,tb.map λp=>(PyData.keyHash w.params p.1,some p.1,true))
noncomputable def zlT:List Value->Option (List Int)
 | []=>some [] | .int i _::r=>(zlT r).map (i::·) | _=>none
noncomputable def zfc:Value->Bool
 | .type c=>c=="tuple" | _=>false
noncomputable def zmU(K:W.Frag)(x:Str):Option (Bool×Option (List Int)):=match W.nsIn K mainGlobals x with
 | some (some (.ref a))=>(match K.lookup a with
   | some ⟨c,_,.seq ah _,_⟩=>some (zfc c,zlT ah.toList) | _=>none) | _=>none
noncomputable def bmV:List Value:=[.type "ValueError",.type "Exception",.type "BaseException",.type "object"]
noncomputable def zdG(K:W.Frag)(C:Addr):Bool:=match K.lookup C with | some ⟨.type t,_,.cls _,_⟩=>t=="type" | _=>false
noncomputable def zmR(K:W.Frag)(x:Str):Bool:=match W.nsIn K mainGlobals x with
 | some (some (.ref C))=>W.excIn K C bmV "ValueError.__new__"&&(W.findIn K (.ref C) "__getattribute__"==some (some (.builtin "BaseException.__getattribute__"))&&(W.findIn K (.ref C) "__getattr__"==some none && (W.findIn K (.ref C) "__class__"==some (some (.builtin "object.__class__"))&&(W.mroIn K C (.type "object")==some true&&(W.mroIn K C (.type "BaseException")==some true&&(zdG K C&&W.kitOne K (.ref C) (.type "ValueError")==some true)))))) | _=>false
noncomputable def zkz(K:W.Frag)(x y:Str):Option (Option Bool×Option Bool):=match W.nsIn K mainGlobals x,W.nsIn K mainGlobals y with
 | some (some (.ref C)),some (some (.ref D))=>some (W.mroIn K C (.ref D),W.kitOne K (.ref C) (.ref D)) | _,_=>none
noncomputable abbrev Obs:=List (Option FV)×List Bool×List (Option Int)×List (Option (Bool×Bool×Bool×Bool×List (Int×Option Str×Bool)))×List (Option (Bool×Option (List Int)))×List Bool×List (Option (Option Bool×Option Bool))
structure Ask where
 fs:List (Str×Stmt)
 bs:List Str
 cs:List (Str×Int)
 ts:List (Str×List (Str×Str))
 us:List (Str×List Int)
 xs:List Str
 ps:List ((Str×Str)×Bool)
noncomputable def zeG(q:Ask)(K:W.Frag):Obs:=(q.fs.map λp=>zji K p.1,q.bs.map (ziC K),q.cs.map λp=>zjQ K p.1,q.ts.map (λp=>zj8 K p.1 (p.2.map (·.2))),q.us.map (λp=>zmU K p.1),q.xs.map (zmR K),q.ps.map λp=>zkz K p.1.1 p.1.2)
noncomputable def obsS(q:Ask)(s:Shared):Obs:=zeG q (gat s.heap (q.fs.map (·.1)++q.ts.map (·.1)++q.us.map (·.1)++q.xs))
noncomputable def valS(q:Ask)(w:World):Obs:=(q.fs.map λp=>znl p.1 p.2,q.bs.map λ_=>true,q.cs.map λp=>some p.2,q.ts.map (λp=>zn8 w p.2),q.us.map (λp=>some (true,some p.2)),q.xs.map λ_=>true,q.ps.map λp=>some (some p.2,some p.2))
noncomputable def z3C(tb:String->Option Builtin)(p:Program)(w:World)(n₀:Nat)(dR:Option Value):Nat->W.SharedT->Thread->Option W.SharedT
 | 0,_,_=>none | n+1,s,t=>match W.through t with
  | true=>some s | false=>match W.stepOk n₀ dR t with
   | false=>none | true=>match W.stepT (denote tb) p w s t with
    | some (s',t')=>z3C tb p w n₀ dR n s' t' | none=>none
noncomputable def zkL(l:List Obj):W.BT×Nat:=l.foldl (λa o=>(a.1.ins a.2 o,a.2+1)) (W.BT.nil,0)
noncomputable def zkt(P:Params):W.BT:=(zkL (W.boot_heap P).objs.toList).1
end Dd
namespace bH
open Dd
noncomputable def top(i:Nat):Stmt:=PySem.Challenge.pw_drawndown_k54_whole_least.main.body.getD i (.Pass ⟨0,0,0,0⟩)
abbrev z3z:Stmt:=top 13
abbrev z31:Stmt:=top 15
noncomputable abbrev qh:Stmt:=top 17
abbrev z2u:Stmt:=top 28
noncomputable abbrev kQ:Stmt:=top 30
noncomputable abbrev z0x:Stmt:=top 32
noncomputable abbrev z56:Stmt:=top 34
noncomputable abbrev z54:Stmt:=top 35
noncomputable abbrev z7k:Stmt:=top 41
noncomputable abbrev z7W:Stmt:=top 42
abbrev z6P:Stmt:=top 52
abbrev zaM:Stmt:=top 53
abbrev vz:Stmt:=top 55
abbrev kH:Stmt:=top 56
abbrev z5c:Stmt:=top 57
abbrev z4H:Stmt:=top 63
abbrev zan:Stmt:=top 70
abbrev jm:Stmt:=top 81
abbrev z3Q:Stmt:=top 82
abbrev z23:Stmt:=top 83
abbrev z0f:Stmt:=top 84
noncomputable abbrev z0b:Stmt:=top 14
abbrev ky:Stmt:=top 16
abbrev kD:Stmt:=top 29
abbrev z1G:Stmt:=top 33
abbrev uN:Stmt:=top 43
abbrev z4T:Stmt:=top 58
abbrev z2y:Stmt:=top 59
abbrev z6Z:Stmt:=top 60
abbrev z5b:Stmt:=top 61
abbrev z1E:Stmt:=top 64
abbrev qt:Stmt:=top 85
abbrev z85:Stmt:=top 19
abbrev z2S:Stmt:=top 23
abbrev z22:Stmt:=top 50
abbrev z3p:Stmt:=top 69
abbrev z4K:Stmt:=top 77
abbrev z2w:Stmt:=top 20
noncomputable abbrev z0G:Stmt:=top 24
noncomputable abbrev z1y:Stmt:=top 21
noncomputable abbrev z0r:Stmt:=top 25
noncomputable abbrev z15:Stmt:=top 26
abbrev z0n:Stmt:=top 39
abbrev vX:Stmt:=top 65
abbrev kP:Stmt:=top 76
abbrev kB:Stmt:=top 27
noncomputable abbrev uD:Stmt:=top 31
noncomputable abbrev vp:Stmt:=top 40
abbrev z1K:Stmt:=top 44
abbrev z21:Stmt:=top 66
abbrev z1q:Stmt:=top 45
abbrev jx:Stmt:=top 46
noncomputable abbrev z3G:Stmt:=top 48
noncomputable abbrev z2C:Stmt:=top 49
noncomputable abbrev kS:Stmt:=top 51
abbrev zct:Stmt:=top 67
abbrev z0H:Stmt:=top 68
noncomputable abbrev jK:Stmt:=top 47
abbrev zhg:Stmt:=top 71
abbrev z1D:Stmt:=top 72
abbrev kz:Stmt:=top 73
abbrev ke:Stmt:=top 74
abbrev z14:Stmt:=top 78
abbrev zcE:Stmt:=top 79
abbrev uM:Stmt:=top 86
abbrev z4s:Stmt:=top 87
noncomputable def zap:List (Str×Str):=[("next","by_next"),("least","by_least"),("all","by_all"),("turn","by_turn")]
noncomputable def askQ:Ask:=⟨[(("is_whole":Str),z3z), (("has_size":Str),z31), (("tuples_between":Str),qh), (("together":Str),z2u), (("like_places":Str),kQ), (("columns_of":Str),z0x), (("without":Str),z56), (("sign_at":Str),z54), (("weight":Str),z7k), (("length":Str),z7W), (("turned":Str),z6P), (("above":Str),zaM), (("greatest_and_others":Str),vz), (("least_place":Str),kH), (("all_but":Str),z5c), (("is_rule":Str),z4H), (("moved":Str),zan), (("_law_cell_at":Str),jm), (("_law_pot":Str),z3Q), (("_law_take":Str),z23), (("_law_rules":Str),z0f), (("are_wholes":Str),z0b), (("want_number":Str),ky), (("lines_times":Str),kD), (("number_of":Str),z1G), (("relations_within":Str),uN), (("by_next":Str),z4T), (("by_least":Str),z2y), (("by_all":Str),z6Z), (("by_turn":Str),z5b), (("want_rule":Str),z1E), (("_law_small_lot":Str),qt), (("is_lot":Str),z85), (("is_table":Str),z2S), (("is_taking":Str),z22), (("division":Str),z3p), (("come_to":Str),z4K), (("want_lot":Str),z2w), (("want_table":Str),z0G), (("has_ended":Str),z1y), (("multiplied":Str),z0r), (("one_number":Str),z15), (("want_small":Str),z0n), (("want_rule_and_lot":Str),vX), (("is_relation":Str),kP), (("turned_back":Str),kB), (("growing_products":Str),uD), (("want_small_and_often":Str),vp), (("by_weight":Str),z1K), (("want_step":Str),z21), (("by_length":Str),z1q), (("least_weight":Str),jx), (("has_none":Str),z3G), (("is_clash":Str),z2C), (("first_clash":Str),kS), (("step":Str),zct), (("step_table":Str),z0H), (("least_length":Str),jK), (("run":Str),zhg), (("tables_of":Str),z1D), (("products_of":Str),kz), (("whole_table":Str),ke), (("lines_back":Str),z14), (("base":Str),zcE), (("_law_lists_right":Str),uM), (("law":Str),z4s)], [("abs":Str),("all":Str),("bool":Str),("enumerate":Str),("int":Str),("isinstance":Str),("len":Str),("list":Str),("max":Str),("min":Str),("range":Str),("sorted":Str),("str":Str),("sum":Str),("tuple":Str),("zip":Str)], [(("LEAST_SIZE":Str),(2:Int)),(("MOST_NUMBER":Str),(1000:Int)),(("MOST_OFTEN":Str),(8:Int)),(("MOST_SIZE":Str),(4:Int))], [(("RULES":Str),zap)], [], [], []⟩
noncomputable def qv:Program:=W.view PySem.Challenge.pw_drawndown_k54_whole_least [87]
noncomputable def looseQ:List Str:=[("DrawError":Str),("NoLot":Str),("NoTable":Str),("NotAlike":Str),("NotFair":Str),("NoRule":Str),("Ended":Str),("NoNumber":Str),("TooMany":Str),("LEAST_SIZE":Str),("MOST_SIZE":Str),("is_whole":Str),("are_wholes":Str),("has_size":Str),("want_number":Str),("tuples_between":Str),("is_lot":Str),("want_lot":Str),("has_ended":Str),("is_table":Str),("want_table":Str),("multiplied":Str),("one_number":Str),("turned_back":Str),("together":Str),("lines_times":Str),("like_places":Str),("growing_products":Str),("columns_of":Str),("number_of":Str),("without":Str),("sign_at":Str),("MOST_NUMBER":Str),("MOST_OFTEN":Str),("want_small":Str),("want_small_and_often":Str),("weight":Str),("length":Str),("relations_within":Str),("by_weight":Str),("by_length":Str),("least_weight":Str),("least_length":Str),("has_none":Str),("is_clash":Str),("is_taking":Str),("first_clash":Str),("turned":Str),("above":Str),("greatest_and_others":Str),("least_place":Str),("all_but":Str),("by_next":Str),("by_least":Str),("by_all":Str),("by_turn":Str),("RULES":Str),("is_rule":Str),("want_rule":Str),("want_rule_and_lot":Str),("want_step":Str),("step":Str),("step_table":Str),("division":Str),("moved":Str),("run":Str),("tables_of":Str),("products_of":Str),("whole_table":Str),("is_relation":Str),("come_to":Str),("lines_back":Str),("base":Str),("_law_cell_at":Str),("_law_pot":Str),("_law_take":Str),("_law_rules":Str),("_law_small_lot":Str),("_law_lists_right":Str)]
noncomputable def lvQ:List (Str×W.WData):=[]
noncomputable def xtQ:Shared->Bool:=λs=>W.xlAt qv lvQ s&&W.recOk (W.RowW.records (W.OpenRow.toRowW (W.OpenLaw.row PySem.Challenge.rw_drawndown_k54_whole_least))) s
theorem zpc:∀w:World,W.absHeap (zkt w.params) 11 (W.boot_heap w.params).life=W.boot_heap w.params:=by
 intro w;kernel_rfl
theorem bsz:∀w:World,((W.boot_heap w.params).isNs mainGlobals&&(Array.mk []:Array GenState).size==0,(W.boot_heap w.params).objs.size,(W.boot_heap w.params).nsMap mainGlobals "__annotations__")=(true,11,(some (.ref 6))):=by
 intro w;kernel_rfl
noncomputable def zjW(w v:World)(os:OsState):Option W.SharedT:=z3C treeTable PySem.Challenge.pw_drawndown_k54_whole_least v 11 (some (.ref 6)) 7992 ⟨zkt w.params,11,(W.boot_heap w.params).life,Array.mk [],W.boot_drawn,W.boot_toks,os⟩ (W.topStub PySem.Challenge.pw_drawndown_k54_whole_least)
noncomputable def zlK(w:World)(s:W.SharedT):Bool:=W.staticsOk (importedModules PySem.Challenge.pw_drawndown_k54_whole_least.main.body) (W.boot_heap w.params) s.abs.heap&&W.namesBound PySem.Challenge.pw_drawndown_k54_whole_least s.abs.heap&&W.gensDone s.abs&&W.laidKept (W.boot_heap w.params) s.abs.heap
noncomputable def seenQ(s:Shared):=W.openSeen qv looseQ (importedModules PySem.Challenge.pw_drawndown_k54_whole_least.main.body) xtQ true s
theorem zpv{α β γ δ:Type}(x:α×β×γ×δ):(x.1,x.2.1,x.2.2.1,x.2.2.2)=x:=rfl
noncomputable def zjx(s:Shared):=((seenQ s).1,(seenQ s).2.1,(seenQ s).2.2.1,(seenQ s).2.2.2)
noncomputable def zjM:=((W.openGood qv looseQ).1,(W.openGood qv looseQ).2.1,(W.openGood qv looseQ).2.2.1,(W.openGood qv looseQ).2.2.2)
theorem zaj(s:Shared):zjx s=seenQ s:=zpv _
theorem zaD:zjM=W.openGood qv looseQ:=zpv _
set_option maxRecDepth 1000000 in
theorem z6A:∀(w:World)(os:OsState),(zjW w (w.withFollow "special-get-raises" false) os).map (λs=>(zlK w s,obsS askQ s.abs))=some (true,valS askQ (w.withFollow "special-get-raises" false)):=by
 intro w os;kernel_rfl
set_option maxRecDepth 1000000 in
theorem z6B:∀(w:World)(os:OsState),(zjW w (w.withFollow "special-get-raises" false) os).map (λs=>zjx s.abs)=some zjM:=by
 intro w os;kernel_rfl
theorem z7f(w:World)(os:OsState):(zjW w (w.withFollow "special-get-raises" false) os).map (λs=>seenQ s.abs)=some (W.openGood qv looseQ):=by
 have h:=z6B w os;simp only[zaj,zaD]at h;exact h
set_option maxRecDepth 1000000 in
theorem z8S:∀(w:World)(os:OsState),(zjW w (w.withFollow "special-get-raises" true) os).map (λs=>(zlK w s,obsS askQ s.abs))=some (true,valS askQ (w.withFollow "special-get-raises" true)):=by
 intro w os;kernel_rfl
set_option maxRecDepth 1000000 in
theorem z9h:∀(w:World)(os:OsState),(zjW w (w.withFollow "special-get-raises" true) os).map (λs=>zjx s.abs)=some zjM:=by
 intro w os;kernel_rfl
theorem z9a(w:World)(os:OsState):(zjW w (w.withFollow "special-get-raises" true) os).map (λs=>seenQ s.abs)=some (W.openGood qv looseQ):=by
 have h:=z9h w os;simp only[zaj,zaD]at h;exact h
set_option maxRecDepth 1000000 in
theorem said_:W.OpenLaw.wellSaid PySem.Challenge.rw_drawndown_k54_whole_least=true:=by kernel_rfl
end bH
namespace L2
abbrev Key:=Sum Int Str
noncomputable def z63:Key->Value->Bool
 | .inl k,v=>Value.isInt k v | .inr x,v=>Value.isStrOf x v
noncomputable def zqh(w:World):Key->Int
 | .inl k=>hashInt k | .inr x=>hashStr w x
theorem yK:∀{k:Key}{v:Value},z63 k v=true->(∃i t,k=Sum.inl i/\v=Value.int i t)\/(∃x t,k=Sum.inr x/\v=Value.str x t)
 | .inl i,v,h=>by
  obtain⟨t,e⟩:=Value.isInt_shape   h;exact .inl ⟨i,t,rfl,e⟩ | .inr x,v,h=>by
  obtain⟨t,e⟩:=Value.isStrOf_shape   h;exact .inr ⟨x,t,rfl,e⟩
theorem zcg(i:Int)(t:Tok):z63 (.inl i) (.int i t)=true:=by simp[z63,Value.isInt]
theorem z3A(x:Str)(t:Tok):z63 (.inr x) (.str x t)=true:=by simp[z63,Value.isStrOf]
theorem zma(a b:Int):decide ((Sum.inl a:Key)=Sum.inl b)=(a==b):=by
 by_cases e:a=b;·subst e;simp
 ·rw[_R (λq=>e (Sum.inl.inj q))];exact (beq_eq_false_iff_ne.mpr e).symm
theorem zmf(a b:Str):decide ((Sum.inr a:Key)=Sum.inr b)=decide (a=b):=by
 by_cases e:a=b;·simp
 ·rw[_R (λq=>e (Sum.inr.inj q)),_R e]
theorem zkF(a:Int)(b:Str):decide ((Sum.inl a:Key)=Sum.inr b)=false:=_R (λq=>nomatch q)
theorem zkM(a:Str)(b:Int):decide ((Sum.inr a:Key)=Sum.inl b)=false:=_R (λq=>nomatch q)
noncomputable def zX(prog:Program)(w:World):PySem.KeyKind prog w Key where
 is:=z63;hash:=zqh w;inj:=λv a b ha hb=>by
  rcases yK ha with⟨i,t,rfl,rfl⟩ | ⟨x,t,rfl,rfl⟩
  ·rcases yK hb with⟨j,u,rfl,e⟩ | ⟨y,u,rfl,e⟩;·injection e with e1 _;rw[e1]
   ·exact nomatch e
  ·rcases yK hb with⟨j,u,rfl,e⟩ | ⟨y,u,rfl,e⟩;·exact nomatch e
   ·injection e with e1 _;rw[e1]
 byValue:=λk v h=>by rcases yK h with⟨i,t,rfl,rfl⟩ | ⟨x,t,rfl,rfl⟩<;>rfl
 pyHash:=λhv h=>by
  rcases yK hv with⟨i,t,rfl,rfl⟩ | ⟨x,t,rfl,rfl⟩;·exact wpAny_pyHash_int h
  ·exact wpAny_pyHash_str h
 eqBool:=λhu hv h=>by
  rcases yK hu with⟨i,t,rfl,rfl⟩ | ⟨x,t,rfl,rfl⟩
  ·rcases yK hv with⟨j,u,rfl,rfl⟩ | ⟨y,u,rfl,rfl⟩;·rw[zma]at h;exact _de h
   ·rw[zkF]at h;exact SeqAt.EqAt.int_str i t y u _ _ _ _ h
  ·rcases yK hv with⟨j,u,rfl,rfl⟩ | ⟨y,u,rfl,rfl⟩;·rw[zkM]at h;exact SeqAt.EqAt.str_int x t j u _ _ _ _ h
   ·rw[zmf]at h;exact wpAny_eqBool_str h
 «strs» := λk x t v h=>by
  rcases yK h with⟨i,u,rfl,e⟩ | ⟨y,u,rfl,e⟩;·exact nomatch e
  ·injection e with e1 _;subst e1;cases v<;>rfl
theorem z4n(prog:Program)(w:World)(k:Key)(v:Value):(zX prog w).is k v=z63 k v:=rfl
theorem z8n(prog:Program)(w:World)(i:Int)(t:Tok):(zX prog w).is (.inl i) (.int i t)=true:=zcg i t
theorem z2X(prog:Program)(w:World)(x:Str)(t:Tok):(zX prog w).is (.inr x) (.str x t)=true:=z3A x t
inductive V where | non | bl (b:Bool) | int (i:Int) | str (x:Str) | byt (b:Array UInt8) | flt (b:UInt64) | ref (a:Addr) | ty (n:String) deriving DecidableEq
def xr:V->Value->Prop
 | .non,u=>u=Value.none | .bl b,u=>u=Value.bool b | .int i,u=>∃t,u=Value.int i t | .str x,u=>∃t,u=Value.str x t | .byt b,u=>∃t,u=Value.bytes b t | .flt b,u=>∃t,u=Value.float b t | .ref a,u=>u=Value.ref a | .ty n,u=>u=Value.type n
abbrev xF:List V->List Value->Prop:=Paired xr
theorem xF.length   (r:xF xs us):xs.length=us.length:=Paired.length r
theorem xF.get:∀{xs:List V}{us:List Value}{i:Nat}{x:V},xF xs us->xs[i]? = some x->∃u,us[i]? = some u/\xr x u
 | _,_,_,_,.nil,e=>by cases e | _,_,0,_,.cons r _,e=>by simp at e;subst e;exact⟨_,rfl,r⟩ | _,_,i+1,x,.cons _ t,e=>by
  obtain⟨u,h1,h2⟩:=xF.get   t (by exact e);exact⟨u,by exact h1,h2⟩
theorem xF.set   (r:xr x u):∀{xs:List V}{us:List Value}(i:Nat),xF xs us->xF (xs.set i x) (us.set i u)
 | _,_,_,.nil=>.nil | _,_,0,.cons _ t=>.cons r t | _,_,i+1,.cons q t=>.cons q (xF.set r i t)
theorem xF.append:∀{xs ys:List V}{us ws:List Value},xF xs us->xF ys ws->xF (xs++ys) (us++ws)
 | _,_,_,_,.nil,s=>s | _,_,_,_,.cons r t,s=>.cons r (xF.append t s)
theorem xF.take:∀{xs:List V}{us:List Value}(n:Nat),xF xs us->xF (xs.take n) (us.take n)
 | _,_,0,_=>.nil | _,_,_+1,.nil=>.nil | _,_,n+1,.cons r t=>.cons r (xF.take n t)
theorem xF.drop:∀{xs:List V}{us:List Value}(n:Nat),xF xs us->xF (xs.drop n) (us.drop n)
 | _,_,0,r=>r | _,_,_+1,.nil=>.nil | _,_,n+1,.cons _ t=>xF.drop n t
def zjP:Option V->Option Value->Prop
 | some v,some u=>xr v u | none,none=>True | _,_=>False
def KV  : List (κ×V)->List (κ×Value)->Prop:=Paired λ(p:κ×V)(q:κ×Value)=>p.1=q.1/\xr p.2 q.2
noncomputable def kV:Key->V
 | .inl i=>.int i | .inr x=>.str x
inductive HO where | lst (xs:List V) | tup (xs:List V) | dK (ae:List (Key×V)) | dT (ae:List (List Key×V)) | set (S:Int->Bool)(n:Nat) | ins (C dx:Addr)(fs:List (Str×V)) | own (x:Addr) | xd (fs:List (Str×V)) | met (f x:Addr) | rng (lo hi:Int) | frz (o:Obj)(u:HO) | tbl (ps:Array Value) | ext (φ:Heap->Prop)
abbrev Hp:=Addr->Option HO
noncomputable def upd(H:Hp)(a:Addr)(o:HO):Hp:=λb=>if b=a then some o else H b
theorem zP    : upd H a o a=some o:=by unfold upd;rw[_l rfl]
theorem zq    (h:b≠a):upd H a o b=H b:=by unfold upd;rw[_p h]
theorem zcB    : upd (upd H a o) a u=upd H a u:=by funext b;unfold upd;split<;>rfl
theorem xh{H:Hp}   (h:H a=some o)(h':H b=none):a≠b:=by intro e;subst e;rw[h]at h';cases h'
def zez(h:Heap)(a:Addr)(items:Array Value):Prop:=∃o,h.get? a=some o/\o.cls=.type "tuple"/\o.dict=none/\∃n,o.data=.seq items n
theorem zez.tup{h:Heap}{a:Addr}{items:Array Value}(x:zez h a items):IsTup h a items:=let ⟨o,e,c,_,r⟩:=x;⟨o,e,c,r⟩
theorem zez.new(h:Heap)(items:Array Value):zez (h.push {cls:=.type "tuple",data:=.seq items}) h.objs.size items:=⟨_,_x _ rfl,rfl,rfl,_,rfl⟩
theorem zez.lt    (x:zez h a items):a<h.objs.size:=x.tup.lt
section
variable (P:Program)(w:World)
def uZ(H:Hp)(h:Heap)(a:Addr):HO->Prop
 | .lst xs=>xs.length<=sizeLine/\∃(ah:List Value)(n:Nat),xF xs ah/\h.get? a=some {cls:=.type "list",data:=.seq ah.toArray n} | .tup xs=>xs.length<=sizeLine/\∃ah:List Value,xF xs ah/\zez h a ah.toArray | .dK ae=>ae.length<=sizeLine/\(a==sysModules)=false/\∃vs,KV ae vs/\h.DictOf (zX P w) a vs | .dT ae=>ae.length<=sizeLine/\(a==sysModules)=false/\∃xs:List (List Key×Addr×Value), Paired (λ(p:List Key×V)(q:List Key×Addr×Value)=>p.1=q.1/\H q.2.1=some (.tup (p.1.map kV))/\xr p.2 q.2.2) ae xs/\ ∃o es ep,h.get? a=some o/\o.ExactDict/\o.data=.dict es ep/\es.toList=xs.map (entryOfKey (tupleKind (zX P w)))/\(xs.map (·.1)).Nodup | .set S n=>h.SetOf (intKind P w) a S n | .ins C dx fs=>H dx=some (.own a)/\fs.length<=1000/\dx≠a/\h.get? a=some (W.instObj C dx)/\ ∃mA,h.Ns1 dx mA/\(∀f,zjP (fs.lookup f) (mA f))/\PySem.Within mA (fs.map (·.1)) | .own _=>∃o,h.get? a=some o | .xd fs=>∃mA,h.Ns1 a mA/\∀f,zjP (fs.lookup f) (mA f) | .rng lo hi=>∃t u v,h.get? a=some {cls:=.type "range",data:=.fields #[.int lo t,.int hi u,.int 1 v]} | .frz o u=>h.get? a=some o/\uZ H h a u | .tbl ps=>h.get? a=some {cls:=.none,data:=.fields ps} | .met f x=>h.get? a=some (W.methodObj (.ref f) (.ref x)) | .ext φ=>φ h/\(∃o,h.get? a=some o)/\∀h1 h2:Heap,φ h1->(∀o,h1.get? a=some o->h2.get? a=some o)->φ h2
def HOk(H:Hp)(h:Heap):Prop:=∀a o,H a=some o->uZ P w H h a o
end
section
variable {P:Program}{w:World}{H H':Hp}{h h':Heap}{a:Addr}{o:HO}
theorem uZ.lt(x:uZ P w H h a o):a<h.objs.size:=by cases o with
 | lst xs=>obtain⟨_,_,_,_,e⟩:=x;exact _u e | tup xs=>obtain⟨_,_,_,p⟩:=x;exact p.lt | dK ae=>obtain⟨_,_,_,_,o,_,_,e,_⟩:=x;exact _u e | dT ae=>obtain⟨_,_,_,_,o,_,_,e,_⟩:=x;exact _u e | set S n=>obtain⟨o,_,_,_,e,_⟩:=x;exact _u e | ins C dx fs=>obtain⟨_,_,_,e,_⟩:=x;exact _u e | own y=>obtain⟨_,e⟩:=x;exact _u e | xd fs=>obtain⟨_,⟨_,_,_,e,_⟩,_⟩:=x;exact _u e | rng lo hi=>obtain⟨_,_,_,e⟩:=x;exact _u e | frz ob u=>obtain⟨e,_⟩:=x;exact _u e | tbl ps=>exact _u (x) | met f y=>exact _u (x) | ext φ=>obtain⟨_,⟨_,e⟩,_⟩:=x;exact _u e
theorem Paired.mapP   : ∀{l₁:List α}{l₂:List β},Paired F l₁ l₂->(∀a b,F a b->G a b)->Paired G l₁ l₂
 | _,_,.nil,_=>.nil | _,_,.cons r t,f=>.cons (f _ _ r) (Paired.mapP t f)
theorem uZ.stay(x:uZ P w H h a o)(k:∀b u,(b=a\/H b=some (.own a))->h.get? b=some u->h'.get? b=some u) (ho:∀b,H b=some (.own a)->H' b=some (.own a))(ht:∀b xs,H b=some (.tup xs)->H' b=some (.tup xs)):uZ P w H' h' a o:=by induction o with
 | lst xs=>obtain⟨z,ah,n,r,e⟩:=x;exact⟨z,ah,n,r,k _ _ (.inl rfl) e⟩ | tup xs=>obtain⟨z,ah,r,ob,e,c⟩:=x;exact⟨z,ah,r,ob,k _ _ (.inl rfl) e,c⟩ | dK ae=>obtain⟨z,y,vs,r,ob,es,ep,e,c⟩:=x;exact⟨z,y,vs,r,ob,es,ep,k _ _ (.inl rfl) e,c⟩ | dT ae=>
  obtain⟨z,y,xs,r,ob,es,ep,e,c⟩:=x;exact⟨z,y,xs,Paired.mapP r λp q z=>⟨z.1,ht _ _ z.2.1,z.2.2⟩,ob,es,ep,k _ _ (.inl rfl) e,c⟩ | set S n=>obtain⟨ob,es,ep,t,e,c⟩:=x;exact⟨ob,es,ep,t,k _ _ (.inl rfl) e,c⟩ | ins C dx fs=>
  obtain⟨d,z,ne,e,mA,⟨od,es,ep,e2,c⟩,r⟩:=x;exact⟨ho _ d,z,ne,k _ _ (.inl rfl) e,mA,⟨od,es,ep,k _ _ (.inr d) e2,c⟩,r⟩ | own y=>obtain⟨ob,e⟩:=x;exact⟨ob,k _ _ (.inl rfl) e⟩ | xd fs=>obtain⟨mA,⟨od,es,ep,e,c⟩,r⟩:=x;exact⟨mA,⟨od,es,ep,k _ _ (.inl rfl) e,c⟩,r⟩ | rng lo hi=>obtain⟨t,u,v,e⟩:=x;exact⟨t,u,v,k _ _ (.inl rfl) e⟩ | frz ob u ih=>obtain⟨e,q⟩:=x;exact⟨k _ _ (.inl rfl) e,ih q⟩ | tbl ps=> exact k a _ (.inl rfl) x | met f y=> exact k a _ (.inl rfl) x | ext φ=>obtain⟨p,⟨o,e⟩,st⟩:=x;exact⟨st _ _ p λo q=>k _ _ (.inl rfl) q,⟨o,k _ _ (.inl rfl) e⟩,st⟩
theorem HOk.lt(x:HOk P w H h)(e:H a=some o):a<h.objs.size:=(x a o e).lt
theorem HOk.fresh(x:HOk P w H h)(e:h.objs.size<=a):H a=none:=by cases q:H a with
 | none=>rfl | some u=>exact absurd (_q (x.lt q) e) (_aB _)
theorem HOk.kept(x:HOk P w H h)(k:∀b u,h.get? b=some u->h'.get? b=some u):HOk P w H h':=λa o e=> (x a o e).stay (λb u _ q=>k b u q) (λ_ q=>q) λ_ _ q=>q
theorem HOk.laid(x:HOk P w H h)(k:∀b u,h.get? b=some u->h'.get? b=some u)(hp:h.objs.size<=a)(new:uZ P w (upd H a o) h' a o):HOk P w (upd H a o) h':=λb u e=>by
 have hn:=x.fresh hp;by_cases hb:b=a;·subst hb;rw[zP]at e;cases e;exact new
 ·rw[zq hb]at e;exact (x b u e).stay (λc v _ q=>k c v q) (λc q=>by rw[zq (xh q hn)];exact q) λc xs q=>by rw[zq (xh q hn)];exact q
end
def Rd(H:Hp)(a:Addr)(u:HO):Prop:=H a=some u\/∃o,H a=some (.frz o u)
theorem Rd.ok       (r:Rd H a u)(x:HOk P w H h):uZ P w H h a u:=by
 rcases r with r | ⟨o,r⟩;·exact x a u r
 ·obtain⟨_,q⟩:=x a _ r;exact q
def Mut:Option HO->Prop
 | some (.lst _)=>True | some (.dK _)=>True | some (.dT _)=>True | some (.set _ _)=>True | some (.ins _ _ _)=>True | some (.ext _)=>True | _=>False
section
variable {P:Program}{w:World}{H:Hp}{h h':Heap}{x e:Addr}{o':HO}
theorem HOk.write(ok:HOk P w H h)(mu:Mut (H x))(he:e=x\/H e=some (.own x))(k:∀b u,b≠e->h.get? b=some u->h'.get? b=some u)(eJ:∃u,h'.get? e=some u) (new:uZ P w (upd H x o') h' x o'):HOk P w (upd H x o') h':=λb u q=>by
 have fq:∀c y,H c=some (.own y)->c≠x:=λc y r z=>by subst z;rw[r]at mu;exact mu
 by_cases hb:b=x;·subst hb;rw[zP]at q;cases q;exact new
 ·rw[zq hb]at q;by_cases dS:b=e
  ·have q':H b=some (.own x):=by
    rcases he with z | z;·exact absurd (dS.trans z) hb
    ·rw[dS];exact z
   rw[q]at q';cases q';obtain⟨v,hv⟩:=eJ;exact⟨v,by rw[dS];exact hv⟩
  ·refine (ok b u q).stay (λc v hc r=>k c v ?_ r) (λc r=>by rw[zq (fq c b r)];exact r) λc xs r=>by rw[zq ((λc xs r z=>by subst z;rw[r]at mu;exact mu) c xs r)];exact r
   rcases hc with rfl | hc;·exact dS
   ·rintro rfl;rcases he with z | z;·exact fq c b hc z
    ·rw[hc]at z;cases z;exact hb rfl
end
structure Un(fs ex:List Addr)(H H':Hp)(h h':Heap):Prop where
 keep:∀b o,h.get? b=some o->H b=none->b∉fs->b∉ex->h'.get? b=some o
 slot:∀b o,h.get? b=some o->H b=none->b∈fs->b∉ex->∃sl,h'.get? b=some {o with slots:=sl}
 free:∀b o,h.get? b=some o->H b=none->b∉ex->H' b=none
 there:∀b o,h.get? b=some o->b∉ex->∃o',h'.get? b=some o'
 tups:∀b xs,H b=some (.tup xs)->H' b=some (.tup xs)
 frzs:∀b o u,H b=some (.frz o u)->H' b=some (.frz o u)
 tbls:∀b ps,H b=some (.tbl ps)->∃more,H' b=some (.tbl (ps++more))
section
variable {fs eK ex rh:List Addr}{H H1 H2:Hp}{h h1 h2 h':Heap}{a x e:Addr}{o:HO}
theorem Un.any(u:Un fs ex H H1 h h1)   (q:h.get? b=some ob)(n:H b=none)(hx:b∉ex):∃sl,h1.get? b=some {ob with slots:=sl}:=by
 by_cases hb:b∈fs;·exact u.slot b ob q n hb hx
 ·exact⟨ob.slots,u.keep b ob q n hb hx⟩
theorem Un.kept(k:∀b u,h.get? b=some u->h'.get? b=some u):Un fs ex H H h h':= ⟨λb ob q _ _ _=>k b ob q,λb ob q _ _ _=>⟨ob.slots,k b ob q⟩,λ_ _ _ n _=>n,λb ob q _=>⟨ob,k b ob q⟩,λ_ _ q=>q,λ_ _ _ q=>q,λ_ ps q=>⟨#[],by rw[q];rfl⟩⟩
theorem Un.refl:Un fs ex H H h h:=Un.kept λ_ _ q=>q
theorem Un.laid(k:∀b u,h.get? b=some u->h'.get? b=some u)(hp:h.objs.size<=a)(hn:H a=none):Un fs ex H (upd H a o) h h' where
 keep:=λb u q _ _ _=>k b u q;slot:=λb u q _ _ _=>⟨u.slots,k b u q⟩;free:=λb u q n _=>by rw[zq (_H (_q (_u q) hp))];exact n
 there:=λb u q _=>⟨u,k b u q⟩;tups:=λb xs q=>by rw[zq (xh q hn)];exact q
 frzs:=λb u xs q=>by rw[zq (xh q hn)];exact q
 tbls:=λb ps q=>⟨#[],by rw[zq (xh q hn),q];rfl⟩
theorem Un.write(mu:Mut (H x))(he:e=x\/H e=some (.own x))(k:∀b u,b≠e->h.get? b=some u->h'.get? b=some u)(eJ:∃u,h'.get? e=some u):Un fs ex H (upd H x o) h h':=by
 have hx:∀b,H b=none->b≠x:=λb n z=>by subst z;rw[n]at mu;exact mu
 have hb:∀b,H b=none->b≠e:=λb n z=>by
  subst z;rcases he with r | r;·exact hx b n r
  ·rw[n]at r;cases r
 have hm:∀b u,H b=some u->¬ Mut (some u)->b≠x:=λb u q nm z=>by subst z;rw[q]at mu;exact nm mu
 refine⟨λb u q n _ _=>k b u (hb b n) q,λb u q n _ _=>⟨u.slots,k b u (hb b n) q⟩,λb u q n _=>by rw[zq (hx b n)];exact n,λb u q _=>?_, λb xs q=>by rw[zq (hm b _ q λz=>z)];exact q,λb u xs q=>by rw[zq (hm b _ q λz=>z)];exact q,λb ps q=>⟨#[],by rw[zq (hm b _ q λz=>z),q];rfl⟩⟩;by_cases dS:b=e;·subst dS;exact eJ
 ·exact⟨u,k b u dS q⟩
end
noncomputable def trk(h:Heap)(H:Hp):List Addr:=(List.range h.objs.size).filter λa=>(H a).isSome
noncomputable def zk3(h:Heap)(H:Hp):Heap:=W.hideAll h (trk h H)
theorem zbX(h:Heap)(H:Hp):(zk3 h H).objs.size=h.objs.size:=W.hideAll_size _ _
theorem zfx     (e:h.get? b=some o)(n:H b=none):(zk3 h H).get? b=some o:= W.hideAll_get _ e λhm=>by
  have q  := (_L.mp hm).2;rw[n]at q;cases q
theorem zjU     (e:(zk3 h H).get? b=some o):h.get? b=some o/\H b=none:=by
 have e'  := W.of_hideAll (trk h H) e;refine⟨e',?_⟩;cases q:H b with
 | none=>rfl | some x=>
  have z:(zk3 h H).get? b=none:=W.hideAll_none (trk h H) (_L.mpr ⟨_bs.mpr (_u e'),by simp[q]⟩);rw[z]at e;cases e
noncomputable def zjj(g h:Heap)(L:Addr):List (Addr×Obj):=(List.range h.objs.size).filterMap λa=>if a=L\/(g.get? a).isSome=true then none else (h.get? a).map λo=>(a,o)
noncomputable def kc(g h:Heap)(L d:Addr):List (Addr×Obj):=(zjj g h L).filter λp=>decide (p.1≠d)
structure Mod(K:W.Frag)(mg:Str->Option Value)(base:Heap):Prop where
 kin:K.In base
 glob:base.Ns mainGlobals mg
 blt:∃mb,base.Ns builtinsNs mb/\∀x:Str,x≠"__name__"->mb x=bootBuiltins x
 nolimit:base.NoLimit
structure Cx where
 prog:Program
 w:World
 K:W.Frag
 mg:Str->Option Value
 base:Heap
 A:Around
 N:List Str
 s₀:Shared
 H₀:Hp
 env:Env
 outer:List Env
 stack:List Env
 ex:List Addr
 fn:Str->Bool
 calm:Bool
 pn:List (Addr×Obj)
 xe:Value->Shared->Prop
noncomputable def frs(l:List Env):List Addr:=l.filterMap (·.frame)
noncomputable abbrev Cx.fs(X:Cx):List Addr:=frs X.outer
def Vis(sc:Scope)(x:Str):Prop:=sc.names.lookup x=some .local\/sc.names.lookup x=some .cell\/sc.names.lookup x=some .free
def Loc(sc:Scope)(x:Str):Prop:=sc.names.lookup x=some .local\/sc.names.lookup x=some .cell
def zpQ(env:Env)(h:Heap)(m:Str->Option Value)(x:Str)(u:Value):Prop:= (env.kindOf x=some .local/\m x=some u)\/((env.kindOf x=some .cell\/env.kindOf x=some .free)/\∃c,env.cells.lookup x=some c/\h.IsCell c (some u))
structure Cx.Ok(X:Cx):Prop where
 mod:Mod X.K X.mg X.base
 kind:X.env.scope.kind=.function
 glob:X.env.globals=mainGlobals
 blt:X.env.builtins=builtinsNs
 above:X.s₀.heap.objs.size<=X.env.locals
 inj:∀x y c,X.env.cells.lookup x=some c->X.env.cells.lookup y=some c->x=y
 has:∀x,(X.env.kindOf x=some .cell\/X.env.kindOf x=some .free)->∃c,X.env.cells.lookup x=some c
 cab:∀x c,X.fn x=true->X.env.cells.lookup x=some c->X.s₀.heap.objs.size<=c
 hd:X.calm=true->X.A.handled=none
 frames:X.A.frames=some X.stack
 stk:X.stack=X.outer\/(X.stack=X.env::X.outer/\X.env.frame=some X.env.locals)
 exf:∀b∈X.ex,b≠X.env.locals/\∀x c,X.env.cells.lookup x=some c->c≠b
 bs:∀b o,X.base.get? b=some o->X.s₀.heap.get? b=some o/\X.H₀ b=none
 bsz:X.base.objs.size<=X.s₀.heap.objs.size
 noex:∀b o,X.base.get? b=some o->b∉X.ex
 exfs:∀b∈X.ex,b∉X.fs
 funs:X.s₀.heap.FunFrames X.base X.outer
 frf:∀b∈X.fs,X.H₀ b=none
structure Inv(X:Cx)(ac:List (Addr×Obj))(O:List (Option V))(H:Hp)(s:Shared):Prop where
 ok:X.Ok
 os:s.os=X.s₀.os
 bare:AllBare s.gens
 base:Un X.fs X.ex X.H₀ H X.s₀.heap s.heap
 loc:∃m,s.heap.Ns X.env.locals m/\∀(i:Nat)(x:Str)(v:V),X.N[i]? = some x->O[i]? = some (some v)->Vis X.env.scope x->∃u,xr v u/\zpQ X.env s.heap m x u
 cell:∀x c,X.env.cells.lookup x=some c->∃v,s.heap.IsCell c v
 free:H X.env.locals=none
 freeC:∀x c,X.env.cells.lookup x=some c->H c=none
 pin:∀p∈X.pn++ac,s.heap.get? p.1=some p.2/\H p.1=none/\p.1≠X.env.locals/\p.1∉X.fs/\∀v,p.2.data≠.cell v
 hok:HOk X.prog X.w H s.heap
 len:O.length=X.N.length
section
variable {X:Cx}{ac:List (Addr×Obj)}{O:List (Option V)}{H H':Hp}{s:Shared}{h':Heap}
theorem Cx.Ok.nofr(ok:X.Ok)   (e:X.base.get? b=some o):b∉X.fs:=λhb=>by
 have:=(ok.funs.mem hb).1;rw[e]at this;cases this
theorem Inv.bs(I:Inv X ac O H s):∀b o,X.base.get? b=some o->s.heap.get? b=some o/\H b=none:=λb o e=> ⟨I.base.keep b o (I.ok.bs b o e).1 (I.ok.bs b o e).2 (I.ok.nofr e) (I.ok.noex b o e),I.base.free b o (I.ok.bs b o e).1 (I.ok.bs b o e).2 (I.ok.noex b o e)⟩
theorem Inv.bk(I:Inv X ac O H s):∀b o,X.base.get? b=some o->s.heap.get? b=some o:=λb o e=>(I.bs b o e).1
theorem Inv.mod(I:Inv X ac O H s):Mod X.K X.mg X.base:=I.ok.mod
theorem Inv.kIn(I:Inv X ac O H s):X.K.In s.heap:=I.ok.mod.kin.keeps I.bk
theorem Inv.fr(I:Inv X ac O H s):∃m,Fr X.base X.env.locals s.heap m:= let ⟨m,hn,_⟩:=I.loc;⟨m,hn,I.bk,_S I.ok.bsz I.ok.above⟩
theorem Inv.lt(I:Inv X ac O H s):X.env.locals<s.heap.objs.size:=let ⟨_,hn,_⟩:=I.loc;hn.lt
theorem Inv.sz(I:Inv X ac O H s):X.s₀.heap.objs.size<=s.heap.objs.size:=_S I.ok.above (_aD I.lt)
theorem Inv.nofs(I:Inv X ac O H s){a:Addr}(h:s.heap.objs.size<=a):a∉X.fs:=λhb=>by
 obtain⟨_,o,ho,_⟩:=I.ok.funs.mem hb;exact absurd (_q (_u ho) (_S I.sz h)) (_aB _)
theorem Inv.cne(I:Inv X ac O H s):∀x c,X.env.cells.lookup x=some c->c≠X.env.locals:=λx c e z=>by
 obtain⟨v,o,ho,hd⟩:=I.cell x c e;obtain⟨m,⟨o',es,ep,bP,nj,_⟩,_⟩:=I.loc;rw[z,bP]at ho;cases ho;rw[nj]at hd;cases hd
theorem Inv.funs(I:Inv X ac O H s):s.heap.FunFrames X.base X.outer:=(show ∀(l:List Env),(∀b∈frs l,b∈X.fs)->X.s₀.heap.FunFrames X.base l->s.heap.FunFrames X.base l from by
  intro l;induction l with
  | nil=>intro _ _;trivial | cons env r ih=>
   intro hs hl;obtain⟨hk,⟨L,o,hf,hn,ho,hd⟩,hr⟩:=hl;have hL  := hs L (by unfold frs;rw[_cH,hf];exact _X);obtain⟨sl,e⟩:=I.base.slot L o ho (I.ok.frf L hL) hL λz=>I.ok.exfs L z hL;exact⟨hk,⟨L,_,hf,hn,e,hd⟩,ih (λb hb=>hs b (by unfold frs;rw[_cH,hf];exact _J _ hb)) hr⟩) X.outer (λ_ hb=>hb) I.ok.funs
theorem Inv.stack(I:Inv X ac O H s):s.heap.FunFrames X.base X.stack:=by
 rcases I.ok.stk with e | ⟨e,hf⟩;·rw[e];exact I.funs
 ·rw[e];obtain⟨m,hn,_⟩:=I.loc;exact .cons (by rw[I.ok.kind];decide) hf hn (Heap.get?_none_of_le (_S I.ok.bsz I.ok.above)) I.funs
theorem Inv.stkSub(I:Inv X ac O H s):∀b∈frs X.stack,b∈X.env.locals::X.fs:=λb hb=>by
 rcases I.ok.stk with e | ⟨e,hf⟩;·rw[e]at hb;exact _J _ hb
 ·rw[e]at hb;unfold frs at hb;rw[_cH,hf]at hb;exact hb
theorem Inv.stkFree(I:Inv X ac O H s):∀b∈frs X.stack,H b=none:=λb hb=>by
 rcases _r.mp (I.stkSub b hb) with e | hb;·rw[e];exact I.free
 ·obtain⟨_,o,ho,_⟩:=I.ok.funs.mem hb;exact I.base.free b o ho (I.ok.frf b hb) λz=>I.ok.exfs b z hb
theorem Inv.step{g':Array GenState}{t':Nat}{d':Drawn}{ch:List Addr}(I:Inv X ac O H s) (cZ:∀b∈ch,(b∈X.ex\/X.s₀.heap.objs.size<=b)/\b≠X.env.locals/\(∀x c,X.env.cells.lookup x=some c->c≠b)/\∀p∈X.pn++ac,p.1≠b) (keep:∀b o,b≠X.env.locals->b∉X.fs->b∉ch->s.heap.get? b=some o->H b=none->h'.get? b=some o) (slot:∀b o,b≠X.env.locals->b∈X.fs->b∉ch->s.heap.get? b=some o->H b=none->∃sl,h'.get? b=some {o with slots:=sl})(free:∀b o,b∉ch->s.heap.get? b=some o->H b=none->H' b=none) (there:∀b o,b∉ch->s.heap.get? b=some o->∃o',h'.get? b=some o') (tups:∀b xs,H b=some (.tup xs)->H' b=some (.tup xs))(frzs:∀b o u,H b=some (.frz o u)->H' b=some (.frz o u))(tbls:∀b ps,H b=some (.tbl ps)->∃more,H' b=some (.tbl (ps++more))) (ns:∀m,s.heap.Ns X.env.locals m->h'.Ns X.env.locals m)(hok:HOk X.prog X.w H' h')(hg:AllBare g'): Inv X ac O H' {s with heap:=h',gens:=g',drawn:=d',toks:=t'}:=by
 have lH:∀b o,X.s₀.heap.get? b=some o->b≠X.env.locals:=λb o e=>_H (_q (_u e) I.ok.above);have hU:∀b o,X.s₀.heap.get? b=some o->b∉X.ex->b∉ch:=λb o e hx hb=>by
  rcases (cZ b hb).1 with z | z;·exact hx z
  ·exact absurd (_q (_u e) z) (_aB _)
 have dA:∀x c,X.env.cells.lookup x=some c->∀v,s.heap.IsCell c v->h'.IsCell c v:=λx c e v ⟨o,ho,hd⟩=>by
  have fu  := λz=>(cZ c z).2.2.1 x c e rfl;by_cases hc:c∈X.fs
  ·obtain⟨sl,q⟩:=slot c o (I.cne x c e) hc fu ho (I.freeC x c e);exact⟨_,q,hd⟩
  ·exact⟨o,keep c o (I.cne x c e) hc fu ho (I.freeC x c e),hd⟩
 refine⟨I.ok,I.os,hg,⟨λb o e n hb hx=>(keep b o (lH b o e) hb (hU b o e hx) (I.base.keep b o e n hb hx) (I.base.free b o e n hx)),λb o e n hb hx=>?_,λb o e n hx=>?_,λb o e hx=>?_,λb xs e=>tups b xs (I.base.tups b xs e),λb o xs e=>frzs b o xs (I.base.frzs b o xs e),λb ps e=>?_⟩,?_,λx c e=>?_,?_,λx c e=>?_,λp hp=>?_,hok,I.len⟩
 ·obtain⟨sl,e1⟩:=I.base.slot b o e n hb hx;obtain⟨nq,e2⟩:=slot b _ (lH b o e) hb (hU b o e hx) e1 (I.base.free b o e n hx);exact⟨nq,e2⟩
 ·obtain⟨o',e1⟩:=I.base.there b o e hx;exact free b o' (hU b o e hx) e1 (I.base.free b o e n hx)
 ·obtain⟨o',e1⟩:=I.base.there b o e hx;exact there b o' (hU b o e hx) e1
 ·obtain⟨m1,e1⟩:=I.base.tbls b ps e;obtain⟨m2,e2⟩:=tbls b _ e1;exact⟨m1++m2,by rw[e2,Array.append_assoc]⟩
 ·obtain⟨m,hn,hl⟩:=I.loc;refine⟨m,ns m hn,λi x v e1 e2 e3=>?_⟩;obtain⟨u,r,l⟩:=hl i x v e1 e2 e3;refine⟨u,r,?_⟩;rcases l with l | ⟨k,c,e,z⟩;·exact .inl l
  ·exact .inr ⟨k,c,e,dA x c e _ z⟩
 ·obtain⟨v,z⟩:=I.cell x c e;exact⟨v,dA x c e v z⟩
 ·obtain⟨m,⟨o,_,_,ho,_⟩,_⟩:=I.loc;exact free _ o (λz=>(cZ _ z).2.1 rfl) ho I.free
 ·obtain⟨v,o,ho,hd⟩:=I.cell x c e;exact free c o (λz=>(cZ c z).2.2.1 x c e rfl) ho (I.freeC x c e)
 ·obtain⟨e,n,ne,nf,d⟩:=I.pin p hp;have fu  := λz=>(cZ p.1 z).2.2.2 p hp rfl;exact⟨keep p.1 p.2 ne nf fu e n,free p.1 p.2 fu e n,ne,nf,d⟩
theorem Inv.un  (I:Inv X ac O H s)(u:Un X.fs [] H H' s.heap h')(hok:HOk X.prog X.w H' h'):Inv X ac O H' {s with heap:=h',toks:=t'}:=by
 obtain⟨m,⟨o,es,ep,ho,r⟩,_⟩:=id I.loc;obtain⟨sl,hL⟩:=u.any ho I.free (by simp);exact I.step   (ch:=[]) (λ_ z=>nomatch z) (λb o _ hb _ e n=>u.keep b o e n hb (by simp)) (λb o _ hb _ e n=>u.slot b o e n hb (by simp)) (λb o _ e n=>u.free b o e n (by simp)) (λb o _ e=>u.there b o e (by simp)) u.tups u.frzs u.tbls (λm' hm=>by
  obtain⟨o',iz,iA,bP,r'⟩:=hm;rw[ho]at bP;cases bP;exact⟨_,iz,iA,hL,r'⟩) hok I.bare
theorem Inv.call     (I:Inv X ac O H s)(u:Un (frs X.stack) ch H H' s.heap h')(hok:HOk X.prog X.w H' h')(hg:AllBare g') (cZ:∀b∈ch,(b∈X.ex\/X.s₀.heap.objs.size<=b)/\b≠X.env.locals/\(∀x c,X.env.cells.lookup x=some c->c≠b)/\∀p∈X.pn++ac,p.1≠b): Inv X ac O H' {s with heap:=h',gens:=g',drawn:=d',toks:=t'}:=by
 obtain⟨m,⟨o,es,ep,ho,r⟩,_⟩:=id I.loc;obtain⟨sl,hL⟩:=u.any ho I.free λz=>(cZ _ z).2.1 rfl;exact I.step  cZ (λb o hL hb hc e n=>u.keep b o e n (λz=>(_r.mp (I.stkSub b z)).elim hL hb) hc) (λb o _ _ hc e n=>u.any e n hc) (λb o hc e n=>u.free b o e n hc) (λb o hc e=>u.there b o e hc) u.tups u.frzs u.tbls (λm' hm=>by
  obtain⟨o',iz,iA,bP,r'⟩:=hm;rw[ho]at bP;cases bP;exact⟨_,iz,iA,hL,r'⟩) hok hg
theorem Inv.turned   (I:Inv X ac O H s)(k:∀b o,b≠it->s.heap.get? b=some o->h'.get? b=some o)(hn:H it=none)(hL:it≠X.env.locals) (h1:it∈X.ex\/X.s₀.heap.objs.size<=it)(h2:∀x c,X.env.cells.lookup x=some c->c≠it)(h3:∀p∈X.pn++ac,p.1≠it):Inv X ac O H {s with heap:=h',toks:=t'}:=by
 have fw:∀b u,H b=some u->b≠it:=λb u e z=>by rw[z,hn]at e;cases e
 refine I.step   (ch:=[it]) (λb hb=>?_) (λb o _ _ hc e _=>k b o (λz=>hc (by simp[z])) e) (λb o _ _ hc e _=>⟨o.slots,k b o (λz=>hc (by simp[z])) e⟩) (λ_ _ _ _ n=>n) (λb o hc e=>⟨o,k b o (λz=>hc (by simp[z])) e⟩) (λ_ _ e=>e) (λ_ _ _ e=>e) (λb ps e=>⟨#[],by rw[e];rfl⟩) (λm hm=>?_) (λb u e=>?_) I.bare
 ·have e:b=it:=by simpa using hb
  subst e;exact⟨h1,hL,h2,h3⟩
 ·obtain⟨o,es,ep,ho,r⟩:=hm;exact⟨o,es,ep,k _ o (_a6 hL) ho,r⟩
 ·refine (I.hok b u e).stay (λc v hc q=>k c v ?_ q) (λ_ q=>q) λ_ _ q=>q;rcases hc with z | z;·rw[z];exact fw b u e
  ·exact fw c _ z
theorem Inv.tok(I:Inv X ac O H s)(t:Nat):Inv X ac O H {s with toks:=t}:=I.un   Un.refl I.hok
theorem Inv.kept  (I:Inv X ac O H s)(k:∀b u,s.heap.get? b=some u->h'.get? b=some u):Inv X ac O H {s with heap:=h',toks:=t'}:=I.un (Un.kept k) (I.hok.kept k)
theorem Inv.laid {a:Addr}   (I:Inv X ac O H s) (k:∀b u,s.heap.get? b=some u->h'.get? b=some u) (hp:s.heap.objs.size<=a) (new:uZ X.prog X.w (upd H a o) h' a o): Inv X ac O (upd H a o) {s with heap:=h',toks:=t'}:=I.un (Un.laid k hp (I.hok.fresh hp)) (I.hok.laid k hp new)
theorem Inv.write    (I:Inv X ac O H s) (mu:Mut (H x)) (he:e=x\/H e=some (.own x)) (k:∀b u,b≠e->s.heap.get? b=some u->h'.get? b=some u) (eJ:∃u,h'.get? e=some u) (new:uZ X.prog X.w (upd H x o) h' x o):Inv X ac O (upd H x o) {s with heap:=h',toks:=t'}:=I.un (Un.write mu he k eJ) (I.hok.write mu he k eJ new)
theorem Inv.weak  (I:Inv X ac O H s)(hl:O'.length=O.length)(w:∀(i:Nat) v,O'[i]? = some (some v)->O[i]? = some (some v)):Inv X ac O' H s:= ⟨I.ok,I.os,I.bare,I.base,let ⟨m,hn,fC⟩:=I.loc;⟨m,hn,λi x v e1 e2 e3=>fC i x v e1 (w i v e2) e3⟩,I.cell,I.free,I.freeC,I.pin,I.hok,hl.trans I.len⟩
theorem Inv.pins_of  (I:Inv X ac O H s)(h:∀p∈pins',s.heap.get? p.1=some p.2/\H p.1=none/\p.1≠X.env.locals/\p.1∉X.fs/\∀v,p.2.data≠.cell v):Inv X pins' O H s:= ⟨I.ok,I.os,I.bare,I.base,I.loc,I.cell,I.free,I.freeC,λp hp=>(_D.mp hp).elim (λz=>I.pin p (_aO _ z)) (h p),I.hok,I.len⟩
theorem z9D{N:List Str}(hN:N.Nodup){i j:Nat}  (a:N[i]? = some x)(b:N[j]? = some x):i=j:=by
 obtain⟨h1,e1⟩:=_b.mp a;obtain⟨h2,e2⟩:=_b.mp b;exact (_bc hN).mp (e1.trans e2.symm)
theorem z0W         (I:Inv X ac O H s)(hN:X.N.Nodup)(hi:X.N[i]? = some x)(hx:Loc X.env.scope x)(r:xr v u) (h:∀s',Inv X ac (O.set i (some v)) H s'->(∃a,Heap.SameBut a s.heap s'.heap/\(a=X.env.locals\/X.env.cells.lookup x=some a))->Q () s')(hf:autoParam (X.fn x=true\/X.env.scope.names.lookup x=some .local) aLr):wpAny M A (storeName X.env x u) Q E s:=by
 obtain⟨m,hn,hl⟩:=id I.loc;have lI:i<O.length:=by rw[I.len];exact (_b.mp hi).1
 have cne:=I.cne;have ck:∀{a:Addr}{h':Heap},(∃o,s.heap.get? a=some o/\H a=none)->Heap.SameBut a s.heap h'->HOk X.prog X.w H h':=λ{a h'} ha hs b ob e=>by
  obtain⟨_,_,dB⟩:=ha;refine (I.hok b ob e).stay (λc w' hc q=>(hs.2 c ?_).trans q) (λ_ q=>q) λ_ _ q=>q;rintro rfl;rcases hc with rfl | hc;·rw[dB]at e;cases e
  ·rw[dB]at hc;cases hc
 rcases hx with hk | hk
 ·refine wpAny_storeName_local hk hn (λh' nr hs=>?_) (by rw[I.ok.kind];rfl);obtain⟨oL,_,_,nt,_⟩:=id hn;refine h _ ⟨I.ok,I.os,I.bare,⟨λb o e n hb hx=>?_,λb o e n hb hx=>?_,I.base.free,λb o e hx=>?_,I.base.tups,I.base.frzs,I.base.tbls⟩,⟨_,nr,λj y v' e1 e2 e3=>?_⟩,λy c e=>?_,I.free,I.freeC,λp hp=>?_,ck ⟨oL,nt,I.free⟩ hs,by simpa using I.len⟩ ⟨_,hs,.inl rfl⟩;·exact (hs.2 b (_H (_q (_u e) I.ok.above))).trans (I.base.keep b o e n hb hx)
  ·obtain⟨sl,e1⟩:=I.base.slot b o e n hb hx;exact⟨sl,(hs.2 b (_H (_q (_u e) I.ok.above))).trans e1⟩
  ·obtain⟨o',e1⟩:=I.base.there b o e hx;exact⟨o',(hs.2 b (_H (_q (_u e) I.ok.above))).trans e1⟩
  ·by_cases hj:j=i
   ·subst hj;rw[hi]at e1;cases e1;rw[_T lI]at e2;cases e2;exact⟨u,r,.inl ⟨hk,by simp⟩⟩
   ·rw[_M (_a6 hj)]at e2;obtain⟨u',r',q⟩:=hl j y v' e1 e2 e3;refine⟨u',r',?_⟩;rcases q with⟨k,e⟩ | ⟨k,c,e,z⟩
    ·refine .inl ⟨k,?_⟩;have:y≠x:=λe=>hj (z9D hN e1 (e ▸ hi));simp[this,e]
    ·exact .inr ⟨k,c,e,z.sameBut hs (cne y c e)⟩
  ·obtain⟨w',z⟩:=I.cell y c e;exact⟨w',z.sameBut hs (cne y c e)⟩
  ·obtain⟨e,n,ne,nf,d⟩:=I.pin p hp;exact⟨(hs.2 p.1 ne).trans e,n,ne,nf,d⟩
 ·have iB:X.fn x=true:=by
   rcases hf with z | z;·exact z
   ·rw[z]at hk;cases hk
  obtain⟨c,hc⟩:=I.ok.has x (.inl hk);obtain⟨w',z⟩:=I.cell x c hc;refine wpAny_storeName_cell I.ok.kind hk hc z (λh' cA hs=>?_);obtain⟨oc,lJ,iC⟩:=id z;refine h {s with heap:=h'} ⟨I.ok,I.os,I.bare,⟨λb o e n hb hx=>((hs.2 b (_H (_q (_u e) (I.ok.cab x c iB hc)))).trans (I.base.keep b o e n hb hx)),λb o e n hb hx=>?_,I.base.free,λb o e hx=>?_,I.base.tups,I.base.frzs,I.base.tbls⟩,⟨m,hn.sameBut hs (_a6 (cne x c hc)),λj y v' e1 e2 e3=>?_⟩,λy c' e=>?_,I.free,I.freeC,λp hp=>?_,ck ⟨oc,lJ,I.freeC x c hc⟩ hs,by simpa using I.len⟩ ⟨c,hs,.inr hc⟩
  ·obtain⟨sl,e1⟩:=I.base.slot b o e n hb hx;exact⟨sl,(hs.2 b (_H (_q (_u e) (I.ok.cab x c iB hc)))).trans e1⟩
  ·obtain⟨o',e1⟩:=I.base.there b o e hx;exact⟨o',(hs.2 b (_H (_q (_u e) (I.ok.cab x c iB hc)))).trans e1⟩
  ·by_cases hj:j=i
   ·subst hj;rw[hi]at e1;cases e1;rw[_T lI]at e2;cases e2;exact⟨u,r,.inr ⟨.inl hk,c,hc,cA⟩⟩
   ·rw[_M (_a6 hj)]at e2;obtain⟨u',r',q⟩:=hl j y v' e1 e2 e3;refine⟨u',r',?_⟩;rcases q with q | ⟨k,c',e,z'⟩;·exact .inl q
    ·refine .inr ⟨k,c',e,z'.sameBut hs ?_⟩;rintro rfl;exact hj (z9D hN e1 (I.ok.inj _ _ _ e hc ▸ hi))
  ·by_cases hcc:c'=c;·subst hcc;exact⟨_,cA⟩
   ·obtain⟨w2,z2⟩:=I.cell y c' e;exact⟨w2,z2.sameBut hs hcc⟩
  ·obtain⟨e,n,ne,nf,d⟩:=I.pin p hp;refine⟨(hs.2 p.1 ?_).trans e,n,ne,nf,d⟩;intro q;rw[q,lJ]at e;exact d w' (by rw[<- (_E e)];exact iC)
theorem z0Q         (I:Inv X ac O H s)(hN:X.N.Nodup)(hi:X.N[i]? = some x)(hx:Loc X.env.scope x)(r:xr v u) (h:∀s',Inv X ac (O.set i (some v)) H s'->Q () s')(hf:autoParam (X.fn x=true\/X.env.scope.names.lookup x=some .local) aLr):wpAny M A (storeName X.env x u) Q E s:= z0W I hN hi hx r (λs' I' _=>h s' I') hf
theorem Inv.call'   (I:Inv X ac O H s)(ho:s'.os=s.os)(u:Un (frs X.stack) ch H H' s.heap s'.heap)(hok:HOk X.prog X.w H' s'.heap)(hg:AllBare s'.gens) (cZ:∀b∈ch,(b∈X.ex\/X.s₀.heap.objs.size<=b)/\b≠X.env.locals/\(∀x c,X.env.cells.lookup x=some c->c≠b)/\∀p∈X.pn++ac,p.1≠b):Inv X ac O H' s':=by
 obtain⟨h',g',d',t',o'⟩:=s';subst ho;exact I.call    u hok hg cZ
end
abbrev XK:=Value->Option Addr->Hp->Prop
abbrev St:=List (Option V)
abbrev VK:=V->Hp->Prop
abbrev TE:=St->Hp->VK->Prop
abbrev TT:=St->Hp->(Bool->Hp->Prop)->Prop
abbrev TA:=St->Hp->(List V->Hp->Prop)->Prop
structure zfI where
 nx:St->Hp->Prop
 rt:VK
 bk:St->Hp->Prop:=λ_ _=>False
 ct:St->Hp->Prop:=λ_ _=>False
abbrev TS:=zfI->St->Hp->Prop
def EP(X:Cx)(ac:List (Addr×Obj))(O:St)(Q:VK)(u:Value)(s':Shared):Prop:=∃v H',Inv X ac O H' s'/\xr v u/\Q v H'
def TP(X:Cx)(ac:List (Addr×Obj))(O:St)(Q:Bool->Hp->Prop)(b:Bool)(s':Shared):Prop:=∃H',Inv X ac O H' s'/\Q b H'
def AP(X:Cx)(ac:List (Addr×Obj))(O:St)(Q:List V->Hp->Prop)(us:List Value)(s':Shared):Prop:=∃vs H',Inv X ac O H' s'/\xF vs us/\Q vs H'
def SP(X:Cx)(ac:List (Addr×Obj))(D:zfI)(f:Flow)(s':Shared):Prop:= match f with
 | .next=>∃O' H',Inv X ac O' H' s'/\D.nx O' H' | .brk=>∃O' H',Inv X ac O' H' s'/\D.bk O' H' | .cont=>∃O' H',Inv X ac O' H' s'/\D.ct O' H' | .ret u=>∃v O' H',Inv X ac O' H' s'/\xr v u/\D.rt v H'
def PE(X:Cx)(e:Expr)(t:TE):Prop:= ∀(ac:List (Addr×Obj))(s:Shared)(O:St)(H:Hp)(Q:VK),Inv X ac O H s->t O H Q->wpAny (model X.prog X.w) X.A (eval e X.env) (EP X ac O Q) X.xe s
def PT(X:Cx)(e:Expr)(t:TT):Prop:= ∀(ac:List (Addr×Obj))(s:Shared)(O:St)(H:Hp)(Q:Bool->Hp->Prop),Inv X ac O H s->t O H Q->wpAny (model X.prog X.w) X.A (isTrue e X.env (eval e X.env)) (TP X ac O Q) X.xe s
def PW(X:Cx)(e:Expr)(t:TT):Prop:= ∀(whole:Sem Value)(ac:List (Addr×Obj))(s:Shared)(O:St)(H:Hp)(Q:Bool->Hp->Prop),Inv X ac O H s->t O H Q->wpAny (model X.prog X.w) X.A (isTrue e X.env whole) (TP X ac O Q) X.xe s
theorem PW.pt    (h:PW X e t):PT X e t:=h _
def PA(X:Cx)(es:List Expr)(t:TA):Prop:= ∀(pos:Pos)(ac:List (Addr×Obj))(s:Shared)(O:St)(H:Hp)(Q:List V->Hp->Prop),Inv X ac O H s->t O H Q->wpAny (model X.prog X.w) X.A (spliced (backTo pos (starEach es X.env))) (AP X ac O Q) X.xe s
def PS(X:Cx)(st:Stmt)(t:TS):Prop:= ∀(ac:List (Addr×Obj))(s:Shared)(O:St)(H:Hp)(D:zfI),Inv X ac O H s->t D O H->wpAny (model X.prog X.w) X.A (exec st X.env) (SP X ac D) X.xe s
def PSs(X:Cx)(st:List Stmt)(t:TS):Prop:= ∀(ac:List (Addr×Obj))(s:Shared)(O:St)(H:Hp)(D:zfI),Inv X ac O H s->t D O H->wpAny (model X.prog X.w) X.A (execs st X.env) (SP X ac D) X.xe s
theorem thn   {Q Q':α->Shared->Prop}     (h:wpAny M A t Q E s)(hQ:∀a s,Q a s->Q' a s):wpAny M A t Q' E s:=_F h hQ λ_ _ x=>x
section
variable {X:Cx}
def zpt(i:Nat):TE:=λO H Q=>∃v,O[i]? = some (some v)/\Q v H
def tC(v:V):TE:=λ_ H Q=>Q v H
theorem za0   {pos:Pos}(hN:X.N[i]? = some x)(hv:Vis X.env.scope x)(hd:autoParam ((x==("__debug__":Str))=false) aDe)(bQ:autoParam ((x==("__classdict__":Str))=false) aDe):PE X (.Name x pos) (zpt i):=by
 intro ac s O H Q I h;obtain⟨v,e,h⟩:=h;obtain⟨m,hn,hl⟩:=I.loc;obtain⟨u,r,l⟩:=hl i x v hN e hv;have fin:EP X ac O Q u s:=⟨v,H,I,r,h⟩;rcases l with⟨hk,hm⟩ | ⟨hk,c,hc,bv⟩;·exact wpAny_Name (wpAny_loadName_local I.ok.kind hk hn hm fin) hd
 ·rcases hk with hk | hk;·exact wpAny_Name (wpAny_loadName_cell I.ok.kind hk hc bv fin) hd
  ·exact wpAny_Name (wpAny_loadName_free I.ok.kind hk hc bv fin bQ) hd
theorem zmg  : PE X (.Constant (.int i) j pos) (tC (.int i)):=λ_ _ _ H _ I h=>wpAny_Constant_int ⟨.int i,H,I.tok _,⟨_,rfl⟩,h⟩
theorem zo5  : PE X (.Constant (.bool b) j pos) (tC (.bl b)):=λ_ _ _ H _ I h=>Constant_bool ⟨.bl b,H,I,rfl,h⟩
theorem zlz  : PE X (.Constant .none j pos) (tC .non):=λ_ _ _ H _ I h=>Constant_none ⟨.non,H,I,rfl,h⟩
theorem zlg  : PE X (.Constant (.str x) j pos) (tC (.str x)):=λ_ _ _ H _ I h=>Calls.Constant_str ⟨.str x,H,I.tok _,⟨_,rfl⟩,h⟩
def Gl(X:Cx)(x:Str):Prop:=X.env.kindOf x=some .globalImplicit
theorem z9r    {O:St}      (I:Inv X ac O H s)(hg:Gl X x)(hm:X.mg x=some u)(h:Q u s) (hd:autoParam ((x==("__debug__":Str))=false) aDe):wpAny (model X.prog X.w) X.A (eval (.Name x pos) X.env) Q E s:= Calls.Name_function_global I.ok.kind hg (Calls.loadGlobal_global (by rw[I.ok.glob];exact I.mod.glob.keeps I.bk) hm h) hd
theorem kL{E:Value->Shared->Prop}   {O:St}    {pos:Pos}  (I:Inv X ac O H s)(hg:Gl X x)(hm:X.mg x=none)(hv:bootBuiltins x=some u)(h:Q u s) (hn:autoParam (x≠"__name__") aDe)(hd:autoParam ((x==("__debug__":Str))=false) aDe):wpAny (model X.prog X.w) X.A (eval (.Name x pos) X.env) Q E s:=by
 obtain⟨mb,h1,h2⟩:=I.mod.blt;exact Calls.Name_function_global I.ok.kind hg (Calls.loadGlobal_builtin (by rw[I.ok.glob];exact I.mod.glob.keeps I.bk) hm (by rw[I.ok.blt];exact h1.keeps I.bk) ((h2 x hn).trans hv) h) hd
theorem z96     (hg:Gl X x)(hm:X.mg x=some u)(r:xr v u)(hd:autoParam ((x==("__debug__":Str))=false) aDe):PE X (.Name x pos) (tC v):= λ_ _ _ H _ I h=>z9r I hg hm ⟨v,H,I,r,h⟩ hd
theorem ziD    {pos:Pos}(hg:Gl X x)(hm:X.mg x=none)(hv:bootBuiltins x=some u)(r:xr v u)(hn:autoParam (x≠"__name__") aDe)(hd:autoParam ((x==("__debug__":Str))=false) aDe):PE X (.Name x pos) (tC v):= λ_ _ _ H _ I h=>kL I hg hm hv ⟨v,H,I,r,h⟩ hn hd
variable {a b:Expr}{ta tb:TE}{pos:Pos}
def PC(X:Cx)(op:CmpOp)(a b:Expr)(t:TE):Prop:= ∀(ac:List (Addr×Obj))(s:Shared)(O:St)(H:Hp)(Q:VK),Inv X ac O H s->t O H Q-> wpAny (model X.prog X.w) X.A (eval a X.env) (λv s₁=>wpAny (model X.prog X.w) X.A (eval b X.env) (λu s₂=>wpAny (model X.prog X.w) X.A (compareOp op v u) (EP X ac O Q) X.xe s₂) X.xe s₁) X.xe s
def tB(t:TE):TT:=λO H Q=>t O H λx H1=>∃c,x=.bl c/\Q c H1
theorem zlS   (h:PE X e t)(he:autoParam (∀whole,isTrue e X.env whole=(do let v <- whole;standAt e.pos;holding [v] (truthy v))) aIr):PT X e (tB t):=by
 refine λac s O H Q I hw=>isTrue_plain (thn (h ac s O H _ I hw) λv s1 ⟨x,H1,I1,r1,q1⟩=>?_) (he _);obtain⟨d,rfl,q⟩:=q1;cases r1;exact _av ⟨H1,I1,q⟩
variable {tA hV:TT}{kc:List Expr}
def zpx(t u:TT):TT:=λO H Q=>t O H λc H1=>if c=true then u O H1 Q else Q false H1
def tOr(t u:TT):TT:=λO H Q=>t O H λc H1=>if c=true then Q true H1 else u O H1 Q
def zqe(t:TT):TT:=λO H Q=>t O H λc H1=>Q (!c) H1
theorem zj6(ha:PT X a tA):PW X (.BoolOp .And [a] pos) tA:=by
 refine λwh ac s O H Q I h=>isTrue_and (thn (ha ac s O H Q I h) λc s1 e=>?_);cases c with
 | true=>exact isTrue_and_nil e | false=>exact e
theorem zlb(ha:PT X a tA):PW X (.BoolOp .Or [a] pos) tA:=by
 refine λwh ac s O H Q I h=>isTrue_or (thn (ha ac s O H Q I h) λc s1 e=>?_);cases c with
 | false=>exact isTrue_or_nil e | true=>exact e
theorem zl9(ha:PT X a tA)(hb:PW X (.BoolOp .And (b::kc) pos) hV):PW X (.BoolOp .And (a::b::kc) pos) (zpx tA hV):=by
 refine λwh ac s O H Q I h=>isTrue_and (thn (ha ac s O H _ I h) λc s1 ⟨H1,I1,q1⟩=>?_);cases c with
 | true=>exact hb wh ac s1 O H1 Q I1 q1 | false=>exact⟨H1,I1,q1⟩
theorem zo8(ha:PT X a tA)(hb:PW X (.BoolOp .Or (b::kc) pos) hV):PW X (.BoolOp .Or (a::b::kc) pos) (tOr tA hV):=by
 refine λwh ac s O H Q I h=>isTrue_or (thn (ha ac s O H _ I h) λc s1 ⟨H1,I1,q1⟩=>?_);cases c with
 | true=>exact⟨H1,I1,q1⟩ | false=>exact hb wh ac s1 O H1 Q I1 q1
theorem zkD(ha:PT X a tA):PT X (.UnaryOp .Not a pos) (zqe tA):=λac s O H Q I h=>isTrue_not (ha ac s O H (λc H1=>Q (!c) H1) I h)
def znc(ta tb:TE):TE:=λO H Q=>ta O H λx H1=>∃c,x=.bl c/\if c=true then tb O H1 Q else Q (.bl false) H1
def znT(ta:TE):TE:=λO H Q=>ta O H λx H1=>∃c,x=.bl c/\Q (.bl (!c)) H1
theorem zkS   (h:PE X a t):PE X (.BoolOp op [a] pos) t:=λac s O H Q I hw=>BoolOp_one (h ac s O H Q I hw)
theorem zkf(ha:PE X a ta)(hb:PE X (.BoolOp .And (b::kc) pos) tb):PE X (.BoolOp .And (a::b::kc) pos) (znc ta tb):=by
 refine λac s O H Q I h=>BoolOp_and (thn (ha ac s O H _ I h) λv s1 ⟨x,H1,I1,r1,q1⟩=>?_);obtain⟨c,rfl,q1⟩:=q1;cases r1;refine _av ?_;cases c with
 | true=>exact hb ac s1 O H1 Q I1 q1 | false=>exact⟨.bl false,H1,I1,rfl,q1⟩
theorem zlX(ha:PE X a ta):PE X (.UnaryOp .Not a pos) (znT ta):=by
 refine λac s O H Q I h=>UnaryOp_ (thn (ha ac s O H _ I h) λv s1 ⟨x,H1,I1,r1,q1⟩=>?_);obtain⟨c,rfl,q1⟩:=q1;cases r1;exact not_of (_av ⟨.bl (!c),H1,I1,rfl,q1⟩)
def tIf(t:TT)(ta tb:TE):TE:=λO H Q=>t O H λc H1=>if c=true then ta O H1 Q else tb O H1 Q
theorem zfu  (hc:PT X c tA)(ha:PE X a ta)(hb:PE X b tb):PE X (.IfExp c a b pos) (tIf tA ta tb):=by
 refine λac s O H Q I h=>wpAny_IfExp (thn (hc ac s O H _ I h) λd s1 ⟨H1,I1,q1⟩=>?_);cases d with
 | true=>exact ha ac s1 O H1 Q I1 q1 | false=>exact hb ac s1 O H1 Q I1 q1
end
def SqL(K:W.Frag)(H:Hp)(a:Addr)(xs:List V):Prop:= Rd H a (.lst xs)\/ ∃(o:Obj)(ah:Array Value)(n:Nat),K.lookup a=some o/\o.cls=.type "list"/\o.dict=none/\o.data=.seq ah n/\ah.size<=sizeLine/\xF xs ah.toList
def SqT(K:W.Frag)(H:Hp)(a:Addr)(xs:List V):Prop:= Rd H a (.tup xs)\/ ∃(o:Obj)(ah:Array Value)(n:Nat),K.lookup a=some o/\o.cls=.type "tuple"/\o.data=.seq ah n/\ah.size<=sizeLine/\xF xs ah.toList
noncomputable def zqj:Value->Option V
 | .none=>some .non | .bool b=>some (.bl b) | .int i _=>some (.int i) | .str x _=>some (.str x) | .bytes b _=>some (.byt b) | .float b _=>some (.flt b) | .ref a=>some (.ref a) | .type n=>some (.ty n) | _=>none
theorem xr.abs   (r:xr x u):zqj u=some x:=by cases x with
 | non=>cases r;rfl | bl _=>cases r;rfl | int _=>obtain⟨t,rfl⟩:=r;rfl | str _=>obtain⟨t,rfl⟩:=r;rfl | byt _=>obtain⟨t,rfl⟩:=r;rfl | flt _=>obtain⟨t,rfl⟩:=r;rfl | ref _=>cases r;rfl | ty _=>cases r;rfl
theorem xr.inj   (r:xr x u)(q:xr y u):x=y:=_E (r.abs.symm.trans q.abs)
theorem xF.inj:∀{xs ys:List V}{us:List Value},xF xs us->xF ys us->xs=ys
 | _,_,_,.nil,.nil=>rfl | _,_,_,.cons r t,.cons r' t'=>by rw[r.inj r',xF.inj t t']
section
variable {X:Cx}{ac:List (Addr×Obj)}{O:St}{H:Hp}{s:Shared}{a:Addr}{xs ys:List V}
theorem Inv.list(I:Inv X ac O H s)(h:SqL X.K H a xs):∃ah:List Value,xF xs ah/\PlainL s.heap a ah.toArray/\xs.length<=sizeLine:=by
 rcases h with h | ⟨o,ah,n,hk,hc,hd,hs,hz,r⟩
 ·obtain⟨z,ah,n,r,e⟩:=h.ok I.hok;exact⟨ah,r,⟨_,n,e,rfl,rfl,rfl⟩,z⟩
 ·refine⟨ah.toList,r,⟨o,n,I.kIn a o hk,hc,hd,by exact hs⟩,?_⟩;have e:=r.length;simp only[_Y]at e;lia
theorem Inv.tuple(I:Inv X ac O H s)(h:SqT X.K H a xs):∃ah:List Value,xF xs ah/\IsTup s.heap a ah.toArray/\xs.length<=sizeLine:=by
 rcases h with h | ⟨o,ah,n,hk,hc,hs,hz,r⟩
 ·obtain⟨z,ah,r,p⟩:=h.ok I.hok;exact⟨ah,r,p.tup,z⟩
 ·refine⟨ah.toList,r,⟨o,I.kIn a o hk,hc,n,by exact hs⟩,?_⟩;have e:=r.length;simp only[_Y]at e;lia
theorem Inv.list_inj(I:Inv X ac O H s)(h:SqL X.K H a xs)(h':SqL X.K H a ys):xs=ys:=by
 obtain⟨ah,r,⟨o,n,e,_,_,d⟩,_⟩:=I.list h;obtain⟨its',r',⟨o',n',e',_,_,d'⟩,_⟩:=I.list h';rw[e]at e';cases e';rw[d]at d';injection d' with d1 _;have:ah=its':=by exact _aw Array.toList d1
 subst this;exact r.inj r'
theorem Inv.tuple_inj(I:Inv X ac O H s)(h:SqT X.K H a xs)(h':SqT X.K H a ys):xs=ys:=by
 obtain⟨ah,r,⟨o,e,_,n,d⟩,_⟩:=I.tuple h;obtain⟨its',r',⟨o',e',_,n',d'⟩,_⟩:=I.tuple h';rw[e]at e';cases e';rw[d]at d';injection d' with d1 _;have:ah=its':=by exact _aw Array.toList d1
 subst this;exact r.inj r'
end
noncomputable abbrev Cx.wish(X:Cx)(E:Value->Shared->Prop):Cx:={X with xe:=E}
noncomputable abbrev Cx.nox(X:Cx):Cx:=X.wish λ_ _=>False
theorem Cx.Ok.wish{X:Cx}(ok:X.Ok)(E:Value->Shared->Prop):(X.wish E).Ok:= ⟨ok.mod,ok.kind,ok.glob,ok.blt,ok.above,ok.inj,ok.has,ok.cab,ok.hd,ok.frames,ok.stk,ok.exf,ok.bs,ok.bsz,ok.noex,ok.exfs,ok.funs,ok.frf⟩
theorem Cx.Ok.unwish{X:Cx}  (ok:(X.wish E).Ok):X.Ok:= ⟨ok.mod,ok.kind,ok.glob,ok.blt,ok.above,ok.inj,ok.has,ok.cab,ok.hd,ok.frames,ok.stk,ok.exf,ok.bs,ok.bsz,ok.noex,ok.exfs,ok.funs,ok.frf⟩
section
variable {X:Cx}{ac:List (Addr×Obj)}{O:St}{H:Hp}{s:Shared}{E:Value->Shared->Prop}
theorem Inv.wish(I:Inv X ac O H s)(E:Value->Shared->Prop):Inv (X.wish E) ac O H s:=⟨I.ok.wish E,I.os,I.bare,I.base,I.loc,I.cell,I.free,I.freeC,I.pin,I.hok,I.len⟩
theorem Inv.unwish(I:Inv (X.wish E) ac O H s):Inv X ac O H s:=⟨I.ok.unwish,I.os,I.bare,I.base,I.loc,I.cell,I.free,I.freeC,I.pin,I.hok,I.len⟩
theorem SP.unwish{D:zfI}{f:Flow}{s':Shared}(h:SP (X.wish E) ac D f s'):SP X ac D f s':=by cases f with
 | next=>obtain⟨O',H',I,q⟩:=h;exact⟨O',H',I.unwish,q⟩ | brk=>obtain⟨O',H',I,q⟩:=h;exact⟨O',H',I.unwish,q⟩ | cont=>obtain⟨O',H',I,q⟩:=h;exact⟨O',H',I.unwish,q⟩ | ret u=>obtain⟨v,O',H',I,r,q⟩:=h;exact⟨v,O',H',I.unwish,r,q⟩
theorem PSs.nox{st:List Stmt}  (h:PSs X.nox st t):PSs X st t:=λac s O H D I hw=> _F (h ac s O H D (I.wish _) hw) (λ_ _ q=>q.unwish) λ_ _ z=>False.elim z
end
section
variable {X:Cx}{st:Stmt}{kc:List Stmt}{t u:TS}{e:Expr}{te:TE}{pos:Pos}
def znw:TS:=λD O H=>D.nx O H
def zpa(t u:TS):TS:=λD O H=>t {D with nx:=u D} O H
theorem zi9:PSs X [] znw:=λ_ _ O H _ I h=>_cD ⟨O,H,I,h⟩
theorem zeU(h1:PS X st t)(h2:PSs X kc u):PSs X (st::kc) (zpa t u):=by
 refine λac s O H D I h=>wpAny_execs_cons (thn (h1 ac s O H {D with nx:=u D} I h) λf s1 q=>?_);cases f with
 | next=>
  obtain⟨O',H',I',q⟩:=q;exact h2 ac s1 O' H' D I' q | ret v=>exact q | brk=>exact q | cont=>exact q
theorem zi8(h1:PS X st t):PSs X [st] t:=by
 refine λac s O H D I h=>wpAny_execs_cons (thn (h1 ac s O H D I h) λf s1 q=>?_);cases f with
 | next=>exact _cD q | ret v=>exact q | brk=>exact q | cont=>exact q
theorem Inv.quiet  {O:St}   (I:Inv X ac O H s):interactive X.env=false:=by simp[interactive,I.ok.kind]
def znZ(te:TE):TS:=λD O H=>te O H λ_ H1=>D.nx O H1
theorem zj2(he:PE X e te)(hs:autoParam (swapsWith e none pos.line X.env=pure false) aRf):PS X (.Expr e pos) (znZ te):=λac s O H D I h=>wpAny_Expr_any (thn (he ac s O H _ I h) λv s1 ⟨x,H1,I1,r1,q1⟩=>⟨O,H1,I1,q1⟩) I.quiet hs
def zpR(te:TE):TS:=λD O H=>te O H D.rt
theorem zkE(he:PE X e te):PS X (.Return (some e) pos) (zpR te):=λac s O H D I h=>wpAny_Return_some (thn (he ac s O H _ I h) λv s1 ⟨x,H1,I1,r1,q1⟩=>⟨x,O,H1,I1,r1,q1⟩)
def zqg(c:TT)(t u:TS):TS:=λD O H=>c O H λb H1=>if b=true then t D O H1 else u D O H1
theorem zoJ    (hc:PT X c tc)(ha:PSs X a t)(hb:PSs X b u):PS X (.If c a b pos) (zqg tc t u):=by
 refine λac s O H D I h=>wpAny_If (thn (hc ac s O H _ I h) λd s1 ⟨H1,I1,q1⟩=>?_);cases d with
 | true=>exact ha ac s1 O H1 D I1 q1 | false=>exact hb ac s1 O H1 D I1 q1
def zkq:TS:=λ_ _ _=>False
theorem zf6:PS X st zkq:=λ_ _ _ _ _ _ h=>h.elim
end
abbrev TG:=V->St->Hp->(St->Hp->Prop)->Prop
abbrev TGs:=List V->St->Hp->(St->Hp->Prop)->Prop
def PG(X:Cx)(bK:Expr)(t:TG):Prop:= ∀(ac:List (Addr×Obj))(s:Shared)(O:St)(H:Hp)(v:V)(u:Value)(Q:St->Hp->Prop),Inv X ac O H s->xr v u->t v O H Q-> wpAny (model X.prog X.w) X.A (assign bK X.env u) (λ_ s'=>∃O' H',Inv X ac O' H' s'/\Q O' H') X.xe s
def PGs(X:Cx)(ts:List Expr)(t:TGs):Prop:= ∀(ac:List (Addr×Obj))(s:Shared)(O:St)(H:Hp)(vs:List V)(us:List Value)(Q:St->Hp->Prop),Inv X ac O H s->xF vs us->t vs O H Q-> wpAny (model X.prog X.w) X.A (assignInOrder ((assignEach ts X.env).map (·.2)) us) (λ_ s'=>∃O' H',Inv X ac O' H' s'/\Q O' H') X.xe s
abbrev zpo:=V->V->V->Hp->(Hp->Prop)->Prop
def zpp(X:Cx)(t:zpo):Prop:= ∀(ac:List (Addr×Obj))(s:Shared)(O:St)(H:Hp)(o i v:V)(ov iv u:Value)(Q:Hp->Prop),Inv X ac O H s->xr o ov->xr i iv->xr v u->t o i v H Q-> wpAny (model X.prog X.w) X.A (setItem ov iv u) (λ_ s'=>∃H',Inv X ac O H' s'/\Q H') X.xe s
abbrev TIp:=V->V->Hp->VK->Prop
def PIp(X:Cx)(op:Operator)(t:TIp):Prop:= ∀(ac:List (Addr×Obj))(s:Shared)(O:St)(H:Hp)(x y:V)(v u:Value)(Q:VK),Inv X ac O H s->xr x v->xr y u->t x y H Q-> wpAny (model X.prog X.w) X.A (inplaceOp op v u) (EP X ac O Q) X.xe s
section
variable {X:Cx}{pos:Pos}
noncomputable def z24(i:Nat):TG:=λv O H Q=>Q (O.set i (some v)) H
theorem zL   (hN:X.N.Nodup)(hi:X.N[i]? = some x)(hx:Loc X.env.scope x)(hf:autoParam (X.fn x=true\/X.env.scope.names.lookup x=some .local) aLr):PG X (.Name x pos) (z24 i):=λac s O H v u Q I r h=>_b7 (z0Q I hN hi hx r (λs' I'=>⟨_,H,I',h⟩) hf)
noncomputable def zpg:TGs:=λvs O H Q=>vs=[]/\Q O H
def ziP(t:TG)(u:TGs):TGs:=λvs O H Q=>∃v r,vs=v::r/\t v O H λO' H'=>u r O' H' Q
theorem zdR:PGs X [] zpg:=by
 intro ac s O H vs us Q I r h;obtain⟨e,h⟩:=h;exact assignInOrder_nil ⟨O,H,I,h⟩
theorem z2t     (h1:PG X e t)(h2:PGs X es u) (hs:autoParam ((assignEach (e::es) X.env).map (·.2)=assign e X.env::(assignEach es X.env).map (·.2)) aRf):PGs X (e::es) (ziP t u):=by
 intro ac s O H vs us Q I r h;obtain⟨v,vr,e1,h⟩:=h;subst e1;cases r with | cons r rr=>
  rw[hs];exact _cR (thn (h1 ac s O H _ _ _ I r h) λ_ s1 ⟨O1,H1,I1,q1⟩=>(h2 ac s1 O1 H1 _ _ Q I1 rr q1))
def zpq(K:W.Frag)(n:Nat)(t:TGs):TG:=λv O H Q=>∃a xs,v=.ref a/\SqT K H a xs/\xs.length=n/\t xs O H Q
theorem zhp  {k:Nat}   (hc:X.calm=true)(h:PGs X es t) (hn:autoParam ((assignEach es X.env).length=n) aRf)(nu:autoParam ((assignEach es X.env).findIdx? (·.1)=none) aRf):PG X (.Tuple es k pos) (zpq X.K n t):=by
 intro ac s O H v u Q I r hw;obtain⟨a,xs,e1,hq,hl,hw⟩:=hw;subst e1;cases r;obtain⟨ah,rv,ht,hz⟩:=I.tuple hq;exact assign_Tuple_tuple (I.ok.hd hc) ht (by simp[hn,<- hl,rv.length]) nu λh' hx=>(h ac _ O H xs _ Q (I.kept (t':=s.toks) λb o e=>hx b o (_H (_u e)) e) (by exact rv) hw)
noncomputable def zqa(to ti:TE)(t:zpo):TG:=λv O H Q=>to O H λo H1=>ti O H1 λi H2=>t o i v H2 λH3=>Q O H3
theorem zkb    (ho:PE X o to)(hi:PE X i ti)(hs:zpp X t) (ha:∀v,assign (.Subscript o i pos) X.env v=(do
   let ov <- holding [v] (eval o X.env) let iv <- holding [v,ov] (eval i X.env)
   standAt pos
   holding [v,ov,iv] (setItem ov iv v)
   release [v,ov,iv] []):=by intro _;rfl):PG X (.Subscript o i pos) (zqa to ti t):=by
 intro ac s O H v u Q I r h;exact _a (_aU (thn (ho ac s O H _ I h) λov s1 ⟨x,H1,I1,r1,q1⟩=>(_a (_aU (thn (hi ac s1 O H1 _ I1 q1) λiv s2 ⟨y,H2,I2,r2,q2⟩=>(_a (_a1 (_a (_aU (thn (hs ac s2 O H2 x y v ov iv u _ I2 r1 r2 r q2) λ_ s3 ⟨H3,I3,q3⟩=>(wpAny_release ⟨O,H3,I3,q3⟩)))))))))))
def znb(te:TE)(g:TG):TS:=λD O H=>te O H λx H1=>g x O H1 D.nx
theorem zh2    (he:PE X e te)(hg:PG X tg g)(hs:autoParam (swapsWithSole [tg] e pos.line X.env=pure false) aRf)(hw:autoParam (swappedStores [tg] e X.env=pure none) aRf) (h1:autoParam ((assignEach [tg] X.env).map (·.2)=[assign tg X.env]) aRf):PS X (.Assign [tg] e pos) (znb te g):=by
 refine λac s O H D I h=>wpAny_Assign_stores (thn (he ac s O H _ I h) λv s1 ⟨x,H1,I1,r1,q1⟩=>?_) hs hw;rw[h1];exact thn (hg ac s1 O H1 x v _ I1 r1 q1) λ_ s2 q=>q
theorem zmd      (hN:X.N.Nodup)(hi:X.N[i]? = some x)(hx:Loc X.env.scope x)(he:PE X e te)(hs:autoParam (swapsWith e (some (.Name x bL)) pos.line X.env=pure false) aRf)(hf:autoParam (X.fn x=true\/X.env.scope.names.lookup x=some .local) aLr): PS X (.Assign [.Name x bL] e pos) (znb te (z24 i)):=by exact λac s O H D I h=>wpAny_Assign_Name (thn (he ac s O H _ I h) λv s1 ⟨y,H1,I1,r1,q1⟩=>(z0Q I1 hN hi hx r1 (λs2 I2=>⟨_,H1,I2,q1⟩) hf)) hs
def zpE(i j:Nat)(ta:TA):TS:=λD O H=>ta O H λvs H1=>∃v w,vs=[v,w]/\D.nx ((O.set i (some v)).set j (some w)) H1
theorem zlf       (hc:X.calm=true) (hN:X.N.Nodup) (hi:X.N[i]? = some x) (hj:X.N[j]? = some y) (aF:i≠j) (hx:X.env.scope.names.lookup x=some .local) (hy:X.env.scope.names.lookup y=some .local) (ha:PA X [a,b] ta) (hw:swappedStores [.Tuple [.Name x px,.Name y py] kt pt] (.Tuple [a,b] k2 eM) X.env=pure (some [x,y])) (hs:autoParam (swapsWithSole [.Tuple [.Name x px,.Name y py] kt pt] (.Tuple [a,b] k2 eM) pos.line X.env=pure false) aRf): PS X (.Assign [.Tuple [.Name x px,.Name y py] kt pt] (.Tuple [a,b] k2 eM) pos) (zpE i j ta):=by
 refine λac s O H D I h=>_a (_a1 ?_);refine _a (_i (_a (Tuple_ (thn (ha _ ac s O H _ I h) λus s1 ⟨vs,H1,I1,r1,q1⟩=>?_))));obtain⟨v,w,e1,q1⟩:=q1;subst e1;obtain⟨u1,u2,rfl,rv,dU⟩:∃u1 u2,us=[u1,u2]/\xr v u1/\xr w u2:=by cases r1 with | cons p q=> cases q with | cons p' q'=>
    cases q';exact⟨_,_,rfl,p,p'⟩
 refine _bn ?_ (by show 2<=sizeLine;decide);have I2:Inv X ac O H1 {s1 with heap:=s1.heap.push {cls:=.type "tuple",data:=.seq [u1,u2].toArray}}:=I1.kept  λb o e=>_e _ e;rw[hw];refine _a (_i ?_);refine _a (_ax (_a (unpackItems_tuple (items:=#[u1,u2]) (I.ok.hd hc) (IsTup.new s1.heap _) λh' hx'=>(_a (_cR (wpAny_bindName (z0Q (I2.kept (h':=h') (t':=s1.toks) λb o e=>hx' b o (_H (_u e)) e) hN hj (.inl hy) dU (λs2 I4=>?_) (.inr hy))))))));refine _cR (wpAny_bindName (z0Q I4 hN hi (.inl hx) rv (λs3 I5=>assignInOrder_nil (_i ?_)) (.inr hx)));rw[List.set_comm _ _ (_a6 aF)]at I5;exact⟨_,H1,I5,q1⟩
def zqi(i:Nat)(te:TE)(ti:TIp):TS:=λD O H=>∃x,O[i]? = some (some x)/\te O H λy H1=>ti x y H1 λz H2=>D.nx (O.set i (some z)) H2
theorem zmq        (hN:X.N.Nodup)(hi:X.N[i]? = some x)(hx:Loc X.env.scope x)(he:PE X e te)(ho:PIp X op ti)(hf:autoParam (X.fn x=true\/X.env.scope.names.lookup x=some .local) aLr): PS X (.AugAssign (.Name x bL) op e pos) (zqi i te ti):=by
 intro ac s O H D I h;obtain⟨v,e1,h⟩:=h;obtain⟨m,hn,hl⟩:=I.loc;obtain⟨u,r,l⟩:=hl i x v hi e1 (by rcases hx with k | k;exact .inl k;exact .inr (.inl k));refine wpAny_AugAssign_Name ?_;have go:wpAny (model X.prog X.w) X.A (eval e X.env) (λw s₂=>wpAny (model X.prog X.w) X.A (inplaceOp op u w) (λr s₃=>wpAny (model X.prog X.w) X.A (storeName X.env x r) (λ_=>SP X ac D .next) X.xe s₃) X.xe s₂) X.xe s:=by exact thn (he ac s O H _ I h) λw s1 ⟨y,H1,I1,r1,q1⟩=>(thn (ho ac s1 O H1 v y u w _ I1 r r1 q1) λz s2 ⟨zv,H2,I2,r2,q2⟩=>(z0Q I2 hN hi hx r2 (λs3 I3=>⟨_,H2,I3,q2⟩) hf))
 rcases l with⟨hk,hm⟩ | ⟨hk,c,hc,bv⟩;·exact wpAny_loadName_local I.ok.kind hk hn hm go
 ·rcases hk with hk | hk;·exact wpAny_loadName_cell I.ok.kind hk hc bv go
  ·rcases hx with k | k
   ·have:X.env.scope.names.lookup x=some .free:=hk;rw[k]at this;cases this
   ·have:X.env.scope.names.lookup x=some .free:=hk;rw[k]at this;cases this
end
section
variable {X:Cx}{pos:Pos}
def zkK(c:TT)(tb:TS):TS:=λD O H=>∃W:Nat->St->Hp->Prop,(∃m,W m O H)/\∀m O H,W m O H-> c O H λb H1=>if b=true then ∃N:St->Hp->Prop,(∀O' H',N O' H'->∃m',m'<m/\W m' O' H')/\tb {D with nx:=N,ct:=N,bk:=D.nx} O H1 else D.nx O H1
theorem zgn     (hp:PassesOwn (model X.prog X.w) X.A X.env X.xe)(hc:PT X c tc)(hb:PSs X body tb):PS X (.While c body [] pos) (zkK tc tb):=by
 intro ac s O H D I h;obtain⟨W,⟨m0,w0⟩,turn⟩:=h;refine wpAny_While (codeAny_whileLoop (λn s'=>∃O' H',Inv X ac O' H' s'/\W n O' H') ?_ m0 ⟨O,H,I,w0⟩);rintro n s1 ⟨O1,H1,I1,w1⟩;refine _bl hp (thn (hc ac s1 O1 H1 _ I1 (turn n O1 H1 w1)) λb s2 ⟨H2,I2,q2⟩=>?_);cases b with
 | true=>
  obtain⟨N,hN,q2⟩:=q2;refine _bl hp (thn (hb ac s2 O1 H2 _ I2 q2) λf s3 q3=>?_);cases f with
  | next=>
   obtain⟨O3,H3,I3,n3⟩:=q3;obtain⟨m',hm,w3⟩:=hN O3 H3 n3;exact⟨m',hm,O3,H3,I3,w3⟩ | cont=>
   obtain⟨O3,H3,I3,n3⟩:=q3;obtain⟨m',hm,w3⟩:=hN O3 H3 n3;exact⟨m',hm,O3,H3,I3,w3⟩ | brk=>exact q3 | ret v=>exact q3
 | false=> exact _cD ⟨O1,H2,I2,q2⟩
end
structure It where
 go:Nat->Hp->Prop
 yld:Nat->Hp->V->Hp->Prop
 stop:Nat->Hp->Prop
def z89(X:Cx)(ac:List (Addr×Obj))(H:Hp)(b:Addr):Prop:= H b=none/\b≠X.env.locals/\b∉X.fs/\(b∈X.ex\/X.s₀.heap.objs.size<=b)/\(∀x c,X.env.cells.lookup x=some c->c≠b)/\∀p∈X.pn++ac,p.1≠b
theorem Inv.fpOk   {O:St}   {b:Addr}(I:Inv X ac O H s)(hb:s.heap.objs.size<=b)(hn:H' b=none):z89 X ac H' b:=by
 refine⟨hn,_do (_q I.lt hb),I.nofs hb,.inr (_S I.sz hb),λx c e z=>?_,λp hp z=>(absurd (_q (_u (I.pin p hp).1) (by rw[z];exact hb)) (_aB _))⟩
 ·obtain⟨v,q⟩:=I.cell x c e;exact absurd (_q q.lt (by rw[z];exact hb)) (_aB _)
structure zfq(P:Program)(w:World)(K:W.Frag)(tg:Expr)(J:It)(fp:List Addr)(it:Addr)(tn:Nat->Heap->Prop):Prop where
 mem:it∈fp
 obj:∀i h,tn i h->∀b∈fp,∃o,h.get? b=some o/\∀v,o.data≠.cell v
 keep:∀i h h',tn i h->(∀b∈fp,∀o,h.get? b=some o->h'.get? b=some o)->tn i h'
 item:∀(X:Cx),X.prog=P->X.w=w->X.K=K->X.calm=true->∀(i:Nat)(ac:List (Addr×Obj))(s:Shared)(O:St)(H:Hp)(E:Value->Shared->Prop),Inv X ac O H s->(∀b∈fp,z89 X ac H b)->tn i s.heap->J.go i H-> wpAny (model P w) X.A (pyNext (.ref it)) (λr s1=>∃u,r=some u/\ wpAny (model P w) X.A (letOwnedTupleGo tg (.ref it) u) (λ_ s2=>∃x H',Inv X ac O H' s2/\xr x u/\J.yld i H x H'/\tn (i+1) s2.heap/\∀b∈fp,H' b=none) E s1) E s
 done:∀(X:Cx),X.prog=P->X.w=w->X.K=K->X.calm=true->∀(i:Nat)(ac:List (Addr×Obj))(s:Shared)(O:St)(H:Hp)(E:Value->Shared->Prop),Inv X ac O H s->(∀b∈fp,z89 X ac H b)->tn i s.heap->J.stop i H-> wpAny (model P w) X.A (pyNext (.ref it)) (λr s1=>r=none/\Inv X ac O H s1) E s
 self:∀(A:Around)(i:Nat)(s:Shared)(Q:Value->Shared->Prop)(E:Value->Shared->Prop),tn i s.heap->Q (.ref it) s->wpAny (model P w) A (pyIter (.ref it)) Q E s
abbrev TI:=St->Hp->(It->Hp->Prop)->Prop
def PIE(X:Cx)(ac:List (Addr×Obj))(O:St)(tg:Expr)(R:It->Hp->Prop)(eN:Value)(s2:Shared):Prop:= ∃(it:Addr)(fp:List Addr)(tn:Nat->Heap->Prop)(J:It)(H':Hp),eN=.ref it/\Inv X ac O H' s2/\zfq X.prog X.w X.K tg J fp it tn/\tn 0 s2.heap/\(∀b∈fp,z89 X ac H' b)/\R J H'
def PI(X:Cx)(tg ao:Expr)(wi:TI):Prop:= ∀(ac:List (Addr×Obj))(s:Shared)(O:St)(H:Hp)(R:It->Hp->Prop),Inv X ac O H s->wi O H R-> wpAny (model X.prog X.w) X.A (eval ao X.env) (λv s1=>wpAny (model X.prog X.w) X.A (pyIter v) (PIE X ac O tg R) X.xe s1) X.xe s
theorem zhX            (ho:s.heap.get? it=some o)(hc:o.cls=.type n)(hd:o.data=.fields vs) (hn:["enumerate","zip","dict_itemiterator","dict_reverseitemiterator","odict_iterator","itertools.zip_longest","itertools.pairwise"].contains n=false)(hQ:Q () s):wpAny M A (letOwnedTupleGo tg (.ref it) u) Q E s:=by cases tg<;>first
    | exact _i hQ | (cases u<;>first
        | exact _i hQ
        | (refine _a (wpAny_load ho ?_);rw[hc,hd];show wpAny M A (if (["enumerate","zip","dict_itemiterator","dict_reverseitemiterator","odict_iterator","itertools.zip_longest","itertools.pairwise"].contains n&&vs[0]? == some (rawInt _))=true then _ else _) Q E s;rw[_p (by intro h;rw[hn]at h;cases h)];exact _i hQ))
noncomputable def Itl(K:W.Frag)(a:Addr):It:= ⟨λi H=>∃xs x,SqL K H a xs/\xs[i]? = some x,λi H x H'=>H'=H/\∀xs,SqL K H a xs->xs[i]? = some x,λi H=>∃xs,SqL K H a xs/\xs.length<=i⟩
noncomputable def Itt(K:W.Frag)(a:Addr):It:= ⟨λi H=>∃xs x,SqT K H a xs/\xs[i]? = some x,λi H x H'=>H'=H/\∀xs,SqT K H a xs->xs[i]? = some x,λi H=>∃xs,SqT K H a xs/\xs.length<=i⟩
noncomputable def Itr(lo:Int)(n:Nat):It:=⟨λi _=>i<n,λi H x H'=>H'=H/\x=.int (lo+i),λi _=>n<=i⟩
theorem zdm   {K:W.Frag}  (a it:Addr):zfq P w K tg (Itl K a) [it] it (λi h=>h.IsListIter it a i) where
 mem:=by simp
 obj:=λi h st b hb=>by
  have e:b=it:=by simpa using hb
  subst e;obtain⟨o,e,c,d⟩:=st;exact⟨o,e,λv z=>by rw[d]at z;cases z⟩
 keep:=λi h h' st k=>st.at λo e=>k it (by simp) o e;item:=by
  intro X hP hw hK hc i ac s O H E I hf st hg;subst hP hw hK;obtain⟨xs,x,hq,hx⟩:=hg;obtain⟨ah,rv,p,hz⟩:=I.list hq;obtain⟨u,hu,ru⟩:=rv.get hx;obtain⟨f0,f1,f2,f3,f4,f5⟩:=hf it (by simp);refine wpAny_pyNext_list_item st p.isList  (by simpa using hu) λh' ag sb=>?_;obtain⟨o,e,c,d⟩:=id ag;exact⟨u,rfl,zhX  e c d (by decide) ⟨x,H,(I.turned (t':=s.toks) (λb o hb e=>(sb.2 b hb).trans e) f0 f1 f3 f4 f5),ru,⟨rfl,λys hy=>by rw[I.list_inj hy hq];exact hx⟩,ag,λb hb=>(hf b hb).1⟩⟩
 done:=by
  intro X hP hw hK hc i ac s O H E I hf st hg;subst hP hw hK;obtain⟨xs,hq,hx⟩:=hg;obtain⟨ah,rv,p,hz⟩:=I.list hq;obtain⟨f0,f1,f2,f3,f4,f5⟩:=hf it (by simp);have hl:=rv.length;exact wpAny_pyNext_list_end (I.ok.hd hc) st p.isList (by simp;lia) λh' eb=>⟨rfl,I.turned  (λb o hb e=>eb b o hb e) f0 f1 f3 f4 f5⟩
 self:=λ_ _ _ _ _ st h=>wpAny_pyIter_listiter st h
theorem zbC   {K:W.Frag}  (a it:Addr):zfq P w K tg (Itt K a) [it] it (λi h=>h.IsTupleIter it a i) where
 mem:=by simp
 obj:=λi h st b hb=>by
  have e:b=it:=by simpa using hb
  subst e;obtain⟨o,e,c,d⟩:=st;exact⟨o,e,λv z=>by rw[d]at z;cases z⟩
 keep:=λi h h' st k=>st.at λo e=>k it (by simp) o e;item:=by
  intro X hP hw hK hc i ac s O H E I hf st hg;subst hP hw hK;obtain⟨xs,x,hq,hx⟩:=hg;obtain⟨ah,rv,p,hz⟩:=I.tuple hq;obtain⟨u,hu,ru⟩:=rv.get hx;obtain⟨f0,f1,f2,f3,f4,f5⟩:=hf it (by simp);refine wpAny_pyNext_tuple_item st (p)  (by simpa using hu) λh' ag sb=>?_;obtain⟨o,e,c,d⟩:=id ag;exact⟨u,rfl,zhX  e c d (by decide) ⟨x,H,(I.turned (t':=s.toks) (λb o hb e=>(sb.2 b hb).trans e) f0 f1 f3 f4 f5),ru,⟨rfl,λys hy=>by rw[I.tuple_inj hy hq];exact hx⟩,ag,λb hb=>(hf b hb).1⟩⟩
 done:=by
  intro X hP hw hK hc i ac s O H E I hf st hg;subst hP hw hK;obtain⟨xs,hq,hx⟩:=hg;obtain⟨ah,rv,p,hz⟩:=I.tuple hq;obtain⟨f0,f1,f2,f3,f4,f5⟩:=hf it (by simp);have hl:=rv.length;exact wpAny_pyNext_tuple_end (I.ok.hd hc) st (p) (by simp;lia) λh' eb=>⟨rfl,I.turned  (λb o hb e=>eb b o hb e) f0 f1 f3 f4 f5⟩
 self:=λ_ _ _ _ _ st h=>wpAny_pyIter_tupleiter st h
theorem zb9   {K:W.Frag}  (it:Addr) (lo:Int) (n:Nat):zfq P w K tg (Itr lo n) [it] it (λi h=>IsRangeIter h it (lo+(i:Nat)*1) ((n:Int)-(i:Nat)) 1) where
 mem:=by simp
 obj:=λi h st b hb=>by
  have e:b=it:=by simpa using hb
  subst e;exact⟨_,st,λv z=>by cases z⟩
 keep:=λi h h' st k=>k it (by simp) _ st;item:=by
  intro X hP hw hK hc i ac s O H E I hf st hg;subst hP hw hK;obtain⟨f0,f1,f2,f3,f4,f5⟩:=hf it (by simp);refine (Walks.range (prog:=X.prog) (w:=X.w) (I.ok.hd hc) it lo 1 n).item i s _ _ hg st λv h' tk hv ag kk=>?_;obtain⟨t,rfl⟩:=hv;have I1:Inv X ac O H {s with heap:=h',toks:=tk}:=I.turned (λb o hb e=>kk b o (by simpa using hb) e) f0 f1 f3 f4 f5;refine⟨_,rfl,zhX   ag rfl rfl (by decide) ⟨.int (lo+i),H,I1,⟨t,?_⟩,⟨rfl,rfl⟩,ag,λb hb=>(hf b hb).1⟩⟩;rw[Int.mul_one]
 done:=by
  intro X hP hw hK hc i ac s O H E I hf st hg;obtain⟨f0,f1,f2,f3,f4,f5⟩:=hf it (by simp);exact wpAny_pyNext_range_end (I.ok.hd hc) st (by have:n<=i:=hg;lia) λh' eb=>⟨rfl,I.turned  (λb o hb e=>eb b o hb e) f0 f1 f3 f4 f5⟩
 self:=λ_ _ _ _ _ st h=>wpAny_pyIter_rangeiter st h
section
variable {X:Cx}{tg:Expr}
theorem z9w{ac:List (Addr×Obj)}{O:St}{H:Hp}{s:Shared}{R:It->Hp->Prop}{E:Value->Shared->Prop}{lo hi:Int}{t u v:Tok}{tk:Nat}(I:Inv X ac O H s)(h1:-(2 ^ 62)<=lo)(h2:lo<2 ^ 62)(h3:-(2 ^ 62)<=hi)(h4:hi<2 ^ 62) (q:R (Itr lo (hi-lo).toNat) H):wpAny (model X.prog X.w) X.A (pyIter (.ref s.heap.objs.size)) (PIE X ac O tg R) E {s with heap:=s.heap.push {cls:=.type "range",data:=.fields #[.int lo t,.int hi u,.int 1 v]},toks:=tk}:=by
 refine wpAny_pyIter_range (IsRange.new ..) (small_one h1 h2 h3 h4) ?_;have I1:Inv X ac O H {s with heap:=s.heap.push {cls:=.type "range",data:=.fields #[.int lo t,.int hi u,.int 1 v]},toks:=tk}:=I.kept λb o e=>_e _ e;refine⟨(s.heap.push {cls:=.type "range",data:=.fields #[.int lo t,.int hi u,.int 1 v]}).objs.size,[(s.heap.push {cls:=.type "range",data:=.fields #[.int lo t,.int hi u,.int 1 v]}).objs.size],_,_,H,rfl, I1.kept  λb o e=>_e _ e,zb9 _ lo (hi-lo).toNat,?_,λb hb=>?_,q⟩
 ·have e1:lo+(0:Nat)*1=lo:=by simp
  rw[e1,(show ((hi-lo).toNat:Nat)-(0:Nat)=Builtin.Range.rangeSize lo hi 1 from by rw[rangeSize_one];split<;>lia)];exact _x _ rfl
 ·have e:b=(s.heap.push {cls:=.type "range",data:=.fields #[.int lo t,.int hi u,.int 1 v]}).objs.size:=by simpa using hb
  subst e;exact I1.fpOk (_h _) (I1.hok.fresh (_h _))
def zmW(ta:TA):TI:=λO H R=>ta O H λvs H1=>∃j:Int,vs=[.int j]/\-(2 ^ 62)<=j/\j<2 ^ 62/\R (Itr 0 j.toNat) H1
def znH(ta:TA):TI:=λO H R=>ta O H λvs H1=>∃i j:Int,vs=[.int i,.int j]/\(-(2 ^ 62)<=i/\i<2 ^ 62/\-(2 ^ 62)<=j/\j<2 ^ 62)/\R (Itr i (j-i).toNat) H1
theorem zep    (hg:Gl X "range")(hm:X.mg "range"=none)(ha:PA X [a] ta)(hs:autoParam (starEach [a] X.env=[(false,eval a X.env)]) aRf):PI X tg (.Call (.Name "range" p) [a] [] pos) (zmW ta):=by
 refine λac s O H R I h=>Call_ (kL I hg hm boot_range (_ah (thn (ha pos ac s O H _ I h) λus s1 ⟨vs,H1,I1,r1,q1⟩=>?_) hs rfl));obtain⟨j,e,q1,q2,q⟩:=q1;subst e;cases r1 with | cons r rr=>
  cases rr;obtain⟨t,rfl⟩:=r;exact call_range_1 (z9w I1 (by lia) (by lia) q1 q2 (by simpa using q))
theorem zcR   {p pos:Pos}(hg:Gl X "range")(hm:X.mg "range"=none)(ha:PA X [a,b] ta)(hs:autoParam (starEach [a,b] X.env=[(false,eval a X.env),(false,eval b X.env)]) aRf)(bI:autoParam (starEach [b] X.env=[(false,eval b X.env)]) aRf): PI X tg (.Call (.Name "range" p) [a,b] [] pos) (znH ta):=by
 refine λac s O H R I h=>Call_ (kL I hg hm boot_range (_ah (thn (ha pos ac s O H _ I h) λus s1 ⟨vs,H1,I1,r1,q1⟩=>?_) (by rw[hs,bI]) (by rw[bI];rfl)));obtain⟨i,j,e,⟨q1,q2,q3,q4⟩,q⟩:=q1;subst e;cases r1 with | cons r rr=> cases rr with | cons r' rr=>
   cases rr;obtain⟨t,rfl⟩:=r;obtain⟨t',rfl⟩:=r';exact call_range_2 (z9w I1 q1 q2 q3 q4 q)
def zq8(wi:TI)(g:TG)(tb:TS):TS:=λD O H=>wi O H λJ H1=>∃W:Nat->Nat->St->Hp->Prop,(∃m,W 0 m O H1)/\∀i m O H,W i m O H-> (J.stop i H/\D.nx O H)\/(J.go i H/\∃N:St->Hp->Prop,(∀O' H',N O' H'->∃m',m'<m/\W (i+1) m' O' H')/\∀x H',J.yld i H x H'->g x O H' λO2 H2=>tb {D with nx:=N,ct:=N,bk:=D.nx} O2 H2)
noncomputable def z52(fp:List Addr)(h:Heap):List (Addr×Obj):=fp.filterMap λb=>(h.get? b).map λo=>(b,o)
theorem qu     (hb:b∈fp)(e:h.get? b=some o):(b,o)∈z52 fp h:=_cS.mpr ⟨b,hb,by rw[e];rfl⟩
theorem zd7    (hp:p∈z52 fp h):p.1∈fp/\h.get? p.1=some p.2:=by
 obtain⟨b,hb,e⟩:=_cS.mp hp;cases q:h.get? b with
 | none=>rw[q]at e;cases e | some o=>
  rw[q]at e;have e'  := _E e;subst e';exact⟨hb,q⟩
theorem Inv.pinned  {O:St}    (I:Inv X ac O H s)(hf:∀b∈fp,z89 X ac H b)(ho:∀b∈fp,∃o,s.heap.get? b=some o/\∀v,o.data≠.cell v):Inv X (ac++z52 fp s.heap) O H s:= I.pins_of λp hp=>(_D.mp hp).elim (λz=>I.pin p (_w _ z)) λz=>by
  obtain⟨hb,e⟩:=zd7 z;obtain⟨f0,f1,f2,_⟩:=hf p.1 hb;obtain⟨o,e',d⟩:=ho p.1 hb;rw[e]at e';cases e';exact⟨e,f0,f1,f2,d⟩
theorem Inv.unpinned  {O:St}   (I:Inv X (ac++pl) O H s):Inv X ac O H s:=I.pins_of λp hp=>I.pin p (_w _ (_aO _ hp))
theorem zlk       (hp:PassesOwn (model X.prog X.w) X.A X.env X.xe)(hc:X.calm=true)(hi:PI X tg ao wi)(hg:PG X tg g)(hb:PSs X body tb) (hs:autoParam (∀x,foldedSetIterable ao X.env x=pure x) aIr):PS X (.For tg ao body [] pos) (zq8 wi g tb):=by
 refine λac s O H D I h=>wpAny_For (thn (hi ac s O H _ I h) λv s1 h1=>thn h1 λeN s2 h2=>?_) hs;obtain⟨it,fp,tn,J,H2,e,I2,T,av,f2,W,⟨m0,w0⟩,turn⟩:=h2;subst e;have bp:∀{H':Hp},(∀b∈fp,H' b=none)->∀b∈fp,z89 X ac H' b:=λhn b hb=>⟨hn b hb,(f2 b hb).2⟩;refine codeAny_forLoop_any (λn s'=>∃i O' H',Inv X ac O' H' s'/\tn i s'.heap/\(∀b∈fp,H' b=none)/\W i n O' H') ?_ m0 ⟨0,O,H2,I2,av,λb hb=>(f2 b hb).1,w0⟩;rintro n s3 ⟨i,O3,H3,I3,bF,lK,w3⟩;rcases turn i n O3 H3 w3 with⟨stop,qn⟩ | ⟨go,N,hN,step⟩
 ·refine _bl hp (thn (T.done X rfl rfl rfl hc i ac s3 O3 H3 X.xe I3 (bp lK) bF stop) λr s4 ⟨hr,I4⟩=>?_);subst hr;exact _cD ⟨O3,H3,I4,qn⟩
 ·refine _bl hp (thn (T.item X rfl rfl rfl hc i ac s3 O3 H3 X.xe I3 (bp lK) bF go) λr s4 ⟨u,hr,h4⟩=>?_);subst hr;refine _bl hp (thn h4 λ_ s5 ⟨x,H5,I5,r5,y5,fD,nv⟩=>(_bl hp (thn (hg _ s5 O3 H5 x u _ (I5.pinned (bp nv) (T.obj _ _ fD)) r5 (step x H5 y5)) λ_ s6 ⟨O6,H6,I6,q6⟩=>?_)));refine _bl hp (thn (hb _ s6 O6 H6 _ I6 q6) λf s7 q7=>?_);have again:∀{O7:St}{H7:Hp},Inv X (ac++z52 fp s5.heap) O7 H7 s7->N O7 H7->∃m,m<n/\∃i O' H',Inv X ac O' H' s7/\tn i s7.heap/\(∀b∈fp,H' b=none)/\W i m O' H':=λ{O7 H7} I7 n7=>by
   obtain⟨m',hm,w7⟩:=hN O7 H7 n7;refine⟨m',hm,i+1,O7,H7,I7.unpinned,T.keep _ _ _ fD λb hb o e=>(I7.pin (b,o) (_w _ (_w _ (qu hb e)))).1,λb hb=>?_,w7⟩;obtain⟨o,e,d⟩:=T.obj _ _ fD b hb;exact (I7.pin (b,o) (_w _ (_w _ (qu hb e)))).2.1
  cases f with
  | next=>obtain⟨O7,H7,I7,n7⟩:=q7;exact again I7 n7 | cont=>obtain⟨O7,H7,I7,n7⟩:=q7;exact again I7 n7 | brk=>obtain⟨O7,H7,I7,q7⟩:=q7;exact⟨O7,H7,I7.unpinned,q7⟩ | ret v=>obtain⟨x7,O7,H7,I7,r7,q7⟩:=q7;exact⟨x7,O7,H7,I7.unpinned,r7,q7⟩
end
abbrev R2:=V->V->Hp->VK->Prop
def OpR(X:Cx)(f:Value->Value->Sem Value)(r:R2):Prop:= ∀(ac:List (Addr×Obj))(s:Shared)(O:St)(H:Hp)(x y:V)(v u:Value)(Q:VK),Inv X ac O H s->xr x v->xr y u->r x y H Q-> wpAny (model X.prog X.w) X.A (f v u) (EP X ac O Q) X.xe s
def UnR(X:Cx)(f:Value->Sem Value)(r:V->Hp->VK->Prop):Prop:= ∀(ac:List (Addr×Obj))(s:Shared)(O:St)(H:Hp)(x:V)(v:Value)(Q:VK),Inv X ac O H s->xr x v->r x H Q-> wpAny (model X.prog X.w) X.A (f v) (EP X ac O Q) X.xe s
def vt(X:Cx)(f:Value)(r:List V->Hp->VK->Prop):Prop:= ∀(ac:List (Addr×Obj))(s:Shared)(O:St)(H:Hp)(xs:List V)(us:List Value)(Q:VK),Inv X ac O H s->xF xs us->r xs H Q-> wpAny (model X.prog X.w) X.A (call f us) (EP X ac O Q) X.xe s
def zqf(X:Cx)(r:V->Hp->(Bool->Hp->Prop)->Prop):Prop:= ∀(ac:List (Addr×Obj))(s:Shared)(O:St)(H:Hp)(x:V)(v:Value)(Q:Bool->Hp->Prop),Inv X ac O H s->xr x v->r x H Q-> wpAny (model X.prog X.w) X.A (truthy v) (TP X ac O Q) X.xe s
def tOp(r:R2)(ta tb:TE):TE:=λO H Q=>ta O H λx H1=>tb O H1 λy H2=>r x y H2 Q
def tUn(r:V->Hp->VK->Prop)(ta:TE):TE:=λO H Q=>ta O H λx H1=>r x H1 Q
def rI(C:Int->Int->Prop)(g:Int->Int->V):R2:=λx y H Q=>∃i j,x=.int i/\y=.int j/\C i j/\Q (g i j) H
def rI0(g:Int->Int->V):R2:=λx y H Q=>∃i j,x=.int i/\y=.int j/\Q (g i j) H
def rU(g:Int->V):V->Hp->VK->Prop:=λx H Q=>∃i,x=.int i/\Q (g i) H
section
variable {X:Cx}{a b c:Expr}{ta tb tc:TE}{pos:Pos}
theorem zoB(ha:PE X a ta)(hb:PE X b tb)   {O:St}  {R:V->V->Hp->Prop}(I:Inv X ac O H s) (h:ta O H λx H1=>tb O H1 λy H2=>R x y H2)  {f:Value->Value->Sem Value} (hf:∀v u s2 x y H2,Inv X ac O H2 s2->xr x v->xr y u->R x y H2->wpAny (model X.prog X.w) X.A (f v u) Q X.xe s2): wpAny (model X.prog X.w) X.A (eval a X.env) (λv s₁=>wpAny (model X.prog X.w) X.A (eval b X.env) (λu s₂=>wpAny (model X.prog X.w) X.A (f v u) Q X.xe s₂) X.xe s₁) X.xe s:=by exact thn (ha ac s O H _ I h) λv s1 ⟨x,H1,I1,r1,q1⟩=>(thn (hb ac s1 O H1 _ I1 q1) λu s2 ⟨y,H2,I2,r2,q2⟩=>(hf v u s2 x y H2 I2 r1 r2 q2))
theorem zmE   (ho:OpR X (binaryOp op) r)(ha:PE X a ta)(hb:PE X b tb):PE X (.BinOp a op b pos) (tOp r ta tb):=λac s O H Q I h=>wpAny_BinOp (zoB ha hb I h λv u s2 x y H2 I2 rx ry q=>ho ac s2 O H2 x y v u Q I2 rx ry q)
theorem zor   (ho:UnR X (unaryOp op) r)(ha:PE X a ta):PE X (.UnaryOp op a pos) (tUn r ta):=λac s O H Q I h=>UnaryOp_ (thn (ha ac s O H _ I h) λv s1 ⟨x,H1,I1,r1,q1⟩=>ho ac s1 O H1 x v Q I1 r1 q1)
theorem opI   {g:Int->Int->Int} (rule:∀(i j:Int) (t u:Tok) (s:Shared) (Q:Value->Shared->Prop) (E:Value->Shared->Prop),C i j->Q (.int (g i j) s.toks) {s with toks:=s.toks+1}->wpAny (model X.prog X.w) X.A (f (.int i t) (.int j u)) Q E s): OpR X f (rI C λi j=>.int (g i j)):=by
 intro ac s O H x y v u Q I rx ry h;obtain⟨i,j,rfl,rfl,hc,q⟩:=h;obtain⟨t,rfl⟩:=rx;obtain⟨t',rfl⟩:=ry;exact rule i j t t' s _ _ hc ⟨.int (g i j),H,I.tok _,⟨_,rfl⟩,q⟩
theorem zpk  {g:Int->Int->Int} (rule:∀(i j:Int) (t u:Tok) (s:Shared) (Q:Value->Shared->Prop) (E:Value->Shared->Prop),Q (.int (g i j) s.toks) {s with toks:=s.toks+1}->wpAny (model X.prog X.w) X.A (f (.int i t) (.int j u)) Q E s): OpR X f (rI0 λi j=>.int (g i j)):=by
 intro ac s O H x y v u Q I rx ry h;obtain⟨i,j,rfl,rfl,q⟩:=h;obtain⟨t,rfl⟩:=rx;obtain⟨t',rfl⟩:=ry;exact rule i j t t' s _ _ ⟨.int (g i j),H,I.tok _,⟨_,rfl⟩,q⟩
theorem zmA  {g:Int->Int->Bool} (rule:∀(i j:Int)(t u:Tok)(s:Shared)(Q:Value->Shared->Prop)(E:Value->Shared->Prop),Q (.bool (g i j)) s->wpAny (model X.prog X.w) X.A (f (.int i t) (.int j u)) Q E s): OpR X f (rI0 λi j=>.bl (g i j)):=by
 intro ac s O H x y v u Q I rx ry h;obtain⟨i,j,rfl,rfl,q⟩:=h;obtain⟨t,rfl⟩:=rx;obtain⟨t',rfl⟩:=ry;exact rule i j t t' s _ _ ⟨.bl (g i j),H,I,rfl,q⟩
def zpH(i j:Int):Prop:=0<=j/\j<=1000000/\i.natAbs<2 ^ 64
theorem zli:OpR X (binaryOp .Add) (rI0 λi j=>.int (i+j)):=zpk λ_ _ _ _ _ _ _ q=>add_int q
theorem zkl:OpR X (binaryOp .Sub) (rI0 λi j=>.int (i-j)):=zpk λ_ _ _ _ _ _ _ q=>sub_int q
theorem zkv:OpR X (binaryOp .Mod) (rI (λ_ j=>0<j) λi j=>.int (i % j)):=opI λi j _ _ _ _ _ hc q=>mod_int' (by lia) (by rw[Int.fmod_eq_emod_of_nonneg i (by lia)];exact q)
theorem zlU:OpR X (binaryOp .Pow) (rI zpH λi j=>.int (i ^ j.toNat)):=opI λ_ _ _ _ _ _ _ hc q=>pow_int_small hc.1 hc.2.1 hc.2.2 q
theorem unI  {g:Int->Int} (rule:∀(i:Int) (t:Tok) (s:Shared) (Q:Value->Shared->Prop) (E:Value->Shared->Prop),Q (.int (g i) s.toks) {s with toks:=s.toks+1}->wpAny (model X.prog X.w) X.A (f (.int i t)) Q E s): UnR X f (rU λi=>.int (g i)):=by
 intro ac s O H x v Q I rx h;obtain⟨i,rfl,q⟩:=h;obtain⟨t,rfl⟩:=rx;exact rule i t s _ _ ⟨.int (g i),H,I.tok _,⟨_,rfl⟩,q⟩
theorem zkT:UnR X (unaryOp .USub) (rU λi=>.int (-i)):=unI λ_ _ _ _ _ q=>neg_int q
end
section
variable {X:Cx}{a b c:Expr}{ta tb tc:TE}{pos:Pos}
theorem zgX  {O:St}     (I:Inv X ac O H s)(q:Q (.bl k) H)(e:k=k'):EP X ac O Q (.bool k') s:=by
 subst e;exact⟨.bl k,H,I,rfl,q⟩
theorem zot:OpR X (compareOp .Lt) (rI0 λi j=>.bl (decide (i<j))):=zmA λ_ _ _ _ _ _ _ q=>lt_int q
theorem zmH:OpR X (compareOp .LtE) (rI0 λi j=>.bl (decide (i<=j))):=zmA λ_ _ _ _ _ _ _ q=>le_int q
theorem znC:OpR X (compareOp .Gt) (rI0 λi j=>.bl (decide (j<i))):=zmA λ_ _ _ _ _ _ _ q=>gt_int q
theorem znQ:OpR X (compareOp .GtE) (rI0 λi j=>.bl (decide (j<=i))):=zmA λ_ _ _ _ _ _ _ q=>ge_int q
theorem zkd:OpR X (compareOp .Is) (λx y H Q=>y=.non/\Q (.bl (decide (x=.non))) H):=by
 intro ac s O H x y v u Q I rx ry h;obtain⟨rfl,q⟩:=h;cases ry;refine is_none_gen (zgX I q ?_);cases x<;>(obtain⟨t,rfl⟩:=rx;rfl)
theorem zir:OpR X (compareOp .IsNot) (λx y H Q=>y=.non/\Q (.bl (!decide (x=.non))) H):=by
 intro ac s O H x y v u Q I rx ry h;obtain⟨rfl,q⟩:=h;cases ry;refine isnot_none_gen (zgX I q ?_);cases x<;>(obtain⟨t,rfl⟩:=rx;rfl)
theorem OpR.or   (h:OpR X f r)(h':OpR X f r'):OpR X f (λx y H Q=>r x y H Q\/r' x y H Q):=by
 intro ac s O H x y v u Q I rx ry q;rcases q with q | q;·exact h ac s O H x y v u Q I rx ry q
 ·exact h' ac s O H x y v u Q I rx ry q
theorem zhy(b:Expr)  (h:autoParam (op≠.In) aDe)(h2:autoParam (op≠.NotIn) aDe):behindInMarks op b=false:=by
 have e1:(op==CmpOp.In)=false:=by cases op<;>first | rfl | exact absurd rfl h
 have e2:(op==CmpOp.NotIn)=false:=by cases op<;>first | rfl | exact absurd rfl h2
 cases b<;>simp[behindInMarks,e1,e2]
theorem zdZ   (ho:OpR X (compareOp op) r)(ha:PE X a ta)(hb:PE X b tb)(hm:behindInMarks op b=false):PE X (.Compare a [op] [b] pos) (tOp r ta tb):=λac s O H Q I h=>wpAny_Compare1 (zoB ha hb I h λv u s2 x y H2 I2 rx ry q=>ho ac s2 O H2 x y v u Q I2 rx ry q) hm
def ziF(t:TE):TT:=λO H Q=>t O H λx H'=>∃k,x=.bl k/\Q k H'
theorem zio   (ho:OpR X (compareOp op) r)(ha:PE X a ta)(hb:PE X b tb)(hm:behindInMarks op b=false):PT X (.Compare a [op] [b] pos) (ziF (tOp r ta tb)):=by
 refine λac s O H Q I h=>wpAny_isTrue_Compare1 (thn (ha ac s O H _ I h) λv s1 ⟨x,H1,I1,r1,q1⟩=>thn (hb ac s1 O H1 _ I1 q1) λu s2 ⟨y,H2,I2,r2,q2⟩=> thn (ho ac s2 O H2 x y v u _ I2 r1 r2 q2) λc s3 ⟨z,H3,I3,r3,k,e,q3⟩=>?_) hm;subst e;cases r3;exact _av ⟨H3,I3,q3⟩
def zcv(r r':R2)(ta tb tc:TE):TE:=λO H Q=>ta O H λx H1=>tb O H1 λy H2=>r x y H2 λz H3=>∃k,z=.bl k/\ (if k=true then tc O H3 λw' H4=>r' y w' H4 Q else Q (.bl false) H3)
theorem zfY   (ho:OpR X (compareOp op) r)(bP:OpR X (compareOp cm) r')(ha:PE X a ta)(hb:PE X b tb)(hc:PE X c tc) (hm:autoParam (lastMarks [op,cm] [b,c]=false) aWu):PE X (.Compare a [op,cm] [b,c] pos) (zcv r r' ta tb tc):=by
 refine λac s O H Q I h=>Compare_chain (thn (ha ac s O H _ I h) λv s1 ⟨x,H1,I1,r1,q1⟩=>chain_link (thn (hb ac s1 O H1 _ I1 q1) λu s2 ⟨y,H2,I2,r2,q2⟩=> thn (ho ac s2 O H2 x y v u _ I2 r1 r2 q2) λd s3 ⟨z,H3,I3,r3,k,e,q3⟩=>?_)) hm;subst e;cases r3;refine _av ?_;cases k with
 | false=>exact ite_ff ⟨.bl false,H3,I3,rfl,q3⟩ | true=>exact ite_tt (chain_last (thn (hc ac s3 O H3 _ I3 q3) λw' s4 ⟨z',H4,I4,r4,q4⟩=>bP ac s4 O H4 y z' u w' Q I4 r2 r4 q4))
theorem zg7   (ho:OpR X (compareOp op) r)(bP:OpR X (compareOp cm) r')(ha:PE X a ta)(hb:PE X b tb)(hc:PE X c tc) (hm:autoParam (lastMarks [op,cm] [b,c]=false) aWu):PT X (.Compare a [op,cm] [b,c] pos) (ziF (zcv r r' ta tb tc)):=by
 refine λac s O H Q I h=>isTrue_chain (thn (ha ac s O H _ I h) λv s1 ⟨x,H1,I1,r1,q1⟩=>test_link (thn (hb ac s1 O H1 _ I1 q1) λu s2 ⟨y,H2,I2,r2,q2⟩=> thn (ho ac s2 O H2 x y v u _ I2 r1 r2 q2) λd s3 ⟨z,H3,I3,r3,k,e,q3⟩=>?_)) hm;subst e;cases r3;refine _av ?_;cases k with
 | false=>
  obtain⟨k',e',q'⟩:=q3;cases e';exact ite_ff ⟨H3,I3,q'⟩ | true=>
  refine ite_tt (test_last (thn (hc ac s3 O H3 _ I3 q3) λw' s4 ⟨z',H4,I4,r4,q4⟩=>thn (bP ac s4 O H4 y z' u w' _ I4 r2 r4 q4) λd' s5 ⟨z2,H5,I5,r5,k2,e2,q5⟩=>?_));subst e2;cases r5;exact _av ⟨H5,I5,q5⟩
def zou(K:W.Frag)(x:V)(H:Hp)(k:Bool):Prop:= match x with
 | .non=>k=false | .bl b=>k=b | .int i=>k=(i != 0) | .str y=>y.length<=sizeLine/\k=((y.length:Int) != 0) | .byt y=>y.size<=sizeLine/\k=((y.size:Int) != 0) | .ref p=>(∃xs,SqL K H p xs/\k=!xs.isEmpty)\/(∃xs,SqT K H p xs/\k=!xs.isEmpty)\/∃ae,H p=some (.dK ae)/\k=!ae.isEmpty | _=>False
theorem zbA   {vs:List (κ×Value)}(r:KV ae vs):(!vs.isEmpty)=!ae.isEmpty:=by cases r<;>rfl
theorem z4p   (r:xF xs ah):(!ah.toArray.isEmpty)=!xs.isEmpty:=by cases r<;>rfl
theorem za1:(sizeLine:Nat)<2 ^ 63:=by decide
theorem zgY:zqf X (λx H Q=>∃k,zou X.K x H k/\Q k H):=by
 intro ac s O H x v Q I rx h;obtain⟨k,e,q⟩:=h;have hs  := sizeLine_eq;cases x with
 | non=>
  cases rx;subst e;exact truthy_none ⟨H,I,q⟩ | bl b=>
  cases rx;subst e;exact _av ⟨H,I,q⟩ | int i=>
  obtain⟨t,rfl⟩:=rx;subst e;exact PySem.P.truthy_int ⟨H,I,q⟩ | str y=>
  obtain⟨t,rfl⟩:=rx;obtain⟨hy,e'⟩:y.length<=sizeLine/\k=((y.length:Int) != 0):=e;subst e';exact PySem.P.truthy_str (by lia) ⟨H,I.tok _,q⟩ | byt y=>
  obtain⟨t,rfl⟩:=rx;obtain⟨hy,e'⟩:y.size<=sizeLine/\k=((y.size:Int) != 0):=e;subst e';exact W.truthy_bytes (by lia) ⟨H,I.tok _,q⟩ | ref p=>
  cases rx;have e'  := e;rcases e' with⟨xs,hx,e'⟩ | ⟨xs,hx,e'⟩ | ⟨ae,hx,e'⟩
  ·subst e';obtain⟨ah,r,pl,hz⟩:=I.list hx;have aD:=r.length;exact wpAny_truthy_list pl.isList (by simp only[_t];lia) ⟨H,I.tok _,by rw[z4p r];exact q⟩
  ·subst e';obtain⟨ah,r,pl,hz⟩:=I.tuple hx;have aD:=r.length;exact truthy_tuple pl (by simp only[_t];lia) ⟨H,I.tok _,by rw[z4p r];exact q⟩
  ·subst e';obtain⟨hz,hS,vs,r,m⟩:ae.length<=sizeLine/\(p==sysModules)=false/\∃vs,KV ae vs/\s.heap.DictOf (zX X.prog X.w) p vs:=I.hok p _ hx;have aD  := Paired.length r;exact wpAny_truthy_dict hS m (by lia) ⟨H,I.tok _,by rw[zbA r];exact q⟩ | _=>exact (show False from e).elim
theorem zfo(ha:PE X a ta)(he:∀whole,isTrue a X.env whole=(do let v <- whole;standAt a.pos;holding [v] (truthy v))): PT X a (λO H Q=>ta O H λx H'=>∃k,zou X.K x H' k/\Q k H'):=λac s O H Q I h=>isTrue_plain (thn (ha ac s O H _ I h) λv s1 ⟨x,H1,I1,r1,q1⟩=>zgY ac s1 O H1 x v Q I1 r1 q1) (he _)
theorem vals1   (r:xF [x] us):∃u,us=[u]/\xr x u:=by cases r with | cons r1 r2=>cases r2;exact⟨_,rfl,r1⟩
theorem vals2   (r:xF [x,y] us):∃u w',us=[u,w']/\xr x u/\xr y w':=by cases r with | cons r1 r2=> cases r2 with | cons r3 r4=>cases r4;exact⟨_,_,rfl,r1,r3⟩
theorem zff:vt X (.builtin "abs") (λxs H Q=>∃i,xs=[.int i]/\Q (.int (if i<0 then -i else i)) H):=by
 intro ac s O H xs us Q I r h;obtain⟨i,rfl,q⟩:=h;obtain⟨u,rfl,t,rfl⟩:=vals1 r;exact call_abs_int λu tk=>⟨.int (if i<0 then -i else i),H,I.tok _,⟨_,rfl⟩,q⟩
theorem zdn(hc:X.calm=true):vt X (.builtin "max") (λxs H Q=>∃i j,xs=[.int i,.int j]/\Q (.int (if j > i then j else i)) H):=by
 intro ac s O H xs us Q I r h;obtain⟨i,j,rfl,q⟩:=h;obtain⟨u,w',rfl,⟨t,rfl⟩,⟨t',rfl⟩⟩:=vals2 r;refine max_two_ints (I.ok.hd hc) λh' tk k=>⟨_,H,I.kept k,?_,q⟩;by_cases hj:j > i;·rw[_l hj,_l hj];exact⟨_,rfl⟩
 ·rw[_p hj,_p hj];exact⟨_,rfl⟩
theorem zcd(hc:X.calm=true):vt X (.builtin "min") (λxs H Q=>∃i j,xs=[.int i,.int j]/\Q (.int (if j<i then j else i)) H):=by
 intro ac s O H xs us Q I r h;obtain⟨i,j,rfl,q⟩:=h;obtain⟨u,w',rfl,⟨t,rfl⟩,⟨t',rfl⟩⟩:=vals2 r;refine min_two_ints (I.ok.hd hc) λh' tk k=>⟨_,H,I.kept k,?_,q⟩;by_cases hj:j<i;·rw[_l hj,_l hj];exact⟨_,rfl⟩
 ·rw[_p hj,_p hj];exact⟨_,rfl⟩
end
structure zoU(h:Heap)(x dx C:Addr)(mA:Str->Option Value):Prop where
 obj:h.get? x=some (W.instObj C dx)
 ns:h.Ns1 dx mA
 ne:dx≠x
theorem zdT{h:Heap}   (n:h.Ns1 dx mA):∃od,h.get? dx=some od/\∀name,W.lookIn name od=some (mA name):=by
 obtain⟨o,es,ep,ho,hd,hk,_,hm⟩:=n;refine⟨o,ho,λname=>?_⟩;have e:=hm name;unfold nsFind findBy at e;rw[<- Array.find?_toList]at e;unfold W.lookIn;rw[hd];dsimp only;split
 ·rename_i y q;rw[q]at e;exact _aw some e
 ·rename_i q;rw[q]at e
  rw[_p (by rw[(show es.toList.any (·.refKey)=false from by
   rw[List.any_eq_false];intro y hy;obtain⟨z,t,iD⟩:=hk y (Array.mem_toList_iff.mp hy);simp[DictEntry.refKey,iD])];exact _aM)];exact _aw some e
theorem zoU.look    (I:zoU h x dx C mA):∃od,W.InstAt h x (W.instObj C dx) C (some od)/\∀name,W.lookIn name od=some (mA name):= let ⟨od,ho,hl⟩:=zdT I.ns;⟨od,⟨I.obj,rfl,rfl,ho⟩,hl⟩
section
variable {P:Program}{w:World}{H H':Hp}{h h':Heap}{a C dx:Addr}{fs eK:List (Str×V)}
theorem ziN(hok:HOk P w H h)(e:H a=some (.ins C dx fs)):∃mA,zoU h a dx C mA/\(∀f,zjP (fs.lookup f) (mA f))/\PySem.Within mA (fs.map (·.1))/\fs.length<=1000/\H dx=some (.own a):=by
 obtain⟨d,z,ne,ob,mA,n,r,q⟩:=((hok a _ e));exact⟨mA,⟨ob,n,ne⟩,r,q,z,d⟩
end
structure Cls(K:W.Frag)(C:Addr):Prop where
 pg:W.plainGet K C Str.empty=true
 hd:W.hasDictIn K C=true
 po:W.plainOver K C=true
 sa:W.findIn K (.ref C) "__setattr__"=some (some (.builtin "object.__setattr__"))
theorem Cls.get{K:W.Frag}  (c:Cls K C)(f:Str):W.plainGet K C f=true:=c.pg
section
variable {X:Cx}{ac:List (Addr×Obj)}{O:St}{H:Hp}{s:Shared}{A:Around}{E:Value->Shared->Prop}{Q:Value->Shared->Prop}{c:Value}{b:Bool}
inductive zaL(K:W.Frag)(H:Hp):V->Value->Prop where | non:zaL K H .non (.type "NoneType") | bl (x:Bool):zaL K H (.bl x) (.type "bool") | int (i:Int):zaL K H (.int i) (.type "int") | str (x:Str):zaL K H (.str x) (.type "str") | flt (x:UInt64):zaL K H (.flt x) (.type "float") | lst {a:Addr}{xs:List V}(e:H a=some (.lst xs)):zaL K H (.ref a) (.type "list") | frz {a:Addr}{o:Obj}{xs:List V}(e:H a=some (.frz o (.lst xs))):zaL K H (.ref a) (.type "list") | tup {a:Addr}{xs:List V}(e:H a=some (.tup xs)):zaL K H (.ref a) (.type "tuple") | dK {a:Addr}{ae:List (Key×V)}(e:H a=some (.dK ae)):zaL K H (.ref a) (.type "dict") | dT {a:Addr}{ae:List (List Key×V)}(e:H a=some (.dT ae)):zaL K H (.ref a) (.type "dict") | ins {a C dx:Addr}{fs:List (Str×V)}(e:H a=some (.ins C dx fs))(cl:Cls K C)(ha:W.findIn K (.ref C) "__class__"=some (some (.builtin "object.__class__"))) (hn:W.specialIn K (.builtin "object.__class__") "__get__"=some (some (.builtin "getset_descriptor.__get__")))(lL:W.takesIn K (.builtin "object.__class__")=some true) (hm:W.mroIn K C (.type "object")=some true):zaL K H (.ref a) (.ref C)
theorem zcY   (I:Inv X ac O H s) (rx:xr x u) (ty:zaL X.K H x t) (e:W.kitOne X.K t c=some b) (h:∀tk,Q (.bool b) {s with toks:=tk}): wpAny (model X.prog X.w) A (call (.builtin "isinstance") [u,c]) Q E s:=by cases ty with
 | non=>cases (rx);exact _bD W.kitx_none I.kIn True.intro e (λz=>nomatch z) h | bl y=>cases (rx);exact _bD W.kitx_bool I.kIn True.intro e (λz=>nomatch z) h | int i=>obtain⟨t,q⟩:=(rx);cases q;exact _bD W.kitx_int I.kIn True.intro e (λz=>nomatch z) h | str y=>obtain⟨t,q⟩:=(rx);cases q;exact _bD W.kitx_str I.kIn True.intro e (λz=>nomatch z) h | flt y=>obtain⟨t,q⟩:=(rx);cases q;exact _bD W.kitx_float I.kIn True.intro e (λz=>nomatch z) h | @lst a xs ea=>
  cases (rx);obtain⟨_,_,n,_,h1⟩:=((I.hok a _ ea));exact _bD W.kitx_list I.kIn ⟨_,h1,rfl⟩ e (λz=>nomatch z) h | @frz a ob xs ea=>
  cases (rx);obtain⟨_,_,_,n,_,h1⟩:=((I.hok a _ ea));exact _bD W.kitx_list I.kIn ⟨_,h1,rfl⟩ e (λz=>nomatch z) h | @tup a xs ea=>
  cases (rx);obtain⟨_,_,_,p⟩:=((I.hok a _ ea));obtain⟨o,h1,h2,_⟩:=p;exact _bD W.kitx_tuple I.kIn ⟨o,h1,h2⟩ e (λz=>nomatch z) h | @dK a ae ea=>
  cases (rx);obtain⟨_,_,vs,_,p⟩:=((I.hok a _ ea));obtain⟨o,es,ep,h1,h2,_⟩:=p;exact _bD W.kitx_dict I.kIn ⟨o,h1,h2.1⟩ e (λz=>nomatch z) h | @dT a ae ea=>
  cases (rx);obtain⟨_,_,xs,_,o,es,ep,h1,h2,_⟩:=((I.hok a _ ea));exact _bD W.kitx_dict I.kIn ⟨o,h1,h2.1⟩ e (λz=>nomatch z) h | @ins a C dx fs ea cl ha hn lL hm=>
  cases (rx);obtain⟨mA,Oo,_⟩:=ziN I.hok ea;obtain⟨od,J,_⟩:=Oo.look;exact _bD (W.kitx_own (cl.get _) cl.hd ha hn lL hm) I.kIn J e (λz=>nomatch z) h
end
structure z1F(k:Nat)(A:Around):Prop where
 hd:A.handled=none
 dp:A.depth+3*k+5<recursionLimit
 un:A.units+16*k+200<cLine
 gd:A.guards=some []
theorem z1F.mono   (r:z1F k A)(h:j<=k):z1F j A:=⟨r.hd,by have:=r.dp;lia,by have:=r.un;lia,r.gd⟩
theorem z1F.deeper   (r:z1F (k+1) A)(env:Env):z1F k (A.deeper env):= ⟨r.hd,by have:=r.dp;show A.depth+1+3*k+5<_;lia,by have:=r.un;show A.units+3+16*k+200<_;lia,r.gd⟩
theorem z1F.depth   (r:z1F k A):A.depth<recursionLimit:=by have:=r.dp;lia
theorem z1F.units   (r:z1F k A):A.units+64<cLine:=by have:=r.un;lia
def zpf:TA:=λ_ H Q=>Q [] H
def znq(ta:TE)(tr:TA):TA:=λO H Q=>ta O H λx H1=>tr O H1 λxs H2=>Q (x::xs) H2
section
variable {X:Cx}{e:Expr}{es:List Expr}{te:TE}{t:TA}{pos:Pos}
theorem z1H:PA X [] zpf:=λ_ _ _ _ H Q I h=>_b8 ⟨[],H,I,.nil,h⟩
theorem jC(ha:PE X e te)(hr:PA X es t)(hs:autoParam (starEach (e::es) X.env=(false,eval e X.env)::starEach es X.env) aRf):PA X (e::es) (znq te t):=by
 intro pos ac s O H Q I h;rw[hs];exact _bx (thn (ha ac s O H _ I h) λu s1 ⟨x,H1,I1,r1,q1⟩=>(thn (hr pos ac s1 O H1 _ I1 q1) λus s2 ⟨xs,H2,I2,r2,q2⟩=>⟨x::xs,H2,I2,.cons r1 r2,q2⟩))
def zpS(t:TA):TE:=λO H Q=>t O H λxs H1=>xs.length<=sizeLine/\∀p,H1 p=none->Q (.ref p) (upd H1 p (.tup xs))
def zpC(t:TA):TE:=λO H Q=>t O H λxs H1=>xs.length<=sizeLine/\∀p,H1 p=none->Q (.ref p) (upd H1 p (.lst xs))
theorem zkB  (h:PA X es t):PE X (.Tuple es x1 pos) (zpS t):=by
 refine λac s O H Q I hq=>wpAny_Tuple_spliced (thn (h pos ac s O H _ I hq) λus s1 ⟨xs,H1,I1,r,z,q⟩=>⟨by rw[<- r.length];exact z,?_⟩);exact⟨.ref s1.heap.objs.size,upd H1 s1.heap.objs.size (.tup xs),I1.laid  (λb u e=>_e _ e) (_h _) ⟨z,us,r,⟨_,_x _ rfl,rfl,rfl,_,rfl⟩⟩,rfl,q _ (I1.hok.fresh (_h _))⟩
theorem zaA(h:PA X es t):PE X (.List es pos) (zpC t):=by
 refine λac s O H Q I hq=>wpAny_List_spliced (thn (h pos ac s O H _ I hq) λus s1 ⟨xs,H1,I1,r,z,q⟩=>⟨by rw[<- r.length];exact z,?_⟩);exact⟨.ref s1.heap.objs.size,upd H1 s1.heap.objs.size (.lst xs),I1.laid  (λb u e=>_e _ e) (_h _) ⟨z,us,0,r,_x _ rfl⟩,rfl,q _ (I1.hok.fresh (_h _))⟩
end
abbrev Sp:=List V->Hp->VK->XK->Prop
abbrev CXT:=List Env->Hp->Shared->XK->Value->Shared->Prop
structure znu(P:Program)(w:World)(K:W.Frag)(mg:Str->Option Value)(base:Heap)(A:Around)(outer:List Env)(s:Shared)(H:Hp):Prop where
 frames:A.frames=some outer
 mod:Mod K mg base
 bs:∀b o,base.get? b=some o->s.heap.get? b=some o/\H b=none
 bsz:base.objs.size<=s.heap.objs.size
 funs:s.heap.FunFrames base outer
 frf:∀b∈frs outer,H b=none
 hok:HOk P w H s.heap
 bare:AllBare s.gens
def CE(outer:List Env)(P:Program)(w:World)(H:Hp)(s:Shared)(Q:VK)(u:Value)(s':Shared):Prop:= ∃v H',s'.os=s.os/\AllBare s'.gens/\Un (frs outer) [] H H' s.heap s'.heap/\HOk P w H' s'.heap/\xr v u/\Q v H'
def CR(CX:CXT)(outer:List Env)(P:Program)(w:World)(H:Hp)(s:Shared)(Q:VK)(E:XK)(r:Result)(s':Shared):Prop:= match r with
 | .ok (.ret u)=>CE outer P w H s Q u s' | .ok _=>False | .error e=>CX outer H s E e s'
structure z5J(P:Program)(w:World)(K:W.Frag)(mg:Str->Option Value)(base:Heap)(CX:CXT)(k:Nat)(f:Addr)(fd:FuncData)(ps:List Str)(sp:Sp):Prop where
 len:∀vs H Q E,sp vs H Q E->vs.length=ps.length
 run:∀(A:Around)(outer:List Env)(s:Shared)(H:Hp)(args:Args)(us:List Value)(vs:List V)(Q:VK)(E:XK),z1F k A->znu P w K mg base A outer s H->BindsTo s fd args (ps.zip us)->xF vs us->sp vs H Q E-> codeAny (model P w) A (.call (.ref f) args) (CR CX outer P w H s Q E) s
theorem z5J.mono   {K:W.Frag}         (F:z5J P w K mg base CX j f fd ps sp)(h:j<=k): z5J P w K mg base CX k f fd ps sp:=⟨F.len,λA outer s H args us vs Q E hr=>F.run A outer s H args us vs Q E (hr.mono h)⟩
theorem z5J.imp   {K:W.Frag}         (F:z5J P w K mg base CX k f fd ps sp) (h:∀vs H Q E,ny vs H Q E->sp vs H Q E):z5J P w K mg base CX k f fd ps ny:= ⟨λvs H Q E q=>F.len vs H Q E (h _ _ _ _ q),λA outer s H args us vs Q E hr he hb hv hs=>F.run A outer s H args us vs Q E hr he hb hv (h _ _ _ _ hs)⟩
section
variable {X:Cx}{ac:List (Addr×Obj)}{O:St}{H:Hp}{s s':Shared}
theorem Inv.env0(I:Inv X ac O H s):znu X.prog X.w X.K X.mg X.base X.A X.stack s H:= ⟨I.ok.frames,I.ok.mod,I.bs,_S I.ok.bsz I.sz,I.stack,I.stkFree,I.hok,I.bare⟩
theorem Inv.after   (I:Inv X ac O H s)(h:CE X.stack X.prog X.w H s Q u s'):EP X ac O Q u s':=by
 obtain⟨v,H',os,bare,un,hok,r,q⟩:=h;obtain⟨hh,g,d,t,nB⟩:=s';obtain rfl:nB=s.os:=os;exact⟨v,H',I.call      un hok bare (λb z=>absurd z (by simp)),r,q⟩
end
def zkH(sp:Sp)(dh:List V)(E:XK)(t:TA):TE:=λO H Q=>t O H λvs H1=>sp (vs++dh) H1 Q E
def Binds(K:W.Frag)(fd:FuncData)(ps:List Str)(ds:List Value):Prop:= ∀(s:Shared)(us:List Value),K.In s.heap->(us++ds).length=ps.length->BindsTo s fd ⟨us,[]⟩ (ps.zip (us++ds))
theorem Binds.all{K:W.Frag}   (h:∀us:List Value,us.length=ps.length->bindArgs fd ⟨us,[]⟩=pure (ps.zip us)):Binds K fd ps []:=λs us _ hl=>by
 rw[_bz]at hl ⊢;exact .of_eq (h us hl)
def Passes(CX:CXT)(X:Cx)(E:XK):Prop:=∀(ac:List (Addr×Obj))(O:St)(H:Hp)(s:Shared)(e:Value)(s':Shared),Inv X ac O H s->CX X.stack H s E e s'->X.xe e s'
section
variable {X:Cx}{CX:CXT}{k:Nat}{f C:Addr}{fd:FuncData}{ps:List Str}{sp:Sp}{dh:List V}{ds:List Value}{E:XK}{x m:Str}{p pos aV:Pos}{e o:Expr}{es:List Expr}{ta:TE}{t:TA}
theorem zev  {O:St}      (F:z5J X.prog X.w X.K X.mg X.base CX k f fd ps sp)(hr:z1F k X.A)(hb:Binds X.K fd ps ds)(hd:xF dh ds)(hx:Passes CX X E) (I:Inv X ac O H s)(r:xF vs us)(h:sp (vs++dh) H Q E):wpAny (model X.prog X.w) X.A (call (.ref f) us) (EP X ac O Q) X.xe s:=by
 have r2  := r.append hd;refine wpAny_call (_dp (F.run X.A X.stack s H ⟨us,[]⟩ (us++ds) (vs++dh) Q E hr I.env0 (hb s us I.kIn (by rw[<- r2.length];exact F.len _ _ _ _ h)) r2 h) λr s' hq=>?_);cases r with
 | error e=>exact hx ac O H s e s' I hq | ok fl=> cases fl with
  | ret u=>exact I.after hq | next=>exact False.elim hq | brk=>exact False.elim hq | cont=>exact False.elim hq
theorem zih (F:z5J X.prog X.w X.K X.mg X.base CX k f fd ps sp) (hr:z1F k X.A) (hg:Gl X x) (hm:X.mg x=some (.ref f)) (hk:W.keepIn X.K (.ref f)=true) (hb:Binds X.K fd ps ds) (hd:xF dh ds) (hx:Passes CX X E) (ha:PA X (e::es) t) (bq:autoParam ((x==("__debug__":Str))=false) aDe) (he:autoParam (starEach (e::es) X.env=(false,eval e X.env)::starEach es X.env) aRf) (be:autoParam ((backTo pos (starEach es X.env)).any (·.1)=false) aRf): PE X (.Call (.Name x p) (e::es) [] pos) (zkH sp dh E t):=by
 intro ac s O H Q I h;refine _ao (z9r I hg hm (W.callWith_K  I.ok.mod.kin hk (thn (ha pos ac s O H _ I h) λus s1 ⟨vs,H1,I1,r,q⟩=>⟨I1.kIn,?_⟩) he be) bq);exact zev F hr hb hd hx I1 r q
theorem zeR(F:z5J X.prog X.w X.K X.mg X.base CX k f fd ps sp)(hr:z1F k X.A)(hg:Gl X x)(hm:X.mg x=some (.ref f))(hk:W.keepIn X.K (.ref f)=true)(hb:Binds X.K fd ps ds)(hd:xF dh ds)(hx:Passes CX X E) (bq:autoParam ((x==("__debug__":Str))=false) aDe):PE X (.Call (.Name x p) [] [] pos) (zkH sp dh E zpf):=by exact λac s O H Q I h=>_ao (z9r I hg hm (W.callWith_K0 I.kIn hk (zev  F hr hb hd hx I .nil h)) bq)
end
structure zm(N P:List Str)(sc:Scope):Prop where
 kind:sc.kind=.function
 co:sc.isCoroutine=false
 gen:sc.isGenerator=false
 nd:N.Nodup
 pre:N.take P.length=P
 par:∀x∈P,sc.names.lookup x=some .local\/sc.names.lookup x=some .cell
 nofree:∀y∈sc.names,y.2≠.free
theorem z7u{kindOf:Str->Option NameKind}  : ∀{binds:List (Str×Value)}{m:Str->Option Value},(∀v,(x,v)∉binds)->bindL kindOf binds m x=m x
 | [],_,_=>rfl | (n,v)::r,m,h=>by
  unfold bindL;rw[z7u λw hw=>h w (_J _ hw)];split;·simp[(show x≠n from by rintro rfl;exact h v _X)]
  ·rfl
theorem z8b{kindOf:Str->Option NameKind}  : ∀{binds:List (Str×Value)}{m:Str->Option Value},(∀v,(x,v)∉binds)->bindC kindOf binds m x=m x
 | [],_,_=>rfl | (n,v)::r,m,h=>by
  unfold bindC;rw[z8b λw hw=>h w (_J _ hw)];split;·rfl
  ·simp[(show x≠n from by rintro rfl;exact h v _X)]
theorem z6X{kindOf:Str->Option NameKind}   : ∀{P:List Str}{vs:List Value}{i:Nat}{m:Str->Option Value},P.Nodup->P[i]? = some x->vs[i]? = some v->kindOf x=some .local-> bindL kindOf (P.zip vs) m x=some v
 | [],_,_,_,_,h,_,_=>by cases h | _::_,[],_,_,_,_,h,_=>by cases h | p::P,w::vs,0,m,nd,h1,h2,hk=>by
  simp at h1 h2;subst h1;subst h2;show bindL kindOf ((p,w)::P.zip vs) m p=_;unfold bindL;rw[z7u λv hv=>(_bZ.mp nd).1 (_bm hv).1,_l hk];simp | p::P,w::vs,i+1,m,nd,h1,h2,hk=>by
  unfold bindL;exact z6X  (_bZ.mp nd).2 (by exact h1) (by exact h2) hk
theorem z87{kindOf:Str->Option NameKind}   : ∀{P:List Str}{vs:List Value}{i:Nat}{m:Str->Option Value},P.Nodup->P[i]? = some x->vs[i]? = some v->kindOf x≠some .local-> bindC kindOf (P.zip vs) m x=some v
 | [],_,_,_,_,h,_,_=>by cases h | _::_,[],_,_,_,_,h,_=>by cases h | p::P,w::vs,0,m,nd,h1,h2,hk=>by
  simp at h1 h2;subst h1;subst h2;show bindC kindOf ((p,w)::P.zip vs) m p=_;unfold bindC;rw[z8b λv hv=>(_bZ.mp nd).1 (_bm hv).1,_p hk];simp | p::P,w::vs,i+1,m,nd,h1,h2,hk=>by
  unfold bindC;exact z87  (_bZ.mp nd).2 (by exact h1) (by exact h2) hk
noncomputable def start(N:List Str)(vs:List V):St:=vs.map some++List.replicate (N.length-vs.length) none
noncomputable def zdd(CX:CXT)(P:Program)(w:World)(K:W.Frag)(mg:Str->Option Value)(base:Heap)(N:List Str)(qual:Str)(scope:Scope)(f:Addr)(cd:Value)(A:Around)(outer:List Env)(s:Shared)(H:Hp)(E:XK):Cx where
 prog:=P;w:=w;K:=K;mg:=mg;base:=base;A:=A.deeper (envOfC qual scope s.heap.objs.size f cd);N:=N;s₀:=s;H₀:=H;env:=envOfC qual scope s.heap.objs.size f cd;outer:=outer;stack:=envOfC qual scope s.heap.objs.size f cd::outer;ex:=[];calm:=A.handled.isNone;fn:=λ_=>true;pn:=[];xe:=λe s'=>wpAny (model P w) (A.deeper (envOfC qual scope s.heap.objs.size f cd)) (leaving (envOfC qual scope s.heap.objs.size f cd) e) (λ_ dC=>CX outer H s E e dC) (λe' dC=>CX outer H s E e' dC) s'
theorem z2d{sc:Scope}   (h:sc.names.lookup x=some .cell):∃c,(cellsFrom n sc.names []).lookup x=some c:=Option.isSome_iff_exists.mp (W.cellsFrom_some sc.names n [] (.inl h))
theorem zdg    {K:W.Frag} (S:zm N ps scope)(e0:znu P w K mg base A outer s H)(hl:vs.length=ps.length)(r:xF vs us) (x:InCallC s s.heap.objs.size (bindL (envOfC qual scope s.heap.objs.size f cd).kindOf (ps.zip us) λ_=>none) (cellsFrom (s.heap.objs.size+1) scope.names []) (bindC (envOfC qual scope s.heap.objs.size f cd).kindOf (ps.zip us) λ_=>none) s1): Inv (zdd CX P w K mg base N qual scope f cd A outer s H E) [] (start N vs) H s1:=by
 have be:ps.length<=N.length:=by have:=_aw List.length S.pre;rw[_aZ]at this;lia
 obtain⟨h1,tk,rfl,hk⟩:=x.done;have fE:∀b:Addr,b∉(zdd CX P w K mg base N qual scope f cd A outer s H E).ex:=λb z=>absurd (show b∈([]) from z) (by simp);refine⟨⟨e0.mod,S.kind,rfl,rfl,_h _,λy z c h1 h2=>(name_of_addr x.apart (_aj h1) (_aj h2)),λy hy=>?_,λy c _ h=>(_aD (x.above y c (_aj h))),λh=>Option.isNone_iff_eq_none.mp h,Around.frames_deeper e0.frames,.inr ⟨rfl,rfl⟩,λb z=>absurd z (fE b),e0.bs,e0.bsz,λb _ _=>fE b,λb z=>absurd z (fE b),e0.funs,e0.frf⟩, rfl,e0.bare,Un.kept hk,⟨_,x.toInCall.ns,λi y v h1 h2 h3=>?_⟩,λy c h=>⟨_,x.cell y c h⟩,e0.hok.fresh (_h _),λy c h=>(e0.hok.fresh (_aD (x.above y c (_aj h)))),λp hp=>absurd (show p∈([]) from hp) (by simp),e0.hok.kept hk,?_⟩
 ·rcases hy with hy | hy;·exact z2d hy
  ·exact absurd rfl (S.nofree _ (_aj hy))
 ·have hi:i<vs.length:=by
   unfold start at h2;by_cases hi:i<vs.length;·exact hi
   ·rw[_U (by simpa using hi)]at h2;rw[List.getElem?_replicate]at h2;split at h2<;>cases h2
  obtain⟨u,hu,rv⟩:=r.get (by
   unfold start at h2;rw[_y (by simpa using hi),_ae]at h2;cases e:vs[i]? with
   | none=>rw[e]at h2;cases h2 | some a=>rw[e]at h2;cases h2;rfl);have hp:ps[i]? = some y:=by rw[<- S.pre,_aI (by lia)];exact h1
  have lM:ps.Nodup:=by rw[<- S.pre];exact S.nd.sublist (_c4 _ _)
  refine⟨u,rv,?_⟩;rcases S.par y (_d hp) with k | k;·exact .inl ⟨k,z6X lM hp hu k⟩
  ·obtain⟨c,e⟩:=z2d  k;refine .inr ⟨.inl k,c,e,?_⟩;have q:=x.cell y c e;rw[z87 lM hp hu (by show scope.names.lookup y≠_;rw[k];decide)]at q;exact q
 ·unfold start;show _=N.length;rw[_P,_z,_bE];lia
theorem zmL    {K:W.Frag}         {dV kV bE pm aM ct oc:Value} (lk:K.lookup f=some ⟨oc,od,.func (W.fnOf name qual params body scope dV kV bE pm an aM ct),dW⟩)(bQ:W.codeIn K aM qual=true)(S:zm N ps scope) (len:∀vs H Q E,sp vs H Q E->vs.length=ps.length) (cG:∀(A:Around)(outer:List Env)(s:Shared)(H:Hp)(vs:List V)(Q:VK)(E:XK),z1F k (A.deeper (envOfC qual scope s.heap.objs.size f aM))->sp vs H Q E-> ∃t,PSs (zdd CX P w K mg base N qual scope f aM A outer s H E) body t/\t {nx:=λ_ H'=>Q .non H',rt:=Q} (start N vs) H): z5J P w K mg base CX (k+1) f (W.fnOf name qual params body scope dV kV bE pm an aM ct) ps sp:=by
 refine⟨len,λA outer s H args us vs Q E hr e0 hb r eP=>?_⟩;have KX  := e0.mod.kin.keeps λb o e=>(e0.bs b o e).1;refine codeAny_call_function hr.depth (KX _ _ lk) rfl S.co S.gen rfl (W.codeRec_of KX bQ) (hb _ _ _ _ (wpAny_newFunctionEnv_cells S.kind (λ⟨n,v⟩ hy=>by
  rcases S.par n (_bm hy).1 with q | q;·exact .inl q
  ·exact .inr ⟨q,W.cellsFrom_some _ _ _ (.inl q)⟩) λenv he s1 x=>?_));subst he;refine⟨(e0.mod.nolimit.keeps λb o e=>(e0.bs b o e).1).keeps x.toInCall.keep,codeAny_func ?_⟩;obtain⟨t,ht,hq⟩:=cG A outer s H vs Q E (hr.deeper _) eP;refine _F (ht [] s1 (start N vs) H _ (zdg S e0 (len _ _ _ _ eP) r x) hq) (λfl s' hs=>?_) λe s' hs=>hs;have fin:∀{O':St}{H':Hp}{v:V}{u:Value},Inv (zdd CX P w K mg base N qual scope f aM A outer s H E) [] O' H' s'->xr v u->Q v H'->CE outer P w H s Q u s':= λ{O' H' v u} J rv q=>⟨v,H',J.os,J.bare,J.base,J.hok,rv,q⟩;cases fl with
 | ret u=>
  obtain⟨v,O',H',J,rv,q⟩:=hs;exact fin J rv q | next=>
  obtain⟨O',H',J,q⟩:=hs;exact fin (v:=V.non)  J rfl q | brk=>
  obtain⟨_,_,_,q⟩:=hs;exact False.elim q | cont=>
  obtain⟨_,_,_,q⟩:=hs;exact False.elim q
section
variable {X:Cx}{x:Str}{p pos:Pos}{e:Expr}{es:List Expr}{t:TA}{id T:String}{r:List V->Hp->VK->Prop}
def tCB(r:List V->Hp->VK->Prop)(t:TA):TE:=λO H Q=>t O H λvs H1=>r vs H1 Q
theorem zaE (hc:vt X (.builtin id) r) (hg:Gl X x) (hm:X.mg x=none) (hv:bootBuiltins x=some (.builtin id)) (ha:PA X (e::es) t) (hn:autoParam (x≠"__name__") aDe) (bq:autoParam ((x==("__debug__":Str))=false) aDe) (he:autoParam (starEach (e::es) X.env=(false,eval e X.env)::starEach es X.env) aRf) (be:autoParam ((backTo pos (starEach es X.env)).any (·.1)=false) aRf):PE X (.Call (.Name x p) (e::es) [] pos) (tCB r t):=by
 intro ac s O H Q I h;exact _ao (kL I hg hm hv (PyProof.Rows.callWith_builtin1 (thn (ha pos ac s O H _ I h) λus s1 ⟨vs,H1,I1,r1,q1⟩=>hc ac s1 O H1 vs us Q I1 r1 q1) he be) hn bq)
theorem ze0 (hc:vt X (.type T) r) (hg:Gl X x) (hm:X.mg x=none) (hv:bootBuiltins x=some (.type T)) (ha:PA X (e::es) t) (hn:autoParam (x≠"__name__") aDe) (bq:autoParam ((x==("__debug__":Str))=false) aDe) (he:autoParam (starEach (e::es) X.env=(false,eval e X.env)::starEach es X.env) aRf) (be:autoParam ((backTo pos (starEach es X.env)).any (·.1)=false) aRf):PE X (.Call (.Name x p) (e::es) [] pos) (tCB r t):=by
 intro ac s O H Q I h;exact _ao (kL I hg hm hv (_ah (thn (ha pos ac s O H _ I h) λus s1 ⟨vs,H1,I1,r1,q1⟩=>hc ac s1 O H1 vs us Q I1 r1 q1) he be) hn bq)
end
end L2
namespace HT
noncomputable def lexLt:List Int->List Int->Bool
 | [],[]=>false | [],_::_=>true | _::_,[]=>false | x::xs,y::ys=>if x=y then lexLt xs ys else decide (x<y)
theorem zbg (x y:Int) (xs ys:List Int):lexLt (x::xs) (y::ys)=if x=y then lexLt xs ys else decide (x<y):=rfl
theorem z5A:lexLt [] []=false:=rfl
theorem z4b (y:Int) (ys:List Int):lexLt [] (y::ys)=true:=rfl
theorem z4i(x:Int)(xs:List Int):lexLt (x::xs) []=false:=rfl
theorem zfB(A:Around)(s:Shared)(a:Int)(t:Tok)(c:Int)(u:Tok):∃e,SeqAt.EqAt A s (.int a t) (.int c u) e/\(e=true ↔ a=c):= ⟨(a==c),SeqAt.EqAt.int_int a t c u,by simp⟩
theorem zeP(A:Around)(s:Shared)(a:Int)(t:Tok)(c:Int)(u:Tok)(prog:Program)(w:World)(E:Value->Shared->Prop)(Q:Value->Shared->Prop)(h:Q (.bool (decide (a<c))) s): wpAny (model prog w) A (richCompare .Lt (.int a t) (.int c u)) Q E s:= (_cI h)
section
open PySem.SeqAt
open PySem.AutoSeq1 (wpAny_loadPart')
open PySem.MeetsSeq PySem.MeetsSeq2 PySem.MeetsSeq3
theorem z6a(l b:Addr)(items aq:Array Value)(n n2:Nat)(dd dD:Option Addr)(sl dE:Array (Option Value))(ns ms:List Int)(hi:IntsAre items.toList ns)(hj:IntsAre aq.toList ms): Meets (Builtin.«tuple.__lt__» ⟨[.ref l,.ref b],[]⟩) (λ_ R s=>s.heap.get? l=some {cls:=.type "tuple",dict:=dd,data:=.seq items n,slots:=sl}/\s.heap.get? b=some {cls:=.type "tuple",dict:=dD,data:=.seq aq n2,slots:=dE}/\ R (.ok (.ret (.bool (lexLt ns ms)))) s):= .of_wp λprog w A R s h=>by
  obtain⟨hp,g,d,tk,os⟩:=s;obtain⟨hl,hb,h⟩:=h;have f2:=AutoSeq1.sub_tuple_tuple;have z1:items.size=ns.length:=by rw[<- hi.length];rfl
  have z2:aq.size=ms.length:=by rw[<- hj.length];rfl
  wp_walk using _aC hl,_aC hb,_ct _ (λkc b s'=>b.1=none/\s'=⟨hp,g,d,tk,os⟩/\∃(vs ws:List Value)(cH cI:List Int),kc=vs.zip ws/\ IntsAre vs cH/\IntsAre ws cI/\cH.length+aq.size=cI.length+items.size/\R (.ok (.ret (.bool (lexLt cH cI)))) ⟨hp,g,d,tk,os⟩) _;case turn=>
   rintro⟨y,x⟩ kc b s' ⟨dX,rfl,vs,ws,cH,cI,hz,iE,hW,aD,hR⟩;cases iE with
   | nil=>rw[List.zip_nil_left]at hz;cases hz | cons a t iF=> cases hW with
    | nil=>rw[List.zip_nil_right]at hz;cases hz | cons c u iG=>
     rw[List.zip_cons_cons]at hz;injection hz with hyx cJ;injection hyx with hy hx;subst hy hx;rw[zbg]at hR;simp only[_n]at aD;obtain⟨e,he,fF⟩:=zfB A.in1 ⟨hp,g,d,tk,os⟩ a t c u;refine _a (he prog w _ _ ?_);cases e with
     | true=>
      rw[_l (fF.mp rfl)]at hR;wp_walk;exact⟨rfl,rfl,_,_,_,_,cJ,iF,iG,by lia,hR⟩ | false=>
      rw[_p (λq=>absurd (fF.mpr q) _aM)]at hR;have nC:=zeP A.in1 ⟨hp,g,d,tk,os⟩ a t c u prog w;wp_walk using nC;exact⟨_,rfl,by exact hR⟩
  case fin=>
   rintro⟨b1,b2⟩ s' ⟨dX,rfl,vs,ws,cH,cI,hz,iE,hW,aD,hR⟩;simp only at dX;subst dX;have hv:lexLt cH cI=decide (items.size<aq.size):=by cases iE with
    | nil=> cases hW with
     | nil=>
      simp only[_I]at aD;rw[z5A];exact (_R (by lia)).symm | cons c u hw=>
      simp only[_I,_n]at aD;rw[z4b];exact (_al (by lia)).symm
    | cons a t hv=> cases hW with
     | nil=>
      simp only[_I,_n]at aD;rw[z4i];exact (_R (by lia)).symm | cons c u hw=>
      rw[List.zip_cons_cons]at hz;cases hz
   rw[hv]at hR;wp_walk;exact⟨_,rfl,by exact hR⟩
  case h=> exact⟨rfl,rfl,items.toList,aq.toList,ns,ms,rfl,hi,hj,by lia,h⟩
end
section
variable {prog:Program}{w:World}{A:Around}{E:Value->Shared->Prop}{s:Shared}
theorem zbw     (hl:IsTup s.heap l items)(hb:IsTup s.heap b aq)(hi:IntsAre items.toList ns)(hj:IntsAre aq.toList ms) (hu:A.units<cLine)(h:Q (.bool (lexLt ns ms)) s):wpAny (model prog w) A (compareOp .Lt (.ref l) (.ref b)) Q E s:=by
 obtain⟨⟨cls,dd,data,sl⟩,ho,hc,n,hd⟩:=id hl;obtain⟨⟨fG,dD,data2,dE⟩,c9,eQ,n2,fH⟩:=id hb;subst hc hd eQ fH;exact richCompare_meets_room (op:=.Lt) ⟨_,ho,rfl⟩ ⟨_,c9,rfl⟩ _bj _b9 (_b5 _ _) (z6a l b items aq n n2 dd dD sl dE ns ms hi hj) ⟨ho,c9,⟨(λx=>nomatch x),h⟩⟩ hu
theorem zj5    (ht:IsTup s.heap t vs.toArray) (hb:IsTup s.heap b ws.toArray) (hv:vs≠[]) (h1:ws=[]->Q (.ref t) s) (h2:ws≠[]->Q (.ref s.heap.objs.size) {s with heap:=s.heap.push {cls:=.type "tuple",data:=.seq (vs++ws).toArray}}) (hsz:vs.length+ws.length<=sizeLine):wpAny (model prog w) A (binaryOp .Add (.ref t) (.ref b)) Q E s:=by
 obtain⟨⟨cls,dd,data,sl⟩,ho,hc,n,hd⟩:=id ht;obtain⟨⟨fG,dD,data2,dE⟩,c9,eQ,n2,fH⟩:=id hb;subst hc hd eQ fH;have e:vs.toArray++ws.toArray=(vs++ws).toArray:=by simp
 by_cases hw:ws=[]
 ·exact concat_meets ⟨_,ho,rfl⟩ ⟨_,c9,rfl⟩ _dg seq_tuple_add _ca _b6 (_bV _ _) (tuple_addW1 t b vs.toArray ws.toArray n n2 dd dD sl dE (by simpa using hv) (by simp[hw])) ⟨ho,c9,h1 hw⟩
 ·refine concat_meets ⟨_,ho,rfl⟩ ⟨_,c9,rfl⟩ _dg seq_tuple_add _ca _b6 (_bV _ _) (tuple_addW2 t b vs.toArray ws.toArray n n2 dd dD sl dE (by simpa using hv) (by simpa using hw) (hsz)) ⟨ho,c9,?_⟩;rw[e];exact h2 hw
noncomputable def sIx(n d:Nat):Option Int->Nat
 | none=>d | some v=>if v<0 then (v+(n:Int)).toNat else min v.toNat n
theorem z9S(n d:Nat):sIx n d none=d:=rfl
theorem zd8(n d k:Nat):sIx n d (some (k:Int))=min k n:=by
 show (if k<0 then ((k:Int)+n).toNat else min (k:Int).toNat n)=min k n;rw[_p (by lia),_bo]
theorem zcj(v:Int)(n d:Nat):(if v<0 then max (v+(n:Int)) 0 else min v (n:Int))=((sIx n d (some v):Nat):Int):=by
 show (if v<0 then max (v+n) 0 else min v n)=((if v<0 then (v+n).toNat else min v.toNat n):Nat);by_cases hv:v<0;·simp only[_l hv];lia
 ·simp only[_p hv];lia
theorem zb3(lo hi:Option Int)(n:Nat):Builtin.Slice.sliceAdjust lo hi 1 (n:Int)=(((sIx n 0 lo:Nat):Int),(sIx n n hi:Int)):=by
 refine Prod.ext ?_ ?_;·cases lo with
  | none=>rfl | some v=>exact zcj v n 0
 ·cases hi with
  | none=>rfl | some v=>exact zcj v n n
theorem zbu (i j:Nat):Builtin.Slice.slicePlaces (i:Int) (j:Int) 1=j-i:=by
 unfold Builtin.Slice.slicePlaces;split<;>lia
theorem z58    (p:IsPart v o)(h:Q o s):wpAny (model prog w) A (Builtin.Slice.slicePartIndex v) Q E s:=by cases p with
 | none=>exact slicePart_none h | int i t=>exact slicePart_int h
theorem ja{sl:Addr}{vl vu:Value}{lo hi:Option Int}{n:Nat}{Q:Int×Int×Nat->Shared->Prop}(hs:s.heap.IsSliceOf sl vl vu .none)(pl:IsPart vl lo)(pu:IsPart vu hi) (h:Q (((sIx n 0 lo:Nat):Int),1,sIx n n hi-sIx n 0 lo) s):wpAny (model prog w) A (Builtin.Slice.sliceApplied (.ref sl) (pure (n:Int))) Q E s:=by
 obtain⟨os,dY,hX,fI⟩:=id hs;refine _a (_a (_aa dY fI  rfl (_a (_aa dY fI  rfl (_a (_aa dY fI  rfl (_i (_a (slicePart_none (_a (z58 pl (_a (z58 pu (_a (_i ?_)))))))))))))));show wpAny _ _ (match Builtin.Slice.sliceAdjust lo hi 1 n with | (lo,hi)=>pure (lo,(1:Int),Builtin.Slice.slicePlaces lo hi 1)) _ _ s;rw[zb3 lo hi n];show wpAny _ _ (pure (((sIx n 0 lo):Int),1,Builtin.Slice.slicePlaces (sIx n 0 lo) (sIx n n hi) 1)) _ _ s;rw[zbu];exact _i h
theorem zfS(xs:Array Value)(i k:Nat):((List.range k).filterMap λ(m:Nat)=>xs[((i:Int)+(m:Int)*1).toNat]?).toArray=((xs.toList.drop i).take k).toArray:=by
 have e:(λ(m:Nat)=>xs[(i+(m:Int)*1).toNat]?)=λm=>xs[i+m]? := by
  funext m;rw[(show ((i:Int)+m*1).toNat=i+m from by lia)]
 rw[e];have:=pick_run xs i k;rw[List.filterMap_map]at this;have e2:((λx=>xs[x]?) ∘ λx=>i+x)=λm=>xs[i+m]? := rfl;rw[e2]at this;rw[this]
theorem z1g    {lo hi:Option Int}  (ht:IsTup s.heap t items) (hs:s.heap.IsSliceOf sl vl vu .none) (pl:IsPart vl lo) (pu:IsPart vu hi) (hw:¬ (sIx items.size 0 lo=0/\sIx items.size items.size hi=items.size)) (h:Q (.ref s.heap.objs.size) {s with heap:=s.heap.push {cls:=.type "tuple",data:=.seq ((items.toList.drop (sIx items.size 0 lo)).take (sIx items.size items.size hi-sIx items.size 0 lo)).toArray}}) (hsz:items.size<=sizeLine):wpAny (model prog w) A (getItem (.ref t) (.ref sl)) Q E s:=by
 obtain⟨os,dY,hX,fI⟩:=id hs;unfold getItem;try with_reducible refine _aU ?_
 refine _a (wpAny_sequenceKey ht.typeIs (by decide) (_a (_am  ht.typeIs _ai (_at _ai ht.typeIs entry_tuple_getitem ?_ (args_tuple_getitem _ _)))));show wpAny _ _ (Builtin.Tuple.tupleItemsOf (.ref t) >>= _) _ _ s;refine _a (tupleItemsOf_ ht ?_);refine _a (_dq ⟨os,dY,hX⟩ (_a (ja hs pl pu ?_)));show wpAny _ _ (if (((sIx items.size 0 lo):Int)==0&&1==1&&(sIx items.size items.size hi-sIx items.size 0 lo)==items.size)=true then _ else _) _ _ s;rw[_p (by
  intro q;rw[_ac,_ac]at q;have q1  := eq_of_beq q.1.1;have q2  := eq_of_beq q.2;exact hw ⟨by lia,by lia⟩),zfS];exact _a  (_bn (_i ⟨_,rfl,_i h⟩) (by
  show ((items.toList.drop (sIx items.size 0 lo)).take (sIx items.size items.size hi-sIx items.size 0 lo)).toArray.size<=sizeLine;rw[_t,_aZ,_dh,_Y];lia))
end
end HT
namespace L2
abbrev TO:=St->Hp->(Option Int->Hp->Prop)->Prop
def PO(X:Cx)(e:Option Expr)(t:TO):Prop:= ∀(ac:List (Addr×Obj))(s:Shared)(O:St)(H:Hp)(Q:Option Int->Hp->Prop),Inv X ac O H s->t O H Q-> wpAny (model X.prog X.w) X.A (evalPart e X.env) (λu s'=>∃o H',Inv X ac O H' s'/\IsPart u o/\Q o H') X.xe s
def zjA:TO:=λ_ H Q=>Q none H
def znk(t:TE):TO:=λO H Q=>t O H λx H1=>∃i,x=.int i/\Q (some i) H1
theorem intsAre_of  : ∀{us:List Value},xF (ns.map V.int) us->IntsAre us ns:=by induction ns with
 | nil=>intro us r;cases r;exact .nil | cons n ns ih=>
  intro us r;cases r with | cons r1 r2=>
   obtain⟨t,e⟩:=r1;subst e;exact .cons n t (ih r2)
section
variable {X:Cx}{e:Expr}{te:TE}{lo hi:Option Expr}{tl th:TO}{pos p2:Pos}
theorem ziv:PO X none zjA:=by exact λac s O H Q I h=>_i ⟨none,H,I,.none,h⟩
theorem zj4(h:PE X e te):PO X (some e) (znk te):=by
 refine λac s O H Q I hw=>thn (h ac s O H _ I hw) λu s1 ⟨x,H1,I1,r1,q1⟩=>?_;obtain⟨i,rfl,q⟩:=q1;obtain⟨t,rfl⟩:=r1;exact⟨some i,H1,I1,.int i t,q⟩
def SlR(X:Cx)(r:V->Option Int->Option Int->Hp->VK->Prop):Prop:= ∀(ac:List (Addr×Obj))(s:Shared)(O:St)(H:Hp)(x:V)(v vl vu:Value)(lo hi:Option Int)(sl:Addr)(Q:VK),Inv X ac O H s->xr x v->s.heap.IsSliceOf sl vl vu .none->IsPart vl lo->IsPart vu hi->r x lo hi H Q-> ∃T id,typeLookup (.type T) "__getitem__"=pure (some (.builtin id))/\s.TypeIs v T/\wpAny (model X.prog X.w) X.A (getItem v (.ref sl)) (EP X ac O Q) X.xe s
theorem SlR.or  (h:SlR X r)(h':SlR X r'):SlR X (λx lo hi H Q=>r x lo hi H Q\/r' x lo hi H Q):=by
 intro ac s O H x v vl vu lo hi sl Q I rx hs pl pu q;rcases q with q | q;·exact h ac s O H x v vl vu lo hi sl Q I rx hs pl pu q
 ·exact h' ac s O H x v vl vu lo hi sl Q I rx hs pl pu q
def tSl(r:V->Option Int->Option Int->Hp->VK->Prop)(te:TE)(tl th:TO):TE:=λO H Q=>te O H λx H1=>tl O H1 λl H2=>th O H2 λu H3=>r x l u H3 Q
theorem zfC  (hr:SlR X r)(he:PE X e te)(hl:PO X lo tl)(hu:PO X hi th):PE X (.Subscript e (.Slice lo hi none p2) pos) (tSl r te tl th):=by
 intro ac s O H Q I h;refine Subscript_ (thn (he ac s O H _ I h) λv s1 ⟨x,H1,I1,r1,q1⟩=>(wpAny_Slice (thn (hl ac s1 O H1 _ I1 q1) λvl s2 ⟨l,H2,I2,pl,q2⟩=>thn (hu ac s2 O H2 _ I2 q2) λvu s3 ⟨u,H3,I3,pu,q3⟩=>(_i ?_))));have I4:Inv X ac O H3 {s3 with heap:=s3.heap.push {cls:=.type "slice",data:=.fields #[vl,vu,.none]}}:=I3.kept  λb ob q=>_e _ q;obtain⟨T,id,hT,ht,hg⟩:=hr ac {s3 with heap:=s3.heap.push {cls:=.type "slice",data:=.fields #[vl,vu,.none]}} O H3 x v vl vu l u s3.heap.objs.size Q I4 r1 (Heap.IsSliceOf.new ..) pl pu q3;exact tail_any  ht hT hg (by with_unfolding_all rfl)
noncomputable def zjY(xs:List V)(lo hi:Option Int):List V:=(xs.drop (HT.sIx xs.length 0 lo)).take (HT.sIx xs.length xs.length hi-HT.sIx xs.length 0 lo)
theorem z2F(xs:List V)(lo hi:Option Int):(zjY xs lo hi).length<=xs.length:=by
 unfold zjY;rw[_aZ,_dh];lia
def zq7(K:W.Frag):V->Option Int->Option Int->Hp->VK->Prop:=λx lo hi H Q=>∃a xs,x=.ref a/\SqT K H a xs/\ ¬ (HT.sIx xs.length 0 lo=0/\HT.sIx xs.length xs.length hi=xs.length)/\∀p,H p=none->Q (.ref p) (upd H p (.tup (zjY xs lo hi)))
theorem zkW:SlR X (zq7 X.K):=by
 intro ac s O H x v vl vu lo hi sl Q I rx hs pl pu h;obtain⟨a,xs,rfl,hx,hw,q⟩:=h;cases rx;obtain⟨ah,r,ht,hz⟩:=I.tuple hx;have aD:ah.toArray.size=xs.length:=r.length.symm;refine⟨"tuple",_,_ai.lookup,ht.typeIs,(HT.z1g ht hs pl pu (by rw[aD];exact hw) ?_ (by rw[aD];exact hz))⟩;rw[aD];refine⟨.ref s.heap.objs.size,_,I.laid   (λb ob q=>_e _ q) (_h _) ?_,rfl,q _ (I.hok.fresh (_h _))⟩;exact⟨_S (z2F xs lo hi) hz,_,(r.drop (HT.sIx xs.length 0 lo)).take (HT.sIx xs.length xs.length hi-HT.sIx xs.length 0 lo),zez.new _ _⟩
def zpZ(K:W.Frag):R2:=λx y H Q=>∃a b ns ms,x=.ref a/\y=.ref b/\SqT K H a (ns.map V.int)/\SqT K H b (ms.map V.int)/\Q (.bl (HT.lexLt ns ms)) H
theorem zlD(hu:X.A.units<cLine):OpR X (compareOp .Lt) (zpZ X.K):=by
 intro ac s O H x y v u Q I rx ry h;obtain⟨a,b,ns,ms,rfl,rfl,ha,hb,q⟩:=h;cases rx;cases ry;obtain⟨ah,r1,p1,_⟩:=I.tuple ha;obtain⟨aZ,r2,p2,_⟩:=I.tuple hb;exact HT.zbw p1 p2 (intsAre_of r1) (intsAre_of r2) hu ⟨.bl (HT.lexLt ns ms),H,I,rfl,q⟩
def znm(K:W.Frag):R2:=λx y H Q=>∃a b xs ys,x=.ref a/\y=.ref b/\SqT K H a xs/\SqT K H b ys/\xs≠[]/\xs.length+ys.length<=sizeLine/\ (ys=[]->Q (.ref a) H)/\(ys≠[]->∀p,H p=none->Q (.ref p) (upd H p (.tup (xs++ys))))
theorem xF.nil_iff   (r:xF xs us):us=[] ↔ xs=[]:=by cases r with
 | nil=>decide | cons _ _=>simp
theorem zim:OpR X (binaryOp .Add) (znm X.K):=by
 intro ac s O H x y v u Q I rx ry h;obtain⟨a,b,xs,ys,rfl,rfl,ha,hb,hx,hz,q1,q2⟩:=h;cases rx;cases ry;obtain⟨ah,r1,p1,_⟩:=I.tuple ha;obtain⟨aZ,r2,p2,_⟩:=I.tuple hb;refine HT.zj5 p1 p2 (λz=>hx (r1.nil_iff.mp z)) (λz=>⟨.ref a,H,I,rfl,q1 (r2.nil_iff.mp z)⟩) (λz=>⟨.ref s.heap.objs.size,_,I.laid   (λb ob q=>_e _ q) (_h _) ?_,rfl,q2 (λw=>z (r2.nil_iff.mpr w)) _ (I.hok.fresh (_h _))⟩) (by rw[<- r1.length,<- r2.length];exact hz);exact⟨by rw[_P];exact hz,_,r1.append r2,zez.new _ _⟩
end
noncomputable def ixN(n:Nat)(i:Int):Option Nat:=if 0<=i then (if i<n then some i.toNat else none) else if -(n:Int)<=i then some (i+n).toNat else none
noncomputable def atI{α:Type}(xs:List α)(i:Int):Option α:=(ixN xs.length i).bind λj=>xs[j]?
theorem zcH    (h:ixN n i=some j):seqIndex? i n=some j/\j<n/\-(n:Int)<=i/\i<n:=by
 unfold ixN at h;by_cases h0:0<=i
 ·rw[_l h0]at h;by_cases h1:i<n
  ·rw[_l h1]at h;have e  := _E h;exact⟨by rw[seqIndex_of h0 h1,e],by lia,by lia,h1⟩
  ·rw[_p h1]at h;cases h
 ·rw[_p h0]at h;by_cases h1:-n<=i
  ·rw[_l h1]at h;have e  := _E h;exact⟨by rw[seqIndex_neg (by lia) h1,e],by lia,h1,by lia⟩
  ·rw[_p h1]at h;cases h
theorem zcq    {v:α}(h:atI xs i=some v):∃j,seqIndex? i xs.length=some j/\xs[j]? = some v/\j<xs.length/\-(xs.length:Int)<=i/\i<xs.length:=by
 unfold atI at h;cases e:ixN xs.length i with
 | none=>rw[e]at h;cases h | some j=>
  rw[e]at h;obtain⟨h1,h2,h3,h4⟩:=zcH e;exact⟨j,h1,h,h2,h3,h4⟩
def z91(b:Expr):Prop:=∀o i,subscripted b false o i=operate [o,i] (getItem o i)
def IxR(X:Cx)(r:R2):Prop:= ∀(bx slice:Expr)(ac:List (Addr×Obj))(s:Shared)(O:St)(H:Hp)(x y:V)(v u:Value)(Q:VK),Inv X ac O H s->xr x v->xr y u->r x y H Q-> subscripted slice false v u=operate [v,u] (getItem v u)->wpAny (model X.prog X.w) X.A (subscriptTail bx slice v u) (EP X ac O Q) X.xe s
def MtR (X:Cx) (id:String) (r:V->List V->Hp->VK->Prop):Prop:= ∀(ac:List (Addr×Obj)) (s:Shared) (O:St) (H:Hp) (x:V) (xs:List V) (v:Value) (us:List Value) (Q:VK),Inv X ac O H s->xr x v->xF xs us->r x xs H Q-> wpAny (model X.prog X.w) X.A (call (.builtin id) (v::us)) (EP X ac O Q) X.xe s
section
variable {X:Cx}{a b:Expr}{ta tb:TE}{pos:Pos}
theorem IxR.or  (h:IxR X r)(h':IxR X r'):IxR X (λx y H Q=>r x y H Q\/r' x y H Q):=by
 intro bx slice ac s O H x y v u Q I rx ry q hs;rcases q with q | q;·exact h bx slice ac s O H x y v u Q I rx ry q hs
 ·exact h' bx slice ac s O H x y v u Q I rx ry q hs
theorem zl3  (hr:IxR X r)(ha:PE X a ta)(hb:PE X b tb)(hs:z91 b):PE X (.Subscript a b pos) (tOp r ta tb):=λac s O H Q I h=>Subscript_ (zoB ha hb I h λv u s2 x y H2 I2 rx ry q=>hr a b ac s2 O H2 x y v u Q I2 rx ry q (hs _ _))
def zq3(K:W.Frag):R2:=λx y H Q=>∃p xs i v,x=.ref p/\y=.int i/\SqL K H p xs/\atI xs i=some v/\Q v H
def zpz(K:W.Frag):R2:=λx y H Q=>∃p xs i v,x=.ref p/\y=.int i/\SqT K H p xs/\atI xs i=some v/\Q v H
theorem ziA:IxR X (zq3 X.K):=by
 intro bx slice ac s O H x y v u Q I rx ry h hs;obtain⟨p,xs,i,z,rfl,rfl,hq,he,q⟩:=h;cases rx;obtain⟨t,rfl⟩:=ry;obtain⟨ah,r,pl,hz⟩:=I.list hq;obtain⟨j,h1,h2,h3,h4,h5⟩:=zcq he;obtain⟨w,ew,dU⟩:=r.get h2;have hl:=r.length;have hn:=za1;have fin:EP X ac O Q w s:=⟨z,H,I,dU,q⟩;by_cases h0:0<=i
 ·have hj:i.toNat=j:=by
   rw[seqIndex_of h0 h5]at h1;exact _E h1
  exact item_listR pl.isList h0 (by lia) (by rw[hj];simpa using ew) fin hs
 ·have hj:(i+(ah.toArray.size:Int)).toNat=j:=by
   rw[seqIndex_neg (by lia) h4]at h1;rw[_t,<- hl];exact _E h1
  exact _cb  pl.isList.typeIs slot_list_getitem.lookup (wpAny_getItem_list_neg  pl.isList (by lia) (by rw[_t]<;>lia) (by lia) (by rw[hj];simpa using ew) ⟨rfl,fin⟩) hs
theorem zlu:IxR X (zpz X.K):=by
 intro bx slice ac s O H x y v u Q I rx ry h hs;obtain⟨p,xs,i,z,rfl,rfl,hq,he,q⟩:=h;cases rx;obtain⟨t,rfl⟩:=ry;obtain⟨ah,r,pl,hz⟩:=I.tuple hq;obtain⟨j,h1,h2,h3,h4,h5⟩:=zcq he;obtain⟨w,ew,dU⟩:=r.get h2;have hn:=za1;exact _cb  pl.typeIs slot_tuple_getitem.lookup (getItem_tuple   pl (by lia) (by lia) (by rw[_t,<- r.length];exact h1) (by simpa using ew) ⟨rfl,⟨z,H,I,dU,q⟩⟩) hs
theorem zaX (ah:List Value) (n j:Nat) (u:Value):Obj.mapSeq (·.setIfInBounds j u) {cls:=.type "list",data:=.seq ah.toArray n}={cls:=.type "list",data:=.seq (ah.set j u).toArray n}:=by simp[Obj.mapSeq]
theorem Inv.lst{ac:List (Addr×Obj)}{O:St}{H:Hp}{s:Shared}{p:Addr}{xs:List V}(I:Inv X ac O H s)(h:H p=some (.lst xs)): ∃(ah:List Value)(n:Nat),xF xs ah/\s.heap.get? p=some {cls:=.type "list",data:=.seq ah.toArray n}/\xs.length<=sizeLine:=by
 obtain⟨z,ah,n,r,e⟩:=I.hok p _ h;exact⟨ah,n,r,e,z⟩
theorem Inv.lstUpd  {O:St}     {ah its':List Value}   (I:Inv X ac O H s) (h:H p=some (.lst xs)) (ho:s.heap.get? p=some {cls:=.type "list",data:=.seq ah.toArray n}) (hf:f {cls:=.type "list",data:=.seq ah.toArray n}={cls:=.type "list",data:=.seq its'.toArray n'}) (r:xF ys its') (hz:ys.length<=sizeLine) (t:Nat): Inv X ac O (upd H p (.lst ys)) {s with heap:=s.heap.update p f,toks:=t}:=by
 have e:(s.heap.update p f).get? p=some {cls:=.type "list",data:=.seq its'.toArray n'}:=by rw[_bF f ho (by rw[hf]<;>rfl),hf]
 exact I.write   (by rw[h];trivial) (.inl rfl) (λb u hb q=>(_ap _ _ (_a6 hb)).trans q) ⟨_,e⟩ ⟨hz,its',n',r,e⟩
def zn3:V->V->V->Hp->(Hp->Prop)->Prop:=λo i v H Q=>∃p xs k j,o=.ref p/\i=.int k/\H p=some (.lst xs)/\ixN xs.length k=some j/\Q (upd H p (.lst (xs.set j v)))
theorem set_list:zpp X zn3:=by
 intro ac s O H o i v ov iv u Q I ro ri rv h;obtain⟨p,xs,k,j,rfl,rfl,hp,hj,q⟩:=h;cases ro;obtain⟨t,rfl⟩:=ri;obtain⟨ah,n,r,ho,hz⟩:=I.lst hp;obtain⟨h1,h2,h3,h4⟩:=zcH hj;have hl:=r.length;have hn:=za1;have I'  := I.lstUpd hp ho (zaX ah n j u) (r.set rv j) (by rw[List.length_set];exact hz) s.toks;by_cases h0:0<=k
 ·have hk:k.toNat=j:=by
   rw[seqIndex_of h0 h4]at h1;exact _E h1
  exact W.ki_setAt ho h0 (by lia) (by rw[_t,<- hl];exact h4) (by rw[hk];exact⟨_,I',q⟩)
 ·have hk:(k+ah.toArray.size).toNat=j:=by
   rw[seqIndex_neg (by lia) h3]at h1;rw[_t,<- hl];exact _E h1
  exact W.ki_setBack ho (by lia) (by rw[_t,<- hl];exact h3) (by lia) (by rw[hk];exact⟨_,I',q⟩)
theorem z7x(lo hi:Option Int)(n:Nat):(sliceBounds lo hi none n).1=((HT.sIx n 0 lo:Nat):Int)/\(sliceBounds lo hi none n).2.1=(HT.sIx n n hi:Int)/\(sliceBounds lo hi none n).2.2=1:=by
 refine⟨?_,?_,rfl⟩;·cases lo with
  | none=>rfl | some i=>
   simp only[sliceBounds,HT.sIx,Option.getD_none,_G];by_cases h:i<0;·simp only[h,_G]<;>lia
   ·simp only[h,_aP]<;>lia
 ·cases hi with
  | none=>rfl | some i=>
   simp only[sliceBounds,HT.sIx,Option.getD_none,_G];by_cases h:i<0;·simp only[h,_G]<;>lia
   ·simp only[h,_aP]<;>lia
theorem z5s(ah:List Value)(lo hi:Option Int):slicePick ah.toArray lo hi none=((ah.drop (HT.sIx ah.length 0 lo)).take (HT.sIx ah.length ah.length hi-HT.sIx ah.length 0 lo)).toArray:=by
 obtain⟨h1,h2,h3⟩:=z7x lo hi ah.toArray.size;unfold slicePick;rw[h1,h2,h3];simp only[sliceRange_one,pick_run,_t]<;>rfl
def zpM(K:W.Frag):V->Option Int->Option Int->Hp->VK->Prop:=λx lo hi H Q=>∃a xs,x=.ref a/\SqL K H a xs/\∀p,H p=none->Q (.ref p) (upd H p (.lst (zjY xs lo hi)))
theorem zi2:SlR X (zpM X.K):=by
 intro ac s O H x v vl vu lo hi sl Q I rx hs pl pu h;obtain⟨a,xs,rfl,hx,q⟩:=h;cases rx;obtain⟨ah,r,ht,hz⟩:=I.list hx;have aD:=r.length;refine⟨"list",_,slot_list_getitem.lookup,ht.isList.typeIs,(wpAny_getItem_list_slice ht.isList hs pl pu .none (by decide) ?_ (by rw[_t]<;>lia))⟩;rw[z5s,<- aD];refine⟨.ref s.heap.objs.size,_,I.laid   (λb ob q=>_e _ q) (_h _) ?_,rfl,q _ (I.hok.fresh (_h _))⟩;exact⟨_S (z2F xs lo hi) hz,_,0,(r.drop (HT.sIx xs.length 0 lo)).take (HT.sIx xs.length xs.length hi-HT.sIx xs.length 0 lo),_x _ rfl⟩
noncomputable def z4d:V->Bool
 | .non=>true | .bl _=>true | .int _=>true | .str _=>true | _=>false
noncomputable def eqV:V->V->Bool
 | .non,.non=>true | .bl a,.bl b=>a==b | .bl a,.int b=>(if a then 1 else 0)==b | .int a,.bl b=>a==(if b then 1 else 0) | .int a,.int b=>a==b | .str a,.str b=>a==b | _,_=>false
theorem zl0     (ry:xr y u)(rx:xr x v)(fy:z4d y=true)(fx:z4d x=true):SeqAt.EqAt A s u v (eqV y x):=by cases y with
 | non=>
  cases ry;cases x with
  | non=>cases rx;exact SeqAt.EqAt.same _ | bl b=>cases rx;exact SeqAt.EqAt.none_bool b | int b=>obtain⟨t,rfl⟩:=rx;exact SeqAt.EqAt.none_int b t | str b=>obtain⟨t,rfl⟩:=rx;exact SeqAt.EqAt.none_str b t | _=>exact absurd (fx) _aM
 | bl a=>
  cases ry;cases x with
  | non=>cases rx;exact SeqAt.EqAt.bool_none a | bl b=>cases rx;exact SeqAt.EqAt.bool_bool a b | int b=>obtain⟨t,rfl⟩:=rx;exact SeqAt.EqAt.bool_int a b t | str b=>obtain⟨t,rfl⟩:=rx;exact SeqAt.EqAt.bool_str a b t | _=>exact absurd (fx) _aM
 | int a=>
  obtain⟨t',rfl⟩:=ry;cases x with
  | non=>cases rx;exact SeqAt.EqAt.int_none a t' | bl b=>cases rx;exact SeqAt.EqAt.int_bool a t' b | int b=>obtain⟨t,rfl⟩:=rx;exact SeqAt.EqAt.int_int a t' b t | str b=>obtain⟨t,rfl⟩:=rx;exact SeqAt.EqAt.int_str a t' b t | _=>exact absurd (fx) _aM
 | str a=>
  obtain⟨t',rfl⟩:=ry;cases x with
  | non=>cases rx;exact SeqAt.EqAt.str_none a t' | bl b=>cases rx;exact SeqAt.EqAt.str_bool a t' b | int b=>obtain⟨t,rfl⟩:=rx;exact SeqAt.EqAt.str_int a t' b t | str b=>obtain⟨t,rfl⟩:=rx;exact SeqAt.EqAt.str_str a t' b t | _=>exact absurd (fx) _aM
 | _=>exact absurd (fy) _aM
noncomputable def eqU(x:V)(u:Value):Bool:=match u with
 | .none=>eqV .non x | .bool b=>eqV (.bl b) x | .int i _=>eqV (.int i) x | .str z _=>eqV (.str z) x | _=>false
theorem zgV   (r:xr y u)(f:z4d y=true):eqU x u=eqV y x:=by cases y with
 | non=>cases r;rfl | bl b=>cases r;rfl | int i=>obtain⟨t,rfl⟩:=r;rfl | str z=>obtain⟨t,rfl⟩:=r;rfl | _=>exact absurd (f) _aM
theorem z8V  : ∀{xs:List V}{us:List Value},xF xs us->xs.all z4d=true->us.any (eqU x)=xs.any λy=>eqV y x
 | _,_,.nil,_=>rfl | y::xs,u::us,.cons r t,f=>by
  rw[List.all_cons,_ac]at f;rw[_bW,_bW,zgV r f.1,z8V t f.2]
theorem z5u     (rx:xr x v)(fx:z4d x=true):∀{xs:List V}{us:List Value},xF xs us->xs.all z4d=true->∀u∈us,SeqAt.EqAt A s u v (eqU x u)
 | _,_,.nil,_=>λu hu=>by cases hu | y::xs,u::us,.cons r t,f=>λu' hu=>by
  rw[List.all_cons,_ac]at f;rcases _r.mp hu with rfl | hu;·rw[zgV r f.1];exact zl0 r rx f.1 fx
  ·exact z5u rx fx t f.2 u' hu
noncomputable def inV(x:V)(xs:List V):Bool:=xs.any λy=>eqV y x
def rIn(K:W.Frag)(neg:Bool):R2:=λx y H Q=>∃p xs,y=.ref p/\(SqL K H p xs\/SqT K H p xs)/\z4d x=true/\xs.all z4d=true/\Q (.bl (if neg then !inV x xs else inV x xs)) H
theorem ze8:OpR X (compareOp .In) (rIn X.K false):=by
 intro ac s O H x y v u Q I rx ry h;obtain⟨p,xs,rfl,hq,fx,fs,q⟩:=h;cases ry;rcases hq with hq | hq
 ·obtain⟨ah,r,pl,hz⟩:=I.list hq;refine SeqAt.in_listAt (eqU x) pl.isList (λw hw=>z5u rx fx r fs w (by simpa using hw)) ⟨.bl _,H,I,rfl,?_⟩;rw[show ah.toArray.any (eqU x)=ah.any (eqU x) by simp,z8V r fs];exact q
 ·obtain⟨ah,r,pl,hz⟩:=I.tuple hq;refine SeqAt.in_tupleAt (eqU x) pl (λw hw=>z5u rx fx r fs w (by simpa using hw)) ⟨.bl _,H,I,rfl,?_⟩;rw[show ah.toArray.any (eqU x)=ah.any (eqU x) by simp,z8V r fs];exact q
theorem z7b:vt X (.builtin "len") (λxs H Q=>∃p ys,xs=[.ref p]/\(SqL X.K H p ys\/SqT X.K H p ys)/\Q (.int ys.length) H):=by
 intro ac s O H xs us Q I r h;obtain⟨p,ys,rfl,hq,q⟩:=h;obtain⟨u,rfl,rx⟩:=vals1 r;cases rx;have hn:=za1;rcases hq with hq | hq
 ·obtain⟨ah,r',pl,hz⟩:=I.list hq;have aD:=r'.length;exact Calls.call_len_list pl.isList (by simp only[_t]<;>lia) ⟨.int ys.length,H,I.tok _,⟨s.toks+1,by rw[_t,aD]⟩,q⟩
 ·obtain⟨ah,r',pl,hz⟩:=I.tuple hq;have aD:=r'.length;exact len_tuple pl (by simp only[_t]<;>lia) ⟨.int ys.length,H,I.tok _,⟨s.toks+1,by rw[_t,aD]⟩,q⟩
theorem z6e:vt X (.type "tuple") (λxs H Q=>∃p ys,xs=[.ref p]/\((SqL X.K H p ys/\∀l,H l=none->Q (.ref l) (upd H l (.tup ys)))\/(SqT X.K H p ys/\Q (.ref p) H))):=by
 intro ac s O H xs us Q I r h;obtain⟨p,ys,rfl,h⟩:=h;obtain⟨u,rfl,rx⟩:=vals1 r;cases rx;rcases h with⟨hq,q⟩ | ⟨hq,q⟩
 ·obtain⟨ah,r',pl,hz⟩:=I.list hq;have aD:=r'.length;refine call_tuple_list pl.isList (λh' kp=>?_) (by simp only[_t]<;>lia);have I1  := I.kept (t':=s.toks) kp;exact⟨.ref h'.objs.size,_,(I1.laid (t':=s.toks) (λb o e=>_e _ e) (_h _) (show uZ X.prog X.w _ _ _ (.tup ys) from⟨hz,ah,r',zez.new _ _⟩)),rfl,q _ (I1.hok.fresh (_h _))⟩
 ·obtain⟨ah,r',pl,hz⟩:=I.tuple hq;exact call_tuple_same pl ⟨.ref p,H,I,rfl,q⟩
def tyV(K:W.Frag)(T:String)(x:V)(H:Hp):Prop:=match x with
 | .str _=>T="str" | .int _=>T="int" | .ref p=>(T="list"/\∃xs,SqL K H p xs)\/(T="tuple"/\∃o,K.lookup p=some o/\o.cls=.type "tuple"/\o.dict=none)\/ (T="dict"/\((∃ae,H p=some (.dK ae))\/∃ae,H p=some (.dT ae)))\/(T="set"/\∃S n,H p=some (.set S n)) | _=>False
theorem zkN  {O:St}      (I:Inv X ac O H s)(r:xr x v)(ty:tyV X.K T x H): s.TypeIs v T/\∀a,v=.ref a->∃ob,s.heap.get? a=some ob/\ob.dict=none:=by cases x with
 | str z=>
  obtain⟨t,rfl⟩:=r;cases (ty);exact⟨typeIs_str s z t,λ_ e=>nomatch e⟩ | int i=>
  obtain⟨t,rfl⟩:=r;cases (ty);exact⟨typeIs_int s i t,λ_ e=>nomatch e⟩ | ref p=>
  cases r;rcases ty with⟨rfl,xs,hq⟩ | ⟨rfl,o,hk,hc,hd⟩ | ⟨rfl,hk⟩ | ⟨rfl,S,n,hk⟩
  ·obtain⟨ah,_,pl,_⟩:=I.list hq;refine⟨pl.isList.typeIs,λa e=>?_⟩;cases e;obtain⟨o,n,e,c,hd,_⟩:=pl;exact⟨o,e,hd⟩
  ·refine⟨⟨o,I.kIn p o hk,hc⟩,λa e=>?_⟩;cases e;exact⟨o,I.kIn _ o hk,hd⟩
  ·obtain⟨o,e,ex⟩:=(show ∃o,s.heap.get? p=some o/\o.ExactDict from by
    rcases hk with⟨ae,hk⟩ | ⟨ae,hk⟩
    ·obtain⟨_,_,_,_,o,_,_,e,ex,_⟩:=I.hok p _ hk;exact⟨o,e,ex⟩
    ·obtain⟨_,_,_,_,o,_,_,e,ex,_⟩:=I.hok p _ hk;exact⟨o,e,ex⟩);refine⟨⟨o,e,ex.1⟩,λa e2=>?_⟩;cases e2;exact⟨o,e,ex.2.1⟩
  ·obtain⟨o,_,_,_,e,ex,_⟩:=I.hok p _ hk;refine⟨⟨o,e,ex.1⟩,λa e2=>?_⟩;cases e2;exact⟨o,e,ex.2.1⟩ | _=>exact False.elim ty
def tBM(K:W.Frag)(T:String)(r:V->List V->Hp->VK->Prop)(to:TE)(t:TA):TE:=λO H Q=>to O H λx H1=>tyV K T x H1/\t O H1 λxs H2=>r x xs H2 Q
variable {o e:Expr}{es:List Expr}{to:TE}{t:TA}{name:Str}{aV aJ:Pos}{T id:String}{r:V->List V->Hp->VK->Prop}
theorem zjz (pa:PlainAttrs T) (slot:Slot T name id) (fJ:typeOf (.builtin id)=pure (.type "method_descriptor")) (hm:MtR X id r) (ho:PE X o to) (ha:PA X (e::es) t) (bi:autoParam (attributeBase o name X.env (eval o X.env)=eval o X.env) aRf) (bM:autoParam (((backTo aJ (starEach (e::es) X.env)).all (λx=>!x.1)&&(backToKw aJ (keywordEach [] X.env)).all (λx=>x.1.isSome) && decide ((e::es).length+([]:List Keyword).length+(if ([]:List Keyword).isEmpty then 0 else 1)<30))=true) aRf) (aE:autoParam ((aV.endLine==aJ.line)=true) aRf) (hs:autoParam (starEach (e::es) X.env=(false,eval e X.env)::starEach es X.env) aRf) (bf:autoParam ((backTo aJ (starEach es X.env)).any (·.1)=false) aRf): PE X (.Call (.Attribute o name aV) (e::es) [] aJ) (tBM X.K T r to t):=by
 refine λac s O H Q I h=>wpAny_Call_method_late bi bM aE rfl (thn (ho ac s O H _ I h) λv s1 ⟨x,H1,I1,r1,ty,q1⟩=>?_);obtain⟨h1,h2⟩:=zkN I1 r1 ty;refine⟨T,id,pa,slot,fJ,h1,h2,?_⟩;have hA:=ha aJ ac s1 O H1 _ I1 q1;rw[hs]at hA ⊢;exact _cc (by show (false||(backTo aJ (starEach es X.env)).any (·.1))=false;rw[bf]<;>rfl) (_cA (thn hA λus s2 ⟨vs,H2,I2,r2,q2⟩=>hm ac s2 O H2 x vs v us Q I2 r1 r2 q2))
end
def MtM (X:Cx) (id:String) (r:V->List V->Hp->VK->Prop):Prop:= ∀(ac:List (Addr×Obj)) (s:Shared) (O:St) (H:Hp) (x:V) (xs:List V) (v:Value) (us:List Value) (Q:VK),Inv X ac O H s->xr x v->xF xs us->r x xs H Q-> wpAny (model X.prog X.w) X.A (call (.builtin id) (v::us)) (EP X ac O Q) X.xe s
theorem xF.one:∀{x:V}{us:List Value},xF [x] us->∃u,us=[u]/\xr x u | _,_,.cons r .nil=>⟨_,rfl,r⟩
theorem xF.two:∀{x y:V}{us:List Value},xF [x,y] us->∃u v,us=[u,v]/\xr x u/\xr y v | _,_,_,.cons r (.cons q .nil)=>⟨_,_,rfl,r,q⟩
section
variable {X:Cx}{ac:List (Addr×Obj)}{O:St}{H:Hp}{s:Shared}{l b:Addr}{xs ys zs:List V}
theorem Inv.lset {ah its':List Value}    (I:Inv X ac O H s) (hH:H l=some (.lst xs)) (e:s.heap.get? l=some {cls:=.type "list",data:=.seq ah.toArray n}) (hf:f ah.toArray=its'.toArray) (hv:xF ys its') (hz:ys.length<=sizeLine): Inv X ac O (upd H l (.lst ys)) {s with heap:=s.heap.update l (Obj.mapSeq f),toks:=t'}:=by
 have q:=PySem.IsL.update e f;rw[hf]at q;exact I.write   (by rw[hH];exact trivial) (.inl rfl) (λb' u hb hu=>(_ap s.heap (Obj.mapSeq f) (_a6 hb)).trans hu) ⟨_,q⟩ ⟨hz,its',_,hv,q⟩
theorem Inv.lnew   (I:Inv X ac O H s) (hv:xF ys ah) (hz:ys.length<=sizeLine): Inv X ac O (upd H s.heap.objs.size (.lst ys)) {s with heap:=s.heap.push {cls:=.type "list",data:=.seq ah.toArray},toks:=t'}:= I.laid (λ_ _ q=>_e _ q) (_h _) ⟨hz,ah,0,hv,_x _ rfl⟩
theorem Inv.fresh(I:Inv X ac O H s):H s.heap.objs.size=none:=I.hok.fresh (_h _)
theorem Inv.lstM(I:Inv X ac O H s)(hH:H l=some (.lst xs)):xs.length<=sizeLine/\∃(ah:List Value)(n:Nat),xF xs ah/\xs.length=ah.length/\s.heap.get? l=some {cls:=.type "list",data:=.seq ah.toArray n}:=by
 obtain⟨z,ah,n,r,e⟩:=I.hok l _ hH;exact⟨z,ah,n,r,r.length,e⟩
end
section
variable {X:Cx}
def ziZ:V->List V->Hp->VK->Prop:=λx vs H Q=>∃l xs y,x=.ref l/\vs=[y]/\H l=some (.lst xs)/\xs.length<sizeLine/\Q .non (upd H l (.lst (xs++[y])))
theorem z7s:MtM X "list.append" ziZ:=by
 intro ac s O H x vs v us Q I rx rv h;obtain⟨l,xs,y,rfl,rfl,hH,hz,q⟩:=h;cases rx;obtain⟨u,rfl,ru⟩:=rv.one;obtain⟨z,ah,n,r,hl,e⟩:=I.lstM hH;refine call_meets F.slot_list_append ⟨_,e,rfl⟩ F.entry_list_append (F.args_list_append_2 _ _) (PySem.list_append l ah.toArray n u (by rw[_t];lia)) ⟨e,?_⟩;refine⟨.non,_,I.lset  hH e (by simp) (r.append (.cons ru .nil)) ?_,rfl,q⟩;rw[_P,List.length_singleton];lia
end
end L2
namespace Att
open PySem.W PySem.Calls
theorem z3F   : ∀(ns:List Int)(vs:List Value),WellAll P h vs (ns.map WData.int)->IntsAre vs ns:=by
 intro ns;induction ns with
 | nil=>
  intro vs w;cases w;exact .nil | cons n ns ih=>
  intro vs w;cases w with | cons a b=>
   cases a;exact .cons _ _ (ih _ b)
theorem zeo {l:OpenLaw}  (hn:l.most=some n) (di:l.row.toRowW.claim.pre args=true) (iH:WellAll P h fK args): ∃a vs ns,fK=[Value.ref a]/\args=[WData.list (ns.map WData.int)]/\h.get? a=some {cls:=.type "list",data:=.seq vs.toArray}/\IntsAre vs ns/\ns.length<=n:=by
 have hc:l.pre.holds [] {args:=args}=true:=(pre_splitW di).2;obtain⟨d,r,rfl,h1,h2⟩:=hasAllW_cons ((pre_splitW di).1);obtain rfl:=hasAllW_nil h2;obtain⟨xs,rfl,h3⟩:=hasW_list h1;obtain⟨ns,rfl⟩:=items_int h3;cases iH with | cons w1 w2=>
  cases w2;cases w1 with | list ho iI=>exact⟨_,_,ns,rfl,rfl,ho,z3F ns _ iI,(by
  have h4:(WTm.not (.lt (.lit (.int n)) (.len (.arg 0)))).holds [] {args:=[.list (ns.map .int)]}=true:=by
   have h4:=(holds_andW hc).1;rw[hn]at h4;exact h4
  have h5:=condW_of h4 (w_not (w_lt w_lit (w_len_list (w_arg rfl))));(simp at h5;lia))⟩
theorem zdv(l:OpenLaw)(args:List WData):l.row.toRowW.claim.post args (.bool true) args=true:= postW_of ((by rfl)) ((w_eq_bool (w_res rfl) w_lit)) rfl
theorem z8Q{l:OpenLaw} (hn:l.most=some n)(iJ:d.params.defaults=[]) (call:∀(w:World)(s₀ s₁:Shared)(mg mb:Str->Option Value)(fa:Addr)(o:Obj)(pm cd bE:Value)(a:Addr)(vs:List Value)(ns:List Int), Ground q loose [] XP w s₀ mg mb s₁.heap->YP w s₁.heap-> s₁.heap.get? fa=some o->o.data=.func (docDef d.name d.params d.body d.scope pm cd bE)->s₁.heap.CodeRec cd d.name->mg d.name=some (.ref fa)-> s₁.heap.get? a=some {cls:=.type "list",data:=.seq vs.toArray}->IntsAre vs ns->ns.length<=n->s₁.gens=#[]-> codeAny (model l.prog w) callerA (.call (.ref fa) ⟨[.ref a],[]⟩) (λr s'=>r=.ok (.ret (.bool true))/\OldK s₁.heap s'.heap/\s'.os=s₁.os/\AllBare s'.gens) s₁): WalkO q loose XP YP l.row.toRowW d [] (λf vs=>PySem.call f vs):=by
 intro w s₀ s₁ mg mb G Yy fa o pm cd bE dV kV ho hd bQ hD dZ hg args fK as di nD rq iH rC;obtain rfl:dV=.none:=Dflts.none hD iJ;obtain rfl:kV=.none:=Dflts.noKw hD;obtain⟨a,vs,ns,rfl,rfl,d8,cK,aD⟩:=zeo hn di iH;refine enter_call (_dp (call w s₀ s₁ mg mb fa o pm cd bE a vs ns G Yy ho (fd_plain hd) bQ dZ d8 cK aD hg) λr s' hq=>?_);obtain⟨rfl,h2,h3,h4⟩:=hq;exact⟨.inl ⟨.bool true,.bool true,[],rfl,λ_=>rfl,.bool true,zdv l _,λ_=>⟨List.Pairwise.nil,λ_ hm=>(nomatch hm)⟩⟩,h2,h3,h4⟩
section
variable {prog:Program}{w:World}{A:Around}{E:Value->Shared->Prop}{s:Shared}{K:Frag}
noncomputable def ledger(h:Heap)(L d:Addr):List (Addr×Obj):=(List.range h.objs.size).filterMap λa=>if a=L\/a=d then none else (h.get? a).map λo=>(a,o)
end
end Att
namespace L2
theorem z6G:∀{vs:List Value}{ns:List Int},IntsAre vs ns->xF (ns.map V.int) vs
 | _,_,.nil=>.nil | _,_,.cons n t h=>.cons ⟨t,rfl⟩ (z6G h)
def zop(H:Hp):Prop:=∀b,H b=none\/∃o xs,H b=some (.frz o (.lst xs))
theorem zfN   {K:W.Frag} (KX:K.In s₁.heap)(lN:s₁.heap.Ns mainGlobals mg)(hb:s₁.heap.Ns builtinsNs mb)(nE:∀x:Str,x≠"__name__"->mb x=bootBuiltins x)(iK:s₁.heap.NoLimit)(hg:s₁.gens=#[]) (ha:s₁.heap.get? a=some {cls:=.type "list",data:=.seq vs.toArray})(hi:IntsAre vs ns)(hl:ns.length<=sizeLine)(hr:z1F k callerA) (F:∀base:Heap,K.In base->base.Ns mainGlobals mg->z5J P w K mg base CX k fa fd [x] sp)(fL:∀(s:Shared)(u:Value),BindsTo s fd ⟨[u],[]⟩ [(x,u)]) (eP:∀H:Hp,zop H->SqL K H a (ns.map V.int)->sp [.ref a] H (λv _=>v=.bl true) λ_ _ _=>False) (nF:∀H e s',CX [] H s₁ (λ_ _ _=>False) e s'->False): codeAny (model P w) callerA (.call (.ref fa) ⟨[.ref a],[]⟩) (λr s'=>r=.ok (.ret (.bool true))/\OldK s₁.heap s'.heap/\s'.os=s₁.os/\AllBare s'.gens) s₁:=by
 have rv:=z6G hi;have fM:∀H:Hp,zop H->SqL K H a (ns.map V.int)->HOk P w H s₁.heap->(∀b,H b≠none->b=a)->(H a≠none->K.lookup a=none)-> codeAny (model P w) callerA (.call (.ref fa) ⟨[.ref a],[]⟩) (λr s'=>r=.ok (.ret (.bool true))/\OldK s₁.heap s'.heap/\s'.os=s₁.os/\AllBare s'.gens) s₁:=by
  intro H hO hS hok hA hK;have cq:∀{b:Addr}{o:Obj},s₁.heap.get? b=some o->H b=none->(zk3 s₁.heap H).get? b=some o:=λe n=>zfx e n;have fE:∀{b:Addr}{o:Obj}{es:Array DictEntry}{ep:Nat},s₁.heap.get? b=some o->o.data=.dict es ep->H b=none:=λ{b o es ep} e d=>by cases q:H b with
   | none=>rfl | some u=>
    have e'  := hA b (by rw[q];simp);subst e';rw[ha]at e;cases e;cases d
  have hY:∀{b:Addr}{m:Str->Option Value},s₁.heap.Ns b m->(zk3 s₁.heap H).Ns b m:=λ{b m} ⟨o,es,ep,e,d,r⟩=>⟨o,es,ep,cq e (fE e d),d,r⟩;have lO  := λb o e=>cq (KX b o e) (by cases q:H b with
   | none=>rfl | some u=>
    have e'  := hA b (by rw[q];simp);subst e';rw[hK (by rw[q];simp)]at e;cases e);refine _dp ((F _ lO (hY lN)).run callerA [] s₁ H ⟨[.ref a],[]⟩ [.ref a] [.ref a] _ _ hr ⟨rfl,⟨lO,hY lN,⟨mb,hY hb,nE⟩,let ⟨mc,h1,h2⟩:=iK;⟨mc,hY h1,h2⟩⟩,λb o e=>zjU e,Nat.le_of_eq (zbX _ _),trivial,λb hb=>absurd (show b∈([]:List Addr) from hb) (by simp),hok,.of_eq hg⟩ (fL s₁ (.ref a)) (.cons rfl .nil) (eP H hO hS)) λr s' h=>?_;cases r with
  | error e=>exact (nF H e s' h).elim | ok fl=> cases fl with
   | next=>exact False.elim h | brk=>exact False.elim h | cont=>exact False.elim h | ret u=>
    obtain⟨v,H',os,bare,un,iM,r',q⟩:=h;subst q;obtain rfl:u=Value.bool true:=r';refine⟨rfl,OldK.of_keep λb o e=>?_,os,bare⟩;cases q:H b with
    | none=>exact un.keep b o e q (by exact λz=>absurd (show b∈([]) from z) (by simp)) (by simp) | some u=>
     rcases hO b with z | ⟨ob,xs,z⟩;·rw[q]at z;cases z
     ·obtain⟨e1,_⟩:=hok b _ z;obtain⟨e2,_⟩:=iM b _ (un.frzs b ob _ z);rw[e]at e1;cases e1;exact e2
 cases hk:K.lookup a with
 | some o=>
  have e:=KX a o hk;rw[ha]at e;cases e;refine fM (λ_=>none) (λ_=>.inl rfl) (.inr ⟨_,vs.toArray,_,hk,rfl,rfl,rfl,by rw[_t,hi.length];exact hl,by exact rv⟩) (λb u z=>by have z'  := z;cases z') (λb z=>absurd rfl z) λz=>absurd rfl z | none=>
  refine fM (λb=>if b=a then some (.frz {cls:=.type "list",data:=.seq vs.toArray} (.lst (ns.map V.int))) else none) (λb=>?_) (.inl (.inr ⟨{cls:=.type "list",data:=.seq vs.toArray},_l rfl⟩)) (λb u z=>?_) (λb z=>?_) λ_=>hk
  ·by_cases hb:b=a;·exact .inr ⟨_,_,_l hb⟩
   ·exact .inl (_p hb)
  ·by_cases hb:b=a
   ·cases ((_l hb).symm.trans z);subst hb;exact⟨ha,by rw[_z];exact hl,vs,_,rv,ha⟩
   ·have z':=(_p hb).symm.trans z;cases z'
  ·by_cases hb:b=a;·exact hb
   ·exact absurd (_p hb) z
noncomputable abbrev KOf{K:W.Frag}{h:Heap}(_:K.In h):W.Frag:=K
noncomputable def z03(s:Stmt):Arguments:=match s with
 | .FunctionDef _ a _ _ _ _ _ _ _ _=>a | _=>{posonlyargs:=[],args:=[],vararg:=none,kwonlyargs:=[],kw_defaults:=[],kwarg:=none,defaults:=[]}
noncomputable def uI(s:Stmt):List Stmt:=match s with
 | .FunctionDef _ _ b _ _ _ _ _ _ _=>b | _=>[]
noncomputable def zg(s:Stmt):Scope:=match s with
 | .FunctionDef _ _ _ _ _ _ sc _ _ _=>sc | _=>{kind:=.function,names:=[],isGenerator:=false,isCoroutine:=false}
noncomputable abbrev CX0:CXT:=λ_ _ _ _ _ _=>False
abbrev E0:XK:=λ_ _ _=>False
theorem ziY  : Passes CX0 X E0:=λ_ _ _ _ _ _ _ h=>h.elim
structure Fun(K:W.Frag)(x qual:Str)(st:Stmt)(f:Addr)(fd:FuncData):Prop where
 ex:∃(oc:Value)(od:Option Addr)(kV bE pm:Value)(an:Option Addr)(aM ct:Value)(dW:Array (Option Value)), fd=W.fnOf x qual (z03 st) (uI st) (zg st) .none kV bE pm an aM ct/\K.lookup f=some ⟨oc,od,.func fd,dW⟩/\W.codeIn K aM qual=true
 kp:W.keepIn K (.ref f)=true
section
variable {P:Program}{w:World}{K:W.Frag}{mg:Str->Option Value}{base:Heap}
theorem Fun.ok  {st:Stmt}      (F:Fun K x qual st f fd)(S:zm N ps (zg st))(len:∀vs H Q E,sp vs H Q E->vs.length=ps.length) (cG:∀(aM:Value)(A:Around)(outer:List Env)(s:Shared)(H:Hp)(vs:List V)(Q:VK)(E:XK),z1F k (A.deeper (envOfC qual (zg st) s.heap.objs.size f aM))->sp vs H Q E-> ∃t,PSs (zdd CX0 P w K mg base N qual (zg st) f aM A outer s H E).nox (uI st) t/\t {nx:=λ_ H'=>Q .non H',rt:=Q} (start N vs) H):z5J P w K mg base CX0 (k+1) f fd ps sp:=by
 obtain⟨oc,od,kV,bE,pm,an,aM,ct,dW,rfl,lk,bQ⟩:=F.ex;refine zmL lk bQ S len λA outer s H vs Q E hr eP=>?_;obtain⟨t,h,q⟩:=cG aM A outer s H vs Q E hr eP;exact⟨t,h.nox,q⟩
theorem Fun.binds  {st:Stmt}    (F:Fun K x qual st f fd) (h:∀(kV bE pm:Value)(an:Option Addr)(aM ct:Value)(us:List Value),us.length=ps.length->bindArgs (W.fnOf x qual (z03 st) (uI st) (zg st) .none kV bE pm an aM ct) ⟨us,[]⟩=pure (ps.zip us)):Binds K fd ps []:=by
 obtain⟨oc,od,kV,bE,pm,an,aM,ct,dW,rfl,lk,bQ⟩:=F.ex;exact .all (h kV bE pm an aM ct)
theorem zlQ  {st:Stmt}     {kV bE pm aM ct:Value}(l:K.lookup f=some ⟨oc,od,.func (W.fnOf x qual (z03 st) (uI st) (zg st) .none kV bE pm an aM ct),dW⟩) (c:W.codeIn K aM qual=true)(k:W.keepIn K (.ref f)=true):Fun K x qual st f (W.fnOf x qual (z03 st) (uI st) (zg st) .none kV bE pm an aM ct):=⟨⟨oc,od,kV,bE,pm,an,aM,ct,dW,rfl,l,c⟩,k⟩
end
section
variable {X:Cx}
theorem pv(i:Nat)  {pos:Pos}(hN:autoParam (X.N[i]? = some x) aRf)(hv:Vis X.env.scope x:=by first | exact Or.inl rfl | exact Or.inr (Or.inl rfl) | exact Or.inr (Or.inr rfl))(hd:autoParam ((x==("__debug__":Str))=false) aDe) (bQ:autoParam ((x==("__classdict__":Str))=false) aDe):PE X (.Name x pos) (zpt i):=za0 hN hv hd bQ
end
end L2
set_option maxHeartbeats 4000000
namespace L2
noncomputable def z8h(env:Env):List (Str×NameKind)->List (Str×Addr)->List (Str×Addr)
 | [],af=>af | (n,k)::r,af=>z8h env r (if k==.free then (match env.cells.lookup n with | some c=>(n,c)::af | none=>af) else af)
theorem z3I  : ∀(names:List (Str×NameKind))(af:List (Str×Addr)),(∀x c,af.lookup x=some c->env.cells.lookup x=some c)->∀x c,(z8h env names af).lookup x=some c->env.cells.lookup x=some c
 | [],af,ha=>ha | (n,k)::r,af,ha=>by
  refine z3I r _ λx c=>?_;split
  ·split
   ·rename_i c' hc;intro h;rw[_V]at h;split at h
    ·rename_i hb;cases h;rw[_bI.mp hb];exact hc
    ·exact ha x c h
   ·exact ha x c
  ·exact ha x c
theorem z7v   : ∀(names:List (Str×NameKind))(af:List (Str×Addr)),(af.lookup x).isSome=true->((z8h env names af).lookup x).isSome=true
 | [],af,ha=>ha | (n,k)::r,af,ha=>by
  refine z7v r _ ?_;split
  ·split
   ·rw[_V];split;·rfl
    ·exact ha
   ·exact ha
  ·exact ha
theorem z5j   : ∀(names:List (Str×NameKind))(af:List (Str×Addr)),(x,NameKind.free)∈names->(∃c,env.cells.lookup x=some c)->∃c,(z8h env names af).lookup x=some c
 | [],af,h,_=>nomatch h | (n,k)::r,af,h,hc=>by
  rcases _r.mp h with e | h
  ·cases e;obtain⟨c,hc⟩:=hc;unfold z8h;rw[hc];exact Option.isSome_iff_exists.mp (z7v r _ (by simp))
  ·exact z5j r _ h hc
theorem z4u  (f:Str×NameKind->List (Str×Addr)->Sem (ForInStep (List (Str×Addr)))) (hf:∀n k cs,f (n,k) cs=if k==.free then (do let a <- cellOf env n;pure (.yield ((n,a)::cs))) else pure (.yield cs)): ∀(names:List (Str×NameKind))(af:List (Str×Addr)),(∀y∈names,y.2=.free->∃c,env.cells.lookup y.1=some c)->forIn names af f=pure (z8h env names af)
 | [],af,_=>rfl | (n,k)::r,af,h=>by
  rw[List.forIn_cons,hf];have ih:=λcL=>z4u f hf r cL λy hy=>h y (_J _ hy);unfold z8h;by_cases hk:k=.free
  ·subst hk;obtain⟨c,hc⟩:=h (n,.free) _X rfl;have cA  := hc;have e:cellOf env n=pure c:=by unfold cellOf;rw[cA]
   rw[e,cA];exact ih _
  ·have hb:(k==NameKind.free)=false:=by simpa using hk
   rw[hb];exact ih _
theorem uh   (h:∀y∈scope.names,y.2=.free->∃c,env.cells.lookup y.1=some c):closureFor scope env=pure (z8h env scope.names []):=by
 simp only[closureFor];rw[z4u  _ (λn k cs=>by cases hk:k==NameKind.free<;>rfl) scope.names [] h];rfl
theorem vZ:∀(names:List (Str×NameKind))(n:Nat)(af:List (Str×Addr)),cellsFrom n names af=cellsFrom n names []++af
 | [],_,_=>rfl | (x,k)::r,n,af=>by
  unfold cellsFrom;split
  ·rw[vZ r (n+1) ((x,n)::af),vZ r (n+1) [(x,n)]];simp
  ·exact vZ r n af
theorem qK   : ∀(names:List (Str×NameKind))(n:Nat)(af:List (Str×Addr)),(x,c)∈cellsFrom n names af->(x,c)∈af\/(x,NameKind.cell)∈names
 | [],_,_,h=>.inl h | (y,k)::r,n,af,h=>by
  unfold cellsFrom at h;split at h
  ·rename_i hk;rcases qK r _ _ h with q | q
   ·rcases _r.mp q with e | q
    ·cases e;refine .inr ?_;rw[(_bI.mp hk)];exact _X
    ·exact .inl q
   ·exact .inr (_J _ q)
  ·rcases qK r _ _ h with q | q;·exact .inl q
   ·exact .inr (_J _ q)
noncomputable def zbM(X:Cx)(scope:Scope)(C:Addr):Env:= {scope:=relabel scope X.env,locals:=C,globals:=X.env.globals,cells:=cellsFrom (C+1) scope.names []++z8h X.env scope.names [],qual:=X.env.qual,func:=none,code:=X.env.code,frame:=X.env.frame,builtins:=X.env.builtins}
noncomputable def zD(X:Cx)(N':List Str)(scope:Scope)(ex:List Addr)(s:Shared)(H:Hp):Cx where
 prog:=X.prog;w:=X.w;K:=X.K;mg:=X.mg;base:=X.base;A:=X.A;N:=N';s₀:=s;H₀:=H;env:=zbM X scope s.heap.objs.size;outer:=X.stack;stack:=X.stack;ex:=ex;fn:=λx=>scope.names.lookup x==some .cell;calm:=X.calm;pn:=[];xe:=λ_ _=>False
theorem kE{env:Env}{x:Str}{k:NameKind}:∀{names:List (Str×NameKind)},names.lookup x=some k-> (names.map λ(n,k)=>if (k==NameKind.free&&env.scope.kind==.function&&env.kindOf n==some .cell) then (n,NameKind.cell) else (n,k)).lookup x=some k\/ (k=.free/\(names.map λ(n,k)=>if (k==NameKind.free&&env.scope.kind==.function&&env.kindOf n==some .cell) then (n,NameKind.cell) else (n,k)).lookup x=some .cell)
 | [],h=>by cases h | (n,k')::r,h=>by
  have ih:=@kE env x k r;show List.lookup x ((if (k'==NameKind.free&&env.scope.kind==.function&&env.kindOf n==some .cell)=true then (n,NameKind.cell) else (n,k'))::_)=_\/(_/\List.lookup x ((if (k'==NameKind.free&&env.scope.kind==.function&&env.kindOf n==some .cell)=true then (n,NameKind.cell) else (n,k'))::_)=_);cases hx:x==n with
  | true=>
   simp only[_V,hx]at h;cases h;by_cases hc:(k==NameKind.free&&env.scope.kind==.function&&env.kindOf n==some .cell)=true
   ·rw[_l hc];simp only[_ac,_bI]at hc;exact .inr ⟨hc.1.1,by simp[_V,hx]⟩
   ·rw[_p hc];exact .inl (by simp[_V,hx]) | false=>
   simp only[_V,hx]at h;by_cases hc:(k'==NameKind.free&&env.scope.kind==.function&&env.kindOf n==some .cell)=true;·rw[_l hc];simp only[_V,hx];exact ih h
   ·rw[_p hc];simp only[_V,hx];exact ih h
theorem qc{env:Env}{x:Str}{k:NameKind}:∀{names:List (Str×NameKind)}, (names.map λ(n,k)=>if (k==NameKind.free&&env.scope.kind==.function&&env.kindOf n==some .cell) then (n,NameKind.cell) else (n,k)).lookup x=some k->(k=.cell\/k=.free)->(x,NameKind.cell)∈names\/(x,NameKind.free)∈names
 | [],h,_=>by cases h | (n,k')::r,h,hk=>by
  change List.lookup x ((if (k'==NameKind.free&&env.scope.kind==.function&&env.kindOf n==some .cell)=true then (n,NameKind.cell) else (n,k'))::_)=_ at h;have step:(List.lookup x (r.map λ(n,k)=>if (k==NameKind.free&&env.scope.kind==.function&&env.kindOf n==some .cell) then (n,NameKind.cell) else (n,k))=some k)->(x,NameKind.cell)∈(n,k')::r\/(x,NameKind.free)∈(n,k')::r:=λq=> ((@qc env x k r) q hk).elim (λz=>.inl (_J _ z)) λz=>.inr (_J _ z);by_cases hc:(k'==NameKind.free&&env.scope.kind==.function&&env.kindOf n==some .cell)=true
  ·rw[_l hc,_V]at h;split at h
   ·rename_i hb;simp only[_ac,_bI]at hc;rw[_bI.mp hb,hc.1.1];exact .inr _X
   ·exact step h
  ·rw[_p hc,_V]at h;split at h
   ·rename_i hb;cases h;rw[_bI.mp hb];rcases hk with rfl | rfl;·exact .inl _X
    ·exact .inr _X
   ·exact step h
noncomputable def inner(mp:List (Option Nat))(O:St):St:=mp.map λo=>match o with | some j=>(O[j]?).getD none | none=>none
noncomputable def z5f(N:List Str)(names:List (Str×NameKind)):List Str->List (Option Nat)->Bool
 | [],[]=>true | _::r,none::mp=>z5f N names r mp | x::r,some j::mp=>N[j]? == some x&&names.lookup x==some .free&&z5f N names r mp | _,_=>false
theorem z5o   : ∀{N':List Str} {mp:List (Option Nat)},z5f N names N' mp=true->mp.length=N'.length
 | [],[],_=>rfl | _::r,none::mp,h=>_aw (· + 1) (z5o (N':=r) (mp:=mp) h) | _::r,some _::mp,h=>_aw (· + 1) (z5o (N':=r) (mp:=mp) (_B.mp h).2) | [],none::_,h=>by cases h | [],some _::_,h=>by cases h | _::_,[],h=>by cases h
theorem z9t   : ∀{N':List Str} {mp:List (Option Nat)} {i j:Nat} {x:Str},z5f N names N' mp=true->N'[i]? = some x->mp[i]? = some (some j)->N[j]? = some x/\names.lookup x=some .free
 | [],_,_,_,_,_,h,_=>by cases h | _::_,[],_,_,_,_,_,h=>by cases h | _::_,none::_,0,_,_,_,_,h=>by cases h | _::_,some _::_,0,_,_,h,h1,h2=>by
  have h:=_B.mp (_B.mp h).1;simp at h1 h2;subst h1 h2;exact⟨_bI.mp h.1,_bI.mp h.2⟩ | _::r,none::mp,i+1,_,_,h,h1,h2=>z9t (N':=r) (mp:=mp) h (by exact h1) (by exact h2) | _::r,some _::mp,i+1,_,_,h,h1,h2=>z9t (N':=r) (mp:=mp) (_B.mp h).2 (by exact h1) (by exact h2)
section
variable {X:Cx}{ac:List (Addr×Obj)}{O:St}{H:Hp}{s s1:Shared}{scope:Scope}{N':List Str}{ex:List Addr}{mp:List (Option Nat)}
theorem zbB{α:Type}  {l1 l2:List (Str×α)}{c:α}(h:(l1++l2).lookup x=some c):l1.lookup x=some c\/(l1.lookup x=none/\l2.lookup x=some c):=by
 rw[_b1]at h;cases e:l1.lookup x with
 | some d=>rw[e]at h;exact .inl h | none=>rw[e]at h;exact .inr ⟨rfl,h⟩
theorem zbF(I:Inv X ac O H s)(bc:scope.kind=.function)(aX:∀y∈scope.names,scope.names.lookup y.1=some y.2) (aY:∀y∈scope.names,y.2=.free->X.env.kindOf y.1=some .cell\/X.env.kindOf y.1=some .free)(bg:z5f X.N scope.names N' mp=true) (eR:∀b∈ex,b<s.heap.objs.size/\H b=none/\b≠X.env.locals/\b∉X.fs/\(b∈X.ex\/X.s₀.heap.objs.size<=b)/\(∀x c,X.env.cells.lookup x=some c->c≠b)) (e1:s1.heap=pushCells (s.heap.push {cls:=.type "dict",data:=.dict #[]}) scope.names)(e2:s1.os=s.os)(e3:s1.gens=s.gens): Inv (zD X N' scope ex s H) [] (inner mp O) H s1:=by
 have keep:∀b o,s.heap.get? b=some o->s1.heap.get? b=some o:=λb o e=>by rw[e1];exact pushCells_keeps _ _ b o (_e _ e)
 have ok:=cellsFrom_ok scope.names (s.heap.push {cls:=.type "dict",data:=.dict #[]}) (s.heap.objs.size+1) [] ⟨λ_ _ hm=>(nomatch hm),List.Pairwise.nil⟩ (by rw[_ay];exact _h _);rw[_ay,<- e1]at ok;have fN:∀x c,(z8h X.env scope.names []).lookup x=some c->X.env.cells.lookup x=some c:=z3I scope.names [] (λx c h=>by cases h);have lP:∀x c,X.env.cells.lookup x=some c->c<s.heap.objs.size:=λx c h=>by obtain⟨v,q⟩:=I.cell x c h;exact q.lt
 have own  := λx c h=>ok.empty x c (_aj h);have cM:∀x c,(zbM X scope s.heap.objs.size).cells.lookup x=some c->((cellsFrom (s.heap.objs.size+1) scope.names []).lookup x=some c/\s1.heap.IsCell c none/\s.heap.objs.size+1<=c)\/(X.env.cells.lookup x=some c):=λx c h=>by
  rcases zbB h with q | ⟨_,q⟩;·exact .inl ⟨q,own x c q⟩
  ·exact .inr (fN x c q)
 refine⟨⟨I.ok.mod,bc,I.ok.glob,I.ok.blt,_h _,λx y c h1 h2=>?_,λx hx=>?_,λx c hf h=>?_,I.ok.hd,I.ok.frames,.inl rfl,λb hb=>⟨_H (eR b hb).1,λx c h=>?_⟩,λb o e=>I.bs b o e,_S I.ok.bsz I.sz,λb o e hb=>?_,λb hb hf=>?_,I.stack,I.stkFree⟩, e2,by rw[e3];exact I.bare,Un.kept keep,?_,λx c h=>?_,I.hok.fresh (_h _),λx c h=>?_,λp hp=>absurd (show p∈([]) from hp) (by simp),I.hok.kept keep,?_⟩
 ·rcases cM x c h1 with⟨q1,_,l1⟩ | q1<;>rcases cM y c h2 with⟨q2,_,l2⟩ | q2;·exact name_of_addr ok.apart (_aj q1) (_aj q2)
  ·exact absurd (_q (lP y c q2) (_c5 l1)) (_aB _)
  ·exact absurd (_q (lP x c q1) (_c5 l2)) (_aB _)
  ·exact I.ok.inj x y c q1 q2
 ·have hx':(x,NameKind.cell)∈scope.names\/(x,NameKind.free)∈scope.names:=by
   rcases hx with hx | hx;·exact qc  hx (.inl rfl)
   ·exact qc  hx (.inr rfl)
  show ∃c,(cellsFrom (s.heap.objs.size+1) scope.names []++z8h X.env scope.names []).lookup x=some c;rw[_b1];cases e:(cellsFrom (s.heap.objs.size+1) scope.names []).lookup x with
  | some c=>exact⟨c,rfl⟩ | none=>
   rcases hx' with hx' | hx'
   ·obtain⟨c,q⟩:=z2d   (aX (x,.cell) hx');rw[q]at e;cases e
   ·obtain⟨c,q⟩:=z5j  scope.names [] hx' (I.ok.has x (aY (x,.free) hx' rfl));exact⟨c,by exact q⟩
 ·obtain⟨c',q⟩:=z2d   (_bI.mp hf);have h':(cellsFrom (s.heap.objs.size+1) scope.names []++z8h X.env scope.names []).lookup x=some c:=h;rw[_b1,q]at h';have e  := _E h';subst e;exact _aD (Nat.lt_of_succ_le (own x c' q).2)
 ·rcases cM x c h with⟨_,_,l⟩ | q
  ·intro z;rw[z]at l;exact absurd (_q (eR b hb).1 (_c5 l)) (_aB _)
  ·exact (eR b hb).2.2.2.2.2 x c q
 ·rcases (eR b hb).2.2.2.2.1 with z | z;·exact I.ok.noex b o e z
  ·exact absurd (_q (_q (_u e) I.ok.bsz) z) (_aB _)
 ·rcases _r.mp (I.stkSub b hf) with z | z;·exact (eR b hb).2.2.1 z
  ·exact (eR b hb).2.2.2.1 z
 ·refine⟨λ_=>none,?_,λi x v h1 h2 h3=>?_⟩
  ·rw[e1];exact (Heap.Ns.new s.heap (.type "dict")).keeps (pushCells_keeps _ _)
  ·have bR  := h2;unfold inner at bR;rw[_ae]at bR;cases em:mp[i]? with
   | none=>rw[em]at bR;cases bR | some o=>
    rw[em]at bR;cases o with
    | none=>cases bR | some j=>
     obtain⟨hj,hl⟩:=z9t bg h1 em;have fO  := _aj hl;obtain⟨m,hn,fP⟩:=I.loc;have kx  := aY _ fO rfl;obtain⟨u,r,L⟩:=fP j x v hj (by
      simp only[_a8]at bR;cases eO:O[j]? with
      | none=>rw[eO]at bR;cases bR | some o=>rw[eO]at bR;exact bR) (by rcases kx with k | k;exact .inr (.inl k);exact .inr (.inr k));refine⟨u,r,.inr ?_⟩;rcases L with⟨k,_⟩ | ⟨_,c,hc,bv⟩;·rcases kx with k' | k'<;>(rw[k]at k';cases k')
     ·refine⟨?_,c,?_,bv.keeps keep⟩
      ·rcases kE  hl with q | ⟨_,q⟩;·exact .inr q
       ·exact .inl q
      ·show (cellsFrom (s.heap.objs.size+1) scope.names []++z8h X.env scope.names []).lookup x=some c;rw[_b1];cases e:(cellsFrom (s.heap.objs.size+1) scope.names []).lookup x with
       | some c'=> exact absurd ((qK _ _ _ (_aj e)).resolve_left (by simp)) (λz=>by
       have a:=aX _ z;rw[hl]at a;cases a) | none=>
        obtain⟨c2,q⟩:=z5j  scope.names [] fO ⟨c,hc⟩;have q2:=fN x c2 q;rw[hc]at q2;cases q2;exact q
 ·rcases cM x c h with⟨_,q,_⟩ | q;·exact⟨_,q⟩
  ·obtain⟨v,z⟩:=I.cell x c q;exact⟨v,z.keeps keep⟩
 ·rcases cM x c h with⟨_,_,l⟩ | q;·exact I.hok.fresh (by lia)
  ·exact I.freeC x c q
 ·unfold inner;rw[_z];exact z5o bg
end
section
variable {M:Model}{A:Around}{E:Value->Shared->Prop}{s:Shared}
theorem z9p (h:Q {scope:=scope,locals:=s.heap.objs.size,globals:=env.globals,cells:=cellsFrom (s.heap.objs.size+1) scope.names cl,qual:=env.qual,func:=none,code:=env.code,frame:=env.frame,builtins:=env.builtins} {s with heap:=pushCells (s.heap.push {cls:=.type "dict",data:=.dict #[]}) scope.names}): wpAny M A (newFunctionEnv scope env.globals cl [] env.qual none .none (some env)) Q E s:=by
 refine _a (wpAny_alloc (_a (wpAny_layCells _ (λname kind cells=>by cases hkc:kind==NameKind.cell<;>simp[hkc]) _ _ _ _ ?_)));rw[(_ay ..)];exact _a (_i (_i h))
end
section
variable {prog:Program}{w:World}{A:Around}{E:Value->Shared->Prop}{R:Result->Shared->Prop}{s:Shared}
theorem z72       (I:Nat->Shared->Prop) (turn:∀n s,I n s->wpAny (model prog w) A (pyNext it) (λr s₁=>match r with
   | none=>R (.ok .next) s₁ | some v=>wpAny (model prog w) A (letOwnedTupleGo bK it v) (λ_ dF=>wpAny (model prog w) A (assign bK env v) (λ_ s₂=> wpAny (model prog w) A (forIn aW true λc r=>if r=true then do let ok <- isTrue c env (eval c env);pure (ForInStep.yield ok) else pure (ForInStep.yield r)) (λok s₃=> if ok=true then wpAny (model prog w) A (eval aC env) (λx s₄=> wpAny (model prog w) A (call (.builtin "list.append") [af,x]) (λ_ s₅=>∃m,m<n/\I m s₅) (λ_ _=>False) s₄) (λ_ _=>False) s₃ else ∃m,m<n/\I m s₃) (λ_ _=>False) s₂) (λ_ _=>False) dF) (λ_ _=>False) s₁) (λ_ _=>False) s) (n:Nat)(h:I n s): codeAny (model prog w) A (.compLoop (.ListComp aC [⟨bK,ao,aW,0⟩] scope pos) 0 it af env) R s:=by
 refine codeAny_loop rfl I (λn s hI=>(wpAny_noted ?_)) n h;refine _a (_a1 (_a (_F (turn n s hI) (λr s₁ h₁=>?_) λ_ _ h'=>h'.elim)));cases r with
 | none=>exact _i h₁ | some v=>
  refine _a (_F h₁ (λ_ dF fQ=>(_a (_F fQ (λ_ s₂ h₂=>_a (_F h₂ (λok s₃ h₃=>?_) λ_ _ h'=>h'.elim)) λ_ _ h'=>h'.elim))) λ_ _ h'=>h'.elim);cases ok with
  | false=>exact _i ⟨rfl,h₃⟩ | true=> exact _a (_a (_F h₃ (λx s₄ h₄=>_a (_F h₄ (λ_ s₅ h₅=>_i (_i ⟨rfl,h₅⟩)) λ_ _ h'=>h'.elim)) λ_ _ h'=>h'.elim))
end
def z9C(X:Cx)(aW:List Expr)(t:TT):Prop:= ∀(ac:List (Addr×Obj))(s:Shared)(O:St)(H:Hp)(Q:Bool->Hp->Prop),Inv X ac O H s->t O H Q-> wpAny (model X.prog X.w) X.A (forIn aW true λc r=>if r=true then do let ok <- isTrue c X.env (eval c X.env);pure (ForInStep.yield ok) else pure (ForInStep.yield r)) (TP X ac O Q) X.xe s
theorem zgj  : z9C X [] (λ_ H Q=>Q true H):=λ_ _ _ H _ I h=>wpAny_tests_nil ⟨H,I,h⟩
theorem zgz    (h:PT X c t):z9C X [c] t:=λac s O H Q I hq=>wpAny_tests_one (h ac s O H Q I hq)
theorem Inv.track   {O:St}     (I:Inv X ac O H s)(f:z89 X ac H a)(new:uZ X.prog X.w (upd H a o) s.heap a o):Inv X ac O (upd H a o) s:=by
 obtain⟨f0,f1,f2,f3,f4,f5⟩:=f;exact I.step     (ch:=[a]) (λb hb=>by
  have e:b=a:=by simpa using hb
  subst e;exact⟨f3,f1,f4,f5⟩) (λb o _ _ _ e _=>e) (λb o _ _ _ e _=>⟨o.slots,e⟩) (λb o hb _ n=>by rw[zq (λz=>hb (by simp[z]))];exact n) (λb o _ e=>⟨o,e⟩) (λb xs q=>by rw[zq (xh q f0)];exact q) (λb u xs q=>by rw[zq (xh q f0)];exact q) (λb ps q=>⟨#[],by rw[zq (xh q f0),q];rfl⟩) (λ_ q=>q) (λb u e=>by
  by_cases hb:b=a;·subst hb;rw[zP]at e;cases e;exact new
  ·rw[zq hb]at e;exact (I.hok b u e).stay (λ_ _ _ q=>q) (λc q=>by rw[zq (xh q f0)];exact q) λc xs q=>by rw[zq (xh q f0)];exact q) I.bare
def zgy(wi:TI)(mp:List (Option Nat))(g:TG)(ti:TT)(te:TE):TE:=λO H Q=>wi O H λJ H1=>∃W:Nat->Nat->List V->Hp->Prop,(∃m,W 0 m [] H1)/\∀i m ys H,W i m ys H-> (J.stop i H/\ys.length<=sizeLine/\∀p,H p=none->Q (.ref p) (upd H p (.lst ys)))\/ (J.go i H/\∀x H',J.yld i H x H'->g x (inner mp O) H' λO2 H2=>(O2.length=(inner mp O).length/\∀(i:Nat) v,(inner mp O)[i]? = some (some v)->O2[i]? = some (some v))/\ ti O2 H2 λb H3=>if b=true then te O2 H3 λy H4=>ys.length<=sizeLine/\∃m',m'<m/\W (i+1) m' (ys++[y]) H4 else ∃m',m'<m/\W (i+1) m' ys H3)
def z0j(X:Cx)(ac:List (Addr×Obj))(O:St)(C:Addr)(Q:VK)(af:Value)(s':Shared):Prop:= ∃v Hf,Inv X ac O Hf s'/\xr v af/\Q v Hf/\(∃m,s'.heap.Ns C m)/\z89 X ac Hf C
theorem z9T{gens:List Comprehension}{O:St} {RR:Value->Addr->Result->Shared->Prop} (bc:scope.kind=.function)(aX:∀y∈scope.names,scope.names.lookup y.1=some y.2) (aY:∀y∈scope.names,y.2=.free->X.env.kindOf y.1=some .cell\/X.env.kindOf y.1=some .free)(bg:z5f X.N scope.names N' mp=true) (I2:Inv X ac O H2 s₂)(T:zfq X.prog X.w X.K tg J fp it tn)(av:tn 0 s₂.heap)(f2:∀b∈fp,z89 X ac H2 b) (go:∀(af:Addr)(s₃ s₄:Shared),Inv X ac O H2 s₃->H2 af=none->z89 X ac H2 af->(∀b∈fp,b<af)->af≠s₃.heap.objs.size-> Inv (zD X N' scope (af::fp) s₃ H2) [] (inner mp O) H2 s₄->s₄.heap.get? af=some (LCg.lst [])->tn 0 s₄.heap-> (∀{H':Hp}{o:Obj},(∀b∈fp,H' b=none)->∀b∈fp,z89 (zD X N' scope (af::fp) s₃ H2) [(af,o)] H' b)-> (∀{P:List (Addr×Obj)}{O':St}{H':Hp}{s':Shared}{ah:List Value},Inv (zD X N' scope (af::fp) s₃ H2) P O' H' s'->H' af=none->s'.heap.get? af=some (LCg.lst ah)->Inv (zD X N' scope (af::fp) s₃ H2) ([(af,LCg.lst ah)]++P) O' H' s')-> codeAny (model X.prog X.w) X.A (.compLoop (.ListComp aC (⟨tg,ao,aW,0⟩::gens) scope pos) 0 (.ref it) (.ref af) (zbM X scope s₃.heap.objs.size)) (RR (.ref af) s₃.heap.objs.size) s₄): wpAny (model X.prog X.w) X.A (newList []) (λaf s₃=>wpAny (model X.prog X.w) X.A (newFunctionEnv scope X.env.globals (z8h X.env scope.names []) [] X.env.qual none .none (some X.env)) (λbS s₄=> codeAny (model X.prog X.w) X.A (.compStart (.ListComp aC (⟨tg,ao,aW,0⟩::gens) scope pos) 0 (.ref it) af {bS with scope:=relabel scope X.env}) (RR af bS.locals) s₄) E s₃) E s₂:=by
 refine _bn ?_;have dc  := I2.hok.fresh (_h _);have fA  := I2.fpOk (_h _) dc;generalize bY:s₂.heap.objs.size=af at dc fA ⊢;have I3:Inv X ac O H2 {s₂ with heap:=s₂.heap.push {cls:=.type "list",data:=.seq ([]:List Value).toArray}}:=I2.kept  λb o e=>_e _ e;have bX:(s₂.heap.push {cls:=.type "list",data:=.seq ([]:List Value).toArray}).get? af=some (LCg.lst []):=by rw[<- bY];exact _x _ rfl
 have nG:(s₂.heap.push {cls:=.type "list",data:=.seq ([]:List Value).toArray}).objs.size=af+1:=by rw[_ay,bY]
 have nH:∀b o,s₂.heap.get? b=some o->(s₂.heap.push {cls:=.type "list",data:=.seq ([]:List Value).toArray}).get? b=some o:=λb o e=>_e _ e;generalize hs3:({s₂ with heap:=s₂.heap.push {cls:=.type "list",data:=.seq ([]:List Value).toArray}}:Shared)=s₃ at I3 ⊢;have iN:s₃.heap.get? af=some (LCg.lst []):=by rw[<- hs3];exact bX
 have dj:s₃.heap.objs.size=af+1:=by rw[<- hs3];exact nG
 have iO:∀b o,s₂.heap.get? b=some o->s₃.heap.get? b=some o:=by rw[<- hs3];exact nH
 have flt:∀b∈fp,b<af:=λb hb=>by
  obtain⟨o,e,_⟩:=T.obj 0 _ av b hb;rw[<- bY];exact _u e
 have dG  := λb hb=>_H (flt b hb);have nI  := T.keep 0 _ _ av λb hb o e=>iO b o e;refine z9p ?_;rw[vZ];have I4:=zbF    (s1:={s₃ with heap:=pushCells (s₃.heap.push {cls:=.type "dict",data:=.dict #[]}) scope.names}) I3 bc aX aY bg (λb hb=>by
  rcases _r.mp hb with z | hb
  ·subst z;exact⟨by rw[dj];exact _cu _,dc,fA.2.1,fA.2.2.1,fA.2.2.2.1,fA.2.2.2.2.1⟩
  ·have q:=f2 b hb;exact⟨by rw[dj];exact _bp (flt b hb),q.1,q.2.1,q.2.2.1,q.2.2.2.1,q.2.2.2.2.1⟩) rfl rfl rfl;have lQ:∀b o,s₃.heap.get? b=some o->(pushCells (s₃.heap.push {cls:=.type "dict",data:=.dict #[]}) scope.names).get? b=some o:=λb o e=>pushCells_keeps _ _ b o (_e _ e);generalize hs4:({s₃ with heap:=pushCells (s₃.heap.push {cls:=.type "dict",data:=.dict #[]}) scope.names}:Shared)=s₄ at I4 ⊢;have fR:s₄.heap.get? af=some (LCg.lst []):=by rw[<- hs4];exact lQ _ _ iN
 have eS:tn 0 s₄.heap:=T.keep 0 _ _ nI λb hb o e=>by rw[<- hs4];exact lQ b o e
 have dH:af≠s₃.heap.objs.size:=by rw[dj];exact _H (_cu _)
 have bT  := λb hb=>(I4.ok.exf b hb).2;have bp:∀{H':Hp}{o:Obj},(∀b∈fp,H' b=none)->∀b∈fp,z89 (zD X N' scope (af::fp) s₃ H2) [(af,o)] H' b:=λ{H' o} hn b hb=> ⟨hn b hb,_H (by show b<s₃.heap.objs.size;rw[dj];exact _bp (flt b hb)),λhf=>I4.ok.exfs b (_J _ hb) hf,.inl (_J _ hb),bT b (_J _ hb),λp hp=>by
   have e:p=(af,o):=by simpa[zD] using hp
   rw[e];exact _a6 (dG b hb)⟩;have iP:∀(ah:List Value)(v:Option Value),(LCg.lst ah).data≠.cell v:=λah v z=>by
  have z'  := z;cases z'
 have cB:∀{P:List (Addr×Obj)}{O':St}{H':Hp}{s':Shared}{ah:List Value},Inv (zD X N' scope (af::fp) s₃ H2) P O' H' s'->H' af=none->s'.heap.get? af=some (LCg.lst ah)->Inv (zD X N' scope (af::fp) s₃ H2) ([(af,LCg.lst ah)]++P) O' H' s':=λ{P O' H' s' ah} J' n' e'=> J'.pins_of λp hp=>by
   rcases _D.mp hp with hp | hp
   ·have e:p=(af,LCg.lst ah):=by simpa using hp
    subst e;exact⟨e',n',dH,λhf=>I4.ok.exfs af _X hf,iP ah⟩
   ·exact J'.pin p (_w _ hp)
 have loop:=go af s₃ s₄ I3 dc fA flt dH I4 fR eS bp cB;exact codeAny_compStart_list loop (T.self _ 0 _ _ _ eS loop)
theorem z1e            {O:St} {RR:Value->Addr->Result->Shared->Prop} (hc:X.calm=true)(hg:∀ex s H,PG (zD X N' scope ex s H) tg g)(ht:∀ex s H,z9C (zD X N' scope ex s H) aW ti)(he:∀ex s H,PE (zD X N' scope ex s H) aC te) (bc:scope.kind=.function)(aX:∀y∈scope.names,scope.names.lookup y.1=some y.2) (aY:∀y∈scope.names,y.2=.free->X.env.kindOf y.1=some .cell\/X.env.kindOf y.1=some .free)(bg:z5f X.N scope.names N' mp=true) (I2:Inv X ac O H2 s₂)(T:zfq X.prog X.w X.K tg J fp it tn)(av:tn 0 s₂.heap)(f2:∀b∈fp,z89 X ac H2 b) (W:Nat->Nat->List V->Hp->Prop)(w0:∃m,W 0 m [] H2) (turn:∀i m ys H,W i m ys H-> (J.stop i H/\ys.length<=sizeLine/\∀p,H p=none->Q (.ref p) (upd H p (.lst ys)))\/ (J.go i H/\∀x H',J.yld i H x H'->g x (inner mp O) H' λO2 H2=>(O2.length=(inner mp O).length/\∀(i:Nat) v,(inner mp O)[i]? = some (some v)->O2[i]? = some (some v))/\ ti O2 H2 λb H3=>if b=true then te O2 H3 λy H4=>ys.length<=sizeLine/\∃m',m'<m/\W (i+1) m' (ys++[y]) H4 else ∃m',m'<m/\W (i+1) m' ys H3)) (iQ:∀af C s',z0j X ac O C Q af s'->RR af C (.ok .next) s'): wpAny (model X.prog X.w) X.A (newList []) (λaf s₃=>wpAny (model X.prog X.w) X.A (newFunctionEnv scope X.env.globals (z8h X.env scope.names []) [] X.env.qual none .none (some X.env)) (λbS s₄=> codeAny (model X.prog X.w) X.A (.compStart (.ListComp aC [⟨tg,ao,aW,0⟩] scope pos) 0 (.ref it) af {bS with scope:=relabel scope X.env}) (RR af bS.locals) s₄) E s₃) E s₂:=by
 refine z9T bc aX aY bg I2 T av f2 λaf s₃ s₄ I3 dc fA flt dH I4 fR eS bp fS=>?_;have dG  := λb hb=>_H (flt b hb);have bT  := λb hb=>(I4.ok.exf b hb).2;have cB:∀{O':St}{H':Hp}{s':Shared}{ah:List Value},Inv (zD X N' scope (af::fp) s₃ H2) [] O' H' s'->H' af=none->s'.heap.get? af=some (LCg.lst ah)->Inv (zD X N' scope (af::fp) s₃ H2) [(af,LCg.lst ah)] O' H' s':=fS;obtain⟨m0,w0⟩:=w0;have loop:codeAny (model X.prog X.w) X.A (.compLoop (.ListComp aC [⟨tg,ao,aW,0⟩] scope pos) 0 (.ref it) (.ref af) (zbM X scope s₃.heap.objs.size)) (RR (.ref af) s₃.heap.objs.size) s₄:=by
  refine z72 (λn s'=>∃i ys ah H',Inv (zD X N' scope (af::fp) s₃ H2) [] (inner mp O) H' s'/\tn i s'.heap/\(∀b∈fp,H' b=none)/\H' af=none/\s'.heap.get? af=some (LCg.lst ah)/\xF ys ah/\W i n ys H') ?_ m0 ⟨0,[],[],H2,I4,eS,λb hb=>(f2 b hb).1,dc,fR,.nil,w0⟩;rintro n s5 ⟨i,ys,ah,H5,I5,fT,n5,d9,iR,ec,w5⟩;have fU:=cB I5 d9 iR;rcases turn i n ys H5 w5 with⟨stop,hz,q⟩ | ⟨go,step⟩
  ·refine _F (T.done (zD X N' scope (af::fp) s₃ H2) rfl rfl rfl hc i _ s5 _ H5 (λ_ _=>False) fU (bp n5) fT stop) (λr s6 ⟨hr,I6⟩=>?_) λ_ _ z=>z;subst hr;have iS:=(I6.pin (af,LCg.lst ah) (by simp)).1;have un  := I6.base;have I7  := I3.call'  (I6.os) un I6.hok I6.bare λb hb=>by
    rcases _r.mp hb with z | hb;·subst z;exact⟨fA.2.2.2.1,fA.2.1,fA.2.2.2.2.1,fA.2.2.2.2.2⟩
    ·exact⟨(f2 b hb).2.2.2.1,(f2 b hb).2.1,(f2 b hb).2.2.2.2.1,(f2 b hb).2.2.2.2.2⟩
   have C7  := I3.fpOk (_h _) I6.free;refine iQ _ _ s6 ⟨.ref af,upd H5 af (.lst ys),I7.track ⟨d9,fA.2⟩ ?_,rfl,q af d9,?_,?_,C7.2⟩;·exact⟨hz,ah,_,ec,iS⟩
   ·obtain⟨m,hm,_⟩:=I6.loc;exact⟨m,hm⟩
   ·rw[zq (_a6 dH)];exact I6.free
  ·refine _F (T.item (zD X N' scope (af::fp) s₃ H2) rfl rfl rfl hc i _ s5 _ H5 (λ_ _=>False) fU (bp n5) fT go) (λr s6 ⟨u,hr,h6⟩=>?_) λ_ _ z=>z;subst hr;refine _F h6 (λ_ s7 ⟨x,H7,I7,r7,y7,ed,n7⟩=>?_) λ_ _ z=>z;have hZ:=I7.pinned (bp n7) (T.obj _ _ ed);refine _F (hg _ _ _ _ s7 (inner mp O) H7 x u _ hZ r7 (step x H7 y7)) (λ_ s8 ⟨O8,H8,I8,⟨kl,kv⟩,q8⟩=>?_) λ_ _ z=>z;refine _F (ht _ _ _ _ s8 O8 H8 _ I8 q8) (λb s9 ⟨H9,I9,q9⟩=>?_) λ_ _ z=>z;have fV:∀{O':St}{H':Hp}{s':Shared},Inv (zD X N' scope (af::fp) s₃ H2) ([(af,LCg.lst ah)]++z52 fp s7.heap) O' H' s'->(∀b∈fp,H' b=none)/\H' af=none/\s'.heap.get? af=some (LCg.lst ah)/\tn (i+1) s'.heap/\∀b∈fp,∀o,s7.heap.get? b=some o->s'.heap.get? b=some o:=λ{O' H' s'} J'=>by
    have z:=J'.pin (af,LCg.lst ah) (by simp[zD]);have zz:∀b∈fp,∀o,s7.heap.get? b=some o->s'.heap.get? b=some o/\H' b=none:=λb hb o e=>by
     have y:=J'.pin (b,o) (_w _ (_w _ (qu hb e)));exact⟨y.1,y.2.1⟩
    refine⟨λb hb=>?_,z.2.1,z.1,T.keep _ _ _ ed λb hb o e=>(zz b hb o e).1,λb hb o e=>(zz b hb o e).1⟩;obtain⟨o,e,_⟩:=T.obj _ _ ed b hb;exact (zz b hb o e).2
   cases b with
   | false=>
    rw[_p (by decide)]at q9 ⊢;obtain⟨m',lt,w9⟩:=q9;obtain⟨z1,z2,z3,z4,_⟩:=fV I9;exact⟨m',lt,i+1,ys,ah,H9,(I9.pins_of  (λp hp=>absurd hp (by simp))).weak kl.symm kv,z4,z1,z2,z3,ec,w9⟩ | true=>
    rw[_l rfl]at q9 ⊢;refine _F (he _ _ _ _ s9 O8 H9 _ I9 q9) (λyv iT ⟨y,iU,fW,nJ,hz,m',lt,nK⟩=>?_) λ_ _ z=>z;obtain⟨z1,z2,z3,z4,_⟩:=fV fW;have zl:ah.toArray.size<=sizeLine:=by rw[_t,<- ec.length];exact hz
    refine append_at  z3 λlR sb ee=>?_;have iV:=(fW.pins_of (pins':=[]) (λp hp=>absurd hp (by simp))).weak kl.symm kv;have iW  := iV.turned (t':=iT.toks) (λb o hb e=>(sb.2 b hb).trans e) z2 dH (.inl _X) (bT af _X) (λp hp=>absurd hp (by simp[zD]));exact⟨m',lt,i+1,ys++[y],ah++[yv],iU,iW,T.keep _ _ _ z4 (λb hb o e=>(sb.2 b (dG b hb)).trans e),z1,z2,ee.trans (_aw some (LCg.lst_snoc ah yv)),ec.append (.cons nJ .nil),nK⟩
 exact loop
section
variable {X:Cx}{tg ao aC:Expr}{aW:List Expr}{scope:Scope}{pos aR py:Pos}{wi:TI}{g:TG}{ti:TT}{te:TE}{N':List Str}{mp:List (Option Nat)}
theorem qT  {O:St}     (I:Inv X ac O H s)(f:z89 X ac H C)(sb:Heap.SameBut C s.heap h'):Inv X ac O H {s with heap:=h'}:= I.turned  (λb o hb e=>(sb.2 b hb).trans e) f.1 f.2.1 f.2.2.2.1 f.2.2.2.2.1 f.2.2.2.2.2
theorem ziH(N':List Str)(mp:List (Option Nat))(hc:X.calm=true)(hi:PI X tg ao wi)(hg:∀ex s H,PG (zD X N' scope ex s H) tg g)(ht:∀ex s H,z9C (zD X N' scope ex s H) aW ti)(he:∀ex s H,PE (zD X N' scope ex s H) aC te) (bc:scope.kind=.function)(aX:∀y∈scope.names,scope.names.lookup y.1=some y.2) (aY:∀y∈scope.names,y.2=.free->X.env.kindOf y.1=some .cell\/X.env.kindOf y.1=some .free)(bg:z5f X.N scope.names N' mp=true) (hs:autoParam (∀x,foldedSetIterable ao X.env x=pure x) aIr):PE X (.ListComp aC [⟨tg,ao,aW,0⟩] scope pos) (zgy wi mp g ti te):=by
 refine λac s O H Q I h=>_br  rfl hs (uh λy hy hf=>I.ok.has _ (aY y hy hf)) bc (λy hy hl=>by rw[aX y hy,hl]) (thn (hi ac s O H _ I h) λxv s₁ h₁=>thn h₁ λeN s₂ h₂=>?_);obtain⟨it,fp,tn,J,H2,e,I2,T,av,f2,W,w0,turn⟩:=h₂;subst e;refine z1e       hc hg ht he bc aX aY bg I2 T av f2 W w0 turn ?_;rintro af C s' ⟨v,Hf,I3,r,q,⟨m,hm⟩,f⟩;exact⟨m,hm,λh' sb=>⟨v,Hf,qT I3 f sb,r,q⟩⟩
theorem zbt   (N':List Str)(mp:List (Option Nat))(hN:X.N.Nodup)(hy:X.N[i]? = some y)(bZ:Loc X.env.scope y) (hc:X.calm=true)(hi:PI X tg ao wi)(hg:∀ex s H,PG (zD X N' scope ex s H) tg g)(ht:∀ex s H,z9C (zD X N' scope ex s H) aW ti)(he:∀ex s H,PE (zD X N' scope ex s H) aC te) (bc:scope.kind=.function)(aX:∀y∈scope.names,scope.names.lookup y.1=some y.2) (aY:∀y∈scope.names,y.2=.free->X.env.kindOf y.1=some .cell\/X.env.kindOf y.1=some .free)(bg:z5f X.N scope.names N' mp=true) (hs:autoParam (∀x,foldedSetIterable ao X.env x=pure x) aIr) (ce:autoParam (swapsWith (.ListComp aC [⟨tg,ao,aW,0⟩] scope pos) (some (.Name y py)) aR.line X.env=pure true) aRf) (hf:autoParam (X.fn y=true\/X.env.scope.names.lookup y=some .local) aLr): PS X (.Assign [.Name y py] (.ListComp aC [⟨tg,ao,aW,0⟩] scope pos) aR) (znb (zgy wi mp g ti te) (z24 i)):=by
 intro ac s O H D I h;rw[_co _ _ _ _ ce];refine _a (_a1 (_a (_a (_F (_br   rfl hs (uh λy hy hf=>I.ok.has _ (aY y hy hf)) bc (λy hy hl=>by rw[aX y hy,hl]) (thn (hi ac s O H _ I h) λxv s₁ h₁=>thn h₁ λeN s₂ h₂=>?_)) (λ_ s' hq=>_i (_i hq)) λ_ _ e=>e))));obtain⟨it,fp,tn,J,H2,e,I2,T,av,f2,W,w0,turn⟩:=h₂;subst e;refine z1e     (Q:=λv H'=>D.nx (O.set i (some v)) H')  hc hg ht he bc aX aY bg I2 T av f2 W w0 turn ?_;rintro af C s' ⟨v,Hf,I3,r,q,⟨m,hm⟩,f⟩;exact _b7 (z0W I3 hN hy bZ r (λdC I4 ⟨a,sb,ha⟩=>⟨m,hm.sameBut sb (by
  rcases ha with z | z;·rw[z];exact f.2.1
  ·exact _a6 (f.2.2.2.2.1 y a z)),λh' fX=>⟨_,Hf,qT I4 f fX,q⟩⟩) hf)
end
section
variable {κ:Type} [DecidableEq κ]
noncomputable def z16(ae:List (κ×V))(k:κ):Option V:=(ae.find? λkv=>decide (kv.1=k)).map (·.2)
noncomputable def zjD(ae:List (κ×V))(k:κ)(v:V):List (κ×V):= if (ae.any λkv=>decide (kv.1=k))=true then ae.map (λkv=>if kv.1=k then (kv.1,v) else kv) else ae++[(k,v)]
theorem zfv  : z16 ([]:List (κ×V)) k=none:=rfl
theorem vn   {k:κ}(e:p.1=k):z16 (p::r) k=some p.2:=by simp[z16,e]
theorem wM   {k:κ}(e:¬ p.1=k):z16 (p::r) k=z16 r k:=by simp[z16,e]
theorem z9K(k:κ):∀ae:List (κ×V),(ae.any λkv=>decide (kv.1=k))=(z16 ae k).isSome
 | []=>rfl | p::r=>by
  rw[_bW];by_cases e:p.1=k;·simp only[vn e,_al e,Bool.true_or,Option.isSome_some]
  ·rw[wM e,_R e];exact z9K k r
theorem z7A(k j:κ)(y:V):∀ae:List (κ×V),z16 ae k=none->z16 (ae++[(k,y)]) j=if j=k then some y else z16 ae j
 | [],_=>by
  by_cases e:k=j;·rw[_l e.symm];exact vn  e
  ·rw[_p (λz=>e z.symm)];exact wM  e | p::r,hn=>by
  rw[_aQ];have hk:¬ p.1=k:=λz=>by rw[vn z]at hn;cases hn
  rw[wM hk]at hn;by_cases e:p.1=j;·rw[vn e,vn e,_p (λz=>hk (e.trans z))]
  ·rw[wM e,wM e,(z7A k j y r hn)]
theorem z9o(ae:List (κ×V))(k:κ)(v:V):(zjD ae k v).length<=ae.length+1:=by
 unfold zjD;split;·rw[_z];lia
 ·rw[_P,_n,_I];lia
theorem zfb  {k:κ}(v:V)(h:z16 ae k=none):zjD ae k v=ae++[(k,v)]:=by
 unfold zjD;rw[z9K,h];exact _p (by decide)
theorem zjP.getD     (r:zjP o u)(rd:xr d d'):xr (o.getD d) (u.getD d'):=by cases o with
 | none=>cases u with
  | none=>exact rd | some _=>exact (r).elim
 | some _=>cases u with
  | none=>exact (r).elim | some _=>exact r
theorem KV.val   (r:KV ae vs)(k:κ):zjP (z16 ae k) (valueAt vs k):=by induction r with
 | nil=>exact True.intro | @cons p q ps qs h t ih=>
  obtain⟨h1,h2⟩:=h;by_cases e:p.1=k;·rw[vn e,(show valueAt (q::qs) k=some q.2 from by simp[valueAt,(h1.symm.trans e)])];exact h2
  ·have e':¬ q.1=k:=λz=>e (h1.trans z);rw[wM e,(show valueAt (q::qs) k=valueAt qs k from by simp[valueAt,e'])];exact ih
theorem KV.any   (r:KV ae vs)(k:κ):(ae.any λkv=>decide (kv.1=k))=vs.any λkv=>decide (kv.1=k):=by induction r with
 | nil=>rfl | cons h t ih=>rw[_bW,_bW,ih,h.1]
theorem KV.repl   (r:KV ae vs)(k:κ)   (ry:xr y u): KV (ae.map λkv=>if kv.1=k then (kv.1,y) else kv) (vs.map λkv=>if kv.1=k then (kv.1,u) else kv):=by induction r with
 | nil=>exact .nil | @cons p q ps qs h t ih=>
  rw[_A,_A];refine .cons ?_ ih;obtain⟨h1,h2⟩:=h;by_cases e:p.1=k;·rw[_l e,_l (h1.symm.trans e)];exact⟨h1,ry⟩
  ·rw[_p e,_p (λz=>e (h1.trans z))];exact⟨h1,h2⟩
theorem KV.put   (r:KV ae vs)(k:κ)   (ry:xr y u):KV (zjD ae k y) (stored vs k u):=by
 unfold zjD stored;rw[r.any k];by_cases e:(vs.any λkv=>decide (kv.1=k))=true;·rw[_l e,_l e];exact r.repl k ry
 ·rw[_p e,_p e];exact Paired.snoc r ⟨rfl,ry⟩
theorem KV.length  {vs:List (κ×Value)}(r:KV ae vs):ae.length=vs.length:=Paired.length r
end
theorem zjN     (r:xr (kV k) u):(zX P w).is k u=true:=by cases k with
 | inl i=>obtain⟨t,e⟩:=(r);subst e;exact z8n P w i t | inr x=>obtain⟨t,e⟩:=(r);subst e;exact z2X P w x t
theorem z6W   : ∀{ks:List Key}{us:List Value},xF (ks.map kV) us->ItemsAre (zX P w) ks us
 | [],_,r=>by cases r;exact .nil | k::ks,_,r=>by cases r with | cons h t=>exact .cons (zjN h) (z6W t)
abbrev KT(H:Hp):List (List Key×V)->List (List Key×Addr×Value)->Prop:=Paired λp q=>p.1=q.1/\H q.2.1=some (.tup (p.1.map kV))/\xr p.2 q.2.2
theorem KT.val    (r:KT H ae xs)(k:List Key):zjP (z16 ae k) ((atKey xs k).map (·.2)):=by induction r with
 | nil=>exact True.intro | @cons p q ps qs h t ih=>
  obtain⟨h1,_,h2⟩:=h;by_cases e:p.1=k;·rw[vn e,(show atKey (q::qs) k=some q.2 from by simp[atKey,(h1.symm.trans e)])];exact h2
  ·have e':¬ q.1=k:=λz=>e (h1.trans z);rw[wM e,(show atKey (q::qs) k=atKey qs k from by simp[atKey,e'])];exact ih
section
variable {P:Program}{w:World}{H:Hp}{h:Heap}{a:Addr}
theorem zlO  (ok:HOk P w H h)(e:Rd H a u):uZ P w H h a u:=e.ok ok
theorem zjO  (ok:HOk P w H h)(e:Rd H a (.dK ae)):ae.length<=sizeLine/\(a==sysModules)=false/\∃vs,KV ae vs/\h.DictOf (zX P w) a vs:= (zlO ok e)
theorem zoa  (ok:HOk P w H h)(e:H a=some (.dK ae)):ae.length<=sizeLine/\(a==sysModules)=false/\∃vs,KV ae vs/\h.DictOf (zX P w) a vs:=zjO ok (.inl e)
theorem zhm  (ok:HOk P w H h)(e:H a=some (.tup (ks.map kV))):(tupleKind (zX P w)).is h ks a:=by
 obtain⟨_,ah,r,o,h1,h2,_,n,h3⟩:=((ok a _ e));exact⟨o,ah.toArray,n,h1,h2,h3,by exact z6W r⟩
theorem zm4  (ok:HOk P w H h)(e:Rd H a (.dT ae)):ae.length<=sizeLine/\(a==sysModules)=false/\ ∃xs,KT H ae xs/\h.DictOfH (tupleKind (zX P w)) a xs:=by
 obtain⟨z,y,xs,r,o,es,ep,h1,h2,h3,h4,h5⟩:=((zlO ok e));exact⟨z,y,xs,r,o,es,ep,h1,h2,h3,h4,λx hx=>((show ∀{l:List (List Key×V)}{m:List (List Key×Addr×Value)},KT H l m->∀x∈m,(tupleKind (zX P w)).is h x.1 x.2.1 from by
  intro l m q;induction q with
  | nil=>intro x hx;exact nomatch hx | @cons p q ps qs hq t ih=>
   intro x hx;rcases _r.mp hx with e | hx
   ·subst e;exact zhm ok (by rw[<- hq.1];exact hq.2.1)
   ·exact ih x hx) r x hx),h5⟩
end
def zpb(H:Hp)(a:Addr)(y:V)(r:Option V):Prop:= (∃ae k,Rd H a (.dK ae)/\y=kV k/\r=z16 ae k)\/∃ae k b,Rd H a (.dT ae)/\y=.ref b/\H b=some (.tup (k.map kV))/\r=z16 ae k
section
variable {X:Cx}{ac:List (Addr×Obj)}{O:St}{H:Hp}{s:Shared}{a:Addr}{y v:V}{u r:Value}{o:Option V}{A:Around}{E:Value->Shared->Prop}
theorem Inv.big(I:Inv X ac O H s):sysModules<s.heap.objs.size:=Nat.lt_trans (by decide) ((I.mod.glob.keeps I.bk).lt)
theorem zhY    (I:Inv X ac O H s) (mu:Mut (H a)) (hs:Heap.SameBut a s.heap h') (he:∃q,h'.get? a=some q) (new:uZ X.prog X.w (upd H a ob) h' a ob): Inv X ac O (upd H a ob) {s with heap:=h',toks:=t'}:= I.write   mu (.inl rfl) (λb q hb z=>(hs.2 b hb).trans z) he new
theorem zkn       (z:ae.length<=sizeLine)(hd:(a==sysModules)=false)(rel:KV ae vs)(dd:h'.DictOf (zX P w) a vs): uZ P w H' h' a (.dK ae):=⟨z,hd,vs,rel,dd⟩
end
theorem zfK    (h:Heap)(hb:sysModules<h.objs.size):uZ P w H (h.push {cls:=.type "dict",data:=.dict #[]}) h.objs.size (.dT []):= ⟨_az _,beq_eq_false_iff_ne.mpr (_a6 (_H hb)),[],.nil,_,#[],0,_x _ rfl,⟨rfl,rfl,rfl⟩,rfl,rfl,List.nodup_nil⟩
def zl2:TE:=λ_ H Q=>∀p,H p=none->Q (.ref p) (upd H p (.dT []))
section
variable {X:Cx}{pos:Pos}
theorem zgo:PE X (.Dict [] [] pos) zl2:=λac s O H Q I h=> wpAny_Dict_empty ⟨.ref s.heap.objs.size,_,I.laid    (λ_ _ q=>_e _ q) (_h _) (zfK s.heap I.big),rfl,h _ (I.hok.fresh (_h _))⟩
end
structure M2(X:Cx)(o:Expr)(m:Str)(aV:Pos)(e f:Expr)(aJ:Pos):Prop where
 base:attributeBase o m X.env (eval o X.env)=eval o X.env
 few:((backTo aJ (starEach [e,f] X.env)).all (λx=>!x.1)&&(backToKw aJ (keywordEach [] X.env)).all (λx=>x.1.isSome) && decide (([e,f]:List Expr).length+([]:List Keyword).length+(if ([]:List Keyword).isEmpty then 0 else 1)<30))=true
 line:(aV.endLine==aJ.line)=true
 trees:backTo aJ (starEach [e,f] X.env)=[(false,eval e X.env),(false,eval f X.env)]
def IsD(H:Hp)(a:Addr):Prop:=(∃ae,Rd H a (.dK ae))\/∃ae,Rd H a (.dT ae)
theorem zlv   {O:St}    (I:Inv X ac O H s)(d:IsD H a): s.TypeIs (.ref a) "dict"/\(∀b,Value.ref a=.ref b->∃ob,s.heap.get? b=some ob/\ob.dict=none)/\(a==sysModules)=false:=by
 rcases d with⟨ae,e⟩ | ⟨ae,e⟩
 ·obtain⟨_,hd,vs,_,dd⟩:=zjO I.hok e;refine⟨dd.typeIs,λb q=>?_,hd⟩;cases q;obtain⟨ob,_,_,h1,h2,_⟩:=dd;exact⟨ob,h1,h2.2.1⟩
 ·obtain⟨_,hd,xs,_,dd⟩:=zm4 I.hok e;refine⟨dd.typeIs,λb q=>?_,hd⟩;cases q;obtain⟨ob,_,_,h1,h2,_⟩:=dd;exact⟨ob,h1,h2.2.1⟩
section
variable {X:Cx}{ac:List (Addr×Obj)}{O:St}{H:Hp}{s:Shared}{a:Addr}{y d:V}{u r:Value}{o:Option V}{A:Around}{E:Value->Shared->Prop}
theorem zkC  (hu:A.units+1<cLine)(I:Inv X ac O H s)(g:zpb H a y o)(ry:xr y u)(rd:xr d r)(h:∀w' s',Inv X ac O H s'->xr (o.getD d) w'->Q w' s'): wpAny (model X.prog X.w) A (call (.builtin "dict.get") [.ref a,u,r]) Q E s:=by
 rcases g with⟨ae,k,e,ey,l⟩ | ⟨ae,k,b,e,ey,eb,l⟩
 ·subst ey;obtain⟨z,hd,vs,rel,dd⟩:=zjO I.hok e;refine call_meetsIn _cp dd.typeIs PySem.F.entry_dict_get (PySem.F.args_dict_get_3 _ _ _) (meets_dict_get_default (zX X.prog X.w) a (zjN ry) hd r) ⟨_,dd.mapOf,h _ _ (I.tok _) ?_⟩;rw[l];exact (rel.val k).getD rd
 ·subst ey;cases (ry);obtain⟨z,hd,xs,rel,dd⟩:=zm4 I.hok e;refine call_meetsIn _cp dd.typeIs PySem.F.entry_dict_get (PySem.F.args_dict_get_3 _ _ _) (meetsH_dict_get_default (tupleKind (zX X.prog X.w)) a b hd r) ⟨tupleKind_room_in1 hu,k,xs,zhm I.hok eb,dd,h _ _ (I.tok _) ?_⟩;rw[l];exact (rel.val k).getD rd
end
def zlP(td ty tx:TE):TE:=λO H Q=>td O H λx H1=>∃a,x=.ref a/\IsD H1 a/\ty O H1 λy H2=>tx O H2 λz H3=>∃o,zpb H3 a y o/\Q (o.getD z) H3
section
variable {X:Cx}{o e f:Expr}{aV aJ:Pos}{td ty tx:TE}
theorem zfi(hu:X.A.units+1<cLine)(ho:PE X o td)(he:PE X e ty)(hf:PE X f tx)(m:M2 X o "get" aV e f aJ):PE X (.Call (.Attribute o "get" aV) [e,f] [] aJ) (zlP td ty tx):=by
 refine λac s O H Q I h=>wpAny_Call_method m.base m.few m.line PySem.F.plainAttrs_dict _cp PySem.F.type_dict_get (thn (ho ac s O H _ I h) λu s1 ⟨x,H1,I1,rx,a,ex,d,q1⟩=>?_);subst ex;obtain rfl:u=Value.ref a:=rx;obtain⟨t1,t2,_⟩:=zlv I1 d;refine⟨t1,t2,?_⟩;rw[m.trees];exact _cc rfl (_cA (_bx (thn (he ac s1 O H1 _ I1 q1) λiv s2 ⟨y,H2,I2,ry,q2⟩=> _bx (thn (hf ac s2 O H2 _ I2 q2) λfv s3 ⟨z,H3,I3,rz,ov,g,q3⟩=>_b8 (zkC hu I3 g ry rz λw' s4 I4 dU=>⟨_,H3,I4,dU,q3⟩)))))
end
end L2
set_option maxHeartbeats 4000000
namespace Dd
open L2
theorem zft(xs:List Expr)(k:Nat)(p:Pos)(es:List Expr)(env:Env):starEach (.Tuple xs k p::es) env=(false,eval (.Tuple xs k p) env)::starEach es env:=rfl
theorem zg3(xs:List Expr)(p:Pos)(es:List Expr)(env:Env):starEach (.List xs p::es) env=(false,eval (.List xs p) env)::starEach es env:=rfl
theorem xP(f:Expr)(xs:List Expr)(ks:List Keyword)(p:Pos)(es:List Expr)(env:Env):starEach (.Call f xs ks p::es) env=(false,eval (.Call f xs ks p) env)::starEach es env:=rfl
theorem z9X(a:Expr)(o:Operator)(b:Expr)(p:Pos)(es:List Expr)(env:Env):starEach (.BinOp a o b p::es) env=(false,eval (.BinOp a o b p) env)::starEach es env:=rfl
theorem z0A(a b:Expr)(p:Pos)(es:List Expr)(env:Env):starEach (.Subscript a b p::es) env=(false,eval (.Subscript a b p) env)::starEach es env:=rfl
theorem zG(a:Expr)(g:List Comprehension)(sc:Scope)(p:Pos)(es:List Expr)(env:Env):starEach (.ListComp a g sc p::es) env=(false,eval (.ListComp a g sc p) env)::starEach es env:=rfl
theorem z55(c:Const)(j:Nat)(p:Pos)(es:List Expr)(env:Env):starEach (.Constant c j p::es) env=(false,eval (.Constant c j p) env)::starEach es env:=rfl
theorem zp(x:Str)(p:Pos)(es:List Expr)(env:Env):starEach (.Name x p::es) env=(false,eval (.Name x p) env)::starEach es env:=rfl
theorem zjb(o:UnaryOp)(a:Expr)(p:Pos)(es:List Expr)(env:Env):starEach (.UnaryOp o a p::es) env=(false,eval (.UnaryOp o a p) env)::starEach es env:=rfl
inductive D where | non | bl (b:Bool) | int (i:Int) | str (x:Str) | tup (xs:List D) | lst (xs:List D) | dct | loc (l:Nat) | dlo (l:Nat) | fn (x:Str) | exc (x:Str) | scr (xs:List D)
abbrev Sto:=List (List D)
abbrev Ev:=List (Option D)
inductive R(α:Type) where | ok (a:α)(s:Sto) | ex (c:Str)(s:Sto) | no
noncomputable def R.bind  (r:R α)(k:α->Sto->R β):R β:=match r with
 | .ok a s=>k a s | .ex c s=>.ex c s | .no=>.no
@[simp] theorem R.bind_ok {α β:Type}(a:α)(s:Sto)(k:α->Sto->R β):(R.ok a s).bind k=k a s:=id rfl
abbrev Rb:=@R.bind_ok
noncomputable def D.flat:D->Bool
 | .tup xs=>flats xs | .lst xs=>flats xs | .scr xs=>flats xs | .loc _=>false | .dlo _=>false | _=>true
where flats:List D->Bool
 | []=>true | x::xs=>x.flat&&flats xs
theorem flN:D.flat.flats []=true:=id rfl
theorem flC:D.flat.flats (x::xs)=(x.flat&&D.flat.flats xs):=id rfl
theorem flT:(D.tup xs).flat=D.flat.flats xs:=id rfl
noncomputable def zpJ(C a:Addr):HO:=.ext λh=>∃o vs,h.get? a=some o/\o.cls=.ref C/\o.data=.fields vs
structure Gm where
 m:Str->Option Value
 K:W.Frag
noncomputable abbrev gm(X:Cx):Gm:=⟨X.mg,X.K⟩
def IsL(H:Hp)(a:Addr):Prop:=∃vs,H a=some (.lst vs)
def IsC(H:Hp)(a:Addr):Prop:=(∃ae,H a=some (.dT ae))\/(∃o ae,H a=some (.frz o (.dT ae)))\/(∃ae,ae≠[]/\H a=some (.dK ae))\/∃o ae,H a=some (.frz o (.dK ae))
def Own(H:Hp)(Y:List Addr)(b:Addr):Prop:=∃a∈Y,∃ae k,H a=some (.dK ae)/\(k,V.ref b)∈ae
theorem IsL.notC   (h:IsL H a)(h':IsC H a):False:=by obtain⟨_,e⟩:=h;rcases h' with⟨_,e'⟩ | ⟨_,_,e'⟩ | ⟨_,_,e'⟩ | ⟨_,_,e'⟩<;>rw[e]at e'<;>cases e'
noncomputable def zq9:Key->D
 | .inl i=>.int i | .inr x=>.str x
noncomputable def zqc:V->Option D
 | .int i=>some (.int i) | .bl b=>some (.bl b) | _=>none
noncomputable def zml:List D->List (List Key×V)->Prop
 | [],ae=>ae=[] | d::ds,ae=>∃k v x r,ae=(k,v)::r/\zqc v=some x/\d=.tup [.tup (k.map zq9),x]/\zml ds r
def KL(K:W.Frag)(a:Addr)(xs:List V):Prop:=∃(o:Obj)(ah:Array Value)(n:Nat),K.lookup a=some o/\o.cls=.type "list"/\o.dict=none/\o.data=.seq ah n/\ah.size<=sizeLine/\xF xs ah.toList
section
variable (mg:Gm)
mutual
noncomputable def Den(H:Hp)(Y:List Addr):D->V->Prop
 | .non,v=>v=.non | .bl b,v=>v=.bl b | .int i,v=>v=.int i | .str x,v=>v=.str x | .tup ds,v=>∃a vs,v=.ref a/\H a=some (.tup vs)/\zU H Y ds vs | .lst ds,v=>∃a o vs,v=.ref a/\H a=some (.frz o (.lst vs))/\zU H Y ds vs | .dct,v=>∃a,v=.ref a/\H a=some (.dK []) | .loc l,v=>∃a,v=.ref a/\Y[l]? = some a/\IsL H a | .dlo l,v=>∃a,v=.ref a/\Y[l]? = some a/\IsC H a | .fn x,v=>∃a,v=.ref a/\mg.m x=some (.ref a) | .exc x,v=>∃a C,v=.ref a/\mg.m x=some (.ref C)/\H a=some (zpJ C a) | .scr ds,v=>∃a vs,v=.ref a/\((∃o,H a=some (.frz o (.lst vs)))\/KL mg.K a vs)/\zU H Y ds vs
noncomputable def zU(H:Hp)(Y:List Addr):List D->List V->Prop
 | [],vs=>vs=[] | d::ds,vs=>∃v r,vs=v::r/\Den H Y d v/\zU H Y ds r
end
noncomputable def jM(H:Hp)(Y:List Addr):List D->List (Key×V)->Prop
 | [],ae=>ae=[] | d::ds,ae=>∃k ys b vs r,ae=(Sum.inl k,V.ref b)::r/\zU mg H Y ys vs/\((d=.tup [.int k,.lst ys]/\H b=some (.lst vs))\/(d=.tup [.int k,.lst ys,.non]/\∃o,H b=some (.frz o (.lst vs))))/\jM H Y ds r
def ziG(ys:List D):Prop:=∀d∈ys,∃k zs,d=.tup [.int k,.lst zs,.non]
def qD(H:Hp)(Y:List Addr)(xs:List D)(a:Addr):Prop:=(∃vs,H a=some (.lst vs)/\zU mg H Y xs vs)\/(∃ae,H a=some (.dT ae)/\zml xs ae)\/(∃o ae ys,H a=some (.frz o (.dT ae))/\xs=.non::ys/\zml ys ae)\/(∃ae,ae≠[]/\H a=some (.dK ae)/\jM mg H Y xs ae)\/∃o ae ys,H a=some (.frz o (.dK ae))/\xs=.non::ys/\jM mg H Y ys ae/\ziG ys/\ae≠[]
structure Rep(H:Hp)(Y:List Addr)(s:Sto):Prop where
 len:Y.length=s.length
 nd:Y.Nodup
 cell:∀(l:Nat)(xs:List D),s[l]? = some xs->∃a,Y[l]? = some a/\qD mg H Y xs a
 flat:∀xs∈s,D.flat.flats xs=true
 own:∀b,Own H Y b->b∉Y
 uq:∀a∈Y,∀a'∈Y,∀ae ap (i j:Nat) k k' b,H a=some (.dK ae)->H a'=some (.dK ap)->ae[i]? = some (k,V.ref b)->ap[j]? = some (k',V.ref b)->a=a'/\i=j
structure xH(H:Hp)(Y:List Addr)(H':Hp)(Y':List Addr)(s':Sto):Prop where
 rep:Rep mg H' Y' s'
 pre:Y <+: Y'
 keep:∀b o,H b=some o->b∉Y->(Own H Y b->∀vs,o≠.lst vs)->H' b=some o
 new:∀a∈Y',a∉Y->H a=none
 mt:∀a∈Y,(IsL H a/\IsL H' a)\/(IsC H a/\IsC H' a/\∀o u,H a=some (.frz o u)->H' a=some (.frz o u))
 dom:∀b,H' b=none->H b=none
 ow:∀b,Own H' Y' b->Own H Y b\/H b=none
end
section
variable {mg:Gm}{H H' H1 H2:Hp}{Y Y' Y1 Y2:List Addr}{s s' s1 s2:Sto}
theorem qD.kind   (h:qD mg H Y xs a):IsL H a\/IsC H a:=h.imp (λ⟨vs,e,_⟩=>⟨vs,e⟩) λh=>h.imp (λ⟨k,e,_⟩=>⟨k,e⟩) λh=>h.imp (λ⟨o,k,_,e,_⟩=>⟨o,k,e⟩) λh=>h.imp (λ⟨k,n,e,_⟩=>⟨k,n,e⟩) λ⟨o,k,_,e,_⟩=>⟨o,k,e⟩
theorem Rep.mt(r:Rep mg H Y s):∀a∈Y,IsL H a\/IsC H a:=λa ha=>by
 obtain⟨l,hl,e⟩:=_v.mp ha;have fC:l<s.length:=by rw[<- r.len];exact hl
 obtain⟨b,e1,c⟩:=r.cell l s[l] (_c fC);rw[_c hl]at e1;rw[<- e,(_E e1)];exact c.kind
theorem Rep.at_(r:Rep mg H Y s){l:Nat}   (h:s[l]? = some xs)(ha:Y[l]? = some a)(k:IsL H a):∃vs,H a=some (.lst vs)/\zU mg H Y xs vs:=by
 obtain⟨b,e1,c⟩:=r.cell l xs h;rw[ha]at e1;cases e1;rcases c with c | c;·exact c
 ·exact (k.notC (c.imp (λ⟨k,e,_⟩=>⟨k,e⟩) λh=>h.imp (λ⟨o,k,_,e,_⟩=>⟨o,k,e⟩) λh=>h.imp (λ⟨k,n,e,_⟩=>⟨k,n,e⟩) λ⟨o,k,_,e,_⟩=>⟨o,k,e⟩)).elim
theorem Rep.dic(r:Rep mg H Y s){l:Nat}   (h:s[l]? = some xs)(ha:Y[l]? = some a)(k:IsC H a):(∃ae,H a=some (.dT ae)/\zml xs ae)\/(∃o ae ys,H a=some (.frz o (.dT ae))/\xs=.non::ys/\zml ys ae)\/(∃ae,ae≠[]/\H a=some (.dK ae)/\jM mg H Y xs ae)\/∃o ae ys,H a=some (.frz o (.dK ae))/\xs=.non::ys/\jM mg H Y ys ae/\ziG ys/\ae≠[]:=by
 obtain⟨b,e1,c⟩:=r.cell l xs h;rw[ha]at e1;cases e1;rcases c with⟨vs,e,_⟩ | c;·exact (IsL.notC ⟨vs,e⟩ k).elim
 ·exact c
theorem xH.refl(r:Rep mg H Y s):xH mg H Y H Y s:=⟨r,_bd _,λ_ _ h _ _=>h,λa h1 h2=>absurd h1 h2,λa ha=>(r.mt a ha).imp (λh=>⟨h,h⟩) λh=>⟨h,h,λ_ _ q=>q⟩,λ_ h=>h,λ_ h=>.inl h⟩
theorem xH.trans(a:xH mg H Y H1 Y1 s1)(b:xH mg H1 Y1 H2 Y2 s2):xH mg H Y H2 Y2 s2:=by
 refine⟨b.rep,a.pre.trans b.pre,λc o h n g=>?_,λc h1 h2=>?_,λc hc=>?_,λc h=>a.dom c (b.dom c h),λc h=>(b.ow c h).elim (a.ow c) λz=>.inr (a.dom c z)⟩
 ·refine b.keep c o (a.keep c o h n g) (λz=>?_) λz=>?_;·rw[a.new c z n]at h;cases h
  ·rcases a.ow c z with z | z;·exact g z
   ·rw[z]at h;cases h
 ·by_cases h3:c∈Y1;·exact a.new c h3 h2
  ·exact a.dom c (b.new c h1 h3)
 ·have lS  := a.pre.subset hc;rcases a.mt c hc with⟨k1,k2⟩ | ⟨k1,k2,k3⟩
  ·rcases b.mt c lS with⟨_,q⟩ | ⟨q,_,_⟩;·exact .inl ⟨k1,q⟩
   ·exact (k2.notC q).elim
  ·rcases b.mt c lS with⟨q,_⟩ | ⟨_,q,q3⟩;·exact (q.notC k2).elim
   ·exact .inr ⟨k1,q,λo u z=>q3 o u (k3 o u z)⟩
theorem xH.stay(stp:xH mg H Y H' Y' s')   (h:H b=some o)(hn:∀vs,o≠.lst vs)(iX:∀ae,o≠.dT ae:=by intro vs z;cases z)(iY:∀ae,ae≠[]->o≠.dK ae:=by intro ae g z;cases z<;>exact g rfl):H' b=some o:=by
 by_cases hb:b∈Y
 ·rcases stp.mt b hb with⟨⟨vs,e⟩,_⟩ | ⟨⟨vs,e⟩ | ⟨p,vs,e⟩ | ⟨vs,g,e⟩ | ⟨p,vs,e⟩,_,q⟩
  ·rw[h]at e;exact absurd (_E e) (hn vs)
  ·rw[h]at e;exact absurd (_E e) (iX vs)
  ·rw[h]at e;cases e;exact q _ _ h
  ·rw[h]at e;exact absurd (_E e) (iY vs g)
  ·rw[h]at e;cases e;exact q _ _ h
 ·exact stp.keep b o h hb λ_=>hn
mutual
theorem Den.mono(stp:xH mg H Y H' Y' s'):∀{d:D}{v:V},Den mg H Y d v->Den mg H' Y' d v
 | .non,_,h=>h | .bl _,_,h=>h | .int _,_,h=>h | .str _,_,h=>h | .tup ds,v,h=>by
  change ∃_,_;obtain⟨a,vs,e,h1,h2⟩:=h;exact⟨a,vs,e,stp.stay h1 (by intro vs z;cases z),zU.mono stp h2⟩ | .lst ds,v,h=>by
  change ∃_,_;obtain⟨a,o,vs,e,h1,h2⟩:=h;exact⟨a,o,vs,e,stp.stay h1 (by intro vs z;cases z),zU.mono stp h2⟩ | .dct,v,h=>by
  change ∃_,_;obtain⟨a,e,h1⟩:=h;exact⟨a,e,stp.stay h1 (by intro vs z;cases z)⟩ | .loc l,v,h=>by
  change ∃_,_;obtain⟨a,e,h1,k⟩:=h;obtain⟨t,ht⟩:=stp.pre;refine⟨a,e,?_,?_⟩
  ·rw[<- ht,_y (_b.mp h1).1];exact h1
  ·rcases stp.mt a (_d h1) with⟨_,q⟩ | ⟨q,_,_⟩;·exact q
   ·exact (k.notC q).elim | .dlo l,v,h=>by
  change ∃_,_;obtain⟨a,e,h1,k⟩:=h;obtain⟨t,ht⟩:=stp.pre;refine⟨a,e,?_,?_⟩
  ·rw[<- ht,_y (_b.mp h1).1];exact h1
  ·rcases stp.mt a (_d h1) with⟨q,_⟩ | ⟨_,q,_⟩;·exact (q.notC k).elim
   ·exact q | .fn _,_,h=>h | .exc x,v,h=>by
  change ∃_,_;obtain⟨a,C,e,h1,h2⟩:=h;exact⟨a,C,e,h1,stp.stay h2 (by intro vs z;cases z)⟩ | .scr ds,v,h=>by
  change ∃_,_;obtain⟨a,vs,e,h1,h2⟩:=h;exact⟨a,vs,e,h1.imp (λ⟨o,h1⟩=>⟨o,stp.stay h1 (by intro vs z;cases z)⟩) id,zU.mono stp h2⟩
theorem zU.mono(stp:xH mg H Y H' Y' s'):∀{ds:List D}{vs:List V},zU mg H Y ds vs->zU mg H' Y' ds vs
 | [],_,h=>h | d::ds,vs,h=>by
  change ∃_,_;obtain⟨v,r,e,h1,h2⟩:=h;exact⟨v,r,e,Den.mono stp h1,zU.mono stp h2⟩
end
theorem zU.length:∀{ds:List D}{vs:List V},zU mg H Y ds vs->vs.length=ds.length
 | [],_,h=>by rw[h];rfl | d::ds,vs,h=>by
  obtain⟨v,r,rfl,_,h2⟩:=h;simp[zU.length h2]
theorem zU.get:∀{ds:List D}{vs:List V}{i:Nat}{d:D},zU mg H Y ds vs->ds[i]? = some d->∃v,vs[i]? = some v/\Den mg H Y d v
 | [],_,_,_,_,e=>by cases e | d::ds,vs,0,d',h,e=>by
  obtain⟨v,r,rfl,h1,_⟩:=h;simp at e;subst e;exact⟨v,by rfl,h1⟩ | d::ds,vs,i+1,d',h,e=>by
  obtain⟨v,r,rfl,_,h2⟩:=h;obtain⟨u,h3,h4⟩:=zU.get  h2 (by exact e);exact⟨u,by exact h3,h4⟩
theorem zU.append:∀{ds es:List D}{vs us:List V},zU mg H Y ds vs->zU mg H Y es us->zU mg H Y (ds++es) (vs++us)
 | [],_,_,_,h,h'=>by subst h;exact h' | d::ds,_,_,_,h,h'=>by
  obtain⟨v,r,rfl,h1,h2⟩:=h;exact⟨v,_,rfl,h1,zU.append h2 h'⟩
theorem zU.nil:zU mg H Y [] []:=by rfl
theorem zU.cons {d:D} {ds:List D} {v:V} {vs:List V} (h:Den mg H Y d v) (h':zU mg H Y ds vs):zU mg H Y (d::ds) (v::vs):=⟨v,vs,rfl,h,h'⟩
theorem zU.one   (h:Den mg H Y d v):zU mg H Y [d] [v]:=.cons h .nil
theorem zU.take:∀{ds:List D}{vs:List V}(n:Nat),zU mg H Y ds vs->zU mg H Y (ds.take n) (vs.take n)
 | ds,vs,0,h=>by rfl | [],vs,n+1,h=>by subst h;rfl | d::ds,vs,n+1,h=>by
  obtain⟨v,r,rfl,h1,h2⟩:=h;exact .cons h1 (zU.take n h2)
theorem zU.drop:∀{ds:List D}{vs:List V}(n:Nat),zU mg H Y ds vs->zU mg H Y (ds.drop n) (vs.drop n)
 | ds,vs,0,h=>by exact h | [],vs,n+1,h=>by subst h;rfl | d::ds,vs,n+1,h=>by
  obtain⟨v,r,rfl,h1,h2⟩:=h;exact zU.drop n h2
theorem zU.set:∀{ds:List D}{vs:List V}{d:D}{v:V}(n:Nat),zU mg H Y ds vs->Den mg H Y d v->zU mg H Y (ds.set n d) (vs.set n v)
 | [],vs,_,_,n,h,_=>by subst h;rfl | d::ds,vs,_,_,0,h,h'=>by
  obtain⟨v,r,rfl,h1,h2⟩:=h;exact zU.cons h' h2 | d::ds,vs,_,_,n+1,h,h'=>by
  obtain⟨v,r,rfl,h1,h2⟩:=h;exact zU.cons h1 (zU.set n h2 h')
mutual
theorem Den.flatten(k:∀b o,H b=some o->(∀vs,o≠.lst vs)->(∀ae,o≠.dT ae)->(∀ae,ae≠[]->o≠.dK ae)->H' b=some o):∀{d:D}{v:V},d.flat=true->Den mg H Y d v->Den mg H' Y' d v
 | .non,_,_,h=>h | .bl _,_,_,h=>h | .int _,_,_,h=>h | .str _,_,_,h=>h | .tup ds,v,f,h=>by
  change ∃_,_;obtain⟨a,vs,e,h1,h2⟩:=h;exact⟨a,vs,e,k a _ h1 (by intro vs z;cases z) (by intro vs z;cases z) (by intro vs g z;cases z<;>exact g rfl),zU.flatten k f h2⟩ | .lst ds,v,f,h=>by
  change ∃_,_;obtain⟨a,o,vs,e,h1,h2⟩:=h;exact⟨a,o,vs,e,k a _ h1 (by intro vs z;cases z) (by intro vs z;cases z) (by intro vs g z;cases z<;>exact g rfl),zU.flatten k f h2⟩ | .dct,v,_,h=>by
  change ∃_,_;obtain⟨a,e,h1⟩:=h;exact⟨a,e,k a _ h1 (by intro vs z;cases z) (by intro vs z;cases z) (by intro vs g z;cases z<;>exact g rfl)⟩ | .loc l,v,f,h=>nomatch (f:false=true) | .dlo l,v,f,h=>nomatch (f:false=true) | .fn _,_,_,h=>h | .exc x,v,_,h=>by
  change ∃_,_;obtain⟨a,C,e,h1,h2⟩:=h;exact⟨a,C,e,h1,k a _ h2 (by intro vs z;cases z) (by intro vs z;cases z) (by intro vs g z;cases z<;>exact g rfl)⟩ | .scr ds,v,f,h=>by
  change ∃_,_;obtain⟨a,vs,e,h1,h2⟩:=h;exact⟨a,vs,e,h1.imp (λ⟨o,h1⟩=>⟨o,k a _ h1 (by intro vs z;cases z) (by intro vs z;cases z) (by intro vs g z;cases z<;>exact g rfl)⟩) id,zU.flatten k f h2⟩
theorem zU.flatten(k:∀b o,H b=some o->(∀vs,o≠.lst vs)->(∀ae,o≠.dT ae)->(∀ae,ae≠[]->o≠.dK ae)->H' b=some o):∀{ds:List D}{vs:List V},D.flat.flats ds=true->zU mg H Y ds vs->zU mg H' Y' ds vs
 | [],_,_,h=>h | d::ds,vs,f,h=>by
  change ∃_,_;simp only[flC,flN,_ac]at f;obtain⟨v,r,e,h1,h2⟩:=h;exact⟨v,r,e,Den.flatten k f.1 h1,zU.flatten k f.2 h2⟩
end
end
def okR{α β:Type}(mg:Gm)(E:XK)(H:Hp)(Y:List Addr)(Dn:Hp->List Addr->α->β->Prop)(r:R α)(Q:β->Hp->Prop):Prop:=match r with
 | .ok a s'=>∀b H' Y',xH mg H Y H' Y' s'->Dn H' Y' a b->Q b H' | .ex c s'=>∀H' Y' C,xH mg H Y H' Y' s'->mg.m c=some (.ref C)->E (.ref C) none H' | .no=>False
section
variable {α β α2 β2:Type}{mg:Gm}{E:XK}{H H' H1 H2:Hp}{Y Y' Y1 Y2:List Addr}{s s' s1 s2:Sto}{Dn:Hp->List Addr->α->β->Prop}{lT:Hp->List Addr->α2->β2->Prop}
theorem okR.rebase   (h:okR mg E H Y Dn r Q)(stp:xH mg H Y H1 Y1 s1):okR mg E H1 Y1 Dn r Q:=by cases r with
 | ok a s'=>exact λb H' Y' cC=>h b H' Y' (stp.trans cC) | ex c s'=>exact λH' Y' C cC=>h H' Y' C (stp.trans cC) | no=>exact h
theorem okR.bind    (h:okR mg E H Y lT (r.bind k) Q): okR mg E H Y Dn r (λb H1=>∃Y1 s1 a,xH mg H Y H1 Y1 s1/\Dn H1 Y1 a b/\okR mg E H1 Y1 lT (k a s1) Q):=by cases r with
 | ok a s'=>exact λb H' Y' stp dn=>⟨Y',s',a,stp,dn,okR.rebase h stp⟩ | ex c s'=>exact h | no=>exact h
theorem okR.imp   (h:okR mg E H Y Dn r Q)(i:∀b H',Q b H'->Q' b H'):okR mg E H Y Dn r Q':=by cases r with
 | ok a s'=>exact λb H' Y' stp dn=>i b H' (h b H' Y' stp dn) | ex c s'=>exact h | no=>exact h
theorem okR.here    (h:okR mg E H Y Dn (.ok a s) Q)(r:Rep mg H Y s)(d:Dn H Y a b):Q b H:=h b H Y (.refl r) d
end
structure qG(mg:Gm)(H:Hp)(Y:List Addr)(ρ:Ev)(O:L2.St):Prop where
 len:ρ.length=O.length
 at_:∀(i:Nat)(d:D),ρ[i]? = some (some d)->∃v,O[i]? = some (some v)/\Den mg H Y d v
theorem qG.mono       (e:qG mg H Y ρ O)(stp:xH mg H Y H' Y' s'):qG mg H' Y' ρ O:= ⟨e.len,λi d h=>let ⟨v,h1,h2⟩:=e.at_ i d h;⟨v,h1,h2.mono stp⟩⟩
theorem qG.set        (e:qG mg H Y ρ O)(h:Den mg H Y d v)(i:Nat):qG mg H Y (ρ.set i (some d)) (O.set i (some v)):=by
 refine⟨by simp[e.len],λj d' hj=>?_⟩;by_cases aF:i=j
 ·subst aF;have hi:i<ρ.length:=by simpa using ((_b.mp hj).1)
  rw[_T hi]at hj;cases hj;exact⟨v,by rw[_T (by rw[<- e.len];exact hi)],h⟩
 ·rw[_M aF]at hj ⊢;exact e.at_ j d' hj
abbrev FE:=Ev->Sto->R D
abbrev FT:=Ev->Sto->R Bool
abbrev FA:=Ev->Sto->R (List D)
inductive Fl where | nx (ρ:Ev) | rt (d:D) | bk (ρ:Ev) | ct (ρ:Ev)
inductive FlV where | nx (O:L2.St) | rt (v:V) | bk (O:L2.St) | ct (O:L2.St)
abbrev FS:=Ev->Sto->R Fl
def FlD(mg:Gm)(H:Hp)(Y:List Addr):Fl->FlV->Prop
 | .nx ρ,.nx O=>qG mg H Y ρ O | .rt d,.rt v=>Den mg H Y d v | .bk ρ,.bk O=>qG mg H Y ρ O | .ct ρ,.ct O=>qG mg H Y ρ O | _,_=>False
def zeK(D:zfI):FlV->Hp->Prop
 | .nx O,H=>D.nx O H | .rt v,H=>D.rt v H | .bk O,H=>D.bk O H | .ct O,H=>D.ct O H
def bD(_:Hp)(_:List Addr)(a b:Bool):Prop:=a=b
def tE(mg:Gm)(E:XK)(f:FE):TE:=λO H Q=>∃Y ρ s,Rep mg H Y s/\qG mg H Y ρ O/\okR mg E H Y (Den mg) (f ρ s) Q
def tT(mg:Gm)(E:XK)(f:FT):TT:=λO H Q=>∃Y ρ s,Rep mg H Y s/\qG mg H Y ρ O/\okR mg E H Y bD (f ρ s) Q
def tA(mg:Gm)(E:XK)(f:FA):TA:=λO H Q=>∃Y ρ s,Rep mg H Y s/\qG mg H Y ρ O/\okR mg E H Y (zU mg) (f ρ s) Q
def tS(mg:Gm)(E:XK)(f:FS):TS:=λD O H=>∃Y ρ s,Rep mg H Y s/\qG mg H Y ρ O/\okR mg E H Y (FlD mg) (f ρ s) (zeK D)
def RE(X:Cx)(E:XK)(e:Expr)(f:FE):Prop:=PE X e (tE (gm X) E f)
def RT(X:Cx)(E:XK)(e:Expr)(f:FT):Prop:=PT X e (tT (gm X) E f)
def RA(X:Cx)(E:XK)(es:List Expr)(f:FA):Prop:=PA X es (tA (gm X) E f)
def RS(X:Cx)(E:XK)(st:Stmt)(f:FS):Prop:=PS X st (tS (gm X) E f)
def RSs(X:Cx)(E:XK)(st:List Stmt)(f:FS):Prop:=PSs X st (tS (gm X) E f)
section
variable {X:Cx}{E:XK}{e a b c:Expr}{es:List Expr}{pos:Pos}
theorem yz  (h:PE X e t)(i:∀O H Q,t' O H Q->t O H Q):PE X e t':=λac s O H Q I q=>h ac s O H Q I (i O H Q q)
theorem z7T  (h:PT X e t)(i:∀O H Q,t' O H Q->t O H Q):PT X e t':=λac s O H Q I q=>h ac s O H Q I (i O H Q q)
theorem zgU  (h:PA X es t)(i:∀O H Q,t' O H Q->t O H Q):PA X es t':=λpos ac s O H Q I q=>h pos ac s O H Q I (i O H Q q)
theorem uP{st:Stmt}  (h:PS X st t)(i:∀D O H,t' D O H->t D O H):PS X st t':=λac s O H D I q=>h ac s O H D I (i D O H q)
theorem zdw{st:List Stmt}  (h:PSs X st t)(i:∀D O H,t' D O H->t D O H):PSs X st t':=λac s O H D I q=>h ac s O H D I (i D O H q)
theorem yL     {k:Ev->D->Sto->R α}   {Q:β->Hp->Prop}    (r:Rep mg H Y s)(en:qG mg H Y ρ O) (h:okR mg E H Y Dn ((f ρ s).bind (k ρ)) Q)(K:V->Hp->Prop) (hK:∀v H1 Y1 s1 d,Rep mg H1 Y1 s1->qG mg H1 Y1 ρ O->Den mg H1 Y1 d v->xH mg H Y H1 Y1 s1->okR mg E H1 Y1 Dn (k ρ d s1) Q->K v H1):tE mg E f O H K:= ⟨Y,ρ,s,r,en,(okR.bind  h).imp λv H1 ⟨Y1,s1,d,stp,dn,q⟩=>hK v H1 Y1 s1 d stp.rep (en.mono stp) dn stp q⟩
theorem z3e     {k:Ev->Bool->Sto->R α}   {Q:β->Hp->Prop}    (r:Rep mg H Y s)(en:qG mg H Y ρ O) (h:okR mg E H Y Dn ((f ρ s).bind (k ρ)) Q)(K:Bool->Hp->Prop) (hK:∀v H1 Y1 s1,Rep mg H1 Y1 s1->qG mg H1 Y1 ρ O->xH mg H Y H1 Y1 s1->okR mg E H1 Y1 Dn (k ρ v s1) Q->K v H1):tT mg E f O H K:= ⟨Y,ρ,s,r,en,(okR.bind  h).imp λv H1 ⟨Y1,s1,d,stp,dn,q⟩=>hK v H1 Y1 s1 stp.rep (en.mono stp) stp (by cases (dn);exact q)⟩
theorem qJ     {k:Ev->List D->Sto->R α}   {Q:β->Hp->Prop}    (r:Rep mg H Y s)(en:qG mg H Y ρ O) (h:okR mg E H Y Dn ((f ρ s).bind (k ρ)) Q)(K:List V->Hp->Prop) (hK:∀v H1 Y1 s1 d,Rep mg H1 Y1 s1->qG mg H1 Y1 ρ O->zU mg H1 Y1 d v->xH mg H Y H1 Y1 s1->okR mg E H1 Y1 Dn (k ρ d s1) Q->K v H1):tA mg E f O H K:= ⟨Y,ρ,s,r,en,(okR.bind  h).imp λv H1 ⟨Y1,s1,d,stp,dn,q⟩=>hK v H1 Y1 s1 d stp.rep (en.mono stp) dn stp q⟩
noncomputable def zd(i:Nat):FE:=fun ρ s=>match ρ[i]? with | some (some d)=>.ok d s | _=>.no
theorem zc(i:Nat)  (hN:autoParam (X.N[i]? = some x) aRf)(hv:Vis X.env.scope x:=by first | exact Or.inl rfl | exact Or.inr (Or.inl rfl) | exact Or.inr (Or.inr rfl))(hd:autoParam ((x==("__debug__":Str))=false) aDe) (bQ:autoParam ((x==("__classdict__":Str))=false) aDe):RE X E (.Name x pos) (zd i):= yz (za0 hN hv hd bQ) λO H Q ⟨Y,ρ,s,r,en,h⟩=>by
  unfold zd at h;split at h
  ·rename_i d hd;obtain⟨v,h1,h2⟩:=en.at_ i d hd;exact⟨v,h1,h.here r h2⟩
  ·exact h.elim
noncomputable def eC(d:D):FE:=λ_ s=>.ok d s
theorem zI   : RE X E (.Constant (.int i) j pos) (eC (.int i)):=yz zmg λO H Q ⟨Y,ρ,s,r,en,h⟩=>okR.here  h r (by rfl)
theorem z6y   : RE X E (.Constant (.bool i) j pos) (eC (.bl i)):=yz zo5 λO H Q ⟨Y,ρ,s,r,en,h⟩=>okR.here  h r (by rfl)
theorem zgk  : RE X E (.Constant .none j pos) (eC .non):=yz zlz λO H Q ⟨Y,ρ,s,r,en,h⟩=>okR.here  h r (by rfl)
theorem zec   : RE X E (.Constant (.str i) j pos) (eC (.str i)):=yz zlg λO H Q ⟨Y,ρ,s,r,en,h⟩=>okR.here  h r (by rfl)
theorem zlC    (hg:Gl X x)(hm:X.mg x=some (.int i t))(hd:autoParam ((x==("__debug__":Str))=false) aDe):RE X E (.Name x pos) (eC (.int i)):= yz (z96 hg hm (show xr (.int i) (.int i t) from⟨t,rfl⟩) hd) λO H Q ⟨Y,ρ,s,r,en,h⟩=>okR.here  h r (by rfl)
def OpF(X:Cx)(E:XK)(r:R2)(op:D->D->Sto->R D):Prop:= ∀H Y s d1 d2 v1 v2 (Q:VK),Rep (gm X) H Y s->Den (gm X) H Y d1 v1->Den (gm X) H Y d2 v2->okR (gm X) E H Y (Den (gm X)) (op d1 d2 s) Q->r v1 v2 H Q
noncomputable def eOp(op:D->D->Sto->R D)(fa fb:FE):FE:=fun ρ s=>(fa ρ s).bind λx s1=>(fb ρ s1).bind λy s2=>op x y s2
theorem zax    (ho:OpF X E r op)    (h:tE (gm X) E (eOp op fa fb) O H Q):tOp r (tE (gm X) E fa) (tE (gm X) E fb) O H Q:=by
 obtain⟨Y,ρ,s,r',en,h⟩:=h;exact yL (k:=fun ρ x s1=>(fb ρ s1).bind λy s2=>op x y s2) r' en h _ λv H1 Y1 s1 d r1 aG dn stp h1=>(yL (k:=fun ρ y s2=>op d y s2) r1 aG h1 _ λv2 H2 Y2 s2 d2 r2 bz aI nM h2=>(ho H2 Y2 s2 d d2 v v2 Q r2 (dn.mono nM) aI h2))
theorem zpL     (ho:OpR X (binaryOp op) r/\OpF X E r fo)(ha:RE X E a fa)(hb:RE X E b fb):RE X E (.BinOp a op b pos) (eOp fo fa fb):= yz (zmE ho.1 ha hb) λO H Q h=>zax ho.2 h
theorem zmG     (ho:OpR X (compareOp op) r/\OpF X E r fo)(ha:RE X E a fa)(hb:RE X E b fb)(hm:behindInMarks op b=false):RE X E (.Compare a [op] [b] pos) (eOp fo fa fb):= yz (zdZ ho.1 ha hb hm) λO H Q h=>zax ho.2 h
end
end Dd
namespace L2
theorem Inv.freeze   {O:L2.St}      (I:Inv X ac O H s)(h:H a=some u)(e:s.heap.get? a=some o)(hu:∀xs,u≠.tup xs)(hf:∀o v,u≠.frz o v)(ht:∀ps,u≠.tbl ps)(ho:∀y,u≠.own y): Inv X ac O (upd H a (.frz o u)) s:=by
 have ne:∀{b:Addr}{v:HO},H b=some v->v≠u->b≠a:=λ{b v} hb hv z=>by subst z;rw[h]at hb;exact hv (_E hb).symm
 have stay:∀b v,uZ X.prog X.w H s.heap b v->uZ X.prog X.w (upd H a (.frz o u)) s.heap b v:=λb v q=> q.stay (λ_ _ _ q=>q) (λc q=>by rw[zq (ne q (λz=>ho b z.symm))];exact q) λc xs q=>by rw[zq (ne q (λz=>hu xs z.symm))];exact q
 exact I.step     (ch:=[]) (λb hb=>absurd hb (by simp)) (λb o _ _ _ e _=>e) (λb o _ _ _ e _=>⟨o.slots,e⟩) (λb v _ _ n=>by rw[zq (λz=>by subst z;rw[h]at n;cases n)];exact n) (λb o _ e=>⟨o,e⟩) (λb xs q=>by rw[zq (ne q (λz=>hu xs z.symm))];exact q) (λb o' v q=>by rw[zq (ne q (λz=>hf o' v z.symm))];exact q) (λb ps q=>⟨#[],by rw[zq (ne q (λz=>ht ps z.symm)),q];rfl⟩) (λ_ q=>q) (λb v q=>by
  by_cases hb:b=a
  ·subst hb;rw[zP]at q;cases q;exact⟨e,stay b u (I.hok b u h)⟩
  ·rw[zq hb]at q;exact stay b v (I.hok b v q)) I.bare
def zd3(Q:VK):VK:=λv H=>∃a xs,v=.ref a/\H a=some (.lst xs)/\∀o,Q v (upd H a (.frz o (.lst xs)))
theorem EP.freeze       (h:EP X ac O (zd3 Q) u s):EP X ac O Q u s:=by
 obtain⟨v,H',I,r,a,xs,rfl,ha,q⟩:=h;obtain⟨ah,n,rv,e,_⟩:=I.lst ha;exact⟨_,_,I.freeze ha e (by intro _ z;cases z) (by intro _ _ z;cases z) (by intro _ z;cases z) (by intro _ z;cases z),r,q _⟩
theorem OpR.freeze    (h:OpR X f r):OpR X f (λx y H Q=>r x y H (zd3 Q)):=λac s O H x y v u Q I rx ry q=>thn (h ac s O H x y v u _ I rx ry q) λ_ _ z=>z.freeze
theorem vt.freeze    (h:vt X f r):vt X f (λxs H Q=>r xs H (zd3 Q)):=λac s O H xs us Q I rs q=>thn (h ac s O H xs us _ I rs q) λ_ _ z=>z.freeze
theorem PE.freeze    (h:PE X e t):PE X e (λO H Q=>t O H (zd3 Q)):=λac s O H Q I q=>thn (h ac s O H _ I q) λ_ _ z=>z.freeze
theorem SlR.freeze   (h:SlR X r):SlR X (λx lo hi H Q=>r x lo hi H (zd3 Q)):=λac s O H x v vl vu lo hi sl Q I rx hs pl pu q=>by
 obtain⟨T,id,h1,h2,h3⟩:=h ac s O H x v vl vu lo hi sl _ I rx hs pl pu q;exact⟨T,id,h1,h2,thn h3 λ_ _ z=>z.freeze⟩
section
variable {X:Cx}
theorem zhP:OpR X (binaryOp .Add) (λx y H Q=>∃l b xs zs,x=.ref l/\y=.ref b/\Rd H l (.lst xs)/\Rd H b (.lst zs)/\xs.length+zs.length<=sizeLine/\∀p,H p=none->Q (.ref p) (upd H p (.lst (xs++zs)))):=by
 intro ac s O H x y v u Q I rx ry h;obtain⟨l,b,xs,zs,rfl,rfl,hH,hB,hz,q⟩:=h;cases rx;cases ry;obtain⟨z,ah,n,r,e⟩:=hH.ok I.hok;obtain⟨z2,aZ,n2,r2,e2⟩:=hB.ok I.hok;have hl:=r.length;have lU:=r2.length;refine PySem.P.add_list e e2 ?_ (by rw[_t,_t];lia);rw[(show ah.toArray++aZ.toArray=(ah++aZ).toArray from by simp)];exact⟨.ref _,_,I.lnew  (r.append r2) (by rw[_P];lia),rfl,q _ I.fresh⟩
end
section
variable {X:Cx}
theorem zg0:OpR X (binaryOp .Add) (λx y H Q=>∃a b ys,x=.ref a/\y=.ref b/\SqT X.K H a []/\SqT X.K H b ys/\Q (.ref b) H):=by
 intro ac s O H x y v u Q I rx ry h;obtain⟨a,b,ys,rfl,rfl,ha,hb,q⟩:=h;cases rx;cases ry;obtain⟨ah,r1,p1,_⟩:=I.tuple ha;obtain⟨aZ,r2,p2,_⟩:=I.tuple hb;cases r1;obtain⟨⟨cls,dd,data,sl⟩,ho,hc,n,hd⟩:=id p1;obtain⟨⟨fG,dD,data2,dE⟩,c9,eQ,n2,fH⟩:=id p2;subst hc hd eQ fH;exact concat_meets ⟨_,ho,rfl⟩ ⟨_,c9,rfl⟩ _dg seq_tuple_add _ca _b6 (_bV _ _) (tuple_addW0 a b _ _ n n2 dd dD sl dE (by rfl)) ⟨ho,c9,⟨.ref b,H,I,rfl,q⟩⟩
theorem zjE:SlR X (λx lo hi H Q=>∃a xs,x=.ref a/\SqT X.K H a xs/\(HT.sIx xs.length 0 lo=0/\HT.sIx xs.length xs.length hi=xs.length)/\Q (.ref a) H):=by
 intro ac s O H x v vl vu lo hi sl Q I rx hs pl pu h;obtain⟨a,xs,rfl,hx,hw,q⟩:=h;cases rx;obtain⟨ah,r,ht,hz⟩:=I.tuple hx;refine⟨"tuple",_,_ai.lookup,ht.typeIs,?_⟩;obtain⟨os,dY,hX,fI⟩:=id hs;unfold getItem;try with_reducible refine _aU ?_
 refine _a (wpAny_sequenceKey ht.typeIs (by decide) (_a (_am  ht.typeIs _ai (_at _ai ht.typeIs entry_tuple_getitem ?_ (args_tuple_getitem _ _)))));show wpAny _ _ (Builtin.Tuple.tupleItemsOf (.ref a) >>= _) _ _ s;refine _a (tupleItemsOf_ ht (_a (_dq ⟨os,dY,hX⟩ ?_)));refine _a (HT.ja hs pl pu ?_);rw[(show ah.toArray.size=xs.length from by exact r.length.symm),hw.1,hw.2];show wpAny _ _ (if (0==0&&1==1&&(xs.length-0)==xs.length)=true then _ else _) _ _ s;rw[_l (by simp)];exact _a (_a (_dq ht.typeIs (_i (_a (_ax (_i ⟨_,rfl,_i ⟨.ref a,H,I,rfl,q⟩⟩))))))
end
end L2
namespace Dd
open L2
section
variable {mg:Gm}{H H' H1 H2:Hp}{Y Y' Y1 Y2:List Addr}{s s' s1 s2:Sto}
structure Kp(H H':Hp):Prop where
 k:∀b o,H b=some o->(∀vs,o≠.lst vs)->(∀ae,o≠.dT ae)->(∀ae,ae≠[]->o≠.dK ae)->H' b=some o
 l:∀a,IsL H a->IsL H' a
 c:∀a,IsC H a->IsC H' a
mutual
theorem Den.gen(k:Kp H H')(hi:∀(l:Nat) a,Y[l]? = some a->Y'[l]? = some a):∀{d:D}{v:V},Den mg H Y d v->Den mg H' Y' d v
 | .non,_,h=>h | .bl _,_,h=>h | .int _,_,h=>h | .str _,_,h=>h | .tup ds,v,h=>by
  change ∃_,_;obtain⟨a,vs,e,h1,h2⟩:=h;exact⟨a,vs,e,k.k a _ h1 (by intro vs z;cases z) (by intro vs z;cases z) (by intro vs g z;cases z<;>exact g rfl),zU.gen k hi h2⟩ | .lst ds,v,h=>by
  change ∃_,_;obtain⟨a,o,vs,e,h1,h2⟩:=h;exact⟨a,o,vs,e,k.k a _ h1 (by intro vs z;cases z) (by intro vs z;cases z) (by intro vs g z;cases z<;>exact g rfl),zU.gen k hi h2⟩ | .dct,v,h=>by
  change ∃_,_;obtain⟨a,e,h1⟩:=h;exact⟨a,e,k.k a _ h1 (by intro vs z;cases z) (by intro vs z;cases z) (by intro vs g z;cases z<;>exact g rfl)⟩ | .loc l,v,h=>by
  change ∃_,_;obtain⟨a,e,h1,q⟩:=h;exact⟨a,e,hi l a h1,k.l a q⟩ | .dlo l,v,h=>by
  change ∃_,_;obtain⟨a,e,h1,q⟩:=h;exact⟨a,e,hi l a h1,k.c a q⟩ | .fn _,_,h=>h | .exc x,v,h=>by
  change ∃_,_;obtain⟨a,C,e,h1,h2⟩:=h;exact⟨a,C,e,h1,k.k a _ h2 (by intro vs z;cases z) (by intro vs z;cases z) (by intro vs g z;cases z<;>exact g rfl)⟩ | .scr ds,v,h=>by
  change ∃_,_;obtain⟨a,vs,e,h1,h2⟩:=h;exact⟨a,vs,e,h1.imp (λ⟨o,h1⟩=>⟨o,k.k a _ h1 (by intro vs z;cases z) (by intro vs z;cases z) (by intro vs g z;cases z<;>exact g rfl)⟩) id,zU.gen k hi h2⟩
theorem zU.gen(k:Kp H H')(hi:∀(l:Nat) a,Y[l]? = some a->Y'[l]? = some a):∀{ds:List D}{vs:List V},zU mg H Y ds vs->zU mg H' Y' ds vs
 | [],_,h=>h | d::ds,vs,h=>by
  change ∃_,_;obtain⟨v,r,e,h1,h2⟩:=h;exact⟨v,r,e,Den.gen k hi h1,zU.gen k hi h2⟩
end
theorem wQ   (hp:H p=none):∀b u,H b=some u->upd H p o b=some u:=λb u h=>by rw[zq (xh h hp)];exact h
theorem Kp.new   (hp:H p=none):Kp H (upd H p o):=⟨λb u h _ _ _=>wQ hp b u h,λa ⟨vs,e⟩=>⟨vs,wQ hp a _ e⟩,λa h=>h.imp (λ⟨vs,e⟩=>⟨vs,wQ hp a _ e⟩) λh=>h.imp (λ⟨o,vs,e⟩=>⟨o,vs,wQ hp a _ e⟩) λh=>h.imp (λ⟨vs,g,e⟩=>⟨vs,g,wQ hp a _ e⟩) λ⟨o,vs,e⟩=>⟨o,vs,wQ hp a _ e⟩⟩
theorem Kp.putL   (h:IsL H a):Kp H (upd H a (.lst vs)):=by
 obtain⟨ws,e⟩:=h;have ne:∀{b u},H b=some u->(∀vs,u≠.lst vs)->b≠a:=λ{b u} q n z=>by subst z;rw[e]at q;exact n ws (_E q).symm
 refine⟨λb o q n1 n2 _=>by rw[zq (ne q n1)];exact q,λb ⟨us,q⟩=>?_,λb h=>?_⟩
 ·by_cases z:b=a;·subst z;exact⟨vs,zP⟩
  ·exact⟨us,by rw[zq z];exact q⟩
 ·rcases h with⟨us,q⟩ | ⟨o,us,q⟩ | ⟨us,g,q⟩ | ⟨o,us,q⟩;·exact .inl ⟨us,by rw[zq (ne q (by intro _ z;cases z))];exact q⟩
  ·exact .inr (.inl ⟨o,us,by rw[zq (ne q (by intro _ z;cases z))];exact q⟩)
  ·exact .inr (.inr (.inl ⟨us,g,by rw[zq (ne q (by intro _ z;cases z))];exact q⟩))
  ·exact .inr (.inr (.inr ⟨o,us,by rw[zq (ne q (by intro _ z;cases z))];exact q⟩))
theorem jM.imp    : ∀{xs:List D}{ae:List (Key×V)},(∀ys vs k,(D.tup [.int k,.lst ys]∈xs\/D.tup [.int k,.lst ys,.non]∈xs)->zU mg H Y ys vs->zU mg H' Y' ys vs)->(∀k b vs,(k,V.ref b)∈ae->H b=some (.lst vs)->H' b=some (.lst vs))->(∀b o vs,H b=some (.frz o (.lst vs))->H' b=some (.frz o (.lst vs)))->jM mg H Y xs ae->jM mg H' Y' xs ae
 | [],_,_,_,_,h=>h | d::ds,ae,g,w,z,h=>by
  obtain⟨k,ys,b,vs,r,rfl,h1,h2,h3⟩:=h;refine⟨k,ys,b,vs,r,rfl,g ys vs k (h2.imp (λq=>by rw[q.1];simp) λq=>by rw[q.1];simp) h1,h2.imp (λq=>⟨q.1,w (Sum.inl k) b vs (by simp) q.2⟩) (λq=>⟨q.1,q.2.imp λo e=>z b o vs e⟩),jM.imp (λys vs k hm=>g ys vs k (hm.imp (λq=>by simp[q]) λq=>by simp[q])) (λk b vs hm=>w k b vs (by simp[hm])) z h3⟩
theorem jM.fz    : ∀{xs:List D}{ae:List (Key×V)}{k:Key}{b:Addr}{us:List V},jM mg H Y xs ae->ziG xs->(k,V.ref b)∈ae->H b=some (.lst us)->False
 | [],_,k,b,us,h,f,hm,z=>by subst h;simp at hm | d::ds,ae,k,b,us,h,f,hm,z=>by
  obtain⟨k',ys,b',vs,r,rfl,h1,h2,h3⟩:=h;rcases _r.mp hm with e | hm
  ·cases e;rcases h2 with⟨q,_⟩ | ⟨_,o,q⟩
   ·obtain⟨k2,zs,e2⟩:=f d (.head _);rw[e2]at q;simp at q
   ·rw[q]at z;cases z
  ·exact jM.fz h3 (λd hd=>f d (.tail _ hd)) hm z
theorem jM.at_    : ∀{xs:List D}{ae:List (Key×V)}{k:Key}{b:Addr},jM mg H Y xs ae->(k,V.ref b)∈ae->∃u,H b=some u
 | [],_,k,b,h,hm=>by subst h;simp at hm | d::ds,ae,k,b,h,hm=>by
  obtain⟨k',ys,b',vs,r,rfl,h1,h2,h3⟩:=h;rcases _r.mp hm with e | hm
  ·cases e;rcases h2 with⟨_,q⟩ | ⟨_,o,q⟩<;>exact⟨_,q⟩
  ·exact jM.at_ h3 hm
theorem Rep.ownAt(r:Rep mg H Y s)  (h:Own H Y b):∃u,H b=some u:=by
 obtain⟨a,ha,ae,k,e,hm⟩:=h;obtain⟨l,hl,el⟩:=_v.mp ha;have fC:l<s.length:=by rw[<- r.len];exact hl
 obtain⟨b',e1,c⟩:=r.cell l s[l] (_c fC);rw[_c hl]at e1;have  := _E e1;subst this;rw[el]at c;rcases c with⟨_,z,_⟩ | ⟨_,z,_⟩ | ⟨_,_,_,z,_⟩ | ⟨ap,_,z,dk⟩ | ⟨_,_,_,z,_⟩<;>rw[e]at z<;>cases z;exact dk.at_ hm
def DkS(H:Hp)(Y:List Addr)(H':Hp)(Y':List Addr):Prop:=∀a∈Y',∀ae,H' a=some (.dK ae)->a∈Y/\H a=some (.dK ae)
theorem DkS.own(d:DkS H Y H' Y')  (h:Own H' Y' b):Own H Y b:=by
 obtain⟨a,ha,ae,k,e,hm⟩:=h;obtain⟨h1,h2⟩:=d a ha ae e;exact⟨a,h1,ae,k,h2,hm⟩
theorem DkS.uq(r:Rep mg H Y s)(d:DkS H Y H' Y'):∀a∈Y',∀a'∈Y',∀ae ap (i j:Nat) k k' b,H' a=some (.dK ae)->H' a'=some (.dK ap)->ae[i]? = some (k,V.ref b)->ap[j]? = some (k',V.ref b)->a=a'/\i=j:=λa ha a' ic ae ap i j k k' b e e'=> r.uq a (d a ha ae e).1 a' (d a' ic ap e').1 ae ap i j k k' b (d a ha ae e).2 (d a' ic ap e').2
theorem qQ    (h:upd H p o b=none):H b=none:=by
 by_cases z:b=p;·subst z;rw[zP]at h;cases h
 ·rw[zq z]at h;exact h
theorem qD.gen   (k:Kp H H')(hi:∀(l:Nat) a,Y[l]? = some a->Y'[l]? = some a)(e:H' a=H a)(ha:a∈Y)(ro:∀b,Own H Y b->b∉Y)(w:∀b vs,b∉Y->H b=some (.lst vs)->H' b=some (.lst vs))(h:qD mg H Y xs a):qD mg H' Y' xs a:=by
 rcases h with⟨vs,h1,h2⟩ | ⟨ae,h1,h2⟩ | ⟨o,ae,ys,h1,h2⟩ | ⟨ae,g,h1,h2⟩ | ⟨o,ae,ys,h1,e1,h2,f⟩;·exact .inl ⟨vs,e.trans h1,h2.gen k hi⟩
 ·exact .inr (.inl ⟨ae,e.trans h1,h2⟩)
 ·exact .inr (.inr (.inl ⟨o,ae,ys,e.trans h1,h2⟩))
 ·exact .inr (.inr (.inr (.inl ⟨ae,g,e.trans h1,h2.imp (λ_ _ _ _ q=>q.gen k hi) (λq b vs hm=>w b vs (ro b ⟨a,ha,ae,q,h1,hm⟩)) λb o vs q=>k.k b _ q (by intro vs z;cases z) (by intro vs z;cases z) (by intro vs g z;cases z)⟩)))
 ·exact .inr (.inr (.inr (.inr ⟨o,ae,ys,e.trans h1,e1,h2.imp (λ_ _ _ _ q=>q.gen k hi) (λq b vs hm z=>(h2.fz f.1 hm z).elim) λb o vs q=>k.k b _ q (by intro vs z;cases z) (by intro vs z;cases z) (by intro vs g z;cases z),f⟩)))
theorem qD.ne   (h:qD mg H Y xs a)(hp:H p=none):a≠p:=by
 rintro rfl;rcases h.kind with⟨_,e⟩ | ⟨_,e⟩ | ⟨_,_,e⟩ | ⟨_,_,e⟩ | ⟨_,_,e⟩<;>rw[hp]at e<;>cases e
theorem Rep.notin  (r:Rep mg H Y s)(hp:H p=none):p∉Y:=λz=>by rcases r.mt p z with⟨_,e⟩ | ⟨_,e⟩ | ⟨_,_,e⟩ | ⟨_,_,e⟩ | ⟨_,_,e⟩<;>rw[hp]at e<;>cases e
theorem xH.lay   (r:Rep mg H Y s)(hp:H p=none)(ho:∀vs,o≠.lst vs):xH mg H Y (upd H p o) Y s:= have d:DkS H Y (upd H p o) Y:=λa ha ae e=>⟨ha,by rw[zq (show a≠p from λz=>r.notin hp (z ▸ ha))]at e;exact e⟩;⟨⟨r.len,r.nd,λl xs h=>let ⟨a,h1,h2⟩:=r.cell l xs h;⟨a,h1,h2.gen (.new hp) (λ_ _ q=>q) (zq (h2.ne hp)) (_d h1) r.own (λb vs _ q=>wQ hp b _ q)⟩,r.flat,λb h=>r.own b (d.own h),d.uq r⟩,_bd _,λb u h _ _=>wQ hp b u h,λa h1 h2=>absurd h1 h2,λa ha=>(r.mt a ha).imp (λh=>⟨h,(Kp.new hp).l a h⟩) λh=>⟨h,(Kp.new hp).c a h,λ_ _ e=>wQ hp a _ e⟩,λb h=>qQ h,λb h=>.inl (d.own h)⟩
theorem xH.layC    (r:Rep mg H Y s)(hp:H p=none)(hc:qD mg (upd H p o) (Y++[p]) xs p)(hf:D.flat.flats xs=true)(ho:∀ae,o≠.dK ae:=by intro _ z;cases z):xH mg H Y (upd H p o) (Y++[p]) (s++[xs]):=by
 have d:DkS H Y (upd H p o) (Y++[p]):=λa ha ae e=>by
  by_cases z:a=p;·subst z;rw[zP]at e;exact absurd (_E e) (ho ae)
  ·rw[zq z]at e;exact⟨(_D.mp ha).elim id λq=>absurd (by simpa using q) z,e⟩
 have hi:∀(l:Nat) a,Y[l]? = some a->(Y++[p])[l]? = some a:=λl a h=>by rw[_y (_b.mp h).1];exact h
 refine⟨⟨by simp[r.len],?_,λl ys h=>?_,λys h=>?_,λb h=>?_,d.uq r⟩,List.prefix_append _ _,λb u h _ _=>wQ hp b u h,λa h1 h2=>?_,λa ha=>(r.mt a ha).imp (λh=>⟨h,(Kp.new hp).l a h⟩) λh=>⟨h,(Kp.new hp).c a h,λ_ _ e=>wQ hp a _ e⟩,λb h=>qQ h,λb h=>.inl (d.own h)⟩
 ·rw[List.nodup_append];exact⟨r.nd,by simp,λa ha b hb=>by
   have:b=p:=by simpa using hb
   subst this;exact λz=>(r.notin hp) (z ▸ ha)⟩
 ·by_cases hl:l<s.length
  ·rw[_y hl]at h;obtain⟨a,h1,h2⟩:=r.cell l ys h;exact⟨a,hi l a h1,h2.gen (.new hp) hi (zq (h2.ne hp)) (_d h1) r.own (λb vs _ q=>wQ hp b _ q)⟩
  ·have h0:l=s.length:=by
    have:=(_b.mp h).1;simp at this;lia
   subst h0;simp at h;subst h;exact⟨p,by rw[<- r.len];simp,hc⟩
 ·rcases _D.mp h with h | h;·exact r.flat ys h
  ·rw[(show ys=xs from by simpa using h)];exact hf
 ·have q:=d.own h;obtain⟨u,hu⟩:=r.ownAt q;intro z;rcases _D.mp z with z | z;·exact r.own b q z
  ·rw[(show b=p from by simpa using z),hp]at hu;cases hu
 ·rcases _D.mp h1 with h | h;·exact absurd h h2
  ·rw[(show a=p from by simpa using h)];exact hp
theorem xH.layL    (r:Rep mg H Y s)(hp:H p=none)(hd:zU mg H Y xs vs)(hf:D.flat.flats xs=true):xH mg H Y (upd H p (.lst vs)) (Y++[p]) (s++[xs]):= xH.layC r hp (.inl ⟨vs,zP,hd.gen (.new hp) λl a h=>by rw[_y (_b.mp h).1];exact h⟩) hf
theorem xH.putC     (r:Rep mg H Y s)(ha:Y[l]? = some a)(k:Kp H (upd H a o))(hc:qD mg (upd H a o) Y xs a)(hf:D.flat.flats xs=true)(ho:∀ae,o≠.dK ae:=by intro _ z;cases z):xH mg H Y (upd H a o) Y (s.set l xs):=by
 have d:DkS H Y (upd H a o) Y:=λb hb ae e=>by
  by_cases z:b=a;·subst z;rw[zP]at e;exact absurd (_E e) (ho ae)
  ·rw[zq z]at e;exact⟨hb,e⟩
 have bN  := _d ha;refine⟨⟨by simp[r.len],r.nd,λj ys h=>?_,λys h=>?_,λb h=>r.own b (d.own h),d.uq r⟩,_bd _,λb u h hn _=>?_,λa h1 h2=>absurd h1 h2,λb hb=>(r.mt b hb).imp (λh=>⟨h,k.l b h⟩) λh=>⟨h,k.c b h,λ_ _ e=>k.k b _ e (by intro _ z;cases z) (by intro _ z;cases z) (by intro _ _ z;cases z)⟩,λb h=>qQ h,λb h=>.inl (d.own h)⟩
 ·by_cases hj:l=j
  ·subst hj;rw[_T (by rw[<- r.len];exact (_b.mp ha).1)]at h;cases h;exact⟨a,ha,hc⟩
  ·rw[_M hj]at h;obtain⟨b,h1,h2⟩:=r.cell j ys h;refine⟨b,h1,h2.gen k (λ_ _ q=>q) (zq ?_) (_d h1) r.own (λc vs hc q=>by rw[zq (show c≠a from λz=>hc (z ▸ bN))];exact q)⟩;rintro rfl;exact hj ((_bc r.nd).mp (((_b.mp ha).2).trans ((_b.mp h1).2).symm))
 ·rcases _aY h with h | h;·exact r.flat ys h
  ·rw[h];exact hf
 ·rw[zq (λz=>by subst z;exact hn bN)];exact h
theorem xH.put     (r:Rep mg H Y s)(ha:Y[l]? = some a)(ka:IsL H a)(hd:zU mg H Y xs vs)(hf:D.flat.flats xs=true):xH mg H Y (upd H a (.lst vs)) Y (s.set l xs):= xH.putC r ha (.putL ka) (.inl ⟨vs,zP,hd.gen (.putL ka) λ_ _ q=>q⟩) hf
noncomputable def listOf(s:Sto):D->Option (List D)
 | .lst xs=>some xs | .loc l=>s[l]? | _=>none
noncomputable def yc(s:Sto):D->Option (List D)
 | .tup xs=>some xs | .lst xs=>some xs | .scr xs=>some xs | .loc l=>s[l]? | _=>none
theorem yg    (r:Rep mg H Y s)(h:listOf s d=some xs)(dn:Den mg H Y d v):∃a vs,v=.ref a/\Rd H a (.lst vs)/\zU mg H Y xs vs:=by cases d with
 | lst ys=>
  simp only[listOf,_K]at h;subst h;obtain⟨a,o,vs,e,h1,h2⟩:=dn;exact⟨a,vs,e,.inr ⟨o,h1⟩,h2⟩ | loc l=>
  obtain⟨a,e,h1,k⟩:=dn;obtain⟨vs,h3,h4⟩:=r.at_ h h1 k;exact⟨a,vs,e,.inl h3,h4⟩ | _=>simp[listOf]at h
theorem zh7   (dn:Den mg H Y (.scr xs) v):∃a vs,v=.ref a/\SqL mg.K H a vs/\zU mg H Y xs vs:=by
 obtain⟨a,vs,e,h1,h2⟩:=dn;exact⟨a,vs,e,h1.elim (λ⟨o,h⟩=>.inl (.inr ⟨o,h⟩)) .inr,h2⟩
theorem qR{K:W.Frag}    (r:Rep mg H Y s)(h:yc s d=some xs)(dn:Den mg H Y d v)(hK:autoParam (mg.K=K) aRf):∃a vs,v=.ref a/\(SqL K H a vs\/SqT K H a vs)/\zU mg H Y xs vs:=by cases d with
 | tup ys=>
  simp only[yc,_K]at h;subst h;obtain⟨a,vs,e,h1,h2⟩:=dn;exact⟨a,vs,e,.inr (.inl (.inl h1)),h2⟩ | lst ys=>
  obtain⟨a,vs,e,h1,h2⟩:=yg (d:=.lst ys) r h dn;exact⟨a,vs,e,.inl (.inl h1),h2⟩ | scr ys=>
  simp only[yc,_K]at h;subst h;subst hK;obtain⟨a,vs,e,h1,h2⟩:=zh7 dn;exact⟨a,vs,e,.inl h1,h2⟩ | loc l=>
  obtain⟨a,vs,e,h1,h2⟩:=yg (d:=.loc l) r h dn;exact⟨a,vs,e,.inl (.inl h1),h2⟩ | _=>simp[yc]at h
theorem kW{K:W.Frag}   (dn:Den mg H Y (.tup xs) v):∃a vs,v=.ref a/\SqT K H a vs/\zU mg H Y xs vs:=by
 obtain⟨a,vs,e,h1,h2⟩:=dn;exact⟨a,vs,e,.inl (.inl h1),h2⟩
end
noncomputable def cap:Nat:=100000
theorem kj  (h:n<=cap):n<=sizeLine:=_S h (by decide)
theorem zaC  (h:n<cap):n<sizeLine:=_q h (by decide)
noncomputable def BIG:Nat:=2 ^ 4096
noncomputable def zi4(x y:D)(s:Sto):R D:=match listOf s x,listOf s y with
 | some a,some b=>if a.length+b.length<=cap then .ok (.lst (a++b)) s else .no | _,_=>.no
def ug:D->D->Sto->R D
 | .int i,.int j,s=>.ok (.int (i+j)) s | .tup a,.tup b,s=>if a.length+b.length<=cap then .ok (.tup (a++b)) s else .no | x,y,s=>zi4 x y s
section
variable {X:Cx}{E:XK}
theorem yJ      (h:Den mg H Y (.int i) v):v=.int i:=h
theorem jv      (h:Den mg H Y (.bl i) v):v=.bl i:=h
theorem z8q      (h:Den mg H Y (.str i) v):v=.str i:=h
theorem xf     : Den mg H Y (.int i) (.int i):=rfl
theorem yX     : Den mg H Y (.bl i) (.bl i):=rfl
theorem z0e       {Q:VK}(r:Rep mg H Y s)(h:okR mg E H Y (Den mg) (.ok (.lst xs) s) Q)(hd:zU mg H Y xs vs):∀p,H p=none->zd3 Q (.ref p) (upd H p (.lst vs)):=λp hp=>by
 refine⟨p,vs,rfl,zP,λo=>?_⟩;rw[zcB];have stp:=xH.lay (o:=.frz o (.lst vs)) r hp (by intro _ z;cases z);exact h _ _ _ stp ⟨p,o,vs,rfl,zP,hd.mono stp⟩
theorem z4N       {Q:VK}(r:Rep mg H Y s)(h:okR mg E H Y (Den mg) (.ok (.tup xs) s) Q)(hd:zU mg H Y xs vs):∀p,H p=none->Q (.ref p) (upd H p (.tup vs)):=λp hp=>by
 have stp:=xH.lay (o:=.tup vs) r hp (by intro _ z;cases z);exact h _ _ _ stp ⟨p,vs,rfl,zP,hd.mono stp⟩
theorem z9e{Q:VK}(r:Rep (gm X) H Y s)(h1:Den (gm X) H Y d1 v1)(h2:Den (gm X) H Y d2 v2)(h:okR (gm X) E H Y (Den (gm X)) (zi4 d1 d2 s) Q):∃l b xs zs,v1=V.ref l/\v2=V.ref b/\Rd H l (.lst xs)/\Rd H b (.lst zs)/\xs.length+zs.length<=sizeLine/\∀p,H p=none->zd3 Q (.ref p) (upd H p (.lst (xs++zs))):=by
 unfold zi4 at h;cases ha:listOf s d1 with
 | none=>rw[ha]at h;exact (h:False).elim | some a=>
  rw[ha]at h;cases hb:listOf s d2 with
  | none=>rw[hb]at h;exact (h:False).elim | some b=>
   rw[hb]at h;obtain⟨l,vs,e,q1,q2⟩:=yg r ha h1;obtain⟨l',eT,e',ie,eU⟩:=yg r hb h2;have h:okR (gm X) E H Y (Den (gm X)) (if a.length+b.length<=cap then .ok (.lst (a++b)) s else .no) Q:=h;split at h
   ·rename_i hl;exact⟨l,l',vs,eT,e,e',q1,ie,by rw[q2.length,eU.length];exact kj hl,z0e r h (q2.append eU)⟩
   ·exact h.elim
theorem vQ:∃r,OpR X (binaryOp .Add) r/\OpF X E r ug:=by
 refine⟨_,zli.or ((zg0).or ((zim).or (zhP.freeze))),?_⟩;intro H Y s d1 d2 v1 v2 Q r h1 h2 h;cases d1 with
 | int i=>cases d2 with
  | int j=>
   cases yJ h1;cases yJ h2;exact .inl ⟨i,j,rfl,rfl,okR.here h r xf⟩ | _=>exact .inr (.inr (.inr (z9e r h1 h2 h)))
 | tup a=>cases d2 with
  | tup b=>
   obtain⟨l,vs,rfl,q1,q2⟩:=kW  h1;obtain⟨l',eT,rfl,ie,eU⟩:=kW  h2;have h:okR (gm X) E H Y (Den (gm X)) (if a.length+b.length<=cap then .ok (.tup (a++b)) s else .no) Q:=h;split at h
   ·rename_i hl;cases a with
    | nil=>
     subst q2;exact .inr (.inl ⟨l,l',eT,rfl,rfl,q1,ie,h.here r h2⟩) | cons x a=>
     refine .inr (.inr (.inl ⟨l,l',vs,eT,rfl,rfl,q1,ie,(λz=>by have:=q2.length;rw[z]at this;simp at this),by rw[q2.length,eU.length];exact kj hl,λz=>?_,λz=>z4N r h (q2.append eU)⟩));have eb:b=[]:=by
      have:=eU.length;rw[z]at this;exact _bt.mp this.symm
     subst eb;rw[_bz]at h;exact h.here r h1
   ·exact h.elim | _=>exact .inr (.inr (.inr (z9e r h1 h2 h)))
 | _=>exact .inr (.inr (.inr (z9e r h1 h2 h)))
end
noncomputable def dII(g:Int->Int->R D):D->D->Sto->R D
 | .int i,.int j,s=>match g i j with | .ok d _=>.ok d s | _=>.no
 | _,_,_=>.no
noncomputable def iOk(d:D):R D:=.ok d []
noncomputable def z9E:D->D->Sto->R D:=dII λi j=>iOk (.int (i-j))
noncomputable def xG:D->D->Sto->R D:=dII λi j=>if i.natAbs<BIG/\j.natAbs<BIG then iOk (.int (i*j)) else .no
noncomputable def z46:D->D->Sto->R D:=dII λi j=>if 0<j/\j.natAbs<BIG then iOk (.int (i / j)) else .no
noncomputable def zaf:D->D->Sto->R D:=dII λi j=>if 0<j then iOk (.int (i % j)) else .no
noncomputable def zmv:D->D->Sto->R D:=dII λi j=>if 0<=j/\j<=1000/\i.natAbs<1000 then iOk (.int (i ^ j.toNat)) else .no
noncomputable def dLt:D->D->Sto->R D:=dII λi j=>iOk (.bl (decide (i<j)))
noncomputable def dLe:D->D->Sto->R D:=dII λi j=>iOk (.bl (decide (i<=j)))
noncomputable def dGt:D->D->Sto->R D:=dII λi j=>iOk (.bl (decide (j<i)))
noncomputable def dGe:D->D->Sto->R D:=dII λi j=>iOk (.bl (decide (j<=i)))
section
variable {X:Cx}{E:XK}
theorem z0Y   (h:∀i j d t H Q,g i j=.ok d t->(∀v,(∀H Y,Den (gm X) H Y d v)->Q v H)->r (.int i) (.int j) H Q):OpF X E r (dII g):=by
 intro H Y s d1 d2 v1 v2 Q rp h1 h2 hq;unfold dII at hq;split at hq
 ·rename_i i j;cases yJ h1;cases yJ h2;split at hq
  ·rename_i d t e;exact h i j d t H Q e λv hv=>hq.here rp (hv H Y)
  ·exact hq.elim
 ·exact hq.elim
theorem zbk:∃r,OpR X (binaryOp .Sub) r/\OpF X E r z9E:=⟨_,zkl,z0Y λi j d t H Q e q=>by
 simp only[iOk,R.ok.injEq]at e;exact⟨i,j,rfl,rfl,q _ (by intro H Y;rw[<- e.1];exact xf)⟩⟩
theorem zai  (h:i.natAbs<BIG):Builtin.Int.intBits i<=2 ^ 20:=by
 have q  := (PySem.intBits_le_iff ).mpr h;lia
theorem zjv:OpR X (binaryOp .Mult) (rI (λi j=>i.natAbs<BIG/\j.natAbs<BIG) λi j=>.int (i*j)):=opI λ_ _ _ _ _ _ _ hc q=>mul_int q (IntMulOk.of_bits (zai hc.1) (zai hc.2))
theorem uU:∃r,OpR X (binaryOp .Mult) r/\OpF X E r xG:=⟨_,zjv,z0Y λi j d t H Q e q=>by
 split at e
 ·rename_i hc;simp only[iOk,R.ok.injEq]at e;exact⟨i,j,rfl,rfl,hc,q _ (by intro H Y;rw[<- e.1];exact xf)⟩
 ·cases e⟩
theorem zig{j:Int}(h:j.natAbs<BIG):j.natAbs.log2<9000:=by
 by_cases h0:j.natAbs=0;·rw[h0];decide +kernel
 ·have  := (Nat.log2_lt h0).mpr h;lia
theorem zgf:OpR X (binaryOp .FloorDiv) (rI (λ_ j=>0<j/\j.natAbs<BIG) λi j=>.int (i / j)):=opI λi j _ _ _ _ _ hc q=>by
 refine floordiv_int (by lia) ?_ (.inl (PyProof.noPylong_of_log2 (zig hc.2)));rw[Int.fdiv_eq_ediv_of_nonneg _ (by lia)];exact q
theorem zal:∃r,OpR X (binaryOp .FloorDiv) r/\OpF X E r z46:=⟨_,zgf,z0Y λi j d t H Q e q=>by
 split at e
 ·rename_i hc;simp only[iOk,R.ok.injEq]at e;exact⟨i,j,rfl,rfl,hc,q _ (by intro H Y;rw[<- e.1];exact xf)⟩
 ·cases e⟩
theorem zbc:∃r,OpR X (binaryOp .Mod) r/\OpF X E r zaf:=⟨_,zkv,z0Y λi j d t H Q e q=>by
 split at e
 ·rename_i hc;simp only[iOk,R.ok.injEq]at e;exact⟨i,j,rfl,rfl,hc,q _ (by intro H Y;rw[<- e.1];exact xf)⟩
 ·cases e⟩
theorem zln:∃r,OpR X (binaryOp .Pow) r/\OpF X E r zmv:=⟨_,zlU,z0Y λi j d t H Q e q=>by
 split at e
 ·rename_i hc;simp only[iOk,R.ok.injEq]at e;exact⟨i,j,rfl,rfl,⟨hc.1,by lia,by lia⟩,q _ (by intro H Y;rw[<- e.1];exact xf)⟩
 ·cases e⟩
theorem zm5:∃r,OpR X (compareOp .Lt) r/\OpF X E r dLt:=⟨_,zot,z0Y λi j d t H Q e q=>by
 simp only[iOk,R.ok.injEq]at e;exact⟨i,j,rfl,rfl,q _ (by intro H Y;rw[<- e.1];exact yX)⟩⟩
theorem zhO:∃r,OpR X (compareOp .LtE) r/\OpF X E r dLe:=⟨_,zmH,z0Y λi j d t H Q e q=>by
 simp only[iOk,R.ok.injEq]at e;exact⟨i,j,rfl,rfl,q _ (by intro H Y;rw[<- e.1];exact yX)⟩⟩
theorem zmy:∃r,OpR X (compareOp .Gt) r/\OpF X E r dGt:=⟨_,znC,z0Y λi j d t H Q e q=>by
 simp only[iOk,R.ok.injEq]at e;exact⟨i,j,rfl,rfl,q _ (by intro H Y;rw[<- e.1];exact yX)⟩⟩
theorem zow:∃r,OpR X (compareOp .GtE) r/\OpF X E r dGe:=⟨_,znQ,z0Y λi j d t H Q e q=>by
 simp only[iOk,R.ok.injEq]at e;exact⟨i,j,rfl,rfl,q _ (by intro H Y;rw[<- e.1];exact yX)⟩⟩
end
mutual
noncomputable def z2A:D->PyData
 | .non=>.none | .bl b=>.bool b | .int i=>.int i | .str x=>.str x | .tup xs=>.tuple (toPys xs) | .lst xs=>.list (toPys xs) | _=>.dict []
noncomputable def toPys:List D->List PyData
 | []=>[] | d::ds=>z2A d::toPys ds
end
theorem znv(i:Int):z2A (.int i)=.int i:=id rfl
theorem zpD(x:Str):z2A (.str x)=.str x:=id rfl
theorem zlA(xs:List D):z2A (.tup xs)=.tuple (toPys xs):=id rfl
theorem tPn:toPys []=[]:=id rfl
theorem tPc(d:D)(ds:List D):toPys (d::ds)=z2A d::toPys ds:=id rfl
theorem zo7(xs:List D):z2A (.lst xs)=.list (toPys xs):=id rfl
noncomputable def eqD(a b:D):Bool:=PyData.eqv (z2A a) (z2A b)
noncomputable def zg8(d:D):Bool:=SeqAt.shaped (z2A d)
noncomputable def dEq(x y:D)(s:Sto):R D:=if zg8 x=true/\zg8 y=true then .ok (.bl (eqD x y)) s else .no
noncomputable def dNe(x y:D)(s:Sto):R D:=if zg8 x=true/\zg8 y=true then .ok (.bl (!eqD x y)) s else .no
section
variable {P:Program}{w:World}{mg:Gm}{H:Hp}{Y:List Addr}{h:Heap}
mutual
theorem Den.reads(ok:HOk P w H h):∀{d:D}{v:V}{u:Value},PyData.canLay0 (z2A d)=true->Den mg H Y d v->xr v u->∃as,Reads h u (z2A d) as
 | .non,_,_,_,dn,r=>by obtain rfl:=dn;cases r;exact⟨_,Reads.none⟩ | .bl b,_,_,_,dn,r=>by obtain rfl:=dn;cases r;exact⟨_,Reads.bool b⟩ | .int i,_,_,_,dn,r=>by obtain rfl:=dn;obtain⟨t,rfl⟩:=r;exact⟨_,Reads.int i t⟩ | .str x,_,_,_,dn,r=>by obtain rfl:=dn;obtain⟨t,rfl⟩:=r;exact⟨_,Reads.str x t⟩ | .tup ds,_,_,c,dn,r=>by
  obtain⟨a,vs,rfl,h1,h2⟩:=dn;cases r;obtain⟨_,ah,rv,o,e,hc,_,n,hd⟩:=ok a _ h1;obtain⟨as,q⟩:=zU.reads ok c h2 rv;exact⟨as,Reads.tuple e hc hd (by simpa using q)⟩ | .lst ds,_,_,c,dn,r=>by
  obtain⟨a,o,vs,rfl,h1,h2⟩:=dn;cases r;obtain⟨_,_,ah,n,rv,e⟩:=ok a _ h1;obtain⟨as,q⟩:=zU.reads ok c h2 rv;exact⟨_,Reads.list e rfl rfl (by simpa using q)⟩ | .dct,_,_,c,_,_=>nomatch (c:false=true) | .loc _,_,_,c,_,_=>nomatch (c:false=true) | .fn _,_,_,c,_,_=>nomatch (c:false=true) | .exc _,_,_,c,_,_=>nomatch (c:false=true)
theorem zU.reads(ok:HOk P w H h):∀{ds:List D}{vs:List V}{us:List Value},PyData.canLayAll0 (toPys ds)=true->zU mg H Y ds vs->xF vs us->∃as,ReadsAll h us (toPys ds) as
 | [],_,_,_,dn,r=>by obtain rfl:=dn;cases r;exact⟨_,ReadsAll.nil⟩ | d::ds,_,_,c,dn,r=>by
  obtain⟨v,vs,rfl,h1,h2⟩:=dn;have c:=_B.mp c;cases r with | cons r1 r2=>
   obtain⟨as,q⟩:=Den.reads ok c.1 h1 r1;obtain⟨bs,q'⟩:=zU.reads ok c.2 h2 r2;exact⟨_,ReadsAll.cons q q'⟩
end
end
section
variable {X:Cx}{E:XK}
def zpl(mg:Gm)(neg:Bool):R2:=λx y H Q=>∃Y d1 d2,Den mg H Y d1 x/\Den mg H Y d2 y/\zg8 d1=true/\zg8 d2=true/\Q (.bl (if neg then !eqD d1 d2 else eqD d1 d2)) H
theorem zlH(hu:X.A.units+64<cLine):OpR X (compareOp .Eq) (zpl (gm X) false):=by
 intro ac s O H x y v u Q I rx ry ⟨Y,d1,d2,h1,h2,p1,p2,q⟩;obtain⟨as,ra⟩:=Den.reads I.hok (_by p1) h1 rx;obtain⟨bs,rb⟩:=Den.reads I.hok (_by p2) h2 ry;exact SeqAt.compareEq_shaped ra rb p1 p2 hu ⟨.bl (eqD d1 d2),H,I,rfl,q⟩
theorem zmk(hu:X.A.units+64<cLine):OpR X (compareOp .NotEq) (zpl (gm X) true):=by
 intro ac s O H x y v u Q I rx ry ⟨Y,d1,d2,h1,h2,p1,p2,q⟩;obtain⟨as,ra⟩:=Den.reads I.hok (_by p1) h1 rx;obtain⟨bs,rb⟩:=Den.reads I.hok (_by p2) h2 ry;exact SeqAt.compareNe_shaped ra rb p1 p2 hu ⟨.bl (!eqD d1 d2),H,I,rfl,q⟩
theorem z70(hu:X.A.units+64<cLine):∃r,OpR X (compareOp .Eq) r/\OpF X E r dEq:=⟨_,zlH hu,λH Y s d1 d2 v1 v2 Q r h1 h2 h=>by
 unfold dEq at h;split at h
 ·rename_i hc;exact⟨Y,d1,d2,h1,h2,hc.1,hc.2,h.here r yX⟩
 ·exact h.elim⟩
theorem zbQ(hu:X.A.units+64<cLine):∃r,OpR X (compareOp .NotEq) r/\OpF X E r dNe:=⟨_,zmk hu,λH Y s d1 d2 v1 v2 Q r h1 h2 h=>by
 unfold dNe at h;split at h
 ·rename_i hc;exact⟨Y,d1,d2,h1,h2,hc.1,hc.2,h.here r yX⟩
 ·exact h.elim⟩
noncomputable def z9W:D->Option V
 | .non=>some .non | .bl b=>some (.bl b) | .int i=>some (.int i) | .str x=>some (.str x) | _=>none
theorem z7z      (h:z9W d=some w)(dn:Den mg H Y d v):v=w/\z4d v=true:=by cases d<;>first | (cases h;subst dn;exact⟨rfl,rfl⟩) | cases h
noncomputable def z1k:List D->Option (List V)
 | []=>some [] | d::ds=>match z9W d,z1k ds with | some v,some vs=>some (v::vs) | _,_=>none
theorem z51    : ∀{ds:List D}{vs ws:List V},z1k ds=some ws->zU mg H Y ds vs->vs=ws/\vs.all z4d=true
 | [],_,_,h,dn=>by cases h;subst dn;exact⟨rfl,rfl⟩ | d::ds,_,_,h,dn=>by
  obtain⟨v,vs,rfl,h1,h2⟩:=dn;simp only[z1k]at h;split at h
  ·rename_i w ws e1 e2;cases h;obtain⟨a1,a2⟩:=z7z e1 h1;obtain⟨b1,b2⟩:=z51 e2 h2;exact⟨by rw[a1,b1],by rw[List.all_cons,a2,b2];rfl⟩
  ·cases h
noncomputable def zhT(neg:Bool)(x y:D)(s:Sto):R D:=match z9W x,(yc s y).bind z1k with
 | some v,some vs=>.ok (.bl (if neg then !inV v vs else inV v vs)) s | _,_=>.no
theorem zm8{neg:Bool}:OpF X E (rIn X.K neg) (zhT neg):=λH Y s d1 d2 v1 v2 Q r h1 h2 h=>by
 unfold zhT at h;split at h
 ·rename_i v vs e1 e2;cases e3:yc s d2 with
  | none=>rw[e3]at e2;cases e2 | some xs=>
   rw[e3]at e2;obtain⟨a,ws,rfl,q1,q2⟩:=qR  r e3 h2;obtain⟨b1,b2⟩:=z51 e2 q2;obtain⟨a1,a2⟩:=z7z e1 h1;subst a1 b1;exact⟨a,ws,rfl,q1,a2,b2,h.here r yX⟩
 ·exact h.elim
theorem zpX:∃r,OpR X (compareOp .In) r/\OpF X E r (zhT false):=⟨_,ze8,zm8⟩
noncomputable def dIs:D->D->Sto->R D
 | .bl a,.bl b,s=>.ok (.bl (a==b)) s | .non,.non,s=>.ok (.bl true) s | .bl _,.non,s=>.ok (.bl false) s | .int _,.non,s=>.ok (.bl false) s | .str _,.non,s=>.ok (.bl false) s | .tup _,.non,s=>.ok (.bl false) s | .lst _,.non,s=>.ok (.bl false) s | _,_,_=>.no
theorem zm0:OpR X (compareOp .Is) (λx y H Q=>∃a b,x=.bl a/\y=.bl b/\Q (.bl (a==b)) H):=by
 intro ac s O H x y v u Q I rx ry ⟨a,b,e1,e2,q⟩;subst e1 e2;cases rx;cases ry;exact is_bool ⟨.bl (a==b),H,I,rfl,q⟩
theorem zp8:∃r,OpR X (compareOp .Is) r/\OpF X E r dIs:=⟨_,zm0.or zkd,λH Y s d1 d2 v1 v2 Q r h1 h2 h=>by cases d2 with
 | bl b=>cases d1 with
  | bl a=>cases jv h1;cases jv h2;exact .inl ⟨_,_,rfl,rfl,okR.here h r yX⟩ | _=>exact (show False from h).elim
 | non=>cases d1 with
  | non=>subst h1 h2;exact .inr ⟨rfl,by exact (okR.here h r yX)⟩ | bl _=>subst h1 h2;exact .inr ⟨rfl,by exact (okR.here h r yX)⟩ | int _=>subst h1 h2;exact .inr ⟨rfl,by exact (okR.here h r yX)⟩ | str _=>subst h1 h2;exact .inr ⟨rfl,by exact (okR.here h r yX)⟩ | tup _=>obtain⟨a,vs,rfl,_⟩:=h1;subst h2;exact .inr ⟨rfl,by exact (okR.here h r yX)⟩ | lst _=>obtain⟨a,o,vs,rfl,_⟩:=h1;subst h2;exact .inr ⟨rfl,by exact (okR.here h r yX)⟩ | _=>exact (show False from h).elim
 | _=>cases d1<;>exact (show False from h).elim⟩
noncomputable def dIx(x y:D)(s:Sto):R D:=match y,yc s x with
 | .int i,some xs=>match atI xs i with | some d=>.ok d s | none=>.no
 | _,_=>.no
theorem zfg        (h:zU mg H Y xs vs)(e:atI xs i=some d):∃v,atI vs i=some v/\Den mg H Y d v:=by
 unfold atI at e ⊢;rw[h.length];cases q:ixN xs.length i with
 | none=>rw[q]at e;cases e | some j=>
  rw[q]at e;exact h.get e
theorem zqd:∃r,IxR X r/\OpF X E r dIx:=⟨_,ziA.or zlu,λH Y s d1 d2 v1 v2 Q r h1 h2 h=>by
 unfold dIx at h;split at h
 ·rename_i i xs e;split at h
  ·rename_i d e2;cases yJ h2;obtain⟨a,vs,rfl,q1,q2⟩:=qR  r e h1;obtain⟨v,e3,e4⟩:=zfg q2 e2;rcases q1 with q1 | q1;·exact .inl ⟨a,vs,i,v,rfl,rfl,q1,e3,h.here r e4⟩
   ·exact .inr ⟨a,vs,i,v,rfl,rfl,q1,e3,h.here r e4⟩
  ·exact h.elim
 ·exact h.elim⟩
end
section
variable {X:Cx}{E:XK}{e a b c:Expr}{es:List Expr}{pos:Pos}
theorem ym    (ho:∃r,OpR X (binaryOp op) r/\OpF X E r fo)(ha:RE X E a fa)(hb:RE X E b fb):RE X E (.BinOp a op b pos) (eOp fo fa fb):=let ⟨_,h⟩:=ho;zpL h ha hb
theorem ji    (ho:∃r,OpR X (compareOp op) r/\OpF X E r fo)(ha:RE X E a fa)(hb:RE X E b fb)(hm:behindInMarks op b=false:=by first | exact zhy _ | rfl):RE X E (.Compare a [op] [b] pos) (eOp fo fa fb):=let ⟨_,h⟩:=ho;zmG h ha hb hm
noncomputable def tOf(f:FE):FT:=fun ρ s=>(f ρ s).bind λd s1=>match d with | .bl k=>.ok k s1 | _=>.no
theorem z5g     (h:tT (gm X) E (tOf f) O H Q):ziF (tE (gm X) E f) O H Q:=by
 obtain⟨Y,ρ,s,r,en,h⟩:=h;refine yL (k:=fun ρ d s1=>match d with | .bl k=>.ok k s1 | _=>.no) r en h _ λv H1 Y1 s1 d r1 aG dn stp h1=>?_;cases d with
 | bl k=>
  cases jv dn;exact⟨k,rfl,h1.here  r1 rfl⟩ | _=>exact h1.elim
theorem yo    (ho:∃r,OpR X (compareOp op) r/\OpF X E r fo)(ha:RE X E a fa)(hb:RE X E b fb)(hm:behindInMarks op b=false:=by first | exact zhy _ | rfl):RT X E (.Compare a [op] [b] pos) (tOf (eOp fo fa fb)):=by
 obtain⟨r,h1,h2⟩:=ho;exact z7T (zio h1 ha hb hm) λO H Q h=>zax h2 (z5g h)
noncomputable def z12(fo de:D->D->Sto->R D)(fa fb fc:FE):FE:=fun ρ s=>(fa ρ s).bind λx s1=>(fb ρ s1).bind λy s2=>(fo x y s2).bind λz s3=>match z with
 | .bl true=>(fc ρ s3).bind λw s4=>de y w s4 | .bl false=>.ok (.bl false) s3 | _=>.no
theorem z7p    (ho:OpF X E r fo)(bP:OpF X E r' de)    (h:tE (gm X) E (z12 fo de fa fb fc) O H Q):zcv r r' (tE (gm X) E fa) (tE (gm X) E fb) (tE (gm X) E fc) O H Q:=by
 obtain⟨Y,ρ,s,rp,en,h⟩:=h;refine yL (k:=fun ρ x s1=>(fb ρ s1).bind λy s2=>(fo x y s2).bind λz s3=>match z with
  | .bl true=>(fc ρ s3).bind λw s4=>de y w s4 | .bl false=>.ok (.bl false) s3 | _=>.no) rp en h _ λv H1 Y1 s1 d r1 aG dn stp h1=>(yL (k:=fun ρ y s2=>(fo d y s2).bind λz s3=>match z with
  | .bl true=>(fc ρ s3).bind λw s4=>de y w s4 | .bl false=>.ok (.bl false) s3 | _=>.no) r1 aG h1 _ λv2 H2 Y2 s2 d2 r2 bz aI ak h2=>(ho H2 Y2 s2 d d2 v v2 _ r2 (dn.mono ak) aI ((okR.bind  h2).imp λv3 H3 ⟨Y3,s3,d3,ax,cr,h3⟩=>?_)));cases d3 with
 | bl k=>
  cases jv cr;refine⟨k,rfl,?_⟩;cases k with
  | true=> exact yL (k:=fun ρ w s4=>de d2 w s4) ax.rep (bz.mono ax) h3 _ λv4 H4 Y4 s4 d4 r4 iZ nN bj h4=>(bP H4 Y4 s4 d2 d4 v2 v4 Q r4 ((aI.mono ax).mono bj) nN h4) | false=> exact okR.here  h3 ax.rep yX
 | _=>exact h3.elim
theorem ziT    (ho:∃r,OpR X (compareOp op) r/\OpF X E r fo)(bP:∃r,OpR X (compareOp cm) r/\OpF X E r de)(ha:RE X E a fa)(hb:RE X E b fb)(hc:RE X E c fc) (hm:autoParam (lastMarks [op,cm] [b,c]=false) aWu):RE X E (.Compare a [op,cm] [b,c] pos) (z12 fo de fa fb fc):=by
 obtain⟨r,h1,h2⟩:=ho;obtain⟨r',fY,bR⟩:=bP;exact yz (zfY h1 fY ha hb hc hm) λO H Q h=>z7p h2 bR h
noncomputable def zeE(fa fb:FE):FE:=fun ρ s=>(fa ρ s).bind λx s1=>match x with | .bl true=>fb ρ s1 | .bl false=>.ok (.bl false) s1 | _=>.no
noncomputable def zoY(fa:FE):FE:=fun ρ s=>(fa ρ s).bind λx s1=>match x with | .bl k=>.ok (.bl (!k)) s1 | _=>.no
variable {kc:List Expr}
theorem z8Z   (h:RE X E a f):RE X E (.BoolOp op [a] pos) f:=zkS h
theorem z7M  (ha:RE X E a fa)(hb:RE X E (.BoolOp .And (b::kc) pos) fb):RE X E (.BoolOp .And (a::b::kc) pos) (zeE fa fb):= yz (zkf ha hb) λO H Q ⟨Y,ρ,s,r,en,h⟩=>by
  refine yL (k:=fun ρ x s1=>match x with | .bl true=>fb ρ s1 | .bl false=>.ok (.bl false) s1 | _=>.no) r en h _ λv H1 Y1 s1 d r1 aG dn stp h1=>?_;cases d with
  | bl k=>
   cases jv dn;refine⟨k,rfl,?_⟩;cases k with
   | true=>exact⟨Y1,ρ,s1,r1,aG,h1⟩ | false=>exact okR.here  h1 r1 yX
  | _=>exact h1.elim
theorem zns  (ha:RE X E a fa):RE X E (.UnaryOp .Not a pos) (zoY fa):= yz (zlX ha) λO H Q ⟨Y,ρ,s,r,en,h⟩=>by
  refine yL (k:=fun ρ x s1=>match x with | .bl k=>R.ok (D.bl (!k)) s1 | _=>.no) r en h _ λv H1 Y1 s1 d r1 aG dn stp h1=>?_;cases d with
  | bl k=>
   cases jv dn;exact⟨k,rfl,okR.here  h1 r1 yX⟩ | _=>exact h1.elim
noncomputable def zpd(fa fb:FT):FT:=fun ρ s=>(fa ρ s).bind λx s1=>if x=true then fb ρ s1 else .ok false s1
noncomputable def fOr(fa fb:FT):FT:=fun ρ s=>(fa ρ s).bind λx s1=>if x=true then .ok true s1 else fb ρ s1
noncomputable def z3v(fa:FT):FT:=fun ρ s=>(fa ρ s).bind λx s1=>.ok (!x) s1
def RW(X:Cx)(E:XK)(e:Expr)(f:FT):Prop:=PW X e (tT (gm X) E f)
theorem RW.rt  (h:RW X E e f):RT X E e f:=PW.pt h
theorem zh0  (h:PW X e t)(i:∀O H Q,t' O H Q->t O H Q):PW X e t':=λwh ac s O H Q I q=>h wh ac s O H Q I (i O H Q q)
theorem zl6  (h:RT X E a f):RW X E (.BoolOp .And [a] pos) f:=zj6 h
theorem z3b  (h:RT X E a f):RW X E (.BoolOp .Or [a] pos) f:=zlb h
theorem w_and  (ha:RT X E a fa)(hb:RW X E (.BoolOp .And (b::kc) pos) fb):RW X E (.BoolOp .And (a::b::kc) pos) (zpd fa fb):= zh0 (zl9 ha hb) λO H Q ⟨Y,ρ,s,r,en,h⟩=>by
  refine z3e (k:=fun ρ x s1=>if x=true then fb ρ s1 else .ok false s1) r en h _ λv H1 Y1 s1 r1 aG stp h1=>?_;cases v with
  | true=>exact⟨Y1,ρ,s1,r1,aG,h1⟩ | false=>exact h1.here r1 rfl
theorem zbU  (ha:RT X E a fa)(hb:RW X E (.BoolOp .Or (b::kc) pos) fb):RW X E (.BoolOp .Or (a::b::kc) pos) (fOr fa fb):= zh0 (zo8 ha hb) λO H Q ⟨Y,ρ,s,r,en,h⟩=>by
  refine z3e (k:=fun ρ x s1=>if x=true then .ok true s1 else fb ρ s1) r en h _ λv H1 Y1 s1 r1 aG stp h1=>?_;cases v with
  | false=>exact⟨Y1,ρ,s1,r1,aG,h1⟩ | true=>exact h1.here r1 rfl
theorem jW  (ha:RT X E a fa):RT X E (.UnaryOp .Not a pos) (z3v fa):= z7T (zkD ha) λO H Q ⟨Y,ρ,s,r,en,h⟩=>z3e (k:=fun ρ x s1=>.ok (!x) s1) r en h _ λv H1 Y1 s1 r1 aG stp h1=>h1.here r1 rfl
theorem z0y  (h:RE X E a f)(he:autoParam (∀whole,isTrue a X.env whole=(do let v <- whole;standAt a.pos;holding [v] (truthy v))) aIr):RT X E a (tOf f):= z7T (zlS h he) λO H Q h=>z5g h
noncomputable def eIf(ft:FT)(fa fb:FE):FE:=fun ρ s=>(ft ρ s).bind λx s1=>if x=true then fa ρ s1 else fb ρ s1
theorem zmr   (hc:RT X E c ft)(ha:RE X E a fa)(hb:RE X E b fb):RE X E (.IfExp c a b pos) (eIf ft fa fb):= yz (zfu hc ha hb) λO H Q ⟨Y,ρ,s,r,en,h⟩=>z3e (k:=fun ρ x s1=>if x=true then fa ρ s1 else fb ρ s1) r en h _ λv H1 Y1 s1 r1 aG stp h1=>by cases v with
  | true=>exact⟨Y1,ρ,s1,r1,aG,h1⟩ | false=>exact⟨Y1,ρ,s1,r1,aG,h1⟩
theorem z3S  (ha:RE X E a fa)(hb:RE X E b fb)(hs:z91 b:=by intro _ _;rfl):RE X E (.Subscript a b pos) (eOp dIx fa fb):=by
 obtain⟨r,h1,h2⟩:=zqd;exact yz (zl3 h1 ha hb hs) λO H Q h=>zax h2 h
noncomputable def zi:FA:=λ_ s=>.ok [] s
noncomputable def za(fa:FE)(fr:FA):FA:=fun ρ s=>(fa ρ s).bind λx s1=>(fr ρ s1).bind λxs s2=>.ok (x::xs) s2
theorem zf:RA X E [] zi:=zgU z1H λO H Q ⟨Y,ρ,s,r,en,h⟩=>h.here r zU.nil
theorem z0v   (ha:RE X E e fa)(hr:RA X E es fr)(hs:autoParam (starEach (e::es) X.env=(false,eval e X.env)::starEach es X.env) aRf):RA X E (e::es) (za fa fr):= zgU (jC ha hr hs) λO H Q ⟨Y,ρ,s,r,en,h⟩=>by exact yL (k:=fun ρ x s1=>(fr ρ s1).bind λxs s2=>.ok (x::xs) s2) r en h _ λv H1 Y1 s1 d r1 aG dn stp h1=>(qJ (k:=fun ρ xs s2=>.ok (d::xs) s2) r1 aG h1 _ λvs H2 Y2 s2 ds r2 bz aI ak h2=>(h2.here r2 (zU.cons (dn.mono ak) aI)))
noncomputable def z5R(f:FA):FE:=fun ρ s=>(f ρ s).bind λxs s1=>if xs.length<=cap then .ok (.tup xs) s1 else .no
theorem z27   (h:RA X E es f):RE X E (.Tuple es x1 pos) (z5R f):= yz (zkB h) λO H Q ⟨Y,ρ,s,r,en,h⟩=>by
  refine qJ (k:=fun ρ xs s1=>if xs.length<=cap then R.ok (D.tup xs) s1 else .no) r en h _ λvs H2 Y2 s2 ds r2 bz aI ak h2=>?_;split at h2
  ·rename_i hl;exact⟨by rw[aI.length];exact kj hl,z4N r2 h2 aI⟩
  ·exact h2.elim
noncomputable def zfj(f:FA):FE:=fun ρ s=>(f ρ s).bind λxs s1=>if xs.length<=cap then .ok (.lst xs) s1 else .no
theorem zb0  (h:RA X E es f):RE X E (.List es pos) (zfj f):= yz (zaA h).freeze λO H Q ⟨Y,ρ,s,r,en,h⟩=>by
  refine qJ (k:=fun ρ xs s1=>if xs.length<=cap then R.ok (D.lst xs) s1 else .no) r en h _ λvs H2 Y2 s2 ds r2 bz aI ak h2=>?_;split at h2
  ·rename_i hl;exact⟨by rw[aI.length];exact kj hl,z0e r2 h2 aI⟩
  ·exact h2.elim
noncomputable def ziV(f:FA):FE:=fun ρ s=>(f ρ s).bind λxs s1=>if xs.length<=cap/\D.flat.flats xs=true then .ok (.loc s1.length) (s1++[xs]) else .no
theorem zkh       {Q:VK}(r:Rep mg H Y s)(h:okR mg E H Y (Den mg) (.ok (.loc s.length) (s++[xs])) Q)(hf:D.flat.flats xs=true)(hd:zU mg H Y xs vs):∀p,H p=none->Q (.ref p) (upd H p (.lst vs)):=λp hp=>by exact h _ _ _ (xH.layL r hp hd hf) ⟨p,rfl,by rw[<- r.len];simp,vs,zP⟩
theorem ze2  (h:RA X E es f):RE X E (.List es pos) (ziV f):= yz (zaA h) λO H Q ⟨Y,ρ,s,r,en,h⟩=>by
  refine qJ (k:=fun ρ xs s1=>if xs.length<=cap/\D.flat.flats xs=true then R.ok (D.loc s1.length) (s1++[xs]) else .no) r en h _ λvs H2 Y2 s2 ds r2 bz aI ak h2=>?_;split at h2
  ·rename_i hl;exact⟨by rw[aI.length];exact kj hl.1,zkh r2 h2 hl.2 aI⟩
  ·exact h2.elim
def z2a(X:Cx)(E:XK)(r:List V->Hp->VK->Prop)(g:List D->Sto->R D):Prop:= ∀H Y s ds vs (Q:VK),Rep (gm X) H Y s->zU (gm X) H Y ds vs->okR (gm X) E H Y (Den (gm X)) (g ds s) Q->r vs H Q
noncomputable def ze(g:List D->Sto->R D)(f:FA):FE:=fun ρ s=>(f ρ s).bind λxs s1=>g xs s1
theorem zA  {p:Pos} {id:String}   (hc:∃r,vt X (.builtin id) r/\z2a X E r g) (hg:Gl X x) (hm:X.mg x=none) (hv:bootBuiltins x=some (.builtin id)) (ha:RA X E (e::es) f) (hn:autoParam (x≠"__name__") aDe) (bq:autoParam ((x==("__debug__":Str))=false) aDe) (he:autoParam (starEach (e::es) X.env=(false,eval e X.env)::starEach es X.env) aRf) (be:autoParam ((backTo pos (starEach es X.env)).any (·.1)=false) aRf):RE X E (.Call (.Name x p) (e::es) [] pos) (ze g f):=by
 obtain⟨r,h1,h2⟩:=hc;exact yz (zaE h1 hg hm hv ha hn bq he be) λO H Q ⟨Y,ρ,s,r,en,h⟩=> qJ (k:=fun ρ xs s1=>g xs s1) r en h _ λvs H2 Y2 s2 ds r2 bz aI ak h3=>h2 H2 Y2 s2 ds vs Q r2 aI h3
theorem xQ  {p:Pos}    (hc:∃r,vt X (.type T) r/\z2a X E r g) (hg:Gl X x) (hm:X.mg x=none) (hv:bootBuiltins x=some (.type T)) (ha:RA X E (e::es) f) (hn:autoParam (x≠"__name__") aDe) (bq:autoParam ((x==("__debug__":Str))=false) aDe) (he:autoParam (starEach (e::es) X.env=(false,eval e X.env)::starEach es X.env) aRf) (be:autoParam ((backTo pos (starEach es X.env)).any (·.1)=false) aRf):RE X E (.Call (.Name x p) (e::es) [] pos) (ze g f):=by
 obtain⟨r,h1,h2⟩:=hc;exact yz (ze0 h1 hg hm hv ha hn bq he be) λO H Q ⟨Y,ρ,s,r,en,h⟩=> qJ (k:=fun ρ xs s1=>g xs s1) r en h _ λvs H2 Y2 s2 ds r2 bz aI ak h3=>h2 H2 Y2 s2 ds vs Q r2 aI h3
theorem z2R      (h:zU mg H Y [d] vs):∃v,vs=[v]/\Den mg H Y d v:=by
 obtain⟨v,r,rfl,h1,rfl⟩:=h;exact⟨v,rfl,h1⟩
theorem z8m      (h:zU mg H Y [d,d'] vs):∃v v',vs=[v,v']/\Den mg H Y d v/\Den mg H Y d' v':=by
 obtain⟨v,r,rfl,h1,v',r',rfl,h2,rfl⟩:=h;exact⟨v,v',rfl,h1,h2⟩
noncomputable def xO:List D->Sto->R D
 | [d],s=>match yc s d with | some xs=>.ok (.int xs.length) s | none=>.no
 | _,_=>.no
theorem uu:∃r,vt X (.builtin "len") r/\z2a X E r xO:=⟨_,z7b,λH Y s ds vs Q r hd h=>by
 unfold xO at h;split at h
 ·split at h
  ·rename_i d xs e;obtain⟨v,rfl,dn⟩:=z2R hd;obtain⟨a,ws,rfl,q1,q2⟩:=qR  r e dn;exact⟨a,ws,rfl,q1,by rw[q2.length];exact h.here r xf⟩
  ·exact h.elim
 ·exact h.elim⟩
noncomputable def yr:List D->Sto->R D
 | [d],s=>match yc s d with | some xs=>.ok (.tup xs) s | none=>.no
 | _,_=>.no
theorem wc:∃r,vt X (.type "tuple") r/\z2a X E r yr:=⟨_,z6e,λH Y s ds vs Q r hd h=>by match ds,hd,h with
 | [],_,h=>exact h.elim | _::_::_,_,h=>exact h.elim | [d],hd,h=>
  obtain⟨v,rfl,dn⟩:=z2R hd;simp only[yr]at h;cases e:yc s d with
  | none=>rw[e]at h;exact h.elim | some xs=>
   rw[e]at h;cases d with
   | tup ys=>
    simp only[yc,_K]at e;subst e;obtain⟨a,ws,rfl,q1,q2⟩:=kW  dn;exact⟨a,ws,rfl,.inr ⟨q1,h.here r dn⟩⟩ | lst ys=>
    obtain⟨a,ws,rfl,q1,q2⟩:=yg (d:=.lst ys) r e dn;exact⟨a,ws,rfl,.inl ⟨.inl q1,z4N r h q2⟩⟩ | loc l=>
    obtain⟨a,ws,rfl,q1,q2⟩:=yg (d:=.loc l) r e dn;exact⟨a,ws,rfl,.inl ⟨.inl q1,z4N r h q2⟩⟩ | scr ys=>
    simp only[yc,_K]at e;subst e;obtain⟨a,ws,rfl,q1,q2⟩:=zh7 dn;exact⟨a,ws,rfl,.inl ⟨q1,z4N r h q2⟩⟩ | _=>simp[yc]at e⟩
noncomputable def z7C:List D->Sto->R D
 | [.int i,.int j],s=>.ok (.int (if j > i then j else i)) s | _,_=>.no
noncomputable def zgs:List D->Sto->R D
 | [.int i,.int j],s=>.ok (.int (if j<i then j else i)) s | _,_=>.no
theorem zhI(hc:X.calm=true):∃r,vt X (.builtin "max") r/\z2a X E r z7C:=⟨_,zdn hc,λH Y s ds vs Q r hd h=>by
 unfold z7C at h;split at h
 ·rename_i i j;obtain⟨v,v',rfl,d1,d2⟩:=z8m hd;cases yJ d1;cases yJ d2;exact⟨i,j,rfl,h.here r xf⟩
 ·exact h.elim⟩
theorem zlw(hc:X.calm=true):∃r,vt X (.builtin "min") r/\z2a X E r zgs:=⟨_,zcd hc,λH Y s ds vs Q r hd h=>by
 unfold zgs at h;split at h
 ·rename_i i j;obtain⟨v,v',rfl,d1,d2⟩:=z8m hd;cases yJ d1;cases yJ d2;exact⟨i,j,rfl,h.here r xf⟩
 ·exact h.elim⟩
abbrev FO:=Ev->Sto->R (Option Int)
def oD(_:Hp)(_:List Addr)(a b:Option Int):Prop:=a=b
def tO(mg:Gm)(E:XK)(f:FO):TO:=λO H Q=>∃Y ρ s,Rep mg H Y s/\qG mg H Y ρ O/\okR mg E H Y oD (f ρ s) Q
def RO(X:Cx)(E:XK)(e:Option Expr)(f:FO):Prop:=PO X e (tO (gm X) E f)
theorem zgS   (h:PO X o t)(i:∀O H Q,t' O H Q->t O H Q):PO X o t':=λac s O H Q I q=>h ac s O H Q I (i O H Q q)
noncomputable def zW:FO:=λ_ s=>.ok none s
noncomputable def wD(f:FE):FO:=fun ρ s=>(f ρ s).bind λd s1=>match d with | .int i=>.ok (some i) s1 | _=>.no
theorem qo:RO X E none zW:=zgS ziv λO H Q ⟨Y,ρ,s,r,en,h⟩=>h.here  r rfl
theorem qA  (h:RE X E e f):RO X E (some e) (wD f):=zgS (zj4 h) λO H Q ⟨Y,ρ,s,r,en,h⟩=>by
 refine yL (k:=fun ρ d s1=>match d with | .int i=>.ok (some i) s1 | _=>.no) r en h _ λv H1 Y1 s1 d r1 aG dn stp h1=>?_;cases d with
 | int i=>cases yJ dn;exact⟨i,rfl,h1.here  r1 rfl⟩ | _=>exact h1.elim
noncomputable def cutD(xs:List D)(lo hi:Option Int):List D:=(xs.drop (HT.sIx xs.length 0 lo)).take (HT.sIx xs.length xs.length hi-HT.sIx xs.length 0 lo)
theorem z5B      (h:zU mg H Y xs vs)(lo hi:Option Int):zU mg H Y (cutD xs lo hi) (zjY vs lo hi):=by
 unfold cutD zjY;rw[h.length];exact (h.drop _).take _
noncomputable def dSl(x:D)(lo hi:Option Int)(s:Sto):R D:=match x with
 | .tup xs=>.ok (.tup (cutD xs lo hi)) s | x=>match listOf s x with | some xs=>.ok (.lst (cutD xs lo hi)) s | none=>.no
noncomputable def eSl(fe:FE)(fl fh:FO):FE:=fun ρ s=>(fe ρ s).bind λx s1=>(fl ρ s1).bind λlo s2=>(fh ρ s2).bind λhi s3=>dSl x lo hi s3
theorem zdJ     {k:Ev->Option Int->Sto->R α}   {Q:β->Hp->Prop}    (r:Rep mg H Y s)(en:qG mg H Y ρ O) (h:okR mg E H Y Dn ((f ρ s).bind (k ρ)) Q)(K:Option Int->Hp->Prop) (hK:∀v H1 Y1 s1,Rep mg H1 Y1 s1->qG mg H1 Y1 ρ O->xH mg H Y H1 Y1 s1->okR mg E H1 Y1 Dn (k ρ v s1) Q->K v H1):tO mg E f O H K:= ⟨Y,ρ,s,r,en,(okR.bind  h).imp λv H1 ⟨Y1,s1,d,stp,dn,q⟩=>hK v H1 Y1 s1 stp.rep (en.mono stp) stp (by cases (dn);exact q)⟩
theorem vG{lo hi:Option Expr}    (he:RE X E e fe)(hl:RO X E lo fl)(hh:RO X E hi fh):RE X E (.Subscript e (.Slice lo hi none p2) pos) (eSl fe fl fh):= yz (zfC ((zkW.or zjE).or zi2.freeze) he hl hh) λO H Q ⟨Y,ρ,s,r,en,h⟩=>by
  refine yL (k:=fun ρ x s1=>(fl ρ s1).bind λlo s2=>(fh ρ s2).bind λhi s3=>dSl x lo hi s3) r en h _ λv H1 Y1 s1 d r1 aG dn stp h1=>(zdJ (k:=fun ρ lo s2=>(fh ρ s2).bind λhi s3=>dSl d lo hi s3) r1 aG h1 _ λlo H2 Y2 s2 r2 bz ak h2=>?_);refine zdJ (k:=fun ρ hi s3=>dSl d lo hi s3) r2 bz h2 _ λhi H3 Y3 s3 r3 i5 ax h3=>?_;have cr:=(dn.mono ak).mono ax;cases d with
  | tup xs=>
   obtain⟨a,vs,rfl,q1,q2⟩:=kW  cr;have i6:okR (gm X) E H3 Y3 (Den (gm X)) (.ok (.tup (cutD xs lo hi)) s3) Q:=h3;by_cases hw:HT.sIx vs.length 0 lo=0/\HT.sIx vs.length vs.length hi=vs.length
   ·refine .inl (.inr ⟨a,vs,rfl,q1,hw,?_⟩);rw[(show cutD xs lo hi=xs from by
     unfold cutD;rw[<- q2.length,hw.1,hw.2];simp[q2.length])]at i6;exact i6.here r3 cr
   ·exact .inl (.inl ⟨a,vs,rfl,q1,hw,z4N r3 i6 (z5B q2 lo hi)⟩) | lst xs=>
   obtain⟨a,vs,rfl,q1,q2⟩:=yg  r3 rfl cr;exact .inr ⟨a,vs,rfl,.inl q1,z0e r3 h3 (z5B q2 lo hi)⟩ | loc l=>
   simp only[dSl]at h3;split at h3
   ·rename_i xs e;obtain⟨a,vs,rfl,q1,q2⟩:=yg  r3 e cr;exact .inr ⟨a,vs,rfl,.inl q1,z0e r3 h3 (z5B q2 lo hi)⟩
   ·exact h3.elim | _=>exact h3.elim
end
abbrev Mir:=List D->Sto->R D
def zi7(mg:Gm)(M:Mir):Sp:=λvs H Q E=>∃Y s ds,Rep mg H Y s/\zU mg H Y ds vs/\okR mg E H Y (Den mg) (M ds s) Q
def Has(P:Program)(w:World)(K:W.Frag)(mg:Str->Option Value)(base:Heap)(CX:CXT)(x:Str)(n:Nat)(M:Mir):Prop:= ∃f fd ps,z5J P w K mg base CX n f fd ps (zi7 ⟨mg,K⟩ M)/\Binds K fd ps []/\W.keepIn K (.ref f)=true/\mg x=some (.ref f)
section
variable {X:Cx}{E:XK}{e a b c:Expr}{es:List Expr}{pos:Pos}{CX:CXT}
theorem zmi  {p:Pos}    (F:Has X.prog X.w X.K X.mg X.base CX x n M) (hr:z1F n X.A) (hx:Passes CX X E) (hg:Gl X x) (ha:RA X E (e::es) f) (bq:autoParam ((x==("__debug__":Str))=false) aDe) (he:autoParam (starEach (e::es) X.env=(false,eval e X.env)::starEach es X.env) aRf) (be:autoParam ((backTo pos (starEach es X.env)).any (·.1)=false) aRf):RE X E (.Call (.Name x p) (e::es) [] pos) (ze M f):=by
 obtain⟨fa,fd,ps,F,hb,hk,hm⟩:=F;refine yz (zih F hr hg hm hk hb .nil hx ha bq he be) λO H Q ⟨Y,ρ,s,r,en,h⟩=>(qJ (k:=fun ρ xs s1=>M xs s1) r en h _ λvs H2 Y2 s2 ds r2 bz aI ak h3=>?_);rw[_bz];exact⟨Y2,s2,ds,r2,aI,h3⟩
noncomputable def yf(f g:FS):FS:=fun ρ s=>(f ρ s).bind λfl s1=>match fl with | .nx ρ'=>g ρ' s1 | fl=>.ok fl s1
noncomputable def wN:FS:=fun ρ s=>.ok (.nx ρ) s
variable {st:Stmt}{rs:List Stmt}
theorem zlp   {D:zfI}   (h:tS mg E (yf f g) D O H):zpa (tS mg E f) (tS mg E g) D O H:=by
 obtain⟨Y,ρ,s,r,en,h⟩:=h;refine⟨Y,ρ,s,r,en,(okR.bind  h).imp λfv H1 ⟨Y1,s1,fl,stp,dn,q⟩=>?_⟩;cases fl with
 | nx ρ'=> cases fv with
  | nx O'=>exact⟨Y1,ρ',s1,stp.rep,dn,q⟩ | _=>exact (dn).elim
 | rt d=> cases fv with
  | rt v=>exact okR.here  (Q:=zeK D)   q stp.rep dn | _=>exact (dn).elim
 | bk ρ'=> cases fv with
  | bk v=>exact okR.here  (Q:=zeK D)   q stp.rep dn | _=>exact (dn).elim
 | ct ρ'=> cases fv with
  | ct v=>exact okR.here  (Q:=zeK D)   q stp.rep dn | _=>exact (dn).elim
theorem yR:RSs X E [] wN:=zdw zi9 λD O H ⟨Y,ρ,s,r,en,h⟩=>okR.here (b:=FlV.nx O) h r en
theorem zh  (h1:RS X E st f)(h2:RSs X E rs g):RSs X E (st::rs) (yf f g):=zdw (zeU h1 h2) λD O H h=>zlp h
theorem zj  (h1:RS X E st f):RSs X E [st] f:=zi8 h1
noncomputable def fNo:FS:=λ_ _=>.no
theorem jh:RS X E st fNo:=uP zf6 λD O H ⟨_,_,_,_,_,h⟩=>h
noncomputable def uE(f:FE):FS:=fun ρ s=>(f ρ s).bind λ_ s1=>.ok (.nx ρ) s1
theorem wI  (he:RE X E e f)(hs:autoParam (swapsWith e none pos.line X.env=pure false) aRf):RS X E (.Expr e pos) (uE f):= uP (zj2 he hs) λD O H ⟨Y,ρ,s,r,en,h⟩=>yL (k:=fun ρ _ s1=>R.ok (Fl.nx ρ) s1) r en h _ λv H1 Y1 s1 d r1 aG dn stp h1=>okR.here (b:=FlV.nx O)  h1 r1 aG
noncomputable def xC(f:FE):FS:=fun ρ s=>(f ρ s).bind λd s1=>.ok (.rt d) s1
theorem zQ  (he:RE X E e f):RS X E (.Return (some e) pos) (xC f):= uP (zkE he) λD O H ⟨Y,ρ,s,r,en,h⟩=>yL (k:=fun ρ d s1=>R.ok (Fl.rt d) s1) r en h _ λv H1 Y1 s1 d r1 aG dn stp h1=>okR.here (b:=FlV.rt v)  h1 r1 dn
noncomputable def fIf(ft:FT)(f g:FS):FS:=fun ρ s=>(ft ρ s).bind λx s1=>if x=true then f ρ s1 else g ρ s1
theorem z09    (hc:RT X E c ft)(ha:RSs X E as f)(hb:RSs X E bs g):RS X E (.If c as bs pos) (fIf ft f g):= uP (zoJ hc ha hb) λD O H ⟨Y,ρ,s,r,en,h⟩=>z3e (k:=fun ρ x s1=>if x=true then f ρ s1 else g ρ s1) r en h _ λv H1 Y1 s1 r1 aG stp h1=>by cases v with
  | true=>exact⟨Y1,ρ,s1,r1,aG,h1⟩ | false=>exact⟨Y1,ρ,s1,r1,aG,h1⟩
abbrev FG:=D->Ev->Sto->R Ev
def tG(mg:Gm)(E:XK)(f:FG):TG:=λv O H Q=>∃Y ρ s d,Rep mg H Y s/\qG mg H Y ρ O/\Den mg H Y d v/\okR mg E H Y (qG mg) (f d ρ s) (λO' H'=>Q O' H')
def RG(X:Cx)(E:XK)(tg:Expr)(f:FG):Prop:=PG X tg (tG (gm X) E f)
theorem zgE   (h:PG X tg t)(i:∀v O H Q,t' v O H Q->t v O H Q):PG X tg t':=λac s O H v u Q I r q=>h ac s O H v u Q I r (i v O H Q q)
noncomputable def yu(i:Nat):FG:=λd ρ s=>.ok (ρ.set i (some d)) s
theorem z20(i:Nat)  (hN:X.N.Nodup)(hi:autoParam (X.N[i]? = some x) aRf)(hx:autoParam (Loc X.env.scope x) aOr)(hf:autoParam (X.fn x=true\/X.env.scope.names.lookup x=some .local) aLr):RG X E (.Name x pos) (yu i):= zgE (zL hN hi hx hf) λv O H Q ⟨Y,ρ,s,d,r,en,dn,h⟩=>okR.here  h r (en.set dn i)
noncomputable def qr(i j:Nat):FG:=λd ρ s=>match d with | .tup [x,y]=>.ok ((ρ.set i (some x)).set j (some y)) s | _=>.no
theorem z4z(i j:Nat){x y:Str}{px py:Pos}{kt:Nat}(hc:X.calm=true)(hN:X.N.Nodup)(hi:autoParam (X.N[i]? = some x) aRf)(hj:autoParam (X.N[j]? = some y) aRf)(hx:autoParam (Loc X.env.scope x) aOr)(hy:autoParam (Loc X.env.scope y) aOr) (hf:autoParam (X.fn x=true\/X.env.scope.names.lookup x=some .local) aLr)(i7:autoParam (X.fn y=true\/X.env.scope.names.lookup y=some .local) aLr): RG X E (.Tuple [.Name x px,.Name y py] kt pos) (qr i j):= zgE (zhp hc (z2t (zL hN hi hx hf) (z2t (zL hN hj hy i7) zdR))) λv O H Q ⟨Y,ρ,s,d,r,en,dn,h⟩=>by
  unfold qr at h;split at h
  ·obtain⟨p,vs,rfl,q1,q2⟩:=kW  dn;obtain⟨v1,v2,rfl,e1,e2⟩:=z8m q2;exact⟨p,[v1,v2],rfl,q1,rfl,v1,[v2],rfl,v2,[],rfl,rfl,okR.here h r ((en.set e1 i).set e2 j)⟩
  ·exact h.elim
noncomputable def uf(i:Nat)(f:FE):FS:=fun ρ s=>(f ρ s).bind λd s1=>.ok (.nx (ρ.set i (some d))) s1
theorem xX(i:Nat)  {bL:Pos}  (hN:X.N.Nodup)(he:RE X E e f)(hi:autoParam (X.N[i]? = some x) aRf)(hx:autoParam (Loc X.env.scope x) aOr)(hs:autoParam (swapsWith e (some (.Name x bL)) pos.line X.env=pure false) aRf) (hf:autoParam (X.fn x=true\/X.env.scope.names.lookup x=some .local) aLr):RS X E (.Assign [.Name x bL] e pos) (uf i f):= uP (zmd hN hi hx he hs hf) λD O H ⟨Y,ρ,s,r,en,h⟩=>yL (k:=fun ρ d s1=>R.ok (Fl.nx (ρ.set i (some d))) s1) r en h _ λv H1 Y1 s1 d r1 aG dn stp h1=>okR.here (b:=FlV.nx (O.set i (some v)))  h1 r1 (aG.set dn i)
noncomputable def zhK(f:FE)(g:FG):FS:=fun ρ s=>(f ρ s).bind λd s1=>(g d ρ s1).bind fun ρ' s2=>.ok (.nx ρ') s2
theorem zaO    (he:RE X E e f)(hg:RG X E tg g)(hs:autoParam (swapsWithSole [tg] e pos.line X.env=pure false) aRf)(hw:autoParam (swappedStores [tg] e X.env=pure none) aRf) (h1:autoParam ((assignEach [tg] X.env).map (·.2)=[assign tg X.env]) aRf):RS X E (.Assign [tg] e pos) (zhK f g):= uP (zh2 he hg hs hw h1) λD O H ⟨Y,ρ,s,r,en,h⟩=>yL (k:=fun ρ d s1=>(g d ρ s1).bind fun ρ' s2=>R.ok (Fl.nx ρ') s2) r en h _ λv H1 Y1 s1 d r1 aG dn stp h1=> ⟨Y1,ρ,s1,d,r1,aG,dn,(okR.bind  h1).imp λO' H' ⟨Y2,s2,ρ',ak,bz,q⟩=>okR.here (b:=FlV.nx O')  q ak.rep bz⟩
noncomputable def zm7(i j:Nat)(f:FA):FS:=fun ρ s=>(f ρ s).bind λds s1=>match ds with | [x,y]=>.ok (.nx ((ρ.set i (some x)).set j (some y))) s1 | _=>.no
theorem zjC(i j:Nat){x y:Str}{px py pt:Pos}{kt k2:Nat}{eM:Pos}  (hc:X.calm=true)(hN:X.N.Nodup)(ha:RA X E [a,b] f)(hi:autoParam (X.N[i]? = some x) aRf)(hj:autoParam (X.N[j]? = some y) aRf)(aF:autoParam (i≠j) aDe) (hx:autoParam (X.env.scope.names.lookup x=some .local) aRf)(hy:autoParam (X.env.scope.names.lookup y=some .local) aRf) (hw:autoParam (swappedStores [.Tuple [.Name x px,.Name y py] kt pt] (.Tuple [a,b] k2 eM) X.env=pure (some [x,y])) aRf) (hs:autoParam (swapsWithSole [.Tuple [.Name x px,.Name y py] kt pt] (.Tuple [a,b] k2 eM) pos.line X.env=pure false) aRf): RS X E (.Assign [.Tuple [.Name x px,.Name y py] kt pt] (.Tuple [a,b] k2 eM) pos) (zm7 i j f):= uP (zlf hc hN hi hj aF hx hy ha hw hs) λD O H ⟨Y,ρ,s,r,en,h⟩=>by
  refine qJ (k:=fun ρ ds s1=>match ds with | [x,y]=>R.ok (Fl.nx ((ρ.set i (some x)).set j (some y))) s1 | _=>.no) r en h _ λvs H1 Y1 s1 ds r1 aG dn stp h1=>?_;match ds,dn,h1 with
  | [],_,h1=>exact h1.elim | [_],_,h1=>exact h1.elim | _::_::_::_,_,h1=>exact h1.elim | [d1,d2],dn,h1=>
   obtain⟨v1,v2,rfl,e1,e2⟩:=z8m dn;exact⟨v1,v2,rfl,okR.here (b:=FlV.nx ((O.set i (some v1)).set j (some v2)))  h1 r1 ((aG.set e1 i).set e2 j)⟩
noncomputable def z92(fo fi fv:FE):FS:=fun ρ s=>(fv ρ s).bind λd s1=>(fo ρ s1).bind λo s2=>(fi ρ s2).bind λi s3=>match o,i with
 | .loc l,.int k=>match s3[l]? with
  | some xs=>match ixN xs.length k with
   | some j=>if d.flat=true then .ok (.nx ρ) (s3.set l (xs.set j d)) else .no | none=>.no
  | none=>.no
 | _,_=>.no
theorem z6L:∀{xs:List D}{d:D}{j:Nat},D.flat.flats xs=true->d.flat=true->D.flat.flats (xs.set j d)=true
 | [],_,_,_,_=>rfl | x::xs,d,0,h,hd=>by
  simp only[flC,flN,_ac,_aq]at h ⊢;exact⟨hd,h.2⟩ | x::xs,d,j+1,h,hd=>by
  simp only[flC,flN,_ac,_aN]at h ⊢;exact⟨h.1,z6L h.2 hd⟩
theorem vR:∀{xs ys:List D},D.flat.flats xs=true->D.flat.flats ys=true->D.flat.flats (xs++ys)=true
 | [],_,_,h=>h | x::xs,ys,h,h'=>by
  simp only[flC,flN,_ac,_aQ]at h ⊢;exact⟨h.1,vR h.2 h'⟩
theorem zah    (hv:RE X E e fv)(ho:RE X E o fo)(hi:RE X E i fi) (ha:∀v,assign (.Subscript o i p1) X.env v=(do
   let ov <- holding [v] (eval o X.env) let iv <- holding [v,ov] (eval i X.env)
   standAt p1
   holding [v,ov,iv] (setItem ov iv v)
   release [v,ov,iv] []):=by intro _;rfl) (hs:autoParam (swapsWithSole [.Subscript o i p1] e pos.line X.env=pure false) aRf)(hw:autoParam (swappedStores [.Subscript o i p1] e X.env=pure none) aRf) (h1:autoParam ((assignEach [.Subscript o i p1] X.env).map (·.2)=[assign (.Subscript o i p1) X.env]) aRf):RS X E (.Assign [.Subscript o i p1] e pos) (z92 fo fi fv):= uP (zh2 hv (zkb ho hi set_list ha) hs hw h1) λD O H ⟨Y,ρ,s,r,en,h⟩=>by
  refine⟨Y,ρ,s,r,en,(okR.bind  h).imp λv H1 ⟨Y1,s1,d,stp,dn,h1⟩=>⟨Y1,ρ,s1,stp.rep,en.mono stp,(okR.bind  h1).imp λov H2 ⟨Y2,s2,od,ak,aI,h2⟩=>⟨Y2,ρ,s2,ak.rep,(en.mono stp).mono ak,(okR.bind  h2).imp λiv H3 ⟨Y3,s3,id,ax,cr,h3⟩=>?_⟩⟩⟩;have dv:=(dn.mono ak).mono ax;have nO:=aI.mono ax;cases od with
  | loc l=> cases id with
   | int k=>
    simp only at h3;split at h3
    ·rename_i xs ex;split at h3
     ·rename_i j ej;split at h3
      ·rename_i hf;cases yJ cr;obtain⟨a,rfl,e1,ka⟩:=nO;obtain⟨vs,q1,q2⟩:=ax.rep.at_ ex e1 ka;have bj:=xH.put   ax.rep e1 ka (q2.set j dv) (z6L (ax.rep.flat xs (_d ex)) hf);exact⟨a,vs,k,j,rfl,rfl,q1,by rw[q2.length];exact ej,h3 (.nx O) _ _ bj ((((en.mono stp).mono ak).mono ax).mono bj)⟩
      ·exact h3.elim
     ·exact h3.elim
    ·exact h3.elim | _=>exact h3.elim
  | _=>exact h3.elim
noncomputable def zmt(fo fv:FE):FE:=fun ρ s=>(fo ρ s).bind λo s1=>match o with
 | .loc l=>(fv ρ s1).bind λd s2=>match s2[l]? with
  | some xs=>if d.flat=true/\xs.length<cap then .ok .non (s2.set l (xs++[d])) else .no | none=>.no
 | _=>.no
theorem zat  {aV:Pos}  (ho:RE X E o fo)(hv:RE X E e fv)(bi:autoParam (attributeBase o "append" X.env (eval o X.env)=eval o X.env) aRf) (bM:autoParam (((backTo pos (starEach [e] X.env)).all (λx=>!x.1)&&(backToKw pos (keywordEach [] X.env)).all (λx=>x.1.isSome) && decide ([e].length+([]:List Keyword).length+(if ([]:List Keyword).isEmpty then 0 else 1)<30))=true) aRf) (aE:autoParam ((aV.endLine==pos.line)=true) aRf)(hs:autoParam (starEach [e] X.env=(false,eval e X.env)::starEach [] X.env) aRf)(bf:autoParam ((backTo pos (starEach [] X.env)).any (·.1)=false) aRf): RE X E (.Call (.Attribute o "append" aV) [e] [] pos) (zmt fo fv):= yz (zjz PySem.F.plainAttrs_list PySem.F.slot_list_append PySem.F.type_list_append z7s ho (jC hv z1H hs) bi bM aE hs bf) λO H Q ⟨Y,ρ,s,r,en,h⟩=>by
  refine⟨Y,ρ,s,r,en,(okR.bind  h).imp λov H1 ⟨Y1,s1,od,stp,dn,h1⟩=>?_⟩;cases od with
  | loc l=>
   refine⟨(by
    obtain⟨a,rfl,e1,vs,e2⟩:=dn;exact .inl ⟨rfl,vs,.inl (.inl e2)⟩),⟨Y1,ρ,s1,stp.rep,en.mono stp,(okR.bind  h1).imp λv H2 ⟨Y2,s2,d,ak,aI,h2⟩=>?_⟩⟩;split at h2
   ·rename_i xs ex;split at h2
    ·rename_i hf;obtain⟨a,rfl,e1,ka⟩:=(dn.mono ak);obtain⟨vs,q1,q2⟩:=ak.rep.at_ ex e1 ka;refine⟨a,vs,v,rfl,rfl,q1,by rw[q2.length];exact zaC hf.2,h2 .non _ _ (xH.put   ak.rep e1 ka (q2.append (zU.one aI)) (vR (ak.rep.flat xs (_d ex)) (by simp[flC,flN,hf.1]))) (by rfl)⟩
    ·exact h2.elim
   ·exact h2.elim | _=>exact h1.elim
end
end Dd
namespace L2
theorem zlM    (hl:PE X l tl):PI X tg l (λO H R=>tl O H λx H1=>∃a,x=.ref a/\(((∃xs,SqL X.K H1 a xs)/\R (Itl X.K a) H1)\/((∃xs,SqT X.K H1 a xs)/\R (Itt X.K a) H1))):=by
 refine λac s O H R I h=>thn (hl ac s O H _ I h) λv s1 ⟨x,H1,I1,r1,q1⟩=>?_;obtain⟨a,e,q⟩:=q1;subst e;cases r1;rcases q with⟨⟨xs,hq⟩,q⟩ | ⟨⟨xs,hq⟩,q⟩
 ·obtain⟨ah,rv,p,hz⟩:=I1.list hq;refine wpAny_pyIter_list p.isList ⟨s1.heap.objs.size,[s1.heap.objs.size],_,_,H1,rfl,I1.kept  λb o e=>_e _ e,zdm a _,⟨_,_x _ rfl,rfl,rfl⟩,λb hb=>?_,q⟩;have e:b=s1.heap.objs.size:=by simpa using hb
  subst e;exact I1.fpOk (_h _) (I1.hok.fresh (_h _))
 ·obtain⟨ah,rv,p,hz⟩:=I1.tuple hq;refine wpAny_pyIter_tuple (p) ⟨s1.heap.objs.size,[s1.heap.objs.size],_,_,H1,rfl,I1.kept  λb o e=>_e _ e,zbC a _,⟨_,_x _ rfl,rfl,rfl⟩,λb hb=>?_,q⟩;have e:b=s1.heap.objs.size:=by simpa using hb
  subst e;exact I1.fpOk (_h _) (I1.hok.fresh (_h _))
theorem z0j.freeze        (h:z0j X ac O C (zd3 Q) af s'):z0j X ac O C Q af s':=by
 obtain⟨v,Hf,I,r,⟨a,xs,rfl,ha,q⟩,hm,f⟩:=h;obtain⟨ah,n,rv,e,_⟩:=I.lst ha;refine⟨_,_,I.freeze ha e (by intro _ z;cases z) (by intro _ _ z;cases z) (by intro _ z;cases z) (by intro _ z;cases z),r,q _,hm,?_,f.2⟩;rw[zq (λz=>by have:=f.1;rw[z,ha]at this;cases this)];exact f.1
theorem z8C     {pos aR py:Pos}       (N':List Str)(mp:List (Option Nat))(hN:X.N.Nodup)(hy:X.N[i]? = some y)(bZ:Loc X.env.scope y) (hc:X.calm=true)(hi:PI X tg ao wi)(hg:∀ex s H,PG (zD X N' scope ex s H) tg g)(ht:∀ex s H,z9C (zD X N' scope ex s H) aW ti)(he:∀ex s H,PE (zD X N' scope ex s H) aC te) (bc:scope.kind=.function)(aX:∀y∈scope.names,scope.names.lookup y.1=some y.2) (aY:∀y∈scope.names,y.2=.free->X.env.kindOf y.1=some .cell\/X.env.kindOf y.1=some .free)(bg:z5f X.N scope.names N' mp=true) (hs:autoParam (∀x,foldedSetIterable ao X.env x=pure x) aIr) (ce:autoParam (swapsWith (.ListComp aC [⟨tg,ao,aW,0⟩] scope pos) (some (.Name y py)) aR.line X.env=pure true) aRf) (hf:autoParam (X.fn y=true\/X.env.scope.names.lookup y=some .local) aLr): PS X (.Assign [.Name y py] (.ListComp aC [⟨tg,ao,aW,0⟩] scope pos) aR) (λD O H=>zgy wi mp g ti te O H (zd3 λv H'=>D.nx (O.set i (some v)) H')):=by
 intro ac s O H D I h;rw[_co _ _ _ _ ce];refine _a (_a1 (_a (_a (_F (_br   rfl hs (uh λy hy hf=>I.ok.has _ (aY y hy hf)) bc (λy hy hl=>by rw[aX y hy,hl]) (thn (hi ac s O H _ I h) λxv s₁ h₁=>thn h₁ λeN s₂ h₂=>?_)) (λ_ s' hq=>_i (_i hq)) λ_ _ e=>e))));obtain⟨it,fp,tn,J,H2,e,I2,T,av,f2,W,w0,turn⟩:=h₂;subst e;refine z1e       hc hg ht he bc aX aY bg I2 T av f2 W w0 turn ?_;intro af C s' hd;obtain⟨v,Hf,I3,r,q,⟨m,hm⟩,f⟩:=hd.freeze;exact _b7 (z0W I3 hN hy bZ r (λdC I4 ⟨a,sb,ha⟩=>⟨m,hm.sameBut sb (by
  rcases ha with z | z;·rw[z];exact f.2.1
  ·exact _a6 (f.2.2.2.2.1 y a z)),λh' fX=>⟨_,Hf,qT I4 f fX,q⟩⟩) hf)
end L2
namespace Dd
open L2
noncomputable abbrev ItD:=List D×List (Nat×List D)
def okG(g:List (Nat×List D))(all:List D)(s:Sto):Prop:=∀p∈g,s[p.1]? = some p.2
def zof(mg:Gm)(H0:Hp)(Y0:List Addr)(a:ItD)(J:It):Prop:=∀H Y s,xH mg H0 Y0 H Y s->okG a.2 a.1 s->∀i:Nat, (∀d,a.1[i]? = some d->J.go i H/\∀x H',J.yld i H x H'->∃Y',xH mg H Y H' Y' s/\Den mg H' Y' d x)/\(a.1.length<=i->J.stop i H)
abbrev FI:=Ev->Sto->R ItD
def tI(mg:Gm)(E:XK)(f:FI):TI:=λO H Rr=>∃Y ρ s,Rep mg H Y s/\qG mg H Y ρ O/\okR mg E H Y (zof mg) (f ρ s) Rr
def RI(X:Cx)(E:XK)(tg it:Expr)(f:FI):Prop:=PI X tg it (tI (gm X) E f)
section
variable {X:Cx}{E:XK}{e a b c tg:Expr}{es:List Expr}{pos:Pos}{CX:CXT}
theorem z6H   (h:PI X tg it t)(i:∀O H Q,t' O H Q->t O H Q):PI X tg it t':=λac s O H Q I q=>h ac s O H Q I (i O H Q q)
noncomputable def zM(f:FE):FI:=fun ρ s=>(f ρ s).bind λd s1=>match d with
 | .tup xs=>.ok (xs,[]) s1 | .lst xs=>.ok (xs,[]) s1 | .loc l=>match s1[l]? with | some xs=>.ok (xs,[(l,xs)]) s1 | none=>.no
 | _=>.no
theorem xz  (h:RE X E e f):RI X E tg e (zM f):=z6H (zlM h) λO H Q ⟨Y,ρ,s,r,en,h⟩=>by
 refine⟨Y,ρ,s,r,en,(okR.bind  h).imp λv H1 ⟨Y1,s1,d,stp,dn,h1⟩=>?_⟩;have lst:∀(a:Addr)(xs:List D)(g:List (Nat×List D)),(∀H2 Y2 s2,xH (gm X) H1 Y1 H2 Y2 s2->okG g xs s2->∃ws,SqL X.K H2 a ws/\zU (gm X) H2 Y2 xs ws)->zof (gm X) H1 Y1 (xs,g) (Itl X.K a):=λa xs g hq H2 Y2 s2 ak hg i=>by
  obtain⟨ws,q1,q2⟩:=hq H2 Y2 s2 ak hg;refine⟨λd hd=>?_,λhl=>⟨ws,q1,by rw[q2.length];exact hl⟩⟩;obtain⟨v,e1,e2⟩:=q2.get hd;refine⟨⟨ws,v,q1,e1⟩,λx H' ⟨e3,y⟩=>?_⟩;subst e3;have e4:=y ws q1;rw[e1]at e4;cases e4;exact⟨Y2,.refl ak.rep,e2⟩
 have tup:∀(a:Addr)(xs:List D),(∀H2 Y2 s2,xH (gm X) H1 Y1 H2 Y2 s2->∃ws,SqT X.K H2 a ws/\zU (gm X) H2 Y2 xs ws)->zof (gm X) H1 Y1 (xs,[]) (Itt X.K a):=λa xs hq H2 Y2 s2 ak hg i=>by
  obtain⟨ws,q1,q2⟩:=hq H2 Y2 s2 ak;refine⟨λd hd=>?_,λhl=>⟨ws,q1,by rw[q2.length];exact hl⟩⟩;obtain⟨v,e1,e2⟩:=q2.get hd;refine⟨⟨ws,v,q1,e1⟩,λx H' ⟨e3,y⟩=>?_⟩;subst e3;have e4:=y ws q1;rw[e1]at e4;cases e4;exact⟨Y2,.refl ak.rep,e2⟩
 cases d with
 | tup xs=>
  obtain⟨a,vs,rfl,q1,q2⟩:=kW  dn;refine⟨a,rfl,.inr ⟨⟨vs,q1⟩,h1.here stp.rep (tup a xs λH2 Y2 s2 ak=>?_)⟩⟩;obtain⟨a',ws,e,q3,q4⟩:=kW  (dn.mono ak);cases e;exact⟨ws,q3,q4⟩ | lst xs=>
  obtain⟨a,vs,rfl,q1,q2⟩:=yg  stp.rep rfl dn;refine⟨a,rfl,.inl ⟨⟨vs,.inl q1⟩,h1.here stp.rep (lst a xs [] λH2 Y2 s2 ak _=>?_)⟩⟩;obtain⟨a',ws,e,q3,q4⟩:=yg  ak.rep rfl (dn.mono ak);cases e;exact⟨ws,.inl q3,q4⟩ | loc l=>
  simp only at h1;split at h1
  ·rename_i xs ex;obtain⟨a,vs,rfl,q1,q2⟩:=yg (d:=.loc l) stp.rep ex dn;refine⟨a,rfl,.inl ⟨⟨vs,.inl q1⟩,h1.here stp.rep (lst a xs [(l,xs)] λH2 Y2 s2 ak hg=>?_)⟩⟩;obtain⟨a',ws,e,q3,q4⟩:=yg (d:=.loc l) ak.rep (hg (l,xs) (by simp)) (dn.mono ak);cases e;exact⟨ws,.inl q3,q4⟩
  ·exact h1.elim | _=>exact h1.elim
end
section
variable {X:Cx}{E:XK}{e a b c tg:Expr}{es:List Expr}{pos:Pos}{CX:CXT}
noncomputable def yP(n:Nat):List D:=(List.range n).map λ(k:Nat)=>D.int ((k:Nat):Int)
noncomputable def z8w(f:FA):FI:=fun ρ s=>(f ρ s).bind λds s1=>match ds with
 | [.int j]=>if -(2 ^ 62)<=j/\j<2 ^ 62 then .ok (yP j.toNat,[]) s1 else .no | _=>.no
theorem z01   (hg:Gl X "range")(hm:X.mg "range"=none)(ha:RA X E [a] f)(hs:autoParam (starEach [a] X.env=[(false,eval a X.env)]) aRf):RI X E tg (.Call (.Name "range" p) [a] [] pos) (z8w f):= z6H (zep hg hm ha hs) λO H Q ⟨Y,ρ,s,r,en,h⟩=>by
  refine⟨Y,ρ,s,r,en,(okR.bind  h).imp λvs H1 ⟨Y1,s1,ds,stp,dn,h1⟩=>?_⟩;split at h1
  ·rename_i j;split at h1
   ·rename_i hj;obtain⟨v,rfl,d1⟩:=z2R dn;cases yJ d1;refine⟨j,rfl,hj.1,hj.2,h1.here stp.rep λH2 Y2 s2 ak _ i=>⟨λd hd=>?_,λhl=>?_⟩⟩
    ·have hi:i<j.toNat:=by simpa[yP] using ((_b.mp hd).1)
     refine⟨hi,λx H' ⟨e1,e2⟩=>?_⟩;subst e1 e2;refine⟨Y2,.refl ak.rep,?_⟩;rw[(show d=D.int i from by
      simp only[yP,_ae,_cJ hi,_a8,_K]at hd;exact hd.symm)];exact _aw V.int (Int.zero_add _)
    ·rw[<- (show (yP j.toNat).length=j.toNat from by simp[yP])];exact hl
   ·exact h1.elim
  ·exact h1.elim
open Classical in
noncomputable def qe(g:List (Nat×List D))(all:List D)(body:D->Ev->Sto->R Fl):List D->Ev->Sto->R Fl
 | [],ρ,s=>if okG g all s then .ok (.nx ρ) s else .no | x::xs,ρ,s=>if okG g all s then (body x ρ s).bind λfl s1=>match fl with
   | .nx ρ'=>qe g all body xs ρ' s1 | .ct ρ'=>qe g all body xs ρ' s1 | .bk ρ'=>.ok (.nx ρ') s1 | .rt d=>.ok (.rt d) s1 else .no
noncomputable def zeD(fi:FI)(fg:FG)(fb:FS):FS:=fun ρ s=>(fi ρ s).bind λit s1=>qe it.2 it.1 (λd ρ s=>(fg d ρ s).bind fun ρ' s'=>fb ρ' s') it.1 ρ s1
theorem z7B      (hp:PassesOwn (model X.prog X.w) X.A X.env X.xe)(hc:X.calm=true)(hi:RI X E tg ao fi)(hg:RG X E tg fg)(hb:RSs X E body fb) (hs:autoParam (∀x,foldedSetIterable ao X.env x=pure x) aIr):RS X E (.For tg ao body [] pos) (zeD fi fg fb):= uP (zlk hp hc hi hg hb hs) λD O H ⟨Y,ρ,s,r,en,h⟩=>by
  refine⟨Y,ρ,s,r,en,(okR.bind  h).imp λJ H1 ⟨Y1,s1,it,stp,ok,h1⟩=>?_⟩;obtain⟨items,g⟩:=it;refine⟨λi m O H=>∃Y ρ s,xH (gm X) H1 Y1 H Y s/\qG (gm X) H Y ρ O/\m=items.length-i/\i<=items.length/\ okR (gm X) E H Y (FlD (gm X)) (qe g items (λd ρ s=>(fg d ρ s).bind fun ρ' s'=>fb ρ' s') (items.drop i) ρ s) (zeK D), ⟨items.length,Y1,ρ,s1,.refl stp.rep,en.mono stp,by rfl,_az _,by exact h1⟩,?_⟩;rintro i m O H ⟨Y2,ρ2,s2,ak,bz,rfl,lV,h2⟩;by_cases bU:i<items.length
  ·right;rw[_aH bU,qe]at h2;split at h2
   ·rename_i hG;obtain⟨go,yl⟩:=((ok H Y2 s2 ak hG i).1 items[i] (_c bU));refine⟨go,λO' H'=>∃Y ρ s,xH (gm X) H1 Y1 H' Y s/\qG (gm X) H' Y ρ O'/\okR (gm X) E H' Y (FlD (gm X)) (qe g items (λd ρ s=>(fg d ρ s).bind fun ρ' s'=>fb ρ' s') (items.drop (i+1)) ρ s) (zeK D), λO' H' ⟨Y3,ρ3,s3,q1,q2,q3⟩=>⟨items.length-(i+1),by omega,Y3,ρ3,s3,q1,q2,rfl,bU,q3⟩,λx H' y=>?_⟩;obtain⟨Y3,ax,cr⟩:=yl x H' y;refine⟨Y3,ρ2,s2,items[i],ax.rep,bz.mono ax,cr,(okR.bind  (okR.bind (Dn:=FlD (gm X)) (okR.rebase h2 ax))).imp λO5 H5 ⟨Y5,s5,ρ5,bu,i8,h5⟩=>?_⟩;refine⟨Y5,ρ5,s5,bu.rep,i8,h5.imp λfv H6 ⟨Y6,s6,fl,bA,cF,q6⟩=>?_⟩;have fZ  := (ak.trans ax).trans bA;cases fl with
    | nx ρ'=> cases fv with
     | nx O'=>exact⟨Y6,ρ',s6,fZ,cF,q6⟩ | _=>exact (cF).elim
    | ct ρ'=> cases fv with
     | ct O'=>exact⟨Y6,ρ',s6,fZ,cF,q6⟩ | _=>exact (cF).elim
    | bk ρ'=> cases fv with
     | bk O'=>exact okR.here (b:=FlV.nx O')    q6 bA.rep cF | _=>exact (cF).elim
    | rt d=> cases fv with
     | rt v=>exact okR.here  (Q:=zeK D)   q6 bA.rep cF | _=>exact (cF).elim
   ·exact h2.elim
  ·left;have e:i=items.length:=by omega
   subst e;rw[_cv,qe]at h2;split at h2
   ·rename_i hG;exact⟨(ok H Y2 s2 ak hG _).2 (_h _),okR.here (b:=FlV.nx O)  h2 ak.rep bz⟩
   ·exact h2.elim
end
end Dd
namespace Zz
def Sit(b:Bool)(h:Heap)(it l:Addr)(k:Nat):Prop:=match b with
 | true=>h.IsListIter it l k | false=>h.IsTupleIter it l k
def Sco(b:Bool)(h:Heap)(l:Addr)(xs:Array Value):Prop:=match b with
 | true=>h.IsList l xs | false=>h.IsTuple l xs
theorem Sit.to     (x:Sit b h it l k)(e:∀o,h.get? it=some o->h'.get? it=some o):Sit b h' it l k:=by cases b with
 | true=>obtain⟨o,ho,r⟩:=x;exact⟨o,e _ ho,r⟩ | false=>obtain⟨o,ho,r⟩:=x;exact⟨o,e _ ho,r⟩
theorem Sco.to     (x:Sco b h l xs)(e:∀o,h.get? l=some o->h'.get? l=some o):Sco b h' l xs:=by cases b with
 | true=>obtain⟨o,ho,r⟩:=x;exact⟨o,e _ ho,r⟩ | false=>obtain⟨o,ho,r⟩:=x;exact⟨o,e _ ho,r⟩
theorem Sit.lt     (x:Sit b h it l k):it<h.objs.size:=by cases b with
 | true=>obtain⟨o,ho,r⟩:=x;exact _u ho | false=>obtain⟨o,ho,r⟩:=x;exact _u ho
theorem Sit.ob     (x:Sit b h it l k):∃o,h.get? it=some o/\∀v,o.data≠.cell v:=by cases b with
 | true=>obtain⟨o,ho,_,d⟩:=x;exact⟨o,ho,λv z=>by rw[d]at z;cases z⟩ | false=>obtain⟨o,ho,_,d⟩:=x;exact⟨o,ho,λv z=>by rw[d]at z;cases z⟩
section
variable {P:Program}{w:World}{A:Around}{E:Value->Shared->Prop}{s:Shared}
theorem zku{it l:Addr}{k:Nat}{xs:Array Value}{x:Value}{R:Value->Shared->Prop}(h1:s.heap.IsTupleIter it l k)(h2:s.heap.IsTuple l xs)(e:xs[k]? = some x) (q:∀h',h'.IsTupleIter it l (k+1)->Heap.SameBut it s.heap h'->R x {s with heap:=h'}):wpAny (model P w) A (Builtin.SmallTypes.nextOf (.ref it)) R E s:=by
 obtain⟨o,ho,hc,hd⟩:=id h1;obtain⟨ol,i9,_,nl,j0⟩:=h2;refine _a (_am  h1.typeIs _bf (_at _bf h1.typeIs F.entry_tuple_iterator_next ?_ (F.args_tuple_iterator_next_1 _)));show wpAny _ _ (field (.ref it) 0 >>= _) _ _ s;refine _a (_aa ho hd  rfl ?_);refine _a (_aa ho hd  rfl (_a (_aJ i9 j0 ?_)));simp only[_bo,e];exact _a (wpAny_setField ho hd (by simp) (_i ⟨x,rfl,_i (q _ ⟨_,_bF _ ho (Obj.isFreed_of_fields (Obj.data_mapFields hd _)),(Obj.cls_mapFields ..).trans hc,by rw[Obj.data_mapFields hd];rfl⟩ (_cK ..))⟩))
theorem zba {it l:Addr} {k:Nat} {xs:Array Value} {R:Value->Shared->Prop} (hh:A.handled=none) (h1:s.heap.IsTupleIter it l k) (h2:s.heap.IsTuple l xs) (e:xs[k]? = none) (q:∀h' e,Heap.ExtBut it s.heap h'->(∃o,h'.get? e=some o/\o.cls=.type "StopIteration")->E (.ref e) {s with heap:=h'}):wpAny (model P w) A (Builtin.SmallTypes.nextOf (.ref it)) R E s:=by
 obtain⟨o,ho,hc,hd⟩:=id h1;obtain⟨ol,i9,_,nl,j0⟩:=h2;refine _a (_am  h1.typeIs _bf (_at _bf h1.typeIs F.entry_tuple_iterator_next ?_ (F.args_tuple_iterator_next_1 _)));show wpAny _ _ (field (.ref it) 0 >>= _) _ _ s;refine _a (_aa ho hd  rfl (_a (_aa ho hd  rfl ?_)));refine _a (_aJ i9 j0 ?_);simp only[_bo,e];refine _a (_ax (_a (wpAny_setField ho hd (by simp) (_a ?_))));refine _a (_bn ?_ (by size_fits));refine _a  (_c6  (by rfl) (_bn (_a (wpAny_handled ?_)) (by size_fits)));rw[hh];exact _a (_i (wpAny_throw (q _ _ (((_cK ..).extBut.push _).push _) ⟨_,_x _ rfl,rfl⟩)))
theorem nx{b:Bool}{it l:Addr}{k:Nat}{xs:Array Value}{x:Value}{R:Value->Shared->Prop}(h1:Sit b s.heap it l k)(h2:Sco b s.heap l xs)(e:xs[k]? = some x) (q:∀h',Sit b h' it l (k+1)->Heap.SameBut it s.heap h'->R x {s with heap:=h'}):wpAny (model P w) A (Builtin.SmallTypes.nextOf (.ref it)) R E s:=by cases b with
 | true=>exact wpAny_nextOf_list_item h1 h2 e q | false=>exact zku h1 h2 e q
theorem zcx {b:Bool} {it l:Addr} {k:Nat} {xs:Array Value} {R:Value->Shared->Prop} (hh:A.handled=none) (h1:Sit b s.heap it l k) (h2:Sco b s.heap l xs) (e:xs[k]? = none) (q:∀h' e,Heap.ExtBut it s.heap h'->(∃o,h'.get? e=some o/\o.cls=.type "StopIteration")->E (.ref e) {s with heap:=h'}):wpAny (model P w) A (Builtin.SmallTypes.nextOf (.ref it)) R E s:=by cases b with
 | true=>exact wpAny_nextOf_list_end hh h1 h2 e q | false=>exact zba hh h1 h2 e q
theorem zF   (hs:Heap.SameBut a h h')   (n:b≠a)(e:h.get? b=some o):h'.get? b=some o:=hs.extBut _ _ n e
theorem zie {z TI TO i1 i2 l1 l2:Addr} {b1 b2:Bool} {k:Nat} {xs ys:Array Value} {x y a b:Value} {Q:Option Value->Shared->Prop} (D:ZipApart z TI TO i1 i2 l1 l2) (hz:IsZip s.heap z TI TO .none) (cf:IsPair s.heap TI (.ref i1) (.ref i2)) (cu:IsPair s.heap TO a b) (h1:Sit b1 s.heap i1 l1 k) (h2:Sit b2 s.heap i2 l2 k) (c1:Sco b1 s.heap l1 xs) (c2:Sco b2 s.heap l2 ys) (ex:xs[k]? = some x) (ey:ys[k]? = some y) (q:∀h',IsZip h' z TI TO (rawInt s.heap.objs.size)->IsPair h' TO x y->Sit b1 h' i1 l1 (k+1)->Sit b2 h' i2 l2 (k+1)->IsPair h' s.heap.objs.size x y->h'.objs.size=s.heap.objs.size+1-> (∀c o,c≠z->c≠TO->c≠i1->c≠i2->s.heap.get? c=some o->h'.get? c=some o)->Q (some (.ref s.heap.objs.size)) {s with heap:=h'}):wpAny (model P w) A (pyNext (.ref z)) Q E s:=by
 have hT:s.TypeIs (.ref z) "zip":=⟨_,hz,rfl⟩;unfold pyNext;refine _a (_cy (_am  hT _cF (_at _cF hT F.entry_zip_next  ?_ (F.args_zip_next_1 _))));show wpAny _ _ (field (.ref z) 2 >>= _) _ _ _;refine _a (_aa hz rfl  rfl ?_);refine _a (_aa hz rfl  rfl ?_);refine _a (_aJ cf rfl ?_);refine _a ?_;unfold Builtin.SmallTypes.ownedTupleIsFree;refine _a (_aa hz rfl  rfl (_i ?_));simp only[_G];refine _a (_ax ?_);refine _a (_aa hz rfl  rfl ?_);refine _a (_ag hz (by simp) λg1 z1 s1=>?_);replace z1  := z1;refine _a ?_;refine _a (_a (_da ?_));refine _a (nx (h1.to λo e=>zF s1 D.i1z e) (c1.to λo e=>zF s1 D.l1z e) ex λg2 t2 s2=>_i ?_);have o2  := zF s2 D.TOi1 (zF s1 D.TOz cu);refine _a (_aJ o2 rfl ?_);refine _a (_cB o2 λg3 o3 s3=>?_);replace o3  := o3;refine _a (_bJ (_i ?_));refine _a (_a (_da ?_));refine _a (nx (h2.to λo e=>zF s3 D.TOi2.symm (zF s2 D.i12.symm (zF s1 D.i2z e))) (c2.to λo e=>zF s3 D.l2TO (zF s2 D.l2i1 (zF s1 D.l2z e))) ey λg4 t4 s4=>_i ?_);have o4  := zF s4 D.TOi2 o3;refine _a (_aJ o4 rfl ?_);refine _a (_cB o4 λg5 o5 s5=>?_);replace o5:IsPair g5 TO x y:=o5;refine _a (_bJ (_i (_i ?_)));refine _a (_aJ o5 rfl ?_);refine _a (wpAny_newTuple ?_);have sz:g5.objs.size=s.heap.objs.size:=by rw[s5.1,s4.1,s3.1,s2.1,s1.1]
 have z5  := zF s5 D.TOz.symm (zF s4 D.i2z.symm (zF s3 D.TOz.symm (zF s2 D.i1z.symm z1)));have t5:Sit b1 g5 i1 l1 (k+1):=t2.to λo e=>zF s5 D.TOi1.symm (zF s4 D.i12 (zF s3 D.TOi1.symm e));have u5:Sit b2 g5 i2 l2 (k+1):=t4.to λo e=>zF s5 D.TOi2.symm e;have zl  := _u z5;refine _a ?_;have z6:IsZip (g5.push {cls:=.type "tuple",data:=.seq #[x,y]}) z TI TO .ellipsis:=_e _ z5;refine _a (_ag z6 (by simp) λg7 z7 s7=>?_);replace z7  := z7;refine _ag z7 (by simp) λg8 z8 s8=>?_;replace z8  := z8;have up:∀c o,c≠z->g5.get? c=some o->g8.get? c=some o:=λc o n e=>zF s8 n (zF s7 n (_e _ e));have p8  := zF s8 (_do zl) (zF s7 (_do zl) (_x _ rfl));have e8:g8.objs.size=g5.objs.size+1:=by rw[s8.1,s7.1,_ay]
 rw[sz]at z8 p8 e8;refine _i ⟨_,rfl,_i ?_⟩;show Q (some (.ref g5.objs.size)) _;rw[sz];exact q g8 z8 (up _ _ D.TOz o5) (t5.to λo e=>up _ o D.i1z e) (u5.to λo e=>up _ o D.i2z e) p8 e8 λc o n1 n2 n3 n4 e=>up c o n1 ((λc o n1 n2 n3 n4 e=>zF s5 n2 (zF s4 n4 (zF s3 n2 (zF s2 n3 (zF s1 n1 e))))) c o n1 n2 n3 n4 e)
theorem zlW{z TI TO i1 i2 l1 l2:Addr}{b1 b2:Bool}{k:Nat}{xs ys:Array Value}{a b:Value}{Q:Option Value->Shared->Prop}(hh:A.handled=none)(D:ZipApart z TI TO i1 i2 l1 l2) (hz:IsZip s.heap z TI TO .none)(cf:IsPair s.heap TI (.ref i1) (.ref i2))(cu:IsPair s.heap TO a b) (h1:Sit b1 s.heap i1 l1 k)(h2:Sit b2 s.heap i2 l2 k)(c1:Sco b1 s.heap l1 xs)(c2:Sco b2 s.heap l2 ys)(en:xs[k]? = none\/ys[k]? = none) (q:∀h',(∀c o,c≠z->c≠TO->c≠i1->c≠i2->s.heap.get? c=some o->h'.get? c=some o)->Q none {s with heap:=h'}):wpAny (model P w) A (pyNext (.ref z)) Q E s:=by
 have hT:s.TypeIs (.ref z) "zip":=⟨_,hz,rfl⟩;have fin:∀h' e,(∀c o,c≠z->c≠TO->c≠i1->c≠i2->s.heap.get? c=some o->h'.get? c=some o)->(∃o,h'.get? e=some o/\o.cls=.type "StopIteration")-> wpAny (model P w) A (isInstance (.ref e) (.type "StopIteration") >>= λb=>if b=true then (pure none) else throw (.ref e)) Q E {s with heap:=h'}:=λh' e hk he=>by
  obtain⟨o,ho,hc⟩:=he;exact _a (_cw   ⟨o,ho,hc⟩ isSubtype_stop (_i (q _ hk)))
 refine _a (_cy (_am  hT _cF (_at _cF hT F.entry_zip_next ?_ (F.args_zip_next_1 _))));show wpAny _ _ (field (.ref z) 2 >>= _) _ _ _;refine _a (_aa hz rfl  rfl ?_);refine _a (_aa hz rfl  rfl (_a (_aJ cf rfl ?_)));refine _a ?_;refine _a (_aa hz rfl  rfl (_i ?_));refine _a (_ax ?_);refine _a (_aa hz rfl  rfl (_a (_ag hz (by simp) λg1 z1 s1=>?_)));refine _a ?_;refine _a (_a (_da ?_));cases ex:xs[k]? with
 | none=>
  refine _a (zcx hh (h1.to λo e=>zF s1 D.i1z e) (c1.to λo e=>zF s1 D.l1z e) ex λg2 e s2 he=>?_);obtain⟨oe,eh,gc⟩:=he;have z2  := s2 _ _ D.i1z.symm z1;exact _ag z2 (by simp) λg3 _ s3=>fin g3 e (λc o n1 _ n3 _ t=>zF s3 n1 (s2 _ _ n3 (zF s1 n1 t))) ⟨oe,zF s3 (λt=>by subst t;rw[z2]at eh;cases eh;simp at gc) eh,gc⟩ | some x=>
  refine _a (nx (h1.to λo e=>zF s1 D.i1z e) (c1.to λo e=>zF s1 D.l1z e) ex λg2 t2 s2=>_i ?_);have o2  := zF s2 D.TOi1 (zF s1 D.TOz cu);refine _a (_aJ o2 rfl ?_);refine _a (_cB o2 λg3 o3 s3=>(_a (_bJ (_i ?_))));refine _a (_a (_da ?_));refine _a (zcx hh (h2.to λo e=>zF s3 D.TOi2.symm (zF s2 D.i12.symm (zF s1 D.i2z e))) (c2.to λo e=>zF s3 D.l2TO (zF s2 D.l2i1 (zF s1 D.l2z e))) (by rcases en with t | t;rw[ex]at t;cases t;exact t) λg4 e s4 he=>?_);obtain⟨oe,eh,gc⟩:=he;have z4:IsZip g4 z TI TO .ellipsis:=s4 _ _ D.i2z.symm (zF s3 D.TOz.symm (zF s2 D.i1z.symm z1));exact _ag z4 (by simp) λg5 _ s5=>fin g5 e (λc o n1 n2 n3 n4 t=>zF s5 n1 (s4 _ _ n4 (zF s3 n2 (zF s2 n3 (zF s1 n1 t))))) ⟨oe,zF s5 (λt=>by subst t;rw[z4]at eh;cases eh;simp at gc) eh,gc⟩
end
noncomputable def itO(b:Bool)(l:Addr):Obj:=match b with
 | true=>{cls:=.type "list_iterator",data:=.fields #[.ref l,.int 0 0]} | false=>{cls:=.type "tuple_iterator",data:=.fields #[.ref l,.int 0 0]}
theorem z74    (e:h.get? a=some (itO b l)):Sit b h a l 0:=by cases b with
 | true=>exact⟨_,e,rfl,rfl⟩ | false=>exact⟨_,e,rfl,rfl⟩
theorem z2q(b:Bool)(l:Addr):(itO b l).isFreed=false:=by cases b<;>rfl
section
variable {P:Program}{w:World}{A:Around}{E:Value->Shared->Prop}{s:Shared}
theorem z4E     (h:Sco b s.heap l xs) (q:Q (.ref s.heap.objs.size) {s with heap:=s.heap.push (itO b l)}):wpAny (model P w) A (pyIter (.ref l)) Q E s:=by cases b with
 | true=>exact wpAny_pyIter_list h q | false=>exact wpAny_pyIter_tuple h q
end
noncomputable abbrev G1(b1:Bool)(h:Heap)(l1:Addr):Heap:=h.push (itO b1 l1)
noncomputable abbrev G2(b1 b2:Bool)(h:Heap)(l1 l2:Addr):Heap:=(G1 b1 h l1).push (itO b2 l2)
noncomputable abbrev G3(b1 b2:Bool)(h:Heap)(l1 l2:Addr):Heap:=(G2 b1 b2 h l1 l2).push {cls:=.type "tuple",data:=.seq #[.ref h.objs.size,.ref (G1 b1 h l1).objs.size]}
noncomputable abbrev G4(b1 b2:Bool)(h:Heap)(l1 l2:Addr):Heap:=(G3 b1 b2 h l1 l2).push {cls:=.type "tuple",data:=.seq #[.none,.none]}
noncomputable abbrev G5(b1 b2:Bool)(h:Heap)(l1 l2:Addr):Heap:=(G4 b1 b2 h l1 l2).push {cls:=.type "zip",data:=.fields #[.none,.bool false,.bool false,.ref (G2 b1 b2 h l1 l2).objs.size,.ref (G3 b1 b2 h l1 l2).objs.size]}
theorem zeq (b1 b2:Bool) (l1 l2:Addr) (xs ys:Array Value): Meets (Builtin.«zip.__new__» ⟨[.type "zip",.ref l1,.ref l2],[]⟩) (λ_ R s=>Sco b1 s.heap l1 xs/\Sco b2 s.heap l2 ys/\R (.ok (.ret (.ref (G4 b1 b2 s.heap l1 l2).objs.size))) {s with heap:=G5 b1 b2 s.heap l1 l2}):= .of_wp λprog w A R s h=>by
  obtain⟨hp,g,d,tk,os⟩:=s;obtain⟨c1,c2,h⟩:=h;have j5:=sub_zip;have q1  := c1;have q2:Sco b2 (Shared.heap ⟨hp.push (itO b1 l1),g,d,tk,os⟩) l2 ys:=c2.to λo e=>_e _ e;wp_walk using z4E q1,z4E q2;exact⟨_,rfl,h⟩
section
variable {P:Program}{w:World}{A:Around}{E:Value->Shared->Prop}{s:Shared}
theorem zgc     (c1:Sco b1 s.heap l1 xs) (c2:Sco b2 s.heap l2 ys) (h:∀h',IsZip h' (s.heap.objs.size+4) (s.heap.objs.size+2) (s.heap.objs.size+3) .none->IsPair h' (s.heap.objs.size+2) (.ref s.heap.objs.size) (.ref (s.heap.objs.size+1))-> IsPair h' (s.heap.objs.size+3) .none .none->Sit b1 h' s.heap.objs.size l1 0->Sit b2 h' (s.heap.objs.size+1) l2 0->(∀c o,s.heap.get? c=some o->h'.get? c=some o)->Q (.ref (s.heap.objs.size+4)) {s with heap:=h'}): wpAny (model P w) A (call (.type "zip") [.ref l1,.ref l2]) Q E s:=by
 refine callType_new F.called_zip (by decide) (F.typeCall_zip_2 _ _) (F.newCall_zip_2 _ _) (λobj=>F.args_object_init_3 obj _ _) F.entry_zip_new (zeq b1 b2 l1 l2 xs ys) ⟨c1,c2,?_⟩;have z1:(G1 b1 s.heap l1).objs.size=s.heap.objs.size+1:=_ay ..;have z2:(G2 b1 b2 s.heap l1 l2).objs.size=s.heap.objs.size+2:=by rw[_ay,z1]
 have z3:(G3 b1 b2 s.heap l1 l2).objs.size=s.heap.objs.size+3:=by rw[_ay,z2]
 have z4:(G4 b1 b2 s.heap l1 l2).objs.size=s.heap.objs.size+4:=by rw[_ay,z3]
 have up:∀{h:Heap} {o:Obj} {c:Addr} {u:Obj},h.get? c=some u->(h.push o).get? c=some u:=λe=>_e _ e;have g5:(G5 b1 b2 s.heap l1 l2).get? (G4 b1 b2 s.heap l1 l2).objs.size=some _:=_x _ rfl;have g4:(G5 b1 b2 s.heap l1 l2).get? (G3 b1 b2 s.heap l1 l2).objs.size=some _:=up (_x _ rfl);have g3:(G5 b1 b2 s.heap l1 l2).get? (G2 b1 b2 s.heap l1 l2).objs.size=some _:=up (up (_x _ rfl));have g2:(G5 b1 b2 s.heap l1 l2).get? (G1 b1 s.heap l1).objs.size=some (itO b2 l2):=up (up (up (_x _ (z2q b2 l2))));rw[z2,z3,z4]at g5;rw[z1,z2]at g3;rw[z3]at g4;rw[z1]at g2;rw[z4];exact⟨⟨_,g5,rfl⟩,h _ g5 g3 g4 (z74 (up (up (up (up (_x _ (z2q b1 l1))))))) (z74 g2) λc o e=>up (up (up (up (up e))))⟩
end
end Zz
namespace L2
open Zz
def Sq(b:Bool)(K:W.Frag)(H:Hp)(a:Addr)(xs:List V):Prop:=match b with
 | true=>SqL K H a xs | false=>SqT K H a xs
section
variable {X:Cx}{ac:List (Addr×Obj)}{O:St}{H:Hp}{s:Shared}{h':Heap}
theorem Inv.sq    (I:Inv X ac O H s)(h:Sq b X.K H a xs):∃ah:List Value,xF xs ah/\Sco b s.heap a ah.toArray:=by cases b with
 | true=>obtain⟨ah,r,p,_⟩:=I.list h;exact⟨ah,r,p.isList⟩ | false=>obtain⟨ah,r,p,_⟩:=I.tuple h;exact⟨ah,r,p⟩
theorem Inv.sq_inj    (I:Inv X ac O H s)(h:Sq b X.K H a xs)(h':Sq b X.K H a ys):xs=ys:=by cases b with
 | true=>exact I.list_inj h h' | false=>exact I.tuple_inj h h'
theorem Inv.turnedL  {ch:List Addr}(I:Inv X ac O H s)(k:∀b o,b∉ch->s.heap.get? b=some o->h'.get? b=some o)(f:∀b∈ch,z89 X ac H b):Inv X ac O H {s with heap:=h',toks:=t'}:=by
 have fw:∀b u,H b=some u->b∉ch:=λb u e z=>by rw[(f b z).1]at e;cases e
 refine I.step    (λb hb=>⟨(f b hb).2.2.2.1,(f b hb).2.1,(f b hb).2.2.2.2.1,(f b hb).2.2.2.2.2⟩) (λb o _ _ hc e _=>k b o hc e) (λb o _ _ hc e _=>⟨o.slots,k b o hc e⟩) (λ_ _ _ _ n=>n) (λb o hc e=>⟨o,k b o hc e⟩) (λ_ _ e=>e) (λ_ _ _ e=>e) (λb ps e=>⟨#[],by rw[e];simp⟩) (λm hm=>?_) (λb u e=>?_) I.bare
 ·obtain⟨o,es,ep,ho,r⟩:=hm;exact⟨o,es,ep,k _ o (λz=>(f _ z).2.1 rfl) ho,r⟩
 ·refine (I.hok b u e).stay (λc v hc q=>k c v ?_ q) (λ_ q=>q) λ_ _ q=>q;rcases hc with z | z;·rw[z];exact fw b u e
  ·exact fw c _ z
end
noncomputable def Itz(K:W.Frag)(b1 b2:Bool)(l1 l2:Addr):It:= ⟨λi H=>∃xs ys x y,Sq b1 K H l1 xs/\Sq b2 K H l2 ys/\xs[i]? = some x/\ys[i]? = some y, λi H v H'=>∃T x y,H T=none/\v=.ref T/\H'=upd H T (.tup [x,y])/\(∀xs,Sq b1 K H l1 xs->xs[i]? = some x)/\∀ys,Sq b2 K H l2 ys->ys[i]? = some y, λi H=>∃xs ys,Sq b1 K H l1 xs/\Sq b2 K H l2 ys/\(xs.length<=i\/ys.length<=i)⟩
theorem zg6   {K:W.Frag}     {z TI TO i1 i2 l1 l2:Addr}(D:ZipApart z TI TO i1 i2 l1 l2): zfq P w K (.Tuple bJ kt tp) (Itz K b1 b2 l1 l2) [z,TI,TO,i1,i2] z (λi h=>IsZip h z TI TO .none/\IsPair h TI (.ref i1) (.ref i2)/\(∃a b,IsPair h TO a b)/\Sit b1 h i1 l1 i/\Sit b2 h i2 l2 i) where
 mem:=by simp
 obj:=λi h ⟨hz,cf,⟨a,b,cu⟩,h1,h2⟩ c hc=>by
  rcases (by simpa using hc) with rfl | rfl | rfl | rfl | rfl;·exact⟨_,hz,λv e=>by simp at e⟩
  ·exact⟨_,cf,λv e=>by simp at e⟩
  ·exact⟨_,cu,λv e=>by simp at e⟩
  ·exact h1.ob
  ·exact h2.ob
 keep:=λi h h' ⟨hz,cf,⟨a,b,cu⟩,h1,h2⟩ k=>⟨k z (by simp) _ hz,k TI (by simp) _ cf,⟨a,b,k TO (by simp) _ cu⟩,h1.to λo e=>k i1 (by simp) o e,h2.to λo e=>k i2 (by simp) o e⟩;item:=by
  intro X hP hw hK hc i ac s O H E I hf ⟨hz,cf,⟨a,b,cu⟩,h1,h2⟩ ⟨xs,ys,x,y,qx,qy,ex,ey⟩;subst hP hw hK;obtain⟨ix,rx,cx⟩:=I.sq qx;obtain⟨iy,ry,cy⟩:=I.sq qy;obtain⟨u,hu,ru⟩:=rx.get ex;obtain⟨v,hv,rv⟩:=ry.get ey;refine zie D hz cf cu h1 h2 cx cy   (by simpa using hu) (by simpa using hv) λg a1 a2 a3 a4 a5 a6 hk=>⟨_,rfl,?_⟩;have I1  := I.turnedL (t':=s.toks) (λc o n e=>hk c o (λt=>n (by simp[t])) (λt=>n (by simp[t])) (λt=>n (by simp[t])) (λt=>n (by simp[t])) e) λc hc=>hf c ((λc hc=>by rcases (by simpa using hc) with rfl | rfl | rfl | rfl<;>simp:∀c∈[z,TO,i1,i2],c∈[z,TI,TO,i1,i2]) c hc);refine wpAny_letOwnedTupleGo_zip a1 λg2 z2 s2=>?_;obtain⟨f0,f1,f2,f3,f4,f5⟩:=hf z (by simp);have new  := I.fpOk (_h _) (I.hok.fresh (_h _));have ne:∀{c:Addr}{o:Obj},s.heap.get? c=some o->c≠s.heap.objs.size:=λe=>_H (_u e);refine⟨.ref s.heap.objs.size,upd H s.heap.objs.size (.tup [x,y]),(I1.turned (t':=s.toks) (λc o n e=>zF s2 n e) f0 f1 f3 f4 f5).track new ⟨?_,[u,v],.cons ru (.cons rv .nil),⟨_,(zF s2 (ne hz).symm a5),rfl,rfl,_,rfl⟩⟩,rfl,⟨_,x,y,new.1,rfl,rfl,λzs qz=>?_,λzs qz=>?_⟩,⟨z2,?_,⟨_,_,zF s2 D.TOz a2⟩,a3.to λo e=>zF s2 D.i1z e,a4.to λo e=>zF s2 D.i2z e⟩,λc hc=>?_⟩;·show 2<=sizeLine;decide
  ·rw[I.sq_inj qz qx];exact ex
  ·rw[I.sq_inj qz qy];exact ey
  ·exact zF s2 D.TIz (hk TI _ D.TIz D.TITO D.TIi1 D.TIi2 cf)
  ·rw[zq (by
    rcases (by simpa using hc) with rfl | rfl | rfl | rfl | rfl;·exact ne hz
    ·exact ne cf
    ·exact ne cu
    ·exact _H h1.lt
    ·exact _H h2.lt)];exact (hf c hc).1
 done:=by
  intro X hP hw hK hc i ac s O H E I hf ⟨hz,cf,⟨a,b,cu⟩,h1,h2⟩ ⟨xs,ys,qx,qy,hl⟩;subst hP hw hK;obtain⟨ix,rx,cx⟩:=I.sq qx;obtain⟨iy,ry,cy⟩:=I.sq qy;have lx:=rx.length;have ly:=ry.length;refine zlW (I.ok.hd hc) D hz cf cu h1 h2 cx cy ?_ λg hk=>⟨rfl,(I.turnedL  (ch:=[z,TO,i1,i2]) (λc o n e=>hk c o (λt=>n (by simp[t])) (λt=>n (by simp[t])) (λt=>n (by simp[t])) (λt=>n (by simp[t])) e) λc hc=>hf c (by rcases (by simpa using hc) with rfl | rfl | rfl | rfl<;>simp))⟩
  ·rcases hl with hl | hl;·exact .inl (by simp;lia)
   ·exact .inr (by simp;lia)
 self:=λ_ _ _ _ _ st h=>wpAny_pyIter_zip st.1 h
theorem zmc  {bJ:List Expr}{kt:Nat}{tp:Pos}   {p pos:Pos}(hg:Gl X "zip")(hm:X.mg "zip"=none)(ha:PA X [a,b] ta)(hs:autoParam (starEach [a,b] X.env=(false,eval a X.env)::starEach [b] X.env) aRf)(be:autoParam ((backTo pos (starEach [b] X.env)).any (·.1)=false) aRf): PI X (.Tuple bJ kt tp) (.Call (.Name "zip" p) [a,b] [] pos) (λO H R=>ta O H λvs H1=>∃l1 l2 b1 b2,vs=[.ref l1,.ref l2]/\(∃xs,Sq b1 X.K H1 l1 xs)/\(∃ys,Sq b2 X.K H1 l2 ys)/\R (Itz X.K b1 b2 l1 l2) H1):=by
 refine λac s O H R I h=>_ao (kL I hg hm  (by rfl) (_ah (thn (ha pos ac s O H _ I h) λus s1 ⟨vs,H1,I1,r1,q1⟩=>?_) hs be) (by decide) (by decide));obtain⟨l1,l2,b1,b2,rfl,⟨xs,qx⟩,⟨ys,qy⟩,q⟩:=q1;cases r1 with | cons r1 r2=> cases r2 with | cons r2 r3=>
   cases r3;cases r1;cases r2;obtain⟨ix,rx,cx⟩:=I1.sq qx;obtain⟨iy,ry,cy⟩:=I1.sq qy;have nP:l1<s1.heap.objs.size:=by cases b1 with
    | true=>obtain⟨o,e,_⟩:=cx;exact _u e | false=>obtain⟨o,e,_⟩:=cx;exact _u e
   refine zgc cx cy λg hz cf cu h1 h2 hk=>(wpAny_pyIter_zip hz ?_);refine⟨_,_,_,_,H1,rfl,I1.kept  hk,zg6 (by
    have e1:∀k:Nat,l1≠s1.heap.objs.size+k:=λk=>_H (_q nP (_bP _ _));have e2:∀k:Nat,l2≠s1.heap.objs.size+k:=λk=>_H (_q (by cases b2 with
    | true=>obtain⟨o,e,_⟩:=cy;exact _u e | false=>obtain⟨o,e,_⟩:=cy;exact _u e) (_bP _ _));have nk:∀(m j k:Nat),j≠k->m+j≠m+k:=λm j k h z=>h (Nat.add_left_cancel z);exact⟨nk _ 2 4 (by decide),nk _ 3 4 (by decide),nk _ 0 4 (by decide),nk _ 1 4 (by decide),nk _ 2 3 (by decide),nk _ 2 0 (by decide),nk _ 2 1 (by decide),nk _ 3 0 (by decide),nk _ 3 1 (by decide),nk _ 0 1 (by decide),e1 4,e1 3,e1 0,e1 1,e2 4,e2 3,e2 0,e2 1⟩),⟨hz,cf,⟨_,_,cu⟩,h1,h2⟩,λc hc=>?_,q⟩;have cA:s1.heap.objs.size<=c:=by rcases (by simpa using hc) with rfl | rfl | rfl | rfl | rfl<;>first | exact _h _ | exact _bP _ _
   exact I1.fpOk cA (I1.hok.fresh cA)
end L2
namespace Zz
section
variable {P:Program}{w:World}{A:Around}{E:Value->Shared->Prop}{s:Shared}
theorem z3O     (hh:A.handled=none)(h:Sco b s.heap l ah) (k:∀s2:Shared,s2={s with heap:=s.heap.push (itO b l)}->∀St:Nat->Heap->Prop,Walks P w A s.heap.objs.size [s.heap.objs.size,l] [s.heap.objs.size] ah.size (λi v=>ah[i]? = some v) St->St 0 s2.heap-> (∀c∈[s.heap.objs.size,l],c<s2.heap.objs.size)->(∀h':Heap,(∀c o,c∉[s.heap.objs.size]->s2.heap.get? c=some o->h'.get? c=some o)->∀c o,s.heap.get? c=some o->h'.get? c=some o)->Q (.ref s.heap.objs.size) s2):wpAny (model P w) A (pyIter (.ref l)) Q E s:=by
 have lt:l<s.heap.objs.size:=by cases b with
  | true=>obtain⟨o,e,_⟩:=h;exact _u e | false=>obtain⟨o,e,_⟩:=h;exact _u e
 have ne  := _H lt;have bd:∀c∈[s.heap.objs.size,l],c<(s.heap.push (itO b l)).objs.size:=λc hc=>by
  rw[_ay];rcases (by simpa using hc) with rfl | rfl;·exact _cu _
  ·exact _bp lt
 have bh:∀h':Heap,(∀c o,c∉[s.heap.objs.size]->(s.heap.push (itO b l)).get? c=some o->h'.get? c=some o)->∀c o,s.heap.get? c=some o->h'.get? c=some o:=λh' hk c o e=> hk c o (λz=>absurd ((show c=s.heap.objs.size from by simpa using z) ▸ _u e) (_aB _)) (_e _ e);refine z4E h ?_;have g:(s.heap.push (itO b l)).get? s.heap.objs.size=some (itO b l):=_x _ (z2q b l);cases b with
 | true=>exact k _ rfl _ (Walks.list hh _ l ne ah) ⟨z74  g,Sco.to  h λo e=>_e _ e⟩ bd bh | false=>exact k _ rfl _ (Walks.tuple hh _ l ne ah) ⟨z74  g,Sco.to  h λo e=>_e _ e⟩ bd bh
end
end Zz
namespace L2
open Zz
noncomputable def maxL:List Int->Int
 | []=>0 | x::xs=>xs.foldl max x
noncomputable def minL:List Int->Int
 | []=>0 | x::xs=>xs.foldl min x
theorem uV:∀(xs:List Int)(x:Int),x<=xs.foldl max x/\(∀y∈xs,y<=xs.foldl max x)/\(xs.foldl max x=x\/xs.foldl max x∈xs)
 | [],x=>⟨Int.le_refl _,by simp,.inl rfl⟩ | y::ys,x=>by
  obtain⟨h1,h2,h3⟩:=uV ys (max x y);refine⟨by simp only[_bA];lia,λz hz=>?_,?_⟩
  ·simp only[_bA];rcases _r.mp hz with rfl | hz;·lia
   ·exact h2 z hz
  ·simp only[_bA];rcases h3 with h3 | h3
   ·rw[h3];rcases Int.le_total x y with h | h;·exact .inr (by rw[Int.max_eq_right h];simp)
    ·exact .inl (Int.max_eq_left h)
   ·exact .inr (_J _ h3)
theorem uY:∀(xs:List Int)(x:Int),xs.foldl min x<=x/\(∀y∈xs,xs.foldl min x<=y)/\(xs.foldl min x=x\/xs.foldl min x∈xs)
 | [],x=>⟨Int.le_refl _,by simp,.inl rfl⟩ | y::ys,x=>by
  obtain⟨h1,h2,h3⟩:=uY ys (min x y);refine⟨by simp only[_bA];lia,λz hz=>?_,?_⟩
  ·simp only[_bA];rcases _r.mp hz with rfl | hz;·lia
   ·exact h2 z hz
  ·simp only[_bA];rcases h3 with h3 | h3
   ·rw[h3];rcases Int.le_total x y with h | h;·exact .inl (Int.min_eq_left h)
    ·exact .inr (by rw[Int.min_eq_right h];simp)
   ·exact .inr (_J _ h3)
theorem maxL_ge  : ∀y∈xs,y<=maxL xs:=by cases xs with
 | nil=>decide | cons x xs=>intro y hy;rcases _r.mp hy with rfl | hy;exact (uV xs y).1;exact (uV xs x).2.1 y hy
theorem maxL_mem  (h:xs≠[]):maxL xs∈xs:=by cases xs with
 | nil=>exact absurd rfl h | cons x xs=>rcases (uV xs x).2.2 with e | e;exact (show xs.foldl max x∈x::xs by rw[e];simp);exact _J _ e
theorem minL_le  : ∀y∈xs,minL xs<=y:=by cases xs with
 | nil=>decide | cons x xs=>intro y hy;rcases _r.mp hy with rfl | hy;exact (uY xs y).1;exact (uY xs x).2.1 y hy
theorem minL_mem  (h:xs≠[]):minL xs∈xs:=by cases xs with
 | nil=>exact absurd rfl h | cons x xs=>rcases (uY xs x).2.2 with e | e;exact (show xs.foldl min x∈x::xs by rw[e];simp);exact _J _ e
section
variable {X:Cx}
theorem z3N {ns:List Int}  (r:xF (ns.map V.int) ah)   (e:ah.toArray[i]? = some v):∃t,v=.int (ns.getD i 0) t/\i<ns.length:=by
 have e':ah[i]? = some v:=by simpa using e
 have hl:=r.length;have hi:i<ns.length:=by
  have:=(_b.mp e').1;simp at hl;lia
 obtain⟨u,hu,ru⟩:=r.get (i:=i) (x:=V.int ns[i]) (by simp[hi]);rw[e']at hu;cases hu;obtain⟨t,rfl⟩:=ru;exact⟨t,by simp[hi],hi⟩
theorem getD_in{ns:List Int}  (h:i<ns.length):ns.getD i 0∈ns:=by
 rw[List.getD,_c h];exact _aE _
theorem zem (hc:X.calm=true):vt X (.builtin "max") (λxs H Q=>∃b p ns,xs=[.ref p]/\Sq b X.K H p (ns.map V.int)/\ns≠[]/\Q (.int (maxL ns)) H):=by
 intro ac s O H xs us Q I r h;obtain⟨b,p,ns,rfl,hq,gg,q⟩:=h;obtain⟨u,rfl,ru⟩:=vals1 r;cases ru;obtain⟨ah,rv,co⟩:=I.sq hq;have hl:ah.length=ns.length:=by have:=rv.length;simp at this;lia
 refine call_max_walk (z3O (I.ok.hd hc) co λs2 e2 St W st bd bh=>?_);subst e2;refine⟨_,_,_,_,_,_,_,rfl,W,st,bd,by simpa[hl] using (_cL.mpr gg),CmpOf.ints_gt (λi=>ns.getD i 0) (λi v e=>let ⟨t,e1,_⟩:=z3N rv e;⟨t,e1⟩),λv h' tk e hk=>?_⟩;obtain⟨t,e1,lt⟩:=z3N rv e;obtain⟨h1,h2⟩:=argBest_gt (λi=>ns.getD i 0) (ah.toArray.size-1);rw[e1,(show ns.getD (argBest (λi j=>decide (ns.getD i 0 > ns.getD j 0)) (ah.toArray.size-1)) 0=maxL ns from by
  refine Int.le_antisymm (maxL_ge _ (getD_in lt)) ?_
  ·obtain⟨j,hj,ej⟩:=_v.mp (maxL_mem gg);have:=h2 j (by simp[hl];lia);simp only[List.getD,_c hj,ej]at this;exact this)];exact⟨.int (maxL ns),H,I.kept  (bh h' hk),⟨t,rfl⟩,q⟩
theorem zcl (hc:X.calm=true):vt X (.builtin "min") (λxs H Q=>∃b p ns,xs=[.ref p]/\Sq b X.K H p (ns.map V.int)/\ns≠[]/\Q (.int (minL ns)) H):=by
 intro ac s O H xs us Q I r h;obtain⟨b,p,ns,rfl,hq,gg,q⟩:=h;obtain⟨u,rfl,ru⟩:=vals1 r;cases ru;obtain⟨ah,rv,co⟩:=I.sq hq;have hl:ah.length=ns.length:=by have:=rv.length;simp at this;lia
 refine call_min_walk (z3O (I.ok.hd hc) co λs2 e2 St W st bd bh=>?_);subst e2;refine⟨_,_,_,_,_,_,_,rfl,W,st,bd,by simpa[hl] using (_cL.mpr gg),CmpOf.ints_lt (λi=>ns.getD i 0) (λi v e=>let ⟨t,e1,_⟩:=z3N rv e;⟨t,e1⟩),λv h' tk e hk=>?_⟩;obtain⟨t,e1,lt⟩:=z3N rv e;obtain⟨h1,h2⟩:=argBest_lt (λi=>ns.getD i 0) (ah.toArray.size-1);rw[e1,(show ns.getD (argBest (λi j=>decide (ns.getD i 0<ns.getD j 0)) (ah.toArray.size-1)) 0=minL ns from by
  refine Int.le_antisymm ?_ (minL_le _ (getD_in lt))
  ·obtain⟨j,hj,ej⟩:=_v.mp (minL_mem gg);have:=h2 j (by simp[hl];lia);simp only[List.getD,_c hj,ej]at this;exact this)];exact⟨.int (minL ns),H,I.kept  (bh h' hk),⟨t,rfl⟩,q⟩
theorem all_range{bs:List Bool}:(List.range bs.length).all (λi=>bs.getD i false)=bs.all id:=by
 rw[Bool.eq_iff_iff];simp only[_aF,_bs,id];constructor
 ·intro h x hx;obtain⟨j,hj,ej⟩:=_v.mp hx;simpa[hj,ej] using (h j hj)
 ·intro h i hi;simp only[List.getD,_c hi,_be];exact h _ (_aE _)
theorem zdh (hc:X.calm=true):vt X (.builtin "all") (λxs H Q=>∃(b:Bool) (p:Addr) (bs:List Bool),xs=[.ref p]/\Sq b X.K H p (bs.map V.bl)/\Q (.bl (bs.all id)) H):=by
 intro ac s O H xs us Q I r h;obtain⟨b,p,bs,rfl,hq,q⟩:=h;obtain⟨u,rfl,ru⟩:=vals1 r;cases ru;obtain⟨ah,rv,co⟩:=I.sq hq;have hl:ah.length=bs.length:=by have:=rv.length;simp at this;lia
 refine call_all_walk (z3O (I.ok.hd hc) co λs2 e2 St W st bd bh=>?_);subst e2;refine⟨_,_,_,_,_,_,λi=>bs.getD i false,rfl,W,st,λi v s3 Q3 E3 e q3=>?_,λh' tk hk=>?_⟩
 ·have e':ah[i]? = some v:=by simpa using e
  have hi:i<bs.length:=by have:=(_b.mp e').1;lia
  obtain⟨u,hu,ru⟩:=rv.get (i:=i) (x:=V.bl bs[i]) (by simp[hi]);rw[e']at hu;cases hu;cases ru;have q3:Q3 (bs.getD i false) s3:=q3;rw[(show bs.getD i false=bs[i] from by simp[List.getD,hi])]at q3;exact _av q3
 ·rw[(show ah.toArray.size=bs.length from by exact hl ..),all_range];exact⟨.bl (bs.all id),H,I.kept  (bh h' hk),rfl,q⟩
end
end L2
namespace L2
theorem z9b  : vt X (.builtin "isinstance") (λxs H Q=>∃x t T b,xs=[x,.ty T]/\zaL X.K H x t/\W.kitOne X.K t (.type T)=some b/\Q (.bl b) H):=by
 intro ac s O H xs us Q I r h;obtain⟨x,t,T,b,rfl,ht,hk,q⟩:=h;obtain⟨u,v,rfl,ru,rv⟩:=vals2 r;cases rv;exact zcY I ru ht hk λtk=>⟨.bl b,H,I.tok _,rfl,q⟩
end L2
namespace Dd
open L2
noncomputable def tyD:D->Option String
 | .non=>some "NoneType" | .bl _=>some "bool" | .int _=>some "int" | .str _=>some "str" | .tup _=>some "tuple" | .lst _=>some "list" | .loc _=>some "list" | .dct=>some "dict" | _=>none
noncomputable def isT(T t:String):Bool:=t==T||(T=="int"&&t=="bool")
noncomputable def gIs(T:String):D->Sto->R D:=λd s=>match tyD d with | some t=>.ok (.bl (isT T t)) s | none=>.no
theorem zjH{K:W.Frag}  (h:t∈["NoneType","bool","int","str","tuple","list","dict"])(T:String)(hT:T∈["int","bool","str","tuple","list"]):W.kitOne K (.type t) (.type T)=some (isT T t):=by rcases (by simpa using h) with rfl | rfl | rfl | rfl | rfl | rfl | rfl<;>rcases (by simpa using hT) with rfl | rfl | rfl | rfl | rfl<;>kernel_rfl
theorem zll        (r:Rep mg H Y s)(dn:Den mg H Y d v)(e:tyD d=some t):zaL mg.K H v (.type t)/\t∈["NoneType","bool","int","str","tuple","list","dict"]:=by cases d with
 | non=>subst dn;cases e;exact⟨.non,by decide⟩ | bl b=>cases jv dn;cases e;exact⟨.bl b,by decide⟩ | int b=>cases yJ dn;cases e;exact⟨.int b,by decide⟩ | str b=>cases z8q dn;cases e;exact⟨.str b,by decide⟩ | tup b=>
  cases e;obtain⟨a,vs,rfl,h1,_⟩:=dn;exact⟨.tup h1,by decide⟩ | lst b=>
  cases e;obtain⟨a,o,vs,rfl,h1,_⟩:=dn;exact⟨.frz h1,by decide⟩ | loc l=>
  cases e;obtain⟨a,rfl,h1,vs,h2⟩:=dn;exact⟨.lst h2,by decide⟩ | dct=>
  cases e;obtain⟨a,rfl,h1⟩:=dn;exact⟨.dK h1,by decide⟩ | _=>cases e
section
variable {X:Cx}{E:XK}{e a b c tg:Expr}{es:List Expr}{pos:Pos}{CX:CXT}
noncomputable def eIs(T:String)(f:FE):FE:=fun ρ s=>(f ρ s).bind λd s1=>gIs T d s1
theorem zk0{p p2:Pos}    (hT:T∈["int","bool","str","tuple","list"])(hv:bootBuiltins tn=some (.type T))(hg:Gl X "isinstance")(hm:X.mg "isinstance"=none)(cO:Gl X tn)(cP:X.mg tn=none)(he:RE X E e f) (hn:autoParam (tn≠"__name__") aDe)(hd:autoParam ((tn==("__debug__":Str))=false) aDe) (hs:autoParam (starEach [e,.Name tn p2] X.env=(false,eval e X.env)::starEach [.Name tn p2] X.env) aRf)(be:autoParam ((backTo pos (starEach [.Name tn p2] X.env)).any (·.1)=false) aRf):RE X E (.Call (.Name "isinstance" p) [e,.Name tn p2] [] pos) (eIs T f):= yz (zaE z9b hg hm (by decide +kernel) (jC he (jC (ziD cO cP hv (show xr (.ty T) (.type T) from rfl) hn hd) z1H) hs) (by decide) (by decide) hs be) λO H Q ⟨Y,ρ,s,r,en,h⟩=>by
  refine yL (k:=fun ρ d s1=>gIs T d s1) r en h _ λv H1 Y1 s1 d r1 aG dn stp h1=>?_;unfold gIs at h1;split at h1
  ·rename_i t et;obtain⟨q1,q2⟩:=zll r1 dn et;exact⟨v,.type t,T,isT T t,rfl,q1,zjH q2 T hT,okR.here  h1 r1 yX⟩
  ·exact h1.elim
noncomputable def z6u:List D->Sto->R D
 | [.int i],s=>.ok (.int (if i<0 then -i else i)) s | _,_=>.no
theorem zbL:∃r,vt X (.builtin "abs") r/\z2a X E r z6u:=⟨_,zff,λH Y s ds vs Q r hd h=>by
 unfold z6u at h;split at h
 ·rename_i i;obtain⟨v,rfl,dn⟩:=z2R hd;cases yJ dn;exact⟨i,rfl,h.here r xf⟩
 ·exact h.elim⟩
noncomputable def intsOf:List D->Option (List Int)
 | []=>some [] | .int i::r=>(intsOf r).map (i::·) | _=>none
noncomputable def bools:List D->Option (List Bool)
 | []=>some [] | .bl i::r=>(bools r).map (i::·) | _=>none
theorem uo:∀{xs:List D}{ns:List Int},intsOf xs=some ns->xs=ns.map D.int
 | [],ns,h=>by cases h;rfl | .int i::r,ns,h=>by
  obtain⟨ms,h1,rfl⟩:=_O.mp h;rw[uo h1];rfl
theorem yO(ns:List Int):intsOf (ns.map D.int)=some ns:=by induction ns with
 | nil=>rfl | cons n ns ih=>show (intsOf _).map (n::·)=_;rw[ih];rfl
theorem z9L:∀{xs:List D}{ns:List Bool},bools xs=some ns->xs=ns.map D.bl
 | [],ns,h=>by cases h;rfl | .bl i::r,ns,h=>by
  obtain⟨ms,h1,rfl⟩:=_O.mp h;rw[z9L h1];rfl
theorem zcp(ns:List Bool):bools (ns.map D.bl)=some ns:=by induction ns with
 | nil=>rfl | cons n ns ih=>show (bools _).map (n::·)=_;rw[ih];rfl
theorem ur    : ∀{ns:List Int}{vs:List V},zU mg H Y (ns.map D.int) vs->vs=ns.map V.int
 | [],vs,h=>by exact h | n::ns,vs,h=>by
  obtain⟨v,r,rfl,h1,h2⟩:=h;cases yJ h1;rw[ur h2];rfl
theorem z9v    : ∀{ns:List Bool}{vs:List V},zU mg H Y (ns.map D.bl) vs->vs=ns.map V.bl
 | [],vs,h=>by exact h | n::ns,vs,h=>by
  obtain⟨v,r,rfl,h1,h2⟩:=h;cases jv h1;rw[z9v h2];rfl
noncomputable def wP:List D->Sto->R D
 | [d],s=>match (yc s d).bind intsOf with | some (n::ns)=>.ok (.int (maxL (n::ns))) s | _=>.no
 | _,_=>.no
noncomputable def qI:List D->Sto->R D
 | [d],s=>match (yc s d).bind intsOf with | some (n::ns)=>.ok (.int (minL (n::ns))) s | _=>.no
 | _,_=>.no
noncomputable def zk2:List D->Sto->R D
 | [d],s=>match (yc s d).bind bools with | some ns=>.ok (.bl (ns.all id)) s | none=>.no
 | _,_=>.no
theorem za2{K:W.Frag}  {a:Addr}  (h:SqL K H a vs\/SqT K H a vs):∃b,Sq b K H a vs:=h.elim (λh=>⟨true,h⟩) λh=>⟨false,h⟩
theorem jo(hc:X.calm=true):∃r,vt X (.builtin "max") r/\z2a X E r wP:=⟨_,zem hc,λH Y s ds vs Q r hd h=>by
 unfold wP at h;split at h
 ·split at h
  ·rename_i n ns e;obtain⟨xs,e1,e2⟩:=_aR.mp e;have:=uo e2;subst this;obtain⟨v,rfl,dn⟩:=z2R hd;obtain⟨a,ws,rfl,q1,q2⟩:=qR  r e1 dn;cases ur q2;obtain⟨b,q⟩:=za2 q1;exact⟨b,a,n::ns,rfl,q,by simp,h.here r xf⟩
  ·exact h.elim
 ·exact h.elim⟩
theorem z2L(hc:X.calm=true):∃r,vt X (.builtin "min") r/\z2a X E r qI:=⟨_,zcl hc,λH Y s ds vs Q r hd h=>by
 unfold qI at h;split at h
 ·split at h
  ·rename_i n ns e;obtain⟨xs,e1,e2⟩:=_aR.mp e;have:=uo e2;subst this;obtain⟨v,rfl,dn⟩:=z2R hd;obtain⟨a,ws,rfl,q1,q2⟩:=qR  r e1 dn;cases ur q2;obtain⟨b,q⟩:=za2 q1;exact⟨b,a,n::ns,rfl,q,by simp,h.here r xf⟩
  ·exact h.elim
 ·exact h.elim⟩
theorem zlh(hc:X.calm=true):∃r,vt X (.builtin "all") r/\z2a X E r zk2:=⟨_,zdh hc,λH Y s ds vs Q r hd h=>by
 unfold zk2 at h;split at h
 ·split at h
  ·rename_i ns e;obtain⟨xs,e1,e2⟩:=_aR.mp e;have:=z9L e2;subst this;obtain⟨v,rfl,dn⟩:=z2R hd;obtain⟨a,ws,rfl,q1,q2⟩:=qR  r e1 dn;cases z9v q2;obtain⟨b,q⟩:=za2 q1;exact⟨b,a,ns,rfl,q,h.here r yX⟩
  ·exact h.elim
 ·exact h.elim⟩
noncomputable def za8:List D->List D->List D
 | x::xs,y::ys=>.tup [x,y]::za8 xs ys | _,_=>[]
theorem z3u:∀(xs ys:List D),(za8 xs ys).length=min xs.length ys.length
 | [],ys=>by rfl | x::xs,[]=>by rfl | x::xs,y::ys=>by simp only[za8,_n,z3u xs ys];omega
theorem zc5:∀{xs ys:List D}{i:Nat}{d:D},(za8 xs ys)[i]? = some d->∃x y,xs[i]? = some x/\ys[i]? = some y/\d=.tup [x,y]
 | [],ys,i,d,h=>by cases h | x::xs,[],i,d,h=>by cases h | x::xs,y::ys,0,d,h=>by simp[za8]at h;exact⟨x,y,by rfl,by rfl,h.symm⟩ | x::xs,y::ys,i+1,d,h=>by
  simp only[za8,_k]at h;obtain⟨a,b,h1,h2,h3⟩:=zc5 h;exact⟨a,b,by exact h1,by exact h2,h3⟩
noncomputable def zbS(s:Sto):D->Option (List D×List (Nat×List D))
 | .tup xs=>some (xs,[]) | .lst xs=>some (xs,[]) | .loc l=>(s[l]?).map λxs=>(xs,[(l,xs)]) | _=>none
theorem z8T         (r:Rep mg H Y s)(h:zbS s d=some (xs,g))(dn:Den mg H Y d v):okG g [] s/\∃(b:Bool)(a:Addr),v=.ref a/\ ∀H2 Y2 s2,xH mg H Y H2 Y2 s2->okG g [] s2->∃ws,Sq b mg.K H2 a ws/\zU mg H2 Y2 xs ws:=by cases d with
 | tup ys=>
  cases h;obtain⟨a,vs,rfl,q1,q2⟩:=kW (K:=mg.K) dn;refine⟨(by intro p hp;cases hp),false,a,rfl,λH2 Y2 s2 stp _=>?_⟩;obtain⟨a',ws,e,q3,q4⟩:=kW  (dn.mono stp);cases e;exact⟨ws,q3,q4⟩ | lst ys=>
  cases h;obtain⟨a,vs,rfl,q1,q2⟩:=yg  r rfl dn;refine⟨(by intro p hp;cases hp),true,a,rfl,λH2 Y2 s2 stp _=>?_⟩;obtain⟨a',ws,e,q3,q4⟩:=yg  stp.rep rfl (dn.mono stp);cases e;exact⟨ws,.inl q3,q4⟩ | loc l=>
  simp only[zbS,_O]at h;obtain⟨ys,ey,e2⟩:=h;cases e2;obtain⟨a,vs,rfl,q1,q2⟩:=yg (d:=.loc l) r ey dn;refine⟨(λp hp=>by
   have:p=(l,xs):=by simpa using hp
   subst this;exact ey),true,a,rfl,λH2 Y2 s2 stp hg=>?_⟩;obtain⟨a',ws,e,q3,q4⟩:=yg (d:=.loc l) stp.rep (hg (l,xs) (by simp)) (dn.mono stp);cases e;exact⟨ws,.inl q3,q4⟩ | _=>cases h
noncomputable def zgi(f:FA):FI:=fun ρ s=>(f ρ s).bind λds s1=>match ds with
 | [x,y]=>match zbS s1 x,zbS s1 y with
  | some p,some q=>.ok (za8 p.1 q.1,p.2++q.2) s1 | _,_=>.no
 | _=>.no
theorem zeY{p tp:Pos}{bJ:List Expr}{kt:Nat}  (hg:Gl X "zip")(hm:X.mg "zip"=none)(ha:RA X E [a,b] f)(hs:autoParam (starEach [a,b] X.env=(false,eval a X.env)::starEach [b] X.env) aRf)(be:autoParam ((backTo pos (starEach [b] X.env)).any (·.1)=false) aRf): RI X E (.Tuple bJ kt tp) (.Call (.Name "zip" p) [a,b] [] pos) (zgi f):= z6H (zmc hg hm ha hs be) λO H Q ⟨Y,ρ,s,r,en,h⟩=>by
  refine⟨Y,ρ,s,r,en,(okR.bind  h).imp λvs H1 ⟨Y1,s1,ds,stp,dn,h1⟩=>?_⟩;split at h1
  ·split at h1
   ·rename_i p q ex ey;obtain⟨v,v',rfl,d1,d2⟩:=z8m dn;obtain⟨j6,b1,a1,rfl,k1⟩:=z8T stp.rep ex d1;obtain⟨nQ,b2,a2,rfl,k2⟩:=z8T stp.rep ey d2;obtain⟨w1,q1,_⟩:=k1 H1 Y1 s1 (.refl stp.rep) j6;obtain⟨w2,q2,_⟩:=k2 H1 Y1 s1 (.refl stp.rep) nQ;refine⟨a1,a2,b1,b2,rfl,⟨w1,q1⟩,⟨w2,q2⟩,h1.here stp.rep λH2 Y2 s2 ak og i=>?_⟩;have h3  := λp hp=>og p (_aO _ hp);have h4  := λp hp=>og p (_w _ hp);refine⟨λd hd=>?_,λhl=>?_⟩
    ·obtain⟨x,y,e1,e2,rfl⟩:=zc5 hd;obtain⟨w1,q1,n1⟩:=k1 H2 Y2 s2 ak h3;obtain⟨w2,q2,n2⟩:=k2 H2 Y2 s2 ak h4;obtain⟨u1,g1,m1⟩:=n1.get e1;obtain⟨u2,g2,m2⟩:=n2.get e2;refine⟨⟨w1,w2,u1,u2,q1,q2,g1,g2⟩,λz H' ⟨T,p,q,hT,ez,eH,hp,hq⟩=>?_⟩;subst ez eH;have e3:=hp w1 q1;have e4:=hq w2 q2;rw[g1]at e3;rw[g2]at e4;cases e3;cases e4;have bF:=xH.lay (o:=.tup [u1,u2]) ak.rep hT (by intro _ z;cases z);exact⟨Y2,bF,⟨T,[u1,u2],rfl,zP,(zU.cons m1 (zU.one m2)).mono bF⟩⟩
    ·obtain⟨w1,q1,n1⟩:=k1 H2 Y2 s2 ak h3;obtain⟨w2,q2,n2⟩:=k2 H2 Y2 s2 ak h4;refine⟨w1,w2,q1,q2,?_⟩;rw[n1.length,n2.length];simp only[z3u]at hl;omega
   ·exact h1.elim
  ·exact h1.elim
end
noncomputable def yI(mp:List (Option Nat))(ρ:Ev):Ev:=mp.map λo=>match o with | some j=>(ρ[j]?).getD none | none=>none
theorem qG.inner       (en:qG mg H Y ρ O):qG mg H Y (yI mp ρ) (inner mp O):=by
 refine⟨by simp[yI,L2.inner],λi d h=>?_⟩;simp only[yI,_ae,_O]at h;obtain⟨o,h1,h2⟩:=h;cases o with
 | none=>cases h2 | some j=>
  simp only at h2;obtain⟨v,h4,h5⟩:=en.at_ j d (by cases e:ρ[j]? with
   | none=>rw[e]at h2;cases h2 | some x=>rw[e]at h2;simp at h2;rw[h2]);exact⟨v,by simp[L2.inner,h1,h4],h5⟩
open Classical in
noncomputable def vw(g:List (Nat×List D))(all:List D)(body:D->Sto->R (Option D)):List D->List D->Sto->R (List D)
 | [],af,s=>if okG g all s then .ok af s else .no | x::xs,af,s=>if okG g all s then (body x s).bind λo s1=>match o with
   | some d=>if af.length<cap then vw g all body xs (af++[d]) s1 else .no | none=>vw g all body xs af s1 else .no
noncomputable def z6E(fi:FI)(mp:List (Option Nat))(fg:FG)(ft:FT)(fe:FE):FA:=fun ρ s=>(fi ρ s).bind λit s1=>vw it.2 it.1 (λd s=>(fg d (yI mp ρ) s).bind fun ρ' s'=>(ft ρ' s').bind λb s2=>if b=true then (fe ρ' s2).bind λd s3=>.ok (some d) s3 else .ok none s2) it.1 [] s1
def z5K(mg:Gm)(E:XK)(mp:List (Option Nat))(g:TG)(fg:FG):Prop:=∀(O:L2.St) H Y ρ s x d (Q:L2.St->Hp->Prop),Rep mg H Y s->qG mg H Y (yI mp ρ) (inner mp O)->Den mg H Y d x->okR mg E H Y (qG mg) (fg d (yI mp ρ) s) Q-> g x (inner mp O) H (λO2 H2=>(O2.length=(inner mp O).length/\∀(i:Nat) v,(inner mp O)[i]? = some (some v)->O2[i]? = some (some v))/\Q O2 H2)
theorem z3h  {i:Nat}(h:mp[i]? = some none)(O:L2.St):(inner mp O)[i]? = some none:=by simp[L2.inner,h]
theorem z5l{O:L2.St}   (h:O[i]? = some none):(O.set i (some v)).length=O.length/\∀(j:Nat) u,O[j]? = some (some u)->(O.set i (some v))[j]? = some (some u):=by
 refine⟨by simp,λj u e=>?_⟩;rw[_M (λz=>by subst z;rw[h]at e;cases e)];exact e
section
variable {X:Cx}{E:XK}{e a b c tg ao aC:Expr}{es:List Expr}{pos:Pos}{CX:CXT}{mp:List (Option Nat)}
theorem zJ(i:Nat)(h:mp[i]? = some none):z5K (gm X) E mp (z24 i) (yu i):=λO H Y ρ s x d Q r en dn ok=>⟨z5l (z3h h O),(okR.here  ok r (en.set dn i))⟩
theorem z6p               {Dn:Hp->List Addr->β->β2->Prop}  (hg:z5K (gm X) E mp g fg)(r:Rep (gm X) H Y s)(en:qG (gm X) H Y ρ O) (h:okR (gm X) E H Y Dn ((z6E fi mp fg ft fe ρ s).bind kR) Q2) (fin:∀H1 Y1 s1 xs vs,Rep (gm X) H1 Y1 s1->qG (gm X) H1 Y1 ρ O->zU (gm X) H1 Y1 xs vs->okR (gm X) E H1 Y1 Dn (kR xs s1) Q2->xs.length<=cap->∀p,H1 p=none->Q (.ref p) (upd H1 p (.lst vs))): zgy (tI (gm X) E fi) mp g (tT (gm X) E ft) (tE (gm X) E fe) O H Q:=by
 unfold z6E at h;have assoc:∀{α γ δ:Type}(x:R α)(f:α->Sto->R γ)(k:γ->Sto->R δ),(x.bind f).bind k=x.bind λa s=>(f a s).bind k:=λx f k=>by cases x<;>rfl
 rw[assoc]at h;refine⟨Y,ρ,s,r,en,(okR.bind  h).imp λJ H1 ⟨Y1,s1,it,stp,ok,h1⟩=>?_⟩;obtain⟨items,gd⟩:=it;refine⟨λi m ys H=>∃Y s af,xH (gm X) H1 Y1 H Y s/\zU (gm X) H Y af ys/\af.length<=cap/\m=items.length-i/\i<=items.length/\ okR (gm X) E H Y Dn ((vw gd items (λd s=>(fg d (yI mp ρ) s).bind fun ρ' s'=>(ft ρ' s').bind λb s2=>if b=true then (fe ρ' s2).bind λd s3=>.ok (some d) s3 else .ok none s2) (items.drop i) af s).bind kR) Q2, ⟨items.length,Y1,s1,[],.refl stp.rep,zU.nil,_az _,by rfl,_az _,by exact h1⟩,?_⟩;rintro i m ys H2 ⟨Y2,s2,af,ak,aI,bB,rfl,lV,h2⟩;have bz  := (en.mono stp).mono ak;by_cases bU:i<items.length
 ·right;rw[_aH bU,vw]at h2;split at h2
  ·rename_i hG;obtain⟨go,yl⟩:=((ok H2 Y2 s2 ak hG i).1 items[i] (_c bU));refine⟨go,λx H' y=>?_⟩;obtain⟨Y3,ax,cr⟩:=yl x H' y;have h3:=okR.rebase h2 ax;rw[assoc,assoc]at h3;refine hg O H' Y3 ρ s2 x items[i] _ ax.rep ((bz.mono ax).inner) cr ((okR.bind (Dn:=qG (gm X)) h3).imp λO4 H4 ⟨Y4,s4,ρ4,bj,iZ,h5⟩=>?_);rw[assoc]at h5;refine⟨Y4,ρ4,s4,bj.rep,iZ,(okR.bind  h5).imp λbb H5 ⟨Y5,s5,b',bu,eb,h6⟩=>?_⟩;cases (eb);have gh  := ((ak.trans ax).trans bj).trans bu;cases bb with
   | true=>
    rw[_l rfl]at h6 ⊢;rw[assoc]at h6;refine⟨Y5,ρ4,s5,bu.rep,iZ.mono bu,(okR.bind  h6).imp λy H6 ⟨Y6,s6,d6,bA,cF,h7⟩=>?_⟩;split at h7;·refine⟨by rw[aI.length];exact kj bB,items.length-(i+1),by omega,Y6,s6,af++[d6],(gh.trans bA),((((aI.mono ax).mono bj).mono bu).mono bA).append (zU.one cF),by simp;omega,rfl,bU,h7⟩
    ·exact h7.elim | false=> exact⟨items.length-(i+1),by omega,Y5,s5,af,gh,((aI.mono ax).mono bj).mono bu,bB,rfl,bU,h6⟩
  ·exact h2.elim
 ·left;have e:i=items.length:=by omega
  subst e;rw[_cv,vw]at h2;split at h2
  ·rename_i hG;exact⟨(ok H2 Y2 s2 ak hG _).2 (_h _),by rw[aI.length];exact kj bB,fin H2 Y2 s2 af ys ak.rep bz aI h2 bB⟩
  ·exact h2.elim
noncomputable def zu(fi:FI)(mp:List (Option Nat))(fg:FG)(ft:FT)(fe:FE):FE:=fun ρ s=>(z6E fi mp fg ft fe ρ s).bind λxs s1=>.ok (.lst xs) s1
noncomputable def z4F(fi:FI)(mp:List (Option Nat))(fg:FG)(ft:FT)(fe:FE):FE:=fun ρ s=>(z6E fi mp fg ft fe ρ s).bind λxs s1=>if D.flat.flats xs=true then .ok (.loc s1.length) (s1++[xs]) else .no
noncomputable def zV:FT:=λ_ s=>.ok true s
theorem zT  : z9C Yy [] (tT (gm Yy) E zV):=λac s O H Q I ⟨Y,ρ,st,r,en,h⟩=>zgj ac s O H Q I (h.here  r rfl)
theorem jf   (h:RT Yy E c f):z9C Yy [c] (tT (gm Yy) E f):=zgz h
section
variable {scope:Scope}{aW:List Expr}{fi:FI}{fg:FG}{ft:FT}{fe:FE}{g:TG}{aR py:Pos}
theorem zkj(N':List Str)(mp:List (Option Nat))(hc:X.calm=true)(hi:RI X E tg ao fi)(hg:∀ex s H,PG (zD X N' scope ex s H) tg g)(cQ:z5K (gm X) E mp g fg)(ht:∀ex s H,z9C (zD X N' scope ex s H) aW (tT (gm X) E ft))(he:∀ex s H,RE (zD X N' scope ex s H) E aC fe) (bc:scope.kind=.function)(aX:∀y∈scope.names,scope.names.lookup y.1=some y.2) (aY:∀y∈scope.names,y.2=.free->X.env.kindOf y.1=some .cell\/X.env.kindOf y.1=some .free)(bg:z5f X.N scope.names N' mp=true) (hs:autoParam (∀x,foldedSetIterable ao X.env x=pure x) aIr):RE X E (.ListComp aC [⟨tg,ao,aW,0⟩] scope pos) (zu fi mp fg ft fe):= yz (ziH (te:=tE (gm X) E fe) N' mp hc hi hg ht (λex s H=>he ex s H) bc aX aY bg hs).freeze λO H Q ⟨Y,ρ,s,r,en,h⟩=> z6p cQ r en h λH1 Y1 s1 xs vs r1 aG dn h1 bB=>z0e r1 h1 dn
theorem zaV   (N':List Str)(mp:List (Option Nat))(hN:X.N.Nodup)(hc:X.calm=true)(hi:RI X E tg ao fi)(hg:∀ex s H,PG (zD X N' scope ex s H) tg g)(cQ:z5K (gm X) E mp g fg)(ht:∀ex s H,z9C (zD X N' scope ex s H) aW (tT (gm X) E ft))(he:∀ex s H,RE (zD X N' scope ex s H) E aC fe) (bc:scope.kind=.function)(aX:∀y∈scope.names,scope.names.lookup y.1=some y.2) (aY:∀y∈scope.names,y.2=.free->X.env.kindOf y.1=some .cell\/X.env.kindOf y.1=some .free)(bg:z5f X.N scope.names N' mp=true)(hy:autoParam (X.N[i]? = some y) aRf)(bZ:autoParam (Loc X.env.scope y) aOr) (hs:autoParam (∀x,foldedSetIterable ao X.env x=pure x) aIr) (ce:autoParam (swapsWith (.ListComp aC [⟨tg,ao,aW,0⟩] scope pos) (some (.Name y py)) aR.line X.env=pure true) aRf) (hf:autoParam (X.fn y=true\/X.env.scope.names.lookup y=some .local) aLr): RS X E (.Assign [.Name y py] (.ListComp aC [⟨tg,ao,aW,0⟩] scope pos) aR) (uf i (zu fi mp fg ft fe)):= uP (z8C (te:=tE (gm X) E fe) N' mp hN hy bZ hc hi hg ht (λex s H=>he ex s H) bc aX aY bg hs ce hf) λD O H ⟨Y,ρ,s,r,en,h⟩=>by
  unfold uf zu at h;rw[(λx f k=>by cases x<;>rfl:∀{α γ δ:Type}(x:R α)(f:α->Sto->R γ)(k:γ->Sto->R δ),(x.bind f).bind k=x.bind λa s=>(f a s).bind k)]at h;exact z6p cQ r en h λH1 Y1 s1 xs vs r1 aG dn h1 bB p hp=>(z0e (E:=E)   r1 (λv H2 Y2 stp aI=>(h1 (.nx (O.set i (some v))) H2 Y2 stp ((aG.mono stp).set aI i))) dn p hp)
theorem zbv   (N':List Str)(mp:List (Option Nat))(hN:X.N.Nodup)(hc:X.calm=true)(hi:RI X E tg ao fi)(hg:∀ex s H,PG (zD X N' scope ex s H) tg g)(cQ:z5K (gm X) E mp g fg)(ht:∀ex s H,z9C (zD X N' scope ex s H) aW (tT (gm X) E ft))(he:∀ex s H,RE (zD X N' scope ex s H) E aC fe) (bc:scope.kind=.function)(aX:∀y∈scope.names,scope.names.lookup y.1=some y.2) (aY:∀y∈scope.names,y.2=.free->X.env.kindOf y.1=some .cell\/X.env.kindOf y.1=some .free)(bg:z5f X.N scope.names N' mp=true)(hy:autoParam (X.N[i]? = some y) aRf)(bZ:autoParam (Loc X.env.scope y) aOr) (hs:autoParam (∀x,foldedSetIterable ao X.env x=pure x) aIr) (ce:autoParam (swapsWith (.ListComp aC [⟨tg,ao,aW,0⟩] scope pos) (some (.Name y py)) aR.line X.env=pure true) aRf) (hf:autoParam (X.fn y=true\/X.env.scope.names.lookup y=some .local) aLr): RS X E (.Assign [.Name y py] (.ListComp aC [⟨tg,ao,aW,0⟩] scope pos) aR) (uf i (z4F fi mp fg ft fe)):= uP (zbt (te:=tE (gm X) E fe) N' mp hN hy bZ hc hi hg ht (λex s H=>he ex s H) bc aX aY bg hs ce hf) λD O H ⟨Y,ρ,s,r,en,h⟩=>by
  unfold uf z4F at h;rw[(λx f k=>by cases x<;>rfl:∀{α γ δ:Type}(x:R α)(f:α->Sto->R γ)(k:γ->Sto->R δ),(x.bind f).bind k=x.bind λa s=>(f a s).bind k)]at h;refine z6p cQ r en h λH1 Y1 s1 xs vs r1 aG dn h1 bB p hp=>?_;split at h1
  ·rename_i hf;have stp:=xH.layL  r1 hp dn hf;refine h1 (.nx (O.set i (some (.ref p)))) _ _ stp ((aG.mono stp).set ?_ i);exact⟨p,rfl,by rw[<- r1.len];simp,vs,zP⟩
  ·exact h1.elim
end
end
section
variable {X:Cx}{E:XK}{e a b c tg ao aC:Expr}{es:List Expr}{pos:Pos}{CX:CXT}{mp:List (Option Nat)}
noncomputable def zhA(K:W.Frag)(i j:Nat):TG:=zpq K 2 (ziP (z24 i) (ziP (z24 j) zpg))
theorem z0I(i j:Nat){x y:Str}{px py:Pos}{kt:Nat}(hc:X.calm=true)(hN:X.N.Nodup)(hi:autoParam (X.N[i]? = some x) aRf)(hj:autoParam (X.N[j]? = some y) aRf)(hx:autoParam (Loc X.env.scope x) aOr)(hy:autoParam (Loc X.env.scope y) aOr) (hf:autoParam (X.fn x=true\/X.env.scope.names.lookup x=some .local) aLr)(i7:autoParam (X.fn y=true\/X.env.scope.names.lookup y=some .local) aLr): PG X (.Tuple [.Name x px,.Name y py] kt pos) (zhA X.K i j):=zhp hc (z2t (zL hN hi hx hf) (z2t (zL hN hj hy i7) zdR))
theorem z0a(i j:Nat)(aF:i≠j)(h:mp[i]? = some none)(h':mp[j]? = some none):z5K (gm X) E mp (zhA X.K i j) (qr i j):=λO H Y ρ s x d Q r en dn ok=>by
 unfold qr at ok;split at ok
 ·obtain⟨p,vs,rfl,q1,q2⟩:=kW  dn;obtain⟨v1,v2,rfl,e1,e2⟩:=z8m q2;have k1:=z5l (v:=v1) (z3h h O);have k2:=z5l (v:=v2) (show ((inner mp O).set i (some v1))[j]? = some none from by rw[_M aF];exact z3h h' O);exact⟨p,[v1,v2],rfl,q1,rfl,v1,[v2],rfl,v2,[],rfl,rfl,⟨k2.1.trans k1.1,λl u e=>k2.2 l u (k1.2 l u e)⟩,okR.here ok r ((en.set e1 i).set e2 j)⟩
 ·exact ok.elim
end
noncomputable def zH(N:List Str)(ds:List D):Ev:=ds.map some++List.replicate (N.length-ds.length) none
theorem z57     : ∀{ds:List D}{vs:List V},zU mg H Y ds vs->qG mg H Y (zH N ds) (L2.start N vs):=λ{ds vs} h=>by
 have hl:=h.length;refine⟨by simp[zH,L2.start,hl],λi d e=>?_⟩;unfold zH at e;have hi:i<ds.length:=by
  by_cases hi:i<ds.length;·exact hi
  ·rw[_U (by simpa using hi),List.getElem?_replicate]at e;split at e<;>cases e
 rw[_y (by simpa using hi),_ae]at e;obtain⟨v,h1,h2⟩:=h.get (by cases q:ds[i]? with
  | none=>rw[q]at e;cases e | some x=>rw[q]at e;simp at e;rw[e]);refine⟨v,?_,h2⟩;unfold L2.start;rw[_y (by simpa[hl] using hi),_ae,h1];rfl
noncomputable def Mof(N:List Str)(n:Nat)(fs:FS):Mir:=λds s=>if ds.length=n then (match fs (zH N ds) s with
 | .ok (.rt d) s'=>.ok d s' | .ok (.nx _) s'=>.ok .non s' | _=>.no) else .no
section
variable {P:Program}{w:World}{K:W.Frag}{mg:Str->Option Value}{base:Heap}
theorem Has.mono     (h:Has P w K mg base CX x n M)(hl:n<=m):Has P w K mg base CX x m M:=by
 obtain⟨f,fd,ps,F,r⟩:=h;exact⟨f,fd,ps,F.mono hl,r⟩
theorem zlI  {st:Stmt}      (F:Fun K x qual st f fd)(hm:mg x=some (.ref f))(hb:Binds K fd ps [])(S:zm N ps (zg st))(hn:ps.length=n) (body:∀(aM:Value)(A:Around)(outer:List Env)(s:Shared)(H:Hp)(E:XK),z1F k (A.deeper (envOfC qual (zg st) s.heap.objs.size f aM))->(zdd CX0 P w K mg base N qual (zg st) f aM A outer s H E).nox.calm=true-> RSs (zdd CX0 P w K mg base N qual (zg st) f aM A outer s H E).nox E0 (uI st) fs):Has P w K mg base CX0 x (k+1) (Mof N n fs):=by
 subst hn;refine⟨f,fd,ps,F.ok S (λvs H Q E h=>?_) (λaM A outer s H vs Q E hr h=>?_),hb,F.kp,hm⟩
 ·obtain⟨Y,s,ds,_,dn,h⟩:=h;unfold Mof at h;split at h;·rename_i e;rw[dn.length];exact e
  ·exact h.elim
 ·obtain⟨Y,eV,ds,r,dn,h⟩:=h;refine⟨_,body aM A outer s H E hr (by show A.handled.isNone=true;rw[show A.handled=none from hr.hd];rfl),Y,zH N ds,eV,r,z57 dn,?_⟩;unfold Mof at h;split at h
  ·split at h
   ·rename_i d s' e;rw[e];intro fv H' Y' stp fd;cases fv with
    | rt v=>exact h v H' Y' stp fd | _=>exact (fd).elim
   ·rename_i ρ s' e;rw[e];intro fv H' Y' stp fd;cases fv with
    | nx v=>exact h .non H' Y' stp rfl | _=>exact (fd).elim
   ·exact h.elim
  ·exact h.elim
theorem zlY  {st:Stmt}    (F:Fun K x qual st f fd)(hm:mg x=some (.ref f))(hb:Binds K fd ps []):Has P w K mg base CX0 x 0 (λ_ _=>.no):= ⟨f,fd,ps,⟨λvs H Q E h=>by obtain⟨_,_,_,_,_,h⟩:=h;exact h.elim,λA outer s H args us vs Q E _ _ _ _ h=>by obtain⟨_,_,_,_,_,h⟩:=h;exact h.elim⟩,hb,F.kp,hm⟩
end
def zj0(K:W.Frag):Sp:=λvs H Q _=>∃(a:Addr)(ns:List Int),vs=[.ref a]/\zop H/\SqL K H a (ns.map V.int)/\ns.length<=63/\∀H',Q (.bl true) H'
theorem vP    : ∀(ns:List Int),zU mg H Y (ns.map D.int) (ns.map V.int)
 | []=>zU.nil | n::ns=>zU.cons xf (vP ns)
theorem zme   {K:W.Frag}   {x:Str}      (F:z5J P w K mg base CX0 n f fd ps (zi7 ⟨mg,K⟩ M)) (h:∀ns:List Int,ns.length<=63->∃s',M [.scr (ns.map D.int)] []=.ok (.bl true) s'):z5J P w K mg base CX0 n f fd ps (zj0 K):= F.imp λvs H Q E ⟨a,ns,e,ho,hq,hl,q⟩=>by
  subst e;obtain⟨s',hs⟩:=h ns hl;refine⟨[],[],[.scr (ns.map D.int)],⟨rfl,List.nodup_nil,λl xs z=>by simp at z,λxs z=>by simp at z,λb h z=>by simp at z,λa ha=>by simp at ha⟩,zU.one ?_,?_⟩
  ·refine⟨a,ns.map V.int,rfl,?_,vP ns⟩;rcases hq with (z | z) | z
   ·rcases ho a with y | ⟨o,xs,y⟩;·rw[y]at z;cases z
    ·rw[y]at z;cases z
   ·exact .inl z
   ·exact .inr z
  ·rw[hs];intro v H' Y' stp dn;cases jv dn;exact q H'
section
variable {X:Cx}{E:XK}{e a b c tg ao aC:Expr}{es:List Expr}{pos:Pos}{CX:CXT}
noncomputable def z3T(f:FE):FE:=fun ρ s=>(f ρ s).bind λd s1=>match d with | .int i=>.ok (.int (-i)) s1 | _=>.no
theorem z33  (h:RE X E a f):RE X E (.UnaryOp .USub a pos) (z3T f):= yz (zor zkT h) λO H Q ⟨Y,ρ,s,r,en,h⟩=>by
  refine yL (k:=fun ρ d s1=>match d with | .int i=>R.ok (D.int (-i)) s1 | _=>.no) r en h _ λv H1 Y1 s1 d r1 aG dn stp h1=>?_;cases d with
  | int i=>
   cases yJ dn;exact⟨i,rfl,okR.here  h1 r1 xf⟩ | _=>exact h1.elim
theorem z8Y    (ho:∃r,OpR X (compareOp op) r/\OpF X E r fo)(bP:∃r,OpR X (compareOp cm) r/\OpF X E r de)(ha:RE X E a fa)(hb:RE X E b fb)(hc:RE X E c fc) (hm:autoParam (lastMarks [op,cm] [b,c]=false) aWu):RT X E (.Compare a [op,cm] [b,c] pos) (tOf (z12 fo de fa fb fc)):=by
 obtain⟨r,h1,h2⟩:=ho;obtain⟨r',fY,bR⟩:=bP;exact z7T (zg7 h1 fY ha hb hc hm) λO H Q h=>z7p h2 bR (z5g h)
noncomputable def z1b(i:Int)(n:Nat):List D:=(List.range n).map λ(k:Nat)=>D.int (i+((k:Nat):Int))
noncomputable def zfd(f:FA):FI:=fun ρ s=>(f ρ s).bind λds s1=>match ds with
 | [.int i,.int j]=>if -(2 ^ 62)<=i/\i<2 ^ 62/\-(2 ^ 62)<=j/\j<2 ^ 62 then .ok (z1b i (j-i).toNat,[]) s1 else .no | _=>.no
theorem zfz{p:Pos}  (hg:Gl X "range")(hm:X.mg "range"=none)(ha:RA X E [a,b] f)(hs:autoParam (starEach [a,b] X.env=[(false,eval a X.env),(false,eval b X.env)]) aRf)(bI:autoParam (starEach [b] X.env=[(false,eval b X.env)]) aRf):RI X E tg (.Call (.Name "range" p) [a,b] [] pos) (zfd f):= z6H (zcR hg hm ha hs bI) λO H Q ⟨Y,ρ,s,r,en,h⟩=>by
  refine⟨Y,ρ,s,r,en,(okR.bind  h).imp λvs H1 ⟨Y1,s1,ds,stp,dn,h1⟩=>?_⟩;split at h1
  ·rename_i i j;split at h1
   ·rename_i hj;obtain⟨v,v',rfl,d1,d2⟩:=z8m dn;cases yJ d1;cases yJ d2;refine⟨i,j,rfl,hj,h1.here stp.rep λH2 Y2 s2 ak _ k=>⟨λd hd=>?_,λhl=>?_⟩⟩
    ·have hi:k<(j-i).toNat:=by simpa[z1b] using ((_b.mp hd).1)
     refine⟨hi,λx H' ⟨e1,e2⟩=>?_⟩;subst e1 e2;refine⟨Y2,.refl ak.rep,?_⟩;rw[(show d=D.int (i+k) from by
      simp only[z1b,_ae,_cJ hi,_a8,_K]at hd;exact hd.symm)];exact xf
    ·rw[<- (show (z1b i (j-i).toNat).length=(j-i).toNat from by simp[z1b])];exact hl
   ·exact h1.elim
  ·exact h1.elim
end
noncomputable def isK(o:Option NameKind)(k:NameKind):Bool:=match o,k with
 | some .local,.local=>true | some .cell,.cell=>true | some .free,.free=>true | some .globalImplicit,.globalImplicit=>true | _,_=>false
theorem zdj   (h:isK o k=true):o=some k:=by cases o with
 | none=>cases k<;>cases h | some j=>cases j<;>cases k<;>first | rfl | cases h
noncomputable def isF(k:NameKind):Bool:=match k with | .free=>true | _=>false
theorem zkG  (h:k=.free):isF k=true:=by subst h;rfl
noncomputable def ze3(ko:Str->Option NameKind)(names:List (Str×NameKind)):Bool:=names.all λy=>!isF y.2||(isK (ko y.1) .cell||isK (ko y.1) .free)
theorem z2b   (h:ze3 ko names=true):∀y∈names,y.2=.free->ko y.1=some .cell\/ko y.1=some .free:=λy hy hf=>by
 have:=_aF.mp h y hy;rw[zkG hf]at this;simp only[Bool.not_true,Bool.false_or,Bool.or_eq_true]at this;exact this.imp zdj zdj
noncomputable def zch(names:List (Str×NameKind)):Bool:=names.all λy=>isK (names.lookup y.1) y.2
theorem z2k  (h:zch names=true):∀y∈names,names.lookup y.1=some y.2:=λy hy=>zdj (_aF.mp h y hy)
section
variable {X:Cx}{E:XK}{e a b c tg ao aC:Expr}{es:List Expr}{pos:Pos}{CX:CXT}
variable {scope:Scope}{aW:List Expr}{fi:FI}{fg:FG}{ft:FT}{fe:FE}{g:TG}{aR py:Pos}
theorem zmz   (hg:Gl X x)(hm:∃t,X.mg x=some (.int i t))(hd:autoParam ((x==("__debug__":Str))=false) aDe):RE X E (.Name x pos) (eC (.int i)):=let ⟨_,h⟩:=hm;zlC hg h hd
theorem zO(N':List Str)(mp:List (Option Nat))(hc:X.calm=true)(hi:RI X E tg ao fi)(hg:∀ex s H,PG (zD X N' scope ex s H) tg g)(cQ:z5K (gm X) E mp g fg)(ht:∀ex s H,z9C (zD X N' scope ex s H) aW (tT (gm X) E ft))(he:∀ex s H,RE (zD X N' scope ex s H) E aC fe) (bc:autoParam (scope.kind=.function) aRf)(aX:autoParam (zch scope.names=true) aRf)(aY:autoParam (ze3 X.env.kindOf scope.names=true) aRf)(bg:autoParam (z5f X.N scope.names N' mp=true) aRf) (hs:autoParam (∀x,foldedSetIterable ao X.env x=pure x) aIr):RE X E (.ListComp aC [⟨tg,ao,aW,0⟩] scope pos) (zu fi mp fg ft fe):= zkj N' mp hc hi hg cQ ht he bc (z2k aX) (z2b aY) bg hs
theorem zcA(i:Nat){y:Str}(N':List Str)(mp:List (Option Nat))(hN:X.N.Nodup)(hc:X.calm=true)(hi:RI X E tg ao fi)(hg:∀ex s H,PG (zD X N' scope ex s H) tg g)(cQ:z5K (gm X) E mp g fg)(ht:∀ex s H,z9C (zD X N' scope ex s H) aW (tT (gm X) E ft))(he:∀ex s H,RE (zD X N' scope ex s H) E aC fe) (bc:autoParam (scope.kind=.function) aRf)(aX:autoParam (zch scope.names=true) aRf)(aY:autoParam (ze3 X.env.kindOf scope.names=true) aRf)(bg:autoParam (z5f X.N scope.names N' mp=true) aRf)(hy:autoParam (X.N[i]? = some y) aRf)(bZ:autoParam (Loc X.env.scope y) aOr) (hs:autoParam (∀x,foldedSetIterable ao X.env x=pure x) aIr) (ce:autoParam (swapsWith (.ListComp aC [⟨tg,ao,aW,0⟩] scope pos) (some (.Name y py)) aR.line X.env=pure true) aRf) (hf:autoParam (X.fn y=true\/X.env.scope.names.lookup y=some .local) aLr): RS X E (.Assign [.Name y py] (.ListComp aC [⟨tg,ao,aW,0⟩] scope pos) aR) (uf i (zu fi mp fg ft fe)):= zaV N' mp hN hc hi hg cQ ht he bc (z2k aX) (z2b aY) bg hy bZ hs ce hf
theorem zjl(i:Nat){y:Str}(N':List Str)(mp:List (Option Nat))(hN:X.N.Nodup)(hc:X.calm=true)(hi:RI X E tg ao fi)(hg:∀ex s H,PG (zD X N' scope ex s H) tg g)(cQ:z5K (gm X) E mp g fg)(ht:∀ex s H,z9C (zD X N' scope ex s H) aW (tT (gm X) E ft))(he:∀ex s H,RE (zD X N' scope ex s H) E aC fe) (bc:autoParam (scope.kind=.function) aRf)(aX:autoParam (zch scope.names=true) aRf)(aY:autoParam (ze3 X.env.kindOf scope.names=true) aRf)(bg:autoParam (z5f X.N scope.names N' mp=true) aRf)(hy:autoParam (X.N[i]? = some y) aRf)(bZ:autoParam (Loc X.env.scope y) aOr) (hs:autoParam (∀x,foldedSetIterable ao X.env x=pure x) aIr) (ce:autoParam (swapsWith (.ListComp aC [⟨tg,ao,aW,0⟩] scope pos) (some (.Name y py)) aR.line X.env=pure true) aRf) (hf:autoParam (X.fn y=true\/X.env.scope.names.lookup y=some .local) aLr): RS X E (.Assign [.Name y py] (.ListComp aC [⟨tg,ao,aW,0⟩] scope pos) aR) (uf i (z4F fi mp fg ft fe)):= zbv N' mp hN hc hi hg cQ ht he bc (z2k aX) (z2b aY) bg hy bZ hs ce hf
end
theorem zkO   {K:W.Frag}    {st:Stmt}      (F:Fun K x qual st f fd)(S:zm N ps (zg st))(hn:ps.length=n) (body:∀(aM:Value)(A:Around)(outer:List Env)(s:Shared)(H:Hp)(E:XK),z1F k (A.deeper (envOfC qual (zg st) s.heap.objs.size f aM))->(zdd CX0 P w K mg base N qual (zg st) f aM A outer s H E).nox.calm=true-> RSs (zdd CX0 P w K mg base N qual (zg st) f aM A outer s H E).nox E0 (uI st) fs):z5J P w K mg base CX0 (k+1) f fd ps (zi7 ⟨mg,K⟩ (Mof N n fs)):=by
 subst hn;refine F.ok S (λvs H Q E h=>?_) (λaM A outer s H vs Q E hr h=>?_)
 ·obtain⟨Y,s,ds,_,dn,h⟩:=h;unfold Mof at h;split at h;·rename_i e;rw[dn.length];exact e
  ·exact h.elim
 ·obtain⟨Y,eV,ds,r,dn,h⟩:=h;refine⟨_,body aM A outer s H E hr (by show A.handled.isNone=true;rw[show A.handled=none from hr.hd];rfl),Y,zH N ds,eV,r,z57 dn,?_⟩;unfold Mof at h;split at h
  ·split at h
   ·rename_i d s' e;rw[e];intro fv H' Y' stp fd;cases fv with
    | rt v=>exact h v H' Y' stp fd | _=>exact (fd).elim
   ·rename_i ρ s' e;rw[e];intro fv H' Y' stp fd;cases fv with
    | nx v=>exact h .non H' Y' stp (by rfl) | _=>exact (fd).elim
   ·exact h.elim
  ·exact h.elim
section
variable {all xs:List D}{ρ:Ev}{s:Sto}
theorem z2i  (I:Ev->Sto->Prop):∀(xs:List D),(∀x∈xs,∀ ρ s,I ρ s->∃ ρ' s',body x ρ s=.ok (.nx ρ') s'/\I ρ' s')->∀ ρ s,I ρ s->∃ ρ' s',qe [] all body xs ρ s=.ok (.nx ρ') s'/\I ρ' s'
 | [],_,ρ,s,h=>⟨ρ,s,by simp[qe,okG],h⟩ | x::xs,hb,ρ,s,h=>by
  obtain⟨ρ1,s1,e1,h1⟩:=hb x (by simp) ρ s h;obtain⟨ρ2,s2,e2,h2⟩:=z2i I xs (λy hy=>hb y (by simp[hy])) ρ1 s1 h1;exact⟨ρ2,s2,by simp[qe,okG,e1,e2],h2⟩
theorem z71  (f:D->D):∀(xs af:List D),(∀x∈xs,body x s=.ok (some (f x)) s)->af.length+xs.length<=cap->vw [] all body xs af s=.ok (af++xs.map f) s
 | [],af,_,_=>by simp[vw,okG] | x::xs,af,hb,hl=>by
  rw[vw];simp[okG,hb x (by simp),(show af.length<cap from by simp at hl;lia),(z71 f xs (af++[f x]) (λy hy=>hb y (by simp[hy])) (by simp at hl ⊢;lia))]
end
section
variable (i j k n:Nat)(ρ:Ev)(s:Sto)(f g fa fb fc:FE)(d x y:D)(ds:List D)(ar:FA)(op cm:D->D->Sto->R D)(ft lW:FT)(fs eK:FS)(M:Mir)(T:String)(fl fh fo:FO)(fi:FI)(fg:FG)(mp:List (Option Nat))(N:List Str)
@[simp] theorem yT:zd i ρ s=(match ρ[i]? with | some (some d)=>.ok d s | _=>.no):=id rfl
@[simp] theorem z5H:eC d ρ s=.ok d s:=id rfl
@[simp] theorem ui:eOp op fa fb ρ s=(fa ρ s).bind λx s1=>(fb ρ s1).bind λy s2=>op x y s2:=id rfl
@[simp] theorem yd:ze M ar ρ s=(ar ρ s).bind λxs s1=>M xs s1:=id rfl
@[simp] theorem zY:zi ρ s=.ok [] s:=id rfl
@[simp] theorem zB:za f ar ρ s=(f ρ s).bind λx s1=>(ar ρ s1).bind λxs s2=>.ok (x::xs) s2:=id rfl
@[simp] theorem z4x:z5R ar ρ s=(ar ρ s).bind λxs s1=>if xs.length<=cap then .ok (.tup xs) s1 else .no:=id rfl
@[simp] theorem zh8:zfj ar ρ s=(ar ρ s).bind λxs s1=>if xs.length<=cap then .ok (.lst xs) s1 else .no:=id rfl
@[simp] theorem zeb:ziV ar ρ s=(ar ρ s).bind λxs s1=>if xs.length<=cap/\D.flat.flats xs=true then .ok (.loc s1.length) (s1++[xs]) else .no:=id rfl
@[simp] theorem zq2:eIs T f ρ s=(f ρ s).bind λd s1=>gIs T d s1:=id rfl
@[simp] theorem z2M:z3T f ρ s=(f ρ s).bind λd s1=>match d with | .int i=>.ok (.int (-i)) s1 | _=>.no:=id rfl
@[simp] theorem zp2:zoY f ρ s=(f ρ s).bind λx s1=>match x with | .bl k=>.ok (.bl (!k)) s1 | _=>.no:=id rfl
@[simp] theorem zed:zeE fa fb ρ s=(fa ρ s).bind λx s1=>match x with | .bl true=>fb ρ s1 | .bl false=>.ok (.bl false) s1 | _=>.no:=id rfl
@[simp] theorem zlN:eIf ft fa fb ρ s=(ft ρ s).bind λx s1=>if x=true then fa ρ s1 else fb ρ s1:=id rfl
@[simp] theorem zbG:eSl f fl fh ρ s=(f ρ s).bind λx s1=>(fl ρ s1).bind λlo s2=>(fh ρ s2).bind λhi s3=>dSl x lo hi s3:=id rfl
@[simp] theorem qm:zW ρ s=.ok none s:=id rfl
@[simp] theorem z1j:wD f ρ s=(f ρ s).bind λd s1=>match d with | .int i=>.ok (some i) s1 | _=>.no:=id rfl
@[simp] theorem z9n:tOf f ρ s=(f ρ s).bind λd s1=>match d with | .bl k=>.ok k s1 | _=>.no:=id rfl
@[simp] theorem znW:fOr ft lW ρ s=(ft ρ s).bind λx s1=>if x=true then .ok true s1 else lW ρ s1:=id rfl
@[simp] theorem zew:z3v ft ρ s=(ft ρ s).bind λx s1=>.ok (!x) s1:=id rfl
@[simp] theorem z9M:z12 op cm fa fb fc ρ s=(fa ρ s).bind λx s1=>(fb ρ s1).bind λy s2=>(op x y s2).bind λz s3=>match z with
 | .bl true=>(fc ρ s3).bind λw s4=>cm y w s4 | .bl false=>.ok (.bl false) s3 | _=>.no:=id rfl
@[simp] theorem zp5:yf fs eK ρ s=(fs ρ s).bind λfl s1=>match fl with | .nx ρ'=>eK ρ' s1 | fl=>.ok fl s1:=id rfl
@[simp] theorem znF:wN ρ s=.ok (.nx ρ) s:=id rfl
@[simp] theorem zpW:fNo ρ s=.no:=id rfl
@[simp] theorem qd:uE f ρ s=(f ρ s).bind λ_ s1=>.ok (.nx ρ) s1:=id rfl
@[simp] theorem yy:xC f ρ s=(f ρ s).bind λd s1=>.ok (.rt d) s1:=id rfl
@[simp] theorem z5M:fIf ft fs eK ρ s=(ft ρ s).bind λx s1=>if x=true then fs ρ s1 else eK ρ s1:=id rfl
@[simp] theorem yW:uf i f ρ s=(f ρ s).bind λd s1=>.ok (.nx (ρ.set i (some d))) s1:=id rfl
@[simp] theorem zm6:zhK f fg ρ s=(f ρ s).bind λd s1=>(fg d ρ s1).bind fun ρ' s2=>.ok (.nx ρ') s2:=id rfl
@[simp] theorem zck:zm7 i j ar ρ s=(ar ρ s).bind λds s1=>match ds with | [x,y]=>.ok (.nx ((ρ.set i (some x)).set j (some y))) s1 | _=>.no:=id rfl
@[simp] theorem z1W:yu i d ρ s=.ok (ρ.set i (some d)) s:=id rfl
@[simp] theorem zc4:qr i j (.tup [x,y]) ρ s=.ok ((ρ.set i (some x)).set j (some y)) s:=id rfl
@[simp] theorem zjn:z92 fa fb fc ρ s=(fc ρ s).bind λd s1=>(fa ρ s1).bind λo s2=>(fb ρ s2).bind λi s3=>match o,i with
 | .loc l,.int k=>match s3[l]? with
  | some xs=>match ixN xs.length k with
   | some j=>if d.flat=true then .ok (.nx ρ) (s3.set l (xs.set j d)) else .no | none=>.no
  | none=>.no
 | _,_=>.no:=id rfl
@[simp] theorem z00:zM f ρ s=(f ρ s).bind λd s1=>match d with
 | .tup xs=>.ok (xs,[]) s1 | .lst xs=>.ok (xs,[]) s1 | .loc l=>match s1[l]? with | some xs=>.ok (xs,[(l,xs)]) s1 | none=>.no
 | _=>.no:=id rfl
@[simp] theorem zha:z8w ar ρ s=(ar ρ s).bind λds s1=>match ds with
 | [.int j]=>if -(2 ^ 62)<=j/\j<2 ^ 62 then .ok (yP j.toNat,[]) s1 else .no | _=>.no:=id rfl
@[simp] theorem ziy:zfd ar ρ s=(ar ρ s).bind λds s1=>match ds with
 | [.int i,.int j]=>if -(2 ^ 62)<=i/\i<2 ^ 62/\-(2 ^ 62)<=j/\j<2 ^ 62 then .ok (z1b i (j-i).toNat,[]) s1 else .no | _=>.no:=id rfl
@[simp] theorem zcT:zgi ar ρ s=(ar ρ s).bind λds s1=>match ds with
 | [x,y]=>match zbS s1 x,zbS s1 y with
  | some p,some q=>.ok (za8 p.1 q.1,p.2++q.2) s1 | _,_=>.no
 | _=>.no:=id rfl
@[simp] theorem z3P:zeD fi fg fs ρ s=(fi ρ s).bind λit s1=>qe it.2 it.1 (λd ρ s=>(fg d ρ s).bind fun ρ' s'=>fs ρ' s') it.1 ρ s1:=id rfl
@[simp] theorem uJ:z6E fi mp fg ft f ρ s=(fi ρ s).bind λit s1=>vw it.2 it.1 (λd s=>(fg d (yI mp ρ) s).bind fun ρ' s'=>(ft ρ' s').bind λb s2=>if b=true then (f ρ' s2).bind λd s3=>.ok (some d) s3 else .ok none s2) it.1 [] s1:=id rfl
@[simp] theorem vM:zu fi mp fg ft f ρ s=(z6E fi mp fg ft f ρ s).bind λxs s1=>.ok (.lst xs) s1:=id rfl
@[simp] theorem zeW:z4F fi mp fg ft f ρ s=(z6E fi mp fg ft f ρ s).bind λxs s1=>if D.flat.flats xs=true then .ok (.loc s1.length) (s1++[xs]) else .no:=id rfl
@[simp] theorem z1m:zV ρ s=.ok true s:=id rfl
@[simp] theorem zhD:zmt fa fb ρ s=(fa ρ s).bind λo s1=>match o with
 | .loc l=>(fb ρ s1).bind λd s2=>match s2[l]? with
  | some xs=>if d.flat=true/\xs.length<cap then .ok .non (s2.set l (xs++[d])) else .no | none=>.no
 | _=>.no:=id rfl
@[simp] theorem uQ:yI [] ρ=[]:=id rfl
@[simp] theorem qf:yI (some i::mp) ρ=(ρ[i]?).getD none::yI mp ρ:=id rfl
@[simp] theorem qi:yI (none::mp) ρ=none::yI mp ρ:=id rfl
variable (a b:Int)(u v:Bool)(xs ys:List D)
@[simp] theorem z2V:ug (.int a) (.int b) s=.ok (.int (a+b)) s:=rfl
@[simp] theorem z1C:ug (.tup xs) (.tup ys) s=if xs.length+ys.length<=cap then .ok (.tup (xs++ys)) s else .no:=rfl
@[simp] theorem zl5:ug (.lst xs) (.lst ys) s=if xs.length+ys.length<=cap then .ok (.lst (xs++ys)) s else .no:=rfl
@[simp] theorem z9y:z9E (.int a) (.int b) s=.ok (.int (a-b)) s:=rfl
theorem zgM:xG (.int a) (.int b) s=if a.natAbs<BIG/\b.natAbs<BIG then .ok (.int (a*b)) s else .no:=by
 simp only[xG,dII,iOk];split<;>(rename_i h;split at h<;>simp_all)
theorem zdp:z46 (.int a) (.int b) s=if 0<b/\b.natAbs<BIG then .ok (.int (a / b)) s else .no:=by
 simp only[z46,dII,iOk];split<;>(rename_i h;split at h<;>simp_all)
theorem zkm:zaf (.int a) (.int b) s=if 0<b then .ok (.int (a % b)) s else .no:=by
 simp only[zaf,dII,iOk];split<;>(rename_i h;split at h<;>simp_all)
@[simp] theorem zky:dLt (.int a) (.int b) s=.ok (.bl (decide (a<b))) s:=rfl
@[simp] theorem ziR:dLe (.int a) (.int b) s=.ok (.bl (decide (a<=b))) s:=rfl
@[simp] theorem zi5:dGt (.int a) (.int b) s=.ok (.bl (decide (b<a))) s:=rfl
@[simp] theorem znA:dGe (.int a) (.int b) s=.ok (.bl (decide (b<=a))) s:=rfl
@[simp] theorem z47:dEq (.int a) (.int b) s=.ok (.bl (decide (a=b))) s:=by rfl
@[simp] theorem znt:dNe (.int a) (.int b) s=.ok (.bl (decide (a≠b))) s:=by
 rw[dNe,(show eqD (.int a) (.int b)=decide (a=b) from by
  simp only[eqD,znv,PyData.eqv];rw[Bool.eq_iff_iff];rfl),_l (by constructor<;>rfl)];simp
@[simp] theorem zpN:dEq (.bl u) (.bl v) s=.ok (.bl (u==v)) s:=by cases u<;>cases v<;>rfl
@[simp] theorem zkZ:dNe (.bl u) (.bl v) s=.ok (.bl (u != v)) s:=by cases u<;>cases v<;>rfl
end
theorem zr    (h:f ρ s=.ok (.nx ρ') s'):yf f g ρ s=g ρ' s':=by simp[h]
theorem zhn     (h:f ρ s=.ok (.rt d) s'):yf f g ρ s=.ok (.rt d) s':=by simp[h]
theorem z0Z   (I:Nat->Ev->Sto->Prop):∀(xs:List D)(k:Nat),(∀j x,xs[j]? = some x->∀ ρ s,I (k+j) ρ s->∃ ρ' s',body x ρ s=.ok (.nx ρ') s'/\I (k+j+1) ρ' s')-> ∀ ρ s,I k ρ s->∃ ρ' s',qe [] all body xs ρ s=.ok (.nx ρ') s'/\I (k+xs.length) ρ' s'
 | [],k,_,ρ,s,h=>⟨ρ,s,by simp[qe,okG],h⟩ | x::xs,k,hb,ρ,s,h=>by
  obtain⟨ρ1,s1,e1,h1⟩:=hb 0 x (by rfl) ρ s h;obtain⟨ρ2,s2,e2,h2⟩:=z0Z (all:=all) I xs (k+1) (λj y hy ρ s hi=>by
   rw[(show k+1+j=k+(j+1) from by lia)]at hi ⊢;exact hb (j+1) y (by exact hy) ρ s hi) ρ1 s1 h1;refine⟨ρ2,s2,by simp[qe,okG,e1,e2],?_⟩;rw[(show k+(x::xs).length=k+1+xs.length from by simp;lia)];exact h2
theorem z7O   (h:(yP n)[j]? = some x):j<n/\x=.int j:=by
 have hj:j<n:=by simpa[yP] using ((_b.mp h).1)
 refine⟨hj,?_⟩;simp only[yP,_ae,_cJ hj,_a8,_K]at h;exact h.symm
theorem zbz   (h:x∈yP n):∃j:Nat,j<n/\x=.int j:=by
 obtain⟨j,hj,e⟩:=_v.mp h;have:=z7O    (by rw[_c hj,e]);exact⟨j,this.1,this.2⟩
theorem vH:∀(ns:List Int),D.flat.flats (ns.map D.int)=true
 | []=>rfl | n::ns=>vH ns
theorem z2f(i:Int):(D.int i).flat=true:=rfl
theorem ve:∀{xs:List D}{d:D},D.flat.flats xs=true->d∈xs->d.flat=true
 | x::xs,d,f,h=>by
  simp only[flC,flN,_ac]at f;rcases _r.mp h with rfl | h;·exact f.1
  ·exact ve f.2 h
theorem qD.flatten      (k:∀b o,H b=some o->(∀vs,o≠.lst vs)->(∀ae,o≠.dT ae)->(∀ae,ae≠[]->o≠.dK ae)->H' b=some o)(f:D.flat.flats ys=true)(e:H' c=H c)(ha:c∈Y)(ro:∀b,Own H Y b->b∉Y)(w:∀b vs,b∉Y->H b=some (.lst vs)->H' b=some (.lst vs))(h:qD mg H Y ys c):qD mg H' Y' ys c:=by
 rcases h with⟨vs,h1,h2⟩ | ⟨ae,h1,h2⟩ | ⟨o,ae,ys,h1,h2⟩ | ⟨ae,g,h1,h2⟩ | ⟨o,ae,ys,h1,e1,h2,fz⟩;·exact .inl ⟨vs,e.trans h1,h2.flatten k f⟩
 ·exact .inr (.inl ⟨ae,e.trans h1,h2⟩)
 ·exact .inr (.inr (.inl ⟨o,ae,ys,e.trans h1,h2⟩))
 ·refine .inr (.inr (.inr (.inl ⟨ae,g,e.trans h1,h2.imp (λzs vs k' hm q=>q.flatten k ?_) (λq b vs hm=>w b vs (ro b ⟨c,ha,ae,q,h1,hm⟩)) λb o vs q=>k b _ q (by intro vs z;cases z) (by intro vs z;cases z) (by intro vs g z;cases z)⟩)));rcases hm with hm | hm;·exact (_B.mp (ve f hm)).1
  ·exact (_B.mp (ve f hm)).1
 ·subst e1;have f:D.flat.flats ys=true:=by exact f
  refine .inr (.inr (.inr (.inr ⟨o,ae,ys,e.trans h1,rfl,h2.imp (λzs vs k' hm q=>q.flatten k ?_) (λq b vs hm z=>(h2.fz fz.1 hm z).elim) λb o vs q=>k b _ q (by intro vs z;cases z) (by intro vs z;cases z) (by intro vs g z;cases z),fz⟩)));rcases hm with hm | hm;·exact (_B.mp (ve f hm)).1
  ·exact (_B.mp (ve f hm)).1
end Dd
namespace Zz
open PySem.AutoSeq1 (wpAny_loadPart')
section
variable {P:Program}{w:World}{A:Around}{E:Value->Shared->Prop}{s:Shared}
theorem zjp   {k:Nat}    (he:IsEnum s.heap e it k bh) (h1:Sit b s.heap it l k) (c1:Sco b s.heap l xs) (ex:xs[k]? = some x) (ne:e≠it) (q:∀h',IsEnumOut h' e it ((k:Int)+1) x s.heap.objs.size->Sit b h' it l (k+1)->h'.get? s.heap.objs.size=some {cls:=.type "tuple",data:=.seq #[.int k s.toks,x]}-> (∀c o,c≠e->c≠it->s.heap.get? c=some o->h'.get? c=some o)->Q (some (.ref s.heap.objs.size)) {s with heap:=h',toks:=s.toks+1}):wpAny (model P w) A (pyNext (.ref e)) Q E s:=by
 have hT:s.TypeIs (.ref e) "enumerate":=⟨_,he,rfl⟩;refine _a (_cy (_am  hT _bG (_at _bG hT F.entry_enumerate_next  ?_ (F.args_enumerate_next_1 _))));obtain⟨hp,g,d,tk,os⟩:=s;show wpAny _ _ (field (.ref e) 2 >>= _) _ _ _;refine _a (_aa he rfl  rfl (_a (nx h1 c1 ex λg1 t1 s1=>?_)));have e1  := (s1.2 e ne).trans he;refine _a (_aa e1 rfl  rfl ?_);refine _a (_aa e1 rfl  rfl ?_);refine _a (wpAny_mkInt ?_);refine _a (_ag e1 (by simp) λg2 e2 s2=>?_);refine _a (_ag e2 (by simp) λg3 e3 s3=>?_);refine _a (wpAny_newTuple ?_);have e4:IsEnum (g3.push {cls:=.type "tuple",data:=.seq #[.int k tk,x]}) e it (k+1) bh:=_e _ e3;generalize hg4:g3.push {cls:=.type "tuple",data:=.seq #[.int k tk,x]}=g4 at e4;have sz:g3.objs.size=hp.objs.size:=by rw[s3.1,s2.1,s1.1]
 have el  := _u he;have t4:g4.get? hp.objs.size=some {cls:=.type "tuple",data:=.seq #[.int k tk,x]}:=by rw[<- hg4,<- sz];exact _x _ rfl
 have i4:Sit b g4 it l (k+1):=t1.to λo z=>by rw[<- hg4];exact _e _ (zF s3 ne.symm (zF s2 ne.symm z))
 rw[sz];refine _a ?_;refine _a (_aa e4 rfl  rfl (_i ?_));refine _a (_ax ?_);refine _a (_aa e4 rfl  rfl (_a (_ag e4 (by simp) λg5 e5 s5=>?_)));refine _a ?_;refine _a (_ag e5 (by simp) λg6 e6 s6=>?_);refine _ag e6 (by simp) λg7 e7 s7=>?_;have up:∀c o,c≠e->g4.get? c=some o->g7.get? c=some o:=λc o n z=>zF s7 n (zF s6 n (zF s5 n z));refine _a (_bJ (_i ⟨_,rfl,_i (q g7 e7 (i4.to λo z=>up _ o ne.symm z) (up _ _ (_do el) t4) λc o n1 n2 z=>up c o n1 ((λc o n1 n2 z=>by rw[<- hg4];exact _e _ (zF s3 n1 (zF s2 n1 (zF s1 n2 z)))) c o n1 n2 z))⟩))
theorem zmo   {k:Nat}    (hh:A.handled=none)(he:IsEnum s.heap e it k bh)(h1:Sit b s.heap it l k)(c1:Sco b s.heap l xs)(ex:xs[k]? = none) (q:∀h',Heap.ExtBut it s.heap h'->Q none {s with heap:=h'}):wpAny (model P w) A (pyNext (.ref e)) Q E s:=by
 have hT:s.TypeIs (.ref e) "enumerate":=⟨_,he,rfl⟩;refine _a (_cy (_am  hT _bG (_at _bG hT F.entry_enumerate_next ?_ (F.args_enumerate_next_1 _))));show wpAny _ _ (field (.ref e) 2 >>= _) _ _ _;refine _a (_aa he rfl  rfl (_a (zcx hh h1 c1 ex λh' x j7 hx'=>?_)));obtain⟨o,ho,hc⟩:=hx';exact _a (_cw   ⟨o,ho,hc⟩ isSubtype_stop (_i (q _ j7)))
end
theorem zgA(b:Bool)(l:Addr)(xs:Array Value): Meets (Builtin.«enumerate.__new__» ⟨[.type "enumerate",.ref l],[]⟩) (λ_ R s=>Sco b s.heap l xs/\R (.ok (.ret (.ref (s.heap.push (itO b l)).objs.size))) {s with heap:=(s.heap.push (itO b l)).push {cls:=.type "enumerate",data:=.fields #[.none,.bool false,.ref s.heap.objs.size,rawInt 0,.none,.none]}}):= .of_wp λprog w A R s h=>by
  obtain⟨hp,g,d,tk,os⟩:=s;obtain⟨c1,h⟩:=h;have j5:=sub_enumerate;have q1  := c1;obtain⟨o,hl⟩:∃o,hp.get? l=some o:=by cases b with
   | true=>obtain⟨o,e,_⟩:=c1;exact⟨o,e⟩ | false=>obtain⟨o,e,_⟩:=c1;exact⟨o,e⟩
  wp_walk using _aC hl;refine wpAny_stack_any λst=>_i ?_;split
  ·rename_i c _ _ _ _ _;cases (c==Value.type "enumerate")
   ·wp_walk using _aC hl,z4E q1;exact⟨_,rfl,h⟩
   ·wp_walk using _aC hl,z4E q1;exact⟨_,rfl,h⟩
  ·wp_walk using _aC hl,z4E q1;exact⟨_,rfl,h⟩
section
variable {P:Program}{w:World}{A:Around}{E:Value->Shared->Prop}{s:Shared}
theorem ziS     (c1:Sco b s.heap l xs) (h:∀h',IsEnum h' (s.heap.objs.size+1) s.heap.objs.size 0 .none->Sit b h' s.heap.objs.size l 0->(∀c o,s.heap.get? c=some o->h'.get? c=some o)->Q (.ref (s.heap.objs.size+1)) {s with heap:=h'}): wpAny (model P w) A (call (.type "enumerate") [.ref l]) Q E s:=by
 refine callType_new F.called_enumerate (by decide) (F.typeCall_enumerate_1 _) (F.newCall_enumerate_1 _) (λobj=>F.args_object_init_2 obj _) F.entry_enumerate_new (zgA b l xs) ⟨c1,?_⟩;have z1:(s.heap.push (itO b l)).objs.size=s.heap.objs.size+1:=_ay ..;have g2:=_x (s.heap.push (itO b l)) (o:={cls:=.type "enumerate",data:=.fields #[.none,.bool false,.ref s.heap.objs.size,rawInt 0,.none,.none]}) rfl;have g1:((s.heap.push (itO b l)).push {cls:=.type "enumerate",data:=.fields #[.none,.bool false,.ref s.heap.objs.size,rawInt 0,.none,.none]}).get? s.heap.objs.size=some (itO b l):=_e _ (_x _ (z2q b l));rw[z1]at g2;rw[z1];exact⟨⟨_,g2,rfl⟩,h _ g2 (z74 g1) λc o e=>_e _ (_e _ e)⟩
end
end Zz
namespace L2
open Zz
def Ite(K:W.Frag)(b:Bool)(l:Addr):It:= ⟨λi H=>∃xs x,Sq b K H l xs/\xs[i]? = some x, λi H v H'=>∃T x,H T=none/\v=.ref T/\H'=upd H T (.tup [.int i,x])/\∀xs,Sq b K H l xs->xs[i]? = some x, λi H=>∃xs,Sq b K H l xs/\xs.length<=i⟩
theorem zdD{P:Program}{w:World}{K:W.Frag}{bJ:List Expr}{kt:Nat}{tp:Pos}{b:Bool}{e it l:Addr}(ne:e≠it): zfq P w K (.Tuple bJ kt tp) (Ite K b l) [e,it] e (λi h=>(∃bh,IsEnum h e it ((i:Nat):Int) bh)/\Sit b h it l i) where
 mem:=by simp
 obj:=λi h ⟨⟨bh,he⟩,h1⟩ c hc=>by
  rcases (by simpa using hc) with rfl | rfl;·exact⟨_,he,λv z=>by simp at z⟩
  ·exact h1.ob
 keep:=λi h h' ⟨⟨bh,he⟩,h1⟩ k=>⟨⟨bh,k e (by simp) _ he⟩,h1.to λo z=>k it (by simp) o z⟩;item:=by
  intro X hP hw hK hc i ac s O H E I hf ⟨⟨bh,he⟩,h1⟩ ⟨xs,x,qx,ex⟩;subst hP hw hK;obtain⟨ix,rx,cx⟩:=I.sq qx;obtain⟨u,hu,ru⟩:=rx.get ex;refine zjp he h1 cx  (by simpa using hu) ne λg a1 a2 a3 hk=>⟨_,rfl,(wpAny_letOwnedTupleGo_enum a1 λg2 e2 s2=>?_)⟩;obtain⟨f0,f1,f2,f3,f4,f5⟩:=hf e (by simp);have new  := I.fpOk (_h _) (I.hok.fresh (_h _));have el  := _H (_u he);refine⟨.ref s.heap.objs.size,upd H s.heap.objs.size (.tup [.int i,x]),((I.turnedL (t':=s.toks+1)  (λc o n z=>hk c o (λt=>n (by simp[t])) (λt=>n (by simp[t])) z) hf).turned (t':=s.toks+1) (λc o n z=>zF s2 n z) f0 f1 f3 f4 f5).track new ⟨?_,[.int i s.toks,u],.cons ⟨_,rfl⟩ (.cons ru .nil),⟨_,(zF s2 el.symm a3),rfl,rfl,_,rfl⟩⟩,rfl,⟨_,x,new.1,rfl,rfl,λzs qz=>?_⟩,⟨⟨_,by simpa using e2⟩,a2.to λo z=>zF s2 ne.symm z⟩,λc hc=>?_⟩;·show 2<=sizeLine;decide
  ·rw[I.sq_inj qz qx];exact ex
  ·rw[zq (by
    rcases (by simpa using hc) with rfl | rfl;·exact el
    ·exact _H h1.lt)];exact (hf c hc).1
 done:=by
  intro X hP hw hK hc i ac s O H E I hf ⟨⟨bh,he⟩,h1⟩ ⟨xs,qx,hl⟩;subst hP hw hK;obtain⟨ix,rx,cx⟩:=I.sq qx;have lx:=rx.length;obtain⟨f0,f1,f2,f3,f4,f5⟩:=hf it (by simp);exact zmo (I.ok.hd hc) he h1 cx (by simp;lia) λg hk=>⟨rfl,I.turned  (λc o n z=>hk c o n z) f0 f1 f3 f4 f5⟩
 self:=λ_ _ _ _ _ ⟨⟨_,he⟩,_⟩ h=>wpAny_pyIter_enum he h
theorem zis  {bJ:List Expr}{kt:Nat}{tp:Pos}   {p pos:Pos}(hg:Gl X "enumerate")(hm:X.mg "enumerate"=none)(ha:PA X [a] ta)(hs:autoParam (starEach [a] X.env=(false,eval a X.env)::starEach [] X.env) aRf)(be:autoParam ((backTo pos (starEach [] X.env)).any (·.1)=false) aRf): PI X (.Tuple bJ kt tp) (.Call (.Name "enumerate" p) [a] [] pos) (λO H R=>ta O H λvs H1=>∃l b,vs=[.ref l]/\(∃xs,Sq b X.K H1 l xs)/\R (Ite X.K b l) H1):=by
 refine λac s O H R I h=>_ao (kL I hg hm (u:=.type "enumerate") (by decide +kernel) (_ah (thn (ha pos ac s O H _ I h) λus s1 ⟨vs,H1,I1,r1,q1⟩=>?_) hs be) (by decide) (by decide));obtain⟨l,b,rfl,⟨xs,qx⟩,q⟩:=q1;obtain⟨u,rfl,ru⟩:=vals1 r1;cases ru;obtain⟨ix,rx,cx⟩:=I1.sq qx;refine ziS cx λg he h1 hk=>(wpAny_pyIter_enum he ⟨_,_,_,_,H1,rfl,I1.kept  hk,zdD (Nat.succ_ne_self _),⟨⟨_,he⟩,h1⟩,λc hc=>?_,q⟩);have cA:s1.heap.objs.size<=c:=by
  rcases (by simpa using hc) with rfl | rfl;·exact Nat.le_succ _
  ·exact _h _
 exact I1.fpOk cA (I1.hok.fresh cA)
theorem z3d(ns:List Int):∀n,n<=ns.length->preSum (λi=>ns.getD i 0) n=(ns.take n).sum
 | 0,_=>by simp[preSum] | n+1,h=>by
  rw[preSum,z3d ns n (by lia),<- List.take_append_getElem ((by lia)),List.sum_append,(show ns.getD n 0=ns[n] from by simp[_c (show n<ns.length by lia)])];simp only[_a2,List.sum_nil,Int.add_zero]
theorem zel  (hc:X.calm=true):vt X (.builtin "sum") (λxs H Q=>∃(b:Bool)(p:Addr)(ns:List Int),xs=[.ref p]/\Sq b X.K H p (ns.map V.int)/\Q (.int ns.sum) H):=by
 intro ac s O H xs us Q I r h;obtain⟨b,p,ns,rfl,hq,q⟩:=h;obtain⟨u,rfl,ru⟩:=vals1 r;cases ru;obtain⟨ah,rv,co⟩:=I.sq hq;refine call_sum_walkG (z3O (I.ok.hd hc) co λs2 e2 St W st bd bh=>?_);subst e2;refine⟨_,_,_,_,_,_,(λi=>ns.getD i 0),rfl,W,st,bd,(λi v e=>let ⟨t,e1,_⟩:=z3N rv e;⟨t,e1⟩),λh' tk t' hk=>?_⟩;rw[(show ah.toArray.size=ns.length from by simp[(by have:=rv.length;simp at this;omega)]),z3d ns _ (_h _),List.take_length];exact⟨.int ns.sum,H,I.kept  (bh h' hk),⟨t',rfl⟩,q⟩
end L2
namespace Dd
open L2
section
variable {X:Cx}{E:XK}{e a b c tg ao aC:Expr}{es:List Expr}{pos:Pos}{CX:CXT}
noncomputable def zpO(i j k:Nat)(f:FA):FS:=fun ρ s=>(f ρ s).bind λds s1=>match ds with | [x,y,z]=>.ok (.nx (((ρ.set i (some x)).set j (some y)).set k (some z))) s1 | _=>.no
noncomputable def zcs:List D->Sto->R D
 | [d],s=>match (yc s d).bind intsOf with | some ns=>.ok (.int ns.sum) s | none=>.no
 | _,_=>.no
theorem zdW(hc:X.calm=true):∃r,vt X (.builtin "sum") r/\z2a X E r zcs:=⟨_,zel hc,λH Y s ds vs Q r hd h=>by
 unfold zcs at h;split at h
 ·split at h
  ·rename_i ns e;obtain⟨xs,e1,e2⟩:=_aR.mp e;have:=uo e2;subst this;obtain⟨v,rfl,dn⟩:=z2R hd;obtain⟨a,ws,rfl,q1,q2⟩:=qR  r e1 dn;cases ur q2;obtain⟨b,q⟩:=za2 q1;exact⟨b,a,ns,rfl,q,h.here r xf⟩
  ·exact h.elim
 ·exact h.elim⟩
def z3V:Nat->List D->List D
 | _,[]=>[] | i,x::xs=>.tup [.int i,x]::z3V (i+1) xs
theorem uS:∀(i:Nat)(xs:List D),(z3V i xs).length=xs.length
 | _,[]=>rfl | i,x::xs=>by simp[z3V,uS (i+1) xs]
theorem z64:∀{i k:Nat}{xs:List D}{d:D},(z3V i xs)[k]? = some d->∃x,xs[k]? = some x/\d=.tup [.int ((i+k:Nat):Int),x]
 | _,_,[],_,h=>by cases h | i,0,x::xs,d,h=>by simp[z3V]at h;exact⟨x,by rfl,by simp[h]⟩ | i,k+1,x::xs,d,h=>by
  simp only[z3V,_k]at h;obtain⟨y,h1,h2⟩:=z64 h;refine⟨y,by exact h1,?_⟩;rw[h2,show i+1+k=i+(k+1) by lia]
noncomputable def zf0(f:FA):FI:=fun ρ s=>(f ρ s).bind λds s1=>match ds with
 | [x]=>match zbS s1 x with
  | some p=>.ok (z3V 0 p.1,p.2) s1 | none=>.no
 | _=>.no
theorem zm1{p tp:Pos}{bJ:List Expr}{kt:Nat}  (hg:Gl X "enumerate")(hm:X.mg "enumerate"=none)(ha:RA X E [a] f)(hs:autoParam (starEach [a] X.env=(false,eval a X.env)::starEach [] X.env) aRf)(be:autoParam ((backTo pos (starEach [] X.env)).any (·.1)=false) aRf): RI X E (.Tuple bJ kt tp) (.Call (.Name "enumerate" p) [a] [] pos) (zf0 f):= z6H (zis hg hm ha hs be) λO H Q ⟨Y,ρ,s,r,en,h⟩=>by
  refine⟨Y,ρ,s,r,en,(okR.bind  h).imp λvs H1 ⟨Y1,s1,ds,stp,dn,h1⟩=>?_⟩;split at h1
  ·split at h1
   ·rename_i p ex;obtain⟨v,rfl,d1⟩:=z2R dn;obtain⟨j6,b1,a1,rfl,k1⟩:=z8T stp.rep ex d1;obtain⟨w1,q1,_⟩:=k1 H1 Y1 s1 (.refl stp.rep) j6;refine⟨a1,b1,rfl,⟨w1,q1⟩,h1.here stp.rep λH2 Y2 s2 ak og i=>⟨λd hd=>?_,λhl=>?_⟩⟩
    ·obtain⟨x,e1,rfl⟩:=z64 hd;obtain⟨w1,q1,n1⟩:=k1 H2 Y2 s2 ak og;obtain⟨u1,g1,m1⟩:=n1.get e1;refine⟨⟨w1,u1,q1,g1⟩,λz H' ⟨T,p,hT,ez,eH,hp⟩=>?_⟩;subst ez eH;have e3:=hp w1 q1;rw[g1]at e3;cases e3;have bF:=xH.lay (o:=.tup [.int i,u1]) ak.rep hT (by intro _ z;cases z);refine⟨Y2,bF,?_⟩;simp only[_aV];exact⟨T,[.int i,u1],rfl,zP,(zU.cons xf (zU.one m1)).mono bF⟩
    ·obtain⟨w1,q1,n1⟩:=k1 H2 Y2 s2 ak og;refine⟨w1,q1,?_⟩;rw[n1.length];simpa only [uS] using hl
   ·exact h1.elim
  ·exact h1.elim
end
section
variable (i j k:Nat)(ρ:Ev)(s:Sto)(ar:FA)
@[simp] theorem zje:zf0 ar ρ s=(ar ρ s).bind λds s1=>match ds with
 | [x]=>match zbS s1 x with
  | some p=>.ok (z3V 0 p.1,p.2) s1 | none=>.no
 | _=>.no:=id rfl
end
end Dd
namespace L2
noncomputable def ziz(n:Nat):List V:=(List.range n).map λk=>V.int ((k:Nat):Int)
theorem z2O:∀{xs:List V}{us:List Value},us.length=xs.length->(∀(j:Nat) u,us[j]? = some u->∃x,xs[j]? = some x/\xr x u)->xF xs us
 | [],[],_,_=>.nil | [],_::_,h,_=>by cases h | _::_,[],h,_=>by cases h | x::xs,u::us,h,k=>by
  obtain⟨y,e,r⟩:=k 0 u (by rfl);have:y=x:=by simpa using e.symm
  subst this;exact .cons r (z2O (by simpa using h) λj v hv=>k (j+1) v (by exact hv))
theorem z7J    {p p2 pos bV:Pos} (hc:X.calm=true) (hg:Gl X "list") (hm:X.mg "list"=none) (cO:Gl X "range") (cP:X.mg "range"=none) (ha:PA X [a] ta) (bI:autoParam (starEach [a] X.env=[(false,eval a X.env)]) aRf) (hs:autoParam (starEach [.Call (.Name "range" p2) [a] [] bV] X.env=(false,eval (.Call (.Name "range" p2) [a] [] bV) X.env)::starEach [] X.env) aRf) (be:autoParam ((backTo pos (starEach [] X.env)).any (·.1)=false) aRf): PE X (.Call (.Name "list" p) [.Call (.Name "range" p2) [a] [] bV] [] pos) (λO H Q=>ta O H λvs H1=>∃j:Int,vs=[.int j]/\0<=j/\j<=1000/\∀l,H1 l=none->Q (.ref l) (upd H1 l (.lst (ziz j.toNat)))):=by
 intro ac s O H Q I h;refine _ao (kL I hg hm (u:=.type "list") (by decide +kernel) (_ah ?_ hs be) (by decide) (by decide));refine _bx (_ao (kL I cO cP boot_range (_ah (thn (ha bV ac s O H _ I h) λus s1 ⟨vs,H1,I1,r1,q1⟩=>?_) bI rfl) (by decide) (by decide)));obtain⟨j,e,q0,q2,q⟩:=q1;subst e;obtain⟨u,rfl,⟨t,rfl⟩⟩:=vals1 r1;refine call_range_1 (_b8 ?_);have hsz:Builtin.Range.rangeSize 0 j 1=(j.toNat:Nat):=by rw[rangeSize_one];split<;>lia
 refine call_list_range (I.ok.hd hc) (IsRange.new ..) (small_one (by lia) (by lia) (by lia) (by lia)) hsz (by lia) λh' tk af c' hk hS bY=>?_;have I2:Inv X ac O H1 {s1 with heap:=s1.heap.push {cls:=.type "range",data:=.fields #[.int 0 s1.toks,.int j t,.int 1 (s1.toks+1)]},toks:=s1.toks+1+1}:=I1.kept λb o e=>_e _ e;have hl:(ziz j.toNat).length=j.toNat:=by simp[ziz]
 refine⟨.ref _,upd H1 _ (.lst (ziz j.toNat)),I2.laid  hk (_h _) ?_,rfl,q _ (I2.hok.fresh (_h _))⟩;exact⟨by rw[hl];exact _S (show j.toNat<=1000 by lia) (by decide),af.toList,c',(z2O (by simp[bY.1,hl]) λi v hv=>by
  obtain⟨eo,rfl⟩:=bY.2 i v (by simpa using hv);have hi:i<j.toNat:=by
   have:=(_b.mp hv).1;simp[bY.1]at this;lia
  exact⟨.int i,by simp[ziz,hi],⟨eo,by simp⟩⟩),by exact hS⟩
end L2
namespace Dd
open L2
section
variable {X:Cx}{E:XK}{a:Expr}{pos:Pos}
theorem zfD    (n:Nat):zU mg H Y (yP n) (ziz n):=by
 unfold yP ziz;induction (List.range n) with
 | nil=>exact zU.nil | cons k ks ih=>exact zU.cons xf ih
noncomputable def eLR(f:FA):FE:=fun ρ s=>(f ρ s).bind λds s1=>match ds with
 | [.int j]=>if 0<=j/\j<=1000 then .ok (.lst (yP j.toNat)) s1 else .no | _=>.no
theorem z3t{p p2 bV:Pos}  (hc:X.calm=true)(hg:Gl X "list")(hm:X.mg "list"=none)(cO:Gl X "range")(cP:X.mg "range"=none)(ha:RA X E [a] f) (bI:autoParam (starEach [a] X.env=[(false,eval a X.env)]) aRf) (hs:autoParam (starEach [.Call (.Name "range" p2) [a] [] bV] X.env=(false,eval (.Call (.Name "range" p2) [a] [] bV) X.env)::starEach [] X.env) aRf)(be:autoParam ((backTo pos (starEach [] X.env)).any (·.1)=false) aRf): RE X E (.Call (.Name "list" p) [.Call (.Name "range" p2) [a] [] bV] [] pos) (eLR f):= yz (z7J hc hg hm cO cP ha bI hs be).freeze λO H Q ⟨Y,ρ,s,r,en,h⟩=>by
  refine⟨Y,ρ,s,r,en,(okR.bind  h).imp λvs H1 ⟨Y1,s1,ds,stp,dn,h1⟩=>?_⟩;split at h1
  ·rename_i j;split at h1
   ·rename_i hj;obtain⟨v,rfl,d1⟩:=z2R dn;cases yJ d1;exact⟨j,rfl,hj.1,hj.2,z0e stp.rep h1 (zfD _)⟩
   ·exact h1.elim
  ·exact h1.elim
@[simp] theorem zks (f:FA)(ρ:Ev)(s:Sto):eLR f ρ s=(f ρ s).bind λds s1=>match ds with
 | [.int j]=>if 0<=j/\j<=1000 then .ok (.lst (yP j.toNat)) s1 else .no | _=>.no:=id rfl
end
noncomputable def uw(ft:FT)(fb:FS):Nat->Ev->Sto->R Fl
 | 0,_,_=>.no | k+1,ρ,s=>(ft ρ s).bind λb s1=>if b=true then (fb ρ s1).bind λfl s2=>match fl with
   | .nx ρ'=>uw ft fb k ρ' s2 | .ct ρ'=>uw ft fb k ρ' s2 | .bk ρ'=>.ok (.nx ρ') s2 | .rt d=>.ok (.rt d) s2 else .ok (.nx ρ) s1
theorem z1l   : ∀{k:Nat}{ρ:Ev}{s:Sto},uw ft fb k ρ s≠.no->uw ft fb (k+1) ρ s=uw ft fb k ρ s
 | 0,ρ,s,h=>absurd rfl h | k+1,ρ,s,h=>by
  rw[uw]at h ⊢;conv=>rhs;rw[uw]
  cases e:ft ρ s with
  | no=>rfl | ex c t=>rfl | ok b s1=>
   rw[e]at h;simp only[Rb]at h ⊢;cases b with
   | false=>rfl | true=> cases e2:fb ρ s1 with
    | no=>rfl | ex c t=>rfl | ok fl s2=>
     rw[e2]at h;cases fl with
     | nx ρ'=>exact z1l h | ct ρ'=>exact z1l h | bk ρ'=>rfl | rt d=>rfl
theorem za7      (h:uw ft fb k ρ s≠.no)(hm:k<=m):uw ft fb m ρ s=uw ft fb k ρ s:=by induction hm with
 | refl=>rfl | step _ ih=>rw[z1l (by rw[ih];exact h),ih]
open Classical in
def z53(ft:FT)(fb:FS):FS:=fun ρ s=>if h:∃k,uw ft fb k ρ s≠.no then uw ft fb h.choose ρ s else .no
theorem zao       (h:uw ft fb k ρ s=r)(hr:r≠.no):z53 ft fb ρ s=r:=by
 subst h;have hx:∃k,uw ft fb k ρ s≠.no:=⟨k,hr⟩;unfold z53;rw[dif_pos hx];rcases Nat.le_total k hx.choose with z | z;·exact za7 hr z
 ·exact (za7 hx.choose_spec z).symm
theorem zd1        (hp:PassesOwn (model X.prog X.w) X.A X.env X.xe)(hc:RT X E c ft)(hb:RSs X E body fb):RS X E (.While c body [] pos) (z53 ft fb):= uP (zgn hp hc hb) λD O H ⟨Y,ρ,s,r,en,h⟩=>by
  unfold z53 at h;split at h
  ·refine⟨λm O H=>∃Y ρ s,Rep (gm X) H Y s/\qG (gm X) H Y ρ O/\okR (gm X) E H Y (FlD (gm X)) (uw ft fb m ρ s) (zeK D),⟨_,Y,ρ,s,r,en,h⟩,?_⟩;rintro m O H ⟨Y,ρ,s,r,en,h⟩;cases m with
   | zero=>exact h.elim | succ m=>
    refine⟨Y,ρ,s,r,en,(okR.bind  h).imp λb H1 ⟨Y1,s1,b',stp,eb,h1⟩=>?_⟩;cases (eb);cases b with
    | false=> exact okR.here (b:=FlV.nx O)  h1 stp.rep (en.mono stp) | true=>
     refine⟨λO' H'=>∃Y ρ s,Rep (gm X) H' Y s/\qG (gm X) H' Y ρ O'/\okR (gm X) E H' Y (FlD (gm X)) (uw ft fb m ρ s) (zeK D),λO' H' q=>⟨m,_cu _,q⟩,Y1,ρ,s1,stp.rep,en.mono stp,(okR.bind  h1).imp λfv H2 ⟨Y2,s2,fl,ak,dn,h2⟩=>?_⟩;cases fl with
     | nx ρ'=> cases fv with
      | nx O'=>exact⟨Y2,ρ',s2,ak.rep,dn,h2⟩ | _=>exact (dn).elim
     | ct ρ'=> cases fv with
      | ct O'=>exact⟨Y2,ρ',s2,ak.rep,dn,h2⟩ | _=>exact (dn).elim
     | bk ρ'=> cases fv with
      | bk O'=>exact okR.here (b:=FlV.nx O')    h2 ak.rep dn | _=>exact (dn).elim
     | rt d=> cases fv with
      | rt v=>exact okR.here  (Q:=zeK D)   h2 ak.rep dn | _=>exact (dn).elim
  ·exact h.elim
end Dd
namespace PySem
open PySem.AutoSeq1 (wpAny_loadPart')
open MeetsSeq MeetsSeq2 SeqAt
theorem zaY      (f:Nat->β->Sem (ForInStep β))(I:Nat->β->Shared->Prop)(Q:β->Shared->Prop)(n:Nat) (turn:∀i b s,i<n->I i b s->wpAny M A (f i b) (λr s'=>match r with | .yield b'=>I (i+1) b' s' | .done b'=>Q b' s') E s) (fin:∀b s,I n b s->Q b s)(b:β)(h:I 0 b s):wpAny M A (forIn ([0:n]:Std.Legacy.Range) b f) Q E s:=by
 rw[Std.Legacy.Range.forIn_eq_forIn_range'];refine _ct f (λkc b s'=>∃i,kc=List.range' i (n-i)/\i<=n/\I i b s') _ ?_ ?_ _ _ ⟨0,by simp,_az _,h⟩
 ·rintro x kc b s' ⟨i,hr,hi,hI⟩;have bU:i<n:=by
   rcases Nat.lt_or_ge i n with h | h;·exact h
   ·rw[Nat.sub_eq_zero_of_le h]at hr;simp at hr
  obtain⟨rfl,cJ⟩:x=i/\kc=List.range' (i+1) (n-(i+1)):=by
   rw[(show n-i=(n-(i+1))+1 from by omega)]at hr;injection hr with h1 h2;exact⟨h1,h2⟩
  refine _F (turn x b s' bU hI) (λr s2 hr=>?_) λ_ _ h'=>h';cases r with
  | done b'=>exact hr | yield b'=>exact⟨x+1,cJ,bU,hr⟩
 ·rintro b s' ⟨i,hr,hi,hI⟩;have:i=n:=by
   have:=_aw List.length hr;simp at this;omega
  subst this;exact fin _ _ hI
theorem z44 (l:Addr) (items:Array Value) (n:Nat) (dd:Option Addr) (sl:Array (Option Value)) (x:Value) (e:Value->Bool) (j:Nat) (hj:j<items.size) (rE:e items[j]=true) (rF:∀m (hm:m<items.size),m<j->e items[m]=false): Meets (Builtin.«tuple.index» ⟨[.ref l,x],[]⟩) (λA R s=>s.heap.get? l=some {cls:=.type "tuple",dict:=dd,data:=.seq items n,slots:=sl}/\(∀y,y∈items->EqAt A.in1 s y x (e y))/\R (.ok (.ret (.int j s.toks))) {s with toks:=s.toks+1}):= .of_wp λprog w A R s h=>by
  obtain⟨hp,g,d,tk,os⟩:=s;obtain⟨hl,he,h⟩:=h;wp_walk using _aC hl,zaY _ (λi b s'=>b.1=none/\s'=⟨hp,g,d,tk,os⟩/\i<=j) _ _;case turn=>
   rintro i ⟨b1,b2⟩ s' hi ⟨hb,rfl,aF⟩;rw[(Nat.min_self _)]at hi;rw[Array.getElem?_eq_getElem hi];refine _a (he _ (Array.getElem_mem hi) prog w _ _ ?_);rcases Nat.lt_or_eq_of_le aF with lt | rfl
   ·wp_walk;exact⟨rfl,rfl,lt⟩
   ·wp_walk;exact⟨_,rfl,h⟩
  case fin=> omega
  case h=>exact⟨rfl,rfl,_az _⟩
end PySem
namespace L2
section
variable {X:Cx}{o e:Expr}{to:TE}{t:TA}{name:Str}{aV aJ:Pos}{id:String}{r:V->List V->Hp->VK->Prop}
theorem zkk(slot:Slot "tuple" name id)(fJ:typeOf (.builtin id)=pure (.type "method_descriptor"))(hm:MtR X id r)(ho:PE X o to)(ha:PA X [e] t) (bi:autoParam (attributeBase o name X.env (eval o X.env)=eval o X.env) aRf) (bM:autoParam (((backTo aJ (starEach [e] X.env)).all (λx=>!x.1)&&(backToKw aJ (keywordEach [] X.env)).all (λx=>x.1.isSome) && decide ([e].length+([]:List Keyword).length+(if ([]:List Keyword).isEmpty then 0 else 1)<30))=true) aRf) (aE:autoParam ((aV.endLine==aJ.line)=true) aRf)(hs:autoParam (starEach [e] X.env=(false,eval e X.env)::starEach [] X.env) aRf)(bf:autoParam ((backTo aJ (starEach [] X.env)).any (·.1)=false) aRf): PE X (.Call (.Attribute o name aV) [e] [] aJ) (λO H Q=>to O H λx H1=>(∃p vs,x=.ref p/\H1 p=some (.tup vs))/\t O H1 λxs H2=>r x xs H2 Q):=by
 refine λac s O H Q I h=>wpAny_Call_method_late bi bM aE rfl (thn (ho ac s O H _ I h) λv s1 ⟨x,H1,I1,r1,ty,q1⟩=>?_);obtain⟨p,vs,rfl,hp⟩:=ty;cases r1;obtain⟨_,ah,_,ob,e1,c1,d1,n,w1⟩:=I1.hok p _ hp;refine⟨"tuple",id,PySem.F.plainAttrs_tuple,slot,fJ,⟨ob,e1,c1⟩,λa e=>?_,?_⟩
 ·cases e;exact⟨ob,e1,d1⟩
 have hA:=ha aJ ac s1 O H1 _ I1 q1;rw[hs]at hA ⊢;exact _cc (by show (false||(backTo aJ (starEach [] X.env)).any (·.1))=false;rw[bf]<;>rfl) (_cA (thn hA λus s2 ⟨vs,H2,I2,r2,q2⟩=>hm ac s2 O H2 (.ref p) vs _ us Q I2 rfl r2 q2))
theorem z1w:∀{ns:List Int}{ah:List Value},xF (ns.map V.int) ah->IntsAre ah ns
 | [],_,.nil=>.nil | n::ns,_,.cons r rs=>by
  obtain⟨t,rfl⟩:=r;exact .cons n t (z1w rs)
def zoL:V->List V->Hp->VK->Prop:=λx vs H Q=>∃(p:Addr)(ns:List Int)(k:Int),x=.ref p/\vs=[.int k]/\H p=some (.tup (ns.map V.int))/\k∈ns/\Q (.int (ns.idxOf k:Nat)) H
theorem z9f:MtR X "tuple.index" zoL:=by
 intro ac s O H x vs v us Q I rx rv h;obtain⟨p,ns,k,rfl,rfl,hp,hk,q⟩:=h;cases rx;obtain⟨u,rfl,⟨t,rfl⟩⟩:=vals1 rv;obtain⟨_,ah,r,ob,e1,c1,d1,n,w1⟩:=I.hok p _ hp;have hi:=z1w r;have aD:=hi.length;have hj  := List.idxOf_lt_length_iff.mpr hk;obtain⟨cls,dd,data,sl⟩:=ob;simp only at c1 d1 w1;subst c1 d1 w1;refine call_meets PySem.F.slot_tuple_index ⟨_,e1,rfl⟩ PySem.F.entry_tuple_index (PySem.F.args_tuple_index_2 _ _) (z44 p ah.toArray n _ sl (.int k t) (isInt k) (ns.idxOf k) (by simpa[aD] using hj) ?_ ?_) ⟨e1,λy hy=>(eq_isInt k t hi y (by simpa using hy)).at _ _,?_⟩
 ·show isInt k ah[ns.idxOf k]=true;rw[isInt_at k hi _ (by omega) hj];simpa using List.getElem_idxOf hj
 ·intro j nR bU;show isInt k ah[j]=false;rw[isInt_at k hi j (by simpa using nR) (by omega)];exact ne_of_lt_idxOf bU _
 ·exact⟨.int (ns.idxOf k:Nat),H,I.kept (λb o e=>e),⟨s.toks,rfl⟩,q⟩
end
end L2
namespace Dd
open L2
section
variable {X:Cx}{E:XK}{o e:Expr}{pos:Pos}
noncomputable def zhx(fo fv:FE):FE:=fun ρ s=>(fo ρ s).bind λo s1=>match o with
 | .tup ds=>(fv ρ s1).bind λd s2=>match intsOf ds,d with
  | some ns,.int k=>if k∈ns then .ok (.int (ns.idxOf k:Nat)) s2 else .no | _,_=>.no
 | _=>.no
theorem z9d{aV:Pos}  (ho:RE X E o fo)(hv:RE X E e fv)(bi:autoParam (attributeBase o "index" X.env (eval o X.env)=eval o X.env) aRf) (bM:autoParam (((backTo pos (starEach [e] X.env)).all (λx=>!x.1)&&(backToKw pos (keywordEach [] X.env)).all (λx=>x.1.isSome) && decide ([e].length+([]:List Keyword).length+(if ([]:List Keyword).isEmpty then 0 else 1)<30))=true) aRf) (aE:autoParam ((aV.endLine==pos.line)=true) aRf)(hs:autoParam (starEach [e] X.env=(false,eval e X.env)::starEach [] X.env) aRf)(bf:autoParam ((backTo pos (starEach [] X.env)).any (·.1)=false) aRf): RE X E (.Call (.Attribute o "index" aV) [e] [] pos) (zhx fo fv):= yz (zkk PySem.F.slot_tuple_index PySem.F.type_tuple_index z9f ho (jC hv z1H hs) bi bM aE hs bf) λO H Q ⟨Y,ρ,s,r,en,h⟩=>by
  refine⟨Y,ρ,s,r,en,(okR.bind  h).imp λov H1 ⟨Y1,s1,od,stp,dn,h1⟩=>?_⟩;cases od with
  | tup ds=>
   refine⟨(by
    obtain⟨a,vs,rfl,e1,_⟩:=dn;exact⟨a,vs,rfl,e1⟩),⟨Y1,ρ,s1,stp.rep,en.mono stp,(okR.bind  h1).imp λv H2 ⟨Y2,s2,d,ak,aI,h2⟩=>?_⟩⟩;split at h2
   ·rename_i ns k ei;split at h2
    ·rename_i hk;obtain⟨a,vs,rfl,e1,e2⟩:=(dn.mono ak);rw[uo ei]at e2;cases ur e2;cases yJ aI;exact⟨a,ns,k,rfl,rfl,e1,hk,okR.here h2 ak.rep xf⟩
    ·exact h2.elim
   ·exact h2.elim | _=>exact h1.elim
@[simp] theorem zki (fo fv:FE)(ρ:Ev)(s:Sto):zhx fo fv ρ s=(fo ρ s).bind λo s1=>match o with
 | .tup ds=>(fv ρ s1).bind λd s2=>match intsOf ds,d with
  | some ns,.int k=>if k∈ns then .ok (.int (ns.idxOf k:Nat)) s2 else .no | _,_=>.no
 | _=>.no:=id rfl
end
def zl1(P:Program)(w:World)(K:W.Frag)(mg:Str->Option Value)(x:Str)(tb:List (Str×Str)):Prop:= ∃a o es ep,mg x=some (.ref a)/\(a==sysModules)=false/\K.lookup a=some o/\o.ExactDict/\o.data=.dict es ep/\PySem.KeysOf (zX P w) es/\ (∀k y,tb.lookup k=some y->∃f,findBy (zX P w).is es (.inr k)=some (.ref f)/\mg y=some (.ref f))/\∀k,tb.lookup k=none->findBy (zX P w).is es (.inr k)=none
theorem z6Q     (r:xr (.str k) u):(zX P w).is (.inr k) u=true:=by
 obtain⟨t,e⟩:=(r);subst e;exact z3A k t
section
variable {X:Cx}{E:XK}{e a b c:Expr}{es:List Expr}{pos:Pos}{CX:CXT}
theorem z9z  {O:L2.St}       (I:Inv X ac O H s)(hk:X.K.lookup d=some o)(hx:o.ExactDict)(hd:o.data=.dict en ep)(ks:PySem.KeysOf (zX X.prog X.w) en): s.heap.MapOf (zX X.prog X.w) d (λk=>findBy (zX X.prog X.w).is en k):=⟨o,en,ep,I.kIn d o hk,hx,hd,ks,λ_=>rfl⟩
noncomputable def zo1(tb:List (Str×Str))(f:FE):FE:=fun ρ s=>(f ρ s).bind λd s1=>match d with
 | .str k=>match tb.lookup k with | some y=>.ok (.fn y) s1 | none=>.no
 | _=>.no
theorem zn9     (hT:zl1 X.prog X.w X.K X.mg x tb)(hg:Gl X x)(he:RE X E e f)(hs:z91 e)(bq:autoParam ((x==("__debug__":Str))=false) aDe): RE X E (.Subscript (.Name x p) e pos) (zo1 tb f):=by
 obtain⟨d,o,en,ep,hm,lX,hk,hx,hd,ks,h1,h2⟩:=hT;refine yz (zl3 (r:=λv y H Q=>v=.ref d/\∃k g,y=.str k/\findBy (zX X.prog X.w).is en (.inr k)=some (.ref g)/\Q (.ref g) H) ?_ (z96 hg hm (show xr (.ref d) (.ref d) from rfl) bq) he hs) λO H Q ⟨Y,ρ,s,r,en',h⟩=>?_
 ·intro bx slice ac s O H v y u u2 Q I rx ry h bI;obtain⟨rfl,k,g,rfl,hf,q⟩:=h;cases rx;have mp:=z9z I hk hx hd ks;exact _cb  mp.typeIs PySem.F.slot_dict_getitem.lookup (wpAny_getItem_of  (z6Q ry) mp hf ⟨rfl,.ref g,H,I.tok _,rfl,q⟩) bI
 ·refine⟨Y,ρ,s,r,en',(okR.bind  h).imp λv H1 ⟨Y1,s1,dd,stp,dn,q⟩=>?_⟩;split at q
  ·rename_i k;split at q
   ·rename_i y hy;obtain⟨g,e1,e2⟩:=h1 k y hy;cases z8q dn;exact⟨rfl,k,g,rfl,e1,okR.here  q stp.rep (⟨g,rfl,e2⟩)⟩
   ·exact q.elim
  ·exact q.elim
noncomputable def zdH(tb:List (Str×Str))(neg:Bool)(f:FE):FE:=fun ρ s=>(f ρ s).bind λd s1=>match d with
 | .str k=>.ok (.bl (xor neg (tb.lookup k).isSome)) s1 | _=>.no
theorem zjg     (hT:zl1 X.prog X.w X.K X.mg x tb)(hg:Gl X x)(he:RE X E e f)(nS:autoParam (behindInMarks .In (.Name x p)=false) aRf)(bq:autoParam ((x==("__debug__":Str))=false) aDe): RE X E (.Compare e [.In] [.Name x p] pos) (zdH tb false f):=by
 obtain⟨d,o,en,ep,hm,lX,hk,hx,hd,ks,h1,h2⟩:=hT;refine yz (zdZ (r:=λy v H Q=>v=.ref d/\∃k,y=.str k/\Q (.bl (findBy (zX X.prog X.w).is en (.inr k)).isSome) H) ?_ he (z96 hg hm (show xr (.ref d) (.ref d) from rfl) bq) nS) λO H Q ⟨Y,ρ,s,r,en',h⟩=>?_
 ·intro ac s O H y v u u2 Q I ry rx h;obtain⟨rfl,k,rfl,q⟩:=h;cases rx;exact wpAny_in_of (z6Q ry) lX (z9z I hk hx hd ks) ⟨.bl _,H,I.tok _,rfl,q⟩
 ·refine⟨Y,ρ,s,r,en',(okR.bind  h).imp λv H1 ⟨Y1,s1,dd,stp,dn,q⟩=>?_⟩;split at q
  ·rename_i k;cases z8q dn;exact⟨rfl,k,rfl,okR.here  q stp.rep (by change V.bl _=V.bl _;simp[(show (findBy (zX X.prog X.w).is en (.inr k)).isSome=(tb.lookup k).isSome from by cases z:tb.lookup k with
    | none=>rw[h2 k z];rfl | some y=>obtain⟨g,e1,_⟩:=h1 k y z;rw[e1];rfl)])⟩
  ·exact q.elim
noncomputable def z9Z(i:Nat)(Ms:List (Str×Mir))(f:FA):FE:=fun ρ s=>match ρ[i]? with
 | some (some (.fn y))=>match Ms.lookup y with
  | some M=>(f ρ s).bind λxs s1=>M xs s1 | none=>.no
 | _=>.no
theorem zjf (i:Nat)  {p:Pos}  {Ms:List (Str×Mir)}  (F:∀y M,Ms.lookup y=some M->Has X.prog X.w X.K X.mg X.base CX y n M) (hr:z1F n X.A) (nT:Passes CX X E) (ha:RA X E (e::es) f) (hN:autoParam (X.N[i]? = some x) aRf) (hv:Vis X.env.scope x:=by first | exact Or.inl rfl | exact Or.inr (Or.inl rfl) | exact Or.inr (Or.inr rfl)) (hd:autoParam ((x==("__debug__":Str))=false) aDe) (bQ:autoParam ((x==("__classdict__":Str))=false) aDe) (he:autoParam (starEach (e::es) X.env=(false,eval e X.env)::starEach es X.env) aRf) (be:autoParam ((backTo pos (starEach es X.env)).any (·.1)=false) aRf):RE X E (.Call (.Name x p) (e::es) [] pos) (z9Z i Ms f):=by
 intro ac s O H Q I ⟨Y,ρ,st,r,en,h⟩;unfold z9Z at h;split at h
 ·rename_i y hy;split at h
  ·rename_i M hM;obtain⟨v,ig,dv⟩:=en.at_ i (.fn y) hy;obtain⟨g,rfl,dZ⟩:=dv;obtain⟨fa,fd,ps,Fk,hb,hk,hm⟩:=F y M hM;have e0:g=fa:=by cases dZ.symm.trans hm;rfl
   subst e0;refine _ao (thn (za0  hN hv hd bQ ac s O H (λv H1=>v=.ref g/\H1=H) I ⟨.ref g,ig,rfl,rfl⟩) λu s1 ⟨v,H1,I1,r1,e1,e2⟩=>?_);subst e1 e2;cases r1;exact W.callWith_K  I1.ok.mod.kin hk (thn (ha pos ac s1 O H1 (λvs H2=>zi7 (gm X) M (vs++[]) H2 Q E) I1 (qJ (k:=fun ρ xs s1=>M xs s1) r en h _ λvs H2 Y2 s2 ds r2 bz aI ak h3=>by
    rw[_bz];exact⟨Y2,s2,ds,r2,aI,h3⟩)) λus s2 ⟨vs,H2,I2,r2,q⟩=>⟨I2.kIn,(zev Fk hr hb .nil nT I2 r2 q)⟩) he be
  ·exact h.elim
 ·exact h.elim
@[simp] theorem zp3 (tb:List (Str×Str))(f:FE)(ρ:Ev)(s:Sto):zo1 tb f ρ s=(f ρ s).bind λd s1=>match d with
 | .str k=>match tb.lookup k with | some y=>.ok (.fn y) s1 | none=>.no
 | _=>.no:=id rfl
@[simp] theorem zmw (tb:List (Str×Str))(neg:Bool)(f:FE)(ρ:Ev)(s:Sto):zdH tb neg f ρ s=(f ρ s).bind λd s1=>match d with
 | .str k=>.ok (.bl (xor neg (tb.lookup k).isSome)) s1 | _=>.no:=id rfl
@[simp] theorem zfU (i:Nat)(Ms:List (Str×Mir))(f:FA)(ρ:Ev)(s:Sto):z9Z i Ms f ρ s=match ρ[i]? with
 | some (some (.fn y))=>match Ms.lookup y with
  | some M=>(f ρ s).bind λxs s1=>M xs s1 | none=>.no
 | _=>.no:=id rfl
end
theorem xH.cut     (stp:xH mg H Y H1 Y1 s1):xH mg H Y H1 (Y1.take Y.length) (s1.take Y.length):=by
 have dk:DkS H1 Y1 H1 (Y1.take Y.length):=λb hb ae e=>⟨_N hb,e⟩;refine⟨⟨by simp[stp.rep.len],stp.rep.nd.sublist (_c4 _ _),λj ys h=>?_,λys h=>stp.rep.flat ys (_N h),λb h z=>stp.rep.own b (dk.own h) (_N z),dk.uq stp.rep⟩,?_,stp.keep,λc h1 h2=>stp.new c (_N h1) h2,stp.mt,stp.dom,λb h=>stp.ow b (dk.own h)⟩
 ·have hj:j<Y.length:=by
   have:=(_b.mp h).1;simp at this;lia
  rw[_aI hj]at h ⊢;obtain⟨c,q1,q2⟩:=stp.rep.cell j ys h;exact⟨c,q1,q2.flatten (λ_ _ h _ _ _=>h) (stp.rep.flat _ (_d h)) rfl (_d q1) stp.rep.own (λ_ _ _ q=>q)⟩
 ·obtain⟨t,ht⟩:=stp.pre;exact⟨[],by rw[<- ht];simp⟩
theorem xH.frzC       (stp:xH mg H Y H1 Y1 s1)  (hl:Y.length<=l)(hx:s1[l]? = some xs)(e1:Y1[l]? = some a)(ka:IsL H1 a):∃vs,H1 a=some (.lst vs)/\ ∀o,xH mg H Y (upd H1 a (.frz o (.lst vs))) (Y1.take Y.length) (s1.take Y.length)/\Den mg (upd H1 a (.frz o (.lst vs))) (Y1.take Y.length) (.lst xs) (.ref a):=by
 obtain⟨vs,e2,e3⟩:=stp.rep.at_ hx e1 ka;refine⟨vs,e2,λo=>?_⟩;have an:a∉Y:=λz=>by
  obtain⟨j,hj,ej⟩:=_v.mp z;obtain⟨t,ht⟩:=stp.pre;have:=(_bc stp.rep.nd).mp (((_b.mp (by rw[<- ht,_y hj,_c hj,ej])).2).trans ((_b.mp e1).2).symm);lia
 have a0  := stp.new a (_d e1) an;have k:∀b u,H1 b=some u->(∀vs,u≠.lst vs)->(∀ae,u≠.dT ae)->(∀ae,ae≠[]->u≠.dK ae)->upd H1 a (.frz o (.lst vs)) b=some u:=λb u h hn _ _=>by rw[zq (λz=>by subst z;rw[e2]at h;exact hn vs (_E h).symm)];exact h
 have dk:DkS H1 Y1 (upd H1 a (.frz o (.lst vs))) (Y1.take Y.length):=λb hb ae e=>by
  by_cases z:b=a;·subst z;rw[zP]at e;cases e
  ·rw[zq z]at e;exact⟨_N hb,e⟩
 have mem:∀{j:Nat}{ys:List D},s1[j]? = some ys->D.flat.flats ys=true:=λe=>stp.rep.flat _ (_d e);refine⟨⟨⟨by simp[stp.rep.len],stp.rep.nd.sublist (_c4 _ _),λj ys h=>?_,λys h=>stp.rep.flat ys (_N h),λb h z=>stp.rep.own b (dk.own h) (_N z),dk.uq stp.rep⟩,?_,λb u h n g=>?_,λc h1 h2=>stp.new c (_N h1) h2,λb hb=>?_,λb h=>stp.dom b (qQ h),λb h=>stp.ow b (dk.own h)⟩,?_⟩
 ·have hj:j<Y.length:=by
   have:=(_b.mp h).1;simp at this;lia
  rw[_aI hj]at h ⊢;obtain⟨c,q1,q2⟩:=stp.rep.cell j ys h;refine⟨c,q1,q2.flatten k (mem h) (zq λz=>?_) (_d q1) stp.rep.own (λb vs hb q=>by rw[zq (show b≠a from λz=>hb (z ▸ _d e1))];exact q)⟩;subst z;have:=(_bc stp.rep.nd).mp (((_b.mp q1).2).trans ((_b.mp e1).2).symm);lia
 ·obtain⟨t,ht⟩:=stp.pre;exact⟨[],by rw[<- ht];simp⟩
 ·rw[zq (λz=>by subst z;rw[a0]at h;cases h)];exact stp.keep b u h n g
 ·have ne:b≠a:=λz=>an (z ▸ hb);rcases stp.mt b hb with⟨q1,q2⟩ | ⟨q1,q2,q3⟩;·exact .inl ⟨q1,by rw[IsL,zq ne];exact q2⟩
  ·exact .inr ⟨q1,by rw[IsC,zq ne];exact q2,λo u z=>by rw[zq ne];exact q3 o u z⟩
 ·exact⟨a,o,vs,rfl,zP,(λf h=>h.flatten k f) (mem hx) e3⟩
noncomputable def zkV(n:Nat):R D->R D
 | .ok (.loc l) s1=>match s1[l]? with
  | some xs=>if n<=l then .ok (.lst xs) (s1.take n) else .no | none=>.no
 | .ok _ _=>.no | .ex c s1=>.ex c s1 | .no=>.no
noncomputable def z8J(f:FE):FE:=fun ρ s=>zkV s.length (f ρ s)
section
variable {X:Cx}{E:XK}{e:Expr}
theorem zhv  (h:RE X E e f):RE X E e (z8J f):= yz (PE.freeze h) λO H Q ⟨Y,ρ,s,r,en,h⟩=>by
  refine⟨Y,ρ,s,r,en,?_⟩;unfold z8J zkV at h;split at h
  ·rename_i l s1 e1;rw[e1];split at h
   ·rename_i xs ex;split at h
    ·rename_i hl;intro v H1 Y1 stp dn;obtain⟨a,rfl,q1,ka⟩:=dn;obtain⟨vs,q2,q3⟩:=stp.frzC (by rw[r.len];exact hl) ex q1 ka;rw[<- r.len]at h;exact⟨a,vs,rfl,q2,λo=>h _ _ _ (q3 o).1 (q3 o).2⟩
    ·exact h.elim
   ·exact h.elim
  ·exact h.elim
  ·rename_i e1;rw[e1];exact h
  ·exact h.elim
end
@[simp] theorem zbZ (f:FE)(ρ:Ev)(s:Sto):z8J f ρ s=zkV s.length (f ρ s):=id rfl
@[simp] theorem zay   : zkV s.length (.ok (.loc s.length) (s++[xs]))=.ok (.lst xs) s:=by simp[zkV]
noncomputable def zaS(n:Nat):R D->R D
 | .ok (.loc l) s1=>if l<n then .ok (.loc l) (s1.take n) else .ok (.loc l) s1 | .ok d s1=>if d.flat=true then .ok d (s1.take n) else .ok d s1 | r=>r
noncomputable def z9i(M:Mir):Mir:=λds s=>zaS s.length (M ds s)
theorem zif       (h:zi7 mg (z9i M) vs H Q E):zi7 mg M vs H Q E:=by
 obtain⟨Y,s,ds,r,dn,h⟩:=h;refine⟨Y,s,ds,r,dn,?_⟩;unfold z9i zaS at h;split at h
 ·rename_i l s1 e;rw[e];split at h
  ·rename_i hl;intro v H1 Y1 stp dv;rw[<- r.len]at h;refine h v H1 _ stp.cut ?_;obtain⟨a,rfl,e1,ka⟩:=dv;exact⟨a,rfl,by rw[_aI (by rw[r.len];exact hl)];exact e1,ka⟩
  ·exact h
 ·rename_i d s1 hn e;rw[e];split at h
  ·rename_i hf;intro v H1 Y1 stp dv;rw[<- r.len]at h;exact h v H1 _ stp.cut (dv.flatten (λ_ _ h _ _ _=>h) hf)
  ·exact h
 ·exact h
section
variable {P:Program}{w:World}{K:W.Frag}{mg:Str->Option Value}{base:Heap}
theorem Has.tidy     (h:Has P w K mg base CX x n M):Has P w K mg base CX x n (z9i M):=by
 obtain⟨f,fd,ps,F,r⟩:=h;exact⟨f,fd,ps,F.imp λvs H Q E h=>zif h,r⟩
end
@[simp] theorem zd2 (M:Mir)(ds:List D)(s:Sto):z9i M ds s=zaS s.length (M ds s):=id rfl
@[simp] theorem z4M    (h:d.flat=true):zaS n (.ok d s1)=.ok d (s1.take n):=by cases d<;>first | exact nomatch (h:false=true) | simp[zaS,h]
section
variable {X:Cx}{E:XK}{e a b c:Expr}{es:List Expr}{pos:Pos}{CX:CXT}
theorem ziq     (F:Has X.prog X.w X.K X.mg X.base CX x n M)(hr:z1F n X.A)(hx:Passes CX X E)(hg:Gl X x)(bq:autoParam ((x==("__debug__":Str))=false) aDe):RE X E (.Call (.Name x p) [] [] pos) (ze M zi):=by
 obtain⟨fa,fd,ps,F,hb,hk,hm⟩:=F;exact yz (zeR F hr hg hm hk hb .nil hx bq) λO H Q ⟨Y,ρ,s,r,en,h⟩=>⟨Y,s,[],r,zU.nil,h⟩
end
section
variable {P:Program}{w:World}{K:W.Frag}{mg:Str->Option Value}{base:Heap}{CX:CXT}{n:Nat}
def zet:List DictEntry->List (Str×Value)
 | []=>[] | e::es=>match e.key with
  | .str k _=>(k,e.val)::zet es | _=>zet es
theorem z1c {P:Program} {w:World}  : ∀{es:List DictEntry},findBy (zX P w).is es.toArray (.inr k)=(zet es).lookup k
 | []=>by simp[findBy,zet] | e::es=>by
  have ih:=z1c (P:=P) (w:=w) (k:=k) (es:=es);simp only[findBy,List.find?_toArray]at ih ⊢;rw[List.find?_cons];cases hk:e.key with
  | str y t=>
   simp only[zet,hk,_V];by_cases z:k=y
   ·subst z;simp[z2X]
   ·rw[(show (zX P w).is (.inr k) (.str y t)=false from by
     rw[z4n];cases q:z63 (.inr k) (.str y t) with
     | false=>rfl | true=>
      rcases yK q with⟨i,u,h1,h2⟩ | ⟨x,u,h1,h2⟩;·cases h2
      ·cases h1;cases h2;exact absurd rfl z),show (k==y)=false from by simpa using z];exact ih | _=>
   simp only[zet,hk,(show (zX P w).is (.inr k) e.key=false from by
    rw[z4n];cases q:z63 (.inr k) e.key with
    | false=>rfl | true=>
     rcases yK q with⟨i,u,h1,h2⟩ | ⟨x,u,h1,h2⟩;·cases h1
     ·rw[hk]at h2;cases h2)];exact ih
theorem zf3:∀y M,([]:List (Str×Mir)).lookup y=some M->Has P w K mg base CX y n M:=λy M h=>by simp at h
theorem z0U    (h:Has P w K mg base CX x n M0)(hs:∀y M,Ms.lookup y=some M->Has P w K mg base CX y n M):∀y M,((x,M0)::Ms).lookup y=some M->Has P w K mg base CX y n M:=λy M e=>by
 rw[_V]at e;split at e
 ·rename_i hb;cases e;have:y=x:=by simpa using hb
  subst this;exact h
 ·exact hs y M e
end
def Sub(K:W.Frag)(h:Heap):Prop:=∀p∈K,h.get? p.1=some p.2
theorem Sub.in_{K:W.Frag}  (s:Sub K h):K.In h:=λa o e=>by induction K with
 | nil=>simp at e | cons p K ih=>
  obtain⟨b,u⟩:=p;rw[_V]at e;split at e
  ·rename_i hb;cases e;have:a=b:=by simpa using hb
   subst this;exact s (a,o) (by simp)
  ·exact ih (λq hq=>s q (by simp[hq])) e
theorem z5G(h:Heap)(a:Addr):Sub (z8F h a) h:=λp hp=>by
 unfold z8F at hp;split at hp
 ·rename_i o e;simp at hp;subst hp;exact e
 ·simp at hp
theorem Sub.app{K L:W.Frag}  (a:Sub K h)(b:Sub L h):Sub (K++L) h:=λp hp=>(_D.mp hp).elim (a p) (b p)
theorem zi0(h:Heap)(ns:List Str):Sub (gat h ns) h:=by
 refine (z5G h _).app λp hp=>?_;obtain⟨x,_,hx⟩:=_dm.mp hp;unfold zpi at hx;split at hx
 ·rcases _D.mp hx with hx | hx;·exact z5G h _ p hx
  ·split at hx
   ·split at hx;·exact z5G h _ p hx
    ·simp at hx
   ·exact z5G h _ p hx
   ·simp at hx
 ·simp at hx
def zp9(K:W.Frag)(x:Str)(st:Stmt):Prop:=∃f fd,W.nsIn K mainGlobals x=some (some (.ref f))/\Fun K x x st f fd
theorem ziE{K:W.Frag}  {st:Stmt}(h:zji K x=znl x st):zp9 K x st:=by
 unfold zji znl at h;split at h
 ·rename_i f hf;split at h
  ·rename_i oc od fd sl hl;simp only[_K,_cz]at h;obtain⟨h1,h2,h3,h4,h5,h6,h7,h8,h9,ii,lR⟩:=h;obtain⟨a1,a2,a3,a4,a5,a6,a7,a8,a9,gi,gj,gq,gu,gv,gw⟩:=fd;simp only at h1 h2 h3 h4 h5 h6 h7 h8 h9 ii;subst h1 h3 h4 h5 h6 h7 h8 h9;subst h2;exact⟨f,_,hf,zlQ hl ii lR⟩
  ·cases h
 ·cases h
theorem zf2{K:W.Frag}  (h:ziC K x=true):W.nsIn K mainGlobals x=some none:=by
 unfold ziC at h;split at h;·rename_i e;exact e
 ·cases h
theorem zgr{K:W.Frag}   (h:zjQ K x=some i):∃t,W.nsIn K mainGlobals x=some (some (.int i t)):=by
 unfold zjQ at h;split at h;·rename_i j t e;cases h;exact⟨t,e⟩
 ·cases h
theorem z9B   {K:W.Frag}   (X:K.In h)(G:h.Ns mainGlobals mg):∀{es:List DictEntry}{tb:List (Str×Str)},zaR K es (tb.map (·.2))=tb.map (λp=>(PyData.keyHash w.params p.1,some p.1,true))-> PySem.KeysOf (zX P w) es.toArray/\(∀k y,tb.lookup k=some y->∃f,(zet es).lookup k=some (.ref f)/\mg y=some (.ref f))/\∀k,tb.lookup k=none->(zet es).lookup k=none
 | [],[],_=>⟨λe he=>by simp at he,λk y h=>by simp at h,λk _=>by simp[zet]⟩ | [],_::_,h=>by simp[zaR]at h | _::_,[],h=>by simp[zaR]at h | e::es,(k0,y0)::tb,h=>by
  simp only[_A,zaR,_as,_cz]at h;obtain⟨⟨h1,h2,h3⟩,h4⟩:=h;obtain⟨i1,i2,i3⟩:=z9B (P:=P) X G h4;obtain⟨hh,kk,vv⟩:=e;simp only at h1 h2 h3;cases kk with
  | str ks t=>
   simp only[zeg,_K]at h2;subst h2;obtain⟨f,rfl,e1⟩:=(show ∃f,vv=.ref f/\W.nsIn K mainGlobals y0=some (some (.ref f)) from by
    unfold sameRef at h3;split at h3
    ·rename_i f g e1;have:f=g:=by simpa using h3
     subst this;exact⟨f,rfl,e1⟩
    ·cases h3);refine⟨λe he=>?_,λk y hy=>?_,λk hy=>?_⟩
   ·simp only[List.mem_toArray,_r]at he;rcases he with rfl | he;·exact⟨.inr ks,z3A ks t,h1⟩
    ·exact i1 e (by simpa using he)
   ·simp only[zet,_V]at hy ⊢;by_cases z:k=ks
    ·subst z;simp at hy ⊢;subst hy;exact W.mg_of X G e1
    ·rw[show (k==ks)=false from by simpa using z]at hy ⊢;exact i2 k y hy
   ·simp only[zet,_V]at hy ⊢;by_cases z:k=ks;·subst z;simp at hy
    ·rw[show (k==ks)=false from by simpa using z]at hy ⊢;exact i3 k hy | _=>simp[zeg]at h2
theorem zia   {K:W.Frag}     (X:K.In h)(G:h.Ns mainGlobals mg)(e:zj8 K x (tb.map (·.2))=zn8 w tb):zl1 P w K mg x tb:=by
 unfold zj8 zn8 at e;split at e
 ·rename_i a ha;split at e
  ·rename_i c d es ep sl hl;simp only[_K,_cz]at e;obtain⟨e1,e2,e3,e4,e5⟩:=e;obtain⟨i1,i2,i3⟩:=z9B  X G e5;have hs:sl=#[]:=Array.eq_empty_of_size_eq_zero (by simpa using e3);refine⟨a,_,es,ep,W.mg_of X G ha,e4,hl,⟨(by
    unfold z7i at e1;split at e1
    ·rename_i n;have:n="dict":=by simpa using e1
     rw[this]
    ·cases e1),(by simpa using e2),hs⟩,rfl,i1,λk y hy=>?_,λk hy=>?_⟩;·rw[z1c];exact i2 k y hy
   ·rw[z1c];exact i3 k hy
  ·cases e
 ·cases e
def saysS(q:Ask)(w:World)(h:Heap):Prop:=∃K:W.Frag,K.In h/\zeG q K=valS q w
theorem zhV(q:Ask)(w:World)(s:Shared)(e:obsS q s=valS q w):saysS q w s.heap:=⟨_,(zi0 _ _).in_,e⟩
theorem zbs(q:Ask)(w:World)(h h':Heap)(x:saysS q w h)(k:∀b o,h.get? b=some o->h'.get? b=some o):saysS q w h':=let ⟨K,a,b⟩:=x;⟨K,a.keeps k,b⟩
theorem zaz{α β:Type}{f g:α->β}:∀{l:List α},l.map f=l.map g->∀x∈l,f x=g x:=λh x hx=>List.map_inj_left.mp h x hx
theorem zoz   {K:W.Frag}(e:zeG q K=valS q w)(x:Str)(st:Stmt)(hx:(x,st)∈q.fs):zp9 K x st:=ziE (zaz (_aw Prod.fst e) (x,st) hx)
theorem znp   {K:W.Frag}(e:zeG q K=valS q w)(x:Str)(hx:x∈q.bs):W.nsIn K mainGlobals x=some none:=zf2 (zaz (_aw (λz=>z.2.1) e) x hx)
theorem zoO   {K:W.Frag}(e:zeG q K=valS q w)(x:Str)(i:Int)(hx:(x,i)∈q.cs):∃t,W.nsIn K mainGlobals x=some (some (.int i t)):=zgr (zaz (_aw (λz=>z.2.2.1) e) (x,i) hx)
theorem zn0    {K:W.Frag}   (X:K.In h)(G:h.Ns mainGlobals mg)(e:zeG q K=valS q w)(x:Str)(tb:List (Str×Str))(hx:(x,tb)∈q.ts):zl1 P w K mg x tb:=zia X G (zaz (_aw (λz=>z.2.2.2.1) e) (x,tb) hx)
theorem zdU      {Ya:World->α}   (row:String) (bo:∀w:World,(W.fencedOpening treeTable p w N).map (λs=>(s.heap,s.gens,s.drawn,s.toks))=some (W.boot_heap w.params,Array.mk [],W.boot_drawn,W.boot_toks)) (hf:∀(w:World)(os:OsState),(W.topFrom treeTable p (w.withFollow row false) N ⟨W.boot_heap w.params,Array.mk [],W.boot_drawn,W.boot_toks,os⟩).map (λs=>(W.openSeen q loose (importedModules p.main.body) Xt g0 s,Yf s))=some (W.openGood q loose,Ya (w.withFollow row false))) (ht:∀(w:World)(os:OsState),(W.topFrom treeTable p (w.withFollow row true) N ⟨W.boot_heap w.params,Array.mk [],W.boot_drawn,W.boot_toks,os⟩).map (λs=>(W.openSeen q loose (importedModules p.main.body) Xt g0 s,Yf s))=some (W.openGood q loose,Ya (w.withFollow row true))):W.LeftO p q loose Xt Yf Ya N g0:= W.LeftO.of_split row λw=>by
  obtain⟨⟨h,gs,d,k,os⟩,e,e'⟩:=_O.mp (bo w);obtain⟨rfl,rfl,rfl,rfl⟩:h=W.boot_heap w.params/\gs=Array.mk []/\d=W.boot_drawn/\k=W.boot_toks:=by simpa only [_cz] using e'
  rw[e,_a8,hf w os,ht w os]
theorem z7h      : ∀{n:Nat}{s s':W.SharedT}{t:Thread},z3C tb p w n₀ dR n s t=some s'->W.topRun tb p w n₀ dR n s.abs t=some s'.abs
 | 0,_,_,_,h=>by cases h | n+1,s,s',t,h=>by
  unfold z3C at h;unfold W.topRun;cases he:W.through t with
  | true=>rw[he]at h;cases h;rfl | false=>
   rw[he]at h;cases hk:W.stepOk n₀ dR t with
   | false=>rw[hk]at h;cases h | true=>
    rw[hk]at h;cases hs:W.stepT (denote tb) p w s t with
    | none=>rw[hs]at h;cases h | some r=>rw[hs]at h;rw[W.stepT_spec hs];exact z7h h
theorem z4q       {os:OsState}    (ha:W.absHeap t0 m₀ h.life=h) (sz:(h.isNs mainGlobals&&(Array.mk []:Array GenState).size==0,h.objs.size,h.nsMap mainGlobals "__annotations__")=(true,m₀,dR)){α:Type}{f:Shared->α}{v:α} (hr:(z3C treeTable p w m₀ dR N ⟨t0,m₀,h.life,Array.mk [],d,k,os⟩ (W.topStub p)).map (λsT=>(W.staticsOk (importedModules p.main.body) h sT.abs.heap&&W.namesBound p sT.abs.heap&&W.gensDone sT.abs&&W.laidKept h sT.abs.heap,f sT.abs))=some (true,v)): (W.topFrom treeTable p w N ⟨h,Array.mk [],d,k,os⟩).map f=some v:=by
 obtain⟨sT,e1,e2⟩:=_O.mp hr;obtain⟨e3,e4⟩:=Prod.mk.inj e2;obtain⟨z1,z2,z3⟩:_/\_/\_:=by simpa only [_cz] using sz
 have r:=z7h e1;rw[(show (⟨t0,m₀,h.life,Array.mk [],d,k,os⟩:W.SharedT).abs=⟨h,Array.mk [],d,k,os⟩from by
  show (⟨W.absHeap t0 m₀ h.life,Array.mk [],d,k,os⟩:Shared)=_;rw[ha])]at r;have t:W.topFrom treeTable p w N ⟨h,Array.mk [],d,k,os⟩=some sT.abs:=by
  unfold W.topFrom;rw[z1,z2,z3,r];show (match (W.staticsOk (importedModules p.main.body) h sT.abs.heap&&W.namesBound p sT.abs.heap&&W.gensDone sT.abs&&W.laidKept h sT.abs.heap) with | true=>some sT.abs | false=>none)=_;rw[e3]
 rw[t,_a8,e4]
theorem z8c{α β γ δ:Type}{r:Option α}{f:α->β}{g:α->γ}{k:α->δ}{x:β}{y:γ}{z:δ}(h1:r.map (λs=>(f s,k s))=some (x,z))(h2:r.map g=some y):r.map (λs=>(f s,(g s,k s)))=some (x,(y,z)):=by
 obtain⟨s,e1,e2⟩:=_O.mp h1;obtain⟨s',e3,e4⟩:=_O.mp h2;rw[e1]at e3;cases e3;obtain⟨e5,e6⟩:=Prod.mk.inj e2;rw[e1,_a8,e4,e5,e6]
theorem walkY{l:W.OpenLaw} (hn:l.most=some n)(iX:n<=sizeLine)(iY:n<=63)(iJ:d.params.defaults=[])(hr:z1F k callerA) (F:∀(w:World)(mg:Str->Option Value)(fa:Addr)(h:Heap),YP w h->h.Ns mainGlobals mg->mg d.name=some (.ref fa)->XP mg h-> ∃K:W.Frag,K.In h/\∃fd:FuncData,(∀(s:Shared)(u:Value),BindsTo s fd ⟨[u],[]⟩ [(x,u)])/\ ∀base:Heap,K.In base->base.Ns mainGlobals mg->z5J l.prog w K mg base CX0 k fa fd [x] (zj0 K)): W.WalkO q loose XP YP l.row.toRowW d [] (λf vs=>PySem.call f vs):=by
 refine Att.z8Q hn iJ λw s₀ s₁ mg mb fa o pm cd bE a vs ns G Yy ho hd bQ dZ d8 cK aD hg=>?_;obtain⟨K,KX,fd,hb,hF⟩:=F w mg fa _ Yy G.T.g dZ G.X;exact zfN KX G.T.g G.T.b G.T.builtins G.T.nolimit hg d8 cK (_S aD iX) hr hF hb (λH hO hS=>⟨a,ns,rfl,hO,hS,_S aD iY,λ_=>rfl⟩) λH e s' z=>z
end Dd
namespace Dd
open L2
section
variable {X:Cx}{E:XK}{e a b c:Expr}{es:List Expr}{pos:Pos}
noncomputable def z86(x y:D)(s:Sto):R D:=(dIs x y s).bind λd s1=>match d with | .bl k=>.ok (.bl (!k)) s1 | _=>.no
theorem zdX:OpR X (compareOp .IsNot) (λx y H Q=>∃a b,x=.bl a/\y=.bl b/\Q (.bl (a != b)) H):=by
 intro ac s O H x y v u Q I rx ry ⟨a,b,e1,e2,q⟩;subst e1 e2;cases rx;cases ry;exact isnot_bool ⟨.bl (a != b),H,I,rfl,q⟩
theorem z6o:∃r,OpR X (compareOp .IsNot) r/\OpF X E r z86:=⟨_,zdX.or zir,λH Y s d1 d2 v1 v2 Q r h1 h2 h=>by cases d2 with
 | bl b=>cases d1 with
  | bl a=>cases jv h1;cases jv h2;exact .inl ⟨_,_,rfl,rfl,okR.here h r yX⟩ | _=>exact (show False from h).elim
 | non=>cases d1 with
  | non=>subst h1 h2;exact .inr ⟨rfl,by exact (okR.here h r yX)⟩ | bl _=>subst h1 h2;exact .inr ⟨rfl,by exact (okR.here h r yX)⟩ | int _=>subst h1 h2;exact .inr ⟨rfl,by exact (okR.here h r yX)⟩ | str _=>subst h1 h2;exact .inr ⟨rfl,by exact (okR.here h r yX)⟩ | tup _=>obtain⟨a,vs,rfl,_⟩:=h1;subst h2;exact .inr ⟨rfl,by exact (okR.here h r yX)⟩ | lst _=>obtain⟨a,o,vs,rfl,_⟩:=h1;subst h2;exact .inr ⟨rfl,by exact (okR.here h r yX)⟩ | _=>exact (show False from h).elim
 | _=>cases d1<;>exact (show False from h).elim⟩
end
end Dd
namespace Dd
open L2
section
variable {X:Cx}{E:XK}{es:List Expr}{fa:FE}{fr:FA}
theorem aN   (ha:RE X E (.Name x p) fa)(hr:RA X E es fr):RA X E ((.Name x p)::es) (za fa fr):=z0v ha hr (zp ..)
theorem aK    (ha:RE X E (.Constant c j p) fa)(hr:RA X E es fr):RA X E ((.Constant c j p)::es) (za fa fr):=z0v ha hr (z55 ..)
theorem aQ     (ha:RE X E (.Call g xs ks p) fa)(hr:RA X E es fr):RA X E ((.Call g xs ks p)::es) (za fa fr):=z0v ha hr (xP ..)
theorem aT    (ha:RE X E (.Tuple xs k p) fa)(hr:RA X E es fr):RA X E ((.Tuple xs k p)::es) (za fa fr):=z0v ha hr (zft ..)
theorem aS   (ha:RE X E (.Subscript a b p) fa)(hr:RA X E es fr):RA X E ((.Subscript a b p)::es) (za fa fr):=z0v ha hr (z0A ..)
theorem aB    (ha:RE X E (.BinOp a o b p) fa)(hr:RA X E es fr):RA X E ((.BinOp a o b p)::es) (za fa fr):=z0v ha hr (z9X ..)
theorem aL   (ha:RE X E (.List xs p) fa)(hr:RA X E es fr):RA X E ((.List xs p)::es) (za fa fr):=z0v ha hr (zg3 ..)
theorem aO{a:Expr}{g:List Comprehension}{sc:Scope}{p:Pos}(ha:RE X E (.ListComp a g sc p) fa)(hr:RA X E es fr):RA X E ((.ListComp a g sc p)::es) (za fa fr):=z0v ha hr (zG ..)
theorem aU    (ha:RE X E (.UnaryOp o a p) fa)(hr:RA X E es fr):RA X E ((.UnaryOp o a p)::es) (za fa fr):=z0v ha hr (zjb ..)
theorem zpY  {pos:Pos}   {p:Pos}    (F:Has X.prog X.w X.K X.mg X.base CX x n M) (hr:z1F k X.A) (hx:Passes CX X E) (ha:RA X E (e::es) f) (hk:autoParam (n<=k) aDe) (hg:autoParam (Gl X x) aRf) (bq:autoParam ((x==("__debug__":Str))=false) aDe) (he:autoParam (starEach (e::es) X.env=(false,eval e X.env)::starEach es X.env) aRf) (be:autoParam ((backTo pos (starEach es X.env)).any (·.1)=false) aRf):RE X E (.Call (.Name x p) (e::es) [] pos) (ze M f):=zmi F (hr.mono hk) hx hg ha bq he be
end
section
variable {q:Ask}{w:World}{K:W.Frag}{h:Heap}{mg:Str->Option Value}
theorem zh5(X:K.In h)(G:h.Ns mainGlobals mg)(e:zeG q K=valS q w)(i:Nat)  {st:Stmt}(hx:q.fs[i]? = some (x,st)):∃f fd,mg x=some (.ref f)/\Fun K x x st f fd:=let ⟨f,fd,a,F⟩:=zoz e x st (_d hx);⟨f,fd,W.mg_of X G a,F⟩
theorem vU(X:K.In h)(G:h.Ns mainGlobals mg)(e:zeG q K=valS q w)(i:Nat)  (hx:q.bs[i]? = some x):mg x=none:=W.mg_none_of X G (znp e x (_d hx))
theorem z9Q(X:K.In h)(G:h.Ns mainGlobals mg)(e:zeG q K=valS q w)(i:Nat)   (hx:q.cs[i]? = some (x,c)):∃t,mg x=some (.int c t):=let ⟨t,z⟩:=zoO e x c (_d hx);⟨t,W.mg_of X G z⟩
end
def Fq(K:W.Frag)(mg:Str->Option Value)(x:Str)(st:Stmt):Prop:=∃f fd,mg x=some (.ref f)/\Fun K x x st f fd
class Hs (P:Program)(w:World)(K:W.Frag)(mg:Str->Option Value)(base:Heap)(CX:CXT)(x:Str)(n:outParam Nat)(M:outParam Mir):Prop where h:Has P w K mg base CX x n M
structure Rm(P:Program)(w:World)(K:W.Frag)(mg:Str->Option Value)(base:Heap)(k:Nat)(A:Around):Prop where r:z1F k A
section
variable {P:Program}{w:World}{K:W.Frag}{mg:Str->Option Value}{base:Heap}{k n:Nat}{A:Around}
theorem Rm.units(h:Rm P w K mg base k A):A.units+64<cLine:=h.r.units
theorem Rm.mono(h:Rm P w K mg base k A)(l:n<=k):z1F n A:=h.r.mono l
theorem Rm.has(_:Rm P w K mg base k A)(x:Str){M:Mir}[F:Hs P w K mg base CX0 x n M]:Has P w K mg base CX0 x n M:=F.h
theorem r_k    {pos:Pos}  {p:Pos}   (hr:Rm P w K mg base k A) (ha:RA X E0 (e::es) f) [F:Hs P w K mg base CX0 x n M] (q:autoParam ((X.A,X.prog,X.w,X.K,X.mg,X.base)=(A,P,w,K,mg,base)) aRf) (hk:n<=k:=by first | decide | omega) (hg:autoParam (Gl X x) aRf) (bq:autoParam ((x==("__debug__":Str))=false) aDe) (he:autoParam (starEach (e::es) X.env=(false,eval e X.env)::starEach es X.env) aRf) (be:autoParam ((backTo pos (starEach es X.env)).any (·.1)=false) aRf)   : RE X E0 (.Call (.Name x p) (e::es) [] pos) (ze M f):=by cases q;exact zpY F.h hr.r ziY ha hk hg bq he be
theorem Hs.tidy     (h:Hs P w K mg base CX x n M):Hs P w K mg base CX x n (z9i M):=⟨h.h.tidy⟩
theorem zZ  {st:Stmt}    (q:Fq K mg x st)(S:zm N ps (zg st)) (body:∀{f:Addr}{aM:Value}{A:Around}{outer:List Env}{s:Shared}{H:Hp}{E:XK},Rm P w K mg base k (A.deeper (envOfC x (zg st) s.heap.objs.size f aM))->(zdd CX0 P w K mg base N x (zg st) f aM A outer s H E).nox.calm=true-> RSs (zdd CX0 P w K mg base N x (zg st) f aM A outer s H E).nox E0 (uI st) fs) (hb:∀(kV bE pm:Value)(an:Option Addr)(aM ct:Value)(us:List Value),us.length=ps.length->bindArgs (W.fnOf x x (z03 st) (uI st) (zg st) .none kV bE pm an aM ct) ⟨us,[]⟩=pure (ps.zip us))(hn:autoParam (ps.length=n) aRf):Hs P w K mg base CX0 x (k+1) (Mof N n fs):= let ⟨_,_,hm,F⟩:=q;⟨zlI F hm (F.binds hb) S hn λ_ _ _ _ _ _ hr hc=>body ⟨hr⟩ hc⟩
theorem znV  {st:Stmt}{ps:List Str}(q:Fq K mg x st) (hb:∀(kV bE pm:Value)(an:Option Addr)(aM ct:Value)(us:List Value),us.length=ps.length->bindArgs (W.fnOf x x (z03 st) (uI st) (zg st) .none kV bE pm an aM ct) ⟨us,[]⟩=pure (ps.zip us))(n:Nat):Hs P w K mg base CX0 x n λ_ _=>.no:= let ⟨_,_,hm,F⟩:=q;⟨(zlY F hm (F.binds hb)).mono (_az _)⟩
end
open PySem.W
end Dd
namespace Dd
open L2
section
variable {X:Cx}{E:XK}{e:Expr}{pos bL:Pos}
noncomputable def zp4(i:Nat)(f:FE):FS:=fun ρ s=>match ρ[i]? with
 | some (some (.int a))=>(f ρ s).bind λd s1=>match d with | .int b=>.ok (.nx (ρ.set i (some (.int (a+b))))) s1 | _=>.no
 | _=>.no
@[simp] theorem zpj       (h:ρ[i]? = some (some (.int a)))(hf:f ρ s=.ok (.int b) s1):zp4 i f ρ s=.ok (.nx (ρ.set i (some (.int (a+b))))) s1:=by simp only[zp4,h,hf,Rb]
end
open PySem.W
end Dd
namespace Dd
open L2
section
variable {X:Cx}{E:XK}{o i e bx:Expr}{pos bL:Pos}
noncomputable def zkX:FE:=λ_ s=>.ok (.dlo s.length) (s++[[]])
theorem zlx:RE X E (.Dict [] [] pos) zkX:=yz zgo λO H Q ⟨Y,ρ,s,r,en,h⟩ p hp=>by
 refine h _ _ _ (xH.layC r hp (o:=.dT []) (.inr (.inl ⟨[],zP,rfl⟩)) rfl) ?_;change ∃_,_;exact⟨p,rfl,by rw[<- r.len];simp,.inl ⟨[],zP⟩⟩
end
noncomputable def zeO:List D->Option (List Int)
 | []=>some [] | .int i::r=>(zeO r).map (i::·) | _=>none
noncomputable def zjJ:D->Option (List Int)
 | .tup ds=>zeO ds | _=>none
noncomputable def z6D:List D->Option (List (List Int))
 | []=>some [] | d::ds=>match zjJ d,z6D ds with | some n,some ns=>some (n::ns) | _,_=>none
theorem z5O:∀ns:List Int,zeO (ns.map D.int)=some ns
 | []=>rfl | i::r=>by simp[zeO,z5O r]
theorem zdM:∀{ds:List D}{ns:List Int},zeO ds=some ns->ds=ns.map D.int
 | [],_,e=>by simp[zeO]at e;subst e;rfl | d::r,ns,e=>by cases d with
  | int i=>
   simp only[zeO,_O]at e;obtain⟨a,h1,rfl⟩:=e;rw[zdM h1];rfl | _=>simp[zeO]at e
theorem zeS(ns:List Int):zjJ (.tup (ns.map D.int))=some ns:=z5O ns
theorem zju   (e:zjJ d=some ns):d=.tup (ns.map D.int):=by cases d with
 | tup ds=>rw[zdM e] | _=>simp[zjJ]at e
theorem z3H:∀L:List (List Int),z6D (L.map λns=>.tup (ns.map D.int))=some L
 | []=>rfl | n::L=>by simp only[_A,z6D,zeS,z3H L]
def AtN(H:Hp)(v:V)(ns:List Int):Prop:=∃b,v=.ref b/\H b=some (.tup (ns.map V.int))
theorem z6i       (h:zjJ d=some ns)(dn:Den mg H Y d v):AtN H v ns:=by
 rw[zju h]at dn;obtain⟨a,vs,rfl,e,dd⟩:=dn;rw[(show ∀{ns:List Int}{vs:List V},zU mg H Y (ns.map D.int) vs->vs=ns.map V.int from by
  intro ns;induction ns with
  | nil=>exact id | cons i r ih=>
   intro vs h;obtain⟨v,r',rfl,h1,h2⟩:=h;rw[yJ h1,ih h2];rfl) dd]at e;exact⟨a,rfl,e⟩
theorem z8d    : ∀{ds:List D}{vs:List V}{L:List (List Int)},z6D ds=some L->zU mg H Y ds vs->Paired (λv ns=>AtN H v ns) vs L
 | [],_,_,h,dn=>by simp only[z6D,_K]at h;subst dn;subst h;exact .nil | d::ds,_,_,h,dn=>by
  obtain⟨v,vs,rfl,h1,h2⟩:=dn;simp only[z6D]at h;split at h
  ·rename_i n ns e1 e2;cases h;exact .cons (z6i e1 h1) (z8d e2 h2)
  ·cases h
theorem z2Z:∀ns:List Int,PyData.canLayAll0 (toPys (ns.map D.int))=true/\PyData.depthAll (toPys (ns.map D.int))<=1
 | []=>by decide | i::k=>by
  have:=z2Z k;simp only[_A,znv,tPc,PyData.canLayAll0,PyData.canLay0,PyData.depthAll,PyData.depth,Bool.true_and,this.1,true_and];lia
theorem zaI:∀a b:List Int,PyData.eqvAll (toPys (a.map D.int)) (toPys (b.map D.int))=decide (a=b)
 | [],[]=>by simp[tPn,PyData.eqvAll] | [],_::_=>by simp[tPn,tPc,PyData.eqvAll] | _::_,[]=>by simp[tPn,tPc,PyData.eqvAll] | x::a,y::b=>by
  simp only[_A,tPc,znv,PyData.eqvAll,PyData.eqv,zaI a b,_as];by_cases h:x=y<;>by_cases h2:a=b<;>simp[h,h2]
section
variable {X:Cx}{ac:List (Addr×Obj)}{O:L2.St}{H:Hp}{s:Shared}
theorem AtN.reads (mg:Gm)    (ok:HOk P w H h)    (a:AtN H v ns) (r:xr v u):∃as,Reads h u (z2A (.tup (ns.map D.int))) as:=by
 refine Den.reads (mg:=mg) (Y:=[])   ok ((z2Z ns).1) ?_ r;obtain⟨b,rfl,e⟩:=a;refine⟨b,_,rfl,e,?_⟩;clear e;induction ns with
 | nil=>exact zU.nil | cons i r ih=>exact zU.cons xf ih
theorem AtN.eqAt(mg:Gm)    (ok:HOk P w H s.heap)(hu:A.units+2<cLine)    (a:AtN H v ns)(r:xr v u)(b:AtN H x ms)(q:xr x y): SeqAt.EqAt A s u y (decide (ns=ms)):=by
 obtain⟨as,ra⟩:=a.reads mg ok r;obtain⟨bs,rb⟩:=b.reads mg ok q;have h:=SeqAt.eqAt_reads _ _ A s u y as bs ra rb ((z2Z ns).1) ((z2Z ms).1) (by
  have h1:=(z2Z ns).2;have h3:(z2A (.tup (ns.map D.int))).depth<=2:=by simp only[zlA,PyData.depth];lia
  lia);rw[show PyData.eqv (z2A (.tup (ns.map D.int))) (z2A (.tup (ms.map D.int)))=decide (ns=ms) by simp only[zlA,PyData.eqv,zaI]]at h;exact h
end
end Dd
namespace Zz
noncomputable abbrev T1(b1:Bool)(h:Heap)(l1:Addr):Heap:=h.push (itO b1 l1)
noncomputable abbrev T2(b1 b2:Bool)(h:Heap)(l1 l2:Addr):Heap:=(T1 b1 h l1).push (itO b2 l2)
end Zz
namespace Dd
open L2
noncomputable def lexN:List Int->List Int->Bool
 | [],[]=>false | [],_::_=>true | _::_,[]=>false | x::a,y::b=>if x=y then lexN a b else decide (x<y)
inductive xc:List Value->List Int->Prop | nil:xc [] [] | cons {i t vs ns}:xc vs ns->xc (.int i t::vs) (i::ns)
theorem xc.of_vals:∀{ns:List Int}{us:List Value},xF (ns.map V.int) us->xc us ns
 | [],_,.nil=>.nil | _::_,_,.cons ⟨_,rfl⟩ r=>.cons (xc.of_vals r)
theorem xc.length:∀{us ns},xc us ns->us.length=ns.length
 | _,_,.nil=>rfl | _,_,.cons r=>by simp[r.length]
section
variable {prog:Program}{w:World}{A:Around}{E:Value->Shared->Prop}{s:Shared}
theorem z9c     (ha:s.heap.IsTuple a xs)(hb:s.heap.IsTuple b ys)(hx:xc xs.toList ns)(hy:xc ys.toList ms) (h:P (.done (.ret (.bool (lexN ns ms)))) s):wpAny (model prog w) A (Builtin.«tuple.__lt__» ⟨[.ref a,.ref b],[]⟩) P E s:=by
 obtain⟨oa,ga,ca,na,da⟩:=ha;obtain⟨ob,gb,cb,nb,db⟩:=hb;show wpAny _ _ (isInstance (.ref b) (.type "tuple") >>= _) _ _ s;refine _a (_cw ⟨ob,gb,cb⟩ isSubtype_tuple_tuple (_a (_b2 ga da (_a (_b2 gb db (_a (_ct _ (λkc r s'=>r.1=none/\s'=s/\∃us vs cH cI,kc=List.zip us vs/\xc us cH/\xc vs cI/\lexN cH cI=lexN ns ms/\(decide (us.length<vs.length))=decide (xs.size<ys.size)) _ ?_ ?_ _ _ ⟨rfl,rfl,xs.toList,ys.toList,ns,ms,rfl,hx,hy,rfl,by rfl⟩)))))))
 ·rintro⟨u,v⟩ kc r s' ⟨hr,rfl,us,vs,cH,cI,hz,h1,h2,hl,hs⟩;cases h1 with
  | nil=>cases hz | @cons i t cR j8 fY=>cases h2 with
   | nil=>cases hz | @cons j t' eT j9 bR=>
    obtain⟨⟨rfl,rfl⟩,rfl⟩:=hz;refine _a (_de ?_);by_cases e:i=j
    ·subst e;simp only[beq_self_eq_true,_aP];exact _i ⟨rfl,rfl,cR,eT,j8,j9,rfl,fY,bR,by rw[<- hl];simp[lexN],by simpa using hs⟩
    ·rw[show (i==j)=false by simpa using e];rw[(show lexN ns ms=decide (i<j) from by rw[<- hl];simp[lexN,e])]at h;exact _a (_ax (_a ((_cI (_a (_i (_i (_i h))))))))
 ·rintro⟨r1,r2⟩ s' ⟨hr,rfl,us,vs,cH,cI,hz,h1,h2,hl,hs⟩;subst hr;refine _i ?_;show P (.done (.ret (.bool (decide (xs.size<ys.size))))) s';rw[(show decide (xs.size<ys.size)=lexN ns ms from by
   rw[<- hl,<- hs];cases h1 with
   | nil=>cases h2<;>rfl | cons _=>cases h2 with
    | nil=>rfl | cons _=>cases hz)];exact h
theorem zhH     (hu:A.units<cLine)(ha:s.heap.IsTuple a xs)(hb:s.heap.IsTuple b ys)(hx:xc xs.toList ns)(hy:xc ys.toList ms) (h:Q (.bool (lexN ns ms)) s):wpAny (model prog w) A (richCompare .Lt (.ref a) (.ref b)) Q E s:=by
 have ta:s.TypeIs (.ref a) "tuple":=by obtain⟨o,g,c,_⟩:=ha;exact⟨o,g,c⟩
 exact wpAny_richCompare_same_room ta (by obtain⟨o,g,c,_⟩:=hb;exact⟨o,g,c⟩) _bj (_at _bj ta _b9 (z9c ha hb hx hy ⟨_,rfl,by simp,h⟩) (_b5 _ _)) hu
end
end Dd
namespace Dd
open L2
section
variable {X:Cx}{E:XK}
theorem z4Q  {R:α->β->Prop}:∀{xs:List α}{ys:List β},Paired R xs ys->∀(i:Nat)(x:α),xs[i]? = some x->∃y,ys[i]? = some y/\R x y
 | _,_,.nil,i,x,e=>by cases e | _,_,.cons h r,0,x,e=>by simp at e;subst e;exact⟨_,rfl,h⟩ | _,_,.cons h r,i+1,x,e=>by exact z4Q r i x (by simpa using e)
theorem z4C  {R:α->β->Prop}:∀{xs:List α}{ys:List β},Paired R xs ys->xs.length=ys.length
 | _,_,.nil=>rfl | _,_,.cons h r=>by simp[z4C r]
theorem AtN.tuple  {O:L2.St}   (I:Inv X ac O H s)    (a:AtN H v ns)(r:xr v u):∃b ah,v=.ref b/\u=.ref b/\s.heap.IsTuple b ah/\xc ah.toList ns:=by
 obtain⟨b,rfl,e⟩:=a;cases (show u=Value.ref b from r);obtain⟨ah,r,pl,hz⟩:=I.tuple (.inl (.inl e));exact⟨b,ah.toArray,rfl,rfl,pl,xc.of_vals (by exact r)⟩
end
end Dd
namespace L2
section
variable {prog:Program}{w:World}{A:Around}{R:Result->Shared->Prop}{s:Shared}{aC t1 i1 t2 i2:Expr}{scope:Scope}{pos:Pos}{it af:Value}{env:Env}
theorem zcm:compTurn (.ListComp aC [⟨t1,i1,[],0⟩,⟨t2,i2,[],0⟩] scope pos) 0 it af env=(standAt i1.pos >>= λ_=>pyNext it >>= λr=>match r with
  | none=>pure (.done .next) | some v=>letOwnedTupleGo t1 it v >>= λ_=>assign t1 env v >>= λ_=>eval i2 env >>= λx=>standAt i2.pos >>= λ_=>foldedSetIterable i2 env x >>= λx=>holding [x] (pyIter x) >>= λjt=> runOwn (.compStart (.ListComp aC [⟨t1,i1,[],0⟩,⟨t2,i2,[],0⟩] scope pos) 1 jt af env) env >>= λ_=>again (.compLoop (.ListComp aC [⟨t1,i1,[],0⟩,⟨t2,i2,[],0⟩] scope pos) 0 it af env)):=by rfl
theorem zcu:compTurn (.ListComp aC [⟨t1,i1,[],0⟩,⟨t2,i2,[],0⟩] scope pos) 1 it af env=(standAt i2.pos >>= λ_=>pyNext it >>= λr=>match r with
  | none=>pure (.done .next) | some v=>letOwnedTupleGo t2 it v >>= λ_=>assign t2 env v >>= λ_=>(eval aC env >>= λx=>call (.builtin "list.append") [af,x] >>= λ_=>pure ()) >>= λ_=> again (.compLoop (.ListComp aC [⟨t1,i1,[],0⟩,⟨t2,i2,[],0⟩] scope pos) 1 it af env)):=by rfl
theorem zci(I:Nat->Shared->Prop) (turn:∀n s,I n s->wpAny (model prog w) A (pyNext it) (λr s₁=>match r with
   | none=>R (.ok .next) s₁ | some v=>wpAny (model prog w) A (letOwnedTupleGo t2 it v) (λ_ dF=>wpAny (model prog w) A (assign t2 env v) (λ_ s₂=>wpAny (model prog w) A (eval aC env) (λx s₄=> wpAny (model prog w) A (call (.builtin "list.append") [af,x]) (λ_ s₅=>∃m,m<n/\I m s₅) (λ_ _=>False) s₄) (λ_ _=>False) s₂) (λ_ _=>False) dF) (λ_ _=>False) s₁) (λ_ _=>False) s) (n:Nat)(h:I n s):codeAny (model prog w) A (.compLoop (.ListComp aC [⟨t1,i1,[],0⟩,⟨t2,i2,[],0⟩] scope pos) 1 it af env) R s:=by
 refine codeAny_loop rfl I (λn s hI=>(wpAny_noted ?_)) n h;rw[zcu];refine _a (_a1 (_a (_F (turn n s hI) (λr s₁ h₁=>?_) λ_ _ h'=>h'.elim)));cases r with
 | none=>exact _i h₁ | some v=> exact _a (_F h₁ (λ_ dF fQ=>_a (_F fQ (λ_ s₂ h₂=>(_a (_a (_F h₂ (λx s₄ h₄=>_a (_F h₄ (λ_ s₅ h₅=>_i (_i ⟨rfl,h₅⟩)) λ_ _ h'=>h'.elim)) λ_ _ h'=>h'.elim)))) λ_ _ h'=>h'.elim)) λ_ _ h'=>h'.elim)
theorem zbl(h0:codeAny (model prog w) A (.compLoop (.ListComp aC [⟨t1,i1,[],0⟩,⟨t2,i2,[],0⟩] scope pos) 1 it af env) R s) (h:wpAny (model prog w) A (pyIter it) (λlY s'=>codeAny (model prog w) A (.compLoop (.ListComp aC [⟨t1,i1,[],0⟩,⟨t2,i2,[],0⟩] scope pos) 1 lY af env) R s') (notedBy (model prog w) A env λx s'=>R (.error x) s') s): codeAny (model prog w) A (.compStart (.ListComp aC [⟨t1,i1,[],0⟩,⟨t2,i2,[],0⟩] scope pos) 1 it af env) R s:=by
 refine codeAny_of_tree (wpAny_notedAt ?_);refine _a (wpAny_askSetting (wpAny_ite ?_));split;·exact _i (And.intro rfl h0)
 ·exact _a (_ax (_a (_a1 (_a (_F h (λlY s' h'=>_i (And.intro rfl h')) λ_ _ x=>x)))))
theorem zd5(bI:∀x,foldedSetIterable i2 env x=pure x)(I:Nat->Shared->Prop) (turn:∀n s,I n s->wpAny (model prog w) A (pyNext it) (λr s₁=>match r with
   | none=>R (.ok .next) s₁ | some v=>wpAny (model prog w) A (letOwnedTupleGo t1 it v) (λ_ dF=>wpAny (model prog w) A (assign t1 env v) (λ_ s₂=>wpAny (model prog w) A (eval i2 env) (λx s₃=>wpAny (model prog w) A (pyIter x) (λjt s₄=> codeAny (model prog w) A (.compStart (.ListComp aC [⟨t1,i1,[],0⟩,⟨t2,i2,[],0⟩] scope pos) 1 jt af env) (λr s₅=>match r with | .ok _=>∃m,m<n/\I m s₅ | .error _=>False) s₄) (λ_ _=>False) s₃) (λ_ _=>False) s₂) (λ_ _=>False) dF) (λ_ _=>False) s₁) (λ_ _=>False) s) (n:Nat)(h:I n s):codeAny (model prog w) A (.compLoop (.ListComp aC [⟨t1,i1,[],0⟩,⟨t2,i2,[],0⟩] scope pos) 0 it af env) R s:=by
 refine codeAny_loop rfl I (λn s hI=>(wpAny_noted ?_)) n h;rw[zcm];refine _a (_a1 (_a (_F (turn n s hI) (λr s₁ h₁=>?_) λ_ _ h'=>h'.elim)));cases r with
 | none=>exact _i h₁ | some v=>
  refine _a (_F h₁ (λ_ dF fQ=>_a (_F fQ (λ_ s₂ h₂=>(_a (_F h₂ (λx s₃ h₃=>_a (_a1 (_a (_c6 (bI x) (_a (_aU (_F h₃ (λjt s₄ h₄=>(_a (wpAny_runOwn (_dp h₄ λr s₅ h₅=>?_)))) λ_ _ h'=>h'.elim))))))) λ_ _ h'=>h'.elim))) λ_ _ h'=>h'.elim)) λ_ _ h'=>h'.elim);cases r with
  | ok f=>exact _i ⟨rfl,h₅⟩ | error e=>exact h₅.elim
end
def zhG(wi:TI)(mp:List (Option Nat))(k1 k2:Nat)(wi2:TI)(te:TE):TE:=λO H Q=>wi O H λJ H1=>∃W:Nat->Nat->List V->Hp->Prop,(∃m,W 0 m [] H1)/\∀i m ys H,W i m ys H-> (J.stop i H/\ys.length<=sizeLine/\∀p,H p=none->Q (.ref p) (upd H p (.lst ys)))\/ (J.go i H/\∀x H',J.yld i H x H'->wi2 ((inner mp O).set k1 (some x)) H' λJ2 H3=>∃W2:Nat->Nat->List V->Hp->Prop,(∃m2,W2 0 m2 ys H3)/\∀j m2 bO H4,W2 j m2 bO H4-> (J2.stop j H4/\∃m',m'<m/\W (i+1) m' bO H4)\/ (J2.go j H4/\∀x2 H5,J2.yld j H4 x2 H5->te (((inner mp O).set k1 (some x)).set k2 (some x2)) H5 λy H6=>bO.length<=sizeLine/\∃m',m'<m2/\W2 (j+1) m' (bO++[y]) H6))
theorem z6R{O:St}   (h:O[i]? = some none):(O.set i (some v)).length=O.length/\∀(j:Nat) u,O[j]? = some (some u)->(O.set i (some v))[j]? = some (some u):=by
 refine⟨by simp,λj u e=>?_⟩;rw[_M (λz=>by subst z;rw[h]at e;cases e)];exact e
theorem z8N           {O:St} {RR:Value->Addr->Result->Shared->Prop} (hc:X.calm=true)(gy:mp[k1]? = some none)(cP:mp[k2]? = some none)(hk:k1≠k2)(hg:∀ex s H,PG (zD X N' scope ex s H) tg (z24 k1))(cO:∀ex s H,PG (zD X N' scope ex s H) cv (z24 k2))(eu:∀ex s H,PI (zD X N' scope ex s H) cv aP wi2)(he:∀ex s H,PE (zD X N' scope ex s H) aC te) (bI:∀env x,foldedSetIterable aP env x=pure x) (bc:scope.kind=.function)(aX:∀y∈scope.names,scope.names.lookup y.1=some y.2) (aY:∀y∈scope.names,y.2=.free->X.env.kindOf y.1=some .cell\/X.env.kindOf y.1=some .free)(bg:z5f X.N scope.names N' mp=true) (I2:Inv X ac O H2 s₂)(T:zfq X.prog X.w X.K tg J fp it tn)(av:tn 0 s₂.heap)(f2:∀b∈fp,z89 X ac H2 b) (W:Nat->Nat->List V->Hp->Prop)(w0:∃m,W 0 m [] H2) (turn:∀i m ys H,W i m ys H-> (J.stop i H/\ys.length<=sizeLine/\∀p,H p=none->Q (.ref p) (upd H p (.lst ys)))\/ (J.go i H/\∀x H',J.yld i H x H'->wi2 ((inner mp O).set k1 (some x)) H' λJ2 H3=>∃W2:Nat->Nat->List V->Hp->Prop,(∃m2,W2 0 m2 ys H3)/\∀j m2 bO H4,W2 j m2 bO H4-> (J2.stop j H4/\∃m',m'<m/\W (i+1) m' bO H4)\/ (J2.go j H4/\∀x2 H5,J2.yld j H4 x2 H5->te (((inner mp O).set k1 (some x)).set k2 (some x2)) H5 λy H6=>bO.length<=sizeLine/\∃m',m'<m2/\W2 (j+1) m' (bO++[y]) H6))) (iQ:∀af C s',z0j X ac O C Q af s'->RR af C (.ok .next) s'): wpAny (model X.prog X.w) X.A (newList []) (λaf s₃=>wpAny (model X.prog X.w) X.A (newFunctionEnv scope X.env.globals (z8h X.env scope.names []) [] X.env.qual none .none (some X.env)) (λbS s₄=> codeAny (model X.prog X.w) X.A (.compStart (.ListComp aC [⟨tg,ao,[],0⟩,⟨cv,aP,[],0⟩] scope pos) 0 (.ref it) af {bS with scope:=relabel scope X.env}) (RR af bS.locals) s₄) E s₃) E s₂:=by
 refine z9T bc aX aY bg I2 T av f2 λaf s₃ s₄ I3 dc fA flt dH I4 fR eS bp cB=>?_;have dG  := λb hb=>_H (flt b hb);have bT  := λb hb=>(I4.ok.exf b hb).2;obtain⟨m0,w0⟩:=w0;have loop:codeAny (model X.prog X.w) X.A (.compLoop (.ListComp aC [⟨tg,ao,[],0⟩,⟨cv,aP,[],0⟩] scope pos) 0 (.ref it) (.ref af) (zbM X scope s₃.heap.objs.size)) (RR (.ref af) s₃.heap.objs.size) s₄:=by
  refine zd5 (bI _) (λn s'=>∃i ys ah H',Inv (zD X N' scope (af::fp) s₃ H2) [] (inner mp O) H' s'/\tn i s'.heap/\(∀b∈fp,H' b=none)/\H' af=none/\s'.heap.get? af=some (LCg.lst ah)/\xF ys ah/\W i n ys H') ?_ m0 ⟨0,[],[],H2,I4,eS,λb hb=>(f2 b hb).1,dc,fR,.nil,w0⟩;rintro n s5 ⟨i,ys,ah,H5,I5,fT,n5,d9,iR,ec,w5⟩;have fU  := cB I5 d9 iR;rcases turn i n ys H5 w5 with⟨stop,hz,q⟩ | ⟨go,step⟩
  ·refine _F (T.done (zD X N' scope (af::fp) s₃ H2) rfl rfl rfl hc i _ s5 _ H5 (λ_ _=>False) fU (bp n5) fT stop) (λr s6 ⟨hr,I6⟩=>?_) λ_ _ z=>z;subst hr;have iS:=(I6.pin (af,LCg.lst ah) (by simp)).1;have un  := I6.base;have I7  := I3.call'  (I6.os) un I6.hok I6.bare λb hb=>by
    rcases _r.mp hb with z | hb;·subst z;exact⟨fA.2.2.2.1,fA.2.1,fA.2.2.2.2.1,fA.2.2.2.2.2⟩
    ·exact⟨(f2 b hb).2.2.2.1,(f2 b hb).2.1,(f2 b hb).2.2.2.2.1,(f2 b hb).2.2.2.2.2⟩
   have C7  := I3.fpOk (_h _) I6.free;refine iQ _ _ s6 ⟨.ref af,upd H5 af (.lst ys),I7.track ⟨d9,fA.2⟩ ?_,rfl,q af d9,?_,?_,C7.2⟩;·exact⟨hz,ah,_,ec,iS⟩
   ·obtain⟨m,hm,_⟩:=I6.loc;exact⟨m,hm⟩
   ·rw[zq (_a6 dH)];exact I6.free
  ·refine _F (T.item (zD X N' scope (af::fp) s₃ H2) rfl rfl rfl hc i _ s5 _ H5 (λ_ _=>False) fU (bp n5) fT go) (λr s6 ⟨u,hr,h6⟩=>?_) λ_ _ z=>z;subst hr;refine _F h6 (λ_ s7 ⟨x,H7,I7,r7,y7,ed,n7⟩=>?_) λ_ _ z=>z;have hZ:=I7.pinned (bp n7) (T.obj _ _ ed);generalize hP:z52 fp s7.heap=P7 at hZ;have nU:∀b∈fp,∀o,s7.heap.get? b=some o->(b,o)∈P7:=λb hb o e=>by rw[<- hP];exact qu hb e
   have back:∀{O':St}{H':Hp}{s':Shared}{its':List Value},Inv (zD X N' scope (af::fp) s₃ H2) ([(af,LCg.lst its')]++P7) O' H' s'->(∀b∈fp,H' b=none)/\H' af=none/\s'.heap.get? af=some (LCg.lst its')/\tn (i+1) s'.heap:=λ{O' H' s' its'} J'=>by
    have z:=J'.pin (af,LCg.lst its') (by simp[zD]);have zz:∀b∈fp,∀o,s7.heap.get? b=some o->s'.heap.get? b=some o/\H' b=none:=λb hb o e=>by
     have y:=J'.pin (b,o) (_w _ (_w _ (nU b hb o e)));exact⟨y.1,y.2.1⟩
    refine⟨λb hb=>?_,z.2.1,z.1,T.keep _ _ _ ed λb hb o e=>(zz b hb o e).1⟩;obtain⟨o,e,_⟩:=T.obj _ _ ed b hb;exact (zz b hb o e).2
   have nV:(inner mp O)[k1]? = some none:=by simp[L2.inner,gy]
   have lZ:=z6R (v:=x) nV;have nW:((inner mp O).set k1 (some x))[k2]? = some none:=by rw[_M hk];simp[L2.inner,cP]
   refine _F (hg _ _ _ _ s7 (inner mp O) H7 x u (λO8 H8=>O8=(inner mp O).set k1 (some x)/\H8=H7) hZ r7 ⟨rfl,rfl⟩) (λ_ s8 ⟨O8,H8,I8,e8,nX⟩=>?_) λ_ _ z=>z;subst e8 nX;refine _F (eu _ _ _ _ s8 _ H8 _ I8 (step x H8 y7)) (λxv s9 h9=>?_) λ_ _ z=>z;refine _F h9 (λjt iT ii=>?_) λ_ _ z=>z;obtain⟨ci,gA,nY,J2,iU,nZ,fW,T2,gB,f10,W2,⟨m2,v0⟩,gC⟩:=ii;subst nZ;obtain⟨_,k4,k5,_⟩:=back fW;have cS:∀{H':Hp}{its':List Value},(∀b∈gA,H' b=none)->∀b∈gA,z89 (zD X N' scope (af::fp) s₃ H2) ([(af,LCg.lst its')]++P7) H' b:=λ{H' its'} hn b hb=>by
    obtain⟨q1,q2,q3,q4,q5,q6⟩:=f10 b hb;refine⟨hn b hb,q2,q3,q4,q5,λp hp=>?_⟩;rcases _D.mp hp with hp | hp;·exact q6 p (_aO _ hp)
    ·rcases _D.mp hp with hp | hp
     ·have e:p=(af,LCg.lst its'):=by simpa using hp
      rw[e];exact q6 (af,LCg.lst ah) (_w _ (_aO _ (by simp)))
     ·exact q6 p (_w _ (_w _ hp))
   have l5:∀{O':St}{H':Hp}{s':Shared}{its':List Value},Inv (zD X N' scope (af::fp) s₃ H2) ([(af,LCg.lst its')]++P7) O' H' s'->Inv (zD X N' scope (af::fp) s₃ H2) P7 O' H' s':=λJ'=>J'.pins_of λp hp=>J'.pin p (_w _ (_w _ hp));have zg4:codeAny (model X.prog X.w) X.A (.compLoop (.ListComp aC [⟨tg,ao,[],0⟩,⟨cv,aP,[],0⟩] scope pos) 1 (.ref ci) (.ref af) (zbM X scope s₃.heap.objs.size)) (λr s'=>match r with | .ok _=>∃m,m<n/\∃i ys ah H',Inv (zD X N' scope (af::fp) s₃ H2) [] (inner mp O) H' s'/\tn i s'.heap/\(∀b∈fp,H' b=none)/\H' af=none/\s'.heap.get? af=some (LCg.lst ah)/\xF ys ah/\W i m ys H' | .error _=>False) iT:=by
    refine zci (λn' s'=>∃j bO aZ H',Inv (zD X N' scope (af::fp) s₃ H2) P7 ((inner mp O).set k1 (some x)) H' s'/\nY j s'.heap/\(∀b∈gA,H' b=none)/\H' af=none/\s'.heap.get? af=some (LCg.lst aZ)/\xF bO aZ/\W2 j n' bO H') ?_ m2 ⟨0,ys,ah,iU,l5 fW,gB,λb hb=>(f10 b hb).1,k4,k5,ec,v0⟩;rintro n' l6 ⟨j,bO,aZ,ij,iW,gD,l7,k6,ee,eA,n8⟩;have gE:=cB iW k6 ee;rcases gC j n' bO ij n8 with⟨gF,m',lt,of⟩ | ⟨k7,gG⟩
    ·refine _F (T2.done (zD X N' scope (af::fp) s₃ H2) rfl rfl rfl hc j _ l6 _ ij (λ_ _=>False) gE (cS l7) gD gF) (λr oh ⟨hr,l8⟩=>?_) λ_ _ z=>z;subst hr;obtain⟨z1,z2,z3,z4⟩:=back l8;exact⟨m',lt,i+1,bO,aZ,ij,(l8.pins_of  (λp hp=>absurd hp (by simp))).weak lZ.1.symm lZ.2,z4,z1,z2,z3,eA,of⟩
    ·refine _F (T2.item (zD X N' scope (af::fp) s₃ H2) rfl rfl rfl hc j _ l6 _ ij (λ_ _=>False) gE (cS l7) gD k7) (λr oh ⟨u2,hr,oi⟩=>?_) λ_ _ z=>z;subst hr;refine _F oi (λ_ l9 ⟨x2,ma,oj,om,on,eB,oo⟩=>?_) λ_ _ z=>z;have k8:=oj.pinned (cS oo) (T2.obj _ _ eB);have mf:=z6R (v:=x2) nW;refine _F (cO _ _ _ _ l9 _ ma x2 u2 (λmh ik=>mh=((inner mp O).set k1 (some x)).set k2 (some x2)/\ik=ma) k8 om ⟨rfl,rfl⟩) (λ_ oq ⟨mh,ik,ou,ox,k9⟩=>?_) λ_ _ z=>z;subst ox k9;refine _F (he _ _ _ _ oq _ ik _ ou (gG x2 ik on)) (λyv lf ⟨y,lg,mq,oy,hz,m',lt,oz⟩=>?_) λ_ _ z=>z;have gH  := mq.unpinned;obtain⟨z1,z2,z3,z4⟩:=back gH;have zz:∀b∈gA,∀o,l9.heap.get? b=some o->lf.heap.get? b=some o/\lg b=none:=λb hb o e=>by
      have y:=mq.pin (b,o) (_w _ (_w _ (qu hb e)));exact⟨y.1,y.2.1⟩
     have lh:∀b∈gA,b≠af:=λb hb=>by
      have:=(f10 b hb).2.2.2.2.2 (af,LCg.lst ah) (_w _ (_aO _ (by simp)));exact _a6 this
     have zl:aZ.toArray.size<=sizeLine:=by rw[_t,<- eA.length];exact hz
     refine append_at (hsz:=zl) z3 λoA sb li=>?_;have lj:=(l5 gH).weak mf.1.symm mf.2;have oB:Inv (zD X N' scope (af::fp) s₃ H2) P7 ((inner mp O).set k1 (some x)) lg {lf with heap:=oA}:=lj.turned (t':=lf.toks) (λb o hb e=>(sb.2 b hb).trans e) z2 dH (.inl _X) (bT af _X) (λp hp=>by
      have mr:p∈P7:=by exact hp
      rw[<- hP]at mr;obtain⟨b,hb,e⟩:=_cS.mp mr;obtain⟨o,_,e2⟩:=_O.mp e;rw[<- e2];exact dG b hb);refine⟨m',lt,j+1,bO++[y],aZ++[yv],lg,oB,T2.keep _ _ _ eB (λb hb o e=>(sb.2 b (lh b hb)).trans (zz b hb o e).1),λb hb=>?_,z2,li.trans (_aw some (LCg.lst_snoc aZ yv)),eA.append (.cons oy .nil),oz⟩;obtain⟨o,e,_⟩:=T2.obj _ _ eB b hb;exact (zz b hb o e).2
   exact zbl zg4 (T2.self _ 0 _ _ _ gB zg4)
 exact loop
section
variable {X:Cx}{tg ao cv aP aC:Expr}{scope:Scope}{pos aR py:Pos}{wi wi2:TI}{te:TE}{k1 k2:Nat}
theorem z8z   (N':List Str)(mp:List (Option Nat))(hN:X.N.Nodup)(hy:X.N[i]? = some y)(bZ:Loc X.env.scope y)(hc:X.calm=true)(gy:mp[k1]? = some none)(cP:mp[k2]? = some none)(hk:k1≠k2)(hi:PI X tg ao wi)(hg:∀ex s H,PG (zD X N' scope ex s H) tg (z24 k1))(cO:∀ex s H,PG (zD X N' scope ex s H) cv (z24 k2))(eu:∀ex s H,PI (zD X N' scope ex s H) cv aP wi2)(he:∀ex s H,PE (zD X N' scope ex s H) aC te) (bI:∀env x,foldedSetIterable aP env x=pure x)(bc:scope.kind=.function)(aX:∀y∈scope.names,scope.names.lookup y.1=some y.2) (aY:∀y∈scope.names,y.2=.free->X.env.kindOf y.1=some .cell\/X.env.kindOf y.1=some .free)(bg:z5f X.N scope.names N' mp=true) (hs:autoParam (∀x,foldedSetIterable ao X.env x=pure x) aIr) (ce:autoParam (swapsWith (.ListComp aC [⟨tg,ao,[],0⟩,⟨cv,aP,[],0⟩] scope pos) (some (.Name y py)) aR.line X.env=pure true) aRf) (hf:autoParam (X.fn y=true\/X.env.scope.names.lookup y=some .local) aLr): PS X (.Assign [.Name y py] (.ListComp aC [⟨tg,ao,[],0⟩,⟨cv,aP,[],0⟩] scope pos) aR) (λD O H=>zhG wi mp k1 k2 wi2 te O H (zd3 λv H'=>D.nx (O.set i (some v)) H')):=by
 intro ac s O H D I h;rw[_co _ _ _ _ ce];refine _a (_a1 (_a (_a (_F (_br   rfl hs (uh λy hy hf=>I.ok.has _ (aY y hy hf)) bc (λy hy hl=>by rw[aX y hy,hl]) (thn (hi ac s O H _ I h) λxv s₁ h₁=>thn h₁ λeN s₂ h₂=>?_)) (λ_ s' hq=>_i (_i hq)) λ_ _ e=>e))));obtain⟨it,fp,tn,J,H2,e,I2,T,av,f2,W,w0,turn⟩:=h₂;subst e;refine z8N       hc gy cP hk hg cO eu he bI bc aX aY bg I2 T av f2 W w0 turn ?_;intro af C s' hd;obtain⟨v,Hf,I3,r,q,⟨m,hm⟩,f⟩:=hd.freeze;exact _b7 (z0W I3 hN hy bZ r (λdC I4 ⟨a,sb,ha⟩=>⟨m,hm.sameBut sb (by
  rcases ha with z | z;·rw[z];exact f.2.1
  ·exact _a6 (f.2.2.2.2.1 y a z)),λh' fX=>⟨_,Hf,qT I4 f fX,q⟩⟩) hf)
end
end L2
namespace Dd
open L2
open Classical in
def z5z(g:List (Nat×List D))(all:List D)(body:D->List D->Sto->R (List D)):List D->List D->Sto->R (List D)
 | [],af,s=>if okG g all s then .ok af s else .no | x::xs,af,s=>if okG g all s then (body x af s).bind λcL s1=>z5z g all body xs cL s1 else .no
noncomputable def za3(fi:FI)(mp:List (Option Nat))(k1 k2:Nat)(fi2:FI)(fe:FE):FA:=fun ρ s=>(fi ρ s).bind λit s1=>z5z it.2 it.1 (λd af s=>(fi2 ((yI mp ρ).set k1 (some d)) s).bind λci s2=>vw ci.2 ci.1 (λd2 s=>(fe (((yI mp ρ).set k1 (some d)).set k2 (some d2)) s).bind λd s3=>.ok (some d) s3) ci.1 af s2) it.1 [] s1
section
variable {X:Cx}{E:XK}{tg ao cv aP aC:Expr}{pos aR py:Pos}{mp:List (Option Nat)}{k1 k2:Nat}{fi fi2:FI}{fe:FE}{scope:Scope}
theorem zen          {Dn:Hp->List Addr->β->β2->Prop}  (r:Rep (gm X) H Y s)(en:qG (gm X) H Y ρ O) (h:okR (gm X) E H Y Dn ((za3 fi mp k1 k2 fi2 fe ρ s).bind kR) Q2) (fin:∀H1 Y1 s1 xs vs,Rep (gm X) H1 Y1 s1->qG (gm X) H1 Y1 ρ O->zU (gm X) H1 Y1 xs vs->okR (gm X) E H1 Y1 Dn (kR xs s1) Q2->xs.length<=cap->∀p,H1 p=none->Q (.ref p) (upd H1 p (.lst vs))): zhG (tI (gm X) E fi) mp k1 k2 (tI (gm X) E fi2) (tE (gm X) E fe) O H Q:=by
 unfold za3 at h;have assoc:∀{α γ δ:Type}(x:R α)(f:α->Sto->R γ)(k:γ->Sto->R δ),(x.bind f).bind k=x.bind λa s=>(f a s).bind k:=λx f k=>by cases x<;>rfl
 rw[assoc]at h;refine⟨Y,ρ,s,r,en,(okR.bind  h).imp λJ H1 ⟨Y1,s1,it,stp,ok,h1⟩=>?_⟩;obtain⟨items,gd⟩:=it;generalize hb:(λd af s=>(fi2 ((yI mp ρ).set k1 (some d)) s).bind λci s2=>vw ci.2 ci.1 (λd2 s=>(fe (((yI mp ρ).set k1 (some d)).set k2 (some d2)) s).bind λd s3=>R.ok (some d) s3) ci.1 af s2)=body at h1;refine⟨λi m ys H=>∃Y s af,xH (gm X) H1 Y1 H Y s/\zU (gm X) H Y af ys/\af.length<=cap/\m=items.length-i/\i<=items.length/\okR (gm X) E H Y Dn ((z5z gd items body (items.drop i) af s).bind kR) Q2, ⟨items.length,Y1,s1,[],.refl stp.rep,zU.nil,_az _,by rfl,_az _,by exact h1⟩,?_⟩;rintro i m ys H2 ⟨Y2,s2,af,ak,aI,bB,rfl,lV,h2⟩;have bz  := (en.mono stp).mono ak;by_cases bU:i<items.length
 ·right;rw[_aH bU,z5z]at h2;split at h2
  ·rename_i hG;obtain⟨go,yl⟩:=((ok H2 Y2 s2 ak hG i).1 items[i] (_c bU));refine⟨go,λx H' y=>?_⟩;obtain⟨Y3,ax,cr⟩:=yl x H' y;have h3:=okR.rebase h2 ax;rw[<- hb]at h3;simp only at h3;rw[hb,assoc,assoc]at h3;have i5:qG (gm X) H' Y3 ((yI mp ρ).set k1 (some items[i])) ((inner mp O).set k1 (some x)):=((bz.mono ax).inner).set cr k1;refine⟨Y3,(yI mp ρ).set k1 (some items[i]),s2,ax.rep,i5,(okR.bind  h3).imp λJ2 H4 ⟨Y4,s4,ci,bj,mC,h4⟩=>?_⟩;obtain⟨aq,oC⟩:=ci;generalize im:(λd2 s=>(fe (((yI mp ρ).set k1 (some items[i])).set k2 (some d2)) s).bind λd s3=>R.ok (some d) s3)=body2 at h4;have lq  := (ak.trans ax).trans bj;refine⟨λj m2 bO H=>∃Y s cD,xH (gm X) H4 Y4 H Y s/\zU (gm X) H Y cD bO/\cD.length<=cap/\m2=aq.length-j/\j<=aq.length/\okR (gm X) E H Y Dn ((vw oC aq body2 (aq.drop j) cD s).bind λcL s1=>(z5z gd items body (items.drop (i+1)) cL s1).bind kR) Q2, ⟨aq.length,Y4,s4,af,.refl bj.rep,(aI.mono ax).mono bj,bB,by rfl,_az _,by exact h4⟩,?_⟩;rintro j m2 bO H5 ⟨Y5,s5,cD,bu,lr,dI,rfl,rG,h5⟩;have i8  := (i5.mono bj).mono bu;by_cases hlt2:j<aq.length
   ·right;rw[_aH hlt2,vw]at h5;split at h5
    ·rename_i lu;obtain⟨k7,oE⟩:=((mC H5 Y5 s5 bu lu j).1 aq[j] (_c hlt2));refine⟨k7,λx2 H6 y2=>?_⟩;obtain⟨Y6,bA,cF⟩:=oE x2 H6 y2;have h6:=okR.rebase h5 bA;rw[<- im]at h6;simp only at h6;rw[im,assoc,assoc]at h6;refine⟨Y6,((yI mp ρ).set k1 (some items[i])).set k2 (some aq[j]),s5,bA.rep,((i8.mono bA).set cF k2),(okR.bind  h6).imp λyv H7 ⟨Y7,s7,d7,gI,oF,h7⟩=>?_⟩;split at h7;·refine⟨by rw[lr.length];exact kj dI,aq.length-(j+1),by omega,Y7,s7,cD++[d7],((bu.trans bA).trans gI),((lr.mono bA).mono gI).append (zU.one oF),by simp;omega,rfl,hlt2,h7⟩
     ·exact h7.elim
    ·exact h5.elim
   ·left;have e:j=aq.length:=by omega
    subst e;rw[_cv,vw]at h5;split at h5
    ·rename_i lu;exact⟨(mC H5 Y5 s5 bu lu _).2 (_h _),items.length-(i+1),by omega,Y5,s5,cD,lq.trans bu,lr,dI,rfl,bU,h5⟩
    ·exact h5.elim
  ·exact h2.elim
 ·left;have e:i=items.length:=by omega
  subst e;rw[_cv,z5z]at h2;split at h2
  ·rename_i hG;exact⟨(ok H2 Y2 s2 ak hG _).2 (_h _),by rw[aI.length];exact kj bB,fin H2 Y2 s2 af ys ak.rep bz aI h2 bB⟩
  ·exact h2.elim
noncomputable def z81(fi:FI)(mp:List (Option Nat))(k1 k2:Nat)(fi2:FI)(fe:FE):FE:=fun ρ s=>(za3 fi mp k1 k2 fi2 fe ρ s).bind λxs s1=>.ok (.lst xs) s1
theorem zjh (i:Nat) {y:Str} (N':List Str) (mp:List (Option Nat)) (k1 k2:Nat) (hN:X.N.Nodup) (hc:X.calm=true) (hi:RI X E tg ao fi) (hg:∀ex s H,PG (zD X N' scope ex s H) tg (z24 k1)) (cO:∀ex s H,PG (zD X N' scope ex s H) cv (z24 k2)) (eu:∀ex s H,RI (zD X N' scope ex s H) E cv aP fi2) (he:∀ex s H,RE (zD X N' scope ex s H) E aC fe) (gy:autoParam (mp[k1]? = some none) aRf) (cP:autoParam (mp[k2]? = some none) aRf) (hk:autoParam (k1≠k2) aDe) (bI:∀env x,foldedSetIterable aP env x=pure x:=by intro _ _;rfl) (bc:autoParam (scope.kind=.function) aRf) (aX:autoParam (zch scope.names=true) aRf) (aY:autoParam (ze3 X.env.kindOf scope.names=true) aRf) (bg:autoParam (z5f X.N scope.names N' mp=true) aRf) (hy:autoParam (X.N[i]? = some y) aRf) (bZ:autoParam (Loc X.env.scope y) aOr) (hs:autoParam (∀x,foldedSetIterable ao X.env x=pure x) aIr) (ce:autoParam (swapsWith (.ListComp aC [⟨tg,ao,[],0⟩,⟨cv,aP,[],0⟩] scope pos) (some (.Name y py)) aR.line X.env=pure true) aRf) (hf:autoParam (X.fn y=true\/X.env.scope.names.lookup y=some .local) aLr): RS X E (.Assign [.Name y py] (.ListComp aC [⟨tg,ao,[],0⟩,⟨cv,aP,[],0⟩] scope pos) aR) (uf i (z81 fi mp k1 k2 fi2 fe)):= uP (z8z (te:=tE (gm X) E fe) (wi2:=tI (gm X) E fi2) N' mp hN hy bZ hc gy cP hk hi hg cO (λex s H=>eu ex s H) (λex s H=>he ex s H) bI bc (z2k aX) (z2b aY) bg hs ce hf) λD O H ⟨Y,ρ,s,r,en,h⟩=>by
  unfold uf z81 at h;rw[(λx f k=>by cases x<;>rfl:∀{α γ δ:Type} (x:R α) (f:α->Sto->R γ) (k:γ->Sto->R δ),(x.bind f).bind k=x.bind λa s=>(f a s).bind k)]at h;exact zen r en h λH1 Y1 s1 xs vs r1 aG dn h1 bB p hp=>(z0e (E:=E)   r1 (λv H2 Y2 stp aI=>(h1 (.nx (O.set i (some v))) H2 Y2 stp ((aG.mono stp).set aI i))) dn p hp)
end
end Dd
namespace L2
noncomputable def n3(a b c:Int):Nat:=if a<b then ((b-a-1) / c+1).toNat else 0
end L2
namespace Dd
open L2
open PySem.W
noncomputable def zkJ(fin:Bool):List Int->List Int->Bool
 | x::a,y::b=>if x=y then zkJ fin a b else decide (x<y) | _,_=>fin
theorem zeh (f:Bool) (x y:Int) (a b:List Int):zkJ f (x::a) (y::b)=if x=y then zkJ f a b else decide (x<y):=id rfl
theorem zhs:∀ns ms:List Int,zkJ (decide (ns.length<ms.length)) ns ms=lexN ns ms
 | [],[]=>by rfl | [],_::_=>by rfl | _::_,[]=>by rfl | x::a,y::b=>by simp only[zeh,lexN,_n,Nat.add_lt_add_iff_right,(zhs a b)]
def TupAt(h:Heap)(v:Value)(ns:List Int):Prop:=∃a o n us,v=.ref a/\h.get? a=some o/\o.cls=.type "tuple"/\o.data=.seq us n/\xc us.toList ns/\ns≠[]
inductive qU (h:Heap):List Value->List (List Int)->Prop | nil:qU h [] [] | cons {v p vs ps}:TupAt h v p->qU h vs ps->qU h (v::vs) (p::ps)
theorem qU.mono  (k:∀b o,h.get? b=some o->h'.get? b=some o):∀{vs ps},qU h vs ps->qU h' vs ps
 | _,_,.nil=>.nil | _,_,.cons ⟨a,o,n,us,e,g,c,d,i,z⟩ r=>.cons ⟨a,o,n,us,e,k _ _ g,c,d,i,z⟩ (r.mono k)
theorem qU.tups  : ∀{vs ps},qU h vs ps->∃fs,KatTups h vs fs/\fs.length=ps.length/\∀v∈fs,∃i t,v=.int i t
 | _,_,.nil=>⟨[],KatTups.nil,rfl,λv hv=>by cases hv⟩ | _,_,.cons  ⟨a,o,n,us,e,g,c,d,i,z⟩ r=>by
  obtain⟨fs,k,l,m⟩:=r.tups;subst e;obtain⟨ul⟩:=us;cases i with
  | nil=>exact absurd rfl z | @cons x t ws ns i'=>
   refine⟨.int x t::fs,KatTups.cons g c d rfl k,by simp[l],λv hv=>?_⟩;rcases _r.mp hv with rfl | hv;·exact⟨_,_,rfl⟩
   ·exact m v hv
section
variable {prog:Program}{w:World}{A:Around}{E:Value->Shared->Prop}{s:Shared}
theorem z9U   : ∀{xs ys:List Value}{ns ms:List Int}(i:Nat),xc xs ns->xc ys ms->C (zkJ fin ns ms) s->KatLex prog w A true fin C (xs.zip ys) i s
 | _,_,_,_,i,.nil,_,h=>by
  refine kat_nil ?_;exact h | _,_,_,_,i,.cons _,.nil,h=>by
  refine kat_nil ?_;exact h | _,_,_,_,i,.cons (i:=x)  r,.cons (i:=y)  r',h=>by
  refine kat_cons (_de (kat_go (λe=>kat_yes (z9U (i+1) r r' ?_)) λe=>kat_no ?_));·simpa[zeh,(by simpa using e)] using h
  ·have h':C (decide (x<y)) s:=by simpa[zeh,(by simpa using e)] using h
   cases i with
   | zero=> exact oneLt_int h' | succ i=> exact kat_one _ _ (_cI h')
theorem ziJ    (hv:TupAt s.heap v p)(hu:TupAt s.heap u q)(h:C (lexN p q) s):wpAny (model prog w) A (keyLt' (tuples' true) v u) C E s:=by
 obtain⟨a,o,n,us,rfl,g,c,d,i,_⟩:=hv;obtain⟨b,o',n',cR,rfl,g',c',d',i',_⟩:=hu;refine kat_lt g d g' d' (z9U 0 i i' ?_);rw[(show decide (us.size<cR.size)=decide (p.length<q.length) from by
  have:=i.length;have:=i'.length;simp only[_Y]at *;simp[*]),zhs];exact h
theorem zdo    (hp:qU s.heap vs ps)(h0:0<ps.length)(h:Q (tuples' true) s):wpAny (model prog w) A (keyKind' vs.toArray) Q E s:=by
 obtain⟨fs,k,l,m⟩:=hp.tups;refine kat_kind (T:=.type "int") k (by rw[l];exact h0) (λv hv=>?_) rfl h;obtain⟨i,t,rfl⟩:=m v hv;exact Looks.of_pure rfl
end
section
variable {X:Cx}{E:XK}
theorem zdL  {O:L2.St}   (I:Inv X ac O H s):∀{ys:List V}{ah:List Value}{ps:List (List Int)},xF ys ah->Paired (λv ns=>AtN H v ns) ys ps->(∀n∈ps,n≠[])->qU s.heap ah ps
 | [],_,_,.nil,.nil,_=>.nil | y::ys,_,_,.cons r rs,.cons a p,hn=>by
  refine .cons ?_ (zdL I rs p λn hm=>hn n (.tail _ hm));obtain⟨b,ah,rfl,rfl,⟨o,g,c,k,d⟩,z⟩:=a.tuple I r;exact⟨b,o,k,ah,rfl,g,c,d,z,hn _ (.head _)⟩
end
end Dd
namespace Dd
open L2
theorem zoh   (h:IsC H p):IsD H p:=by
 rcases h with⟨ae,q⟩ | ⟨o,ae,q⟩ | ⟨ae,_,q⟩ | ⟨o,ae,q⟩;·exact .inr ⟨ae,.inl q⟩
 ·exact .inr ⟨ae,.inr ⟨o,q⟩⟩
 ·exact .inl ⟨ae,.inl q⟩
 ·exact .inl ⟨ae,.inr ⟨o,q⟩⟩
end Dd
namespace Dd
open L2
section
variable {X:Cx}{E:XK}{a:Expr}
noncomputable def zlm(f:FE):FT:=fun ρ s=>(f ρ s).bind λd s1=>match listOf s1 d with | some xs=>.ok (!xs.isEmpty) s1 | none=>.no
theorem z4J      (h:zU mg H Y ds vs):vs.isEmpty=ds.isEmpty:=by
 have:=h.length;cases ds<;>cases vs<;>simp at this ⊢
theorem zod  (h:RE X E a f)(he:autoParam (∀whole,isTrue a X.env whole=(do let v <- whole;standAt a.pos;holding [v] (truthy v))) aIr):RT X E a (zlm f):= z7T (zfo h he) λO H Q ⟨Y,ρ,s,r,en,h⟩=>by
  refine yL (k:=fun ρ d s1=>match listOf s1 d with | some xs=>.ok (!xs.isEmpty) s1 | none=>.no) r en h _ λv H1 Y1 s1 d r1 aG dn stp h1=>?_;split at h1
  ·rename_i xs e;obtain⟨p,vs,rfl,q1,q2⟩:=yg r1 e dn;exact⟨!xs.isEmpty,.inl ⟨vs,.inl q1,by rw[z4J q2]⟩,h1.here  r1 rfl⟩
  ·exact h1.elim
end
@[simp] theorem zpu (f:FE)(ρ:Ev)(s:Sto):zlm f ρ s=(f ρ s).bind λd s1=>match listOf s1 d with | some xs=>.ok (!xs.isEmpty) s1 | none=>.no:=id rfl
end Dd
namespace Pg
open L2 Dd
noncomputable def z0L:List (Str×Str):=[("next","by_next"),("least","by_least"),("all","by_all"),("turn","by_turn")]
@[simp] noncomputable def z7N:FS:=(xC (zeE (eIs "int" (zd 0)) (zoY (eIs "bool" (zd 0)))))
noncomputable def z8I:FS:=z7N
noncomputable def qE:Mir:=Mof ["thing"] 1 z8I
@[simp] noncomputable def z88:FS:=(xC (zeE (eIs "tuple" (zd 0)) (z12 dLe dLe (eC (.int 2)) (ze xO (za (zd 0) zi)) (eC (.int 4)))))
noncomputable def z38:FS:=z88
noncomputable def vB:Mir:=Mof ["thing"] 1 z38
@[simp] noncomputable def vh:FS:=(uf 3 (zfj (za (z5R zi) zi)))
@[simp] noncomputable def xL:FS:=(uf 3 (z81 (zM (zd 3)) [some 1,some 2,none,none] 2 3 (zfd (za (zd 0) (za (eOp ug (zd 1) (eC (.int 1))) zi))) (eOp ug (zd 2) (z5R (za (zd 3) zi)))))
@[simp] noncomputable def xJ:FS:=(zeD (z8w (za (zd 0) zi)) (yu 4) xL)
@[simp] noncomputable def z0D:FS:=(xC (zd 3))
noncomputable def qg:FS:=(yf vh (yf xJ z0D))
noncomputable def yp:Mir:=Mof ["size","least","most","found","place"] 3 qg
@[simp] noncomputable def z43:FS:=(xC (eC (.bl false)))
@[simp] noncomputable def z4a:FS:=(fIf (fOr (z3v (tOf (eIs "tuple" (zd 0)))) (tOf (eOp dNe (ze xO (za (zd 0) zi)) (zd 1)))) z43 wN)
@[simp] noncomputable def z4l:FS:=(xC (ze zk2 (za (zu (zM (zd 0)) [none] (yu 0) zV (ze qE (za (zd 0) zi))) zi)))
noncomputable def z0o:FS:=(yf z4a z4l)
noncomputable def yw:Mir:=Mof ["thing","many"] 2 z0o
@[simp] noncomputable def z3o:FS:=fNo
@[simp] noncomputable def jp:FS:=(fIf (fOr (z3v (tOf (ze qE (za (zd 0) zi)))) (z3v (tOf (z12 dLe dLe (zd 1) (zd 0) (zd 2))))) z3o wN)
noncomputable def kJ:FS:=jp
noncomputable def vf:Mir:=Mof ["thing","least","most"] 3 kJ
@[simp] noncomputable def zbK:FS:=(xC (eC (.bl false)))
@[simp] noncomputable def zbJ:FS:=(fIf (fOr (z3v (tOf (ze vB (za (zd 0) zi)))) (z3v (tOf (ze yw (za (zd 0) (za (ze xO (za (zd 0) zi)) zi)))))) zbK wN)
@[simp] noncomputable def zb5:FS:=(xC (zeE (eOp dGe (ze qI (za (zd 0) zi)) (eC (.int 0))) (eOp dGt (ze wP (za (zd 0) zi)) (eC (.int 0)))))
noncomputable def z6S:FS:=(yf zbJ zb5)
noncomputable def jO:Mir:=Mof ["thing"] 1 z6S
@[simp] noncomputable def z6K:FS:=fNo
@[simp] noncomputable def z7q:FS:=(fIf (z3v (tOf (ze jO (za (zd 0) zi)))) z6K wN)
noncomputable def z3s:FS:=z7q
noncomputable def yN:Mir:=Mof ["thing"] 1 z3s
@[simp] noncomputable def z68:FS:=(uE (ze yN (za (zd 0) zi)))
@[simp] noncomputable def z0K:FS:=(xC (eOp dEq (ze xO (za (zu (zM (zd 0)) [none] (yu 0) (tOf (eOp dNe (zd 0) (eC (.int 0)))) (zd 0)) zi)) (eC (.int 1))))
noncomputable def z1x:FS:=(yf z68 z0K)
noncomputable def xu:Mir:=Mof ["lot"] 1 z1x
@[simp] noncomputable def z7n:FS:=(xC (ze zcs (za (zu (zgi (za (zd 0) (za (zd 1) zi))) [none,none] (qr 0 1) zV (eOp xG (zd 0) (zd 1))) zi)))
noncomputable def z2z:FS:=z7n
noncomputable def zK:Mir:=Mof ["line","numbers"] 2 z2z
@[simp] noncomputable def ki:FS:=(xC (ze yr (za (zu (z8w (za (ze xO (za (zd 0) zi)) zi)) [some 0,none] (yu 1) zV (ze yr (za (zu (zM (zd 0)) [some 1,none] (yu 1) zV (eOp dIx (zd 1) (zd 0))) zi))) zi)))
noncomputable def z0k:FS:=ki
noncomputable def yF:Mir:=Mof ["table"] 1 z0k
@[simp] noncomputable def z35:FS:=(uf 3 (eOp ug (eSl (zd 0) zW (wD (zd 1))) (eSl (zd 0) (wD (eOp ug (zd 1) (eC (.int 1)))) zW)))
@[simp] noncomputable def z3g:FS:=(xC (ze yr (za (zu (zM (zd 3)) [some 2,none] (yu 1) zV (eOp ug (eSl (zd 1) zW (wD (zd 0))) (eSl (zd 1) (wD (eOp ug (zd 0) (eC (.int 1)))) zW))) zi)))
noncomputable def z5a:FS:=(yf z35 z3g)
noncomputable def xB:Mir:=Mof ["lines","at_line","at_column","kept"] 3 z5a
@[simp] noncomputable def z8r:FS:=(xC (eIf (tOf (eOp dEq (eOp zaf (eOp ug (zd 0) (zd 1)) (eC (.int 2))) (eC (.int 0)))) (eC (.int 1)) (z3T (eC (.int 1)))))
noncomputable def z4O:FS:=z8r
noncomputable def xU:Mir:=Mof ["line","column"] 2 z4O
@[simp] noncomputable def jy:FS:=(uf 1 (eLR (za (zd 0) zi)))
@[simp] noncomputable def jn:FS:=(xC (ze yr (za (zu (zM (zd 1)) [some 1,none] (yu 1) zV (ze yr (za (zu (zM (zd 0)) [some 1,none] (yu 1) zV (eIf (tOf (eOp dEq (zd 0) (zd 1))) (eC (.int 1)) (eC (.int 0)))) zi))) zi)))
noncomputable def kC:FS:=(yf jy jn)
noncomputable def xA:Mir:=Mof ["size","places"] 1 kC
@[simp] noncomputable def z3L:FS:=(xC (ze yr (za (zu (zM (zd 0)) [some 1,none] (yu 1) zV (ze zK (za (zd 1) (za (zd 0) zi)))) zi)))
noncomputable def kY:FS:=z3L
noncomputable def xw:Mir:=Mof ["lines","numbers"] 2 kY
@[simp] noncomputable def z6h (Mr:Mir):FS:=(xC (eOp dIx (eOp dIx (zd 0) (eC (.int 0))) (eC (.int 0))))
@[simp] noncomputable def z5i (Mr:Mir):FS:=(fIf (tOf (eOp dEq (ze xO (za (zd 0) zi)) (eC (.int 1)))) (z6h Mr) wN)
@[simp] noncomputable def z0u (Mr:Mir):FS:=(xC (ze zcs (za (zu (zf0 (za (eOp dIx (zd 0) (eC (.int 0))) zi)) [some 0,none,none] (qr 1 2) zV (eOp xG (eOp xG (ze xU (za (eC (.int 0)) (za (zd 1) zi))) (zd 2)) (ze Mr (za (ze xB (za (zd 0) (za (eC (.int 0)) (za (zd 1) zi)))) zi)))) zi)))
noncomputable def jB(Mr:Mir):FS:=(yf (z5i Mr) (z0u Mr))
def yx:Nat->Mir
 | 0=>λ_ _=>.no | k+1=>Mof ["lines"] 1 (jB (yx k))
noncomputable def xq:Mir:=yx 4
@[simp] noncomputable def z7Y:FS:=(xC (eC (.bl false)))
@[simp] noncomputable def z83:FS:=(fIf (z3v (tOf (ze vB (za (zd 0) zi)))) z7Y wN)
@[simp] noncomputable def z1Y:FS:=(xC (ze zk2 (za (zu (zM (zd 0)) [some 0,none] (yu 1) zV (ze yw (za (zd 1) (za (ze xO (za (zd 0) zi)) zi)))) zi)))
noncomputable def z3l:FS:=(yf z83 z1Y)
noncomputable def uk:Mir:=Mof ["thing"] 1 z3l
@[simp] noncomputable def z3Z:FS:=fNo
@[simp] noncomputable def z4e:FS:=(fIf (z3v (tOf (ze uk (za (zd 0) zi)))) z3Z wN)
noncomputable def z0p:FS:=z4e
noncomputable def yG:Mir:=Mof ["thing"] 1 z0p
@[simp] noncomputable def z4j:FS:=(uE (ze yG (za (zd 0) zi)))
@[simp] noncomputable def z3Y:FS:=(uE (ze yG (za (zd 1) zi)))
@[simp] noncomputable def z48:FS:=fNo
@[simp] noncomputable def z4m:FS:=(fIf (tOf (eOp dNe (ze xO (za (zd 0) zi)) (ze xO (za (zd 1) zi)))) z48 wN)
@[simp] noncomputable def kZ:FS:=(xC (ze yF (za (ze yr (za (zu (zM (ze yF (za (zd 1) zi))) [some 0,none] (yu 1) zV (ze xw (za (zd 0) (za (zd 1) zi)))) zi)) zi)))
noncomputable def z0T:FS:=(yf z4j (yf z3Y (yf z4m kZ)))
noncomputable def wT:Mir:=Mof ["one","other"] 2 z0T
@[simp] noncomputable def z3U:FS:=(uE (ze yG (za (zd 0) zi)))
@[simp] noncomputable def kT:FS:=(xC (ze xq (za (zd 0) zi)))
noncomputable def z0m:FS:=(yf z3U kT)
noncomputable def wV:Mir:=Mof ["table"] 1 z0m
@[simp] noncomputable def z3i:FS:=(uf 1 (ze wV (za (zd 0) zi)))
@[simp] noncomputable def z3D:FS:=fNo
@[simp] noncomputable def z2G:FS:=(fIf (zpd (tOf (eOp dNe (zd 1) (eC (.int 1)))) (tOf (eOp dNe (zd 1) (z3T (eC (.int 1)))))) z3D wN)
@[simp] noncomputable def jz:FS:=(uf 2 (eLR (za (ze xO (za (zd 0) zi)) zi)))
@[simp] noncomputable def jw:FS:=(xC (ze yr (za (zu (zM (zd 2)) [some 2,some 1,some 0,none] (yu 3) zV (ze yr (za (zu (zM (zd 0)) [some 1,some 3,some 2,none] (yu 3) zV (eOp xG (eOp xG (zd 0) (ze xU (za (zd 1) (za (zd 3) zi)))) (ze xq (za (ze xB (za (zd 2) (za (zd 3) (za (zd 1) zi)))) zi)))) zi))) zi)))
noncomputable def kF:FS:=(yf z3i (yf z2G (yf jz jw)))
noncomputable def wj:Mir:=Mof ["table","own","places"] 1 kF
@[simp] noncomputable def vY:FS:=(uf 2 (ziV (za (ze xA (za (zd 0) zi)) zi)))
@[simp] noncomputable def yY:FS:=(uE (zmt (zd 2) (ze wT (za (eOp dIx (zd 2) (z3T (eC (.int 1)))) (za (zd 3) zi)))))
@[simp] noncomputable def vV:FS:=(zeD (zM (zd 1)) (yu 3) yY)
@[simp] noncomputable def jY:FS:=(xC (zd 2))
noncomputable def uB:FS:=(yf vY (yf vV jY))
noncomputable def yB:Mir:=Mof ["size","tables","products","table"] 2 uB
@[simp] noncomputable def wY:FS:=(uf 1 (zhx (zd 0) (ze wP (za (zd 0) zi))))
@[simp] noncomputable def va:FS:=(xC (z5R (za (zd 1) (za (eOp ug (eOp ug (eSl (zd 0) zW (wD (zd 1))) (z5R (za (eC (.int 0)) zi))) (eSl (zd 0) (wD (eOp ug (zd 1) (eC (.int 1)))) zW)) zi))))
noncomputable def vx:FS:=(yf wY va)
noncomputable def zN:Mir:=Mof ["lot","at"] 1 vx
@[simp] noncomputable def jE:FS:=(xC (zhx (zd 0) (ze qI (za (zu (zM (zd 0)) [none] (yu 0) (tOf (eOp dNe (zd 0) (eC (.int 0)))) (zd 0)) zi))))
noncomputable def kg:FS:=jE
noncomputable def yU:Mir:=Mof ["lot"] 1 kg
@[simp] noncomputable def z36:FS:=(xC (zu (z8w (za (ze xO (za (zd 0) zi)) zi)) [some 1,none] (yu 1) (tOf (eOp dNe (zd 1) (zd 0))) (zd 1)))
noncomputable def z4t:FS:=z36
noncomputable def vS:Mir:=Mof ["lot","place"] 2 z4t
@[simp] noncomputable def z94:FS:=(xC (zeE (eIs "str" (zd 0)) (zdH z0L false (zd 0))))
noncomputable def z4w:FS:=z94
noncomputable def z0q:Mir:=Mof ["thing"] 1 z4w
@[simp] noncomputable def z7e:FS:=(xC (eIf (tOf (eOp dEq (zd 0) (eC (.str "turn")))) (eOp ug (eSl (zd 1) (wD (eC (.int 1))) zW) (eSl (zd 1) zW (wD (eC (.int 1))))) (zd 1)))
noncomputable def zaG:FS:=z7e
noncomputable def qH:Mir:=Mof ["rule","numbers"] 2 zaG
@[simp] noncomputable def z9g:FS:=(zhK (ze zN (za (zd 0) zi)) (qr 1 2))
@[simp] noncomputable def z3B:FS:=(xC (z5R (za (zhx (zd 2) (ze wP (za (zd 2) zi))) (za (zfj (za (zd 1) zi)) zi))))
noncomputable def z4A:FS:=(yf z9g z3B)
noncomputable def uz:Mir:=Mof ["lot","greatest","others"] 1 z4A
@[simp] noncomputable def z6N:FS:=(zhK (ze zN (za (zd 0) zi)) (qr 1 2))
@[simp] noncomputable def z7o:FS:=(xC (z5R (za (ze yU (za (zd 2) zi)) (za (zfj (za (zd 1) zi)) zi))))
noncomputable def z3r:FS:=(yf z6N z7o)
noncomputable def vD:Mir:=Mof ["lot","greatest","others"] 1 z3r
@[simp] noncomputable def zbr:FS:=(uf 1 (ze yU (za (zd 0) zi)))
@[simp] noncomputable def zbh:FS:=(xC (z5R (za (zd 1) (za (ze vS (za (zd 0) (za (zd 1) zi))) zi))))
noncomputable def z7L:FS:=(yf zbr zbh)
noncomputable def qO:Mir:=Mof ["lot","by"] 1 z7L
@[simp] noncomputable def z8O:FS:=(xC (z5R (za (eC (.int 0)) (za (zfj zi) zi))))
@[simp] noncomputable def z8L:FS:=(fIf (tOf (eOp dEq (eOp dIx (zd 0) (eC (.int 0))) (eC (.int 0)))) z8O wN)
@[simp] noncomputable def z9l:FS:=(xC (z5R (za (eC (.int 0)) (za (ze vS (za (zd 0) (za (eC (.int 0)) zi))) zi))))
noncomputable def z4U:FS:=(yf z8L z9l)
noncomputable def uC:Mir:=Mof ["lot"] 1 z4U
@[simp] noncomputable def z5S:FS:=fNo
@[simp] noncomputable def z5U:FS:=(fIf (z3v (tOf (ze z0q (za (zd 0) zi)))) z5S wN)
noncomputable def z1T:FS:=z5U
noncomputable def uF:Mir:=Mof ["thing"] 1 z1T
@[simp] noncomputable def z7H:FS:=(uf 2 (zo1 z0L (zd 0)))
@[simp] noncomputable def z1O:FS:=(zhK (z9Z 2 [("by_next",uz),("by_least",vD),("by_all",qO),("by_turn",uC)] (za (zd 1) zi)) (qr 3 4))
@[simp] noncomputable def z1U:FS:=(xC (z5R (za (zd 3) (za (zu (z8w (za (ze xO (za (zd 1) zi)) zi)) [some 4,some 1,some 3,none] (yu 3) zV (eIf (tOf (eOp (zhT false) (zd 3) (zd 0))) (eOp z46 (eOp dIx (zd 1) (zd 3)) (eOp dIx (zd 1) (zd 2))) (eC (.int 0)))) zi))))
noncomputable def z3R:FS:=(yf z7H (yf z1O z1U))
noncomputable def wX:Mir:=Mof ["rule","lot","deal","by","divided"] 2 z3R
@[simp] noncomputable def je:FS:=(uE (ze uF (za (zd 0) zi)))
@[simp] noncomputable def jr:FS:=(uE (ze yN (za (zd 1) zi)))
noncomputable def vT:FS:=(yf je jr)
noncomputable def zS:Mir:=Mof ["rule","lot"] 2 vT
@[simp] noncomputable def z6j:FS:=(uE (ze zS (za (zd 0) (za (zd 1) zi))))
@[simp] noncomputable def z5v:FS:=fNo
@[simp] noncomputable def z66:FS:=(fIf (tOf (ze xu (za (zd 1) zi))) z5v wN)
noncomputable def z1X:FS:=(yf z6j z66)
noncomputable def xZ:Mir:=Mof ["rule","lot"] 2 z1X
@[simp] noncomputable def zeX:FS:=(uE (ze xZ (za (zd 0) (za (zd 1) zi))))
@[simp] noncomputable def zf1:FS:=(zhK (ze wX (za (zd 0) (za (zd 1) zi))) (qr 2 3))
@[simp] noncomputable def zaJ:FS:=(uf 4 (ze yr (za (zu (zgi (za (zd 1) (za (zd 3) zi))) [some 1,some 2,none,none] (qr 2 3) zV (eOp z9E (zd 2) (eOp xG (zd 3) (eOp dIx (zd 0) (zd 1))))) zi)))
@[simp] noncomputable def zae:FS:=(xC (ze qH (za (zd 0) (za (zd 4) zi))))
noncomputable def zdx:FS:=(yf zeX (yf zf1 (yf zaJ zae)))
noncomputable def M_step:Mir:=Mof ["rule","lot","by","quotients","left"] 2 zdx
@[simp] noncomputable def z3X:FS:=(uE (ze xZ (za (zd 0) (za (zd 1) zi))))
@[simp] noncomputable def z49:FS:=(zhK (ze wX (za (zd 0) (za (zd 1) zi))) (qr 2 3))
@[simp] noncomputable def kN:FS:=(xC (ze yr (za (zu (zgi (za (ze xA (za (ze xO (za (zd 1) zi)) zi)) (za (zd 3) zi))) [some 0,some 2,none,none] (qr 2 3) zV (ze qH (za (zd 0) (za (eOp ug (eOp ug (eSl (zd 2) zW (wD (zd 1))) (z5R (za (eOp ug (eOp dIx (zd 2) (zd 1)) (zd 3)) zi))) (eSl (zd 2) (wD (eOp ug (zd 1) (eC (.int 1)))) zW)) zi)))) zi)))
noncomputable def z0M:FS:=(yf z3X (yf z49 kN))
noncomputable def wU:Mir:=Mof ["rule","lot","by","quotients"] 2 z0M
@[simp] noncomputable def zhR:FS:=(uE (ze zS (za (zd 0) (za (zd 1) zi))))
@[simp] noncomputable def zdK:FS:=(uf 2 (ziV (za (zd 1) zi)))
@[simp] noncomputable def z5y:FS:=(uE (zmt (zd 2) (ze M_step (za (zd 0) (za (eOp dIx (zd 2) (z3T (eC (.int 1)))) zi)))))
@[simp] noncomputable def ziQ:FS:=(z53 (z3v (tOf (ze xu (za (eOp dIx (zd 2) (z3T (eC (.int 1)))) zi)))) z5y)
@[simp] noncomputable def zhM:FS:=(xC (zd 2))
noncomputable def zhd:FS:=(yf zhR (yf zdK (yf ziQ zhM)))
noncomputable def M_run:Mir:=Mof ["rule","lot","lots"] 2 zhd
@[simp] noncomputable def z0R:FS:=(xC (zu (zM (eSl (z8J (ze M_run (za (zd 0) (za (zd 1) zi)))) zW (wD (z3T (eC (.int 1)))))) [some 0,none] (yu 1) zV (ze wU (za (zd 0) (za (zd 1) zi)))))
noncomputable def z1R:FS:=z0R
noncomputable def vC:Mir:=Mof ["rule","lot"] 2 z1R
@[simp] noncomputable def z2B:FS:=(uf 2 (ze vC (za (zd 0) (za (zd 1) zi))))
@[simp] noncomputable def jN:FS:=(xC (ze yB (za (ze xO (za (zd 1) zi)) (za (zd 2) zi))))
noncomputable def ku:FS:=(yf z2B jN)
noncomputable def wk:Mir:=Mof ["rule","lot","tables"] 2 ku
@[simp] noncomputable def jH:FS:=(xC (eOp dIx (z8J (ze wk (za (zd 0) (za (zd 1) zi)))) (z3T (eC (.int 1)))))
noncomputable def kq:FS:=jH
noncomputable def wg:Mir:=Mof ["rule","lot"] 2 kq
@[simp] noncomputable def z8X:FS:=(xC (zeE (ze yw (za (zd 1) (za (ze xO (za (zd 0) zi)) zi))) (eOp dEq (ze zK (za (zd 1) (za (zd 0) zi))) (zd 2))))
noncomputable def z4B:FS:=z8X
noncomputable def qC:Mir:=Mof ["lot","thing","number"] 3 z4B
@[simp] noncomputable def z30:FS:=(uE (ze yN (za (zd 0) zi)))
@[simp] noncomputable def z3y:FS:=(xC (ze qC (za (zd 0) (za (zd 1) (za (eC (.int 0)) zi)))))
noncomputable def kO:FS:=(yf z30 z3y)
noncomputable def wf:Mir:=Mof ["lot","thing"] 2 kO
@[simp] noncomputable def z41:FS:=(xC (ze wj (za (ze wg (za (zd 0) (za (zd 1) zi))) zi)))
noncomputable def z0z:FS:=z41
noncomputable def xR:Mir:=Mof ["rule","lot"] 2 z0z
@[simp] noncomputable def zau:FS:=(xC (zu (zM (ze xR (za (zd 0) (za (zd 1) zi)))) [some 1,none] (yu 1) (tOf (eOp dEq (ze zK (za (zd 1) (za (zd 0) zi))) (eC (.int 0)))) (zd 1)))
noncomputable def zdO:FS:=zau
noncomputable def M_base:Mir:=Mof ["rule","lot"] 2 zdO
@[simp] noncomputable def z4W:FS:=(xC (ze wP (za (zu (zM (zd 0)) [none] (yu 0) zV (ze z6u (za (zd 0) zi))) zi)))
noncomputable def z7c:FS:=z4W
noncomputable def wJ:Mir:=Mof ["line"] 1 z7c
@[simp] noncomputable def z4V:FS:=(xC (ze zcs (za (zu (zM (zd 0)) [none] (yu 0) zV (ze z6u (za (zd 0) zi))) zi)))
noncomputable def z6U:FS:=z4V
noncomputable def wL:Mir:=Mof ["line"] 1 z6U
@[simp] noncomputable def z4o:FS:=(xC (ze yr (za (zu (zM (zd 0)) [none] (yu 0) zV (z3T (zd 0))) zi)))
noncomputable def z7t:FS:=z4o
noncomputable def ub:Mir:=Mof ["line"] 1 z7t
@[simp] noncomputable def z7g:FS:=(xC (ze yr (za (zu (zM (zd 0)) [none] (yu 0) zV (ze z7C (za (zd 0) (za (eC (.int 0)) zi)))) zi)))
noncomputable def z9u:FS:=z7g
noncomputable def jG:Mir:=Mof ["line"] 1 z9u
@[simp] noncomputable def z13:FS:=(xC (zeE (ze yw (za (zd 2) (za (ze xO (za (zd 0) zi)) zi))) (zeE (eOp dGe (ze qI (za (zd 2) zi)) (eC (.int 0))) (eOp dLe (ze wP (za (zd 2) zi)) (zd 1)))))
noncomputable def z1Z:FS:=z13
noncomputable def xV:Mir:=Mof ["lot","number","thing"] 3 z1Z
@[simp] noncomputable def z25:FS:=(xC (eOp dIx (zd 0) (zd 1)))
@[simp] noncomputable def z28:FS:=(fIf (tOf (eOp dLt (zd 1) (ze xO (za (zd 0) zi)))) z25 wN)
@[simp] noncomputable def z26:FS:=(xC (eC (.int 0)))
noncomputable def uy:FS:=(yf z28 z26)
noncomputable def wF:Mir:=Mof ["_law_script","_law_k"] 2 uy
@[simp] noncomputable def z7y:FS:=(xC (ziV (za (eOp z9E (zd 0) (eOp zmv (eC (.int 10)) (eC (.int 18)))) zi)))
@[simp] noncomputable def z7I:FS:=(fIf (tOf (eOp dGe (zd 0) (eOp zmv (eC (.int 10)) (eC (.int 18))))) z7y wN)
@[simp] noncomputable def z7Z:FS:=(uf 1 (eC (.int 0)))
@[simp] noncomputable def z1M:FS:=(uf 3 (eOp zaf (eOp xG (eOp ug (eOp ug (eOp zaf (zd 0) (eC (.int 2147483629))) (eOp xG (eC (.int 7919)) (zd 2))) (eC (.int 1))) (eC (.int 48271))) (eC (.int 2147483647))))
@[simp] noncomputable def z1A:FS:=(uf 3 (eOp zaf (eOp ug (eOp ug (eOp xG (zd 3) (zd 3)) (eOp xG (eC (.int 69621)) (zd 2))) (eC (.int 7))) (eC (.int 2147483587))))
@[simp] noncomputable def z1P:FS:=(uf 1 (eOp ug (eOp xG (zd 1) (eC (.int 2147483587))) (zd 3)))
@[simp] noncomputable def z1L:FS:=(zeD (z8w (za (eC (.int 64)) zi)) (yu 2) (yf z1M (yf z1A z1P)))
@[simp] noncomputable def z7E:FS:=(xC (ziV (za (zd 1) zi)))
noncomputable def z02:FS:=(yf z7I (yf z7Z (yf z1L z7E)))
noncomputable def ql:Mir:=Mof ["_law_cell","_law_number","_law_j","_law_more"] 1 z02
@[simp] noncomputable def z1a:FS:=(xC (zfj (za (eC (.str "next")) (za (eC (.str "least")) (za (eC (.str "all")) (za (eC (.str "turn")) zi))))))
noncomputable def z29:FS:=z1a
noncomputable def xo:Mir:=Mof [] 0 z29
@[simp] noncomputable def z6m:FS:=(uf 2 (eOp zaf (eOp dIx (zd 0) (eC (.int 0))) (zd 1)))
@[simp] noncomputable def z5p:FS:=(z92 (zd 0) (eC (.int 0)) (eOp z46 (eOp dIx (zd 0) (eC (.int 0))) (zd 1)))
@[simp] noncomputable def z5r:FS:=(xC (zd 2))
noncomputable def z1Q:FS:=(yf z6m (yf z5p z5r))
noncomputable def zR:Mir:=Mof ["_law_pot_here","_law_far","_law_found"] 2 z1Q
@[simp] noncomputable def vk:FS:=(uf 2 (eOp dIx (zfj (za (eC (.int 10)) (za (eC (.int 61)) (za (eC (.int 1001)) zi)))) (ze zR (za (zd 0) (za (eC (.int 3)) zi)))))
@[simp] noncomputable def vq:FS:=(uf 3 (z4F (z8w (za (zd 1) zi)) [some 0,some 2,none] (yu 2) zV (ze zR (za (zd 0) (za (zd 1) zi)))))
@[simp] noncomputable def wZ:FS:=(zm7 4 5 (za (ze zR (za (zd 0) (za (zd 1) zi))) (za (ze zR (za (zd 0) (za (zd 1) zi))) zi)))
@[simp] noncomputable def vm:FS:=(uf 6 (ze zR (za (zd 0) (za (eC (.int 5)) zi))))
@[simp] noncomputable def uT:FS:=(z92 (zd 3) (zd 4) (eC (.int 0)))
@[simp] noncomputable def xM:FS:=(fIf (tOf (eOp dEq (zd 6) (eC (.int 0)))) uT wN)
@[simp] noncomputable def uW:FS:=(z92 (zd 3) (zd 4) (eOp dIx (zd 3) (zd 5)))
@[simp] noncomputable def xN:FS:=(fIf (tOf (eOp dEq (zd 6) (eC (.int 1)))) uW wN)
@[simp] noncomputable def uK:FS:=(z92 (zd 3) (zd 5) (eOp ug (eC (.int 1)) (ze zR (za (zd 0) (za (eOp z9E (zd 2) (eC (.int 1))) zi)))))
@[simp] noncomputable def xK:FS:=(fIf (tOf (eOp dEq (ze wP (za (zd 3) zi)) (eC (.int 0)))) uK wN)
@[simp] noncomputable def ut:FS:=(xC (ze yr (za (zd 3) zi)))
noncomputable def qk:FS:=(yf vk (yf vq (yf wZ (yf vm (yf xM (yf xN (yf xK ut)))))))
noncomputable def wK:Mir:=z9i (Mof ["_law_pot_here","_law_size","_law_far","_law_found","_law_at","_law_to","_law_way"] 2 qk)
end Pg
set_option maxRecDepth 1000000
set_option maxHeartbeats 4000000
namespace Pm
abbrev Tb:=List (List Int)
noncomputable def dot(r v:List Int):Int:=(List.zipWith (λa b=>a*b) r v).sum
noncomputable def mv(T:Tb)(v:List Int):List Int:=T.map λr=>dot r v
noncomputable def xp(T:Tb):Tb:=(List.range T.length).map λj=>T.map λr=>r.getD j 0
noncomputable def jX(A B:Tb):Tb:=xp ((xp B).map (mv A))
noncomputable def kr(T:Tb)(i j:Nat):Tb:=(T.take i++T.drop (i+1)).map λr=>r.take j++r.drop (j+1)
noncomputable def sg(i j:Nat):Int:=if (i+j) % 2=0 then 1 else -1
def det:Nat->Tb->Int
 | 0,_=>0 | k+1,T=>if T.length=1 then (T.getD 0 []).getD 0 0 else ((List.range T.length).map λj=>sg 0 j*(T.getD 0 []).getD j 0*det k (kr T 0 j)).sum
noncomputable def back(T:Tb):Tb:=(List.range T.length).map λi=>(List.range T.length).map λj=>det 4 T*sg i j*det 4 (kr T j i)
noncomputable def one(n:Nat):Tb:=(List.range n).map λi=>(List.range n).map λj=>if i=j then 1 else 0
structure Tab(n:Nat)(T:Tb):Prop where
 len:T.length=n
 row:∀r∈T,r.length=n
theorem z5n{α:Type}{l:List α}(h:l.length=2):∃a b,l=[a,b]:=by match l,h with | [a,b],_=>exact⟨a,b,rfl⟩
theorem z42{α:Type}{l:List α}(h:l.length=3):∃a b c,l=[a,b,c]:=by match l,h with | [a,b,c],_=>exact⟨a,b,c,rfl⟩
theorem z37{α:Type}{l:List α}(h:l.length=4):∃a b c d,l=[a,b,c,d]:=by match l,h with | [a,b,c,d],_=>exact⟨a,b,c,d,rfl⟩
theorem zey  (h:Tab 2 T):∃a b c d,T=[[a,b],[c,d]]:=by
 obtain⟨r,q,rfl⟩:=z5n h.len;obtain⟨a,b,rfl⟩:=z5n (h.row r (by simp));obtain⟨c,d,rfl⟩:=z5n (h.row q (by simp));exact⟨a,b,c,d,rfl⟩
theorem zeH  (h:Tab 3 T):∃a b c d e f g i j,T=[[a,b,c],[d,e,f],[g,i,j]]:=by
 obtain⟨r,q,p,rfl⟩:=z42 h.len;obtain⟨a,b,c,rfl⟩:=z42 (h.row r (by simp));obtain⟨d,e,f,rfl⟩:=z42 (h.row q (by simp));obtain⟨g,i,j,rfl⟩:=z42 (h.row p (by simp));exact⟨a,b,c,d,e,f,g,i,j,rfl⟩
theorem zeC  (h:Tab 4 T):∃a b c d e f g i j k l m n o p q,T=[[a,b,c,d],[e,f,g,i],[j,k,l,m],[n,o,p,q]]:=by
 obtain⟨r1,r2,r3,r4,rfl⟩:=z37 h.len;obtain⟨a,b,c,d,rfl⟩:=z37 (h.row r1 (by simp));obtain⟨e,f,g,i,rfl⟩:=z37 (h.row r2 (by simp));obtain⟨j,k,l,m,rfl⟩:=z37 (h.row r3 (by simp));obtain⟨n,o,p,q,rfl⟩:=z37 (h.row r4 (by simp));exact⟨a,b,c,d,e,f,g,i,j,k,l,m,n,o,p,q,rfl⟩
theorem zby(a b c d A B C D:Int):jX [[a,b],[c,d]] [[A,B],[C,D]]=[[a*A+(b*C+0),a*B+(b*D+0)],[c*A+(d*C+0),c*B+(d*D+0)]]:=rfl
theorem zb1(a b c d e f g i j A B C D E F G I J:Int):jX [[a,b,c],[d,e,f],[g,i,j]] [[A,B,C],[D,E,F],[G,I,J]]= [[a*A+(b*D+(c*G+0)),a*B+(b*E+(c*I+0)),a*C+(b*F+(c*J+0))],[d*A+(e*D+(f*G+0)),d*B+(e*E+(f*I+0)),d*C+(e*F+(f*J+0))],[g*A+(i*D+(j*G+0)),g*B+(i*E+(j*I+0)),g*C+(i*F+(j*J+0))]]:=rfl
theorem zb8(a b c d e f g i j k l m n o p q A B C D E F G I J K L M N Oo P Q:Int):jX [[a,b,c,d],[e,f,g,i],[j,k,l,m],[n,o,p,q]] [[A,B,C,D],[E,F,G,I],[J,K,L,M],[N,Oo,P,Q]]= [[a*A+(b*E+(c*J+(d*N+0))),a*B+(b*F+(c*K+(d*Oo+0))),a*C+(b*G+(c*L+(d*P+0))),a*D+(b*I+(c*M+(d*Q+0)))], [e*A+(f*E+(g*J+(i*N+0))),e*B+(f*F+(g*K+(i*Oo+0))),e*C+(f*G+(g*L+(i*P+0))),e*D+(f*I+(g*M+(i*Q+0)))], [j*A+(k*E+(l*J+(m*N+0))),j*B+(k*F+(l*K+(m*Oo+0))),j*C+(k*G+(l*L+(m*P+0))),j*D+(k*I+(l*M+(m*Q+0)))], [n*A+(o*E+(p*J+(q*N+0))),n*B+(o*F+(p*K+(q*Oo+0))),n*C+(o*G+(p*L+(q*P+0))),n*D+(o*I+(p*M+(q*Q+0)))]]:=rfl
noncomputable def d2(a b c d:Int):Int:=a*d-b*c
noncomputable def d3(a b c d e f g h i:Int):Int:=a*d2 e f h i-b*d2 d f g i+c*d2 d e g h
noncomputable def d4(a b c d e f g h i j k l m n o p:Int):Int:=a*d3 f g h j k l n o p-b*d3 e g h i k l m o p+c*d3 e f h i j l m n p-d*d3 e f g i j k m n o
theorem zbP(k:Nat)(a b c d:Int):det (k+2) [[a,b],[c,d]]=d2 a b c d:=by
 show (1*a*d+(-1*b*c+0))=_;unfold d2;grind
theorem z9A(k:Nat)(a b c d e f g h i:Int):det (k+3) [[a,b,c],[d,e,f],[g,h,i]]=d3 a b c d e f g h i:=by
 rw[det];simp[List.range,List.range.loop,kr,sg,zbP,d3];grind
theorem zar(k:Nat)(a b c d e f g h i j l m n o p q:Int):det (k+4) [[a,b,c,d],[e,f,g,h],[i,j,l,m],[n,o,p,q]]=d4 a b c d e f g h i j l m n o p q:=by
 rw[det];simp[List.range,List.range.loop,kr,sg,z9A,d4];grind
theorem zmM(a b c d:Int):back [[a,b],[c,d]]=[[d2 a b c d*d,-(d2 a b c d*b)],[-(d2 a b c d*c),d2 a b c d*a]]:=by
 have m1:∀x:Int,det 4 [[x]]=x:=λx=>rfl;simp[back,List.range,List.range.loop,kr,sg,zbP,m1,_cC]
theorem zny(a b c d e f g h i:Int):back [[a,b,c],[d,e,f],[g,h,i]]= [[d3 a b c d e f g h i*d2 e f h i,-(d3 a b c d e f g h i*d2 b c h i),d3 a b c d e f g h i*d2 b c e f], [-(d3 a b c d e f g h i*d2 d f g i),d3 a b c d e f g h i*d2 a c g i,-(d3 a b c d e f g h i*d2 a c d f)], [d3 a b c d e f g h i*d2 d e g h,-(d3 a b c d e f g h i*d2 a b g h),d3 a b c d e f g h i*d2 a b d e]]:=by simp[back,List.range,List.range.loop,kr,sg,zbP,z9A,_cC]
theorem zn7(a b c d e f g h i j l m n o p q:Int):back [[a,b,c,d],[e,f,g,h],[i,j,l,m],[n,o,p,q]]= let t:=d4 a b c d e f g h i j l m n o p q;[[t*d3 f g h j l m o p q,-(t*d3 b c d j l m o p q),t*d3 b c d f g h o p q,-(t*d3 b c d f g h j l m)], [-(t*d3 e g h i l m n p q),t*d3 a c d i l m n p q,-(t*d3 a c d e g h n p q),t*d3 a c d e g h i l m], [t*d3 e f h i j m n o q,-(t*d3 a b d i j m n o q),t*d3 a b d e f h n o q,-(t*d3 a b d e f h i j m)], [-(t*d3 e f g i j l n o p),t*d3 a b c i j l n o p,-(t*d3 a b c e f g n o p),t*d3 a b c e f g i j l]]:=by simp[back,List.range,List.range.loop,kr,sg,z9A,zar,_cC]
end Pm
set_option maxRecDepth 1000000
set_option maxHeartbeats 40000000
namespace Pm
theorem dm2(a b c d A B C D:Int):d2 (a*A+(b*C+0)) (a*B+(b*D+0)) (c*A+(d*C+0)) (c*B+(d*D+0))=d2 a b c d*d2 A B C D:=by simp only[d2];grind
theorem dm3(a b c d e f g i j A B C D E F G I J:Int):d3 (a*A+(b*D+(c*G+0))) (a*B+(b*E+(c*I+0))) (a*C+(b*F+(c*J+0))) (d*A+(e*D+(f*G+0))) (d*B+(e*E+(f*I+0))) (d*C+(e*F+(f*J+0))) (g*A+(i*D+(j*G+0))) (g*B+(i*E+(j*I+0))) (g*C+(i*F+(j*J+0)))=d3 a b c d e f g i j*d3 A B C D E F G I J:=by simp only[d3,d2];grind
theorem dm4(a b c d e f g i j k l m n o p q A B C D E F G I J K L M N Oo P Q:Int):d4 (a*A+(b*E+(c*J+(d*N+0)))) (a*B+(b*F+(c*K+(d*Oo+0)))) (a*C+(b*G+(c*L+(d*P+0)))) (a*D+(b*I+(c*M+(d*Q+0)))) (e*A+(f*E+(g*J+(i*N+0)))) (e*B+(f*F+(g*K+(i*Oo+0)))) (e*C+(f*G+(g*L+(i*P+0)))) (e*D+(f*I+(g*M+(i*Q+0)))) (j*A+(k*E+(l*J+(m*N+0)))) (j*B+(k*F+(l*K+(m*Oo+0)))) (j*C+(k*G+(l*L+(m*P+0)))) (j*D+(k*I+(l*M+(m*Q+0)))) (n*A+(o*E+(p*J+(q*N+0)))) (n*B+(o*F+(p*K+(q*Oo+0)))) (n*C+(o*G+(p*L+(q*P+0)))) (n*D+(o*I+(p*M+(q*Q+0))))=d4 a b c d e f g i j k l m n o p q*d4 A B C D E F G I J K L M N Oo P Q:=by simp only[d4,d3,d2];grind
theorem zad   (hn:n=2\/n=3\/n=4)(ha:Tab n A)(hb:Tab n B):det 4 (jX A B)=det 4 A*det 4 B:=by
 rcases hn with rfl | rfl | rfl
 ·obtain⟨a,b,c,d,rfl⟩:=zey ha;obtain⟨e,f,g,h,rfl⟩:=zey hb;rw[zby,zbP,zbP,zbP,dm2]
 ·obtain⟨a1,a2,a3,a4,a5,a6,a7,a8,a9,rfl⟩:=zeH ha;obtain⟨b1,b2,b3,b4,b5,b6,b7,b8,b9,rfl⟩:=zeH hb;rw[zb1,z9A 1,z9A 1,z9A 1,dm3]
 ·obtain⟨a1,a2,a3,a4,a5,a6,a7,a8,a9,gi,gj,gq,gu,gv,gw,io,rfl⟩:=zeC ha;obtain⟨b1,b2,b3,b4,b5,b6,b7,b8,b9,mD,mE,mF,mG,mH,mI,mJ,rfl⟩:=zeC hb;rw[zb8,zar 0,zar 0,zar 0,dm4]
theorem zhS    (hn:n=2\/n=3\/n=4)(ha:Tab n A)(hb:Tab n B)(hv:v.length=n):mv (jX A B) v=mv A (mv B v):=by
 rcases hn with rfl | rfl | rfl
 ·obtain⟨a,b,c,d,rfl⟩:=zey ha;obtain⟨e,f,g,h,rfl⟩:=zey hb;obtain⟨x,y,rfl⟩:=z5n hv;simp only[zby,mv,dot,_A,_ar,_cq,_as,and_true];and_intros<;>grind
 ·obtain⟨a1,a2,a3,a4,a5,a6,a7,a8,a9,rfl⟩:=zeH ha;obtain⟨b1,b2,b3,b4,b5,b6,b7,b8,b9,rfl⟩:=zeH hb;obtain⟨x,y,z,rfl⟩:=z42 hv;simp only[zb1,mv,dot,_A,_ar,_cq,_a2,List.sum_nil,_as,and_true];and_intros<;>grind
 ·obtain⟨a1,a2,a3,a4,a5,a6,a7,a8,a9,gi,gj,gq,gu,gv,gw,io,rfl⟩:=zeC ha;obtain⟨b1,b2,b3,b4,b5,b6,b7,b8,b9,mD,mE,mF,mG,mH,mI,mJ,rfl⟩:=zeC hb;obtain⟨x,y,z,u,rfl⟩:=z37 hv;simp only[zb8,mv,dot,_A,_du,_ar,List.zipWith_nil_right,_cq,_a2,List.sum_nil,_as,and_true];and_intros<;>grind
theorem zlZ:one 2=[[1,0],[0,1]]:=rfl
theorem zka:one 3=[[1,0,0],[0,1,0],[0,0,1]]:=rfl
theorem zjo:one 4=[[1,0,0,0],[0,1,0,0],[0,0,1,0],[0,0,0,1]]:=rfl
theorem zfm   (hn:n=2\/n=3\/n=4)(ha:Tab n A):jX (one n) A=A/\jX A (one n)=A:=by
 rcases hn with rfl | rfl | rfl
 ·obtain⟨a,b,c,d,rfl⟩:=zey ha;rw[zlZ,zby,zby];simp
 ·obtain⟨a1,a2,a3,a4,a5,a6,a7,a8,a9,rfl⟩:=zeH ha;rw[zka,zb1,zb1];simp
 ·obtain⟨a1,a2,a3,a4,a5,a6,a7,a8,a9,gi,gj,gq,gu,gv,gw,io,rfl⟩:=zeC ha;rw[zjo,zb8,zb8];simp
theorem zgP   (hn:n=2\/n=3\/n=4)(hv:v.length=n):mv (one n) v=v:=by
 rcases hn with rfl | rfl | rfl
 ·obtain⟨x,y,rfl⟩:=z5n hv;rw[zlZ];simp[mv,dot]
 ·obtain⟨x,y,z,rfl⟩:=z42 hv;rw[zka];simp[mv,dot]
 ·obtain⟨x,y,z,u,rfl⟩:=z37 hv;rw[zjo];simp[mv,dot]
theorem zjk  (hn:n=2\/n=3\/n=4):det 4 (one n)=1:=by
 rcases hn with rfl | rfl | rfl;·rfl
 ·rfl
 ·rfl
theorem bm2(a b c d t:Int)(ht:t=d2 a b c d)(h:t*t=1):jX [[t*d,-(t*b)],[-(t*c),t*a]] [[a,b],[c,d]]=one 2/\jX [[a,b],[c,d]] [[t*d,-(t*b)],[-(t*c),t*a]]=one 2:=by
 simp only[d2]at ht;rw[zlZ,zby,zby];and_intros<;>grind
end Pm
set_option maxRecDepth 1000000
set_option maxHeartbeats 40000000
namespace Pm
theorem zoe(a b c d e f g h i:Int):d2 e f h i*a-d2 b c h i*d+d2 b c e f*g=d3 a b c d e f g h i:=by simp only[d3,d2]<;>grind
theorem zo3(a b c d e f g h i:Int):d2 e f h i*b-d2 b c h i*e+d2 b c e f*h=0:=by simp only[d2]<;>grind
theorem zog(a b c d e f g h i:Int):d2 e f h i*c-d2 b c h i*f+d2 b c e f*i=0:=by simp only[d2]<;>grind
theorem zn2(a b c d e f g h i:Int):-d2 d f g i*a+d2 a c g i*d-d2 a c d f*g=0:=by simp only[d2]<;>grind
theorem zmP(a b c d e f g h i:Int):-d2 d f g i*b+d2 a c g i*e-d2 a c d f*h=d3 a b c d e f g h i:=by simp only[d3,d2]<;>grind
theorem zo2(a b c d e f g h i:Int):-d2 d f g i*c+d2 a c g i*f-d2 a c d f*i=0:=by simp only[d2]<;>grind
theorem znR(a b c d e f g h i:Int):d2 d e g h*a-d2 a b g h*d+d2 a b d e*g=0:=by simp only[d2]<;>grind
theorem zoQ(a b c d e f g h i:Int):d2 d e g h*b-d2 a b g h*e+d2 a b d e*h=0:=by simp only[d2]<;>grind
theorem znJ(a b c d e f g h i:Int):d2 d e g h*c-d2 a b g h*f+d2 a b d e*i=d3 a b c d e f g h i:=by simp only[d3,d2]<;>grind
theorem zmV(a b c d e f g h i:Int):a*d2 e f h i-b*d2 d f g i+c*d2 d e g h=d3 a b c d e f g h i:=by rfl<;>grind
theorem zmI(a b c d e f g h i:Int):-a*d2 b c h i+b*d2 a c g i-c*d2 a b g h=0:=by simp only[d2]<;>grind
theorem zoN(a b c d e f g h i:Int):a*d2 b c e f-b*d2 a c d f+c*d2 a b d e=0:=by simp only[d2]<;>grind
theorem zoy(a b c d e f g h i:Int):d*d2 e f h i-e*d2 d f g i+f*d2 d e g h=0:=by simp only[d2]<;>grind
theorem zn1(a b c d e f g h i:Int):-d*d2 b c h i+e*d2 a c g i-f*d2 a b g h=d3 a b c d e f g h i:=by simp only[d3,d2]<;>grind
theorem znX(a b c d e f g h i:Int):d*d2 b c e f-e*d2 a c d f+f*d2 a b d e=0:=by simp only[d2]<;>grind
theorem zoq(a b c d e f g h i:Int):g*d2 e f h i-h*d2 d f g i+i*d2 d e g h=0:=by simp only[d2]<;>grind
theorem zo0(a b c d e f g h i:Int):-g*d2 b c h i+h*d2 a c g i-i*d2 a b g h=0:=by simp only[d2]<;>grind
theorem znx(a b c d e f g h i:Int):g*d2 b c e f-h*d2 a c d f+i*d2 a b d e=d3 a b c d e f g h i:=by simp only[d3,d2]<;>grind
theorem bm3(a b c d e f g h i t:Int)(ht:t=d3 a b c d e f g h i)(h1:t*t=1):jX [[t*d2 e f h i,-(t*d2 b c h i),t*d2 b c e f],[-(t*d2 d f g i),t*d2 a c g i,-(t*d2 a c d f)],[t*d2 d e g h,-(t*d2 a b g h),t*d2 a b d e]] [[a,b,c],[d,e,f],[g,h,i]]=one 3/\jX [[a,b,c],[d,e,f],[g,h,i]] [[t*d2 e f h i,-(t*d2 b c h i),t*d2 b c e f],[-(t*d2 d f g i),t*d2 a c g i,-(t*d2 a c d f)],[t*d2 d e g h,-(t*d2 a b g h),t*d2 a b d e]]=one 3:=by
 rw[zka,zb1,zb1];simp only[_as,and_true];exact⟨⟨⟨(by have c:=zoe a b c d e f g h i;grind),(by have c:=zo3 a b c d e f g h i;grind),(by have c:=zog a b c d e f g h i;grind)⟩,⟨(by have c:=zn2 a b c d e f g h i;grind),(by have c:=zmP a b c d e f g h i;grind),(by have c:=zo2 a b c d e f g h i;grind)⟩,⟨(by have c:=znR a b c d e f g h i;grind),(by have c:=zoQ a b c d e f g h i;grind),(by have c:=znJ a b c d e f g h i;grind)⟩⟩, ⟨⟨(by have c:=zmV a b c d e f g h i;grind),(by have c:=zmI a b c d e f g h i;grind),(by have c:=zoN a b c d e f g h i;grind)⟩,⟨(by have c:=zoy a b c d e f g h i;grind),(by have c:=zn1 a b c d e f g h i;grind),(by have c:=znX a b c d e f g h i;grind)⟩,⟨(by have c:=zoq a b c d e f g h i;grind),(by have c:=zo0 a b c d e f g h i;grind),(by have c:=znx a b c d e f g h i;grind)⟩⟩⟩
theorem zna(a b c d e f g h i j l m n o p q:Int):d3 f g h j l m o p q*a-d3 b c d j l m o p q*e+d3 b c d f g h o p q*i-d3 b c d f g h j l m*n=d4 a b c d e f g h i j l m n o p q:=by simp only[d4,d3,d2]<;>grind
theorem znd(a b c d e f g h i j l m n o p q:Int):d3 f g h j l m o p q*b-d3 b c d j l m o p q*f+d3 b c d f g h o p q*j-d3 b c d f g h j l m*o=0:=by simp only[d3,d2]<;>grind
theorem zon(a b c d e f g h i j l m n o p q:Int):d3 f g h j l m o p q*c-d3 b c d j l m o p q*g+d3 b c d f g h o p q*l-d3 b c d f g h j l m*p=0:=by simp only[d3,d2]<;>grind
theorem znL(a b c d e f g h i j l m n o p q:Int):d3 f g h j l m o p q*d-d3 b c d j l m o p q*h+d3 b c d f g h o p q*m-d3 b c d f g h j l m*q=0:=by simp only[d3,d2]<;>grind
theorem zoH(a b c d e f g h i j l m n o p q:Int):-d3 e g h i l m n p q*a+d3 a c d i l m n p q*e-d3 a c d e g h n p q*i+d3 a c d e g h i l m*n=0:=by simp only[d3,d2]<;>grind
theorem znO(a b c d e f g h i j l m n o p q:Int):-d3 e g h i l m n p q*b+d3 a c d i l m n p q*f-d3 a c d e g h n p q*j+d3 a c d e g h i l m*o=d4 a b c d e f g h i j l m n o p q:=by simp only[d4,d3,d2]<;>grind
theorem zoD(a b c d e f g h i j l m n o p q:Int):-d3 e g h i l m n p q*c+d3 a c d i l m n p q*g-d3 a c d e g h n p q*l+d3 a c d e g h i l m*p=0:=by simp only[d3,d2]<;>grind
theorem zoW(a b c d e f g h i j l m n o p q:Int):-d3 e g h i l m n p q*d+d3 a c d i l m n p q*h-d3 a c d e g h n p q*m+d3 a c d e g h i l m*q=0:=by simp only[d3,d2]<;>grind
theorem znj(a b c d e f g h i j l m n o p q:Int):d3 e f h i j m n o q*a-d3 a b d i j m n o q*e+d3 a b d e f h n o q*i-d3 a b d e f h i j m*n=0:=by simp only[d3,d2]<;>grind
theorem zok(a b c d e f g h i j l m n o p q:Int):d3 e f h i j m n o q*b-d3 a b d i j m n o q*f+d3 a b d e f h n o q*j-d3 a b d e f h i j m*o=0:=by simp only[d3,d2]<;>grind
theorem zox(a b c d e f g h i j l m n o p q:Int):d3 e f h i j m n o q*c-d3 a b d i j m n o q*g+d3 a b d e f h n o q*l-d3 a b d e f h i j m*p=d4 a b c d e f g h i j l m n o p q:=by simp only[d4,d3,d2]<;>grind
theorem zmD(a b c d e f g h i j l m n o p q:Int):d3 e f h i j m n o q*d-d3 a b d i j m n o q*h+d3 a b d e f h n o q*m-d3 a b d e f h i j m*q=0:=by simp only[d3,d2]<;>grind
theorem zmT(a b c d e f g h i j l m n o p q:Int):-d3 e f g i j l n o p*a+d3 a b c i j l n o p*e-d3 a b c e f g n o p*i+d3 a b c e f g i j l*n=0:=by simp only[d3,d2]<;>grind
theorem zn6(a b c d e f g h i j l m n o p q:Int):-d3 e f g i j l n o p*b+d3 a b c i j l n o p*f-d3 a b c e f g n o p*j+d3 a b c e f g i j l*o=0:=by simp only[d3,d2]<;>grind
theorem zoE(a b c d e f g h i j l m n o p q:Int):-d3 e f g i j l n o p*c+d3 a b c i j l n o p*g-d3 a b c e f g n o p*l+d3 a b c e f g i j l*p=0:=by simp only[d3,d2]<;>grind
theorem zoT(a b c d e f g h i j l m n o p q:Int):-d3 e f g i j l n o p*d+d3 a b c i j l n o p*h-d3 a b c e f g n o p*m+d3 a b c e f g i j l*q=d4 a b c d e f g h i j l m n o p q:=by simp only[d4,d3,d2]<;>grind
theorem zoZ(a b c d e f g h i j l m n o p q:Int):a*d3 f g h j l m o p q-b*d3 e g h i l m n p q+c*d3 e f h i j m n o q-d*d3 e f g i j l n o p=d4 a b c d e f g h i j l m n o p q:=by rfl<;>grind
theorem zoC(a b c d e f g h i j l m n o p q:Int):-a*d3 b c d j l m o p q+b*d3 a c d i l m n p q-c*d3 a b d i j m n o q+d*d3 a b c i j l n o p=0:=by simp only[d3,d2]<;>grind
theorem zng(a b c d e f g h i j l m n o p q:Int):a*d3 b c d f g h o p q-b*d3 a c d e g h n p q+c*d3 a b d e f h n o q-d*d3 a b c e f g n o p=0:=by simp only[d3,d2]<;>grind
theorem zmN(a b c d e f g h i j l m n o p q:Int):-a*d3 b c d f g h j l m+b*d3 a c d e g h i l m-c*d3 a b d e f h i j m+d*d3 a b c e f g i j l=0:=by simp only[d3,d2]<;>grind
theorem znG(a b c d e f g h i j l m n o p q:Int):e*d3 f g h j l m o p q-f*d3 e g h i l m n p q+g*d3 e f h i j m n o q-h*d3 e f g i j l n o p=0:=by simp only[d3,d2]<;>grind
theorem zoR(a b c d e f g h i j l m n o p q:Int):-e*d3 b c d j l m o p q+f*d3 a c d i l m n p q-g*d3 a b d i j m n o q+h*d3 a b c i j l n o p=d4 a b c d e f g h i j l m n o p q:=by simp only[d4,d3,d2]<;>grind
theorem zos(a b c d e f g h i j l m n o p q:Int):e*d3 b c d f g h o p q-f*d3 a c d e g h n p q+g*d3 a b d e f h n o q-h*d3 a b c e f g n o p=0:=by simp only[d3,d2]<;>grind
theorem znK(a b c d e f g h i j l m n o p q:Int):-e*d3 b c d f g h j l m+f*d3 a c d e g h i l m-g*d3 a b d e f h i j m+h*d3 a b c e f g i j l=0:=by simp only[d3,d2]<;>grind
theorem zo9(a b c d e f g h i j l m n o p q:Int):i*d3 f g h j l m o p q-j*d3 e g h i l m n p q+l*d3 e f h i j m n o q-m*d3 e f g i j l n o p=0:=by simp only[d3,d2]<;>grind
theorem zmS(a b c d e f g h i j l m n o p q:Int):-i*d3 b c d j l m o p q+j*d3 a c d i l m n p q-l*d3 a b d i j m n o q+m*d3 a b c i j l n o p=0:=by simp only[d3,d2]<;>grind
theorem zmX(a b c d e f g h i j l m n o p q:Int):i*d3 b c d f g h o p q-j*d3 a c d e g h n p q+l*d3 a b d e f h n o q-m*d3 a b c e f g n o p=d4 a b c d e f g h i j l m n o p q:=by simp only[d4,d3,d2]<;>grind
theorem zoI(a b c d e f g h i j l m n o p q:Int):-i*d3 b c d f g h j l m+j*d3 a c d e g h i l m-l*d3 a b d e f h i j m+m*d3 a b c e f g i j l=0:=by simp only[d3,d2]<;>grind
theorem zoM(a b c d e f g h i j l m n o p q:Int):n*d3 f g h j l m o p q-o*d3 e g h i l m n p q+p*d3 e f h i j m n o q-q*d3 e f g i j l n o p=0:=by simp only[d3,d2]<;>grind
theorem zne(a b c d e f g h i j l m n o p q:Int):-n*d3 b c d j l m o p q+o*d3 a c d i l m n p q-p*d3 a b d i j m n o q+q*d3 a b c i j l n o p=0:=by simp only[d3,d2]<;>grind
theorem zmY(a b c d e f g h i j l m n o p q:Int):n*d3 b c d f g h o p q-o*d3 a c d e g h n p q+p*d3 a b d e f h n o q-q*d3 a b c e f g n o p=0:=by simp only[d3,d2]<;>grind
theorem znN(a b c d e f g h i j l m n o p q:Int):-n*d3 b c d f g h j l m+o*d3 a c d e g h i l m-p*d3 a b d e f h i j m+q*d3 a b c e f g i j l=d4 a b c d e f g h i j l m n o p q:=by simp only[d4,d3,d2]<;>grind
theorem bm4(a b c d e f g h i j l m n o p q t:Int)(ht:t=d4 a b c d e f g h i j l m n o p q)(h1:t*t=1):jX [[t*d3 f g h j l m o p q,-(t*d3 b c d j l m o p q),t*d3 b c d f g h o p q,-(t*d3 b c d f g h j l m)],[-(t*d3 e g h i l m n p q),t*d3 a c d i l m n p q,-(t*d3 a c d e g h n p q),t*d3 a c d e g h i l m],[t*d3 e f h i j m n o q,-(t*d3 a b d i j m n o q),t*d3 a b d e f h n o q,-(t*d3 a b d e f h i j m)],[-(t*d3 e f g i j l n o p),t*d3 a b c i j l n o p,-(t*d3 a b c e f g n o p),t*d3 a b c e f g i j l]] [[a,b,c,d],[e,f,g,h],[i,j,l,m],[n,o,p,q]]=one 4/\jX [[a,b,c,d],[e,f,g,h],[i,j,l,m],[n,o,p,q]] [[t*d3 f g h j l m o p q,-(t*d3 b c d j l m o p q),t*d3 b c d f g h o p q,-(t*d3 b c d f g h j l m)],[-(t*d3 e g h i l m n p q),t*d3 a c d i l m n p q,-(t*d3 a c d e g h n p q),t*d3 a c d e g h i l m],[t*d3 e f h i j m n o q,-(t*d3 a b d i j m n o q),t*d3 a b d e f h n o q,-(t*d3 a b d e f h i j m)],[-(t*d3 e f g i j l n o p),t*d3 a b c i j l n o p,-(t*d3 a b c e f g n o p),t*d3 a b c e f g i j l]]=one 4:=by
 rw[zjo,zb8,zb8];simp only[_as,and_true];exact⟨⟨⟨(by have c:=zna a b c d e f g h i j l m n o p q;grind),(by have c:=znd a b c d e f g h i j l m n o p q;grind),(by have c:=zon a b c d e f g h i j l m n o p q;grind),(by have c:=znL a b c d e f g h i j l m n o p q;grind)⟩,⟨(by have c:=zoH a b c d e f g h i j l m n o p q;grind),(by have c:=znO a b c d e f g h i j l m n o p q;grind),(by have c:=zoD a b c d e f g h i j l m n o p q;grind),(by have c:=zoW a b c d e f g h i j l m n o p q;grind)⟩,⟨(by have c:=znj a b c d e f g h i j l m n o p q;grind),(by have c:=zok a b c d e f g h i j l m n o p q;grind),(by have c:=zox a b c d e f g h i j l m n o p q;grind),(by have c:=zmD a b c d e f g h i j l m n o p q;grind)⟩,⟨(by have c:=zmT a b c d e f g h i j l m n o p q;grind),(by have c:=zn6 a b c d e f g h i j l m n o p q;grind),(by have c:=zoE a b c d e f g h i j l m n o p q;grind),(by have c:=zoT a b c d e f g h i j l m n o p q;grind)⟩⟩, ⟨⟨(by have c:=zoZ a b c d e f g h i j l m n o p q;grind),(by have c:=zoC a b c d e f g h i j l m n o p q;grind),(by have c:=zng a b c d e f g h i j l m n o p q;grind),(by have c:=zmN a b c d e f g h i j l m n o p q;grind)⟩,⟨(by have c:=znG a b c d e f g h i j l m n o p q;grind),(by have c:=zoR a b c d e f g h i j l m n o p q;grind),(by have c:=zos a b c d e f g h i j l m n o p q;grind),(by have c:=znK a b c d e f g h i j l m n o p q;grind)⟩,⟨(by have c:=zo9 a b c d e f g h i j l m n o p q;grind),(by have c:=zmS a b c d e f g h i j l m n o p q;grind),(by have c:=zmX a b c d e f g h i j l m n o p q;grind),(by have c:=zoI a b c d e f g h i j l m n o p q;grind)⟩,⟨(by have c:=zoM a b c d e f g h i j l m n o p q;grind),(by have c:=zne a b c d e f g h i j l m n o p q;grind),(by have c:=zmY a b c d e f g h i j l m n o p q;grind),(by have c:=znN a b c d e f g h i j l m n o p q;grind)⟩⟩⟩
abbrev Sz(n:Nat):Prop:=n=2\/n=3\/n=4
theorem z9G   (ha:Tab n A)(hb:Tab n B):Tab n (jX A B):=by
 refine⟨by simp[jX,xp,hb.len],λr hr=>?_⟩;obtain⟨j,_,rfl⟩:=_m.mp hr;simp[(show (xp B).length=n from by simp[xp,hb.len])]
theorem z2e   (ha:Tab n A):Tab n (back A):=by
 refine⟨by simp[back,ha.len],λr hr=>?_⟩;obtain⟨j,_,rfl⟩:=_m.mp hr;simp[ha.len]
theorem z9m(n:Nat):Tab n (one n):=by
 refine⟨by simp[one],λr hr=>?_⟩;obtain⟨j,_,rfl⟩:=_m.mp hr;simp
def kf(A:Tb):Prop:=det 4 A=1\/det 4 A=-1
theorem kf.sq  (h:kf A):det 4 A*det 4 A=1:=by rcases h with h | h<;>rw[h]<;>decide
theorem z7R   (hn:Sz n)(ha:Tab n A)(hf:kf A):jX (back A) A=one n/\jX A (back A)=one n:=by
 have sq:=hf.sq;rcases hn with rfl | rfl | rfl
 ·obtain⟨a,b,c,d,rfl⟩:=zey ha;rw[zbP]at sq;rw[zmM];exact bm2 a b c d _ rfl sq
 ·obtain⟨a1,a2,a3,a4,a5,a6,a7,a8,a9,rfl⟩:=zeH ha;rw[z9A 1]at sq;rw[zny];exact bm3 _ _ _ _ _ _ _ _ _ _ rfl sq
 ·obtain⟨a1,a2,a3,a4,a5,a6,a7,a8,a9,gi,gj,gq,gu,gv,gw,io,rfl⟩:=zeC ha;rw[zar 0]at sq;rw[zn7];exact bm4 _ _ _ _ _ _ _ _ _ _ _ _ _ _ _ _ _ rfl sq
theorem zdF   (hn:Sz n)(ha:Tab n A)(hb:Tab n B)(hf:kf A)(hg:kf B):kf (jX A B):=by
 unfold kf;rw[(zad hn ha hb)];rcases hf with e | e<;>rcases hg with f | f<;>rw[e,f]<;>decide
theorem zcK    (hn:Sz n)(ha:Tab n A)(hf:kf A)(hv:v.length=n):mv (back A) (mv A v)=v:=by rw[<- zhS hn (z2e ha) ha hv,(z7R hn ha hf).1,zgP hn hv]
def Bd(m:Nat)(T:Tb):Prop:=∀r∈T,∀x∈r,x.natAbs<2 ^ m
theorem zcD{a b:Int}  (ha:a.natAbs<2 ^ m)(hb:b.natAbs<2 ^ k):(a*b).natAbs<2 ^ (m+k):=by
 rw[_cd,Nat.pow_add];exact Nat.mul_lt_mul'' ha hb
theorem ziB  : ∀{xs:List Int},(∀x∈xs,x.natAbs<2 ^ m)->xs.length<=4->xs.sum.natAbs<2 ^ (m+2):=by
 intro xs h hl;cases xs with
 | nil=>exact Nat.two_pow_pos _ | cons x xs=>
  have h1:=h x (by simp);have h2:=(show ∀ys:List Int,(∀x∈ys,x.natAbs<2 ^ m)->ys.sum.natAbs<=ys.length*2 ^ m from by
  intro ys;induction ys with
  | nil=>simp | cons y ys ih=>
   intro h;have h1:=h y (by simp);have h2:=ih λx hx=>h x (by simp[hx]);simp only[_a2,_n,Nat.add_mul];omega) xs λy hy=>h y (by simp[hy]);simp only[_n]at hl;have h4:xs.length*2 ^ m<=3*2 ^ m:=_aA _ (by omega);simp only[_a2,Nat.pow_add];omega
theorem zero_lt_two(m:Nat):(0:Int).natAbs<2 ^ m:=Nat.two_pow_pos _
theorem z5x  {r:List Int}(hr:∀x∈r,x.natAbs<2 ^ m)(j:Nat):(r.getD j 0).natAbs<2 ^ m:=by
 by_cases h:j<r.length
 ·rw[List.getD,_c h];exact hr _ (_aE _)
 ·rw[List.getD,_W (by omega)];exact zero_lt_two m
theorem zhW   (h:Bd m T):Bd m (xp T):=λr hr x hx=>by
 obtain⟨j,_,rfl⟩:=_m.mp hr;obtain⟨q,hq,rfl⟩:=_m.mp hx;exact z5x (h q hq) j
theorem z1n   (h:Bd m T)(i j:Nat):Bd m (kr T i j):=λr hr x hx=>by
 obtain⟨q,hq,rfl⟩:=_m.mp hr;exact h q ((_D.mp hq).elim _N _aS) x ((_D.mp hx).elim _N _aS)
theorem z2o   (hi:i<T.length):(kr T i j).length=T.length-1:=by simp[kr];omega
theorem zcF(i j:Nat):(sg i j).natAbs=1:=by unfold sg;split<;>rfl
theorem za4  : ∀(k:Nat) (T:Tb),Bd m T->1<=T.length->T.length<=4->(det k T).natAbs<2 ^ (T.length*m+2*T.length)
 | 0,T,_,_,_=>zero_lt_two _ | k+1,T,h,h1,h4=>by
  rw[det];split
  ·rename_i e;rw[e];exact _q (z5x (by
    rw[List.getD,_c (by omega)];exact h _ (_aE _)) 0) (_Z (by decide) (by omega))
  ·rw[(show T.length*m+2*T.length=(T.length*m+2*T.length-2)+2 from by omega)];refine ziB (λx hx=>?_) (by simp;exact h4);obtain⟨j,hj,rfl⟩:=_m.mp hx;have hw:=z2o (T:=T) (i:=0) (j:=j) (by omega);have b2:=za4 k (kr T 0 j) (z1n h 0 j) (by omega) (by omega);rw[hw]at b2;rw[_cd,_cd,zcF,Nat.one_mul];have b3:=Nat.mul_lt_mul'' (show ((T.getD 0 []).getD j 0).natAbs<2 ^ m from by
    refine z5x ?_ j;rw[List.getD,_c (by omega)];exact h _ (_aE _)) b2;rw[<- Nat.pow_add]at b3;refine _q b3 (_Z (by decide) ?_);have:(T.length-1)*m=T.length*m-m:=by rw[Nat.sub_mul];omega
   have h5  := Nat.le_mul_of_pos_left m h1;omega
theorem zi6   (h:Bd m A)(h1:2<=A.length)(h4:A.length<=4)(hf:kf A):Bd (3*m+6) (back A):=λr hr x hx=>by
 obtain⟨i,hi,rfl⟩:=_m.mp hr;obtain⟨j,hj,rfl⟩:=_m.mp hx;have hw:=z2o   (j:=i) (by simpa using hj);rw[_cd,_cd,zcF,(show (det 4 A).natAbs=1 from by rcases hf with e | e<;>rw[e]<;>rfl),Nat.one_mul];refine _q (za4 4 (kr A j i) (z1n h j i) (by omega) (by omega)) (_Z (by decide) ?_);rw[hw];have:(A.length-1)*m<=3*m:=_aA _ (by omega);omega
theorem Tab.le   (h:Tab n T)(hn:Sz n):∀r∈T,r.length<=4:=λr hr=>by rw[h.row r hr];omega
open L2 (maxL minL maxL_ge maxL_mem minL_le minL_mem)
inductive Rl where | nx | le | al | tu deriving DecidableEq
structure Lot(n:Nat)(v:List Int):Prop where
 sz:Sz n
 len:v.length=n
 nn:∀x∈v,0<=x
 pos:∃x∈v,0<x
noncomputable def nz(v:List Int):List Int:=v.filter λx=>decide (x≠0)
noncomputable def ended(v:List Int):Bool:=decide ((nz v).length=1)
noncomputable def gp(v:List Int):Nat:=v.idxOf (maxL v)
noncomputable def others(v:List Int):List Int:=v.take (gp v)++[0]++v.drop (gp v+1)
noncomputable def lp(v:List Int):Nat:=v.idxOf (minL (nz v))
noncomputable def uv(v:List Int)(p:Nat):List Nat:=(List.range v.length).filter λi=>decide (i≠p)
def deal:Rl->List Int->Nat×List Nat
 | .nx,v=>((others v).idxOf (maxL (others v)),[gp v]) | .le,v=>(lp (others v),[gp v]) | .al,v=>(lp v,uv v (lp v)) | .tu,v=>(0,if v.getD 0 0=0 then [] else uv v 0)
noncomputable def yV(v:List Int)(d:Nat×List Nat):List Int:=(List.range v.length).map λi=>if i∈d.2 then v.getD i 0 / v.getD d.1 0 else 0
def rot{α:Type}(xs:List α):List α:=xs.drop 1++xs.take 1
noncomputable def mvd  (r:Rl)(xs:List α):List α:=if r=.tu then rot xs else xs
noncomputable def left(v qs:List Int)(b:Nat):List Int:=List.zipWith (λx q=>x-q*v.getD b 0) v qs
noncomputable def stp(r:Rl)(v:List Int):List Int:=mvd r (left v (yV v (deal r v)) (deal r v).1)
noncomputable def wG(b:Nat)(line:List Int)(q:Int):List Int:=line.take b++[line.getD b 0+q]++line.drop (b+1)
noncomputable def z8l(r:Rl)(b:Nat)(qs:List Int):Tb:=List.zipWith (λline q=>mvd r (wG b line q)) (one qs.length) qs
noncomputable def z2n(r:Rl)(v:List Int):Tb:=z8l r (deal r v).1 (yV v (deal r v))
@[simp] theorem z5N:dot [] []=0:=id rfl
@[simp] theorem dot_cons (a b:Int) (r v:List Int):dot (a::r) (b::v)=a*b+dot r v:=rfl
theorem vE:∀{r c r' c':List Int},r.length=c.length->dot (r++r') (c++c')=dot r c+dot r' c'
 | [],[],_,_,_=>by simp | a::r,b::c,r',c',h=>by
  simp only[_aQ,dot_cons,(vE   (r':=r') (c':=c') (by simpa using h))];lia | [],_::_,_,_,h=>by simp at h | _::_,[],_,_,h=>by simp at h
noncomputable def zdY(z:Int)(c q:List Int):List Int:=List.zipWith (λx q=>x-q*z) c q
theorem z8A(z:Int):∀{r c q:List Int},r.length=c.length->c.length=q.length->dot r (zdY z c q)=dot r c-dot r q*z
 | [],[],[],_,_=>by simp[zdY] | a::r,b::c,p::q,h1,h2=>by
  have:=z8A z    (by simpa using h1) (by simpa using h2);simp only[zdY]at this;simp only[zdY,_ar,dot_cons,this];grind | [],_::_,_,h,_=>by simp at h | _::_,[],_,h,_=>by simp at h | _,[],_::_,_,h=>by simp at h | _,_::_,[],_,h=>by simp at h
theorem zaa:∀{r c:List Int},(∀x∈r,0<=x)->(∀x∈c,0<=x)->0<=dot r c
 | [],[],_,_=>by simp | [],_::_,_,_=>by simp[dot] | _::_,[],_,_=>by simp[dot] | a::r,b::c,h1,h2=>by
  have i:=zaa (r:=r) (c:=c) (λx hx=>h1 x (by simp[hx])) λx hx=>h2 x (by simp[hx]);have j:=_cT (h1 a (by simp)) (h2 b (by simp));simp only[dot_cons];lia
theorem ziW  (h:r.length=c.length):dot (rot r) (rot c)=dot r c:=by match r,c,h with
 | [],[],_=>rfl | a::r,b::c,h=>
  show dot (r++[a]) (c++[b])=_;rw[vE (by simpa using h)];simp only[dot_cons,z5N];lia | [],_::_,h=>simp at h | _::_,[],h=>simp at h
theorem zjS  (l:Rl)(h:r.length=c.length):dot (mvd l r) (mvd l c)=dot r c:=by
 unfold mvd;split;·exact ziW h
 ·rfl
theorem zdC   {xs:List α}:x∈rot xs ↔ x∈xs:=by cases xs with
 | nil=>simp[rot] | cons a xs=>simp[rot,or_comm]
theorem z1d   {xs:List α}  : x∈mvd l xs ↔ x∈xs:=by
 unfold mvd;split;·exact zdC
 ·rfl
theorem zi3  (xs:List α):(rot xs).length=xs.length:=by cases xs<;>simp[rot]
theorem z6s   (xs:List α):(mvd l xs).length=xs.length:=by
 unfold mvd;split;·exact zi3 xs
 ·rfl
structure Qs(v:List Int)(b:Nat)(qs:List Int):Prop where
 lt:b<v.length
 len:qs.length=v.length
 zero:qs[b]? = some 0
 nn:∀q∈qs,0<=q
 fit:∀i,0<=v.getD i 0-qs.getD i 0*v.getD b 0
 pos:(∀q∈qs,q=0)\/0<v.getD b 0
theorem z2m{α:Type}{v:List α}  (h:b<v.length):∃v1 z v2,v=v1++z::v2/\v1.length=b:= ⟨v.take b,v[b],v.drop (b+1),by rw[<- _aH h,_au],by simp;lia⟩
noncomputable def z6w(b:Nat)(qs r:List Int):List Int:=r.set b (r.getD b 0+dot r qs)
theorem getD_at{α:Type}{v1 v2:List α}{z d:α}  (h:v1.length=b):(v1++z::v2).getD b d=z:=by
 subst h;simp[List.getD]
theorem Qs.split{v qs r:List Int}  (h:Qs v b qs)(hr:r.length=v.length):∃v1 z v2 q1 q2 r1 y r2,v=v1++z::v2/\qs=q1++0::q2/\r=r1++y::r2/\v1.length=b/\q1.length=b/\r1.length=b/\q2.length=v2.length/\r2.length=v2.length:=by
 obtain⟨v1,z,v2,rfl,e1⟩:=z2m h.lt;obtain⟨q1,p,q2,rfl,e2⟩:=z2m   (by rw[h.len];exact h.lt);obtain⟨r1,y,r2,rfl,e3⟩:=z2m   (by rw[hr];exact h.lt);have hz:=h.zero;rw[<- e2]at hz;simp at hz;subst hz;have l1:=h.len;simp at l1 hr;exact⟨v1,z,v2,q1,q2,r1,y,r2,rfl,rfl,rfl,e1,e2,e3,by lia,by lia⟩
theorem z4X    (h1:v1.length=b) (h2:q1.length=b):left (v1++z::v2) (q1++0::q2) b=zdY z v1 q1++z::zdY z v2 q2:=by
 unfold left zdY;rw[getD_at h1,List.zipWith_append (by lia)];simp
theorem zhZ   (h:Qs v b qs)(hr:r.length=v.length):dot (z6w b qs r) (left v qs b)=dot r v:=by
 obtain⟨v1,z,v2,q1,q2,r1,y,r2,rfl,rfl,rfl,e1,e2,e3,e4,e5⟩:=h.split hr;rw[z4X e1 e2];unfold z6w;rw[<- e3,List.set_append_right _ _ (by lia)];simp only[Nat.sub_self,_aq];rw[vE (by simp[zdY];lia),vE (by lia),vE (by lia)];simp only[dot_cons];rw[z8A z (by lia) (by lia),z8A z (by lia) (by lia)];grind
theorem vK   (h:qs.length=v.length):(left v qs b).length=v.length:=by simp[left,h]
theorem zcV   (h:Qs v b qs):∀x∈left v qs b,0<=x:=λx hx=>by
 obtain⟨i,hi,e⟩:=_v.mp hx;have:=h.fit i;have hl:=vK (b:=b) h.len;have h1:i<v.length:=by lia
 simp only[List.getD,_c h1,_c (by rw[h.len];exact h1),_be]at this;rw[<- e];simpa[left,List.getD] using this
structure zp7(B:Int)(r c:List Int)(x:Int):Prop where
 len:r.length=c.length
 nn:∀y∈r,0<=y/\y<=B
 dot:dot r c=x
theorem zg5    (l:Rl) (h:Qs v b qs) (hx:x<=B) (I:zp7 B r v x):zp7 B (mvd l (z6w b qs r)) (mvd l (left v qs b)) x:=by
 have hd:=zhZ h I.len;have rl:(z6w b qs r).length=r.length:=by simp[z6w]
 have ll:=vK (b:=b) h.len;refine⟨by rw[z6s,z6s,rl,ll,I.len],λy hy=>?_,by rw[zjS l (by rw[rl,ll,I.len]),hd,I.dot]⟩;rw[z1d]at hy;have ln:=zcV h;obtain⟨v1,z,v2,q1,q2,r1,u,r2,rfl,rfl,rfl,e1,e2,e3,e4,e5⟩:=h.split I.len;rw[z4X e1 e2]at hd ln;unfold z6w at hy hd;rw[(show (r1++u::r2).set b ((r1++u::r2).getD b 0+Pm.dot (r1++u::r2) (q1++0::q2))=r1++(u+Pm.dot (r1++u::r2) (q1++0::q2))::r2 from by
  rw[getD_at e3,<- e3,List.set_append_right _ _ (by lia)];simp only[Nat.sub_self,_aq])]at hy hd;have dq  := zaa (λx hx=>(I.nn x hx).1) h.nn;have hu:=I.nn u (by simp);rcases _D.mp hy with hy | hy;·exact I.nn y (by simp[hy])
 ·rcases _r.mp hy with rfl | hy
  ·rcases h.pos with h0 | h0
   ·have dz:Pm.dot (r1++u::r2) (q1++0::q2)=0:=(show ∀(r q:List Int),(∀x∈q,x=0)->Pm.dot r q=0 from by
      intro r;induction r with
      | nil=>intro q _;cases q<;>simp[Pm.dot] | cons a r ih=>
       intro q hq;cases q with
       | nil=>simp[Pm.dot] | cons p q=>rw[dot_cons,ih q (λx hx=>hq x (by simp[hx])),hq p (by simp)];simp) _ _ h0;lia
   ·rw[getD_at e1]at h0;rw[vE (by simp[zdY];lia),dot_cons]at hd;have n1:0<=Pm.dot r1 (zdY z v1 q1):=zaa (λx hx=>(I.nn x (by simp[hx])).1) λx hx=>ln x (by simp[hx]);have n2:0<=Pm.dot r2 (zdY z v2 q2):=zaa (λx hx=>(I.nn x (by simp[hx])).1) λx hx=>ln x (by simp[hx]);have dt:=I.dot;generalize Pm.dot (r1++u::r2) (q1++0::q2)=dd at *;have m1:(u+dd)*1<=(u+dd)*z:=_a4 (by lia) (by lia);lia
  ·exact I.nn y (by simp[hy])
theorem zc1  (xs:List α):mvd .tu xs=rot xs:=by rfl
theorem zab   (h:r≠.tu)(xs:List α):mvd r xs=xs:=by simp[mvd,h]
theorem zf5   (P:Tb->Prop)(r:Rl)(hn:Sz n)(hq:qs.length=n)(hb:b<n)(hz:qs[b]? = some 0) (oG:∀q,P [[1,0],[q,1]])(oH:∀q,P [[1,q],[0,1]]) (oI:∀p q,P [[1,0,0],[p,1,0],[q,0,1]])(oJ:∀p q,P [[1,p,0],[0,1,0],[0,q,1]])(oK:∀p q,P [[1,0,p],[0,1,q],[0,0,1]]) (oM:∀p q s,P [[1,0,0,0],[p,1,0,0],[q,0,1,0],[s,0,0,1]])(oN:∀p q s,P [[1,p,0,0],[0,1,0,0],[0,q,1,0],[0,s,0,1]]) (oO:∀p q s,P [[1,0,p,0],[0,1,q,0],[0,0,1,0],[0,0,s,1]])(oP:∀p q s,P [[1,0,0,p],[0,1,0,q],[0,0,1,s],[0,0,0,1]]) (t:∀T,Tab n T->P T->P (T.map rot)):P (z8l r b qs):=by
 have main:P (List.zipWith (λline q=>wG b line q) (one qs.length) qs):=by
  rcases hn with rfl | rfl | rfl
  ·obtain⟨x,y,rfl⟩:=z5n hq;match b,hb with
   | 0,_=>simp at hz;subst hz;simpa[one,wG,List.range,List.range.loop] using oG y | 1,_=>simp at hz;subst hz;simpa[one,wG,List.range,List.range.loop] using oH x
  ·obtain⟨x,y,z,rfl⟩:=z42 hq;match b,hb with
   | 0,_=>simp at hz;subst hz;simpa[one,wG,List.range,List.range.loop] using oI y z | 1,_=>simp at hz;subst hz;simpa[one,wG,List.range,List.range.loop] using oJ x z | 2,_=>simp at hz;subst hz;simpa[one,wG,List.range,List.range.loop] using oK x y
  ·obtain⟨x,y,z,w,rfl⟩:=z37 hq;match b,hb with
   | 0,_=>simp at hz;subst hz;simpa[one,wG,List.range,List.range.loop] using oM y z w | 1,_=>simp at hz;subst hz;simpa[one,wG,List.range,List.range.loop] using oN x z w | 2,_=>simp at hz;subst hz;simpa[one,wG,List.range,List.range.loop] using oO x y w | 3,_=>simp at hz;subst hz;simpa[one,wG,List.range,List.range.loop] using oP x y z
 by_cases hr:r=.tu
 ·subst hr;have:z8l .tu b qs=(List.zipWith (λline q=>wG b line q) (one qs.length) qs).map rot:=by
   unfold z8l;rw[_bu];rfl
  rw[this];exact t _ (by
  refine⟨by simp[one,hq],λl hl=>?_⟩;obtain⟨i,hi,rfl⟩:=_v.mp hl;simp at hi;simp[wG,one];lia) main
 ·rw[(show z8l r b qs=List.zipWith (λline q=>wG b line q) (one qs.length) qs from by
   unfold z8l;simp only[zab hr])];exact main
theorem zgx   (r:Rl)(hn:Sz n)(hq:qs.length=n)(hb:b<n):Tab n (z8l r b qs):=by
 refine⟨by simp[z8l,one,hq],λl hl=>?_⟩;obtain⟨i,hi,rfl⟩:=_v.mp hl;simp[z8l,z6s,wG,one];lia
theorem zgv   (hn:Sz n)(h:Tab n T)(hf:kf T):kf (T.map rot):=by
 unfold kf at hf ⊢;rcases hn with rfl | rfl | rfl
 ·obtain⟨a,b,c,d,rfl⟩:=zey h;simp only[_A,_du,rot,List.drop_one,List.tail_cons,_bT,List.take_zero,_aQ,_aX];rw[zbP]at hf ⊢;simp only[d2]at hf ⊢;grind
 ·obtain⟨a,b,c,d,e,f,g,i,j,rfl⟩:=zeH h;simp only[_A,_du,rot,List.drop_one,List.tail_cons,_bT,List.take_zero,_aQ,_aX];rw[z9A 1]at hf ⊢;simp only[d3,d2]at hf ⊢;grind
 ·obtain⟨a,b,c,d,e,f,g,i,j,k,l,m,n,o,p,q,rfl⟩:=zeC h;simp only[_A,_du,rot,List.drop_one,List.tail_cons,_bT,List.take_zero,_aQ,_aX];rw[zar 0]at hf ⊢;have e1:d4 b c d a f g i e k l m j o p q n=- d4 a b c d e f g i j k l m n o p q:=by simp only[d4,d3,d2];grind
  lia
theorem zdt   (r:Rl)(hn:Sz n)(hq:qs.length=n)(hb:b<n)(hz:qs[b]? = some 0):kf (z8l r b qs):=by
 refine zf5 kf r hn hq hb hz ?_ ?_ ?_ ?_ ?_ ?_ ?_ ?_ ?_ λT hT hf=>zgv hn hT hf;·intro q;unfold kf;rw[zbP];simp[d2]
 ·intro q;unfold kf;rw[zbP];simp[d2]
 ·intro p q;unfold kf;rw[z9A 1];simp[d3,d2]
 ·intro p q;unfold kf;rw[z9A 1];simp[d3,d2]
 ·intro p q;unfold kf;rw[z9A 1];simp[d3,d2]
 ·intro p q s;unfold kf;rw[zar 0];simp[d4,d3,d2]
 ·intro p q s;unfold kf;rw[zar 0];simp[d4,d3,d2]
 ·intro p q s;unfold kf;rw[zar 0];simp[d4,d3,d2]
 ·intro p q s;unfold kf;rw[zar 0];simp[d4,d3,d2]
noncomputable def z2r(T:Tb)(r:List Int):List Int:=(xp T).map (dot r)
theorem z0d   (hn:Sz n)(ha:Tab n A)(ht:Tab n T):jX A T=A.map (z2r T):=by
 rcases hn with rfl | rfl | rfl
 ·obtain⟨a,b,c,d,rfl⟩:=zey ha;obtain⟨e,f,g,h,rfl⟩:=zey ht;rfl
 ·obtain⟨a1,a2,a3,a4,a5,a6,a7,a8,a9,rfl⟩:=zeH ha;obtain⟨b1,b2,b3,b4,b5,b6,b7,b8,b9,rfl⟩:=zeH ht;rfl
 ·obtain⟨a1,a2,a3,a4,a5,a6,a7,a8,a9,gi,gj,gq,gu,gv,gw,io,rfl⟩:=zeC ha;obtain⟨b1,b2,b3,b4,b5,b6,b7,b8,b9,mD,mE,mF,mG,mH,mI,mJ,rfl⟩:=zeC ht;rfl
theorem zfV    (hn:Sz n)(h:Tab n T):z2r (T.map rot) r=rot (z2r T r):=by
 rcases hn with rfl | rfl | rfl
 ·obtain⟨a,b,c,d,rfl⟩:=zey h;rfl
 ·obtain⟨a,b,c,d,e,f,g,i,j,rfl⟩:=zeH h;rfl
 ·obtain⟨a,b,c,d,e,f,g,i,j,k,l,m,n,o,p,q,rfl⟩:=zeC h;rfl
theorem zer   (r:Rl)(hn:Sz n)(hq:qs.length=n)(hb:b<n)(hz:qs[b]? = some 0)(hr:row.length=n):z2r (z8l r b qs) row=mvd r (z6w b qs row):=by
 have main:z2r (List.zipWith (λline q=>wG b line q) (one qs.length) qs) row=z6w b qs row:=by
  rcases hn with rfl | rfl | rfl
  ·obtain⟨x,y,rfl⟩:=z5n hq;obtain⟨x',y',rfl⟩:=z5n hr;match b,hb with
   | 0,_=>simp at hz;subst hz;simp[one,wG,List.range,List.range.loop,z2r,xp,z6w,dot] | 1,_=>simp at hz;subst hz;simp[one,wG,List.range,List.range.loop,z2r,xp,z6w,dot];try lia
  ·obtain⟨x,y,z,rfl⟩:=z42 hq;obtain⟨x',y',z',rfl⟩:=z42 hr;match b,hb with
   | 0,_=>simp at hz;subst hz;simp[one,wG,List.range,List.range.loop,z2r,xp,z6w,dot]<;>try lia | 1,_=>simp at hz;subst hz;simp[one,wG,List.range,List.range.loop,z2r,xp,z6w,dot]<;>try lia | 2,_=>simp at hz;subst hz;simp[one,wG,List.range,List.range.loop,z2r,xp,z6w,dot]<;>try lia
  ·obtain⟨x,y,z,w,rfl⟩:=z37 hq;obtain⟨x',y',z',w',rfl⟩:=z37 hr;match b,hb with
   | 0,_=>simp at hz;subst hz;simp[one,wG,List.range,List.range.loop,z2r,xp,z6w,dot]<;>try lia | 1,_=>simp at hz;subst hz;simp[one,wG,List.range,List.range.loop,z2r,xp,z6w,dot]<;>try lia | 2,_=>simp at hz;subst hz;simp[one,wG,List.range,List.range.loop,z2r,xp,z6w,dot]<;>try lia | 3,_=>simp at hz;subst hz;simp[one,wG,List.range,List.range.loop,z2r,xp,z6w,dot]<;>try lia
 by_cases h:r=.tu
 ·subst h;have e:z8l .tu b qs=(List.zipWith (λline q=>wG b line q) (one qs.length) qs).map rot:=by
   unfold z8l;rw[_bu];rfl
  rw[e,zfV hn (by
  refine⟨by simp[one,hq],λl hl=>?_⟩;obtain⟨i,hi,rfl⟩:=_v.mp hl;simp at hi;simp[wG,one];lia),main,zc1]
 ·rw[(show z8l r b qs=List.zipWith (λline q=>wG b line q) (one qs.length) qs from by
   unfold z8l;simp only[zab h]),main,zab h]
theorem qW   : x∈nz v ↔ x∈v/\x≠0:=by simp[nz]
theorem getD_mem{v:List Int}  (h:i<v.length):v.getD i 0∈v:=by simp[_c h]
theorem uA{v:List Int}(h:∀x∈v,0<=x)(i:Nat):0<=v.getD i 0:=by
 by_cases hi:i<v.length;·exact h _ (getD_mem hi)
 ·simp[_W (_cU.mp hi)]
theorem zd6{v:List Int}  (h:x∈v):v.idxOf x<v.length/\v.getD (v.idxOf x) 0=x:=by
 have hl:=List.idxOf_lt_length_of_mem h;exact⟨hl,by simp[_c hl,List.getElem_idxOf hl]⟩
theorem Lot.ne   (h:Lot n v):v≠[]:=λz=>by
 obtain⟨x,hx,_⟩:=h.pos;rw[z]at hx;simp at hx
theorem Lot.nzne   (h:Lot n v):nz v≠[]:=λz=>by
 obtain⟨x,hx,h0⟩:=h.pos;have  := qW.mpr ⟨hx,by lia⟩;rw[z]at this;simp at this
theorem zd0  (h:nz v≠[]):lp v<v.length/\v.getD (lp v) 0=minL (nz v)/\minL (nz v)≠0:=by
 have m:=qW.mp (minL_mem h);have:=zd6 m.1;exact⟨this.1,this.2,m.2⟩
theorem zb6  (h:v≠[]):gp v<v.length/\v.getD (gp v) 0=maxL v:=zd6 (maxL_mem h)
theorem others_eq  (h:v≠[]):others v=v.set (gp v) 0:=by
 unfold others;rw[List.set_eq_take_append_cons_drop,_l ((zb6 h).1)];simp
theorem z06  (h:v≠[])(i:Nat):(others v).getD i 0=if i=gp v then 0 else v.getD i 0:=by
 rw[others_eq h];by_cases e:i=gp v
 ·subst e;simp[((zb6 h).1)]
 ·simp[e,_M (_a6 e)]
theorem um  (h:v≠[]):(others v).length=v.length:=by rw[others_eq h];simp
theorem zdE:∀{v:List Int}{p:Nat},(nz v).length≠1->v.getD p 0≠0->∃j,j≠p/\j<v.length/\v.getD j 0≠0:=by
 intro v p he hp;apply _Q;intro hn;apply he;obtain⟨v1,z,v2,rfl,e1⟩:=z2m (show p<v.length from by
  apply _Q;exact λz=>hp (by simp[_W (_cU.mp z)]));rw[getD_at e1]at hp;have g2:v2.filter (λx=>decide (x≠0))=[]:=_ce.mpr λx hx=>by simp[(λx hx=>by
  obtain⟨j,hj,rfl⟩:=_v.mp hx;apply _Q;refine λz0=>hn ⟨v1.length+1+j,by lia,by simp;lia,?_⟩;rw[List.getD,(show (v1++z::v2)[v1.length+1+j]? = some v2[j] from by rw[_U (by lia),show v1.length+1+j-v1.length=j+1 by lia,_k,_c hj])];simpa using z0:∀x∈v2,x=0) x hx]
 simp only[nz,List.filter_append,_bQ,(_ce.mpr λx hx=>by simp[(λx hx=>by
  obtain⟨j,hj,rfl⟩:=_v.mp hx;apply _Q;intro z0;exact hn ⟨j,by lia,by simp;lia,by simpa[_y hj,_c hj] using z0⟩:∀x∈v1,x=0) x hx]:v1.filter (λx=>decide (x≠0))=[]),g2];simp[hp]
theorem z5h  (he:ended v=false):(nz v).length≠1:=by simpa[ended] using he
structure Dl(v:List Int)(b:Nat)(dv:List Nat):Prop where
 lt:b<v.length
 nb:b∉dv
 pos:dv=[]\/0<v.getD b 0
theorem qp   : i∈uv v p ↔ i<v.length/\i≠p:=by simp[uv]
theorem zc7   (h:Lot n v)  (hb:b<v.length)(h0:(others v).getD b 0≠0):Dl v b [gp v]/\0<v.getD b 0/\v.getD b 0<=v.getD (gp v) 0:=by
 rw[z06 h.ne]at h0;have p0:0<v.getD b 0:=by have:=uA h.nn b;lia
 refine⟨⟨hb,by simpa using (λe=>by rw[_l e]at h0;exact h0 rfl),.inr p0⟩,p0,?_⟩;rw[(zb6 h.ne).2];exact maxL_ge _ (getD_mem hb)
theorem z2Q   (h:Lot n v)(he:ended v=false):nz (others v)≠[]:=by
 have mx:0<maxL v:=by
  obtain⟨x,hx,h0⟩:=h.pos;have:=maxL_ge  x hx;lia
 obtain⟨j,h1,h2,h3⟩:=zdE  (z5h he) (by rw[(zb6 h.ne).2];lia);intro z;have  := qW.mpr ⟨by
  have:=getD_mem   (by rw[um h.ne];exact h2);rw[z06 h.ne,_p h1]at this;exact this,h3⟩;rw[z]at this;simp at this
theorem ux   (r:Rl)(h:Lot n v)(he:ended v=false):Dl v (deal r v).1 (deal r v).2:=by cases r with
 | nx=>
  have a:=zd6 (maxL_mem (λz=>by
   have:=um h.ne;rw[z]at this;exact h.ne (_bt.mp this.symm):others v≠[]));refine (zc7 h (by rw[<- um h.ne];exact a.1) ?_).1;show (others v).getD ((others v).idxOf (maxL (others v))) 0≠0;have m:=qW.mp (minL_mem (z2Q h he));have m1:=maxL_ge _ m.1;have m2:0<=minL (nz (others v)):=by
   obtain⟨i,hi,e⟩:=_v.mp m.1;have:=z06 h.ne i;rw[(show (others v).getD i 0=minL (nz (others v)) from by simp[_c hi,e])]at this;rw[this];split;·lia
   ·exact uA h.nn i
  lia | le=>
  have a:=zd0 (z2Q h he);refine (zc7 h (by rw[<- um h.ne];exact a.1) ?_).1;show (others v).getD (lp (others v)) 0≠0;rw[a.2.1];exact a.2.2 | al=>
  have a:=zd0 h.nzne;refine⟨a.1,by simp[deal,qp],.inr ?_⟩;show 0<v.getD (lp v) 0;have:=uA h.nn (lp v);lia | tu=>
  refine⟨(show 0<v.length from by have:=h.sz;rw[h.len];lia),?_,?_⟩
  ·show 0∉(if v.getD 0 0=0 then [] else uv v 0);split<;>simp[qp]
  ·show (if v.getD 0 0=0 then [] else uv v 0)=[]\/0<v.getD 0 0;split;·exact .inl rfl
   ·have:=uA h.nn 0;exact .inr (by lia)
theorem wH(v:List Int)(d:Nat×List Nat):(yV v d).length=v.length:=by simp[yV]
theorem zbn(v:List Int)(d:Nat×List Nat)(i:Nat):(yV v d).getD i 0=if i<v.length/\i∈d.2 then v.getD i 0 / v.getD d.1 0 else 0:=by
 unfold yV;by_cases hi:i<v.length;·simp[hi]
 ·simp[hi]
theorem uR   (i:Nat):v.getD i 0-(yV v d).getD i 0*v.getD d.1 0=if i<v.length/\i∈d.2 then v.getD i 0 % v.getD d.1 0 else v.getD i 0:=by
 rw[zbn];split
 ·have:=_cr (v.getD i 0) (v.getD d.1 0);have e:=_cf (v.getD i 0 / v.getD d.1 0) (v.getD d.1 0);lia
 ·lia
theorem zbp   (hv:∀x∈v,0<=x)(h:Dl v d.1 d.2):Qs v d.1 (yV v d):=by
 refine⟨h.lt,wH _ _,?_,λq hq=>?_,λi=>?_,?_⟩;·simp[yV,h.lt,h.nb]
 ·obtain⟨i,hi,rfl⟩:=_v.mp hq;simp only[yV,_cx,List.getElem_range];split;·exact Int.ediv_nonneg (uA hv _) (uA hv _)
  ·lia
 ·rw[uR];split
  ·rename_i hi;rcases h.pos with z | z;·rw[z]at hi;simp at hi
   ·exact _bB _ (by lia)
  ·exact uA hv i
 ·rcases h.pos with z | z
  ·refine .inl λq hq=>?_;obtain⟨i,hi,rfl⟩:=_v.mp hq;simp[yV,z]
  ·exact .inr z
noncomputable def bl(n:Nat):Nat:=if n=0 then 0 else bl (n / 2)+1
termination_by n
decreasing_by lia
theorem z8t:bl 0=0:=by rw[bl];rfl
theorem z9I  (h:n≠0):bl n=bl (n / 2)+1:=by rw[bl,_p h]
theorem zcZ:∀(b a:Nat),a<=b->bl a<=bl b:=by
 intro b;induction b using Nat.strongRecOn with | ind b ih=>
  intro a h;by_cases h0:a=0;·subst h0;rw[z8t];lia
  ·rw[z9I h0,z9I (show b≠0 by lia)];have:=ih (b / 2) (by lia) (a / 2) (by lia);lia
theorem ziU  (h:2*a<b):bl a<bl b:=by
 rw[z9I (show b≠0 by lia)];have:=zcZ (b / 2) a (by lia);lia
theorem zkg:∀(k n:Nat),n<2 ^ k->bl n<=k
 | 0,n,h=>by simp at h;subst h;rw[z8t];lia | k+1,n,h=>by
  by_cases h0:n=0;·subst h0;rw[z8t];lia
  ·rw[z9I h0];have:=zkg k (n / 2) (by lia);lia
noncomputable def wt(v:List Int):Nat:=(v.map λx=>bl x.toNat).sum
theorem zkp:∀{u v:List Int},u.length=v.length->(∀i,bl (u.getD i 0).toNat<=bl (v.getD i 0).toNat)->wt u<=wt v/\((∃i,bl (u.getD i 0).toNat<bl (v.getD i 0).toNat)->wt u<wt v)
 | [],[],_,_=>⟨by decide,λ⟨i,h⟩=>by simp at h⟩ | a::u,b::v,hl,h=>by
  have ih:=zkp   (by simpa using hl) λi=>by exact h (i+1)
  have h0:bl a.toNat<=bl b.toNat:=by exact h 0
  simp only[wt,_A,_a2]at ih ⊢;refine⟨by lia,λ⟨i,hi⟩=>?_⟩;cases i with
  | zero=>
   have:bl a.toNat<bl b.toNat:=by exact hi
   lia | succ i=>
   have:=ih.2 ⟨i,by exact hi⟩;lia
 | [],_::_,h,_=>by cases h | _::_,[],h,_=>by cases h
theorem vg   (h:qs.length=v.length)(i:Nat):(left v qs b).getD i 0=v.getD i 0-qs.getD i 0*v.getD b 0:=by
 unfold left;by_cases hi:i<v.length;·simp[List.getElem?_zipWith,_c hi,_c (show i<qs.length from by lia)]
 ·simp[List.getElem?_zipWith,_W (_cU.mp hi),_W (_cU.mp (show ¬ i<qs.length from by lia))]
theorem z5D{u v:List Int}(hl:u.length=v.length)(h:∀i,u.getD i 0=v.getD i 0):u=v:=by
 refine List.ext_getElem hl λi h1 h2=>?_;simpa[_c h1,_c h2] using (h i)
theorem zgl{a b:Int}(h0:0<b)(h:b<=a):2*(a % b)<a:=by
 have h1:=_cr a b;have h2:=_b3 a h0;have h5:b*1<=b*(a / b):=_a4 (by
  have:=Int.ediv_le_ediv h0 h;rwa [Int.ediv_self (by lia)]at this) (by lia);lia
theorem zcf{a b:Int}(ha:0<=a)(h0:0<b):a % b<=a:=by
 have h1:=_cr a b;have h3:0<=b*(a / b):=_cT (by lia) (Int.ediv_nonneg ha (by lia));lia
theorem zjr   (hv:∀x∈v,0<=x)(h:Dl v d.1 d.2):wt (left v (yV v d) d.1)<=wt v/\((∃i,i<v.length/\i∈d.2/\v.getD d.1 0<=v.getD i 0)->wt (left v (yV v d) d.1)<wt v):=by
 have hl:=wH v d;have key:∀i,(left v (yV v d) d.1).getD i 0=if i<v.length/\i∈d.2 then v.getD i 0 % v.getD d.1 0 else v.getD i 0:=λi=>by rw[vg hl,uR]
 have p:∀i,i<v.length/\i∈d.2->0<v.getD d.1 0:=λi hi=>by
  rcases h.pos with z | z;·rw[z]at hi;simp at hi
  ·exact z
 have w:=zkp   (vK hl) λi=>by
  rw[key];split
  ·rename_i hi;have:=zcf (uA hv i) (p i hi);exact zcZ _ _ (by lia)
  ·exact _h _
 refine⟨w.1,λ⟨i,h1,h2,h3⟩=>w.2 ⟨i,?_⟩⟩;rw[key,_l ⟨h1,h2⟩];have h0:=p i ⟨h1,h2⟩;have:=zgl h0 h3;exact ziU (by lia)
theorem zhh(v:List Int):wt (rot v)=wt v:=by cases v with
 | nil=>rfl | cons a v=>simp[rot,wt];lia
theorem zb4  (h:∀x,x∈a ↔ x∈b)(ha:a≠[]):minL a=minL b:=by
 have h1:=minL_le  _ ((h _).mp (minL_mem ha));have h2:=minL_le  _ ((h _).mpr (minL_mem (λz=>by
  have:=(h _).mp (minL_mem ha);rw[z]at this;cases this)));lia
theorem zl8  (h:nz v≠[])(h0:v.getD 0 0≠minL (nz v)):lp (rot v)<lp v:=by cases v with
 | nil=>exact absurd h (by decide) | cons a t=>
  have m:=(qW.mp (minL_mem h)).1;have ha:a≠minL (nz (a::t)):=by exact h0
  unfold lp;rw[((zb4 (λx=>by rw[qW,qW,zdC]) h).symm)];generalize minL (nz (a::t))=m' at *;show List.idxOf m' (t++[a])<_;rw[List.idxOf_append,_l ((_r.mp m).resolve_left λz=>ha z.symm),List.idxOf_cons,show (a==m')=false from by simpa using ha];simp
noncomputable def mu(r:Rl)(v:List Int):Nat:=5*wt v+(if r=.tu then lp v else 0)
theorem Lot.step{n:Nat}{v:List Int}(r:Rl)(h:Lot n v)(he:ended v=false):Lot n (stp r v):=by
 have dl:=ux r h he;have q:=zbp h.nn dl;refine⟨h.sz,by rw[stp,z6s,vK q.len,h.len],λx hx=>zcV q x (z1d.mp hx),?_⟩;have fin:∀x∈left v (yV v (deal r v)) (deal r v).1,0<x->∃x∈stp r v,0<x:=λx hx h0=>⟨x,z1d.mpr hx,h0⟩;rcases dl.pos with z | z
 ·obtain⟨x,hx,h0⟩:=h.pos;refine fin x ?_ h0;rw[(z5D (vK q.len) λi=>by rw[vg q.len,uR,z];simp)];exact hx
 ·refine fin (v.getD (deal r v).1 0) ?_ z;rw[<- (show (left v (yV v (deal r v)) (deal r v).1).getD (deal r v).1 0=v.getD (deal r v).1 0 from by rw[vg q.len,uR,_p (λw=>dl.nb w.2)])];exact getD_mem (by rw[vK q.len];exact dl.lt)
theorem zke   (h:Lot n v):lp v<4:=by
 have:=(zd0 h.nzne).1;have:=h.len;have:=h.sz;lia
theorem zn4   (r:Rl)(h:Lot n v)(he:ended v=false):mu r (stp r v)<mu r v:=by
 have dl:=ux r h he;have w:=zjr h.nn dl;have mn:∀j,j<v.length->v.getD j 0≠0->minL (nz v)<=v.getD j 0:=λj hj h0=>minL_le _ (qW.mpr ⟨getD_mem hj,h0⟩);cases r with
 | nx=>
  have g:=zb6 h.ne;have:wt (stp .nx v)<wt v:=by
   refine w.2 ⟨gp v,g.1,by simp[deal],?_⟩;rw[g.2];exact maxL_ge _ (getD_mem dl.lt)
  simp only[mu];rw[_p (by decide)];lia | le=>
  have g:=zb6 h.ne;have:wt (stp .le v)<wt v:=by
   refine w.2 ⟨gp v,g.1,by simp[deal],?_⟩;rw[g.2];exact maxL_ge _ (getD_mem dl.lt)
  simp only[mu];rw[_p (by decide)];lia | al=>
  have l:=zd0 h.nzne;obtain⟨j,h1,h2,h3⟩:=zdE  (z5h he) (by rw[l.2.1];exact l.2.2);have:wt (stp .al v)<wt v:=by
   refine w.2 ⟨j,h2,by simp[deal,qp,h1,h2],?_⟩;show v.getD (lp v) 0<=_;rw[l.2.1];exact mn j h2 h3
  simp only[mu];rw[_p (by decide)];lia | tu=>
  simp only[mu];rw[_l trivial];have l4:=zke (h.step .tu he);have same:left v (yV v (deal .tu v)) (deal .tu v).1=v->v.getD 0 0≠minL (nz v)->5*wt (stp .tu v)+lp (stp .tu v)<5*wt v+lp v:=λe h0=>by
   have:=zl8 h.nzne h0;rw[(show stp .tu v=rot v from by rw[stp,zc1,e]),zhh];lia
  by_cases z:v.getD 0 0=0
  ·refine same (z5D (vK (wH _ _)) λi=>?_) λq=>((zd0 h.nzne).2.2 (by rw[<- q,z]))
   ·rw[vg (wH _ _),uR];rw[show (deal .tu v).2=[] from by show (if v.getD 0 0=0 then [] else uv v 0)=[];rw[_l z]];simp
  ·by_cases ex:∃i,i<v.length/\i≠0/\v.getD 0 0<=v.getD i 0
   ·obtain⟨i,h1,h2,h3⟩:=ex;have:wt (stp .tu v)<wt v:=by
     rw[stp,zc1,zhh];refine w.2 ⟨i,h1,?_,h3⟩;show i∈(if v.getD 0 0=0 then [] else uv v 0);rw[_p z];exact qp.mpr ⟨h1,h2⟩
    lia
   ·refine same (z5D (vK (wH _ _)) λi=>?_) λq=>?_
    ·rw[vg (wH _ _),uR];split
     ·rename_i hi;have:¬ v.getD 0 0<=v.getD i 0:=λw=>ex ⟨i,hi.1,(by
       have:=hi.2;simp only[deal,_p z,qp]at this;exact this.2),w⟩;show v.getD i 0 % v.getD 0 0=_;exact Int.emod_eq_of_lt (uA h.nn i) (by lia)
     ·rfl
    ·obtain⟨j,h1,h2,h3⟩:=zdE  (z5h he) z;have:=mn j h2 h3;exact ex ⟨j,h2,h1,by lia⟩
inductive Run(r:Rl):List Int->List (List Int)->Prop | done {v:List Int}:ended v=true->Run r v [v] | step {v:List Int}{ls:List (List Int)}:ended v=false->Run r (stp r v) ls->Run r v (v::ls)
theorem zhr   : ∀(k:Nat)(v:List Int),Lot n v->mu r v<=k->∃ls,Run r v ls/\ls.length<=k+1
 | k,v,h,hk=>by cases he:ended v with
  | true=>exact⟨[v],.done he,by simp⟩ | false=>
   have lt:=zn4 r h he;match k,hk with
   | 0,hk=>lia | k+1,hk=>
    obtain⟨ls,h1,h2⟩:=zhr (r:=r) k (stp r v) (h.step r he) (by lia);exact⟨v::ls,.step he h1,by simp;lia⟩
theorem zly  : ∀{v:List Int},(∀x∈v,x.toNat<2 ^ m)->wt v<=v.length*m
 | [],_=>by simp[wt] | a::v,h=>by
  have ih:=zly (v:=v) λx hx=>h x (by simp[hx]);have:=zkg m a.toNat (h a (by simp));simp only[wt,_A,_a2,_n,Nat.succ_mul]at ih ⊢;lia
theorem zmC    (h:Lot n v)(hb:∀x∈v,x.toNat<2 ^ m):mu r v<=20*m+3:=by
 have w:=zly hb;have l:=zke h;have:v.length*m<=4*m:=_aA m (by have:=h.len;have:=h.sz;lia);unfold mu;split<;>lia
noncomputable def cg(a b:Int):Int:=(Int.gcd a b:Int)
noncomputable def z6x(v:List Int):Int:=v.foldl cg 0
theorem z2h:∀(v:List Int)(a:Int),0<=a->0<=v.foldl cg a/\(v.foldl cg a ∣ a/\∀x∈v,v.foldl cg a ∣ x)/\∀d,d ∣ a->(∀x∈v,d ∣ x)->d ∣ v.foldl cg a
 | [],a,h=>⟨h,⟨Int.dvd_refl _,by simp⟩,λd hd _=>hd⟩ | x::v,a,h=>by
  have ih:=z2h v (cg a x) (by simp[cg]);refine⟨ih.1,⟨_dc ih.2.1.1 (Int.gcd_dvd_left ..),λy hy=>?_⟩,λd hd hx=>(ih.2.2 d (Int.dvd_coe_gcd hd (hx x (by simp))) λy hy=>hx y (by simp[hy]))⟩
  ·rcases _r.mp hy with rfl | hy;·exact _dc ih.2.1.1 (Int.gcd_dvd_right ..)
   ·exact ih.2.1.2 y hy
theorem z8W(v:List Int):0<=z6x v:=(z2h v 0 (by lia)).1
theorem z5Y  : ∀x∈v,z6x v ∣ x:=(z2h v 0 (by lia)).2.1.2
theorem z5F   (h:∀x∈v,d ∣ x):d ∣ z6x v:=(z2h v 0 (by lia)).2.2 d (_dv d) h
theorem zhL  (h:∀d,(∀x∈u,d ∣ x) ↔ (∀x∈v,d ∣ x)):z6x u=z6x v:= Int.dvd_antisymm (z8W u) (z8W v) (z5F ((h _).mp z5Y)) (z5F ((h _).mpr z5Y))
theorem zas{v:List Int}{P:Int->Prop}(h0:P 0):(∀x∈v,P x) ↔ ∀i,P (v.getD i 0):=by
 constructor
 ·intro h i;by_cases hi:i<v.length;·exact h _ (getD_mem hi)
  ·simp[_W (_cU.mp hi),h0]
 ·intro h x hx;obtain⟨i,hi,rfl⟩:=_v.mp hx;simpa[_c hi] using (h i)
theorem zc8   (r:Rl)(h:Lot n v)(he:ended v=false):z6x (stp r v)=z6x v:=by
 have dl:=ux r h he;have q:=zbp h.nn dl;refine zhL λd=>?_;rw[(show (∀x∈stp r v,d ∣ x) ↔ ∀x∈left v (yV v (deal r v)) (deal r v).1,d ∣ x from by
  constructor;·exact λh x hx=>h x (z1d.mpr hx)
  ·exact λh x hx=>h x (z1d.mp hx)),zas (_dv d),zas (_dv d)];constructor
 ·intro hd i;have h1:=hd i;have h2:=hd (deal r v).1;rw[(show (left v (yV v (deal r v)) (deal r v).1).getD (deal r v).1 0=v.getD (deal r v).1 0 from by rw[vg q.len,uR,_p (λw=>dl.nb w.2)])]at h2;rw[vg q.len]at h1;have:=Int.dvd_add h1 (_dc h2 (Int.dvd_mul_left ..):d ∣ (yV v (deal r v)).getD i 0*v.getD (deal r v).1 0);rwa [Int.sub_add_cancel]at this
 ·intro hd i;rw[vg q.len];exact Int.dvd_sub (hd i) (_dc (hd (deal r v).1) (Int.dvd_mul_left ..))
theorem zhw:∀v:List Int,v.sum=(nz v).sum
 | []=>rfl | a::v=>by
  have:=zhw v;by_cases h:a=0;·subst h;simp[nz]at this ⊢;exact this
  ·simp[nz,h]at this ⊢;exact this
theorem zej   (h:Lot n v)(he:ended v=true):v.sum=z6x v:=by
 obtain⟨x,ex⟩:∃x,nz v=[x]:=by match hz:nz v,(show (nz v).length=1 from by simpa[ended] using he) with | [x],_=>exact⟨x,rfl⟩
 have xm:=qW.mp (show x∈nz v by rw[ex];simp);rw[(show v.sum=x from by rw[zhw,ex];simp)];refine Int.dvd_antisymm (h.nn x xm.1) (z8W v) (z5F λy hy=>?_) (z5Y x xm.1);by_cases y0:y=0;·subst y0;exact _dv _
 ·have  := qW.mpr ⟨hy,y0⟩;rw[ex]at this;simp at this;subst this;exact Int.dvd_refl _
structure PI(n:Nat)(B:Int)(P:Tb)(c x:List Int):Prop where
 tab:Tab n P
 nn:∀row∈P,∀y∈row,0<=y/\y<=B
 eq:mv P c=x
theorem z0s   (r:Rl)(h:Lot n v)(he:ended v=false):Tab n (z2n r v):=zgx r h.sz (by rw[wH,h.len]) (by rw[<- h.len];exact (ux r h he).lt)
theorem zca   (r:Rl)(h:Lot n v)(he:ended v=false):kf (z2n r v):=by
 have dl:=ux r h he;exact zdt r h.sz (by rw[wH,h.len]) (by rw[<- h.len];exact dl.lt) (zbp h.nn dl).zero
theorem PI.step{n:Nat}{B:Int}{P:Tb}{c x:List Int}(r:Rl)(I:PI n B P c x)(hx:∀y∈x,y<=B)(h:Lot n c)(he:ended c=false):PI n B (jX P (z2n r c)) (stp r c) x:=by
 have dl:=ux r h he;have q:=zbp h.nn dl;have tt:=z0s r h he;have gJ:∀row∈P,z2r (z2n r c) row=mvd r (z6w (deal r c).1 (yV c (deal r c)) row):=λrow hr=>zer r h.sz (by rw[wH,h.len]) (by rw[<- h.len];exact dl.lt) q.zero (I.tab.row row hr);have ri  := λrow hr=>zg5 r q (hx _ (by rw[<- I.eq];exact _m.mpr ⟨row,hr,rfl⟩)) ⟨by rw[I.tab.row row hr,h.len],I.nn row hr,rfl⟩;refine⟨z9G I.tab tt,λrow hr y hy=>?_,?_⟩
 ·rw[z0d h.sz I.tab tt]at hr;obtain⟨w,hw,rfl⟩:=_m.mp hr;rw[gJ w hw]at hy;exact (ri w hw).nn y hy
 ·rw[z0d h.sz I.tab tt,<- I.eq];unfold mv;rw[_aG];refine _cM λw hw=>?_;show dot (z2r (z2n r c) w) (stp r c)=dot w c;rw[gJ w hw];exact (ri w hw).dot
theorem zls(n:Nat):∀row∈one n,∀y∈row,0<=y/\y<=1:=λrow hr y hy=>by
 obtain⟨i,_,rfl⟩:=_m.mp hr;obtain⟨j,_,rfl⟩:=_m.mp hy;split<;>lia
theorem PI.start    (h:Lot n v)(hx:∀y∈v,y<=B):PI n B (one n) v v:=by
 have b1:1<=B:=by
  obtain⟨y,hy,h0⟩:=h.pos;have:=hx y hy;lia
 refine⟨z9m n,λrow hr y hy=>?_,zgP h.sz h.len⟩;have:=zls n row hr y hy;lia
theorem zj3    (r:Rl)(h:Lot n v)(he:ended v=false)(hb:∀y∈v,y<=B):∀row∈z2n r v,∀y∈row,0<=y/\y<=B:=by
 have e:=((PI.start h hb).step r hb h he).nn;rw[(zfm h.sz (z0s r h he)).1]at e;exact e
theorem zmp    (r:Rl)(h:Lot n v)(he:ended v=false)(hb:∀y∈v,y<=B):∀y∈stp r v,y<=B:=λy hy=>by
 have dl:=ux r h he;have q:=zbp h.nn dl;obtain⟨i,hi,rfl⟩:=_v.mp (z1d.mp hy);have b:=hb _ (getD_mem (by rw[<- vK  q.len];exact hi));rw[(show (left v (yV v (deal r v)) (deal r v).1)[i]=(left v (yV v (deal r v)) (deal r v).1).getD i 0 from by simp[_c hi]),vg q.len,uR];split
 ·rename_i w;rcases dl.pos with z | z;·rw[z]at w;simp at w
  ·have:=zcf (uA h.nn i) z;lia
 ·exact b
noncomputable def ye(r:Rl)(ls:List (List Int)):List Tb:=ls.dropLast.map (z2n r)
theorem Run.ne    (R:Run r v ls):ls≠[]:=by cases R<;>simp
theorem Run.tabs_cons    (h:Run r (stp r v) ls):ye r (v::ls)=z2n r v::ye r ls:=by
 obtain⟨a,t,rfl⟩:=_aW h.ne;rfl
noncomputable def jc(n:Nat)(ts:List Tb):Tb:=ts.foldl jX (one n)
theorem Run.fairP     (h:Lot n v)(R:Run r v ls):∀P,Tab n P->kf P->kf ((ye r ls).foldl jX P):=by induction R with
 | done e=>simpa[ye] using f | step e R ih=>
  intro P hP f;rw[R.tabs_cons];exact ih (h.step r e) _ (z9G hP (z0s r h e)) (zdF h.sz hP (z0s r h e) f (zca r h e))
theorem Run.fair     (h:Lot n v)(R:Run r v ls):kf (jc n (ye r ls)):=R.fairP h _ (z9m n) (.inl (zjk h.sz))
theorem Run.prod       (h:Lot n v)(R:Run r v ls)(I:PI n B P v x)(hx:∀y∈x,y<=B):∃z,ls.getLast? = some z/\ended z=true/\Lot n z/\z6x z=z6x v/\PI n B ((ye r ls).foldl jX P) z x:=by induction R generalizing P with
 | done e=>exact⟨_,by rfl,e,h,rfl,by exact I⟩ | step e R ih=>
  obtain⟨z,h1,h2,h3,h4,h5⟩:=ih (h.step r e) (I.step r hx h e);refine⟨z,?_,h2,h3,by rw[h4,zc8 r h e],?_⟩;·rw[List.getLast?_cons,h1];rfl
  ·rw[R.tabs_cons];exact h5
theorem Run.whole      (h:Lot n v)(R:Run r v ls)(hx:∀y∈v,y<=B):∃z,ls.getLast? = some z/\ended z=true/\Lot n z/\z6x z=z6x v/\PI n B (jc n (ye r ls)) z v:=R.prod h (PI.start h hx) hx
open Dd (lexN)
theorem vJ:∀a:List Int,lexN a a=false
 | []=>rfl | x::a=>by simp[lexN,vJ a]
theorem uj:∀{a b:List Int},a≠b->lexN b a=!lexN a b
 | [],[],h=>absurd rfl h | [],_::_,_=>rfl | _::_,[],_=>rfl | x::a,y::b,h=>by
  by_cases e:x=y
  ·subst e;simp only[lexN,_G];exact uj (λz=>h (by rw[z]))
  ·have e':¬ y=x:=λz=>e z.symm;simp only[lexN,e,e',_aP];by_cases l:x<y;·simp[l];lia
   ·simp[l];lia
theorem z34:∀{a b c:List Int},lexN a b=true->lexN b c=true->lexN a c=true
 | [],[],_,h,_=>by simp[lexN]at h | [],_::_,[],_,h=>by simp[lexN]at h | [],_::_,_::_,_,_=>rfl | _::_,[],_,h,_=>by simp[lexN]at h | _::_,_::_,[],_,h=>by simp[lexN]at h | x::a,y::b,z::c,h1,h2=>by
  simp only[lexN]at h1 h2 ⊢;by_cases e1:x=y
  ·subst e1;by_cases e2:x=z
   ·subst e2;simp only[_G]at h1 h2 ⊢;exact z34 h1 h2
   ·simp only[e2,_aP]at h2 ⊢;exact h2
  ·simp only[e1,_aP,_s]at h1;by_cases e2:y=z
   ·subst e2;simp only[e1,_aP,_s];exact h1
   ·simp only[e2,_aP,_s]at h2;simp only[(show ¬ x=z from by lia),_aP,_s];lia
theorem z2T:∀{a b:List Int}{x y:Int},a.length=b.length->(lexN a b=true\/(a=b/\x<y))->lexN (a++[x]) (b++[y])=true
 | [],[],x,y,_,h=>by
  rcases h with h | ⟨_,h⟩;·simp[lexN]at h
  ·simp[lexN,(show ¬ x=y from by lia),h] | [],_::_,_,_,h,_=>by simp at h | _::_,[],_,_,h,_=>by simp at h | u::a,w::b,x,y,hl,h=>by
  simp only[_aQ,lexN];by_cases e:u=w
  ·subst e;simp only[_G];refine z2T (by simpa using hl) ?_;rcases h with h | ⟨h1,h2⟩;·exact .inl (by simpa[lexN] using h)
   ·exact .inr ⟨by simpa using h1,h2⟩
  ·rcases h with h | ⟨h1,h2⟩;·simpa[lexN,e] using h
   ·simp at h1;exact absurd h1.1 e
abbrev Up(L:List (List Int)):Prop:=L.Pairwise λa b=>lexN a b=true
theorem Up.nodup  (h:Up L):L.Nodup:=h.imp λ{a b} q z=>by rw[z,vJ]at q;cases q
theorem zcw:∀{L M:List (List Int)},Up L->Up M->(∀x,x∈L ↔ x∈M)->L=M
 | [],[],_,_,_=>rfl | [],b::M,_,_,h=>by cases ((h b).mpr (.head _)) | a::L,[],_,_,h=>by cases ((h a).mp (.head _)) | a::L,b::M,h1,h2,h=>by
  obtain⟨p1,q1⟩:=_b4.mp h1;obtain⟨p2,q2⟩:=_b4.mp h2;have e:a=b:=by
   rcases _r.mp ((h a).mp (.head _)) with z | z;·exact z
   ·rcases _r.mp ((h b).mpr (.head _)) with z' | z';·exact z'.symm
    ·have:=z34 (p2 a z) (p1 b z');rw[vJ]at this;cases this
  subst e;refine _aw (a::·) (zcw q1 q2 λx=>⟨λhx=>?_,λhx=>?_⟩)
  ·rcases _r.mp ((h x).mp (.tail _ hx)) with z | z;·have:=p1 x hx;rw[z,vJ]at this;cases this
   ·exact z
  ·rcases _r.mp ((h x).mpr (.tail _ hx)) with z | z;·have:=p2 x hx;rw[z,vJ]at this;cases this
   ·exact z
theorem zcM{α:Type}{a b:List α}  {d:α}(h:i<a.length):(a++b).getD i d=a.getD i d:=by simp[_y h]
noncomputable def zgQ(F:List (List Int))(c:List Int):List (List Int):=F.flatMap λa=>c.map λg=>a++[g]
noncomputable def jd(cs:List (List Int)):List (List Int):=cs.foldl zgQ [[]]
theorem jR(cs:List (List Int))(c:List Int):jd (cs++[c])=zgQ (jd cs) c:=by simp[jd]
theorem snoc_ind{α:Type}{P:List α->Prop}(h0:P [])(h1:∀l x,P l->P (l++[x]))(l:List α):P l:=by
 exact (show ∀n (l:List α),l.length=n->P l from by
  intro n;induction n with
  | zero=>intro l hl;rw[_bt.mp hl];exact h0 | succ n ih=>
   intro l hl;rw[<- _bC (λz=>by rw[z]at hl;simp at hl:l≠[])];exact h1 _ _ (ih _ (by simp[hl]))) _ l rfl
theorem z0C(cs:List (List Int)):∀v:List Int,v∈jd cs ↔ v.length=cs.length/\∀i,i<cs.length->v.getD i 0∈cs.getD i []:=by
 refine snoc_ind (P:=λcs=>∀v:List Int,v∈jd cs ↔ v.length=cs.length/\∀i,i<cs.length->v.getD i 0∈cs.getD i []) ?_ ?_ cs;·simp[jd]
 ·intro cs c ih v;rw[jR];simp only[zgQ,_dm,_m];constructor
  ·rintro⟨a,ha,g,hg,rfl⟩;obtain⟨l,h⟩:=(ih a).mp ha;refine⟨by simp[l],λi hi=>?_⟩;by_cases q:i<cs.length
   ·rw[zcM (a:=a) (by lia),zcM q];exact (h i q)
   ·have e:i=cs.length:=by simp at hi;lia
    subst e;simp[l,hg]
  ·rintro⟨l,h⟩;have ne:v≠[]:=λz=>by rw[z]at l;simp at l
   refine⟨v.dropLast,(ih _).mpr ⟨by simp[l],λi hi=>?_⟩,v.getLast ne,?_,_bC ne⟩
   ·have:=h i (by simp;lia);rw[zcM hi]at this;rw[(show v.dropLast.getD i 0=v.getD i 0 from by
     have l':v.length=cs.length+1:=by simpa using l
     simp[l',hi,_c (show i<v.length from by lia)])];exact this
   ·have:=h cs.length (by simp);rw[(show v.getD cs.length 0=v.getLast ne from by
     rw[List.getLast_eq_getElem];simp[l])]at this;simpa using this
theorem zfe(cs:List (List Int)):(∀c∈cs,c.Pairwise (· < ·))->Up (jd cs):=by
 refine snoc_ind (P:=λcs=>(∀c∈cs,c.Pairwise (· < ·))->Up (jd cs)) (λ_=>by simp[jd,Up]) ?_ cs;intro cs c ih h;have hl:=λv hv=>((z0C cs v).mp hv).1;rw[jR];unfold zgQ Up;rw[List.pairwise_flatMap];refine⟨λa ha=>?_,?_⟩
 ·rw[_bH];exact (h c (by simp)).imp λ{x y} q=>z2T rfl (.inr ⟨rfl,q⟩)
 ·refine _bX (λ{a b} ha hb q=>?_) (ih λc hc=>h c (by simp[hc]));intro x hx y hy;obtain⟨g,_,rfl⟩:=_m.mp hx;obtain⟨k,_,rfl⟩:=_m.mp hy;exact z2T (by rw[hl a ha,hl b hb]) (.inl q)
theorem z80(cs:List (List Int))  : (∀c∈cs,c.length<=k)->(jd cs).length<=k ^ cs.length:=by
 refine snoc_ind (P:=λcs=>(∀c∈cs,c.length<=k)->(jd cs).length<=k ^ cs.length) (λ_=>by simp[jd]) ?_ cs;intro cs c ih h;have ih:=ih λc hc=>h c (by simp[hc]);rw[jR];have e:(zgQ (jd cs) c).length=(jd cs).length*c.length:=by
  unfold zgQ;induction (jd cs) with
  | nil=>simp | cons a l ih=>simp[ih,Nat.add_mul,Nat.add_comm]
 rw[e,_P];exact _bg ih (h c (by simp))
end Pm
namespace Pg
open L2 Dd Pm
noncomputable abbrev iL(ns:List Int):List D:=ns.map D.int
theorem zph{i:Int}  (h:i.natAbs<2 ^ m)(hm:m<=2000):i.natAbs<BIG:=_q h (_Z (by decide) (by lia))
theorem z0g   (s:Sto)(ha:a.natAbs<2 ^ m)(hm:m<=2000)(hb:b.natAbs<2 ^ k)(hk:k<=2000):xG (.int a) (.int b) s=.ok (.int (a*b)) s:=by rw[zgM,_l ⟨zph ha hm,zph hb hk⟩]
theorem z4G  (s:Sto)(hb:0<b):zaf (.int a) (.int b) s=.ok (.int (a % b)) s:=by rw[zkm,_l hb]
theorem z9Y  (s:Sto)(h:∀x∈xs,x=.bl true):zk2 [.lst xs] s=.ok (.bl true) s:=by simp[zk2,yc,(show bools xs=some (xs.map λ_=>true) from by
  conv=>lhs;rw[(show xs=(xs.map λ_=>true).map D.bl from by
  rw[_aG];conv=>lhs;rw[<- List.map_id xs]
  exact _cM λx hx=>h x hx)]
  exact zcp _)]
theorem z3k  (s:Sto)(h:ns≠[]):wP [.tup (iL ns)] s=.ok (.int (maxL ns)) s:=by cases ns with
 | nil=>exact absurd rfl h | cons n ns=>simp only[wP,yc,_ad,yO]
theorem zcX  (s:Sto)(h:ns≠[]):qI [.tup (iL ns)] s=.ok (.int (minL ns)) s:=by cases ns with
 | nil=>exact absurd rfl h | cons n ns=>simp only[qI,yc,_ad,yO]
theorem zgO  (s:Sto)(h:ns≠[]):wP [.lst (iL ns)] s=.ok (.int (maxL ns)) s:=by cases ns with
 | nil=>exact absurd rfl h | cons n ns=>simp only[wP,yc,_ad,yO]
theorem zfF    (h:ns≠[])(e:s[l]? = some (iL ns)):wP [.loc l] s=.ok (.int (maxL ns)) s:=by cases ns with
 | nil=>exact absurd rfl h | cons n ns=>simp only[wP,yc,e,_ad,yO]
theorem zmn(xs:List D)(s:Sto):gIs "tuple" (.tup xs) s=.ok (.bl true) s:=id rfl
theorem zo6(x:Str)(s:Sto):gIs "str" (.str x) s=.ok (.bl true) s:=id rfl
theorem z4Y(xs:List D)(s:Sto)(h:2<=xs.length/\xs.length<=4):vB [.tup xs] s=.ok (.bl true) s:=by simp[vB,Mof,z38,zH,zmn,xO,yc,(show (2:Int)<=xs.length from by lia),(show (xs.length:Int)<=4 from by lia)]
theorem uO (ns:List Int) (s:Sto) (h:ns.length<=1000):yw [.tup (iL ns),.int ns.length] s=.ok (.bl true) s:=by
 simp[yw,Mof,z0o,zH,zmn,xO,yc];rw[z71 (λ_=>D.bl true) (iL ns) [] (by intro x hx;obtain⟨n,_,rfl⟩:=_m.mp hx;rfl) (by simp[cap];lia)];simp only[Rb,_aX];rw[z9Y s (by intro x hx;obtain⟨_,_,rfl⟩:=_m.mp hx;rfl)];rfl
theorem vo{α:Type}    (g f:α->D):∀(l:List α)(af:List D),(∀a∈l,body (g a) s=.ok (some (f a)) s)->af.length+l.length<=cap->vw [] all body (l.map g) af s=.ok (af++l.map f) s
 | [],af,_,_=>by simp[vw,okG] | x::xs,af,hb,hl=>by
  rw[_A,vw];simp[okG,hb x (by simp),(show af.length<cap from by simp at hl;lia),(vo (all:=all) g f xs (af++[f x]) (λy hy=>hb y (by simp[hy])) (by simp at hl ⊢;lia))]
theorem za6(ns:List Int)(s:Sto):zcs [.lst (iL ns)] s=.ok (.int ns.sum) s:=by simp only[zcs,yc,_ad,yO]
theorem zw:∀(r v:List Int),List.zipWith (λa b=>a*b) r v=(List.zip r v).map λp=>p.1*p.2
 | [],_=>by rfl | _::_,[]=>by rfl | a::r,b::v=>by simp[zw r v]
theorem z9J:∀(r v:List Int),za8 (iL r) (iL v)=(List.zip r v).map λp=>D.tup [.int p.1,.int p.2]
 | [],_=>by rfl | _::_,[]=>by rfl | a::r,b::v=>by simp[za8,(z9J r v)]
theorem z82(i j:Nat)(s:Sto):xU [.int i,.int j] s=.ok (.int (sg i j)) s:=by
 simp[xU,Mof,z4O,zH,z4G s (show 0<2 by decide)];unfold sg;by_cases h:(i+j) % 2=0;·simp[h,(show ((i:Int)+j) % 2=0 from by lia)]
 ·simp[h,(show ¬ ((i:Int)+j) % 2=0 from by lia)]
theorem vI   (s:Sto)(hr:∀x∈r,x.natAbs<2 ^ m)(hv:∀x∈v,x.natAbs<2 ^ k)(hm:m<=2000)(hk:k<=2000)(hl:r.length<=4):zK [.tup (iL r),.tup (iL v)] s=.ok (.int (dot r v)) s:=by
 simp[zK,Mof,z2z,zH,zbS,(z9J r v),-List.map_map];rw[vo _ (λp:Int×Int=>D.int (p.1*p.2)) _ [] (by
  intro p hp;simp[z0g s (hr p.1 (_bm hp).1) hm (hv p.2 (_bm hp).2) hk]) (by simp[cap];lia)];simp only[Rb,_aX];rw[(show (List.zip r v).map (λp:Int×Int=>D.int (p.1*p.2))=iL ((List.zip r v).map λp=>p.1*p.2) from by simp[_C]),za6];simp[dot,zw]
noncomputable abbrev rD(r:List Int):D:=.tup (iL r)
noncomputable abbrev tD(T:Tb):D:=.tup (T.map rD)
theorem z6q    (s:Sto)(h:Bd m T)(hv:∀x∈v,x.natAbs<2 ^ k)(hm:m<=2000)(hk:k<=2000)(hl:∀r∈T,r.length<=4)(hT:T.length<=4):xw [tD T,.tup (iL v)] s=.ok (.tup (iL (mv T v))) s:=by
 simp only[xw,Mof,kY,zH,tD];simp[-List.map_map];rw[vo rD (λr=>D.int (dot r v)) T [] (by
  intro r hr;simp[(vI s (h r hr) hv hm hk (hl r hr))]) (by simp[cap];lia)];simp[yr,yc,mv,_C]
theorem zd9  {j:Nat}  (s:Sto)(h:xs[j]? = some d):dIx (.tup xs) (.int j) s=.ok d s:=by
 have hj  := (_b.mp h).1;simp only[dIx,yc,atI,(show ixN xs.length j=some j from by
  unfold ixN;rw[_l (by lia),_l (by lia)];rfl),_ad,h]
theorem zcC     (hn:n<=1000)(h:ar ρ s=.ok [.int n] s1):z8w ar ρ s=.ok (yP n,[]) s1:=by
 rw[zha,h,Rb];simp only;rw[_l (by lia),_bo]
theorem zpV  {k:Nat} (s:Sto) (hk:∀r∈T,k<r.length) (hT:T.length<=4):zu (zM (zd 0)) [some 1,none] (yu 1) zV (eOp dIx (zd 1) (zd 0)) [some (tD T),some (.int k)] s=.ok (.lst (iL (T.map λr=>r.getD k 0))) s:=by
 simp[-List.map_map];rw[vo rD (λr=>D.int (r.getD k 0)) T [] (by
  intro r cT;simp[(zd9 (xs:=iL r) (j:=k) (d:=.int (r.getD k 0)) s (by simp[_c (hk r cT),List.getD]))]) (by simp[cap];lia)];simp[_C]
theorem zpy  (s:Sto) (hr:∀r∈T,T.length<=r.length) (hT:T.length<=4): zu (z8w (za (ze xO (za (zd 0) zi)) zi)) [some 0,none] (yu 1) zV (ze yr (za (zu (zM (zd 0)) [some 1,none] (yu 1) zV (eOp dIx (zd 1) (zd 0))) zi)) [some (tD T)] s=.ok (.lst ((xp T).map rD)) s:=by
 rw[vM,uJ,zcC (n:=T.length) (s1:=s) (by lia) (by simp[xO,yc]),Rb];simp only[yP];rw[vo (λk:Nat=>D.int k) (λk:Nat=>rD (T.map λr=>r.getD k 0)) (List.range T.length) [] (by
  intro k hk;rw[z1W,Rb,z1m,Rb,yd,zB,show (yI [some 0,none] [some (tD T)]).set 1 (some (.int k))=[some (tD T),some (.int k)] from rfl,zpV s (λr cT=>_q (by simpa using hk) (hr r cT)) hT];rfl) (by simp[cap];lia)];simp[xp,_C]
theorem znI  (s:Sto)(x:List D)(h:zu (z8w (za (ze xO (za (zd 0) zi)) zi)) [some 0,none] (yu 1) zV (ze yr (za (zu (zM (zd 0)) [some 1,none] (yu 1) zV (eOp dIx (zd 1) (zd 0))) zi)) [some d] s=.ok (.lst x) s):yF [d] s=.ok (.tup x) s:=by
 have st:zH ["table"] [d]=[some d]:=rfl;simp only[yF,Mof,z0k,st,_n,_I,_G,ki,yy,yd,zB,h,Rb,zY,yr,yc]
theorem z1o  (s:Sto)(hr:∀r∈T,T.length<=r.length)(hT:T.length<=4):yF [tD T] s=.ok (tD (xp T)) s:=znI s _ (zpy s hr hT)
theorem zbN   (s:Sto) (hn:Sz n) (h:Tab n T):uk [tD T] s=.ok (.bl true) s:=by
 have hl:=h.len;refine (λd h1 h2=>by
  have st:zH ["thing"] [d]=[some d]:=rfl;simp only[uk,Mof,z3l,st,_G];rw[zr (ρ':=[some d]) (s':=s) (by simp[h1])];simp only[z1Y,yy,yd,zB,h2,Rb,zY];rw[z9Y s (by intro x hx;obtain⟨_,_,rfl⟩:=_m.mp hx;rfl)];rfl:∀d:D,vB [d] s=.ok (.bl true) s->zu (zM (zd 0)) [some 0,none] (yu 1) zV (ze yw (za (zd 1) (za (ze xO (za (zd 0) zi)) zi))) [some d] s=.ok (.lst (T.map λ_=>D.bl true)) s->uk [d] s=.ok (.bl true) s) _ (z4Y (T.map rD) s (by simp[hl];lia)) ?_;rw[vM,uJ];simp only[z00,yT,_g,Rb];rw[vo rD (λ_=>D.bl true) T [] (by
  intro r hr;have hw:=uO r s (by have:=h.row r hr;lia);rw[h.row r hr,<- hl]at hw;simp[xO,yc,hw]) (by simp[cap];lia)];rfl
theorem js   (s:Sto)(hn:Sz n)(h:Tab n T):yG [tD T] s=.ok .non s:=(λd h1=>by simp[yG,Mof,z0p,zH,h1]:∀d:D,uk [d] s=.ok (.bl true) s->yG [d] s=.ok .non s) _ (zbN s hn h)
theorem zoG{d e c:D}{cs:List (List Int)}(s:Sto)(f:List Int->D)(hc:yF [e] s=.ok (.tup (cs.map rD)) s)(h:∀r∈cs,xw [d,rD r] s=.ok (f r) s)(hl:cs.length<=4): zu (zM (ze yF (za (zd 1) zi))) [some 0,none] (yu 1) zV (ze xw (za (zd 0) (za (zd 1) zi))) [some d,some e] s=.ok (.lst (cs.map f)) s:=by
 rw[vM,uJ];simp only[z00,yd,zB,zY,yT,_g,_k,Rb,hc];rw[vo rD f cs [] (by
  intro c hc;simp only[z1W,Rb,z1m,_G,qf,qi,_g,_be,_aN,_aq,_k,h c hc]) (by simp[cap];lia),Rb,_aX]
theorem znY    (s:Sto) (h1:yG [d] s=.ok .non s) (h2:yG [e] s=.ok .non s) (h3:xO [d] s=.ok (.int n) s) (h4:xO [e] s=.ok (.int n) s) (h5:zu (zM (ze yF (za (zd 1) zi))) [some 0,none] (yu 1) zV (ze xw (za (zd 0) (za (zd 1) zi))) [some d,some e] s=.ok (.lst x) s) (h6:yF [.tup x] s=.ok f s):wT [d,e] s=.ok f s:=by
 have st:zH ["one","other"] [d,e]=[some d,some e]:=rfl;simp only[wT,Mof,z0T,st,_n,_I,_G];rw[zr (ρ':=[some d,some e]) (s':=s) (by simp[h1]),zr (ρ':=[some d,some e]) (s':=s) (by simp[h2]),zr (ρ':=[some d,some e]) (s':=s) (by simp[h3,h4])];simp only[kZ,yy,yd,zB,h5,Rb,zY];rw[(show yr [.lst x] s=.ok (.tup x) s from by rfl),Rb,Rb,h6,Rb]
theorem z6T    (s:Sto)(hn:Sz n)(ha:Tab n A)(hb:Tab n B)(hA:Bd m A)(hB:Bd k B)(hm:m<=2000)(hk:k<=2000):wT [tD A,tD B] s=.ok (tD (jX A B)) s:=by
 have w2:=js s hn hb;have c1:=z1o  s (λr hr=>by rw[hb.row r hr,hb.len];lia) (by rw[hb.len];lia);have lc:(xp B).length=n:=by simp[xp,hb.len]
 have g2:xO [tD B] s=.ok (.int n) s:=by simp[xO,yc,hb.len]
 refine znY s (js s hn ha) w2 (by simp[xO,yc,ha.len]) g2 (zoG (c:=.non) s (λr=>rD (mv A r)) c1 (λr hr=>z6q s hA (zhW hB r hr) hm hk (ha.le hn) (by rw[ha.len];lia)) (by lia)) ?_;rw[(show (xp B).map (λr=>rD (mv A r))=((xp B).map (mv A)).map rD from by rw[_aG];rfl)];exact (z1o (T:=(xp B).map (mv A)) s (λr hr=>by
  obtain⟨c,_,rfl⟩:=_m.mp hr;simp[mv,ha.len,lc]) (by simp[lc];lia))
theorem z2N(xs:List D)(i:Nat)(s:Sto):dSl (.tup xs) none (some (i:Int)) s=.ok (.tup (xs.take i)) s:=by simp only[dSl,(show Dd.cutD xs none (some i)=xs.take i from by
  unfold Dd.cutD;rw[HT.z9S,HT.zd8];simp[List.take_eq_take_min])]
theorem z3E(xs:List D)(i:Nat)(s:Sto):dSl (.tup xs) (some (i:Int)) none s=.ok (.tup (xs.drop i)) s:=by simp only[dSl,(show Dd.cutD xs (some i) none=xs.drop i from by
  unfold Dd.cutD;rw[HT.z9S,HT.zd8];by_cases h:i<=xs.length
  ·rw[Nat.min_eq_left h];exact _a9 (by simp)
  ·rw[Nat.min_eq_right (by lia)];simp[List.drop_of_length_le (show xs.length<=i by lia)])]
theorem zgR{f g h:FE}    {j:Nat}(hf:f ρ s=.ok (.tup xs) s)(hg:g ρ s=.ok (.int j) s)(hl:xs.length<=1000): eOp ug (eSl f zW (wD g)) (eSl f (wD (eOp ug g (eC (.int 1)))) zW) ρ s=.ok (.tup (xs.take j++xs.drop (j+1))) s:=by
 have e2:=z3E xs (j+1) s;rw[show ((j+1:Nat))=(j:Int)+1 from rfl]at e2;simp only[ui,zbG,qm,z1j,z5H,hf,hg,Rb,z2V,(z2N xs j s),e2,z1C,_l (show (xs.take j).length+(xs.drop (j+1)).length<=cap from by simp[cap];lia)]
theorem z7j  (i j:Nat) (s:Sto) (hT:T.length<=4) (hr:∀r∈T,r.length<=4):xB [tD T,.int i,.int j] s=.ok (tD (kr T i j)) s:=by
 have h0:=zgR (f:=zd 0) (g:=zd 1) (h:=zd 0) (ρ:=[some (tD T),some (.int i),some (.int j),none]) (s:=s) (xs:=T.map rD) (j:=i) (by rfl) (by rfl) (by simp;lia);have:=(λd K h hK oQ=>by
  have st:zH ["lines","at_line","at_column","kept"] [d,.int i,.int j]=[some d,some (.int i),some (.int j),none]:=rfl;simp only[xB,Mof,z5a,st,_n,_I,_G];rw[zr (ρ':=[some d,some (.int i),some (.int j),some (.tup (K.map rD))]) (s':=s) (by rw[z35,yW,h];rfl)];have c:zu (zM (zd 3)) [some 2,none] (yu 1) zV (eOp ug (eSl (zd 1) zW (wD (zd 0))) (eSl (zd 1) (wD (eOp ug (zd 0) (eC (.int 1)))) zW)) [some d,some (.int i),some (.int j),some (.tup (K.map rD))] s=.ok (.lst (K.map λr=>rD (r.take j++r.drop (j+1)))) s:=by
   rw[vM,uJ];simp only[z00,yT,_g,_k,Rb];rw[vo rD (λr=>rD (r.take j++r.drop (j+1))) K [] (by
    intro r cT;simp only[z1W,Rb,z1m,qf,qi,uQ,_g,_k,_be,_aN,_aq];rw[(zgR (f:=zd 1) (g:=zd 0) (h:=zd 0) (ρ:=[some (.int j),some (rD r)]) (s:=s) (xs:=iL r) (j:=j) (by rfl) (by rfl) (by have:=oQ r cT;simp;lia)),Rb];simp[_bY]) (by simp[cap];lia),Rb,_aX]
  rw[z3g,yy,yd,zB,c,Rb,zY,Rb,Rb,(show yr [.lst (K.map λr=>rD (r.take j++r.drop (j+1)))] s=.ok (.tup (K.map λr=>rD (r.take j++r.drop (j+1)))) s from by rfl),Rb]:∀(d:D) (K:Tb),(eOp ug (eSl (zd 0) zW (wD (zd 1))) (eSl (zd 0) (wD (eOp ug (zd 1) (eC (.int 1)))) zW)) [some d,some (.int i),some (.int j),none] s=.ok (.tup (K.map rD)) s->K.length<=4->(∀r∈K,r.length<=4)-> xB [d,.int i,.int j] s=.ok (.tup (K.map λr=>rD (r.take j++r.drop (j+1)))) s) (tD T) (T.take i++T.drop (i+1)) (by rw[h0];simp[List.map_take,_bY]) (by simp;lia) (λr cT=>hr r ((λr hr=>(_D.mp hr).elim _N _aS) r cT));rw[this];simp[kr,_C]
theorem z90(r:List Int):z3V 0 (iL r)=(List.range r.length).map λ(j:Nat)=>D.tup [.int (j:Int),.int (r.getD j 0)]:=by
 apply List.ext_getElem?;intro k;by_cases h:k<r.length
 ·have h1:k<(z3V 0 (iL r)).length:=by rw[uS];simpa using h
  obtain⟨x,e1,e2⟩:=z64 (_c h1);rw[_c h1,e2];simp only[_ae,_c h,_a8,_K]at e1;rw[<- e1];simp[h,List.getD]
 ·rw[_W (by rw[uS];simp;lia),_W (by simp;lia)]
theorem z77  {j:Nat}(s:Sto)(h:j<r.length):dIx (rD r) (.int (j:Int)) s=.ok (.int (r.getD j 0)) s:=zd9    s (by simp[_c h,List.getD])
theorem zgh(i j:Nat):(sg i j).natAbs<2 ^ 1:=by rw[zcF];decide
theorem z2P  (hm:m<=400):∀(k:Nat) (T:Tb) (s:Sto),T.length<=k->1<=T.length->T.length<=4->(∀r∈T,r.length=T.length)->Bd m T->yx k [tD T] s=.ok (.int (det k T)) s
 | 0,T,s,h0,h1,_,_,_=>by lia | k+1,T,s,h0,h1,h4,hr,hb=>by
  have ih:=λU oR oS oT oU oV=>z2P hm k U s oR oS oT oU oV;have mK:T.getD 0 []∈T:=by rw[List.getD,_c (by lia)];exact _aE _
  have l0:=hr _ mK;have b0:=hb _ mK;have gl:xO [tD T] s=.ok (.int T.length) s:=by simp[xO,yc]
  have i0:dIx (tD T) (.int 0) s=.ok (rD (T.getD 0 [])) s:=by exact (zd9 (xs:=T.map rD) (j:=0) (d:=rD (T.getD 0 [])) s (by simp[_c (show 0<T.length by lia),List.getD]))
  have st:∀d:D,zH ["lines"] [d]=[some d]:=λ_=>rfl;by_cases he:T.length=1
  ·have key:∀(d e:D) (x:Int),xO [d] s=.ok (.int 1) s->dIx d (.int 0) s=.ok e s->dIx e (.int 0) s=.ok (.int x) s->yx (k+1) [d] s=.ok (.int x) s:=λd e x a1 a2 a3=>by
    rw[yx];simp only[Mof,jB,st,_n,_I,_G];rw[zhn (d:=.int x) (s':=s) (by simp[a1,a2,a3])]
   rw[key (tD T) _ _ (by rw[gl,he];rfl) i0 (z77 (j:=0) s (by lia)),det,_l he]
  ·have en:=z90 (T.getD 0 []);rw[l0]at en;have wl:∀j,(kr T 0 j).length=T.length-1:=λj=>z2o (by lia);have wr:∀j,j<T.length->∀r∈kr T 0 j,r.length=(kr T 0 j).length:=λj hj r cT=>by
    rw[wl];obtain⟨q,hq,rfl⟩:=_m.mp cT;have:=hr q ((_D.mp hq).elim _N _aS);simp;lia
   have gK:∀j∈List.range T.length,xU [.int 0,.int j] s=.ok (.int (sg 0 j)) s/\xB [tD T,.int 0,.int j] s=.ok (tD (kr T 0 j)) s/\yx k [tD (kr T 0 j)] s=.ok (.int (det k (kr T 0 j))) s/\ xG (.int (sg 0 j)) (.int ((T.getD 0 []).getD j 0)) s=.ok (.int (sg 0 j*(T.getD 0 []).getD j 0)) s/\xG (.int (sg 0 j*(T.getD 0 []).getD j 0)) (.int (det k (kr T 0 j))) s=.ok (.int (sg 0 j*(T.getD 0 []).getD j 0*det k (kr T 0 j))) s:=λj hj=>by
    have s1  := z82 0 j s;have s3:=ih (kr T 0 j) (by rw[wl];lia) (by rw[wl];lia) (by rw[wl];lia) (wr j (by simpa using hj)) (z1n hb 0 j);have b1:=z5x b0 j;have b2:=za4 k (kr T 0 j) (z1n hb 0 j) (by rw[wl];lia) (by rw[wl];lia);have m1:=z0g s (zgh 0 j) (by decide) b1 (by lia);have m2:=z0g s (zcD (zgh 0 j) b1) (by lia) (_q b2 (_Z (by decide) (by
     rw[wl];have:(T.length-1)*m<=3*m:=_aA _ (by lia);lia))) (_h _);exact⟨s1,(z7j 0 j s h4 (λr cT=>by rw[hr r cT];exact h4)),s3,m1,m2⟩
   rw[det,_p he];refine (λd e n a1 a2 a3 x a4=>by
    rw[yx];simp only[Mof,jB,st,_n,_I,_G];rw[zr (ρ':=[some d]) (s':=s) (by simp[a1,a2])];rw[z0u,yy,yd,zB,a3,Rb,zY,Rb,Rb,a4,Rb]:∀(d e:D) (n:Int),xO [d] s=.ok (.int n) s->n≠1->(zu (zf0 (za (eOp dIx (zd 0) (eC (.int 0))) zi)) [some 0,none,none] (qr 1 2) zV (eOp xG (eOp xG (ze xU (za (eC (.int 0)) (za (zd 1) zi))) (zd 2)) (ze (yx k) (za (ze xB (za (zd 0) (za (eC (.int 0)) (za (zd 1) zi)))) zi)))) [some d] s=.ok e s-> ∀x,zcs [e] s=.ok (.int x) s->yx (k+1) [d] s=.ok (.int x) s) (tD T) (.lst (iL ((List.range T.length).map λj=>sg 0 j*(T.getD 0 []).getD j 0*det k (kr T 0 j)))) T.length gl (by lia) ?_ _ (za6 _ s);rw[vM,uJ];simp only[zje,zB,zY,ui,yT,z5H,_g,Rb,i0,zbS];rw[en];rw[vo (λj:Nat=>D.tup [.int j,.int ((T.getD 0 []).getD j 0)]) (λj:Nat=>D.int (sg 0 j*(T.getD 0 []).getD j 0*det k (kr T 0 j))) (List.range T.length) [] (by
    intro j hj;obtain⟨s1,s2,s3,m1,m2⟩:=gK j hj;simp only[zc4,Rb,z1m,_G,qf,qi,uQ,_g,_k,_be,_aN,_aq,ui,yd,zB,zY,z5H,yT,s1,s2,s3,m1,m2]) (by simp[cap];lia)];simp[_C]
theorem zam   (s:Sto)(hn:n=1\/Sz n)(h:Tab n T)(hb:Bd m T)(hm:m<=400):xq [tD T] s=.ok (.int (det 4 T)) s:=by
 have hl:=h.len;exact z2P hm 4 T s (by lia) (by lia) (by lia) (λr hr=>by rw[h.row r hr,hl]) hb
theorem z7P   (s:Sto) (hn:Sz n) (h:Tab n T) (hb:Bd m T) (hm:m<=400):wV [tD T] s=.ok (.int (det 4 T)) s:=by
 have w1:=js s hn h;exact (λd x a1 a2=>by
  have st:zH ["table"] [d]=[some d]:=rfl;simp only[wV,Mof,z0m,st,_n,_I,_G];rw[zr (ρ':=[some d]) (s':=s) (by simp[a1])];simp only[kT,yy,yd,zB,zY,yT,_g,Rb,a2]:∀(d:D) (x:Int),yG [d] s=.ok .non s->xq [d] s=.ok (.int x) s->wV [d] s=.ok (.int x) s) _ _ w1 (zam s (.inr hn) h hb hm)
theorem z2g    (h:Tab n T)(hi:i<n)(hj:j<n):Tab (n-1) (kr T i j):=by
 refine⟨by rw[z2o (by rw[h.len];exact hi),h.len],λr hr=>?_⟩;obtain⟨q,hq,rfl⟩:=_m.mp hr;have:=h.row q ((_D.mp hq).elim _N _aS);simp;lia
theorem tbE     (s:Sto)(hn:Sz n)(h:Tab n T)(hb:Bd m T)(hm:m<=400)(ht:t.natAbs<2 ^ 1)(hi:i<n)(hj:j<n): (eOp xG (eOp xG (zd 0) (ze xU (za (zd 1) (za (zd 3) zi)))) (ze xq (za (ze xB (za (zd 2) (za (zd 3) (za (zd 1) zi)))) zi))) [some (.int t),some (.int (i:Int)),some (tD T),some (.int (j:Int))] s=.ok (.int (t*sg i j*det 4 (kr T j i))) s:=by
 have s1:=z82 i j s;have s2:=z7j  j i s (by rw[h.len];lia) (h.le hn);have s3:=zam  s (by lia) (z2g h hj hi) (z1n hb j i) hm;have b2:=za4 4 (kr T j i) (z1n hb j i) (by rw[(z2g h hj hi).len];lia) (by rw[(z2g h hj hi).len];lia);simp only[ui,yd,zB,zY,yT,_g,_k,Rb,s1,s2,s3,(z0g s ht (by decide) (zgh i j) (by decide)),(z0g s (zcD ht (zgh i j)) (by decide) (_q b2 (_Z (by decide) (by
  rw[(z2g h hj hi).len];have:(n-1)*m<=3*m:=_aA _ (by lia);lia))) (_h _))]
theorem tbI     (s:Sto) (hn:Sz n) (h:Tab n T) (hb:Bd m T) (hm:m<=400) (ht:t.natAbs<2 ^ 1) (hi:i<n): zu (zM (zd 0)) [some 1,some 3,some 2,none] (yu 3) zV (eOp xG (eOp xG (zd 0) (ze xU (za (zd 1) (za (zd 3) zi)))) (ze xq (za (ze xB (za (zd 2) (za (zd 3) (za (zd 1) zi)))) zi))) [some (.lst (yP n)),some (.int t),some (tD T),some (.int (i:Int))] s= .ok (.lst (iL ((List.range n).map λj=>t*sg i j*det 4 (kr T j i)))) s:=by
 rw[vM,uJ];simp only[z00,yT,_g,Rb,yP];rw[vo (λk:Nat=>D.int k) (λj:Nat=>D.int (t*sg i j*det 4 (kr T j i))) (List.range n) [] (by
  intro j hj;simp only[z1W,Rb,z1m,_G,qf,qi,uQ,_g,_k,_be,_aN,_aq];rw[(tbE   s hn h hb hm ht hi (by simpa using hj)),Rb]) (by simp[cap];lia)];simp[_C]
theorem tbO   (s:Sto) (hn:Sz n) (h:Tab n T) (hb:Bd m T) (hm:m<=400) (ht:(det 4 T).natAbs<2 ^ 1): zu (zM (zd 2)) [some 2,some 1,some 0,none] (yu 3) zV (ze yr (za (zu (zM (zd 0)) [some 1,some 3,some 2,none] (yu 3) zV (eOp xG (eOp xG (zd 0) (ze xU (za (zd 1) (za (zd 3) zi)))) (ze xq (za (ze xB (za (zd 2) (za (zd 3) (za (zd 1) zi)))) zi)))) zi)) [some (tD T),some (.int (det 4 T)),some (.lst (yP n))] s=.ok (.lst ((back T).map rD)) s:=by
 rw[vM,uJ];simp only[z00,yT,_g,_k,Rb];rw[show yP n=(List.range n).map (λk:Nat=>D.int k) from rfl,vo (λk:Nat=>D.int k) (λi:Nat=>rD ((List.range n).map λj=>det 4 T*sg i j*det 4 (kr T j i))) (List.range n) [] (by
  intro i hi;have q:=tbI  s hn h hb hm ht (by simpa using hi);rw[show yP n=(List.range n).map (λk:Nat=>D.int k) from rfl]at q;simp only[z1W,Rb,z1m,_G,qf,qi,uQ,_g,_k,_be,_aN,_aq];rw[yd,zB,q,Rb,zY,Rb,Rb,(λx=>by rfl:∀x:List D,yr [.lst x] s=.ok (.tup x) s),Rb]) (by simp[cap];lia),Rb,_aX];simp only[back,h.len,_aG,_C]
theorem z5k   (s:Sto) (hn:Sz n) (h:Tab n T) (hb:Bd m T) (hm:m<=400) (hf:kf T):wj [tD T] s=.ok (tD (back T)) s:=by
 have w1:=z7P s hn h hb hm;have c:=tbO s hn h hb hm (by rcases hf with e | e<;>rw[e]<;>decide);exact (λd t x a1 a2 a3 a4=>by
  have st:zH ["table","own","places"] [d]=[some d,none,none]:=rfl;simp only[wj,Mof,kF,st,_n,_I,_G];rw[zr (ρ':=[some d,some (.int t),none]) (s':=s) (by simp[a1]),zr (ρ':=[some d,some (.int t),none]) (s':=s) (by rcases a2 with rfl | rfl<;>rfl),zr (ρ':=[some d,some (.int t),some (.lst (yP n))])  (by
   simp only[jz,yW,zks,zB,zY,yd,yT,_g,Rb,a3,_l (show (0:Int)<=n/\(n:Int)<=1000 from by lia),_bo];rfl)];rw[jw,yy,yd,zB,a4,Rb,zY,Rb,Rb,(show yr [.lst x] s=.ok (.tup x) s from by rfl),Rb]:∀(d:D) (t:Int) (x:List D),wV [d] s=.ok (.int t) s->(t=1\/t=-1)->xO [d] s=.ok (.int n) s->zu (zM (zd 2)) [some 2,some 1,some 0,none] (yu 3) zV (ze yr (za (zu (zM (zd 0)) [some 1,some 3,some 2,none] (yu 3) zV (eOp xG (eOp xG (zd 0) (ze xU (za (zd 1) (za (zd 3) zi)))) (ze xq (za (ze xB (za (zd 2) (za (zd 3) (za (zd 1) zi)))) zi)))) zi)) [some d,some (.int t),some (.lst (yP n))] s=.ok (.lst x) s->wj [d] s=.ok (.tup x) s) _ _ _ w1 hf (by simp[xO,yc,h.len]) c
theorem jq{α:Type}    (g f:α->D)(p:α->Bool):∀(l:List α)(af:List D),(∀a∈l,body (g a) s=.ok (if p a=true then some (f a) else none) s)->af.length+l.length<=cap->vw [] all body (l.map g) af s=.ok (af++(l.filter p).map f) s
 | [],af,_,_=>by simp[vw,okG] | x::xs,af,hb,hl=>by
  rw[_A,vw,_l (by intro p hp;cases hp),hb x (by simp)];cases hp:p x with
  | true=> simp[(show af.length<cap from by simp at hl;lia),(jq (all:=all) g f p xs (af++[f x]) (λy hy=>hb y (by simp[hy])) (by simp at hl ⊢;lia)),hp] | false=> simp[(jq (all:=all) g f p xs af (λy hy=>hb y (by simp[hy])) (by simp at hl ⊢;lia)),hp]
theorem qP{α:Type}        (g f:α->D)(p:α->Bool)(ev:α->Ev)(l:List α) (hi:fi ρ s=.ok (l.map g,[]) s)(hg:∀a∈l,fg (g a) (yI mp ρ) s=.ok (ev a) s)(ht:∀a∈l,ft (ev a) s=.ok (p a) s)(he:∀a∈l,p a=true->fe (ev a) s=.ok (f a) s)(hl:l.length<=cap): zu fi mp fg ft fe ρ s=.ok (.lst ((l.filter p).map f)) s:=by
 rw[vM,uJ,hi,Rb,jq g f p l [] (by
  intro a ha;simp only[hg a ha,ht a ha,Rb];cases hp:p a with
  | true=>simp[he a ha hp] | false=>rfl) (by simpa using hl)];rfl
theorem comp_map{α:Type}       (g f:α->D)(ev:α->Ev)(l:List α) (hi:fi ρ s=.ok (l.map g,[]) s)(hg:∀a∈l,fg (g a) (yI mp ρ) s=.ok (ev a) s)(he:∀a∈l,fe (ev a) s=.ok (f a) s)(hl:l.length<=cap): zu fi mp fg zV fe ρ s=.ok (.lst (l.map f)) s:=by
 have:=qP (ft:=zV) g f (λ_=>true) ev l hi hg (λa _=>rfl) (λa ha _=>he a ha) hl;rw[(_bU.mpr (by simp))]at this;exact this
theorem uX     (h:f ρ s=.ok (.tup xs) s):zM f ρ s=.ok (xs,[]) s:=by simp[h]
theorem yZ     (h:f ρ s=.ok (.lst xs) s):zM f ρ s=.ok (xs,[]) s:=by simp[h]
structure LotB(n m:Nat)(v:List Int):Prop extends Lot n v where bd:∀x∈v,x<2 ^ m
theorem LotB.abs{n m:Nat}{v:List Int}(h:LotB n m v):∀x∈v,x.natAbs<2 ^ m:=λx hx=>by
 have:(x.natAbs:Int)<((2 ^ m:Nat):Int):=by rw[(_bK (h.nn x hx))];exact (h.bd x hx)
 lia
theorem LotB.toN   (h:LotB n m v):∀x∈v,x.toNat<2 ^ m:=λx hx=>by
 have h1:=h.abs x hx;lia
theorem _root_.Pm.Lot.le4   (h:Lot n v):v.length<=4/\2<=v.length:=by have:=h.len;have:=h.sz;lia
theorem zfW   (h:Lot n v)(s:Sto):jO [rD v] s=.ok (.bl true) s:=by
 have l4:=h.le4;have h1:=z4Y (iL v) s (by simp;lia);have h2:=uO v s (by lia);have g1:=z3k s h.ne;have g2:=zcX s h.ne;have mx:0<maxL v:=by obtain⟨x,hx,h0⟩:=h.pos;have:=maxL_ge  x hx;lia
 exact (λd a1 a2 a3 a4 a5=>by simp[jO,Mof,z6S,zH,a1,a2,a3,a4,a5,(h.nn _ (minL_mem h.ne)),mx]:∀d:D,vB [d] s=.ok (.bl true) s->xO [d] s=.ok (.int v.length) s->yw [d,.int v.length] s=.ok (.bl true) s->wP [d] s=.ok (.int (maxL v)) s->qI [d] s=.ok (.int (minL v)) s->jO [d] s=.ok (.bl true) s) _ h1 (by simp[xO,yc]) h2 g1 g2
theorem jQ   (h:Lot n v)(s:Sto):yN [rD v] s=.ok .non s:=by exact (λd a1=>by simp[yN,Mof,z3s,zH,a1]:∀d:D,jO [d] s=.ok (.bl true) s->yN [d] s=.ok .non s) _ (zfW h s)
theorem nzC     {mp:List (Option Nat)}(hf:f ρ s=.ok (rD v) s)(hl:v.length<=4):zu (zM f) [none] (yu 0) (tOf (eOp dNe (zd 0) (eC (.int 0)))) (zd 0) ρ s=.ok (.lst (iL (nz v))) s:=by
 rw[qP D.int D.int (λx=>decide (x≠0)) (λx=>[some (.int x)]) v (uX hf) (λa _=>by rfl) (λa _=>by simp) (λa _ _=>by rfl) (by simp[cap];lia)];rfl
theorem z2v   (h:Lot n v) (s:Sto):xu [rD v] s=.ok (.bl (ended v)) s:=by exact (λd a1 a2=>by
  have st:zH ["lot"] [d]=[some d]:=rfl;simp only[xu,Mof,z1x,st,_n,_I,_G];rw[zr (ρ':=[some d]) (s':=s) (by simp[a1])];simp only[z0K,yy,ui,yd,zB,zY,z5H,a2,Rb];simp only[xO,yc,Rb,z47,_z];have:decide (((nz v).length:Int)=1)=ended v:=by
   unfold ended;by_cases e:(nz v).length=1;·simp[e]
   ·have:¬ ((nz v).length:Int)=1:=by lia
    simp[e,this]
  rw[this]:∀d:D,yN [d] s=.ok .non s->zu (zM (zd 0)) [none] (yu 0) (tOf (eOp dNe (zd 0) (eC (.int 0)))) (zd 0) [some d] s=.ok (.lst (iL (nz v))) s->xu [d] s=.ok (.bl (ended v)) s) _ (jQ h s) (nzC (mp:=[]) (by rfl) h.le4.1)
end Pg
namespace Pg
open L2 Dd Pm
def nmR:Rl->Str | .nx=>"next" | .le=>"least" | .al=>"all" | .tu=>"turn"
theorem zcz      (h1:fo ρ s=.ok (rD v) s)(h2:fv ρ s=.ok (.int k) s)(hk:k∈v):zhx fo fv ρ s=.ok (.int (v.idxOf k:Nat)) s:=by simp only[zki,h1,h2,Rb,yO,_l hk]
theorem z50   (h:Lot n v) (s:Sto):zN [rD v] s=.ok (.tup [.int (gp v:Nat),rD (others v)]) s:=by
 have l4:=h.le4;have g1:=z3k s h.ne;exact (λd hd=>by
  have st:zH ["lot","at"] [d]=[some d,none]:=rfl;have gm:wP [d] s=.ok (.int (maxL v)) s:=by rw[hd];exact g1
  have i1:zhx (zd 0) (ze wP (za (zd 0) zi)) [some d,none] s=.ok (.int (gp v)) s:=zcz (by simp[hd]) (by exact gm ..) (maxL_mem h.ne);simp only[zN,Mof,vx,st,_n,_I,_G];rw[zr (ρ':=[some d,some (.int (gp v))]) (s':=s) (by rw[wY,yW,i1];rfl)];have e2:=z3E (iL v) (gp v+1) s;rw[show ((gp v+1:Nat))=((gp v):Int)+1 from rfl]at e2;simp only[va,yy,z4x,zB,zY,yT,ui,zbG,qm,z1j,z5H,_g,_k,Rb,z2V,hd,(z2N (iL v) (gp v) s),e2];rw[_l (by decide),Rb,z1C,_l (by simp[cap];omega),Rb,e2,Rb,z1C,_l (by simp[cap];omega),Rb,Rb,Rb,_l (by simp[cap])];simp[others,_bY]:∀d:D,d=rD v->zN [d] s=.ok (.tup [.int (gp v),rD (others v)]) s) _ rfl
theorem z0X  (h:nz v≠[]) (hl:v.length<=4) (s:Sto):yU [rD v] s=.ok (.int (lp v:Nat)) s:=by
 exact (λd hd=>by
  have st:zH ["lot"] [d]=[some d]:=rfl;have gm:qI [.lst (iL (nz v))] s=.ok (.int (minL (nz v))) s:=by
   obtain⟨a,t,e⟩:=_aW h;rw[e];simp only[qI,yc,_ad,iL];rw[yO]
  simp only[yU,Mof,kg,st,jE,yy];rw[zcz   (by simp[hd]) (by rw[yd,zB,(nzC (mp:=[]) (f:=zd 0) (ρ:=[some d]) (s:=s)  (by simp[hd]) hl)];exact gm ..) (qW.mp (minL_mem h)).1];rfl:∀d:D,d=rD v->yU [d] s=.ok (.int (lp v)) s) _ rfl
noncomputable abbrev nL(l:List Nat):List D:=l.map λi=>D.int ((i:Nat):Int)
theorem z7G {v:List Int} (p:Nat) (hl:v.length<=4) (s:Sto):vS [rD v,.int (p:Nat)] s=.ok (.lst (nL (uv v p))) s:=by
 exact (λd hd=>by
  have st:zH ["lot","place"] [d,.int p]=[some d,some (.int p)]:=rfl;simp only[vS,Mof,z4t,st,z36,yy];rw[qP (λi:Nat=>D.int ((i:Nat):Int)) (λi:Nat=>D.int ((i:Nat):Int)) (λi=>decide (i≠p)) (λi=>[some (.int (p:Nat)),some (.int (i:Nat))]) (List.range v.length) (by
   rw[zcC (n:=v.length) (s1:=s) (by omega) (by simp[hd])];rfl) (λa _=>by rfl) (λa _=>by
   have:decide ((a:Int)≠(p:Nat))=decide (a≠p):=by
    by_cases e:a=p;·simp[e]
    ·have:¬ (a:Int)=(p:Nat):=by omega
     simp[e,this]
   simp only[z9n,ui,yT,_k,_g,Rb,znt,this]) (λa _ _=>by rfl) (by simp[cap];omega)];rfl:∀d:D,xO [d] s=.ok (.int v.length) s->vS [d,.int p] s=.ok (.lst (nL (uv v p))) s) _ (by simp[xO,yc])
noncomputable abbrev z3w(d:Nat×List Nat):D:=.tup [.int d.1,.lst (nL d.2)]
theorem zc9   (h:Lot n v) (s:Sto):uz [rD v] s=.ok (z3w (deal .nx v)) s:=by
 have ne:others v≠[]:=λz=>by
  have:=um h.ne;rw[z]at this;exact h.ne (_bt.mp this.symm)
 have g1:=z3k  s ne;exact (λd e he hg=>by
  have st:zH ["lot","greatest","others"] [d]=[some d,none,none]:=rfl;have gm:wP [e] s=.ok (.int (maxL (others v))) s:=by rw[he];exact g1
  simp only[uz,Mof,z4A,st,_G];rw[zr (ρ':=[some d,some (.int (gp v)),some e]) (s':=s) (by simp[hg])];simp only[z3B,yy,z4x,zB,(zcz  (by simp[he]) (by exact gm ..) (maxL_mem ne):zhx (zd 2) (ze wP (za (zd 2) zi)) [some d,some (.int (gp v:Nat)),some e] s=.ok (.int ((others v).idxOf (maxL (others v)):Nat)) s),_k];rfl:∀d e:D,e=rD (others v)->zN [d] s=.ok (.tup [.int (gp v),e]) s->uz [d] s=.ok (z3w (deal .nx v)) s) _ _ rfl (z50 h s)
theorem zbI   (h:Lot n v) (he:ended v=false) (s:Sto):vD [rD v] s=.ok (z3w (deal .le v)) s:=by
 have g:=z50 h s;exact (λd e he hg=>by
  have st:zH ["lot","greatest","others"] [d]=[some d,none,none]:=rfl;simp only[vD,Mof,z3r,st,_G];rw[zr (ρ':=[some d,some (.int (gp v:Nat)),some e]) (s':=s) (by simp[hg])];simp[he,cap,deal]:∀d e:D,yU [e] s=.ok (.int (lp (others v):Nat)) s->zN [d] s=.ok (.tup [.int (gp v:Nat),e]) s->vD [d] s=.ok (z3w (deal .le v)) s) _ _ (z0X (z2Q h he) (by rw[um h.ne];exact h.le4.1) s) g
theorem zfQ   (h:Lot n v) (s:Sto):qO [rD v] s=.ok (z3w (deal .al v)) s:=by
 have ab:=z7G  (lp v) h.le4.1 s;exact (λd h1 h2=>by
  have st:zH ["lot","by"] [d]=[some d,none]:=rfl;simp only[qO,Mof,z7L,st,_G];rw[zr (ρ':=[some d,some (.int (lp v:Nat))]) (s':=s) (by simp[h1])];simp[h2,cap,deal]:∀d:D,yU [d] s=.ok (.int (lp v:Nat)) s->vS [d,.int (lp v:Nat)] s=.ok (.lst (nL (uv v (lp v)))) s->qO [d] s=.ok (z3w (deal .al v)) s) _ (z0X h.nzne h.le4.1 s) ab
theorem zcU   (h:Lot n v) (s:Sto):uC [rD v] s=.ok (z3w (deal .tu v)) s:=by
 have ab:=z7G  0 h.le4.1 s;exact (λd h1 h2=>by
  have st:zH ["lot"] [d]=[some d]:=rfl;simp only[uC,Mof,z4U,st,_n,_I,_G];by_cases z:v.getD 0 0=0;·rw[zhn (d:=z3w (deal .tu v)) (s':=s) (by
    rw[z]at h1;rw[(show deal .tu v=(0,[]) from by show (0,if v.getD 0 0=0 then [] else uv v 0)=_;rw[_l z])];simp[h1,cap])]
  ·rw[zr (ρ':=[some d]) (s':=s) (by
    generalize v.getD 0 0=y at *;simp[h1,z])];rw[(show deal .tu v=(0,uv v 0) from by show (0,if v.getD 0 0=0 then [] else uv v 0)=_;rw[_p z])];simp[h2,cap]:∀d:D,dIx d (.int 0) s=.ok (.int (v.getD 0 0)) s->vS [d,.int 0] s=.ok (.lst (nL (uv v 0))) s->uC [d] s=.ok (z3w (deal .tu v)) s) _ (z77 (j:=0) s (by have:=h.le4.2;omega)) ab
theorem zcQ(r:Rl)(s:Sto):z0q [.str (nmR r)] s=.ok (.bl true) s:=by simp[z0q,Mof,z4w,zH,zo6,(λr=>by cases r<;>decide:∀r,(z0L.lookup (nmR r)).isSome=true)]
theorem z8K(r:Rl)(s:Sto):uF [.str (nmR r)] s=.ok .non s:=by simp[uF,Mof,z1T,zH,(zcQ r s)]
theorem z6V   (r:Rl)(h:Lot n v)(s:Sto):zS [.str (nmR r),rD v] s=.ok .non s:=by
 have h1:=z8K r s;exact (λd e a1 a2=>by simp[zS,Mof,vT,zH,a1,a2]:∀d e:D,uF [d] s=.ok .non s->yN [e] s=.ok .non s->zS [d,e] s=.ok .non s) _ _ h1 (jQ h s)
theorem z3q   (r:Rl)(h:Lot n v)(he:ended v=false)(s:Sto):xZ [.str (nmR r),rD v] s=.ok .non s:=by
 have h2:=z2v h s;rw[he]at h2;exact (λd e a1 a2=>by simp[xZ,Mof,z1X,zH,a1,a2]:∀d e:D,zS [d,e] s=.ok .non s->xu [e] s=.ok (.bl false) s->xZ [d,e] s=.ok .non s) _ _ (z6V r h s) h2
def dfR:Rl->Str | .nx=>"by_next" | .le=>"by_least" | .al=>"by_all" | .tu=>"by_turn"
def MR:Rl->Mir | .nx=>uz | .le=>vD | .al=>qO | .tu=>uC
theorem zpI   (r:Rl)(h:Lot n v)(he:ended v=false)(s:Sto):MR r [rD v] s=.ok (z3w (deal r v)) s:=by cases r with
 | nx=>exact zc9 h s | le=>exact zbI h he s | al=>exact zfQ h s | tu=>exact zcU h s
theorem zmB(r:Rl):z0L.lookup (nmR r)=some (dfR r):=by cases r<;>decide
theorem zqb(r:Rl):([("by_next",uz),("by_least",vD),("by_all",qO),("by_turn",uC)]:List (Str×Mir)).lookup (dfR r)=some (MR r):=by
 cases r;·rfl
 ·rfl
 ·rfl
 ·rfl
theorem zob(i:Nat)(l:List Nat)(s:Sto):zhT false (.int i) (.lst (nL l)) s=.ok (.bl (decide (i∈l))) s:=by
 have ev:∀a b:Int,eqV (.int a) (.int b)=(a==b):=λ_ _=>id rfl;have e2:∀l:List Nat,inV (.int i) (l.map λj=>V.int (j:Nat))=decide (i∈l):=by
  intro l;induction l with
  | nil=>rfl | cons a l ih=>
   simp only[inV,_A,_bW]at ih ⊢;rw[ih];by_cases q:i=a;·subst q;simp[ev]
   ·simp[ev,q,(show ¬ (a:Int)=i from by omega)]
 have pi:∀i:Int,z9W (.int i)=some (.int i):=λ_=>id rfl;simp only[zhT,pi,yc,_ad,(show ∀l:List Nat,z1k (nL l)=some (l.map λj=>V.int (j:Nat)) from by
  intro l;induction l with
  | nil=>rfl | cons a l ih=>simp[z1k,pi,ih]),e2];rfl
theorem zhj(x:List D)(s:Sto):yr [.lst x] s=.ok (.tup x) s:=by rfl
theorem z4y   (r:Rl) (h:LotB n m v) (he:ended v=false) (hm:m<=1999) (s:Sto):wX [.str (nmR r),rD v] s=.ok (.tup [.int ((deal r v).1:Nat),.lst (iL (yV v (deal r v)))]) s:=by
 have dl:=ux r h.toLot he;have l4:=h.toLot.le4;have oW:=zpI r h.toLot he s;have key:∀d e:D,e=.str (nmR r)->MR r [d] s=.ok (z3w (deal r v)) s->xO [d] s=.ok (.int v.length) s->(∀i,i<v.length->dIx d (.int (i:Nat)) s=.ok (.int (v.getD i 0)) s)->wX [e,d] s=.ok (.tup [.int ((deal r v).1),.lst (iL (yV v (deal r v)))]) s:=λd e j7 h1 h2 h3=>by
  have st:zH ["rule","lot","deal","by","divided"] [e,d]=[some e,some d,none,none,none]:=rfl;simp only[wX,Mof,z3R,st,_n,_I,_G];rw[zr (ρ':=[some e,some d,some (.fn (dfR r)),none,none]) (s':=s) (by simp[j7,(zmB r)])];rw[zr (ρ':=[some e,some d,some (.fn (dfR r)),some (.int ((deal r v).1:Nat)),some (.lst (nL (deal r v).2))]) (s':=s) (by
   rw[z1O,zm6,zfU];simp only[_g,_k];rw[(zqb r)];simp only[zB,zY,yT,_g,_k,Rb,h1,zc4,_aN,_aq])];have ir:z8w (za (ze xO (za (zd 1) zi)) zi) [some e,some d,some (.fn (dfR r)),some (.int ((deal r v).1)),some (.lst (nL (deal r v).2))] s=.ok ((List.range v.length).map λi=>D.int (i:Nat),[]) s:=by
   rw[zcC (n:=v.length) (s1:=s) (by lia) (by simp[h2])];rfl
  have c:=comp_map (mp:=[some 4,some 1,some 3,none]) (fg:=yu 3) (fe:=eIf (tOf (eOp (zhT false) (zd 3) (zd 0))) (eOp z46 (eOp dIx (zd 1) (zd 3)) (eOp dIx (zd 1) (zd 2))) (eC (.int 0))) (λi:Nat=>D.int (i:Nat)) (λi:Nat=>D.int (if i∈(deal r v).2 then v.getD i 0 / v.getD (deal r v).1 0 else 0)) (λi=>[some (.lst (nL (deal r v).2)),some d,some (.int ((deal r v).1)),some (.int i)]) (List.range v.length) ir (λa _=>by rfl) (λi hi=>by
    have i1:=zob i (deal r v).2 s;simp only[zlN,z9n,ui,yT,z5H,_g,_k,Rb,i1,(h3 i (by simpa using hi)),(h3 _ dl.lt)];by_cases q:i∈(deal r v).2
    ·simp only[q,decide_true,_G];rw[zdp,_l ⟨(by
      rcases dl.pos with z | z;·rw[z]at q;cases q
      ·exact z),(_q (h.abs _ (Pm.getD_mem dl.lt)) (_Z (by decide) (by lia)))⟩]
    ·simp only[q,decide_false,_aP];rfl) (by simp[cap];lia);simp only[z1U,yy,z4x,zB,c,Rb,zY,yT,_g,_k];rw[_l (by simp[cap])];simp[yV,_C]
 exact key _ _ rfl oW (by simp[xO,yc]) (λi hi=>z77 s hi)
theorem eq_str  (ha:PyData.strOk a=true)(hb:PyData.strOk b=true)(s:Sto):dEq (.str a) (.str b) s=.ok (.bl (a==b)) s:=by simp[dEq,zg8,eqD,zpD,PyData.eqv,SeqAt.shaped,PyData.canLay0,PyData.depth,ha,hb]
theorem zlF(r:Rl):PyData.strOk (nmR r)=true:=by cases r<;>decide +kernel
theorem zjw(r:Rl)(s:Sto):dEq (.str (nmR r)) (.str "turn") s=.ok (.bl (decide (r=.tu))) s:=by
 rw[eq_str (zlF r) (by decide +kernel)];congr 2;cases r<;>decide +kernel
theorem zdl(r:Rl)(xs:List D)(hl:xs.length<=4)(s:Sto):qH [.str (nmR r),.tup xs] s=.ok (.tup (mvd r xs)) s:=by
 have e1:=z2N xs 1 s;have e2:=z3E xs 1 s;have cp:(xs.drop 1).length+(xs.take 1).length<=cap:=by simp[cap];lia
 exact (λd e hd he=>by
  have st:zH ["rule","numbers"] [d,e]=[some d,some e]:=rfl;simp only[qH,Mof,zaG,st,z7e,yy,zlN,(show tOf (eOp dEq (zd 0) (eC (.str "turn"))) [some d,some e] s=.ok (decide (r=.tu)) s from by simp only[z9n,ui,yT,z5H,_g,Rb,hd,zjw]),Rb];by_cases q:r=.tu
  ·subst q;simp only[ui,zbG,yT,qm,z1j,z5H,_g,_k,Rb,he];rw[show (1:Int)=(1:Nat) from rfl,e2,Rb,e1,Rb,z1C,_l cp];rfl
  ·simp only[q,decide_false];rw[zab q];simp[he]:∀d e:D,d=.str (nmR r)->e=.tup xs->qH [d,e] s=.ok (.tup (mvd r xs)) s) _ _ rfl rfl
theorem z62{α β:Type}(f:α->D)(g:β->D):∀(l:List α)(k:List β),za8 (l.map f) (k.map g)=(l.zip k).map λp=>D.tup [f p.1,g p.2]
 | [],_=>by rfl | _::_,[]=>by rfl | a::l,b::k=>by simp[za8,z62 f g l k]
theorem zei  (r:Rl)(f:α->β)(xs:List α):mvd r (xs.map f)=(mvd r xs).map f:=by unfold mvd rot;split<;>simp[_bY]
theorem LotB.q   (r:Rl)(h:LotB n m v)(he:ended v=false):Qs v (deal r v).1 (yV v (deal r v)):=zbp h.nn (ux r h.toLot he)
theorem zmZ   (r:Rl)(h:LotB n m v)(he:ended v=false):∀q∈yV v (deal r v),0<=q/\q<2 ^ m:=λq hq=>by
 have Q:=h.q r he;refine⟨Q.nn q hq,?_⟩;obtain⟨i,hi,rfl⟩:=_v.mp hq;simp only[yV,_cx,List.getElem_range];have b:=h.bd _ (Pm.getD_mem (by rw[<- Q.len];exact hi));have n0:=uA h.nn i;split
 ·have:=Int.ediv_le_self (v.getD (deal r v).1 0) n0;lia
 ·lia
theorem zlc {n m:Nat} {v:List Int} (r:Rl) (h:LotB n m v) (he:ended v=false) (hm:m<=1999) (s:Sto):M_step [.str (nmR r),rD v] s=.ok (rD (stp r v)) s:=by
 have l4:=h.toLot.le4;have w:=z3q r h.toLot he s;have dl:=ux r h.toLot he;have ix  := z77 s dl.lt;have mo:=zdl r (iL (left v (yV v (deal r v)) (deal r v).1)) (by simp[vK (h.q r he).len];lia) s;have key:∀d e:D,e=rD v->xZ [d,e] s=.ok .non s->wX [d,e] s=.ok (.tup [.int ((deal r v).1),.lst (iL (yV v (deal r v)))]) s->qH [d,.tup (iL (left v (yV v (deal r v)) (deal r v).1))] s=.ok (.tup (mvd r (iL (left v (yV v (deal r v)) (deal r v).1)))) s-> M_step [d,e] s=.ok (rD (stp r v)) s:=λd e hd h1 h2 h3=>by
  have st:zH ["rule","lot","by","quotients","left"] [d,e]=[some d,some e,none,none,none]:=rfl;have oX:dIx e (.int ((deal r v).1)) s=.ok (.int (v.getD (deal r v).1 0)) s:=by rw[hd];exact ix
  simp only[M_step,Mof,zdx,st,_G];rw[zr (ρ':=[some d,some e,none,none,none]) (s':=s) (by simp[h1]),zr (ρ':=[some d,some e,some (.int ((deal r v).1)),some (.lst (iL (yV v (deal r v)))),none]) (s':=s) (by simp[h2])];have ir:zgi (za (zd 1) (za (zd 3) zi)) [some d,some e,some (.int ((deal r v).1)),some (.lst (iL (yV v (deal r v)))),none] s=.ok ((v.zip (yV v (deal r v))).map λp=>D.tup [.int p.1,.int p.2],[]) s:=by simp only[zcT,zB,zY,yT,_g,_k,Rb,hd,zbS,z62,_bz]
  have c:=comp_map (mp:=[some 1,some 2,none,none]) (fg:=qr 2 3) (fe:=eOp z9E (zd 2) (eOp xG (zd 3) (eOp dIx (zd 0) (zd 1)))) (λp:Int×Int=>D.tup [.int p.1,.int p.2]) (λp:Int×Int=>D.int (p.1-p.2*v.getD (deal r v).1 0)) (λp=>[some e,some (.int ((deal r v).1)),some (.int p.1),some (.int p.2)]) _ ir (λp _=>by rfl) (λp hp=>by
    have hq:=zmZ r h he p.2 (_bm hp).2;have ab:p.2.natAbs<2 ^ m:=by
     have:(p.2.natAbs:Int)<((2 ^ m:Nat):Int):=by rw[(_bK hq.1)];exact hq.2
     lia
    simp only[ui,yT,_g,_k,Rb,oX,(z0g   s ab (by lia) (h.abs _ (Pm.getD_mem dl.lt)) (by lia)),z9y]) (by simp[cap];lia);rw[(show (v.zip (yV v (deal r v))).map (λp:Int×Int=>D.int (p.1-p.2*v.getD (deal r v).1 0))=iL (left v (yV v (deal r v)) (deal r v).1) from by
   unfold left;show _=List.map D.int _;rw[List.zip,_bu,_bu])]at c;rw[zr (ρ':=[some d,some e,some (.int ((deal r v).1)),some (.lst (iL (yV v (deal r v)))),some (.tup (iL (left v (yV v (deal r v)) (deal r v).1)))]) (s':=s) (by
   rw[zaJ,yW,yd,zB,c];rfl)];simp only[zae,yy,yd,zB,zY,yT,_g,_k,Rb,h3];rw[zei];rfl
 exact key _ _ rfl w (z4y r h he hm s) mo
theorem yE{M:Mir}     (h:f ρ s=.ok x s):ze M (za f zi) ρ s=M [x] s:=by simp only[yd,zB,zY,h,Rb]
theorem call2{M:Mir}     (h:f ρ s=.ok x s)(h2:g ρ s=.ok y s):ze M (za f (za g zi)) ρ s=M [x,y] s:=by simp only[yd,zB,zY,h,h2,Rb]
theorem zbq{M:Mir}     (h:f ρ s=.ok x s)(h2:g ρ s=.ok y s)(h3:k ρ s=.ok z s):ze M (za f (za g (za k zi))) ρ s=M [x,y,z] s:=by simp only[yd,zB,zY,h,h2,h3,Rb]
theorem op2      (h:f ρ s=.ok x s)(h2:g ρ s=.ok y s):eOp o f g ρ s=o x y s:=by simp only[ui,h,h2,Rb]
theorem z10 {n:Nat} (hn:n<=4) (s:Sto):xA [.int n] s=.ok (tD (one n)) s:=by
 have st:zH ["size","places"] [.int n]=[some (.int n),none]:=rfl;simp only[xA,Mof,kC,st,_G];rw[zr (ρ':=[some (.int n),some (.lst (yP n))])  (by
  simp only[jy,yW,zks,zB,zY,yT,_g,Rb,_l (show (0:Int)<=n/\(n:Int)<=1000 from by lia),_bo];rfl)];simp only[jn,yy];rw[yd,zB,(comp_map (fi:=zM (zd 1)) (mp:=[some 1,none]) (fg:=yu 1) (fe:=ze yr (za (zu (zM (zd 0)) [some 1,none] (yu 1) zV (eIf (tOf (eOp dEq (zd 0) (zd 1))) (eC (.int 1)) (eC (.int 0)))) zi)) (ρ:=[some (.int n),some (.lst (yP n))]) (λk:Nat=>D.int (k:Int)) (λi:Nat=>rD ((List.range n).map λj=>if i=j then 1 else 0)) (λi=>[some (.lst (yP n)),some (.int ((i:Nat):Int))]) (List.range n) (yZ (by rfl)) (λa _=>by rfl) (λi _=>by
   rw[yd,zB,(λi=>by
  rw[comp_map (λk:Nat=>D.int (k:Int)) (λj:Nat=>D.int (if i=j then 1 else 0)) (λj=>[some (.int i),some (.int ((j:Nat):Int))]) (List.range n) (yZ (by rfl)) (λa _=>by rfl) (λj _=>by
   by_cases q:i=j;·subst q;simp
   ·have:¬ (i:Int)=j:=by lia
    simp[q,this]) (by simp[cap];lia)];simp[_C]:∀i:Nat,zu (zM (zd 0)) [some 1,none] (yu 1) zV (eIf (tOf (eOp dEq (zd 0) (zd 1))) (eC (.int 1)) (eC (.int 0))) [some (.lst (yP n)),some (.int ((i:Nat):Int))] s=.ok (.lst (iL ((List.range n).map λj=>if i=j then 1 else 0))) s) i];rfl) (by simp[cap];lia))];simp only[Rb,zY,zhj];simp[one,_C]
theorem z6f    (h:yc s x=some (xs++[d])):dIx x (.int (-1)) s=.ok d s:=by
 simp only[dIx,h,atI,(show ixN (xs++[d]).length (-1)=some xs.length from by
  unfold ixN;simp;lia),_ad];simp
theorem zfM(xs:List D)(d:D):Dd.cutD (xs++[d]) none (some (-1))=xs:=by
 unfold Dd.cutD;rw[(show HT.sIx (xs++[d]).length (xs++[d]).length (some (-1))=xs.length from by
  unfold HT.sIx;simp;lia)];simp[HT.sIx]
theorem z7V {n m:Nat} {v:List Int} (r:Rl) (h:LotB n m v) (he:ended v=false) (hm:m<=1999) (s:Sto):wU [.str (nmR r),rD v] s=.ok (tD (z2n r v)) s:=by
 have l4:=h.toLot.le4;have w:=z3q r h.toLot he s;have dv:=z4y r h he hm s;have dl:=ux r h.toLot he;have oY:=z10  l4.1 s;have mo  := λxs hx=>zdl r xs hx s;have key:∀d e:D,xO [e] s=.ok (.int v.length) s->xZ [d,e] s=.ok .non s->wX [d,e] s=.ok (.tup [.int ((deal r v).1),.lst (iL (yV v (deal r v)))]) s->(∀xs:List D,xs.length<=4->qH [d,.tup xs] s=.ok (.tup (mvd r xs)) s)-> wU [d,e] s=.ok (tD (z2n r v)) s:=λd e h0 h1 h2 h3=>by
  have st:zH ["rule","lot","by","quotients"] [d,e]=[some d,some e,none,none]:=rfl;simp only[wU,Mof,z0M,st,_n,_I,_G];rw[zr (ρ':=[some d,some e,none,none]) (s':=s) (by simp[h1]),zr (ρ':=[some d,some e,some (.int ((deal r v).1)),some (.lst (iL (yV v (deal r v))))]) (s':=s) (by simp[h2])];have ir:zgi (za (ze xA (za (ze xO (za (zd 1) zi)) zi)) (za (zd 3) zi)) [some d,some e,some (.int ((deal r v).1)),some (.lst (iL (yV v (deal r v))))] s=.ok (((one v.length).zip (yV v (deal r v))).map λp=>D.tup [rD p.1,.int p.2],[]) s:=by simp only[zcT,zB,zY,yT,yd,_g,_k,Rb,h0,oY,zbS,z62,_bz]
  have c:=comp_map (mp:=[some 0,some 2,none,none]) (fg:=qr 2 3) (fe:=ze qH (za (zd 0) (za (eOp ug (eOp ug (eSl (zd 2) zW (wD (zd 1))) (z5R (za (eOp ug (eOp dIx (zd 2) (zd 1)) (zd 3)) zi))) (eSl (zd 2) (wD (eOp ug (zd 1) (eC (.int 1)))) zW)) zi))) (λp:List Int×Int=>D.tup [rD p.1,.int p.2]) (λp:List Int×Int=>rD (mvd r (wG (deal r v).1 p.1 p.2))) (λp=>[some d,some (.int ((deal r v).1)),some (rD p.1),some (.int p.2)]) _ ir (λp _=>by rfl) (λp hp=>by
    have hl  := (z9m v.length).row p.1 (_bm hp).1;have hb:(deal r v).1<p.1.length:=by rw[hl];exact dl.lt
    have e1:=z2N (iL p.1) (deal r v).1 s;have e2:=z3E (iL p.1) ((deal r v).1+1) s;have e3:=z77  (j:=(deal r v).1) s hb;generalize (deal r v).1=b at *;have f1:eSl (zd 2) zW (wD (zd 1)) [some d,some (.int (b:Nat)),some (rD p.1),some (.int p.2)] s=.ok (.tup ((iL p.1).take b)) s:=by exact e1
    have f2:eSl (zd 2) (wD (eOp ug (zd 1) (eC (.int 1)))) zW [some d,some (.int (b:Int)),some (rD p.1),some (.int p.2)] s=.ok (.tup ((iL p.1).drop (b+1))) s:=by exact e2
    have f3:z5R (za (eOp ug (eOp dIx (zd 2) (zd 1)) (zd 3)) zi) [some d,some (.int (b:Int)),some (rD p.1),some (.int p.2)] s=.ok (.tup [.int (p.1.getD b 0+p.2)]) s:=by
     simp only[z4x,zB,zY,ui,yT,_g,_k,Rb,e3,z2V];rw[_l (by simp[cap])]
    rw[call2 (x:=d) (by rfl) (show eOp ug (eOp ug (eSl (zd 2) zW (wD (zd 1))) (z5R (za (eOp ug (eOp dIx (zd 2) (zd 1)) (zd 3)) zi))) (eSl (zd 2) (wD (eOp ug (zd 1) (eC (.int 1)))) zW) [some d,some (.int b),some (rD p.1),some (.int p.2)] s=.ok (.tup (iL (wG b p.1 p.2))) s from by
     rw[ui,ui,f1,Rb,f3,Rb,z1C,_l (by simp[cap];lia),Rb,f2,Rb,z1C,_l (by simp[cap];lia)];simp[wG,List.map_take,_bY]),h3 _ (by simp[wG];lia),zei]) (by simp[cap,one];lia);simp only[kN,yy];rw[yd,zB,c];simp only[Rb,zY,zhj];unfold z2n z8l;rw[wH];simp only[tD];rw[_bu,List.zip,_bu]
 exact key _ _ (by simp[xO,yc]) w dv mo
theorem _root_.Pg.LotB.step{n m:Nat}{v:List Int}(r:Rl)(h:LotB n m v)(he:ended v=false):LotB n m (stp r v):=by
 refine⟨h.toLot.step r he,λx hx=>?_⟩;have:=zmp (B:=2 ^ m-1) r h.toLot he (λy hy=>by have:=h.bd y hy;lia) x hx;lia
theorem zf9    (hd:d=.str (nmR r)) (hm:m<=1999) (s:Sto)   (Rn:Run r c ls):∀(pre:List (List Int)),LotB n m c->pre.length+ls.length<=50000-> uw (z3v (tOf (ze xu (za (eOp dIx (zd 2) (z3T (eC (.int 1)))) zi)))) z5y (ls.length+1) [some d,some e,some (.loc s.length)] (s++[(pre++[c]).map rD])=.ok (.nx [some d,some e,some (.loc s.length)]) (s++[(pre++ls).map rD]):=by
 have eW:∀(pre:List (List Int)) (c:List Int),LotB n m c->z3v (tOf (ze xu (za (eOp dIx (zd 2) (z3T (eC (.int 1)))) zi))) [some d,some e,some (.loc s.length)] (s++[(pre++[c]).map rD])=.ok (!ended c) (s++[(pre++[c]).map rD]):=λpre c h=>by
  simp only[zew,z9n,yd,zB,zY,ui,yT,z2M,z5H,_g,_k,Rb];rw[(z6f (x:=.loc s.length) (d:=rD c) (xs:=pre.map rD) (s:=s++[(pre++[c]).map rD]) (by simp[yc]))];simp only[Rb];rw[(z2v h.toLot (s++[(pre++[c]).map rD]))];rfl
 induction Rn with
 | @done v hend=>
  intro pre h hl;rw[uw,eW pre v h,hend];rfl | @step v ls hend Rn ih=>
  intro pre h hl;rw[_n,uw,eW pre v h,hend,Rb];have cC:=zlc r h hend hm (s++[(pre++[v]).map rD]);rw[<- hd]at cC;have ix:=z6f (x:=.loc s.length) (d:=rD v) (xs:=pre.map rD) (s:=s++[(pre++[v]).map rD]) (by simp[yc]);have body:z5y [some d,some e,some (.loc s.length)] (s++[(pre++[v]).map rD])=.ok (.nx [some d,some e,some (.loc s.length)]) (s++[(pre++[v]++[stp r v]).map rD]):=by
   have av:(s++[(pre++[v]).map rD]).set s.length ((pre++[v]).map rD++[rD (stp r v)])=s++[(pre++[v]++[stp r v]).map rD]:=by simp
   simp only[z5y,qd,zhD,yd,zB,zY,ui,yT,z2M,z5H,_g,_k,Rb];rw[ix];simp only[Rb];rw[cC];simp only[Rb];rw[(show (s++[(pre++[v]).map rD])[s.length]? = some ((pre++[v]).map rD) from by simp)];simp only;rw[_l ⟨(vH _),(by simp[cap]at hl ⊢;lia)⟩,av];rfl
  rw[body,Rb];simp only;rw[(ih (pre++[v]) (h.step r hend) (by simp at hl ⊢;lia))];simp
theorem zn5    (r:Rl) (h:LotB n m v) (Rn:Run r v ls) (hm:m<=1999) (hl:ls.length<=50000) (s:Sto):M_run [.str (nmR r),rD v] s=.ok (.loc s.length) (s++[ls.map rD]):=by
 have w:=z6V r h.toLot s;have key:∀d e:D,d=.str (nmR r)->e=rD v->M_run [d,e] s=.ok (.loc s.length) (s++[ls.map rD]):=λd e hd he=>by
  have st:zH ["rule","lot","lots"] [d,e]=[some d,some e,none]:=rfl;simp only[M_run,Mof,zhd,st,_G];rw[zr (ρ':=[some d,some e,none]) (s':=s) (by simp[(show zS [d,e] s=.ok .non s from by rw[hd,he];exact w)])];rw[zr   (by
   simp only[zdK,yW,zeb,zB,zY,yT,_k,_g,Rb];rw[_l ⟨by simp[cap],by simp[flC,flN,(show e.flat=true from by rw[he];exact (vH _))]⟩];rfl)];have lp:=zf9 (e:=e) hd hm s Rn [] h (by simpa using hl);rw[_aX]at lp;rw[show ([v]).map rD=[e] from by rw[he];rfl]at lp;rw[zr   (by exact zao lp (by simp))];rfl
 exact key _ _ rfl rfl
theorem zeu     (h:LotB n m v)(Rn:Run r v ls):∀a∈ls.dropLast,LotB n m a/\ended a=false:=by induction Rn with
 | done e=>simp | step e R2 ih=>
  intro a ha;rw[List.dropLast_cons_of_ne_nil R2.ne]at ha;rcases _r.mp ha with rfl | ha;·exact⟨h,e⟩
  ·exact ih (h.step r e) a ha
theorem ziu    (r:Rl)(h:LotB n m v)(Rn:Run r v ls)(hm:m<=1999)(hl:ls.length<=50000)    (hf:f ρ s=.ok (.str (nmR r)) s)(hg:g ρ s=.ok (rD v) s):z8J (ze M_run (za f (za g zi))) ρ s=.ok (.lst (ls.map rD)) s:=by rw[zbZ,call2 hf hg,zn5 r h Rn hm hl s,zay]
theorem z8D    (r:Rl) (h:LotB n m v) (Rn:Run r v ls) (hm:m<=1999) (hl:ls.length<=50000) (s:Sto):vC [.str (nmR r),rD v] s=.ok (.lst ((ye r ls).map tD)) s:=by
 have fz:=λ(f g:FE) ρ (hf:f ρ s=.ok (.str (nmR r)) s) (hg:g ρ s=.ok (rD v) s)=>ziu r h Rn hm hl hf hg;exact (λd e hd he=>by
  have st:zH ["rule","lot"] [d,e]=[some d,some e]:=rfl;obtain⟨z,hz⟩:∃z,ls=ls.dropLast++[z]:=⟨ls.getLast Rn.ne,(_bC Rn.ne).symm⟩;have sl:eSl (z8J (ze M_run (za (zd 0) (za (zd 1) zi)))) zW (wD (z3T (eC (.int 1)))) [some d,some e] s=.ok (.lst (ls.dropLast.map rD)) s:=by
   rw[zbG,(fz (zd 0) (zd 1) [some d,some e] (by simp[hd]) (by simp[he]))];simp only[Rb,qm,z1j,z2M,z5H,dSl,Dd.listOf];have c:=zfM (ls.dropLast.map rD) (rD z);rw[show ls.dropLast.map rD++[rD z]=ls.map rD from by rw[show [rD z]=[z].map rD from rfl,<- _b0,<- hz]]at c;rw[c]
  have gL:=zeu h Rn;have c:=comp_map (mp:=[some 0,none]) (fg:=yu 1) (fe:=ze wU (za (zd 0) (za (zd 1) zi))) rD (λa=>tD (z2n r a)) (λa=>[some d,some (rD a)]) ls.dropLast (yZ sl) (λa _=>by rfl) (λa ha=>by
   rw[hd];exact (z7V r (gL a ha).1 (gL a ha).2 hm s)) (by simp[cap];lia);simp only[vC,Mof,z1R,st,z0R,yy];rw[c];simp[ye,_C]:∀d e:D,d=.str (nmR r)->e=rD v->vC [d,e] s=.ok (.lst ((ye r ls).map tD)) s) _ _ rfl rfl
theorem zl7{n m:Nat}{B:Int}{P:Tb}{c x:List Int}(I:PI n B P c x)(hB:B<2 ^ m):Bd m P:=λrow hr y hy=>by
 have:=I.nn row hr y hy;have:y.natAbs<((2 ^ m:Nat):Int):=by rw[(show ((2 ^ m:Nat):Int)=2 ^ m from by rfl)];lia
 lia
theorem zjd{n m:Nat}{v:List Int}(r:Rl)(h:LotB n m v)(he:ended v=false):Bd m (z2n r v):=λrow hr y hy=>by
 have:=zj3 (B:=2 ^ m-1) r h.toLot he (λy hy=>by have:=h.bd y hy;lia) row hr y hy;have e2:((2 ^ m:Nat):Int)=2 ^ m:=by rfl
 lia
def z1h:Tb->List Tb->List Tb
 | P,[]=>[P] | P,T::ts=>P::z1h (jX P T) ts
theorem z4D:∀(ts:List Tb)(P:Tb),(z1h P ts).getLast? = some (ts.foldl jX P)
 | [],P=>rfl | T::ts,P=>by rw[z1h,List.getLast?_cons,z4D ts];rfl
theorem zho(T:Tb):(tD T).flat=true:=by
 show D.flat.flats (T.map rD)=true;induction T with
 | nil=>rfl | cons r T ih=>simp only[_A,flC,flN,ih,Bool.and_true];exact vH r
theorem zcW     (d t:D) (hn:Sz n) (hB:B<2 ^ m) (hm:m<=1999) (hx:∀y∈x,y<=B) (s:Sto)   (Rn:Run r c ls):∀(P:Tb) (pre:List Tb) (all:List D) (z:Option D),LotB n m c->PI n B P c x->pre.length+ls.length<=50000-> ∃z',qe [] all (λd ρ s=>(yu 3 d ρ s).bind fun ρ' s'=>yY ρ' s') ((ye r ls).map tD) [some d,some t,some (.loc s.length),z] (s++[(pre++[P]).map tD])=.ok (.nx [some d,some t,some (.loc s.length),z']) (s++[(pre++z1h P (ye r ls)).map tD]):=by induction Rn with
 | done he=>exact λP pre all z h I hl=>⟨z,by simp[ye,qe,okG,z1h]⟩ | @step v ls he R2 ih=>
  intro P pre all z h I hl;have mm:=z6T (s++[(pre++[P]).map tD]) hn I.tab (z0s r h.toLot he) (zl7 I hB) (zjd r h he) (by lia) (by lia);obtain⟨z',ih⟩:=ih (jX P (z2n r v)) (pre++[P]) all (some (tD (z2n r v))) (h.step r he) (I.step r hx h.toLot he) (by simp at hl ⊢;lia);have ix:=z6f (x:=.loc s.length) (d:=tD P) (xs:=pre.map tD) (s:=s++[(pre++[P]).map tD]) (by simp[yc]);have body:yY [some d,some t,some (.loc s.length),some (tD (z2n r v))] (s++[(pre++[P]).map tD])=.ok (.nx [some d,some t,some (.loc s.length),some (tD (z2n r v))]) (s++[(pre++[P]++[jX P (z2n r v)]).map tD]):=by
   have gt:(s++[(pre++[P]).map tD])[s.length]? = some ((pre++[P]).map tD):=by simp
   have av:(s++[(pre++[P]).map tD]).set s.length ((pre++[P]).map tD++[tD (jX P (z2n r v))])=s++[(pre++[P]++[jX P (z2n r v)]).map tD]:=by simp
   have fl:=zho (jX P (z2n r v));generalize (s++[(pre++[P]).map tD])=S at *;have cc:ze wT (za (eOp dIx (zd 2) (z3T (eC (.int 1)))) (za (zd 3) zi)) [some d,some t,some (.loc s.length),some (tD (z2n r v))] S=.ok (tD (jX P (z2n r v))) S:=by
    rw[call2 (by exact ix) (y:=tD (z2n r v)) (by rfl)];exact mm
   rw[yY,qd,zhD];simp only[yT,_g,_k,Rb];rw[cc];simp only[Rb];rw[gt];simp only;rw[_l ⟨fl,(by simp[cap]at hl ⊢;lia)⟩,av];rfl
  rw[R2.tabs_cons,_A,qe,_l (by intro p hp;cases hp),z1W,Rb];simp only[_aN,_aq];rw[body,Rb];simp only;rw[ih,z1h];simp
theorem zdk    (r:Rl) (h:LotB n m v) (Rn:Run r v ls) (hm:m<=1999) (hl:ls.length<=50000) (s:Sto):yB [.int n,.lst ((ye r ls).map tD)] s=.ok (.loc s.length) (s++[(z1h (one n) (ye r ls)).map tD]):=by
 have key:∀d t:D,d=.int n->t=.lst ((ye r ls).map tD)->yB [d,t] s=.ok (.loc s.length) (s++[(z1h (one n) (ye r ls)).map tD]):=λd t hd ht=>by
  have st:zH ["size","tables","products","table"] [d,t]=[some d,some t,none,none]:=rfl;simp only[yB,Mof,uB,st,_G];rw[zr (ρ':=[some d,some t,some (.loc s.length),none]) (s':=s++[[tD (one n)]]) (by
   have c2:ze xA (za (zd 0) zi) [some d,some t,none,none] s=.ok (tD (one n)) s:=by rw[hd];exact (z10 (n:=n) (by have:=h.sz;lia) s)
   rw[vY,yW,zeb,zB,c2];simp only[Rb,zY];rw[_l ⟨by simp[cap],by simp[flC,flN,(zho (one n))]⟩];rfl)];obtain⟨z',lp⟩:=zcW d t h.sz (B:=2 ^ m-1)   (by lia) hm (λy hy=>by have:=h.bd y hy;lia) s Rn (one n) [] ((ye r ls).map tD) none h (PI.start h.toLot λy hy=>by have:=h.bd y hy;lia) (by simpa using hl);rw[zr   (by
   rw[vV,z3P,yZ (xs:=(ye r ls).map tD) (by simp[ht])];exact lp)];rfl
 exact key _ _ rfl rfl
theorem z69    (r:Rl) (h:LotB n m v) (Rn:Run r v ls) (hm:m<=1999) (hl:ls.length<=50000) (s:Sto):wk [.str (nmR r),rD v] s=.ok (.loc s.length) (s++[(z1h (one n) (ye r ls)).map tD]):=by
 have gr:=zdk r h Rn hm hl s;have key:∀d e t:D,yB [.int n,t] s=.ok (.loc s.length) (s++[(z1h (one n) (ye r ls)).map tD])->vC [d,e] s=.ok t s->xO [e] s=.ok (.int n) s->wk [d,e] s=.ok (.loc s.length) (s++[(z1h (one n) (ye r ls)).map tD]):=λd e t ht h1 h2=>by
  have st:zH ["rule","lot","tables"] [d,e]=[some d,some e,none]:=rfl;simp only[wk,Mof,ku,st,_G];rw[zr (ρ':=[some d,some e,some t]) (s':=s) (by simp[h1]),jN,yy,call2 (by exact h2) (y:=t) (by rfl),ht];rfl
 exact key _ _ _ gr (z8D r h Rn hm hl s) (by simp[xO,yc,h.len])
theorem z6g    (r:Rl) (h:LotB n m v) (Rn:Run r v ls) (hm:m<=1999) (hl:ls.length<=50000) (s:Sto):wg [.str (nmR r),rD v] s=.ok (tD (jc n (ye r ls))) s:=by
 obtain⟨pre,hp⟩:=List.getLast?_eq_some_iff.mp (z4D (ye r ls) (one n));exact (λd e h1=>by
  have st:zH ["rule","lot"] [d,e]=[some d,some e]:=rfl;have ix:=z6f (x:=.lst ((z1h (one n) (ye r ls)).map tD)) (d:=tD (jc n (ye r ls))) (xs:=pre.map tD) (s:=s) (by rw[hp];simp[yc,jc]);simp only[wg,Mof,kq,st,jH,yy];rw[op2 (by rw[zbZ,call2 (x:=d) (y:=e) (by rfl) (by rfl),h1,zay]) (y:=.int (-1)) (by rfl),ix];rfl:∀d e:D,wk [d,e] s=.ok (.loc s.length) (s++[(z1h (one n) (ye r ls)).map tD])->wg [d,e] s=.ok (tD (jc n (ye r ls))) s) _ _ (z69 r h Rn hm hl s)
theorem zek{i:Int}(h0:0<=i)(h:i<2 ^ 2000):i.natAbs<BIG:=by exact Int.ofNat_lt.mp (Int.lt_of_lt_of_le (by rw[(_bK h0)];exact h) (by decide +kernel))
theorem z3J  (s:Sto)(ha:0<=a)(ic:a<2 ^ 2000)(hb:0<=b)(dX:b<2 ^ 2000):xG (.int a) (.int b) s=.ok (.int (a*b)) s:=by rw[zgM,_l ⟨zek ha ic,zek hb dX⟩]
theorem zda  (s:Sto)(hb:0<b)(dX:b<2 ^ 2000):z46 (.int a) (.int b) s=.ok (.int (a / b)) s:=by rw[zdp,_l ⟨hb,zek (by lia) dX⟩]
theorem zkI(ns:List Int)(k:Nat)(s:Sto):∃c,wF [.scr (iL ns),.int k] s=.ok (.int c) s:=by
 by_cases h:k<ns.length
 ·have hk:k<ns.length:=by omega
  have e:ixN (iL ns).length k=some k:=by
   unfold ixN;rw[_l (by omega),_l (by simpa using hk)];rfl
  simp[wF,Mof,uy,zH,xO,yc,hk,(show dIx (.scr (iL ns)) (.int k) s=.ok (.int ns[k]) s from by
   simp only[dIx,yc,atI,e,_ad];simp[h])]
 ·exact⟨0,by simp[wF,Mof,uy,zH,xO,yc,(by omega)]⟩
def Pot(s:Sto)(l:Nat):Prop:=∃p:Int,s[l]? = some [.int p]
theorem Pot.lt   (h:Pot s l):l<s.length:=by
 obtain⟨p,e⟩:=h;exact (_b.mp e).1
theorem Pot.app   (h:Pot s l)(t:Sto):Pot (s++t) l:=by
 obtain⟨p,e⟩:=h;exact⟨p,by rw[_y (_b.mp e).1];exact e⟩
structure qV(s s':Sto)(l:Nat):Prop where
 pot:Pot s' l
 len:s'.length=s.length
 oth:∀m,m≠l->s'[m]? = s[m]?
theorem zht    (h:Pot s l)(h0:0<far)(h1:far<2 ^ 2000):∃r s',zR [.loc l,.int far] s=.ok (.int r) s'/\0<=r/\r<far/\qV s s' l:=by
 obtain⟨p,e⟩:=h;refine⟨p % far,s.set l [.int (p / far)],?_,_bB _ (by lia),_b3 _ h0,⟨p / far,by rw[_T ((_b.mp e).1)]⟩,by simp,λm hm=>_M (_a6 hm)⟩;simp[zR,Mof,z1Q,zH,(show dIx (.loc l) (.int 0) s=.ok (.int p) s from by simp[dIx,yc,e,atI,ixN]),z4G s h0,zda s h0 h1,e,ixN,z2f,List.replicate]
theorem zkR(s:Sto):zmv (.int 10) (.int 18) s=.ok (.int 1000000000000000000) s:=by rfl
theorem pow_step  (h:m<2147483648 ^ j)(hr:r<2147483587):m*2147483587+r<2147483648 ^ (j+1):=by lia
theorem zlR{m j:Nat}(h:m<2147483648 ^ j)(hj:j<=64):(m:Int)<2 ^ 2000:=by
 have h2:2147483648 ^ 64<=2 ^ 2000:=by decide +kernel
 exact Int.ofNat_lt.mpr (_q h (_S (_Z (by decide) hj) h2))
theorem zo4 (c:Int) (s:Sto):∃p:Int,ql [.int c] s=.ok (.loc s.length) (s++[[.int p]]):=by
 by_cases h:1000000000000000000<=c;·exact⟨c-1000000000000000000,by simp[ql,Mof,z02,zH,zkR,h,flC,flN,z2f,cap,List.replicate]⟩
 ·have lp:∃ ρ' s',z1L [some (.int c),some (.int 0),none,none] s=.ok (.nx ρ') s'/\∃(m:Nat) (a b:Option D),ρ'=[some (.int c),some (.int m),a,b]/\s'=s:=by
   obtain⟨ρ',s',e,m,a,b,e1,e2,_⟩:=z0Z  (body:=λd ρ s=>(yu 2 d ρ s).bind fun ρ' s'=>(yf z1M (yf z1A z1P)) ρ' s') (λj ρ s'=>∃(m:Nat) (a b:Option D),ρ=[some (.int c),some (.int m),a,b]/\s'=s/\m<2147483648 ^ j) (yP 64) 0 (λj x hx ρ s' hi=>by
    obtain⟨m,a,b,rfl,rfl,hm⟩:=hi;obtain⟨hj,rfl⟩:=z7O hx;rw[_aV]at hm;have a1:zaf (.int c) (.int 2147483629) s'=.ok (.int (c % 2147483629)) s':=z4G s' (by decide);have a2:xG (.int 7919) (.int j) s'=.ok (.int (7919*j)) s':=z3J s' (by decide) (by decide +kernel) (by lia) (by lia);have a3:xG (.int (c % 2147483629+7919*j+1)) (.int 48271) s'=.ok (.int ((c % 2147483629+7919*j+1)*48271)) s':=z3J s' (by lia) (by lia) (by decide) (by decide +kernel);generalize eX:(c % 2147483629+7919*j+1)*48271 % 2147483647=x1;have b0:0<=x1:=by rw[<- eX];exact _bB _ (by decide)
    have a4:zaf (.int ((c % 2147483629+7919*j+1)*48271)) (.int 2147483647) s'=.ok (.int x1) s':=by rw[<- eX];exact z4G s' (by decide)
    have a6:xG (.int 69621) (.int j) s'=.ok (.int (69621*j)) s':=z3J s' (by decide) (by decide +kernel) (by lia) (by lia);generalize hx2:(x1*x1+69621*j+7) % 2147483587=x2;have a7:zaf (.int (x1*x1+69621*j+7)) (.int 2147483587) s'=.ok (.int x2) s':=by rw[<- hx2];exact z4G s' (by decide)
    have a8:xG (.int m) (.int 2147483587) s'=.ok (.int (m*2147483587)) s':=z3J s' (by lia) (zlR hm (by lia)) (by decide) (by decide +kernel);obtain⟨y,rfl⟩:=_aT (show 0<=x2 from by rw[<- hx2];exact _bB _ (by decide));refine⟨[some (.int c),some (.int (m*2147483587+y:Nat)),some (.int j),some (.int y)],s',?_,m*2147483587+y,_,_,rfl,rfl,?_⟩;·simp[a1,a2,a3,a4,(z3J s' b0 (by lia) b0 (by lia)),a6,a7,a8]
    ·rw[_aV];exact pow_step hm (by lia)) [some (.int c),some (.int 0),none,none] s ⟨0,none,none,rfl,rfl,by decide⟩;exact⟨ρ',s',by exact e,m,a,b,e1,e2⟩
  obtain⟨ρ',s',e,m,a,b,rfl,rfl⟩:=lp;have st:zH ["_law_cell","_law_number","_law_j","_law_more"] [.int c]=[some (.int c),none,none,none]:=rfl;simp only[ql,Mof,z02,st,_n,_I,_G];rw[zr (ρ':=[some (.int c),none,none,none]) (s':=s') (by simp[zkR,h]),zr (ρ':=[some (.int c),some (.int 0),none,none]) (s':=s') (by rfl),zr e];simp[flC,flN,z2f,cap]
structure LS(s0:Sto)(l:Nat)(s:Sto)(xs:List Int):Prop where
 pot:Pot s l
 len:s.length=s0.length+1
 at_:s[s0.length]? = some (iL xs)
 oth:∀m,m≠l->m<s0.length->s[m]? = s0[m]?
theorem LS.drawn    (h:LS s0 l s xs)(hl:l<s0.length)(d:qV s s' l):LS s0 l s' xs:= ⟨d.pot,by rw[d.len,h.len],by rw[d.oth _ (by lia)];exact h.at_,λm h1 h2=>by rw[d.oth m h1];exact h.oth m h1 h2⟩
theorem LS.set    (h:LS s0 l s xs)(hl:l<s0.length)(ys:List Int):LS s0 l (s.set s0.length (iL ys)) ys:=by
 refine⟨?_,by simp[h.len],_T (by rw[h.len];lia),λm h1 h2=>?_⟩
 ·obtain⟨p,e⟩:=h.pot;exact⟨p,by rw[_M (by lia)];exact e⟩
 ·rw[_M (by lia)];exact h.oth m h1 h2
theorem LS.fin    (h:LS s0 l s xs)(hl:l<s0.length):qV s0 (s.take s0.length) l:=by
 obtain⟨p,e⟩:=h.pot;refine⟨⟨p,by rw[_aI hl];exact e⟩,by simp[h.len],λm h1=>?_⟩;by_cases h2:m<s0.length;·rw[_aI h2];exact h.oth m h1 h2
 ·rw[_W (by simp[h.len];lia),_W (by lia)]
theorem LS.start   (d:qV s0 s l)(h:Pot s0 l)(xs:List Int):LS s0 l (s++[iL xs]) xs:= ⟨d.pot.app _,by simp[d.len],by rw[<- d.len];simp,λm h1 h2=>by rw[_y (by rw[d.len];exact h2)];exact d.oth m h1⟩
theorem qV.trans   (a:qV s s1 l)(b:qV s1 s2 l):qV s s2 l:=⟨b.pot,by rw[b.len,a.len],λm h=>by rw[b.oth m h,a.oth m h]⟩
theorem z0N      (h:Pot s l)(h0:0<far)(h1:far<2 ^ 2000)(hf:f ρ s=.ok (.loc l) s)(hg:g ρ s=.ok (.int far) s):∃r s',ze zR (za f (za g zi)) ρ s=.ok (.int r) s'/\0<=r/\r<far/\qV s s' l:=by
 obtain⟨r,s',e,a,b,c⟩:=zht h h0 h1;exact⟨r,s',by rw[call2 hf hg,e],a,b,c⟩
theorem zcL     (h0:0<=i)(h:xs[i.toNat]? = some d):dIx (.lst xs) (.int i) s=.ok d s:=by
 have hj  := (_b.mp h).1;simp only[dIx,yc,atI,(show ixN xs.length i=some i.toNat from by
  unfold ixN;rw[_l h0,_l (by lia)]),_ad,h]
theorem zkw      (hl:s[l]? = some xs)(h0:0<=i)(h:xs[i.toNat]? = some d):dIx (.loc l) (.int i) s=.ok d s:=by
 have hj  := (_b.mp h).1;simp only[dIx,yc,hl,atI,(show ixN xs.length i=some i.toNat from by
  unfold ixN;rw[_l h0,_l (by lia)]),_ad,h]
theorem z8s      {i x:Int}(hc:fc ρ s=.ok (.int x) s1)(ha:fa ρ s1=.ok (.loc L) s1)(hb:fb ρ s1=.ok (.int i) s2)(at_:s2[L]? = some (iL xs))(h0:0<=i)(h1:i<xs.length):z92 fa fb fc ρ s=.ok (.nx ρ) (s2.set L (iL (xs.set i.toNat x))):=by
 rw[zjn,hc,Rb,ha,Rb,hb,Rb];simp only[at_,(show ixN (iL xs).length i=some i.toNat from by
  unfold ixN;rw[_l h0,_l (by simp;lia)]),z2f,_G,List.map_set]
theorem zes{xs:List Int}   (h:∀y∈xs,0<=y/\y<=B)(hx:0<=x/\x<=B):∀y∈xs.set i x,0<=y/\y<=B:=λy hy=>by
 rcases _aY hy with h2 | h2;·exact h y h2
 ·rw[h2];exact hx
theorem z67{x:Int}(h:x<=1000):x<2 ^ 2000:=Int.lt_of_le_of_lt h (by decide +kernel)
theorem zfO    : zaS n (.ok (rD v) s)=.ok (rD v) (s.take n):=z4M (vH v)
theorem ziL      (h:ns≠[])(e:s[L]? = some (iL ns))(hf:f ρ s=.ok (.loc L) s):tOf (eOp dEq (ze wP (za f zi)) (eC (.int 0))) ρ s=.ok (decide (maxL ns=0)) s:=by
 rw[z9n,ui,yE hf,zfF h e];rfl
theorem zbE  (h:ns≠[])(hn:∀y∈ns,0<=y)(hm:maxL ns≠0):∃x∈ns,0<x:=⟨maxL ns,maxL_mem h,by have:=hn _ (maxL_mem h);lia⟩
instance (A:Tb):Decidable (kf A):=by unfold kf;infer_instance
noncomputable def okD:Nat->D->Bool
 | _,.non=>true | _,.bl _=>true | _,.int _=>true | _,.str x=>PyData.strOk x | k+1,.tup xs=>xs.all (okD k) | k+1,.lst xs=>xs.all (okD k) | _,_=>false
theorem znS  : ∀(xs:List D),(∀x∈xs,PyData.canLay0 (z2A x)=true/\PyData.depth (z2A x)<=2*k+3/\PyData.eqv (z2A x) (z2A x)=true)->PyData.canLayAll0 (toPys xs)=true/\PyData.depthAll (toPys xs)<=2*k+4/\PyData.eqvAll (toPys xs) (toPys xs)=true
 | [],_=>⟨rfl,by simp[tPn,PyData.depthAll],by simp[tPn,PyData.eqvAll]⟩ | x::xs,h=>by
  have h1:=h x (by simp);have h2:=znS xs λy hy=>h y (by simp[hy]);refine⟨by simp[tPc,PyData.canLayAll0,h1.1,h2.1],?_,by simp[tPc,PyData.eqvAll,h1.2.2,h2.2.2]⟩;simp only[tPc,PyData.depthAll];lia
theorem zhf:∀(k:Nat)(d:D),okD k d=true->PyData.canLay0 (z2A d)=true/\PyData.depth (z2A d)<=2*k+3/\PyData.eqv (z2A d) (z2A d)=true:=by
 intro k;induction k with
 | zero=>
  intro d h;cases d with
  | str x=>change PyData.strOk x=true at h;change PyData.canLay0 (.str x)=true/\PyData.depth (.str x)<=_/\PyData.eqv (.str x) (.str x)=true;simp[PyData.canLay0,PyData.depth,PyData.eqv,h] | non=>change PyData.canLay0 .none=true/\PyData.depth .none<=_/\PyData.eqv .none .none=true;simp[PyData.canLay0,PyData.depth,PyData.eqv] | bl b=>change PyData.canLay0 (.bool b)=true/\PyData.depth (.bool b)<=_/\PyData.eqv (.bool b) (.bool b)=true;simp[PyData.canLay0,PyData.depth,PyData.eqv] | int i=>change PyData.canLay0 (.int i)=true/\PyData.depth (.int i)<=_/\PyData.eqv (.int i) (.int i)=true;simp[PyData.canLay0,PyData.depth,PyData.eqv] | _=>exact nomatch (h:false=true)
 | succ k ih=>
  intro d h;cases d with
  | str x=>change PyData.strOk x=true at h;change PyData.canLay0 (.str x)=true/\PyData.depth (.str x)<=_/\PyData.eqv (.str x) (.str x)=true;simp[PyData.canLay0,PyData.depth,PyData.eqv,h] | non=>change PyData.canLay0 .none=true/\PyData.depth .none<=_/\PyData.eqv .none .none=true;simp[PyData.canLay0,PyData.depth,PyData.eqv] | bl b=>change PyData.canLay0 (.bool b)=true/\PyData.depth (.bool b)<=_/\PyData.eqv (.bool b) (.bool b)=true;simp[PyData.canLay0,PyData.depth,PyData.eqv] | int i=>change PyData.canLay0 (.int i)=true/\PyData.depth (.int i)<=_/\PyData.eqv (.int i) (.int i)=true;simp[PyData.canLay0,PyData.depth,PyData.eqv] | tup xs=>
   have h:=_aF.mp h;have q:=znS  xs λx hx=>ih x (h x hx);refine⟨by simp only[zlA,PyData.canLay0,q.1],?_,by simp only[zlA,PyData.eqv,q.2.2]⟩;simp only[zlA,PyData.depth];lia | lst xs=>
   have h:=_aF.mp h;have q:=znS  xs λx hx=>ih x (h x hx);refine⟨by simp only[zo7,PyData.canLay0,q.1],?_,by simp only[zo7,PyData.eqv,q.2.2]⟩;simp only[zo7,PyData.depth];lia | _=>exact nomatch (h:false=true)
theorem zkc   (h:okD k d=true)(hk:k<=10):zg8 d=true:=by
 have q:=zhf k d h;simp only[zg8,SeqAt.shaped,q.1];simp;lia
theorem ne_self   (h:okD k d=true)(hk:k<=10)(s:Sto):dNe d d s=.ok (.bl false) s:=by
 have o:=zkc h hk;rw[dNe,_l ⟨o,o⟩];simp only[eqD,(zhf k d h).2.2];rfl
theorem zii(k:Nat)(ns:List Int):(iL ns).all (okD k)=true:=by
 rw[_aF];intro x hx;obtain⟨n,_,rfl⟩:=_m.mp hx;cases k<;>rfl
theorem zlJ(k:Nat)(ns:List Int):okD (k+1) (rD ns)=true:=zii k ns
theorem zkU(k:Nat)(T:Tb):okD (k+2) (tD T)=true:=by
 show (T.map rD).all (okD (k+1))=true;rw[_aF];intro x hx;obtain⟨n,_,rfl⟩:=_m.mp hx;exact zlJ k n
theorem zc0(k:Nat)(T:Tb):okD (k+2) (.lst (T.map rD))=true:=zkU k T
end Pg
namespace Pn
open L2 Dd Pm Pg
noncomputable def isI:D->Bool
 | .int _=>true | _=>false
theorem z9s  (h:(tyD d).isSome=true)(s:Sto):qE [d] s=.ok (.bl (isI d)) s:=by cases d<;>first | rfl | cases h
end Pn
namespace Pm
theorem zf7   (h:Lot n z)(he:ended z=true):∃k,k<n/\z.getD k 0=z6x z/\0<z6x z/\∀j,j≠k->z.getD j 0=0:=by
 have l1:(nz z).length=1:=by simpa[ended] using he
 obtain⟨x,hx,x0⟩:=h.pos;obtain⟨k,hk,e⟩:=_v.mp hx;have gk:z.getD k 0=x:=by simp[_c hk,e]
 have oth:∀j,j≠k->z.getD j 0=0:=by
  intro j hj;apply _Q;intro hz;have two:∀(v:List Int)(a b:Nat),a<b->v.getD a 0≠0->v.getD b 0≠0->2<=(nz v).length:=by
   intro v;induction v with
   | nil=>intro a b _ h1;simp at h1 | cons y v ih=>
    intro a b rH h1 h2;cases b with
    | zero=>lia | succ b=>
     have hb:v.getD b 0≠0:=by exact h2
     cases a with
     | zero=>
      have:1<=(nz v).length:=_cL.mpr λq=>by
       have:=qW.mpr ⟨getD_mem (by
       apply _Q;intro q;exact hb (by simp[_W (_cU.mp q)])),hb⟩;rw[q]at this;cases this
      simp only[nz,_bQ,(by simpa using h1),ne_eq,not_false_eq_true,decide_true,_G,_n]at this ⊢;lia | succ a=>
      have:=ih a b (by lia) (by exact h1) hb;simp only[nz,_bQ]at this ⊢;split;·simp only[_n];lia
      ·exact this
  rcases Nat.lt_or_gt_of_ne hj with q | q;·have:=two z j k q hz (by lia);lia
  ·have:=two z k j q (by lia) hz;lia
 have gM:z.sum=x:=by
  have:∀(v:List Int)(k:Nat),k<v.length->(∀j,j≠k->v.getD j 0=0)->v.sum=v.getD k 0:=by
   intro v;induction v with
   | nil=>intro k hk;cases hk | cons y v ih=>
    intro k hk ho;cases k with
    | zero=>
     have:∀w:List Int,(∀j,w.getD j 0=0)->w.sum=0:=by
      intro w;induction w with
      | nil=>intro _;rfl | cons u w ihw=>
       intro hw;rw[_a2,(show u=0 from by exact hw 0),ihw λj=>by exact hw (j+1)];rfl
     rw[_a2,this v λj=>by exact ho (j+1) (by lia)];simp | succ k=>
     rw[_a2,ih k (by simpa using hk) λj hj=>by exact ho (j+1) (by lia),(show y=0 from by exact ho 0 (by lia))];simp
  rw[this z k hk oth,gk]
 rw[(zej h he)]at gM;exact⟨k,by rw[<- h.len];exact hk,by rw[gk,gM],by lia,oth⟩
theorem z4S:∀{r z:List Int}{k:Nat},r.length=z.length->(∀j,j≠k->z.getD j 0=0)->dot r z=r.getD k 0*z.getD k 0
 | [],[],k,_,_=>by rfl | a::r,b::z,k,hl,h=>by cases k with
  | zero=>
   rw[dot_cons,(show ∀(r z:List Int),(∀j,z.getD j 0=0)->dot r z=0 from by
    intro r;induction r with
    | nil=>cases z<;>simp[dot] | cons u r ih=>
     intro z hz;cases z with
     | nil=>rfl | cons y z=> rw[dot_cons,(show y=0 from by exact hz 0),ih z λj=>by exact hz (j+1)];simp) r z λj=>by exact h (j+1) (by lia)];simp | succ k=>
   rw[dot_cons,z4S (k:=k) (by simpa using hl) λj hj=>by exact h (j+1) (by lia),(show b=0 from by exact h 0 (by lia))];simp
 | [],_::_,_,h,_=>by cases h | _::_,[],_,h,_=>by cases h
theorem za9(g:Int):∀(v w:List Int),dot v (w.map λx=>x*g)=dot v w*g
 | [],_=>by simp[dot] | _::_,[]=>by simp[dot] | a::v,b::w=>by
  rw[_A,dot_cons,dot_cons,za9 g v w];grind
theorem z3c:∀v:List Int,0<=dot v v
 | []=>by decide | a::v=>by
  have:=z3c v;have h:0<=a*a:=by
   rcases Int.le_total 0 a with q | q;·exact _cT q q
   ·exact Int.mul_nonneg_of_nonpos_of_nonpos q q
  rw[dot_cons];lia
theorem zfn   (hn:Sz n)(hx:x.length=n)(hk:k<n):(det 4 (x::(one n).eraseIdx k)).natAbs=(x.getD k 0).natAbs:=by
 rcases hn with rfl | rfl | rfl
 ·obtain⟨a,b,rfl⟩:=z5n hx;match k,hk with
  | 0,_=>rw[zlZ];simp[zbP,d2] | 1,_=>rw[zlZ];simp[zbP,d2]
 ·obtain⟨a,b,c,rfl⟩:=z42 hx;match k,hk with
  | 0,_=>rw[zka];simp[z9A 1,d3,d2] | 1,_=>rw[zka];simp[z9A 1,d3,d2] | 2,_=>rw[zka];simp[z9A 1,d3,d2]
 ·obtain⟨a,b,c,d,rfl⟩:=z37 hx;match k,hk with
  | 0,_=>rw[zjo];simp[zar 0,d4,d3,d2] | 1,_=>rw[zjo];simp[zar 0,d4,d3,d2] | 2,_=>rw[zjo];simp[zar 0,d4,d3,d2] | 3,_=>rw[zjo];simp[zar 0,d4,d3,d2]
theorem z8f    (hB:Tab n B)(hv:v.length=n)(hk:k<n):Tab n (v::B.eraseIdx k):=by
 refine⟨?_,λr hr=>?_⟩;·rw[_n,List.length_eraseIdx_of_lt (by rw[hB.len];exact hk),hB.len];lia
 ·rcases _r.mp hr with rfl | hr;·exact hv
  ·exact hB.row r (List.mem_of_mem_eraseIdx hr)
theorem z6I{α β:Type}(f:α->β):∀(l:List α)(k:Nat),(l.eraseIdx k).map f=(l.map f).eraseIdx k
 | [],_=>by rfl | a::l,0=>by rfl | a::l,k+1=>by simp[z6I f l k]
theorem zeT     (hn:Sz n)(hP:Tab n P)(hf:kf P)(hv:v.length=n)(hz:z.length=n)(hk:k<n)(g0:0<g)(e:mv P z=v)(zk:z.getD k 0=g)(zo:∀j,j≠k->z.getD j 0=0): ((det 4 (v::(back P).eraseIdx k)).natAbs:Int)*g=dot v v:=by
 have tM:=z8f (z2e hP) hv hk;have bm:=(z7R hn hP hf).1;rw[z0d hn (z2e hP) hP]at bm;have du:=zfn hn (show (z2r P v).length=n from by simp[z2r,xp,hP.len]) hk;rw[<- (show jX (v::(back P).eraseIdx k) P=z2r P v::(one n).eraseIdx k from by rw[z0d hn tM hP,_A,z6I,bm]),(zad hn tM hP)]at du;have xk:(z2r P v).getD k 0=dot v (P.map λr=>r.getD k 0):=by simp[z2r,xp,(show k<P.length from by rw[hP.len];exact hk)]
 have xg:(z2r P v).getD k 0*g=dot v v:=by rw[xk,<- za9,<- (show v=(P.map λr=>r.getD k 0).map λx=>x*g from by
  rw[<- e,_aG];refine _cM λr hr=>?_;rw[z4S  (by rw[hP.row r hr,hz]) zo,zk];rfl)]
 have nn:=z3c v;rw[(show (det 4 (v::(back P).eraseIdx k)).natAbs=((z2r P v).getD k 0).natAbs from by
  rw[<- du];rcases hf with q | q<;>rw[q]<;>simp),_bK (by
  apply _Q;intro q;have:(z2r P v).getD k 0*g<0:=Int.mul_neg_of_neg_of_pos (by lia) g0;lia),xg]
theorem z75{α:Type}{f:α->Int}:∀{L:List α}{k:Nat}{g:Int},k<L.length->g≠0->(L.map f).getD k 0=g->(∀j,j≠k->(L.map f).getD j 0=0)-> L.filter (λx=>decide (f x=0))=L.eraseIdx k/\∃b,L[k]? = some b/\L.filter (λx=>decide (f x≠0))=[b]
 | [],k,g,h,_,_,_=>by cases h | a::L,0,g,_,g0,e,o=>by
  have fa:f a=g:=by exact e
  have z9H:∀x∈L,f x=0:=by
   intro x hx;obtain⟨i,hi,rfl⟩:=_v.mp hx;simpa[hi] using (o (i+1) (by lia))
  refine⟨by simp[fa,g0,(_bU.mpr λx hx=>by simp[z9H x hx]:L.filter (λx=>decide (f x=0))=L)],a,rfl,?_⟩;rw[_bQ,(_ce.mpr λx hx=>by simp[z9H x hx])];simp[fa,g0] | a::L,k+1,g,h,g0,e,o=>by
  have fa:f a=0:=by exact o 0 (by lia)
  obtain⟨i1,b,i2,i3⟩:=z75     (by simpa using h) g0 (by exact e) λj hj=>by exact o (j+1) (by lia)
  refine⟨by simp[fa,i1],b,by exact i2,?_⟩;rw[_bQ,i3];simp[fa]
end Pm
namespace Pg
open L2 Dd Pm
theorem vr     (h:ρ[i]? = some (some d)):zd i ρ s=.ok d s:=by rw[yT,h]
theorem zds     (h:t ρ s=.ok false s):fIf t f g ρ s=g ρ s:=by rw[z5M,h,Rb,_p (by decide)]
theorem z7U    (h:t ρ s=.ok false s)(h2:u ρ s=.ok false s):fOr t u ρ s=.ok false s:=by rw[znW,h,Rb,_p (by decide),h2]
theorem vO     (h:f ρ s=.ok (.bl b) s):tOf f ρ s=.ok b s:=by rw[z9n,h];rfl
theorem zdB    (h:t ρ s=.ok true s):z3v t ρ s=.ok false s:=by rw[zew,h];rfl
theorem zcS    (hv:LotB n m v)(hu:u.length=n)(hb:∀y∈u,y.natAbs<2 ^ k)(hm:m<=2000)(hk:k<=2000)(s:Sto):qC [rD v,rD u,.int x] s=.ok (.bl (decide (dot u v=x))) s:=by
 have w2  := vI s hb hv.abs hk hm (by have:=hv.sz;lia);have key:∀d e:D,yw [e,.int n] s=.ok (.bl true) s->zK [e,d] s=.ok (.int (dot u v)) s->xO [d] s=.ok (.int n) s->qC [d,e,.int x] s=.ok (.bl (decide (dot u v=x))) s:=λd e a1 a2 a3=>by simp[qC,Mof,z4B,zH,a1,a2,a3]
 exact key _ _ (by
  have:=uO u s (by have:=hv.sz;lia);rw[hu]at this;exact this) w2 (by simp[xO,yc,hv.len])
theorem z0P   (hv:LotB n m v)(hu:u.length=n)(hb:∀y∈u,y.natAbs<2 ^ k)(hm:m<=2000)(hk:k<=2000)(s:Sto):wf [rD v,rD u] s=.ok (.bl (decide (dot u v=0))) s:=by
 have w1:=jQ hv.toLot s;exact (λd e a1 a3=>by simp[wf,Mof,kO,zH,a1,a3]:∀d e:D,yN [d] s=.ok .non s->qC [d,e,.int 0] s=.ok (.bl (decide (dot u v=0))) s->wf [d,e] s=.ok (.bl (decide (dot u v=0))) s) _ _ w1 (zcS (x:=0) hv hu hb hm hk s)
structure Sh(r:Rl)(n:Nat)(v:List Int)(ls:List (List Int))(z:List Int)(k:Nat)(B:Tb)(b:List Int):Prop where
 run:Run r v ls
 len:ls.length<=50000
 eE:ls.getLast? = some z
 lot:Lot n z
 kn:k<n
 zk:z.getD k 0=z6x v
 zo:∀j,j≠k->z.getD j 0=0
 g0:0<z6x v
 B_:B=back (jc n (ye r ls))
 tab:Tab n B
 bd:Bd 318 B
 fair:kf (jc n (ye r ls))
 ptab:Tab n (jc n (ye r ls))
 pbd:Bd 104 (jc n (ye r ls))
 mvB:mv B v=z
 at_:B[k]? = some b
 fz:B.filter (λx=>decide (dot x v=0))=B.eraseIdx k
 fn:B.filter (λx=>decide (dot x v≠0))=[b]
 det:((Pm.det 4 (v::B.eraseIdx k)).natAbs:Int)*z6x v=dot v v
theorem znU   (r:Rl)(h:LotB n 104 v):∃ls z k B b,Sh r n v ls z k B b:=by
 obtain⟨ls,Rn,ll⟩:=zhr  (20*104+3) v h.toLot (zmC (r:=r) h.toLot h.toN);obtain⟨z,lz,ez,Lz,gz,PZ⟩:=Rn.whole h.toLot (λy hy=>by have:=h.bd y hy;lia:∀y∈v,y<=2 ^ 104-1);obtain⟨k,hk,zk,g0,zo⟩:=zf7 Lz ez;rw[gz]at zk g0;have mL:Bd 104 (jc n (ye r ls)):=zl7 PZ (by lia);have n4:2<=(jc n (ye r ls)).length/\(jc n (ye r ls)).length<=4:=by have:=PZ.tab.len;have:=h.sz;lia
 have tB:=z2e PZ.tab;have oZ  := zi6 mL n4.1 n4.2 (Rn.fair h.toLot);have mB:mv (back (jc n (ye r ls))) v=z:=by
  have:=zcK h.sz PZ.tab (Rn.fair h.toLot) Lz.len;rw[PZ.eq]at this;exact this
 have mM:(back (jc n (ye r ls))).map (λx=>dot x v)=z:=mB;obtain⟨f1,b,f2,f3⟩:=z75    (g:=z6x v) (by rw[tB.len];exact hk) (by lia) (by rw[mM];exact zk) (λj hj=>by rw[mM];exact zo j hj);exact⟨ls,z,k,_,b,Rn,by lia,lz,Lz,hk,zk,zo,g0,rfl,tB,oZ,(Rn.fair h.toLot),PZ.tab,mL,mB,f2,f1,f3,zeT h.sz PZ.tab (Rn.fair h.toLot) h.len Lz.len hk g0 PZ.eq zk zo⟩
section
variable {n:Nat}{v:List Int}{r:Rl}{ls:List (List Int)}{z:List Int}{k:Nat}{B:Tb}{b:List Int}
theorem z6Y(h:LotB n 104 v)(S:Sh r n v ls z k B b)(s:Sto):xR [.str (nmR r),rD v] s=.ok (tD B) s:=by
 have w2:=z5k s h.sz S.ptab S.pbd (by decide) S.fair;rw[<- S.B_]at w2;exact (λd e P T a1 a2=>by simp[xR,Mof,z0z,zH,a1,a2]:∀d e P T:D,wg [d,e] s=.ok P s->wj [P] s=.ok T s->xR [d,e] s=.ok T s) _ _ _ _ (z6g r h S.run (by decide) S.len s) w2
theorem z9k (h:LotB n 104 v) (S:Sh r n v ls z k B b) (s:Sto):∀x∈B,zK [rD x,rD v] s=.ok (.int (dot x v)) s:=λx hx=>vI s (S.bd x hx) h.abs (by decide) (by decide) (by have:=S.tab.row x hx;have:=h.sz;lia)
theorem zm3 (h:LotB n 104 v) (S:Sh r n v ls z k B b) (s:Sto):M_base [.str (nmR r),rD v] s=.ok (.lst ((B.eraseIdx k).map rD)) s:=by
 have w1:=z6Y h S s;have w2:=z9k h S s;have key:∀d e:D,xR [d,e] s=.ok (tD B) s->(∀x∈B,zK [rD x,e] s=.ok (.int (dot x v)) s)->M_base [d,e] s=.ok (.lst ((B.eraseIdx k).map rD)) s:=λd e a1 a2=>by
  have st:zH ["rule","lot"] [d,e]=[some d,some e]:=rfl;have c:=qP (fi:=zM (ze xR (za (zd 0) (za (zd 1) zi)))) (mp:=[some 1,none]) (fg:=yu 1) (ft:=tOf (eOp dEq (ze zK (za (zd 1) (za (zd 0) zi))) (eC (.int 0)))) (fe:=zd 1) (ρ:=[some d,some e])  rD rD (λx=>decide (dot x v=0)) (λx=>[some e,some (rD x)]) B (uX (by rw[call2   (vr rfl) (vr rfl)];exact a1)) (λx _=>by simp) (λx hx=>by
    refine vO ?_;rw[op2   (by rw[call2   (vr rfl) (vr rfl)];exact a2 x hx) rfl,z47]) (λx _ _=>vr rfl) (by have:=S.tab.len;have:=h.sz;unfold Sz at this;simp[cap];lia);rw[S.fz]at c;simp only[M_base,Mof,zdO,st,zau,yy];rw[c];rfl
 exact key _ _ w1 w2
end
end Pg
namespace Pg
open L2 Dd Pm
theorem z8o{ar:FA}{ρ:Ev}{s s1:Sto}{n:Nat}(hn:n<=1000)(h:ar ρ s=.ok [.int n] s1):z8w ar ρ s=.ok ((List.range n).map λk:Nat=>D.int ((k:Nat):Int),[]) s1:=by
 rw[zha,h,Dd.R.bind_ok];simp only;rw[_l ⟨by lia,by lia⟩];rfl
end Pg
namespace Pn
open L2 Dd Pm Pg
theorem zce{s:Sto}  : (s++[x]).set s.length y=s++[y]:=by simp
end Pn
namespace Pg
open L2 Dd Pm
theorem z9F{α:Type}   (g:α->D)(P:Nat->Sto->Prop)(Q:D->Prop):∀(l:List α)(j:Nat)(af:List D)(s:Sto),(∀i a,l[i]? = some a->∀s,P (j+i) s->∃y s',body (g a) s=.ok (some y) s'/\Q y/\P (j+i+1) s')->af.length+l.length<=cap->P j s->(∀y∈af,Q y)->∃ys s',vw [] all body (l.map g) af s=.ok ys s'/\ys.length=af.length+l.length/\(∀y∈ys,Q y)/\P (j+l.length) s'
 | [],j,af,s,_,_,hP,hQ=>⟨af,s,by simp[vw,okG],by simp,hQ,hP⟩ | x::xs,j,af,s,hb,hl,hP,hQ=>by
  obtain⟨y,s1,e,hy,o0⟩:=hb 0 x (by simp) s hP;obtain⟨ys,s2,e2,h1,h2,h3⟩:=z9F (all:=all) g P Q xs (j+1) (af++[y]) s1 (λi a ha s h=>by
   have:=hb (i+1) a (by simpa using ha) s (by rw[show j+(i+1)=j+1+i by lia];exact h);rw[show j+(i+1)+1=j+1+i+1 by lia]at this;exact this) (by simp at hl ⊢;lia) o0 (by
   intro z hz;rcases _D.mp hz with hz | hz;·exact hQ z hz
   ·simp at hz;rw[hz];exact hy);refine⟨ys,s2,?_,by simp at h1 ⊢;lia,h2,by rw[_n,show j+(xs.length+1)=j+1+xs.length by lia];exact h3⟩;rw[_A,vw,_l (by intro p hp;simp at hp),e];simp[(show af.length<cap from by simp at hl;lia),e2]
theorem zge{α:Type}       (g:α->D)(ev:α->Ev)(P:Nat->Sto->Prop)(Q:D->Prop)(l:List α) (hi:fi ρ s=.ok (l.map g,[]) s0)(hg:∀a∈l,∀s,fg (g a) (yI mp ρ) s=.ok (ev a) s)(he:∀i a,l[i]? = some a->∀s,P i s->∃y s',fe (ev a) s=.ok y s'/\Q y/\P (i+1) s')(hl:l.length<=cap)(hP:P 0 s0): ∃ys s',z6E fi mp fg zV fe ρ s=.ok ys s'/\ys.length=l.length/\(∀y∈ys,Q y)/\P l.length s':=by
 obtain⟨ys,s',e,h1,h2,h3⟩:=z9F  (body:=λd s=>(fg d (yI mp ρ) s).bind fun ρ' s1=>(zV ρ' s1).bind λt s2=>if t=true then (fe ρ' s2).bind λy s3=>.ok (some y) s3 else .ok none s2) g P Q l 0 [] s0 (λi a ha s hP=>by
  rw[_aV]at hP ⊢;obtain⟨y,s',e,hq,hp⟩:=he i a ha s hP;exact⟨y,s',by simp[hg a (_d ha) s,e],hq,hp⟩) (by simpa using hl) hP (by simp);refine⟨ys,s',?_,by simpa using h1,h2,by simpa using h3⟩;rw[uJ,hi];exact e
theorem zf4{α:Type}       (g:α->D)(ev:α->Ev)(P:Nat->Sto->Prop)(Q:D->Prop)(l:List α) (hi:fi ρ s=.ok (l.map g,[]) s0)(hg:∀a∈l,∀s,fg (g a) (yI mp ρ) s=.ok (ev a) s)(he:∀i a,l[i]? = some a->∀s,P i s->∃y s',fe (ev a) s=.ok y s'/\Q y/\P (i+1) s')(hl:l.length<=cap)(hP:P 0 s0)(hf:∀y,Q y->y.flat=true): ∃ys s',z4F fi mp fg zV fe ρ s=.ok (.loc s'.length) (s'++[ys])/\ys.length=l.length/\(∀y∈ys,Q y)/\P l.length s':=by
 obtain⟨ys,s',e,h1,h2,h3⟩:=zge g ev P Q l hi hg he hl hP;exact⟨ys,s',by rw[zeW,e,Dd.R.bind_ok,_l ((λzs=>by induction zs with
  | nil=>intro _;rfl | cons z zs ih=>intro hz;simp only[flC,flN,_ac];exact⟨hf z (hz z (by simp)),ih λy hy=>hz y (by simp[hy])⟩:∀zs:List D,(∀y∈zs,Q y)->D.flat.flats zs=true) ys h2)],h1,h2,h3⟩
end Pg
namespace Po
open L2 Dd Pm Pg Pn
theorem znM     (h:t ρ s=.ok true s):fIf t f g ρ s=f ρ s:=by rw[z5M,h,Rb,_l rfl]
end Po
namespace Pr
open L2 Dd Pm Pg Pn Po
theorem zd4{ns:List Int}(s:Sto)(h:ns≠[]):qI [.lst (iL ns)] s=.ok (.int (minL ns)) s:=by
 obtain⟨a,t,e⟩:=_aW h;rw[e];simp only[qI,yc,_ad,iL];rw[yO]
end Pr
namespace Pr
open L2 Dd Pm Pg Pn Po
open PySem.W
theorem z6M {α β:Type}   {fi2:D->Sto->R ItD} {fb:D->D->Sto->R D} (g:α->D) (g2:α->β->D) (l2:α->List β) (f:α->β->D):∀(l:List α) (af:List D),(∀a∈l,fi2 (g a) s=.ok ((l2 a).map (g2 a),[]) s)->(∀a∈l,∀b∈l2 a,fb (g a) (g2 a b) s=.ok (f a b) s)->af.length+(l.flatMap λa=>(l2 a).map (f a)).length<=cap-> z5z [] all (λd af s=>(fi2 d s).bind λci s2=>vw ci.2 ci.1 (λd2 s=>(fb d d2 s).bind λd s3=>.ok (some d) s3) ci.1 af s2) (l.map g) af s=.ok (af++l.flatMap λa=>(l2 a).map (f a)) s
 | [],af,_,_,_=>by simp[z5z,okG] | x::xs,af,h1,h2,hl=>by
  rw[List.flatMap_cons,_P,_z]at hl;rw[_A,z5z,_l (by intro p hp;simp at hp),h1 x (by simp),Rb,(jq (s:=s) (all:=(l2 x).map (g2 x)) (body:=λd2 s=>(fb (g x) d2 s).bind λd s3=>.ok (some d) s3) (g2 x) (f x) (λ_=>true) (l2 x) af (λb hb=>by simp[h2 x (by simp) b hb]) (by lia)),Rb,_bU.mpr (by simp),z6M g g2 l2 f xs _ (λa ha=>h1 a (by simp[ha])) (λa ha=>h2 a (by simp[ha])) (by simp only[_P,_z];lia)];simp
theorem zdy{α β:Type}        (g:α->D)(g2:α->β->D)(l:List α)(l2:α->List β)(f:α->β->D) (hi:fi ρ s=.ok (l.map g,[]) s)(eu:∀a∈l,fi2 ((yI mp ρ).set k1 (some (g a))) s=.ok ((l2 a).map (g2 a),[]) s)(he:∀a∈l,∀b∈l2 a,fe (((yI mp ρ).set k1 (some (g a))).set k2 (some (g2 a b))) s=.ok (f a b) s) (hl:(l.flatMap λa=>(l2 a).map (f a)).length<=cap):z81 fi mp k1 k2 fi2 fe ρ s=.ok (.lst (l.flatMap λa=>(l2 a).map (f a))) s:=by
 unfold z81 za3;rw[hi,Rb,z6M   g g2 l2 f l [] eu he (by simpa using hl)];rfl
end Pr
namespace L2
def zm2(H:Hp)(a:Addr)(ae:List (Key×V)):Prop:=H a=some (.dK ae)\/(ae=[]/\H a=some (.dT []))
section
variable {X:Cx}{ac:List (Addr×Obj)}{O:St}{H:Hp}{s:Shared}{a:Addr}{ae:List (Key×V)}{k:Key}
theorem zic(I:Inv X ac O H s)(h:zm2 H a ae):ae.length<=sizeLine/\(a==sysModules)=false/\∃vs,KV ae vs/\s.heap.DictOf (zX X.prog X.w) a vs:=by
 rcases h with h | ⟨rfl,h⟩;·exact zoa I.hok h
 ·obtain⟨z,hd,xs,rel,o,es,ep,h1,h2,h3,h4,h5⟩:=((I.hok a _ h));cases rel;have e:es=#[]:=Array.toList_eq_nil_iff.mp h4;subst e;exact⟨z,hd,[],.nil,o,#[],ep,h1,h2,h3,λe he=>by simp at he,.nil,List.nodup_nil⟩
theorem zgu(h:zm2 H a ae):Mut (H a):=by rcases h with h | ⟨_,h⟩<;>rw[h]<;>exact True.intro
theorem zdN:MtR X "dict.setdefault" (λx vs H Q=>∃a ae k z,x=.ref a/\vs=[kV k,z]/\zm2 H a ae/\ae.length<sizeLine/\(∀v,z16 ae k=some v->Q v H)/\(z16 ae k=none->Q z (upd H a (.dK (zjD ae k z))))):=by
 intro ac s O H x vs v us Q I rx rv h;obtain⟨a,ae,k,z,rfl,rfl,hD,hl,q1,q2⟩:=h;cases rx;obtain⟨u,r,rfl,ru,rr⟩:=rv.two;obtain⟨z1,hd,ws,rel,dd⟩:=zic I hD;have rl:=rel.val k;refine call_meetsIn PySem.F.slot_dict_setdefault dd.typeIs PySem.F.entry_dict_setdefault (PySem.F.args_dict_setdefault_3 _ _ _) (kt_meets_setdefault (zX X.prog X.w) a (zjN ru) hd r) ⟨ws,dd,by rw[<- rel.length];exact z1,λw hw=>?_,λhn h' mN hs=>?_⟩
 ·rw[hw]at rl;cases hv:z16 ae k with
  | none=>rw[hv]at rl;exact rl.elim | some y=>
   rw[hv]at rl;exact⟨y,H,I.tok _,rl,q1 y hv⟩
 ·rw[hn]at rl;cases hv:z16 ae k with
  | some y=>rw[hv]at rl;exact rl.elim | none=>
   have he:∃q,h'.get? a=some q:=let ⟨q,_,_,hq,_⟩:=mN;⟨q,hq⟩;exact⟨z,_,zhY I (zgu hD) hs he (zkn (by have:=z9o ae k z;omega) hd (rel.put k rr) mN),rr,q2 hv⟩
end
end L2
namespace Dd
open L2
def asT:D->List D
 | .tup l=>l | _=>[]
def asI:D->Option Int
 | .int i=>some i | _=>none
def asL:D->Option (List D)
 | .lst l=>some l | _=>none
noncomputable def z6v(x:D):Option (Int×List D×Bool):=((asT x)[0]?.bind asI).bind λi=>((asT x)[1]?.bind asL).map λys=>(i,ys,(asT x)[2]?.isSome)
def z08(k:Int):List D->Option (Option (List D×Bool))
 | []=>some none | x::t=>(z6v x).bind λq=>if q.1=k then some (some q.2) else z08 k t
def chK(g:List D->D)(k:Int):List D->List D
 | []=>[] | x::t=>(z6v x).elim (x::chK g k t) λq=>if q.1=k then g q.2.1::t else x::chK g k t
noncomputable abbrev z8B(k:Int)(v:D):List D->List D:=chK (λys=>.tup [.int k,.lst (ys++[v])]) k
noncomputable abbrev zlE(k:Int):List D->List D:=chK (λys=>.tup [.int k,.lst ys,.non]) k
theorem jF{x:D}{t:List D}{i k:Int}{ys:List D}{z:Bool}(e:z6v x=some (i,ys,z)):z08 k (x::t)=if i=k then some (some (ys,z)) else z08 k t:=by
 change (z6v x).bind _=_;rw[e];rfl
theorem z78{x:D}{t:List D}{i k:Int}{ys:List D}{z:Bool}{g:List D->D}(e:z6v x=some (i,ys,z)):chK g k (x::t)=if i=k then g ys::t else x::chK g k t:=by
 change (z6v x).elim _ _=_;rw[e];rfl
theorem zkQ{x:D}{t:List D}{k:Int}{g:List D->D}(e:z6v x=none):chK g k (x::t)=x::chK g k t:=by
 change (z6v x).elim _ _=_;rw[e];rfl
theorem z0h{x:D}{xs:List D}{k:Int}{o:Option (List D×Bool)}(h:z08 k (x::xs)=some o):∃i ys z,z6v x=some (i,ys,z)/\((i=k/\o=some (ys,z))\/(i≠k/\z08 k xs=some o)):=by
 change (z6v x).bind _=_ at h;cases e:z6v x with
 | none=>rw[e]at h;cases h | some q=>
  refine⟨_,_,_,rfl,?_⟩;rw[e]at h;by_cases c:q.1=k;·exact .inl ⟨c,(_E ((_l c).symm.trans h)).symm⟩
  ·exact .inr ⟨c,(_p c).symm.trans h⟩
section
variable {mg:Gm}{H H':Hp}{Y:List Addr}{s:Sto}{l:Nat}{a p b:Addr}{xs ys:List D}{ae:List (Key×V)}{k:Int}{vs:List V}{d:D}{v:V}
theorem z3K:∀{ae:List (Key×V)}{k:Key}{v:V},z16 ae k=some v->∃j:Nat,ae[j]? = some (k,v)
 | [],k,v,h=>by simp[zfv]at h | (k',v')::r,k,v,h=>by
  by_cases e:k'=k
  ·rw[vn  e]at h;cases h;exact⟨0,by simp[e]⟩
  ·rw[wM  e]at h;obtain⟨j,hj⟩:=z3K h;exact⟨j+1,by simpa using hj⟩
theorem zaH  (h:¬ i=k):¬ ((Sum.inl i:Key)=Sum.inl k):=λz=>h (by injection z)
theorem jM.cons{x:D}(h:jM mg H Y (x::xs) ae):∃i ys z b vs r,z6v x=some (i,ys,z)/\ae=(Sum.inl i,V.ref b)::r/\zU mg H Y ys vs/\((x=.tup [.int i,.lst ys]/\z=false/\H b=some (.lst vs))\/(x=.tup [.int i,.lst ys,.non]/\z=true/\∃o,H b=some (.frz o (.lst vs))))/\jM mg H Y xs r:= let ⟨i,ys,b,vs,r,e,h1,h2,h3⟩:=h;h2.elim (λ⟨q,w⟩=>⟨i,ys,false,b,vs,r,q ▸ rfl,e,h1,.inl ⟨q,rfl,w⟩,h3⟩) λ⟨q,w⟩=>⟨i,ys,true,b,vs,r,q ▸ rfl,e,h1,.inr ⟨q,rfl,w⟩,h3⟩
theorem z3n:∀{xs:List D}{ae:List (Key×V)},jM mg H Y xs ae->z08 k xs=some none->z16 ae (.inl k)=none
 | [],ae,h,_=>by subst h;rfl | x::xs,ae,h,g=>by
  obtain⟨i,ys,z,b,vs,r,e,rfl,h1,h2,h3⟩:=h.cons;rw[jF e]at g;by_cases c:i=k;·rw[_l c]at g;cases g
  ·rw[_p c]at g;rw[wM (zaH c)];exact z3n h3 g
theorem z0t:∀{xs:List D}{ae:List (Key×V)}{ys:List D}{z:Bool},jM mg H Y xs ae->z08 k xs=some (some (ys,z))->∃b vs,z16 ae (.inl k)=some (.ref b)/\zU mg H Y ys vs/\(z=false->H b=some (.lst vs))/\(z=true->∃o,H b=some (.frz o (.lst vs)))
 | [],ae,ys,z,h,g=>by cases g | x::xs,ae,ys,z,h,g=>by
  obtain⟨i,ys,z,b,vs,r,e,rfl,h1,h2,h3⟩:=h.cons;rw[jF e]at g;by_cases c:i=k
  ·rw[_l c]at g;cases g;subst c;refine⟨b,vs,vn rfl,h1,?_⟩;rcases h2 with⟨_,rfl,w⟩ | ⟨_,rfl,w⟩;·exact⟨λ_=>w,nofun⟩
   ·exact⟨nofun,λ_=>w⟩
  ·rw[_p c]at g;rw[wM (zaH c)];exact z0t h3 g
def UqK(ae:List (Key×V)):Prop:=∀(i j:Nat) k k' b,ae[i]? = some (k,V.ref b)->ae[j]? = some (k',V.ref b)->i=j
theorem UqK.tail{p:Key×V}  (h:UqK (p::r)):UqK r:=λi j k k' b h1 h2=>by
 have:=h (i+1) (j+1) k k' b (by simpa using h1) (by simpa using h2);lia
theorem z9N{α:Type}{x:α}{l:List α}(h:x∈l):∃j:Nat,l[j]? = some x:=by
 obtain⟨j,hj,e⟩:=_v.mp h;exact⟨j,by rw[_c hj,e]⟩
theorem z3a(g:∀ys ws,zU mg H Y ys ws->zU mg H' Y ys ws)(dn:Den mg H' Y d v)(hb:H b=some (.lst vs))(e:H'=upd H b (.lst (vs++[v]))):∀{xs:List D}{ae:List (Key×V)},jM mg H Y xs ae->UqK ae->z08 k xs=some (some (ys,false))->z16 ae (.inl k)=some (.ref b)->jM mg H' Y (z8B k d xs) ae
 | [],ae,h,_,q,_=>by cases q | x::xs,ae,h,u,q,w=>by
  obtain⟨i,zs,y,c,ws,r,e',rfl,h1,h2,h3⟩:=h.cons;rw[jF e']at q;rw[show z8B k d (x::xs)=_ from z78 e'];have fz:∀b' o ws,H b'=some (.frz o (.lst ws))->H' b'=some (.frz o (.lst ws)):=λb' o ws z=>by rw[e,zq (λy=>by subst y;rw[hb]at z;cases z)];exact z
  by_cases ei:i=k
  ·subst ei;rw[_l rfl]at q;cases q;rw[_l rfl];rw[vn rfl]at w;cases w;rcases h2 with⟨rfl,_,hc⟩ | ⟨_,z,_⟩
   ·rw[hb]at hc;cases hc;refine⟨i,ys++[d],b,vs++[v],r,rfl,(g _ _ h1).append (zU.one dn),.inl ⟨rfl,by rw[e,zP]⟩,h3.imp (λ_ _ _ _ z=>g _ _ z) (λk' b' dJ hm z=>?_) fz⟩;obtain⟨j,hj⟩:=z9N hm;rw[e,zq (λy=>by
     subst y;have:=u 0 (j+1) (Sum.inl i) _ _ rfl (by simpa using hj);lia)];exact z
   ·cases z
  ·rw[_p ei]at q;rw[_p ei];rw[wM (zaH ei)]at w;rcases h2 with⟨rfl,_,hc⟩ | ⟨rfl,_,o,hc⟩
   ·refine⟨i,zs,c,ws,r,rfl,g _ _ h1,.inl ⟨rfl,?_⟩,z3a g dn hb e h3 u.tail q w⟩;obtain⟨j,hj⟩:=z3K w;rw[e,zq (λy=>by
     subst y;have:=u 0 (j+1) (Sum.inl i) _ _ rfl (by simpa using hj);lia)];exact hc
   ·exact⟨i,zs,c,ws,r,rfl,g _ _ h1,.inr ⟨rfl,o,fz _ _ _ hc⟩,z3a g dn hb e h3 u.tail q w⟩
theorem z7r   : ∀{xs:List D}{ae:List (Key×V)},jM mg H Y xs ae->jM mg H Y [x] [q]->jM mg H Y (xs++[x]) (ae++[q])
 | [],ae,h,h'=>by subst h;exact h' | y::xs,ae,h,h'=>by
  obtain⟨i,zs,c,ws,r,rfl,h1,h2,h3⟩:=h;exact⟨i,zs,c,ws,r++[q],rfl,h1,h2,z7r h3 h'⟩
theorem xH.touch(r:Rep mg H Y s)(ha:Y[l]? = some a)(hx:s[l]? = some xs)(hp:H p=none)(hD:(ae=[]/\xs=[]/\H a=some (.dT []))\/(ae≠[]/\H a=some (.dK ae)/\jM mg H Y xs ae)): xH mg H Y (upd (upd H p (.lst [])) a (.dK (ae++[(.inl k,.ref p)]))) Y (s.set l (xs++[.tup [.int k,.lst []]])):=by
 have bN  := _d ha;have pn  := r.notin hp;have gN:l<s.length:=by rw[<- r.len];exact (_b.mp ha).1
 have pa:p≠a:=λz=>pn (z ▸ bN);have ka:∀o,H a=some o->(∀ae,o≠.dT ae)->(∀ae,ae≠[]->o≠.dK ae)->False:=λo e n2 n3=>by
  rcases hD with⟨_,_,z⟩ | ⟨n,z,_⟩;·rw[e]at z;exact n2 _ (_E z)
  ·rw[e]at z;exact n3 _ n (_E z)
 have nl:∀ws,H a≠some (.lst ws):=λws e=>ka _ e (by intro _ z;cases z) (by intro _ _ z;cases z);have same:∀{b},b≠a->b≠p->upd (upd H p (.lst [])) a (.dK (ae++[(.inl k,.ref p)])) b=H b:=λ{b} h1 h2=>by rw[zq h1,zq h2]
 have np:∀{b o},H b=some o->b≠p:=λ{b o} e z=>by rw[z,hp]at e;cases e
 have eY:upd (upd H p (.lst [])) a (.dK (ae++[(.inl k,.ref p)])) p=some (.lst []):=by rw[zq pa,zP]
 have cU:upd (upd H p (.lst [])) a (.dK (ae++[(.inl k,.ref p)])) a=some (.dK (ae++[(.inl k,.ref p)])):=zP;generalize hH:upd (upd H p (.lst [])) a (.dK (ae++[(.inl k,.ref p)]))=H' at same eY cU;have kp:Kp H H':=by
  refine⟨λb o q n1 n2 n3=>?_,λb ⟨ws,q⟩=>?_,λb q=>?_⟩
  ·by_cases z:b=a;·subst z;exact (ka o q n2 n3).elim
   ·rw[same z (np q)];exact q
  ·by_cases z:b=a;·subst z;exact (nl ws q).elim
   ·exact⟨ws,by rw[same z (np q)];exact q⟩
  ·by_cases z:b=a;·subst z;exact .inr (.inr (.inl ⟨_,by simp,cU⟩))
   ·have  := same z (by rcases q with⟨_,q⟩ | ⟨_,_,q⟩ | ⟨_,_,q⟩ | ⟨_,_,q⟩<;>exact np q);rw[IsC,this];exact q
 have cj:∀{a' ap},H' a'=some (.dK ap)->a'∈Y->(a'=a/\ap=ae++[(Sum.inl k,V.ref p)])\/(a'≠a/\H a'=some (.dK ap)):=λ{a' ap} e m=>by
  by_cases z:a'=a;·subst z;rw[cU]at e;cases e;exact .inl ⟨rfl,rfl⟩
  ·rw[same z (λy=>pn (y ▸ m))]at e;exact .inr ⟨z,e⟩
 have bh:∀{q b},(q,V.ref b)∈ae->Own H Y b:=λ{q b} hm=>by
  rcases hD with⟨rfl,_,_⟩ | ⟨_,z,_⟩;·simp at hm
  ·exact⟨a,bN,ae,q,z,hm⟩
 have ow:∀b,Own H' Y b->Own H Y b\/b=p:=λb ⟨a',m,ap,q,e,hm⟩=>by
  rcases cj e m with⟨rfl,rfl⟩ | ⟨_,e⟩
  ·rcases _D.mp hm with hm | hm;·exact .inl (bh hm)
   ·simp at hm;exact .inr hm.2
  ·exact .inl ⟨a',m,ap,q,e,hm⟩
 have mO:∀b ws,b∉Y->H b=some (.lst ws)->H' b=some (.lst ws):=λb ws hb q=>by rw[same (show b≠a from λz=>hb (z ▸ bN)) (np q)];exact q
 refine⟨⟨by simp[r.len],r.nd,λj zs h=>?_,λzs h=>?_,λb h=>?_,?_⟩,_bd _,λb o h hb _=>?_,λa h1 h2=>absurd h1 h2,λb hb=>(r.mt b hb).imp (λh=>⟨h,kp.l b h⟩) λh=>⟨h,kp.c b h,λ_ _ e=>kp.k b _ e (by intro _ z;cases z) (by intro _ z;cases z) (by intro _ _ z;cases z)⟩,λb h=>?_,λb h=>(ow b h).imp id λz=>by rw[z];exact hp⟩
 ·by_cases hj:l=j
  ·subst hj;rw[_T gN]at h;cases h;refine⟨a,ha,.inr (.inr (.inr (.inl ⟨_,by simp,cU,z7r ?_ ⟨k,[],p,[],[],rfl,zU.nil,.inl ⟨rfl,eY⟩,rfl⟩⟩)))⟩;rcases hD with⟨rfl,rfl,_⟩ | ⟨_,z,dk⟩;·rfl
   ·exact dk.imp (λ_ _ _ _ q=>q.gen kp λ_ _ q=>q) (λq b ws hm=>mO b ws (r.own b (bh hm))) (λb o ws q=>kp.k b _ q (by intro _ z;cases z) (by intro _ z;cases z) (by intro _ _ z;cases z))
  ·rw[_M hj]at h;obtain⟨b,h1,h2⟩:=r.cell j zs h;refine⟨b,h1,h2.gen kp (λ_ _ q=>q) (same ?_ λz=>pn (z ▸ _d h1)) (_d h1) r.own mO⟩;rintro rfl;exact hj ((_bc r.nd).mp (((_b.mp ha).2).trans ((_b.mp h1).2).symm))
 ·rcases _aY h with h | h;·exact r.flat zs h
  ·rw[h];exact vR (r.flat xs (_d hx)) rfl
 ·rcases ow b h with h | rfl;·exact r.own b h
  ·exact pn
 ·intro a1 m1 a2 m2 k1 k2 i j q1 q2 b e1 e2 g1 g2;have op:∀{q b},(q,V.ref b)∈ae->b≠p:=λ{q b} hm z=>by obtain⟨u,hu⟩:=r.ownAt (bh hm);exact np hu z
  have ot:∀{a' ap q b},a'∈Y->H a'=some (.dK ap)->(q,V.ref b)∈ap->b≠p:=λ{a' ap q b} m e hm z=>by obtain⟨u,hu⟩:=r.ownAt ⟨a',m,ap,q,e,hm⟩;exact np hu z
  have cw:∀{i:Nat} {q b},(ae++[(Sum.inl k,V.ref p)])[i]? = some (q,V.ref b)->(ae[i]? = some (q,V.ref b))\/(i=ae.length/\b=p):=λ{i q b} g=>by
   by_cases hi:i<ae.length;·rw[_y hi]at g;exact .inl g
   ·rw[_U (by lia)]at g;have:i-ae.length=0:=by
     have:=(_b.mp g).1;simp at this;lia
    rw[this]at g;simp at g;exact .inr ⟨by lia,g.2.symm⟩
  have hk:∀{i:Nat} {q b},ae[i]? = some (q,V.ref b)->H a=some (.dK ae):=λ{i q b} g=>by
   rcases hD with⟨rfl,_,_⟩ | ⟨_,z,_⟩;·simp at g
   ·exact z
  rcases cj e1 m1 with⟨rfl,rfl⟩ | ⟨n1,e1⟩<;>rcases cj e2 m2 with⟨rfl,rfl⟩ | ⟨n2,e2⟩
  ·rcases cw g1 with g1 | ⟨rfl,rfl⟩<;>rcases cw g2 with g2 | ⟨rfl,z⟩;·exact r.uq _ m1 _ m1 _ _ i j q1 q2 b (hk g1) (hk g1) g1 g2
   ·exact absurd z (op (_d g1))
   ·exact absurd rfl (op (_d g2))
   ·exact⟨rfl,rfl⟩
  ·rcases cw g1 with g1 | ⟨rfl,rfl⟩;·exact r.uq _ m1 _ m2 _ _ i j q1 q2 b (hk g1) e2 g1 g2
   ·exact absurd rfl (ot m2 e2 (_d g2))
  ·rcases cw g2 with g2 | ⟨rfl,rfl⟩;·exact r.uq _ m1 _ m2 _ _ i j q1 q2 b e1 (hk g2) g1 g2
   ·exact absurd rfl (ot m1 e1 (_d g1))
  ·exact r.uq _ m1 _ m2 _ _ i j q1 q2 b e1 e2 g1 g2
 ·rw[same (show b≠a from λz=>hb (z ▸ bN)) (np h)];exact h
 ·rw[<- hH]at h;exact qQ (qQ h)
theorem xH.layP  (r:Rep mg H Y s)(hp:H p=none):xH mg H Y (upd H p o) Y s:= have d:DkS H Y (upd H p o) Y:=λa ha ae e=>⟨ha,by rw[zq (show a≠p from λz=>r.notin hp (z ▸ ha))]at e;exact e⟩;⟨⟨r.len,r.nd,λl xs h=>let ⟨a,h1,h2⟩:=r.cell l xs h;⟨a,h1,h2.gen (.new hp) (λ_ _ q=>q) (zq (h2.ne hp)) (_d h1) r.own (λb vs _ q=>wQ hp b _ q)⟩,r.flat,λb h=>r.own b (d.own h),d.uq r⟩,_bd _,λb u h _ _=>wQ hp b u h,λa h1 h2=>absurd h1 h2,λa ha=>(r.mt a ha).imp (λh=>⟨h,(Kp.new hp).l a h⟩) λh=>⟨h,(Kp.new hp).c a h,λ_ _ e=>wQ hp a _ e⟩,λb h=>qQ h,λb h=>.inl (d.own h)⟩
theorem zgD{x:D}(h:x.flat=true):D.flat.flats (asT x)=true:=by cases x<;>first | exact h | rfl
theorem zfl{x:D}(h:x.flat=true)(e:asL x=some ys):D.flat.flats ys=true:=by cases x<;>cases e<;>exact h
theorem z7l{x:D}{q:Int×List D×Bool}(e:z6v x=some q)(h:x.flat=true):D.flat.flats q.2.1=true:=by
 unfold z6v at e;obtain⟨i,_,e⟩:=_aR.mp e;obtain⟨ys,e3,rfl⟩:=_O.mp e;obtain⟨b,e1,e2⟩:=_aR.mp e3;exact zfl (ve (zgD h) (_d e1)) e2
theorem z2s{g:List D->D}(hg:∀ys,D.flat.flats ys=true->(g ys).flat=true):∀{xs:List D},D.flat.flats xs=true->D.flat.flats (chK g k xs)=true
 | [],h=>h | x::xs,h=>by
  have h:=_B.mp h;cases e:z6v x with
  | none=>rw[zkQ e];exact _B.mpr ⟨h.1,z2s hg h.2⟩ | some q=>
   rw[z78 e];split;·exact _B.mpr ⟨hg _ (z7l e h.1),h.2⟩
   ·exact _B.mpr ⟨h.1,z2s hg h.2⟩
theorem zdb{i:Int}{zs:List D}(hd:d.flat=true)(h:D.flat.flats ys=true):(D.tup (.int i::.lst (ys++[d])::zs)).flat=D.flat.flats zs:=by
 change ((D.flat.flats (ys++[d]))&&D.flat.flats zs)=_;rw[vR h (by change (d.flat&&true)=true;rw[hd];rfl)];rfl
theorem zaZ(hd:d.flat=true)(h:D.flat.flats xs=true):D.flat.flats (z8B k d xs)=true:=z2s (λ_ h=>zdb hd h) h
theorem xH.push(r:Rep mg H Y s)(ha:Y[l]? = some a)(hx:s[l]? = some xs)(n:ae≠[])(hk:H a=some (.dK ae))(hd:jM mg H Y xs ae)(hg:z08 k xs=some (some (ys,false)))(hv:z16 ae (.inl k)=some (.ref b))(hb:H b=some (.lst vs))(dn:Den mg H Y d v)(df:d.flat=true): xH mg H Y (upd H b (.lst (vs++[v]))) Y (s.set l (z8B k d xs)):=by
 have bN  := _d ha;obtain⟨jb,gO⟩:=z3K hv;have own:Own H Y b:=⟨a,bN,ae,_,hk,_d gO⟩;have kp:Kp H (upd H b (.lst (vs++[v]))):=.putL ⟨vs,hb⟩;have same:∀{c},c∈Y->upd H b (.lst (vs++[v])) c=H c:=λ{c} m=>zq (λz=>(r.own b own) (z ▸ m));have d0:DkS H Y (upd H b (.lst (vs++[v]))) Y:=λc m ae e=>⟨m,by rw[same m]at e;exact e⟩;have dL:∀c o ws,H c=some (.frz o (.lst ws))->upd H b (.lst (vs++[v])) c=some (.frz o (.lst ws)):=λc o ws q=>kp.k c _ q (by intro _ z;cases z) (by intro _ z;cases z) (by intro _ _ z;cases z);refine⟨⟨by simp[r.len],r.nd,λj zs h=>?_,λzs h=>?_,λc h=>r.own c (d0.own h),d0.uq r⟩,_bd _,λc o h hc g=>?_,λa h1 h2=>absurd h1 h2,λc hc=>(r.mt c hc).imp (λh=>⟨h,kp.l c h⟩) λh=>⟨h,kp.c c h,λ_ _ e=>kp.k c _ e (by intro _ z;cases z) (by intro _ z;cases z) (by intro _ _ z;cases z)⟩,λb h=>qQ h,λb h=>.inl (d0.own h)⟩
 ·by_cases hj:l=j
  ·subst hj;rw[_T (by rw[<- r.len];exact (_b.mp ha).1)]at h;cases h;exact⟨a,ha,.inr (.inr (.inr (.inl ⟨ae,n,(same bN).trans hk,z3a (λ_ _ q=>q.gen kp λ_ _ q=>q) (dn.gen kp λ_ _ q=>q) hb rfl hd (λi j k k' b h1 h2=>(r.uq a bN a bN ae ae i j k k' b hk hk h1 h2).2) hg hv⟩)))⟩
  ·rw[_M hj]at h;obtain⟨c,h1,h2⟩:=r.cell j zs h;have mc:=_d h1;refine⟨c,h1,?_⟩;rcases h2 with⟨ws,q1,q2⟩ | ⟨ap,q1,q2⟩ | ⟨o,ap,dM,q1,q2⟩ | ⟨ap,n',q1,q2⟩ | ⟨o,ap,dM,q1,q3,q2,f⟩;·exact .inl ⟨ws,(same mc).trans q1,q2.gen kp λ_ _ q=>q⟩
   ·exact .inr (.inl ⟨ap,(same mc).trans q1,q2⟩)
   ·exact .inr (.inr (.inl ⟨o,ap,dM,(same mc).trans q1,q2⟩))
   ·refine .inr (.inr (.inr (.inl ⟨ap,n',(same mc).trans q1,q2.imp (λ_ _ _ _ q=>q.gen kp λ_ _ q=>q) (λq c' ws hm z=>?_) dL⟩)));obtain⟨j',dN⟩:=z9N hm
    rw[zq (λy=>by subst y;exact (show c≠a from by
    rintro rfl;exact hj ((_bc r.nd).mp (((_b.mp ha).2).trans ((_b.mp h1).2).symm))) (r.uq c mc a bN ap ae j' jb _ _ _ q1 hk dN gO).1)];exact z
   ·exact .inr (.inr (.inr (.inr ⟨o,ap,dM,(same mc).trans q1,q3,q2.imp (λ_ _ _ _ q=>q.gen kp λ_ _ q=>q) (λq c' ws hm z=>(q2.fz f.1 hm z).elim) dL,f⟩)))
 ·rcases _aY h with h | h;·exact r.flat zs h
  ·rw[h];exact zaZ df (r.flat xs (_d hx))
 ·rw[zq (λz=>by subst z;rw[hb]at h;exact g own _ (_E h).symm)];exact h
end
section
variable {mg:Gm}{H H':Hp}{Y:List Addr}{s:Sto}{l:Nat}{a p b:Addr}{xs ys:List D}{ae:List (Key×V)}{k:Int}{vs:List V}{d:D}{v:V}
theorem z5V:∀{xs:List D}{ae:List (Key×V)},jM mg H Y xs ae->ae.length=xs.length
 | [],ae,h=>by subst h;rfl | x::xs,ae,h=>by
  obtain⟨i,zs,c,ws,r,rfl,h1,h2,h3⟩:=h;simp[z5V h3]
theorem z8u(r:Rep mg H Y s)(hx:s[l]? = some xs)(ha:Y[l]? = some a)(hc:IsC H a)  (hg:z08 k xs=some g):(xs=[]/\H a=some (.dT []))\/∃ae,ae≠[]/\H a=some (.dK ae)/\jM mg H Y xs ae:=by
 rcases r.dic hx ha hc with⟨ae,q1,q2⟩ | ⟨o,ae,ys,q1,rfl,q2⟩ | q | ⟨o,ae,ys,q1,rfl,q2⟩;·cases xs with
  | nil=>subst q2;exact .inl ⟨rfl,q1⟩ | cons x xs=>
   obtain⟨k,v,x,r,rfl,h1,rfl,h2⟩:=q2;cases hg
 ·cases hg
 ·exact .inr q
 ·cases hg
theorem jA  : ∀{xs:List D},z08 k xs=some none->z08 k (xs++[e])=z08 k [e]
 | [],_=>rfl | x::xs,h=>by
  obtain⟨i,ys,z,e',⟨_,q⟩ | ⟨c,q⟩⟩:=z0h h;·cases q
  ·rw[_aQ,jF e',_p c];exact jA q
theorem z5d:∀{xs:List D},z08 k xs=some none->z8B k d (xs++[.tup [.int k,.lst []]])=xs++[.tup [.int k,.lst [d]]]
 | [],_=>(z78 (show z6v (.tup [.int k,.lst []])=some (k,[],false) from rfl)).trans (_l rfl) | x::xs,h=>by
  obtain⟨i,ys,z,e',⟨_,q⟩ | ⟨c,q⟩⟩:=z0h h;·cases q
  ·exact ((z78 e').trans (_p c)).trans (_aw (x::·) (z5d q))
end
section
variable {X:Cx}{E:XK}{o e:Expr}{x:Str}{gP mP dO gQ lp pos:Pos}
noncomputable def zbi(fo fk:FE)(j:Nat):FE:=fun ρ s=>(fo ρ s).bind λo s1=>match o with
 | .dlo l=>match s1[l]? with
  | some (.non::_)=>.no | _=>(fk ρ s1).bind λkd s2=>match kd,s2[l]?,ρ[j]? with
   | .int k,some xs,some (some d)=>match z08 k xs with
    | some none=>if d.flat=true/\xs.length<cap then .ok .non (s2.set l (xs++[.tup [.int k,.lst [d]]])) else .no | some (some (ys,false))=>if d.flat=true/\ys.length<cap/\xs.length<cap then .ok .non (s2.set l (z8B k d xs)) else .no | _=>.no
   | _,_,_=>.no
 | _=>.no
theorem zkx  (j:Nat)(ho:RE X E o fo)(he:RE X E e fk)(hN:autoParam (X.N[j]? = some x) aRf)(hv:Vis X.env.scope x:=by first | exact Or.inl rfl | exact Or.inr (Or.inl rfl) | exact Or.inr (Or.inr rfl))(hd:autoParam ((x==("__debug__":Str))=false) aDe)(bQ:autoParam ((x==("__classdict__":Str))=false) aDe) (o1:autoParam (attributeBase o "setdefault" X.env (eval o X.env)=eval o X.env) aRf) (o6:autoParam (((backTo dO (starEach [e,.List [] lp] X.env)).all (λx=>!x.1)&&(backToKw dO (keywordEach [] X.env)).all (λx=>x.1.isSome) && decide (([e,.List [] lp]:List Expr).length+([]:List Keyword).length+(if ([]:List Keyword).isEmpty then 0 else 1)<30))=true) aRf) (o7:autoParam ((gP.endLine==dO.line)=true) aRf)(mQ:autoParam (starEach [e,.List [] lp] X.env=(false,eval e X.env)::starEach [.List [] lp] X.env) aRf)(o8:autoParam (starEach [.List [] lp] X.env=(false,eval (.List [] lp) X.env)::starEach [] X.env) aRf)(o9:autoParam ((backTo dO (starEach [.List [] lp] X.env)).any (·.1)=false) aRf) (im:autoParam (attributeBase (.Call (.Attribute o "setdefault" gP) [e,.List [] lp] [] dO) "append" X.env (eval (.Call (.Attribute o "setdefault" gP) [e,.List [] lp] [] dO) X.env)=eval (.Call (.Attribute o "setdefault" gP) [e,.List [] lp] [] dO) X.env) aRf) (dc:autoParam (((backTo gQ (starEach [.Name x pos] X.env)).all (λx=>!x.1)&&(backToKw gQ (keywordEach [] X.env)).all (λx=>x.1.isSome) && decide (([.Name x pos]:List Expr).length+([]:List Keyword).length+(if ([]:List Keyword).isEmpty then 0 else 1)<30))=true) aRf) (lU:autoParam ((mP.endLine==gQ.line)=true) aRf)(bI:autoParam (starEach [.Name x pos] X.env=(false,eval (.Name x pos) X.env)::starEach [] X.env) aRf)(pc:autoParam ((backTo gQ (starEach [] X.env)).any (·.1)=false) aRf): RE X E (.Call (.Attribute (.Call (.Attribute o "setdefault" gP) [e,.List [] lp] [] dO) "append" mP) [.Name x pos] [] gQ) (zbi fo fk j):= yz (zjz PySem.F.plainAttrs_list PySem.F.slot_list_append PySem.F.type_list_append z7s (zjz PySem.F.plainAttrs_dict PySem.F.slot_dict_setdefault PySem.F.type_dict_setdefault zdN ho (jC he (jC (zaA z1H) z1H o8) mQ) o1 o6 o7 mQ o9) (jC (za0 hN hv hd bQ) z1H bI) im dc lU bI pc) λO H Q ⟨Y,ρ,s,r,en,h⟩=>by
  unfold zbi at h;refine⟨Y,ρ,s,r,en,(okR.bind  h).imp λov H1 ⟨Y1,s1,od,stp,dn,h1⟩=>?_⟩;have aG:=en.mono stp;split at h1
  ·rename_i l;split at h1;·exact h1.elim
   ·rename_i mR;have dl:=dn;obtain⟨a,rfl,e1,ka⟩:=dl;have pd:∃xs,s1[l]? = some xs:=by
     have:l<s1.length:=by rw[<- stp.rep.len];exact (_b.mp e1).1
     exact⟨_,_c this⟩
    obtain⟨rJ,eX⟩:=pd;have fJ:tyV X.K "dict" (.ref a) H1:=by
     rcases stp.rep.dic eX e1 ka with⟨ae,q1,_⟩ | ⟨o,ae,ys,q1,rfl,q2⟩ | ⟨ae,_,q1,_⟩ | ⟨o,ae,ys,q1,rfl,q2⟩;·exact .inr (.inr (.inl ⟨rfl,.inr ⟨ae,q1⟩⟩))
     ·exact absurd eX (mR ys)
     ·exact .inr (.inr (.inl ⟨rfl,.inl ⟨ae,q1⟩⟩))
     ·exact absurd eX (mR ys)
    refine⟨fJ,⟨Y1,ρ,s1,stp.rep,aG,(okR.bind  h1).imp λkv H2 ⟨Y2,s2,kd,ak,aI,h2⟩=>?_⟩⟩;have bz:=aG.mono ak;have r2:=ak.rep;have lv:=dn.mono ak;obtain⟨a',e',e2,ip⟩:=lv;cases e';split at h2
    ·rename_i k xs d hx hj;have ek  := yJ aI;subst ek;obtain⟨v,ig,mS⟩:=bz.at_ j d hj;refine⟨by simp,λp hp=>?_⟩;have pa:a≠p:=λz=>r2.notin hp (z ▸ _d e2);have bG:xH (gm X) H2 Y2 (upd H2 p (.lst [])) Y2 s2:=xH.layP r2 hp;split at h2
     ·rename_i hg;split at h2
      ·rename_i hc;have key:∃ae,zm2 H2 a ae/\ae.length=xs.length/\z16 ae (.inl k)=none/\((ae=[]/\xs=[]/\H2 a=some (.dT []))\/(ae≠[]/\H2 a=some (.dK ae)/\jM (gm X) H2 Y2 xs ae)):=by
        rcases z8u r2 hx e2 ip hg with⟨rfl,q⟩ | ⟨ae,n,q1,q2⟩;·exact⟨[],.inr ⟨rfl,q⟩,rfl,rfl,.inl ⟨rfl,rfl,q⟩⟩
        ·exact⟨ae,.inl q1,z5V q2,z3n q2 hg,.inr ⟨n,q1,q2⟩⟩
       obtain⟨ae,hD,aD,cV,bv⟩:=key;have pe:zm2 (upd H2 p (.lst [])) a ae:=hD.imp (λq=>by rw[zq pa];exact q) λ⟨z,q⟩=>⟨z,by rw[zq pa];exact q⟩;refine⟨a,ae,.inl k,.ref p,rfl,rfl,pe,by rw[aD];exact zaC hc.2,(λv hv=>by rw[cV]at hv;cases hv),λ_=>?_⟩;rw[zfb _ cV];have tc:=xH.touch (k:=k) r2 e2 hx hp bv;have eY:upd (upd H2 p (.lst [])) a (.dK (ae++[(.inl k,.ref p)])) p=some (.lst []):=by rw[zq (λz=>pa z.symm),zP]
       have cU:upd (upd H2 p (.lst [])) a (.dK (ae++[(.inl k,.ref p)])) a=some (.dK (ae++[(.inl k,.ref p)])):=zP;refine⟨.inl ⟨rfl,[],.inl (.inl eY)⟩,v,ig,p,[],v,rfl,rfl,eY,by decide,?_⟩;have gN  := (_b.mp hx).1;have mT:(s2.set l (xs++[.tup [.int k,.lst []]]))[l]? = some (xs++[.tup [.int k,.lst []]]):=_T gN;have pf:z16 (ae++[(.inl k,.ref p)]) (.inl k)=some (.ref p):=by rw[z7A _ _ _ _ cV,_l rfl]
       have ps:=xH.push    (ys:=[]) tc.rep e2 mT (by simp) cU (by
        rcases tc.rep.dic mT e2 (.inr (.inr (.inl ⟨_,by simp,cU⟩))) with⟨_,z,_⟩ | ⟨_,_,_,z,_⟩ | ⟨ap,_,z,q⟩ | ⟨_,_,_,z,_⟩;·rw[cU]at z;cases z
        ·rw[cU]at z;cases z
        ·rw[cU]at z;cases z;exact q
        ·rw[cU]at z;cases z) ((jA hg).trans (_l rfl)) pf eY (mS.mono tc) hc.1;rw[z5d hg,List.set_set]at ps;exact h2 .non _ _ (tc.trans ps) rfl
      ·exact h2.elim
     ·rename_i ys hg;split at h2
      ·rename_i hc;rcases z8u r2 hx e2 ip hg with⟨rfl,q⟩ | ⟨ae,n,q1,q2⟩;·cases hg
       ·obtain⟨b,ws,g1,g2,g3,_⟩:=z0t q2 hg;have hb:=g3 rfl;have pb:b≠p:=λz=>by rw[z,hp]at hb;cases hb
        refine⟨a,ae,.inl k,.ref p,rfl,rfl,.inl (by rw[zq pa];exact q1),by rw[z5V q2];exact zaC hc.2.2,λu hu=>?_,λz=>by rw[g1]at z;cases z⟩;rw[g1]at hu;cases hu;have eZ:upd H2 p (.lst []) b=some (.lst ws):=by rw[zq pb];exact hb
        have bX:upd H2 p (.lst []) a=some (.dK ae):=by rw[zq pa];exact q1
        refine⟨.inl ⟨rfl,ws,.inl (.inl eZ)⟩,v,ig,b,ws,v,rfl,rfl,eZ,by rw[g2.length];exact zaC hc.2.1,?_⟩;have ph:jM (gm X) (upd H2 p (.lst [])) Y2 xs ae:=by
         rcases bG.rep.dic hx e2 (.inr (.inr (.inl ⟨_,n,bX⟩))) with⟨_,z,_⟩ | ⟨_,_,_,z,_⟩ | ⟨ap,_,z,q⟩ | ⟨_,_,_,z,_⟩;·rw[bX]at z;cases z
         ·rw[bX]at z;cases z
         ·rw[bX]at z;cases z;exact q
         ·rw[bX]at z;cases z
        have ps:=xH.push    bG.rep e2 hx n bX ph hg g1 eZ (mS.mono bG) hc.1;exact h2 .non _ _ (bG.trans ps) rfl
      ·exact h2.elim
     ·exact h2.elim
    ·exact h2.elim
  ·exact h1.elim
end
end Dd
namespace L2
def zoX(Q:VK):VK:=λv H=>zd3 Q v H\/Q v H
theorem PE.freezeOr    (h:PE X e t):PE X e (λO H Q=>t O H (zoX Q)):=λac s O H Q I q=>thn (h ac s O H _ I q) λ_ _ ⟨v,H',I',r,z⟩=>z.elim (λz=>EP.freeze ⟨v,H',I',r,z⟩) λz=>⟨v,H',I',r,z⟩
end L2
namespace Dd
open L2
section
variable {mg:Gm}{H H':Hp}{Y:List Addr}{s:Sto}{l:Nat}{a p b:Addr}{xs ys:List D}{ae:List (Key×V)}{k:Int}{vs:List V}{d:D}{v:V}
theorem z5w  (g:∀ys ws,D.flat.flats ys=true->zU mg H Y ys ws->zU mg H' Y ys ws)(hb:H b=some (.lst vs))(e:H'=upd H b (.frz o (.lst vs))):∀{xs:List D}{ae:List (Key×V)},D.flat.flats xs=true->jM mg H Y xs ae->UqK ae->z08 k xs=some (some (ys,false))->z16 ae (.inl k)=some (.ref b)->jM mg H' Y (zlE k xs) ae
 | [],ae,_,h,_,q,_=>by cases q | x::xs,ae,f,h,u,q,w=>by
  obtain⟨i,zs,y,c,ws,r,e',rfl,h1,h2,h3⟩:=h.cons;rw[jF e']at q;rw[show zlE k (x::xs)=_ from z78 e'];have f:=_B.mp f;have dL:∀b' o ws,H b'=some (.frz o (.lst ws))->H' b'=some (.frz o (.lst ws)):=λb' o ws z=>by rw[e,zq (λy=>by subst y;rw[hb]at z;cases z)];exact z
  have fz:=z7l e' f.1;by_cases ei:i=k
  ·subst ei;rw[_l rfl]at q;cases q;rw[_l rfl];rw[vn rfl]at w;cases w;rcases h2 with⟨rfl,_,hc⟩ | ⟨_,z,_⟩
   ·rw[hb]at hc;cases hc;refine⟨i,ys,b,vs,r,rfl,g _ _ fz h1,.inr ⟨rfl,o,by rw[e,zP]⟩,h3.imp (λiq _ _ hm z=>g _ _ ?_ z) (λk' b' dJ hm z=>?_) dL⟩
    ·rcases hm with hm | hm;all_goals exact (_B.mp (ve f.2 hm)).1
    ·obtain⟨j,hj⟩:=z9N hm;rw[e,zq (λy=>by
      subst y;have:=u 0 (j+1) (Sum.inl i) _ _ rfl (by simpa using hj);lia)];exact z
   ·cases z
  ·rw[_p ei]at q;rw[_p ei];rw[wM (zaH ei)]at w;rcases h2 with⟨rfl,_,hc⟩ | ⟨rfl,_,o',hc⟩
   ·refine⟨i,zs,c,ws,r,rfl,g _ _ fz h1,.inl ⟨rfl,?_⟩,z5w g hb e f.2 h3 u.tail q w⟩;obtain⟨j,hj⟩:=z3K w;rw[e,zq (λy=>by
     subst y;have:=u 0 (j+1) (Sum.inl i) _ _ rfl (by simpa using hj);lia)];exact hc
   ·exact⟨i,zs,c,ws,r,rfl,g _ _ fz h1,.inr ⟨rfl,o',dL _ _ _ hc⟩,z5w g hb e f.2 h3 u.tail q w⟩
theorem zef(h:D.flat.flats xs=true):D.flat.flats (zlE k xs)=true:=z2s (g:=λys=>.tup [.int k,.lst ys,.non]) (λ_ h=>_B.mpr ⟨h,rfl⟩) h
theorem xH.frzOwn(o:Obj)(r:Rep mg H Y s)(ha:Y[l]? = some a)(hx:s[l]? = some xs)(n:ae≠[])(hk:H a=some (.dK ae))(hd:jM mg H Y xs ae)(hg:z08 k xs=some (some (ys,false)))(hv:z16 ae (.inl k)=some (.ref b))(hb:H b=some (.lst vs)): xH mg H Y (upd H b (.frz o (.lst vs))) Y (s.set l (zlE k xs)):=by
 have bN  := _d ha;have gN:l<s.length:=by rw[<- r.len];exact (_b.mp ha).1
 obtain⟨jb,gO⟩:=z3K hv;have own:Own H Y b:=⟨a,bN,ae,_,hk,_d gO⟩;have kk:∀c u,H c=some u->(∀vs,u≠.lst vs)->(∀ae,u≠.dT ae)->(∀ae,ae≠[]->u≠.dK ae)->upd H b (.frz o (.lst vs)) c=some u:=λc u h hn _ _=>by rw[zq (λz=>by subst z;rw[hb]at h;exact hn vs (_E h).symm)];exact h
 have g:∀ys ws,D.flat.flats ys=true->zU mg H Y ys ws->zU mg (upd H b (.frz o (.lst vs))) Y ys ws:=λys ws f q=>q.flatten kk f;have same:∀{c},c∈Y->upd H b (.frz o (.lst vs)) c=H c:=λ{c} m=>zq (λz=>(r.own b own) (z ▸ m));have d0:DkS H Y (upd H b (.frz o (.lst vs))) Y:=λc m ae e=>⟨m,by rw[same m]at e;exact e⟩;have dL:∀c o' ws,H c=some (.frz o' (.lst ws))->upd H b (.frz o (.lst vs)) c=some (.frz o' (.lst ws)):=λc o' ws q=>kk c _ q (by intro _ z;cases z) (by intro _ z;cases z) (by intro _ _ z;cases z);refine⟨⟨by simp[r.len],r.nd,λj zs h=>?_,λzs h=>?_,λc h=>r.own c (d0.own h),d0.uq r⟩,_bd _,λc o' h hc q=>?_,λa h1 h2=>absurd h1 h2,λc hc=>(r.mt c hc).imp (λh=>⟨h,by rw[IsL,same hc];exact h⟩) λh=>⟨h,by rw[IsC,same hc];exact h,λ_ _ e=>by rw[same hc];exact e⟩,λb h=>qQ h,λb h=>.inl (d0.own h)⟩
 ·by_cases hj:l=j
  ·subst hj;rw[_T gN]at h;cases h;exact⟨a,ha,.inr (.inr (.inr (.inl ⟨ae,n,(same bN).trans hk,z5w g hb rfl (r.flat xs (_d hx)) hd (λi j k k' b h1 h2=>(r.uq a bN a bN ae ae i j k k' b hk hk h1 h2).2) hg hv⟩)))⟩
  ·rw[_M hj]at h;obtain⟨c,h1,h2⟩:=r.cell j zs h;have mc:=_d h1;have fz:=r.flat zs (_d h);have nc:c≠a:=by
    rintro rfl;exact hj ((_bc r.nd).mp (((_b.mp ha).2).trans ((_b.mp h1).2).symm))
   refine⟨c,h1,?_⟩;rcases h2 with⟨ws,q1,q2⟩ | ⟨ap,q1,q2⟩ | ⟨o',ap,dM,q1,q2⟩ | ⟨ap,n',q1,q2⟩ | ⟨o',ap,dM,q1,q3,q2,f⟩;·exact .inl ⟨ws,(same mc).trans q1,g _ _ fz q2⟩
   ·exact .inr (.inl ⟨ap,(same mc).trans q1,q2⟩)
   ·exact .inr (.inr (.inl ⟨o',ap,dM,(same mc).trans q1,q2⟩))
   ·refine .inr (.inr (.inr (.inl ⟨ap,n',(same mc).trans q1,q2.imp (λiq _ _ hm q=>g _ _ ?_ q) (λq c' ws hm z=>?_) dL⟩)))
    ·rcases hm with hm | hm;all_goals exact (_B.mp (ve fz hm)).1
    ·obtain⟨j',dN⟩:=z9N hm;rw[zq (λy=>by subst y;exact nc (r.uq c mc a bN ap ae j' jb _ _ _ q1 hk dN gO).1)];exact z
   ·subst q3;refine .inr (.inr (.inr (.inr ⟨o',ap,dM,(same mc).trans q1,rfl,q2.imp (λiq _ _ hm q=>g _ _ ?_ q) (λq c' ws hm z=>(q2.fz f.1 hm z).elim) dL,f⟩)));rcases hm with hm | hm;all_goals exact (_B.mp (ve (xs:=dM) fz hm)).1
 ·rcases _aY h with h | h;·exact r.flat zs h
  ·rw[h];exact zef (r.flat xs (_d hx))
 ·rw[zq (λz=>by subst z;rw[hb]at h;exact q own _ (_E h).symm)];exact h
end
section
variable {X:Cx}{E:XK}{o e:Expr}{aV pos lp:Pos}
noncomputable def z6z(fo fk:FE):FE:=fun ρ s=>(fo ρ s).bind λo s1=>match o with
 | .dlo l=>(fk ρ s1).bind λkd s2=>match kd,s2[l]? with
  | .int k,some (x::xs)=>match z08 k (x::xs) with
   | some none=>.ok (.lst []) s2 | some (some (ys,true))=>.ok (.lst ys) s2 | some (some (ys,false))=>.ok (.lst ys) (s2.set l (zlE k (x::xs))) | none=>.no
  | _,_=>.no
 | _=>.no
theorem ziw  (hu:X.A.units+64<cLine)(ho:RE X E o fo)(he:RE X E e fk)(bi:autoParam (attributeBase o "get" X.env (eval o X.env)=eval o X.env) aRf) (bM:autoParam (((backTo pos (starEach [e,.List [] lp] X.env)).all (λx=>!x.1)&&(backToKw pos (keywordEach [] X.env)).all (λx=>x.1.isSome) && decide (([e,.List [] lp]:List Expr).length+([]:List Keyword).length+(if ([]:List Keyword).isEmpty then 0 else 1)<30))=true) aRf) (aE:autoParam ((aV.endLine==pos.line)=true) aRf)(pp:autoParam (backTo pos (starEach [e,.List [] lp] X.env)=[(false,eval e X.env),(false,eval (.List [] lp) X.env)]) aRf): RE X E (.Call (.Attribute o "get" aV) [e,.List [] lp] [] pos) (z6z fo fk):= yz (PE.freezeOr (zfi (by lia) ho he (zaA z1H) ⟨bi,bM,aE,pp⟩)) λO H Q ⟨Y,ρ,s,r,en,h⟩=>by
  refine⟨Y,ρ,s,r,en,(okR.bind  h).imp λov H1 ⟨Y1,s1,od,stp,dn,h1⟩=>?_⟩;have aG:=en.mono stp;split at h1
  ·have dl:=dn;obtain⟨a,rfl,e1,ka⟩:=dl;refine⟨a,rfl,zoh ka,⟨Y1,ρ,s1,stp.rep,aG,(okR.bind  h1).imp λkv H2 ⟨Y2,s2,kd,ak,aI,h2⟩=>?_⟩⟩;have r2:=ak.rep;have lv:=dn.mono ak;obtain⟨a',e',e2,ip⟩:=lv;cases e';split at h2
   ·rename_i k x xs hx;have ek  := yJ aI;subst ek;refine⟨by simp,λp hp=>?_⟩;have pa:a≠p:=λz=>r2.notin hp (z ▸ _d e2);have bG:xH (gm X) H2 Y2 (upd H2 p (.lst [])) Y2 s2:=xH.layP r2 hp;have cell:∀{g},z08 k (x::xs)=some g->∃ae,ae≠[]/\H2 a=some (.dK ae)/\jM (gm X) H2 Y2 (x::xs) ae:=λ{g} hg=>by
     rcases z8u r2 hx e2 ip hg with⟨z,_⟩ | q;·cases z
     ·exact q
    split at h2
    ·rename_i hg;obtain⟨ae,n,q1,q2⟩:=cell hg;refine⟨none,.inl ⟨ae,.inl k,.inl (by rw[zq pa];exact q1),rfl,(z3n q2 hg).symm⟩,.inl ⟨p,[],rfl,zP,λo=>?_⟩⟩;rw[zcB];exact h2 _ _ _ (xH.layP r2 hp) (by exact⟨p,o,[],rfl,zP,zU.nil⟩)
    ·rename_i ys hg;obtain⟨ae,n,q1,q2⟩:=cell hg;obtain⟨b,ws,g1,g2,_,g4⟩:=z0t q2 hg;obtain⟨o,hb⟩:=g4 rfl;refine⟨some (.ref b),.inl ⟨ae,.inl k,.inl (by rw[zq pa];exact q1),rfl,g1.symm⟩,.inr ?_⟩;exact h2 _ _ _ bG (by change ∃_,_;exact⟨b,o,ws,rfl,by rw[zq (λz=>by rw[z,hp]at hb;cases hb)];exact hb,g2.mono bG⟩)
    ·rename_i ys hg;obtain⟨ae,n,q1,q2⟩:=cell hg;obtain⟨b,ws,g1,g2,g3,_⟩:=z0t q2 hg;have hb:=g3 rfl;have eZ:upd H2 p (.lst []) b=some (.lst ws):=by rw[zq (λz=>by rw[z,hp]at hb;cases hb)];exact hb
     have bX:upd H2 p (.lst []) a=some (.dK ae):=by rw[zq pa];exact q1
     refine⟨some (.ref b),.inl ⟨ae,.inl k,.inl bX,rfl,g1.symm⟩,.inl ⟨b,ws,rfl,eZ,λo=>?_⟩⟩;have bF:=xH.frzOwn  o bG.rep e2 hx n bX (by
      rcases bG.rep.dic hx e2 (.inr (.inr (.inl ⟨_,n,bX⟩))) with⟨_,z,_⟩ | ⟨_,_,_,z,_⟩ | ⟨ap,_,z,q⟩ | ⟨_,_,_,z,_⟩;·rw[bX]at z;cases z
      ·rw[bX]at z;cases z
      ·rw[bX]at z;cases z;exact q
      ·rw[bX]at z;cases z) hg g1 eZ;refine h2 _ _ _ (bG.trans bF) ?_;exact⟨b,o,ws,rfl,zP,(g2.mono bG).mono bF⟩
    ·exact h2.elim
   ·exact h2.elim
  ·exact h1.elim
end
end Dd
namespace L2
theorem z5E:fillsInplaceSlot (.type "list") "add" (Operator.Add==.Add)=pure false:=by
 show (typeLookup (.type "list") (dunderI "add") >>= λfi=>pure (fi.isSome&&!isSeqSlot fi))=pure false;rw[_cg.lookup];rfl
theorem z40:seqSlot? (.type "list") (dunderI "add")=pure (some (.builtin "list.__iadd__")):=PySem.seqSlot_of _cg.lookup (by decide +kernel)
def zmb:TIp:=λx y H Q=>∃l b xs zs,x=.ref l/\y=.ref b/\H l=some (.lst xs)/\Rd H b (.lst zs)/\xs.length+zs.length<=sizeLine/\Q (.ref l) (upd H l (.lst (xs++zs)))
theorem zfL  : PIp X .Add zmb:=by
 intro ac s O H x y v u Q I rx ry h;obtain⟨l,b,xs,zs,rfl,rfl,hH,hB,hz,q⟩:=h;cases rx;cases ry;obtain⟨z,ah,n,r,hl,e⟩:=I.lstM hH;obtain⟨z2,aZ,n2,r2,e2⟩:=hB.ok I.hok;have l2:=r2.length;have ta:s.TypeIs (.ref l) "list":=⟨_,e,rfl⟩;refine _aU (_a (_dq ta (_a (_c6 z5E (_a (wpAny_binaryOp1_none  ta ⟨_,e2,rfl⟩ noFill_list_add ?_))))));refine _a (_c6 z40 (call_meets _cg ta PySem.F.entry_list_iadd (PySem.F.args_list_iadd_2 _ _) (AutoSeq1.list___iadd___list_list_0 l ah.toArray n b aZ.toArray n2 ?_ (by rw[_t];lia) (by rw[_t,_t];lia)) ⟨e,e2,?_⟩))
 ·intro q';simp only[_ac]at q';have:=q'.2;simp only[Builtin.List.listTooLong,_t,_s]at this;lia
 ·refine⟨.ref l,_,I.lset (its':=ah++aZ) hH e (by simp) (r.append r2) ?_,rfl,q⟩;rw[_P];lia
end L2
namespace Dd
open L2
section
variable {X:Cx}{E:XK}{e:Expr}{pos bL:Pos}
noncomputable def zdr(i:Nat)(f:FE):FS:=fun ρ s=>match ρ[i]? with
 | some (some (.loc l))=>(f ρ s).bind λd s1=>match d with
  | .lst ys=>match s1[l]? with
   | some xs=>if D.flat.flats ys=true/\xs.length+ys.length<=cap then .ok (.nx (ρ.set i (some (.loc l)))) (s1.set l (xs++ys)) else .no | none=>.no
  | _=>.no
 | _=>.no
theorem zkY(i:Nat)   (hN:X.N.Nodup)(he:RE X E e f)(hi:autoParam (X.N[i]? = some x) aRf)(hx:autoParam (Loc X.env.scope x) aOr)(hf:autoParam (X.fn x=true\/X.env.scope.names.lookup x=some .local) aLr): RS X E (.AugAssign (.Name x bL) .Add e pos) (zdr i f):= uP (zmq hN hi hx he zfL hf) λDn O H ⟨Y,ρ,s,r,en,h⟩=>by
  unfold zdr at h;split at h
  ·rename_i l ea;obtain⟨v,h1,h2⟩:=en.at_ i _ ea;refine⟨_,h1,(yL (k:=fun ρ d s1=>match d with
    | .lst ys=>match s1[l]? with
     | some xs=>if D.flat.flats ys=true/\xs.length+ys.length<=cap then R.ok (Fl.nx (ρ.set i (some (.loc l)))) (s1.set l (xs++ys)) else .no | none=>.no
    | _=>.no) r en h _ λv2 H1 Y1 s1 d r1 aG dn stp h3=>?_)⟩;have dl:=h2.mono stp;split at h3
   ·split at h3
    ·rename_i xs ex;split at h3
     ·rename_i hc;have pr:=dl;obtain⟨a,rfl,e1,ka⟩:=pr;obtain⟨b,o',ws,rfl,eb,dw⟩:=dn;obtain⟨vs,q1,q2⟩:=r1.at_ ex e1 ka;have ax:=xH.put   r1 e1 ka (q2.append dw) (vR (r1.flat xs (_d ex)) hc.1);exact⟨a,b,vs,ws,rfl,rfl,q1,.inr ⟨o',eb⟩,by rw[q2.length,dw.length];exact kj hc.2,(h3 (FlV.nx (O.set i (some (.ref a)))) _ _ ax ((aG.mono ax).set (dl.mono ax) i))⟩
     ·exact h3.elim
    ·exact h3.elim
   ·exact h3.elim
  ·exact h.elim
end
section
variable {X:Cx}{E:XK}
noncomputable def zgN:D->D->Sto->R D
 | .tup xs,.tup ys,s=>match intsOf xs,intsOf ys with
  | some ns,some ms=>.ok (.bl (HT.lexLt ns ms)) s | _,_=>.no
 | _,_,_=>.no
theorem zlt(hu:X.A.units<cLine):∃r,OpR X (compareOp .Lt) r/\OpF X E r zgN:=⟨_,zlD hu,λH Y s d1 d2 v1 v2 Q r h1 h2 h=>by
 unfold zgN at h;split at h
 ·rename_i xs ys;split at h
  ·rename_i ns ms e1 e2;obtain⟨a,vs,rfl,q1,p1⟩:=h1;obtain⟨b,ws,rfl,q2,p2⟩:=h2;rw[uo e1]at p1;rw[uo e2]at p2;rw[ur p1]at q1;rw[ur p2]at q2;exact⟨a,b,ns,ms,rfl,rfl,.inl (.inl q1),.inl (.inl q2),h.here r yX⟩
  ·exact h.elim
 ·exact h.elim⟩
end
section
variable {prog:Program}{w:World}{A:Around}{E:Value->Shared->Prop}{s:Shared}
theorem zbd{id:String}     (hk:builtinKind id=none)(hp:plainId id=true) (hb:entryFor table id=some b)(ha:argsOk id ⟨args,kw⟩) (hc:wpAny (model prog w) A.in1 (b ⟨args,kw⟩) (λfin s'=>match fin with
   | .done f=>(match (Except.ok f:Result) with | .ok (.ret v)=>Q v s' | .ok _=>False | .error e=>E e s') | .again c'=>c'.quiet=true/\codeAny (model prog w) A c' (λr s'=>match r with | .ok (.ret v)=>Q v s' | .ok _=>False | .error e=>E e s') s') E s): wpAny (model prog w) A (call (.builtin id) args kw) Q E s:=by
 refine wpAny_call (codeAny_call_builtin hp hb ?_);simp only[checkBuiltinCall,hk];cases hsig:Manifest.signature? id with
 | none=>exact _i hc | some sig=>
  simp only[argsOk,hsig]at ha;have h2  := ha;show wpAny _ A.in1 (Bind.checkArgs id sig ⟨args,kw⟩) _ _ s;rw[h2];exact _i hc
theorem ze4(a v:Value):argsOk "min" ⟨[a],[("default",v)]⟩:=by unfold argsOk;kernel_rfl
theorem zdI(v:Value):Builtin.Builtins.bindParams "min" ["key","default"] 0 ⟨[],[("default",v)]⟩=pure [none,some v]:=by kernel_rfl
end
section
variable {X:Cx}{E:XK}{a:Expr}{pos:Pos}{ta:TE}
theorem zdu(ha:PE X a ta):PE X (.UnaryOp .Not a pos) (λO H Q=>ta O H λx H'=>∃k,zou X.K x H' k/\Q (.bl (!k)) H'):=by
 intro ac s O H Q I h;refine UnaryOp_ (thn (ha ac s O H _ I h) λv s1 ⟨x,H1,I1,r1,k,q1,q2⟩=>?_);exact not_of (thn (zgY ac s1 O H1 x v (λc H'=>Q (.bl (!c)) H') I1 r1 ⟨k,q1,q2⟩) λc s2 ⟨H2,I2,q⟩=>⟨.bl (!c),H2,I2,rfl,q⟩)
noncomputable def zin(f:FE):FE:=fun ρ s=>(f ρ s).bind λd s1=>match listOf s1 d with
 | some xs=>.ok (.bl xs.isEmpty) s1 | none=>.no
theorem zlL  (h:RE X E a f):RE X E (.UnaryOp .Not a pos) (zin f):= yz (zdu h) λO H Q ⟨Y,ρ,s,r,en,h⟩=>by
  refine yL (k:=fun ρ d s1=>match listOf s1 d with | some xs=>R.ok (D.bl xs.isEmpty) s1 | none=>.no) r en h _ λv H1 Y1 s1 d r1 aG dn stp h1=>?_;split at h1
  ·rename_i xs e;obtain⟨p,vs,rfl,q1,q2⟩:=yg r1 e dn;refine⟨!xs.isEmpty,.inl ⟨vs,.inl q1,by rw[z4J q2]⟩,?_⟩;rw[Bool.not_not];exact h1.here r1 yX
  ·exact h1.elim
end
end Dd
namespace Dt
noncomputable def z3j:Bool->Keyed->Array Keyed->Nat->Nat->Nat->StateT SortSt Sem (Option Nat):=sortPriv% PySem.Builtin.gallop
noncomputable def zgb:Array Keyed->Array Keyed->StateT SortSt Sem (Array Keyed):=sortPriv% PySem.Builtin.mergeLo
noncomputable def zgd:Array Keyed->Array Keyed->StateT SortSt Sem (Array Keyed):=sortPriv% PySem.Builtin.mergeHi
noncomputable def zjK(left:Bool)(key:Keyed)(arr:Array Keyed)(base i:Nat):StateT SortSt Sem (Option Bool):=do
 let x <- elem' arr (base+i) if left then lt' x key else return (<- lt' key x).map (!·)
noncomputable def at_(arr:Array Keyed)(i:Nat):Keyed:=arr.getD i (Value.none,Value.none)
theorem z8E   (h:i<arr.size):arr[i]? = some (at_ arr i):=by simp[at_,h]
structure Env(prog:Program)(w:World)(A:Around)(s:Shared)(κ:SortKind)(P:Keyed->Prop)(rk:Keyed->Nat):Prop where cmp:∀x y,P x->P y->∀(C:Bool->Shared->Prop)(E:Value->Shared->Prop),C (decide (rk x<rk y)) s->wpAny (model prog w) A (keyLt' κ x.1 y.1) C E s
section
variable {prog:Program}{w:World}{A:Around}{E:Value->Shared->Prop}{s:Shared}{κ:SortKind}{P:Keyed->Prop}{rk:Keyed->Nat}(V:Env prog w A s κ P rk) {arr a b:Array Keyed}{st:SortSt}
theorem yH   (h:i<arr.size)(q:Q (at_ arr i) st):wpS (model prog w) A E s (elem' arr i) Q st:=by
 rw[elem'_eq,z8E h];exact _o q
include V
theorem ze6   (hk:kindOf st=κ)(hx:P x)(hy:P y)(h:Q (some (decide (rk x<rk y))) st):wpS (model prog w) A E s (lt' x y) Q st:=by
 rw[lt'_eq];refine _j (_ch ?_);rw[hk];exact _j (_cV (_cy (V.cmp x y hx hy _ _ ⟨rfl,(_o h)⟩)))
noncomputable def bey(rk:Keyed->Nat)(left:Bool)(key x:Keyed):Bool:=if left then decide (rk x<rk key) else !decide (rk key<rk x)
theorem jj{left:Bool}{key:Keyed}{base i:Nat}{Q:Option Bool->SortSt->Prop}(hk:kindOf st=κ)(hP:∀i,i<arr.size->P (at_ arr i))(hx:P key)(hi:base+i<arr.size)(h:Q (some (bey rk left key (at_ arr (base+i)))) st):wpS (model prog w) A E s (zjK left key arr base i) Q st:=by
 refine _j (yH hi ?_);cases left;·exact _j (ze6 V hk hx (hP _ hi) (_o h))
 ·exact ze6 V hk (hP _ hi) hx h
theorem qB{left:Bool}{key:Keyed}{base n hint:Nat}{Q:Option Nat->SortSt->Prop}(hk:kindOf st=κ)(hP:∀i,i<arr.size->P (at_ arr i))(hx:P key)(hb:base+n<=arr.size)(hh:hint<n) (mono:∀i j,i<=j->j<n->bey rk left key (at_ arr (base+j))=true->bey rk left key (at_ arr (base+i))=true) (h:∀k,k<=n->(∀i,i<k->bey rk left key (at_ arr (base+i))=true)->(∀i,k<=i->i<n->bey rk left key (at_ arr (base+i))=false)->Q (some k) st):wpS (model prog w) A E s (z3j left key arr base n hint) Q st:=by
 have cE:∀i j,i<=j->j<n->bey rk left key (at_ arr (base+i))=false->bey rk left key (at_ arr (base+j))=false:=λi j h1 h2 h3=>by
  cases e:bey rk left key (at_ arr (base+j));·rfl
  ·rw[mono i j h1 h2 e]at h3;cases h3
 refine _j (jj V hk hP hx  (by lia) ?_);dsimp only;cases e:bey rk left key (at_ arr (base+hint))
 ·refine _j (_bL (_aK (I:=λx c ag=>ag=st/\∃l o,c=(none,l,o)/\x+1<=o/\l<o/\l<=hint/\bey rk left key (at_ arr (base+(hint-l)))=false) (Q:=λc ag=>ag=st/\∃l o,c=(none,l,o)/\hint+1-min o (hint+1)<=hint-l/\hint-l<=n/\(∀i,i<hint+1-min o (hint+1)->bey rk left key (at_ arr (base+i))=true)/\(∀i,hint-l<=i->i<n->bey rk left key (at_ arr (base+i))=false)) ?_ ?_ ⟨rfl,0,1,rfl,by lia,by lia,by lia,e⟩) ?_)
  ·rintro x c ag _ hx' ⟨rfl,l,o,rfl,h1,h2,h3,h4⟩;dsimp only;by_cases q:o ≥ hint+1
   ·rw[_l q];exact _o ⟨rfl,l,o,rfl,by lia,by lia,λi hi=>by lia,λi hi hn=>cE _ _ hi hn h4⟩
   ·rw[_p q];refine _j (jj V hk hP hx  (by lia) ?_);dsimp only;cases e2:bey rk left key (at_ arr (base+(hint-o)));·exact _o ⟨rfl,o,2*o+1,rfl,by lia,by lia,by lia,e2⟩
    ·simp only[_G];exact _o ⟨rfl,l,o,rfl,by lia,by lia,λi hi=>mono i (hint-o) (by lia) (by lia) e2,λi hi hn=>cE _ _ hi hn h4⟩
  ·rintro c ag ⟨rfl,l,o,rfl,h1,h2,h3,h4⟩;exact⟨rfl,l,o,rfl,by lia,by lia,λi hi=>by lia,λi hi hn=>cE _ _ hi hn h4⟩
  ·rintro c ag ⟨rfl,l,o,rfl,f1,f2,f3,f4⟩;dsimp only;generalize hint+1-min o (hint+1)=lo at f1 f3;generalize hint-l=hi at f1 f2 f4;refine _j (_bL (_aK (I:=λx c av=>av=ag/\∃lo hi,c=(none,lo,hi)/\hi-lo<=n-x/\lo<=hi/\hi<=n/\(∀i,i<lo->bey rk left key (at_ arr (base+i))=true)/\(∀i,hi<=i->i<n->bey rk left key (at_ arr (base+i))=false)) (Q:=λc av=>av=ag/\∃k,c=(none,k,k)/\k<=n/\(∀i,i<k->bey rk left key (at_ arr (base+i))=true)/\(∀i,k<=i->i<n->bey rk left key (at_ arr (base+i))=false)) ?_ ?_ ⟨rfl,lo,hi,rfl,by lia,f1,f2,f3,f4⟩) ?_)
   ·rintro x c av _ hx' ⟨rfl,lo,hi,rfl,h0,h1,h2,h3,h4⟩;dsimp only;by_cases q:lo ≥ hi
    ·rw[_l q];have:lo=hi:=by lia
     subst this;exact _o ⟨rfl,lo,rfl,h2,h3,h4⟩
    ·rw[_p q];refine _j (jj V hk hP hx  (by lia) ?_);dsimp only;cases e2:bey rk left key (at_ arr (base+(lo+(hi-lo) / 2)));·exact _o ⟨rfl,lo,_,rfl,by lia,by lia,by lia,h3,λi dg hn=>cE _ _ dg hn e2⟩
     ·simp only[_G];exact _o ⟨rfl,_,hi,rfl,by lia,by lia,by lia,λi dg=>mono _ _ (by lia) (by lia) e2,h4⟩
   ·rintro c av ⟨rfl,lo,hi,rfl,h0,h1,h2,h3,h4⟩;have:lo=hi:=by lia
    subst this;exact⟨rfl,lo,rfl,h2,h3,h4⟩
   ·rintro c av ⟨rfl,k,rfl,h2,h3,h4⟩;exact _o (h k h2 h3 h4)
 ·simp only[_G];refine _j (_bL (_aK (I:=λx c ag=>ag=st/\∃l o,c=(none,l,o)/\x+1<=o/\l<o/\hint+l<n/\bey rk left key (at_ arr (base+(hint+l)))=true) (Q:=λc ag=>ag=st/\∃l o,c=(none,l,o)/\hint+l+1<=hint+min o (n-hint)/\hint+min o (n-hint)<=n/\(∀i,i<hint+l+1->bey rk left key (at_ arr (base+i))=true)/\(∀i,hint+min o (n-hint)<=i->i<n->bey rk left key (at_ arr (base+i))=false)) ?_ ?_ ⟨rfl,0,1,rfl,by lia,by lia,by lia,e⟩) ?_)
  ·rintro x c ag _ hx' ⟨rfl,l,o,rfl,h1,h2,h3,h4⟩;dsimp only;by_cases q:o ≥ n-hint
   ·rw[_l q];exact _o ⟨rfl,l,o,rfl,by lia,by lia,λi hi=>mono i (hint+l) (by lia) h3 h4,λi hi hn=>by lia⟩
   ·rw[_p q];refine _j (jj V hk hP hx  (by lia) ?_);dsimp only;cases e2:bey rk left key (at_ arr (base+(hint+o)));·exact _o ⟨rfl,l,o,rfl,by lia,by lia,λi hi=>mono i (hint+l) (by lia) h3 h4,λi hi hn=>cE (hint+o) i (by lia) hn e2⟩
    ·exact _o ⟨rfl,o,2*o+1,rfl,by lia,by lia,by lia,e2⟩
  ·rintro c ag ⟨rfl,l,o,rfl,h1,h2,h3,h4⟩;exact⟨rfl,l,o,rfl,by lia,by lia,λi hi=>mono i (hint+l) (by lia) h3 h4,λi hi hn=>by lia⟩
  ·rintro c ag ⟨rfl,l,o,rfl,f1,f2,f3,f4⟩;dsimp only;generalize hint+l+1=lo at f1 f3;generalize hint+min o (n-hint)=hi at f1 f2 f4;refine _j (_bL (_aK (I:=λx c av=>av=ag/\∃lo hi,c=(none,lo,hi)/\hi-lo<=n-x/\lo<=hi/\hi<=n/\(∀i,i<lo->bey rk left key (at_ arr (base+i))=true)/\(∀i,hi<=i->i<n->bey rk left key (at_ arr (base+i))=false)) (Q:=λc av=>av=ag/\∃k,c=(none,k,k)/\k<=n/\(∀i,i<k->bey rk left key (at_ arr (base+i))=true)/\(∀i,k<=i->i<n->bey rk left key (at_ arr (base+i))=false)) ?_ ?_ ⟨rfl,lo,hi,rfl,by lia,f1,f2,f3,f4⟩) ?_)
   ·rintro x c av _ hx' ⟨rfl,lo,hi,rfl,h0,h1,h2,h3,h4⟩;dsimp only;by_cases q:lo ≥ hi
    ·rw[_l q];have:lo=hi:=by lia
     subst this;exact _o ⟨rfl,lo,rfl,h2,h3,h4⟩
    ·rw[_p q];refine _j (jj V hk hP hx  (by lia) ?_);dsimp only;cases e2:bey rk left key (at_ arr (base+(lo+(hi-lo) / 2)));·exact _o ⟨rfl,lo,_,rfl,by lia,by lia,by lia,h3,λi dg hn=>cE _ _ dg hn e2⟩
     ·simp only[_G];exact _o ⟨rfl,_,hi,rfl,by lia,by lia,by lia,λi dg=>mono _ _ (by lia) (by lia) e2,h4⟩
   ·rintro c av ⟨rfl,lo,hi,rfl,h0,h1,h2,h3,h4⟩;have:lo=hi:=by lia
    subst this;exact⟨rfl,lo,rfl,h2,h3,h4⟩
   ·rintro c av ⟨rfl,k,rfl,h2,h3,h4⟩;exact _o (h k h2 h3 h4)
end
section
variable {rk:Keyed->Nat}{a b aA:Array Keyed}{ia ib:Nat}
def Srt(rk:Keyed->Nat)(a:Array Keyed):Prop:=∀i j,i<=j->j<a.size->rk (at_ a i)<=rk (at_ a j)
structure Mlo(rk:Keyed->Nat)(a b:Array Keyed)(ia ib:Nat)(aA:Array Keyed):Prop where
 pm:aA.toList.Perm (a.toList.take ia++b.toList.take ib)
 pw:aA.toList.Pairwise λx y=>rk x<=rk y
 la:∀x∈aA.toList,∀i,ia<=i->i<a.size->rk x<=rk (at_ a i)
 lb:∀x∈aA.toList,∀j,ib<=j->j<b.size->rk x<=rk (at_ b j)
theorem zhQ  (h:i<a.size):a.toList.take (i+1)=a.toList.take i++[at_ a i]:=by
 rw[List.take_succ];simp[at_,h]
theorem Mlo.pushA(h:Mlo rk a b ia ib aA)(sa:Srt rk a)(hi:ia<a.size)(le:∀j,ib<=j->j<b.size->rk (at_ a ia)<=rk (at_ b j)):Mlo rk a b (ia+1) ib (aA.push (at_ a ia)):=by
 refine⟨?_,?_,?_,?_⟩
 ·rw[zhQ hi,_an];refine (h.pm.append_right _).trans ?_;rw[_af,_af];exact _cs.append_left _
 ·rw[_an,List.pairwise_append];exact⟨h.pw,List.pairwise_singleton _ _,λx hx y hy=>by rw[_bh.mp hy];exact h.la x hx _ (_h _) hi⟩
 ·intro x hx i h1 h2;rw[_an]at hx;rcases _D.mp hx with hx | hx;·exact h.la x hx i (by lia) h2
  ·rw[_bh.mp hx];exact sa _ _ (by lia) h2
 ·intro x hx j h1 h2;rw[_an]at hx;rcases _D.mp hx with hx | hx;·exact h.lb x hx j h1 h2
  ·rw[_bh.mp hx];exact le j h1 h2
theorem Mlo.swap(h:Mlo rk a b ia ib aA):Mlo rk b a ib ia aA:=⟨h.pm.trans _cs,h.pw,h.lb,h.la⟩
theorem Mlo.pushB(h:Mlo rk a b ia ib aA)(sb:Srt rk b)(hi:ib<b.size)(le:∀i,ia<=i->i<a.size->rk (at_ b ib)<=rk (at_ a i)):Mlo rk a b ia (ib+1) (aA.push (at_ b ib)):=(h.swap.pushA sb hi le).swap
theorem zfk  (h:i+k<a.size):a.extract i (i+(k+1))=(a.extract i (i+k)).push (at_ a (i+k)):=by
 apply Array.ext_getElem?;intro j;rw[Array.getElem?_push,_ci,_ci,_cW];by_cases e:j=k
 ·subst e;rw[_l (by lia),_l (by lia)];exact z8E h
 ·rw[_p (show ¬ j=min (i+k) a.size-i by lia)];by_cases q:j<k;·rw[_l (by lia),_l (by lia)]
  ·rw[_p (by lia),_p (by lia)]
theorem Mlo.moreA(h:Mlo rk a b ia ib aA)(sa:Srt rk a):∀k,ia+k<=a.size->(∀i,ia<=i->i<ia+k->∀j,ib<=j->j<b.size->rk (at_ a i)<=rk (at_ b j))->Mlo rk a b (ia+k) ib (aA++a.extract ia (ia+k))
 | 0,_,_=>by
  rw[_cj,show a.extract ia ia=#[] by simp;lia];exact h | k+1,hk,le=>by
  rw[zfk (by lia),Array.append_push];exact (h.moreA sa k (by lia) λi h1 h2=>le i h1 (by lia)).pushA sa (by lia) λj=>le _ (by lia) (by lia) j
theorem Mlo.moreB(h:Mlo rk a b ia ib aA)(sb:Srt rk b)(k:Nat)(hk:ib+k<=b.size)(le:∀j,ib<=j->j<ib+k->∀i,ia<=i->i<a.size->rk (at_ b j)<=rk (at_ a i)):Mlo rk a b ia (ib+k) (aA++b.extract ib (ib+k)):=(h.swap.moreA sb k hk le).swap
def Mrg(rk:Keyed->Nat)(a b r:Array Keyed):Prop:=r.toList.Perm (a.toList++b.toList)/\r.toList.Pairwise λx y=>rk x<=rk y
theorem Mlo.fin(h:Mlo rk a b a.size b.size aA):Mrg rk a b aA:=⟨by have:=h.pm;rwa [_a9 (by simp),_a9 (by simp)]at this,h.pw⟩
theorem Mlo.done(h:Mlo rk a b ia ib aA)(sa:Srt rk a)(hi:ia<=a.size)(e:ib=b.size):Mrg rk a b (aA++a.extract ia a.size++b.extract ib b.size):=by
 subst e;have:=h.moreA sa (a.size-ia) (by lia) λi h1 h2 j h3 h4=>absurd h3 (by lia);rw[show ia+(a.size-ia)=a.size by lia]at this;rw[show b.extract b.size b.size=#[] by simp];exact this.fin
theorem Mlo.lastA(h:Mlo rk a b ia ib aA)(sa:Srt rk a)(sb:Srt rk b)(hi:ib<=b.size)(e:ia+1=a.size)(lt:∀j,j<b.size->rk (at_ b j)<=rk (at_ a (a.size-1))):Mrg rk a b (aA++b.extract ib b.size++a.extract ia a.size):=by
 have h1:=h.moreB sb (b.size-ib) (by lia) λj h1 h2 i h3 h4=>by
  have:i=a.size-1:=by lia
  subst this;exact lt j (by lia)
 rw[show ib+(b.size-ib)=b.size by lia]at h1;have h2:=h1.moreA sa 1 (by lia) λi h1 h2 j h3 h4=>absurd h3 (by lia);rw[e]at h2;exact h2.fin
end
section
variable {prog:Program}{w:World}{A:Around}{E:Value->Shared->Prop}{s:Shared}{κ:SortKind}{P:Keyed->Prop}{rk:Keyed->Nat}(V:Env prog w A s κ P rk) {arr a b:Array Keyed}{st:SortSt}
omit V in
theorem xx{α:Type}{c:Prop} [Decidable c]{u v:StateT SortSt Sem α}{Q:α->SortSt->Prop}{st:SortSt}(h1:c->wpS (model prog w) A E s u Q st)(h2:¬ c->wpS (model prog w) A E s v Q st):wpS (model prog w) A E s (if c then u else v) Q st:=by
 split;·exact h1 ‹_›
 ·exact h2 ‹_›
omit V in
theorem z1V{α:Type}{c:Prop} [Decidable c]{u v:StateT SortSt Sem α}{Q:α->SortSt->Prop}{st:SortSt}(h1:c)(h2:wpS (model prog w) A E s u Q st):wpS (model prog w) A E s (if c then u else v) Q st:=xx (λ_=>h2) λh=>absurd h1 h
omit V in
omit V in
theorem zmu{α:Type}{c:Prop} [Decidable c]{u v x:StateT SortSt Sem α}{Q:α->SortSt->Prop}{st:SortSt}(h1:c->u=x)(h2:¬ c->v=x)(h:wpS (model prog w) A E s x Q st):wpS (model prog w) A E s (if c then u else v) Q st:=by
 split;·rw[h1 ‹_›];exact h
 ·rw[h2 ‹_›];exact h
omit V in
theorem zgg{a:Array Keyed}{i k:Nat}(h:¬ k > 0)(aA:Array Keyed):aA++a.extract i (i+k)=aA/\i+k=i:=by
 have:k=0:=by lia
 subst this;refine⟨?_,rfl⟩;rw[show a.extract i (i+0)=#[] by simp;lia,Array.append_empty]
def z5t(st ag:SortSt):Prop:=kindOf ag=kindOf st/\arrOf ag=arrOf st/\pendingOf ag=pendingOf st/\failedOf ag=failedOf st
def zfI{ω τ:Type}(Tq:ω->SortSt->Prop)(J I:τ->SortSt->Prop):ForInStep (Option ω×τ)->SortSt->Prop
 | .done (some r,_),st=>Tq r st | .done (none,c),st=>J c st | .yield (some _,_),_=>False | .yield (none,c),st=>I c st
omit V in
theorem z18 {ω τ:Type} {n m:Nat} {f:Nat->Option ω×τ->StateT SortSt Sem (ForInStep (Option ω×τ))} {K:Option ω×τ->SortSt->Prop} {c0:τ} (Tq:ω->SortSt->Prop) (J:τ->SortSt->Prop) (I:Nat->τ->SortSt->Prop) (step:∀i c st,m<=i->i<n->I i c st->wpS (model prog w) A E s (f i (none,c)) (zfI Tq J (I (i+1))) st) (fin:∀c st,I (max m n) c st->J c st) (h0:I m c0 st) (ret:∀r d st,Tq r st->K (some r,d) st) (pA:∀c st,J c st->K (none,c) st):wpS (model prog w) A E s (forIn [m:n] (none,c0) f) K st:=by
 refine _bL (_aK (I:=λx c ag=>∃d,c=(none,d)/\I x d ag) (Q:=λc ag=>(∃r d,c=(some r,d)/\Tq r ag)\/∃d,c=(none,d)/\J d ag) ?_ ?_ ⟨_,rfl,h0⟩) ?_
 ·rintro i c ag hm hi ⟨d,rfl,h⟩;refine _bL (step i d ag hm hi h) λr av e=>?_;match r,e with
  | .done (some r,d),e=>exact .inl ⟨r,d,rfl,e⟩ | .done (none,d),e=>exact .inr ⟨d,rfl,e⟩ | .yield (none,d),e=>exact⟨d,rfl,e⟩
 ·rintro c ag ⟨d,rfl,h⟩;exact .inr ⟨d,rfl,fin d ag h⟩
 ·rintro c ag (⟨r,d,rfl,h⟩ | ⟨d,rfl,h⟩);·exact ret r d ag h
  ·exact pA d ag h
include V
theorem zbO  (hk:kindOf st=κ) (Pa:∀i,i<a.size->P (at_ a i)) (Pb:∀i,i<b.size->P (at_ b i)) (sa:Srt rk a) (sb:Srt rk b) (na:1<=a.size) (nb:1<=b.size) (first:rk (at_ b 0)<rk (at_ a 0)) (eE:rk (at_ b (b.size-1))<rk (at_ a (a.size-1))) (h:∀r ag,z5t st ag->Mrg rk a b r->Q r ag):wpS (model prog w) A E s (zgb a b) Q st:=by
 have lastA:∀j,j<b.size->rk (at_ b j)<rk (at_ a (a.size-1)):=λj hj=>by have:=sb j (b.size-1) (by lia) (by lia);lia
 have eF  := λj hj=>_aD (lastA j hj);have m1:Mlo rk a b 0 1 #[at_ b 0]:=by
  have m0:Mlo rk a b 0 0 #[]:=⟨by simp,by simp,λx hx=>by simp at hx,λx hx=>by simp at hx⟩;exact m0.pushB sb (by lia) λi _ hi=>by have:=sa 0 i (by lia) hi;lia
 have fin:∀{aA:Array Keyed} {ia ib:Nat},Mlo rk a b ia ib aA->ib<=b.size->ia+1=a.size->Mrg rk a b (aA++b.extract ib b.size++a.extract ia a.size):=λm hb e=>m.lastA sa sb hb e eF;have ga:∀{ag:SortSt} {ia ib:Nat} {R:Option Nat->SortSt->Prop},kindOf ag=κ->ia<a.size->ib<b.size->(∀k,ia+k<a.size->(∀i,ia<=i->i<ia+k->rk (at_ a i)<=rk (at_ b ib))->(∀i,ia+k<=i->i<a.size->rk (at_ b ib)<rk (at_ a i))->R (some k) ag)->wpS (model prog w) A E s (z3j false (at_ b ib) a ia (a.size-ia) 0) R ag:=λ{ag ia ib R} k1 h1 h2 hh=>by
  refine qB V k1 Pa (Pb _ h2) (by lia) (by lia) (λi j aF hj=>?_) λk hk f1 f2=>?_
  ·simp only[bey,_bi,_aP,_a7,_ab];have:=sa (ia+i) (ia+j) (by lia) (by lia);lia
  ·simp only[bey,_bi,_aP,_a7,_ab,_cX,_s]at f1 f2;have kl:ia+k<a.size:=by
    rcases Nat.lt_or_ge (ia+k) a.size with z | z;·exact z
    ·have z1:=f1 (a.size-1-ia) (by lia);rw[show ia+(a.size-1-ia)=a.size-1 by lia]at z1;exact absurd (lastA ib h2) z1
   refine hh k kl (λi z1 z2=>?_) λi z1 z2=>?_
   ·have:=f1 (i-ia) (by lia);rw[show ia+(i-ia)=i by lia]at this;lia
   ·have:=f2 (i-ia) (by lia) (by lia);rwa [show ia+(i-ia)=i by lia]at this
 have gb:∀{ag:SortSt} {ia ib:Nat} {R:Option Nat->SortSt->Prop},kindOf ag=κ->ia<a.size->ib<b.size->(∀k,ib+k<=b.size->(∀j,ib<=j->j<ib+k->rk (at_ b j)<rk (at_ a ia))->(∀j,ib+k<=j->j<b.size->rk (at_ a ia)<=rk (at_ b j))->R (some k) ag)->wpS (model prog w) A E s (z3j true (at_ a ia) b ib (b.size-ib) 0) R ag:=λ{ag ia ib R} k1 h1 h2 hh=>by
  refine qB V k1 Pb (Pa _ h1) (by lia) (by lia) (λi j aF hj=>?_) λk hk f1 f2=>?_
  ·simp only[bey,_G,_s];have:=sb (ib+i) (ib+j) (by lia) (by lia);lia
  ·simp only[bey,_G,_s,_ab]at f1 f2;refine hh k (by lia) (λi z1 z2=>?_) λi z1 z2=>?_
   ·have:=f1 (i-ib) (by lia);rwa [show ib+(i-ib)=i by lia]at this
   ·have:=f2 (i-ib) (by lia) (by lia);rw[show ib+(i-ib)=i by lia]at this;lia
 refine _j (_cV (_ax ⟨rfl,_j (yH (by lia) (xx (λq1=>_o (h _ _ ⟨rfl,rfl,rfl,rfl⟩ (m1.done sa (by lia) (by simpa using q1)))) λq1=>xx (λq2=>_o (h _ _ ⟨rfl,rfl,rfl,rfl⟩ (fin m1 (by lia) (by simpa using q2)))) λq2=>_j (_ch (_j ?_))))⟩));have q1:=show ¬ 1=b.size by simpa using q1
 have q2:=show ¬ 0+1=a.size by simpa using q2
 refine z18 (λr ag=>z5t st ag/\Mrg rk a b r) (λ_ _=>False) (λx c ag=>x+1<=c.2.1+c.2.2.1/\z5t st ag/\Mlo rk a b c.2.1 c.2.2.1 c.1/\c.2.1+1<a.size/\c.2.2.1<b.size) ?_ (λc ag z=>absurd z.1 (by lia)) ⟨by show 0+1<=0+1;lia,⟨rfl,rfl,rfl,rfl⟩,m1,by show 0+1<a.size;lia,by show 1<b.size;lia⟩ (λr d ag z=>_o (h r _ z.1 z.2)) (λc ag z=>z.elim);intro x c bC _ hx I0;refine _j (z18 (λr ag=>z5t st ag/\Mrg rk a b r) (λc ag=>x+1<=c.2.1+c.2.2.1/\z5t st ag/\Mlo rk a b c.2.1 c.2.2.1 c.1/\c.2.1+1<a.size/\c.2.2.1<b.size) (λy c ag=>x+1+y<=c.2.1+c.2.2.1/\z5t st ag/\Mlo rk a b c.2.1 c.2.2.1 c.1/\c.2.1+1<a.size/\c.2.2.1<b.size) ?_ (λc ag z=>absurd z.1 (by lia)) I0 (λr d ag z=>_o z) λc av J0=>?_)
 ·intro y c av _ hy I1;have lk:=I1.2.1;have m:=I1.2.2.1;have c1:=I1.1;have c2:=I1.2.2.2.1;have c3:=I1.2.2.2.2;refine _j (yH c3 (_j (yH (_bq c2) (_j (ze6 V (lk.1.trans hk) (Pb _ c3) (Pa _ (_bq c2)) (xx (λq=>?_) λq=>?_))))))
  ·have m2:=m.pushB sb c3 λi h1 h2=>by have:=sa _ i h1 h2;simp only[_s]at q;lia
   have b1:x+1<=c.2.1+(c.2.2.1+1):=by lia
   have b2:x+1+(y+1)<=c.2.1+(c.2.2.1+1):=by lia
   have b3:¬ ((c.2.2.1+1==b.size)=true)->c.2.2.1+1<b.size:=λe=>by have  := (by simpa using e);lia
   exact _j (yH c3 (xx (λe=>_o ⟨lk,m2.done sa (_aD (_bq c2)) (by simpa using e)⟩) λe=>xx (λ_=>_o ⟨b1,lk,m2,c2,b3 e⟩) λ_=>_o ⟨b2,lk,m2,c2,b3 e⟩))
  ·have m2:=m.pushA sa (_bq c2) λi h1 h2=>by have:=sb _ i h1 h2;simp only[_s]at q;lia
   have b1:x+1<=c.2.1+1+c.2.2.1:=by lia
   have b2:x+1+(y+1)<=c.2.1+1+c.2.2.1:=by lia
   have b3:¬ ((c.2.1+1+1==a.size)=true)->c.2.1+1+1<a.size:=λe=>by have  := (by simpa using e);lia
   exact _j (yH (_bq c2) (xx (λe=>_o ⟨lk,fin m2 (_aD c3) (by simpa using e)⟩) λe=>xx (λ_=>_o ⟨b1,lk,m2,b3 e,c3⟩) λ_=>_o ⟨b2,lk,m2,b3 e,c3⟩))
 have lk:=J0.2.1;have m:=J0.2.2.1;have c1:=J0.1;have c2:=J0.2.2.2.1;have c3:=J0.2.2.2.2;refine _j (_cV (_ax ⟨rfl,_j (z18 (λr ag=>z5t st ag/\Mrg rk a b r) (λc ag=>x+1+1<=c.2.1+c.2.2.1/\z5t st ag/\Mlo rk a b c.2.1 c.2.2.1 c.1/\c.2.1+1<a.size/\c.2.2.1<b.size) (λy c ag=>x+1+y<=c.2.1+c.2.2.1/\z5t st ag/\Mlo rk a b c.2.1 c.2.2.1 c.1/\c.2.1+1<a.size/\c.2.2.1<b.size) ?_ (λc ag z=>absurd z.1 (by lia)) J0 (λr d ag z=>_o z) λc bF z=>_j (_a0 (_o z)))⟩));intro y c bF _ hy I1;have lk:=I1.2.1;have m:=I1.2.2.1;have c1:=I1.1;have c2:=I1.2.2.2.1;have c3:=I1.2.2.2.2;have bW:∀{k:Nat},c.2.1+k<a.size->(∀i,c.2.1<=i->i<c.2.1+k->rk (at_ a i)<=rk (at_ b c.2.2.1))->(∀i,c.2.1+k<=i->i<a.size->rk (at_ b c.2.2.1)<rk (at_ a i))->Mlo rk a b (c.2.1+k) c.2.2.1 (c.1++a.extract c.2.1 (c.2.1+k))/\Mlo rk a b (c.2.1+k) (c.2.2.1+1) ((c.1++a.extract c.2.1 (c.2.1+k)).push (at_ b c.2.2.1)):=λ{k} k1 k2 k3=>by
  have m2:=m.moreA sa k (by lia) λi h1 h2 j h3 h4=>by have:=k2 i h1 h2;have:=sb _ j h3 h4;lia
  exact⟨m2,m2.pushB sb c3 λi h1 h2=>_aD (k3 i h1 h2)⟩
 refine xx (λ_=>?_) λ_=>?_;all_goals
  refine _j (_a0 (_j (yH c3 (_j (ga (ia:=c.2.1)  (lk.1.trans hk) (_bq c2) c3 λk k1 k2 k3=>?_)))));have L:=bW k1 k2 k3;have m2:=L.1;have m3:=L.2;by_cases e1:c.2.1+k+1=a.size
  ·have k0:k > 0:=by lia
   exact z1V k0 (z1V (by simpa using e1) (_o ⟨lk,fin m2 (_aD c3) e1⟩))
  have rK:c.2.1+k+1<a.size:=by lia
  have rL:x+1+y<=c.2.1+k+c.2.2.1:=by lia
  have z1:¬ c.2.1+k=a.size:=by lia
  clear m m2 L bW c1 I1;refine zmu (λk0=>(_p (by simpa using e1)).trans (_p (by simpa using z1))) (λk0=>by rw[(zgg k0 c.1).1,(zgg (a:=a) (i:=c.2.1) k0 c.1).2]) ?_;refine _j (yH c3 (xx (λe2=>_o ⟨lk,m3.done sa (by lia) (by simpa using e2)⟩) λe2=>?_));have e2:¬ c.2.2.1+1=b.size:=by simpa using e2
  refine _j (yH k1 (_j (gb (ia:=c.2.1+k) (ib:=c.2.2.1+1) (lk.1.trans hk) k1 (by lia) λk' iu lA lB=>?_)));have m4:=m3.moreB sb k' iu λj h1 h2 i h3 h4=>by have:=lA j h1 h2;have:=sa _ i h3 h4;lia
  by_cases e3:c.2.2.1+1+k'=b.size
  ·have e9:k' > 0:=by lia
   exact z1V e9 (z1V (by simpa using e3) (_o ⟨lk,m4.done sa (by lia) e3⟩))
  have m5:=m4.pushA sa k1 λj h1 h2=>lB j h1 h2;have mU:c.2.2.1+1+k'<b.size:=by lia
  have b1:x+1+1<=c.2.1+k+1+(c.2.2.1+1+k'):=by lia
  have b2:x+1+(y+1)<=c.2.1+k+1+(c.2.2.1+1+k'):=by lia
  clear m3 m4;refine zmu (λe9=>_p (by simpa using e3)) (λe9=>by rw[(zgg e9 _).1,(zgg (a:=b) (i:=c.2.2.1+1) e9 #[]).2]) ?_;refine _j (yH k1 (xx (λe4=>_o ⟨lk,fin m5 (by lia) (by simpa using e4)⟩) λe4=>?_));have b3:c.2.1+k+1+1<a.size:=by
   have:¬ c.2.1+k+1+1=a.size:=(by simpa using e4);lia
  exact xx (λ_=>_o ⟨b1,lk,m5,b3,mU⟩) λ_=>_o ⟨b2,lk,m5,b3,mU⟩
end
section
variable {rk:Keyed->Nat}{a b aA:Array Keyed}{na nb:Nat}
structure Mhi(rk:Keyed->Nat)(a b:Array Keyed)(na nb:Nat)(aA:Array Keyed):Prop where
 pm:aA.toList.reverse.Perm (a.toList.drop na++b.toList.drop nb)
 pw:aA.toList.reverse.Pairwise λx y=>rk x<=rk y
 la:∀x∈aA.toList,∀i,i<na->rk (at_ a i)<=rk x
 lb:∀x∈aA.toList,∀j,j<nb->rk (at_ b j)<=rk x
theorem zde  (h:i<a.size):a.toList.drop i=at_ a i::a.toList.drop (i+1):=by
 rw[_aH (by simpa using h)];simp[at_,h]
theorem Mhi.pushA  (h:Mhi rk a b (m+1) nb aA)(sa:Srt rk a)(hi:m<a.size)(le:∀j,j<nb->rk (at_ b j)<=rk (at_ a m)):Mhi rk a b m nb (aA.push (at_ a m)):=by
 have er:(aA.push (at_ a m)).toList.reverse=at_ a m::aA.toList.reverse:=by simp
 refine⟨?_,?_,?_,?_⟩
 ·rw[er,zde hi];exact h.pm.cons _
 ·rw[er,_b4];exact⟨λx hx=>h.la x (List.mem_reverse.mp hx) m (by lia),h.pw⟩
 ·intro x hx i h1;rw[_an]at hx;rcases _D.mp hx with hx | hx;·exact h.la x hx i (by lia)
  ·rw[_bh.mp hx];exact sa _ _ (by lia) hi
 ·intro x hx j h1;rw[_an]at hx;rcases _D.mp hx with hx | hx;·exact h.lb x hx j h1
  ·rw[_bh.mp hx];exact le j h1
theorem Mhi.swap(h:Mhi rk a b na nb aA):Mhi rk b a nb na aA:=⟨h.pm.trans _cs,h.pw,h.lb,h.la⟩
theorem Mhi.pushB  (h:Mhi rk a b na (m+1) aA)(sb:Srt rk b)(hi:m<b.size)(le:∀j,j<na->rk (at_ a j)<=rk (at_ b m)):Mhi rk a b na m (aA.push (at_ b m)):=(h.swap.pushA sb hi le).swap
theorem zjI  (h:i<a.size)(hk:i<k)(hz:k<=a.size):(a.extract i k).reverse=(a.extract (i+1) k).reverse.push (at_ a i):=by
 apply Array.toList_inj.mp;simp only[Array.toList_reverse,_an,Array.toList_extract,List.extract_eq_take_drop];rw[zde h,show k-i=(k-(i+1))+1 by lia,_bT,List.reverse_cons]
theorem Mhi.moreA(h:Mhi rk a b na nb aA)(sa:Srt rk a)(hz:na<=a.size):∀k m,m+k=na->(∀i,m<=i->i<na->∀j,j<nb->rk (at_ b j)<=rk (at_ a i))->Mhi rk a b m nb (aA++(a.extract m na).reverse)
 | 0,m,e,_=>by
  rw[show m=na by lia,show a.extract na na=#[] by simp;lia];exact h | k+1,m,e,le=>by
  rw[zjI (by lia) (by lia) hz,Array.append_push];exact (h.moreA sa hz k (m+1) (by lia) λi h1 h2=>le i (by lia) h2).pushA sa (by lia) (le m (_h _) (by lia))
theorem Mhi.moreB(h:Mhi rk a b na nb aA)(sb:Srt rk b)(hz:nb<=b.size)(k m:Nat)(e:m+k=nb)(le:∀j,m<=j->j<nb->∀i,i<na->rk (at_ a i)<=rk (at_ b j)):Mhi rk a b na m (aA++(b.extract m nb).reverse):=(h.swap.moreA sb hz k m e le).swap
theorem Mhi.fin(h:Mhi rk a b 0 0 aA):Mrg rk a b aA.reverse:=⟨by simpa using h.pm,by simpa using h.pw⟩
theorem z97(x y:Array Keyed):(x++y.reverse).reverse=y++x.reverse:=by simp
theorem Mhi.done(h:Mhi rk a b na nb aA)(sb:Srt rk b)(hz:nb<=b.size)(e:na=0):Mrg rk a b (a.extract 0 na++b.extract 0 nb++aA.reverse):=by
 subst e;have:=h.moreB sb hz nb 0 (by lia) λj _ _ i hi=>by lia
 rw[show a.extract 0 0=#[] by simp,Array.empty_append,<- z97];exact this.fin
theorem Mhi.firstB(h:Mhi rk a b na nb aA)(sa:Srt rk a)(sb:Srt rk b)(hz:na<=a.size)(zb:nb<=b.size)(e:nb=1)(lt:∀i,i<a.size->rk (at_ b 0)<=rk (at_ a i)):Mrg rk a b (b.extract 0 nb++a.extract 0 na++aA.reverse):=by
 subst e;have h1:=h.moreA sa hz na 0 (by lia) λi h1 h2 j h3=>by
  have:j=0:=by lia
  subst this;exact lt i (by lia)
 have h2:=h1.moreB sb zb 1 0 (by lia) λj _ _ i hi=>by lia
 rw[Array.append_assoc,<- z97,<- z97];exact h2.fin
end
theorem zfJ{a:Array Keyed}  (hk:k<=n)(h:¬ n-k > 0)(aA:Array Keyed):aA++(a.extract k n).reverse=aA/\k=n:=by
 have:n=k:=by lia
 subst this;refine⟨?_,rfl⟩;rw[show a.extract n n=#[] by simp;lia,Array.reverse_empty,Array.append_empty]
section
variable {prog:Program}{w:World}{A:Around}{E:Value->Shared->Prop}{s:Shared}{κ:SortKind}{P:Keyed->Prop}{rk:Keyed->Nat}(V:Env prog w A s κ P rk) {arr a b:Array Keyed}{st:SortSt}
include V
theorem zb2  (hk:kindOf st=κ) (Pa:∀i,i<a.size->P (at_ a i)) (Pb:∀i,i<b.size->P (at_ b i)) (sa:Srt rk a) (sb:Srt rk b) (pa:1<=a.size) (pb:1<=b.size) (first:rk (at_ b 0)<rk (at_ a 0)) (eE:rk (at_ b (b.size-1))<rk (at_ a (a.size-1))) (h:∀r ag,z5t st ag->Mrg rk a b r->Q r ag):wpS (model prog w) A E s (zgd a b) Q st:=by
 have lastA:∀j,j<b.size->rk (at_ b j)<rk (at_ a (a.size-1)):=λj hj=>by have:=sb j (b.size-1) (by lia) (by lia);lia
 have firstB:∀i,i<a.size->rk (at_ b 0)<rk (at_ a i):=λi hi=>by have:=sa 0 i (by lia) hi;lia
 have dy  := λi hi=>_aD (firstB i hi);have m1:Mhi rk a b (a.size-1) b.size #[at_ a (a.size-1)]:=by
  have m0:Mhi rk a b (a.size-1+1) b.size #[]:=⟨by rw[show a.size-1+1=a.size by lia];simp,by simp,λx hx=>by simp at hx,λx hx=>by simp at hx⟩;exact m0.pushA sa (by lia) λi hi=>_aD (lastA i hi)
 have ga:∀{ag:SortSt} {na nb:Nat} {R:Option Nat->SortSt->Prop},kindOf ag=κ->0<na->na<=a.size->nb<b.size->(∀k,k<=na->(∀i,i<k->rk (at_ a i)<=rk (at_ b nb))->(∀i,k<=i->i<na->rk (at_ b nb)<rk (at_ a i))->R (some k) ag)->wpS (model prog w) A E s (z3j false (at_ b nb) a 0 na (na-1)) R ag:=λ{ag na nb R} k1 h0 h1 h2 hh=>by
  refine qB V k1 Pa (Pb _ h2) (by lia) (by lia) (λi j aF hj=>?_) λk hk f1 f2=>?_
  ·simp only[bey,_bi,_aP,_a7,_ab];have:=sa (0+i) (0+j) (by lia) (by lia);lia
  ·simp only[bey,_bi,_aP,_a7,_ab,_cX,_s,_aV]at f1 f2;exact hh k hk (λi z1=>by have:=f1 i z1;lia) f2
 have gb:∀{ag:SortSt} {na nb:Nat} {R:Option Nat->SortSt->Prop},kindOf ag=κ->na<a.size->0<nb->nb<=b.size->(∀k,1<=k->k<=nb->(∀j,j<k->rk (at_ b j)<rk (at_ a na))->(∀j,k<=j->j<nb->rk (at_ a na)<=rk (at_ b j))->R (some k) ag)->wpS (model prog w) A E s (z3j true (at_ a na) b 0 nb (nb-1)) R ag:=λ{ag na nb R} k1 h0 h1 h2 hh=>by
  refine qB V k1 Pb (Pa _ h0) (by lia) (by lia) (λi j aF hj=>?_) λk hk f1 f2=>?_
  ·simp only[bey,_G,_s];have:=sb (0+i) (0+j) (by lia) (by lia);lia
  ·simp only[bey,_G,_s,_ab,_aV]at f1 f2;have k1:1<=k:=by
    rcases _cY k with z | z;·exact absurd (firstB na h0) (f2 0 (by lia) h1)
    ·exact z
   exact hh k k1 hk f1 (λi z1 z2=>by have:=f2 i z1 z2;lia)
 have fin:∀{aA:Array Keyed} {na nb:Nat},Mhi rk a b na nb aA->na<=a.size->nb<=b.size->nb=1->Mrg rk a b (b.extract 0 nb++a.extract 0 na++aA.reverse):=λm ha hb e=>m.firstB sa sb ha hb e dy;refine _j (_cV (_ax ⟨rfl,_j (yH (by lia) (xx (λq1=>_o (h _ _ ⟨rfl,rfl,rfl,rfl⟩ (m1.done sb (_h _) (by simpa using q1)))) λq1=>xx (λq2=>_o (h _ _ ⟨rfl,rfl,rfl,rfl⟩ (fin m1 (Nat.sub_le _ _) (_h _) (by simpa using q2)))) λq2=>_j (_ch (_j ?_))))⟩));have q1:¬ a.size-1=0:=by simpa using q1
 have q2:¬ b.size=1:=by simpa using q2
 refine z18 (λr ag=>z5t st ag/\Mrg rk a b r) (λ_ _=>False) (λx c ag=>c.1+c.2.1+x<a.size+b.size/\z5t st ag/\Mhi rk a b c.1 c.2.1 c.2.2.1/\(0<c.1/\c.1<=a.size)/\1<c.2.1/\c.2.1<=b.size) ?_ (λc ag z=>absurd z.1 (by lia)) ⟨by show a.size-1+b.size+0<_;lia,⟨rfl,rfl,rfl,rfl⟩,m1,⟨by show 0<a.size-1;lia,Nat.sub_le _ _⟩,by show 1<b.size;lia,_h _⟩ (λr d ag z=>_o (h r _ z.1 z.2)) (λc ag z=>z.elim);intro x c bC _ hx I0;refine _j (z18 (λr ag=>z5t st ag/\Mrg rk a b r) (λc ag=>c.1+c.2.1+x<a.size+b.size/\z5t st ag/\Mhi rk a b c.1 c.2.1 c.2.2.1/\(0<c.1/\c.1<=a.size)/\1<c.2.1/\c.2.1<=b.size) (λy c ag=>c.1+c.2.1+x+y<a.size+b.size/\z5t st ag/\Mhi rk a b c.1 c.2.1 c.2.2.1/\(0<c.1/\c.1<=a.size)/\1<c.2.1/\c.2.1<=b.size) ?_ (λc ag z=>absurd z.1 (by lia)) I0 (λr d ag z=>_o z) λc av J0=>?_)
 ·intro y c av _ hy I1;have lk:=I1.2.1;have m:=I1.2.2.1;have c1:=I1.1;have c2:=I1.2.2.2.1;have c3:=I1.2.2.2.2;have la:c.1-1<a.size:=by lia
  have lb:c.2.1-1<b.size:=by lia
  have ea:c.1-1+1=c.1:=by lia
  have eb:c.2.1-1+1=c.2.1:=by lia
  refine _j (yH lb (_j (yH la (_j (ze6 V (lk.1.trans hk) (Pb _ lb) (Pa _ la) (xx (λq=>?_) λq=>?_))))))
  ·have m2:=Mhi.pushA  (by rw[ea];exact m) sa la λi h1=>by have:=sb i (c.2.1-1) (by lia) lb;simp only[_s]at q;lia
   have b1:c.1-1+c.2.1+x<a.size+b.size:=by lia
   have b2:c.1-1+c.2.1+x+(y+1)<a.size+b.size:=by lia
   have b3:¬ ((c.1-1==0)=true)->0<c.1-1:=λe=>by have:¬ c.1-1=0:=(by simpa using e);lia
   have b4:c.1-1<=a.size:=by lia
   exact _j (yH la (xx (λe=>_o ⟨lk,m2.done sb c3.2 (by simpa using e)⟩) λe=>xx (λ_=>_o ⟨b1,lk,m2,⟨b3 e,b4⟩,c3⟩) λ_=>_o ⟨b2,lk,m2,⟨b3 e,b4⟩,c3⟩))
  ·have m2:=Mhi.pushB (m:=c.2.1-1) (by rw[eb];exact m) sb lb λi h1=>by have:=sa i (c.1-1) (by lia) la;simp only[_s]at q;lia
   have b1:c.1+(c.2.1-1)+x<a.size+b.size:=by lia
   have b2:c.1+(c.2.1-1)+x+(y+1)<a.size+b.size:=by lia
   have b3:¬ ((c.2.1-1==1)=true)->1<c.2.1-1:=λe=>by have:¬ c.2.1-1=1:=(by simpa using e);lia
   have b4:c.2.1-1<=b.size:=by lia
   exact _j (yH lb (xx (λe=>_o ⟨lk,fin m2 c2.2 b4 (by simpa using e)⟩) λe=>xx (λ_=>_o ⟨b1,lk,m2,c2,b3 e,b4⟩) λ_=>_o ⟨b2,lk,m2,c2,b3 e,b4⟩))
 refine _j (_cV (_ax ⟨rfl,_j (z18 (λr ag=>z5t st ag/\Mrg rk a b r) (λc ag=>c.1+c.2.1+x+1<a.size+b.size/\z5t st ag/\Mhi rk a b c.1 c.2.1 c.2.2.1/\(0<c.1/\c.1<=a.size)/\1<c.2.1/\c.2.1<=b.size) (λy c ag=>c.1+c.2.1+x+y<a.size+b.size/\z5t st ag/\Mhi rk a b c.1 c.2.1 c.2.2.1/\(0<c.1/\c.1<=a.size)/\1<c.2.1/\c.2.1<=b.size) ?_ (λc ag z=>absurd z.1 (by lia)) J0 (λr d ag z=>_o z) λc bF z=>_j (_a0 (_o z)))⟩));intro y c bF _ hy I1;have lk:=I1.2.1;have m:=I1.2.2.1;have c1:=I1.1;have c2:=I1.2.2.2.1;have c3:=I1.2.2.2.2;have lb:c.2.1-1<b.size:=by lia
 have eb:c.2.1-1+1=c.2.1:=by lia
 have bW:∀{k:Nat},k<=c.1->(∀i,i<k->rk (at_ a i)<=rk (at_ b (c.2.1-1)))->(∀i,k<=i->i<c.1->rk (at_ b (c.2.1-1))<rk (at_ a i))->Mhi rk a b k c.2.1 (c.2.2.1++(a.extract k c.1).reverse)/\Mhi rk a b k (c.2.1-1) ((c.2.2.1++(a.extract k c.1).reverse).push (at_ b (c.2.1-1))):=λ{k} k1 k2 k3=>by
  have m2:=m.moreA sa c2.2 (c.1-k) k (by lia) λi h1 h2 j h3=>by have:=k3 i h1 h2;have:=sb j (c.2.1-1) (by lia) lb;lia
  exact⟨m2,Mhi.pushB (m:=c.2.1-1) (by rw[eb];exact m2) sb lb k2⟩
 refine xx (λ_=>?_) λ_=>?_;all_goals
  refine _j (_a0 (_j (yH lb (_j (ga (na:=c.1) (nb:=c.2.1-1) (lk.1.trans hk) c2.1 c2.2 lb λk k1 k2 k3=>?_)))));have L:=bW k1 k2 k3;have m2:=L.1;have m3:=L.2;by_cases e1:k=0
  ·have k0:c.1-k > 0:=by lia
   exact z1V k0 (z1V (by simpa using e1) (_o ⟨lk,m2.done sb c3.2 e1⟩))
  clear m m2 L bW I1;have gR:k-1<a.size:=by lia
  have ek:k-1+1=k:=by lia
  have b6:k<=a.size:=by lia
  have b7:c.2.1-1<=b.size:=by lia
  have b8:0<c.2.1-1:=by lia
  refine zmu (λk0=>_p (by simpa using e1)) (λk0=>by rw[(zfJ k1 k0 c.2.2.1).1,(zfJ (a:=a) k1 k0 c.2.2.1).2]) ?_;refine _j (yH lb (xx (λe2=>_o ⟨lk,fin m3 b6 b7 (by simpa using e2)⟩) λe2=>?_));have e2:¬ c.2.1-1=1:=by simpa using e2
  refine _j (yH gR (_j (gb (na:=k-1) (nb:=c.2.1-1) (lk.1.trans hk) gR b8 b7 λk' e9 iu lA lB=>?_)));have m4:=m3.moreB sb b7 (c.2.1-1-k') k' (by lia) λj h1 h2 i h3=>by have:=lB j h1 h2;have:=sa i (k-1) (by lia) gR;lia
  by_cases e3:k'=1
  ·have cW:c.2.1-1-k' > 0:=by lia
   exact z1V cW (z1V (by simpa using e3) (_o ⟨lk,fin m4 b6 (by lia) e3⟩))
  have m5:=Mhi.pushA (m:=k-1) (by rw[ek];exact m4) sa gR λj h1=>_aD (lA j h1);have z1:¬ k'=0:=by lia
  have b1:k-1+k'+x+1<a.size+b.size:=by lia
  have b2:k-1+k'+x+(y+1)<a.size+b.size:=by lia
  have b5:1<k'/\k'<=b.size:=by lia
  clear m3 m4;refine zmu (λcW=>(_p (by simpa using e3)).trans (_p (by simpa using z1))) (λcW=>by rw[(zfJ iu cW _).1,(zfJ (a:=b) iu cW #[]).2]) ?_;refine _j (yH gR (xx (λe4=>_o ⟨lk,m5.done sb b5.2 (by simpa using e4)⟩) λe4=>?_));have b3:0<k-1/\k-1<=a.size:=by
   have:¬ k-1=0:=(by simpa using e4);lia
  exact xx (λ_=>_o ⟨b1,lk,m5,b3,b5⟩) λ_=>_o ⟨b2,lk,m5,b3,b5⟩
end
section
variable {rk:Keyed->Nat}{a b x y r:Array Keyed}
def uc(rk:Keyed->Nat)(a:Array Keyed)(lo hi:Nat):Prop:=∀i j,lo<=i->i<=j->j<hi->rk (at_ a i)<=rk (at_ a j)
def zpn(a b:Array Keyed)(lo hi:Nat):Prop:=∀i,i<lo\/hi<=i->at_ b i=at_ a i
theorem zhc{i lo hi:Nat}(h1:lo+i<hi)(h2:hi<=a.size):at_ (a.extract lo hi) i=at_ a (lo+i):=by
 simp only[at_,_ba];rw[_ci,_l (by lia)]
theorem zdS  (h:v∈a.toList):∃j,j<a.size/\v=at_ a j:=by
 obtain⟨j,hj,e⟩:=_v.mp h;have dN:j<a.size:=by exact hj
 exact⟨j,dN,by simp[at_,dN,<- e]⟩
noncomputable def write(a r:Array Keyed)(sa:Nat):Array Keyed:=r.toList.zipIdx.foldl (λa p=>a.setIfInBounds (sa+p.2) p.1) a
theorem z6n:∀(l:List Keyed)(k sa:Nat)(a:Array Keyed),((l.zipIdx k).foldl (λa p=>a.setIfInBounds (sa+p.2) p.1) a).size=a.size/\∀i,((l.zipIdx k).foldl (λa p=>a.setIfInBounds (sa+p.2) p.1) a)[i]? = if sa+k<=i/\i<sa+k+l.length/\i<a.size then l[i-(sa+k)]? else a[i]?
 | [],k,sa,a=>⟨rfl,λi=>by rw[_p (by simp;lia)];rfl⟩ | v::l,k,sa,a=>by
  obtain⟨h1,h2⟩:=z6n l (k+1) sa (a.setIfInBounds (sa+k) v);refine⟨h1.trans (by simp),λi=>(h2 i).trans ?_⟩;rw[Array.size_setIfInBounds,_n];by_cases e:i=sa+k
  ·subst e;rw[_p (by lia)];by_cases q:sa+k<a.size;·rw[_l (by lia),Array.getElem?_setIfInBounds_self_of_lt q];simp
   ·simp[q]
  ·rw[Array.getElem?_setIfInBounds_ne (by lia)];by_cases q:sa+(k+1)<=i/\i<sa+(k+1)+l.length/\i<a.size;·rw[_l q,_l (by lia),show i-(sa+k)=(i-(sa+(k+1)))+1 by lia,_k]
   ·rw[_p q,_p (by lia)]
theorem zaU  (h:sa+r.size<=a.size):(write a r sa).toList=a.toList.take sa++r.toList++a.toList.drop (sa+r.size):=by
 obtain⟨h1,h2⟩:=z6n r.toList 0 sa a;apply List.ext_getElem?;intro i;rw[(show (write a r sa).toList[i]? = (write a r sa)[i]? from by simp)];refine (h2 i).trans ?_;simp only[_Y,_cj];by_cases q1:i<sa;·rw[_p (by lia),_af,_y (by simp;lia),List.getElem?_take,_l q1];simp
 ·by_cases q2:i<sa+r.size;·rw[_l (by lia),_af,_U (by simp;lia),_aZ,_Y,Nat.min_eq_left (by lia),_y (by simp;lia)]
  ·rw[_p (by lia),_U (by simp;lia),List.getElem?_drop];simp only[_P,_aZ,_Y];rw[show sa+r.size+(i-(min sa a.size+r.size))=i by lia];simp
theorem zfP  (h:sa+r.size<=a.size):at_ (write a r sa) i=if sa<=i/\i<sa+r.size then at_ r (i-sa) else at_ a i:=by
 obtain⟨h1,h2⟩:=z6n r.toList 0 sa a;simp only[at_,_ba];have:=h2 i;simp only[_Y,_cj]at this;rw[show (write a r sa)[i]? = _ from this];by_cases q:sa<=i/\i<sa+r.size;·rw[_l (by lia),_l q];simp
 ·rw[_p (by lia),_p q]
theorem zlG(h:r.toList.Pairwise λx y=>rk x<=rk y):Srt rk r:=λi j aF hj=>by
 rcases Nat.lt_or_ge i j with q | q
 ·have:=List.pairwise_iff_getElem.mp h i j (by simp;lia) (by exact hj) q;simpa[at_,hj,show i<r.size by lia] using this
 ·rw[show i=j by lia];exact _h _
end
section
variable {prog:Program}{w:World}{A:Around}{E:Value->Shared->Prop}{s:Shared}{κ:SortKind}{a₀:Array Keyed}{rk:Keyed->Nat}(V:Env prog w A s κ (· ∈ a₀.toList) rk) {st:SortSt}
structure SB(κ:SortKind)(a₀:Array Keyed)(st:SortSt):Prop where
 perm:(arrOf st).Perm a₀
 kind:kindOf st=κ
 failed:failedOf st=none
theorem SB.size(h:SB κ a₀ st):(arrOf st).size=a₀.size:=h.perm.size_eq
theorem SB.mem(h:SB κ a₀ st):∀i,i<(arrOf st).size->at_ (arrOf st) i∈a₀.toList:=λi hi=>(_bM.mp h.perm).mem_iff.mp (by simp[at_,hi])
include V
theorem zbb   (B:SB κ a₀ st) (h1:(pendingOf st)[i]? = some (sa,na,p)) (h2:(pendingOf st)[i+1]? = some (sb,nb,p')) (eb:sb=sa+na) (pa:1<=na) (pb:1<=nb) (hz:sb+nb<=a₀.size) (s1:uc rk (arrOf st) sa (sa+na)) (s2:uc rk (arrOf st) sb (sb+nb)) (h:∀ag,SB κ a₀ ag->pendingOf ag=((pendingOf st).setIfInBounds i (sa,na+nb,p)).eraseIdxIfInBounds (i+1)->zpn (arrOf st) (arrOf ag) sa (sa+(na+nb))->uc rk (arrOf ag) sa (sa+(na+nb))->Q true ag):wpS (model prog w) A E s (mergeAt' i) Q st:=by
 have sz:=B.size;have mem:=B.mem;have nf:=B.failed;refine _j (_ch ?_);rw[h1,h2];dsimp only;refine _j (_a0 (f:=λ_=>setPending st (((pendingOf st).setIfInBounds i (sa,na+nb,p)).eraseIdxIfInBounds (i+1))) ?_);have B1:SB κ a₀ (setPending st (((pendingOf st).setIfInBounds i (sa,na+nb,p)).eraseIdxIfInBounds (i+1))):=⟨B.perm,B.kind,B.failed⟩;have a1:arrOf (setPending st (((pendingOf st).setIfInBounds i (sa,na+nb,p)).eraseIdxIfInBounds (i+1)))=arrOf st:=rfl;have p1:pendingOf (setPending st (((pendingOf st).setIfInBounds i (sa,na+nb,p)).eraseIdxIfInBounds (i+1)))=((pendingOf st).setIfInBounds i (sa,na+nb,p)).eraseIdxIfInBounds (i+1):=rfl;generalize setPending st (((pendingOf st).setIfInBounds i (sa,na+nb,p)).eraseIdxIfInBounds (i+1))=bC at B1 a1 p1;refine _j (yH (arr:=arrOf st) (by lia) (_j (qB V (arr:=arrOf st) B1.kind mem (mem _ (by lia)) (by lia) (by lia) (λi j aF hj=>?_) λk hk f1 f2=>?_)))
 ·simp only[bey,_bi,_aP,_a7,_ab];have:=s1 (sa+i) (sa+j) (by lia) (by lia) (by lia);lia
 simp only[bey,_bi,_aP,_a7,_ab,_cX,_s]at f1 f2;dsimp only;by_cases q:na-k=0
 ·rw[_l (by simpa using q)];refine _o (h _ B1 p1 (λi _=>by rw[a1]) λi j hi aF hj=>?_);rw[a1];by_cases c1:j<sb;·exact s1 i j hi aF (by lia)
  ·by_cases c2:sb<=i;·exact s2 i j c2 aF (by lia)
   ·have e1:=f1 (i-sa) (by lia);rw[show sa+(i-sa)=i by lia]at e1;have e2:=s2 sb j (_h _) (by lia) (by lia);lia
 rw[_p (by simpa using q)];refine _j (yH (arr:=arrOf st) (by lia) (_j (qB V (arr:=arrOf st) B1.kind mem (mem _ (by lia)) (by lia) (by lia) (λi j aF hj=>?_) λm hm g1 g2=>?_)))
 ·simp only[bey,_G,_s];have:=s2 (sb+i) (sb+j) (by lia) (by lia) (by lia);lia
 simp only[bey,_G,_s,_ab]at g1 g2;dsimp only;have f0:=f2 k (_h _) (by lia);have m1:1<=m:=by
  rcases _cY m with z | z
  ·have e1:=g2 0 (by lia) (by lia);rw[_cj]at e1;have:=s1 (sa+k) (sa+k+(na-k)-1) (by lia) (by lia) (by lia);lia
  ·exact z
 rw[_p (by simp;lia)];have xs:((arrOf st).extract (sa+k) sb).size=na-k:=by rw[_cW];lia
 have ys:((arrOf st).extract sb (sb+m)).size=m:=by rw[_cW];lia
 have xa:∀i,i<na-k->at_ ((arrOf st).extract (sa+k) sb) i=at_ (arrOf st) (sa+k+i):=λi hi=>zhc (by lia) (by lia);have ya:∀i,i<m->at_ ((arrOf st).extract sb (sb+m)) i=at_ (arrOf st) (sb+i):=λi hi=>zhc (by lia) (by lia);have fin:∀r ag,z5t bC ag->Mrg rk ((arrOf st).extract (sa+k) sb) ((arrOf st).extract sb (sb+m)) r->wpS (model prog w) A E s (do
   modify λs=>setArr s (write (arrOf s) r (sa+k)) return (failedOf (<- get)).isNone) Q ag:=λr ag lk mg=>by
  have al  := lk.2.1.trans a1;have rs:r.size=na-k+m:=by
   have:=mg.1.length_eq;simp only[_P,_Y]at this;lia
  have hw:sa+k+r.size<=(arrOf st).size:=by lia
  refine _j (_a0 (_j (_ch ?_)));have B2:SB κ a₀ (setArr ag (write (arrOf ag) r (sa+k))):=by
   refine⟨?_,lk.1.trans B1.kind,lk.2.2.2.trans B1.failed⟩;show (write (arrOf ag) r (sa+k)).Perm a₀;rw[al];refine Array.Perm.trans (_bM.mpr ?_) B.perm;rw[zaU hw];have e1:(arrOf st).toList=(arrOf st).toList.take (sa+k)++((arrOf st).extract (sa+k) sb).toList++((arrOf st).extract sb (sb+m)).toList++(arrOf st).toList.drop (sa+k+r.size):=by
    simp only[Array.toList_extract,List.extract_eq_take_drop];have:=_au (sa+k) (arrOf st).toList;have d1:=_au (sb-(sa+k)) ((arrOf st).toList.drop (sa+k));have d2:=_au (sb+m-sb) ((arrOf st).toList.drop sb);rw[List.drop_drop,show sa+k+(sb-(sa+k))=sb by lia]at d1;rw[List.drop_drop,show sb+(sb+m-sb)=sa+k+r.size by lia]at d2;rw[_af,_af,d2,d1,this]
   conv=>rhs;rw[e1]
   rw[_af,_af,_af];refine List.Perm.append_left _ ?_;rw[<- _af];exact mg.1.append_right _
  have sr:=zlG mg.2;have wa:∀i,at_ (arrOf (setArr ag (write (arrOf ag) r (sa+k)))) i=if sa+k<=i/\i<sa+k+r.size then at_ r (i-(sa+k)) else at_ (arrOf st) i:=λi=>by
   show at_ (write (arrOf ag) r (sa+k)) i=_;rw[al];exact zfP hw
  have rm:∀i,i<r.size->(∃j,sa+k<=j/\j<sb/\at_ r i=at_ (arrOf st) j)\/∃j,sb<=j/\j<sb+m/\at_ r i=at_ (arrOf st) j:=λi hi=>by
   have:at_ r i∈r.toList:=by simp[at_,hi]
   rcases _D.mp (mg.1.mem_iff.mp this) with z | z
   ·obtain⟨j,hj,e⟩:=zdS z;exact .inl ⟨sa+k+j,by lia,by lia,by rw[e,xa j (by lia)]⟩
   ·obtain⟨j,hj,e⟩:=zdS z;exact .inr ⟨sb+j,by lia,by lia,by rw[e,ya j (by lia)]⟩
  rw[show (failedOf (setArr ag (write (arrOf ag) r (sa+k)))).isNone=true by rw[B2.failed];rfl];refine _o (h _ B2 (lk.2.2.1.trans p1) (λi hi=>?_) λi j hi aF hj=>?_);·rw[wa,_p (by lia)]
  ·-- lo part<=b0<merged;merged<eE a<=hi part
   have gT:∀i,sa<=i->i<sa+k->∀j,j<r.size->rk (at_ (arrOf st) i)<=rk (at_ r j):=λi i1 i2 j hj=>by
    have e1:=f1 (i-sa) (by lia);rw[show sa+(i-sa)=i by lia]at e1;rcases rm j hj with⟨j',j1,j2,e⟩ | ⟨j',j1,j2,e⟩;·rw[e];exact s1 i j' i1 (by lia) (by lia)
    ·rw[e];have:=s2 sb j' (_h _) j1 (by lia);lia
   have mV:∀j,sb+m<=j->j<sb+nb->∀i,i<r.size->rk (at_ r i)<=rk (at_ (arrOf st) j):=λj j1 j2 i hi=>by
    have e1:=g2 (j-sb) (by lia) (by lia);rw[show sb+(j-sb)=j by lia]at e1;rcases rm i hi with⟨i',i1,i2,e⟩ | ⟨i',i1,i2,e⟩
    ·rw[e];have:=s1 i' (sa+k+(na-k)-1) (by lia) (by lia) (by lia);lia
    ·rw[e];exact s2 i' j i1 (by lia) j2
   rw[wa,wa];by_cases c1:sa+k<=i/\i<sa+k+r.size
   ·rw[_l c1];by_cases c2:sa+k<=j/\j<sa+k+r.size;·rw[_l c2];exact sr _ _ (by lia) (by lia)
    ·rw[_p c2];exact mV j (by lia) (by lia) _ (by lia)
   ·rw[_p c1];by_cases c2:sa+k<=j/\j<sa+k+r.size
    ·rw[_l c2];exact gT i hi (by lia) _ (by lia)
    ·rw[_p c2];by_cases c3:sb<=i;·exact s2 i j c3 aF (by lia)
     ·by_cases c4:j<sb;·exact s1 i j hi aF (by lia)
      ·have z1:=gT i hi (by lia) 0 (by lia);have z2:=mV j (by lia) (by lia) 0 (by lia);lia
 have args:(∀i,i<((arrOf st).extract (sa+k) sb).size->at_ ((arrOf st).extract (sa+k) sb) i∈a₀.toList)/\(∀i,i<((arrOf st).extract sb (sb+m)).size->at_ ((arrOf st).extract sb (sb+m)) i∈a₀.toList)/\Srt rk ((arrOf st).extract (sa+k) sb)/\Srt rk ((arrOf st).extract sb (sb+m)):=by
  refine⟨λi hi=>?_,λi hi=>?_,λi j aF hj=>?_,λi j aF hj=>?_⟩;·rw[xa i (by lia)];exact mem _ (by lia)
  ·rw[ya i (by lia)];exact mem _ (by lia)
  ·rw[xa i (by lia),xa j (by lia)];exact s1 _ _ (by lia) (by lia) (by lia)
  ·rw[ya i (by lia),ya j (by lia)];exact s2 _ _ (by lia) (by lia) (by lia)
 obtain⟨Px,Py,sx,sy⟩:=args;have gU:rk (at_ ((arrOf st).extract sb (sb+m)) 0)<rk (at_ ((arrOf st).extract (sa+k) sb) 0):=by rw[xa 0 (by lia),ya 0 (by lia),_cj,_cj];exact f0
 have gV:rk (at_ ((arrOf st).extract sb (sb+m)) (((arrOf st).extract sb (sb+m)).size-1))<rk (at_ ((arrOf st).extract (sa+k) sb) (((arrOf st).extract (sa+k) sb).size-1)):=by
  rw[xs,ys,xa _ (by lia),ya _ (by lia),show sa+k+(na-k-1)=sa+k+(na-k)-1 by lia];exact g1 (m-1) (by lia)
 refine xx (λ_=>?_) λ_=>?_;·exact _j (zbO V (a:=(arrOf st).extract (sa+k) sb) (b:=(arrOf st).extract sb (sb+m)) B1.kind Px Py sx sy (by lia) (by lia) gU gV fin)
 ·exact _j (zb2 V (a:=(arrOf st).extract (sa+k) sb) (b:=(arrOf st).extract sb (sb+m)) B1.kind Px Py sx sy (by lia) (by lia) gU gV fin)
end
noncomputable def zq4(lo a aH:Nat):StateT SortSt Sem (Option (Option Nat)×Nat):= forIn [a:aH] ((none,a):Option (Option Nat)×Nat) λ_ c=>do match <- ltAt' (lo+c.2) (lo+c.2-1) with
  | some less=>if less=true then pure (.done (none,c.2)) else pure (.yield (none,c.2+1)) | _=>pure (.done (some none,c.2))
noncomputable def zpA(lo n aH:Nat):StateT SortSt Sem (Option (Option Nat)×Nat×Nat):= forIn [n:aH] ((none,n,0):Option (Option Nat)×Nat×Nat) λ_ c=>do match <- ltAt' (lo+c.2.1) (lo+c.2.1-1) with
  | some less=>
   if less=true then
    if c.2.2 > 0 then do
     reverseSlice' (lo+c.2.1-(c.2.2+1)) (lo+c.2.1)
     pure (.yield (none,c.2.1+1,0)) else pure (.yield (none,c.2.1+1,0)) else do match <- ltAt' (lo+c.2.1-1) (lo+c.2.1) with
    | some more=>if more=true then pure (.done (none,c.2.1,c.2.2)) else pure (.yield (none,c.2.1+1,c.2.2+1)) | _=>pure (.done (some none,c.2.1,c.2.2))
  | _=>pure (.done (some none,c.2.1,c.2.2))
section
variable {rk:Keyed->Nat}{a:Array Keyed}
theorem kA  (hj:j<=a.size)(k:Nat):at_ (mirror a i j ((j-i) / 2)) k=if i<=k/\k<j then at_ a (i+j-1-k) else at_ a k:=by
 simp only[at_,_ba];rw[getElem?_mirror_all hj];split<;>rfl
theorem z0B  (hj:j<=a.size)(he:∀k,i<=k->k<j->rk (at_ a k)=rk (at_ a (j-1)))(k:Nat):rk (at_ (mirror a i j ((j-i) / 2)) k)=rk (at_ a k):=by
 rw[kA hj];split;·rw[he _ (by lia) (by lia),he k (by lia) (by lia)]
 ·rfl
def Dsc(rk:Keyed->Nat)(a:Array Keyed)(lo hi:Nat):Prop:=∀i j,lo<=i->i<=j->j<hi->rk (at_ a j)<=rk (at_ a i)
theorem Dsc.more{lo x:Nat}(h:Dsc rk a lo (lo+x))(hx:1<=x)(e:rk (at_ a (lo+x))<=rk (at_ a (lo+x-1))):Dsc rk a lo (lo+(x+1)):=λi j hi aF hj=>by
 by_cases q:j<lo+x;·exact h i j hi aF q
 ·have:j=lo+x:=by lia
  subst this;by_cases q2:i=lo+x;·rw[q2];exact _h _
  ·have:=h i (lo+x-1) hi (by lia) (by lia);lia
theorem uc.more{lo x:Nat}(h:uc rk a lo (lo+x))(hx:1<=x)(e:rk (at_ a (lo+x-1))<=rk (at_ a (lo+x))):uc rk a lo (lo+(x+1)):=λi j hi aF hj=>by
 by_cases q:j<lo+x;·exact h i j hi aF q
 ·have:j=lo+x:=by lia
  subst this;by_cases q2:i=lo+x;·rw[q2];exact _h _
  ·have:=h i (lo+x-1) hi (by lia) (by lia);lia
end
section
variable {prog:Program}{w:World}{A:Around}{E:Value->Shared->Prop}{s:Shared}{κ:SortKind}{a₀:Array Keyed}{rk:Keyed->Nat}(V:Env prog w A s κ (· ∈ a₀.toList) rk) {st:SortSt}{lo aH:Nat}
theorem SB.set(h:SB κ a₀ st)  (hp:xs.Perm (arrOf st)):SB κ a₀ (setArr st xs):=⟨hp.trans h.perm,h.kind,h.failed⟩
theorem z1r   (h:Q () (setArr st (mirror (arrOf st) i j ((j-i) / 2)))):wpS (model prog w) A E s (reverseSlice' i j) Q st:=_a0 h
def z4k(lo:Nat)(st ag:SortSt):Prop:=(∀i,i<lo->at_ (arrOf ag) i=at_ (arrOf st) i)/\pendingOf ag=pendingOf st
theorem z4k.refl:z4k lo st st:=⟨λ_ _=>rfl,rfl⟩
theorem z4k.mir  (h:z4k lo st ag)  (hi:lo<=i)(hj:j<=(arrOf ag).size):z4k lo st (setArr ag (mirror (arrOf ag) i j ((j-i) / 2))):= ⟨λk hk=>by rw[kA hj,_p (by lia)];exact h.1 k hk,h.2⟩
include V
theorem z2D   (B:SB κ a₀ st)(hi:i<a₀.size)(hj:j<a₀.size)(h:Q (some (decide (rk (at_ (arrOf st) i)<rk (at_ (arrOf st) j)))) st):wpS (model prog w) A E s (ltAt' i j) Q st:=by
 have sz:=B.size;rw[ltAt'_eq];exact _j (_ch (_j (yH  (by lia) (_j (yH  (by lia) (ze6 V B.kind (B.mem _ (by lia)) (B.mem _ (by lia)) h))))))
theorem z7S   (hn:lo+aH<=a₀.size)(ha:1<=a)(lC:a<=aH)(B:SB κ a₀ st)(hs:uc rk (arrOf st) lo (lo+a)) (h:∀n,a<=n->n<=aH->uc rk (arrOf st) lo (lo+n)->(n=aH\/rk (at_ (arrOf st) (lo+n))<rk (at_ (arrOf st) (lo+n-1)))->Q (none,n) st):wpS (model prog w) A E s (zq4 lo a aH) Q st:=by
 refine _aK (I:=λx c ag=>ag=st/\c=(none,x)/\uc rk (arrOf st) lo (lo+x)) ?_ ?_ ⟨rfl,rfl,hs⟩
 ·rintro x c ag h1 h2 ⟨rfl,rfl,gW⟩;refine _j (z2D V B (by lia) (by lia) (xx (λq=>(_o (h x h1 (by lia) gW (.inr (by simpa using q))))) λq=>?_))
  ·simp only[_s]at q;exact _o ⟨rfl,rfl,gW.more (by lia) (by lia)⟩
 ·rintro c ag ⟨rfl,rfl,gW⟩;rw[show max a aH=aH by lia]at gW ⊢;exact h aH lC (_h _) gW (.inl rfl)
theorem zh3    (hn:lo+aH<=a₀.size)(ha:1<=n)(lC:n<=aH)(B:SB κ a₀ st)(kp:z4k lo eV st)(hs:Dsc rk (arrOf st) lo (lo+n)) (h:∀m q ag,SB κ a₀ ag->z4k lo eV ag->n<=m->m<=aH->Dsc rk (arrOf ag) lo (lo+m)->q+1<=m->(∀i,lo+m-(q+1)<=i->i<lo+m->rk (at_ (arrOf ag) i)=rk (at_ (arrOf ag) (lo+m-1)))->Q (none,m,q) ag):wpS (model prog w) A E s (zpA lo n aH) Q st:=by
 refine _aK (I:=λx c ag=>∃q,c=(none,x,q)/\SB κ a₀ ag/\z4k lo eV ag/\Dsc rk (arrOf ag) lo (lo+x)/\q+1<=x/\∀i,lo+x-(q+1)<=i->i<lo+x->rk (at_ (arrOf ag) i)=rk (at_ (arrOf ag) (lo+x-1))) ?_ ?_ ⟨0,rfl,B,kp,hs,by lia,λi h1 h2=>by congr 2;lia⟩
 ·rintro x c ag h1 h2 ⟨q,rfl,B',fj,ds,qx,eq⟩;have sz:=B'.size;dsimp only;refine _j (z2D V B' (by lia) (by lia) (xx (λc1=>?_) λc1=>?_))
  ·simp only[_s]at c1;refine xx (λc2=>?_) λc2=>(_o ⟨0,rfl,B',fj,ds.more (by lia) (by lia),by lia,λi h1 h2=>by congr 2;lia⟩)
   ·have me  := z0B (by lia) eq;refine _j (z1r (_o ⟨0,rfl,B'.set (_bN _ _ _ _),fj.mir (by lia) (by lia),Dsc.more (λi j hi aF hj=>?_) (by lia) ?_,by lia,λi h1 h2=>by congr 2;lia⟩));·rw[me,me];exact ds i j hi aF hj
    ·rw[me,me];lia
  ·simp only[_s]at c1;refine _j (z2D V B' (by lia) (by lia) (xx (λc2=>(_o (h x q ag B' fj h1 (by lia) ds qx eq))) λc2=>?_))
   ·simp only[_s]at c2;refine _o ⟨q+1,rfl,B',fj,ds.more (by lia) (by lia),by lia,λi h1 h2=>?_⟩;rw[show lo+(x+1)-1=lo+x by lia];by_cases z:i=lo+x;·rw[z]
    ·rw[(show rk (at_ (arrOf ag) (lo+x))=rk (at_ (arrOf ag) (lo+x-1)) from by lia)];exact eq i (by lia) (by lia)
 ·rintro c ag ⟨q,rfl,B',fj,ds,qx,eq⟩;rw[show max n aH=aH by lia]at ds qx eq ⊢;exact h aH q ag B' fj lC (_h _) ds qx eq
theorem zfA  (hn:lo+aH<=a₀.size) (h1:1<=aH) (B:SB κ a₀ st) (h:∀m ag,SB κ a₀ ag->z4k lo st ag->1<=m->m<=aH->uc rk (arrOf ag) lo (lo+m)->Q (some m) ag):wpS (model prog w) A E s (countRun' lo aH) Q st:=by
 have sz:=B.size;refine _j (z7S V hn (_h 1) h1 B (λi j hi aF hj=>by rw[show i=j by lia];exact _h _) λn n1 n2 sn or=>?_);dsimp only;by_cases e:n=aH
 ·rw[_l (by simpa using e)];exact _o (h n st B .refl n1 n2 sn)
 rw[_p (by simpa using e)];refine xx (λc=>?_) λc=>?_
 ·refine _j (z2D V B (by lia) (by lia) ?_);dsimp only;refine xx (λc2=>?_) λc2=>?_;·exact _o (h n st B .refl n1 n2 sn)
  ·simp only[_s]at c2;have all:∀k,lo<=k->k<lo+n->rk (at_ (arrOf st) k)=rk (at_ (arrOf st) (lo+n-1)):=λk z1 z2=>by
    have a1:=sn lo k (_h _) z1 z2;have a2:=sn k (lo+n-1) z1 (by lia) (by lia);lia
   refine _j (z1r ?_);have B1:=SB.set B (_bN _ lo (lo+n) ((lo+n-lo) / 2));have k1:=z4k.mir (z4k.refl  (st:=st)) (i:=lo) (j:=lo+n) (_h _) (by lia);refine _j (_cV (_ax ⟨rfl,?_⟩));refine _j (zh3 V hn (by lia) (by lia) B1 k1 (by
    refine Dsc.more (λi j hi aF hj=>?_) n1 ?_
    ·show rk (at_ (mirror _ _ _ _) j)<=rk (at_ (mirror _ _ _ _) i);rw[z0B  (by lia) all,z0B  (by lia) all,all i hi (by lia),all j (by lia) hj];exact _h _
    ·show rk (at_ (mirror _ _ _ _) _)<=rk (at_ (mirror _ _ _ _) _);rw[z0B  (by lia) all,z0B  (by lia) all];lia) λm q av B2 k2 m1 m2 gX q1 eq=>?_);have pB:=B2.size;dsimp only;refine xx (λc=>?_) λc=>?_
   ·refine _j (z1r ?_);have Bm:=SB.set B2 (_bN _ (lo+m-(q+1)) (lo+m) ((lo+m-(lo+m-(q+1))) / 2));have km:=z4k.mir k2 (i:=lo+m-(q+1)) (j:=lo+m) (by lia) (by lia);have dm:Dsc rk (mirror (arrOf av) (lo+m-(q+1)) (lo+m) ((lo+m-(lo+m-(q+1))) / 2)) lo (lo+m):=λi j hi aF hj=>by
     rw[z0B  (by lia) eq,z0B  (by lia) eq];exact gX i j hi aF hj
    generalize mirror (arrOf av) (lo+m-(q+1)) (lo+m) ((lo+m-(lo+m-(q+1))) / 2)=am at Bm km dm;have pC  := Bm.size;refine _j (z1r ?_);have B3:=SB.set Bm (_bN _ lo (lo+m) ((lo+m-lo) / 2));have k3:=z4k.mir km  (j:=lo+m) (_h _) (by lia);refine _j (z7S V hn (by lia) m2 B3 (λi j hi aF hj=>?_) λm' lD eG sm _=>_o (h m' _ B3 k3 (by lia) eG sm));rw[kA (by lia),kA (by lia),_l (by lia),_l (by lia)];exact dm _ _ (by lia) (by lia) (by lia)
   ·refine _j (z1r ?_);have B3:=SB.set B2 (_bN _ lo (lo+m) ((lo+m-lo) / 2));have k3:=z4k.mir k2  (j:=lo+m) (_h _) (by lia);refine _j (z7S V hn (by lia) m2 B3 (λi j hi aF hj=>?_) λm' lD eG sm _=>_o (h m' _ B3 k3 (by lia) eG sm));rw[kA (by lia),kA (by lia),_l (by lia),_l (by lia)];exact gX _ _ (by lia) (by lia) (by lia)
 ·have lE:n=1:=by lia
  subst lE;have B1:=B;have k1:=z4k.refl (lo:=lo) (st:=st);refine _j (_cV (_ax ⟨rfl,?_⟩));refine _j (zh3 V hn (by lia) (by lia) B1 k1 (Dsc.more (λi j hi aF hj=>by rw[show i=j by lia];exact _h _) (_h _) (by lia)) λm q av B2 k2 m1 m2 gX q1 eq=>?_);have pB:=B2.size;dsimp only;refine xx (λc=>?_) λc=>?_
  ·refine _j (z1r ?_);have Bm:=SB.set B2 (_bN _ (lo+m-(q+1)) (lo+m) ((lo+m-(lo+m-(q+1))) / 2));have km:=z4k.mir k2 (i:=lo+m-(q+1)) (j:=lo+m) (by lia) (by lia);have dm:Dsc rk (mirror (arrOf av) (lo+m-(q+1)) (lo+m) ((lo+m-(lo+m-(q+1))) / 2)) lo (lo+m):=λi j hi aF hj=>by
    rw[z0B  (by lia) eq,z0B  (by lia) eq];exact gX i j hi aF hj
   generalize mirror (arrOf av) (lo+m-(q+1)) (lo+m) ((lo+m-(lo+m-(q+1))) / 2)=am at Bm km dm;have pC  := Bm.size;refine _j (z1r ?_);have B3:=SB.set Bm (_bN _ lo (lo+m) ((lo+m-lo) / 2));have k3:=z4k.mir km (i:=lo) (j:=lo+m) (_h _) (by lia);refine _j (z7S V hn (by lia) m2 B3 (λi j hi aF hj=>?_) λm' lD eG sm _=>_o (h m' _ B3 k3 (by lia) eG sm));rw[kA (by lia),kA (by lia),_l (by lia),_l (by lia)];exact dm _ _ (by lia) (by lia) (by lia)
  ·refine _j (z1r ?_);have B3:=SB.set B2 (_bN _ lo (lo+m) ((lo+m-lo) / 2));have k3:=z4k.mir k2 (i:=lo) (j:=lo+m) (_h _) (by lia);refine _j (z7S V hn (by lia) m2 B3 (λi j hi aF hj=>?_) λm' lD eG sm _=>_o (h m' _ B3 k3 (by lia) eG sm));rw[kA (by lia),kA (by lia),_l (by lia),_l (by lia)];exact gX _ _ (by lia) (by lia) (by lia)
end
theorem zjF(c:Prop) [Decidable c](x:Nat):(if c then x-1 else x)<=x:=by split<;>lia
abbrev Run:=Nat×Nat×Nat
section
variable {rk:Keyed->Nat}{a b:Array Keyed}
theorem zmh  (hs:src<a.size)(hd:d<=src)(k:Nat):at_ (bubble a src d) k=if k=src-d then at_ a src else if src-d<k/\k<=src then at_ a (k-1) else at_ a k:=by
 simp only[at_,_ba];rw[getElem?_bubble hs d hd];split;·rfl
 ·split<;>rfl
noncomputable def Chain(rk:Keyed->Nat)(a:Array Keyed):List Run->Nat->Nat->Prop
 | [],lo,hi=>lo=hi | (x,n,_)::t,lo,hi=>x=lo/\1<=n/\uc rk a x (x+n)/\Chain rk a t (x+n) hi
theorem Chain.len:∀{l:List Run}{lo hi:Nat},Chain rk a l lo hi->l.length+lo<=hi
 | [],_,_,h=>by simp only[Chain]at h;simp[h] | (x,n,_)::t,lo,hi,⟨h1,h2,_,h4⟩=>by have:=h4.len;simp only[_n];lia
theorem Chain.same:∀{l:List Run}{lo hi:Nat},(∀i,lo<=i->i<hi->at_ b i=at_ a i)->Chain rk a l lo hi->Chain rk b l lo hi
 | [],_,_,_,h=>h | (x,n,_)::t,lo,hi,e,⟨h1,h2,h3,h4⟩=>by
  have:=h4.len;exact⟨h1,h2,λi j hi aF hj=>by rw[e i (by lia) (by lia),e j (by lia) (by lia)];exact h3 i j hi aF hj,h4.same λi i1 i2=>e i (by lia) i2⟩
theorem Chain.push{n p lo:Nat}:∀{l:List Run}{st:Nat},Chain rk a l st lo->1<=n->uc rk a lo (lo+n)->Chain rk a (l++[(lo,n,p)]) st (lo+n)
 | [],st,h,h1,h2=>⟨h.symm,h1,h2,rfl⟩ | (x,m,_)::t,st,⟨g1,g2,g3,g4⟩,h1,h2=>⟨g1,g2,g3,g4.push h1 h2⟩
theorem Chain.modify  (hf:∀x,(f x).1=x.1/\(f x).2.1=x.2.1):∀{l:List Run}{k lo hi:Nat},Chain rk a l lo hi->Chain rk a (l.modify k f) lo hi
 | [],k,lo,hi,h=>by cases k<;>exact h | x::t,0,lo,hi,h=>by
  have e:=hf x;show Chain rk a (f x::t) lo hi;generalize f x=y at e;obtain⟨x1,x2,x3⟩:=x;obtain⟨rfl,rfl⟩:=e;exact h | (x,n,p)::t,k+1,lo,hi,⟨g1,g2,g3,g4⟩=>⟨g1,g2,g3,g4.modify hf⟩
theorem Chain.two{sa na p sb nb p' hi:Nat}:∀{l:List Run}{i lo:Nat},Chain rk a l lo hi->l[i]? = some (sa,na,p)->l[i+1]? = some (sb,nb,p')->lo<=sa/\sb=sa+na/\1<=na/\1<=nb/\sb+nb<=hi/\uc rk a sa (sa+na)/\uc rk a sb (sb+nb)
 | x::[],i,lo,h,e1,e2=>by cases e2 | x::y::t,0,lo,h,e1,e2=>by
  simp only[_g,_K]at e1;simp only[_k,_g,_K]at e2;subst e1 e2;obtain⟨g1,g2,g3,h1,h2,h3,h4⟩:=h;have:=h4.len;exact⟨by lia,by lia,g2,h2,by lia,g3,h3⟩ | (x,n,p)::y::t,i+1,lo,⟨g1,g2,g3,g4⟩,e1,e2=>by
  have:=g4.two  e1 (by exact e2);exact⟨by lia,this.2⟩
theorem Chain.merge{sa na p sb nb p' hi:Nat}(S:zpn a b sa (sa+(na+nb)))(s:uc rk b sa (sa+(na+nb))):∀{l:List Run}{i lo:Nat},Chain rk a l lo hi->l[i]? = some (sa,na,p)->l[i+1]? = some (sb,nb,p')->Chain rk b ((l.set i (sa,na+nb,p)).eraseIdx (i+1)) lo hi
 | x::[],i,lo,h,e1,e2=>by cases e2 | x::y::t,0,lo,h,e1,e2=>by
  simp only[_g,_K]at e1;simp only[_k,_g,_K]at e2;subst e1 e2;obtain⟨g1,g2,g3,h1,h2,h3,h4⟩:=h;exact⟨g1,by lia,s,((show Chain rk a t (sa+(na+nb)) hi from by rw[show sa+(na+nb)=sb+nb by lia];exact h4).same λi i1 i2=>S i (.inr i1))⟩ | (x,n,q)::y::t,i+1,lo,⟨g1,g2,g3,g4⟩,e1,e2=>by
  have mW:(y::t)[i+1]? = some (sb,nb,p'):=by exact e2
  have tw:=g4.two e1 mW;exact⟨g1,g2,λi j hi aF hj=>by rw[S i (by lia),S j (by lia)];exact g3 i j hi aF hj,g4.merge S s e1 mW⟩
end
section
variable {prog:Program}{w:World}{A:Around}{E:Value->Shared->Prop}{s:Shared}{κ:SortKind}{a₀:Array Keyed}{rk:Keyed->Nat}(V:Env prog w A s κ (· ∈ a₀.toList) rk) {st:SortSt}{lo aH:Nat}
include V
theorem zlV   (hn:lo+n<=a₀.size)(hok:ok<=n)(B:SB κ a₀ st)(hs:uc rk (arrOf st) lo (lo+ok))(h:∀ag,SB κ a₀ ag->z4k lo st ag->uc rk (arrOf ag) lo (lo+n)->Q true ag):wpS (model prog w) A E s (binarySort' lo n ok) Q st:=by
 refine _j (_bL (_aK (I:=λk c ag=>c=(none,())/\SB κ a₀ ag/\z4k lo st ag/\uc rk (arrOf ag) lo (lo+min k n)) (Q:=λc ag=>c=(none,())/\SB κ a₀ ag/\z4k lo st ag/\uc rk (arrOf ag) lo (lo+n)) ?_ ?_ ?_) ?_)
 ·rintro k c bC h1 h2 ⟨rfl,B1,k1,s1⟩;have sz:=B1.size;rw[show min k n=k by lia]at s1;refine _j (_bL (_aK (I:=λx c av=>av=bC/\∃l r,c=(none,l,r)/\l<=r/\r<=k/\r-l<=k-x/\(∀i,lo<=i->i<lo+l->rk (at_ (arrOf bC) i)<=rk (at_ (arrOf bC) (lo+k)))/\(∀i,lo+r<=i->i<lo+k->rk (at_ (arrOf bC) (lo+k))<rk (at_ (arrOf bC) i))) (Q:=λc av=>av=bC/\∃l r,c=(none,l,r)/\l<=k/\(∀i,lo<=i->i<lo+l->rk (at_ (arrOf bC) i)<=rk (at_ (arrOf bC) (lo+k)))/\(∀i,lo+l<=i->i<lo+k->rk (at_ (arrOf bC) (lo+k))<rk (at_ (arrOf bC) i))) ?_ ?_ ⟨rfl,0,k,rfl,by lia,by lia,by lia,λi _ hi=>by lia,λi h1 h2=>by lia⟩) ?_)
  ·rintro x c av _ hx ⟨rfl,l,r,rfl,c1,c2,c3,c4,c5⟩;dsimp only;refine xx (λq=>?_) λq=>?_
   ·have:l=r:=by lia
    subst this;exact _o ⟨rfl,l,l,rfl,c2,c4,c5⟩
   ·refine _j (z2D V B1 (by lia) (by lia) ?_);refine xx (λq2=>?_) λq2=>?_
    ·simp only[_s]at q2;refine _o ⟨rfl,l,(l+r) / 2,rfl,by lia,by lia,by lia,c4,λi i1 i2=>?_⟩;have:=s1 (lo+(l+r) / 2) i (by lia) i1 i2;lia
    ·simp only[_s]at q2;refine _o ⟨rfl,(l+r) / 2+1,r,rfl,by lia,by lia,by lia,λi i0 i1=>?_,c5⟩;have:=s1 i (lo+(l+r) / 2) i0 (by lia) (by lia);lia
  ·rintro c av ⟨rfl,l,r,rfl,c1,c2,c3,c4,c5⟩;have:l=r:=by lia
   subst this;exact⟨rfl,l,l,rfl,c2,c4,c5⟩
  ·rintro c av ⟨rfl,l,r,rfl,c2,c4,c5⟩;have ab:∀i,at_ (bubble (arrOf av) (lo+k) (lo+k-(lo+l))) i=if i=lo+l then at_ (arrOf av) (lo+k) else if lo+l<i/\i<=lo+k then at_ (arrOf av) (i-1) else at_ (arrOf av) i:=λi=>by rw[zmh (by lia) (by lia),show lo+k-(lo+k-(lo+l))=lo+l by lia]
   refine _j (_a0 (_o ⟨rfl,B1.set (bubble_perm _ _ _),⟨λi hi=>?_,k1.2⟩,?_⟩))
   ·show at_ (bubble (arrOf av) (lo+k) (lo+k-(lo+l))) i=_;rw[ab,_p (by lia),_p (by lia)];exact k1.1 i hi
   ·intro i j i1 i2 i3;show rk (at_ (bubble (arrOf av) (lo+k) (lo+k-(lo+l))) i)<=rk (at_ (bubble (arrOf av) (lo+k) (lo+k-(lo+l))) j);rw[ab,ab];repeat' split
    all_goals first
     | (lia) | exact _h _ | exact c4 _ (by lia) (by lia) | exact _aD (c5 _ (by lia) (by lia)) | exact s1 _ _ (by lia) (by lia) (by lia)
 ·rintro c bC ⟨hc,B1,k1,s1⟩;rw[show min (max (max ok 1) n) n=n by lia]at s1;exact⟨hc,B1,k1,s1⟩
 ·refine⟨rfl,B,.refl,λi j i1 i2 i3=>?_⟩;by_cases z:ok=0;·rw[show i=j by lia];exact _h _
  ·exact hs i j i1 i2 (by lia)
 ·rintro c bC ⟨rfl,B1,k1,s1⟩;exact _o (h bC B1 k1 s1)
theorem z2J{i hi:Nat}{Q:Bool->SortSt->Prop}(B:SB κ a₀ st)(c:Chain rk (arrOf st) (pendingOf st).toList 0 hi)(hz:hi<=a₀.size)(dg:i+1<(pendingOf st).size) (h:∀ag,SB κ a₀ ag->Chain rk (arrOf ag) (pendingOf ag).toList 0 hi->(pendingOf ag).size+1=(pendingOf st).size->(∀i,hi<=i->at_ (arrOf ag) i=at_ (arrOf st) i)->Q true ag):wpS (model prog w) A E s (mergeAt' i) Q st:=by
 obtain⟨⟨sa,na,p⟩,e1⟩:∃x,(pendingOf st)[i]? = some x:=⟨_,_dw _ i (by lia)⟩;obtain⟨⟨sb,nb,p'⟩,e2⟩:∃x,(pendingOf st)[i+1]? = some x:=⟨_,_dw _ (i+1) dg⟩;have l1:(pendingOf st).toList[i]? = some (sa,na,p):=by simpa using e1
 have l2:(pendingOf st).toList[i+1]? = some (sb,nb,p'):=by simpa using e2
 have tw:=c.two l1 l2;refine zbb V B e1 e2 tw.2.1 tw.2.2.1 tw.2.2.2.1 (by lia) tw.2.2.2.2.2.1 tw.2.2.2.2.2.2 λag B' ep S s'=>h ag B' ?_ ?_ λi hi=>S i (by lia)
 ·rw[ep,_cn,Array.toList_setIfInBounds];exact c.merge S s' l1 l2
 ·have:=_aw (λa=>a.toList.length) ep;simp only[_cn,Array.toList_setIfInBounds,List.length_eraseIdx,List.length_set,_Y]at this;rw[_l dg]at this;lia
theorem ziK  (B:SB κ a₀ st)(hp:pendingOf st=#[])(h:∀ag,SB κ a₀ ag->uc rk (arrOf ag) 0 a₀.size->Q () ag):wpS (model prog w) A E s sortRuns' Q st:=by
 have sz:=B.size;refine _j (_ch ?_);dsimp only;rw[show (arrOf st).size=a₀.size from sz];refine _j (_bL (_aK (I:=λx c ag=>∃lo,c=(none,lo)/\SB κ a₀ ag/\lo<=a₀.size/\min x a₀.size<=lo/\Chain rk (arrOf ag) (pendingOf ag).toList 0 lo) (Q:=λc ag=>c=(none,a₀.size)/\SB κ a₀ ag/\Chain rk (arrOf ag) (pendingOf ag).toList 0 a₀.size) ?_ ?_ ⟨0,rfl,B,by lia,by lia,by rw[hp];exact rfl⟩) ?_)
 ·rintro x c bC _ hx ⟨lo,rfl,B1,l1,l2,ch⟩;dsimp only;refine xx (λq=>?_) λq=>?_
  ·have:lo=a₀.size:=by lia
   subst this;exact _o ⟨rfl,B1,ch⟩
  refine _j (zfA V (by lia) (by lia) B1 λm av B2 k2 m1 m2 s2=>?_);dsimp only;have c2:Chain rk (arrOf av) (pendingOf av).toList 0 lo:=by
   rw[k2.2];exact ch.same λi _ hi=>k2.1 i hi
  refine xx (λq1=>?_) λq1=>?_
  ·refine _j (_cV (_ax ⟨rfl,?_⟩));refine _j (zlV V  (by lia) (by lia) B2 s2 λbF B3 k3 s3=>?_);have n2:=Nat.min_le_left (a₀.size-lo) (minRun' a₀.size a₀.size 0);have n1:1<=min (a₀.size-lo) (minRun' a₀.size a₀.size 0):=by
    have:m<minRun' a₀.size a₀.size 0:=q1;lia
   have c3:Chain rk (arrOf bF) (pendingOf bF).toList 0 lo:=by
    rw[k3.2];exact c2.same λi _ hi=>k3.1 i hi
   rw[_p (by decide)];have en:∃n,n=min (a₀.size-lo) (minRun' a₀.size a₀.size 0):=⟨_,rfl⟩;obtain⟨n,en⟩:=en;rw[<- en]at n1 n2;have s3:uc rk (arrOf bF) lo (lo+n):=by rw[en];exact s3
   refine _j (_ch ?_);cases e:(pendingOf bF).back? with
   | none=>
    dsimp only;refine _j (_a0 (_o ⟨lo+n,by first | rfl | (rw[en];rfl),⟨B3.perm,B3.kind,B3.failed⟩,by lia,by lia,?_⟩));rw[_an];first | exact c3.push n1 s3 | (rw[en]at n1 s3 ⊢;exact c3.push n1 s3)
   | some y=>
    obtain⟨y1,y2,y3⟩:=y;dsimp only;refine _j (_bL (_aK (I:=λx c ag=>c=(none,())/\SB κ a₀ ag/\Chain rk (arrOf ag) (pendingOf ag).toList 0 lo/\uc rk (arrOf ag) lo (lo+n)) ?_ (λc ag z=>z) ⟨rfl,B3,c3,s3⟩) ?_)
    ·rintro x' c cX _ hx' ⟨rfl,B4,c4,s4⟩;refine _j (_ch ?_);by_cases g:(pendingOf cX).size > 1
     ·rw[_l g];obtain⟨⟨z1,z2,z3⟩,ez⟩:∃x,(pendingOf cX)[(pendingOf cX).size-2]? = some x:=⟨_,_dw _ _ (by lia)⟩;rw[ez];dsimp only;refine xx (λ_=>_o ⟨rfl,B4,c4,s4⟩) λ_=>?_;refine _j (z2J V (i:=(pendingOf cX).size-2) B4 c4 l1 (by lia) λfD B5 c5 _ fr=>?_);rw[_p (by decide)];exact _o ⟨rfl,B5,c5,λi j i1 i2 i3=>by rw[fr i i1,fr j (by lia)];exact s4 i j i1 i2 i3⟩
     ·rw[_p g];exact _o ⟨rfl,B4,c4,s4⟩
    ·rintro c cX ⟨rfl,B4,c4,s4⟩;dsimp only;refine _j (_a0 (_j (_a0 (_o ⟨lo+n,by first | rfl | (rw[en];rfl),⟨B4.perm,B4.kind,B4.failed⟩,by lia,by lia,?_⟩))));rw[_an,Array.toList_modify];(rw[en]at n1 s4 ⊢;refine Chain.push (Chain.modify ?_ c4) n1 s4;exact λx=>⟨rfl,rfl⟩)
  ·have n1:=m1;have n2:=m2;have c3:=c2;have B3:=B2;have s3:=s2;generalize m=n at n1 n2 s3;generalize av=bF at B3 c3 s3;refine _j (_ch ?_);cases e:(pendingOf bF).back? with
   | none=>
    dsimp only;refine _j (_a0 (_o ⟨lo+n,by first | rfl | (rw[en];rfl),⟨B3.perm,B3.kind,B3.failed⟩,by lia,by lia,?_⟩));rw[_an];exact c3.push n1 s3 | some y=>
    dsimp only;refine _j (_bL (_aK (I:=λx c ag=>c=(none,())/\SB κ a₀ ag/\Chain rk (arrOf ag) (pendingOf ag).toList 0 lo/\uc rk (arrOf ag) lo (lo+n)) ?_ (λc ag z=>z) ⟨rfl,B3,c3,s3⟩) ?_)
    ·rintro x' c cX _ hx' ⟨rfl,B4,c4,s4⟩;refine _j (_ch ?_);by_cases g:(pendingOf cX).size > 1
     ·rw[_l g];obtain⟨⟨z1,z2,z3⟩,ez⟩:∃x,(pendingOf cX)[(pendingOf cX).size-2]? = some x:=⟨_,_dw _ _ (by lia)⟩;rw[ez];dsimp only;refine xx (λ_=>_o ⟨rfl,B4,c4,s4⟩) λ_=>?_;refine _j (z2J V (i:=(pendingOf cX).size-2) B4 c4 l1 (by lia) λfD B5 c5 _ fr=>?_);rw[_p (by decide)];exact _o ⟨rfl,B5,c5,λi j i1 i2 i3=>by rw[fr i i1,fr j (by lia)];exact s4 i j i1 i2 i3⟩
     ·rw[_p g];exact _o ⟨rfl,B4,c4,s4⟩
    ·rintro c cX ⟨rfl,B4,c4,s4⟩;dsimp only;refine _j (_a0 (_j (_a0 (_o ⟨lo+n,by first | rfl | (rw[en];rfl),⟨B4.perm,B4.kind,B4.failed⟩,by lia,by lia,?_⟩))));rw[_an,Array.toList_modify];(refine Chain.push (Chain.modify ?_ c4) n1 s4;exact λx=>⟨rfl,rfl⟩)
 ·rintro c bC ⟨lo,rfl,B1,l1,l2,ch⟩;have:lo=a₀.size:=by lia
  subst this;exact⟨rfl,B1,ch⟩
 ·rintro c bC ⟨rfl,B1,ch⟩;dsimp only;refine _j (_bL (_aK (I:=λx c ag=>c=(none,())/\SB κ a₀ ag/\Chain rk (arrOf ag) (pendingOf ag).toList 0 a₀.size/\(pendingOf ag).size<=max 1 (a₀.size-x)) (Q:=λc ag=>c=(none,())/\SB κ a₀ ag/\Chain rk (arrOf ag) (pendingOf ag).toList 0 a₀.size/\(pendingOf ag).size<=1) ?_ ?_ ⟨rfl,B1,ch,?_⟩) ?_)
  ·rintro x c av _ hx ⟨rfl,B2,c2,l2⟩;refine _j (_ch ?_);refine xx (λq=>_o ⟨rfl,B2,c2,q⟩) λq=>?_;have q:¬ (pendingOf av).size<=1:=q;refine _j (z2J V B2 c2 (_h _) ?_ λbF B3 c3 e3 _=>?_)
   ·refine _c0 (Nat.add_le_add_right (show _<=(pendingOf av).size-2 from ?_) 1) (by lia);exact zjF _ _
   ·rw[_p (by decide)];exact _o ⟨rfl,B3,c3,by lia⟩
  ·rintro c av ⟨rfl,B2,c2,l2⟩;exact⟨rfl,B2,c2,by lia⟩
  ·have:=ch.len;simp only[_Y]at this;lia
  ·rintro c av ⟨rfl,B2,c2,l2⟩;refine _o (h av B2 ?_);have mX:(pendingOf av).toList.length<=1:=by exact l2
   generalize (pendingOf av).toList=l at c2 mX;match l,c2,mX with
   | [],c2,_=>rw[show 0=a₀.size from c2];exact λi j i1 i2 i3=>by lia | (x,n,p)::[],⟨g1,g2,g3,g4⟩,_=>
    have e  := g4;rw[e,g1]at g3;exact g3 | _::_::_,_,z=>simp at z
end
end Dt
namespace Dd
open L2 PySem.W Dt
theorem za5{α β:Type}{f:α->β}:∀{ys xs:List β},ys.Perm xs->∀l:List α,l.map f=xs->∃l':List α,l'.Perm l/\l'.map f=ys:=by
 intro ys xs p;induction p with
 | nil=>exact λl e=>⟨l,.refl _,e⟩ | cons x p ih=>
  intro l e;cases l with
  | nil=>simp at e | cons a l=>
   simp only[_A,_as]at e;obtain⟨l',p',e'⟩:=ih l e.2;exact⟨a::l',p'.cons a,by simp[e',e.1]⟩
 | swap x y l0=>
  intro l e;match l,e with
  | a::b::l,e=>
   simp only[_A,_as]at e;exact⟨b::a::l,.swap a b l,by simp[e.1,e.2.1,e.2.2]⟩
 | trans p1 p2 ih1 ih2=>
  intro l e;obtain⟨l2,q2,e2⟩:=ih2 l e;obtain⟨l1,q1,e1⟩:=ih1 l2 e2;exact⟨l1,q1.trans q2,e1⟩
theorem zcG{α β:Type}:∀Z:List (α×β),(Z.map Prod.fst).zip (Z.map Prod.fst)=Z.map λz=>(z.1,z.1)
 | []=>rfl | z::Z=>by simp[zcG Z]
structure uG{K:Type}(lt:K->K->Bool):Prop where
 irr:∀a,lt a a=false
 tot:∀a b,a≠b->lt b a=!lt a b
 tr:∀a b c,lt a b=true->lt b c=true->lt a c=true
section
variable {K:Type}{lt:K->K->Bool}(Oo:uG lt)
include Oo
theorem zhk{L:List K}  (ha:a∈L):decide (L.countP (λz=>lt z a)<L.countP λz=>lt z b)=lt a b:=by
 have mono:∀{a b:K},lt a b=true->∀L:List K,L.countP (λz=>lt z a)<=L.countP λz=>lt z b:=λ{a b} h L=>List.countP_mono_left λz _ hz=>Oo.tr _ _ _ hz h;cases h:lt a b with
 | true=> exact _al ((show ∀L:List K,a∈L->L.countP (λz=>lt z a)<L.countP λz=>lt z b from by
   intro L;induction L with
   | nil=>intro h;cases h | cons x L ih=>
    intro hm;rw[List.countP_cons,List.countP_cons];rcases _r.mp hm with e | hm
    ·subst e;rw[Oo.irr,h];have:=mono h L;simp;lia
    ·have i:=ih hm;by_cases c:lt x a=true;·rw[_l c,_l (Oo.tr _ _ _ c h)];lia
     ·rw[_p c];lia) L ha) | false=>
  refine _R ?_;by_cases e:a=b;·subst e;lia
  ·have:=mono (by rw[Oo.tot a b e,h];rfl) L;lia
end
section
variable {prog:Program}{w:World}{A:Around}{E:Value->Shared->Prop}{s:Shared}
open Classical in
def keyOf{K:Type}(d:K)(Z:List (Value×K))(v:Value):K:=if h:∃z∈Z,z.1=v then (choose h).2 else d
theorem keyOf_eq{K:Type}{d:K}{Z:List (Value×K)}(fn:∀x∈Z,∀y∈Z,x.1=y.1->x.2=y.2){z:Value×K}(hz:z∈Z):keyOf d Z z.1=z.2:=by
 have h:∃x∈Z,x.1=z.1:=⟨z,hz,rfl⟩;rw[keyOf,dif_pos h];exact fn _ h.choose_spec.1 _ hz h.choose_spec.2
def zcN(prog:Program)(w:World)(A:Around){K:Type}(lt:K->K->Bool)(κ:SortKind)(Z:List (Value×K))(s:Shared):Prop:= (∀(Q:SortKind->Shared->Prop)(E:Value->Shared->Prop),0<Z.length->Q κ s->wpAny (model prog w) A (keyKind' (Z.map Prod.fst).toArray) Q E s)/\ ∀x∈Z,∀y∈Z,∀(C:Bool->Shared->Prop)(E:Value->Shared->Prop),C (lt x.2 y.2) s->wpAny (model prog w) A (keyLt' κ x.1 y.1) C E s
theorem zbD {K:Type} {lt:K->K->Bool} (Oo:uG lt) (d:K)  {Z:List (Value×K)} (fn:∀x∈Z,∀y∈Z,x.1=y.1->x.2=y.2) (ho:s.heap.get? a=some (seqObj "list" (Z.map Prod.fst).toArray n)) (hp:∀s':Shared,(∀b o,b≠a->s.heap.get? b=some o->s'.heap.get? b=some o)->zcN prog w A lt κ Z s') (aE:Z.length<=sizeLine) (h:∀Z':List (Value×K),Z'.Perm Z->(Z'.map Prod.snd).Pairwise (λa b=>lt b a=false)->P (.done (.ret .none)) {s with heap:=sortedHeap s.heap a (Z.map Prod.fst) (Z'.map Prod.fst).toArray}):wpAny (model prog w) A (Builtin.«list.sort» ⟨[.ref a],[]⟩) P E s:=by
 have hv:(Z.map Prod.fst).length=Z.length:=_z _;generalize hvs:Z.map Prod.fst=vs at *;obtain⟨e1,g1⟩:∃e1,(s.heap.update a (Obj.mapSeq λ_=>(#[]:Array Value))).get? a=some (seqObj "list" #[] e1):=⟨_,get?_update_seq ho λ_=>#[]⟩;have g2:(((s.heap.update a (Obj.mapSeq λ_=>(#[]))).push (seqObj "tuple" vs.toArray 0)).push (seqObj "list" #[] 0)).get? a=some (seqObj "list" #[] e1):=_e _ (_e _ g1);have ok:=hp {s with heap:=((s.heap.update a (Obj.mapSeq λ_=>(#[]:Array Value))).push (seqObj "tuple" vs.toArray 0)).push (seqObj "list" #[] 0)} λb o hb e=> _e _ (_e _ (((_cK s.heap a (Obj.mapSeq λ_=>(#[]:Array Value))).2 b hb).trans e));rw[list_sort_plain];refine _a (listItems_at ho rfl (_a (listUpdate_at ho rfl (_a (seqEpoch_at g1 rfl (_a (wpAny_newTuple (_a (wpAny_newList (_aU ?_) (_az _))) (by rw[hv];exact aE))))) (by rw[_t,hv];exact aE) (_az _))));dsimp only;by_cases big:vs.toArray.size<2
 ·rw[_l big,_l big];have mY:vs.length<2:=by simpa using big
  refine _a (_i (_a (_i ?_)));dsimp only;have aA:(arrOf (SortSt.mk' general' (vs.toArray.zip vs.toArray) #[] 7 none)).map (·.2)=vs.toArray:=by
   show ((vs.toArray.zip vs.toArray).map (·.2))=_;apply Array.ext_getElem?;intro i;by_cases hi:i<vs.length<;>simp[hi]
  rw[aA];refine _a (seqEpoch_at g2 rfl (_a (listUpdate_at g2 rfl ?_ (_az _) (by rw[_t,hv];exact Nat.le_succ_of_le aE))));simp only[_ck,_aP];have h':=h Z (.refl _) (by match Z,hv with
   | [],_=>exact .nil | [x],_=>exact List.pairwise_singleton _ _ | _::_::_,z=>simp at z;lia);rw[hvs]at h';exact _i h'
 ·rw[_p big,_p big];have b2:2<=vs.length:=by simpa using big
  have mZ:=ok.1;rw[hvs]at mZ;refine _a (mZ _ _ (by lia) ?_);have mz:∀x∈(pairsOf vs).toList,∃z∈Z,x=(z.1,z.1):=λx hx=>by
   rw[pairsOf_toList]at hx;obtain⟨e,hm⟩:=mem_zip_self hx;rw[<- hvs]at hm;obtain⟨z,hz,ez⟩:=_m.mp hm;exact⟨z,hz,Prod.ext ez.symm (by rw[<- e];exact ez.symm)⟩
  have V:Env prog w A {s with heap:=((s.heap.update a (Obj.mapSeq λ_=>(#[]))).push (seqObj "tuple" vs.toArray 0)).push (seqObj "list" #[] 0)} κ (· ∈ (pairsOf vs).toList) (λx=>(Z.map Prod.snd).countP λz=>lt z (keyOf d Z x.1)):=⟨λx y hx hy C E hc=>by
   obtain⟨zx,mx,rfl⟩:=mz x hx;obtain⟨zy,my,rfl⟩:=mz y hy;refine ok.2 zx mx zy my C E ?_;simp only[keyOf_eq fn mx,keyOf_eq fn my]at hc;rw[zhk Oo (List.mem_map_of_mem mx)]at hc;exact hc⟩;refine _a (_F ((ziK V  (Q:=λ_ ag=>SB κ (pairsOf vs) ag/\uc (λx=>(Z.map Prod.snd).countP λz=>lt z (keyOf d Z x.1)) (arrOf ag) 0 (pairsOf vs).size) ⟨Array.Perm.refl _,rfl,rfl⟩ rfl λag B sr=>⟨B,sr⟩)) ?_ λ_ _ z=>z);rintro⟨⟨⟩,ag⟩ s' ⟨rfl,B,sr⟩;dsimp only at B sr ⊢;have pl:(arrOf ag).toList.Perm (vs.zip vs):=by rw[<- pairsOf_toList];exact _bM.mp B.perm
  obtain⟨Z',pz,ez⟩:=za5 pl Z (by rw[<- hvs,zcG]);have aA:(arrOf ag).map (·.2)=(Z'.map Prod.fst).toArray:=by
   apply Array.toList_inj.mp;rw[Array.toList_map,<- ez,_aG];rfl
  rw[aA,B.failed];refine _a (seqEpoch_at g2 rfl (_a (listUpdate_at g2 rfl ?_ (_az _) (by rw[_t,_z,pz.length_eq];exact Nat.le_succ_of_le aE))));simp only[_ck,_aP];exact _i (h Z' pz (by
   rw[List.pairwise_iff_getElem];intro i j hi hj aF;have dg:i<Z'.length:=by simpa using hi
   have dN:j<Z'.length:=by simpa using hj
   have sz:(arrOf ag).size=Z'.length:=by rw[<- _Y,<- ez,_z]
   have az:∀k (hk:k<Z'.length),at_ (arrOf ag) k=(Z'[k].1,Z'[k].1):=λk hk=>by
    have:(arrOf ag).toList[k]? = some (Z'[k].1,Z'[k].1):=by rw[<- ez,_ae,_c hk];rfl
    have e2:(arrOf ag)[k]? = some (Z'[k].1,Z'[k].1):=by simpa using this
    have e3:=z8E (arr:=arrOf ag) (i:=k) (by lia);rw[e2]at e3;exact (_E e3).symm
   have r:=sr i j (_az _) (_aD aF) (by rw[<- B.size];lia);rw[az i dg,az j dN]at r;have mi:Z'[i]∈Z:=pz.mem_iff.mp (_aE _);have mj:Z'[j]∈Z:=pz.mem_iff.mp (_aE _);simp only[keyOf_eq fn mi,keyOf_eq fn mj]at r;rw[_cx,_cx,<- zhk Oo  (List.mem_map_of_mem mj)];exact _R (by omega)))
theorem zbH {K:Type} {lt:K->K->Bool} (Oo:uG lt) (d:K)  {Z:List (Value×K)} (fn:∀x∈Z,∀y∈Z,x.1=y.1->x.2=y.2) (hl:s.heap.IsList l (Z.map Prod.fst).toArray) (hp:∀(A':Around) (s':Shared),A'.units<=A.units+4->(∀b o,s.heap.get? b=some o->s'.heap.get? b=some o)->zcN prog w A' lt κ Z s') (aE:Z.length<=sizeLine) (h:∀Z':List (Value×K),Z'.Perm Z->(Z'.map Prod.snd).Pairwise (λa b=>lt b a=false)->Q (.ref (s.heap.objs.size+1)) {s with heap:=sortedAll s.heap (Z.map Prod.fst) (Z'.map Prod.fst).toArray}): wpAny (model prog w) A (call (.builtin "sorted") [.ref l]) Q E s:=by
 have cY:(Z.map Prod.fst).toArray.size<=sizeLine:=by simpa using aE
 refine Calls.call_function_entry kind_sorted plain_sorted entry_sorted (args_sorted1 _) (_a  (_i (_a (collect_list hl (_a (wpAny_newList ?_ cY)) cY))));have sz:((s.heap.push (seqObj "list" #[] 0)).update s.heap.objs.size (Obj.mapSeq (· ++ (Z.map Prod.fst).toArray))).objs.size=s.heap.objs.size+1:=by rw[Heap.size_update,size_push']
 have g:(((s.heap.push (seqObj "list" #[] 0)).update s.heap.objs.size (Obj.mapSeq (· ++ (Z.map Prod.fst).toArray))).push (seqObj "list" (Z.map Prod.fst).toArray 0)).get? (s.heap.objs.size+1)=some (seqObj "list" (Z.map Prod.fst).toArray 0):=by
  rw[<- sz];exact _x _ rfl
 have keep:∀b o,s.heap.get? b=some o->(((s.heap.push (seqObj "list" #[] 0)).update s.heap.objs.size (Obj.mapSeq (· ++ (Z.map Prod.fst).toArray))).push (seqObj "list" (Z.map Prod.fst).toArray 0)).get? b=some o/\b≠s.heap.objs.size+1:=λb o q=>by
  have lt  := _u q;refine⟨?_,_H (_bp lt)⟩;rw[Heap.get?_push_ne _ _ _ (by rw[sz];exact _H (_bp lt)),Heap.get?_update_ne _ _ _ _ (_H lt),Heap.get?_push_ne _ _ _ (_H lt)];exact q
 rw[sz];exact _a (_aU (_at slot_list_sort ⟨_,g,rfl⟩ entry_list_sort (zbD Oo d fn g (λs' k=>hp _ s' (by simp[Around.in1]) λb o q=>k b o (keep b o q).2 (keep b o q).1) aE λZ' pz pw=>⟨_,rfl,_i ⟨_,rfl,h Z' pz pw⟩⟩) (args_list_sort _)))
end
open Pm
theorem zhl{K:Type}{lt:K->K->Bool}(Oo:uG lt):∀{xs ys:List K},xs.Perm ys->xs.Pairwise (λa b=>lt b a=false)->ys.Pairwise (λa b=>lt b a=false)->xs=ys
 | [],ys,p,_,_=>by rw[List.Perm.nil_eq p] | x::xs,[],p,_,_=>by simp at p | x::xs,y::ys,p,h1,h2=>by
  have hx:x∈y::ys:=p.mem_iff.mp (by simp);have hy:y∈x::xs:=p.mem_iff.mpr (by simp);rw[_b4]at h1 h2;have e:x=y:=by
   rcases _r.mp hx with e | hx;·exact e
   ·rcases _r.mp hy with e | hy;·exact e.symm
    ·refine _Q λne=>?_;have b:=h2.1 x hx;rw[Oo.tot y x λz=>ne z.symm,(h1.1 y hy)]at b;cases b
  subst e;rw[zhl Oo ((List.perm_cons x).mp p) h1.2 h2.2]
noncomputable def z8y{K:Type}(lt:K->K->Bool)(L:List K):List K:=L.mergeSort λa b=>!lt b a
theorem zaP{K:Type}(lt:K->K->Bool)(L:List K):(z8y lt L).Perm L:=List.mergeSort_perm L _
theorem z5P{K:Type}{lt:K->K->Bool}(Oo:uG lt){L L':List K}(p:L'.Perm L)(h:L'.Pairwise λa b=>lt b a=false):z8y lt L=L':=by
 refine zhl Oo ((zaP lt L).trans p.symm) ?_ h;have:=List.pairwise_mergeSort (le:=λa b=>!lt b a) (λa b c h1 h2=>by
  simp only[_a7]at h1 h2 ⊢;by_cases e1:a=b;·rw[e1];exact h2
  by_cases e2:b=c;·rw[<- e2];exact h1
  have q3:=Oo.tr _ _ _ (by rw[Oo.tot b a λz=>e1 z.symm,h1];rfl) (by rw[Oo.tot c b λz=>e2 z.symm,h2];rfl);rw[Oo.tot a c (λz=>by rw[z,Oo.irr]at q3;cases q3),q3];rfl) (λa b=>by
  by_cases e:a=b;·rw[e,Oo.irr];rfl
  ·rw[Oo.tot a b e];cases lt a b<;>rfl) L;exact this.imp λh=>by simpa using h
theorem z2c:uG lexN:=⟨vJ,λ_ _=>uj,λ_ _ _=>z34⟩
theorem z5e:∀{vs:List Value}{a b:List Int},xc vs a->xc vs b->a=b
 | _,_,_,.nil,.nil=>rfl | _,_,_,.cons h1,.cons h2=>by rw[z5e h1 h2]
theorem TupAt.one    (h1:TupAt h v p)(h2:TupAt h v q):p=q:=by
 obtain⟨a,o,n,us,rfl,g,c,d,i,_⟩:=h1;obtain⟨b,o',n',cR,e,g',c',d',i',_⟩:=h2;cases e;rw[g]at g';cases g';rw[d]at d';cases d';exact z5e i i'
theorem z6r:∀{h:Heap}{vs:List Value}{ps:List (List Int)},qU h vs ps->(vs.zip ps).map Prod.fst=vs/\(vs.zip ps).map Prod.snd=ps/\∀z∈vs.zip ps,TupAt h z.1 z.2
 | _,_,_,.nil=>⟨rfl,rfl,λz hz=>by cases hz⟩ | _,_,_,.cons p r=>by
  obtain⟨h1,h2,h3⟩:=z6r r;refine⟨by simp[h1],by simp[h2],λz hz=>?_⟩;rcases _r.mp hz with rfl | hz;·exact p
  ·exact h3 z hz
section
variable {X:Cx}{E:XK}
theorem zjy       (h:qU s.heap vs ps):zcN prog w A lexN (tuples' true) (vs.zip ps) s:=by
 obtain⟨h1,h2,h3⟩:=z6r h;refine⟨λQ E h0 q=>?_,λx hx y hy C E hc=>ziJ (h3 x hx) (h3 y hy) hc⟩;rw[h1];refine zdo h (by rw[<- h2,_z];exact h0) q
theorem zpr  : ∀{ys:List V} {ah:List Value} {ps:List (List Int)},xF ys ah->Paired (λv ns=>AtN H v ns) ys ps->∃T:List (V×Value×List Int),T.map (λt=>t.2)=ah.zip ps/\∀t∈T,xr t.1 t.2.1/\AtN H t.1 t.2.2
 | _,_,_,.nil,.nil=>⟨[],rfl,λt h=>by cases h⟩ | _,_,_,.cons (a:=y) (b:=v) r rs,.cons (b:=p) a ps=>by
  obtain⟨T,h1,h2⟩:=zpr rs ps;refine⟨(y,v,p)::T,by simp[h1],λt ht=>?_⟩;rcases _r.mp ht with rfl | ht;·exact⟨r,a⟩
  ·exact h2 t ht
theorem z84  : ∀{T:List (V×Value×List Int)},(∀t∈T,xr t.1 t.2.1/\AtN H t.1 t.2.2)->xF (T.map Prod.fst) (T.map λt=>t.2.1)/\Paired (λv ns=>AtN H v ns) (T.map Prod.fst) (T.map λt=>t.2.2)
 | [],_=>⟨.nil,.nil⟩ | t::T,h=>by
  obtain⟨h1,h2⟩:=z84  λt ht=>h t (.tail _ ht);exact⟨.cons (h t (.head _)).1 h1,.cons (h t (.head _)).2 h2⟩
def zh4(K:W.Frag):List V->Hp->VK->Prop:=λxs H Q=>∃(l:Addr)(ys:List V)(ps:List (List Int)),xs=[.ref l]/\SqL K H l ys/\Paired (λv ns=>AtN H v ns) ys ps/\(∀n∈ps,n≠[])/\ ∀zs,Paired (λv ns=>AtN H v ns) zs (z8y lexN ps)->∀r,H r=none->Q (.ref r) (upd H r (.lst zs))
theorem zbf:vt X (.builtin "sorted") (zh4 X.K):=by
 intro ac s O H xs us Q I r h;obtain⟨l,ys,ps,rfl,hq,hp,hn,q⟩:=h;obtain⟨u,rfl,rx⟩:=vals1 r;cases rx;obtain⟨ah,r',pl,hz⟩:=I.list hq;have aD:=r'.length;have tu:=zdL I r' hp hn;obtain⟨h1,h2,h3⟩:=z6r tu;obtain⟨T,t1,t2⟩:=zpr r' hp;have lz:(ah.zip ps).length=ah.length:=by rw[<- _z  ,h1]
 refine zbH z2c []   (λx hx y hy e=>(h3 x hx).one (by rw[e];exact h3 y hy)) (by rw[h1];exact pl.isList) (λA' s' _ k=>zjy (tu.mono k)) (by lia) λZ' pz pw=>?_;rw[h1];obtain⟨T',pt,et⟩:=za5  pz T t1;have pD:T'.map (λt=>t.2.1)=Z'.map Prod.fst:=by rw[<- et,_aG];rfl
 have pE:T'.map (λt=>t.2.2)=Z'.map Prod.snd:=by rw[<- et,_aG];rfl
 obtain⟨b1,b2⟩:=z84  λt ht=>t2 t (pt.mem_iff.mp ht);rw[pD]at b1;rw[pE,<- z5P z2c (show (Z'.map Prod.snd).Perm ps from by have:=pz.map Prod.snd;rwa [h2]at this) pw]at b2;obtain⟨c',e⟩:=sortedAll_at s.heap ah (Z'.map Prod.fst).toArray;refine⟨.ref (s.heap.objs.size+1),_,I.laid  (λb o z=>sortedAll_old z) (Nat.le_succ _) (show uZ X.prog X.w _ (sortedAll s.heap ah (Z'.map Prod.fst).toArray) _ (.lst (T'.map Prod.fst)) from⟨?_,_,c',b1,e⟩),rfl,q _ b2 _ (I.hok.fresh (Nat.le_succ _))⟩;have l1:T'.length=(ah.zip ps).length:=by rw[pt.length_eq,<- _z  ,t1]
 rw[_z,l1,lz];lia
theorem z7w    : ∀{zs:List V}{ps:List (List Int)},Paired (λv ns=>AtN H v ns) zs ps->zU mg H Y (ps.map λns=>.tup (ns.map D.int)) zs
 | _,_,.nil=>zU.nil | _,_,.cons (b:=p) ⟨b,e,h⟩ r=>by exact⟨_,_,rfl,⟨b,_,e,h,vP p⟩,z7w r⟩
noncomputable def z3x(s:Sto)(d:D):Option (List (List Int)):=match listOf s d with
 | some xs=>match z6D xs with
  | some L=>if L.all (λn=>!n.isEmpty)=true then some (z8y lexN L) else none | none=>none
 | none=>none
noncomputable def znB:Mir:=λds s=>match ds with
 | [d]=>match z3x s d with | some L=>.ok (.loc s.length) (s++[L.map λns=>.tup (ns.map D.int)]) | none=>.no
 | _=>.no
noncomputable def z1S:Mir:=λds s=>match ds with
 | [d]=>match z3x s d with | some L=>.ok (.lst (L.map λns=>.tup (ns.map D.int))) s | none=>.no
 | _=>.no
theorem zeZ        (r:Rep (gm X) H Y s)(dn:Den (gm X) H Y d v)(e:z3x s d=some L)(q:∀vs,zU (gm X) H Y (L.map λns=>.tup (ns.map D.int)) vs->∀a,H a=none->Q (.ref a) (upd H a (.lst vs))):zh4 X.K [v] H Q:=by
 unfold z3x at e;split at e
 ·rename_i xs ex;split at e
  ·rename_i L eL;split at e
   ·rename_i hp;cases e;obtain⟨a,ws,rfl,q1,q2⟩:=yg r ex dn;exact⟨a,ws,L,rfl,.inl q1,z8d eL q2,(λn hn z=>by have:=_aF.mp hp n hn;rw[z]at this;cases this),λzs pz=>q zs (z7w pz)⟩
   ·cases e
  ·cases e
 ·cases e
theorem zcI:∃r,vt X (.builtin "sorted") r/\z2a X E r z1S:=⟨_,zbf.freeze,λH Y s ds vs Q r hd h=>by
 unfold z1S at h;split at h
 ·split at h
  ·rename_i L e;obtain⟨v,rfl,dn⟩:=z2R hd;exact zeZ r dn e λvs dv=>z0e r h dv
  ·exact h.elim
 ·exact h.elim⟩
end
end Dd
namespace Dd
open L2
open PySem.W Dt Pm
abbrev NQ:=List Int×List Int
noncomputable def zaF(p q:NQ):Bool:=if p.1=q.1 then lexN p.2 q.2 else lexN p.1 q.1
theorem zfX:uG zaF:=by
 refine⟨λa=>by simp[zaF,vJ],λa b h=>?_,λa b c h1 h2=>?_⟩
 ·unfold zaF;by_cases e:a.1=b.1
  ·rw[_l e,_l e.symm];exact uj λz=>h (Prod.ext e z)
  ·rw[_p e,_p (λz=>e z.symm)];exact uj e
 ·unfold zaF at *;by_cases e1:a.1=b.1
  ·rw[_l e1]at h1;by_cases e2:b.1=c.1
   ·rw[_l e2]at h2;rw[_l (e1.trans e2)];exact z34 h1 h2
   ·rw[_p e2]at h2;rw[_p (λz=>e2 (e1.symm.trans z)),e1];exact h2
  ·rw[_p e1]at h1;by_cases e2:b.1=c.1
   ·rw[_p (λz=>e1 (z.trans e2.symm)),<- e2];exact h1
   ·rw[_p e2]at h2;have h3:=z34 h1 h2;rw[_p (λz=>by rw[z,vJ]at h3;cases h3)];exact h3
section
variable {prog:Program}{w:World}{A:Around}{E:Value->Shared->Prop}{s:Shared}
structure QQ(A:Around)(s:Shared)(a b:Addr)(p q:NQ):Prop where
 is:∃c d c' d' us ws cR dJ,s.heap.IsTuple a #[.ref c,.ref d]/\s.heap.IsTuple b #[.ref c',.ref d']/\s.heap.IsTuple c us/\s.heap.IsTuple c' cR/\s.heap.IsTuple d ws/\s.heap.IsTuple d' dJ/\xc us.toList p.1/\xc cR.toList q.1/\xc ws.toList p.2/\xc dJ.toList q.2/\ SeqAt.EqAt A s (.ref c) (.ref c') (decide (p.1=q.1))/\SeqAt.EqAt A s (.ref d) (.ref d') (decide (p.2=q.2))
theorem zaQ    (hu:A.units+1<cLine)(z:QQ A s a b p q)(h:P (.done (.ret (.bool (zaF p q)))) s):wpAny (model prog w) A (Builtin.«tuple.__lt__» ⟨[.ref a,.ref b],[]⟩) P E s:=by
 obtain⟨c,d,c',d',us,ws,cR,dJ,⟨oa,ga,ca,na,da⟩,⟨ob,gb,cb,nb,db⟩,t1,t2,t3,t4,i1,i2,i3,i4,e1,e2⟩:=z.is;show wpAny _ _ (isInstance (.ref b) (.type "tuple") >>= _) _ _ s;refine _a (_cw ⟨ob,gb,cb⟩ isSubtype_tuple_tuple ?_);refine _a (_b2 ga da (_a (_b2 gb db (_a (_ct _ (λkc r s'=>r.1=none/\s'=s/\(kc=[(Value.ref c,Value.ref c'),(.ref d,.ref d')]\/(kc=[(.ref d,.ref d')]/\p.1=q.1)\/(kc=[]/\p.1=q.1/\p.2=q.2))) _ ?_ ?_ _ _ ⟨rfl,rfl,.inl rfl⟩)))))
 ·rintro⟨u,v⟩ kc r s' ⟨hr,rfl,hz⟩;rcases hz with hz | ⟨hz,e⟩ | ⟨hz,_⟩
  ·obtain⟨⟨rfl,rfl⟩,rfl⟩:=hz;refine _a (e1 _ _ _ _ ?_);by_cases e:p.1=q.1
   ·rw[_al e];simp only[_aP];exact _i ⟨rfl,rfl,.inr (.inl ⟨trivial,e⟩)⟩
   ·rw[_R e];have hf:zaF p q=lexN p.1 q.1:=_p e;rw[hf]at h;refine _a (_ax (_a ((zhH (by lia) t1 t2 i1 i2 ?_))));exact _a (_i (_i (_i h)))
  ·obtain⟨⟨rfl,rfl⟩,rfl⟩:=hz;refine _a (e2 _ _ _ _ ?_);by_cases e2:p.2=q.2
   ·rw[_al e2];simp only[_aP];exact _i ⟨rfl,rfl,.inr (.inr ⟨trivial,e,e2⟩)⟩
   ·rw[_R e2];have hf:zaF p q=lexN p.2 q.2:=_l e;rw[hf]at h;refine _a (_ax (_a ((zhH (by lia) t3 t4 i3 i4 ?_))));exact _a (_i (_i (_i h)))
  ·cases hz
 ·rintro⟨r1,r2⟩ s' ⟨hr,rfl,hz⟩;subst hr;refine _i ?_;rcases hz with hz | ⟨hz,_⟩ | ⟨_,e1,e2⟩;·cases hz
  ·cases hz
  ·have hf:zaF p q=false:=by rw[(Prod.ext e1 e2)];exact zfX.irr q
   rw[hf]at h;exact h
theorem zoF    (hu:A.units+2<cLine)(z:QQ A.in1 s a b p q)(h:Q (.bool (zaF p q)) s):wpAny (model prog w) A (richCompare .Lt (.ref a) (.ref b)) Q E s:=by
 obtain⟨c,d,c',d',us,ws,cR,dJ,⟨oa,ga,ca,_⟩,⟨ob,gb,cb,_⟩,_⟩:=z.is;have ta:s.TypeIs (.ref a) "tuple":=⟨oa,ga,ca⟩;exact wpAny_richCompare_same_room ta ⟨ob,gb,cb⟩ _bj (_at _bj ta _b9 (zaQ (by lia) z ⟨_,rfl,by simp,h⟩) (_b5 _ _)) (by lia)
end
def AtQ(H:Hp)(v:V)(p:NQ):Prop:=∃b c d,v=.ref b/\H b=some (.tup [.ref c,.ref d])/\AtN H (.ref c) p.1/\AtN H (.ref d) p.2
section
variable {X:Cx}{E:XK}
theorem AtQ.tuple  {O:L2.St}   (I:Inv X ac O H s)    (a:AtQ H v p)(r:xr v u):∃b c d us ws,u=.ref b/\AtN H (.ref c) p.1/\AtN H (.ref d) p.2/\s.heap.IsTuple b #[.ref c,.ref d]/\s.heap.IsTuple c us/\s.heap.IsTuple d ws/\xc us.toList p.1/\xc ws.toList p.2:=by
 obtain⟨b,c,d,rfl,e,e1,e2⟩:=a;cases (r);obtain⟨ah,r,pl,hz⟩:=I.tuple (.inl (.inl e));obtain⟨c',us,z1,z2,z3,z4⟩:=e1.tuple I (rfl);obtain⟨d',ws,z5,z6,z7,z8⟩:=e2.tuple I (rfl);cases z1;cases z5;cases r with | cons h1 r=>cases r with | cons h2 r=>
   cases r;cases (h1);cases (h2);exact⟨b,c,d,us,ws,rfl,e1,e2,pl,z3,z7,z4,z8⟩
theorem AtQ.qq  {O:L2.St}    (I:Inv X ac O H s)(kh:∀c o,s.heap.get? c=some o->s3.heap.get? c=some o)(hu:A.units+2<cLine)    (a:AtQ H v p)(r:xr v u)(a':AtQ H v' q)(r':xr v' u'): ∃b b',u=.ref b/\u'=.ref b'/\QQ A s3 b b' p q:=by
 obtain⟨b,c,d,us,ws,rfl,n1,n2,x1,x2,x3,x4,x5⟩:=a.tuple I r;obtain⟨b',c',d',cR,dJ,rfl,lE,pF,pG,pH,pI,pJ,pK⟩:=a'.tuple I r';have up:∀{c:Addr}{ah:Array Value},s.heap.IsTuple c ah->s3.heap.IsTuple c ah:=λ⟨o,g,w⟩=>⟨o,kh _ _ g,w⟩;have I3  := λa o ha=>(I.hok a o ha).stay (λ_ _ _ q=>kh _ _ q) (λ_ q=>q) λ_ _ q=>q;exact⟨b,b',rfl,rfl,⟨c,d,c',d',us,ws,cR,dJ,up x1,up pG,up x2,up pH,up x3,up pI,x4,pJ,x5,pK,AtN.eqAt (gm X) I3 hu n1 rfl lE rfl,AtN.eqAt (gm X) I3 hu n2 rfl pF rfl⟩⟩
end
noncomputable def zfs:D->Option NQ
 | .tup [.tup ds,.tup es]=>match zeO ds,zeO es with | some ns,some ms=>some (ns,ms) | _,_=>none
 | _=>none
noncomputable def kM:List D->Option (List NQ)
 | []=>some [] | d::ds=>match zfs d,kM ds with | some p,some ps=>some (p::ps) | _,_=>none
noncomputable def dQ(p:NQ):D:=.tup [.tup (p.1.map D.int),.tup (p.2.map D.int)]
theorem zjm(p:NQ):zfs (dQ p)=some p:=by simp[zfs,dQ,z5O]
theorem zak:∀L:List NQ,kM (L.map dQ)=some L
 | []=>rfl | p::L=>by simp only[_A,kM,zjm,zak L]
section
variable {mg:Gm}{H:Hp}{Y:List Addr}
theorem z17:∀{ds:List D}{vs:List V}{L:List NQ},kM ds=some L->zU mg H Y ds vs->Paired (λv p=>AtQ H v p) vs L
 | [],_,_,h,dn=>by simp only[kM,_K]at h;subst dn;subst h;exact .nil | d::ds,_,_,h,dn=>by
  obtain⟨v,vs,rfl,h1,h2⟩:=dn;simp only[kM]at h;split at h
  ·rename_i p ps e1 e2;cases h;refine .cons ?_ (z17 e2 h2);unfold zfs at e1;split at e1
   ·rename_i fs es;split at e1
    ·rename_i ns ms en em;cases e1;obtain⟨b,ws,rfl,hb,hd⟩:=h1;obtain⟨v1,r1,rfl,d1,v2,r2,rfl,d2,rfl⟩:=hd;obtain⟨c,rfl,hc⟩:=z6i (show zjJ (.tup fs)=some ns from en) (by exact d1);obtain⟨c',rfl,cA⟩:=z6i (show zjJ (.tup es)=some ms from em) (by exact d2);exact⟨b,c,c',rfl,hb,⟨c,rfl,hc⟩,⟨c',rfl,cA⟩⟩
    ·cases e1
   ·cases e1
  ·cases h
theorem AtQ.den   (a:AtQ H v p):Den mg H Y (dQ p) v:=by
 obtain⟨b,c,d,rfl,e,⟨c',z,hc⟩,⟨d',z',hd⟩⟩:=a;cases z;cases z';exact⟨b,_,rfl,e,zU.cons ⟨c,_,rfl,hc,vP _⟩ (zU.cons ⟨d,_,rfl,hd,vP _⟩ zU.nil)⟩
end
noncomputable def z8i:NQ->List NQ->NQ
 | b,[]=>b | b,x::r=>z8i (if zaF x b then x else b) r
theorem z9R  {L:List NQ}(hb:∀i j,bt i j=zaF (L.getD i ([],[])) (L.getD j ([],[]))):∀k,k<L.length->∀n M,L=n::M->L.getD (argBest bt k) ([],[])=z8i n (M.take k)
 | 0,_,n,M,e=>by subst e;rfl | k+1,hk,n,M,e=>by
  have ih:=z9R hb k (by lia) n M e;have hM:k<M.length:=by subst e;simpa using hk
  have gk:L.getD (k+1) ([],[])=M[k]:=by subst e;simp[hM]
  rw[List.take_add_one,_c hM,Option.toList_some,(show ∀(b:NQ)(A:List NQ)(x:NQ),z8i b (A++[x])=if zaF x (z8i b A) then x else z8i b A from by
   intro b A;induction A generalizing b with
   | nil=>intro x;rfl | cons y A ih=>exact λx=>ih _ x),<- ih];simp only[argBest,hb (k+1) (argBest bt k),gk];split;·exact gk
  ·rfl
section
variable {prog:Program}{w:World}{A:Around}{R:Result->Shared->Prop}{I S:Addr}{fp wr:List Addr}{n:Nat}{P:Nat->Value->Prop}{St:Nat->Heap->Prop}{Kh:Heap->Prop}{bt:Nat->Nat->Bool}{dv:Value}
theorem zbj (W:Walks prog w A.in1 I fp wr n P St) (cmp:∀i j vi vj (s:Shared) (Q:Value->Shared->Prop) (E:Value->Shared->Prop),Kh s.heap->P i vi->P j vj->Q (.bool (bt i j)) s->wpAny (model prog w) A.in1 (richCompare .Lt vi vj) Q E s) (keep:∀h h':Heap,Kh h->(∀b o,b∉wr->b≠S->h.get? b=some o->h'.get? b=some o)->Kh h') (aA:S∉fp) (k:Nat): ∀(j:Nat) (s:Shared) (v:Value) (c:Nat),n=j+1+k->St (j+1) s.heap->Kh s.heap->P (argBest bt j) v->s.heap.get? S=some (seqObj "list" #[v,v] c)-> (∀u h' tk,P (argBest bt (n-1)) u->(∀b o,b∉wr->b≠S->s.heap.get? b=some o->h'.get? b=some o)->R (.ok (.ret u)) {s with heap:=h',toks:=tk})-> codeAny (model prog w) A (.builtin "min.loop" ⟨[.ref I,.none,.ref S],[("default",dv)]⟩) R s:=by
 have ow  := λz=>aA (W.sub _ z);have nm:(toString "min"++toString ".loop":String)="min.loop":=by decide
 induction k with
 | zero=>
  intro j s v c en st kh pv gS fin;refine codeAny_builtin _cl ?_;refine _a (_aJ gS rfl ?_);refine _a (_cm (W.done s _ _ (by rw[en];exact st) λh1 tk k1=>?_));refine _a (wpAny_updateSeq (k1 S _ ow gS) rfl (_a (_bJ (_i ?_))));exact fin v _ tk (by rw[show n-1=j by lia];exact pv) λb o hb hS e=>(_ap _ _ (_a6 hS)).trans (k1 b o hb e) | succ k ih=>
  intro j s v c en st kh pv gS fin;refine codeAny_builtin _cl ?_;rw[Around.under_plainId _bb _];refine _a (_aJ gS rfl ?_);refine _a (_cm (W.item (j+1) s _ _ (by lia) st λu h1 tk pu bC k1=>?_));have fm:=k1 S _ ow gS;show wpAny _ A.in1 (tryCatch (holding [u,u] (richCompare .Lt u v >>= _)) _ >>= _) _ _ _;refine _a (_cm (_aU (_a (cmp (j+1) (argBest bt j) u v _ _ _ (keep _ _ kh λb o hb _ e=>k1 b o hb e) pu pv ?_))));refine _a (_aU (_av (_a (_bJ (_i ?_)))));by_cases q:bt (j+1) (argBest bt j)=true
  ·rw[q];simp only[_G];refine _a (wpAny_updateSeq fm rfl (_a (_bJ ?_)));rw[nm];exact _i ⟨_dd _bb _,ih (j+1) _ u _ (by lia) (W.frame _ _ _ bC λb hb o e=>(_ap _ _ (λz:S=b=>aA (z ▸ hb))).trans e) (keep _ _ kh λb o hb hS e=>(_ap _ _ (_a6 hS)).trans (k1 b o hb e)) (by rw[show argBest bt (j+1)=j+1 by simp[argBest,q]];exact pu) (_bF _ fm rfl) λu' h2 eo p2 k2=>(fin u' h2 eo p2 λb o hb hS e=>k2 b o hb hS ((_ap _ _ (_a6 hS)).trans (k1 b o hb e)))⟩
  ·rw[show bt (j+1) (argBest bt j)=false by simpa using q];simp only[_aP];refine _a (_bJ ?_);rw[nm];refine _i ⟨_dd _bb _,ih (j+1) _ v c (by lia) bC (keep _ _ kh λb o hb _ e=>k1 b o hb e) (by rw[show argBest bt (j+1)=argBest bt j by simp[argBest,q]];exact pv) fm λu' h2 eo p2 k2=>?_⟩;exact fin u' h2 eo p2 λb o hb hS e=>k2 b o hb hS (k1 b o hb e)
end
section
variable {prog:Program}{w:World}{A:Around}{E:Value->Shared->Prop}{s:Shared}
theorem z9q (h:wpAny (model prog w) A.in1 (pyIter x) (λit s2=>∃I fp wr n P St bt,∃Kh:Heap->Prop,it=.ref I/\Walks prog w A.in1 I fp wr n P St/\St 0 s2.heap/\(∀b∈fp,b<s2.heap.objs.size)/\Kh s2.heap/\ (∀i j vi vj (s:Shared) (Q:Value->Shared->Prop) (E:Value->Shared->Prop),Kh s.heap->P i vi->P j vj->Q (.bool (bt i j)) s->wpAny (model prog w) A.in1 (richCompare .Lt vi vj) Q E s)/\ (∀h h':Heap,Kh h->(∀b o,b∉wr->b<s2.heap.objs.size->h.get? b=some o->h'.get? b=some o)->Kh h')/\ (n=0->∀h' tk,(∀b o,b∉wr->s2.heap.get? b=some o->h'.get? b=some o)->Q d {s2 with heap:=h',toks:=tk})/\ ∀v h' tk,0<n->P (argBest bt (n-1)) v->(∀b o,b∉wr->s2.heap.get? b=some o->h'.get? b=some o)->Q v {s2 with heap:=h',toks:=tk}) E s): wpAny (model prog w) A (call (.builtin "min") [x] [("default",d)]) Q E s:=by
 have nm:(toString "min"++toString ".loop")="min.loop":=by decide
 refine zbd PySem.F.kind_min PySem.F.plain_min PySem.F.entry_min (ze4 _ _) ?_;refine _a (_c6 (zdI d) (_a (_i (_a (_F h (λit s2 z=>?_) λ_ _ e=>e)))));obtain⟨I,fp,wr,n,P,St,bt,Kh,rfl,W,st,bd,kh,cmp,keep,f0,fin⟩:=z;refine _a (_bn ?_);have aA  := λz=>_aB _ (bd _ z);have dP:∀h h':Heap,Kh h->(∀b o,b∉wr->b≠s2.heap.objs.size->h.get? b=some o->h'.get? b=some o)->Kh h':=λh h' z k=>keep h h' z λb o hb lt e=>k b o hb (_H lt) e;refine _i ⟨_dd _bb _,codeAny_builtin _cl ?_⟩;have gS:(s2.heap.push (seqObj "list" #[] 0)).get? s2.heap.objs.size=some (seqObj "list" #[] 0):=_x _ rfl;refine _a (_aJ gS rfl ?_);have ag:St 0 (s2.heap.push (seqObj "list" #[] 0)):=W.frame _ _ _ st λb _ o e=>_e _ e;rcases _cY n with rfl | hn
 ·refine _a (_cm (W.done _ _ _ ag λh1 tk k1=>(_a (_ax (_i ?_)))));exact f0 rfl _ _ λb o hb e=>k1 b o hb (_e _ e)
 refine _a (_cm (W.item 0 _ _ _ hn ag λu h1 tk pu bC k1=>?_));have fm:=k1 _ _ (λz=>aA (W.sub _ z)) gS;show wpAny _ A.in1 (updateSeq s2.heap.objs.size (λ_=>#[u,u]) >>= _) _ _ _;refine _a (wpAny_updateSeq fm rfl ?_);have bh:∀b o,b∉wr->b≠s2.heap.objs.size->s2.heap.get? b=some o->(h1.update s2.heap.objs.size (Obj.mapSeq λ_=>#[u,u])).get? b=some o:=λb o hb hS e=> (_ap _ _ (_a6 hS)).trans (k1 b o hb (_e _ e));exact _i ⟨_dd _bb _,zbj W cmp dP aA (n-1) 0 _ u _ (by lia) (W.frame _ _ _ bC λb hb o e=>(_ap _ _ (λz:s2.heap.objs.size=b=>aA (z ▸ hb))).trans e) (dP _ _ kh bh) pu (_bF _ fm rfl) λu' h2 eo p2 k2=>(fin u' h2 eo hn p2 λb o hb e=>k2 b o hb (_H (_u e)) (bh b o hb (_H (_u e)) e))⟩
end
section
variable {X:Cx}{E:XK}{e f:Expr}{x:Str}{p pos kp:Pos}{te tf:TE}
def zoK(te tf:TE):TE:=λO H Q=>te O H λv H1=>tf O H1 λd H2=>∃a xs L,v=.ref a/\SqL X.K H2 a xs/\Paired (λv p=>AtQ H2 v p) xs L/\(L=[]->Q d H2)/\∀n M y,L=n::M->AtQ H2 y (z8i n M)->Q y H2
theorem ziX(hc:X.calm=true)(hu:X.A.units+64<cLine)(he:PE X e te)(hf:PE X f tf)(hg:Gl X x)(hm:X.mg x=none)(hv:bootBuiltins x=some (.builtin "min"))(hn:autoParam (x≠"__name__") aDe)(bq:autoParam ((x==("__debug__":Str))=false) aDe) (h1:autoParam (backTo pos (starEach [e] X.env)=(false,eval e X.env)::backTo pos (starEach [] X.env)) aRf)(h2:autoParam ((backTo pos (starEach [e] X.env)).any (·.1)=false) aRf) (h3:autoParam ((backToKw pos (keywordEach [⟨some "default",f,kp⟩] X.env)).all (·.1.isSome)=true) aRf)(h4:autoParam ((backToKw pos (keywordEach [⟨some "default",f,kp⟩] X.env)).any (·.1.isNone)=false) aRf) (h5:autoParam (∀v:Value,((backToKw pos (keywordEach [⟨some "default",f,kp⟩] X.env)).filterMap (·.1)).zip [v]=[(("default":Str),v)]) aIr): PE X (.Call (.Name x p) [e] [⟨some "default",f,kp⟩] pos) (zoK (X:=X) te tf):=by
 intro ac s O H Q I h;refine _ao (kL I hg hm hv (PyProof.Rows.callWith_kw ?_ h1 h2 h3 h4) hn bq);rw[h1];refine _bx (thn (he ac s O H _ I h) λu s1 ⟨v,H1,I1,r1,q1⟩=>_b8 (kws_cons (thn (hf ac s1 O H1 _ I1 q1) λw s2 ⟨d,H2,I2,r2,a,xs,L,ev,sq,hp,q0,q1⟩=>kws_nil ?_)));subst ev;cases (r1);obtain⟨ah,rv,co⟩:=I2.sq (b:=true) sq;have hl:ah.length=L.length:=by rw[<- z4C hp,rv.length]
 have at_:∀i v,ah.toArray[i]? = some v->∃y,xs[i]? = some y/\xr y v/\AtQ H2 y (L.getD i ([],[])):=λi v e=>by
  have e':ah[i]? = some v:=by simpa using e
  have hi:i<xs.length:=by have:=(_b.mp e').1;have:=rv.length;lia
  obtain⟨w,hw,lF⟩:=rv.get   (_c hi);rw[e']at hw;cases hw;obtain⟨ns,e1,e2⟩:=z4Q hp i _ (_c hi);exact⟨xs[i],_c hi,lF,by rw[List.getD,e1];exact e2⟩
 refine z9q (Zz.z3O (I2.ok.hd hc) co λs3 e3 St W st bd bh=>?_);subst e3;refine⟨_,_,_,_,_,_,λi j=>zaF (L.getD i ([],[])) (L.getD j ([],[])),λh=>∀c o,s2.heap.get? c=some o->h.get? c=some o,rfl,W,st,bd,λc o e=>_e _ e,λi j vi vj s4 Q3 E3 kh pi pj q3=>?_,λh h' kh k c o e=>?_,λz h' tk hk=>?_,λv h' tk hn e hk=>?_⟩
 ·obtain⟨yi,_,ri,ai⟩:=at_ i vi pi;obtain⟨yj,_,rj,aj⟩:=at_ j vj pj;have u1:X.A.in1.units=X.A.units+1:=rfl;have u2:X.A.in1.in1.units=X.A.units+2:=rfl;obtain⟨b,b',e1,e2,z⟩:=AtQ.qq (A:=X.A.in1.in1)  I2 kh (by lia) ai ri aj rj;rw[e1,e2];exact zoF (by lia) z q3
 ·refine k c o (λz=>?_) (by rw[_ay];exact _bp (_u e)) (kh c o e);exact absurd ((show c=s2.heap.objs.size from by simpa using z) ▸ _u e) (_aB _)
 ·exact⟨d,H2,I2.kept  (bh h' hk),r2,q0 (_bv (by rw[_t]at z;lia))⟩
 ·obtain⟨y,_,ry,ay⟩:=at_ _ v e;cases L with
  | nil=>rw[_t,hl]at hn;exact absurd hn (_aB 0) | cons n M=>
   have em:=z9R   (λi j=>rfl) (ah.toArray.size-1) (by simp[hl]) n M rfl;rw[(show M.take (ah.toArray.size-1)=M from by simp[hl])]at em;rw[em]at ay;exact⟨y,H2,I2.kept  (bh h' hk),ry,q1 n M y rfl ay⟩
noncomputable def zjq(fe ff:FE):FE:=fun ρ s=>(fe ρ s).bind λv s1=>(ff ρ s1).bind λd s2=>match v with
 | .lst xs=>match kM xs with
  | some []=>.ok d s2 | some (n::M)=>.ok (dQ (z8i n M)) s2 | none=>.no
 | _=>.no
theorem zkA  (hc:X.calm=true)(hu:X.A.units+64<cLine)(he:RE X E e fe)(hf:RE X E f ff)(hg:Gl X x)(hm:X.mg x=none)(hv:bootBuiltins x=some (.builtin "min"))(hn:autoParam (x≠"__name__") aDe)(bq:autoParam ((x==("__debug__":Str))=false) aDe) (h1:autoParam (backTo pos (starEach [e] X.env)=(false,eval e X.env)::backTo pos (starEach [] X.env)) aRf)(h2:autoParam ((backTo pos (starEach [e] X.env)).any (·.1)=false) aRf) (h3:autoParam ((backToKw pos (keywordEach [⟨some "default",f,kp⟩] X.env)).all (·.1.isSome)=true) aRf)(h4:autoParam ((backToKw pos (keywordEach [⟨some "default",f,kp⟩] X.env)).any (·.1.isNone)=false) aRf) (h5:autoParam (∀v:Value,((backToKw pos (keywordEach [⟨some "default",f,kp⟩] X.env)).filterMap (·.1)).zip [v]=[(("default":Str),v)]) aIr): RE X E (.Call (.Name x p) [e] [⟨some "default",f,kp⟩] pos) (zjq fe ff):= yz (ziX hc hu he hf hg hm hv hn bq h1 h2 h3 h4 h5) λO H Q ⟨Y,ρ,s,r,en,h⟩=>by
  refine yL (k:=fun ρ v s1=>(ff ρ s1).bind λd s2=>match v with
   | .lst xs=>match kM xs with
    | some []=>R.ok d s2 | some (n::M)=>.ok (dQ (z8i n M)) s2 | none=>.no
   | _=>.no) r en h _ λv H1 Y1 s1 vd r1 aG dn stp h1=>(yL (k:=fun ρ d s2=>match vd with
   | .lst xs=>match kM xs with
    | some []=>R.ok d s2 | some (n::M)=>.ok (dQ (z8i n M)) s2 | none=>.no
   | _=>.no) r1 aG h1 _ λw H2 Y2 s2 d r2 bz aI ak h2=>?_);have dv:=dn.mono ak;split at h2
  ·obtain⟨a,o,vs,rfl,q1,dv⟩:=dv;split at h2
   ·rename_i ep;exact⟨a,vs,[],rfl,.inl (.inr ⟨o,q1⟩),z17 ep dv,λ_=>h2.here r2 aI,λn M y z=>by cases z⟩
   ·rename_i n M ep;exact⟨a,vs,n::M,rfl,.inl (.inr ⟨o,q1⟩),z17 ep dv,(λz=>by cases z),λn' M' y z ay=>by cases z;exact h2.here r2 ay.den⟩
   ·exact h2.elim
  ·exact h2.elim
end
end Dd
namespace Pg
open L2 Dd
@[simp] noncomputable def wx:FS:=(uf 2 (eOp z46 (ze xO (za (zd 0) zi)) (eC (.int 2))))
@[simp] noncomputable def vW:FS:=(uf 3 zkX)
@[simp] noncomputable def yk:FS:=(uE (zbi (zd 3) (ze zK (za (zd 4) (za (eSl (zd 0) zW (wD (zd 2))) zi))) 4))
@[simp] noncomputable def wA:FS:=(zeD (zM (ze yp (za (zd 2) (za (z3T (zd 1)) (za (zd 1) zi))))) (yu 4) yk)
@[simp] noncomputable def ww:FS:=(uf 5 (ziV zi))
@[simp] noncomputable def yh:FS:=(zdr 5 (zu (zM (z6z (zd 3) (z3T (ze zK (za (zd 6) (za (eSl (zd 0) (wD (zd 2)) zW) zi)))))) [some 6,none] (yu 1) zV (eOp ug (zd 1) (zd 0))))
@[simp] noncomputable def wu:FS:=(zeD (zM (ze yp (za (eOp z9E (ze xO (za (zd 0) zi)) (zd 2)) (za (z3T (zd 1)) (za (zd 1) zi))))) (yu 6) yh)
@[simp] noncomputable def wC:FS:=(xC (ze z1S (za (zu (zM (zd 5)) [none] (yu 0) (tOf (eOp dGt (ze wJ (za (zd 0) zi)) (eC (.int 0)))) (zd 0)) zi)))
noncomputable def uL:FS:=(yf wx (yf vW (yf wA (yf ww (yf wu wC)))))
noncomputable def zt:Mir:=z9i (Mof ["lot","most","middle","by_sum","first","found","second"] 2 uL)
@[simp] noncomputable def kX:FS:=(uE (ze yN (za (zd 0) zi)))
@[simp] noncomputable def z4h:FS:=fNo
@[simp] noncomputable def kK:FS:=(fIf (tOf (eOp dGt (ze wP (za (zd 0) zi)) (eC (.int 1000)))) z4h wN)
noncomputable def z0c:FS:=(yf kX kK)
noncomputable def wb:Mir:=Mof ["lot"] 1 z0c
@[simp] noncomputable def z0l:FS:=(uE (ze wb (za (zd 0) zi)))
@[simp] noncomputable def z5m:FS:=(uf 1 (eC (.int 1)))
@[simp] noncomputable def z0E:FS:=(uf 2 (ze zt (za (zd 0) (za (zd 1) zi))))
@[simp] noncomputable def ud:FS:=(uf 1 (eOp xG (eC (.int 2)) (zd 1)))
@[simp] noncomputable def ua:FS:=(uf 2 (ze zt (za (zd 0) (za (zd 1) zi))))
@[simp] noncomputable def z0O:FS:=(z53 (z3v (zlm (zd 2))) (yf ud ua))
@[simp] noncomputable def qM:FS:=(uf 3 (ze qI (za (zu (zM (zd 2)) [none] (yu 0) zV (ze wJ (za (zd 0) zi))) zi)))
@[simp] noncomputable def z11:FS:=(xC (zu (zM (zd 2)) [some 3,none] (yu 1) (tOf (eOp dEq (ze wJ (za (zd 1) zi)) (zd 0))) (zd 1)))
noncomputable def z1u:FS:=(yf z0l (yf z5m (yf z0E (yf z0O (yf qM z11)))))
noncomputable def yC:Mir:=Mof ["lot","most","found","least"] 1 z1u
@[simp] noncomputable def wR:FS:=(uE (ze wb (za (zd 0) zi)))
@[simp] noncomputable def wW:FS:=(uE (ze vf (za (zd 1) (za (eC (.int 1)) (za (eC (.int 8)) zi)))))
noncomputable def vc:FS:=(yf wR wW)
noncomputable def zE:Mir:=Mof ["lot","number"] 2 vc
@[simp] noncomputable def qS:FS:=(uf 1 (ze zt (za (zd 0) (za (ze qI (za (zu (zM (ze yC (za (zd 0) zi))) [none] (yu 0) zV (ze wL (za (zd 0) zi))) zi)) zi))))
@[simp] noncomputable def qN:FS:=(uf 2 (ze qI (za (zu (zM (zd 1)) [none] (yu 0) zV (ze wL (za (zd 0) zi))) zi)))
@[simp] noncomputable def z0i:FS:=(xC (zu (zM (zd 1)) [some 2,none] (yu 1) (tOf (eOp dEq (ze wL (za (zd 1) zi)) (zd 0))) (zd 1)))
noncomputable def z1J:FS:=(yf qS (yf qN z0i))
noncomputable def xY:Mir:=Mof ["lot","found","least"] 1 z1J
@[simp] noncomputable def qY:FS:=(xC (ze wJ (za (eOp dIx (ze yC (za (zd 0) zi)) (eC (.int 0))) zi)))
noncomputable def jL:FS:=qY
noncomputable def xD:Mir:=Mof ["lot"] 1 jL
@[simp] noncomputable def z1s:FS:=(uE (ze zE (za (zd 0) (za (zd 1) zi))))
@[simp] noncomputable def z1z:FS:=(xC (zin (ze zt (za (zd 0) (za (zd 1) zi)))))
noncomputable def z2K:FS:=(yf z1s z1z)
noncomputable def qw:Mir:=Mof ["lot","number"] 2 z2K
@[simp] noncomputable def z1v:FS:=(uE (ze zE (za (zd 0) (za (zd 1) zi))))
@[simp] noncomputable def z7a:FS:=(xC (eC (.bl false)))
@[simp] noncomputable def z73:FS:=(fIf (fOr (z3v (tOf (eIs "tuple" (zd 2)))) (tOf (eOp dNe (ze xO (za (zd 2) zi)) (eC (.int 2))))) z7a wN)
@[simp] noncomputable def z7K:FS:=(zhK (zd 2) (qr 3 4))
@[simp] noncomputable def z6O:FS:=(xC (eC (.bl false)))
@[simp] noncomputable def z1t:FS:=(fIf (fOr (z3v (tOf (ze xV (za (zd 0) (za (zd 1) (za (zd 3) zi)))))) (z3v (tOf (ze xV (za (zd 0) (za (zd 1) (za (zd 4) zi))))))) z6O wN)
@[simp] noncomputable def z1p:FS:=(xC (zeE (eOp zgN (zd 3) (zd 4)) (eOp dEq (ze zK (za (zd 3) (za (zd 0) zi))) (ze zK (za (zd 4) (za (zd 0) zi))))))
noncomputable def z2H:FS:=(yf z1v (yf z73 (yf z7K (yf z1t z1p))))
noncomputable def qF:Mir:=Mof ["lot","number","thing","one","other"] 3 z2H
@[simp] noncomputable def jk:FS:=(uE (ze zE (za (zd 0) (za (zd 1) zi))))
@[simp] noncomputable def jI:FS:=(uf 2 (zu (zM (ze zt (za (zd 0) (za (zd 1) zi)))) [none] (yu 0) (tOf (eOp zgN (ze ub (za (zd 0) zi)) (zd 0))) (z5R (za (ze jG (za (ze ub (za (zd 0) zi)) zi)) (za (ze jG (za (zd 0) zi)) zi)))))
@[simp] noncomputable def xW:FS:=(xC (zjq (zd 2) (eC .non)))
noncomputable def jZ:FS:=(yf jk (yf jI xW))
noncomputable def we:Mir:=Mof ["lot","number","clashes"] 2 jZ
@[simp] noncomputable def qZ:FS:=(xC (ze wL (za (eOp dIx (ze xY (za (zd 0) zi)) (eC (.int 0))) zi)))
noncomputable def ju:FS:=qZ
noncomputable def wE:Mir:=Mof ["lot"] 1 ju
end Pg
namespace bH
open L2 Dd Pg
@[simp] noncomputable def wB:FS:=(zm7 2 3 (za (ze Pg.yC (za (zd 0) zi)) (za (ze Pg.xY (za (zd 0) zi)) zi)))
@[simp] noncomputable def wz:FS:=(zm7 4 5 (za (ze Pg.xD (za (zd 0) zi)) (za (ze Pg.wE (za (zd 0) zi)) zi)))
@[simp] noncomputable def jU:FS:=(xC (eC (.bl false)))
@[simp] noncomputable def xb:FS:=(fIf (fOr (tOf (eOp z86 (ze Pg.wf (za (zd 0) (za (zd 6) zi))) (eC (.bl true)))) (tOf (z12 dEq dEq (ze wP (za (zd 6) zi)) (ze qI (za (zd 6) zi)) (eC (.int 0))))) jU wN)
@[simp] noncomputable def jT:FS:=(xC (eC (.bl false)))
@[simp] noncomputable def yD:FS:=(fIf (fOr (tOf (eOp dLt (ze wP (za (zu (zM (zd 6)) [none] (yu 0) zV (ze z6u (za (zd 0) zi))) zi)) (zd 4))) (tOf (eOp dLt (ze zcs (za (zu (zM (zd 6)) [none] (yu 0) zV (ze z6u (za (zd 0) zi))) zi)) (zd 5)))) jT wN)
@[simp] noncomputable def wy:FS:=(zeD (zM (eOp ug (zd 2) (zd 3))) (yu 6) (yf xb yD))
@[simp] noncomputable def wv:FS:=(uf 7 (zu (zM (zd 2)) [none] (yu 0) zV (ze yr (za (zu (zM (zd 0)) [none] (yu 0) zV (eOp z9E (eC (.int 0)) (zd 0))) zi))))
@[simp] noncomputable def jJ:FS:=(xC (eC (.bl false)))
@[simp] noncomputable def wq:FS:=(fIf (fOr (tOf (eOp dNe (ze z1S (za (zd 7) zi)) (zd 2))) (fOr (tOf (eOp dEq (eOp zaf (ze xO (za (zd 3) zi)) (eC (.int 2))) (eC (.int 1)))) (z3v (tOf (z12 dLe dLe (zd 4) (zd 5) (eOp xG (zd 4) (ze xO (za (zd 0) zi)))))))) jJ wN)
@[simp] noncomputable def jl:FS:=(xC (eC (.bl false)))
@[simp] noncomputable def yQ:FS:=(fIf (fOr (tOf (eOp dLt (ze wP (za (zu (zM (zd 6)) [none] (yu 0) zV (ze z6u (za (zd 0) zi))) zi)) (zd 4))) (tOf (eOp dLt (ze zcs (za (zu (zM (zd 6)) [none] (yu 0) zV (ze z6u (za (zd 0) zi))) zi)) (zd 5)))) jl wN)
@[simp] noncomputable def vN:FS:=(zeD (zM (ze Pg.M_base (za (zd 1) (za (zd 0) zi)))) (yu 6) yQ)
@[simp] noncomputable def jg:FS:=(xC (eC (.bl true)))
noncomputable def uH:FS:=(yf wB (yf wz (yf wy (yf wv (yf wq (yf vN jg))))))
noncomputable def yS:Mir:=Mof ["_law_lot","_law_rule","_law_light","_law_short","_law_weight","_law_length","_law_one","_law_turned"] 2 uH
@[simp] noncomputable def z2x:FS:=(uf 2 (ze Pg.ql (za (ze Pg.wF (za (zd 0) (za (zd 1) zi))) zi)))
@[simp] noncomputable def z3M:FS:=(uf 3 (ze Pg.wK (za (zd 2) (za (eOp ug (eC (.int 2)) (ze Pg.zR (za (zd 2) (za (eC (.int 3)) zi)))) zi))))
@[simp] noncomputable def zid:FS:=(xC (eC (.bl false)))
@[simp] noncomputable def z60:FS:=(fIf (z3v (tOf (ze yS (za (zd 3) (za (eOp dIx (ze Pg.xo zi) (ze Pg.zR (za (zd 2) (za (eC (.int 4)) zi)))) zi))))) zid wN)
@[simp] noncomputable def z39:FS:=(uf 4 (eOp ug (eC (.int 1)) (ze Pg.zR (za (zd 2) (za (eC (.int 8)) zi)))))
@[simp] noncomputable def z1i:FS:=(uf 5 (ze Pg.we (za (zd 3) (za (zd 4) zi))))
@[simp] noncomputable def zix:FS:=(xC (eC (.bl false)))
@[simp] noncomputable def z1f:FS:=(fIf (fOr (tOf (eOp dNe (eOp dIs (zd 5) (eC .non)) (eOp dGt (ze Pg.xD (za (zd 3) zi)) (zd 4)))) (tOf (eOp dNe (ze Pg.qw (za (zd 3) (za (zd 4) zi))) (eOp dIs (zd 5) (eC .non))))) zix wN)
@[simp] noncomputable def z5Q:FS:=(uf 6 (ze yr (za (zu (zgi (za (eOp dIx (zd 5) (eC (.int 0))) (za (eOp dIx (zd 5) (eC (.int 1))) zi))) [none,none] (qr 0 1) zV (eOp z9E (zd 1) (zd 0))) zi)))
@[simp] noncomputable def zgt:FS:=(xC (eC (.bl false)))
@[simp] noncomputable def z61:FS:=(fIf (fOr (tOf (eOp z86 (ze Pg.qF (za (zd 3) (za (zd 4) (za (zd 5) zi)))) (eC (.bl true)))) (tOf (eOp z86 (ze Pg.wf (za (zd 3) (za (zd 6) zi))) (eC (.bl true))))) zgt wN)
@[simp] noncomputable def jP:FS:=(fIf (tOf (eOp z86 (zd 5) (eC .non))) (yf z5Q z61) wN)
@[simp] noncomputable def z0S:FS:=(uf 7 (eOp ug (eC (.int 1)) (ze Pg.zR (za (zd 2) (za (eOp z46 (eC (.int 1000)) (ze wP (za (zd 3) zi))) zi)))))
@[simp] noncomputable def zgw:FS:=(xC (eC (.bl false)))
@[simp] noncomputable def z0V:FS:=(fIf (tOf (eOp dNe (ze Pg.yC (za (ze yr (za (zu (zM (zd 3)) [some 7,none] (yu 1) zV (eOp xG (zd 0) (zd 1))) zi)) zi)) (ze Pg.yC (za (zd 3) zi)))) zgw wN)
@[simp] noncomputable def z8P:FS:=(zeD (z8w (za (ze z7C (za (eC (.int 1)) (za (ze zgs (za (ze xO (za (zd 0) zi)) (za (eC (.int 3)) zi))) zi))) zi)) (yu 1) (yf z2x (yf z3M (yf z60 (yf z39 (yf z1i (yf z1f (yf jP (yf z0S z0V)))))))))
@[simp] noncomputable def zfH:FS:=(xC (eC (.bl true)))
noncomputable def zgJ:FS:=(yf z8P zfH)
noncomputable def zja:Mir:=Mof ["_law_script","_law_at","_law_pot_here","_law_lot","_law_number","_law_clash","_law_less","_law_many"] 1 zgJ
end bH
set_option maxHeartbeats 6000000
namespace bH
open L2 Dd Pg
class Txt (P:Program)(w:World)(K:W.Frag)(mg:Str->Option Value):Prop where
 f0:∃t,mg "LEAST_SIZE"=some (.int 2 t)
 f1:∃t,mg "MOST_NUMBER"=some (.int 1000 t)
 f2:∃t,mg "MOST_OFTEN"=some (.int 8 t)
 f3:∃t,mg "MOST_SIZE"=some (.int 4 t)
 f4:mg "abs"=none
 f5:mg "all"=none
 f6:mg "bool"=none
 f7:mg "enumerate"=none
 f8:mg "int"=none
 f9:mg "isinstance"=none
 f10:mg "len"=none
 f11:mg "list"=none
 f12:mg "max"=none
 f13:mg "min"=none
 f14:mg "range"=none
 f15:mg "sorted"=none
 f16:mg "str"=none
 f17:mg "sum"=none
 f18:mg "tuple"=none
 f19:mg "zip"=none
 q:∀(i:Nat){x:Str}{st:Stmt},askQ.fs[i]? = some (x,st)->Fq K mg x st
 T_RULES:zl1 P w K mg "RULES" z0L
theorem z4v:bootBuiltins "abs"=some (.builtin "abs"):=by decide +kernel
theorem zgG:bootBuiltins "all"=some (.builtin "all"):=by decide +kernel
theorem zjc:bootBuiltins "bool"=some (.type "bool"):=by decide +kernel
theorem zlB:bootBuiltins "int"=some (.type "int"):=by decide +kernel
theorem xT:bootBuiltins "len"=some (.builtin "len"):=by decide +kernel
theorem qj:bootBuiltins "max"=some (.builtin "max"):=by decide +kernel
theorem z0J:bootBuiltins "min"=some (.builtin "min"):=by decide +kernel
theorem z6C:bootBuiltins "sorted"=some (.builtin "sorted"):=by decide +kernel
theorem zld:bootBuiltins "str"=some (.type "str"):=by decide +kernel
theorem z79:bootBuiltins "sum"=some (.builtin "sum"):=by decide +kernel
theorem yA:bootBuiltins "tuple"=some (.type "tuple"):=by decide +kernel
theorem zq5:(["_law_one","_law_other"]:List Str).Nodup:=by decide +kernel
theorem zpB:(["_law_many","_law_one"]:List Str).Nodup:=by decide +kernel
theorem zk5:(["number"]:List Str).Nodup:=by decide +kernel
theorem zmm:(["line"]:List Str).Nodup:=by decide +kernel
theorem zp6:(["least","line"]:List Str).Nodup:=by decide +kernel
theorem zpG:(["part"]:List Str).Nodup:=by decide +kernel
theorem zpT:(["second","first"]:List Str).Nodup:=by decide +kernel
theorem zpe:(["least","most","ahead","number"]:List Str).Nodup:=by decide +kernel
theorem zq1:(["one","other"]:List Str).Nodup:=by decide +kernel
theorem zq0:(["_law_pot_here","_law_far","_law_place"]:List Str).Nodup:=by decide +kernel
theorem zc6:(["_law_number"]:List Str).Nodup:=by decide +kernel
theorem zp0:(["_law_one"]:List Str).Nodup:=by decide +kernel
theorem zoo:(["lot","line"]:List Str).Nodup:=by decide +kernel
theorem zmJ:(["one","column"]:List Str).Nodup:=by decide +kernel
theorem zno:(["numbers","line"]:List Str).Nodup:=by decide +kernel
theorem zp1:(["table","at"]:List Str).Nodup:=by decide +kernel
theorem zov:(["at","line"]:List Str).Nodup:=by decide +kernel
theorem zol:(["thing","line"]:List Str).Nodup:=by decide +kernel
theorem znn:(["places","line"]:List Str).Nodup:=by decide +kernel
theorem zom:(["line","column"]:List Str).Nodup:=by decide +kernel
theorem zoV:(["rule","ahead"]:List Str).Nodup:=by decide +kernel
theorem znr:(["lot","by","number","quotient"]:List Str).Nodup:=by decide +kernel
theorem zmK:(["divided","lot","by","at"]:List Str).Nodup:=by decide +kernel
theorem zoS:(["place","at"]:List Str).Nodup:=by decide +kernel
theorem zoj:(["rule","by","line","quotient"]:List Str).Nodup:=by decide +kernel
theorem znP:(["places","own","table","line"]:List Str).Nodup:=by decide +kernel
theorem znD:(["own","line","table","column"]:List Str).Nodup:=by decide +kernel
theorem zoP:(["at_column","line"]:List Str).Nodup:=by decide +kernel
theorem zmF:(["lines","column","number"]:List Str).Nodup:=by decide +kernel
section
local macro_rules | `(tactic| trivial)=>`(tactic| exact⟨rfl,rfl,rfl,by decide +kernel,rfl,by decide +kernel,by decide +kernel⟩)
theorem z98:zm ["thing"] ["thing"] (zg z3z):=by trivial
theorem z9j:zm ["thing"] ["thing"] (zg z31):=by trivial
theorem wd:zm ["size","least","most","found","place"] ["size","least","most"] (zg qh):=by trivial
theorem z8M:zm ["line","numbers"] ["line","numbers"] (zg z2u):=by trivial
theorem kI:zm ["size","places"] ["size"] (zg kQ):=by trivial
theorem z5C:zm ["table"] ["table"] (zg z0x):=by trivial
theorem z4R:zm ["lines","at_line","at_column","kept"] ["lines","at_line","at_column"] (zg z56):=by trivial
theorem zaW:zm ["line","column"] ["line","column"] (zg z54):=by trivial
theorem zdq:zm ["line"] ["line"] (zg z7k):=by trivial
theorem zdV:zm ["line"] ["line"] (zg z7W):=by trivial
theorem zcO:zm ["line"] ["line"] (zg z6P):=by trivial
theorem zfw:zm ["line"] ["line"] (zg zaM):=by trivial
theorem vA:zm ["lot","at"] ["lot"] (zg vz):=by trivial
theorem z3W:zm ["lot"] ["lot"] (zg kH):=by trivial
theorem zbe:zm ["lot","place"] ["lot","place"] (zg z5c):=by trivial
theorem zaT:zm ["thing"] ["thing"] (zg z4H):=by trivial
theorem zfa:zm ["rule","numbers"] ["rule","numbers"] (zg zan):=by trivial
theorem z2Y:zm ["_law_script","_law_k"] ["_law_script","_law_k"] (zg jm):=by trivial
theorem vF:zm ["_law_cell","_law_number","_law_j","_law_more"] ["_law_cell"] (zg z3Q):=by trivial
theorem z1B:zm ["_law_pot_here","_law_far","_law_found"] ["_law_pot_here","_law_far"] (zg z23):=by trivial
theorem z5W:zm [] [] (zg z0f):=by trivial
theorem z5L:zm ["thing","many"] ["thing","many"] (zg z0b):=by trivial
theorem z45:zm ["thing","least","most"] ["thing","least","most"] (zg ky):=by trivial
theorem z4g:zm ["lines","numbers"] ["lines","numbers"] (zg kD):=by trivial
theorem z8a:zm ["lines"] ["lines"] (zg z1G):=by trivial
theorem yb:zm ["lot","most","middle","by_sum","first","found","second"] ["lot","most"] (zg uN):=by trivial
theorem z4I:zm ["lot","greatest","others"] ["lot"] (zg z4T):=by trivial
theorem z3m:zm ["lot","greatest","others"] ["lot"] (zg z2y):=by trivial
theorem z76:zm ["lot","by"] ["lot"] (zg z6Z):=by trivial
theorem zbx:zm ["lot"] ["lot"] (zg z5b):=by trivial
theorem z7D:zm ["thing"] ["thing"] (zg z1E):=by trivial
theorem xj:zm ["_law_pot_here","_law_size","_law_far","_law_found","_law_at","_law_to","_law_way"] ["_law_pot_here","_law_size"] (zg qt):=by trivial
theorem zcn:zm ["thing"] ["thing"] (zg z85):=by trivial
theorem z8U:zm ["thing"] ["thing"] (zg z2S):=by trivial
theorem z7d:zm ["lot","number","thing"] ["lot","number","thing"] (zg z22):=by trivial
theorem z05:zm ["rule","lot","deal","by","divided"] ["rule","lot"] (zg z3p):=by trivial
theorem zb7:zm ["lot","thing","number"] ["lot","thing","number"] (zg z4K):=by trivial
theorem z8v:zm ["thing"] ["thing"] (zg z2w):=by trivial
theorem z6b:zm ["thing"] ["thing"] (zg z0G):=by trivial
theorem z7F:zm ["lot"] ["lot"] (zg z1y):=by trivial
theorem z6c:zm ["one","other"] ["one","other"] (zg z0r):=by trivial
theorem z6d:zm ["table"] ["table"] (zg z15):=by trivial
theorem z65:zm ["lot"] ["lot"] (zg z0n):=by trivial
theorem jV:zm ["rule","lot"] ["rule","lot"] (zg vX):=by trivial
theorem z4f:zm ["lot","thing"] ["lot","thing"] (zg kP):=by trivial
theorem qa:zm ["table","own","places"] ["table"] (zg kB):=by trivial
theorem wO:zm ["size","tables","products","table"] ["size","tables"] (zg uD):=by trivial
theorem qL:zm ["lot","number"] ["lot","number"] (zg vp):=by trivial
theorem wS:zm ["lot","most","found","least"] ["lot"] (zg z1K):=by trivial
theorem z7Q:zm ["rule","lot"] ["rule","lot"] (zg z21):=by trivial
theorem jD:zm ["lot","found","least"] ["lot"] (zg z1q):=by trivial
theorem z2I:zm ["lot"] ["lot"] (zg jx):=by trivial
theorem z8R:zm ["lot","number"] ["lot","number"] (zg z3G):=by trivial
theorem z2E:zm ["lot","number","thing","one","other"] ["lot","number","thing"] (zg z2C):=by trivial
theorem kG:zm ["lot","number","clashes"] ["lot","number"] (zg kS):=by trivial
theorem z8H:zm ["rule","lot","by","quotients","left"] ["rule","lot"] (zg zct):=by trivial
theorem z0w:zm ["rule","lot","by","quotients"] ["rule","lot"] (zg z0H):=by trivial
theorem z2W:zm ["lot"] ["lot"] (zg jK):=by trivial
theorem zgK:zm ["rule","lot","lots"] ["rule","lot"] (zg zhg):=by trivial
theorem z6F:zm ["rule","lot"] ["rule","lot"] (zg z1D):=by trivial
theorem kU:zm ["rule","lot","tables"] ["rule","lot"] (zg kz):=by trivial
theorem z4c:zm ["rule","lot"] ["rule","lot"] (zg ke):=by trivial
theorem z5X:zm ["rule","lot"] ["rule","lot"] (zg z14):=by trivial
theorem zj9:zm ["rule","lot"] ["rule","lot"] (zg zcE):=by trivial
theorem yq:zm ["_law_lot","_law_rule","_law_light","_law_short","_law_weight","_law_length","_law_one","_law_turned"] ["_law_lot","_law_rule"] (zg uM):=by trivial
theorem z1N:zm ["_law_script","_law_at","_law_pot_here","_law_lot","_law_number","_law_clash","_law_less","_law_many"] ["_law_script"] (zg z4s):=by trivial
end
section
variable {P:Program}{w:World}{K:W.Frag}{mg:Str->Option Value}{base:Heap}[T:Txt P w K mg]
local macro_rules | `(tactic| trivial)=>`(tactic| first | exact (λ_ _ _ _ _ _ us hl=>match us,hl with | [],_=>rfl) | exact (λ_ _ _ _ _ _ us hl=>match us,hl with | [_],_=>rfl) | exact (λ_ _ _ _ _ _ us hl=>match us,hl with | [_,_],_=>rfl) | exact (λ_ _ _ _ _ _ us hl=>match us,hl with | [_,_,_],_=>rfl))
instance zhq:Hs P w K mg base CX0 "is_whole" 1 Pg.qE:= zZ (T.q 0 rfl) z98 (λhr _=> (zj (zQ (z7M (zk0 (by decide) zlB (by rfl) T.f9 (by rfl) T.f8 (zc 0)) (z8Z (zns (zk0 (by decide) zjc (by rfl) T.f9 (by rfl) T.f6 (zc 0)))))))) (by trivial)
instance zhe:Hs P w K mg base CX0 "has_size" 1 Pg.vB:= zZ (T.q 1 rfl) z9j (λhr _=> (zj (zQ (z7M (zk0 (by decide) yA (by rfl) T.f9 (by rfl) T.f18 (zc 0)) (z8Z (ziT zhO zhO (zmz (by rfl) T.f0) (zA uu (by rfl) T.f10 xT (aN (zc 0) zf) (he:=(zp ..))) (zmz (by rfl) T.f3))))))) (by trivial)
instance z9V:Hs P w K mg base CX0 "tuples_between" 1 Pg.yp:= zZ (T.q 2 rfl) wd (λhr hc=> (zh (xX 3 wd.nd (zb0 (aT (z27 zf) zf))) (zh (z7B _aL hc (z01 (by rfl) T.f14 (aN (zc 0) zf)) (z20 4 wd.nd) (zj (zjh 3 ["least","most","ahead","number"] [some 1,some 2,none,none] 2 3 wd.nd hc (xz (zc 3)) (λ_ _ _=>zL (i:=2) zpe (by rfl) (by first | exact Or.inl rfl | exact Or.inr rfl)) (λ_ _ _=>zL (i:=3) zpe (by rfl) (by first | exact Or.inl rfl | exact Or.inr rfl)) (λ_ _ _=>(zfz (by rfl) T.f14 (aN (zc 0) (aB (ym vQ (zc 1) zI) zf)))) (λ_ _ _=>(ym vQ (zc 2) (z27 (aN (zc 3) zf))))))) (zj (zQ (zc 3)))))) (by trivial)
instance zhB:Hs P w K mg base CX0 "together" 1 Pg.zK:= zZ (T.q 3 rfl) z8M (λhr hc=> (zj (zQ (zA (zdW (by exact hc)) (by rfl) T.f17 z79 (aO (zO ["one","other"] [none,none] (by exact hc) (zeY (by rfl) T.f19 (aN (zc 0) (aN (zc 1) zf))) (λ_ _ _=>z0I 0 1 (by exact hc) zq1) (z0a 0 1 (by decide) (by rfl) (by rfl)) (λ_ _ _=>zT) (λ_ _ _=>(ym uU (zc 0) (zc 1)))) zf) (he:=(zG ..)))))) (by trivial)
instance ze1:Hs P w K mg base CX0 "like_places" 1 Pg.xA:= zZ (T.q 4 rfl) kI (λhr hc=> have hu:=hr.units;(zh (xX 1 kI.nd (z3t (by exact hc) (by rfl) T.f11 (by rfl) T.f14 (aN (zc 0) zf))) (zj (zQ (xQ wc (by rfl) T.f18 yA (aO (zO ["places","line"] [some 1,none] (by exact hc) (xz (zc 1)) (λ_ _ _=>zL (i:=1) znn (by rfl) (by first | exact Or.inl rfl | exact Or.inr rfl)) (zJ 1 (by rfl)) (λ_ _ _=>zT) (λ_ _ _=>(xQ wc (by rfl) T.f18 yA (aO (zO ["line","column"] [some 1,none] (by exact hc) (xz (zc 0)) (λ_ _ _=>zL (i:=1) zom (by rfl) (by first | exact Or.inl rfl | exact Or.inr rfl)) (zJ 1 (by rfl)) (λ_ _ _=>zT) (λ_ _ _=>(zmr (yo (z70 hu) (zc 0) (zc 1)) zI zI))) zf) (he:=(zG ..))))) zf) (he:=(zG ..))))))) (by trivial)
instance zeL:Hs P w K mg base CX0 "columns_of" 1 Pg.yF:= zZ (T.q 5 rfl) z5C (λhr hc=> (zj (zQ (xQ wc (by rfl) T.f18 yA (aO (zO ["table","at"] [some 0,none] (by exact hc) (z01 (by rfl) T.f14 (aQ (zA uu (by rfl) T.f10 xT (aN (zc 0) zf) (he:=(zp ..))) zf)) (λ_ _ _=>zL (i:=1) zp1 (by rfl) (by first | exact Or.inl rfl | exact Or.inr rfl)) (zJ 1 (by rfl)) (λ_ _ _=>zT) (λ_ _ _=>(xQ wc (by rfl) T.f18 yA (aO (zO ["at","line"] [some 1,none] (by exact hc) (xz (zc 0)) (λ_ _ _=>zL (i:=1) zov (by rfl) (by first | exact Or.inl rfl | exact Or.inr rfl)) (zJ 1 (by rfl)) (λ_ _ _=>zT) (λ_ _ _=>(z3S (zc 1) (zc 0)))) zf) (he:=(zG ..))))) zf) (he:=(zG ..)))))) (by trivial)
instance zi1:Hs P w K mg base CX0 "without" 1 Pg.xB:= zZ (T.q 6 rfl) z4R (λhr hc=> (zh (xX 3 z4R.nd (ym vQ (vG (zc 0) qo (qA (zc 1))) (vG (zc 0) (qA (ym vQ (zc 1) zI)) qo))) (zj (zQ (xQ wc (by rfl) T.f18 yA (aO (zO ["at_column","line"] [some 2,none] (by exact hc) (xz (zc 3)) (λ_ _ _=>zL (i:=1) zoP (by rfl) (by first | exact Or.inl rfl | exact Or.inr rfl)) (zJ 1 (by rfl)) (λ_ _ _=>zT) (λ_ _ _=>(ym vQ (vG (zc 1) qo (qA (zc 0))) (vG (zc 1) (qA (ym vQ (zc 0) zI)) qo)))) zf) (he:=(zG ..))))))) (by trivial)
instance zj1:Hs P w K mg base CX0 "sign_at" 1 Pg.xU:= zZ (T.q 7 rfl) zaW (λhr _=> have hu:=hr.units;(zj (zQ (zmr (yo (z70 hu) (ym zbc (ym vQ (zc 0) (zc 1)) zI) zI) zI (z33 zI))))) (by trivial)
instance zk8:Hs P w K mg base CX0 "weight" 1 Pg.wJ:= zZ (T.q 8 rfl) zdq (λhr hc=> (zj (zQ (zA (jo (by exact hc)) (by rfl) T.f12 qj (aO (zO ["number"] [none] (by exact hc) (xz (zc 0)) (λ_ _ _=>zL (i:=0) zk5 (by rfl) (by first | exact Or.inl rfl | exact Or.inr rfl)) (zJ 0 (by rfl)) (λ_ _ _=>zT) (λ_ _ _=>(zA zbL (by rfl) T.f4 z4v (aN (zc 0) zf) (he:=(zp ..))))) zf) (he:=(zG ..)))))) (by trivial)
instance zjZ:Hs P w K mg base CX0 "length" 1 Pg.wL:= zZ (T.q 9 rfl) zdV (λhr hc=> (zj (zQ (zA (zdW (by exact hc)) (by rfl) T.f17 z79 (aO (zO ["number"] [none] (by exact hc) (xz (zc 0)) (λ_ _ _=>zL (i:=0) zk5 (by rfl) (by first | exact Or.inl rfl | exact Or.inr rfl)) (zJ 0 (by rfl)) (λ_ _ _=>zT) (λ_ _ _=>(zA zbL (by rfl) T.f4 z4v (aN (zc 0) zf) (he:=(zp ..))))) zf) (he:=(zG ..)))))) (by trivial)
instance zk4:Hs P w K mg base CX0 "turned" 1 Pg.ub:= zZ (T.q 10 rfl) zcO (λhr hc=> (zj (zQ (xQ wc (by rfl) T.f18 yA (aO (zO ["number"] [none] (by exact hc) (xz (zc 0)) (λ_ _ _=>zL (i:=0) zk5 (by rfl) (by first | exact Or.inl rfl | exact Or.inr rfl)) (zJ 0 (by rfl)) (λ_ _ _=>zT) (λ_ _ _=>(z33 (zc 0)))) zf) (he:=(zG ..)))))) (by trivial)
instance zko:Hs P w K mg base CX0 "above" 1 Pg.jG:= zZ (T.q 11 rfl) zfw (λhr hc=> (zj (zQ (xQ wc (by rfl) T.f18 yA (aO (zO ["number"] [none] (by exact hc) (xz (zc 0)) (λ_ _ _=>zL (i:=0) zk5 (by rfl) (by first | exact Or.inl rfl | exact Or.inr rfl)) (zJ 0 (by rfl)) (λ_ _ _=>zT) (λ_ _ _=>(zA (zhI (by exact hc)) (by rfl) T.f12 qj (aN (zc 0) (aK zI zf)) (he:=(zp ..))))) zf) (he:=(zG ..)))))) (by trivial)
instance z5Z:Hs P w K mg base CX0 "greatest_and_others" 1 Pg.zN:= zZ (T.q 12 rfl) vA (λhr hc=> (zh (xX 1 vA.nd (z9d (zc 0) (zA (jo (by exact hc)) (by rfl) T.f12 qj (aN (zc 0) zf) (he:=(zp ..))))) (zj (zQ (z27 (aN (zc 1) (aB (ym vQ (ym vQ (vG (zc 0) qo (qA (zc 1))) (z27 (aK zI zf))) (vG (zc 0) (qA (ym vQ (zc 1) zI)) qo)) zf))))))) (by trivial)
instance zee:Hs P w K mg base CX0 "least_place" 1 Pg.yU:= zZ (T.q 13 rfl) z3W (λhr hc=> have hu:=hr.units;(zj (zQ (z9d (zc 0) (zA (z2L (by exact hc)) (by rfl) T.f13 z0J (aO (zO ["number"] [none] (by exact hc) (xz (zc 0)) (λ_ _ _=>zL (i:=0) zk5 (by rfl) (by first | exact Or.inl rfl | exact Or.inr rfl)) (zJ 0 (by rfl)) (λ_ _ _=>jf (yo (zbQ hu) (zc 0) zI)) (λ_ _ _=>(zc 0))) zf) (he:=(zG ..))))))) (by trivial)
instance zjV:Hs P w K mg base CX0 "all_but" 1 Pg.vS:= zZ (T.q 14 rfl) zbe (λhr hc=> have hu:=hr.units;(zj (zQ (zO ["place","at"] [some 1,none] (by exact hc) (z01 (by rfl) T.f14 (aQ (zA uu (by rfl) T.f10 xT (aN (zc 0) zf) (he:=(zp ..))) zf)) (λ_ _ _=>zL (i:=1) zoS (by rfl) (by first | exact Or.inl rfl | exact Or.inr rfl)) (zJ 1 (by rfl)) (λ_ _ _=>jf (yo (zbQ hu) (zc 1) (zc 0))) (λ_ _ _=>(zc 1)))))) (by trivial)
instance zj7:Hs P w K mg base CX0 "is_rule" 1 Pg.z0q:= zZ (T.q 15 rfl) zaT (λhr _=> (zj (zQ (z7M (zk0 (by decide) zld (by rfl) T.f9 (by rfl) T.f16 (zc 0)) (z8Z (zjg T.T_RULES (by rfl) (zc 0))))))) (by trivial)
instance zle:Hs P w K mg base CX0 "moved" 1 Pg.qH:= zZ (T.q 16 rfl) zfa (λhr _=> have hu:=hr.units;(zj (zQ (zmr (yo (z70 hu) (zc 0) zec) (ym vQ (vG (zc 1) (qA zI) qo) (vG (zc 1) qo (qA zI))) (zc 1))))) (by trivial)
instance zbV:Hs P w K mg base CX0 "_law_cell_at" 1 Pg.wF:= zZ (T.q 17 rfl) z2Y (λhr _=> (zh (z09 (yo zm5 (zc 1) (zA uu (by rfl) T.f10 xT (aN (zc 0) zf) (he:=(zp ..)))) (zj (zQ (z3S (zc 0) (zc 1)))) yR) (zj (zQ zI)))) (by trivial)
instance zhu:Hs P w K mg base CX0 "_law_pot" 1 Pg.ql:= zZ (T.q 18 rfl) vF (λhr hc=> (zh (z09 (yo zow (zc 0) (ym zln zI zI)) (zj (zQ (ze2 (aB (ym zbk (zc 0) (ym zln zI zI)) zf)))) yR) (zh (xX 1 vF.nd zI) (zh (z7B _aL hc (z01 (by rfl) T.f14 (aK zI zf)) (z20 2 vF.nd) (zh (xX 3 vF.nd (ym zbc (ym uU (ym vQ (ym vQ (ym zbc (zc 0) zI) (ym uU zI (zc 2))) zI) zI) zI)) (zh (xX 3 vF.nd (ym zbc (ym vQ (ym vQ (ym uU (zc 3) (zc 3)) (ym uU zI (zc 2))) zI) zI)) (zj (xX 1 vF.nd (ym vQ (ym uU (zc 1) zI) (zc 3))))))) (zj (zQ (ze2 (aN (zc 1) zf)))))))) (by trivial)
instance zeV:Hs P w K mg base CX0 "_law_take" 1 Pg.zR:= zZ (T.q 19 rfl) z1B (λhr _=> (zh (xX 2 z1B.nd (ym zbc (z3S (zc 0) zI) (zc 1))) (zh (zah (ym zal (z3S (zc 0) zI) (zc 1)) (zc 0) zI) (zj (zQ (zc 2)))))) (by trivial)
instance zeA:Hs P w K mg base CX0 "_law_rules" 1 Pg.xo:= zZ (T.q 20 rfl) z5W (λhr _=> (zj (zQ (zb0 (aK zec (aK zec (aK zec (aK zec zf)))))))) (by trivial)
instance zeF:Hs P w K mg base CX0 "are_wholes" 2 Pg.yw:= zZ (T.q 21 rfl) z5L (λhr hc=> have hu:=hr.units;(zh (z09 (RW.rt (zbU (jW (z0y (zk0 (by decide) yA (by rfl) T.f9 (by rfl) T.f18 (zc 0)))) (z3b (yo (zbQ hu) (zA uu (by rfl) T.f10 xT (aN (zc 0) zf) (he:=(zp ..))) (zc 1))))) (zj (zQ z6y)) yR) (zj (zQ (zA (zlh (by exact hc)) (by rfl) T.f5 zgG (aO (zO ["part"] [none] (by exact hc) (xz (zc 0)) (λ_ _ _=>zL (i:=0) zpG (by rfl) (by first | exact Or.inl rfl | exact Or.inr rfl)) (zJ 0 (by rfl)) (λ_ _ _=>zT) (λ_ _ _=>(r_k hr (aN (zc 0) zf)))) zf) (he:=(zG ..))))))) (by trivial)
instance ze9:Hs P w K mg base CX0 "want_number" 2 Pg.vf:= zZ (T.q 22 rfl) z45 (λhr _=> (zj (z09 (RW.rt (zbU (jW (z0y (r_k hr (aN (zc 0) zf)))) (z3b (jW (z8Y zhO zhO (zc 1) (zc 0) (zc 2)))))) (zj jh) yR))) (by trivial)
instance zcJ:Hs P w K mg base CX0 "lines_times" 2 Pg.xw:= zZ (T.q 23 rfl) z4g (λhr hc=> (zj (zQ (xQ wc (by rfl) T.f18 yA (aO (zO ["numbers","line"] [some 1,none] (by exact hc) (xz (zc 0)) (λ_ _ _=>zL (i:=1) zno (by rfl) (by first | exact Or.inl rfl | exact Or.inr rfl)) (zJ 1 (by rfl)) (λ_ _ _=>zT) (λ_ _ _=>(r_k hr (aN (zc 1) (aN (zc 0) zf))))) zf) (he:=(zG ..)))))) (by trivial)
theorem vL (k:Nat) (Hr:Hs P w K mg base CX0 "number_of" (k+1) (Pg.yx k)):Hs P w K mg base CX0 "number_of" (k+1+1) (Pg.yx (k+1)):= zZ (T.q 24 rfl) z8a (λhr hc=> have hu:=hr.units;(zh (z09 (yo (z70 hu) (zA uu (by rfl) T.f10 xT (aN (zc 0) zf) (he:=(zp ..))) zI) (zj (zQ (z3S (z3S (zc 0) zI) zI))) yR) (zj (zQ (zA (zdW (by exact hc)) (by rfl) T.f17 z79 (aO (zO ["lines","column","number"] [some 0,none,none] (by exact hc) (zm1 (by rfl) T.f7 (aS (z3S (zc 0) zI) zf)) (λ_ _ _=>z0I 1 2 (by exact hc) zmF) (z0a 1 2 (by decide) (by rfl) (by rfl)) (λ_ _ _=>zT) (λ_ _ _=>(ym uU (ym uU (r_k hr (aK zI (aN (zc 1) zf))) (zc 2)) (r_k hr (aQ (r_k hr (aN (zc 0) (aK zI (aN (zc 1) zf)))) zf) (he:=(xP ..)))))) zf) (he:=(zG ..))))))) (by trivial)
instance zfp:Hs P w K mg base CX0 "number_of" 5 Pg.xq:= vL 3 (vL 2 (vL 1 (vL 0 (znV (ps:=["lines"]) (T.q 24 rfl) (by trivial) 1))))
instance z8j:Hs P w K mg base CX0 "relations_within" 2 Pg.zt:= (zZ (T.q 25 rfl) yb (λhr hc=> have hu:=hr.units;(zh (xX 2 yb.nd (ym zal (zA uu (by rfl) T.f10 xT (aN (zc 0) zf) (he:=(zp ..))) zI)) (zh (xX 3 yb.nd zlx) (zh (z7B _aL hc (xz (r_k hr (aN (zc 2) (aU (z33 (zc 1)) (aN (zc 1) zf))))) (z20 4 yb.nd) (zj (wI (zkx 4 (zc 3) (r_k hr (aN (zc 4) (aS (vG (zc 0) qo (qA (zc 2))) zf))))))) (zh (xX 5 yb.nd (ze2 zf)) (zh (z7B _aL hc (xz (r_k hr (aB (ym zbk (zA uu (by rfl) T.f10 xT (aN (zc 0) zf) (he:=(zp ..))) (zc 2)) (aU (z33 (zc 1)) (aN (zc 1) zf))) (he:=(z9X ..)))) (z20 6 yb.nd) (zj (zkY 5 yb.nd (zO ["second","first"] [some 6,none] (by exact hc) (xz (ziw hu (zc 3) (z33 (r_k hr (aN (zc 6) (aS (vG (zc 0) (qA (zc 2)) qo) zf)))))) (λ_ _ _=>zL (i:=1) zpT (by rfl) (by first | exact Or.inl rfl | exact Or.inr rfl)) (zJ 1 (by rfl)) (λ_ _ _=>zT) (λ_ _ _=>(ym vQ (zc 1) (zc 0))))))) (zj (zQ (zA zcI (by rfl) T.f15 z6C (aO (zO ["line"] [none] (by exact hc) (xz (zc 5)) (λ_ _ _=>zL (i:=0) zmm (by rfl) (by first | exact Or.inl rfl | exact Or.inr rfl)) (zJ 0 (by rfl)) (λ_ _ _=>jf (yo zmy (r_k hr (aN (zc 0) zf)) zI)) (λ_ _ _=>(zc 0))) zf) (he:=(zG ..))))))))))) (by trivial)).tidy
instance zib:Hs P w K mg base CX0 "by_next" 2 Pg.uz:= zZ (T.q 26 rfl) z4I (λhr hc=> (zh (zaO (r_k hr (aN (zc 0) zf)) (z4z 1 2 hc z4I.nd)) (zj (zQ (z27 (aQ (z9d (zc 2) (zA (jo (by exact hc)) (by rfl) T.f12 qj (aN (zc 2) zf) (he:=(zp ..)))) (aL (zb0 (aN (zc 1) zf)) zf))))))) (by trivial)
instance zgL:Hs P w K mg base CX0 "by_least" 2 Pg.vD:= zZ (T.q 27 rfl) z3m (λhr hc=> (zh (zaO (r_k hr (aN (zc 0) zf)) (z4z 1 2 hc z3m.nd)) (zj (zQ (z27 (aQ (r_k hr (aN (zc 2) zf)) (aL (zb0 (aN (zc 1) zf)) zf))))))) (by trivial)
instance zk7:Hs P w K mg base CX0 "by_all" 2 Pg.qO:= zZ (T.q 28 rfl) z76 (λhr _=> (zh (xX 1 z76.nd (r_k hr (aN (zc 0) zf))) (zj (zQ (z27 (aN (zc 1) (aQ (r_k hr (aN (zc 0) (aN (zc 1) zf))) zf))))))) (by trivial)
instance zik:Hs P w K mg base CX0 "by_turn" 2 Pg.uC:= zZ (T.q 29 rfl) zbx (λhr _=> have hu:=hr.units;(zh (z09 (yo (z70 hu) (z3S (zc 0) zI) zI) (zj (zQ (z27 (aK zI (aL (zb0 zf) zf))))) yR) (zj (zQ (z27 (aK zI (aQ (r_k hr (aN (zc 0) (aK zI zf))) zf))))))) (by trivial)
instance zgm:Hs P w K mg base CX0 "want_rule" 2 Pg.uF:= zZ (T.q 30 rfl) z7D (λhr _=> (zj (z09 (jW (z0y (r_k hr (aN (zc 0) zf)))) (zj jh) yR))) (by trivial)
instance zav:Hs P w K mg base CX0 "_law_small_lot" 2 Pg.wK:= (zZ (T.q 31 rfl) xj (λhr hc=> have hu:=hr.units;(zh (xX 2 xj.nd (z3S (zb0 (aK zI (aK zI (aK zI zf)))) (r_k hr (aN (zc 0) (aK zI zf))))) (zh (zjl 3 ["_law_pot_here","_law_far","_law_place"] [some 0,some 2,none] xj.nd hc (z01 (by rfl) T.f14 (aN (zc 1) zf)) (λ_ _ _=>zL (i:=2) zq0 (by rfl) (by first | exact Or.inl rfl | exact Or.inr rfl)) (zJ 2 (by rfl)) (λ_ _ _=>zT) (λ_ _ _=>(r_k hr (aN (zc 0) (aN (zc 1) zf))))) (zh (zjC 4 5 hc xj.nd (aQ (r_k hr (aN (zc 0) (aN (zc 1) zf))) (aQ (r_k hr (aN (zc 0) (aN (zc 1) zf))) zf))) (zh (xX 6 xj.nd (r_k hr (aN (zc 0) (aK zI zf)))) (zh (z09 (yo (z70 hu) (zc 6) zI) (zj (zah zI (zc 3) (zc 4))) yR) (zh (z09 (yo (z70 hu) (zc 6) zI) (zj (zah (z3S (zc 3) (zc 5)) (zc 3) (zc 4))) yR) (zh (z09 (yo (z70 hu) (zA (jo (by exact hc)) (by rfl) T.f12 qj (aN (zc 3) zf) (he:=(zp ..))) zI) (zj (zah (ym vQ zI (r_k hr (aN (zc 0) (aB (ym zbk (zc 2) zI) zf)))) (zc 3) (zc 5))) yR) (zj (zQ (xQ wc (by rfl) T.f18 yA (aN (zc 3) zf) (he:=(zp ..))))))))))))) (by trivial)).tidy
instance zjX:Hs P w K mg base CX0 "is_lot" 3 Pg.jO:= zZ (T.q 32 rfl) zcn (λhr hc=> (zh (z09 (RW.rt (zbU (jW (z0y (r_k hr (aN (zc 0) zf)))) (z3b (jW (z0y (r_k hr (aN (zc 0) (aQ (zA uu (by rfl) T.f10 xT (aN (zc 0) zf) (he:=(zp ..))) zf)))))))) (zj (zQ z6y)) yR) (zj (zQ (z7M (ji zow (zA (z2L (by exact hc)) (by rfl) T.f13 z0J (aN (zc 0) zf) (he:=(zp ..))) zI) (z8Z (ji zmy (zA (jo (by exact hc)) (by rfl) T.f12 qj (aN (zc 0) zf) (he:=(zp ..))) zI))))))) (by trivial)
instance zhz:Hs P w K mg base CX0 "is_table" 3 Pg.uk:= zZ (T.q 33 rfl) z8U (λhr hc=> (zh (z09 (jW (z0y (r_k hr (aN (zc 0) zf)))) (zj (zQ z6y)) yR) (zj (zQ (zA (zlh (by exact hc)) (by rfl) T.f5 zgG (aO (zO ["thing","line"] [some 0,none] (by exact hc) (xz (zc 0)) (λ_ _ _=>zL (i:=1) zol (by rfl) (by first | exact Or.inl rfl | exact Or.inr rfl)) (zJ 1 (by rfl)) (λ_ _ _=>zT) (λ_ _ _=>(r_k hr (aN (zc 1) (aQ (zA uu (by rfl) T.f10 xT (aN (zc 0) zf) (he:=(zp ..))) zf))))) zf) (he:=(zG ..))))))) (by trivial)
instance zfE:Hs P w K mg base CX0 "is_taking" 3 Pg.xV:= zZ (T.q 34 rfl) z7d (λhr hc=> (zj (zQ (z7M (r_k hr (aN (zc 2) (aQ (zA uu (by rfl) T.f10 xT (aN (zc 0) zf) (he:=(zp ..))) zf))) (z7M (ji zow (zA (z2L (by exact hc)) (by rfl) T.f13 z0J (aN (zc 2) zf) (he:=(zp ..))) zI) (z8Z (ji zhO (zA (jo (by exact hc)) (by rfl) T.f12 qj (aN (zc 2) zf) (he:=(zp ..))) (zc 1)))))))) (by trivial)
instance zgH:Hs P w K mg base CX0 "division" 3 Pg.wX:= zZ (T.q 35 rfl) z05 (λhr hc=> (zh (xX 2 z05.nd (zn9 T.T_RULES (by rfl) (zc 0) (λ_ _=>rfl))) (zh (zaO (zjf (n:=2) 2 (z0U (Has.mono (hr.has "by_next") (by decide)) (z0U (Has.mono (hr.has "by_least") (by decide)) (z0U (Has.mono (hr.has "by_all") (by decide)) (z0U (Has.mono (hr.has "by_turn") (by decide)) zf3)))) (hr.mono (by decide)) ziY (aN (zc 1) zf) (he:=(zp ..))) (z4z 3 4 hc z05.nd)) (zj (zQ (z27 (aN (zc 3) (aO (zO ["divided","lot","by","at"] [some 4,some 1,some 3,none] (by exact hc) (z01 (by rfl) T.f14 (aQ (zA uu (by rfl) T.f10 xT (aN (zc 1) zf) (he:=(zp ..))) zf)) (λ_ _ _=>zL (i:=3) zmK (by rfl) (by first | exact Or.inl rfl | exact Or.inr rfl)) (zJ 3 (by rfl)) (λ_ _ _=>zT) (λ_ _ _=>(zmr (yo zpX (zc 3) (zc 0)) (ym zal (z3S (zc 1) (zc 3)) (z3S (zc 1) (zc 2))) zI))) zf)))))))) (by trivial)
instance zhU:Hs P w K mg base CX0 "come_to" 3 Pg.qC:= zZ (T.q 36 rfl) zb7 (λhr _=> have hu:=hr.units;(zj (zQ (z7M (r_k hr (aN (zc 1) (aQ (zA uu (by rfl) T.f10 xT (aN (zc 0) zf) (he:=(zp ..))) zf))) (z8Z (ji (z70 hu) (r_k hr (aN (zc 1) (aN (zc 0) zf))) (zc 2))))))) (by trivial)
instance zhF:Hs P w K mg base CX0 "want_lot" 4 Pg.yN:= zZ (T.q 37 rfl) z8v (λhr _=> (zj (z09 (jW (z0y (r_k hr (aN (zc 0) zf)))) (zj jh) yR))) (by trivial)
instance zeI:Hs P w K mg base CX0 "want_table" 4 Pg.yG:= zZ (T.q 38 rfl) z6b (λhr _=> (zj (z09 (jW (z0y (r_k hr (aN (zc 0) zf)))) (zj jh) yR))) (by trivial)
instance zfG:Hs P w K mg base CX0 "has_ended" 5 Pg.xu:= zZ (T.q 39 rfl) z7F (λhr hc=> have hu:=hr.units;(zh (wI (r_k hr (aN (zc 0) zf))) (zj (zQ (ji (z70 hu) (zA uu (by rfl) T.f10 xT (aO (zO ["number"] [none] (by exact hc) (xz (zc 0)) (λ_ _ _=>zL (i:=0) zk5 (by rfl) (by first | exact Or.inl rfl | exact Or.inr rfl)) (zJ 0 (by rfl)) (λ_ _ _=>jf (yo (zbQ hu) (zc 0) zI)) (λ_ _ _=>(zc 0))) zf) (he:=(zG ..))) zI))))) (by trivial)
instance zeB:Hs P w K mg base CX0 "multiplied" 5 Pg.wT:= zZ (T.q 40 rfl) z6c (λhr hc=> have hu:=hr.units;(zh (wI (r_k hr (aN (zc 0) zf))) (zh (wI (r_k hr (aN (zc 1) zf))) (zh (z09 (yo (zbQ hu) (zA uu (by rfl) T.f10 xT (aN (zc 0) zf) (he:=(zp ..))) (zA uu (by rfl) T.f10 xT (aN (zc 1) zf) (he:=(zp ..)))) (zj jh) yR) (zj (zQ (r_k hr (aQ (xQ wc (by rfl) T.f18 yA (aO (zO ["one","column"] [some 0,none] (by exact hc) (xz (r_k hr (aN (zc 1) zf))) (λ_ _ _=>zL (i:=1) zmJ (by rfl) (by first | exact Or.inl rfl | exact Or.inr rfl)) (zJ 1 (by rfl)) (λ_ _ _=>zT) (λ_ _ _=>(r_k hr (aN (zc 0) (aN (zc 1) zf))))) zf) (he:=(zG ..))) zf) (he:=(xP ..))))))))) (by trivial)
instance zeJ:Hs P w K mg base CX0 "one_number" 6 Pg.wV:= zZ (T.q 41 rfl) z6d (λhr _=> (zh (wI (r_k hr (aN (zc 0) zf))) (zj (zQ (r_k hr (aN (zc 0) zf)))))) (by trivial)
instance zeM:Hs P w K mg base CX0 "want_small" 5 Pg.wb:= zZ (T.q 42 rfl) z65 (λhr hc=> (zh (wI (r_k hr (aN (zc 0) zf))) (zj (z09 (yo zmy (zA (jo (by exact hc)) (by rfl) T.f12 qj (aN (zc 0) zf) (he:=(zp ..))) (zmz (by rfl) T.f1)) (zj jh) yR)))) (by trivial)
instance z8e:Hs P w K mg base CX0 "want_rule_and_lot" 5 Pg.zS:= zZ (T.q 43 rfl) jV (λhr _=> (zh (wI (r_k hr (aN (zc 0) zf))) (zj (wI (r_k hr (aN (zc 1) zf)))))) (by trivial)
instance zdz:Hs P w K mg base CX0 "is_relation" 5 Pg.wf:= zZ (T.q 44 rfl) z4f (λhr _=> (zh (wI (r_k hr (aN (zc 0) zf))) (zj (zQ (r_k hr (aN (zc 0) (aN (zc 1) (aK zI zf)))))))) (by trivial)
instance ze5:Hs P w K mg base CX0 "turned_back" 7 Pg.wj:= zZ (T.q 45 rfl) qa (λhr hc=> have hu:=hr.units;(zh (xX 1 qa.nd (r_k hr (aN (zc 0) zf))) (zh (z09 (RW.rt (w_and (yo (zbQ hu) (zc 1) zI) (zl6 (yo (zbQ hu) (zc 1) (z33 zI))))) (zj jh) yR) (zh (xX 2 qa.nd (z3t (by exact hc) (by rfl) T.f11 (by rfl) T.f14 (aQ (zA uu (by rfl) T.f10 xT (aN (zc 0) zf) (he:=(zp ..))) zf))) (zj (zQ (xQ wc (by rfl) T.f18 yA (aO (zO ["places","own","table","line"] [some 2,some 1,some 0,none] (by exact hc) (xz (zc 2)) (λ_ _ _=>zL (i:=3) znP (by rfl) (by first | exact Or.inl rfl | exact Or.inr rfl)) (zJ 3 (by rfl)) (λ_ _ _=>zT) (λ_ _ _=>(xQ wc (by rfl) T.f18 yA (aO (zO ["own","line","table","column"] [some 1,some 3,some 2,none] (by exact hc) (xz (zc 0)) (λ_ _ _=>zL (i:=3) znD (by rfl) (by first | exact Or.inl rfl | exact Or.inr rfl)) (zJ 3 (by rfl)) (λ_ _ _=>zT) (λ_ _ _=>(ym uU (ym uU (zc 0) (r_k hr (aN (zc 1) (aN (zc 3) zf)))) (r_k hr (aQ (r_k hr (aN (zc 2) (aN (zc 3) (aN (zc 1) zf)))) zf) (he:=(xP ..)))))) zf) (he:=(zG ..))))) zf) (he:=(zG ..))))))))) (by trivial)
instance z8k:Hs P w K mg base CX0 "growing_products" 6 Pg.yB:= zZ (T.q 46 rfl) wO (λhr hc=> (zh (xX 2 wO.nd (ze2 (aQ (r_k hr (aN (zc 0) zf)) zf))) (zh (z7B _aL hc (xz (zc 1)) (z20 3 wO.nd) (zj (wI (zat (zc 2) (r_k hr (aS (z3S (zc 2) (z33 zI)) (aN (zc 3) zf)) (he:=(z0A ..))))))) (zj (zQ (zc 2)))))) (by trivial)
instance z4r:Hs P w K mg base CX0 "want_small_and_often" 6 Pg.zE:= zZ (T.q 47 rfl) qL (λhr _=> (zh (wI (r_k hr (aN (zc 0) zf))) (zj (wI (r_k hr (aN (zc 1) (aK zI (aN (zmz (by rfl) T.f2) zf)))))))) (by trivial)
instance zfh:Hs P w K mg base CX0 "by_weight" 6 Pg.yC:= zZ (T.q 48 rfl) wS (λhr hc=> have hu:=hr.units;(zh (wI (r_k hr (aN (zc 0) zf))) (zh (xX 1 wS.nd zI) (zh (xX 2 wS.nd (r_k hr (aN (zc 0) (aN (zc 1) zf)))) (zh (zd1 _aL (jW (zod (zc 2))) (zh (xX 1 wS.nd (ym uU zI (zc 1))) (zj (xX 2 wS.nd (r_k hr (aN (zc 0) (aN (zc 1) zf))))))) (zh (xX 3 wS.nd (zA (z2L (by exact hc)) (by rfl) T.f13 z0J (aO (zO ["line"] [none] (by exact hc) (xz (zc 2)) (λ_ _ _=>zL (i:=0) zmm (by rfl) (by first | exact Or.inl rfl | exact Or.inr rfl)) (zJ 0 (by rfl)) (λ_ _ _=>zT) (λ_ _ _=>(r_k hr (aN (zc 0) zf)))) zf) (he:=(zG ..)))) (zj (zQ (zO ["least","line"] [some 3,none] (by exact hc) (xz (zc 2)) (λ_ _ _=>zL (i:=1) zp6 (by rfl) (by first | exact Or.inl rfl | exact Or.inr rfl)) (zJ 1 (by rfl)) (λ_ _ _=>jf (yo (z70 hu) (r_k hr (aN (zc 1) zf)) (zc 0))) (λ_ _ _=>(zc 1))))))))))) (by trivial)
instance zgC:Hs P w K mg base CX0 "want_step" 6 Pg.xZ:= zZ (T.q 49 rfl) z7Q (λhr _=> (zh (wI (r_k hr (aN (zc 0) (aN (zc 1) zf)))) (zj (z09 (z0y (r_k hr (aN (zc 1) zf))) (zj jh) yR)))) (by trivial)
instance zgB:Hs P w K mg base CX0 "by_length" 7 Pg.xY:= zZ (T.q 50 rfl) jD (λhr hc=> have hu:=hr.units;(zh (xX 1 jD.nd (r_k hr (aN (zc 0) (aQ (zA (z2L (by exact hc)) (by rfl) T.f13 z0J (aO (zO ["line"] [none] (by exact hc) (xz (r_k hr (aN (zc 0) zf))) (λ_ _ _=>zL (i:=0) zmm (by rfl) (by first | exact Or.inl rfl | exact Or.inr rfl)) (zJ 0 (by rfl)) (λ_ _ _=>zT) (λ_ _ _=>(r_k hr (aN (zc 0) zf)))) zf) (he:=(zG ..))) zf)))) (zh (xX 2 jD.nd (zA (z2L (by exact hc)) (by rfl) T.f13 z0J (aO (zO ["line"] [none] (by exact hc) (xz (zc 1)) (λ_ _ _=>zL (i:=0) zmm (by rfl) (by first | exact Or.inl rfl | exact Or.inr rfl)) (zJ 0 (by rfl)) (λ_ _ _=>zT) (λ_ _ _=>(r_k hr (aN (zc 0) zf)))) zf) (he:=(zG ..)))) (zj (zQ (zO ["least","line"] [some 2,none] (by exact hc) (xz (zc 1)) (λ_ _ _=>zL (i:=1) zp6 (by rfl) (by first | exact Or.inl rfl | exact Or.inr rfl)) (zJ 1 (by rfl)) (λ_ _ _=>jf (yo (z70 hu) (r_k hr (aN (zc 1) zf)) (zc 0))) (λ_ _ _=>(zc 1)))))))) (by trivial)
instance zbT:Hs P w K mg base CX0 "least_weight" 7 Pg.xD:= zZ (T.q 51 rfl) z2I (λhr _=> (zj (zQ (r_k hr (aS (z3S (r_k hr (aN (zc 0) zf)) zI) zf) (he:=(z0A ..)))))) (by trivial)
instance zgW:Hs P w K mg base CX0 "has_none" 7 Pg.qw:= zZ (T.q 52 rfl) z8R (λhr _=> (zh (wI (r_k hr (aN (zc 0) (aN (zc 1) zf)))) (zj (zQ (zlL (r_k hr (aN (zc 0) (aN (zc 1) zf)))))))) (by trivial)
instance zhJ:Hs P w K mg base CX0 "is_clash" 7 Pg.qF:= zZ (T.q 53 rfl) z2E (λhr hc=> have hu:=hr.units;(zh (wI (r_k hr (aN (zc 0) (aN (zc 1) zf)))) (zh (z09 (RW.rt (zbU (jW (z0y (zk0 (by decide) yA (by rfl) T.f9 (by rfl) T.f18 (zc 2)))) (z3b (yo (zbQ hu) (zA uu (by rfl) T.f10 xT (aN (zc 2) zf) (he:=(zp ..))) zI)))) (zj (zQ z6y)) yR) (zh (zaO (zc 2) (z4z 3 4 hc z2E.nd)) (zh (z09 (RW.rt (zbU (jW (z0y (r_k hr (aN (zc 0) (aN (zc 1) (aN (zc 3) zf)))))) (z3b (jW (z0y (r_k hr (aN (zc 0) (aN (zc 1) (aN (zc 4) zf))))))))) (zj (zQ z6y)) yR) (zj (zQ (z7M (ji (zlt (_c0 (_bP _ _) hu)) (zc 3) (zc 4)) (z8Z (ji (z70 hu) (r_k hr (aN (zc 3) (aN (zc 0) zf))) (r_k hr (aN (zc 4) (aN (zc 0) zf))))))))))))) (by trivial)
instance zdA:Hs P w K mg base CX0 "first_clash" 7 Pg.we:= zZ (T.q 54 rfl) kG (λhr hc=> have hu:=hr.units;(zh (wI (r_k hr (aN (zc 0) (aN (zc 1) zf)))) (zh (zcA 2 ["line"] [none] kG.nd hc (xz (r_k hr (aN (zc 0) (aN (zc 1) zf)))) (λ_ _ _=>zL (i:=0) zmm (by rfl) (by first | exact Or.inl rfl | exact Or.inr rfl)) (zJ 0 (by rfl)) (λ_ _ _=>jf (yo (zlt (_c0 (_bP _ _) hu)) (r_k hr (aN (zc 0) zf)) (zc 0))) (λ_ _ _=>(z27 (aQ (r_k hr (aQ (r_k hr (aN (zc 0) zf)) zf) (he:=(xP ..))) (aQ (r_k hr (aN (zc 0) zf)) zf))))) (zj (zQ (zkA (by exact hc) hu (zc 2) zgk (by rfl) T.f13 z0J)))))) (by trivial)
instance zmx:Hs P w K mg base CX0 "step" 7 Pg.M_step:= zZ (T.q 55 rfl) z8H (λhr hc=> (zh (wI (r_k hr (aN (zc 0) (aN (zc 1) zf)))) (zh (zaO (r_k hr (aN (zc 0) (aN (zc 1) zf))) (z4z 2 3 hc z8H.nd)) (zh (xX 4 z8H.nd (xQ wc (by rfl) T.f18 yA (aO (zO ["lot","by","number","quotient"] [some 1,some 2,none,none] (by exact hc) (zeY (by rfl) T.f19 (aN (zc 1) (aN (zc 3) zf))) (λ_ _ _=>z0I 2 3 (by exact hc) znr) (z0a 2 3 (by decide) (by rfl) (by rfl)) (λ_ _ _=>zT) (λ_ _ _=>(ym zbk (zc 2) (ym uU (zc 3) (z3S (zc 0) (zc 1)))))) zf) (he:=(zG ..)))) (zj (zQ (r_k hr (aN (zc 0) (aN (zc 4) zf))))))))) (by trivial)
instance zex:Hs P w K mg base CX0 "step_table" 7 Pg.wU:= zZ (T.q 56 rfl) z0w (λhr hc=> (zh (wI (r_k hr (aN (zc 0) (aN (zc 1) zf)))) (zh (zaO (r_k hr (aN (zc 0) (aN (zc 1) zf))) (z4z 2 3 hc z0w.nd)) (zj (zQ (xQ wc (by rfl) T.f18 yA (aO (zO ["rule","by","line","quotient"] [some 0,some 2,none,none] (by exact hc) (zeY (by rfl) T.f19 (aQ (r_k hr (aQ (zA uu (by rfl) T.f10 xT (aN (zc 1) zf) (he:=(zp ..))) zf) (he:=(xP ..))) (aN (zc 3) zf))) (λ_ _ _=>z0I 2 3 (by exact hc) zoj) (z0a 2 3 (by decide) (by rfl) (by rfl)) (λ_ _ _=>zT) (λ_ _ _=>(r_k hr (aN (zc 0) (aB (ym vQ (ym vQ (vG (zc 2) qo (qA (zc 1))) (z27 (aB (ym vQ (z3S (zc 2) (zc 1)) (zc 3)) zf))) (vG (zc 2) (qA (ym vQ (zc 1) zI)) qo)) zf))))) zf) (he:=(zG ..)))))))) (by trivial)
instance zbR:Hs P w K mg base CX0 "least_length" 8 Pg.wE:= zZ (T.q 57 rfl) z2W (λhr _=> (zj (zQ (r_k hr (aS (z3S (r_k hr (aN (zc 0) zf)) zI) zf) (he:=(z0A ..)))))) (by trivial)
instance zmQ:Hs P w K mg base CX0 "run" 8 Pg.M_run:= zZ (T.q 58 rfl) zgK (λhr _=> (zh (wI (r_k hr (aN (zc 0) (aN (zc 1) zf)))) (zh (xX 2 zgK.nd (ze2 (aN (zc 1) zf))) (zh (zd1 _aL (jW (z0y (r_k hr (aS (z3S (zc 2) (z33 zI)) zf) (he:=(z0A ..))))) (zj (wI (zat (zc 2) (r_k hr (aN (zc 0) (aS (z3S (zc 2) (z33 zI)) zf))))))) (zj (zQ (zc 2))))))) (by trivial)
instance zfT:Hs P w K mg base CX0 "tables_of" 9 Pg.vC:= zZ (T.q 59 rfl) z6F (λhr hc=> (zj (zQ (zO ["rule","ahead"] [some 0,none] (by exact hc) (xz (vG (zhv (r_k hr (aN (zc 0) (aN (zc 1) zf)))) qo (qA (z33 zI)))) (λ_ _ _=>zL (i:=1) zoV (by rfl) (by first | exact Or.inl rfl | exact Or.inr rfl)) (zJ 1 (by rfl)) (λ_ _ _=>zT) (λ_ _ _=>(r_k hr (aN (zc 0) (aN (zc 1) zf)))))))) (by trivial)
instance zcc:Hs P w K mg base CX0 "products_of" 10 Pg.wk:= zZ (T.q 60 rfl) kU (λhr _=> (zh (xX 2 kU.nd (r_k hr (aN (zc 0) (aN (zc 1) zf)))) (zj (zQ (r_k hr (aQ (zA uu (by rfl) T.f10 xT (aN (zc 1) zf) (he:=(zp ..))) (aN (zc 2) zf)) (he:=(xP ..))))))) (by trivial)
instance zc2:Hs P w K mg base CX0 "whole_table" 11 Pg.wg:= zZ (T.q 61 rfl) z4c (λhr _=> (zj (zQ (z3S (zhv (r_k hr (aN (zc 0) (aN (zc 1) zf)))) (z33 zI))))) (by trivial)
instance zeN:Hs P w K mg base CX0 "lines_back" 12 Pg.xR:= zZ (T.q 62 rfl) z5X (λhr _=> (zj (zQ (r_k hr (aQ (r_k hr (aN (zc 0) (aN (zc 1) zf))) zf) (he:=(xP ..)))))) (by trivial)
instance zms:Hs P w K mg base CX0 "base" 13 Pg.M_base:= zZ (T.q 63 rfl) zj9 (λhr hc=> have hu:=hr.units;(zj (zQ (zO ["lot","line"] [some 1,none] (by exact hc) (xz (r_k hr (aN (zc 0) (aN (zc 1) zf)))) (λ_ _ _=>zL (i:=1) zoo (by rfl) (by first | exact Or.inl rfl | exact Or.inr rfl)) (zJ 1 (by rfl)) (λ_ _ _=>jf (yo (z70 hu) (r_k hr (aN (zc 1) (aN (zc 0) zf))) zI)) (λ_ _ _=>(zc 1)))))) (by trivial)
instance z8g:Hs P w K mg base CX0 "_law_lists_right" 14 yS:= zZ (T.q 64 rfl) yq (λhr hc=>by
  have hu:=hr.units;refine zh ?_ ?_;·exact (zjC 2 3 hc yq.nd (aQ (r_k hr (aN (zc 0) zf)) (aQ (r_k hr (aN (zc 0) zf)) zf)))
  refine zh ?_ ?_;·exact (zjC 4 5 hc yq.nd (aQ (r_k hr (aN (zc 0) zf)) (aQ (r_k hr (aN (zc 0) zf)) zf)))
  refine zh ?_ ?_
  ·refine z7B _aL hc (xz (ym vQ (zc 2) (zc 3))) (z20 6 yq.nd) ?_;refine zh ?_ ?_
   ·refine z09 (RW.rt (zbU (yo z6o (r_k hr (aN (zc 0) (aN (zc 6) zf))) z6y) (z3b (z8Y (z70 hu) (z70 hu) (zA (jo (by exact hc)) (by rfl) T.f12 qj (aN (zc 6) zf) (he:=(zp ..))) (zA (z2L (by exact hc)) (by rfl) T.f13 z0J (aN (zc 6) zf) (he:=(zp ..))) zI)))) ?_ ?_
    ·refine zj ?_;exact (zQ z6y)
    ·exact yR
   refine zj ?_;refine z09 (RW.rt (zbU (yo zm5 (zA (jo (by exact hc)) (by rfl) T.f12 qj (aO (zO ["_law_number"] [none] (by exact hc) (xz (zc 6)) (λ_ _ _=>zL (i:=0) zc6 (by rfl) (by first | exact Or.inl rfl | exact Or.inr rfl)) (zJ 0 (by rfl)) (λ_ _ _=>zT) (λ_ _ _=>(zA zbL (by rfl) T.f4 z4v (aN (zc 0) zf) (he:=(zp ..))))) zf) (he:=(zG ..))) (zc 4)) (z3b (yo zm5 (zA (zdW (by exact hc)) (by rfl) T.f17 z79 (aO (zO ["_law_number"] [none] (by exact hc) (xz (zc 6)) (λ_ _ _=>zL (i:=0) zc6 (by rfl) (by first | exact Or.inl rfl | exact Or.inr rfl)) (zJ 0 (by rfl)) (λ_ _ _=>zT) (λ_ _ _=>(zA zbL (by rfl) T.f4 z4v (aN (zc 0) zf) (he:=(zp ..))))) zf) (he:=(zG ..))) (zc 5))))) ?_ ?_
   ·refine zj ?_;exact (zQ z6y)
   ·exact yR
  refine zh ?_ ?_;·exact (zcA 7 ["_law_one"] [none] yq.nd hc (xz (zc 2)) (λ_ _ _=>zL (i:=0) zp0 (by rfl) (by first | exact Or.inl rfl | exact Or.inr rfl)) (zJ 0 (by rfl)) (λ_ _ _=>zT) (λ_ _ _=>(xQ wc (by rfl) T.f18 yA (aO (zO ["_law_number"] [none] (by exact hc) (xz (zc 0)) (λ_ _ _=>zL (i:=0) zc6 (by rfl) (by first | exact Or.inl rfl | exact Or.inr rfl)) (zJ 0 (by rfl)) (λ_ _ _=>zT) (λ_ _ _=>(ym zbk zI (zc 0)))) zf) (he:=(zG ..)))))
  refine zh ?_ ?_
  ·refine z09 (RW.rt (zbU (yo (zbQ hu) (zA zcI (by rfl) T.f15 z6C (aN (zc 7) zf) (he:=(zp ..))) (zc 2)) (zbU (yo (z70 hu) (ym zbc (zA uu (by rfl) T.f10 xT (aN (zc 3) zf) (he:=(zp ..))) zI) zI) (z3b (jW (z8Y zhO zhO (zc 4) (zc 5) (ym uU (zc 4) (zA uu (by rfl) T.f10 xT (aN (zc 0) zf) (he:=(zp ..)))))))))) ?_ ?_
   ·refine zj ?_;exact (zQ z6y)
   ·exact yR
  refine zh ?_ ?_
  ·refine z7B _aL hc (xz (r_k hr (aN (zc 1) (aN (zc 0) zf)))) (z20 6 yq.nd) ?_;refine zj ?_;refine z09 (RW.rt (zbU (yo zm5 (zA (jo (by exact hc)) (by rfl) T.f12 qj (aO (zO ["_law_number"] [none] (by exact hc) (xz (zc 6)) (λ_ _ _=>zL (i:=0) zc6 (by rfl) (by first | exact Or.inl rfl | exact Or.inr rfl)) (zJ 0 (by rfl)) (λ_ _ _=>zT) (λ_ _ _=>(zA zbL (by rfl) T.f4 z4v (aN (zc 0) zf) (he:=(zp ..))))) zf) (he:=(zG ..))) (zc 4)) (z3b (yo zm5 (zA (zdW (by exact hc)) (by rfl) T.f17 z79 (aO (zO ["_law_number"] [none] (by exact hc) (xz (zc 6)) (λ_ _ _=>zL (i:=0) zc6 (by rfl) (by first | exact Or.inl rfl | exact Or.inr rfl)) (zJ 0 (by rfl)) (λ_ _ _=>zT) (λ_ _ _=>(zA zbL (by rfl) T.f4 z4v (aN (zc 0) zf) (he:=(zp ..))))) zf) (he:=(zG ..))) (zc 5))))) ?_ ?_
   ·refine zj ?_;exact (zQ z6y)
   ·exact yR
  refine zj ?_;exact (zQ z6y)) (by trivial)
theorem zaN {f:Addr} {fd:FuncData} (F:Fun K "law" "law" z4s f fd):z5J P w K mg base CX0 15 f fd ["_law_script"] (zi7 ⟨mg,K⟩ zja):= zkO F z1N rfl λaM A outer s H E hr hc=>by
  have hr:Rm P w K mg base 14 _:=⟨hr⟩;have hu:=hr.units;refine zh ?_ ?_
  ·refine z7B _aL hc (z01 (by rfl) T.f14 (aQ (zA (zhI (by exact hc)) (by rfl) T.f12 qj (aK zI (aQ (zA (zlw (by exact hc)) (by rfl) T.f13 z0J (aQ (zA uu (by rfl) T.f10 xT (aN (zc 0) zf) (he:=(zp ..))) (aK zI zf)) (he:=(xP ..))) zf)) (he:=(z55 ..))) zf)) (z20 1 z1N.nd) ?_;refine zh ?_ ?_;·exact (xX 2 z1N.nd (r_k hr (aQ (r_k hr (aN (zc 0) (aN (zc 1) zf))) zf) (he:=(xP ..))))
   refine zh ?_ ?_;·exact (xX 3 z1N.nd (r_k hr (aN (zc 2) (aB (ym vQ zI (r_k hr (aN (zc 2) (aK zI zf)))) zf))))
   refine zh ?_ ?_
   ·refine z09 (jW (z0y (r_k hr (aN (zc 3) (aS (z3S (ziq (hr.has "_law_rules") (hr.mono (by decide)) ziY (by rfl)) (r_k hr (aN (zc 2) (aK zI zf)))) zf))))) ?_ ?_
    ·refine zj ?_;exact (zQ z6y)
    ·exact yR
   refine zh ?_ ?_;·exact (xX 4 z1N.nd (ym vQ zI (r_k hr (aN (zc 2) (aK zI zf)))))
   refine zh ?_ ?_;·exact (xX 5 z1N.nd (r_k hr (aN (zc 3) (aN (zc 4) zf))))
   refine zh ?_ ?_
   ·refine z09 (RW.rt (zbU (yo (zbQ hu) (ji zp8 (zc 5) zgk) (ji zmy (r_k hr (aN (zc 3) zf)) (zc 4))) (z3b (yo (zbQ hu) (r_k hr (aN (zc 3) (aN (zc 4) zf))) (ji zp8 (zc 5) zgk))))) ?_ ?_
    ·refine zj ?_;exact (zQ z6y)
    ·exact yR
   refine zh ?_ ?_
   ·refine z09 (yo z6o (zc 5) zgk) ?_ ?_
    ·refine zh ?_ ?_;·exact (xX 6 z1N.nd (xQ wc (by rfl) T.f18 yA (aO (zO ["_law_one","_law_other"] [none,none] (by exact hc) (zeY (by rfl) T.f19 (aS (z3S (zc 5) zI) (aS (z3S (zc 5) zI) zf))) (λ_ _ _=>z0I 0 1 (by exact hc) zq5) (z0a 0 1 (by decide) (by rfl) (by rfl)) (λ_ _ _=>zT) (λ_ _ _=>(ym zbk (zc 1) (zc 0)))) zf) (he:=(zG ..))))
     refine zj ?_;refine z09 (RW.rt (zbU (yo z6o (r_k hr (aN (zc 3) (aN (zc 4) (aN (zc 5) zf)))) z6y) (z3b (yo z6o (r_k hr (aN (zc 3) (aN (zc 6) zf))) z6y)))) ?_ ?_
     ·refine zj ?_;exact (zQ z6y)
     ·exact yR
    ·exact yR
   refine zh ?_ ?_;·exact (xX 7 z1N.nd (ym vQ zI (r_k hr (aN (zc 2) (aB (ym zal zI (zA (jo (by exact hc)) (by rfl) T.f12 qj (aN (zc 3) zf) (he:=(zp ..)))) zf)))))
   refine zj ?_;refine z09 (yo (zbQ hu) (r_k hr (aQ (xQ wc (by rfl) T.f18 yA (aO (zO ["_law_many","_law_one"] [some 7,none] (by exact hc) (xz (zc 3)) (λ_ _ _=>zL (i:=1) zpB (by rfl) (by first | exact Or.inl rfl | exact Or.inr rfl)) (zJ 1 (by rfl)) (λ_ _ _=>zT) (λ_ _ _=>(ym uU (zc 0) (zc 1)))) zf) (he:=(zG ..))) zf) (he:=(xP ..))) (r_k hr (aN (zc 3) zf))) ?_ ?_
   ·refine zj ?_;exact (zQ z6y)
   ·exact yR
  refine zj ?_;exact (zQ z6y)
end
end bH
namespace Pr
open L2 Dd Pm Pg Pn Po
theorem z5q:∀(F:List (List Int)),D.flat.flats (F.map rD)=true
 | []=>rfl | r::T=>by
  have:=z5q T;simp[flC,flN,flT,this,vH]
end Pr
namespace Pt
open L2 Dd Pm Pg Pn Po Pr
theorem len_sub{α:Type}:∀{l m:List α},l.Nodup->(∀x∈l,x∈m)->l.length<=m.length
 | [],m,_,_=>_az _ | a::l,m,nd,h=>by
  obtain⟨h1,h2⟩:=_bZ.mp nd;obtain⟨p,q,rfl⟩:=List.append_of_mem (h a (.head _));have:=len_sub  (m:=p++q) h2 λx hx=>by
   have z:=h x (.tail _ hx);rcases _D.mp z with z | z;·exact _aO _ z
   ·rcases _r.mp z with z | z;·exact absurd z (λe=>h1 (e ▸ hx))
    ·exact _w _ z
  simp only[_P,_n]at this ⊢;lia
noncomputable def zjB(m:Nat):List Int:=(List.range (m+1)).map λk:Nat=>((k:Nat):Int)
theorem z9x   : x∈zjB m ↔ 0<=x/\x<=m:=by
 unfold zjB;rw[_m];constructor
 ·rintro⟨k,hk,rfl⟩;rw[_bs]at hk;lia
 ·rintro⟨h0,h1⟩;exact⟨x.toNat,by rw[_bs];lia,by lia⟩
noncomputable def zk1(n m:Nat):List (List Int):=jd (List.replicate n (zjB m))
theorem z2l   : v∈zk1 n m ↔ v.length=n/\∀x∈v,0<=x/\x<=m:=by
 unfold zk1;rw[z0C,_bE];constructor
 ·rintro⟨h1,h2⟩;refine⟨h1,λx hx=>?_⟩;obtain⟨i,hi,rfl⟩:=_v.mp hx;have:=h2 i (by lia);rw[show v.getD i 0=v[i] by simp[hi],show (List.replicate n (zjB m)).getD i []=zjB m by simp[show i<n by lia]]at this;exact z9x.mp this
 ·rintro⟨h1,h2⟩;refine⟨h1,λi hi=>?_⟩;rw[show (List.replicate n (zjB m)).getD i []=zjB m by simp[hi]];exact z9x.mpr (h2 _ (Pm.getD_mem (by lia)))
end Pt
namespace Pp
open L2 Dd
open Pm Pg
open Pn
theorem zbo  (h1:a<=x)(h2:x<=b)(s:Sto):vf [.int x,.int a,.int b] s=.ok .non s:=by
 have w:qE [.int x] s=.ok (.bl true) s:=z9s (by rfl) s;have st:zH ["thing","least","most"] [.int x,.int a,.int b]=[some (.int x),some (.int a),some (.int b)]:=rfl;simp only[vf,Mof,kJ,st,_n,_I,_G];rw[jp,zds];·rfl
 ·refine z7U (zdB (vO ?_)) (zdB (vO ?_));·rw[yE (x:=.int x) (by rfl)];exact w
  ·simp[h1,h2]
end Pp
namespace Pv
open L2 Dd Pm Pg Pn Po Pr Pp Pt
noncomputable def zbm(m:Nat):List Int:=(List.range (2*m+1)).map λk:Nat=>-(m:Int)+((k:Nat):Int)
theorem zag   : x∈zbm m ↔ x.natAbs<=m:=by
 unfold zbm;rw[_m];constructor
 ·rintro⟨k,hk,rfl⟩;rw[_bs]at hk;lia
 ·exact λh=>⟨(x+m).toNat,by rw[_bs];lia,by lia⟩
theorem zjL(m:Nat):(zbm m).Pairwise (· < ·):=by
 unfold zbm;rw[_bH];exact List.pairwise_lt_range.imp λ{a b} h=>by lia
noncomputable def box(n m:Nat):List (List Int):=jd (List.replicate n (zbm m))
theorem zfR(n m:Nat):box (n+1) m=zgQ (box n m) (zbm m):=by
 unfold box;rw[List.replicate_succ',jR]
theorem z2U  : (box n m).length<=(2*m+1) ^ n:=by simpa[box] using (z80 (List.replicate n (zbm m)) (k:=2*m+1) λc hc=>by rw[_a3 hc];simp[zbm])
theorem z7X(n m:Nat):Up (box n m):=zfe _ λc hc=>by rw[_a3 hc];exact zjL m
theorem xS   : v∈box n m ↔ v.length=n/\∀x∈v,x.natAbs<=m:=by
 unfold box;rw[z0C,_bE];constructor
 ·rintro⟨h1,h2⟩;refine⟨h1,λx hx=>?_⟩;obtain⟨i,hi,rfl⟩:=_v.mp hx;have:=h2 i (by lia);rw[show v.getD i 0=v[i] by simp[hi],show (List.replicate n (zbm m)).getD i []=zbm m by simp[show i<n by lia]]at this;exact zag.mp this
 ·rintro⟨h1,h2⟩;refine⟨h1,λi hi=>?_⟩;rw[show (List.replicate n (zbm m)).getD i []=zbm m by simp[hi]];exact zag.mpr (h2 _ (Pm.getD_mem (by lia)))
theorem z7m {n m:Nat} (hn:n<=4) (hm:m<=40000) (hs:(2*m+1) ^ n<=90000) (s:Sto):yp [.int n,.int (-(m:Int)),.int m] s=.ok (.lst ((box n m).map rD)) s:=by
 obtain⟨ρ',S',lp,a4,hρ,rfl⟩:=z0Z  (body:=λx ρ s=>(yu 4 x ρ s).bind fun ρ' s'=>xL ρ' s') (λi ρ S'=>∃a4,ρ=[some (.int n),some (.int (-(m:Int))),some (.int (m:Nat)),some (.lst ((box i m).map rD)),a4]/\S'=s) ((List.range n).map λk:Nat=>D.int (k:Nat)) 0 (by
   intro i x hx ρ S' ⟨a4,hρ,hS⟩;subst hρ hS;rw[_aV];have hi:i<n:=by simpa using ((_b.mp hx).1)
   have eg:((box i m).flatMap λa=>(List.range (2*m+1)).map λk=>rD (a++[-(m:Nat)+((k:Nat):Int)]))=(box (i+1) m).map rD:=by
    rw[zfR,zgQ,List.map_flatMap,zbm];simp[_C]
   have c:=zdy (fi:=zM (zd 3)) (mp:=[some 1,some 2,none,none]) (k1:=2) (k2:=3) (fi2:=zfd (za (zd 0) (za (eOp ug (zd 1) (eC (.int 1))) zi))) (fe:=eOp ug (zd 2) (z5R (za (zd 3) zi))) (ρ:=[some (.int n),some (.int (-(m:Int))),some (.int m),some (.lst ((box i m).map rD)),some x]) (s:=S') rD (λ_ (k:Nat)=>D.int (-(m:Nat)+(k:Nat))) (box i m) (λ_=>List.range (2*m+1)) (λa k=>rD (a++[-(m:Nat)+((k:Nat):Int)])) (yZ (vr rfl)) (λa _=>by
     rw[ziy,zB,vr  rfl,Rb,zB,op2   (vr rfl) rfl,z2V,Rb,zY];simp only[Rb];rw[_l (by lia),show ((m:Nat)+1 - -(m:Int)).toNat=2*m+1 by lia];rfl) (λa ha k _=>by
     have la:=(xS.mp ha).1;rw[op2  (y:=rD [-(m:Nat)+(k:Nat)]) (vr rfl) (by rfl),z1C,_l (by simp[cap];lia)];simp) (by
     rw[eg,_z];have h1:=z2U (n:=i+1) (m:=m);have h2:(2*m+1) ^ (i+1)<=(2*m+1) ^ n:=_Z (by lia) (by lia);have:90000<=cap:=by unfold cap;lia
     lia);rw[eg]at c;refine⟨[some (.int (n:Nat)),some (.int (-(m:Int))),some (.int m),some (.lst ((box (i+1) m).map rD)),some x],S',?_,some x,rfl,rfl⟩;show xL [some (.int n),some (.int (-(m:Int))),some (.int m),some (.lst ((box i m).map rD)),some x] S'=_;rw[xL,yW,c];rfl) [some (.int n),some (.int (-(m:Int))),some (.int (m:Int)),some (.lst ((box 0 m).map rD)),none] s ⟨none,rfl,rfl⟩;rw[_aV,_z,List.length_range]at hρ;have f2:xJ [some (.int n),some (.int (-(m:Int))),some (.int m),some (.lst ((box 0 m).map rD)),none] S'=.ok (.nx ρ') S':=by
  rw[xJ,z3P,z8o (n:=n)  (by lia) (by rfl)];exact lp
 have key:∀(dn dz dm d0 d:D) (a4:Option D),vh [some dn,some dz,some dm,none,none] S'=.ok (.nx [some dn,some dz,some dm,some d0,none]) S'->xJ [some dn,some dz,some dm,some d0,none] S'=.ok (.nx [some dn,some dz,some dm,some d,a4]) S'->yp [dn,dz,dm] S'=.ok d S':=λdn dz dm d0 d a4 h1 h2=>by
  have st:zH ["size","least","most","found","place"] [dn,dz,dm]=[some dn,some dz,some dm,none,none]:=rfl;simp only[yp,Mof,qg,st,_G];rw[zr h1,zr h2];rfl
 rw[hρ]at f2;exact key _ _ _ _ _ _ (by
  rw[vh,yW,zh8,zB,z4x,zY];rfl) f2
noncomputable def wgt(x:List Int):Int:=maxL (x.map λi=>((i.natAbs:Nat):Int))
noncomputable def lng(x:List Int):Int:=(x.map λi=>((i.natAbs:Nat):Int)).sum
theorem z9O {x:List Int} (hl:x.length<=1000) (s:Sto):zu (zM (zd 0)) [none] (yu 0) zV (ze z6u (za (zd 0) zi)) [some (rD x)] s=.ok (.lst (iL (x.map λi=>((i.natAbs:Nat):Int)))) s:=by
 rw[(comp_map (ρ:=[some (rD x)]) (mp:=[none]) (fg:=yu 0) (fe:=ze z6u (za (zd 0) zi)) (s:=s) (fi:=zM (zd 0)) D.int (λi:Int=>D.int (i.natAbs:Nat)) (λi=>[some (.int i)]) x (uX (vr rfl)) (λi _=>rfl) (λi _=>by rw[yE  (vr rfl)];simp only[z6u];congr 2;split<;>lia) (by simp[cap];lia))];simp[_C]
theorem z2j  (h0:x≠[])(hl:x.length<=1000)(s:Sto):wJ [rD x] s=.ok (.int (wgt x)) s:=(λd ns hn h=>by
  have st:zH ["line"] [d]=[some d]:=rfl;simp only[wJ,Mof,z7c,st,_G];rw[z4W,yy,yE h,zgO s hn];rfl:∀(d:D)(ns:List Int),ns≠[]->zu (zM (zd 0)) [none] (yu 0) zV (ze z6u (za (zd 0) zi)) [some d] s=.ok (.lst (iL ns)) s->wJ [d] s=.ok (.int (maxL ns)) s) _ _ (by simpa using h0) (z9O hl s)
theorem z2p  (hl:x.length<=1000)(s:Sto):wL [rD x] s=.ok (.int (lng x)) s:=(λd ns h=>by
  have st:zH ["line"] [d]=[some d]:=rfl;simp only[wL,Mof,z6U,st,_G];rw[z4V,yy,yE h,za6];rfl:∀(d:D)(ns:List Int),zu (zM (zd 0)) [none] (yu 0) zV (ze z6u (za (zd 0) zi)) [some d] s=.ok (.lst (iL ns)) s->wL [d] s=.ok (.int ns.sum) s) _ _ (z9O hl s)
theorem zgF{x:List Int}{i:Int}(h:i∈x):(i.natAbs:Int)<=wgt x:=maxL_ge _ (_m.mpr ⟨i,h,rfl⟩)
theorem z4L{x:List Int}(h:x≠[]):∃i∈x,wgt x=((i.natAbs:Nat):Int):=by
 obtain⟨i,hi,e⟩:=_m.mp (maxL_mem ((by simpa using h)));exact⟨i,hi,e.symm⟩
theorem z4P  {m:Nat}(h:x≠[]):wgt x<=(m:Int) ↔ ∀i∈x,i.natAbs<=m:=by
 constructor
 ·intro q i hi;have:=zgF hi;lia
 ·intro q;obtain⟨i,hi,e⟩:=z4L h;have:=q i hi;lia
noncomputable def ent(k:Int)(ys:List D):Option (List D×Bool)->Prop
 | none=>ys=[] | some (zs,_)=>ys=zs/\ys≠[]
structure Grp(f:Int->List D)(xs:List D):Prop where get:∀k,∃o,z08 k xs=some o/\ent k (f k) o
structure zk6(f:Int->List D)(xs:List D):Prop where get:∀k,(f k=[]/\z08 k xs=some none)\/(f k≠[]/\z08 k xs=some (some (f k,false)))
theorem zk6.grp   (h:zk6 f xs):Grp f xs:=⟨λk=>by
 rcases h.get k with⟨h1,h2⟩ | ⟨h1,h2⟩;·exact⟨_,h2,h1⟩
 ·exact⟨_,h2,rfl,h1⟩⟩
theorem jA   : ∀{xs:List D},z08 j xs=some none->z08 k (xs++[.tup [.int j,.lst [d]]])=(if j=k then some (some ([d],false)) else z08 k xs)\/z08 k xs=none
 | [],h=>.inl rfl | x::xs,h=>by
  obtain⟨i,ys,z,e,⟨_,q⟩ | ⟨c,q⟩⟩:=z0h h;·cases q
  ·rw[_aQ,jF e,jF e];by_cases c2:i=k;·rw[_l c2,_l c2,_p λz=>c (c2.trans z.symm)];exact .inl rfl
   ·rw[_p c2,_p c2];exact jA q
theorem z99{g:List D->D}(hg:z6v (g ys)=some (j,iq,z')):∀{xs:List D},z08 j xs=some (some (ys,z))->z08 k (chK g j xs)=(if j=k then some (some (iq,z')) else z08 k xs)
 | [],h=>by cases h | x::xs,h=>by
  obtain⟨i,zs,y,e,⟨rfl,q⟩ | ⟨c,q⟩⟩:=z0h h
  ·cases q;rw[z78 e,_l rfl,jF hg,jF e];by_cases c:i=k;·rw[_l c,_l c]
   ·rw[_p c,_p c,_p c]
  ·rw[z78 e,_p c,jF e,jF e,z99 hg q];by_cases c2:i=k;·rw[_l c2,_l c2,_p λz=>c (c2.trans z.symm)]
   ·rw[_p c2,_p c2]
theorem z0F{g:List D->D}:∀{xs:List D},(chK g j xs).length=xs.length
 | []=>rfl | x::xs=>by cases e:z6v x with
  | none=>rw[zkQ e];exact _aw (· + 1) z0F | some q=>
   rw[z78 e];split;·rfl
   ·exact _aw (· + 1) z0F
theorem zl4{g:List D->D}(h:xs≠[]):chK g j xs≠[]:=λz=>h (_bv (z0F.symm.trans (_aw List.length z)))
noncomputable def zlq(f:Int->List D)(j:Int)(d:D):Int->List D:=λk=>if j=k then f k++[d] else f k
theorem zjR   (g:zk6 f xs)        (ho:fo ρ s=.ok (.dlo l) s) (hl:s[l]? = some xs) (hk:fk ρ s=.ok (.int j) s) (hd:ρ[i]? = some (some d)) (hf:d.flat=true) (hc:xs.length<cap) (hn:(f j).length<cap): ∃ys,zbi fo fk i ρ s=.ok .non (s.set l ys)/\zk6 (zlq f j d) ys/\ys.length<=xs.length+1/\ys≠[]:=by
 have un:zbi fo fk i ρ s=(match z08 j xs with
    | some none=>if d.flat=true/\xs.length<cap then .ok .non (s.set l (xs++[.tup [.int j,.lst [d]]])) else .no | some (some (ys,false))=>if d.flat=true/\ys.length<cap/\xs.length<cap then .ok .non (s.set l (z8B j d xs)) else .no | _=>.no):=by
  unfold zbi;rw[ho,Rb];simp only[hl];split
  ·rename_i t e;simp only[_K]at e;exact absurd e ((λt e=>by rcases g.get 0 with⟨_,h⟩ | ⟨_,h⟩<;>rw[e]at h<;>(cases h):∀t,xs≠.non::t) _)
  ·rw[hk,Rb];simp only[hl,hd]<;>rfl
 rw[un];rcases g.get j with⟨h1,h2⟩ | ⟨h1,h2⟩
 ·rw[h2];rw[_l ⟨hf,hc⟩];refine⟨_,rfl,⟨λk=>?_⟩,by simp,by simp⟩;have q:=jA (k:=k) (d:=d) h2;unfold zlq;by_cases c:j=k
  ·subst c;rw[_l rfl,h1];right;rcases q with q | q;·rw[q,_l rfl];exact⟨by simp,rfl⟩
   ·rw[h2]at q;cases q
  ·rw[_p c];rcases q with q | q;·rw[q,_p c];exact g.get k
   ·rcases g.get k with⟨_,z⟩ | ⟨_,z⟩<;>rw[z]at q<;>cases q
 ·rw[h2];simp only;rw[_l ⟨hf,hn,hc⟩];refine⟨_,rfl,⟨λk=>?_⟩,by rw[z0F];omega,λz=>?_⟩
  ·unfold zlq;rw[z99 rfl h2];by_cases c:j=k
   ·subst c;rw[_l rfl,_l rfl];right;exact⟨by simp,rfl⟩
   ·rw[_p c,_p c];exact g.get k
  ·have:=_aw List.length z;rw[z0F]at this;rw[(_bv this)]at h2;cases h2
theorem zga   (g:Grp f xs)      (ho:fo ρ s=.ok (.dlo l) s)(hl:s[l]? = some xs)(hk:fk ρ s=.ok (.int j) s)(ne:xs≠[]): ∃ys,z6z fo fk ρ s=.ok (.lst (f j)) (s.set l ys)/\Grp f ys/\ys≠[]:=by
 obtain⟨x,t,rfl⟩:∃x t,xs=x::t:=by cases xs with
  | nil=>exact absurd rfl ne | cons x t=>exact⟨x,t,rfl⟩
 have same:s.set l (x::t)=s:=by
  obtain⟨h1,h2⟩:=_b.mp hl;rw[<- h2];exact List.set_getElem_self h1
 unfold z6z;rw[ho,Rb];simp only;rw[hk,Rb];simp only[hl];obtain⟨o,h1,h2⟩:=g.get j;rw[h1];match o,h2 with
 | none,h2=>
  rw[h2];exact⟨x::t,by rw[same],g,by simp⟩ | some (zs,true),h2=>
  rw[h2.1];exact⟨x::t,by rw[same],g,by simp⟩ | some (zs,false),h2=>
  rw[h2.1];refine⟨_,rfl,⟨λk=>?_⟩,zl4 (by simp)⟩;rw[z99 rfl h1];by_cases c:j=k
  ·subst c;rw[_l rfl];exact⟨_,rfl,h2⟩
  ·rw[_p c];exact g.get k
end Pv
namespace Pt
open L2 Dd Pm Pg Pn Po Pr Pp
theorem zij{α:Type}        (g f:α->D)(p:α->Bool)(ev:α->Ev)(l:List α) (hi:fi ρ s=.ok (l.map g,[]) s1)(hg:∀a∈l,fg (g a) (yI mp ρ) s1=.ok (ev a) s1)(ht:∀a∈l,ft (ev a) s1=.ok (p a) s1)(he:∀a∈l,p a=true->fe (ev a) s1=.ok (f a) s1)(hl:l.length<=cap): zu fi mp fg ft fe ρ s=.ok (.lst ((l.filter p).map f)) s1:=by
 rw[vM,uJ,hi,Rb];rw[jq g f p l [] (by
  intro a ha;simp only[hg a ha,ht a ha,Rb];cases hp:p a with
  | true=>simp[he a ha hp] | false=>rfl) (by simpa using hl)];rfl
end Pt
namespace Pv
open L2 Dd Pm Pg Pn Po Pr Pp Pt
theorem z19{α:Type}     (og:okG G all s)(g f:α->D)(p:α->Bool):∀(l:List α)(af:List D),(∀a∈l,body (g a) s=.ok (if p a=true then some (f a) else none) s)->af.length+l.length<=cap->vw G all body (l.map g) af s=.ok (af++(l.filter p).map f) s
 | [],af,_,_=>by simp[vw,og] | x::xs,af,hb,hl=>by
  rw[_A,vw,_l og,hb x (by simp)];cases hp:p x with
  | true=> simp[(show af.length<cap from by simp at hl;lia),(z19  og g f p xs (af++[f x]) (λy hy=>hb y (by simp[hy])) (by simp at hl ⊢;lia)),hp] | false=> simp[(z19  og g f p xs af (λy hy=>hb y (by simp[hy])) (by simp at hl ⊢;lia)),hp]
theorem zea{α:Type}         (g f:α->D)(p:α->Bool)(ev:α->Ev)(l:List α) (hi:fi ρ s=.ok (l.map g,G) s)(og:okG G (l.map g) s)(hg:∀a∈l,fg (g a) (yI mp ρ) s=.ok (ev a) s)(ht:∀a∈l,ft (ev a) s=.ok (p a) s)(he:∀a∈l,p a=true->fe (ev a) s=.ok (f a) s)(hl:l.length<=cap): zu fi mp fg ft fe ρ s=.ok (.lst ((l.filter p).map f)) s:=by
 rw[vM,uJ,hi,Rb,z19 og g f p l [] (by
  intro a ha;simp only[hg a ha,ht a ha,Rb];cases hp:p a with
  | true=>simp[he a ha hp] | false=>rfl) (by simpa using hl)];rfl
noncomputable def zaB(v:List Int)(x:List Int):Int:=dot x (v.take (v.length / 2))
noncomputable def zfy(v:List Int)(x:List Int):Int:=dot x (v.drop (v.length / 2))
noncomputable def zcb(v:List Int)(P:List (List Int)):Int->List D:=λk=>(P.filter λx=>decide (zaB v x=k)).map rD
noncomputable def fnd(v:List Int)(F G:List (List Int)):List (List Int):=G.flatMap λg=>(F.filter λx=>decide (zaB v x=-zfy v g)).map λx=>x++g
noncomputable def zbY(v x:List Int):Bool:=decide (dot x v=0)&&decide (0<wgt x)
noncomputable def rel(v:List Int)(m:Nat):List (List Int):=(box v.length m).filter (zbY v)
noncomputable def z9H(v:List Int)(m:Nat):List (List Int):=(box v.length m).filter λx=>decide (dot x v=0)
theorem zfZ(v:List Int)(P:List (List Int))(x:List Int):zlq (zcb v P) (zaB v x) (rD x)=zcb v (P++[x]):=by
 funext k;unfold zlq zcb;rw[List.filter_append,_b0];by_cases c:zaB v x=k;·rw[_l c,List.filter_cons_of_pos (by simpa using c)];rfl
 ·rw[_p c,List.filter_cons_of_neg (by simpa using c)];simp
theorem z4Z  (hx:x.length=v.length / 2):dot (x++g) v=zaB v x+zfy v g:=by
 conv=>lhs;rw[<- _au (v.length / 2) v]
 exact vE (by rw[_aZ];lia)
theorem zcP    : z∈fnd v (box (v.length / 2) m) (box (v.length-v.length / 2) m) ↔ z∈z9H v m:=by
 simp only[fnd,z9H,_dm,_m,_L,_s];constructor
 ·rintro⟨g,hg,x,⟨hx,e⟩,rfl⟩;obtain⟨g1,g2⟩:=xS.mp hg;obtain⟨x1,x2⟩:=xS.mp hx;refine⟨xS.mpr ⟨by rw[_P];lia,λi hi=>?_⟩,?_⟩
  ·rcases _D.mp hi with hi | hi;·exact x2 i hi
   ·exact g2 i hi
  ·rw[z4Z x1];lia
 ·rintro⟨hz,e⟩;obtain⟨z1,z2⟩:=xS.mp hz;have l1:(z.take (v.length / 2)).length=v.length / 2:=by rw[_aZ];lia
  refine⟨z.drop (v.length / 2),xS.mpr ⟨by rw[_dh];lia,λi hi=>z2 i (_aS hi)⟩,z.take (v.length / 2),⟨xS.mpr ⟨l1,λi hi=>z2 i (_N hi)⟩,?_⟩,_au _ _⟩;rw[<- _au (v.length / 2) z,z4Z l1]at e;lia
theorem ze7   : (fnd v (box (v.length / 2) m) (box (v.length-v.length / 2) m)).Nodup:=by
 refine List.pairwise_flatMap.mpr ⟨λg hg=>?_,?_⟩
 ·rw[_bH];exact ((z7X _ _).nodup.filter _).imp λ{a b} h e=>h (List.append_cancel_right e)
 ·refine _bX (λ{a b} ha hb ne x hx y hy=>?_) (z7X (v.length-v.length / 2) m).nodup;obtain⟨p,hp,rfl⟩:=_m.mp hx;obtain⟨q,hq,rfl⟩:=_m.mp hy;have l1:=(xS.mp (_L.mp hp).1).1;have l2:=(xS.mp (_L.mp hq).1).1;exact λe=>ne (List.append_inj e (by lia)).2
theorem z6t   : (fnd v (box (v.length / 2) m) (box (v.length-v.length / 2) m)).Perm (z9H v m):=(_bO ze7 ((z7X _ _).nodup.filter _)).mpr λz=>zcP
theorem z59(v:List Int)(m:Nat):Up (rel v m):=(z7X _ _).filter _
theorem zcr(v:List Int)(m:Nat):rel v m=(z9H v m).filter λx=>decide (0<wgt x):=by
 unfold rel z9H;rw[List.filter_filter];refine List.filter_congr λx _=>?_;unfold zbY;rw[Bool.and_comm]
theorem zg2   : z8y lexN ((fnd v (box (v.length / 2) m) (box (v.length-v.length / 2) m)).filter λx=>decide (0<wgt x))=rel v m:=by
 refine z5P z2c ?_ ((z59 v m).imp λ{a b} h=>?_)
 ·rw[zcr];exact (z6t.filter _).symm
 ·rw[uj (λe=>by rw[e,vJ]at h;cases h),h];rfl
structure SmL(n:Nat)(v:List Int):Prop where
 len:v.length=n
 lo:2<=n
 hi:n<=4
 bd:∀x∈v,0<=x/\x<=1000
theorem SmL.big   (h:SmL n v):∀x∈v,x.natAbs<2 ^ 10:=λx hx=>by have:=h.bd x hx;lia
noncomputable abbrev W7(a0 a1 a2 a3 a4 a5 a6:Option D):Ev:=[a0,a1,a2,a3,a4,a5,a6]
theorem zdP   (hx:x∈box n m)(hm:m<=40000):∀i∈x,i.natAbs<2 ^ 16:=λi hi=>by have:=(xS.mp hx).2 i hi;lia
section
variable {n m:Nat}{v:List Int}(L:SmL n v)(hm:m<=40000)(h1:(2*m+1) ^ (v.length / 2)<=90000)(h2:(2*m+1) ^ (v.length-v.length / 2)<=90000)(hf:(z9H v m).length<=90000)
include L hm h1 in
theorem zoA (dl dm:D) (hl:dl=rD v) (s:Sto):∃xs,∃a4,qe [] ((box (v.length / 2) m).map rD) (λd ρ s=>(yu 4 d ρ s).bind fun ρ' s'=>yk ρ' s') ((box (v.length / 2) m).map rD) (W7 (some dl) (some dm) (some (.int ((v.length / 2:Nat):Int))) (some (.dlo s.length)) none none none) (s++[[]]) = .ok (.nx (W7 (some dl) (some dm) (some (.int ((v.length / 2:Nat):Int))) (some (.dlo s.length)) a4 none none)) (s++[xs])/\zk6 (zcb v (box (v.length / 2) m)) xs/\xs≠[]:=by
 have bl:=z2U (n:=v.length / 2) (m:=m);have gY:(90000:Nat)<cap:=by unfold cap;lia
 have pL:v.length / 2<=2:=by have:=L.len;have:=L.hi;lia
 obtain⟨ρ',S',lp,a4,xs,hρ,hS,g,xl,xn⟩:=z0Z (all:=(box (v.length / 2) m).map rD) (body:=λd ρ s=>(yu 4 d ρ s).bind fun ρ' s'=>yk ρ' s') (λi ρ S=>∃a4 xs,ρ=W7 (some dl) (some dm) (some (.int ((v.length / 2:Nat):Int))) (some (.dlo s.length)) a4 none none/\S=s++[xs]/\zk6 (zcb v ((box (v.length / 2) m).take i)) xs/\xs.length<=i/\(0<i->xs≠[])) ((box (v.length / 2) m).map rD) 0 (by
   intro i d hd ρ S ⟨a4,xs,hρ,hS,g,xl,xn⟩;subst hρ hS;rw[_aV]at g xl xn ⊢;rw[_ae,_O]at hd;obtain⟨x,ex,rfl⟩:=hd;have xm:x∈box (v.length / 2) m:=_d ex;have il:i<(box (v.length / 2) m).length:=(_b.mp ex).1;have tk:(box (v.length / 2) m).take (i+1)=(box (v.length / 2) m).take i++[x]:=by rw[List.take_succ,ex];rfl
   have pM:x.length<=2:=by rw[(xS.mp xm).1];exact pL
   have tg:zK [rD x,rD (v.take (v.length / 2))] (s++[xs])=.ok (.int (zaB v x)) (s++[xs]):=vI (m:=16) (k:=10) _ (zdP xm hm) (λy hy=>L.big y (_N hy)) (by lia) (by lia) (by lia);have sl:dSl dl none (some (((v.length / 2:Nat):Int))) (s++[xs])=.ok (rD (v.take (v.length / 2))) (s++[xs]):=by rw[hl,z2N];simp[rD,List.map_take]
   have lG:(s++[xs])[s.length]? = some xs:=by simp
   have key:∀e:D,∀k,zK [e,rD (v.take (v.length / 2))] (s++[xs])=.ok (.int k) (s++[xs])->ze zK (za (zd 4) (za (eSl (zd 0) zW (wD (zd 2))) zi)) (W7 (some dl) (some dm) (some (.int ((v.length / 2:Nat):Int))) (some (.dlo s.length)) (some e) none none) (s++[xs])=.ok (.int k) (s++[xs]):=λe k q=>by
    rw[call2 (x:=e) (y:=rD (v.take (v.length / 2))) (vr rfl) (by rw[zbG,vr (d:=dl) rfl,Rb,qm,Rb,z1j,vr (d:=.int ((v.length / 2:Nat):Int)) rfl,Rb];exact sl)];exact q
   have gl:(zcb v ((box (v.length / 2) m).take i) (zaB v x)).length<cap:=by
    unfold zcb;rw[_z];have:=_bk (λx'=>decide (zaB v x'=zaB v x)) ((box (v.length / 2) m).take i);rw[_aZ]at this;lia
   obtain⟨ys,e,g',yl,yn⟩:=zjR g (fo:=zd 3) (fk:=ze zK (za (zd 4) (za (eSl (zd 0) zW (wD (zd 2))) zi))) (i:=4) (ρ:=W7 (some dl) (some dm) (some (.int ((v.length / 2:Nat):Int))) (some (.dlo s.length)) (some (rD x)) none none) (s:=s++[xs]) (l:=s.length) (j:=zaB v x) (d:=rD x) (vr rfl) lG (key _ _ tg) rfl (by simp[D.flat,vH]) (by lia) gl;refine⟨_,_,?_,some (rD x),ys,rfl,rfl,?_,by lia,λ_=>yn⟩
   ·rw[z1W,Rb];show yk (W7 (some dl) (some dm) (some (.int ((v.length / 2:Nat):Int))) (some (.dlo s.length)) (some (rD x)) none none) (s++[xs])=_;rw[yk,qd,e,Rb,zce]
   ·rw[tk,<- zfZ];exact g') (W7 (some dl) (some dm) (some (.int ((v.length / 2:Nat):Int))) (some (.dlo s.length)) none none none) (s++[[]]) ⟨none,[],rfl,rfl,⟨λk=>.inl ⟨by simp[zcb],rfl⟩⟩,by simp,λh=>absurd h (by lia)⟩;rw[_aV,_z]at g xl xn;rw[_a9 (_h _)]at g;refine⟨xs,a4,by rw[lp,hρ,hS],g,xn ?_⟩;have:List.replicate (v.length / 2) (0:Int)∈box (v.length / 2) m:=xS.mpr ⟨by simp,λi hi=>by rw[_a3 hi];lia⟩;exact List.length_pos_of_mem this
end
theorem zaw(v:List Int)(F G:List (List Int))(g:List Int):fnd v F (G++[g])=fnd v F G++(F.filter λx=>decide (zaB v x=-zfy v g)).map λx=>x++g:=by
 unfold fnd;simp
theorem z8p(v:List Int)(F G:List (List Int))(i:Nat):(fnd v F (G.take i)).length<=(fnd v F G).length:=by
 conv=>rhs;rw[<- _au i G]
 unfold fnd;rw[List.flatMap_append,_P];lia
theorem zhN{s:Sto}  : (s++[xs]++[zs]).set s.length ys=s++[ys]++[zs]:=by simp
section
variable {n m:Nat}{v:List Int}(L:SmL n v)(hm:m<=40000)(h1:(2*m+1) ^ (v.length / 2)<=90000)(h2:(2*m+1) ^ (v.length-v.length / 2)<=90000)(hf:(z9H v m).length<=90000)
include L hm h1 hf in
theorem zg4 (dl dm:D) (hl:dl=rD v) (s:Sto) {xs:List D} (g0:Grp (zcb v (box (v.length / 2) m)) xs) (x0:xs≠[]) (a4:Option D):∃ys a6,qe [] ((box (v.length-v.length / 2) m).map rD) (λd ρ s=>(yu 6 d ρ s).bind fun ρ' s'=>yh ρ' s') ((box (v.length-v.length / 2) m).map rD) (W7 (some dl) (some dm) (some (.int ((v.length / 2:Nat):Int))) (some (.dlo s.length)) a4 (some (.loc (s.length+1))) none) (s++[xs]++[[]]) = .ok (.nx (W7 (some dl) (some dm) (some (.int ((v.length / 2:Nat):Int))) (some (.dlo s.length)) a4 (some (.loc (s.length+1))) a6)) (s++[ys]++[(fnd v (box (v.length / 2) m) (box (v.length-v.length / 2) m)).map rD]):=by
 have bl:=z2U (n:=v.length / 2) (m:=m);have gY:(90000:Nat)<cap:=by unfold cap;lia
 have vl:=L.len;have v2:=L.lo;have v4:=L.hi;have ft:(fnd v (box (v.length / 2) m) (box (v.length-v.length / 2) m)).length<=90000:=by rw[z6t.length_eq];exact hf
 obtain⟨ρ',S',lp,a6,ys,hρ,hS,g,yn⟩:=z0Z (all:=(box (v.length-v.length / 2) m).map rD) (body:=λd ρ s=>(yu 6 d ρ s).bind fun ρ' s'=>yh ρ' s') (λi ρ S=>∃a6 ys,ρ=W7 (some dl) (some dm) (some (.int ((v.length / 2:Nat):Int))) (some (.dlo s.length)) a4 (some (.loc (s.length+1))) a6/\S=s++[ys]++[(fnd v (box (v.length / 2) m) ((box (v.length-v.length / 2) m).take i)).map rD]/\Grp (zcb v (box (v.length / 2) m)) ys/\ys≠[]) ((box (v.length-v.length / 2) m).map rD) 0 (by
   intro i d hd ρ S ⟨a6,ys,hρ,hS,g,yn⟩;subst hρ hS;rw[_aV];rw[_ae,_O]at hd;obtain⟨x,ex,rfl⟩:=hd;have xm:x∈box (v.length-v.length / 2) m:=_d ex;have tk:(box (v.length-v.length / 2) m).take (i+1)=(box (v.length-v.length / 2) m).take i++[x]:=by rw[List.take_succ,ex];rfl
   have pM:x.length<=4:=by rw[(xS.mp xm).1];lia
   have fl:=z8p v (box (v.length / 2) m) (box (v.length-v.length / 2) m) (i+1);rw[tk,zaw,_P,_z]at fl;rw[tk,zaw];generalize hA:fnd v (box (v.length / 2) m) ((box (v.length-v.length / 2) m).take i)=A at fl;have sl:∀S:Sto,dSl dl (some (((v.length / 2:Nat):Int))) none S=.ok (rD (v.drop (v.length / 2))) S:=λS=>by rw[hl,z3E];simp[rD,_bY]
   have tg:zK [rD x,rD (v.drop (v.length / 2))] (s++[ys]++[A.map rD])=.ok (.int (zfy v x)) (s++[ys]++[A.map rD]):=vI (m:=16) (k:=10) _ (zdP xm hm) (λy hy=>L.big y (_aS hy)) (by lia) (by lia) (by lia);have key:∀e:D,∀k,zK [e,rD (v.drop (v.length / 2))] (s++[ys]++[A.map rD])=.ok (.int k) (s++[ys]++[A.map rD])->z3T (ze zK (za (zd 6) (za (eSl (zd 0) (wD (zd 2)) zW) zi))) (W7 (some dl) (some dm) (some (.int ((v.length / 2:Nat):Int))) (some (.dlo s.length)) a4 (some (.loc (s.length+1))) (some e)) (s++[ys]++[A.map rD])=.ok (.int (-k)) (s++[ys]++[A.map rD]):=λe k q=>by
    rw[z2M,call2 (x:=e) (y:=rD (v.drop (v.length / 2))) (vr rfl) (by rw[zbG,vr (d:=dl) rfl,Rb,z1j,vr (d:=.int ((v.length / 2:Nat):Int)) rfl,Rb];simp only[Rb];rw[qm,Rb];exact sl _),q];rfl
   have lG:(s++[ys]++[A.map rD])[s.length]? = some ys:=by rw[_af,_U (_h _)];simp
   obtain⟨zs,e,g',zn⟩:=zga g (fo:=zd 3) (fk:=z3T (ze zK (za (zd 6) (za (eSl (zd 0) (wD (zd 2)) zW) zi)))) (ρ:=W7 (some dl) (some dm) (some (.int ((v.length / 2:Nat):Int))) (some (.dlo s.length)) a4 (some (.loc (s.length+1))) (some (rD x))) (s:=s++[ys]++[A.map rD]) (l:=s.length) (j:=-zfy v x) (vr rfl) lG (key _ _ tg) yn;rw[zhN]at e;have gf:zcb v (box (v.length / 2) m) (-zfy v x)=((box (v.length / 2) m).filter λy=>decide (zaB v y=-zfy v x)).map rD:=rfl;have gm:∀y∈(box (v.length / 2) m).filter (λy=>decide (zaB v y=-zfy v x)),y.length<=4:=λy hy=>by rw[(xS.mp (_L.mp hy).1).1];lia
   rw[gf]at e;generalize (box (v.length / 2) m).filter (λy=>decide (zaB v y=-zfy v x))=B at e fl gm;have c:=zij (s:=s++[ys]++[A.map rD]) (s1:=s++[zs]++[A.map rD]) (ρ:=W7 (some dl) (some dm) (some (.int ((v.length / 2:Nat):Int))) (some (.dlo s.length)) a4 (some (.loc (s.length+1))) (some (rD x))) (fi:=zM (z6z (zd 3) (z3T (ze zK (za (zd 6) (za (eSl (zd 0) (wD (zd 2)) zW) zi)))))) (mp:=[some 6,none]) (fg:=yu 1) (ft:=zV) (fe:=eOp ug (zd 1) (zd 0)) rD (λy=>rD (y++x)) (λ_=>true) (λy=>[some (rD x),some (rD y)]) B (by rw[z00,e,Rb]) (λy _=>rfl) (λy _=>rfl) (λy hy _=>by
     have:=gm y hy;rw[op2 (x:=rD y) (y:=rD x) (vr rfl) (vr rfl),z1C,_l (by simp[cap];lia),<- _b0]) (by lia);rw[show B.filter (λ_=>true)=B from _bU.mpr (by simp)]at c;have gZ:(s++[zs]++[A.map rD])[s.length+1]? = some (A.map rD):=by rw[_U (by simp)];simp
   refine⟨W7 (some dl) (some dm) (some (.int ((v.length / 2:Nat):Int))) (some (.dlo s.length)) a4 (some (.loc (s.length+1))) (some (rD x)),_,?_,some (rD x),zs,rfl,rfl,g',zn⟩;rw[z1W,Rb];show yh (W7 (some dl) (some dm) (some (.int ((v.length / 2:Nat):Int))) (some (.dlo s.length)) a4 (some (.loc (s.length+1))) (some (rD x))) (s++[ys]++[A.map rD])=_;have fB:D.flat.flats (B.map λy=>rD (y++x))=true:=by
    have:=z5q (B.map λy=>y++x);rwa [_aG]at this
   have au:∀(f:FE) (ρ:Ev) (S S1:Sto) (l:Nat) (as bs:List D),ρ[5]? = some (some (.loc l))->f ρ S=.ok (.lst bs) S1->S1[l]? = some as->D.flat.flats bs=true->as.length+bs.length<=cap->zdr 5 f ρ S=.ok (.nx (ρ.set 5 (some (.loc l)))) (S1.set l (as++bs)):=λf ρ S S1 l as bs e1 e2 e3 e4 e5=>by
    unfold zdr;simp only[e1,e2,Rb,e3];rw[_l ⟨e4,e5⟩]
   rw[yh,au _ _ _ _ (s.length+1) _ _ rfl c gZ fB (by simp only[_z];lia)];rw[show s.length+1=(s++[zs]).length by simp,zce,_b0,_aG];rfl) (W7 (some dl) (some dm) (some (.int ((v.length / 2:Nat):Int))) (some (.dlo s.length)) a4 (some (.loc (s.length+1))) none) (s++[xs]++[[]]) ⟨none,xs,rfl,by simp[fnd],g0,x0⟩;rw[_aV,_z,_a9 (_h _)]at hS;exact⟨ys,a6,by rw[lp,hρ,hS]⟩
include L hm h1 h2 hf in
theorem z32 (s:Sto):zt [rD v,.int m] s=.ok (.lst ((rel v m).map rD)) s:=by
 have vl:=L.len;have v2:=L.lo;have v4:=L.hi;have gY:(90000:Nat)<cap:=by unfold cap;lia
 have key:∀(dl dm:D) (F G:List D) (R0:List (List Int)) (xs ys:List D) (a4 a6:Option D),xO [dl] s=.ok (.int v.length) s->xO [dl] (s++[xs]++[[]])=.ok (.int v.length) (s++[xs]++[[]])->(∃k:Int,dm=.int k/\yp [.int ((v.length / 2:Nat):Int),.int (-k),dm] (s++[[]])=.ok (.lst F) (s++[[]])/\yp [.int ((v.length-v.length / 2:Nat):Int),.int (-k),dm] (s++[xs]++[[]])=.ok (.lst G) (s++[xs]++[[]]))-> qe [] F (λd ρ s=>(yu 4 d ρ s).bind fun ρ' s'=>yk ρ' s') F (W7 (some dl) (some dm) (some (.int ((v.length / 2:Nat):Int))) (some (.dlo s.length)) none none none) (s++[[]])=.ok (.nx (W7 (some dl) (some dm) (some (.int ((v.length / 2:Nat):Int))) (some (.dlo s.length)) a4 none none)) (s++[xs])-> qe [] G (λd ρ s=>(yu 6 d ρ s).bind fun ρ' s'=>yh ρ' s') G (W7 (some dl) (some dm) (some (.int ((v.length / 2:Nat):Int))) (some (.dlo s.length)) a4 (some (.loc (s.length+1))) none) (s++[xs]++[[]])=.ok (.nx (W7 (some dl) (some dm) (some (.int ((v.length / 2:Nat):Int))) (some (.dlo s.length)) a4 (some (.loc (s.length+1))) a6)) (s++[ys]++[R0.map rD])-> R0.length<=90000->(∀x∈R0,x≠[]/\x.length<=4)->zt [dl,dm] s=.ok (.lst ((z8y lexN (R0.filter λx=>decide (0<wgt x))).map rD)) s:=λdl dm F G R0 xs ys a4 a6 e1 e2 e3 e4 e5 e6 e7=>by
  obtain⟨k,rfl,t1,t2⟩:=e3;have st:zH ["lot","most","middle","by_sum","first","found","second"] [dl,.int k]=W7 (some dl) (some (.int k)) none none none none none:=rfl;have f1:wx (W7 (some dl) (some (.int k)) none none none none none) s=.ok (.nx (W7 (some dl) (some (.int k)) (some (.int ((v.length / 2:Nat):Int))) none none none none)) s:=by
   rw[wx,yW,op2 (x:=.int v.length) (y:=.int 2) (by rw[yE (x:=dl) (vr rfl)];exact e1) rfl];rfl
  have f2:vW (W7 (some dl) (some (.int k)) (some (.int ((v.length / 2:Nat):Int))) none none none none) s=.ok (.nx (W7 (some dl) (some (.int k)) (some (.int ((v.length / 2:Nat):Int))) (some (.dlo s.length)) none none none)) (s++[[]]):=rfl;have f3:wA (W7 (some dl) (some (.int k)) (some (.int ((v.length / 2:Nat):Int))) (some (.dlo s.length)) none none none) (s++[[]])=.ok (.nx (W7 (some dl) (some (.int k)) (some (.int ((v.length / 2:Nat):Int))) (some (.dlo s.length)) a4 none none)) (s++[xs]):=by
   rw[wA,z3P,yZ (xs:=F) (by rw[zbq (x:=.int ((v.length / 2:Nat):Int)) (y:=.int (-k)) (z:=.int k) (vr rfl) (by rw[z2M,vr (d:=.int k) rfl,Rb]) (vr rfl)];exact t1),Rb];exact e4
  have f5:ww (W7 (some dl) (some (.int k)) (some (.int ((v.length / 2:Nat):Int))) (some (.dlo s.length)) a4 none none) (s++[xs])=.ok (.nx (W7 (some dl) (some (.int k)) (some (.int ((v.length / 2:Nat):Int))) (some (.dlo s.length)) a4 (some (.loc (s.length+1))) none)) (s++[xs]++[[]]):=by
   rw[ww,yW,zeb,zY,Rb,_l ⟨by simp,rfl⟩,Rb,_P];rfl
  have f6:wu (W7 (some dl) (some (.int k)) (some (.int ((v.length / 2:Nat):Int))) (some (.dlo s.length)) a4 (some (.loc (s.length+1))) none) (s++[xs]++[[]])=.ok (.nx (W7 (some dl) (some (.int k)) (some (.int ((v.length / 2:Nat):Int))) (some (.dlo s.length)) a4 (some (.loc (s.length+1))) a6)) (s++[ys]++[R0.map rD]):=by
   rw[wu,z3P,yZ (xs:=G) (by rw[zbq (x:=.int ((v.length-v.length / 2:Nat):Int)) (y:=.int (-k)) (z:=.int k) (by rw[op2 (x:=.int v.length) (y:=.int ((v.length / 2:Nat):Int)) (by rw[yE (x:=dl) (vr rfl)];exact e2) (vr rfl),z9y,show ((v.length:Int)-((v.length / 2:Nat):Int))=((v.length-v.length / 2:Nat):Int) by lia]) (by rw[z2M,vr (d:=.int k) rfl,Rb]) (vr rfl)];exact t2),Rb];exact e5
  have gZ:(s++[ys]++[R0.map rD])[s.length+1]? = some (R0.map rD):=by rw[_U (by simp)];simp
  generalize hS:s++[ys]++[R0.map rD]=S at f6 gZ;have tk:S.take s.length=s:=by rw[<- hS,_af,List.take_left'];rfl
  have c:=zea (G:=[(s.length+1,R0.map rD)]) (fi:=zM (zd 5)) (mp:=[none]) (fg:=yu 0) (ft:=tOf (eOp dGt (ze wJ (za (zd 0) zi)) (eC (.int 0)))) (fe:=zd 0) (ρ:=W7 (some dl) (some (.int k)) (some (.int ((v.length / 2:Nat):Int))) (some (.dlo s.length)) a4 (some (.loc (s.length+1))) a6) (s:=S) rD rD (λx=>decide (0<wgt x)) (λx=>[some (rD x)]) R0 (by rw[z00,vr (d:=.loc (s.length+1)) rfl,Rb];simp only[gZ]) (λp hp=>by rw[_bh.mp hp];exact gZ) (λx _=>rfl) (λx hx=>vO (by rw[op2 (x:=.int (wgt x)) (y:=.int 0) (by rw[yE (x:=rD x) (vr rfl)];exact z2j (e7 x hx).1 (by have:=(e7 x hx).2;lia) S) rfl,zi5])) (λx _ _=>vr rfl) (by lia);have ne:∀x∈R0.filter (λx=>decide (0<wgt x)),x≠[]:=λx hx=>(e7 x (_L.mp hx).1).1;generalize R0.filter (λx=>decide (0<wgt x))=T at c ne;have f8:wC (W7 (some dl) (some (.int k)) (some (.int ((v.length / 2:Nat):Int))) (some (.dlo s.length)) a4 (some (.loc (s.length+1))) a6) S=.ok (.rt (.lst ((z8y lexN T).map rD))) S:=by
   rw[wC,yy,yE c];have tu:z6D (T.map rD)=some T:=z3H T;simp only[z1S,z3x,Dd.listOf,tu];rw[_l (_aF.mpr λx hx=>by have:=ne x hx;cases x<;>simp_all)];rfl
  simp only[zt,zd2,Mof,uL,st,_n,_I,_G];rw[zr f1,zr f2,zr f3,zr f5,zr f6,f8];simp only[];rw[z4M (by exact z5q _),tk]
 obtain⟨xs,a4,l1,g,xn⟩:=zoA L hm h1 (rD v) (.int m) rfl s;obtain⟨ys,a6,l2⟩:=zg4 L hm h1 hf (rD v) (.int m) rfl s g.grp xn a4;have gl:∀S:Sto,xO [rD v] S=.ok (.int v.length) S:=λS=>by simp[xO,yc]
 have r:=key (rD v) (.int m) _ _ _ xs ys a4 a6 (gl _) (gl _) ⟨_,rfl,z7m (by lia) hm h1 _,z7m (by lia) hm h2 _⟩ l1 l2 (by rw[z6t.length_eq];exact hf) λx hx=>by
  have:=(xS.mp (_L.mp (zcP.mp hx)).1).1;exact⟨λz=>by rw[z]at this;simp at this;lia,by lia⟩
 rw[r,zg2]
end
end Pv
namespace Pp
open Pm Pg Dd
theorem zdQ : ∀(M : Nat) (f : Nat → Nat), (∀i ≤ M, f i < M) → ∃i j, i < j ∧ j ≤ M ∧ f i = f j
 | 0, f, h => absurd (h 0 (_h _)) (Nat.not_lt_zero _) | M + 1, f, h => by
  by_cases hv : ∃i, i ≤ M ∧ f i = f (M + 1)
  ·obtain⟨i, hi, e⟩ := hv;exact⟨i, M + 1, by lia, _h _, e⟩
  ·have hn : ∀i ≤ M, f i ≠ f (M + 1) := λi hi e => hv ⟨i, hi, e⟩;have hl := h (M + 1) (_h _);obtain⟨i, j, aF, hj, e⟩ := zdQ M (λi => if f i = M then f (M + 1) else f i) (λi hi => by
    have h1 := h i (by lia);have h2 := hn i hi;show (if f i = M then f (M + 1) else f i) < M;split <;> lia);refine⟨i, j, aF, by lia, ?_⟩;have h1 := hn i (by lia);have h2 := hn j hj;split at e <;> split at e <;> lia
end Pp
namespace Pv
open L2 (maxL minL maxL_ge maxL_mem minL_le minL_mem)
open Pm Pp Pt
def vy(v:List Int)(w:Nat):Prop:=∃x:List Int,x.length=v.length/\(∀i∈x,i.natAbs<=w)/\dot x v=0/\0<wgt x
theorem qb   (h:i∈x)(h0:i≠0):0<wgt x:=by have:=zgF h;lia
theorem yM    : x∈rel v m ↔ x.length=v.length/\(∀i∈x,i.natAbs<=m)/\dot x v=0/\0<wgt x:=by
 unfold rel zbY;rw[_L,xS];simp[and_assoc]
theorem qX   : rel v m≠[] ↔ vy v m:=by
 constructor
 ·intro h;obtain⟨x,hx⟩:=List.exists_mem_of_ne_nil _ h;exact⟨x,yM.mp hx⟩
 ·rintro⟨x,hx⟩ z;have:=yM.mpr hx;rw[z]at this;cases this
theorem vy.mono   (h:vy v w)(hw:w<=w'):vy v w':=by
 obtain⟨x,h1,h2,h3⟩:=h;exact⟨x,h1,λi hi=>_S (h2 i hi) hw,h3⟩
theorem zq6  (ha:0<=a/\a<=1000)(hb:0<=b/\b<=1000)(hp:0<a\/0<b):vy [a,b] 1000:=by
 refine⟨[b,-a],rfl,λi hi=>?_,?_,?_⟩
 ·simp only[_r,_bR,or_false]at hi;rcases hi with rfl | rfl<;>lia
 ·simp only[dot_cons,z5N];rw[_cf b a,_cC];lia
 ·rcases hp with hp | hp;·exact qb (i:=-a) (by simp) (by lia)
  ·exact qb (i:=b) (by simp) (by lia)
theorem zpK{a b c:Nat}(hc:1<=c)(eQ:c<=1000)(ha:a<=c)(hb:b<=c):∃p q r:Int,p.natAbs<=44/\q.natAbs<=44/\r.natAbs<=44/\p*a+q*b+r*c=0/\(p≠0\/q≠0\/r≠0):=by
 have bd:∀t,t<2025->(t / 45)*a+(t % 45)*b<=88*c:=λt ht=>by
  have h1:t / 45<=44:=by lia
  have h2:t % 45<=44:=by lia
  have e1  := _bg h1 ha;have e2  := _bg h2 hb;lia
 obtain⟨i,j,aF,hj,e⟩:=zdQ 2000 (λt=>(((t / 45)*a+(t % 45)*b) % c)*2+(if (t / 45)*a+(t % 45)*b<=44*c then 0 else 1)) (λt ht=>by
  have:=Nat.mod_lt ((t / 45)*a+(t % 45)*b) hc;split<;>lia);have b1:=bd i (by lia);have b2:=bd j (by lia);have em:((i / 45)*a+(i % 45)*b) % c=((j / 45)*a+(j % 45)*b) % c/\(((i / 45)*a+(i % 45)*b<=44*c) ↔ ((j / 45)*a+(j % 45)*b<=44*c)):=by split at e<;>split at e<;>refine⟨by lia,?_⟩<;>constructor<;>intro _<;>first | assumption | (exfalso;lia)
 obtain⟨em,ew⟩:=em;have d1:=Nat.mod_add_div ((i / 45)*a+(i % 45)*b) c;have d2:=Nat.mod_add_div ((j / 45)*a+(j % 45)*b) c;have ne:i / 45≠j / 45\/i % 45≠j % 45:=by lia
 have x1:i / 45<=44:=by lia
 have x2:j / 45<=44:=by lia
 have x3:i % 45<=44:=by lia
 have x4:j % 45<=44:=by lia
 generalize i / 45=i1 at *;generalize i % 45=i2 at *;generalize j / 45=j1 at *;generalize j % 45=j2 at *;have s1:((i1*a+i2*b:Nat):Int)=(i1:Int)*a+(i2:Int)*b:=by rfl
 have s2:((j1*a+j2*b:Nat):Int)=(j1:Int)*a+(j2:Int)*b:=by rfl
 generalize i1*a+i2*b=S at *;generalize j1*a+j2*b=T at *;have t1  := d1.symm;have t2  := d2.symm;have ys:(S<=44*c->S / c<=44)/\(¬ S<=44*c->44<=S / c)/\S / c<=88:=⟨λw=>_a5 (by rw[_bS];exact w),λw=>(Nat.le_div_iff_mul_le hc).mpr (by lia),_a5 (by rw[_bS];exact b1)⟩;have yt:(T<=44*c->T / c<=44)/\(¬ T<=44*c->44<=T / c)/\T / c<=88:=⟨λw=>_a5 (by rw[_bS];exact w),λw=>(Nat.le_div_iff_mul_le hc).mpr (by lia),_a5 (by rw[_bS];exact b2)⟩;have u1:(S:Int)=((S % c:Nat):Int)+((S / c:Nat):Int)*c:=by
  have:=_aw (λz:Nat=>(z:Int)) t1;rw[_cf ((S / c:Nat):Int)];exact this
 have u2:(T:Int)=((T % c:Nat):Int)+((T / c:Nat):Int)*c:=by
  have:=_aw (λz:Nat=>(z:Int)) t2;rw[_cf ((T / c:Nat):Int)];exact this
 clear t1 t2 d1 d2;generalize S / c=u at *;generalize T / c=z at *;refine⟨(j1:Int)-i1,(j2:Int)-i2,(u:Int)-(z:Int),by lia,by lia,?_,?_,by lia⟩
 ·by_cases w:S<=44*c;·lia
  ·lia
 ·rw[_bw,_bw,_bw];lia
theorem zpU  (ha:0<=a/\a<=1000) (hb:0<=b/\b<=1000) (hc:0<=c/\c<=1000) (hp:0<a\/0<b\/0<c):vy [a,b,c] 44:=by
 have key:∀{x y z:Int},0<=x->x<=z->0<=y->y<=z->0<z->z<=1000->∃p q r:Int,p.natAbs<=44/\q.natAbs<=44/\r.natAbs<=44/\p*x+q*y+r*z=0/\(p≠0\/q≠0\/r≠0):=λ{x y z} h1 h2 h3 h4 h5 h6=>by
  have:=zpK (a:=x.toNat) (b:=y.toNat) (c:=z.toNat) (by lia) (by lia) (by lia) (by lia);rwa [_cN h1,_cN h3,_cN (by lia)]at this
 have fin:∀p q r:Int,p.natAbs<=44->q.natAbs<=44->r.natAbs<=44->p*a+q*b+r*c=0->(p≠0\/q≠0\/r≠0)->vy [a,b,c] 44:=λp q r h1 h2 h3 e ne=>by
  refine⟨[p,q,r],rfl,λi hi=>?_,by simp only[dot_cons,z5N];lia,?_⟩
  ·simp only[_r,_bR,or_false]at hi;rcases hi with rfl | rfl | rfl<;>assumption
  ·rcases ne with h | h | h;·exact qb  (by simp) h
   ·exact qb  (by simp) h
   ·exact qb  (by simp) h
 by_cases c1:a<=c/\b<=c
 ·obtain⟨p,q,r,h1,h2,h3,e,ne⟩:=key    ha.1 c1.1 hb.1 c1.2 (by lia) hc.2;exact fin p q r h1 h2 h3 e ne
 by_cases c2:a<=b/\c<=b
 ·obtain⟨p,q,r,h1,h2,h3,e,ne⟩:=key    ha.1 c2.1 hc.1 c2.2 (by lia) hb.2;exact fin p r q h1 h3 h2 (by lia) (by lia)
 ·obtain⟨p,q,r,h1,h2,h3,e,ne⟩:=key    hb.1 (by lia) hc.1 (by lia) (by lia) ha.2;exact fin r p q h3 h1 h2 (by lia) (by lia)
theorem zpF  (ha:0<=a/\a<=1000)(hb:0<=b/\b<=1000)(hc:0<=c/\c<=1000)(hd:0<=d/\d<=1000):vy [a,b,c,d] 15:=by
 obtain⟨a,rfl⟩:=_aT ha.1;obtain⟨b,rfl⟩:=_aT hb.1;obtain⟨c,rfl⟩:=_aT hc.1;obtain⟨d,rfl⟩:=_aT hd.1;obtain⟨i,j,aF,hj,e⟩:=zdQ 60001 (λt=>(t / 4096)*a+(t / 256 % 16)*b+(t / 16 % 16)*c+(t % 16)*d) (λt ht=>by
  have e1:(t / 4096)*a<=15*1000:=_bg (by lia) (by lia);have e2:(t / 256 % 16)*b<=15*1000:=_bg (by lia) (by lia);have e3:(t / 16 % 16)*c<=15*1000:=_bg (by lia) (by lia);have e4:(t % 16)*d<=15*1000:=_bg (by lia) (by lia);lia);have ne:i / 4096≠j / 4096\/i / 256 % 16≠j / 256 % 16\/i / 16 % 16≠j / 16 % 16\/i % 16≠j % 16:=by lia
 have x1:i / 4096<=15:=by lia
 have x2:j / 4096<=15:=by lia
 have y1:i / 256 % 16<=15:=by lia
 have y2:j / 256 % 16<=15:=by lia
 have z1:i / 16 % 16<=15:=by lia
 have z2:j / 16 % 16<=15:=by lia
 have w1:i % 16<=15:=by lia
 have w2:j % 16<=15:=by lia
 generalize i / 4096=i1 at *;generalize i / 256 % 16=i2 at *;generalize i / 16 % 16=i3 at *;generalize i % 16=i4 at *;generalize j / 4096=j1 at *;generalize j / 256 % 16=j2 at *;generalize j / 16 % 16=j3 at *;generalize j % 16=j4 at *;refine⟨[j1-i1,j2-i2,j3-i3,j4-i4],rfl,λk hk=>?_,?_,?_⟩
 ·simp only[_r,_bR,or_false]at hk;rcases hk with rfl | rfl | rfl | rfl<;>lia
 ·simp only[dot_cons,z5N];rw[_bw,_bw,_bw,_bw];lia
 ·rcases ne with h | h | h | h;·exact qb (i:=j1-i1) (by simp) (by lia)
  ·exact qb (i:=j2-i2) (by simp) (by lia)
  ·exact qb (i:=j3-i3) (by simp) (by lia)
  ·exact qb (i:=j4-i4) (by simp) (by lia)
noncomputable def bnd(n:Nat):Nat:=if n=2 then 1000 else if n=3 then 44 else 15
theorem SmL.has   (h:SmL n v)(hp:∃x∈v,0<x):vy v (bnd n):=by
 have h2:=h.lo;have h3:=h.hi;have bd:=h.bd;obtain⟨x,hx,x0⟩:=hp;match v,h.len with
 | [],e=>simp at e;lia | [_],e=>simp at e;lia | [a,b],e=>
  have:n=2:=by exact e.symm
  subst this;simp only[_r,_bR,or_false]at hx;exact zq6 (bd a (by simp)) (bd b (by simp)) (by rcases hx with rfl | rfl<;>simp[x0]) | [a,b,c],e=>
  have:n=3:=by exact e.symm
  subst this;simp only[_r,_bR,or_false]at hx;exact zpU (bd a (by simp)) (bd b (by simp)) (bd c (by simp)) (by rcases hx with rfl | rfl | rfl<;>simp[x0]) | [a,b,c,d],e=>
  have:n=4:=by exact e.symm
  subst this;exact zpF (bd a (by simp)) (bd b (by simp)) (bd c (by simp)) (bd d (by simp)) | _::_::_::_::_::_,e=>simp at e;lia
theorem zdi   (h:vy v W):∃w,w<=W/\1<=w/\vy v w/\∀w',w'<w->¬ vy v w':=by induction W using Nat.strongRecOn with | ind W ih=>
  by_cases q:∃w',w'<W/\vy v w'
  ·obtain⟨w',h1,h2⟩:=q;obtain⟨w,a,b⟩:=ih w' h1 h2;exact⟨w,by lia,b⟩
  ·refine⟨W,_h _,?_,h,λw' h1 h2=>q ⟨w',h1,h2⟩⟩;obtain⟨x,h1,h2,h3,h4⟩:=h;obtain⟨i,hi,e⟩:=z4L (λz=>by rw[z]at h4;simp[wgt,maxL]at h4:x≠[]);have:=h2 i hi;lia
theorem z5I:∀{x y v:List Int},x.length=y.length->dot (List.zipWith (λa b=>a-b) x y) v=dot x v-dot y v
 | [],[],v,_=>by rfl | a::x,b::y,[],_=>by rfl | a::x,b::y,c::v,h=>by
  rw[_ar,dot_cons,dot_cons,dot_cons,z5I (by simpa using h),_bw];lia
theorem z9P:∀{x y:List Int},x.length=y.length->(∀i∈List.zipWith (λa b:Int=>a-b) x y,i=0)->x=y
 | [],[],_,_=>rfl | a::x,b::y,h,z=>by
  simp only[_ar,_r,forall_eq_or_imp]at z;rw[z9P (by simpa using h) z.2,show a=b by lia]
theorem zh6{w:Nat}(hw:1<=w):∀{x y:List Int},x.map (λi=>i / (w:Int))=y.map (λi=>i / (w:Int))->∀i∈List.zipWith (λa b:Int=>a-b) x y,i.natAbs<=w-1
 | [],_,_,i,hi=>by cases hi | _::_,[],_,i,hi=>by cases hi | a::x,b::y,h,i,hi=>by
  simp only[_A,_as]at h;simp only[_ar,_r]at hi;rcases hi with rfl | hi
  ·have e1:=Int.emod_add_mul_ediv a w;have e2:=Int.emod_add_mul_ediv b w;have l1:=_bB a (show (w:Int)≠0 by lia);have l2:=_bB b (show (w:Int)≠0 by lia);have l3:=_b3 a (show (0:Int)<w by lia);have l4:=_b3 b (show (0:Int)<w by lia);rw[h.1]at e1;lia
  ·exact zh6 hw h.2 i hi
theorem zpm {v:List Int} {w m:Nat} (hw:1<=w) (no:∀w',w'<w->¬ vy v w'):(z9H v m).length<=(2*(m / w)+2) ^ v.length:=by
 have m0:∀x∈z9H v m,x.length=v.length/\(∀i∈x,i.natAbs<=m)/\dot x v=0:=λx hx=>by
  obtain⟨h1,h2⟩:=_L.mp hx;obtain⟨h3,h4⟩:=xS.mp h1;exact⟨h3,h4,by simpa using h2⟩
 have sub:∀z∈(z9H v m).map (λx=>x.map λi=>i / (w:Int)),z∈jd (List.replicate v.length ((List.range (2*(m / w)+2)).map λk:Nat=>-(m / w:Nat)-1+(k:Int))):=λz hz=>by
  obtain⟨x,hx,rfl⟩:=_m.mp hz;obtain⟨x1,x2,_⟩:=m0 x hx;rw[z0C];refine⟨by simp[x1],λk hk=>?_⟩;rw[_bE]at hk;rw[show (List.replicate v.length ((List.range (2*(m / w)+2)).map λk:Nat=>-(m / w:Nat)-1+(k:Int))).getD k []=(List.range (2*(m / w)+2)).map λk:Nat=>-(m / w:Nat)-1+(k:Int) by simp[hk]];have xi:=x2 x[k] (_aE _);rw[show (x.map λi=>i / (w:Int)).getD k 0=x[k] / (w:Int) by simp[(show k<x.length from by lia)]];generalize x[k]=i at xi;have wp:(0:Int)<w:=by lia
  have dm:=Nat.mod_add_div m w;have ml:=Nat.mod_lt m hw;have up:i / w<=(m / w:Nat):=by
   have:=Int.ediv_le_ediv wp (show i<=m by lia);rwa [<- Int.natCast_ediv]at this
  have lo:-(m / w:Nat)-1<=i / w:=by
   refine (Int.le_ediv_iff_mul_le wp).mpr ?_;rw[_bw,_cC,_cf (m / w:Nat)];lia
  exact _m.mpr ⟨(i / w+(m / w:Nat)+1).toNat,by rw[_bs];lia,by lia⟩
 have:=len_sub (by
  unfold List.Nodup;rw[_bH];refine _bX (λ{x y} hx hy ne e=>?_) ((z7X _ _).nodup.filter _);obtain⟨x1,x2,x3⟩:=m0 x hx;obtain⟨y1,y2,y3⟩:=m0 y hy;by_cases z:∀i∈List.zipWith (λa b:Int=>a-b) x y,i=0;·exact ne (z9P (by lia) z)
  ·have ⟨i,hi⟩:=Classical.not_forall.mp z;have ⟨hm,h0⟩:=Classical.not_imp.mp hi;exact no (w-1) (by lia) ⟨List.zipWith (λa b=>a-b) x y,by rw[List.length_zipWith];lia,zh6 hw e,by rw[z5I (by lia)];lia,qb hm h0⟩) sub;rw[_z]at this;refine _S this ?_;simpa using (z80 (List.replicate v.length ((List.range (2*(m / w)+2)).map λk:Nat=>-((m / w:Nat):Int)-1+((k:Nat):Int))) (k:=2*(m / w)+2) λc hc=>by rw[_a3 hc];simp)
open L2 Dd Pg Pn Po Pr
structure LW(n:Nat)(v:List Int)(w:Nat):Prop where
 L:SmL n v
 pos:∃x∈v,0<x
 le:w<=bnd n
 one:1<=w
 has:vy v w
 no:∀w',w'<w->¬ vy v w'
theorem SmL.lw   (h:SmL n v)(hp:∃x∈v,0<x):∃w,LW n v w:=by
 obtain⟨w,a,b,c,d⟩:=zdi (h.has hp);exact⟨w,h,hp,a,b,c,d⟩
theorem LW.lot   (h:LW n v w):Lot n v:=⟨by have:=h.L.lo;have:=h.L.hi;lia,h.L.len,λx hx=>(h.L.bd x hx).1,h.pos⟩
section
variable {n w:Nat}{v:List Int}(h:LW n v w)
include h
theorem LW.rels{m:Nat}(hm:m<=n*w)(s:Sto):zt [rD v,.int m] s=.ok (.lst ((rel v m).map rD)) s:=by
 have vl:=h.L.len;have lo:=h.L.lo;have hi:=h.L.hi;have le:=h.le;have pk:=zpm (m:=m) h.one h.no;have mw  := _a5 (by rw[_bS];exact hm);rw[vl]at pk;have b1:m<=2000/\(2*m+1) ^ (v.length / 2)<=90000/\(2*m+1) ^ (v.length-v.length / 2)<=90000/\(z9H v m).length<=90000:=by
  rw[vl];rcases (show n=2\/n=3\/n=4 from by lia) with rfl | rfl | rfl
  ·have:w<=1000:=le;have p2:(2*(m / w)+2) ^ 2<=6 ^ 2:=_ak (by lia) 2;refine⟨by lia,?_,?_,by lia⟩;·rw[Nat.pow_one];lia
   ·rw[Nat.pow_one];lia
  ·have:w<=44:=le;have p2:(2*(m / w)+2) ^ 3<=8 ^ 3:=_ak (by lia) 3;have p3:(2*m+1) ^ 2<=265 ^ 2:=_ak (by lia) 2;refine⟨by lia,?_,?_,by lia⟩;·rw[Nat.pow_one];lia
   ·show (2*m+1) ^ 2<=90000;lia
  ·have:w<=15:=le;have p2:(2*(m / w)+2) ^ 4<=10 ^ 4:=_ak (by lia) 4;have p3:(2*m+1) ^ 2<=121 ^ 2:=_ak (by lia) 2;refine⟨by lia,?_,?_,by lia⟩;·show (2*m+1) ^ 2<=90000;lia
   ·show (2*m+1) ^ 2<=90000;lia
 exact z32 h.L (by lia) b1.2.1 b1.2.2.1 b1.2.2.2 s
theorem LW.len  (hm:m<=n*w):(rel v m).length<=10000:=by
 have pk:=zpm (m:=m) h.one h.no;have mw  := _a5 (by rw[_bS];exact hm);have lo:=h.L.lo;have hi:=h.L.hi;rw[h.L.len]at pk;rw[zcr];exact _S (_bk _ _) (by
  rcases (show n=2\/n=3\/n=4 from by lia) with rfl | rfl | rfl
  ·have p2:(2*(m / w)+2) ^ 2<=6 ^ 2:=_ak (by lia) 2;lia
  ·have p2:(2*(m / w)+2) ^ 3<=8 ^ 3:=_ak (by lia) 3;lia
  ·have p2:(2*(m / w)+2) ^ 4<=10 ^ 4:=_ak (by lia) 4;lia)
theorem LW.relne   (hx:x∈rel v m):x≠[]/\x.length<=1000/\(w:Int)<=wgt x:=by
 obtain⟨h1,h2,h3,h4⟩:=yM.mp hx;have vl:=h.L.len;have lo:=h.L.lo;have hi:=h.L.hi;have ne:x≠[]:=λz=>by rw[z]at h1;simp at h1;lia
 refine⟨ne,by lia,?_⟩;rcases Int.lt_or_le (wgt x) w with z | z;·exact absurd ⟨x,h1,((z4P ne).mp (by lia)),h3,h4⟩ (h.no (wgt x).toNat (by lia))
 ·exact z
theorem LW.same  (hm:w<=m):(rel v m).filter (λx=>decide (wgt x=(w:Int)))=rel v w:=by
 refine zcw ((z59 v m).filter _) (z59 v w) λx=>?_;rw[_L,_s];constructor
 ·rintro⟨h1,h2⟩;obtain⟨a,b,c,d⟩:=yM.mp h1;exact yM.mpr ⟨a,(z4P ((h.relne h1).1)).mp (by lia),c,d⟩
 ·intro h1;have ⟨ne,_,ge⟩:=h.relne h1;obtain⟨a,b,c,d⟩:=yM.mp h1;have:=(z4P  ne).mpr b;exact⟨yM.mpr ⟨a,λi hi=>_S (b i hi) hm,c,d⟩,by lia⟩
theorem LW.want(s:Sto):wb [rD v] s=.ok .non s:=by
 have w1:=jQ h.lot s;have rM  := (h.L.bd _ (maxL_mem h.lot.ne)).2;exact (λd h1 h2=>by
  simp only[wb,Mof,z0c,_G];rw[zr   (by rw[kX,qd,yE  (vr rfl),h1];rfl),kK,zds (vO (by rw[op2   (by exact h2) rfl,zi5,_R (by lia)]))];rfl:∀d:D,yN [d] s=.ok .non s->wP [d] s=.ok (.int (maxL v)) s->wb [d] s=.ok .non s) _ w1 (z3k s h.lot.ne)
noncomputable abbrev V4(a0 a1 a2 a3:Option D):Ev:=[a0,a1,a2,a3]
theorem LW.loop (d:D) (hd:d=rD v) (s:Sto):∀(f i:Nat),2 ^ i<2*w->w<=2 ^ (i+f)->∃j,w<=2 ^ j/\2 ^ j<2*w/\uw (z3v (zlm (zd 2))) (yf ud ua) (f+1) (V4 (some d) (some (.int ((2 ^ i:Nat):Int))) (some (.lst ((rel v (2 ^ i)).map rD))) none) s=.ok (.nx (V4 (some d) (some (.int ((2 ^ j:Nat):Int))) (some (.lst ((rel v (2 ^ j)).map rD))) none)) s:=by
 have lo:=h.L.lo;have eW:∀i,z3v (zlm (zd 2)) (V4 (some d) (some (.int (2 ^ i:Nat))) (some (.lst ((rel v (2 ^ i)).map rD))) none) s=.ok (((rel v (2 ^ i)).isEmpty)) s:=λi=>by simp[Dd.listOf]
 intro f;induction f with
 | zero=>
  refine λi h1 h2=>⟨i,h2,h1,?_⟩;have ne:(rel v (2 ^ i)).isEmpty=false:=by simpa using (qX.mpr (h.has.mono h2))
  rw[uw,eW,ne,Rb,_p (by decide)] | succ f ih=>
  intro i h1 h2;by_cases c:w<=2 ^ i
  ·refine⟨i,c,h1,?_⟩;have ne:(rel v (2 ^ i)).isEmpty=false:=by simpa using (qX.mpr (h.has.mono c))
   rw[uw,eW,ne,Rb,_p (by decide)]
  ·have e0:(rel v (2 ^ i)).isEmpty=true:=by cases z:rel v (2 ^ i) with
    | nil=>rfl | cons a t=>exact absurd (qX.mp (by rw[z];simp)) (h.no _ (by lia))
   have p2:2 ^ (i+1)=2*2 ^ i:=by rw[Nat.pow_succ,_bS]
   obtain⟨j,j1,j2,e⟩:=ih (i+1) (by lia) (by rw[show i+1+f=i+(f+1) by lia];exact h2);refine⟨j,j1,j2,?_⟩;have le:=h.le;have bn:bnd n<=1000:=by unfold bnd;split<;>(try split)<;>lia
   have f5:ud (V4 (some d) (some (.int (2 ^ i:Nat))) (some (.lst ((rel v (2 ^ i)).map rD))) none) s=.ok (.nx (V4 (some d) (some (.int (2 ^ (i+1):Nat))) (some (.lst ((rel v (2 ^ i)).map rD))) none)) s:=by
    rw[ud,yW,op2   rfl (vr rfl),z0g (m:=10) (k:=20) s (by lia) (by lia) (by lia) (by lia),p2];rfl
   have nw:2*w<=n*w:=_aA _ lo;have f6:ua (V4 (some d) (some (.int (2 ^ (i+1):Nat))) (some (.lst ((rel v (2 ^ i)).map rD))) none) s=.ok (.nx (V4 (some d) (some (.int ((2 ^ (i+1)):Int))) (some (.lst ((rel v (2 ^ (i+1))).map rD))) none)) s:=by
    have r:=h.rels (m:=2 ^ (i+1)) (by lia) s;rw[<- hd]at r;rw[ua,yW,call2   (vr rfl) (vr rfl),r];rfl
   rw[uw,eW,e0,Rb,zr f5,f6];exact e
theorem LW.byw (s:Sto):yC [rD v] s=.ok (.lst ((rel v w).map rD)) s:=by
 have le:=h.le;have one:=h.one;have bn:bnd n<=1000:=by unfold bnd;split<;>(try split)<;>lia
 have nw:2*w<=n*w:=_aA _ h.L.lo;have wl:w<=2 ^ (0+10):=by lia
 have key:∀(d:D),d=rD v->yC [d] s=.ok (.lst ((rel v w).map rD)) s:=λd hd=>by
  have ws:=h.want s;have r1:=h.rels (m:=1) (by lia) s;rw[<- hd]at ws r1;obtain⟨j,j1,j2,lp⟩:=h.loop d hd s 10 0 (by lia) wl;have rn:∀x∈rel v (2 ^ j),x≠[]/\x.length<=1000/\w<=wgt x:=λx hx=>h.relne hx;have ln:=h.len (m:=2 ^ j) (by lia);have ne:=qX.mpr (h.has.mono j1);have sm:=h.same j1;have lw:minL ((rel v (2 ^ j)).map wgt)=w:=by
   obtain⟨x,hx,e⟩:=_m.mp (minL_mem (show (rel v (2 ^ j)).map wgt≠[] by simpa using ne));have g1:=(rn x hx).2.2;obtain⟨y,hy⟩:=List.exists_mem_of_ne_nil _ (qX.mpr h.has);rw[<- sm]at hy;obtain⟨y1,y2⟩:=_L.mp hy;have g2:=minL_le (wgt y) (_m.mpr ⟨y,y1,rfl⟩);have y3:wgt y=w:=by simpa using y2
   lia
  generalize rel v (2 ^ j)=R at *;generalize 2 ^ j=J at *;have c7:=comp_map (fi:=zM (zd 2)) (mp:=[none]) (fg:=yu 0) (fe:=ze wJ (za (zd 0) zi)) (ρ:=V4 (some d) (some (.int (J:Int))) (some (.lst (R.map rD))) none)  rD (λx=>D.int (wgt x)) (λx=>[some (rD x)]) R (yZ (vr rfl)) (λx _=>rfl) (λx hx=>by exact z2j (rn x hx).1 (rn x hx).2.1 s) (by unfold cap;lia);have f7:qM (V4 (some d) (some (.int (J:Int))) (some (.lst (R.map rD))) none) s=.ok (.nx (V4 (some d) (some (.int (J:Nat))) (some (.lst (R.map rD))) (some (.int (w:Nat))))) s:=by
   rw[qM,yW,yE c7,show (R.map λx=>D.int (wgt x))=iL (R.map wgt) by simp[_C],zd4 s (by simpa using ne),lw];rfl
  have c8:=qP (fi:=zM (zd 2)) (mp:=[some 3,none]) (fg:=yu 1) (ft:=tOf (eOp dEq (ze wJ (za (zd 1) zi)) (zd 0))) (fe:=zd 1) (ρ:=V4 (some d) (some (.int (J:Nat))) (some (.lst (R.map rD))) (some (.int (w:Nat))))  rD rD (λx=>decide (wgt x=(w:Nat))) (λx=>[some (.int (w:Nat)),some (rD x)]) R (yZ (vr rfl)) (λx _=>rfl) (λx hx=>vO (by rw[op2   (by exact z2j (rn x hx).1 (rn x hx).2.1 s) (vr rfl),z47])) (λx _ _=>vr rfl) (by unfold cap;lia);rw[sm]at c8;simp only[yC,Mof,z1u,_G];rw[zr   (by rw[z0l,qd,yE  (vr rfl),ws];rfl),zr (ρ':=V4 (some d) (some (.int 1)) none none)  rfl,zr (by
   rw[z0E,yW,call2   (vr rfl) (vr rfl),show zt [d,.int 1] s=.ok (.lst ((rel v 1).map rD)) s from r1];rfl),zr (by
   rw[z0O];exact zao lp (by intro z;cases z)),zr f7,z11,yy,c8];rfl
 exact key _ rfl
end
theorem z6k(i:Int)(x:List Int):lng (i::x)=(i.natAbs:Int)+lng x:=by rfl
theorem zaK:∀x:List Int,0<=lng x
 | []=>by decide | i::x=>by rw[z6k];have:=zaK x;lia
theorem z1I:∀{x:List Int}{i:Int},i∈x->((i.natAbs:Nat):Int)<=lng x
 | j::x,i,h=>by
  rw[z6k];have:=zaK x;rcases _r.mp h with rfl | h;·lia
  ·have:=z1I h;lia
theorem zhi{m:Nat}:∀{x:List Int},(∀i∈x,i.natAbs<=m)->lng x<=((x.length*m:Nat):Int)
 | [],_=>by simp[lng] | i::x,h=>by
  rw[z6k,_n,Nat.add_mul];have:=zhi  λi hi=>h i (.tail _ hi);have:=h i (.head _);lia
noncomputable def z07(v:List Int)(l:Nat):List (List Int):=(rel v l).filter λx=>decide (lng x=(l:Int))
theorem jS    : x∈z07 v l ↔ x.length=v.length/\dot x v=0/\0<wgt x/\lng x=(l:Int):=by
 unfold z07;rw[_L,yM,_s];constructor;·rintro⟨⟨a,b,c,d⟩,e⟩;exact⟨a,c,d,e⟩
 ·rintro⟨a,c,d,e⟩;exact⟨⟨a,λi hi=>by have:=z1I hi;lia,c,d⟩,e⟩
theorem zc3(v:List Int)(l:Nat):Up (z07 v l):=(z59 v l).filter _
structure LL(v:List Int)(l:Nat):Prop where
 has:z07 v l≠[]
 no:∀x:List Int,x.length=v.length->dot x v=0->0<wgt x->(l:Int)<=lng x
section
variable {n w:Nat}{v:List Int}(h:LW n v w)
include h
theorem LW.ll:∃l,LL v l/\w<=l/\l<=n*w/\(∀s,xY [rD v] s=.ok (.lst ((z07 v l).map rD)) s):=by
 have vl:=h.L.len;have lo:=h.L.lo;have hi:=h.L.hi;have g9:=qX.mpr h.has;obtain⟨y,hy,ey⟩:=_m.mp (minL_mem (show (rel v w).map lng≠[] by simpa using g9));obtain⟨m,em⟩:∃m:Nat,lng y=(m:Int):=⟨(lng y).toNat,by have:=zaK y;lia⟩;have yl:=(yM.mp hy);have mw:m<=n*w:=by
  have:=zhi yl.2.1;rw[yl.1,vl]at this;lia
 have wm:w<=m:=by
  have g:=(h.relne hy);obtain⟨i,hi,e⟩:=z4L g.1;have:=z1I hi;lia
 have dG:=qX.mpr (h.has.mono wm);obtain⟨z,hz,ez⟩:=_m.mp (minL_mem (show (rel v m).map lng≠[] by simpa using dG));obtain⟨l,el⟩:∃l:Nat,lng z=(l:Int):=⟨(lng z).toNat,by have:=zaK z;lia⟩;have zl:=yM.mp hz;have lm:l<=m:=by
  have:y∈rel v m:=yM.mpr ⟨yl.1,λi hi=>by have:=z1I hi;lia,yl.2.2⟩;have:=minL_le (lng y) (_m.mpr ⟨y,this,rfl⟩);lia
 have wl:w<=l:=by
  have g:=(h.relne hz);obtain⟨i,hi,e⟩:=z4L g.1;have:=z1I hi;lia
 have L0:LL v l:=by
  refine⟨List.ne_nil_of_mem (jS.mpr ⟨zl.1,zl.2.2.1,zl.2.2.2,el⟩),λx x1 x2 x3=>?_⟩;rcases Int.lt_or_le (lng x) l with q | q
  ·have:x∈rel v m:=yM.mpr ⟨x1,λi hi=>by have:=z1I hi;lia,x2,x3⟩;have:=minL_le (lng x) (_m.mpr ⟨x,this,rfl⟩);lia
  ·exact q
 refine⟨l,L0,wl,by lia,λs=>?_⟩;have same:(rel v m).filter (λx=>decide (lng x=(l:Int)))=z07 v l:=by
  refine zcw ((z59 v m).filter _) (zc3 v l) λx=>?_;rw[_L,jS,yM,_s];constructor;·rintro⟨⟨a,b,c,d⟩,e⟩;exact⟨a,c,d,e⟩
  ·rintro⟨a,c,d,e⟩;exact⟨⟨a,λi hi=>by have:=z1I hi;lia,c,d⟩,e⟩
 have bw:=h.byw s;have lF:=h.rels mw s;have l1:=h.len (show w<=n*w from by have:=_aA w (show 1<=n by lia);lia);have l2:=h.len mw;have n1:∀x∈rel v w,x.length<=1000:=λx hx=>(h.relne hx).2.1;have n2:∀x∈rel v m,x.length<=1000:=λx hx=>(h.relne hx).2.1;have mm:minL ((rel v w).map lng)=(m:Int):=by rw[<- ey,em]
 have ml:minL ((rel v m).map lng)=(l:Int):=by rw[<- ez,el]
 generalize z07 v l=T at same;generalize rel v w=A at *;generalize rel v m=B at *;have key:∀d:D,yC [d] s=.ok (.lst (A.map rD)) s->zt [d,.int m] s=.ok (.lst (B.map rD)) s->xY [d] s=.ok (.lst (T.map rD)) s:=λd e1 e2=>by
  have st:zH ["lot","found","least"] [d]=[some d,none,none]:=rfl;have c1:=comp_map (fi:=zM (ze yC (za (zd 0) zi))) (mp:=[none]) (fg:=yu 0) (fe:=ze wL (za (zd 0) zi)) (ρ:=[some d,none,none])  rD (λx=>D.int (lng x)) (λx=>[some (rD x)]) A (yZ (by rw[yE  (vr rfl)];exact e1)) (λx _=>rfl) (λx hx=>by rw[yE  (vr rfl)];exact z2p (n1 x hx) s) (by unfold cap;lia);have f1:qS [some d,none,none] s=.ok (.nx [some d,some (.lst (B.map rD)),none]) s:=by
   rw[qS,yW,call2   (vr rfl) (by rw[yE c1,show (A.map λx=>D.int (lng x))=iL (A.map lng) by simp[_C],zd4 s (by simpa using g9),mm]),e2];rfl
  have c2:=comp_map (fi:=zM (zd 1)) (mp:=[none]) (fg:=yu 0) (fe:=ze wL (za (zd 0) zi)) (ρ:=[some d,some (.lst (B.map rD)),none])  rD (λx=>D.int (lng x)) (λx=>[some (rD x)]) B (yZ (vr rfl)) (λx _=>rfl) (λx hx=>by rw[yE  (vr rfl)];exact z2p (n2 x hx) s) (by unfold cap;lia);have f2:qN [some d,some (.lst (B.map rD)),none] s=.ok (.nx [some d,some (.lst (B.map rD)),some (.int l)]) s:=by
   rw[qN,yW,yE c2,show (B.map λx=>D.int (lng x))=iL (B.map lng) by simp[_C],zd4 s (by simpa using dG),ml];rfl
  have c3:=qP (fi:=zM (zd 1)) (mp:=[some 2,none]) (fg:=yu 1) (ft:=tOf (eOp dEq (ze wL (za (zd 1) zi)) (zd 0))) (fe:=zd 1) (ρ:=[some d,some (.lst (B.map rD)),some (.int l)])  rD rD (λx=>decide (lng x=(l:Int))) (λx=>[some (.int l),some (rD x)]) B (yZ (vr rfl)) (λx _=>rfl) (λx hx=>vO (by rw[op2   (by rw[yE  (vr rfl)];exact z2p (n2 x hx) s) (vr rfl),z47])) (λx _ _=>vr rfl) (by unfold cap;lia);rw[same]at c3;simp only[xY,Mof,z1J,st,_n,_I,_G];rw[zr f1,zr f2,z0i,yy,c3];rfl
 exact key _ bw lF
theorem LW.m_lw(s:Sto):xD [rD v] s=.ok (.int w) s:=by
 have bw:=h.byw s;obtain⟨x,t,e⟩:=_aW (qX.mpr h.has);have hx:x∈rel v w:=by rw[e];exact .head _
 have g:=h.relne hx;have wl:wgt x=w:=by
  have:=(z4P  g.1).mpr (yM.mp hx).2.1;lia
 have m6:=z2j g.1 g.2.1 s;rw[wl]at m6;rw[e]at bw;exact (λd y ys e1 e2=>by
  simp only[xD,Mof,jL,_G];rw[qY,yy,yE  (by rw[op2   (by exact e1) rfl,zcL  (by lia) rfl]),e2];rfl:∀(d y:D)(ys:List D),yC [d] s=.ok (.lst (y::ys)) s->wJ [y] s=.ok (.int (w:Nat)) s->xD [d] s=.ok (.int (w:Int)) s) _ _ _ bw m6
end
theorem LL.m_ll{v:List Int}{l:Nat}(h:LL v l)(hv:v.length<=4)(hb:∀s,xY [rD v] s=.ok (.lst ((z07 v l).map rD)) s)(s:Sto):wE [rD v] s=.ok (.int l) s:=by
 have bw:=hb s;obtain⟨x,t,e⟩:=_aW h.has;have hx:=jS.mp ((by rw[e];exact .head _));have ml:=z2p (x:=x) (by lia) s;rw[hx.2.2.2]at ml;rw[e]at bw;exact (λd y ys e1 e2=>by
  simp only[wE,Mof,ju,_G];rw[qZ,yy,yE  (by rw[op2   (by exact e1) rfl,zcL  (by lia) rfl]),e2];rfl:∀(d y:D)(ys:List D),xY [d] s=.ok (.lst (y::ys)) s->wL [y] s=.ok (.int (l:Nat)) s->wE [d] s=.ok (.int (l:Nat)) s) _ _ _ bw ml
theorem zdc{n m w:Nat}{v:List Int}(h:LW n v w)(hm:m<=8)(s:Sto):zt [rD v,.int m] s=.ok (.lst ((rel v m).map rD)) s:=by
 have vl:=h.L.len;have hi:=h.L.hi;have p:∀k,k<=4->(2*m+1) ^ k<=90000:=λk hk=>by
  have p1  := _ak (show (2*m+1)<=17 from by lia) k;have p2:17 ^ k<=17 ^ 4:=_Z (by lia) hk;lia
 exact z32 h.L (by lia) (p _ (by lia)) (p _ (by lia)) (_S (_bk _ _) (_S z2U (p _ (by lia)))) s
theorem LW.often {n m w:Nat} {v:List Int} (h:LW n v w) (h1:1<=m) (h8:m<=8) (s:Sto):zE [rD v,.int m] s=.ok .non s:=by
 have w1:=h.want s;exact (λd e e1 e2=>by
  simp only[zE,Mof,vc,_G];rw[zr   (by rw[wR,qd,yE  (vr rfl),e1];rfl),wW,qd,zbq    (vr rfl) rfl rfl,e2];rfl:∀d e:D,wb [d] s=.ok .non s->vf [e,.int 1,.int 8] s=.ok .non s->zE [d,e] s=.ok .non s) _ _ w1 (zbo (x:=(m:Int)) (a:=1) (b:=8) (by lia) (by lia) s)
theorem LW.hasnone{n m w:Nat}{v:List Int}(h:LW n v w)(h1:1<=m)(h8:m<=8)(s:Sto):qw [rD v,.int m] s=.ok (.bl (rel v m).isEmpty) s:=by
 have w1:=h.often h1 h8 s;exact (λd e e1 e2=>by
  simp only[qw,Mof,z2K,_G];rw[zr   (by rw[z1s,qd,call2   (vr rfl) (vr rfl),e1];rfl),z1z,yy];unfold zin;rw[call2   (vr rfl) (vr rfl),e2];simp[Dd.listOf]:∀d e:D,zE [d,e] s=.ok .non s->zt [d,e] s=.ok (.lst ((rel v m).map rD)) s->qw [d,e] s=.ok (.bl (rel v m).isEmpty) s) _ _ w1 (zdc h h8 s)
end Pv
namespace Pv
open L2 Dd Pm Pg Pn Po Pr Pp Pt
theorem zpP  (s:Sto)(h0:0<=r)(h1:r<3):∃far:Int,dIx (.lst [.int 10,.int 61,.int 1001]) (.int r) s=.ok (.int far) s/\10<=far/\far<=1001:=by
 obtain⟨k,rfl⟩:=_aT h0;rcases (show k=0\/k=1\/k=2 from by lia) with rfl | rfl | rfl;·exact⟨10,rfl,by decide,by decide⟩
 ·exact⟨61,rfl,by decide,by decide⟩
 ·exact⟨1001,rfl,by decide,by decide⟩
theorem zaq(B:Int):∀ys:List D,(∀y∈ys,∃x:Int,y=.int x/\0<=x/\x<=B)->∃xs:List Int,ys=iL xs/\∀x∈xs,0<=x/\x<=B
 | [],_=>⟨[],rfl,by simp⟩ | y::ys,h=>by
  obtain⟨x,rfl,hx⟩:=h y (by simp);obtain⟨xs,rfl,hs⟩:=zaq B ys λz hz=>h z (by simp[hz]);exact⟨x::xs,rfl,λz hz=>by rcases _r.mp hz with rfl | hz;exact hx;exact hs z hz⟩
noncomputable abbrev EvS(l:Nat)(n:Nat)(a3 a4 a5 a6 a7:Option D):Ev:=[some (.loc l),some (.int n),a3,a4,a5,a6,a7]
theorem z8G {s:Sto} {l n:Nat} (h:Pot s l) (hsz:Sz n):∃v s',wK [.loc l,.int n] s=.ok (rD v) s'/\SmL n v/\(∃x∈v,0<x)/\qV s s' l:=by
 have hl:=h.lt;have hn:2<=n/\n<=4:=by unfold Sz at hsz;lia
 have st:zH ["_law_pot_here","_law_size","_law_far","_law_found","_law_at","_law_to","_law_way"] [.loc l,.int n]=EvS l n none none none none none:=rfl;obtain⟨r1,s1,e1,a1,b1,d1⟩:=z0N (ρ:=EvS l n none none none none none) (f:=zd 0) (g:=eC (.int 3)) (far:=3) h (by decide) (z67 (by decide)) (by rfl) (by rfl);obtain⟨far,ef,f0,f1⟩:=zpP s1 a1 b1;have ft:far<2 ^ 2000:=Int.lt_of_le_of_lt f1 (by decide +kernel);have p1:vk (EvS l n none none none none none) s=.ok (.nx (EvS l n (some (.int far)) none none none none)) s1:=by
  have:zfj (za (eC (.int 10)) (za (eC (.int 61)) (za (eC (.int 1001)) zi))) (EvS l n none none none none none) s=.ok (.lst [.int 10,.int 61,.int 1001]) s:=by
   simp only[zh8,zB,zY,z5H,Rb];rw[_l (by decide)]
  rw[vk,yW,ui,this,Rb,e1,Rb,ef];rfl
 obtain⟨ys,s2,e2,y1,y2,d2⟩:=zf4 (fi:=z8w (za (zd 1) zi)) (mp:=[some 0,some 2,none]) (fg:=yu 2) (fe:=ze zR (za (zd 0) (za (zd 1) zi))) (ρ:=EvS l n (some (.int far)) none none none none) (s:=s1)  (λk:Nat=>D.int ((k:Nat):Int)) (λk=>[some (.loc l),some (.int far),some (.int ((k:Nat):Int))]) (λ_ s'=>qV s s' l) (λy=>∃x:Int,y=.int x/\0<=x/\x<=1000) (List.range n) (z8o  (by lia) (by rfl)) (λk _ s=>by rfl) (λi k _ s' hd=>by
   obtain⟨x,dC,e,x0,x1,d⟩:=zht hd.pot  (by lia) ft;exact⟨.int x,dC,by rw[call2   (vr rfl) (vr rfl)];exact e,⟨x,rfl,x0,by lia⟩,hd.trans d⟩) (by simp[cap];lia) d1 (λy ⟨x,hx,_⟩=>by subst hx;rfl);obtain⟨xs,rfl,x2⟩:=zaq 1000 ys y2;have n2:xs.length=n:=by simpa using y1
 have p2:vq (EvS l n (some (.int far)) none none none none) s1=.ok (.nx (EvS l n (some (.int far)) (some (.loc s.length)) none none none)) (s2++[iL xs]):=by
  rw[vq,yW,e2,Rb,d2.len];rfl
 have L3:=LS.start d2 h xs;obtain⟨at_,s4,e4,a4,b4,d4⟩:=z0N (ρ:=EvS l n (some (.int far)) (some (.loc s.length)) none none none) (f:=zd 0) (g:=zd 1) (far:=n) L3.pot (by lia) (z67 (by lia)) (by rfl) (by rfl);have L4:=L3.drawn hl d4;obtain⟨to,s5,e5,a5,b5,d5⟩:=z0N (ρ:=EvS l n (some (.int far)) (some (.loc s.length)) none none none) (f:=zd 0) (g:=zd 1) (far:=n) L4.pot (by lia) (z67 (by lia)) (by rfl) (by rfl);have m7:=L4.drawn hl d5;have p3:wZ (EvS l n (some (.int far)) (some (.loc s.length)) none none none) (s2++[iL xs])=.ok (.nx (EvS l n (some (.int far)) (some (.loc s.length)) (some (.int at_)) (some (.int to)) none)) s5:=by
  rw[wZ,zck,zB,e4,Rb,zB,e5];rfl
 obtain⟨eI,hE,e3,a3,b3,d3⟩:=z0N (ρ:=EvS l n (some (.int far)) (some (.loc s.length)) (some (.int at_)) (some (.int to)) none) (f:=zd 0) (g:=eC (.int 5)) (far:=5) m7.pot (by decide) (z67 (by decide)) (by rfl) (by rfl);have L5:=m7.drawn hl d3;have p4:vm (EvS l n (some (.int far)) (some (.loc s.length)) (some (.int at_)) (some (.int to)) none) s5=.ok (.nx (EvS l n (some (.int far)) (some (.loc s.length)) (some (.int at_)) (some (.int to)) (some (.int eI)))) hE:=by rw[vm,yW,e3];rfl
 let E:=EvS l n (some (.int far)) (some (.loc s.length)) (some (.int at_)) (some (.int to)) (some (.int eI));have pN:∃s6 ys,xM E hE=.ok (.nx E) s6/\LS s l s6 ys/\(∀y∈ys,0<=y/\y<=1000)/\ys.length=n:=by
  have t:tOf (eOp dEq (zd 6) (eC (.int 0))) E hE=.ok (decide (eI=0)) hE:=vO (by rw[op2   (vr rfl) rfl,z47]);by_cases z:eI=0
  ·refine⟨_,_,?_,L5.set hl (xs.set at_.toNat 0),zes x2 (by lia),by simp[n2]⟩;rw[xM,z5M,t,Rb,_l (by simpa using z),uT];exact z8s    rfl (vr rfl) (vr rfl) L5.at_ a4 (by lia)
  ·refine⟨hE,xs,?_,L5,x2,n2⟩;rw[xM,z5M,t,Rb,_p (by simpa using z)];rfl
 obtain⟨s6,ys,p5,L6,x6,n6⟩:=pN;have pO:∃s7 zs,xN E s6=.ok (.nx E) s7/\LS s l s7 zs/\(∀y∈zs,0<=y/\y<=1000)/\zs.length=n:=by
  have t:tOf (eOp dEq (zd 6) (eC (.int 1))) E s6=.ok (decide (eI=1)) s6:=vO (by rw[op2 (x:=.int eI) (y:=.int 1) (vr rfl) rfl,z47]);by_cases z:eI=1
  ·have m8:to.toNat<ys.length:=by lia
   have ix:=zkw (d:=.int ys[to.toNat]) L6.at_ a5 (by simp[m8]);have my:=x6 ys[to.toNat] (_aE m8);refine⟨_,_,?_,L6.set hl (ys.set at_.toNat ys[to.toNat]),zes x6 my,by simp[n6]⟩;rw[xN,z5M,t,Rb,_l (by simpa using z),uW];exact z8s (s1:=s6) (s2:=s6) (x:=ys[to.toNat]) (by exact ix) (vr rfl) (vr rfl) L6.at_ a4 (by lia)
  ·refine⟨s6,ys,?_,L6,x6,n6⟩;rw[xN,z5M,t,Rb,_p (by simpa using z)];rfl
 obtain⟨s7,zs,p7,L7,x7,n7⟩:=pO;have m9:zs≠[]:=λz=>by rw[z]at n7;simp at n7;lia
 have pP:∃s9 ws,xK E s7=.ok (.nx E) s9/\LS s l s9 ws/\(∀y∈ws,0<=y/\y<=1000)/\ws.length=n/\∃x∈ws,0<x:=by
  have t:=ziL (f:=zd 3) (ρ:=E) m9 L7.at_ (vr rfl);by_cases z:maxL zs=0
  ·obtain⟨ra,sa,ea,aa,ba,da⟩:=z0N (ρ:=E) (f:=zd 0) (g:=eOp z9E (zd 2) (eC (.int 1))) (far:=far-1) L7.pot (by lia) (Int.lt_trans (by lia) ft) (vr rfl) (by rfl);have La:=L7.drawn hl da;refine⟨_,_,?_,La.set hl (zs.set to.toNat (1+ra)),zes x7 (by lia),by simp[n7],1+ra,List.mem_set (by lia) _,by lia⟩;rw[xK,z5M,t,Rb,_l (by simpa using z),uK];exact z8s (s1:=sa) (s2:=sa) (x:=1+ra) (by rw[ui,z5H,Rb,ea];rfl) (vr rfl) (vr rfl) La.at_ a5 (by lia)
  ·refine⟨s7,zs,?_,L7,x7,n7,zbE m9 (λy hy=>(x7 y hy).1) z⟩;rw[xK,z5M,t,Rb,_p (by simpa using z)];rfl
 obtain⟨s9,ws,p9,L9,x9,n9,w9⟩:=pP;refine⟨ws,s9.take s.length,?_,⟨n9,hn.1,hn.2,x9⟩,w9,L9.fin hl⟩;simp only[wK,zd2,Mof,qk,st,_n,_I,_G];rw[zr p1,zr p2,zr p3,zr p4,zr p5,zr p7,zr p9];have c:yr [.loc s.length] s9=.ok (rD ws) s9:=by simp only[yr,yc,L9.at_]
 rw[ut,yy,yE (x:=.loc s.length) (vr rfl),c];simp only[Rb];exact zfO
theorem z5T:∀a b:List Int,HT.lexLt a b=lexN a b
 | [],[]=>rfl | [],_::_=>rfl | _::_,[]=>rfl | x::a,y::b=>by
  show (if x=y then HT.lexLt a b else decide (x<y))=if x=y then lexN a b else decide (x<y);rw[z5T a b]
noncomputable def neg(x:List Int):List Int:=x.map λi=>-i
noncomputable def abv(x:List Int):List Int:=x.map λi=>max i 0
theorem zf8  (hl:x.length<=1000) (s:Sto):ub [rD x] s=.ok (rD (neg x)) s:=by
 rw[(λd ys h=>by
  have st:zH ["line"] [d]=[some d]:=rfl;simp only[ub,Mof,z7t,st,_G];rw[z4o,yy,yE h];rfl:∀(d:D) (ys:List D),zu (zM (zd 0)) [none] (yu 0) zV (z3T (zd 0)) [some d] s=.ok (.lst ys) s->ub [d] s=.ok (.tup ys) s) _ _ (comp_map (ρ:=[some (rD x)]) (mp:=[none]) (fg:=yu 0) (fe:=z3T (zd 0)) (s:=s) (fi:=zM (zd 0)) D.int (λi:Int=>D.int (-i)) (λi=>[some (.int i)]) x (uX (vr rfl)) (λi _=>rfl) (λi _=>by rw[z2M,vr  rfl,Rb]) (by simp[cap];lia))];simp[neg,_C]
theorem zcy  (hl:x.length<=1000) (s:Sto):jG [rD x] s=.ok (rD (abv x)) s:=by
 rw[(λd ys h=>by
  have st:zH ["line"] [d]=[some d]:=rfl;simp only[jG,Mof,z9u,st,_G];rw[z7g,yy,yE h];rfl:∀(d:D) (ys:List D),zu (zM (zd 0)) [none] (yu 0) zV (ze z7C (za (zd 0) (za (eC (.int 0)) zi))) [some d] s=.ok (.lst ys) s->jG [d] s=.ok (.tup ys) s) _ _ (comp_map (ρ:=[some (rD x)]) (mp:=[none]) (fg:=yu 0) (fe:=ze z7C (za (zd 0) (za (eC (.int 0)) zi))) (s:=s) (fi:=zM (zd 0)) D.int (λi:Int=>D.int (max i 0)) (λi=>[some (.int i)]) x (uX (vr rfl)) (λi _=>rfl) (λi _=>by rw[call2   (vr rfl) rfl];simp only[z7C];congr 2;split<;>lia) (by simp[cap];lia))];simp[abv,_C]
noncomputable def cls(v:List Int)(m:Nat):List (List Int×List Int):=((rel v m).filter λx=>lexN (neg x) x).map λx=>(abv (neg x),abv x)
noncomputable abbrev cD2(p:List Int×List Int):D:=.tup [rD p.1,rD p.2]
theorem LW.fc {n m w:Nat} {v:List Int} (h:LW n v w) (h1:1<=m) (h8:m<=8) (s:Sto) (y:D) (hy:xW [some (rD v),some (.int m),some (.lst ((cls v m).map cD2))] s=.ok (.rt y) s):we [rD v,.int m] s=.ok y s:=by
 have w1:=h.often h1 h8 s;have rn:∀x∈rel v m,x.length<=1000:=λx hx=>(h.relne hx).2.1;have rl:(rel v m).length<=90000:=by
  have:=_bk (zbY v) (box v.length m);have b:=z2U (n:=v.length) (m:=m);have:(2*m+1) ^ v.length<=17 ^ 4:=_S (_ak (by lia) _) (_Z (by lia) (by have:=h.L.len;have:=h.L.hi;lia));unfold rel;lia
 have key:∀d e:D,zE [d,e] s=.ok .non s->zt [d,e] s=.ok (.lst ((rel v m).map rD)) s->xW [some d,some e,some (.lst ((cls v m).map cD2))] s=.ok (.rt y) s->we [d,e] s=.ok y s:=λd e e1 e2 e3=>by
  have tn:∀(x:List Int) (hx:x∈rel v m),ze ub (za (zd 0) zi) [some (rD x)] s=.ok (rD (neg x)) s:=λx hx=>by exact zf8 (rn x hx) s
  have c:=qP (fi:=zM (ze zt (za (zd 0) (za (zd 1) zi)))) (mp:=[none]) (fg:=yu 0) (ft:=tOf (eOp zgN (ze ub (za (zd 0) zi)) (zd 0))) (fe:=z5R (za (ze jG (za (ze ub (za (zd 0) zi)) zi)) (za (ze jG (za (zd 0) zi)) zi))) (ρ:=[some d,some e,none])  rD (λx=>cD2 (abv (neg x),abv x)) (λx=>lexN (neg x) x) (λx=>[some (rD x)]) (rel v m) (yZ (by exact e2)) (λx _=>rfl) (λx hx=>vO (by
    rw[op2   (tn x hx) (vr rfl)];simp only[zgN];rw[(yO _),(yO _)];simp only[];rw[z5T])) (λx hx _=>by
    rw[z4x,zB,yE  (tn x hx),zcy (by unfold neg;rw[_z];exact rn x hx),Rb,zB,yE  (vr rfl),zcy (rn x hx),Rb,zY];rfl) (by unfold cap;lia);rw[(show ((rel v m).filter λx=>lexN (neg x) x).map (λx=>cD2 (abv (neg x),abv x))=(cls v m).map cD2 from by unfold cls;rw[_aG];rfl)]at c;simp only[we,Mof,jZ,_n,_I,_G];rw[zr (ρ':=[some d,some e,none])  (by rw[jk,qd,call2   (vr rfl) (vr rfl),e1];rfl),zr (ρ':=[some d,some e,some (.lst ((cls v m).map cD2))])  (by rw[jI,yW,c];rfl),e3]
 exact key _ _ w1 (zdc h h8 s) hy
end Pv
namespace Pw
open L2 Dd Pm Pt Pv
theorem zac:∀(b:NQ)(L:List NQ),z8i b L∈b::L
 | b,[]=>by simp[z8i] | b,x::L=>by
  unfold z8i;rcases _r.mp (zac (if zaF x b then x else b) L) with e | e;·rw[e];split<;>simp
  ·simp[e]
def Cl(v:List Int)(m:Nat)(c:NQ):Prop:=c.1∈zk1 v.length m/\c.2∈zk1 v.length m/\dot c.1 v=dot c.2 v/\lexN c.1 c.2=true
theorem z04:∀x:List Int,List.zipWith (λa b=>a-b) (abv x) (abv (neg x))=x
 | []=>rfl | i::x=>by
  have:=z04 x;simp only[abv,neg,_A,_ar,_as]at this ⊢;exact⟨by lia,this⟩
theorem zbW:∀x:List Int,lexN (neg x) x=true->lexN (abv (neg x)) (abv x)=true
 | [],h=>by simp[neg,lexN]at h | i::x,h=>by
  simp only[abv,neg,_A,lexN]at h ⊢;by_cases e:-i=i
  ·rw[_l e]at h;rw[_l (by lia)];exact zbW x h
  ·rw[_p e,_s]at h;rw[_p (by lia),_s];lia
theorem z3f(x:List Int):(neg x).length=x.length:=by simp[neg]
theorem z95(x:List Int):(abv x).length=x.length:=by simp[abv]
theorem zdf   (h:∀i∈x,i.natAbs<=m):abv x∈zk1 x.length m:=by
 rw[z2l];refine⟨z95 x,λy hy=>?_⟩;obtain⟨i,hi,rfl⟩:=_m.mp hy;have:=h i hi;lia
theorem z8x   (h:∀i∈x,i.natAbs<=m):∀i∈neg x,i.natAbs<=m:=λy hy=>by
 obtain⟨i,hi,rfl⟩:=_m.mp hy;have:=h i hi;lia
theorem znf   : ∀c∈cls v m,Cl v m c:=λc hc=>by
 obtain⟨x,hx,rfl⟩:=_m.mp hc;rw[_L]at hx;obtain⟨hl,hb,hd,hw⟩:=yM.mp hx.1;refine⟨?_,?_,?_,zbW x hx.2⟩;·rw[<- hl,<- z3f];exact zdf (z8x hb)
 ·rw[<- hl];exact zdf hb
 ·have:=z5I (x:=abv x) (y:=abv (neg x)) (v:=v) (by rw[z95,z95,z3f]);rw[z04]at this;simp only;lia
theorem neg_neg(x:List Int):neg (neg x)=x:=by simp[neg,_C]
theorem z93(x:List Int):wgt (neg x)=wgt x:=by simp[wgt,neg,_C]
theorem zgT  (h:0<wgt x):neg x≠x:=λz=>by
 have:∀i∈x,i=0:=by
  clear h;induction x with
  | nil=>intro i hi;cases hi | cons j x ih=>
   simp only[neg,_A,_as]at z;intro i hi;rcases _r.mp hi with rfl | hi;·lia
   ·exact ih z.2 i hi
 cases x with
 | nil=>simp[wgt,maxL]at h | cons j x=>
  obtain⟨i,hi,e⟩:=z4L (x:=j::x) (by simp);rw[e,this i hi]at h;simp at h
theorem z6l:∀(x v:List Int),dot (neg x) v=- dot x v
 | [],v=>by simp[neg,dot] | _::_,[]=>by simp[dot] | a::x,b::v=>by
  have:=z6l x v;simp only[neg,_A]at this ⊢;simp[dot]at this ⊢;rw[_cC];lia
theorem cls_nil   : cls v m=[] ↔ rel v m=[]:=by
 refine⟨λh=>?_,λh=>by simp[cls,h]⟩;cases q:rel v m with
 | nil=>rfl | cons x t=>
  exfalso;have no:∀y∈rel v m,lexN (neg y) y=true->False:=λy hy z=>by
   have:(abv (neg y),abv y)∈cls v m:=_m.mpr ⟨y,_L.mpr ⟨hy,z⟩,rfl⟩;rw[h]at this;cases this
  have hx:x∈rel v m:=by rw[q];exact .head _
  obtain⟨hl,hb,hd,hw⟩:=yM.mp hx;cases z:lexN (neg x) x with
  | true=>exact no x hx z | false=>exact no _ (yM.mpr ⟨by rw[z3f,hl],z8x hb,by rw[z6l,hd];rfl,by rw[z93];exact hw⟩) (by rw[neg_neg,uj (zgT hw),z];rfl)
end Pw
namespace Pr
open L2 Dd Pm Pg Pn Po Pp
noncomputable def zk9:List Rl:=[.nx,.le,.al,.tu]
theorem zfr(s:Sto):xo [] s=.ok (.lst (zk9.map λr=>D.str (nmR r))) s:=by
 have c4:(4:Nat)<=cap:=by decide
 have st:zH [] []=[]:=rfl;simp only[xo,_l c4];rfl
theorem m_many(n:Nat)(b:Nat):∃k:Nat,(if (if (b:Int)<(n:Int) then (b:Int) else n) > 1 then (if (b:Int)<(n:Int) then (b:Int) else n) else 1)=(k:Int)/\k<=b+1:=by
 by_cases h:(b:Int)<n
 ·rw[_l h];by_cases h2:(b:Int) > 1;·exact⟨b,by rw[_l h2],by lia⟩
  ·exact⟨1,by rw[_p h2];rfl,by lia⟩
 ·rw[_p h];by_cases h2:(n:Int) > 1;·exact⟨n,by rw[_l h2],by lia⟩
  ·exact⟨1,by rw[_p h2];rfl,by lia⟩
end Pr
namespace bH
open L2 Dd Pm Pg Pn Po Pr Pp Pt Pv Pw
theorem zit(x:List Int):lng (neg x)=lng x:=by simp[lng,neg,_C]
theorem zjT   (h:x∈rel v m):neg x∈rel v m:=by
 obtain⟨a,b,c,d⟩:=yM.mp h;exact yM.mpr ⟨by rw[z3f,a],z8x b,by rw[z6l,c];rfl,by rw[z93];exact d⟩
theorem zgq   (h:x∈z07 v l):neg x∈z07 v l:=by
 obtain⟨a,b,c,d⟩:=jS.mp h;exact jS.mpr ⟨by rw[z3f,a],by rw[z6l,b];rfl,by rw[z93];exact c,by rw[zit];exact d⟩
theorem zhE{L:List (List Int)}(nd:L.Nodup):(L.map neg).Nodup:=by
 rw[List.Nodup,_bH];exact nd.imp λ{a b} h z=>h (by rw[<- neg_neg a,z,neg_neg])
theorem zgp{L:List (List Int)}(nd:L.Nodup)(h:∀x∈L,neg x∈L):L.Perm (L.map neg):= (_bO nd (zhE nd)).mpr λx=>⟨λhx=>_m.mpr ⟨neg x,h x hx,neg_neg x⟩,λhx=>by obtain⟨y,hy,rfl⟩:=_m.mp hx;exact h y hy⟩
theorem zoc  (h:Up L):L.Pairwise λa b=>lexN b a=false:=h.imp λ{a b} q=>by rw[uj (λe=>by rw[e,vJ]at q;cases q),q];rfl
theorem z6J(p:List Int->Bool):∀L:List (List Int),L.length=(L.filter p).length+(L.filter λx=>!p x).length
 | []=>rfl | x::L=>by
  have:=z6J p L;cases q:p x<;>simp[q]<;>lia
theorem zeQ{L:List (List Int)}(nd:L.Nodup)(h:∀x∈L,neg x∈L)(hw:∀x∈L,neg x≠x):L.length % 2=0:=by
 have l1:=(show ((L.filter λx=>lexN (neg x) x).map neg).Perm (L.filter λx=>!lexN (neg x) x) from by
  refine (_bO (zhE (nd.filter _)) (nd.filter _)).mpr λx=>?_;rw[_m,_L];constructor
  ·rintro⟨y,hy,rfl⟩;obtain⟨y1,y2⟩:=_L.mp hy;exact⟨h y y1,by rw[neg_neg,uj (hw y y1),y2];rfl⟩
  ·rintro⟨x1,x2⟩;exact⟨neg x,_L.mpr ⟨h x x1,by rw[neg_neg,uj (hw x x1)];exact x2⟩,neg_neg x⟩).length_eq;rw[_z]at l1;have l2:=z6J (λx=>lexN (neg x) x) L;lia
theorem zps:∀(x w:List Int),(∀i∈x,i=0)->dot x w=0
 | [],w,_=>by rfl | _::_,[],_=>by rfl | a::x,c::w,h=>by rw[dot_cons,h a (.head _),zps x w λi hi=>h i (.tail _ hi)];simp
theorem zg1      (hn:Sz n)(hv:v.length=n)(S:Sh r n v ls z k B b):∀x∈B.eraseIdx k,x.length=v.length/\dot x v=0/\0<wgt x:=λx hx=>by
 rw[<- S.fz,_L,_s]at hx;have xl:=S.tab.row x hx.1;refine _Q λq=>?_;have e:=zcK (v:=List.replicate n 1) hn S.ptab S.fair (by simp);rw[<- S.B_]at e;have m:dot x (mv (jc n (ye r ls)) (List.replicate n 1))∈List.replicate n 1:=by
  have:dot x (mv (jc n (ye r ls)) (List.replicate n 1))∈mv B (mv (jc n (ye r ls)) (List.replicate n 1)):=_m.mpr ⟨x,hx.1,rfl⟩;rwa [e]at this
 rw[zps _ _ (λi hi=>by have:=(z4P (m:=0) (λe=>by rw[e]at xl;simp at xl;lia)).mp (by lia) i hi;lia)]at m;have:=_a3 m;lia
noncomputable def sc(k:Int)(v:List Int):List Int:=v.map λx=>k*x
theorem zhb(k:Int):∀x v:List Int,dot x (sc k v)=k*dot x v
 | [],v=>by simp[dot,sc] | _::_,[]=>by simp[dot,sc] | a::x,c::v=>by
  have:=zhb k x v;simp only[sc,_A,dot_cons]at this ⊢;grind
theorem ziM  (hk:1<=k)(x v:List Int):dot x (sc k v)=0 ↔ dot x v=0:=by
 rw[zhb];constructor
 ·intro h;rcases Int.mul_eq_zero.mp h with h | h;·lia
  ·exact h
 ·intro h;rw[h];simp
theorem zh9(k:Int)(v:List Int):(sc k v).length=v.length:=by simp[sc]
theorem zhC  (hk:1<=k)(v:List Int)(m:Nat):rel (sc k v) m=rel v m:=by
 unfold rel;rw[zh9];refine List.filter_congr λx _=>?_;unfold zbY;rw[(decide_eq_decide.mpr (ziM hk x v))]
theorem zgZ  (hk:1<=k)(v:List Int)(m:Nat):vy (sc k v) m ↔ vy v m:=by rw[<- qX,<- qX,zhC hk]
theorem znh    (W:LW n v w)(hk:1<=k)(hb:∀x∈v,k*x<=1000):LW n (sc k v) w:=by
 refine⟨⟨by rw[zh9,W.L.len],W.L.lo,W.L.hi,λy hy=>?_⟩,?_,W.le,W.one,(zgZ hk v w).mpr W.has,λw' h q=>W.no w' h ((zgZ hk v w').mp q)⟩
 ·obtain⟨x,hx,rfl⟩:=_m.mp hy;exact⟨_cT (by lia) (W.L.bd x hx).1,hb x hx⟩
 ·obtain⟨x,hx,p⟩:=W.pos;exact⟨k*x,_m.mpr ⟨x,hx,rfl⟩,Int.mul_pos (by lia) p⟩
noncomputable abbrev L8(a0 a1 a2 a3 a4 a5 a6 a7:Option D):Ev:=[a0,a1,a2,a3,a4,a5,a6,a7]
theorem LB   (W:LW n v w):LotB n 104 v:=⟨W.lot,λx hx=>by
 have:=(W.L.bd x hx).2;lia⟩
theorem zkr {x:List Int} {ρ:Ev} (hl:x.length<=1000) (h6:ρ[6]? = some (some (rD x))) (s:Sto):zu (zM (zd 6)) [none] (yu 0) zV (ze z6u (za (zd 0) zi)) ρ s=.ok (.lst (iL (x.map λi=>((i.natAbs:Nat):Int)))) s:=by
 rw[(comp_map  (mp:=[none]) (fg:=yu 0) (fe:=ze z6u (za (zd 0) zi)) (s:=s)  D.int (λi:Int=>D.int (i.natAbs:Nat)) (λi=>[some (.int i)]) x (uX (vr h6)) (λi _=>rfl) (λi _=>by rw[yE  (vr rfl)];simp only[z6u];congr 2;split<;>lia) (by simp[cap];lia))];simp[_C]
theorem zla{x:List Int}{ρ:Ev}{w l:Nat}(ne:x≠[])(hl:x.length<=1000)(h6:ρ[6]? = some (some (rD x)))(h4:ρ[4]? = some (some (.int w)))(h5:ρ[5]? = some (some (.int l)))(hw:(w:Int)<=wgt x)(hg:(l:Int)<=lng x)(s:Sto): fOr (tOf (eOp dLt (ze wP (za (zu (zM (zd 6)) [none] (yu 0) zV (ze z6u (za (zd 0) zi))) zi)) (zd 4))) (tOf (eOp dLt (ze zcs (za (zu (zM (zd 6)) [none] (yu 0) zV (ze z6u (za (zd 0) zi))) zi)) (zd 5))) ρ s=.ok false s:= z7U (vO (by rw[op2 (x:=.int (wgt x))  (by rw[yE (zkr hl h6 s),zgO s (by simpa using ne)];rfl) (vr h4),zky,_R (by lia)])) (vO (by rw[op2 (x:=.int (lng x))  (by rw[yE (zkr hl h6 s),za6];rfl) (vr h5),zky,_R (by lia)]))
structure Rn(v x:List Int):Prop where
 len:x.length=v.length
 bd:∀i∈x,i.natAbs<2 ^ 16
 dt:dot x v=0
 pos:0<wgt x
theorem zni  (ne:x≠[])(h:0<wgt x):¬ (maxL x=minL x/\minL x=0):=λ⟨a,b⟩=>by
 obtain⟨i,hi,e⟩:=z4L ne;have:=maxL_ge i hi;have:=minL_le i hi;lia
section
variable {n w l:Nat}{v:List Int}{r:Rl}(W:LW n v w)(hL:LL v l)
include W hL
theorem zlo{x:List Int}(h1:x.length=v.length)(h2:dot x v=0)(h3:0<wgt x):x≠[]/\x.length<=1000/\(w:Int)<=wgt x/\(l:Int)<=lng x:=by
 have vl:=W.L.len;have lo:=W.L.lo;have hi:=W.L.hi;have ne:x≠[]:=λz=>by rw[z]at h1;simp at h1;lia
 exact⟨ne,by lia,(W.relne (yM.mpr ⟨h1,(z4P ne).mp (by lia),h2,h3⟩:x∈rel v (wgt x).toNat)).2.2,hL.no x h1 h2 h3⟩
noncomputable abbrev zlj:D->Ev->Sto->R Fl:=λd ρ s=>(yu 6 d ρ s).bind fun ρ' s'=>(yf xb yD) ρ' s'
theorem znE{x:List Int}{a1 a2 a3 a6 a7:Option D}(h:Rn v x)(s:Sto):zlj (rD x) (L8 (some (rD v)) a1 a2 a3 (some (.int w)) (some (.int l)) a6 a7) s=.ok (.nx (L8 (some (rD v)) a1 a2 a3 (some (.int w)) (some (.int l)) (some (rD x)) a7)) s:=by
 obtain⟨ne,hl,hw,hg⟩:=zlo W hL h.len h.dt h.pos;have ir:=z0P (LB W)  (by rw[h.len,W.L.len]) h.bd (by decide) (by decide) s;rw[_al h.dt]at ir;have gx:=z3k s ne;have nz:=zni ne h.pos;rw[show zlj (rD x) (L8 (some (rD v)) a1 a2 a3 (some (.int w)) (some (.int l)) a6 a7) s=(yf xb yD) (L8 (some (rD v)) a1 a2 a3 (some (.int w)) (some (.int l)) (some (rD x)) a7) s from rfl];have c6:=(λd e1 e2 ρ h6=>by
  rw[z9M,yE  (vr h6),e1,Rb,yE  (vr h6),e2,Rb,z47,Rb];by_cases e:maxL x=minL x
  ·rw[_al e];simp only[z5H,Rb,z47];rw[_R λz=>nz ⟨e,z⟩]
  ·rw[_R e]:∀d:D,wP [d] s=.ok (.int (maxL x)) s->qI [d] s=.ok (.int (minL x)) s->∀ ρ:Ev,ρ[6]? = some (some d)->z12 dEq dEq (ze wP (za (zd 6) zi)) (ze qI (za (zd 6) zi)) (eC (.int 0)) ρ s=.ok (.bl false) s) (rD x) gx (zcX s ne) (L8 (some (rD v)) a1 a2 a3 (some (.int w)) (some (.int l)) (some (rD x)) a7) rfl;have g6:yD (L8 (some (rD v)) a1 a2 a3 (some (.int (w:Int))) (some (.int (l:Nat))) (some (rD x)) a7) s=.ok (.nx (L8 (some (rD v)) a1 a2 a3 (some (.int (w:Nat))) (some (.int (l:Nat))) (some (rD x)) a7)) s:=by
  rw[yD,zds (zla (ρ:=L8 (some (rD v)) a1 a2 a3 (some (.int (w:Nat))) (some (.int (l:Int))) (some (rD x)) a7) ne hl rfl rfl rfl hw hg s)];rfl
 rw[zr (by
  rw[xb,zds (z7U (vO (by rw[op2   (by rw[call2   (vr rfl) (vr rfl),ir]) rfl];rfl)) (vO c6))];rfl),g6]
noncomputable abbrev ziI:D->Ev->Sto->R Fl:=λd ρ s=>(yu 6 d ρ s).bind fun ρ' s'=>yQ ρ' s'
theorem zmO{x:List Int}{a1 a2 a3 a6 a7:Option D}(h1:x.length=v.length)(h2:dot x v=0)(h3:0<wgt x)(s:Sto):ziI (rD x) (L8 (some (rD v)) a1 a2 a3 (some (.int w)) (some (.int l)) a6 a7) s=.ok (.nx (L8 (some (rD v)) a1 a2 a3 (some (.int w)) (some (.int l)) (some (rD x)) a7)) s:=by
 obtain⟨ne,hl,hw,hg⟩:=zlo W hL h1 h2 h3;rw[show ziI (rD x) (L8 (some (rD v)) a1 a2 a3 (some (.int (w:Nat))) (some (.int (l:Nat))) a6 a7) s=yQ (L8 (some (rD v)) a1 a2 a3 (some (.int (w:Int))) (some (.int (l:Nat))) (some (rD x)) a7) s from rfl,yQ,zds (zla (ρ:=L8 (some (rD v)) a1 a2 a3 (some (.int (w:Nat))) (some (.int (l:Int))) (some (rD x)) a7) ne hl rfl rfl rfl hw hg s)];rfl
end
theorem ziO {n w:Nat} {v:List Int} (W:LW n v w) (r:Rl) (s:Sto):yS [rD v,.str (nmR r)] s=.ok (.bl true) s:=by
 have vl:=W.L.len;have lo:=W.L.lo;have hi:=W.L.hi;have sz:Sz n:=by unfold Sz;lia
 obtain⟨l,hL,wl,ln,iw⟩:=W.ll;have byw:=W.byw s;have lw:=W.m_lw s;have ll:=hL.m_ll (by lia) iw s;have iw:=iw s;have bn:bnd n<=1000:=by unfold bnd;split<;>(try split)<;>lia
 have hJ  := _S W.le bn;have ng  := _S ln (_bg hi hJ);have wn:w<=n*w:=by lia
 have pQ:=W.len wn;have pR:(z07 v l).length<=10000:=_S (_bk _ _) (W.len ln);obtain⟨ls,z,k,B,b,S⟩:=znU r (LB W);have mb:=zm3 (LB W) S s;have br:=zg1 sz vl S;have st:zH ["_law_lot","_law_rule","_law_light","_law_short","_law_weight","_law_length","_law_one","_law_turned"] [rD v,.str (nmR r)]=L8 (some (rD v)) (some (.str (nmR r))) none none none none none none:=rfl;have rA:∀x∈rel v w,Rn v x:=λx hx=>by
  obtain⟨a,b,c,d⟩:=yM.mp hx;exact⟨a,λi hi=>by have:=b i hi;lia,c,d⟩
 have rB:∀x∈z07 v l,Rn v x:=λx hx=>by
  obtain⟨a,b,c,d⟩:=jS.mp hx;exact⟨a,λi hi=>by have:=z1I hi;lia,b,c⟩
 have nh:=z59 v w;have sorted  := z5P z2c (zgp nh.nodup λx hx=>zjT hx) (zoc nh);have pS:=zeQ (zc3 v l).nodup (λx hx=>zgq hx) λx hx=>zgT (rB x hx).pos;have nA:∀x∈rel v w,x.length<=1000:=λx hx=>by have:=(rA x hx).len;lia
 have pT:((rel v w).map neg).all (λn=>!n.isEmpty)=true:=by
  rw[_aF];intro y hy;obtain⟨x,hx,rfl⟩:=_m.mp hy;have:=(rA x hx).len;cases x with
  | nil=>simp at this;lia | cons _ _=>rfl
 have pU:=zc0 0 (rel v w);have all:∀x∈rel v w++z07 v l,Rn v x:=λx hx=>by
  rcases _D.mp hx with hx | hx;·exact rA x hx
  ·exact rB x hx
 have pV:(rel v w).map rD++(z07 v l).map rD=(rel v w++z07 v l).map rD:=by rw[_b0]
 have pW:xO [.lst ((z07 v l).map rD)] s=.ok (.int (((z07 v l).length:Nat):Int)) s:=by simp[xO,yc]
 have pX:xO [rD v] s=.ok (.int n) s:=by simp[xO,yc,vl]
 have f1:wB (L8 (some (rD v)) (some (.str (nmR r))) none none none none none none) s=.ok (.nx (L8 (some (rD v)) (some (.str (nmR r))) (some (.lst ((rel v w).map rD))) (some (.lst ((z07 v l).map rD))) none none none none)) s:=by
  rw[wB,zck,zB,yE  (vr rfl),byw,Rb,zB,yE  (vr rfl),iw,Rb,zY];rfl
 have f2:wz (L8 (some (rD v)) (some (.str (nmR r))) (some (.lst ((rel v w).map rD))) (some (.lst ((z07 v l).map rD))) none none none none) s=.ok (.nx (L8 (some (rD v)) (some (.str (nmR r))) (some (.lst ((rel v w).map rD))) (some (.lst ((z07 v l).map rD))) (some (.int w)) (some (.int l)) none none)) s:=by
  rw[wz,zck,zB,yE  (vr rfl),lw,Rb,zB,yE  (vr rfl),ll,Rb,zY];rfl
 obtain⟨ρ3,S3,lp3,b6,e3,e3'⟩:=z2i   (fun ρ S=>∃x6,ρ=L8 (some (rD v)) (some (.str (nmR r))) (some (.lst ((rel v w).map rD))) (some (.lst ((z07 v l).map rD))) (some (.int w)) (some (.int l)) x6 none/\S=s) ((rel v w++z07 v l).map rD) (λd hd ρ S hI=>by
  obtain⟨x6,rfl,rfl⟩:=hI;obtain⟨x,hx,rfl⟩:=_m.mp hd;exact⟨_,_,znE W hL (all x hx) S,_,rfl,rfl⟩) (L8 (some (rD v)) (some (.str (nmR r))) (some (.lst ((rel v w).map rD))) (some (.lst ((z07 v l).map rD))) (some (.int w)) (some (.int l)) none none) s ⟨_,rfl,rfl⟩;subst e3 e3';have f3:wy (L8 (some (rD v)) (some (.str (nmR r))) (some (.lst ((rel v w).map rD))) (some (.lst ((z07 v l).map rD))) (some (.int w)) (some (.int l)) none none) S3=.ok (.nx (L8 (some (rD v)) (some (.str (nmR r))) (some (.lst ((rel v w).map rD))) (some (.lst ((z07 v l).map rD))) (some (.int w)) (some (.int l)) b6 none)) S3:=by
  unfold wy;rw[z3P,yZ  (by rw[op2   (vr rfl) (vr rfl),zl5,_l (by rw[_z,_z];unfold cap;lia),pV]),Rb];exact lp3
 have cN:∀x:List Int,x.length<=1000->ze yr (za (zu (zM (zd 0)) [none] (yu 0) zV (eOp z9E (eC (.int 0)) (zd 0))) zi) [some (rD x)] S3=.ok (rD (neg x)) S3:=λx hx=>by
  have c:=comp_map (ρ:=[some (rD x)]) (mp:=[none]) (fg:=yu 0) (fe:=eOp z9E (eC (.int 0)) (zd 0)) (s:=S3) (fi:=zM (zd 0)) D.int (λi:Int=>D.int (-i)) (λi=>[some (.int i)]) x (uX (vr rfl)) (λi _=>rfl) (λi _=>by rw[op2   rfl (vr rfl),z9y];congr 2;lia) (by simp[cap];lia);rw[yE c];simp[yr,yc,neg,_C]
 have c8:=comp_map  (ρ:=L8 (some (rD v)) (some (.str (nmR r))) (some (.lst ((rel v w).map rD))) (some (.lst ((z07 v l).map rD))) (some (.int w)) (some (.int l)) b6 none) (fi:=zM (zd 2)) (mp:=[none]) (fg:=yu 0) (fe:=ze yr (za (zu (zM (zd 0)) [none] (yu 0) zV (eOp z9E (eC (.int 0)) (zd 0))) zi)) rD (λx=>rD (neg x)) (λx=>[some (rD x)]) (rel v w) (yZ (vr rfl)) (λx _=>rfl) (λx hx=>cN x (nA x hx)) (by unfold cap;lia);have e8:(rel v w).map (λx=>rD (neg x))=((rel v w).map neg).map rD:=by rw[_aG];rfl
 rw[e8]at c8;have gs:z1S [.lst (((rel v w).map neg).map rD)] S3=.ok (.lst ((rel v w).map rD)) S3:=by
  have sd:z3x S3 (.lst (((rel v w).map neg).map rD))=some (rel v w):=by
   simp only[z3x,Dd.listOf,(z3H _)];rw[_l pT,sorted]
  simp only[z1S,sd]
 have ne:=ne_self pU (by decide) S3;have md:=z4G (a:=(((z07 v l).length:Nat):Int)) (b:=2) S3 (by decide);have ev:(((z07 v l).length:Nat):Int) % 2=0:=by lia
 have mu:=z0g (a:=(w:Int)) (b:=(n:Int)) (m:=10) (k:=3) S3 (by lia) (by decide) (by lia) (by decide);have pY:(l:Int)<=(w:Int)*(n:Int):=by rw[_cf];exact_mod_cast ln
 generalize (rel v w).map rD=LA at *;generalize (z07 v l).map rD=LB' at *;generalize ((rel v w).map neg).map rD=LN at *;generalize (((z07 v l).length:Nat):Int)=lenL at *;have f8:wv (L8 (some (rD v)) (some (.str (nmR r))) (some (.lst LA)) (some (.lst LB')) (some (.int w)) (some (.int l)) b6 none) S3=.ok (.nx (L8 (some (rD v)) (some (.str (nmR r))) (some (.lst LA)) (some (.lst LB')) (some (.int w)) (some (.int l)) b6 (some (.lst LN)))) S3:=by rw[wv,yW,c8];rfl
 have f9:wq (L8 (some (rD v)) (some (.str (nmR r))) (some (.lst LA)) (some (.lst LB')) (some (.int w)) (some (.int l)) b6 (some (.lst LN))) S3=.ok (.nx (L8 (some (rD v)) (some (.str (nmR r))) (some (.lst LA)) (some (.lst LB')) (some (.int w)) (some (.int l)) b6 (some (.lst LN)))) S3:=by
  have t1:tOf (eOp dNe (ze z1S (za (zd 7) zi)) (zd 2)) (L8 (some (rD v)) (some (.str (nmR r))) (some (.lst LA)) (some (.lst LB')) (some (.int w)) (some (.int l)) b6 (some (.lst LN))) S3=.ok false S3:=vO (by rw[op2 (x:=.lst LA) (y:=.lst LA) (by rw[yE (x:=.lst LN) (vr rfl),gs]) (vr rfl),ne]);have t2:tOf (eOp dEq (eOp zaf (ze xO (za (zd 3) zi)) (eC (.int 2))) (eC (.int 1))) (L8 (some (rD v)) (some (.str (nmR r))) (some (.lst LA)) (some (.lst LB')) (some (.int w)) (some (.int l)) b6 (some (.lst LN))) S3=.ok false S3:=vO (by rw[op2 (x:=.int (lenL % 2)) (y:=.int 1) (by rw[op2 (x:=.int lenL) (y:=.int 2) (by rw[yE (x:=.lst LB') (vr rfl),pW]) rfl,md]) rfl,z47,_R (by lia)]);rw[wq,zds (z7U t1 (z7U t2 (zdB (vO (by
   rw[z9M,vr (d:=.int w) rfl,Rb,vr (d:=.int l) rfl,Rb,ziR,Rb,_al (show (w:Int)<=(l:Int) by lia)];simp only;rw[op2 (x:=.int w) (y:=.int n) (vr rfl) (by rw[yE (x:=rD v) (vr rfl),pX]),mu,Rb,ziR,_al pY])))))];rfl
 obtain⟨ρ4,S4,lp4,c6,e4,e4'⟩:=z2i (all:=(B.eraseIdx k).map rD) (body:=ziI) (fun ρ S=>∃x6,ρ=L8 (some (rD v)) (some (.str (nmR r))) (some (.lst LA)) (some (.lst LB')) (some (.int w)) (some (.int l)) x6 (some (.lst LN))/\S=S3) ((B.eraseIdx k).map rD) (λd hd ρ S hI=>by
  obtain⟨x6,rfl,rfl⟩:=hI;obtain⟨x,hx,rfl⟩:=_m.mp hd;obtain⟨h1,h2,h3⟩:=br x hx;exact⟨_,_,zmO W hL h1 h2 h3 S,_,rfl,rfl⟩) (L8 (some (rD v)) (some (.str (nmR r))) (some (.lst LA)) (some (.lst LB')) (some (.int w)) (some (.int l)) b6 (some (.lst LN))) S3 ⟨_,rfl,rfl⟩;subst e4 e4';simp only[yS,Mof,uH,st,_n,_I,_G];rw[zr f1,zr f2,zr f3,zr f8,zr f9,zr (by
  unfold vN;rw[z3P,yZ (xs:=(B.eraseIdx k).map rD) (by rw[call2 (x:=.str (nmR r)) (y:=rD v) (vr rfl) (vr rfl),mb]),Rb];exact lp4)];rfl
noncomputable def fcD(v:List Int)(m:Nat):D:=match cls v m with | []=>.non | n::M=>dQ (z8i n M)
theorem zil{n m w:Nat}{v:List Int}(W:LW n v w)(h1:1<=m)(h8:m<=8)(s:Sto):we [rD v,.int m] s=.ok (fcD v m) s:=by
 refine W.fc h1 h8 s _ ?_;exact (λd e L=>by
  have pq:kM (L.map cD2)=some L:=zak L;rw[xW,yy];unfold zjq;rw[vr  rfl,Rb,z5H];simp only[pq];cases L<;>rfl:∀(d e:D)(L:List NQ),xW [some d,some e,some (.lst (L.map cD2))] s=.ok (.rt (match L with | []=>.non | n::M=>dQ (z8i n M))) s) _ _ (cls v m)
section
variable {n m w:Nat}{v:List Int}(W:LW n v w)
include W
theorem zm9:rel v m=[] ↔ m<w:=by
 constructor;·exact λh=>_Q λq=>(qX.mpr (W.has.mono  (by lia)) h)
 ·exact λh=>_Q λq=>(W.no m h (qX.mp q))
theorem zgI(h1:1<=m){p:List Int}(hp:p∈zk1 v.length m)(s:Sto):xV [rD v,.int m,rD p] s=.ok (.bl true) s:=by
 obtain⟨pl,pb⟩:=z2l.mp hp;have lo:=W.L.lo;have hi:=W.L.hi;have vl:=W.L.len;have ne:p≠[]:=λz=>by rw[z]at pl;simp at pl;lia
 have aw:=uO p s (by lia);have gx:=z3k s ne;have gn:=zcX s ne;have x1:=(pb _ (maxL_mem ne)).2;have x2:=(pb _ (minL_mem ne)).1;exact (λdv dp e1 e2 e3 e4=>by
  simp only[xV,Mof,z1Z,_G];rw[z13,yy,zed,call2   (vr rfl) (by rw[yE  (vr rfl),e1]),e2,Rb];rw[zed,op2   (by rw[yE  (vr rfl),e4]) rfl,znA,_al x2,Rb];rw[op2   (by rw[yE  (vr rfl),e3]) (vr rfl),ziR,_al x1];rfl:∀dv dp:D,xO [dv] s=.ok (.int (p.length:Nat)) s->yw [dp,.int (p.length:Int)] s=.ok (.bl true) s->wP [dp] s=.ok (.int (maxL p)) s->qI [dp] s=.ok (.int (minL p)) s->xV [dv,.int (m:Int),dp] s=.ok (.bl true) s) _ _ (by simp[xO,yc,pl]) aw gx gn
theorem zjt(h1:1<=m)(h8:m<=8){c:NQ}(hc:Cl v m c)(s:Sto):qF [rD v,.int m,.tup [rD c.1,rD c.2]] s=.ok (.bl true) s:=by
 obtain⟨c1,c2,c3,c4⟩:=hc;have hi:=W.L.hi;have vl:=W.L.len;have wo:=W.often h1 h8 s;have t1:=zgI W h1 c1 s;have t2:=zgI W h1 c2 s;obtain⟨l1,b1⟩:=z2l.mp c1;obtain⟨l2,b2⟩:=z2l.mp c2;have vb:∀i∈v,i.natAbs<2 ^ 16:=λi hi=>by have:=W.L.bd i hi;lia
 have g1:=vI   (m:=16)  s (λi hi=>by have:=b1 i hi;lia) vb (by decide) (by decide) (by lia);have g2:=vI   (m:=16)  s (λi hi=>by have:=b2 i hi;lia) vb (by decide) (by decide) (by lia);rw[c3]at g1;have key:∀dv x y:D,zE [dv,.int (m:Nat)] s=.ok .non s->xV [dv,.int (m:Int),x] s=.ok (.bl true) s->xV [dv,.int (m:Int),y] s=.ok (.bl true) s->zK [x,dv] s=.ok (.int (dot c.2 v)) s->zK [y,dv] s=.ok (.int (dot c.2 v)) s->zgN x y s=.ok (.bl true) s->qF [dv,.int (m:Nat),.tup [x,y]] s=.ok (.bl true) s:=λdv x y e1 e2 e3 e4 e5 e6=>by
  simp only[qF,Mof,z2H,_G];rw[zr   (by rw[z1v,qd,call2   (vr rfl) (vr rfl),e1];rfl),zr   (by rfl),zr   (by rfl),zr   (by rw[z1t,zds (z7U (zdB (vO (by rw[zbq    (vr rfl) (vr rfl) (vr rfl),e2]))) (zdB (vO (by rw[zbq    (vr rfl) (vr rfl) (vr rfl),e3]))))];rfl),z1p,yy,zed,op2   (vr rfl) (vr rfl),e6,Rb];rw[op2   (by rw[call2   (vr rfl) (vr rfl),e4]) (by rw[call2   (vr rfl) (vr rfl),e5]),z47,_al rfl];rfl
 exact key _ _ _ wo t1 t2 g1 g2 (by
  simp only[zgN];rw[(yO _),(yO _)];simp only[];rw[z5T,c4])
end
theorem zoi   {c:NQ}(h:c∈cls v m):Cl v m c/\∃x∈rel v m,c=(abv (neg x),abv x):=by
 refine⟨znf c h,?_⟩;obtain⟨x,hx,rfl⟩:=_m.mp h;exact⟨x,(_L.mp hx).1,rfl⟩
theorem zh1:∀a b:List Int,za8 (iL a) (iL b)=(a.zip b).map λt=>D.tup [.int t.1,.int t.2]
 | [],_=>by rfl | _::_,[]=>by rfl | x::a,y::b=>by simp[za8,(zh1 a b)]
theorem zco:∀p q:List Int,(p.zip q).map (λt=>t.2-t.1)=List.zipWith (λa b=>a-b) q p
 | [],q=>by cases q<;>rfl | _::_,[]=>by rfl | x::p,y::q=>by simp[zco p q]
theorem zjs     (h:Pot s l) (hf:f ρ s=.ok (.loc l) s):∃r s',eOp dIx (ze xo zi) (ze zR (za f (za (eC (.int 4)) zi))) ρ s=.ok (.str (nmR r)) s'/\qV s s' l:=by
 obtain⟨x,s',e,a,b,dr⟩:=z0N  (g:=eC (.int 4)) (far:=4)  h (by decide) (z67 (by decide)) hf (by rfl);have hr:x.toNat<zk9.length:=by simp[zk9];lia
 refine⟨zk9[x.toNat],s',?_,dr⟩;have ix:=zcL (xs:=zk9.map λr=>D.str (nmR r)) (d:=.str (nmR zk9[x.toNat])) (s:=s') a (by simp[hr]);rw[ui,yd,zY,Rb,zfr,Rb,e,Rb,ix]
noncomputable abbrev W8(a0 a1 a2 a3 a4 a5 a6 a7:Option D):Ev:=[a0,a1,a2,a3,a4,a5,a6,a7]
section
variable {n m w:Nat}{v:List Int}{a0 a1 a2 a6 a7:Option D}(W:LW n v w)
include W
theorem zpw (h1:1<=m) (h8:m<=8) (a5:Option D) (s:Sto):∃b5 b6,∀g:FS,(yf z1i (yf z1f (yf jP g))) (W8 a0 a1 a2 (some (rD v)) (some (.int m)) a5 a6 a7) s=g (W8 a0 a1 a2 (some (rD v)) (some (.int m)) b5 b6 a7) s:=by
 have vl:=W.L.len;have hi:=W.L.hi;have hn:=W.hasnone h1 h8 s;have lt:=zm9 W (m:=m);have cn:=cls_nil (v:=v) (m:=m);have q7:z1i (W8 a0 a1 a2 (some (rD v)) (some (.int m)) a5 a6 a7) s=.ok (.nx (W8 a0 a1 a2 (some (rD v)) (some (.int m)) (some (fcD v m)) a6 a7)) s:=by rw[z1i,yW,call2   (vr rfl) (vr rfl),(zil W h1 h8 s)];rfl
 have q8:∀(f:D) (b:Bool),dIs f .non s=.ok (.bl b) s->decide (m<w)=b->(rel v m).isEmpty=b->z1f (W8 a0 a1 a2 (some (rD v)) (some (.int m)) (some f) a6 a7) s=.ok (.nx (W8 a0 a1 a2 (some (rD v)) (some (.int m)) (some f) a6 a7)) s:=λf b e1 e2 e3=>by
  rw[e3]at hn;have gt:decide ((m:Int)<(w:Int))=b:=by rw[<- e2];exact decide_eq_decide.mpr (by lia)
  have i1:eOp dIs (zd 5) (eC .non) (W8 a0 a1 a2 (some (rD v)) (some (.int m)) (some f) a6 a7) s=.ok (.bl b) s:=by rw[op2   (vr rfl) rfl,e1]
  rw[z1f,zds (z7U (vO (by rw[op2   i1 (by rw[op2   (by rw[yE  (vr rfl),(W.m_lw s)]) (vr rfl),zi5,gt]),zkZ,_ck])) (vO (by rw[op2   (by rw[call2   (vr rfl) (vr rfl),hn]) i1,zkZ,_ck])))];rfl
 cases hc:cls v m with
 | nil=>
  have ef:fcD v m=.non:=by unfold fcD;rw[hc]
  rw[ef]at q7;have r0:=cn.mp hc;refine⟨some .non,a6,λg=>?_⟩;have g8:=q8 .non true rfl (_al (lt.mp r0)) (by rw[r0];rfl);rw[zr q7,zr g8,zr (by
   rw[jP,zds (vO (by rw[op2   (vr rfl) rfl];rfl))];rfl)] | cons c0 M=>
  have ef:fcD v m=dQ (z8i c0 M):=by unfold fcD;rw[hc]
  have mem:=zac c0 M;rw[<- hc]at mem;obtain⟨hC,x,hx,ex⟩:=zoi mem;have g9  := List.ne_nil_of_mem hx;rw[ef]at q7;generalize hcc:z8i c0 M=c at *;have eD:dQ c=.tup [rD c.1,rD c.2]:=rfl;rw[eD]at q7;have g8:=q8 (.tup [rD c.1,rD c.2]) false rfl (_R λz=>g9 (lt.mpr z)) (by cases e:rel v m with | nil=>exact absurd e g9 | cons _ _=>rfl);obtain⟨x1,x2,x3,x4⟩:=yM.mp hx;have ir:=z0P (LB W)  (k:=16) (by rw[x1,vl]) (λi hi=>by have:=x2 i hi;lia) (by decide) (by decide) s;rw[_al x3]at ir;have zs:(c.1.zip c.2).map (λt=>t.2-t.1)=x:=by rw[zco,ex];exact z04 x
  have zl:(c.1.zip c.2).length<=1000:=by rw[<- _z ,zs];lia
  have cz:=comp_map   (fi:=zgi (za (eOp dIx (zd 5) (eC (.int 0))) (za (eOp dIx (zd 5) (eC (.int 1))) zi))) (mp:=[none,none]) (fg:=qr 0 1) (fe:=eOp z9E (zd 1) (zd 0)) (λt:Int×Int=>D.tup [.int t.1,.int t.2]) (λt=>D.int (t.2-t.1)) (λt=>[some (.int t.1),some (.int t.2)]) (c.1.zip c.2) (by
    have i0:eOp dIx (zd 5) (eC (.int 0)) (W8 a0 a1 a2 (some (rD v)) (some (.int m)) (some (.tup [rD c.1,rD c.2])) a6 a7) s=.ok (rD c.1) s:=by rfl
    have i1:eOp dIx (zd 5) (eC (.int 1)) (W8 a0 a1 a2 (some (rD v)) (some (.int m)) (some (.tup [rD c.1,rD c.2])) a6 a7) s=.ok (rD c.2) s:=by rfl
    rw[zcT,zB,i0,Rb,zB,i1,Rb,zY,<- zh1];rfl) (λt _=>rfl) (λt _=>by rw[op2   (vr rfl) (vr rfl),z9y]) (by unfold cap;lia);have ez:(c.1.zip c.2).map (λt=>D.int (t.2-t.1))=iL x:=by rw[<- zs,iL,_aG];rfl
  rw[ez]at cz;refine⟨some (.tup [rD c.1,rD c.2]),some (rD x),λg=>?_⟩;have pZ:z5Q (W8 a0 a1 a2 (some (rD v)) (some (.int m)) (some (.tup [rD c.1,rD c.2])) a6 a7) s=.ok (.nx (W8 a0 a1 a2 (some (rD v)) (some (.int m)) (some (.tup [rD c.1,rD c.2])) (some (rD x)) a7)) s:=by rw[z5Q,yW,yE cz];rfl
  have p6:z61 (W8 a0 a1 a2 (some (rD v)) (some (.int m)) (some (.tup [rD c.1,rD c.2])) (some (rD x)) a7) s=.ok (.nx (W8 a0 a1 a2 (some (rD v)) (some (.int m)) (some (.tup [rD c.1,rD c.2])) (some (rD x)) a7)) s:=by
   rw[z61,zds (z7U (vO (by rw[op2   (by rw[zbq    (vr rfl) (vr rfl) (vr rfl),(zjt W h1 h8 hC s)]) rfl];rfl)) (vO (by rw[op2   (by rw[call2   (vr rfl) (vr rfl),ir]) rfl];rfl)))];rfl
  rw[zr q7,zr g8,zr (by rw[jP,znM (vO (by rw[op2   (vr rfl) rfl];rfl)),zr pZ,p6])]
theorem f15   (hk:1<=k) (hb:∀x∈v,k*x<=1000) (rN:k<=1000) (s:Sto):z0V (W8 a0 a1 a2 (some (rD v)) a4 a5 a6 (some (.int k))) s=.ok (.nx (W8 a0 a1 a2 (some (rD v)) a4 a5 a6 (some (.int k)))) s:=by
 have vl:=W.L.len;have hi:=W.L.hi;have b1:=(znh W hk hb).byw s;have b2:=W.byw s;rw[zhC hk]at b1;have c:=comp_map  (ρ:=W8 a0 a1 a2 (some (rD v)) a4 a5 a6 (some (.int k))) (fi:=zM (zd 3)) (mp:=[some 7,none]) (fg:=yu 1) (fe:=eOp xG (zd 0) (zd 1)) D.int (λx=>D.int (k*x)) (λx=>[some (.int k),some (.int x)]) v (uX (vr rfl)) (λx _=>rfl) (λx hx=>by
   have:=W.L.bd x hx;rw[op2   (vr rfl) (vr rfl),z0g (m:=10) (k:=10) s (by lia) (by decide) (by lia) (by decide)]) (by unfold cap;lia);rw[(show v.map (λx=>D.int (k*x))=iL (sc k v) from by rw[iL,sc,_aG];rfl)]at c;rw[z0V,zds (vO (by rw[op2   (by rw[yE (by rw[yE c];rfl),b1]) (by rw[yE  (vr rfl),b2]),(ne_self (zc0 0 (rel v w)) (by decide) s)]))];rfl
end
noncomputable abbrev zlr:D->Ev->Sto->R Fl:=λd ρ s=>(yu 1 d ρ s).bind fun ρ' s'=>(yf z2x (yf z3M (yf z60 (yf z39 (yf z1i (yf z1f (yf jP (yf z0S z0V)))))))) ρ' s'
def ShL(ns:List Int)(ρ:Ev):Prop:=∃a1 a2 a3 a4 a5 a6 a7,ρ=W8 (some (.scr (iL ns))) a1 a2 a3 a4 a5 a6 a7
theorem zjG (ns:List Int) (j:Nat) (ρ:Ev) (s:Sto) (h:ShL ns ρ):∃ ρ' s',zlr (.int j) ρ s=.ok (.nx ρ') s'/\ShL ns ρ':=by
 obtain⟨a1,a2,a3,a4,a5,a6,a7,rfl⟩:=h;rw[show zlr (.int j) (W8 (some (.scr (iL ns))) a1 a2 a3 a4 a5 a6 a7) s=(yf z2x (yf z3M (yf z60 (yf z39 (yf z1i (yf z1f (yf jP (yf z0S z0V)))))))) (W8 (some (.scr (iL ns))) (some (.int j)) a2 a3 a4 a5 a6 a7) s from rfl];obtain⟨c,e1⟩:=zkI ns j s;obtain⟨p,e2⟩:=zo4 c s;have f2:z2x (W8 (some (.scr (iL ns))) (some (.int j)) a2 a3 a4 a5 a6 a7) s=.ok (.nx (W8 (some (.scr (iL ns))) (some (.int j)) (some (.loc s.length)) a3 a4 a5 a6 a7)) (s++[[.int p]]):=by rw[z2x,yW,yE  (by rw[call2   (vr rfl) (vr rfl),e1]),e2];rfl
 obtain⟨x,s1,e3,x0,x3,d1⟩:=z0N (f:=zd 2) (g:=eC (.int 3))  (ρ:=W8 (some (.scr (iL ns))) (some (.int j)) (some (.loc s.length)) a3 a4 a5 a6 a7) (⟨p,by simp⟩:Pot (s++[[.int p]]) s.length) (by decide) (z67 (by decide)) (vr rfl) rfl;have en:(2:Int)+x=((x.toNat+2:Nat):Int):=by lia
 have sz:Sz (x.toNat+2):=by lia
 obtain⟨v,s2,e4,hv,pos,d2⟩:=z8G d1.pot sz;obtain⟨w,W⟩:=hv.lw pos;have f3:z3M (W8 (some (.scr (iL ns))) (some (.int j)) (some (.loc s.length)) a3 a4 a5 a6 a7) (s++[[.int p]])=.ok (.nx (W8 (some (.scr (iL ns))) (some (.int j)) (some (.loc s.length)) (some (rD v)) a4 a5 a6 a7)) s2:=by
  rw[z3M,yW,yd,zB,vr  rfl,Rb,zB,ui,z5H,Rb,e3,Rb,z2V,Rb,zY,en];simp only[Rb];rw[e4];rfl
 obtain⟨r,s3,e5,d3⟩:=zjs (f:=zd 2) (ρ:=W8 (some (.scr (iL ns))) (some (.int j)) (some (.loc s.length)) (some (rD v)) a4 a5 a6 a7) d2.pot (vr rfl);obtain⟨y,s4,e6,y0,y1,d4⟩:=z0N (f:=zd 2) (g:=eC (.int 8))  (ρ:=W8 (some (.scr (iL ns))) (some (.int j)) (some (.loc s.length)) (some (rD v)) a4 a5 a6 a7) d3.pot (by decide) (z67 (by decide)) (vr rfl) rfl;have em:(1:Int)+y=((y.toNat+1:Nat):Int):=by lia
 have m1:1<=y.toNat+1:=by lia
 have f6:z39 (W8 (some (.scr (iL ns))) (some (.int j)) (some (.loc s.length)) (some (rD v)) a4 a5 a6 a7) s3=.ok (.nx (W8 (some (.scr (iL ns))) (some (.int j)) (some (.loc s.length)) (some (rD v)) (some (.int ((y.toNat+1:Nat):Int))) a5 a6 a7)) s4:=by rw[z39,yW,ui,z5H,Rb,e6,Rb,z2V,em];rfl
 generalize y.toNat+1=m at *;obtain⟨b5,b6,g7⟩:=zpw      W m1 (by lia) a5 s4;have ne:=W.lot.ne;have mx:=W.L.bd _ (maxL_mem ne);have mp:0<maxL v:=by
  obtain⟨i,hi,p⟩:=W.pos;have:=maxL_ge i hi;lia
 obtain⟨u,s5,e8,u0,u1,d5⟩:=z0N (f:=zd 2) (g:=eOp z46 (eC (.int 1000)) (ze wP (za (zd 3) zi)))  (ρ:=W8 (some (.scr (iL ns))) (some (.int j)) (some (.loc s.length)) (some (rD v)) (some (.int m)) b5 b6 a7) d4.pot (Int.le_ediv_of_mul_le mp (by lia)) (z67 (Int.ediv_le_self _ (by decide))) (vr rfl) (by rw[op2   rfl (by rw[yE  (vr rfl)];exact z3k s4 ne),zda s4 mp (z67 mx.2)]);have f14:z0S (W8 (some (.scr (iL ns))) (some (.int j)) (some (.loc s.length)) (some (rD v)) (some (.int m)) b5 b6 a7) s4=.ok (.nx (W8 (some (.scr (iL ns))) (some (.int j)) (some (.loc s.length)) (some (rD v)) (some (.int m)) b5 b6 (some (.int (1+u))))) s5:=by rw[z0S,yW,ui,z5H,Rb,e8,Rb,z2V];rfl
 have kb:(1+u)*maxL v<=1000:=by
  have h1:(1+u)*maxL v<=1000 / maxL v*maxL v:=Int.mul_le_mul_of_nonneg_right (by lia) (by lia);have h2:=Int.ediv_mul_le 1000 (show maxL v≠0 by lia);lia
 have rc:=f15 (a0:=some (.scr (iL ns))) (a1:=some (.int j)) (a2:=some (.loc s.length)) (a4:=some (.int m)) (a5:=b5) (a6:=b6) (k:=1+u) W (by lia) (λx hx=>by
  have h1:(1+u)*x<=(1+u)*maxL v:=_a4 (maxL_ge x hx) (by lia);lia) (by
  have h1:(1+u)*1<=(1+u)*maxL v:=_a4 (by lia) (by lia);lia) s5;exact⟨_,s5,by rw[zr f2,zr f3,zr (by
  have z:ze yS (za (zd 3) (za (eOp dIx (ze xo zi) (ze zR (za (zd 2) (za (eC (.int 4)) zi)))) zi)) (W8 (some (.scr (iL ns))) (some (.int j)) (some (.loc s.length)) (some (rD v)) a4 a5 a6 a7) s2=.ok (.bl true) s3:=by
   rw[yd,zB,vr  rfl,Rb,zB,e5,Rb,zY];simp only[Rb];rw[ziO W r s3]
  rw[z60,z5M,zew,z9n,z];rfl),zr f6,g7,zr f14,rc],_,_,_,_,_,_,_,rfl⟩
theorem zmj (ns:List Int):∃ ρ' s',z8P (W8 (some (.scr (iL ns))) none none none none none none none) []=.ok (.nx ρ') s':=by
 obtain⟨k,ek,hk⟩:=Pr.m_many ns.length 3;rw[show ((3:Nat):Int)=3 from rfl]at ek;obtain⟨ρ',s',e,_⟩:=z2i   (fun ρ _=>ShL ns ρ) (yP k) (λx hx ρ s hI=>by
  obtain⟨j,_,rfl⟩:=zbz hx;exact zjG ns j ρ s hI) (W8 (some (.scr (iL ns))) none none none none none none none) [] ⟨_,_,_,_,_,_,_,rfl⟩;refine⟨ρ',s',?_⟩;unfold z8P;rw[z3P,z8o (n:=k) (s1:=[]) (by lia) (by simp only[yd,zB,zY,z5H,yT,_g,Rb,xO,yc,_z,zgs,z7C,ek])];exact e
theorem zg9:∀ns:List Int,ns.length<=63->∃s',zja [.scr (ns.map D.int)] []=.ok (.bl true) s':=λns hn=>by
 obtain⟨ρ',s',e⟩:=zmj ns;refine⟨s',?_⟩;have st:zH ["_law_script","_law_at","_law_pot_here","_law_lot","_law_number","_law_clash","_law_less","_law_many"] [.scr (ns.map D.int)]=W8 (some (.scr (iL ns))) none none none none none none none:=rfl;unfold zja Mof zgJ;rw[st,zr e];rfl
end bH
namespace bH
open L2 Dd Pg
theorem all_mk{P:Program}{w:World}{K:W.Frag}{h:Heap}{mg:Str->Option Value}{fa:Addr}(X:K.In h)(G:h.Ns mainGlobals mg)(re:mg "law"=some (.ref fa))(e:zeG askQ K=valS askQ w) : ∃fd:FuncData,(∀(s:Shared)(v:Value),BindsTo s fd ⟨[v],[]⟩ [("_law_script",v)])/\∀base:Heap,K.In base->base.Ns mainGlobals mg->z5J P w K mg base CX0 15 fa fd ["_law_script"] (zj0 K):=by
 obtain⟨rO,rP,rf,ni⟩:=zh5 X G e 65 rfl;have e0:=re.symm.trans rf;cases e0;obtain⟨oc,od,kV,bE,pm,an,aM,ct,dW,rfl,hl,hc⟩:=ni.ex;have:Txt P w K mg:=⟨z9Q X G e 0 rfl,z9Q X G e 1 rfl,z9Q X G e 2 rfl,z9Q X G e 3 rfl,vU X G e 0 rfl,vU X G e 1 rfl,vU X G e 2 rfl,vU X G e 3 rfl,vU X G e 4 rfl,vU X G e 5 rfl,vU X G e 6 rfl,vU X G e 7 rfl,vU X G e 8 rfl,vU X G e 9 rfl,vU X G e 10 rfl,vU X G e 11 rfl,vU X G e 12 rfl,vU X G e 13 rfl,vU X G e 14 rfl,vU X G e 15 rfl,λi _ _=>zh5 X G e i,zn0 X G e "RULES" zap (_d (i:=0) rfl)⟩;refine⟨W.fnOf "law" "law" (z03 z4s) (uI z4s) (zg z4s) .none kV bE pm an aM ct,λs v=>.of_eq rfl,λbase _ _=>?_⟩;exact zme (x:="law") (zaN ni) zg9
theorem boot_:∀w:World,(W.fencedOpening treeTable PySem.Challenge.pw_drawndown_k54_whole_least w 7992).map (λs=>(s.heap,s.gens,s.drawn,s.toks))=some (W.boot_heap w.params,Array.mk [],W.boot_drawn,W.boot_toks):= W.boot_open (by kernel_rfl) (by decide) (λs=>by kernel_rfl)
theorem left_:W.LeftO PySem.Challenge.pw_drawndown_k54_whole_least qv looseQ xtQ (obsS askQ) (valS askQ) 7992:=zdU "special-get-raises" boot_ (λw os=>z4q (f:=λs=>(seenQ s,obsS askQ s)) (zpc w) (bsz w) (z8c (z6A w os) (z7f w os))) (λw os=>z4q (f:=λs=>(seenQ s,obsS askQ s)) (zpc w) (bsz w) (z8c (z8S w os) (z9a w os)))
end bH
open PySem.W
set_option maxRecDepth 100000 in
set_option maxHeartbeats 0 in
theorem PySem.Challenge.cw_drawndown_k54_whole_least_holds : PySem.Challenge.rw_drawndown_k54_whole_least.Holds := by
  w_on; refine holds_law bH.said_ λrg => ?_
  refine holds_open (q := bH.qv) (loose := bH.looseQ) (Xt := bH.xtQ) (XP := XL bH.qv bH.lvQ) (Yf := Dd.obsS bH.askQ) (Ya := Dd.valS bH.askQ) (YP := Dd.saysS bH.askQ) (N := 7992) bH.left_ (Dd.zhV bH.askQ) (Dd.zbs bH.askQ) (λs e => xl_of s (_B.mp e).1) XL.keeps (by rfl) (by rfl) (by rfl) (λs e => recFacts_of (_B.mp e).2) (by rfl) (by first | assumption | decide +kernel) (by decide +kernel) ⟨rfl, rfl, rfl, rfl, rfl, by decide +kernel⟩ ?hw ?hc
  (case hw => w_witness2)
  refine Dd.walkY (l := PySem.Challenge.rw_drawndown_k54_whole_least) (n := 63) (k := 15) (x := "_law_script") rfl (by decide) (by decide) rfl ⟨rfl, by decide, by decide, rfl⟩ ?F
  case F =>
    intro w mg fa h Yy G dZ XP
    obtain⟨K, KX, e⟩ := Yy
    exact⟨K, KX, bH.all_mk KX G dZ e ⟩
