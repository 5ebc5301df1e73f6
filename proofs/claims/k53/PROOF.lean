import PyProof.Rows.All
import Wide.All
import OpenK.AllK
import Wide.FinOn
import Lean
import PyProof.EqAt
import PyProof.EqKinds
import PyProof.TupleCall
import PyProof.ExcArgsOwn
import PyProof.ExcAttrAll.ValueError
import PyProof.ListMulRoad
import PyProof.Rows.Range3
import KE.KDictLaws
import PyProof.Rows.CallKwBuiltin
import PyProof.Rows.SortRuns
import PySem.Challenge.RW_drawndown_k53_no_least
set_option Elab.async false
set_option linter.all false
set_option maxRecDepth 100000
set_option maxHeartbeats 1000000
set_option exponentiation.threshold 5000
open PySem PySem.Spec PyProof.Rows
abbrev _a:=@wpAny_bind
abbrev _b:=@List.getElem?_eq_some_iff
abbrev _c:=@List.length_cons
abbrev _d:=@Nat.le_refl
abbrev _e:=@Heap.get?_push_of_some
abbrev _f:=@List.mem_of_getElem?
abbrev _g:=@if_pos
abbrev _h:=@wpS_bind
abbrev _i:=@List.length_nil
abbrev _j:=@wpAny_pure
abbrev _k:=@List.size_toArray
abbrev _l:=@if_neg
abbrev _m:=@wpS_pure
abbrev _n:=@List.mem_cons
abbrev _o:=@Heap.lt_size
abbrev _p:=@decide_eq_true_eq
abbrev _q:=@List.getElem?_eq_getElem
abbrev _r:=@Nat.lt_of_lt_of_le
abbrev _s:=@List.mem_append_right
abbrev _t:=@wpAny_mono
abbrev _u:=@Bool.and_eq_true
abbrev _v:=@Heap.get?_push_size
abbrev _w:=@List.mem_cons_of_mem
abbrev _x:=@List.length_map
abbrev _y:=@List.length_append
abbrev _z:=@Option.some.inj
abbrev _A:=@List.getElem?_append_left
abbrev _B:=@List.mem_append
abbrev _C:=@if_true
abbrev _D:=@Nat.ne_of_lt
abbrev _E:=@Option.some.injEq
abbrev _F:=@List.getElem?_set_ne
abbrev _G:=@List.getElem?_append_right
abbrev _H:=@List.getElem?_set_self
abbrev _I:=@List.mem_map
abbrev _J:=@List.getElem?_cons_succ
abbrev _K:=@List.getElem?_cons_zero
abbrev _L:=@List.append_assoc
abbrev _M:=@Option.map_eq_some_iff
abbrev _N:=@decide_eq_false
abbrev _O:=@Nat.le_trans
abbrev _P:=@List.mem_cons_self
abbrev _Q:=@Bool.false_eq_true
abbrev _R:=@List.getD_eq_getElem?_getD
abbrev _S:=@Nat.zero_add
abbrev _T:=@decide_eq_false_iff_not
abbrev _U:=@List.map_cons
abbrev _V:=@Array.length_toList
abbrev _W:=@List.mem_filter
abbrev _X:=@List.cons_append
abbrev _Y:=@Option.bind_some
abbrev _Z:=@List.mem_of_mem_take
abbrev _aa:=@PyProof.Rows.slot_tuple_getitem
abbrev _ab:=@PySem.mem_of_lookup
abbrev _ac:=@Nat.pow_le_pow_left
abbrev _ad:=@List.lookup_cons
abbrev _ae:=@Int.eq_ofNat_of_zero_le
abbrev _af:=@List.not_mem_nil
abbrev _ag:=@List.getElem?_map
abbrev _ah:=@Array.toList_push
abbrev _ai:=@List.mem_append_left
abbrev _aj:=@List.mem_iff_getElem
abbrev _ak:=@List.length_take
abbrev _al:=@wpAny_truthy_bool
abbrev _am:=@wpAny_newObj_type
abbrev _an:=@if_false
abbrev _ao:=@Nat.lt_irrefl
abbrev _ap:=@Nat.le_of_lt
abbrev _aq:=@List.replicate_succ
abbrev _ar:=@wpAny_field
abbrev _as:=@wpAny_loadPart_at
abbrev _at:=@List.take_append_drop
abbrev _au:=@Heap.size_push
abbrev _av:=@wpS_forRange
abbrev _aw:=@wpAny_rule
abbrev _ax:=@Bool.false_ne_true
abbrev _ay:=@beq_iff_eq
abbrev _az:=@wpAny_callSpecial?_slot
abbrev _aA:=@Nat.zero_le
abbrev _aB:=@List.getElem_mem
abbrev _aC:=@wpAny_standAt
abbrev _aD:=@wpAny_seqItems
abbrev _aE:=@Bool.not_eq_true'
abbrev _aF:=@Function.comp_def
abbrev _aG:=@wpAny_loadPart'
abbrev _aH:=@List.mem_or_eq_of_mem_set
abbrev _aI:=@List.drop_eq_getElem_cons
abbrev _aJ:=@congrArg
abbrev _aK:=@List.all_eq_true
abbrev _aL:=@wpS_modify
abbrev _aM:=@List.getElem?_take_of_lt
abbrev _aN:=@List.eq_of_mem_replicate
abbrev _aO:=@decide_eq_true
abbrev _aP:=@Nat.div_le_of_le_mul
abbrev _aQ:=@List.flatten_cons
abbrev _aR:=@Nat.lt_succ_of_lt
abbrev _aS:=@List.foldl_cons
abbrev _aT:=@PyProof.Rows.callWith_type1
abbrev _aU:=@Heap.get?_update_other
abbrev _aV:=@Nat.mul_comm
abbrev _aW:=@List.take_of_length_le
abbrev _aX:=@Array.getD_eq_getD_getElem?
abbrev _aY:=@wpAny_holding
abbrev _aZ:=@wpAny_call_entry
abbrev _a0:=@List.prefix_refl
abbrev _a1:=@wpAny_Call_Name_kw
abbrev _a2:=@F.slot_tuple_iterator_next
abbrev _a3:=@wpAny_setField_rec
abbrev _a4:=@Int.emod_lt_of_pos
abbrev _a5:=@List.mem_singleton
abbrev _a6:=@wpAny_passesOwn
abbrev _a7:=@PassesOwn.never
abbrev _a8:=@Ne.symm
abbrev _a9:=@Nat.pow_le_pow_right
abbrev _ba:=@Nat.lt_of_succ_lt
abbrev _bb:=@wpAny_comprehension_free
abbrev _bc:=@List.mem_range
abbrev _bd:=@W.kia_one
abbrev _be:=@List.getElem?_replicate
abbrev _bf:=@List.length_drop
abbrev _bg:=@Nat.lt_succ_self
abbrev _bh:=@PySem.F.plainAttrs_list
abbrev _bi:=@Option.bind_eq_some_iff
abbrev _bj:=@Nat.mul_le_mul
abbrev _bk:=@Int.sub_mul
abbrev _bl:=@call_meets
abbrev _bm:=@SeqAt.canLay_of_shaped
abbrev _bn:=@List.map_map
abbrev _bo:=@PySem.F.plain_min_loop
abbrev _bp:=@Array.append_empty
abbrev _bq:=@List.of_mem_zip
abbrev _br:=@F.slot_int_rmul
abbrev _bs:=@Option.map_some
abbrev _bt:=@List.find?_cons
abbrev _bu:=@Int.emod_nonneg
abbrev _bv:=@Bool.true_and
abbrev _bw:=@List.length_replicate
abbrev _bx:=@List.length_filter_le
abbrev _by:=@PySem.F.excBase_ValueError
abbrev _bz:=@List.exists_cons_of_ne_nil
abbrev _bA:=@wpS_mono
abbrev _bB:=@Array.perm_iff_toList_perm
abbrev _bC:=@mirror_perm
abbrev _bD:=@List.mem_of_mem_drop
abbrev _bE:=@or_false
abbrev _bF:=@List.getElem_inj
abbrev _bG:=@Nat.le_add_right
abbrev _bH:=@wpAny_binaryOp_repeat_ref
abbrev _bI:=@List.filterMap_cons
abbrev _bJ:=@PySem.F.args_tuple_add_2
abbrev _bK:=@Bool.and_true
abbrev _bL:=@Prod.mk.injEq
abbrev _bM:=@List.Pairwise.imp_of_mem
abbrev _bN:=@List.append_nil
abbrev _bO:=@List.nodup_cons
abbrev _bP:=@Int.natCast_mul
abbrev _bQ:=@List.mem_filterMap
abbrev _bR:=@Calls.spliced_cons
abbrev _bS:=@List.zip_cons_cons
abbrev _bT:=@List.lookup_append
abbrev _bU:=@Nat.lt_of_le_of_lt
abbrev _bV:=@List.pairwise_cons
abbrev _bW:=@PySem.F.entry_tuple_add
abbrev _bX:=@List.length_eq_zero_iff
abbrev _bY:=@wpAny_assign_Name
abbrev _bZ:=@PySem.F.slot_tuple_add
abbrev _b0:=@Int.toNat_natCast
abbrev _b1:=@List.pairwise_map
abbrev _b2:=@PySem.F.slot_list_iadd
abbrev _b3:=@wpS_get
abbrev _b4:=@Array.getElem?_extract
abbrev _b5:=@Nat.add_zero
abbrev _b6:=@List.zipWith_cons_cons
abbrev _b7:=@Array.toList_eraseIdxIfInBounds
abbrev _b8:=@Heap.get?_update_self
abbrev _b9:=@exec_Assign_Name_used
abbrev _ca:=@PySem.F.slot_dict_get
abbrev _cb:=@F.typeOf_object_class
abbrev _cc:=@List.perm_append_comm
abbrev _cd:=@typeIs_int
abbrev _ce:=@List.drop_length
abbrev _cf:=@F.slot_tuple_mul
abbrev _cg:=@Calls.evalArgs_plain
abbrev _ch:=@wpAny_updateSeq_pair
abbrev _ci:=@codeAny_call_builtin
abbrev _cj:=@List.eq_nil_of_length_eq_zero
abbrev _ck:=@Nat.mul_le_mul_right
abbrev _cl:=@wpAny_execs_nil
abbrev _cm:=@List.length_set
abbrev _cn:=@List.nil_append
abbrev _co:=@pushCells_keeps
abbrev _cq:=@F.slot_zip_next
abbrev _cs:=@List.cons.injEq
abbrev _cu:=@Int.natCast_add
abbrev _cv:=@List.getElem?_range
abbrev _cw:=@Heap.SameBut.update
abbrev _cx:=@List.length_pos_iff
abbrev _cy:=@List.filter_eq_self
abbrev _cz:=@Int.toNat_of_nonneg
abbrev _cA:=@codeAny_mono
abbrev _cD:=@assignInOrder_cons
abbrev _cF:=@Option.isSome_some
abbrev _cG:=@List.set_cons_zero
abbrev _cH:=@List.set_cons_succ
abbrev _cI:=@wpS_lift
abbrev _cJ:=@Array.size_extract
abbrev _cK:=@Bool.not_eq_false'
abbrev _cP:=@Calls.spliced_nil
abbrev _cQ:=@F.args_int_rmul_2
abbrev _cR:=@Nat.le_of_succ_le
abbrev _cS:=@wpAny_of_eq
abbrev _cW:=@wpAny_onRaise
abbrev _cX:=@W.cellsFrom_some
abbrev _cY:=@noFill_tuple_add
abbrev _cZ:=@F.slot_int_index
abbrev _c0:=@F.entry_int_rmul
abbrev _c3:=@List.zipIdx_cons
abbrev _c4:=@Option.getD_some
abbrev _c5:=@List.mem_flatMap
abbrev _c9:=@Nat.ne_of_gt
abbrev _da:=@wpAny_typeOf
abbrev _dg:=@getElem?_pos
abbrev _dh:=@Int.mul_comm
noncomputable section
namespace Dd
noncomputable def dArgs(s:Stmt):Arguments:=match s with
 | .FunctionDef _ a _ _ _ _ _ _ _ _=>a | _=>{posonlyargs:=[],args:=[],vararg:=none,kwonlyargs:=[],kw_defaults:=[],kwarg:=none,defaults:=[]}
noncomputable def zdX(s:Stmt):List Stmt:=match s with
 | .FunctionDef _ _ b _ _ _ _ _ _ _=>b | _=>[]
noncomputable def zaS(s:Stmt):Scope:=match s with
 | .FunctionDef _ _ _ _ _ _ sc _ _ _=>sc | _=>{kind:=.function,names:=[],isGenerator:=false,isCoroutine:=false}
noncomputable def z5b(h:Heap)(a:Addr):W.Frag:=match h.get? a with | some o=>[(a,o)] | none=>[]
noncomputable def zgR(h:Heap)(g:W.Frag)(x:Str):W.Frag:=match W.nsIn g mainGlobals x with
 | some (some (.ref f))=>z5b h f++(match h.get? f with
   | some ⟨_,_,.func fd,_⟩=>(match fd.code with | .ref c=>z5b h c | _=>[]) | some ⟨_,_,.cls cd,_⟩=>z5b h cd.ns | _=>[]) | _=>[]
noncomputable def gat(h:Heap)(ns:List Str):W.Frag:=z5b h mainGlobals++ns.flatMap (zgR h (z5b h mainGlobals))
abbrev FV:=Str×Str×Arguments×FuncBody×Scope×Addr×List (Str×Addr)×Value×Addr×Bool×Bool
noncomputable def zcz(K:W.Frag)(x:Str):Option FV:=match W.nsIn K mainGlobals x with
 | some (some (.ref f))=>(match K.lookup f with
   | some ⟨_,_,.func fd,_⟩=>some (fd.name,fd.qualname,fd.params,fd.body,fd.scope,fd.globals,fd.closure,fd.defaults,fd.builtins,W.codeIn K fd.code fd.qualname,W.keepIn K (.ref f)) | _=>none) | _=>none
noncomputable def zfG(x:Str)(st:Stmt):Option FV:=some (x,x,dArgs st,.stmts (zdX st),zaS st,mainGlobals,[],.none,builtinsNs,true,true)
noncomputable def zc2(K:W.Frag)(x:Str):Bool:=match W.nsIn K mainGlobals x with | some none=>true | _=>false
noncomputable def zcX(K:W.Frag)(x:Str):Option Int:=match W.nsIn K mainGlobals x with | some (some (.int i _))=>some i | _=>none
noncomputable def sameRef:Value->Option (Option Value)->Bool
 | .ref f,some (some (.ref g))=>f==g | _,_=>false
noncomputable def zeN:Value->Option Str
 | .str k _=>some k | _=>none
noncomputable def z7U:Value->Bool
 | .type c=>c=="dict" | _=>false
noncomputable def zdo(K:W.Frag):List DictEntry->List Str->List (Int×Option Str×Bool)
 | e::es,y::ys=>(e.hash,zeN e.key,sameRef e.val (W.nsIn K mainGlobals y))::zdo K es ys | [],[]=>[] | _,_=>[(0,none,false)]
noncomputable def zg6(K:W.Frag)(x:Str)(ys:List Str):Option (Bool×Bool×Bool×Bool×List (Int×Option Str×Bool)):=match W.nsIn K mainGlobals x with
 | some (some (.ref a))=>(match K.lookup a with
   | some ⟨c,d,.dict es _,sl⟩=>some (z7U c,d.isNone,sl.size==0,a==sysModules,zdo K es.toList ys) | _=>none) | _=>none
noncomputable def zhf(w:World)(tb:List (Str×Str)):Option (Bool×Bool×Bool×Bool×List (Int×Option Str×Bool)):=some (true,true,true,false,tb.map λp=>(PyData.keyHash w.params p.1,some p.1,true))
noncomputable def zez:List Value->Option (List Int)
 | []=>some [] | .int i _::r=>(zez r).map (i::·) | _=>none
noncomputable def z9e:Value->Bool
 | .type c=>c=="tuple" | _=>false
noncomputable def zfw(K:W.Frag)(x:Str):Option (Bool×Option (List Int)):=match W.nsIn K mainGlobals x with
 | some (some (.ref a))=>(match K.lookup a with
   | some ⟨c,_,.seq its _,_⟩=>some (z9e c,zez its.toList) | _=>none) | _=>none
noncomputable def bmV:List Value:=[.type "ValueError",.type "Exception",.type "BaseException",.type "object"]
noncomputable def z1A(K:W.Frag)(C:Addr):Bool:=match K.lookup C with | some ⟨.type t,_,.cls _,_⟩=>t=="type" | _=>false
noncomputable def z2I(K:W.Frag)(x:Str):Bool:=match W.nsIn K mainGlobals x with
 | some (some (.ref C))=>W.excIn K C bmV "ValueError.__new__"&&(W.findIn K (.ref C) "__getattribute__"==some (some (.builtin "BaseException.__getattribute__"))&&(W.findIn K (.ref C) "__getattr__"==some none && (W.findIn K (.ref C) "__class__"==some (some (.builtin "object.__class__"))&&(W.mroIn K C (.type "object")==some true&&(W.mroIn K C (.type "BaseException")==some true&&(z1A K C&&W.kitOne K (.ref C) (.type "ValueError")==some true)))))) | _=>false
noncomputable def z2i(K:W.Frag)(x y:Str):Option (Option Bool×Option Bool):=match W.nsIn K mainGlobals x,W.nsIn K mainGlobals y with
 | some (some (.ref C)),some (some (.ref D))=>some (W.mroIn K C (.ref D),W.kitOne K (.ref C) (.ref D)) | _,_=>none
abbrev Obs:=List (Option FV)×List Bool×List (Option Int)×List (Option (Bool×Bool×Bool×Bool×List (Int×Option Str×Bool)))×List (Option (Bool×Option (List Int)))×List Bool×List (Option (Option Bool×Option Bool))
structure Ask where
 fs:List (Str×Stmt)
 bs:List Str
 cs:List (Str×Int)
 ts:List (Str×List (Str×Str))
 us:List (Str×List Int)
 xs:List Str
 ps:List ((Str×Str)×Bool)
noncomputable def z7Y(q:Ask)(K:W.Frag):Obs:=(q.fs.map λp=>zcz K p.1,q.bs.map (zc2 K),q.cs.map λp=>zcX K p.1,q.ts.map (λp=>zg6 K p.1 (p.2.map (·.2))),q.us.map (λp=>zfw K p.1),q.xs.map (z2I K),q.ps.map λp=>z2i K p.1.1 p.1.2)
noncomputable def obsS(q:Ask)(s:Shared):Obs:=z7Y q (gat s.heap (q.fs.map (·.1)++q.ts.map (·.1)++q.us.map (·.1)++q.xs))
noncomputable def valS(q:Ask)(w:World):Obs:=(q.fs.map λp=>zfG p.1 p.2,q.bs.map λ_=>true,q.cs.map λp=>some p.2,q.ts.map (λp=>zhf w p.2),q.us.map (λp=>some (true,some p.2)),q.xs.map λ_=>true,q.ps.map λp=>some (some p.2,some p.2))
noncomputable def z1B(tb:String->Option Builtin)(p:Program)(w:World)(n₀:Nat)(ann:Option Value):Nat->W.SharedT->Thread->Option W.SharedT
 | 0,_,_=>none | n+1,s,t=>match W.through t with
  | true=>some s | false=>match W.stepOk n₀ ann t with
   | false=>none | true=>match W.stepT (denote tb) p w s t with
    | some (s',t')=>z1B tb p w n₀ ann n s' t' | none=>none
noncomputable def zdJ(l:List Obj):W.BT×Nat:=l.foldl (λa o=>(a.1.ins a.2 o,a.2+1)) (W.BT.nil,0)
def zds(P:Params):W.BT:=(zdJ (W.boot_heap P).objs.toList).1
end Dd
namespace K53
open Dd
noncomputable def top(i:Nat):Stmt:=PySem.Challenge.pw_drawndown_k53_no_least.main.body.getD i (.Pass ⟨0,0,0,0⟩)
noncomputable abbrev jD:Stmt:=top 22
noncomputable abbrev jy:Stmt:=top 24
noncomputable abbrev wu:Stmt:=top 26
noncomputable abbrev ju:Stmt:=top 31
noncomputable abbrev z1i:Stmt:=top 37
noncomputable abbrev z1H:Stmt:=top 38
noncomputable abbrev z0N:Stmt:=top 48
noncomputable abbrev z3z:Stmt:=top 49
noncomputable abbrev vv:Stmt:=top 51
noncomputable abbrev jG:Stmt:=top 52
noncomputable abbrev qR:Stmt:=top 53
noncomputable abbrev vo:Stmt:=top 54
noncomputable abbrev uD:Stmt:=top 23
noncomputable abbrev ua:Stmt:=top 25
noncomputable abbrev xL:Stmt:=top 39
noncomputable abbrev uc:Stmt:=top 55
noncomputable abbrev wx:Stmt:=top 56
noncomputable abbrev z1L:Stmt:=top 28
noncomputable abbrev qQ:Stmt:=top 46
noncomputable abbrev jv:Stmt:=top 29
noncomputable abbrev uJ:Stmt:=top 35
noncomputable abbrev yO:Stmt:=top 36
noncomputable abbrev qF:Stmt:=top 40
noncomputable abbrev qm:Stmt:=top 41
noncomputable abbrev vC:Stmt:=top 42
noncomputable abbrev jF:Stmt:=top 44
noncomputable abbrev jw:Stmt:=top 45
noncomputable abbrev ug:Stmt:=top 47
noncomputable abbrev vH:Stmt:=top 43
noncomputable abbrev qr:Stmt:=top 57
noncomputable abbrev z2f:Stmt:=top 58
noncomputable def askQ:Ask:=⟨[(("is_whole":Str),jD), (("has_size":Str),jy), (("tuples_between":Str),wu), (("together":Str),ju), (("weight":Str),z1i), (("length":Str),z1H), (("turned":Str),z0N), (("above":Str),z3z), (("_law_cell_at":Str),vv), (("_law_pot":Str),jG), (("_law_take":Str),qR), (("_law_kind_of":Str),vo), (("are_wholes":Str),uD), (("want_number":Str),ua), (("relations_within":Str),xL), (("_law_no_lot":Str),uc), (("_law_small_lot":Str),wx), (("is_lot":Str),z1L), (("is_taking":Str),qQ), (("want_lot":Str),jv), (("want_small":Str),uJ), (("want_small_and_often":Str),yO), (("by_weight":Str),qF), (("by_length":Str),qm), (("least_weight":Str),vC), (("has_none":Str),jF), (("is_clash":Str),jw), (("first_clash":Str),ug), (("least_length":Str),vH), (("_law_told":Str),qr), (("law":Str),z2f)], [("ValueError":Str),("abs":Str),("all":Str),("bool":Str),("int":Str),("isinstance":Str),("len":Str),("list":Str),("max":Str),("min":Str),("range":Str),("sorted":Str),("sum":Str),("tuple":Str),("zip":Str)], [(("LEAST_SIZE":Str),(2:Int)),(("MOST_NUMBER":Str),(1000:Int)),(("MOST_OFTEN":Str),(8:Int)),(("MOST_SIZE":Str),(4:Int))], [], [], [("DrawError":Str),("Ended":Str),("NoBottom":Str),("NoCube":Str),("NoDeed":Str),("NoLot":Str),("NoNumber":Str),("NoRoot":Str),("NoRow":Str),("NoRule":Str),("NoSize":Str),("NoStep":Str),("NoTable":Str),("NoText":Str),("NoTuple":Str),("NotAlike":Str),("NotFair":Str),("TooMany":Str)], [((("NoLot":Str),("NoLot":Str)),true),((("NoLot":Str),("NoRule":Str)),false),((("NoLot":Str),("Ended":Str)),false),((("NoLot":Str),("NoBottom":Str)),false),((("NoLot":Str),("NoRoot":Str)),false),((("NoLot":Str),("NoCube":Str)),false),((("NoLot":Str),("NoSize":Str)),false),((("NoLot":Str),("NoNumber":Str)),false),((("NoLot":Str),("TooMany":Str)),false),((("NoLot":Str),("NoTable":Str)),false),((("NoLot":Str),("NoTuple":Str)),false),((("NoLot":Str),("NotAlike":Str)),false),((("NoLot":Str),("NotFair":Str)),false),((("NoLot":Str),("NoText":Str)),false),((("NoLot":Str),("NoStep":Str)),false),((("NoLot":Str),("NoDeed":Str)),false),((("NoLot":Str),("NoRow":Str)),false),((("NoNumber":Str),("NoLot":Str)),false),((("NoNumber":Str),("NoRule":Str)),false),((("NoNumber":Str),("Ended":Str)),false),((("NoNumber":Str),("NoBottom":Str)),false),((("NoNumber":Str),("NoRoot":Str)),false),((("NoNumber":Str),("NoCube":Str)),false),((("NoNumber":Str),("NoSize":Str)),false),((("NoNumber":Str),("NoNumber":Str)),true),((("NoNumber":Str),("TooMany":Str)),false),((("NoNumber":Str),("NoTable":Str)),false),((("NoNumber":Str),("NoTuple":Str)),false),((("NoNumber":Str),("NotAlike":Str)),false),((("NoNumber":Str),("NotFair":Str)),false),((("NoNumber":Str),("NoText":Str)),false),((("NoNumber":Str),("NoStep":Str)),false),((("NoNumber":Str),("NoDeed":Str)),false),((("NoNumber":Str),("NoRow":Str)),false),((("TooMany":Str),("NoLot":Str)),false),((("TooMany":Str),("NoRule":Str)),false),((("TooMany":Str),("Ended":Str)),false),((("TooMany":Str),("NoBottom":Str)),false),((("TooMany":Str),("NoRoot":Str)),false),((("TooMany":Str),("NoCube":Str)),false),((("TooMany":Str),("NoSize":Str)),false),((("TooMany":Str),("NoNumber":Str)),false),((("TooMany":Str),("TooMany":Str)),true),((("TooMany":Str),("NoTable":Str)),false),((("TooMany":Str),("NoTuple":Str)),false),((("TooMany":Str),("NotAlike":Str)),false),((("TooMany":Str),("NotFair":Str)),false),((("TooMany":Str),("NoText":Str)),false),((("TooMany":Str),("NoStep":Str)),false),((("TooMany":Str),("NoDeed":Str)),false),((("TooMany":Str),("NoRow":Str)),false),((("NoLot":Str),("DrawError":Str)),true),((("NoNumber":Str),("DrawError":Str)),true),((("TooMany":Str),("DrawError":Str)),true)]⟩
noncomputable def qv:Program:=W.view PySem.Challenge.pw_drawndown_k53_no_least [58]
noncomputable def looseQ:List Str:=[("DrawError":Str),("NoLot":Str),("NoTable":Str),("NoTuple":Str),("NotAlike":Str),("NotFair":Str),("NoText":Str),("NoRule":Str),("Ended":Str),("NoBottom":Str),("NoRoot":Str),("NoCube":Str),("NoSize":Str),("NoNumber":Str),("TooMany":Str),("NoStep":Str),("NoDeed":Str),("NoRow":Str),("LEAST_SIZE":Str),("MOST_SIZE":Str),("is_whole":Str),("are_wholes":Str),("has_size":Str),("want_number":Str),("tuples_between":Str),("is_lot":Str),("want_lot":Str),("together":Str),("MOST_NUMBER":Str),("MOST_OFTEN":Str),("want_small":Str),("want_small_and_often":Str),("weight":Str),("length":Str),("relations_within":Str),("by_weight":Str),("by_length":Str),("least_weight":Str),("least_length":Str),("has_none":Str),("is_clash":Str),("is_taking":Str),("first_clash":Str),("turned":Str),("above":Str),("_law_cell_at":Str),("_law_pot":Str),("_law_take":Str),("_law_kind_of":Str),("_law_no_lot":Str),("_law_small_lot":Str),("_law_told":Str)]
noncomputable def lvQ:List (Str×W.WData):=[]
noncomputable def xtQ:Shared->Bool:=λs=>W.xlAt qv lvQ s&&W.recOk (W.RowW.records (W.OpenRow.toRowW (W.OpenLaw.row PySem.Challenge.rw_drawndown_k53_no_least))) s
theorem zhj:∀w:World,W.absHeap (zds w.params) 11 (W.boot_heap w.params).life=W.boot_heap w.params:=by
 intro w;kernel_rfl
theorem bsz:∀w:World,((W.boot_heap w.params).isNs mainGlobals&&(Array.mk []:Array GenState).size==0,(W.boot_heap w.params).objs.size,(W.boot_heap w.params).nsMap mainGlobals "__annotations__")=(true,11,(some (.ref 6))):=by
 intro w;kernel_rfl
def zgH(w v:World)(os:OsState):Option W.SharedT:=z1B treeTable PySem.Challenge.pw_drawndown_k53_no_least v 11 (some (.ref 6)) 9690 ⟨zds w.params,11,(W.boot_heap w.params).life,Array.mk [],W.boot_drawn,W.boot_toks,os⟩ (W.topStub PySem.Challenge.pw_drawndown_k53_no_least)
def zgf(w:World)(s:W.SharedT):Bool:=W.staticsOk (importedModules PySem.Challenge.pw_drawndown_k53_no_least.main.body) (W.boot_heap w.params) s.abs.heap&&W.namesBound PySem.Challenge.pw_drawndown_k53_no_least s.abs.heap&&W.gensDone s.abs&&W.laidKept (W.boot_heap w.params) s.abs.heap
noncomputable def seenQ(s:Shared):=W.openSeen qv looseQ (importedModules PySem.Challenge.pw_drawndown_k53_no_least.main.body) xtQ true s
set_option maxRecDepth 1000000 in
theorem z9m:∀(w:World)(os:OsState),(zgH w w os).map (λs=>(zgf w s,obsS askQ s.abs))=some (true,valS askQ w):=by
 intro w os;kernel_rfl
set_option maxRecDepth 1000000 in
theorem z9Q:∀(w:World)(os:OsState),(zgH w w os).map (λs=>seenQ s.abs)=some (W.openGood qv looseQ):=by
 intro w os;kernel_rfl
end K53
namespace L2
abbrev Key:=Sum Int Str
noncomputable def z6T:Key->Value->Bool
 | .inl k,v=>Value.isInt k v | .inr x,v=>Value.isStrOf x v
noncomputable def zi1(w:World):Key->Int
 | .inl k=>hashInt k | .inr x=>hashStr w x
theorem yL:∀{k:Key} {v:Value},z6T k v=true->(∃i t,k=Sum.inl i/\v=Value.int i t)\/(∃x t,k=Sum.inr x/\v=Value.str x t)
 | .inl i,v,h=>by
  obtain⟨t,e⟩:=Value.isInt_shape (k:=i) (v:=v) h;exact .inl ⟨i,t,rfl,e⟩ | .inr x,v,h=>by
  obtain⟨t,e⟩:=Value.isStrOf_shape (x:=x) (v:=v) h;exact .inr ⟨x,t,rfl,e⟩
theorem z7o(i:Int)(t:Tok):z6T (.inl i) (.int i t)=true:=by simp[z6T,Value.isInt]
theorem z8p(x:Str)(t:Tok):z6T (.inr x) (.str x t)=true:=by simp[z6T,Value.isStrOf]
theorem zeM(a b:Int):decide ((Sum.inl a:Key)=Sum.inl b)=(a==b):=by
 by_cases e:a=b;·subst e;simp
 ·have h:¬ (Sum.inl a:Key)=Sum.inl b:=λq=>e (Sum.inl.inj q);rw[_N h];exact (beq_eq_false_iff_ne.mpr e).symm
theorem zeT(a b:Str):decide ((Sum.inr a:Key)=Sum.inr b)=decide (a=b):=by
 by_cases e:a=b;·subst e;simp
 ·have h:¬ (Sum.inr a:Key)=Sum.inr b:=λq=>e (Sum.inr.inj q);rw[_N h,_N e]
theorem zdE(a:Int)(b:Str):decide ((Sum.inl a:Key)=Sum.inr b)=false:=_N (λq=>nomatch q)
theorem zdK(a:Str)(b:Int):decide ((Sum.inr a:Key)=Sum.inl b)=false:=_N (λq=>nomatch q)
noncomputable def xo(prog:Program)(w:World):PySem.KeyKind prog w Key where
 is:=z6T;hash:=zi1 w;inj:=λv a b ha hb=>by
  rcases yL ha with⟨i,t,rfl,rfl⟩ | ⟨x,t,rfl,rfl⟩
  ·rcases yL hb with⟨j,u,rfl,e⟩ | ⟨y,u,rfl,e⟩;·injection e with e1 _;rw[e1]
   ·exact nomatch e
  ·rcases yL hb with⟨j,u,rfl,e⟩ | ⟨y,u,rfl,e⟩;·exact nomatch e
   ·injection e with e1 _;rw[e1]
 byValue:=λk v h=>by rcases yL h with⟨i,t,rfl,rfl⟩ | ⟨x,t,rfl,rfl⟩<;>rfl
 pyHash:=λhv h=>by
  rcases yL hv with⟨i,t,rfl,rfl⟩ | ⟨x,t,rfl,rfl⟩;·exact wpAny_pyHash_int h
  ·exact wpAny_pyHash_str h
 eqBool:=λhu hv h=>by
  rcases yL hu with⟨i,t,rfl,rfl⟩ | ⟨x,t,rfl,rfl⟩
  ·rcases yL hv with⟨j,u,rfl,rfl⟩ | ⟨y,u,rfl,rfl⟩;·rw[zeM]at h;exact wpAny_eqBool_int h
   ·rw[zdE]at h;exact SeqAt.EqAt.int_str i t y u _ _ _ _ h
  ·rcases yL hv with⟨j,u,rfl,rfl⟩ | ⟨y,u,rfl,rfl⟩;·rw[zdK]at h;exact SeqAt.EqAt.str_int x t j u _ _ _ _ h
   ·rw[zeT]at h;exact wpAny_eqBool_str h
 «strs» := λk x t v h=>by
  rcases yL h with⟨i,u,rfl,e⟩ | ⟨y,u,rfl,e⟩;·exact nomatch e
  ·injection e with e1 _;subst e1;cases v<;>rfl
theorem z4Y(prog:Program)(w:World)(i:Int)(t:Tok):(xo prog w).is (.inl i) (.int i t)=true:=z7o i t
theorem z5e(prog:Program)(w:World)(x:Str)(t:Tok):(xo prog w).is (.inr x) (.str x t)=true:=z8p x t
inductive V where | non | bl (b:Bool) | int (i:Int) | str (x:Str) | byt (b:Array UInt8) | flt (b:UInt64) | ref (a:Addr) | ty (n:String) deriving DecidableEq
def xc:V->Value->Prop
 | .non,u=>u=Value.none | .bl b,u=>u=Value.bool b | .int i,u=>∃t,u=Value.int i t | .str x,u=>∃t,u=Value.str x t | .byt b,u=>∃t,u=Value.bytes b t | .flt b,u=>∃t,u=Value.float b t | .ref a,u=>u=Value.ref a | .ty n,u=>u=Value.type n
abbrev yC:List V->List Value->Prop:=Paired xc
theorem yC.length{xs:List V}{us:List Value}(r:yC xs us):xs.length=us.length:=Paired.length r
theorem yC.get:∀{xs:List V} {us:List Value} {i:Nat} {x:V},yC xs us->xs[i]? = some x->∃u,us[i]? = some u/\xc x u
 | _,_,_,_,.nil,e=>by simp at e | _,_,0,_,.cons r _,e=>by simp at e;subst e;exact⟨_,rfl,r⟩ | _,_,i+1,x,.cons _ t,e=>by
  obtain⟨u,h1,h2⟩:=yC.get (i:=i) (x:=x) t (by simpa using e);exact⟨u,by simpa using h1,h2⟩
theorem yC.set{x:V}{u:Value}(r:xc x u):∀{xs:List V}{us:List Value}(i:Nat),yC xs us->yC (xs.set i x) (us.set i u)
 | _,_,_,.nil=>.nil | _,_,0,.cons _ t=>.cons r t | _,_,i+1,.cons q t=>.cons q (yC.set r i t)
theorem yC.append:∀{xs ys:List V}{us ws:List Value},yC xs us->yC ys ws->yC (xs++ys) (us++ws)
 | _,_,_,_,.nil,s=>s | _,_,_,_,.cons r t,s=>.cons r (yC.append t s)
theorem yC.take:∀{xs:List V}{us:List Value}(n:Nat),yC xs us->yC (xs.take n) (us.take n)
 | _,_,0,_=>.nil | _,_,_+1,.nil=>.nil | _,_,n+1,.cons r t=>.cons r (yC.take n t)
theorem yC.drop:∀{xs:List V}{us:List Value}(n:Nat),yC xs us->yC (xs.drop n) (us.drop n)
 | _,_,0,r=>r | _,_,_+1,.nil=>.nil | _,_,n+1,.cons _ t=>yC.drop n t
def zcW:Option V->Option Value->Prop
 | some v,some u=>xc v u | none,none=>True | _,_=>False
def KV{κ:Type}:List (κ×V)->List (κ×Value)->Prop:=Paired λ(p:κ×V)(q:κ×Value)=>p.1=q.1/\xc p.2 q.2
noncomputable def kV:Key->V
 | .inl i=>.int i | .inr x=>.str x
inductive HO where | lst (xs:List V) | tup (xs:List V) | dK (kvs:List (Key×V)) | dT (kvs:List (List Key×V)) | set (S:Int->Bool)(n:Nat) | ins (C dx:Addr)(fs:List (Str×V)) | own (x:Addr) | xd (fs:List (Str×V)) | met (f x:Addr) | rng (lo hi:Int) | frz (o:Obj)(u:HO) | tbl (ps:Array Value) | ext (φ:Heap->Prop)
abbrev Hp:=Addr->Option HO
noncomputable def upd(H:Hp)(a:Addr)(o:HO):Hp:=λb=>if b=a then some o else H b
theorem zH{H:Hp}{a:Addr}{o:HO}:upd H a o a=some o:=by unfold upd;rw[_g rfl]
theorem zj{H:Hp}{a b:Addr}{o:HO}(h:b≠a):upd H a o b=H b:=by unfold upd;rw[_l h]
theorem z7H{H:Hp}{a:Addr}{o u:HO}:upd (upd H a o) a u=upd H a u:=by funext b;unfold upd;split<;>rfl
theorem yE{H:Hp}{a b:Addr}{o:HO}(h:H a=some o)(h':H b=none):a≠b:=by intro e;subst e;rw[h]at h';cases h'
def z7k(h:Heap)(a:Addr)(items:Array Value):Prop:=∃o,h.get? a=some o/\o.cls=.type "tuple"/\o.dict=none/\∃n,o.data=.seq items n
theorem z7k.tup{h:Heap}{a:Addr}{items:Array Value}(x:z7k h a items):IsTup h a items:=let ⟨o,e,c,_,r⟩:=x;⟨o,e,c,r⟩
theorem z7k.new(h:Heap)(items:Array Value):z7k (h.push {cls:=.type "tuple",data:=.seq items}) h.objs.size items:=⟨_,_v _ rfl,rfl,rfl,_,rfl⟩
theorem z7k.lt{h:Heap}{a:Addr}{items:Array Value}(x:z7k h a items):a<h.objs.size:=x.tup.lt
section
variable (P:Program)(w:World)
def xf(H:Hp)(h:Heap)(a:Addr):HO->Prop
 | .lst xs=>xs.length<=sizeLine/\∃(its:List Value)(n:Nat),yC xs its/\h.get? a=some {cls:=.type "list",data:=.seq its.toArray n} | .tup xs=>xs.length<=sizeLine/\∃its:List Value,yC xs its/\z7k h a its.toArray | .dK kvs=>kvs.length<=sizeLine/\(a==sysModules)=false/\∃vs,KV kvs vs/\h.DictOf (xo P w) a vs | .dT kvs=>kvs.length<=sizeLine/\(a==sysModules)=false/\∃xs:List (List Key×Addr×Value), Paired (λ(p:List Key×V)(q:List Key×Addr×Value)=>p.1=q.1/\H q.2.1=some (.tup (p.1.map kV))/\xc p.2 q.2.2) kvs xs/\ ∃o es ep,h.get? a=some o/\o.ExactDict/\o.data=.dict es ep/\es.toList=xs.map (entryOfKey (tupleKind (xo P w)))/\(xs.map (·.1)).Nodup | .set S n=>h.SetOf (intKind P w) a S n | .ins C dx fs=>H dx=some (.own a)/\fs.length<=1000/\dx≠a/\h.get? a=some (W.instObj C dx)/\ ∃mA,h.Ns1 dx mA/\(∀f,zcW (fs.lookup f) (mA f))/\PySem.Within mA (fs.map (·.1)) | .own _=>∃o,h.get? a=some o | .xd fs=>∃mA,h.Ns1 a mA/\∀f,zcW (fs.lookup f) (mA f) | .rng lo hi=>∃t u v,h.get? a=some {cls:=.type "range",data:=.fields #[.int lo t,.int hi u,.int 1 v]} | .frz o u=>h.get? a=some o/\xf H h a u | .tbl ps=>h.get? a=some {cls:=.none,data:=.fields ps} | .met f x=>h.get? a=some (W.methodObj (.ref f) (.ref x)) | .ext φ=>φ h/\(∃o,h.get? a=some o)/\∀h1 h2:Heap,φ h1->(∀o,h1.get? a=some o->h2.get? a=some o)->φ h2
def HOk(H:Hp)(h:Heap):Prop:=∀a o,H a=some o->xf P w H h a o
end
section
variable {P:Program}{w:World}{H H':Hp}{h h':Heap}{a:Addr}{o:HO}
theorem xf.lt(x:xf P w H h a o):a<h.objs.size:=by cases o with
 | lst xs=>obtain⟨_,_,_,_,e⟩:=x;exact _o e | tup xs=>obtain⟨_,_,_,p⟩:=x;exact p.lt | dK kvs=>obtain⟨_,_,_,_,o,_,_,e,_⟩:=x;exact _o e | dT kvs=>obtain⟨_,_,_,_,o,_,_,e,_⟩:=x;exact _o e | set S n=>obtain⟨o,_,_,_,e,_⟩:=x;exact _o e | ins C dx fs=>obtain⟨_,_,_,e,_⟩:=x;exact _o e | own y=>obtain⟨_,e⟩:=x;exact _o e | xd fs=>obtain⟨_,⟨_,_,_,e,_⟩,_⟩:=x;exact _o e | rng lo hi=>obtain⟨_,_,_,e⟩:=x;exact _o e | frz ob u=>obtain⟨e,_⟩:=x;exact _o e | tbl ps=>exact _o (show h.get? a=some _ from x) | met f y=>exact _o (show h.get? a=some _ from x) | ext φ=>obtain⟨_,⟨_,e⟩,_⟩:=x;exact _o e
theorem Paired.mapP{α β:Type}{F G:α->β->Prop}:∀{l₁:List α}{l₂:List β},Paired F l₁ l₂->(∀a b,F a b->G a b)->Paired G l₁ l₂
 | _,_,.nil,_=>.nil | _,_,.cons r t,f=>.cons (f _ _ r) (Paired.mapP t f)
theorem xf.stay(x:xf P w H h a o)(k:∀b u,(b=a\/H b=some (.own a))->h.get? b=some u->h'.get? b=some u) (ho:∀b,H b=some (.own a)->H' b=some (.own a))(ht:∀b xs,H b=some (.tup xs)->H' b=some (.tup xs)):xf P w H' h' a o:=by induction o with
 | lst xs=>obtain⟨z,its,n,r,e⟩:=x;exact⟨z,its,n,r,k _ _ (.inl rfl) e⟩ | tup xs=>obtain⟨z,its,r,ob,e,c⟩:=x;exact⟨z,its,r,ob,k _ _ (.inl rfl) e,c⟩ | dK kvs=>obtain⟨z,y,vs,r,ob,es,ep,e,c⟩:=x;exact⟨z,y,vs,r,ob,es,ep,k _ _ (.inl rfl) e,c⟩ | dT kvs=>
  obtain⟨z,y,xs,r,ob,es,ep,e,c⟩:=x;exact⟨z,y,xs,Paired.mapP r λp q z=>⟨z.1,ht _ _ z.2.1,z.2.2⟩,ob,es,ep,k _ _ (.inl rfl) e,c⟩ | set S n=>obtain⟨ob,es,ep,t,e,c⟩:=x;exact⟨ob,es,ep,t,k _ _ (.inl rfl) e,c⟩ | ins C dx fs=>
  obtain⟨d,z,ne,e,mA,⟨od,es,ep,e2,c⟩,r⟩:=x;exact⟨ho _ d,z,ne,k _ _ (.inl rfl) e,mA,⟨od,es,ep,k _ _ (.inr d) e2,c⟩,r⟩ | own y=>obtain⟨ob,e⟩:=x;exact⟨ob,k _ _ (.inl rfl) e⟩ | xd fs=>obtain⟨mA,⟨od,es,ep,e,c⟩,r⟩:=x;exact⟨mA,⟨od,es,ep,k _ _ (.inl rfl) e,c⟩,r⟩ | rng lo hi=>obtain⟨t,u,v,e⟩:=x;exact⟨t,u,v,k _ _ (.inl rfl) e⟩ | frz ob u ih=>obtain⟨e,q⟩:=x;exact⟨k _ _ (.inl rfl) e,ih q⟩ | tbl ps=>
  have e:h.get? a=some {cls:=.none,data:=.fields ps}:=x;show h'.get? a=some {cls:=.none,data:=.fields ps};exact k a _ (.inl rfl) e | met f y=>
  have e:h.get? a=some (W.methodObj (.ref f) (.ref y)):=x;show h'.get? a=some (W.methodObj (.ref f) (.ref y));exact k a _ (.inl rfl) e | ext φ=>obtain⟨p,⟨o,e⟩,st⟩:=x;exact⟨st _ _ p λo q=>k _ _ (.inl rfl) q,⟨o,k _ _ (.inl rfl) e⟩,st⟩
theorem HOk.lt(x:HOk P w H h)(e:H a=some o):a<h.objs.size:=(x a o e).lt
theorem HOk.fresh(x:HOk P w H h)(e:h.objs.size<=a):H a=none:=by cases q:H a with
 | none=>rfl | some u=>exact absurd (_r (x.lt q) e) (_ao _)
theorem HOk.kept(x:HOk P w H h)(k:∀b u,h.get? b=some u->h'.get? b=some u):HOk P w H h':=λa o e=> (x a o e).stay (λb u _ q=>k b u q) (λ_ q=>q) λ_ _ q=>q
theorem HOk.laid(x:HOk P w H h)(k:∀b u,h.get? b=some u->h'.get? b=some u)(hp:h.objs.size<=a)(new:xf P w (upd H a o) h' a o):HOk P w (upd H a o) h':=λb u e=>by
 have hn:=x.fresh hp;by_cases hb:b=a;·subst hb;rw[zH]at e;cases e;exact new
 ·rw[zj hb]at e;exact (x b u e).stay (λc v _ q=>k c v q) (λc q=>by rw[zj (yE q hn)];exact q) λc xs q=>by rw[zj (yE q hn)];exact q
end
def Rd(H:Hp)(a:Addr)(u:HO):Prop:=H a=some u\/∃o,H a=some (.frz o u)
theorem Rd.ok{P:Program}{w:World}{H:Hp}{h:Heap}{a:Addr}{u:HO}(r:Rd H a u)(x:HOk P w H h):xf P w H h a u:=by
 rcases r with r | ⟨o,r⟩;·exact x a u r
 ·obtain⟨_,q⟩:=x a _ r;exact q
def Mut:Option HO->Prop
 | some (.lst _)=>True | some (.dK _)=>True | some (.dT _)=>True | some (.set _ _)=>True | some (.ins _ _ _)=>True | some (.ext _)=>True | _=>False
section
variable {P:Program}{w:World}{H:Hp}{h h':Heap}{x e:Addr}{o':HO}
theorem HOk.write(ok:HOk P w H h)(mu:Mut (H x))(he:e=x\/H e=some (.own x))(k:∀b u,b≠e->h.get? b=some u->h'.get? b=some u)(heo:∃u,h'.get? e=some u) (new:xf P w (upd H x o') h' x o'):HOk P w (upd H x o') h':=λb u q=>by
 have nown:∀c y,H c=some (.own y)->c≠x:=λc y r z=>by subst z;rw[r]at mu;exact mu
 have ntup:∀c xs,H c=some (.tup xs)->c≠x:=λc xs r z=>by subst z;rw[r]at mu;exact mu
 by_cases hb:b=x;·subst hb;rw[zH]at q;cases q;exact new
 ·rw[zj hb]at q;by_cases hbe:b=e
  ·have q':H b=some (.own x):=by
    rcases he with z | z;·exact absurd (hbe.trans z) hb
    ·rw[hbe];exact z
   rw[q]at q';cases q';obtain⟨v,hv⟩:=heo;exact⟨v,by rw[hbe];exact hv⟩
  ·refine (ok b u q).stay (λc v hc r=>k c v ?_ r) (λc r=>by rw[zj (nown c b r)];exact r) λc xs r=>by rw[zj (ntup c xs r)];exact r
   rcases hc with rfl | hc;·exact hbe
   ·rintro rfl;rcases he with z | z;·exact nown c b hc z
    ·rw[hc]at z;cases z;exact hb rfl
end
structure Un(fs ex:List Addr)(H H':Hp)(h h':Heap):Prop where
 keep:∀b o,h.get? b=some o->H b=none->b∉fs->b∉ex->h'.get? b=some o
 slot:∀b o,h.get? b=some o->H b=none->b∈fs->b∉ex->∃sl,h'.get? b=some {o with slots:=sl}
 free:∀b o,h.get? b=some o->H b=none->b∉ex->H' b=none
 there:∀b o,h.get? b=some o->b∉ex->∃o',h'.get? b=some o'
 tups:∀b xs,H b=some (.tup xs)->H' b=some (.tup xs)
 frzs:∀b o u,H b=some (.frz o u)->H' b=some (.frz o u)
 tbls:∀b ps,H b=some (.tbl ps)->∃more,H' b=some (.tbl (ps++more))
section
variable {fs fs' ex ex':List Addr}{H H1 H2:Hp}{h h1 h2 h':Heap}{a x e:Addr}{o:HO}
theorem Un.any(u:Un fs ex H H1 h h1){b:Addr}{ob:Obj}(q:h.get? b=some ob)(n:H b=none)(hx:b∉ex):∃sl,h1.get? b=some {ob with slots:=sl}:=by
 by_cases hb:b∈fs;·exact u.slot b ob q n hb hx
 ·exact⟨ob.slots,u.keep b ob q n hb hx⟩
theorem Un.kept(k:∀b u,h.get? b=some u->h'.get? b=some u):Un fs ex H H h h':= ⟨λb ob q _ _ _=>k b ob q,λb ob q _ _ _=>⟨ob.slots,k b ob q⟩,λ_ _ _ n _=>n,λb ob q _=>⟨ob,k b ob q⟩,λ_ _ q=>q,λ_ _ _ q=>q,λ_ ps q=>⟨#[],by rw[q];simp⟩⟩
theorem Un.refl:Un fs ex H H h h:=Un.kept λ_ _ q=>q
theorem Un.laid(k:∀b u,h.get? b=some u->h'.get? b=some u)(hp:h.objs.size<=a)(hn:H a=none):Un fs ex H (upd H a o) h h' where
 keep:=λb u q _ _ _=>k b u q;slot:=λb u q _ _ _=>⟨u.slots,k b u q⟩;free:=λb u q n _=>by rw[zj (_D (_r (_o q) hp))];exact n
 there:=λb u q _=>⟨u,k b u q⟩;tups:=λb xs q=>by rw[zj (yE q hn)];exact q
 frzs:=λb u xs q=>by rw[zj (yE q hn)];exact q
 tbls:=λb ps q=>⟨#[],by rw[zj (yE q hn),q];simp⟩
theorem Un.write(mu:Mut (H x))(he:e=x\/H e=some (.own x))(k:∀b u,b≠e->h.get? b=some u->h'.get? b=some u)(heo:∃u,h'.get? e=some u):Un fs ex H (upd H x o) h h':=by
 have hx:∀b,H b=none->b≠x:=λb n z=>by subst z;rw[n]at mu;exact mu
 have hb:∀b,H b=none->b≠e:=λb n z=>by
  subst z;rcases he with r | r;·exact hx b n r
  ·rw[n]at r;cases r
 have hm:∀b u,H b=some u->¬ Mut (some u)->b≠x:=λb u q nm z=>by subst z;rw[q]at mu;exact nm mu
 refine⟨λb u q n _ _=>k b u (hb b n) q,λb u q n _ _=>⟨u.slots,k b u (hb b n) q⟩,λb u q n _=>by rw[zj (hx b n)];exact n,λb u q _=>?_, λb xs q=>by rw[zj (hm b _ q λz=>z)];exact q,λb u xs q=>by rw[zj (hm b _ q λz=>z)];exact q,λb ps q=>⟨#[],by rw[zj (hm b _ q λz=>z),q];simp⟩⟩;by_cases hbe:b=e;·subst hbe;exact heo
 ·exact⟨u,k b u hbe q⟩
end
noncomputable def trk(h:Heap)(H:Hp):List Addr:=(List.range h.objs.size).filter λa=>(H a).isSome
noncomputable def z9A(h:Heap)(H:Hp):Heap:=W.hideAll h (trk h H)
theorem z7f(h:Heap)(H:Hp):(z9A h H).objs.size=h.objs.size:=W.hideAll_size _ _
theorem z9y{h:Heap}{H:Hp}{b:Addr}{o:Obj}(e:h.get? b=some o)(n:H b=none):(z9A h H).get? b=some o:= W.hideAll_get _ e λhm=>by
  have q:(H b).isSome=true:=(_W.mp hm).2;rw[n]at q;simp at q
theorem zd0{h:Heap}{H:Hp}{b:Addr}{o:Obj}(e:(z9A h H).get? b=some o):h.get? b=some o/\H b=none:=by
 have e':h.get? b=some o:=W.of_hideAll (trk h H) e;refine⟨e',?_⟩;cases q:H b with
 | none=>rfl | some x=>
  have hm:b∈trk h H:=_W.mpr ⟨_bc.mpr (_o e'),by simp[q]⟩;have z:(z9A h H).get? b=none:=W.hideAll_none (trk h H) hm;rw[z]at e;cases e
noncomputable def zcA(g h:Heap)(L:Addr):List (Addr×Obj):=(List.range h.objs.size).filterMap λa=>if a=L\/(g.get? a).isSome=true then none else (h.get? a).map λo=>(a,o)
noncomputable def z3B(g h:Heap)(L d:Addr):List (Addr×Obj):=(zcA g h L).filter λp=>decide (p.1≠d)
structure Mod(K:W.Frag)(mg:Str->Option Value)(base:Heap):Prop where
 kin:K.In base
 glob:base.Ns mainGlobals mg
 blt:∃mb,base.Ns builtinsNs mb/\∀x:Str,x≠"__name__"->mb x=bootBuiltins x
 nolimit:base.NoLimit
structure Cx where
 prog:Program
 w:World
 K:W.Frag
 mg:Str->Option Value
 base:Heap
 A:Around
 N:List Str
 s₀:Shared
 H₀:Hp
 env:Env
 outer:List Env
 stack:List Env
 ex:List Addr
 fn:Str->Bool
 calm:Bool
 pn:List (Addr×Obj)
 xe:Value->Shared->Prop
noncomputable def frs(l:List Env):List Addr:=l.filterMap (·.frame)
noncomputable abbrev Cx.fs(X:Cx):List Addr:=frs X.outer
def Vis(sc:Scope)(x:Str):Prop:=sc.names.lookup x=some .local\/sc.names.lookup x=some .cell\/sc.names.lookup x=some .free
def Loc(sc:Scope)(x:Str):Prop:=sc.names.lookup x=some .local\/sc.names.lookup x=some .cell
def zhz(env:Env)(h:Heap)(m:Str->Option Value)(x:Str)(u:Value):Prop:= (env.kindOf x=some .local/\m x=some u)\/((env.kindOf x=some .cell\/env.kindOf x=some .free)/\∃c,env.cells.lookup x=some c/\h.IsCell c (some u))
structure Cx.Ok(X:Cx):Prop where
 mod:Mod X.K X.mg X.base
 kind:X.env.scope.kind=.function
 glob:X.env.globals=mainGlobals
 blt:X.env.builtins=builtinsNs
 above:X.s₀.heap.objs.size<=X.env.locals
 inj:∀x y c,X.env.cells.lookup x=some c->X.env.cells.lookup y=some c->x=y
 has:∀x,(X.env.kindOf x=some .cell\/X.env.kindOf x=some .free)->∃c,X.env.cells.lookup x=some c
 cab:∀x c,X.fn x=true->X.env.cells.lookup x=some c->X.s₀.heap.objs.size<=c
 hd:X.calm=true->X.A.handled=none
 frames:X.A.frames=some X.stack
 stk:X.stack=X.outer\/(X.stack=X.env::X.outer/\X.env.frame=some X.env.locals)
 exf:∀b∈X.ex,b≠X.env.locals/\∀x c,X.env.cells.lookup x=some c->c≠b
 bs:∀b o,X.base.get? b=some o->X.s₀.heap.get? b=some o/\X.H₀ b=none
 bsz:X.base.objs.size<=X.s₀.heap.objs.size
 noex:∀b o,X.base.get? b=some o->b∉X.ex
 exfs:∀b∈X.ex,b∉X.fs
 funs:X.s₀.heap.FunFrames X.base X.outer
 frf:∀b∈X.fs,X.H₀ b=none
structure Inv(X:Cx)(pins:List (Addr×Obj))(O:List (Option V))(H:Hp)(s:Shared):Prop where
 ok:X.Ok
 os:s.os=X.s₀.os
 bare:AllBare s.gens
 base:Un X.fs X.ex X.H₀ H X.s₀.heap s.heap
 loc:∃m,s.heap.Ns X.env.locals m/\∀(i:Nat)(x:Str)(v:V),X.N[i]? = some x->O[i]? = some (some v)->Vis X.env.scope x->∃u,xc v u/\zhz X.env s.heap m x u
 cell:∀x c,X.env.cells.lookup x=some c->∃v,s.heap.IsCell c v
 free:H X.env.locals=none
 freeC:∀x c,X.env.cells.lookup x=some c->H c=none
 pin:∀p∈X.pn++pins,s.heap.get? p.1=some p.2/\H p.1=none/\p.1≠X.env.locals/\p.1∉X.fs/\∀v,p.2.data≠.cell v
 hok:HOk X.prog X.w H s.heap
 len:O.length=X.N.length
section
variable {X:Cx}{pins:List (Addr×Obj)}{O:List (Option V)}{H H':Hp}{s:Shared}{h':Heap}
theorem Cx.Ok.nofr(ok:X.Ok){b:Addr}{o:Obj}(e:X.base.get? b=some o):b∉X.fs:=λhb=>by
 have:=(ok.funs.mem hb).1;rw[e]at this;cases this
theorem Inv.bs(I:Inv X pins O H s):∀b o,X.base.get? b=some o->s.heap.get? b=some o/\H b=none:=λb o e=> ⟨I.base.keep b o (I.ok.bs b o e).1 (I.ok.bs b o e).2 (I.ok.nofr e) (I.ok.noex b o e),I.base.free b o (I.ok.bs b o e).1 (I.ok.bs b o e).2 (I.ok.noex b o e)⟩
theorem Inv.bk(I:Inv X pins O H s):∀b o,X.base.get? b=some o->s.heap.get? b=some o:=λb o e=>(I.bs b o e).1
theorem Inv.mod(I:Inv X pins O H s):Mod X.K X.mg X.base:=I.ok.mod
theorem Inv.kIn(I:Inv X pins O H s):X.K.In s.heap:=I.ok.mod.kin.keeps I.bk
theorem Inv.fr(I:Inv X pins O H s):∃m,Fr X.base X.env.locals s.heap m:= let ⟨m,hn,_⟩:=I.loc;⟨m,hn,I.bk,_O I.ok.bsz I.ok.above⟩
theorem Inv.lt(I:Inv X pins O H s):X.env.locals<s.heap.objs.size:=let ⟨_,hn,_⟩:=I.loc;hn.lt
theorem Inv.sz(I:Inv X pins O H s):X.s₀.heap.objs.size<=s.heap.objs.size:=_O I.ok.above (_ap I.lt)
theorem Inv.nofs(I:Inv X pins O H s){a:Addr}(h:s.heap.objs.size<=a):a∉X.fs:=λhb=>by
 obtain⟨_,o,ho,_⟩:=I.ok.funs.mem hb;exact absurd (_r (_o ho) (_O I.sz h)) (_ao _)
theorem Inv.cne(I:Inv X pins O H s):∀x c,X.env.cells.lookup x=some c->c≠X.env.locals:=λx c e z=>by
 obtain⟨v,o,ho,hd⟩:=I.cell x c e;obtain⟨m,⟨o',es,ep,ho',hd',_⟩,_⟩:=I.loc;rw[z,ho']at ho;cases ho;rw[hd']at hd;cases hd
theorem Inv.funs(I:Inv X pins O H s):s.heap.FunFrames X.base X.outer:=by
 have all:∀(l:List Env),(∀b∈frs l,b∈X.fs)->X.s₀.heap.FunFrames X.base l->s.heap.FunFrames X.base l:=by
  intro l;induction l with
  | nil=>intro _ _;trivial | cons env r ih=>
   intro hs hl;obtain⟨hk,⟨L,o,hf,hn,ho,hd⟩,hr⟩:=hl;have hL:L∈X.fs:=hs L (by unfold frs;rw[_bI,hf];exact _P);obtain⟨sl,e⟩:=I.base.slot L o ho (I.ok.frf L hL) hL λz=>I.ok.exfs L z hL;exact⟨hk,⟨L,_,hf,hn,e,hd⟩,ih (λb hb=>hs b (by unfold frs;rw[_bI,hf];exact _w _ hb)) hr⟩
 exact all X.outer (λ_ hb=>hb) I.ok.funs
theorem Inv.stack(I:Inv X pins O H s):s.heap.FunFrames X.base X.stack:=by
 rcases I.ok.stk with e | ⟨e,hf⟩;·rw[e];exact I.funs
 ·rw[e];obtain⟨m,hn,_⟩:=I.loc;refine .cons (by rw[I.ok.kind];decide) hf hn ?_ I.funs;exact Heap.get?_none_of_le (_O I.ok.bsz I.ok.above)
theorem Inv.stkSub(I:Inv X pins O H s):∀b∈frs X.stack,b∈X.env.locals::X.fs:=λb hb=>by
 rcases I.ok.stk with e | ⟨e,hf⟩;·rw[e]at hb;exact _w _ hb
 ·rw[e]at hb;unfold frs at hb;rw[_bI,hf]at hb;exact hb
theorem Inv.stkFree(I:Inv X pins O H s):∀b∈frs X.stack,H b=none:=λb hb=>by
 rcases _n.mp (I.stkSub b hb) with e | hb;·rw[e];exact I.free
 ·obtain⟨_,o,ho,_⟩:=I.ok.funs.mem hb;exact I.base.free b o ho (I.ok.frf b hb) λz=>I.ok.exfs b z hb
theorem Inv.step{g':Array GenState}{t':Nat}{d':Drawn}{ch:List Addr}(I:Inv X pins O H s) (hch:∀b∈ch,(b∈X.ex\/X.s₀.heap.objs.size<=b)/\b≠X.env.locals/\(∀x c,X.env.cells.lookup x=some c->c≠b)/\∀p∈X.pn++pins,p.1≠b) (keep:∀b o,b≠X.env.locals->b∉X.fs->b∉ch->s.heap.get? b=some o->H b=none->h'.get? b=some o) (slot:∀b o,b≠X.env.locals->b∈X.fs->b∉ch->s.heap.get? b=some o->H b=none->∃sl,h'.get? b=some {o with slots:=sl})(free:∀b o,b∉ch->s.heap.get? b=some o->H b=none->H' b=none) (there:∀b o,b∉ch->s.heap.get? b=some o->∃o',h'.get? b=some o') (tups:∀b xs,H b=some (.tup xs)->H' b=some (.tup xs))(frzs:∀b o u,H b=some (.frz o u)->H' b=some (.frz o u))(tbls:∀b ps,H b=some (.tbl ps)->∃more,H' b=some (.tbl (ps++more))) (ns:∀m,s.heap.Ns X.env.locals m->h'.Ns X.env.locals m)(hok:HOk X.prog X.w H' h')(hg:AllBare g'): Inv X pins O H' {s with heap:=h',gens:=g',drawn:=d',toks:=t'}:=by
 have neL:∀b o,X.s₀.heap.get? b=some o->b≠X.env.locals:=λb o e=>_D (_r (_o e) I.ok.above);have neC:∀b o,X.s₀.heap.get? b=some o->b∉X.ex->b∉ch:=λb o e hx hb=>by
  rcases (hch b hb).1 with z | z;·exact hx z
  ·exact absurd (_r (_o e) z) (_ao _)
 have cellK:∀x c,X.env.cells.lookup x=some c->∀v,s.heap.IsCell c v->h'.IsCell c v:=λx c e v ⟨o,ho,hd⟩=>by
  have nch:c∉ch:=λz=>(hch c z).2.2.1 x c e rfl;by_cases hc:c∈X.fs
  ·obtain⟨sl,q⟩:=slot c o (I.cne x c e) hc nch ho (I.freeC x c e);exact⟨_,q,hd⟩
  ·exact⟨o,keep c o (I.cne x c e) hc nch ho (I.freeC x c e),hd⟩
 refine⟨I.ok,I.os,hg,⟨λb o e n hb hx=>?_,λb o e n hb hx=>?_,λb o e n hx=>?_,λb o e hx=>?_,λb xs e=>tups b xs (I.base.tups b xs e),λb o xs e=>frzs b o xs (I.base.frzs b o xs e),λb ps e=>?_⟩,?_,λx c e=>?_,?_,λx c e=>?_,λp hp=>?_,hok,I.len⟩;·exact keep b o (neL b o e) hb (neC b o e hx) (I.base.keep b o e n hb hx) (I.base.free b o e n hx)
 ·obtain⟨sl,e1⟩:=I.base.slot b o e n hb hx;obtain⟨sl',e2⟩:=slot b _ (neL b o e) hb (neC b o e hx) e1 (I.base.free b o e n hx);exact⟨sl',e2⟩
 ·obtain⟨o',e1⟩:=I.base.there b o e hx;exact free b o' (neC b o e hx) e1 (I.base.free b o e n hx)
 ·obtain⟨o',e1⟩:=I.base.there b o e hx;exact there b o' (neC b o e hx) e1
 ·obtain⟨m1,e1⟩:=I.base.tbls b ps e;obtain⟨m2,e2⟩:=tbls b _ e1;exact⟨m1++m2,by rw[e2,Array.append_assoc]⟩
 ·obtain⟨m,hn,hl⟩:=I.loc;refine⟨m,ns m hn,λi x v e1 e2 e3=>?_⟩;obtain⟨u,r,l⟩:=hl i x v e1 e2 e3;refine⟨u,r,?_⟩;rcases l with l | ⟨k,c,e,z⟩;·exact .inl l
  ·exact .inr ⟨k,c,e,cellK x c e _ z⟩
 ·obtain⟨v,z⟩:=I.cell x c e;exact⟨v,cellK x c e v z⟩
 ·obtain⟨m,⟨o,_,_,ho,_⟩,_⟩:=I.loc;exact free _ o (λz=>(hch _ z).2.1 rfl) ho I.free
 ·obtain⟨v,o,ho,hd⟩:=I.cell x c e;exact free c o (λz=>(hch c z).2.2.1 x c e rfl) ho (I.freeC x c e)
 ·obtain⟨e,n,ne,nf,d⟩:=I.pin p hp;have nch:p.1∉ch:=λz=>(hch p.1 z).2.2.2 p hp rfl;exact⟨keep p.1 p.2 ne nf nch e n,free p.1 p.2 nch e n,ne,nf,d⟩
theorem Inv.un {t':Nat} (I:Inv X pins O H s) (u:Un X.fs [] H H' s.heap h') (hok:HOk X.prog X.w H' h'):Inv X pins O H' {s with heap:=h',toks:=t'}:=by
 obtain⟨m,⟨o,es,ep,ho,r⟩,_⟩:=id I.loc;obtain⟨sl,hL⟩:=u.any ho I.free (by simp);exact I.step (g':=s.gens) (d':=s.drawn) (ch:=[]) (λ_ z=>nomatch z) (λb o _ hb _ e n=>u.keep b o e n hb (by simp)) (λb o _ hb _ e n=>u.slot b o e n hb (by simp)) (λb o _ e n=>u.free b o e n (by simp)) (λb o _ e=>u.there b o e (by simp)) u.tups u.frzs u.tbls (λm' hm=>by
  obtain⟨o',es',ep',ho',r'⟩:=hm;rw[ho]at ho';cases ho';exact⟨_,es',ep',hL,r'⟩) hok I.bare
theorem Inv.call{g':Array GenState}{t':Nat}{d':Drawn}{ch:List Addr}(I:Inv X pins O H s)(u:Un (frs X.stack) ch H H' s.heap h')(hok:HOk X.prog X.w H' h')(hg:AllBare g') (hch:∀b∈ch,(b∈X.ex\/X.s₀.heap.objs.size<=b)/\b≠X.env.locals/\(∀x c,X.env.cells.lookup x=some c->c≠b)/\∀p∈X.pn++pins,p.1≠b): Inv X pins O H' {s with heap:=h',gens:=g',drawn:=d',toks:=t'}:=by
 obtain⟨m,⟨o,es,ep,ho,r⟩,_⟩:=id I.loc;obtain⟨sl,hL⟩:=u.any ho I.free λz=>(hch _ z).2.1 rfl;exact I.step (ch:=ch) hch (λb o hL hb hc e n=>u.keep b o e n (λz=>(_n.mp (I.stkSub b z)).elim hL hb) hc) (λb o _ _ hc e n=>u.any e n hc) (λb o hc e n=>u.free b o e n hc) (λb o hc e=>u.there b o e hc) u.tups u.frzs u.tbls (λm' hm=>by
  obtain⟨o',es',ep',ho',r'⟩:=hm;rw[ho]at ho';cases ho';exact⟨_,es',ep',hL,r'⟩) hok hg
theorem Inv.turned {t':Nat} {it:Addr} (I:Inv X pins O H s) (k:∀b o,b≠it->s.heap.get? b=some o->h'.get? b=some o) (hn:H it=none) (hL:it≠X.env.locals) (h1:it∈X.ex\/X.s₀.heap.objs.size<=it) (h2:∀x c,X.env.cells.lookup x=some c->c≠it) (h3:∀p∈X.pn++pins,p.1≠it):Inv X pins O H {s with heap:=h',toks:=t'}:=by
 have nit:∀b u,H b=some u->b≠it:=λb u e z=>by rw[z,hn]at e;cases e
 refine I.step (g':=s.gens) (d':=s.drawn) (ch:=[it]) (λb hb=>?_) (λb o _ _ hc e _=>k b o (λz=>hc (by simp[z])) e) (λb o _ _ hc e _=>⟨o.slots,k b o (λz=>hc (by simp[z])) e⟩) (λ_ _ _ _ n=>n) (λb o hc e=>⟨o,k b o (λz=>hc (by simp[z])) e⟩) (λ_ _ e=>e) (λ_ _ _ e=>e) (λb ps e=>⟨#[],by rw[e];simp⟩) (λm hm=>?_) (λb u e=>?_) I.bare
 ·have e:b=it:=by simpa using hb
  subst e;exact⟨h1,hL,h2,h3⟩
 ·obtain⟨o,es,ep,ho,r⟩:=hm;exact⟨o,es,ep,k _ o (_a8 hL) ho,r⟩
 ·refine (I.hok b u e).stay (λc v hc q=>k c v ?_ q) (λ_ q=>q) λ_ _ q=>q;rcases hc with z | z;·rw[z];exact nit b u e
  ·exact nit c _ z
theorem Inv.tok (I:Inv X pins O H s) (t:Nat):Inv X pins O H {s with toks:=t}:=I.un (h':=s.heap) (t':=t) Un.refl I.hok
theorem Inv.kept{t':Nat}(I:Inv X pins O H s)(k:∀b u,s.heap.get? b=some u->h'.get? b=some u):Inv X pins O H {s with heap:=h',toks:=t'}:=I.un (Un.kept k) (I.hok.kept k)
theorem Inv.laid {a:Addr} {o:HO} {t':Nat} (I:Inv X pins O H s) (k:∀b u,s.heap.get? b=some u->h'.get? b=some u) (hp:s.heap.objs.size<=a) (new:xf X.prog X.w (upd H a o) h' a o): Inv X pins O (upd H a o) {s with heap:=h',toks:=t'}:=I.un (Un.laid k hp (I.hok.fresh hp)) (I.hok.laid k hp new)
theorem Inv.write {x e:Addr} {o:HO} {t':Nat} (I:Inv X pins O H s) (mu:Mut (H x)) (he:e=x\/H e=some (.own x)) (k:∀b u,b≠e->s.heap.get? b=some u->h'.get? b=some u) (heo:∃u,h'.get? e=some u) (new:xf X.prog X.w (upd H x o) h' x o):Inv X pins O (upd H x o) {s with heap:=h',toks:=t'}:=I.un (Un.write mu he k heo) (I.hok.write mu he k heo new)
theorem Inv.weak{O':List (Option V)}(I:Inv X pins O H s)(hl:O'.length=O.length)(w:∀(i:Nat) v,O'[i]? = some (some v)->O[i]? = some (some v)):Inv X pins O' H s:= ⟨I.ok,I.os,I.bare,I.base,let ⟨m,hn,hl'⟩:=I.loc;⟨m,hn,λi x v e1 e2 e3=>hl' i x v e1 (w i v e2) e3⟩,I.cell,I.free,I.freeC,I.pin,I.hok,hl.trans I.len⟩
theorem Inv.pins_of{pins':List (Addr×Obj)}(I:Inv X pins O H s)(h:∀p∈pins',s.heap.get? p.1=some p.2/\H p.1=none/\p.1≠X.env.locals/\p.1∉X.fs/\∀v,p.2.data≠.cell v):Inv X pins' O H s:= ⟨I.ok,I.os,I.bare,I.base,I.loc,I.cell,I.free,I.freeC,λp hp=>(_B.mp hp).elim (λz=>I.pin p (_ai _ z)) (h p),I.hok,I.len⟩
theorem z5K{N:List Str}(hN:N.Nodup){i j:Nat}{x:Str}(a:N[i]? = some x)(b:N[j]? = some x):i=j:=by
 obtain⟨h1,e1⟩:=_b.mp a;obtain⟨h2,e2⟩:=_b.mp b;exact (_bF hN).mp (e1.trans e2.symm)
theorem ke{M:Model}{A:Around}{E:Value->Shared->Prop}{i:Nat}{x:Str}{v:V}{u:Value}{Q:Unit->Shared->Prop}(I:Inv X pins O H s)(hN:X.N.Nodup)(hi:X.N[i]? = some x)(hx:Loc X.env.scope x)(r:xc v u) (h:∀s',Inv X pins (O.set i (some v)) H s'->(∃a,Heap.SameBut a s.heap s'.heap/\(a=X.env.locals\/X.env.cells.lookup x=some a))->Q () s')(hf:X.fn x=true\/X.env.scope.names.lookup x=some .local:=by first | exact .inl rfl | exact .inr rfl | assumption):wpAny M A (storeName X.env x u) Q E s:=by
 obtain⟨m,hn,hl⟩:=id I.loc;have hcls:(X.env.scope.kind==.class||(X.env.scope.kind==.module&&X.env.locals != X.env.globals))=false:=by rw[I.ok.kind];rfl
 have hiO:i<O.length:=by rw[I.len];exact (_b.mp hi).1
 have cne:=I.cne;have tracked:∀{a:Addr}{h':Heap},(∃o,s.heap.get? a=some o/\H a=none)->Heap.SameBut a s.heap h'->HOk X.prog X.w H h':=λ{a h'} ha hs b ob e=>by
  obtain⟨_,_,hfree⟩:=ha;refine (I.hok b ob e).stay (λc w' hc q=>(hs.2 c ?_).trans q) (λ_ q=>q) λ_ _ q=>q;rintro rfl;rcases hc with rfl | hc;·rw[hfree]at e;cases e
  ·rw[hfree]at hc;cases hc
 rcases hx with hk | hk
 ·refine wpAny_storeName_local hk hn (λh' hn' hs=>?_) hcls;obtain⟨oL,_,_,hoL,_⟩:=id hn;refine h _ ⟨I.ok,I.os,I.bare,⟨λb o e n hb hx=>?_,λb o e n hb hx=>?_,I.base.free,λb o e hx=>?_,I.base.tups,I.base.frzs,I.base.tbls⟩,⟨_,hn',λj y v' e1 e2 e3=>?_⟩,λy c e=>?_,I.free,I.freeC,λp hp=>?_,tracked ⟨oL,hoL,I.free⟩ hs,by simpa using I.len⟩ ⟨_,hs,.inl rfl⟩;·exact (hs.2 b (_D (_r (_o e) I.ok.above))).trans (I.base.keep b o e n hb hx)
  ·obtain⟨sl,e1⟩:=I.base.slot b o e n hb hx;exact⟨sl,(hs.2 b (_D (_r (_o e) I.ok.above))).trans e1⟩
  ·obtain⟨o',e1⟩:=I.base.there b o e hx;exact⟨o',(hs.2 b (_D (_r (_o e) I.ok.above))).trans e1⟩
  ·by_cases hj:j=i
   ·subst hj;rw[hi]at e1;cases e1;rw[_H hiO]at e2;cases e2;exact⟨u,r,.inl ⟨hk,by simp⟩⟩
   ·rw[_F (_a8 hj)]at e2;obtain⟨u',r',q⟩:=hl j y v' e1 e2 e3;refine⟨u',r',?_⟩;rcases q with⟨k,e⟩ | ⟨k,c,e,z⟩
    ·refine .inl ⟨k,?_⟩;have:y≠x:=λe=>hj (z5K hN e1 (e ▸ hi));simp[this,e]
    ·exact .inr ⟨k,c,e,z.sameBut hs (cne y c e)⟩
  ·obtain⟨w',z⟩:=I.cell y c e;exact⟨w',z.sameBut hs (cne y c e)⟩
  ·obtain⟨e,n,ne,nf,d⟩:=I.pin p hp;exact⟨(hs.2 p.1 ne).trans e,n,ne,nf,d⟩
 ·have hfn:X.fn x=true:=by
   rcases hf with z | z;·exact z
   ·rw[z]at hk;cases hk
  obtain⟨c,hc⟩:=I.ok.has x (.inl hk);obtain⟨w',z⟩:=I.cell x c hc;refine wpAny_storeName_cell I.ok.kind hk hc z (λh' hc' hs=>?_);obtain⟨oc,hoc,hocd⟩:=id z;refine h {s with heap:=h'} ⟨I.ok,I.os,I.bare,⟨λb o e n hb hx=>?_,λb o e n hb hx=>?_,I.base.free,λb o e hx=>?_,I.base.tups,I.base.frzs,I.base.tbls⟩,⟨m,hn.sameBut hs (_a8 (cne x c hc)),λj y v' e1 e2 e3=>?_⟩,λy c' e=>?_,I.free,I.freeC,λp hp=>?_,tracked ⟨oc,hoc,I.freeC x c hc⟩ hs,by simpa using I.len⟩ ⟨c,hs,.inr hc⟩;·exact (hs.2 b (_D (_r (_o e) (I.ok.cab x c hfn hc)))).trans (I.base.keep b o e n hb hx)
  ·obtain⟨sl,e1⟩:=I.base.slot b o e n hb hx;exact⟨sl,(hs.2 b (_D (_r (_o e) (I.ok.cab x c hfn hc)))).trans e1⟩
  ·obtain⟨o',e1⟩:=I.base.there b o e hx;exact⟨o',(hs.2 b (_D (_r (_o e) (I.ok.cab x c hfn hc)))).trans e1⟩
  ·by_cases hj:j=i
   ·subst hj;rw[hi]at e1;cases e1;rw[_H hiO]at e2;cases e2;exact⟨u,r,.inr ⟨.inl hk,c,hc,hc'⟩⟩
   ·rw[_F (_a8 hj)]at e2;obtain⟨u',r',q⟩:=hl j y v' e1 e2 e3;refine⟨u',r',?_⟩;rcases q with q | ⟨k,c',e,z'⟩;·exact .inl q
    ·refine .inr ⟨k,c',e,z'.sameBut hs ?_⟩;rintro rfl;exact hj (z5K hN e1 (I.ok.inj _ _ _ e hc ▸ hi))
  ·by_cases hcc:c'=c;·subst hcc;exact⟨_,hc'⟩
   ·obtain⟨w2,z2⟩:=I.cell y c' e;exact⟨w2,z2.sameBut hs hcc⟩
  ·obtain⟨e,n,ne,nf,d⟩:=I.pin p hp;refine⟨(hs.2 p.1 ?_).trans e,n,ne,nf,d⟩;intro q;rw[q,hoc]at e;have q':oc=p.2:=_z e;exact d w' (by rw[<- q'];exact hocd)
theorem qW{M:Model}{A:Around}{E:Value->Shared->Prop}{i:Nat}{x:Str}{v:V}{u:Value}{Q:Unit->Shared->Prop}(I:Inv X pins O H s)(hN:X.N.Nodup)(hi:X.N[i]? = some x)(hx:Loc X.env.scope x)(r:xc v u) (h:∀s',Inv X pins (O.set i (some v)) H s'->Q () s')(hf:X.fn x=true\/X.env.scope.names.lookup x=some .local:=by first | exact .inl rfl | exact .inr rfl | assumption):wpAny M A (storeName X.env x u) Q E s:= ke I hN hi hx r (λs' I' _=>h s' I') hf
theorem Inv.call' {s':Shared} {ch:List Addr} (I:Inv X pins O H s) (ho:s'.os=s.os) (u:Un (frs X.stack) ch H H' s.heap s'.heap) (hok:HOk X.prog X.w H' s'.heap) (hg:AllBare s'.gens) (hch:∀b∈ch,(b∈X.ex\/X.s₀.heap.objs.size<=b)/\b≠X.env.locals/\(∀x c,X.env.cells.lookup x=some c->c≠b)/\∀p∈X.pn++pins,p.1≠b):Inv X pins O H' s':=by
 obtain⟨h',g',d',t',o'⟩:=s';have e:o'=s.os:=ho;subst e;exact I.call (g':=g') (t':=t') (d':=d') u hok hg hch
end
abbrev XK:=Value->Option Addr->Hp->Prop
abbrev St:=List (Option V)
abbrev VK:=V->Hp->Prop
abbrev TE:=St->Hp->VK->Prop
abbrev TT:=St->Hp->(Bool->Hp->Prop)->Prop
abbrev TA:=St->Hp->(List V->Hp->Prop)->Prop
structure z9G where
 nx:St->Hp->Prop
 rt:VK
 bk:St->Hp->Prop:=λ_ _=>False
 ct:St->Hp->Prop:=λ_ _=>False
abbrev TS:=z9G->St->Hp->Prop
def EP(X:Cx)(pins:List (Addr×Obj))(O:St)(Q:VK)(u:Value)(s':Shared):Prop:=∃v H',Inv X pins O H' s'/\xc v u/\Q v H'
def TP(X:Cx)(pins:List (Addr×Obj))(O:St)(Q:Bool->Hp->Prop)(b:Bool)(s':Shared):Prop:=∃H',Inv X pins O H' s'/\Q b H'
def AP(X:Cx)(pins:List (Addr×Obj))(O:St)(Q:List V->Hp->Prop)(us:List Value)(s':Shared):Prop:=∃vs H',Inv X pins O H' s'/\yC vs us/\Q vs H'
def SP(X:Cx)(pins:List (Addr×Obj))(D:z9G)(f:Flow)(s':Shared):Prop:= match f with
 | .next=>∃O' H',Inv X pins O' H' s'/\D.nx O' H' | .brk=>∃O' H',Inv X pins O' H' s'/\D.bk O' H' | .cont=>∃O' H',Inv X pins O' H' s'/\D.ct O' H' | .ret u=>∃v O' H',Inv X pins O' H' s'/\xc v u/\D.rt v H'
def PE(X:Cx)(e:Expr)(t:TE):Prop:= ∀(pins:List (Addr×Obj))(s:Shared)(O:St)(H:Hp)(Q:VK),Inv X pins O H s->t O H Q->wpAny (model X.prog X.w) X.A (eval e X.env) (EP X pins O Q) X.xe s
def PT(X:Cx)(e:Expr)(t:TT):Prop:= ∀(pins:List (Addr×Obj))(s:Shared)(O:St)(H:Hp)(Q:Bool->Hp->Prop),Inv X pins O H s->t O H Q->wpAny (model X.prog X.w) X.A (isTrue e X.env (eval e X.env)) (TP X pins O Q) X.xe s
def PW(X:Cx)(e:Expr)(t:TT):Prop:= ∀(whole:Sem Value)(pins:List (Addr×Obj))(s:Shared)(O:St)(H:Hp)(Q:Bool->Hp->Prop),Inv X pins O H s->t O H Q->wpAny (model X.prog X.w) X.A (isTrue e X.env whole) (TP X pins O Q) X.xe s
theorem PW.pt{X:Cx}{e:Expr}{t:TT}(h:PW X e t):PT X e t:=h _
def PA(X:Cx)(es:List Expr)(t:TA):Prop:= ∀(pos:Pos)(pins:List (Addr×Obj))(s:Shared)(O:St)(H:Hp)(Q:List V->Hp->Prop),Inv X pins O H s->t O H Q->wpAny (model X.prog X.w) X.A (spliced (backTo pos (starEach es X.env))) (AP X pins O Q) X.xe s
def PS(X:Cx)(st:Stmt)(t:TS):Prop:= ∀(pins:List (Addr×Obj))(s:Shared)(O:St)(H:Hp)(D:z9G),Inv X pins O H s->t D O H->wpAny (model X.prog X.w) X.A (exec st X.env) (SP X pins D) X.xe s
def PSs(X:Cx)(st:List Stmt)(t:TS):Prop:= ∀(pins:List (Addr×Obj))(s:Shared)(O:St)(H:Hp)(D:z9G),Inv X pins O H s->t D O H->wpAny (model X.prog X.w) X.A (execs st X.env) (SP X pins D) X.xe s
theorem thn{α:Type}{t:Sem α}{Q Q':α->Shared->Prop}{M:Model}{A:Around}{E:Value->Shared->Prop}{s:Shared}(h:wpAny M A t Q E s)(hQ:∀a s,Q a s->Q' a s):wpAny M A t Q' E s:=_t h hQ λ_ _ x=>x
section
variable {X:Cx}
theorem bin{a b:Expr}{ta tb:TE}(ha:PE X a ta)(hb:PE X b tb){pins:List (Addr×Obj)}{s:Shared}{O:St}{H:Hp}{R:V->V->Hp->Prop}(I:Inv X pins O H s)(h:ta O H λx H1=>tb O H1 λy H2=>R x y H2) {α:Type}{Q:α->Shared->Prop}{f:Value->Value->Sem α} (hf:∀v u s2 x y H2,Inv X pins O H2 s2->xc x v->xc y u->R x y H2->wpAny (model X.prog X.w) X.A (f v u) Q X.xe s2): wpAny (model X.prog X.w) X.A (eval a X.env) (λv s₁=>wpAny (model X.prog X.w) X.A (eval b X.env) (λu s₂=>wpAny (model X.prog X.w) X.A (f v u) Q X.xe s₂) X.xe s₁) X.xe s:=by
 refine thn (ha pins s O H _ I h) λv s1 ⟨x,H1,I1,r1,q1⟩=>?_;refine thn (hb pins s1 O H1 _ I1 q1) λu s2 ⟨y,H2,I2,r2,q2⟩=>?_;exact hf v u s2 x y H2 I2 r1 r2 q2
def zhV(i:Nat):TE:=λO H Q=>∃v,O[i]? = some (some v)/\Q v H
def tC(v:V):TE:=λ_ H Q=>Q v H
theorem zaW{i:Nat}{x:Str}{pos:Pos}(hN:X.N[i]? = some x)(hv:Vis X.env.scope x)(hd:(x==("__debug__":Str))=false:=by decide)(hcd:(x==("__classdict__":Str))=false:=by decide):PE X (.Name x pos) (zhV i):=by
 intro pins s O H Q I h;obtain⟨v,e,h⟩:=h;obtain⟨m,hn,hl⟩:=I.loc;obtain⟨u,r,l⟩:=hl i x v hN e hv;have fin:EP X pins O Q u s:=⟨v,H,I,r,h⟩;rcases l with⟨hk,hm⟩ | ⟨hk,c,hc,hcell⟩;·exact wpAny_Name (wpAny_loadName_local I.ok.kind hk hn hm fin) hd
 ·rcases hk with hk | hk;·exact wpAny_Name (wpAny_loadName_cell I.ok.kind hk hc hcell fin) hd
  ·exact wpAny_Name (wpAny_loadName_free I.ok.kind hk hc hcell fin hcd) hd
theorem zeU{i j pos}:PE X (.Constant (.int i) j pos) (tC (.int i)):=λ_ _ _ H _ I h=>wpAny_Constant_int ⟨.int i,H,I.tok _,⟨_,rfl⟩,h⟩
theorem zg7{b j pos}:PE X (.Constant (.bool b) j pos) (tC (.bl b)):=λ_ _ _ H _ I h=>Constant_bool ⟨.bl b,H,I,rfl,h⟩
theorem zej{j pos}:PE X (.Constant .none j pos) (tC .non):=λ_ _ _ H _ I h=>Constant_none ⟨.non,H,I,rfl,h⟩
theorem zb1{x j pos}:PE X (.Constant (.str x) j pos) (tC (.str x)):=λ_ _ _ H _ I h=>Calls.Constant_str ⟨.str x,H,I.tok _,⟨_,rfl⟩,h⟩
def Gl(X:Cx)(x:Str):Prop:=X.env.kindOf x=some .globalImplicit
theorem z1O{E:Value->Shared->Prop}{pins:List (Addr×Obj)}{s:Shared}{O:St}{H:Hp}{x:Str}{u:Value}{pos:Pos}{Q:Value->Shared->Prop}(I:Inv X pins O H s)(hg:Gl X x)(hm:X.mg x=some u)(h:Q u s) (hd:(x==("__debug__":Str))=false:=by decide):wpAny (model X.prog X.w) X.A (eval (.Name x pos) X.env) Q E s:= Calls.Name_function_global I.ok.kind hg (Calls.loadGlobal_global (by rw[I.ok.glob];exact I.mod.glob.keeps I.bk) hm h) hd
theorem z1E{E:Value->Shared->Prop}{pins:List (Addr×Obj)}{s:Shared}{O:St}{H:Hp}{x:Str}{u:Value}{pos:Pos}{Q:Value->Shared->Prop}(I:Inv X pins O H s)(hg:Gl X x)(hm:X.mg x=none)(hv:bootBuiltins x=some u)(h:Q u s) (hn:x≠"__name__":=by decide)(hd:(x==("__debug__":Str))=false:=by decide):wpAny (model X.prog X.w) X.A (eval (.Name x pos) X.env) Q E s:=by
 obtain⟨mb,h1,h2⟩:=I.mod.blt;exact Calls.Name_function_global I.ok.kind hg (Calls.loadGlobal_builtin (by rw[I.ok.glob];exact I.mod.glob.keeps I.bk) hm (by rw[I.ok.blt];exact h1.keeps I.bk) ((h2 x hn).trans hv) h) hd
theorem z5p{x:Str}{v:V}{u:Value}{pos:Pos}(hg:Gl X x)(hm:X.mg x=some u)(r:xc v u)(hd:(x==("__debug__":Str))=false:=by decide):PE X (.Name x pos) (tC v):= λ_ _ _ H _ I h=>z1O I hg hm ⟨v,H,I,r,h⟩ hd
theorem z7X{x:Str}{v:V}{u:Value}{pos:Pos}(hg:Gl X x)(hm:X.mg x=none)(hv:bootBuiltins x=some u)(r:xc v u)(hn:x≠"__name__":=by decide)(hd:(x==("__debug__":Str))=false:=by decide):PE X (.Name x pos) (tC v):= λ_ _ _ H _ I h=>z1E I hg hm hv ⟨v,H,I,r,h⟩ hn hd
variable {a b:Expr}{ta tb:TE}{pos:Pos}
def PC(X:Cx)(op:CmpOp)(a b:Expr)(t:TE):Prop:= ∀(pins:List (Addr×Obj))(s:Shared)(O:St)(H:Hp)(Q:VK),Inv X pins O H s->t O H Q-> wpAny (model X.prog X.w) X.A (eval a X.env) (λv s₁=>wpAny (model X.prog X.w) X.A (eval b X.env) (λu s₂=>wpAny (model X.prog X.w) X.A (compareOp op v u) (EP X pins O Q) X.xe s₂) X.xe s₁) X.xe s
def tB(t:TE):TT:=λO H Q=>t O H λx H1=>∃c,x=.bl c/\Q c H1
theorem zh5{op:CmpOp}{t:TE}(h:PC X op a b t)(h1:behindInMarks op b=false:=by first | exact nobehind _ (by decide) (by decide) | rfl):PT X (.Compare a [op] [b] pos) (tB t):=by
 intro pins s O H Q I hw;refine wpAny_isTrue_Compare1 (thn (h pins s O H _ I hw) λv s1 h1=>thn h1 λu s2 h2=>thn h2 λc s3 ⟨x,H1,I1,r1,q1⟩=>?_) h1;obtain⟨d,rfl,q⟩:=q1;cases r1;exact _al ⟨H1,I1,q⟩
theorem zey{e:Expr}{t:TE}(h:PE X e t)(he:∀whole,isTrue e X.env whole=(do let v <- whole;standAt e.pos;holding [v] (truthy v)):=by intro _;rfl):PT X e (tB t):=by
 intro pins s O H Q I hw;refine isTrue_plain (thn (h pins s O H _ I hw) λv s1 ⟨x,H1,I1,r1,q1⟩=>?_) (he _);obtain⟨d,rfl,q⟩:=q1;cases r1;exact _al ⟨H1,I1,q⟩
variable {tA tB':TT}{z3B:List Expr}
def tOr(t u:TT):TT:=λO H Q=>t O H λc H1=>if c=true then Q true H1 else u O H1 Q
def zhX(t:TT):TT:=λO H Q=>t O H λc H1=>Q (!c) H1
theorem ze2(ha:PT X a tA):PW X (.BoolOp .Or [a] pos) tA:=by
 intro wh pins s O H Q I h;refine isTrue_or (thn (ha pins s O H Q I h) λc s1 e=>?_);cases c with
 | false=>exact isTrue_or_nil e | true=>exact e
theorem zg8(ha:PT X a tA)(hb:PW X (.BoolOp .Or (b::z3B) pos) tB'):PW X (.BoolOp .Or (a::b::z3B) pos) (tOr tA tB'):=by
 intro wh pins s O H Q I h;refine isTrue_or (thn (ha pins s O H _ I h) λc s1 ⟨H1,I1,q1⟩=>?_);cases c with
 | true=>exact⟨H1,I1,q1⟩ | false=>exact hb wh pins s1 O H1 Q I1 q1
theorem zdA(ha:PT X a tA):PT X (.UnaryOp .Not a pos) (zhX tA):=by
 intro pins s O H Q I h;exact isTrue_not (ha pins s O H (λc H1=>Q (!c) H1) I h)
def zfD(ta tb:TE):TE:=λO H Q=>ta O H λx H1=>∃c,x=.bl c/\if c=true then tb O H1 Q else Q (.bl false) H1
def zg2(ta:TE):TE:=λO H Q=>ta O H λx H1=>∃c,x=.bl c/\Q (.bl (!c)) H1
theorem zdQ{op}{t:TE}(h:PE X a t):PE X (.BoolOp op [a] pos) t:=λpins s O H Q I hw=>BoolOp_one (h pins s O H Q I hw)
theorem zdd(ha:PE X a ta)(hb:PE X (.BoolOp .And (b::z3B) pos) tb):PE X (.BoolOp .And (a::b::z3B) pos) (zfD ta tb):=by
 intro pins s O H Q I h;refine BoolOp_and (thn (ha pins s O H _ I h) λv s1 ⟨x,H1,I1,r1,q1⟩=>?_);obtain⟨c,rfl,q1⟩:=q1;cases r1;refine _al ?_;cases c with
 | true=>exact hb pins s1 O H1 Q I1 q1 | false=>exact⟨.bl false,H1,I1,rfl,q1⟩
theorem zeE(ha:PE X a ta):PE X (.UnaryOp .Not a pos) (zg2 ta):=by
 intro pins s O H Q I h;refine UnaryOp_ (thn (ha pins s O H _ I h) λv s1 ⟨x,H1,I1,r1,q1⟩=>?_);obtain⟨c,rfl,q1⟩:=q1;cases r1;exact not_of (_al ⟨.bl (!c),H1,I1,rfl,q1⟩)
end
def SqL(K:W.Frag)(H:Hp)(a:Addr)(xs:List V):Prop:= Rd H a (.lst xs)\/ ∃(o:Obj)(its:Array Value)(n:Nat),K.lookup a=some o/\o.cls=.type "list"/\o.dict=none/\o.data=.seq its n/\its.size<=sizeLine/\yC xs its.toList
def SqT(K:W.Frag)(H:Hp)(a:Addr)(xs:List V):Prop:= Rd H a (.tup xs)\/ ∃(o:Obj)(its:Array Value)(n:Nat),K.lookup a=some o/\o.cls=.type "tuple"/\o.data=.seq its n/\its.size<=sizeLine/\yC xs its.toList
noncomputable def zi3:Value->Option V
 | .none=>some .non | .bool b=>some (.bl b) | .int i _=>some (.int i) | .str x _=>some (.str x) | .bytes b _=>some (.byt b) | .float b _=>some (.flt b) | .ref a=>some (.ref a) | .type n=>some (.ty n) | _=>none
theorem xc.abs{x:V}{u:Value}(r:xc x u):zi3 u=some x:=by cases x with
 | non=>cases r;rfl | bl _=>cases r;rfl | int _=>obtain⟨t,rfl⟩:=r;rfl | str _=>obtain⟨t,rfl⟩:=r;rfl | byt _=>obtain⟨t,rfl⟩:=r;rfl | flt _=>obtain⟨t,rfl⟩:=r;rfl | ref _=>cases r;rfl | ty _=>cases r;rfl
theorem xc.inj{x y:V}{u:Value}(r:xc x u)(q:xc y u):x=y:=_z (r.abs.symm.trans q.abs)
theorem yC.inj:∀{xs ys:List V}{us:List Value},yC xs us->yC ys us->xs=ys
 | _,_,_,.nil,.nil=>rfl | _,_,_,.cons r t,.cons r' t'=>by rw[r.inj r',yC.inj t t']
section
variable {X:Cx}{pins:List (Addr×Obj)}{O:St}{H:Hp}{s:Shared}{a:Addr}{xs ys:List V}
theorem SqL.of{K:W.Frag}(h:H a=some (.lst xs)):SqL K H a xs:=.inl (.inl h)
theorem Inv.list(I:Inv X pins O H s)(h:SqL X.K H a xs):∃its:List Value,yC xs its/\PlainL s.heap a its.toArray/\xs.length<=sizeLine:=by
 rcases h with h | ⟨o,its,n,hk,hc,hd,hs,hz,r⟩
 ·obtain⟨z,its,n,r,e⟩:=h.ok I.hok;exact⟨its,r,⟨_,n,e,rfl,rfl,rfl⟩,z⟩
 ·refine⟨its.toList,r,⟨o,n,I.kIn a o hk,hc,hd,by simpa using hs⟩,?_⟩;have e:=r.length;simp only[_V]at e;omega
theorem Inv.tuple(I:Inv X pins O H s)(h:SqT X.K H a xs):∃its:List Value,yC xs its/\IsTup s.heap a its.toArray/\xs.length<=sizeLine:=by
 rcases h with h | ⟨o,its,n,hk,hc,hs,hz,r⟩
 ·obtain⟨z,its,r,p⟩:=h.ok I.hok;exact⟨its,r,p.tup,z⟩
 ·refine⟨its.toList,r,⟨o,I.kIn a o hk,hc,n,by simpa using hs⟩,?_⟩;have e:=r.length;simp only[_V]at e;omega
theorem Inv.list_inj(I:Inv X pins O H s)(h:SqL X.K H a xs)(h':SqL X.K H a ys):xs=ys:=by
 obtain⟨its,r,⟨o,n,e,_,_,d⟩,_⟩:=I.list h;obtain⟨its',r',⟨o',n',e',_,_,d'⟩,_⟩:=I.list h';rw[e]at e';cases e';rw[d]at d';injection d' with d1 _;have:its=its':=by simpa using _aJ Array.toList d1
 subst this;exact r.inj r'
theorem Inv.tuple_inj(I:Inv X pins O H s)(h:SqT X.K H a xs)(h':SqT X.K H a ys):xs=ys:=by
 obtain⟨its,r,⟨o,e,_,n,d⟩,_⟩:=I.tuple h;obtain⟨its',r',⟨o',e',_,n',d'⟩,_⟩:=I.tuple h';rw[e]at e';cases e';rw[d]at d';injection d' with d1 _;have:its=its':=by simpa using _aJ Array.toList d1
 subst this;exact r.inj r'
end
noncomputable abbrev Cx.wish(X:Cx)(E:Value->Shared->Prop):Cx:={X with xe:=E}
noncomputable abbrev Cx.nox(X:Cx):Cx:=X.wish λ_ _=>False
theorem Cx.Ok.wish{X:Cx}(ok:X.Ok)(E:Value->Shared->Prop):(X.wish E).Ok:= ⟨ok.mod,ok.kind,ok.glob,ok.blt,ok.above,ok.inj,ok.has,ok.cab,ok.hd,ok.frames,ok.stk,ok.exf,ok.bs,ok.bsz,ok.noex,ok.exfs,ok.funs,ok.frf⟩
theorem Cx.Ok.unwish{X:Cx}{E:Value->Shared->Prop}(ok:(X.wish E).Ok):X.Ok:= ⟨ok.mod,ok.kind,ok.glob,ok.blt,ok.above,ok.inj,ok.has,ok.cab,ok.hd,ok.frames,ok.stk,ok.exf,ok.bs,ok.bsz,ok.noex,ok.exfs,ok.funs,ok.frf⟩
section
variable {X:Cx}{pins:List (Addr×Obj)}{O:St}{H:Hp}{s:Shared}{E:Value->Shared->Prop}
theorem Inv.wish(I:Inv X pins O H s)(E:Value->Shared->Prop):Inv (X.wish E) pins O H s:=⟨I.ok.wish E,I.os,I.bare,I.base,I.loc,I.cell,I.free,I.freeC,I.pin,I.hok,I.len⟩
theorem Inv.unwish(I:Inv (X.wish E) pins O H s):Inv X pins O H s:=⟨I.ok.unwish,I.os,I.bare,I.base,I.loc,I.cell,I.free,I.freeC,I.pin,I.hok,I.len⟩
theorem SP.unwish{D:z9G}{f:Flow}{s':Shared}(h:SP (X.wish E) pins D f s'):SP X pins D f s':=by cases f with
 | next=>obtain⟨O',H',I,q⟩:=h;exact⟨O',H',I.unwish,q⟩ | brk=>obtain⟨O',H',I,q⟩:=h;exact⟨O',H',I.unwish,q⟩ | cont=>obtain⟨O',H',I,q⟩:=h;exact⟨O',H',I.unwish,q⟩ | ret u=>obtain⟨v,O',H',I,r,q⟩:=h;exact⟨v,O',H',I.unwish,r,q⟩
theorem PSs.nox{st:List Stmt}{t:TS}(h:PSs X.nox st t):PSs X st t:=λpins s O H D I hw=> _t (h pins s O H D (I.wish _) hw) (λ_ _ q=>q.unwish) λ_ _ z=>False.elim z
end
section
variable {X:Cx}{st:Stmt}{z3B:List Stmt}{t u:TS}{e:Expr}{te:TE}{pos:Pos}
def zfM:TS:=λD O H=>D.nx O H
def zgK(t u:TS):TS:=λD O H=>t {D with nx:=u D} O H
theorem zbE:PSs X [] zfM:=λ_ _ O H _ I h=>_cl ⟨O,H,I,h⟩
theorem z95(h1:PS X st t)(h2:PSs X z3B u):PSs X (st::z3B) (zgK t u):=by
 intro pins s O H D I h;refine wpAny_execs_cons (thn (h1 pins s O H {D with nx:=u D} I h) λf s1 q=>?_);cases f with
 | next=>
  obtain⟨O',H',I',q⟩:=q;exact h2 pins s1 O' H' D I' q | ret v=>exact q | brk=>exact q | cont=>exact q
theorem zbC(h1:PS X st t):PSs X [st] t:=by
 intro pins s O H D I h;refine wpAny_execs_cons (thn (h1 pins s O H D I h) λf s1 q=>?_);cases f with
 | next=>exact _cl q | ret v=>exact q | brk=>exact q | cont=>exact q
theorem Inv.quiet{pins:List (Addr×Obj)}{O:St}{H:Hp}{s:Shared}(I:Inv X pins O H s):interactive X.env=false:=by simp[interactive,I.ok.kind]
def zg4(te:TE):TS:=λD O H=>te O H λ_ H1=>D.nx O H1
theorem zcn(he:PE X e te)(hs:swapsWith e none pos.line X.env=pure false:=by rfl):PS X (.Expr e pos) (zg4 te):=by
 intro pins s O H D I h;exact wpAny_Expr_any (thn (he pins s O H _ I h) λv s1 ⟨x,H1,I1,r1,q1⟩=>⟨O,H1,I1,q1⟩) I.quiet hs
def zhA(te:TE):TS:=λD O H=>te O H D.rt
theorem zdC(he:PE X e te):PS X (.Return (some e) pos) (zhA te):=by
 intro pins s O H D I h;exact wpAny_Return_some (thn (he pins s O H _ I h) λv s1 ⟨x,H1,I1,r1,q1⟩=>⟨x,O,H1,I1,r1,q1⟩)
def zi0(c:TT)(t u:TS):TS:=λD O H=>c O H λb H1=>if b=true then t D O H1 else u D O H1
theorem zgx{c:Expr}{a b:List Stmt}{tc:TT}(hc:PT X c tc)(ha:PSs X a t)(hb:PSs X b u):PS X (.If c a b pos) (zi0 tc t u):=by
 intro pins s O H D I h;refine wpAny_If (thn (hc pins s O H _ I h) λd s1 ⟨H1,I1,q1⟩=>?_);cases d with
 | true=>exact ha pins s1 O H1 D I1 q1 | false=>exact hb pins s1 O H1 D I1 q1
end
abbrev TG:=V->St->Hp->(St->Hp->Prop)->Prop
abbrev TGs:=List V->St->Hp->(St->Hp->Prop)->Prop
def PG(X:Cx)(target:Expr)(t:TG):Prop:= ∀(pins:List (Addr×Obj))(s:Shared)(O:St)(H:Hp)(v:V)(u:Value)(Q:St->Hp->Prop),Inv X pins O H s->xc v u->t v O H Q-> wpAny (model X.prog X.w) X.A (assign target X.env u) (λ_ s'=>∃O' H',Inv X pins O' H' s'/\Q O' H') X.xe s
def PGs(X:Cx)(ts:List Expr)(t:TGs):Prop:= ∀(pins:List (Addr×Obj))(s:Shared)(O:St)(H:Hp)(vs:List V)(us:List Value)(Q:St->Hp->Prop),Inv X pins O H s->yC vs us->t vs O H Q-> wpAny (model X.prog X.w) X.A (assignInOrder ((assignEach ts X.env).map (·.2)) us) (λ_ s'=>∃O' H',Inv X pins O' H' s'/\Q O' H') X.xe s
abbrev zga:=V->V->V->Hp->(Hp->Prop)->Prop
def zh0(X:Cx)(t:zga):Prop:= ∀(pins:List (Addr×Obj))(s:Shared)(O:St)(H:Hp)(o i v:V)(ov iv u:Value)(Q:Hp->Prop),Inv X pins O H s->xc o ov->xc i iv->xc v u->t o i v H Q-> wpAny (model X.prog X.w) X.A (setItem ov iv u) (λ_ s'=>∃H',Inv X pins O H' s'/\Q H') X.xe s
abbrev TIp:=V->V->Hp->VK->Prop
def PIp(X:Cx)(op:Operator)(t:TIp):Prop:= ∀(pins:List (Addr×Obj))(s:Shared)(O:St)(H:Hp)(x y:V)(v u:Value)(Q:VK),Inv X pins O H s->xc x v->xc y u->t x y H Q-> wpAny (model X.prog X.w) X.A (inplaceOp op v u) (EP X pins O Q) X.xe s
section
variable {X:Cx}{pos:Pos}
def z0g(i:Nat):TG:=λv O H Q=>Q (O.set i (some v)) H
theorem yf{i:Nat}{x:Str}(hN:X.N.Nodup)(hi:X.N[i]? = some x)(hx:Loc X.env.scope x)(hf:X.fn x=true\/X.env.scope.names.lookup x=some .local:=by first | exact .inl rfl | exact .inr rfl | assumption):PG X (.Name x pos) (z0g i):=by
 intro pins s O H v u Q I r h;exact _bY (qW I hN hi hx r (λs' I'=>⟨_,H,I',h⟩) hf)
def zgM:TGs:=λvs O H Q=>vs=[]/\Q O H
def zcg(t:TG)(u:TGs):TGs:=λvs O H Q=>∃v r,vs=v::r/\t v O H λO' H'=>u r O' H' Q
theorem z8v:PGs X [] zgM:=by
 intro pins s O H vs us Q I r h;obtain⟨e,h⟩:=h;subst e;cases r;exact assignInOrder_nil ⟨O,H,I,h⟩
theorem z0G{e:Expr}{es:List Expr}{t:TG}{u:TGs}(h1:PG X e t)(h2:PGs X es u) (hs:(assignEach (e::es) X.env).map (·.2)=assign e X.env::(assignEach es X.env).map (·.2):=by rfl):PGs X (e::es) (zcg t u):=by
 intro pins s O H vs us Q I r h;obtain⟨v,vr,e1,h⟩:=h;subst e1;cases r with | cons r rr=>
  rw[hs];refine _cD (thn (h1 pins s O H _ _ _ I r h) λ_ s1 ⟨O1,H1,I1,q1⟩=>?_);exact h2 pins s1 O1 H1 _ _ Q I1 rr q1
def zh2(K:W.Frag)(n:Nat)(t:TGs):TG:=λv O H Q=>∃a xs,v=.ref a/\SqT K H a xs/\xs.length=n/\t xs O H Q
theorem zbb{es:List Expr}{k:Nat}{t:TGs}{n:Nat}(hc:X.calm=true)(h:PGs X es t) (hn:(assignEach es X.env).length=n:=by rfl)(hst:(assignEach es X.env).findIdx? (·.1)=none:=by rfl):PG X (.Tuple es k pos) (zh2 X.K n t):=by
 intro pins s O H v u Q I r hw;obtain⟨a,xs,e1,hq,hl,hw⟩:=hw;subst e1;cases r;obtain⟨its,rv,ht,hz⟩:=I.tuple hq;refine assign_Tuple_tuple (I.ok.hd hc) ht (by simp[hn,<- hl,rv.length]) hst λh' hx=>?_;have I1:Inv X pins O H {s with heap:=h'}:=I.kept (t':=s.toks) λb o e=>hx b o (_D (_o e)) e;exact h pins _ O H xs _ Q I1 (by simpa using rv) hw
def zhT(to ti:TE)(t:zga):TG:=λv O H Q=>to O H λo H1=>ti O H1 λi H2=>t o i v H2 λH3=>Q O H3
theorem zd9{o i:Expr}{to ti:TE}{t:zga}(ho:PE X o to)(hi:PE X i ti)(hs:zh0 X t) (ha:∀v,assign (.Subscript o i pos) X.env v=(do
   let ov <- holding [v] (eval o X.env) let iv <- holding [v,ov] (eval i X.env)
   standAt pos
   holding [v,ov,iv] (setItem ov iv v)
   release [v,ov,iv] []):=by intro _;rfl):PG X (.Subscript o i pos) (zhT to ti t):=by
 intro pins s O H v u Q I r h;rw[ha];refine _a (_aY (thn (ho pins s O H _ I h) λov s1 ⟨x,H1,I1,r1,q1⟩=>?_));refine _a (_aY (thn (hi pins s1 O H1 _ I1 q1) λiv s2 ⟨y,H2,I2,r2,q2⟩=>?_));refine _a (_aC (_a (_aY (thn (hs pins s2 O H2 x y v ov iv u _ I2 r1 r2 r q2) λ_ s3 ⟨H3,I3,q3⟩=>?_))));exact wpAny_release ⟨O,H3,I3,q3⟩
def zfC(te:TE)(g:TG):TS:=λD O H=>te O H λx H1=>g x O H1 D.nx
theorem zaX{tg e:Expr}{te:TE}{g:TG}(he:PE X e te)(hg:PG X tg g)(hs:swapsWithSole [tg] e pos.line X.env=pure false:=by rfl)(hw:swappedStores [tg] e X.env=pure none:=by rfl) (h1:(assignEach [tg] X.env).map (·.2)=[assign tg X.env]:=by rfl):PS X (.Assign [tg] e pos) (zfC te g):=by
 intro pins s O H D I h;refine wpAny_Assign_stores (thn (he pins s O H _ I h) λv s1 ⟨x,H1,I1,r1,q1⟩=>?_) hs hw;rw[h1];exact thn (hg pins s1 O H1 x v _ I1 r1 q1) λ_ s2 q=>q
theorem zeQ{i:Nat}{x:Str}{e:Expr}{te:TE}{pos':Pos}(hN:X.N.Nodup)(hi:X.N[i]? = some x)(hx:Loc X.env.scope x)(he:PE X e te)(hs:swapsWith e (some (.Name x pos')) pos.line X.env=pure false:=by rfl)(hf:X.fn x=true\/X.env.scope.names.lookup x=some .local:=by first | exact .inl rfl | exact .inr rfl | assumption): PS X (.Assign [.Name x pos'] e pos) (zfC te (z0g i)):=by
 intro pins s O H D I h;refine wpAny_Assign_Name (thn (he pins s O H _ I h) λv s1 ⟨y,H1,I1,r1,q1⟩=>?_) hs;exact qW I1 hN hi hx r1 (λs2 I2=>⟨_,H1,I2,q1⟩) hf
def zhg(i j:Nat)(ta:TA):TS:=λD O H=>ta O H λvs H1=>∃v w,vs=[v,w]/\D.nx ((O.set i (some v)).set j (some w)) H1
theorem ze3 {i j:Nat} {x y:Str} {a b:Expr} {ta:TA} {px py pt:Pos} {kt k2 pt2} (hc:X.calm=true) (hN:X.N.Nodup) (hi:X.N[i]? = some x) (hj:X.N[j]? = some y) (hij:i≠j) (hx:X.env.scope.names.lookup x=some .local) (hy:X.env.scope.names.lookup y=some .local) (ha:PA X [a,b] ta) (hw:swappedStores [.Tuple [.Name x px,.Name y py] kt pt] (.Tuple [a,b] k2 pt2) X.env=pure (some [x,y])) (hs:swapsWithSole [.Tuple [.Name x px,.Name y py] kt pt] (.Tuple [a,b] k2 pt2) pos.line X.env=pure false:=by rfl): PS X (.Assign [.Tuple [.Name x px,.Name y py] kt pt] (.Tuple [a,b] k2 pt2) pos) (zhg i j ta):=by
 intro pins s O H D I h;rw[exec_Assign_arm];refine _a (_aC ?_);rw[hs];refine _a (_j ?_);rw[_l (by decide)];refine _a (Tuple_ (thn (ha _ pins s O H _ I h) λus s1 ⟨vs,H1,I1,r1,q1⟩=>?_));obtain⟨v,w,e1,q1⟩:=q1;subst e1;obtain⟨u1,u2,rfl,rv,rw'⟩:∃u1 u2,us=[u1,u2]/\xc v u1/\xc w u2:=by cases r1 with | cons p q=> cases q with | cons p' q'=>
    cases q';exact⟨_,_,rfl,p,p'⟩
 refine _am ?_ (by show 2<=sizeLine;decide);have I2:Inv X pins O H1 {s1 with heap:=s1.heap.push {cls:=.type "tuple",data:=.seq [u1,u2].toArray}}:=I1.kept (t':=s1.toks) λb o e=>_e _ e;rw[hw];refine _a (_j ?_);show wpAny (model X.prog X.w) X.A (do rule "assign.swapped-stores";let items <- unpackItems (.ref s1.heap.objs.size) 2 none;assignInOrder [λv=>bindName X.env y v,λv=>bindName X.env x v] items.reverse;pure Flow.next) _ _ _;refine _a (_aw (_a (unpackItems_tuple (items:=#[u1,u2]) (I.ok.hd hc) (IsTup.new s1.heap _) λh' hx'=>?_)));have I3:=I2.kept (h':=h') (t':=s1.toks) λb o e=>hx' b o (_D (_o e)) e;show wpAny _ _ (assignInOrder [λv=>bindName X.env y v,λv=>bindName X.env x v] [u2,u1] >>= λ_=>pure Flow.next) _ _ _;refine _a (_cD (wpAny_bindName (qW I3 hN hj (.inl hy) rw' (λs2 I4=>?_) (.inr hy))));refine _cD (wpAny_bindName (qW I4 hN hi (.inl hx) rv (λs3 I5=>assignInOrder_nil (_j ?_)) (.inr hx)));rw[List.set_comm _ _ (_a8 hij)]at I5;exact⟨_,H1,I5,q1⟩
def zi2(i:Nat)(te:TE)(ti:TIp):TS:=λD O H=>∃x,O[i]? = some (some x)/\te O H λy H1=>ti x y H1 λz H2=>D.nx (O.set i (some z)) H2
theorem zf7{i:Nat}{x:Str}{e:Expr}{te:TE}{op:Operator}{ti:TIp}{pos':Pos}(hN:X.N.Nodup)(hi:X.N[i]? = some x)(hx:Loc X.env.scope x)(he:PE X e te)(ho:PIp X op ti)(hf:X.fn x=true\/X.env.scope.names.lookup x=some .local:=by first | exact .inl rfl | exact .inr rfl | assumption): PS X (.AugAssign (.Name x pos') op e pos) (zi2 i te ti):=by
 intro pins s O H D I h;obtain⟨v,e1,h⟩:=h;obtain⟨m,hn,hl⟩:=I.loc;have vis:Vis X.env.scope x:=by rcases hx with k | k;exact .inl k;exact .inr (.inl k)
 obtain⟨u,r,l⟩:=hl i x v hi e1 vis;refine wpAny_AugAssign_Name ?_;have go:wpAny (model X.prog X.w) X.A (eval e X.env) (λw s₂=>wpAny (model X.prog X.w) X.A (inplaceOp op u w) (λr s₃=>wpAny (model X.prog X.w) X.A (storeName X.env x r) (λ_=>SP X pins D .next) X.xe s₃) X.xe s₂) X.xe s:=by
  refine thn (he pins s O H _ I h) λw s1 ⟨y,H1,I1,r1,q1⟩=>?_;refine thn (ho pins s1 O H1 v y u w _ I1 r r1 q1) λz s2 ⟨zv,H2,I2,r2,q2⟩=>?_;exact qW I2 hN hi hx r2 (λs3 I3=>⟨_,H2,I3,q2⟩) hf
 rcases l with⟨hk,hm⟩ | ⟨hk,c,hc,hcell⟩;·exact wpAny_loadName_local I.ok.kind hk hn hm go
 ·rcases hk with hk | hk;·exact wpAny_loadName_cell I.ok.kind hk hc hcell go
  ·rcases hx with k | k
   ·have:X.env.scope.names.lookup x=some .free:=hk;rw[k]at this;cases this
   ·have:X.env.scope.names.lookup x=some .free:=hk;rw[k]at this;cases this
end
section
variable {X:Cx}{pos:Pos}
def zdI(c:TT)(tb:TS):TS:=λD O H=>∃W:Nat->St->Hp->Prop,(∃m,W m O H)/\∀m O H,W m O H-> c O H λb H1=>if b=true then ∃N:St->Hp->Prop,(∀O' H',N O' H'->∃m',m'<m/\W m' O' H')/\tb {D with nx:=N,ct:=N,bk:=D.nx} O H1 else D.nx O H1
theorem zao{c:Expr}{body:List Stmt}{tc:TT}{tb:TS}(hp:PassesOwn (model X.prog X.w) X.A X.env X.xe)(hc:PT X c tc)(hb:PSs X body tb):PS X (.While c body [] pos) (zdI tc tb):=by
 intro pins s O H D I h;obtain⟨W,⟨m0,w0⟩,turn⟩:=h;refine wpAny_While (codeAny_whileLoop (λn s'=>∃O' H',Inv X pins O' H' s'/\W n O' H') ?_ m0 ⟨O,H,I,w0⟩);rintro n s1 ⟨O1,H1,I1,w1⟩;refine _a6 hp (thn (hc pins s1 O1 H1 _ I1 (turn n O1 H1 w1)) λb s2 ⟨H2,I2,q2⟩=>?_);cases b with
 | true=>
  obtain⟨N,hN,q2⟩:=q2;rw[_g rfl];refine _a6 hp (thn (hb pins s2 O1 H2 _ I2 q2) λf s3 q3=>?_);cases f with
  | next=>
   obtain⟨O3,H3,I3,n3⟩:=q3;obtain⟨m',hm,w3⟩:=hN O3 H3 n3;exact⟨m',hm,O3,H3,I3,w3⟩ | cont=>
   obtain⟨O3,H3,I3,n3⟩:=q3;obtain⟨m',hm,w3⟩:=hN O3 H3 n3;exact⟨m',hm,O3,H3,I3,w3⟩ | brk=>exact q3 | ret v=>exact q3
 | false=>
  rw[_l _ax];exact _cl ⟨O1,H2,I2,q2⟩
end
structure It where
 go:Nat->Hp->Prop
 yld:Nat->Hp->V->Hp->Prop
 stop:Nat->Hp->Prop
def z2B(X:Cx)(pins:List (Addr×Obj))(H:Hp)(b:Addr):Prop:= H b=none/\b≠X.env.locals/\b∉X.fs/\(b∈X.ex\/X.s₀.heap.objs.size<=b)/\(∀x c,X.env.cells.lookup x=some c->c≠b)/\∀p∈X.pn++pins,p.1≠b
theorem Inv.fpOk{X:Cx}{pins:List (Addr×Obj)}{O:St}{H H':Hp}{s:Shared}{b:Addr}(I:Inv X pins O H s)(hb:s.heap.objs.size<=b)(hn:H' b=none):z2B X pins H' b:=by
 refine⟨hn,_c9 (_r I.lt hb),I.nofs hb,.inr (_O I.sz hb),λx c e z=>?_,λp hp z=>?_⟩
 ·obtain⟨v,q⟩:=I.cell x c e;exact absurd (_r q.lt (by rw[z];exact hb)) (_ao _)
 ·exact absurd (_r (_o (I.pin p hp).1) (by rw[z];exact hb)) (_ao _)
structure zbU(P:Program)(w:World)(K:W.Frag)(tg:Expr)(J:It)(fp:List Addr)(it:Addr)(tn:Nat->Heap->Prop):Prop where
 mem:it∈fp
 obj:∀i h,tn i h->∀b∈fp,∃o,h.get? b=some o/\∀v,o.data≠.cell v
 keep:∀i h h',tn i h->(∀b∈fp,∀o,h.get? b=some o->h'.get? b=some o)->tn i h'
 item:∀(X:Cx),X.prog=P->X.w=w->X.K=K->X.calm=true->∀(i:Nat)(pins:List (Addr×Obj))(s:Shared)(O:St)(H:Hp)(E:Value->Shared->Prop),Inv X pins O H s->(∀b∈fp,z2B X pins H b)->tn i s.heap->J.go i H-> wpAny (model P w) X.A (pyNext (.ref it)) (λr s1=>∃u,r=some u/\ wpAny (model P w) X.A (letOwnedTupleGo tg (.ref it) u) (λ_ s2=>∃x H',Inv X pins O H' s2/\xc x u/\J.yld i H x H'/\tn (i+1) s2.heap/\∀b∈fp,H' b=none) E s1) E s
 done:∀(X:Cx),X.prog=P->X.w=w->X.K=K->X.calm=true->∀(i:Nat)(pins:List (Addr×Obj))(s:Shared)(O:St)(H:Hp)(E:Value->Shared->Prop),Inv X pins O H s->(∀b∈fp,z2B X pins H b)->tn i s.heap->J.stop i H-> wpAny (model P w) X.A (pyNext (.ref it)) (λr s1=>r=none/\Inv X pins O H s1) E s
 self:∀(A:Around)(i:Nat)(s:Shared)(Q:Value->Shared->Prop)(E:Value->Shared->Prop),tn i s.heap->Q (.ref it) s->wpAny (model P w) A (pyIter (.ref it)) Q E s
abbrev TI:=St->Hp->(It->Hp->Prop)->Prop
def PIE(X:Cx)(pins:List (Addr×Obj))(O:St)(tg:Expr)(R:It->Hp->Prop)(itv:Value)(s2:Shared):Prop:= ∃(it:Addr)(fp:List Addr)(tn:Nat->Heap->Prop)(J:It)(H':Hp),itv=.ref it/\Inv X pins O H' s2/\zbU X.prog X.w X.K tg J fp it tn/\tn 0 s2.heap/\(∀b∈fp,z2B X pins H' b)/\R J H'
def PI(X:Cx)(tg iter:Expr)(wi:TI):Prop:= ∀(pins:List (Addr×Obj))(s:Shared)(O:St)(H:Hp)(R:It->Hp->Prop),Inv X pins O H s->wi O H R-> wpAny (model X.prog X.w) X.A (eval iter X.env) (λv s1=>wpAny (model X.prog X.w) X.A (pyIter v) (PIE X pins O tg R) X.xe s1) X.xe s
theorem zbu{M:Model}{A:Around}{E:Value->Shared->Prop}{s:Shared}{tg:Expr}{it:Addr}{u:Value}{o:Obj}{n:String}{vs:Array Value}{Q:Unit->Shared->Prop}(ho:s.heap.get? it=some o)(hc:o.cls=.type n)(hd:o.data=.fields vs) (hn:["enumerate","zip","dict_itemiterator","dict_reverseitemiterator","odict_iterator","itertools.zip_longest","itertools.pairwise"].contains n=false)(hQ:Q () s):wpAny M A (letOwnedTupleGo tg (.ref it) u) Q E s:=by
  unfold letOwnedTupleGo;cases tg<;>first
    | exact _j hQ | (cases u<;>first
        | exact _j hQ
        | (refine _a (wpAny_load ho ?_);rw[hc,hd];show wpAny M A (if (["enumerate","zip","dict_itemiterator","dict_reverseitemiterator","odict_iterator","itertools.zip_longest","itertools.pairwise"].contains n&&vs[0]? == some (rawInt _))=true then _ else _) Q E s;rw[_l (by intro h;rw[hn,Bool.false_and]at h;cases h)];exact _j hQ))
noncomputable def Itl(K:W.Frag)(a:Addr):It:= ⟨λi H=>∃xs x,SqL K H a xs/\xs[i]? = some x,λi H x H'=>H'=H/\∀xs,SqL K H a xs->xs[i]? = some x,λi H=>∃xs,SqL K H a xs/\xs.length<=i⟩
noncomputable def Itt(K:W.Frag)(a:Addr):It:= ⟨λi H=>∃xs x,SqT K H a xs/\xs[i]? = some x,λi H x H'=>H'=H/\∀xs,SqT K H a xs->xs[i]? = some x,λi H=>∃xs,SqT K H a xs/\xs.length<=i⟩
noncomputable def Itr(lo:Int)(n:Nat):It:=⟨λi _=>i<n,λi H x H'=>H'=H/\x=.int (lo+i),λi _=>n<=i⟩
theorem z88{P:Program}{w:World}{K:W.Frag}{tg:Expr}(a it:Addr):zbU P w K tg (Itl K a) [it] it (λi h=>h.IsListIter it a i) where
 mem:=by simp
 obj:=λi h st b hb=>by
  have e:b=it:=by simpa using hb
  subst e;obtain⟨o,e,c,d⟩:=st;exact⟨o,e,λv z=>by rw[d]at z;cases z⟩
 keep:=λi h h' st k=>st.at λo e=>k it (by simp) o e;item:=by
  intro X hP hw hK hc i pins s O H E I hf st hg;subst hP hw hK;obtain⟨xs,x,hq,hx⟩:=hg;obtain⟨its,rv,p,hz⟩:=I.list hq;obtain⟨u,hu,ru⟩:=rv.get hx;obtain⟨f0,f1,f2,f3,f4,f5⟩:=hf it (by simp);refine wpAny_pyNext_list_item st p.isList (x:=u) (by simpa using hu) λh' st' sb=>?_;have I1:Inv X pins O H {s with heap:=h'}:=I.turned (t':=s.toks) (λb o hb e=>(sb.2 b hb).trans e) f0 f1 f3 f4 f5;obtain⟨o,e,c,d⟩:=id st';exact⟨u,rfl,zbu (s:={s with heap:=h'}) e c d (by decide) ⟨x,H,I1,ru,⟨rfl,λys hy=>by rw[I.list_inj hy hq];exact hx⟩,st',λb hb=>(hf b hb).1⟩⟩
 done:=by
  intro X hP hw hK hc i pins s O H E I hf st hg;subst hP hw hK;obtain⟨xs,hq,hx⟩:=hg;obtain⟨its,rv,p,hz⟩:=I.list hq;obtain⟨f0,f1,f2,f3,f4,f5⟩:=hf it (by simp);have hl:=rv.length;exact wpAny_pyNext_list_end (I.ok.hd hc) st p.isList (by simp;omega) λh' eb=>⟨rfl,I.turned (t':=s.toks) (λb o hb e=>eb b o hb e) f0 f1 f3 f4 f5⟩
 self:=λ_ _ _ _ _ st h=>wpAny_pyIter_listiter st h
theorem z75 {P:Program} {w:World} {K:W.Frag} {tg:Expr} (a it:Addr):zbU P w K tg (Itt K a) [it] it (λi h=>h.IsTupleIter it a i) where
 mem:=by simp
 obj:=λi h st b hb=>by
  have e:b=it:=by simpa using hb
  subst e;obtain⟨o,e,c,d⟩:=st;exact⟨o,e,λv z=>by rw[d]at z;cases z⟩
 keep:=λi h h' st k=>st.at λo e=>k it (by simp) o e;item:=by
  intro X hP hw hK hc i pins s O H E I hf st hg;subst hP hw hK;obtain⟨xs,x,hq,hx⟩:=hg;obtain⟨its,rv,p,hz⟩:=I.tuple hq;obtain⟨u,hu,ru⟩:=rv.get hx;obtain⟨f0,f1,f2,f3,f4,f5⟩:=hf it (by simp);refine wpAny_pyNext_tuple_item st (show s.heap.IsTuple a its.toArray from p) (x:=u) (by simpa using hu) λh' st' sb=>?_;have I1:Inv X pins O H {s with heap:=h'}:=I.turned (t':=s.toks) (λb o hb e=>(sb.2 b hb).trans e) f0 f1 f3 f4 f5;obtain⟨o,e,c,d⟩:=id st';exact⟨u,rfl,zbu (s:={s with heap:=h'}) e c d (by decide) ⟨x,H,I1,ru,⟨rfl,λys hy=>by rw[I.tuple_inj hy hq];exact hx⟩,st',λb hb=>(hf b hb).1⟩⟩
 done:=by
  intro X hP hw hK hc i pins s O H E I hf st hg;subst hP hw hK;obtain⟨xs,hq,hx⟩:=hg;obtain⟨its,rv,p,hz⟩:=I.tuple hq;obtain⟨f0,f1,f2,f3,f4,f5⟩:=hf it (by simp);have hl:=rv.length;exact wpAny_pyNext_tuple_end (I.ok.hd hc) st (show s.heap.IsTuple a its.toArray from p) (by simp;omega) λh' eb=>⟨rfl,I.turned (t':=s.toks) (λb o hb e=>eb b o hb e) f0 f1 f3 f4 f5⟩
 self:=λ_ _ _ _ _ st h=>wpAny_pyIter_tupleiter st h
theorem z6G {P:Program} {w:World} {K:W.Frag} {tg:Expr} (it:Addr) (lo:Int) (n:Nat):zbU P w K tg (Itr lo n) [it] it (λi h=>IsRangeIter h it (lo+(i:Nat)*1) ((n:Int)-(i:Nat)) 1) where
 mem:=by simp
 obj:=λi h st b hb=>by
  have e:b=it:=by simpa using hb
  subst e;exact⟨_,st,λv z=>by
   have z':Data.fields _=Data.cell v:=z;cases z'⟩
 keep:=λi h h' st k=>k it (by simp) _ st;item:=by
  intro X hP hw hK hc i pins s O H E I hf st hg;subst hP hw hK;obtain⟨f0,f1,f2,f3,f4,f5⟩:=hf it (by simp);have W:=Walks.range (prog:=X.prog) (w:=X.w) (I.ok.hd hc) it lo 1 n;refine W.item i s _ _ hg st λv h' tk hv st' kk=>?_;obtain⟨t,rfl⟩:=hv;have I1:Inv X pins O H {s with heap:=h',toks:=tk}:=I.turned (λb o hb e=>kk b o (by simpa using hb) e) f0 f1 f3 f4 f5;refine⟨_,rfl,zbu (s:={s with heap:=h',toks:=tk}) (n:="range_iterator") st' rfl rfl (by decide) ⟨.int (lo+i),H,I1,⟨t,?_⟩,⟨rfl,rfl⟩,st',λb hb=>(hf b hb).1⟩⟩;rw[Int.mul_one]
 done:=by
  intro X hP hw hK hc i pins s O H E I hf st hg;subst hP hw hK;obtain⟨f0,f1,f2,f3,f4,f5⟩:=hf it (by simp);exact wpAny_pyNext_range_end (I.ok.hd hc) st (by have:n<=i:=hg;omega) λh' eb=>⟨rfl,I.turned (t':=s.toks) (λb o hb e=>eb b o hb e) f0 f1 f3 f4 f5⟩
 self:=λ_ _ _ _ _ st h=>wpAny_pyIter_rangeiter st h
section
variable {X:Cx}{tg:Expr}
theorem z5F{pins:List (Addr×Obj)}{O:St}{H:Hp}{s:Shared}{R:It->Hp->Prop}{E:Value->Shared->Prop}{lo hi:Int}{t u v:Tok}{tk:Nat}(I:Inv X pins O H s)(h1:-(2 ^ 62)<=lo)(h2:lo<2 ^ 62)(h3:-(2 ^ 62)<=hi)(h4:hi<2 ^ 62) (q:R (Itr lo (hi-lo).toNat) H):wpAny (model X.prog X.w) X.A (pyIter (.ref s.heap.objs.size)) (PIE X pins O tg R) E {s with heap:=s.heap.push {cls:=.type "range",data:=.fields #[.int lo t,.int hi u,.int 1 v]},toks:=tk}:=by
 refine wpAny_pyIter_range (IsRange.new ..) (small_one h1 h2 h3 h4) ?_;have I1:Inv X pins O H {s with heap:=s.heap.push {cls:=.type "range",data:=.fields #[.int lo t,.int hi u,.int 1 v]},toks:=tk}:=I.kept λb o e=>_e _ e;refine⟨(s.heap.push {cls:=.type "range",data:=.fields #[.int lo t,.int hi u,.int 1 v]}).objs.size,[(s.heap.push {cls:=.type "range",data:=.fields #[.int lo t,.int hi u,.int 1 v]}).objs.size],_,_,H,rfl, I1.kept (t':=tk) λb o e=>_e _ e,z6G _ lo (hi-lo).toNat,?_,λb hb=>?_,q⟩
 ·have e1:lo+((0:Nat):Int)*1=lo:=by simp
  have e2:(((hi-lo).toNat:Nat):Int)-((0:Nat):Int)=Builtin.Range.rangeSize lo hi 1:=by rw[rangeSize_one];split<;>omega
  show IsRangeIter _ _ (lo+((0:Nat):Int)*1) ((((hi-lo).toNat:Nat):Int)-((0:Nat):Int)) 1;rw[e1,e2];exact _v _ rfl
 ·have e:b=(s.heap.push {cls:=.type "range",data:=.fields #[.int lo t,.int hi u,.int 1 v]}).objs.size:=by simpa using hb
  subst e;exact I1.fpOk (_d _) (I1.hok.fresh (_d _))
def zfy(ta:TA):TI:=λO H R=>ta O H λvs H1=>∃j:Int,vs=[.int j]/\-(2 ^ 62)<=j/\j<2 ^ 62/\R (Itr 0 j.toNat) H1
def zfW(ta:TA):TI:=λO H R=>ta O H λvs H1=>∃i j:Int,vs=[.int i,.int j]/\(-(2 ^ 62)<=i/\i<2 ^ 62/\-(2 ^ 62)<=j/\j<2 ^ 62)/\R (Itr i (j-i).toNat) H1
theorem z8R{a:Expr}{ta:TA}{p pos:Pos}(hg:Gl X "range")(hm:X.mg "range"=none)(ha:PA X [a] ta)(hs:starEach [a] X.env=[(false,eval a X.env)]:=by rfl):PI X tg (.Call (.Name "range" p) [a] [] pos) (zfy ta):=by
 intro pins s O H R I h;refine Call_ (z1E I hg hm boot_range (_aT (thn (ha pos pins s O H _ I h) λus s1 ⟨vs,H1,I1,r1,q1⟩=>?_) hs rfl));obtain⟨j,e,q1,q2,q⟩:=q1;subst e;cases r1 with | cons r rr=>
  cases rr;obtain⟨t,rfl⟩:=r;exact call_range_1 (z5F I1 (by omega) (by omega) q1 q2 (by simpa using q))
theorem z7Q{a b:Expr}{ta:TA}{p pos:Pos}(hg:Gl X "range")(hm:X.mg "range"=none)(ha:PA X [a,b] ta)(hs:starEach [a,b] X.env=[(false,eval a X.env),(false,eval b X.env)]:=by rfl)(hs2:starEach [b] X.env=[(false,eval b X.env)]:=by rfl): PI X tg (.Call (.Name "range" p) [a,b] [] pos) (zfW ta):=by
 intro pins s O H R I h;refine Call_ (z1E I hg hm boot_range (_aT (thn (ha pos pins s O H _ I h) λus s1 ⟨vs,H1,I1,r1,q1⟩=>?_) (by rw[hs,hs2]) (by rw[hs2];rfl)));obtain⟨i,j,e,⟨q1,q2,q3,q4⟩,q⟩:=q1;subst e;cases r1 with | cons r rr=> cases rr with | cons r' rr=>
   cases rr;obtain⟨t,rfl⟩:=r;obtain⟨t',rfl⟩:=r';exact call_range_2 (z5F I1 q1 q2 q3 q4 q)
def zhQ(wi:TI)(g:TG)(tb:TS):TS:=λD O H=>wi O H λJ H1=>∃W:Nat->Nat->St->Hp->Prop,(∃m,W 0 m O H1)/\∀i m O H,W i m O H-> (J.stop i H/\D.nx O H)\/(J.go i H/\∃N:St->Hp->Prop,(∀O' H',N O' H'->∃m',m'<m/\W (i+1) m' O' H')/\∀x H',J.yld i H x H'->g x O H' λO2 H2=>tb {D with nx:=N,ct:=N,bk:=D.nx} O2 H2)
noncomputable def z2t(fp:List Addr)(h:Heap):List (Addr×Obj):=fp.filterMap λb=>(h.get? b).map λo=>(b,o)
theorem uy{fp:List Addr}{h:Heap}{b:Addr}{o:Obj}(hb:b∈fp)(e:h.get? b=some o):(b,o)∈z2t fp h:=_bQ.mpr ⟨b,hb,by rw[e];rfl⟩
theorem z7Z{fp:List Addr}{h:Heap}{p:Addr×Obj}(hp:p∈z2t fp h):p.1∈fp/\h.get? p.1=some p.2:=by
 obtain⟨b,hb,e⟩:=_bQ.mp hp;cases q:h.get? b with
 | none=>rw[q]at e;cases e | some o=>
  rw[q]at e;have e':(b,o)=p:=_z e;subst e';exact⟨hb,q⟩
theorem Inv.pinned{pins:List (Addr×Obj)}{O:St}{H:Hp}{s:Shared}{fp:List Addr}(I:Inv X pins O H s)(hf:∀b∈fp,z2B X pins H b)(ho:∀b∈fp,∃o,s.heap.get? b=some o/\∀v,o.data≠.cell v):Inv X (pins++z2t fp s.heap) O H s:= I.pins_of λp hp=>(_B.mp hp).elim (λz=>I.pin p (_s _ z)) λz=>by
  obtain⟨hb,e⟩:=z7Z z;obtain⟨f0,f1,f2,_⟩:=hf p.1 hb;obtain⟨o,e',d⟩:=ho p.1 hb;rw[e]at e';cases e';exact⟨e,f0,f1,f2,d⟩
theorem Inv.unpinned{pins pl:List (Addr×Obj)}{O:St}{H:Hp}{s:Shared}(I:Inv X (pins++pl) O H s):Inv X pins O H s:=I.pins_of λp hp=>I.pin p (_s _ (_ai _ hp))
theorem ze5{iter:Expr}{body:List Stmt}{wi:TI}{g:TG}{tb:TS}{pos:Pos}(hp:PassesOwn (model X.prog X.w) X.A X.env X.xe)(hc:X.calm=true)(hi:PI X tg iter wi)(hg:PG X tg g)(hb:PSs X body tb) (hs:∀x,foldedSetIterable iter X.env x=pure x:=by intro _;rfl):PS X (.For tg iter body [] pos) (zhQ wi g tb):=by
 intro pins s O H D I h;refine wpAny_For (thn (hi pins s O H _ I h) λv s1 h1=>thn h1 λitv s2 h2=>?_) hs;obtain⟨it,fp,tn,J,H2,e,I2,T,st2,f2,W,⟨m0,w0⟩,turn⟩:=h2;subst e;have stat:∀{H':Hp},(∀b∈fp,H' b=none)->∀b∈fp,z2B X pins H' b:=λhn b hb=>⟨hn b hb,(f2 b hb).2⟩;refine codeAny_forLoop_any (λn s'=>∃i O' H',Inv X pins O' H' s'/\tn i s'.heap/\(∀b∈fp,H' b=none)/\W i n O' H') ?_ m0 ⟨0,O,H2,I2,st2,λb hb=>(f2 b hb).1,w0⟩;rintro n s3 ⟨i,O3,H3,I3,st3,fr3,w3⟩;rcases turn i n O3 H3 w3 with⟨stop,qn⟩ | ⟨go,N,hN,step⟩
 ·refine _a6 hp (thn (T.done X rfl rfl rfl hc i pins s3 O3 H3 X.xe I3 (stat fr3) st3 stop) λr s4 ⟨hr,I4⟩=>?_);subst hr;exact _cl ⟨O3,H3,I4,qn⟩
 ·refine _a6 hp (thn (T.item X rfl rfl rfl hc i pins s3 O3 H3 X.xe I3 (stat fr3) st3 go) λr s4 ⟨u,hr,h4⟩=>?_);subst hr;refine _a6 hp (thn h4 λ_ s5 ⟨x,H5,I5,r5,y5,st5,fr5⟩=>?_);have I5':=I5.pinned (stat fr5) (T.obj _ _ st5);refine _a6 hp (thn (hg _ s5 O3 H5 x u _ I5' r5 (step x H5 y5)) λ_ s6 ⟨O6,H6,I6,q6⟩=>?_);refine _a6 hp (thn (hb _ s6 O6 H6 _ I6 q6) λf s7 q7=>?_);have again:∀{O7:St}{H7:Hp},Inv X (pins++z2t fp s5.heap) O7 H7 s7->N O7 H7->∃m,m<n/\∃i O' H',Inv X pins O' H' s7/\tn i s7.heap/\(∀b∈fp,H' b=none)/\W i m O' H':=λ{O7 H7} I7 n7=>by
   obtain⟨m',hm,w7⟩:=hN O7 H7 n7;refine⟨m',hm,i+1,O7,H7,I7.unpinned,T.keep _ _ _ st5 λb hb o e=>(I7.pin (b,o) (_s _ (_s _ (uy hb e)))).1,λb hb=>?_,w7⟩;obtain⟨o,e,d⟩:=T.obj _ _ st5 b hb;exact (I7.pin (b,o) (_s _ (_s _ (uy hb e)))).2.1
  cases f with
  | next=>obtain⟨O7,H7,I7,n7⟩:=q7;exact again I7 n7 | cont=>obtain⟨O7,H7,I7,n7⟩:=q7;exact again I7 n7 | brk=>obtain⟨O7,H7,I7,q7⟩:=q7;exact⟨O7,H7,I7.unpinned,q7⟩ | ret v=>obtain⟨x7,O7,H7,I7,r7,q7⟩:=q7;exact⟨x7,O7,H7,I7.unpinned,r7,q7⟩
end
abbrev R2:=V->V->Hp->VK->Prop
def OpR(X:Cx)(f:Value->Value->Sem Value)(r:R2):Prop:= ∀(pins:List (Addr×Obj))(s:Shared)(O:St)(H:Hp)(x y:V)(v u:Value)(Q:VK),Inv X pins O H s->xc x v->xc y u->r x y H Q-> wpAny (model X.prog X.w) X.A (f v u) (EP X pins O Q) X.xe s
def UnR(X:Cx)(f:Value->Sem Value)(r:V->Hp->VK->Prop):Prop:= ∀(pins:List (Addr×Obj))(s:Shared)(O:St)(H:Hp)(x:V)(v:Value)(Q:VK),Inv X pins O H s->xc x v->r x H Q-> wpAny (model X.prog X.w) X.A (f v) (EP X pins O Q) X.xe s
def xH(X:Cx)(f:Value)(r:List V->Hp->VK->Prop):Prop:= ∀(pins:List (Addr×Obj))(s:Shared)(O:St)(H:Hp)(xs:List V)(us:List Value)(Q:VK),Inv X pins O H s->yC xs us->r xs H Q-> wpAny (model X.prog X.w) X.A (call f us) (EP X pins O Q) X.xe s
def zhZ(X:Cx)(r:V->Hp->(Bool->Hp->Prop)->Prop):Prop:= ∀(pins:List (Addr×Obj))(s:Shared)(O:St)(H:Hp)(x:V)(v:Value)(Q:Bool->Hp->Prop),Inv X pins O H s->xc x v->r x H Q-> wpAny (model X.prog X.w) X.A (truthy v) (TP X pins O Q) X.xe s
def tOp(r:R2)(ta tb:TE):TE:=λO H Q=>ta O H λx H1=>tb O H1 λy H2=>r x y H2 Q
def tUn(r:V->Hp->VK->Prop)(ta:TE):TE:=λO H Q=>ta O H λx H1=>r x H1 Q
def rI(C:Int->Int->Prop)(g:Int->Int->V):R2:=λx y H Q=>∃i j,x=.int i/\y=.int j/\C i j/\Q (g i j) H
def rI0(g:Int->Int->V):R2:=λx y H Q=>∃i j,x=.int i/\y=.int j/\Q (g i j) H
def rU(g:Int->V):V->Hp->VK->Prop:=λx H Q=>∃i,x=.int i/\Q (g i) H
section
variable {X:Cx}{a b c:Expr}{ta tb tc:TE}{pos:Pos}
theorem zgw(ha:PE X a ta)(hb:PE X b tb){pins:List (Addr×Obj)}{s:Shared}{O:St}{H:Hp}{R:V->V->Hp->Prop}(I:Inv X pins O H s) (h:ta O H λx H1=>tb O H1 λy H2=>R x y H2){Q:Value->Shared->Prop}{f:Value->Value->Sem Value} (hf:∀v u s2 x y H2,Inv X pins O H2 s2->xc x v->xc y u->R x y H2->wpAny (model X.prog X.w) X.A (f v u) Q X.xe s2): wpAny (model X.prog X.w) X.A (eval a X.env) (λv s₁=>wpAny (model X.prog X.w) X.A (eval b X.env) (λu s₂=>wpAny (model X.prog X.w) X.A (f v u) Q X.xe s₂) X.xe s₁) X.xe s:=by
 refine thn (ha pins s O H _ I h) λv s1 ⟨x,H1,I1,r1,q1⟩=>?_;refine thn (hb pins s1 O H1 _ I1 q1) λu s2 ⟨y,H2,I2,r2,q2⟩=>?_;exact hf v u s2 x y H2 I2 r1 r2 q2
theorem zfo{op:Operator}{r:R2}(ho:OpR X (binaryOp op) r)(ha:PE X a ta)(hb:PE X b tb):PE X (.BinOp a op b pos) (tOp r ta tb):=by
 intro pins s O H Q I h;exact wpAny_BinOp (zgw ha hb I h λv u s2 x y H2 I2 rx ry q=>ho pins s2 O H2 x y v u Q I2 rx ry q)
theorem zgn{op:UnaryOp}{r:V->Hp->VK->Prop}(ho:UnR X (unaryOp op) r)(ha:PE X a ta):PE X (.UnaryOp op a pos) (tUn r ta):=by
 intro pins s O H Q I h;exact UnaryOp_ (thn (ha pins s O H _ I h) λv s1 ⟨x,H1,I1,r1,q1⟩=>ho pins s1 O H1 x v Q I1 r1 q1)
theorem opI {f:Value->Value->Sem Value} {C:Int->Int->Prop} {g:Int->Int->Int} (rule:∀(i j:Int) (t u:Tok) (s:Shared) (Q:Value->Shared->Prop) (E:Value->Shared->Prop),C i j->Q (.int (g i j) s.toks) {s with toks:=s.toks+1}->wpAny (model X.prog X.w) X.A (f (.int i t) (.int j u)) Q E s): OpR X f (rI C λi j=>.int (g i j)):=by
 intro pins s O H x y v u Q I rx ry h;obtain⟨i,j,rfl,rfl,hc,q⟩:=h;obtain⟨t,rfl⟩:=rx;obtain⟨t',rfl⟩:=ry;exact rule i j t t' s _ _ hc ⟨.int (g i j),H,I.tok _,⟨_,rfl⟩,q⟩
theorem zgT {f:Value->Value->Sem Value} {g:Int->Int->Int} (rule:∀(i j:Int) (t u:Tok) (s:Shared) (Q:Value->Shared->Prop) (E:Value->Shared->Prop),Q (.int (g i j) s.toks) {s with toks:=s.toks+1}->wpAny (model X.prog X.w) X.A (f (.int i t) (.int j u)) Q E s): OpR X f (rI0 λi j=>.int (g i j)):=by
 intro pins s O H x y v u Q I rx ry h;obtain⟨i,j,rfl,rfl,q⟩:=h;obtain⟨t,rfl⟩:=rx;obtain⟨t',rfl⟩:=ry;exact rule i j t t' s _ _ ⟨.int (g i j),H,I.tok _,⟨_,rfl⟩,q⟩
theorem zfm{f:Value->Value->Sem Value}{g:Int->Int->Bool} (rule:∀(i j:Int)(t u:Tok)(s:Shared)(Q:Value->Shared->Prop)(E:Value->Shared->Prop),Q (.bool (g i j)) s->wpAny (model X.prog X.w) X.A (f (.int i t) (.int j u)) Q E s): OpR X f (rI0 λi j=>.bl (g i j)):=by
 intro pins s O H x y v u Q I rx ry h;obtain⟨i,j,rfl,rfl,q⟩:=h;obtain⟨t,rfl⟩:=rx;obtain⟨t',rfl⟩:=ry;exact rule i j t t' s _ _ ⟨.bl (g i j),H,I,rfl,q⟩
def zhq(i j:Int):Prop:=0<=j/\j<=1000000/\i.natAbs<2 ^ 64
theorem ze4:OpR X (binaryOp .Add) (rI0 λi j=>.int (i+j)):=zgT λ_ _ _ _ _ _ _ q=>add_int q
theorem zdl:OpR X (binaryOp .Sub) (rI0 λi j=>.int (i-j)):=zgT λ_ _ _ _ _ _ _ q=>sub_int q
theorem zdu:OpR X (binaryOp .Mod) (rI (λ_ j=>0<j) λi j=>.int (i % j)):=opI λi j _ _ _ _ _ hc q=>by
 have h1:(0:Int)<j:=hc;exact mod_int' (by omega) (by rw[Int.fmod_eq_emod_of_nonneg i (by omega)];exact q)
theorem zeB:OpR X (binaryOp .Pow) (rI zhq λi j=>.int (i ^ j.toNat)):=opI λ_ _ _ _ _ _ _ hc q=>pow_int_small hc.1 hc.2.1 hc.2.2 q
theorem unI {f:Value->Sem Value} {g:Int->Int} (rule:∀(i:Int) (t:Tok) (s:Shared) (Q:Value->Shared->Prop) (E:Value->Shared->Prop),Q (.int (g i) s.toks) {s with toks:=s.toks+1}->wpAny (model X.prog X.w) X.A (f (.int i t)) Q E s): UnR X f (rU λi=>.int (g i)):=by
 intro pins s O H x v Q I rx h;obtain⟨i,rfl,q⟩:=h;obtain⟨t,rfl⟩:=rx;exact rule i t s _ _ ⟨.int (g i),H,I.tok _,⟨_,rfl⟩,q⟩
theorem zdR:UnR X (unaryOp .USub) (rU λi=>.int (-i)):=unI λ_ _ _ _ _ q=>neg_int q
end
section
variable {X:Cx}{a b c:Expr}{ta tb tc:TE}{pos:Pos}
theorem zgo:OpR X (compareOp .Lt) (rI0 λi j=>.bl (decide (i<j))):=zfm λ_ _ _ _ _ _ _ q=>lt_int q
theorem zfq:OpR X (compareOp .LtE) (rI0 λi j=>.bl (decide (i<=j))):=zfm λ_ _ _ _ _ _ _ q=>le_int q
theorem zfQ:OpR X (compareOp .Gt) (rI0 λi j=>.bl (decide (j<i))):=zfm λ_ _ _ _ _ _ _ q=>gt_int q
theorem zg1:OpR X (compareOp .GtE) (rI0 λi j=>.bl (decide (j<=i))):=zfm λ_ _ _ _ _ _ _ q=>ge_int q
theorem OpR.or{f:Value->Value->Sem Value}{r r':R2}(h:OpR X f r)(h':OpR X f r'):OpR X f (λx y H Q=>r x y H Q\/r' x y H Q):=by
 intro pins s O H x y v u Q I rx ry q;rcases q with q | q;·exact h pins s O H x y v u Q I rx ry q
 ·exact h' pins s O H x y v u Q I rx ry q
theorem zbg(b:Expr){op:CmpOp}(h:op≠.In:=by decide)(h2:op≠.NotIn:=by decide):behindInMarks op b=false:=by
 have e1:(op==CmpOp.In)=false:=by cases op<;>first | rfl | exact absurd rfl h
 have e2:(op==CmpOp.NotIn)=false:=by cases op<;>first | rfl | exact absurd rfl h2
 cases b<;>simp[behindInMarks,e1,e2]
theorem zcE{op:CmpOp}{r:R2}(ho:OpR X (compareOp op) r)(ha:PE X a ta)(hb:PE X b tb)(hm:behindInMarks op b=false):PE X (.Compare a [op] [b] pos) (tOp r ta tb):=by
 intro pins s O H Q I h;exact wpAny_Compare1 (zgw ha hb I h λv u s2 x y H2 I2 rx ry q=>ho pins s2 O H2 x y v u Q I2 rx ry q) hm
def zc4(t:TE):TT:=λO H Q=>t O H λx H'=>∃k,x=.bl k/\Q k H'
theorem zbS{op:CmpOp}{r:R2}(ho:OpR X (compareOp op) r)(ha:PE X a ta)(hb:PE X b tb)(hm:behindInMarks op b=false):PT X (.Compare a [op] [b] pos) (zc4 (tOp r ta tb)):=by
 intro pins s O H Q I h;refine wpAny_isTrue_Compare1 (thn (ha pins s O H _ I h) λv s1 ⟨x,H1,I1,r1,q1⟩=>thn (hb pins s1 O H1 _ I1 q1) λu s2 ⟨y,H2,I2,r2,q2⟩=> thn (ho pins s2 O H2 x y v u _ I2 r1 r2 q2) λc s3 ⟨z,H3,I3,r3,k,e,q3⟩=>?_) hm;subst e;cases r3;exact _al ⟨H3,I3,q3⟩
def z7D(r r':R2)(ta tb tc:TE):TE:=λO H Q=>ta O H λx H1=>tb O H1 λy H2=>r x y H2 λz H3=>∃k,z=.bl k/\ (if k=true then tc O H3 λw' H4=>r' y w' H4 Q else Q (.bl false) H3)
theorem z9W{op op':CmpOp}{r r':R2}(ho:OpR X (compareOp op) r)(ho':OpR X (compareOp op') r')(ha:PE X a ta)(hb:PE X b tb)(hc:PE X c tc) (hm:lastMarks [op,op'] [b,c]=false:=by with_unfolding_all rfl):PE X (.Compare a [op,op'] [b,c] pos) (z7D r r' ta tb tc):=by
 intro pins s O H Q I h;refine Compare_chain (thn (ha pins s O H _ I h) λv s1 ⟨x,H1,I1,r1,q1⟩=>chain_link (thn (hb pins s1 O H1 _ I1 q1) λu s2 ⟨y,H2,I2,r2,q2⟩=> thn (ho pins s2 O H2 x y v u _ I2 r1 r2 q2) λd s3 ⟨z,H3,I3,r3,k,e,q3⟩=>?_)) hm;subst e;cases r3;refine _al ?_;cases k with
 | false=>exact ite_ff ⟨.bl false,H3,I3,rfl,q3⟩ | true=>exact ite_tt (chain_last (thn (hc pins s3 O H3 _ I3 q3) λw' s4 ⟨z',H4,I4,r4,q4⟩=>ho' pins s4 O H4 y z' u w' Q I4 r2 r4 q4))
theorem za4{op op':CmpOp}{r r':R2}(ho:OpR X (compareOp op) r)(ho':OpR X (compareOp op') r')(ha:PE X a ta)(hb:PE X b tb)(hc:PE X c tc) (hm:lastMarks [op,op'] [b,c]=false:=by with_unfolding_all rfl):PT X (.Compare a [op,op'] [b,c] pos) (zc4 (z7D r r' ta tb tc)):=by
 intro pins s O H Q I h;refine isTrue_chain (thn (ha pins s O H _ I h) λv s1 ⟨x,H1,I1,r1,q1⟩=>test_link (thn (hb pins s1 O H1 _ I1 q1) λu s2 ⟨y,H2,I2,r2,q2⟩=> thn (ho pins s2 O H2 x y v u _ I2 r1 r2 q2) λd s3 ⟨z,H3,I3,r3,k,e,q3⟩=>?_)) hm;subst e;cases r3;refine _al ?_;cases k with
 | false=>
  obtain⟨k',e',q'⟩:=q3;cases e';exact ite_ff ⟨H3,I3,q'⟩ | true=>
  refine ite_tt (test_last (thn (hc pins s3 O H3 _ I3 q3) λw' s4 ⟨z',H4,I4,r4,q4⟩=>thn (ho' pins s4 O H4 y z' u w' _ I4 r2 r4 q4) λd' s5 ⟨z2,H5,I5,r5,k2,e2,q5⟩=>?_));subst e2;cases r5;exact _al ⟨H5,I5,q5⟩
def zgp(K:W.Frag)(x:V)(H:Hp)(k:Bool):Prop:= match x with
 | .non=>k=false | .bl b=>k=b | .int i=>k=(i != 0) | .str y=>y.length<=sizeLine/\k=((y.length:Int) != 0) | .byt y=>y.size<=sizeLine/\k=((y.size:Int) != 0) | .ref p=>(∃xs,SqL K H p xs/\k=!xs.isEmpty)\/(∃xs,SqT K H p xs/\k=!xs.isEmpty)\/∃kvs,H p=some (.dK kvs)/\k=!kvs.isEmpty | _=>False
theorem z73{κ:Type}{kvs:List (κ×V)}{vs:List (κ×Value)}(r:KV kvs vs):(!vs.isEmpty)=!kvs.isEmpty:=by cases r<;>rfl
theorem z2e{xs:List V}{its:List Value}(r:yC xs its):(!its.toArray.isEmpty)=!xs.isEmpty:=by cases r<;>simp
theorem z40:(sizeLine:Nat)<2 ^ 63:=by rw[sizeLine_eq];decide
theorem zaU:zhZ X (λx H Q=>∃k,zgp X.K x H k/\Q k H):=by
 intro pins s O H x v Q I rx h;obtain⟨k,e,q⟩:=h;have hl:=z40;have hs:sizeLine=16777216:=sizeLine_eq;cases x with
 | non=>
  cases rx;have e':k=false:=e;subst e';exact truthy_none ⟨H,I,q⟩ | bl b=>
  cases rx;have e':k=b:=e;subst e';exact _al ⟨H,I,q⟩ | int i=>
  obtain⟨t,rfl⟩:=rx;have e':k=(i != 0):=e;subst e';exact PySem.P.truthy_int ⟨H,I,q⟩ | str y=>
  obtain⟨t,rfl⟩:=rx;obtain⟨hy,e'⟩:y.length<=sizeLine/\k=((y.length:Int) != 0):=e;subst e';exact PySem.P.truthy_str (by omega) ⟨H,I.tok _,q⟩ | byt y=>
  obtain⟨t,rfl⟩:=rx;obtain⟨hy,e'⟩:y.size<=sizeLine/\k=((y.size:Int) != 0):=e;subst e';exact W.truthy_bytes (by omega) ⟨H,I.tok _,q⟩ | ref p=>
  cases rx;have e':(∃xs,SqL X.K H p xs/\k=!xs.isEmpty)\/(∃xs,SqT X.K H p xs/\k=!xs.isEmpty)\/∃kvs,H p=some (.dK kvs)/\k=!kvs.isEmpty:=e;rcases e' with⟨xs,hx,e'⟩ | ⟨xs,hx,e'⟩ | ⟨kvs,hx,e'⟩
  ·subst e';obtain⟨its,r,pl,hz⟩:=I.list hx;have hlen:=r.length;exact wpAny_truthy_list pl.isList (by simp only[_k];omega) ⟨H,I.tok _,by rw[z2e r];exact q⟩
  ·subst e';obtain⟨its,r,pl,hz⟩:=I.tuple hx;have hlen:=r.length;exact truthy_tuple pl (by simp only[_k];omega) ⟨H,I.tok _,by rw[z2e r];exact q⟩
  ·subst e';obtain⟨hz,hS,vs,r,m⟩:kvs.length<=sizeLine/\(p==sysModules)=false/\∃vs,KV kvs vs/\s.heap.DictOf (xo X.prog X.w) p vs:=I.hok p _ hx;have hlen:kvs.length=vs.length:=Paired.length r;exact wpAny_truthy_dict hS m (by omega) ⟨H,I.tok _,by rw[z73 r];exact q⟩ | _=>exact (show False from e).elim
theorem z9o(ha:PE X a ta)(he:∀whole,isTrue a X.env whole=(do let v <- whole;standAt a.pos;holding [v] (truthy v))): PT X a (λO H Q=>ta O H λx H'=>∃k,zgp X.K x H' k/\Q k H'):=by
 intro pins s O H Q I h;exact isTrue_plain (thn (ha pins s O H _ I h) λv s1 ⟨x,H1,I1,r1,q1⟩=>zaU pins s1 O H1 x v Q I1 r1 q1) (he _)
theorem vals1{x:V}{us:List Value}(r:yC [x] us):∃u,us=[u]/\xc x u:=by cases r with | cons r1 r2=>cases r2;exact⟨_,rfl,r1⟩
theorem vals2{x y:V}{us:List Value}(r:yC [x,y] us):∃u w',us=[u,w']/\xc x u/\xc y w':=by cases r with | cons r1 r2=> cases r2 with | cons r3 r4=>cases r4;exact⟨_,_,rfl,r1,r3⟩
theorem z9h:xH X (.builtin "abs") (λxs H Q=>∃i,xs=[.int i]/\Q (.int (if i<0 then -i else i)) H):=by
 intro pins s O H xs us Q I r h;obtain⟨i,rfl,q⟩:=h;obtain⟨u,rfl,t,rfl⟩:=vals1 r;exact call_abs_int λu tk=>⟨.int (if i<0 then -i else i),H,I.tok _,⟨_,rfl⟩,q⟩
theorem z89(hc:X.calm=true):xH X (.builtin "max") (λxs H Q=>∃i j,xs=[.int i,.int j]/\Q (.int (if j > i then j else i)) H):=by
 intro pins s O H xs us Q I r h;obtain⟨i,j,rfl,q⟩:=h;obtain⟨u,w',rfl,⟨t,rfl⟩,⟨t',rfl⟩⟩:=vals2 r;refine max_two_ints (I.ok.hd hc) λh' tk k=>⟨_,H,I.kept k,?_,q⟩;by_cases hj:j > i;·rw[_g hj,_g hj];exact⟨_,rfl⟩
 ·rw[_l hj,_l hj];exact⟨_,rfl⟩
theorem z7m(hc:X.calm=true):xH X (.builtin "min") (λxs H Q=>∃i j,xs=[.int i,.int j]/\Q (.int (if j<i then j else i)) H):=by
 intro pins s O H xs us Q I r h;obtain⟨i,j,rfl,q⟩:=h;obtain⟨u,w',rfl,⟨t,rfl⟩,⟨t',rfl⟩⟩:=vals2 r;refine min_two_ints (I.ok.hd hc) λh' tk k=>⟨_,H,I.kept k,?_,q⟩;by_cases hj:j<i;·rw[_g hj,_g hj];exact⟨_,rfl⟩
 ·rw[_l hj,_l hj];exact⟨_,rfl⟩
end
structure zgA(h:Heap)(x dx C:Addr)(mA:Str->Option Value):Prop where
 obj:h.get? x=some (W.instObj C dx)
 ns:h.Ns1 dx mA
 ne:dx≠x
theorem z8x{h:Heap}{dx:Addr}{mA:Str->Option Value}(n:h.Ns1 dx mA):∃od,h.get? dx=some od/\∀name,W.lookIn name od=some (mA name):=by
 obtain⟨o,es,ep,ho,hd,hk,_,hm⟩:=n;refine⟨o,ho,λname=>?_⟩;have e:=hm name;unfold nsFind findBy at e;rw[<- Array.find?_toList]at e;unfold W.lookIn;rw[hd];dsimp only;split
 ·rename_i y q;rw[q]at e;exact _aJ some e
 ·rename_i q;rw[q]at e;have a:es.toList.any (·.refKey)=false:=by
   rw[List.any_eq_false];intro y hy;obtain⟨z,t,hkey⟩:=hk y (Array.mem_toList_iff.mp hy);simp[DictEntry.refKey,hkey]
  have a':¬ es.toList.any (·.refKey)=true:=by rw[a];exact _ax
  rw[_l a'];exact _aJ some e
theorem zgA.look{h:Heap}{x dx C:Addr}{mA:Str->Option Value}(I:zgA h x dx C mA):∃od,W.InstAt h x (W.instObj C dx) C (some od)/\∀name,W.lookIn name od=some (mA name):= let ⟨od,ho,hl⟩:=z8x I.ns;⟨od,⟨I.obj,rfl,rfl,ho⟩,hl⟩
section
variable {P:Program}{w:World}{H H':Hp}{h h':Heap}{a C dx:Addr}{fs fs':List (Str×V)}
theorem zcf(hok:HOk P w H h)(e:H a=some (.ins C dx fs)):∃mA,zgA h a dx C mA/\(∀f,zcW (fs.lookup f) (mA f))/\PySem.Within mA (fs.map (·.1))/\fs.length<=1000/\H dx=some (.own a):=by
 obtain⟨d,z,ne,ob,mA,n,r,q⟩:=(show xf P w H h a (.ins C dx fs) from hok a _ e);exact⟨mA,⟨ob,n,ne⟩,r,q,z,d⟩
end
structure Cls(K:W.Frag)(C:Addr):Prop where
 pg:W.plainGet K C Str.empty=true
 hd:W.hasDictIn K C=true
 po:W.plainOver K C=true
 sa:W.findIn K (.ref C) "__setattr__"=some (some (.builtin "object.__setattr__"))
theorem Cls.get{K:W.Frag}{C:Addr}(c:Cls K C)(f:Str):W.plainGet K C f=true:=c.pg
section
variable {X:Cx}{pins:List (Addr×Obj)}{O:St}{H:Hp}{s:Shared}{A:Around}{E:Value->Shared->Prop}{Q:Value->Shared->Prop}{c:Value}{b:Bool}
inductive z6n(K:W.Frag)(H:Hp):V->Value->Prop where | non:z6n K H .non (.type "NoneType") | bl (x:Bool):z6n K H (.bl x) (.type "bool") | int (i:Int):z6n K H (.int i) (.type "int") | str (x:Str):z6n K H (.str x) (.type "str") | flt (x:UInt64):z6n K H (.flt x) (.type "float") | lst {a:Addr}{xs:List V}(e:H a=some (.lst xs)):z6n K H (.ref a) (.type "list") | frz {a:Addr}{o:Obj}{xs:List V}(e:H a=some (.frz o (.lst xs))):z6n K H (.ref a) (.type "list") | tup {a:Addr}{xs:List V}(e:H a=some (.tup xs)):z6n K H (.ref a) (.type "tuple") | dK {a:Addr}{kvs:List (Key×V)}(e:H a=some (.dK kvs)):z6n K H (.ref a) (.type "dict") | dT {a:Addr}{kvs:List (List Key×V)}(e:H a=some (.dT kvs)):z6n K H (.ref a) (.type "dict") | ins {a C dx:Addr}{fs:List (Str×V)}(e:H a=some (.ins C dx fs))(cl:Cls K C)(ha:W.findIn K (.ref C) "__class__"=some (some (.builtin "object.__class__"))) (hn:W.specialIn K (.builtin "object.__class__") "__get__"=some (some (.builtin "getset_descriptor.__get__")))(htk:W.takesIn K (.builtin "object.__class__")=some true) (hm:W.mroIn K C (.type "object")=some true):z6n K H (.ref a) (.ref C)
theorem z7S {x:V} {u t:Value} (I:Inv X pins O H s) (rx:xc x u) (ty:z6n X.K H x t) (e:W.kitOne X.K t c=some b) (h:∀tk,Q (.bool b) {s with toks:=tk}): wpAny (model X.prog X.w) A (call (.builtin "isinstance") [u,c]) Q E s:=by cases ty with
 | non=>cases (show u=Value.none from rx);exact _bd W.kitx_none I.kIn True.intro e (λz=>nomatch z) h | bl y=>cases (show u=Value.bool y from rx);exact _bd W.kitx_bool I.kIn True.intro e (λz=>nomatch z) h | int i=>obtain⟨t,q⟩:=(show ∃t,u=Value.int i t from rx);cases q;exact _bd W.kitx_int I.kIn True.intro e (λz=>nomatch z) h | str y=>obtain⟨t,q⟩:=(show ∃t,u=Value.str y t from rx);cases q;exact _bd W.kitx_str I.kIn True.intro e (λz=>nomatch z) h | flt y=>obtain⟨t,q⟩:=(show ∃t,u=Value.float y t from rx);cases q;exact _bd W.kitx_float I.kIn True.intro e (λz=>nomatch z) h | @lst a xs ea=>
  cases (show u=Value.ref a from rx);obtain⟨_,_,n,_,h1⟩:=(show xf X.prog X.w H s.heap a (.lst xs) from I.hok a _ ea);exact _bd W.kitx_list I.kIn ⟨_,h1,rfl⟩ e (λz=>nomatch z) h | @frz a ob xs ea=>
  cases (show u=Value.ref a from rx);obtain⟨_,_,_,n,_,h1⟩:=(show xf X.prog X.w H s.heap a (.frz ob (.lst xs)) from I.hok a _ ea);exact _bd W.kitx_list I.kIn ⟨_,h1,rfl⟩ e (λz=>nomatch z) h | @tup a xs ea=>
  cases (show u=Value.ref a from rx);obtain⟨_,_,_,p⟩:=(show xf X.prog X.w H s.heap a (.tup xs) from I.hok a _ ea);obtain⟨o,h1,h2,_⟩:=p;exact _bd W.kitx_tuple I.kIn ⟨o,h1,h2⟩ e (λz=>nomatch z) h | @dK a kvs ea=>
  cases (show u=Value.ref a from rx);obtain⟨_,_,vs,_,p⟩:=(show xf X.prog X.w H s.heap a (.dK kvs) from I.hok a _ ea);obtain⟨o,es,ep,h1,h2,_⟩:=p;exact _bd W.kitx_dict I.kIn ⟨o,h1,h2.1⟩ e (λz=>nomatch z) h | @dT a kvs ea=>
  cases (show u=Value.ref a from rx);obtain⟨_,_,xs,_,o,es,ep,h1,h2,_⟩:=(show xf X.prog X.w H s.heap a (.dT kvs) from I.hok a _ ea);exact _bd W.kitx_dict I.kIn ⟨o,h1,h2.1⟩ e (λz=>nomatch z) h | @ins a C dx fs ea cl ha hn htk hm=>
  cases (show u=Value.ref a from rx);obtain⟨mA,Oo,_⟩:=zcf I.hok ea;obtain⟨od,J,_⟩:=Oo.look;exact _bd (W.kitx_own (cl.get _) cl.hd ha hn htk hm) I.kIn J e (λz=>nomatch z) h
end
structure z0m(k:Nat)(A:Around):Prop where
 hd:A.handled=none
 dp:A.depth+3*k+5<recursionLimit
 un:A.units+16*k+200<cLine
 gd:A.guards=some []
theorem z0m.mono{j k:Nat}{A:Around}(r:z0m k A)(h:j<=k):z0m j A:=⟨r.hd,by have:=r.dp;omega,by have:=r.un;omega,r.gd⟩
theorem z0m.deeper{k:Nat}{A:Around}(r:z0m (k+1) A)(env:Env):z0m k (A.deeper env):= ⟨r.hd,by have:=r.dp;show A.depth+1+3*k+5<_;omega,by have:=r.un;show A.units+3+16*k+200<_;omega,r.gd⟩
theorem z0m.depth{k:Nat}{A:Around}(r:z0m k A):A.depth<recursionLimit:=by have:=r.dp;omega
theorem z0m.units{k:Nat}{A:Around}(r:z0m k A):A.units+64<cLine:=by have:=r.un;omega
def zhp:TA:=λ_ H Q=>Q [] H
def zfK(ta:TE)(tr:TA):TA:=λO H Q=>ta O H λx H1=>tr O H1 λxs H2=>Q (x::xs) H2
section
variable {X:Cx}{e:Expr}{es:List Expr}{te:TE}{t:TA}{pos:Pos}
theorem qd:PA X [] zhp:=λ_ _ _ _ H Q I h=>_cP ⟨[],H,I,.nil,h⟩
theorem wc(ha:PE X e te)(hr:PA X es t)(hs:starEach (e::es) X.env=(false,eval e X.env)::starEach es X.env:=by rfl):PA X (e::es) (zfK te t):=by
 intro pos pins s O H Q I h;rw[hs];show wpAny _ _ (spliced ((false,eval e X.env)::backTo pos (starEach es X.env))) _ _ s;refine _bR (thn (ha pins s O H _ I h) λu s1 ⟨x,H1,I1,r1,q1⟩=>?_);exact thn (hr pos pins s1 O H1 _ I1 q1) λus s2 ⟨xs,H2,I2,r2,q2⟩=>⟨x::xs,H2,I2,.cons r1 r2,q2⟩
def zhB(t:TA):TE:=λO H Q=>t O H λxs H1=>xs.length<=sizeLine/\∀p,H1 p=none->Q (.ref p) (upd H1 p (.tup xs))
def zhd(t:TA):TE:=λO H Q=>t O H λxs H1=>xs.length<=sizeLine/\∀p,H1 p=none->Q (.ref p) (upd H1 p (.lst xs))
theorem zdy{x1}(h:PA X es t):PE X (.Tuple es x1 pos) (zhB t):=by
 intro pins s O H Q I hq;refine wpAny_Tuple_spliced (thn (h pos pins s O H _ I hq) λus s1 ⟨xs,H1,I1,r,z,q⟩=>⟨by rw[<- r.length];exact z,?_⟩);have hf:H1 s1.heap.objs.size=none:=I1.hok.fresh (_d _);refine⟨.ref s1.heap.objs.size,upd H1 s1.heap.objs.size (.tup xs),I1.laid (t':=s1.toks) (λb u e=>_e _ e) (_d _) ?_,rfl,q _ hf⟩;exact⟨z,us,r,⟨_,_v _ rfl,rfl,rfl,_,rfl⟩⟩
theorem z6i(h:PA X es t):PE X (.List es pos) (zhd t):=by
 intro pins s O H Q I hq;refine wpAny_List_spliced (thn (h pos pins s O H _ I hq) λus s1 ⟨xs,H1,I1,r,z,q⟩=>⟨by rw[<- r.length];exact z,?_⟩);have hf:H1 s1.heap.objs.size=none:=I1.hok.fresh (_d _);refine⟨.ref s1.heap.objs.size,upd H1 s1.heap.objs.size (.lst xs),I1.laid (t':=s1.toks) (λb u e=>_e _ e) (_d _) ?_,rfl,q _ hf⟩;exact⟨z,us,0,r,_v _ rfl⟩
end
abbrev Sp:=List V->Hp->VK->XK->Prop
abbrev CXT:=List Env->Hp->Shared->XK->Value->Shared->Prop
structure zdS(P:Program)(w:World)(K:W.Frag)(mg:Str->Option Value)(base:Heap)(A:Around)(outer:List Env)(s:Shared)(H:Hp):Prop where
 frames:A.frames=some outer
 mod:Mod K mg base
 bs:∀b o,base.get? b=some o->s.heap.get? b=some o/\H b=none
 bsz:base.objs.size<=s.heap.objs.size
 funs:s.heap.FunFrames base outer
 frf:∀b∈frs outer,H b=none
 hok:HOk P w H s.heap
 bare:AllBare s.gens
def CE(outer:List Env)(P:Program)(w:World)(H:Hp)(s:Shared)(Q:VK)(u:Value)(s':Shared):Prop:= ∃v H',s'.os=s.os/\AllBare s'.gens/\Un (frs outer) [] H H' s.heap s'.heap/\HOk P w H' s'.heap/\xc v u/\Q v H'
def CR(CX:CXT)(outer:List Env)(P:Program)(w:World)(H:Hp)(s:Shared)(Q:VK)(E:XK)(r:Result)(s':Shared):Prop:= match r with
 | .ok (.ret u)=>CE outer P w H s Q u s' | .ok _=>False | .error e=>CX outer H s E e s'
structure z3C(P:Program)(w:World)(K:W.Frag)(mg:Str->Option Value)(base:Heap)(CX:CXT)(k:Nat)(f:Addr)(fd:FuncData)(ps:List Str)(sp:Sp):Prop where
 len:∀vs H Q E,sp vs H Q E->vs.length=ps.length
 run:∀(A:Around)(outer:List Env)(s:Shared)(H:Hp)(args:Args)(us:List Value)(vs:List V)(Q:VK)(E:XK),z0m k A->zdS P w K mg base A outer s H->BindsTo s fd args (ps.zip us)->yC vs us->sp vs H Q E-> codeAny (model P w) A (.call (.ref f) args) (CR CX outer P w H s Q E) s
theorem z3C.mono{P:Program}{w:World}{K:W.Frag}{mg:Str->Option Value}{base:Heap}{CX:CXT}{j k:Nat}{f:Addr}{fd:FuncData}{ps:List Str}{sp:Sp}(F:z3C P w K mg base CX j f fd ps sp)(h:j<=k): z3C P w K mg base CX k f fd ps sp:=⟨F.len,λA outer s H args us vs Q E hr=>F.run A outer s H args us vs Q E (hr.mono h)⟩
theorem z3C.imp{P:Program}{w:World}{K:W.Frag}{mg:Str->Option Value}{base:Heap}{CX:CXT}{k:Nat}{f:Addr}{fd:FuncData}{ps:List Str}{sp sp':Sp}(F:z3C P w K mg base CX k f fd ps sp) (h:∀vs H Q E,sp' vs H Q E->sp vs H Q E):z3C P w K mg base CX k f fd ps sp':= ⟨λvs H Q E q=>F.len vs H Q E (h _ _ _ _ q),λA outer s H args us vs Q E hr he hb hv hs=>F.run A outer s H args us vs Q E hr he hb hv (h _ _ _ _ hs)⟩
section
variable {X:Cx}{pins:List (Addr×Obj)}{O:St}{H:Hp}{s s':Shared}
theorem Inv.env0(I:Inv X pins O H s):zdS X.prog X.w X.K X.mg X.base X.A X.stack s H:= ⟨I.ok.frames,I.ok.mod,I.bs,_O I.ok.bsz I.sz,I.stack,I.stkFree,I.hok,I.bare⟩
theorem Inv.after {Q:VK} {u:Value} (I:Inv X pins O H s) (h:CE X.stack X.prog X.w H s Q u s'):EP X pins O Q u s':=by
 obtain⟨v,H',os,bare,un,hok,r,q⟩:=h;obtain⟨hh,g,d,t,os'⟩:=s';obtain rfl:os'=s.os:=os;exact⟨v,H',I.call (h':=hh) (g':=g) (d':=d) (t':=t) (ch:=[]) un hok bare (λb z=>absurd z (by simp)),r,q⟩
end
def zdG(sp:Sp)(dvs:List V)(E:XK)(t:TA):TE:=λO H Q=>t O H λvs H1=>sp (vs++dvs) H1 Q E
def Binds(K:W.Frag)(fd:FuncData)(ps:List Str)(ds:List Value):Prop:= ∀(s:Shared)(us:List Value),K.In s.heap->(us++ds).length=ps.length->BindsTo s fd ⟨us,[]⟩ (ps.zip (us++ds))
theorem Binds.all{K:W.Frag}{fd:FuncData}{ps:List Str}(h:∀us:List Value,us.length=ps.length->bindArgs fd ⟨us,[]⟩=pure (ps.zip us)):Binds K fd ps []:=λs us _ hl=>by
 rw[_bN]at hl ⊢;exact .of_eq (h us hl)
def Passes(CX:CXT)(X:Cx)(E:XK):Prop:=∀(pins:List (Addr×Obj))(O:St)(H:Hp)(s:Shared)(e:Value)(s':Shared),Inv X pins O H s->CX X.stack H s E e s'->X.xe e s'
section
variable {X:Cx}{CX:CXT}{k:Nat}{f C:Addr}{fd:FuncData}{ps:List Str}{sp:Sp}{dvs:List V}{ds:List Value}{E:XK}{x m:Str}{p pos apos:Pos}{e o:Expr}{es:List Expr}{ta:TE}{t:TA}
theorem zbm{pins:List (Addr×Obj)}{O:St}{H:Hp}{s:Shared}{Q:VK}{us:List Value}{vs:List V}(F:z3C X.prog X.w X.K X.mg X.base CX k f fd ps sp)(hr:z0m k X.A)(hb:Binds X.K fd ps ds)(hd:yC dvs ds)(hx:Passes CX X E) (I:Inv X pins O H s)(r:yC vs us)(h:sp (vs++dvs) H Q E):wpAny (model X.prog X.w) X.A (call (.ref f) us) (EP X pins O Q) X.xe s:=by
 have r2:yC (vs++dvs) (us++ds):=r.append hd;have hl:(us++ds).length=ps.length:=by rw[<- r2.length];exact F.len _ _ _ _ h
 refine wpAny_call (_cA (F.run X.A X.stack s H ⟨us,[]⟩ (us++ds) (vs++dvs) Q E hr I.env0 (hb s us I.kIn hl) r2 h) λr s' hq=>?_);cases r with
 | error e=>exact hx pins O H s e s' I hq | ok fl=> cases fl with
  | ret u=>exact I.after hq | next=>exact False.elim hq | brk=>exact False.elim hq | cont=>exact False.elim hq
theorem zbM (F:z3C X.prog X.w X.K X.mg X.base CX k f fd ps sp) (hr:z0m k X.A) (hg:Gl X x) (hm:X.mg x=some (.ref f)) (hk:W.keepIn X.K (.ref f)=true) (hb:Binds X.K fd ps ds) (hd:yC dvs ds) (hx:Passes CX X E) (ha:PA X (e::es) t) (hdb:(x==("__debug__":Str))=false:=by decide) (he:starEach (e::es) X.env=(false,eval e X.env)::starEach es X.env:=by rfl) (hpl:(backTo pos (starEach es X.env)).any (·.1)=false:=by rfl): PE X (.Call (.Name x p) (e::es) [] pos) (zdG sp dvs E t):=by
 intro pins s O H Q I h;refine _a1 (z1O I hg hm ?_ hdb);refine W.callWith_K (h₀:=X.base) I.ok.mod.kin hk (thn (ha pos pins s O H _ I h) λus s1 ⟨vs,H1,I1,r,q⟩=>⟨I1.kIn,?_⟩) he hpl;exact zbm F hr hb hd hx I1 r q
end
structure zG(N P:List Str)(sc:Scope):Prop where
 kind:sc.kind=.function
 co:sc.isCoroutine=false
 gen:sc.isGenerator=false
 nd:N.Nodup
 pre:N.take P.length=P
 par:∀x∈P,sc.names.lookup x=some .local\/sc.names.lookup x=some .cell
 nofree:∀y∈sc.names,y.2≠.free
theorem z4h{kindOf:Str->Option NameKind}{x:Str}:∀{binds:List (Str×Value)}{m:Str->Option Value},(∀v,(x,v)∉binds)->bindL kindOf binds m x=m x
 | [],_,_=>rfl | (n,v)::r,m,h=>by
  unfold bindL;rw[z4h λw hw=>h w (_w _ hw)];split
  ·have:x≠n:=by rintro rfl;exact h v _P
   simp[this]
  ·rfl
theorem z4R{kindOf:Str->Option NameKind}{x:Str}:∀{binds:List (Str×Value)}{m:Str->Option Value},(∀v,(x,v)∉binds)->bindC kindOf binds m x=m x
 | [],_,_=>rfl | (n,v)::r,m,h=>by
  unfold bindC;rw[z4R λw hw=>h w (_w _ hw)];split;·rfl
  ·have:x≠n:=by rintro rfl;exact h v _P
   simp[this]
theorem z3Q{kindOf:Str->Option NameKind}{x:Str}{v:Value}:∀{P:List Str}{vs:List Value}{i:Nat}{m:Str->Option Value},P.Nodup->P[i]? = some x->vs[i]? = some v->kindOf x=some .local-> bindL kindOf (P.zip vs) m x=some v
 | [],_,_,_,_,h,_,_=>by simp at h | _::_,[],_,_,_,_,h,_=>by simp at h | p::P,w::vs,0,m,nd,h1,h2,hk=>by
  simp at h1 h2;subst h1;subst h2;show bindL kindOf ((p,w)::P.zip vs) m p=_;unfold bindL;rw[z4h λv hv=>(_bO.mp nd).1 (_bq hv).1,_g hk];simp | p::P,w::vs,i+1,m,nd,h1,h2,hk=>by
  show bindL kindOf ((p,w)::P.zip vs) m x=_;unfold bindL;exact z3Q (i:=i) (_bO.mp nd).2 (by simpa using h1) (by simpa using h2) hk
theorem z4N{kindOf:Str->Option NameKind}{x:Str}{v:Value}:∀{P:List Str}{vs:List Value}{i:Nat}{m:Str->Option Value},P.Nodup->P[i]? = some x->vs[i]? = some v->kindOf x≠some .local-> bindC kindOf (P.zip vs) m x=some v
 | [],_,_,_,_,h,_,_=>by simp at h | _::_,[],_,_,_,_,h,_=>by simp at h | p::P,w::vs,0,m,nd,h1,h2,hk=>by
  simp at h1 h2;subst h1;subst h2;show bindC kindOf ((p,w)::P.zip vs) m p=_;unfold bindC;rw[z4R λv hv=>(_bO.mp nd).1 (_bq hv).1,_l hk];simp | p::P,w::vs,i+1,m,nd,h1,h2,hk=>by
  show bindC kindOf ((p,w)::P.zip vs) m x=_;unfold bindC;exact z4N (i:=i) (_bO.mp nd).2 (by simpa using h1) (by simpa using h2) hk
noncomputable def start(N:List Str)(vs:List V):St:=vs.map some++List.replicate (N.length-vs.length) none
noncomputable def z1h(CX:CXT)(P:Program)(w:World)(K:W.Frag)(mg:Str->Option Value)(base:Heap)(N:List Str)(qual:Str)(scope:Scope)(f:Addr)(cd:Value)(A:Around)(outer:List Env)(s:Shared)(H:Hp)(E:XK):Cx where
 prog:=P;w:=w;K:=K;mg:=mg;base:=base;A:=A.deeper (envOfC qual scope s.heap.objs.size f cd);N:=N;s₀:=s;H₀:=H;env:=envOfC qual scope s.heap.objs.size f cd;outer:=outer;stack:=envOfC qual scope s.heap.objs.size f cd::outer;ex:=[];calm:=A.handled.isNone;fn:=λ_=>true;pn:=[];xe:=λe s'=>wpAny (model P w) (A.deeper (envOfC qual scope s.heap.objs.size f cd)) (leaving (envOfC qual scope s.heap.objs.size f cd) e) (λ_ s''=>CX outer H s E e s'') (λe' s''=>CX outer H s E e' s'') s'
theorem z0w{sc:Scope}{n:Nat}{x:Str}(h:sc.names.lookup x=some .cell):∃c,(cellsFrom n sc.names []).lookup x=some c:=by
 have q:=_cX sc.names n [] (.inl h);exact Option.isSome_iff_exists.mp q
theorem z47{CX:CXT}{P:Program}{w:World}{K:W.Frag}{mg:Str->Option Value}{base:Heap}{N ps:List Str}{qual:Str}{scope:Scope}{f:Addr}{cd:Value}{A:Around}{outer:List Env}{s s1:Shared}{H:Hp}{E:XK}{us:List Value}{vs:List V} (S:zG N ps scope)(e0:zdS P w K mg base A outer s H)(hl:vs.length=ps.length)(r:yC vs us) (x:InCallC s s.heap.objs.size (bindL (envOfC qual scope s.heap.objs.size f cd).kindOf (ps.zip us) λ_=>none) (cellsFrom (s.heap.objs.size+1) scope.names []) (bindC (envOfC qual scope s.heap.objs.size f cd).kindOf (ps.zip us) λ_=>none) s1): Inv (z1h CX P w K mg base N qual scope f cd A outer s H E) [] (start N vs) H s1:=by
 have hpl:ps.length<=N.length:=by have:=_aJ List.length S.pre;rw[_ak]at this;omega
 obtain⟨h1,tk,rfl,hk⟩:=x.done;have noA:∀b:Addr,b∉(z1h CX P w K mg base N qual scope f cd A outer s H E).ex:=λb z=>absurd (show b∈([]:List Addr) from z) (by simp);refine⟨⟨e0.mod,S.kind,rfl,rfl,_d _,λy z c h1 h2=>?_,λy hy=>?_,λy c _ h=>?_,λh=>Option.isNone_iff_eq_none.mp h,Around.frames_deeper e0.frames,.inr ⟨rfl,rfl⟩,λb z=>absurd z (noA b),e0.bs,e0.bsz,λb _ _=>noA b,λb z=>absurd z (noA b),e0.funs,e0.frf⟩, rfl,e0.bare,Un.kept hk,⟨_,x.toInCall.ns,λi y v h1 h2 h3=>?_⟩,λy c h=>⟨_,x.cell y c h⟩,e0.hok.fresh (_d _),λy c h=>?_,λp hp=>absurd (show p∈([]:List (Addr×Obj)) from hp) (by simp),e0.hok.kept hk,?_⟩;·exact name_of_addr x.apart (_ab h1) (_ab h2)
 ·have hy:scope.names.lookup y=some .cell\/scope.names.lookup y=some .free:=hy;rcases hy with hy | hy;·exact z0w hy
  ·exact absurd rfl (S.nofree _ (_ab hy))
 ·exact _ap (x.above y c (_ab h))
 ·have hi:i<vs.length:=by
   unfold start at h2;by_cases hi:i<vs.length;·exact hi
   ·rw[_G (by simpa using hi)]at h2;rw[_be]at h2;split at h2<;>cases h2
  have ha:vs[i]? = some v:=by
   unfold start at h2;rw[_A (by simpa using hi),_ag]at h2;cases e:vs[i]? with
   | none=>rw[e]at h2;cases h2 | some a=>rw[e]at h2;cases h2;rfl
  obtain⟨u,hu,rv⟩:=r.get ha;have hp:ps[i]? = some y:=by rw[<- S.pre,_aM (by omega)];exact h1
  have ndP:ps.Nodup:=by rw[<- S.pre];exact S.nd.sublist (List.take_sublist _ _)
  refine⟨u,rv,?_⟩;rcases S.par y (_f hp) with k | k;·exact .inl ⟨k,z3Q ndP hp hu k⟩
  ·obtain⟨c,e⟩:=z0w (n:=s.heap.objs.size+1) k;refine .inr ⟨.inl k,c,e,?_⟩;have q:=x.cell y c e;rw[z4N ndP hp hu (by show scope.names.lookup y≠_;rw[k];decide)]at q;exact q
 ·exact e0.hok.fresh (_ap (x.above y c (_ab h)))
 ·unfold start;show _=N.length;rw[_y,_x,_bw];omega
theorem zde {CX:CXT} {P:Program} {w:World} {K:W.Frag} {mg:Str->Option Value} {base:Heap} {k:Nat} {f:Addr} {name qual:Str} {params:Arguments} {body:List Stmt} {scope:Scope} {dV kV doc pm cdv ct oc:Value} {an od:Option Addr} {osl:Array (Option Value)} {N ps:List Str} {sp:Sp} (lk:K.lookup f=some ⟨oc,od,.func (W.fnOf name qual params body scope dV kV doc pm an cdv ct),osl⟩) (hcd:W.codeIn K cdv qual=true) (S:zG N ps scope) (len:∀vs H Q E,sp vs H Q E->vs.length=ps.length) (hbody:∀(A:Around) (outer:List Env) (s:Shared) (H:Hp) (vs:List V) (Q:VK) (E:XK),z0m k (A.deeper (envOfC qual scope s.heap.objs.size f cdv))->sp vs H Q E-> ∃t,PSs (z1h CX P w K mg base N qual scope f cdv A outer s H E) body t/\t {nx:=λ_ H'=>Q .non H',rt:=Q} (start N vs) H): z3C P w K mg base CX (k+1) f (W.fnOf name qual params body scope dV kV doc pm an cdv ct) ps sp:=by
 refine⟨len,λA outer s H args us vs Q E hr e0 hb r hsp=>?_⟩;have hl:=len _ _ _ _ hsp;have KX:K.In s.heap:=e0.mod.kin.keeps λb o e=>(e0.bs b o e).1;have lim:s.heap.NoLimit:=e0.mod.nolimit.keeps λb o e=>(e0.bs b o e).1;have hkind:∀y∈ps.zip us,scope.names.lookup y.1=some .local\/(scope.names.lookup y.1=some .cell/\((cellsFrom (s.heap.objs.size+1) scope.names []).lookup y.1).isSome=true):=λ⟨n,v⟩ hy=>by
  rcases S.par n (_bq hy).1 with q | q;·exact .inl q
  ·exact .inr ⟨q,_cX _ _ _ (.inl q)⟩
 refine codeAny_call_function hr.depth (KX _ _ lk) rfl S.co S.gen rfl (W.codeRec_of KX hcd) (hb _ _ _ _ ?_);refine wpAny_newFunctionEnv_cells S.kind hkind λenv he s1 x=>?_;subst he;refine⟨lim.keeps x.toInCall.keep,codeAny_func ?_⟩;obtain⟨t,ht,hq⟩:=hbody A outer s H vs Q E (hr.deeper _) hsp;have I:Inv (z1h CX P w K mg base N qual scope f cdv A outer s H E) [] (start N vs) H s1:=z47 S e0 hl r x;refine _t (ht [] s1 (start N vs) H _ I hq) (λfl s' hs=>?_) λe s' hs=>hs;have fin:∀{O':St} {H':Hp} {v:V} {u:Value},Inv (z1h CX P w K mg base N qual scope f cdv A outer s H E) [] O' H' s'->xc v u->Q v H'->CE outer P w H s Q u s':= λ{O' H' v u} J rv q=>⟨v,H',J.os,J.bare,J.base,J.hok,rv,q⟩;cases fl with
 | ret u=>
  obtain⟨v,O',H',J,rv,q⟩:=hs;exact fin J rv q | next=>
  obtain⟨O',H',J,q⟩:=hs;exact fin (v:=V.non) (u:=Value.none) J rfl q | brk=>
  obtain⟨_,_,_,q⟩:=hs;exact False.elim q | cont=>
  obtain⟨_,_,_,q⟩:=hs;exact False.elim q
section
variable {X:Cx}{x:Str}{p pos:Pos}{e:Expr}{es:List Expr}{t:TA}{id T:String}{r:List V->Hp->VK->Prop}
def tCB(r:List V->Hp->VK->Prop)(t:TA):TE:=λO H Q=>t O H λvs H1=>r vs H1 Q
theorem z0F (hc:xH X (.builtin id) r) (hg:Gl X x) (hm:X.mg x=none) (hv:bootBuiltins x=some (.builtin id)) (ha:PA X (e::es) t) (hn:x≠"__name__":=by decide) (hdb:(x==("__debug__":Str))=false:=by decide) (he:starEach (e::es) X.env=(false,eval e X.env)::starEach es X.env:=by rfl) (hpl:(backTo pos (starEach es X.env)).any (·.1)=false:=by rfl):PE X (.Call (.Name x p) (e::es) [] pos) (tCB r t):=by
 intro pins s O H Q I h;refine _a1 (z1E I hg hm hv ?_ hn hdb);exact PyProof.Rows.callWith_builtin1 (thn (ha pos pins s O H _ I h) λus s1 ⟨vs,H1,I1,r1,q1⟩=>hc pins s1 O H1 vs us Q I1 r1 q1) he hpl
theorem z8z (hc:xH X (.type T) r) (hg:Gl X x) (hm:X.mg x=none) (hv:bootBuiltins x=some (.type T)) (ha:PA X (e::es) t) (hn:x≠"__name__":=by decide) (hdb:(x==("__debug__":Str))=false:=by decide) (he:starEach (e::es) X.env=(false,eval e X.env)::starEach es X.env:=by rfl) (hpl:(backTo pos (starEach es X.env)).any (·.1)=false:=by rfl):PE X (.Call (.Name x p) (e::es) [] pos) (tCB r t):=by
 intro pins s O H Q I h;refine _a1 (z1E I hg hm hv ?_ hn hdb);exact _aT (thn (ha pos pins s O H _ I h) λus s1 ⟨vs,H1,I1,r1,q1⟩=>hc pins s1 O H1 vs us Q I1 r1 q1) he hpl
end
end L2
namespace HT
noncomputable def lexLt:List Int->List Int->Bool
 | [],[]=>false | [],_::_=>true | _::_,[]=>false | x::xs,y::ys=>if x=y then lexLt xs ys else decide (x<y)
theorem z6M (x y:Int) (xs ys:List Int):lexLt (x::xs) (y::ys)=if x=y then lexLt xs ys else decide (x<y):=rfl
theorem z2W:lexLt [] []=false:=rfl
theorem z22 (y:Int) (ys:List Int):lexLt [] (y::ys)=true:=rfl
theorem z29(x:Int)(xs:List Int):lexLt (x::xs) []=false:=rfl
theorem z9D(A:Around)(s:Shared)(a:Int)(t:Tok)(c:Int)(u:Tok):∃e,SeqAt.EqAt A s (.int a t) (.int c u) e/\(e=true ↔ a=c):= ⟨(a==c),SeqAt.EqAt.int_int a t c u,by simp⟩
theorem z90(A:Around)(s:Shared)(a:Int)(t:Tok)(c:Int)(u:Tok)(prog:Program)(w:World)(E:Value->Shared->Prop)(Q:Value->Shared->Prop)(h:Q (.bool (decide (a<c))) s): wpAny (model prog w) A (richCompare .Lt (.int a t) (.int c u)) Q E s:= (PyProof.Rows.lt_int h:wpAny (model prog w) A (compareOp .Lt (.int a t) (.int c u)) Q E s)
section
open PySem.SeqAt
open PySem.AutoSeq1 (wpAny_loadPart')
open PySem.MeetsSeq PySem.MeetsSeq2 PySem.MeetsSeq3
theorem z3l(l b:Addr)(items items2:Array Value)(n n2:Nat)(dd dd2:Option Addr)(sl sl2:Array (Option Value))(ns ms:List Int)(hi:IntsAre items.toList ns)(hj:IntsAre items2.toList ms): Meets (Builtin.«tuple.__lt__» ⟨[.ref l,.ref b],[]⟩) (λ_ R s=>s.heap.get? l=some {cls:=.type "tuple",dict:=dd,data:=.seq items n,slots:=sl}/\s.heap.get? b=some {cls:=.type "tuple",dict:=dd2,data:=.seq items2 n2,slots:=sl2}/\ R (.ok (.ret (.bool (lexLt ns ms)))) s):= .of_wp λprog w A R s h=>by
  obtain⟨hp,g,d,tk,os⟩:=s;obtain⟨hl,hb,h⟩:=h;have f2:=AutoSeq1.sub_tuple_tuple;have z1:items.size=ns.length:=by rw[<- hi.length];simp
  have z2:items2.size=ms.length:=by rw[<- hj.length];simp
  wp_walk using _aG hl,_aG hb,wpAny_forIn_list _ (λz3B b s'=>b.1=none/\s'=⟨hp,g,d,tk,os⟩/\∃(vs ws:List Value)(ns' ms':List Int),z3B=vs.zip ws/\ IntsAre vs ns'/\IntsAre ws ms'/\ns'.length+items2.size=ms'.length+items.size/\R (.ok (.ret (.bool (lexLt ns' ms')))) ⟨hp,g,d,tk,os⟩) _;case turn=>
   rintro⟨y,x⟩ z3B b s' ⟨hb',rfl,vs,ws,ns',ms',hz,hvi,hwi,hlen,hR⟩;cases hvi with
   | nil=>rw[List.zip_nil_left]at hz;cases hz | cons a t hvi'=> cases hwi with
    | nil=>rw[List.zip_nil_right]at hz;cases hz | cons c u hwi'=>
     rw[_bS]at hz;injection hz with hyx hrest;injection hyx with hy hx;subst hy hx;rw[z6M]at hR;simp only[_c]at hlen;obtain⟨e,he,hiff⟩:=z9D A.in1 ⟨hp,g,d,tk,os⟩ a t c u;refine _a (he prog w _ _ ?_);cases e with
     | true=>
      rw[_g (hiff.mp rfl)]at hR;wp_walk;exact⟨rfl,rfl,_,_,_,_,hrest,hvi',hwi',by omega,hR⟩ | false=>
      rw[_l (λq=>absurd (hiff.mpr q) _ax)]at hR;have hri:=z90 A.in1 ⟨hp,g,d,tk,os⟩ a t c u prog w;wp_walk using hri;exact⟨_,rfl,by simpa using hR⟩
  case fin=>
   rintro⟨b1,b2⟩ s' ⟨hb',rfl,vs,ws,ns',ms',hz,hvi,hwi,hlen,hR⟩;simp only at hb';subst hb';have hv:lexLt ns' ms'=decide (items.size<items2.size):=by cases hvi with
    | nil=> cases hwi with
     | nil=>
      simp only[_i]at hlen;rw[z2W];exact (_N (by omega)).symm | cons c u hw=>
      simp only[_i,_c]at hlen;rw[z22];exact (_aO (by omega)).symm
    | cons a t hv=> cases hwi with
     | nil=>
      simp only[_i,_c]at hlen;rw[z29];exact (_N (by omega)).symm | cons c u hw=>
      rw[_bS]at hz;cases hz
   rw[hv]at hR;wp_walk;exact⟨_,rfl,by simpa[Builtin.Tuple.tupleCompareSizes] using hR⟩
  case h=> exact⟨rfl,rfl,items.toList,items2.toList,ns,ms,rfl,hi,hj,by omega,h⟩
end
section
variable {prog:Program}{w:World}{A:Around}{E:Value->Shared->Prop}{s:Shared}
theorem z70{l b:Addr}{items items2:Array Value}{ns ms:List Int}{Q:Value->Shared->Prop}(hl:IsTup s.heap l items)(hb:IsTup s.heap b items2)(hi:IntsAre items.toList ns)(hj:IntsAre items2.toList ms) (hu:A.units<cLine)(h:Q (.bool (lexLt ns ms)) s):wpAny (model prog w) A (compareOp .Lt (.ref l) (.ref b)) Q E s:=by
 obtain⟨⟨cls,dd,data,sl⟩,ho,hc,n,hd⟩:=id hl;obtain⟨⟨cls2,dd2,data2,sl2⟩,ho2,hc2,n2,hd2⟩:=id hb;simp only at hc hd hc2 hd2;subst hc hd hc2 hd2;exact richCompare_meets_room (op:=.Lt) ⟨_,ho,rfl⟩ ⟨_,ho2,rfl⟩ PySem.F.slot_tuple_lt PySem.F.entry_tuple_lt (PySem.F.args_tuple_lt_2 _ _) (z3l l b items items2 n n2 dd dd2 sl sl2 ns ms hi hj) ⟨ho,ho2,show Value.bool (lexLt ns ms)≠Value.notImplemented/\Q (.bool (lexLt ns ms)) s from⟨(λx=>nomatch x),h⟩⟩ hu
theorem zcr {t b:Addr} {vs ws:List Value} {Q:Value->Shared->Prop} (ht:IsTup s.heap t vs.toArray) (hb:IsTup s.heap b ws.toArray) (hv:vs≠[]) (h1:ws=[]->Q (.ref t) s) (h2:ws≠[]->Q (.ref s.heap.objs.size) {s with heap:=s.heap.push {cls:=.type "tuple",data:=.seq (vs++ws).toArray}}) (hsz:vs.length+ws.length<=sizeLine):wpAny (model prog w) A (binaryOp .Add (.ref t) (.ref b)) Q E s:=by
 obtain⟨⟨cls,dd,data,sl⟩,ho,hc,n,hd⟩:=id ht;obtain⟨⟨cls2,dd2,data2,sl2⟩,ho2,hc2,n2,hd2⟩:=id hb;simp only at hc hd hc2 hd2;subst hc hd hc2 hd2;have e:vs.toArray++ws.toArray=(vs++ws).toArray:=by simp
 by_cases hw:ws=[]
 ·exact concat_meets ⟨_,ho,rfl⟩ ⟨_,ho2,rfl⟩ _cY seq_tuple_add _bZ _bW (_bJ _ _) (tuple_addW1 t b vs.toArray ws.toArray n n2 dd dd2 sl sl2 (by simpa using hv) (by simp[hw])) ⟨ho,ho2,h1 hw⟩
 ·refine concat_meets ⟨_,ho,rfl⟩ ⟨_,ho2,rfl⟩ _cY seq_tuple_add _bZ _bW (_bJ _ _) (tuple_addW2 t b vs.toArray ws.toArray n n2 dd dd2 sl sl2 (by simpa using hv) (by simpa using hw) (by rw[_k,_k];exact hsz)) ⟨ho,ho2,?_⟩;rw[e];exact h2 hw
noncomputable def sIx(n d:Nat):Option Int->Nat
 | none=>d | some v=>if v<0 then (v+(n:Int)).toNat else min v.toNat n
theorem z5V(n d:Nat):sIx n d none=d:=rfl
theorem z80(n d k:Nat):sIx n d (some (k:Int))=min k n:=by
 show (if (k:Int)<0 then ((k:Int)+(n:Int)).toNat else min (k:Int).toNat n)=min k n;rw[_l (by omega),_b0]
theorem ze1(n d:Nat)(hd:d<=n)(o:Option Int):sIx n d o<=n:=by cases o with
 | none=>exact hd | some v=>
  show (if v<0 then (v+(n:Int)).toNat else min v.toNat n)<=n;by_cases hv:v<0;·rw[_g hv];omega
  ·rw[_l hv];exact Nat.min_le_right _ _
theorem z7r(v:Int)(n d:Nat):(if v<0 then max (v+(n:Int)) 0 else min v (n:Int))=((sIx n d (some v):Nat):Int):=by
 show (if v<0 then max (v+(n:Int)) 0 else min v (n:Int))=(((if v<0 then (v+(n:Int)).toNat else min v.toNat n):Nat):Int);by_cases hv:v<0;·simp only[_g hv];omega
 ·simp only[_l hv];omega
theorem z6B(lo hi:Option Int)(n:Nat):Builtin.Slice.sliceAdjust lo hi 1 (n:Int)=(((sIx n 0 lo:Nat):Int),(sIx n n hi:Int)):=by
 have h1:¬ ((1:Int)<0):=by omega
 unfold Builtin.Slice.sliceAdjust;simp only[h1,_an];refine Prod.ext ?_ ?_;·cases lo with
  | none=>rfl | some v=>exact z7r v n 0
 ·cases hi with
  | none=>rfl | some v=>exact z7r v n n
theorem z6X (i j:Nat):Builtin.Slice.slicePlaces (i:Int) (j:Int) 1=j-i:=by
 unfold Builtin.Slice.slicePlaces;have h1:(1:Int) > 0:=by omega
 simp only[h1,_C,Int.ediv_one];split<;>omega
theorem z2x{v:Value}{o:Option Int}{Q:Option Int->Shared->Prop}(p:IsPart v o)(h:Q o s):wpAny (model prog w) A (Builtin.Slice.slicePartIndex v) Q E s:=by cases p with
 | none=>exact slicePart_none h | int i t=>exact slicePart_int h
theorem qg{sl:Addr}{vl vu:Value}{lo hi:Option Int}{n:Nat}{Q:Int×Int×Nat->Shared->Prop}(hs:s.heap.IsSliceOf sl vl vu .none)(pl:IsPart vl lo)(pu:IsPart vu hi) (h:Q (((sIx n 0 lo:Nat):Int),1,sIx n n hi-sIx n 0 lo) s):wpAny (model prog w) A (Builtin.Slice.sliceApplied (.ref sl) (pure (n:Int))) Q E s:=by
 obtain⟨os,hos,hcs,hds⟩:=id hs;unfold Builtin.Slice.sliceApplied Builtin.Slice.sliceFields;refine _a (_a (_ar hos hds (x:=vl) rfl (_a (_ar hos hds (x:=vu) rfl (_a (_ar hos hds (x:=.none) rfl (_j ?_)))))));refine _a (slicePart_none ?_);show wpAny _ _ (if ((1:Int)==0)=true then _ else _) _ _ s;rw[_l (by decide)];refine _a (z2x pl (_a (z2x pu (_a (_j ?_)))));show wpAny _ _ (match Builtin.Slice.sliceAdjust lo hi 1 (n:Int) with | (lo,hi)=>pure (lo,(1:Int),Builtin.Slice.slicePlaces lo hi 1)) _ _ s;rw[z6B lo hi n];show wpAny _ _ (pure (((sIx n 0 lo:Nat):Int),(1:Int),Builtin.Slice.slicePlaces ((sIx n 0 lo:Nat):Int) (sIx n n hi:Int) 1)) _ _ s;rw[z6X];exact _j h
theorem z9T(xs:Array Value)(i k:Nat):((List.range k).filterMap λ(m:Nat)=>xs[((i:Int)+(m:Int)*1).toNat]?).toArray=((xs.toList.drop i).take k).toArray:=by
 have e:(λ(m:Nat)=>xs[((i:Int)+(m:Int)*1).toNat]?)=λm=>xs[i+m]? := by
  funext m;have:((i:Int)+(m:Int)*1).toNat=i+m:=by omega
  rw[this]
 rw[e];have:=pick_run xs i k;rw[List.filterMap_map]at this;have e2:((λx=>xs[x]?) ∘ λx=>i+x)=λm=>xs[i+m]? := rfl;rw[e2]at this;rw[this]
theorem kH {t sl:Addr} {items:Array Value} {vl vu:Value} {lo hi:Option Int} {Q:Value->Shared->Prop} (ht:IsTup s.heap t items) (hs:s.heap.IsSliceOf sl vl vu .none) (pl:IsPart vl lo) (pu:IsPart vu hi) (hw:¬ (sIx items.size 0 lo=0/\sIx items.size items.size hi=items.size)) (h:Q (.ref s.heap.objs.size) {s with heap:=s.heap.push {cls:=.type "tuple",data:=.seq ((items.toList.drop (sIx items.size 0 lo)).take (sIx items.size items.size hi-sIx items.size 0 lo)).toArray}}) (hsz:items.size<=sizeLine):wpAny (model prog w) A (getItem (.ref t) (.ref sl)) Q E s:=by
 have htake:sizeOk (.seq ((items.toList.drop (sIx items.size 0 lo)).take (sIx items.size items.size hi-sIx items.size 0 lo)).toArray):=by
  show ((items.toList.drop (sIx items.size 0 lo)).take (sIx items.size items.size hi-sIx items.size 0 lo)).toArray.size<=sizeLine;rw[_k,_ak,_bf,_V];omega
 have hj:sIx items.size items.size hi<=items.size:=ze1 _ _ (_d _) hi;obtain⟨os,hos,hcs,hds⟩:=id hs;have hTs:s.TypeIs (.ref sl) "slice":=⟨os,hos,hcs⟩;unfold getItem;try with_reducible refine _aY ?_
 first | refine _a (_j ?_) | skip
 refine _a (wpAny_sequenceKey ht.typeIs (by decide) ?_);refine _a (_az (name:=Str.ofString "__getitem__") ht.typeIs _aa (_aZ _aa ht.typeIs entry_tuple_getitem ?_ (args_tuple_getitem _ _)));show wpAny _ _ (Builtin.Tuple.tupleItemsOf (.ref t) >>= _) _ _ s;refine _a (tupleItemsOf_ ht ?_);refine _a (_da hTs ?_);rw[_g (by decide)];refine _a (qg hs pl pu ?_);have hno:¬ ((((sIx items.size 0 lo:Nat):Int)==0&&(1:Int)==1&&(sIx items.size items.size hi-sIx items.size 0 lo)==items.size)=true):=by
  intro q;rw[_u,_u]at q;have q1:((sIx items.size 0 lo:Nat):Int)=0:=eq_of_beq q.1.1;have q2:sIx items.size items.size hi-sIx items.size 0 lo=items.size:=eq_of_beq q.2;exact hw ⟨by omega,by omega⟩
 show wpAny _ _ (if (((sIx items.size 0 lo:Nat):Int)==0&&(1:Int)==1&&(sIx items.size items.size hi-sIx items.size 0 lo)==items.size)=true then _ else _) _ _ s;rw[_l hno,z9T];first
  | exact _a (m:=Builtin.Tuple.tupleExact _) (_am (_j ⟨_,rfl,_j h⟩) htake) | exact _a (m:=Builtin.Tuple.tupleExact _) (_am (_a (_j (_j ⟨_,rfl,_j h⟩))) htake) | exact _a (_a (m:=Builtin.Tuple.tupleExact _) (_am (_j (_j ⟨_,rfl,_j h⟩)) htake)) | exact _a (_a (m:=Builtin.Tuple.tupleExact _) (_am (_j ⟨_,rfl,_j h⟩) htake))
end
end HT
namespace L2
abbrev TO:=St->Hp->(Option Int->Hp->Prop)->Prop
def PO(X:Cx)(e:Option Expr)(t:TO):Prop:= ∀(pins:List (Addr×Obj))(s:Shared)(O:St)(H:Hp)(Q:Option Int->Hp->Prop),Inv X pins O H s->t O H Q-> wpAny (model X.prog X.w) X.A (evalPart e X.env) (λu s'=>∃o H',Inv X pins O H' s'/\IsPart u o/\Q o H') X.xe s
def zcJ:TO:=λ_ H Q=>Q none H
def zfF(t:TE):TO:=λO H Q=>t O H λx H1=>∃i,x=.int i/\Q (some i) H1
theorem intsAre_of{ns:List Int}:∀{us:List Value},yC (ns.map V.int) us->IntsAre us ns:=by induction ns with
 | nil=>intro us r;rw[List.map_nil]at r;cases r;exact .nil | cons n ns ih=>
  intro us r;rw[_U]at r;cases r with | cons r1 r2=>
   obtain⟨t,e⟩:=r1;subst e;exact .cons n t (ih r2)
section
variable {X:Cx}{e:Expr}{te:TE}{lo hi:Option Expr}{tl th:TO}{pos p2:Pos}
theorem zbW:PO X none zcJ:=by
 intro pins s O H Q I h;rw[evalPart_none];exact _j ⟨none,H,I,.none,h⟩
theorem zcq(h:PE X e te):PO X (some e) (zfF te):=by
 intro pins s O H Q I hw;rw[evalPart_some];refine thn (h pins s O H _ I hw) λu s1 ⟨x,H1,I1,r1,q1⟩=>?_;obtain⟨i,rfl,q⟩:=q1;obtain⟨t,rfl⟩:=r1;exact⟨some i,H1,I1,.int i t,q⟩
def SlR(X:Cx)(r:V->Option Int->Option Int->Hp->VK->Prop):Prop:= ∀(pins:List (Addr×Obj))(s:Shared)(O:St)(H:Hp)(x:V)(v vl vu:Value)(lo hi:Option Int)(sl:Addr)(Q:VK),Inv X pins O H s->xc x v->s.heap.IsSliceOf sl vl vu .none->IsPart vl lo->IsPart vu hi->r x lo hi H Q-> ∃T id,typeLookup (.type T) "__getitem__"=pure (some (.builtin id))/\s.TypeIs v T/\wpAny (model X.prog X.w) X.A (getItem v (.ref sl)) (EP X pins O Q) X.xe s
theorem SlR.or{r r':V->Option Int->Option Int->Hp->VK->Prop}(h:SlR X r)(h':SlR X r'):SlR X (λx lo hi H Q=>r x lo hi H Q\/r' x lo hi H Q):=by
 intro pins s O H x v vl vu lo hi sl Q I rx hs pl pu q;rcases q with q | q;·exact h pins s O H x v vl vu lo hi sl Q I rx hs pl pu q
 ·exact h' pins s O H x v vl vu lo hi sl Q I rx hs pl pu q
def tSl(r:V->Option Int->Option Int->Hp->VK->Prop)(te:TE)(tl th:TO):TE:=λO H Q=>te O H λx H1=>tl O H1 λl H2=>th O H2 λu H3=>r x l u H3 Q
theorem z9E{r:V->Option Int->Option Int->Hp->VK->Prop}(hr:SlR X r)(he:PE X e te)(hl:PO X lo tl)(hu:PO X hi th):PE X (.Subscript e (.Slice lo hi none p2) pos) (tSl r te tl th):=by
 intro pins s O H Q I h;refine Subscript_ (thn (he pins s O H _ I h) λv s1 ⟨x,H1,I1,r1,q1⟩=>?_);refine wpAny_Slice (thn (hl pins s1 O H1 _ I1 q1) λvl s2 ⟨l,H2,I2,pl,q2⟩=>thn (hu pins s2 O H2 _ I2 q2) λvu s3 ⟨u,H3,I3,pu,q3⟩=>?_);rw[evalPart_none];refine _j ?_;have I4:Inv X pins O H3 {s3 with heap:=s3.heap.push {cls:=.type "slice",data:=.fields #[vl,vu,.none]}}:=I3.kept (t':=s3.toks) λb ob q=>_e _ q;obtain⟨T,id,hT,ht,hg⟩:=hr pins {s3 with heap:=s3.heap.push {cls:=.type "slice",data:=.fields #[vl,vu,.none]}} O H3 x v vl vu l u s3.heap.objs.size Q I4 r1 (Heap.IsSliceOf.new ..) pl pu q3;show wpAny (model X.prog X.w) X.A (subscriptTail e (.Slice lo hi none p2) v (.ref s3.heap.objs.size)) (EP X pins O Q) X.xe {s3 with heap:=s3.heap.push {cls:=.type "slice",data:=.fields #[vl,vu,.none]}};exact tail_any (ops:=[.ref s3.heap.objs.size,v]) ht hT hg (by with_unfolding_all rfl)
noncomputable def zaN(xs:List V)(lo hi:Option Int):List V:=(xs.drop (HT.sIx xs.length 0 lo)).take (HT.sIx xs.length xs.length hi-HT.sIx xs.length 0 lo)
theorem z0Q(xs:List V)(lo hi:Option Int):(zaN xs lo hi).length<=xs.length:=by
 unfold zaN;rw[_ak,_bf];omega
def zhO(K:W.Frag):V->Option Int->Option Int->Hp->VK->Prop:=λx lo hi H Q=>∃a xs,x=.ref a/\SqT K H a xs/\ ¬ (HT.sIx xs.length 0 lo=0/\HT.sIx xs.length xs.length hi=xs.length)/\∀p,H p=none->Q (.ref p) (upd H p (.tup (zaN xs lo hi)))
theorem zdT:SlR X (zhO X.K):=by
 intro pins s O H x v vl vu lo hi sl Q I rx hs pl pu h;obtain⟨a,xs,rfl,hx,hw,q⟩:=h;cases rx;obtain⟨its,r,ht,hz⟩:=I.tuple hx;have hlen:its.toArray.size=xs.length:=by rw[_k];exact r.length.symm
 refine⟨"tuple",_,_aa.lookup,ht.typeIs,?_⟩;refine HT.kH ht hs pl pu (by rw[hlen];exact hw) ?_ (by rw[hlen];exact hz);rw[hlen];refine⟨.ref s.heap.objs.size,_,I.laid (t':=s.toks) (o:=.tup (zaN xs lo hi)) (λb ob q=>_e _ q) (_d _) ?_,rfl,q _ (I.hok.fresh (_d _))⟩;exact⟨_O (z0Q xs lo hi) hz,_,(r.drop (HT.sIx xs.length 0 lo)).take (HT.sIx xs.length xs.length hi-HT.sIx xs.length 0 lo),z7k.new _ _⟩
def zhG(K:W.Frag):R2:=λx y H Q=>∃a b ns ms,x=.ref a/\y=.ref b/\SqT K H a (ns.map V.int)/\SqT K H b (ms.map V.int)/\Q (.bl (HT.lexLt ns ms)) H
theorem zen(hu:X.A.units<cLine):OpR X (compareOp .Lt) (zhG X.K):=by
 intro pins s O H x y v u Q I rx ry h;obtain⟨a,b,ns,ms,rfl,rfl,ha,hb,q⟩:=h;cases rx;cases ry;obtain⟨its,r1,p1,_⟩:=I.tuple ha;obtain⟨its2,r2,p2,_⟩:=I.tuple hb;have i1:IntsAre its.toArray.toList ns:=intsAre_of r1;have i2:IntsAre its2.toArray.toList ms:=intsAre_of r2;exact HT.z70 p1 p2 i1 i2 hu ⟨.bl (HT.lexLt ns ms),H,I,rfl,q⟩
def zfH(K:W.Frag):R2:=λx y H Q=>∃a b xs ys,x=.ref a/\y=.ref b/\SqT K H a xs/\SqT K H b ys/\xs≠[]/\xs.length+ys.length<=sizeLine/\ (ys=[]->Q (.ref a) H)/\(ys≠[]->∀p,H p=none->Q (.ref p) (upd H p (.tup (xs++ys))))
theorem yC.nil_iff{xs:List V}{us:List Value}(r:yC xs us):us=[] ↔ xs=[]:=by cases r with
 | nil=>simp | cons _ _=>simp
theorem zbQ:OpR X (binaryOp .Add) (zfH X.K):=by
 intro pins s O H x y v u Q I rx ry h;obtain⟨a,b,xs,ys,rfl,rfl,ha,hb,hx,hz,q1,q2⟩:=h;cases rx;cases ry;obtain⟨its,r1,p1,_⟩:=I.tuple ha;obtain⟨its2,r2,p2,_⟩:=I.tuple hb;refine HT.zcr p1 p2 (λz=>hx (r1.nil_iff.mp z)) (λz=>⟨.ref a,H,I,rfl,q1 (r2.nil_iff.mp z)⟩) (λz=>?_) (by rw[<- r1.length,<- r2.length];exact hz);refine⟨.ref s.heap.objs.size,_,I.laid (t':=s.toks) (o:=.tup (xs++ys)) (λb ob q=>_e _ q) (_d _) ?_,rfl,q2 (λw=>z (r2.nil_iff.mpr w)) _ (I.hok.fresh (_d _))⟩;exact⟨by rw[_y];exact hz,_,r1.append r2,z7k.new _ _⟩
end
noncomputable def ixN(n:Nat)(i:Int):Option Nat:=if 0<=i then (if i<n then some i.toNat else none) else if -(n:Int)<=i then some (i+n).toNat else none
noncomputable def atI{α:Type}(xs:List α)(i:Int):Option α:=(ixN xs.length i).bind λj=>xs[j]?
theorem z7L{n:Nat}{i:Int}{j:Nat}(h:ixN n i=some j):seqIndex? i n=some j/\j<n/\-(n:Int)<=i/\i<n:=by
 unfold ixN at h;by_cases h0:0<=i
 ·rw[_g h0]at h;by_cases h1:i<n
  ·rw[_g h1]at h;have e:i.toNat=j:=_z h;exact⟨by rw[seqIndex_of h0 h1,e],by omega,by omega,h1⟩
  ·rw[_l h1]at h;cases h
 ·rw[_l h0]at h;by_cases h1:-(n:Int)<=i
  ·rw[_g h1]at h;have e:(i+n).toNat=j:=_z h;exact⟨by rw[seqIndex_neg (by omega) h1,e],by omega,h1,by omega⟩
  ·rw[_l h1]at h;cases h
theorem z7x{α:Type}{xs:List α}{i:Int}{v:α}(h:atI xs i=some v):∃j,seqIndex? i xs.length=some j/\xs[j]? = some v/\j<xs.length/\-(xs.length:Int)<=i/\i<xs.length:=by
 unfold atI at h;cases e:ixN xs.length i with
 | none=>rw[e]at h;cases h | some j=>
  rw[e]at h;obtain⟨h1,h2,h3,h4⟩:=z7L e;exact⟨j,h1,h,h2,h3,h4⟩
def z8g(b:Expr):Prop:=∀o i,subscripted b false o i=operate [o,i] (getItem o i)
def IxR(X:Cx)(r:R2):Prop:= ∀(value slice:Expr)(pins:List (Addr×Obj))(s:Shared)(O:St)(H:Hp)(x y:V)(v u:Value)(Q:VK),Inv X pins O H s->xc x v->xc y u->r x y H Q-> subscripted slice false v u=operate [v,u] (getItem v u)->wpAny (model X.prog X.w) X.A (subscriptTail value slice v u) (EP X pins O Q) X.xe s
def MtR (X:Cx) (id:String) (r:V->List V->Hp->VK->Prop):Prop:= ∀(pins:List (Addr×Obj)) (s:Shared) (O:St) (H:Hp) (x:V) (xs:List V) (v:Value) (us:List Value) (Q:VK),Inv X pins O H s->xc x v->yC xs us->r x xs H Q-> wpAny (model X.prog X.w) X.A (call (.builtin id) (v::us)) (EP X pins O Q) X.xe s
section
variable {X:Cx}{a b:Expr}{ta tb:TE}{pos:Pos}
theorem IxR.or{r r':R2}(h:IxR X r)(h':IxR X r'):IxR X (λx y H Q=>r x y H Q\/r' x y H Q):=by
 intro value slice pins s O H x y v u Q I rx ry q hs;rcases q with q | q;·exact h value slice pins s O H x y v u Q I rx ry q hs
 ·exact h' value slice pins s O H x y v u Q I rx ry q hs
theorem zfS{r:R2}(hr:IxR X r)(ha:PE X a ta)(hb:PE X b tb)(hs:z8g b):PE X (.Subscript a b pos) (tOp r ta tb):=by
 intro pins s O H Q I h;exact Subscript_ (zgw ha hb I h λv u s2 x y H2 I2 rx ry q=>hr a b pins s2 O H2 x y v u Q I2 rx ry q (hs _ _))
def zhJ(K:W.Frag):R2:=λx y H Q=>∃p xs i v,x=.ref p/\y=.int i/\SqL K H p xs/\atI xs i=some v/\Q v H
def zhb(K:W.Frag):R2:=λx y H Q=>∃p xs i v,x=.ref p/\y=.int i/\SqT K H p xs/\atI xs i=some v/\Q v H
theorem zc0:IxR X (zhJ X.K):=by
 intro value slice pins s O H x y v u Q I rx ry h hs;obtain⟨p,xs,i,z,rfl,rfl,hq,he,q⟩:=h;cases rx;obtain⟨t,rfl⟩:=ry;obtain⟨its,r,pl,hz⟩:=I.list hq;obtain⟨j,h1,h2,h3,h4,h5⟩:=z7x he;obtain⟨w,ew,rw'⟩:=r.get h2;have hl:=r.length;have hn:=z40;have fin:EP X pins O Q w s:=⟨z,H,I,rw',q⟩;by_cases h0:0<=i
 ·have hj:i.toNat=j:=by
   rw[seqIndex_of h0 h5]at h1;exact _z h1
  exact item_listR pl.isList h0 (by omega) (by rw[hj];simpa using ew) fin hs
 ·have hj:(i+(its.toArray.size:Int)).toNat=j:=by
   rw[seqIndex_neg (by omega) h4]at h1;rw[_k,<- hl];exact _z h1
  exact subscriptTail_builtinR (x:=w) pl.isList.typeIs slot_list_getitem.lookup (wpAny_getItem_list_neg (Q:=λr s'=>r=w/\EP X pins O Q r s') pl.isList (by omega) (by rw[_k]<;>omega) (by omega) (by rw[hj];simpa using ew) ⟨rfl,fin⟩) hs
theorem zee:IxR X (zhb X.K):=by
 intro value slice pins s O H x y v u Q I rx ry h hs;obtain⟨p,xs,i,z,rfl,rfl,hq,he,q⟩:=h;cases rx;obtain⟨t,rfl⟩:=ry;obtain⟨its,r,pl,hz⟩:=I.tuple hq;obtain⟨j,h1,h2,h3,h4,h5⟩:=z7x he;obtain⟨w,ew,rw'⟩:=r.get h2;have hl:=r.length;have hn:=z40;have fin:EP X pins O Q w s:=⟨z,H,I,rw',q⟩;exact subscriptTail_builtinR (x:=w) pl.typeIs slot_tuple_getitem.lookup (getItem_tuple (j:=j) (Q:=λr s'=>r=w/\EP X pins O Q r s') pl (by omega) (by omega) (by rw[_k,<- hl];exact h1) (by simpa using ew) ⟨rfl,fin⟩) hs
theorem z6x (its:List Value) (n j:Nat) (u:Value):Obj.mapSeq (·.setIfInBounds j u) {cls:=.type "list",data:=.seq its.toArray n}={cls:=.type "list",data:=.seq (its.set j u).toArray n}:=by simp[Obj.mapSeq]
theorem Inv.lst{pins:List (Addr×Obj)}{O:St}{H:Hp}{s:Shared}{p:Addr}{xs:List V}(I:Inv X pins O H s)(h:H p=some (.lst xs)): ∃(its:List Value)(n:Nat),yC xs its/\s.heap.get? p=some {cls:=.type "list",data:=.seq its.toArray n}/\xs.length<=sizeLine:=by
 obtain⟨z,its,n,r,e⟩:=I.hok p _ h;exact⟨its,n,r,e,z⟩
theorem Inv.lstUpd {pins:List (Addr×Obj)} {O:St} {H:Hp} {s:Shared} {p:Addr} {xs ys:List V} {its its':List Value} {n n':Nat} {f:Obj->Obj} (I:Inv X pins O H s) (h:H p=some (.lst xs)) (ho:s.heap.get? p=some {cls:=.type "list",data:=.seq its.toArray n}) (hf:f {cls:=.type "list",data:=.seq its.toArray n}={cls:=.type "list",data:=.seq its'.toArray n'}) (r:yC ys its') (hz:ys.length<=sizeLine) (t:Nat): Inv X pins O (upd H p (.lst ys)) {s with heap:=s.heap.update p f,toks:=t}:=by
 have e:(s.heap.update p f).get? p=some {cls:=.type "list",data:=.seq its'.toArray n'}:=by rw[_b8 f ho (by rw[hf]<;>rfl),hf]
 refine I.write (x:=p) (e:=p) (by rw[h];trivial) (.inl rfl) (λb u hb q=>(_aU _ _ (_a8 hb)).trans q) ⟨_,e⟩ ?_;exact⟨hz,its',n',r,e⟩
def zfz:V->V->V->Hp->(Hp->Prop)->Prop:=λo i v H Q=>∃p xs k j,o=.ref p/\i=.int k/\H p=some (.lst xs)/\ixN xs.length k=some j/\Q (upd H p (.lst (xs.set j v)))
theorem set_list:zh0 X zfz:=by
 intro pins s O H o i v ov iv u Q I ro ri rv h;obtain⟨p,xs,k,j,rfl,rfl,hp,hj,q⟩:=h;cases ro;obtain⟨t,rfl⟩:=ri;obtain⟨its,n,r,ho,hz⟩:=I.lst hp;obtain⟨h1,h2,h3,h4⟩:=z7L hj;have hl:=r.length;have hn:=z40;have I':Inv X pins O (upd H p (.lst (xs.set j v))) {s with heap:=s.heap.update p (Obj.mapSeq (·.setIfInBounds j u))}:= I.lstUpd hp ho (z6x its n j u) (r.set rv j) (by rw[_cm];exact hz) s.toks;by_cases h0:0<=k
 ·have hk:k.toNat=j:=by
   rw[seqIndex_of h0 h4]at h1;exact _z h1
  exact W.ki_setAt ho h0 (by omega) (by rw[_k,<- hl];exact h4) (by rw[hk];exact⟨_,I',q⟩)
 ·have hk:(k+(its.toArray.size:Int)).toNat=j:=by
   rw[seqIndex_neg (by omega) h3]at h1;rw[_k,<- hl];exact _z h1
  exact W.ki_setBack ho (by omega) (by rw[_k,<- hl];exact h3) (by omega) (by rw[hk];exact⟨_,I',q⟩)
theorem z4m(lo hi:Option Int)(n:Nat):(sliceBounds lo hi none n).1=((HT.sIx n 0 lo:Nat):Int)/\(sliceBounds lo hi none n).2.1=(HT.sIx n n hi:Int)/\(sliceBounds lo hi none n).2.2=1:=by
 refine⟨?_,?_,rfl⟩;·cases lo with
  | none=>simp[sliceBounds,HT.sIx] | some i=>
   simp only[sliceBounds,HT.sIx,Option.getD_none,show (1:Int) > 0 by decide,_C];by_cases h:i<0;·simp only[h,_C]<;>omega
   ·simp only[h,_an]<;>omega
 ·cases hi with
  | none=>simp[sliceBounds,HT.sIx] | some i=>
   simp only[sliceBounds,HT.sIx,Option.getD_none,show (1:Int) > 0 by decide,_C];by_cases h:i<0;·simp only[h,_C]<;>omega
   ·simp only[h,_an]<;>omega
theorem z2Q(its:List Value)(lo hi:Option Int):slicePick its.toArray lo hi none=((its.drop (HT.sIx its.length 0 lo)).take (HT.sIx its.length its.length hi-HT.sIx its.length 0 lo)).toArray:=by
 obtain⟨h1,h2,h3⟩:=z4m lo hi its.toArray.size;unfold slicePick;rw[h1,h2,h3];simp only[sliceRange_one,pick_run,_k]<;>rfl
def zhv(K:W.Frag):V->Option Int->Option Int->Hp->VK->Prop:=λx lo hi H Q=>∃a xs,x=.ref a/\SqL K H a xs/\∀p,H p=none->Q (.ref p) (upd H p (.lst (zaN xs lo hi)))
theorem zbz:SlR X (zhv X.K):=by
 intro pins s O H x v vl vu lo hi sl Q I rx hs pl pu h;obtain⟨a,xs,rfl,hx,q⟩:=h;cases rx;obtain⟨its,r,ht,hz⟩:=I.list hx;have hlen:=r.length;refine⟨"list",_,slot_list_getitem.lookup,ht.isList.typeIs,?_⟩;refine wpAny_getItem_list_slice ht.isList hs pl pu .none (by simp) ?_ (by rw[_k]<;>omega);rw[z2Q,<- hlen];refine⟨.ref s.heap.objs.size,_,I.laid (t':=s.toks) (o:=.lst (zaN xs lo hi)) (λb ob q=>_e _ q) (_d _) ?_,rfl,q _ (I.hok.fresh (_d _))⟩;exact⟨_O (z0Q xs lo hi) hz,_,0,(r.drop (HT.sIx xs.length 0 lo)).take (HT.sIx xs.length xs.length hi-HT.sIx xs.length 0 lo),_v _ rfl⟩
noncomputable def zhM:V->Bool
 | .non=>true | .bl _=>true | .int _=>true | .str _=>true | _=>false
noncomputable def eqV:V->V->Bool
 | .non,.non=>true | .bl a,.bl b=>a==b | .bl a,.int b=>(if a then 1 else 0)==b | .int a,.bl b=>a==(if b then 1 else 0) | .int a,.int b=>a==b | .str a,.str b=>a==b | _,_=>false
noncomputable def inV(x:V)(xs:List V):Bool:=xs.any λy=>eqV y x
theorem z3W:xH X (.builtin "len") (λxs H Q=>∃p ys,xs=[.ref p]/\(SqL X.K H p ys\/SqT X.K H p ys)/\Q (.int ys.length) H):=by
 intro pins s O H xs us Q I r h;obtain⟨p,ys,rfl,hq,q⟩:=h;obtain⟨u,rfl,rx⟩:=vals1 r;cases rx;have hn:=z40;rcases hq with hq | hq
 ·obtain⟨its,r',pl,hz⟩:=I.list hq;have hlen:=r'.length;exact Calls.call_len_list pl.isList (by simp only[_k]<;>omega) ⟨.int ys.length,H,I.tok _,⟨s.toks+1,by rw[_k,hlen]⟩,q⟩
 ·obtain⟨its,r',pl,hz⟩:=I.tuple hq;have hlen:=r'.length;exact len_tuple pl (by simp only[_k]<;>omega) ⟨.int ys.length,H,I.tok _,⟨s.toks+1,by rw[_k,hlen]⟩,q⟩
theorem z4Q:xH X (.type "list") (λxs H Q=>∃p ys,xs=[.ref p]/\(SqL X.K H p ys\/SqT X.K H p ys)/\∀l,H l=none->Q (.ref l) (upd H l (.lst ys))):=by
 intro pins s O H xs us Q I r h;obtain⟨p,ys,rfl,hq,q⟩:=h;obtain⟨u,rfl,rx⟩:=vals1 r;cases rx;have fin:∀(its:List Value),yC ys its->ys.length<=sizeLine->∀(h':Heap) (c':Nat),(∀b o',s.heap.get? b=some o'->h'.get? b=some o')-> h'.get? s.heap.objs.size=some {cls:=.type "list",dict:=none,data:=.seq its.toArray c',slots:=#[]}->EP X pins O Q (.ref s.heap.objs.size) {s with heap:=h'}:=λits r' hz h' c' kp e=> ⟨.ref s.heap.objs.size,_,I.laid (t':=s.toks) kp (_d _) (show xf X.prog X.w _ h' _ (.lst ys) from⟨hz,its,c',r',e⟩),rfl,q _ (I.hok.fresh (_d _))⟩;rcases hq with hq | hq
 ·obtain⟨its,r',pl,hz⟩:=I.list hq;have hlen:=r'.length;obtain⟨o,ho,hc,n,hd⟩:=pl.isList;exact call_list_seq p (.inl rfl) ho hc hd (λh' c' kp e=>fin its r' hz h' c' kp e) (by simp only[_k]<;>omega)
 ·obtain⟨its,r',pl,hz⟩:=I.tuple hq;have hlen:=r'.length;obtain⟨o,ho,hc,n,hd⟩:=pl;exact call_list_seq p (.inr rfl) ho hc hd (λh' c' kp e=>fin its r' hz h' c' kp e) (by simp only[_k]<;>omega)
theorem z3n:xH X (.type "tuple") (λxs H Q=>∃p ys,xs=[.ref p]/\((SqL X.K H p ys/\∀l,H l=none->Q (.ref l) (upd H l (.tup ys)))\/(SqT X.K H p ys/\Q (.ref p) H))):=by
 intro pins s O H xs us Q I r h;obtain⟨p,ys,rfl,h⟩:=h;obtain⟨u,rfl,rx⟩:=vals1 r;cases rx;rcases h with⟨hq,q⟩ | ⟨hq,q⟩
 ·obtain⟨its,r',pl,hz⟩:=I.list hq;have hlen:=r'.length;refine call_tuple_list pl.isList (λh' kp=>?_) (by simp only[_k]<;>omega);have I1:Inv X pins O H {s with heap:=h'}:=I.kept (t':=s.toks) kp;have I2:Inv X pins O (upd H h'.objs.size (.tup ys)) {s with heap:=h'.push {cls:=.type "tuple",data:=.seq its.toArray}}:= I1.laid (t':=s.toks) (λb o e=>_e _ e) (_d _) (show xf X.prog X.w _ _ _ (.tup ys) from⟨hz,its,r',z7k.new _ _⟩);exact⟨.ref h'.objs.size,_,I2,rfl,q _ (I1.hok.fresh (_d _))⟩
 ·obtain⟨its,r',pl,hz⟩:=I.tuple hq;exact call_tuple_same pl ⟨.ref p,H,I,rfl,q⟩
def tyV(K:W.Frag)(T:String)(x:V)(H:Hp):Prop:=match x with
 | .str _=>T="str" | .int _=>T="int" | .ref p=>(T="list"/\∃xs,SqL K H p xs)\/(T="tuple"/\∃o,K.lookup p=some o/\o.cls=.type "tuple"/\o.dict=none)\/ (T="dict"/\((∃kvs,H p=some (.dK kvs))\/∃kvs,H p=some (.dT kvs)))\/(T="set"/\∃S n,H p=some (.set S n)) | _=>False
theorem zdM{pins:List (Addr×Obj)}{O:St}{H:Hp}{s:Shared}{T:String}{x:V}{v:Value}(I:Inv X pins O H s)(r:xc x v)(ty:tyV X.K T x H): s.TypeIs v T/\∀a,v=.ref a->∃ob,s.heap.get? a=some ob/\ob.dict=none:=by cases x with
 | str z=>
  obtain⟨t,rfl⟩:=r;cases (show T="str" from ty);exact⟨typeIs_str s z t,λ_ e=>nomatch e⟩ | int i=>
  obtain⟨t,rfl⟩:=r;cases (show T="int" from ty);exact⟨_cd s i t,λ_ e=>nomatch e⟩ | ref p=>
  cases r;rcases ty with⟨rfl,xs,hq⟩ | ⟨rfl,o,hk,hc,hd⟩ | ⟨rfl,hk⟩ | ⟨rfl,S,n,hk⟩
  ·obtain⟨its,_,pl,_⟩:=I.list hq;refine⟨pl.isList.typeIs,λa e=>?_⟩;cases e;obtain⟨o,n,e,c,hd,_⟩:=pl;exact⟨o,e,hd⟩
  ·refine⟨⟨o,I.kIn p o hk,hc⟩,λa e=>?_⟩;cases e;exact⟨o,I.kIn _ o hk,hd⟩
  ·have z:∃o,s.heap.get? p=some o/\o.ExactDict:=by
    rcases hk with⟨kvs,hk⟩ | ⟨kvs,hk⟩
    ·obtain⟨_,_,_,_,o,_,_,e,ex,_⟩:=I.hok p _ hk;exact⟨o,e,ex⟩
    ·obtain⟨_,_,_,_,o,_,_,e,ex,_⟩:=I.hok p _ hk;exact⟨o,e,ex⟩
   obtain⟨o,e,ex⟩:=z;refine⟨⟨o,e,ex.1⟩,λa e2=>?_⟩;cases e2;exact⟨o,e,ex.2.1⟩
  ·obtain⟨o,_,_,_,e,ex,_⟩:=I.hok p _ hk;refine⟨⟨o,e,ex.1⟩,λa e2=>?_⟩;cases e2;exact⟨o,e,ex.2.1⟩ | _=>exact False.elim ty
def tBM(K:W.Frag)(T:String)(r:V->List V->Hp->VK->Prop)(to:TE)(t:TA):TE:=λO H Q=>to O H λx H1=>tyV K T x H1/\t O H1 λxs H2=>r x xs H2 Q
variable {o e:Expr}{es:List Expr}{to:TE}{t:TA}{name:Str}{apos cpos:Pos}{T id:String}{r:V->List V->Hp->VK->Prop}
theorem z8D (pa:PlainAttrs T) (slot:Slot T name id) (hty:typeOf (.builtin id)=pure (.type "method_descriptor")) (hm:MtR X id r) (ho:PE X o to) (ha:PA X (e::es) t) (hbase:attributeBase o name X.env (eval o X.env)=eval o X.env:=by rfl) (hfew:((backTo cpos (starEach (e::es) X.env)).all (λx=>!x.1)&&(backToKw cpos (keywordEach [] X.env)).all (λx=>x.1.isSome) && decide ((e::es).length+([]:List Keyword).length+(if ([]:List Keyword).isEmpty then 0 else 1)<30))=true:=by rfl) (hline:(apos.endLine==cpos.line)=true:=by rfl) (hs:starEach (e::es) X.env=(false,eval e X.env)::starEach es X.env:=by rfl) (hplain:(backTo cpos (starEach es X.env)).any (·.1)=false:=by rfl): PE X (.Call (.Attribute o name apos) (e::es) [] cpos) (tBM X.K T r to t):=by
 intro pins s O H Q I h;refine wpAny_Call_method_late hbase hfew hline rfl (thn (ho pins s O H _ I h) λv s1 ⟨x,H1,I1,r1,ty,q1⟩=>?_);obtain⟨h1,h2⟩:=zdM I1 r1 ty;refine⟨T,id,pa,slot,hty,h1,h2,?_⟩;have hA:=ha cpos pins s1 O H1 _ I1 q1;rw[hs]at hA ⊢;refine Calls.callWith_builtin (by show (false||(backTo cpos (starEach es X.env)).any (·.1))=false;rw[hplain]<;>rfl) (_cg ?_);exact thn hA λus s2 ⟨vs,H2,I2,r2,q2⟩=>hm pins s2 O H2 x vs v us Q I2 r1 r2 q2
end
def MtM (X:Cx) (id:String) (r:V->List V->Hp->VK->Prop):Prop:= ∀(pins:List (Addr×Obj)) (s:Shared) (O:St) (H:Hp) (x:V) (xs:List V) (v:Value) (us:List Value) (Q:VK),Inv X pins O H s->xc x v->yC xs us->r x xs H Q-> wpAny (model X.prog X.w) X.A (call (.builtin id) (v::us)) (EP X pins O Q) X.xe s
theorem yC.one:∀{x:V}{us:List Value},yC [x] us->∃u,us=[u]/\xc x u | _,_,.cons r .nil=>⟨_,rfl,r⟩
theorem yC.two:∀{x y:V}{us:List Value},yC [x,y] us->∃u v,us=[u,v]/\xc x u/\xc y v | _,_,_,.cons r (.cons q .nil)=>⟨_,_,rfl,r,q⟩
theorem yC.rep{xs:List V}{us:List Value}(h:yC xs us):∀k:Nat,yC (List.replicate k xs).flatten (List.replicate k us).flatten
 | 0=>.nil | k+1=>by
  rw[_aq,_aq,_aQ,_aQ];exact yC.append h (yC.rep h k)
theorem foldl_rep(its:List Value):∀(k:Nat)(acc:List Value), List.foldl (λx1 x2=>x1++x2) acc.toArray (List.replicate k its.toArray)=(acc++(List.replicate k its).flatten).toArray
 | 0,acc=>by simp | k+1,acc=>by
  have e:acc.toArray++its.toArray=(acc++its).toArray:=by simp
  have e2:(acc++its)++(List.replicate k its).flatten=acc++(List.replicate (k+1) its).flatten:=by rw[_aq,_aQ,_L]
  rw[<- e2,<- foldl_rep its k (acc++its),<- e,_aq,_aS]
section
variable {X:Cx}{pins:List (Addr×Obj)}{O:St}{H:Hp}{s:Shared}{l b:Addr}{xs ys zs:List V}
theorem Inv.lset {its its':List Value} {n:Nat} {f:Array Value->Array Value} {t':Nat} (I:Inv X pins O H s) (hH:H l=some (.lst xs)) (e:s.heap.get? l=some {cls:=.type "list",data:=.seq its.toArray n}) (hf:f its.toArray=its'.toArray) (hv:yC ys its') (hz:ys.length<=sizeLine): Inv X pins O (upd H l (.lst ys)) {s with heap:=s.heap.update l (Obj.mapSeq f),toks:=t'}:=by
 have q:=PySem.IsL.update e f;rw[hf]at q;refine I.write (x:=l) (e:=l) (by rw[hH];exact trivial) (.inl rfl) (λb' u hb hu=>(_aU s.heap (Obj.mapSeq f) (_a8 hb)).trans hu) ⟨_,q⟩ ?_;exact⟨hz,its',_,hv,q⟩
theorem Inv.lnew {its:List Value} {t':Nat} (I:Inv X pins O H s) (hv:yC ys its) (hz:ys.length<=sizeLine): Inv X pins O (upd H s.heap.objs.size (.lst ys)) {s with heap:=s.heap.push {cls:=.type "list",data:=.seq its.toArray},toks:=t'}:= I.laid (λ_ _ q=>_e _ q) (_d _) ⟨hz,its,0,hv,_v _ rfl⟩
theorem Inv.fresh(I:Inv X pins O H s):H s.heap.objs.size=none:=I.hok.fresh (_d _)
theorem Inv.lstM(I:Inv X pins O H s)(hH:H l=some (.lst xs)):xs.length<=sizeLine/\∃(its:List Value)(n:Nat),yC xs its/\xs.length=its.length/\s.heap.get? l=some {cls:=.type "list",data:=.seq its.toArray n}:=by
 obtain⟨z,its,n,r,e⟩:=I.hok l _ hH;exact⟨z,its,n,r,r.length,e⟩
theorem zah{n:Nat}(h:n<=sizeLine):Builtin.List.listTooLong n=false:=by
 unfold Builtin.List.listTooLong;exact _N (by omega)
end
section
variable {X:Cx}
def zcl:V->List V->Hp->VK->Prop:=λx vs H Q=>∃l xs y,x=.ref l/\vs=[y]/\H l=some (.lst xs)/\xs.length<sizeLine/\Q .non (upd H l (.lst (xs++[y])))
theorem z4e:MtM X "list.append" zcl:=by
 intro pins s O H x vs v us Q I rx rv h;obtain⟨l,xs,y,rfl,rfl,hH,hz,q⟩:=h;cases rx;obtain⟨u,rfl,ru⟩:=rv.one;obtain⟨z,its,n,r,hl,e⟩:=I.lstM hH;refine _bl F.slot_list_append ⟨_,e,rfl⟩ F.entry_list_append (F.args_list_append_2 _ _) (PySem.list_append l its.toArray n u (by rw[_k];omega)) ⟨e,?_⟩;refine⟨.non,_,I.lset (its':=its++[u]) hH e (by simp) (r.append (.cons ru .nil)) ?_,rfl,q⟩;rw[_y,List.length_singleton];omega
def zhl:R2:=λx y H Q=>∃l k xs,x=.ref l/\y=.int k/\Rd H l (.lst xs)/\-(2 ^ 63)<=k/\k<2 ^ 63/\xs.length*k.toNat<=sizeLine/\ ∀p,H p=none->Q (.ref p) (upd H p (.lst (List.replicate k.toNat xs).flatten))
theorem len_rep{α:Type}(xs:List α)(k:Nat):(List.replicate k xs).flatten.length=k*xs.length:=by induction k with
 | zero=>simp | succ k ih=>rw[_aq,_aQ,_y,ih,Nat.succ_mul,Nat.add_comm]
theorem zdD:OpR X (binaryOp .Mult) zhl:=by
 intro pins s O H x y v u Q I rx ry h;obtain⟨l,k,xs,rfl,rfl,hH,h1,h2,hz,q⟩:=h;cases rx;obtain⟨t,rfl⟩:=ry;obtain⟨z,its,n,r,e⟩:=hH.ok I.hok;have hl:xs.length=its.length:=by have:=r.length;omega
 have hlen:its.toArray.size*k.toNat<=sizeLine:=by rw[_k,<- hl];exact hz
 have hcap:¬ its.toArray.size*k.toNat > (2 ^ 63-1) / 8:=by
  have:(sizeLine:Nat)<=(2 ^ 63-1) / 8:=by decide
  omega
 have hfit:¬ (!Builtin.List.listFitsIndex k)=true:=by
  rw[fitsIndex_both h1 h2];exact _ax
 have hlong:¬ Builtin.List.listTooLong (its.toArray.size*k.toNat)=true:=by
  rw[zah hlen];exact _ax
 have hnew:List.foldl (λx1 x2=>x1++x2) #[] (List.replicate (if its.toArray.isEmpty=true then 0 else k.toNat) its.toArray)=(List.replicate k.toNat its).flatten.toArray:=by
  have f0:∀m:Nat,List.foldl (λx1 x2=>x1++x2) #[] (List.replicate m its.toArray)=(List.replicate m its).flatten.toArray:=λm=>by
   have:=foldl_rep its m [];rw[_cn]at this;exact this
  rw[f0];cases its with
  | nil=>simp | cons a r'=>rw[_l (by simp)]
 refine _bH (T:="list") (U:="int") (by decide) ⟨_,e,rfl⟩ (λs'=>_cd s' k t) noFill_list_mul F.fills_int_mul _br repeat_list _cZ.lookup (_bl _br (_cd s k t) _c0 (_cQ _ _) (int___rmul___int_list k t l its.toArray n) ⟨e,rfl,⟨_,e,rfl⟩,_bl F.slot_list_mul ⟨_,e,rfl⟩ F.entry_list_mul (F.args_list_mul_2 _ _) (AutoListH.list___mul___list_int_3 l its.toArray n k t hfit hcap hlong) ⟨e,?_⟩⟩);rw[hnew];exact⟨.ref _,_,I.lnew (t':=s.toks) (r.rep k.toNat) (by rw[len_rep,_aV];exact hz),rfl,q _ I.fresh⟩
end
end L2
namespace Att
open PySem.W PySem.Calls
theorem z1F{P:Params}{h:Heap}:∀(ns:List Int)(vs:List Value),WellAll P h vs (ns.map WData.int)->IntsAre vs ns:=by
 intro ns;induction ns with
 | nil=>
  intro vs w;rw[List.map_nil]at w;cases w;exact .nil | cons n ns ih=>
  intro vs w;rw[_U]at w;cases w with | cons a b=>
   cases a;exact .cons _ _ (ih _ b)
theorem z8Q {l:OpenLaw} {n:Nat} (hn:l.most=some n) {P:Params} {h:Heap} {args:List WData} {vals:List Value} (hpre:l.row.toRowW.claim.pre args=true) (hwl:WellAll P h vals args): ∃a vs ns,vals=[Value.ref a]/\args=[WData.list (ns.map WData.int)]/\h.get? a=some {cls:=.type "list",data:=.seq vs.toArray}/\IntsAre vs ns/\ns.length<=n:=by
 have hsh:WShape.hasAll [] args [.list .int]=true:=(pre_splitW hpre).1;have hc:l.pre.holds [] {args:=args}=true:=(pre_splitW hpre).2;obtain⟨d,r,rfl,h1,h2⟩:=hasAllW_cons hsh;obtain rfl:=hasAllW_nil h2;obtain⟨xs,rfl,h3⟩:=hasW_list h1;obtain⟨ns,rfl⟩:=items_int h3;have hlen:ns.length<=n:=by
  unfold OpenLaw.pre at hc;have h4:(WTm.not (.lt (.lit (.int (n:Int))) (.len (.arg 0)))).holds [] {args:=[.list (ns.map .int)]}=true:=by
   have h4:=(holds_andW hc).1;rw[hn]at h4;exact h4
  have h5:=condW_of h4 (w_not (w_lt w_lit (w_len_list (w_arg rfl))));rw[_x]at h5;refine Nat.le_of_not_lt λq=>?_;have q':(n:Int)<(ns.length:Int):=by omega
  first
   | (rw[_aO q']at h5;exact absurd h5 (by decide)) | (simp at h5;omega)
 cases hwl with | cons w1 w2=>
  cases w2;cases w1 with | list ho hall=>exact⟨_,_,ns,rfl,rfl,ho,z1F ns _ hall,hlen⟩
theorem z8f (l:OpenLaw) (args:List WData):l.row.toRowW.claim.post args (.bool true) args=true:= postW_of (r:=l.row.toRowW) (X:=(true==true)) (show WShape.has [] (.bool true) .bool=true by first | rfl | decide | simp[WShape.has,WShape.arms,WShape.armsAll]) (show (WTm.eq .res (.lit (.bool true))).value [] {args:=args,res:=some (.bool true),after:=args}=some (.bool (true==true)) from w_eq_bool (w_res rfl) w_lit) rfl
theorem z5j{l:OpenLaw}{n:Nat}{q:Program}{loose:List Str}{XP:(Str->Option Value)->Heap->Prop}{YP:World->Heap->Prop}{d:DefRec} (hn:l.most=some n)(hdf:d.params.defaults=[]) (call:∀(w:World)(s₀ s₁:Shared)(mg mb:Str->Option Value)(fa:Addr)(o:Obj)(pm cd doc:Value)(a:Addr)(vs:List Value)(ns:List Int), Ground q loose [] XP w s₀ mg mb s₁.heap->YP w s₁.heap-> s₁.heap.get? fa=some o->o.data=.func (docDef d.name d.params d.body d.scope pm cd doc)->s₁.heap.CodeRec cd d.name->mg d.name=some (.ref fa)-> s₁.heap.get? a=some {cls:=.type "list",data:=.seq vs.toArray}->IntsAre vs ns->ns.length<=n->s₁.gens=#[]-> codeAny (model l.prog w) callerA (.call (.ref fa) ⟨[.ref a],[]⟩) (λr s'=>r=.ok (.ret (.bool true))/\OldK s₁.heap s'.heap/\s'.os=s₁.os/\AllBare s'.gens) s₁): WalkO q loose XP YP l.row.toRowW d [] (λf vs=>PySem.call f vs):=by
 intro w s₀ s₁ mg mb G Yy fa o pm cd doc dV kV ho hd hcd hD hmg hg args vals as hpre hlay hrd hwl hlo;obtain rfl:dV=.none:=Dflts.none hD hdf;obtain rfl:kV=.none:=Dflts.noKw hD;obtain⟨a,vs,ns,rfl,rfl,hobj,hints,hlen⟩:=z8Q hn hpre hwl;refine enter_call (_cA (call w s₀ s₁ mg mb fa o pm cd doc a vs ns G Yy ho (fd_plain hd) hcd hmg hobj hints hlen hg) λr s' hq=>?_);obtain⟨rfl,h2,h3,h4⟩:=hq;exact⟨.inl ⟨.bool true,.bool true,[],rfl,λ_=>rfl,.bool true,z8f l _,λ_=>⟨List.Pairwise.nil,λ_ hm=>(nomatch hm)⟩⟩,h2,h3,h4⟩
section
variable {prog:Program}{w:World}{A:Around}{E:Value->Shared->Prop}{s:Shared}{K:Frag}
noncomputable def ledger(h:Heap)(L d:Addr):List (Addr×Obj):=(List.range h.objs.size).filterMap λa=>if a=L\/a=d then none else (h.get? a).map λo=>(a,o)
end
end Att
namespace L2
theorem z3F:∀{vs:List Value}{ns:List Int},IntsAre vs ns->yC (ns.map V.int) vs
 | _,_,.nil=>.nil | _,_,.cons n t h=>.cons ⟨t,rfl⟩ (z3F h)
def zgm(H:Hp):Prop:=∀b,H b=none\/∃o xs,H b=some (.frz o (.lst xs))
theorem z9L {P:Program} {w:World} {K:W.Frag} {mg mb:Str->Option Value} {CX:CXT} {k:Nat} {fa a:Addr} {fd:FuncData} {x:Str} {sp:Sp} {s₁:Shared} {vs:List Value} {ns:List Int} (KX:K.In s₁.heap) (hns:s₁.heap.Ns mainGlobals mg) (hb:s₁.heap.Ns builtinsNs mb) (hbb:∀x:Str,x≠"__name__"->mb x=bootBuiltins x) (hlim:s₁.heap.NoLimit) (hg:s₁.gens=#[]) (ha:s₁.heap.get? a=some {cls:=.type "list",data:=.seq vs.toArray}) (hi:IntsAre vs ns) (hl:ns.length<=sizeLine) (hr:z0m k callerA) (F:∀base:Heap,K.In base->base.Ns mainGlobals mg->z3C P w K mg base CX k fa fd [x] sp) (hbind:∀(s:Shared) (u:Value),BindsTo s fd ⟨[u],[]⟩ [(x,u)]) (hsp:∀H:Hp,zgm H->SqL K H a (ns.map V.int)->sp [.ref a] H (λv _=>v=.bl true) λ_ _ _=>False) (hCX:∀H e s',CX [] H s₁ (λ_ _ _=>False) e s'->False): codeAny (model P w) callerA (.call (.ref fa) ⟨[.ref a],[]⟩) (λr s'=>r=.ok (.ret (.bool true))/\OldK s₁.heap s'.heap/\s'.os=s₁.os/\AllBare s'.gens) s₁:=by
 have rv:=z3F hi;have lenV:=hi.length;have core:∀H:Hp,zgm H->SqL K H a (ns.map V.int)->HOk P w H s₁.heap->(∀b,H b≠none->b=a)->(H a≠none->K.lookup a=none)-> codeAny (model P w) callerA (.call (.ref fa) ⟨[.ref a],[]⟩) (λr s'=>r=.ok (.ret (.bool true))/\OldK s₁.heap s'.heap/\s'.os=s₁.os/\AllBare s'.gens) s₁:=by
  intro H hO hS hok hA hK;have base_of:∀{b:Addr} {o:Obj},s₁.heap.get? b=some o->H b=none->(z9A s₁.heap H).get? b=some o:=λe n=>z9y e n;have noA:∀{b:Addr} {o:Obj} {es:Array DictEntry} {ep:Nat},s₁.heap.get? b=some o->o.data=.dict es ep->H b=none:=λ{b o es ep} e d=>by cases q:H b with
   | none=>rfl | some u=>
    have e':b=a:=hA b (by rw[q];simp);subst e';rw[ha]at e;cases e;have d':Data.seq vs.toArray _=Data.dict es ep:=d;cases d'
  have nsK:∀{b:Addr} {m:Str->Option Value},s₁.heap.Ns b m->(z9A s₁.heap H).Ns b m:=λ{b m} ⟨o,es,ep,e,d,r⟩=>⟨o,es,ep,base_of e (noA e d),d,r⟩;have hKb:K.In (z9A s₁.heap H):=λb o e=>base_of (KX b o e) (by cases q:H b with
   | none=>rfl | some u=>
    have e':b=a:=hA b (by rw[q];simp);subst e';rw[hK (by rw[q];simp)]at e;cases e);have hM:Mod K mg (z9A s₁.heap H):=⟨hKb,nsK hns,⟨mb,nsK hb,hbb⟩,let ⟨mc,h1,h2⟩:=hlim;⟨mc,nsK h1,h2⟩⟩;have e0:zdS P w K mg (z9A s₁.heap H) callerA [] s₁ H:=⟨rfl,hM,λb o e=>zd0 e,Nat.le_of_eq (z7f _ _),trivial,λb hb=>absurd (show b∈([]:List Addr) from hb) (by simp),hok,.of_eq hg⟩;refine _cA ((F _ hKb (nsK hns)).run callerA [] s₁ H ⟨[.ref a],[]⟩ [.ref a] [.ref a] _ _ hr e0 (hbind s₁ (.ref a)) (.cons rfl .nil) (hsp H hO hS)) λr s' h=>?_;cases r with
  | error e=>exact (hCX H e s' h).elim | ok fl=> cases fl with
   | next=>exact False.elim h | brk=>exact False.elim h | cont=>exact False.elim h | ret u=>
    obtain⟨v,H',os,bare,un,hok',r',q⟩:=h;have q':v=.bl true:=q;subst q';obtain rfl:u=Value.bool true:=r';refine⟨rfl,OldK.of_keep λb o e=>?_,os,bare⟩;cases q:H b with
    | none=>exact un.keep b o e q (by intro z;exact absurd (show b∈([]:List Addr) from z) (by simp)) (by simp) | some u=>
     rcases hO b with z | ⟨ob,xs,z⟩;·rw[q]at z;cases z
     ·have z2:=un.frzs b ob _ z;obtain⟨e1,_⟩:=hok b _ z;obtain⟨e2,_⟩:=hok' b _ z2;rw[e]at e1;cases e1;exact e2
 cases hk:K.lookup a with
 | some o=>
  have e:=KX a o hk;rw[ha]at e;cases e;refine core (λ_=>none) (λ_=>.inl rfl) (.inr ⟨_,vs.toArray,_,hk,rfl,rfl,rfl,by rw[_k,lenV];exact hl,by simpa using rv⟩) (λb u z=>by have z':(none:Option HO)=some u:=z;cases z') (λb z=>absurd rfl z) λz=>absurd rfl z | none=>
  refine core (λb=>if b=a then some (.frz {cls:=.type "list",data:=.seq vs.toArray} (.lst (ns.map V.int))) else none) (λb=>?_) (.inl (.inr ⟨{cls:=.type "list",data:=.seq vs.toArray},_g rfl⟩)) (λb u z=>?_) (λb z=>?_) λ_=>hk
  ·by_cases hb:b=a;·exact .inr ⟨_,_,_g hb⟩
   ·exact .inl (_l hb)
  ·by_cases hb:b=a
   ·have z':=(_g hb).symm.trans z;cases z';subst hb;exact⟨ha,by rw[_x];exact hl,vs,_,rv,ha⟩
   ·have z':=(_l hb).symm.trans z;cases z'
  ·by_cases hb:b=a;·exact hb
   ·exact absurd (_l hb) z
noncomputable abbrev KOf{K:W.Frag}{h:Heap}(_:K.In h):W.Frag:=K
noncomputable def kI(s:Stmt):Arguments:=match s with
 | .FunctionDef _ a _ _ _ _ _ _ _ _=>a | _=>{posonlyargs:=[],args:=[],vararg:=none,kwonlyargs:=[],kw_defaults:=[],kwarg:=none,defaults:=[]}
noncomputable def wQ(s:Stmt):List Stmt:=match s with
 | .FunctionDef _ _ b _ _ _ _ _ _ _=>b | _=>[]
noncomputable def zi(s:Stmt):Scope:=match s with
 | .FunctionDef _ _ _ _ _ _ sc _ _ _=>sc | _=>{kind:=.function,names:=[],isGenerator:=false,isCoroutine:=false}
abbrev CX0:CXT:=λ_ _ _ _ _ _=>False
abbrev E0:XK:=λ_ _ _=>False
theorem zZ{X:Cx}:Passes CX0 X E0:=λ_ _ _ _ _ _ _ h=>h.elim
structure Fun(K:W.Frag)(x qual:Str)(st:Stmt)(f:Addr)(fd:FuncData):Prop where
 ex:∃(oc:Value)(od:Option Addr)(kV doc pm:Value)(an:Option Addr)(cdv ct:Value)(osl:Array (Option Value)), fd=W.fnOf x qual (kI st) (wQ st) (zi st) .none kV doc pm an cdv ct/\K.lookup f=some ⟨oc,od,.func fd,osl⟩/\W.codeIn K cdv qual=true
 kp:W.keepIn K (.ref f)=true
section
variable {P:Program}{w:World}{K:W.Frag}{mg:Str->Option Value}{base:Heap}
theorem Fun.ok{x qual:Str}{st:Stmt}{f:Addr}{fd:FuncData}{N ps:List Str}{k:Nat}{sp:Sp}(F:Fun K x qual st f fd)(S:zG N ps (zi st))(len:∀vs H Q E,sp vs H Q E->vs.length=ps.length) (hbody:∀(cdv:Value)(A:Around)(outer:List Env)(s:Shared)(H:Hp)(vs:List V)(Q:VK)(E:XK),z0m k (A.deeper (envOfC qual (zi st) s.heap.objs.size f cdv))->sp vs H Q E-> ∃t,PSs (z1h CX0 P w K mg base N qual (zi st) f cdv A outer s H E).nox (wQ st) t/\t {nx:=λ_ H'=>Q .non H',rt:=Q} (start N vs) H):z3C P w K mg base CX0 (k+1) f fd ps sp:=by
 obtain⟨oc,od,kV,doc,pm,an,cdv,ct,osl,rfl,lk,hcd⟩:=F.ex;refine zde lk hcd S len λA outer s H vs Q E hr hsp=>?_;obtain⟨t,h,q⟩:=hbody cdv A outer s H vs Q E hr hsp;exact⟨t,h.nox,q⟩
theorem Fun.binds{x qual:Str}{st:Stmt}{f:Addr}{fd:FuncData}{ps:List Str}(F:Fun K x qual st f fd) (h:∀(kV doc pm:Value)(an:Option Addr)(cdv ct:Value)(us:List Value),us.length=ps.length->bindArgs (W.fnOf x qual (kI st) (wQ st) (zi st) .none kV doc pm an cdv ct) ⟨us,[]⟩=pure (ps.zip us)):Binds K fd ps []:=by
 obtain⟨oc,od,kV,doc,pm,an,cdv,ct,osl,rfl,lk,hcd⟩:=F.ex;exact .all (h kV doc pm an cdv ct)
theorem zew{x qual:Str}{st:Stmt}{f:Addr}{oc:Value}{od an:Option Addr}{osl:Array (Option Value)}{kV doc pm cdv ct:Value}(l:K.lookup f=some ⟨oc,od,.func (W.fnOf x qual (kI st) (wQ st) (zi st) .none kV doc pm an cdv ct),osl⟩) (c:W.codeIn K cdv qual=true)(k:W.keepIn K (.ref f)=true):Fun K x qual st f (W.fnOf x qual (kI st) (wQ st) (zi st) .none kV doc pm an cdv ct):=⟨⟨oc,od,kV,doc,pm,an,cdv,ct,osl,rfl,l,c⟩,k⟩
end
end L2
set_option maxHeartbeats 4000000
namespace L2
noncomputable def z37(env:Env):List (Str×NameKind)->List (Str×Addr)->List (Str×Addr)
 | [],acc=>acc | (n,k)::r,acc=>z37 env r (if k==.free then (match env.cells.lookup n with | some c=>(n,c)::acc | none=>acc) else acc)
theorem z1I{env:Env}:∀(names:List (Str×NameKind))(acc:List (Str×Addr)),(∀x c,acc.lookup x=some c->env.cells.lookup x=some c)->∀x c,(z37 env names acc).lookup x=some c->env.cells.lookup x=some c
 | [],acc,ha=>ha | (n,k)::r,acc,ha=>by
  unfold z37;refine z1I r _ λx c=>?_;split
  ·split
   ·rename_i c' hc;intro h;rw[_ad]at h;split at h
    ·rename_i hb;cases h;rw[_ay.mp hb];exact hc
    ·exact ha x c h
   ·exact ha x c
  ·exact ha x c
theorem z4i{env:Env}{x:Str}:∀(names:List (Str×NameKind))(acc:List (Str×Addr)),(acc.lookup x).isSome=true->((z37 env names acc).lookup x).isSome=true
 | [],acc,ha=>ha | (n,k)::r,acc,ha=>by
  unfold z37;refine z4i r _ ?_;split
  ·split
   ·rw[_ad];split;·rfl
    ·exact ha
   ·exact ha
  ·exact ha
theorem z2F{env:Env}{x:Str}:∀(names:List (Str×NameKind))(acc:List (Str×Addr)),(x,NameKind.free)∈names->(∃c,env.cells.lookup x=some c)->∃c,(z37 env names acc).lookup x=some c
 | [],acc,h,_=>nomatch h | (n,k)::r,acc,h,hc=>by
  rcases _n.mp h with e | h
  ·cases e;obtain⟨c,hc⟩:=hc;unfold z37;have q:((z37 env r ((x,c)::acc)).lookup x).isSome=true:=z4i r _ (by simp);rw[_g (by rfl),hc];exact Option.isSome_iff_exists.mp q
  ·unfold z37;exact z2F r _ h hc
theorem z2g{env:Env}(f:Str×NameKind->List (Str×Addr)->Sem (ForInStep (List (Str×Addr)))) (hf:∀n k cs,f (n,k) cs=if k==.free then (do let a <- cellOf env n;pure (.yield ((n,a)::cs))) else pure (.yield cs)): ∀(names:List (Str×NameKind))(acc:List (Str×Addr)),(∀y∈names,y.2=.free->∃c,env.cells.lookup y.1=some c)->forIn names acc f=pure (z37 env names acc)
 | [],acc,_=>rfl | (n,k)::r,acc,h=>by
  rw[List.forIn_cons,hf];have ih:=λacc'=>z2g f hf r acc' λy hy=>h y (_w _ hy);unfold z37;by_cases hk:k=.free
  ·subst hk;obtain⟨c,hc⟩:=h (n,.free) _P rfl;have hc':env.cells.lookup n=some c:=hc;have e:cellOf env n=pure c:=by unfold cellOf;rw[hc']
   rw[_g (by rfl),_g (by rfl),e,hc',pure_bind,pure_bind];exact ih _
  ·have hb:(k==NameKind.free)=false:=by simpa using hk
   rw[hb,_l (by decide),_l (by decide),pure_bind];exact ih _
theorem vi{scope:Scope}{env:Env}(h:∀y∈scope.names,y.2=.free->∃c,env.cells.lookup y.1=some c):closureFor scope env=pure (z37 env scope.names []):=by
 simp only[closureFor];rw[z2g (env:=env) _ (λn k cs=>by cases hk:k==NameKind.free<;>simp[hk]) scope.names [] h];simp
theorem xU:∀(names:List (Str×NameKind))(n:Nat)(acc:List (Str×Addr)),cellsFrom n names acc=cellsFrom n names []++acc
 | [],_,_=>rfl | (x,k)::r,n,acc=>by
  unfold cellsFrom;split
  ·rw[xU r (n+1) ((x,n)::acc),xU r (n+1) [(x,n)]];simp
  ·exact xU r n acc
theorem uI{x:Str}{c:Addr}:∀(names:List (Str×NameKind))(n:Nat)(acc:List (Str×Addr)),(x,c)∈cellsFrom n names acc->(x,c)∈acc\/(x,NameKind.cell)∈names
 | [],_,_,h=>.inl h | (y,k)::r,n,acc,h=>by
  unfold cellsFrom at h;split at h
  ·rename_i hk;rcases uI r _ _ h with q | q
   ·rcases _n.mp q with e | q
    ·cases e;refine .inr ?_;rw[show k=NameKind.cell from _ay.mp hk];exact _P
    ·exact .inl q
   ·exact .inr (_w _ q)
  ·rcases uI r _ _ h with q | q;·exact .inl q
   ·exact .inr (_w _ q)
noncomputable def z5B(X:Cx)(scope:Scope)(C:Addr):Env:= {scope:=relabel scope X.env,locals:=C,globals:=X.env.globals,cells:=cellsFrom (C+1) scope.names []++z37 X.env scope.names [],qual:=X.env.qual,func:=none,code:=X.env.code,frame:=X.env.frame,builtins:=X.env.builtins}
noncomputable def zq(X:Cx)(N':List Str)(scope:Scope)(ex:List Addr)(s:Shared)(H:Hp):Cx where
 prog:=X.prog;w:=X.w;K:=X.K;mg:=X.mg;base:=X.base;A:=X.A;N:=N';s₀:=s;H₀:=H;env:=z5B X scope s.heap.objs.size;outer:=X.stack;stack:=X.stack;ex:=ex;fn:=λx=>scope.names.lookup x==some .cell;calm:=X.calm;pn:=[];xe:=λ_ _=>False
theorem jk{env:Env}{x:Str}{k:NameKind}:∀{names:List (Str×NameKind)},names.lookup x=some k-> (names.map λ(n,k)=>if (k==NameKind.free&&env.scope.kind==.function&&env.kindOf n==some .cell) then (n,NameKind.cell) else (n,k)).lookup x=some k\/ (k=.free/\(names.map λ(n,k)=>if (k==NameKind.free&&env.scope.kind==.function&&env.kindOf n==some .cell) then (n,NameKind.cell) else (n,k)).lookup x=some .cell)
 | [],h=>by simp at h | (n,k')::r,h=>by
  have ih:=@jk env x k r;show List.lookup x ((if (k'==NameKind.free&&env.scope.kind==.function&&env.kindOf n==some .cell)=true then (n,NameKind.cell) else (n,k'))::_)=_\/(_/\List.lookup x ((if (k'==NameKind.free&&env.scope.kind==.function&&env.kindOf n==some .cell)=true then (n,NameKind.cell) else (n,k'))::_)=_);cases hx:x==n with
  | true=>
   simp only[_ad,hx]at h;cases h;by_cases hc:(k==NameKind.free&&env.scope.kind==.function&&env.kindOf n==some .cell)=true
   ·rw[_g hc];simp only[_u,_ay]at hc;exact .inr ⟨hc.1.1,by simp[_ad,hx]⟩
   ·rw[_l hc];exact .inl (by simp[_ad,hx]) | false=>
   simp only[_ad,hx]at h;by_cases hc:(k'==NameKind.free&&env.scope.kind==.function&&env.kindOf n==some .cell)=true;·rw[_g hc];simp only[_ad,hx];exact ih h
   ·rw[_l hc];simp only[_ad,hx];exact ih h
theorem ub{env:Env}{x:Str}{k:NameKind}:∀{names:List (Str×NameKind)}, (names.map λ(n,k)=>if (k==NameKind.free&&env.scope.kind==.function&&env.kindOf n==some .cell) then (n,NameKind.cell) else (n,k)).lookup x=some k->(k=.cell\/k=.free)->(x,NameKind.cell)∈names\/(x,NameKind.free)∈names
 | [],h,_=>by simp at h | (n,k')::r,h,hk=>by
  have ih:=@ub env x k r;change List.lookup x ((if (k'==NameKind.free&&env.scope.kind==.function&&env.kindOf n==some .cell)=true then (n,NameKind.cell) else (n,k'))::_)=_ at h;have step:(List.lookup x (r.map λ(n,k)=>if (k==NameKind.free&&env.scope.kind==.function&&env.kindOf n==some .cell) then (n,NameKind.cell) else (n,k))=some k)->(x,NameKind.cell)∈(n,k')::r\/(x,NameKind.free)∈(n,k')::r:=λq=> (ih q hk).elim (λz=>.inl (_w _ z)) λz=>.inr (_w _ z);by_cases hc:(k'==NameKind.free&&env.scope.kind==.function&&env.kindOf n==some .cell)=true
  ·rw[_g hc,_ad]at h;split at h
   ·rename_i hb;simp only[_u,_ay]at hc;rw[_ay.mp hb,hc.1.1];exact .inr _P
   ·exact step h
  ·rw[_l hc,_ad]at h;split at h
   ·rename_i hb;cases h;rw[_ay.mp hb];rcases hk with rfl | rfl;·exact .inl _P
    ·exact .inr _P
   ·exact step h
noncomputable def inner(mp:List (Option Nat))(O:St):St:=mp.map λo=>match o with | some j=>(O[j]?).getD none | none=>none
noncomputable def z0I(N:List Str)(names:List (Str×NameKind)):List Str->List (Option Nat)->Bool
 | [],[]=>true | _::r,none::mp=>z0I N names r mp | x::r,some j::mp=>N[j]? == some x&&names.lookup x==some .free&&z0I N names r mp | _,_=>false
theorem z2K{N:List Str}{names:List (Str×NameKind)}:∀{N':List Str}{mp:List (Option Nat)},z0I N names N' mp=true->mp.length=N'.length
 | [],[],_=>rfl | _::_,none::_,h=>by
  simp only[z0I]at h;simp only[_c];rw[z2K h] | _::_,some _::_,h=>by
  simp only[z0I,_u]at h;simp only[_c];rw[z2K h.2] | [],none::_,h=>by cases h | [],some _::_,h=>by cases h | _::_,[],h=>by cases h
theorem z5C{N:List Str}{names:List (Str×NameKind)}:∀{N':List Str}{mp:List (Option Nat)}{i j:Nat}{x:Str},z0I N names N' mp=true->N'[i]? = some x->mp[i]? = some (some j)->N[j]? = some x/\names.lookup x=some .free
 | [],_,_,_,_,_,h,_=>by simp at h | _::_,[],_,_,_,_,_,h=>by simp at h | _::_,none::_,0,_,_,_,_,h=>by simp at h | _::_,some _::_,0,_,_,h,h1,h2=>by
  simp only[z0I,_u,_ay]at h;simp at h1 h2;subst h1 h2;exact h.1 | _::_,none::_,i+1,_,_,h,h1,h2=>by
  simp only[z0I]at h;exact z5C (i:=i) h (by simpa using h1) (by simpa using h2) | _::_,some _::_,i+1,_,_,h,h1,h2=>by
  simp only[z0I,_u]at h;exact z5C (i:=i) h.2 (by simpa using h1) (by simpa using h2)
section
variable {X:Cx}{pins:List (Addr×Obj)}{O:St}{H:Hp}{s s1:Shared}{scope:Scope}{N':List Str}{ex:List Addr}{mp:List (Option Nat)}
theorem z74{α:Type}{x:Str}{l1 l2:List (Str×α)}{c:α}(h:(l1++l2).lookup x=some c):l1.lookup x=some c\/(l1.lookup x=none/\l2.lookup x=some c):=by
 rw[_bT]at h;cases e:l1.lookup x with
 | some d=>rw[e]at h;exact .inl h | none=>rw[e]at h;exact .inr ⟨rfl,h⟩
theorem z2w (I:Inv X pins O H s) (hkd:scope.kind=.function) (hnm:∀y∈scope.names,scope.names.lookup y.1=some y.2) (hfr:∀y∈scope.names,y.2=.free->X.env.kindOf y.1=some .cell\/X.env.kindOf y.1=some .free) (hmp:z0I X.N scope.names N' mp=true) (hex:∀b∈ex,b<s.heap.objs.size/\H b=none/\b≠X.env.locals/\b∉X.fs/\(b∈X.ex\/X.s₀.heap.objs.size<=b)/\(∀x c,X.env.cells.lookup x=some c->c≠b)) (e1:s1.heap=pushCells (s.heap.push {cls:=.type "dict",data:=.dict #[]}) scope.names) (e2:s1.os=s.os) (e3:s1.gens=s.gens): Inv (zq X N' scope ex s H) [] (inner mp O) H s1:=by
 have keep:∀b o,s.heap.get? b=some o->s1.heap.get? b=some o:=λb o e=>by rw[e1];exact _co _ _ b o (_e _ e)
 have ok:=cellsFrom_ok scope.names (s.heap.push {cls:=.type "dict",data:=.dict #[]}) (s.heap.objs.size+1) [] ⟨λ_ _ hm=>(nomatch hm),List.Pairwise.nil⟩ (by rw[_au];exact _d _);rw[_au,<- e1]at ok;have hclo:∀x c,(z37 X.env scope.names []).lookup x=some c->X.env.cells.lookup x=some c:=z1I scope.names [] (λx c h=>by simp at h);have clt:∀x c,X.env.cells.lookup x=some c->c<s.heap.objs.size:=λx c h=>by obtain⟨v,q⟩:=I.cell x c h;exact q.lt
 have own:∀x c,(cellsFrom (s.heap.objs.size+1) scope.names []).lookup x=some c->s1.heap.IsCell c none/\s.heap.objs.size+1<=c:=λx c h=>ok.empty x c (_ab h);have both:∀x c,(z5B X scope s.heap.objs.size).cells.lookup x=some c->((cellsFrom (s.heap.objs.size+1) scope.names []).lookup x=some c/\s1.heap.IsCell c none/\s.heap.objs.size+1<=c)\/(X.env.cells.lookup x=some c):=λx c h=>by
  rcases z74 h with q | ⟨_,q⟩;·exact .inl ⟨q,own x c q⟩
  ·exact .inr (hclo x c q)
 refine⟨⟨I.ok.mod,hkd,I.ok.glob,I.ok.blt,_d _,λx y c h1 h2=>?_,λx hx=>?_,λx c hf h=>?_,I.ok.hd,I.ok.frames,.inl rfl,λb hb=>⟨_D (hex b hb).1,λx c h=>?_⟩,λb o e=>I.bs b o e,_O I.ok.bsz I.sz,λb o e hb=>?_,λb hb hf=>?_,I.stack,I.stkFree⟩, e2,by rw[e3];exact I.bare,Un.kept keep,?_,λx c h=>?_,I.hok.fresh (_d _),λx c h=>?_,λp hp=>absurd (show p∈([]:List (Addr×Obj)) from hp) (by simp),I.hok.kept keep,?_⟩
 ·rcases both x c h1 with⟨q1,_,l1⟩ | q1<;>rcases both y c h2 with⟨q2,_,l2⟩ | q2;·exact name_of_addr ok.apart (_ab q1) (_ab q2)
  ·exact absurd (_r (clt y c q2) (_cR l1)) (_ao _)
  ·exact absurd (_r (clt x c q1) (_cR l2)) (_ao _)
  ·exact I.ok.inj x y c q1 q2
 ·have hx':(x,NameKind.cell)∈scope.names\/(x,NameKind.free)∈scope.names:=by
   rcases hx with hx | hx;·exact ub (env:=X.env) hx (.inl rfl)
   ·exact ub (env:=X.env) hx (.inr rfl)
  show ∃c,(cellsFrom (s.heap.objs.size+1) scope.names []++z37 X.env scope.names []).lookup x=some c;rw[_bT];cases e:(cellsFrom (s.heap.objs.size+1) scope.names []).lookup x with
  | some c=>exact⟨c,rfl⟩ | none=>
   rcases hx' with hx' | hx'
   ·obtain⟨c,q⟩:=z0w (sc:=scope) (n:=s.heap.objs.size+1) (hnm (x,.cell) hx');rw[q]at e;cases e
   ·obtain⟨c,q⟩:=z2F (env:=X.env) scope.names [] hx' (I.ok.has x (hfr (x,.free) hx' rfl));exact⟨c,by simpa using q⟩
 ·have hf':scope.names.lookup x=some .cell:=_ay.mp hf;obtain⟨c',q⟩:=z0w (sc:=scope) (n:=s.heap.objs.size+1) hf';have h':(cellsFrom (s.heap.objs.size+1) scope.names []++z37 X.env scope.names []).lookup x=some c:=h;rw[_bT,q]at h';have e:c'=c:=_z h';subst e;exact _ap (Nat.lt_of_succ_le (own x c' q).2)
 ·rcases both x c h with⟨_,_,l⟩ | q
  ·intro z;rw[z]at l;exact absurd (_r (hex b hb).1 (_cR l)) (_ao _)
  ·exact (hex b hb).2.2.2.2.2 x c q
 ·rcases (hex b hb).2.2.2.2.1 with z | z;·exact I.ok.noex b o e z
  ·exact absurd (_r (_r (_o e) I.ok.bsz) z) (_ao _)
 ·have q:=I.stkSub b hf;rcases _n.mp q with z | z;·exact (hex b hb).2.2.1 z
  ·exact (hex b hb).2.2.2.1 z
 ·refine⟨λ_=>none,?_,λi x v h1 h2 h3=>?_⟩
  ·rw[e1];exact (Heap.Ns.new s.heap (.type "dict")).keeps (_co _ _)
  ·have h2':(inner mp O)[i]? = some (some v):=h2;unfold inner at h2';rw[_ag]at h2';cases em:mp[i]? with
   | none=>rw[em]at h2';cases h2' | some o=>
    rw[em]at h2';cases o with
    | none=>cases h2' | some j=>
     obtain⟨hj,hl⟩:=z5C hmp h1 em;have hmem:(x,NameKind.free)∈scope.names:=_ab hl;have hv:O[j]? = some (some v):=by
      simp only[_bs]at h2';cases eO:O[j]? with
      | none=>rw[eO]at h2';cases h2' | some o=>rw[eO]at h2';exact h2'
     obtain⟨m,hn,hlook⟩:=I.loc;have kx:X.env.kindOf x=some .cell\/X.env.kindOf x=some .free:=hfr _ hmem rfl;obtain⟨u,r,L⟩:=hlook j x v hj hv (by rcases kx with k | k;exact .inr (.inl k);exact .inr (.inr k));refine⟨u,r,.inr ?_⟩;rcases L with⟨k,_⟩ | ⟨_,c,hc,hcell⟩;·rcases kx with k' | k'<;>(rw[k]at k';cases k')
     ·have ncell:(x,NameKind.cell)∉scope.names:=λz=>by
       have a:=hnm _ z;rw[hl]at a;cases a
      refine⟨?_,c,?_,hcell.keeps keep⟩
      ·rcases jk (env:=X.env) hl with q | ⟨_,q⟩;·exact .inr q
       ·exact .inl q
      ·show (cellsFrom (s.heap.objs.size+1) scope.names []++z37 X.env scope.names []).lookup x=some c;rw[_bT];cases e:(cellsFrom (s.heap.objs.size+1) scope.names []).lookup x with
       | some c'=> exact absurd ((uI _ _ _ (_ab e)).resolve_left (by simp)) ncell | none=>
        obtain⟨c2,q⟩:=z2F (env:=X.env) scope.names [] hmem ⟨c,hc⟩;have q2:=hclo x c2 q;rw[hc]at q2;cases q2;simpa using q
 ·rcases both x c h with⟨_,q,_⟩ | q;·exact⟨_,q⟩
  ·obtain⟨v,z⟩:=I.cell x c q;exact⟨v,z.keeps keep⟩
 ·rcases both x c h with⟨_,_,l⟩ | q;·exact I.hok.fresh (by omega)
  ·exact I.freeC x c q
 ·unfold inner;rw[_x];exact z2K hmp
end
section
variable {M:Model}{A:Around}{E:Value->Shared->Prop}{s:Shared}
theorem z1M{scope:Scope}{env:Env}{cl:List (Str×Addr)}{Q:Env->Shared->Prop} (h:Q {scope:=scope,locals:=s.heap.objs.size,globals:=env.globals,cells:=cellsFrom (s.heap.objs.size+1) scope.names cl,qual:=env.qual,func:=none,code:=env.code,frame:=env.frame,builtins:=env.builtins} {s with heap:=pushCells (s.heap.push {cls:=.type "dict",data:=.dict #[]}) scope.names}): wpAny M A (newFunctionEnv scope env.globals cl [] env.qual none .none (some env)) Q E s:=by
 simp only[newFunctionEnv,_cF,_C];refine _a (wpAny_alloc ?_);refine _a (wpAny_layCells _ (λname kind cells=>by cases hkc:kind==NameKind.cell<;>simp[hkc]) _ _ _ _ ?_);rw[show ({s with heap:=s.heap.push {cls:=.type "dict",data:=.dict #[]}}:Shared).heap.objs.size=s.heap.objs.size+1 from _au ..];refine _a ?_;rw[List.forIn_nil];exact _j (_j h)
end
section
variable {prog:Program}{w:World}{A:Around}{E:Value->Shared->Prop}{R:Result->Shared->Prop}{s:Shared}
theorem z3S{elt target iter:Expr}{ifs:List Expr}{scope:Scope}{pos:Pos}{it acc:Value}{env:Env}(I:Nat->Shared->Prop) (turn:∀n s,I n s->wpAny (model prog w) A (pyNext it) (λr s₁=>match r with
   | none=>R (.ok .next) s₁ | some v=>wpAny (model prog w) A (letOwnedTupleGo target it v) (λ_ s₁'=>wpAny (model prog w) A (assign target env v) (λ_ s₂=> wpAny (model prog w) A (forIn ifs true λc r=>if r=true then do let ok <- isTrue c env (eval c env);pure (ForInStep.yield ok) else pure (ForInStep.yield r)) (λok s₃=> if ok=true then wpAny (model prog w) A (eval elt env) (λx s₄=> wpAny (model prog w) A (call (.builtin "list.append") [acc,x]) (λ_ s₅=>∃m,m<n/\I m s₅) (λ_ _=>False) s₄) (λ_ _=>False) s₃ else ∃m,m<n/\I m s₃) (λ_ _=>False) s₂) (λ_ _=>False) s₁') (λ_ _=>False) s₁) (λ_ _=>False) s) (n:Nat)(h:I n s): codeAny (model prog w) A (.compLoop (.ListComp elt [⟨target,iter,ifs,0⟩] scope pos) 0 it acc env) R s:=by
 refine codeAny_loop rfl I (λn s hI=>?_) n h;show wpAny _ A ((compTurn (.ListComp elt [⟨target,iter,ifs,0⟩] scope pos) 0 it acc env).onRaise (λx=>do noteFrame x env;theTreesLotGoes x)) _ _ s;refine wpAny_noted ?_;rw[compTurn_list];refine _a (_aC (_a (_t (turn n s hI) (λr s₁ h₁=>?_) λ_ _ h'=>h'.elim)));cases r with
 | none=>exact _j h₁ | some v=>
  refine _a (_t h₁ (λ_ s₁' h₁'=>?_) λ_ _ h'=>h'.elim);refine _a (_t h₁' (λ_ s₂ h₂=>_a (_t h₂ (λok s₃ h₃=>?_) λ_ _ h'=>h'.elim)) λ_ _ h'=>h'.elim);cases ok with
  | false=>exact _j ⟨rfl,h₃⟩ | true=> exact _a (_a (_t h₃ (λx s₄ h₄=>_a (_t h₄ (λ_ s₅ h₅=>_j (_j ⟨rfl,h₅⟩)) λ_ _ h'=>h'.elim)) λ_ _ h'=>h'.elim))
end
def z5I(X:Cx)(ifs:List Expr)(t:TT):Prop:= ∀(pins:List (Addr×Obj))(s:Shared)(O:St)(H:Hp)(Q:Bool->Hp->Prop),Inv X pins O H s->t O H Q-> wpAny (model X.prog X.w) X.A (forIn ifs true λc r=>if r=true then do let ok <- isTrue c X.env (eval c X.env);pure (ForInStep.yield ok) else pure (ForInStep.yield r)) (TP X pins O Q) X.xe s
theorem zak{X:Cx}:z5I X [] (λ_ H Q=>Q true H):=λ_ _ _ H _ I h=>wpAny_tests_nil ⟨H,I,h⟩
theorem zaw{X:Cx}{c:Expr}{t:TT}(h:PT X c t):z5I X [c] t:=λpins s O H Q I hq=>wpAny_tests_one (h pins s O H Q I hq)
theorem Inv.track {X:Cx} {pins:List (Addr×Obj)} {O:St} {H:Hp} {s:Shared} {a:Addr} {o:HO} (I:Inv X pins O H s) (f:z2B X pins H a) (new:xf X.prog X.w (upd H a o) s.heap a o):Inv X pins O (upd H a o) s:=by
 obtain⟨f0,f1,f2,f3,f4,f5⟩:=f;have hs:HOk X.prog X.w (upd H a o) s.heap:=λb u e=>by
  by_cases hb:b=a;·subst hb;rw[zH]at e;cases e;exact new
  ·rw[zj hb]at e;exact (I.hok b u e).stay (λ_ _ _ q=>q) (λc q=>by rw[zj (yE q f0)];exact q) λc xs q=>by rw[zj (yE q f0)];exact q
 exact I.step (h':=s.heap) (g':=s.gens) (d':=s.drawn) (t':=s.toks) (ch:=[a]) (λb hb=>by
  have e:b=a:=by simpa using hb
  subst e;exact⟨f3,f1,f4,f5⟩) (λb o _ _ _ e _=>e) (λb o _ _ _ e _=>⟨o.slots,e⟩) (λb o hb _ n=>by rw[zj (λz=>hb (by simp[z]))];exact n) (λb o _ e=>⟨o,e⟩) (λb xs q=>by rw[zj (yE q f0)];exact q) (λb u xs q=>by rw[zj (yE q f0)];exact q) (λb ps q=>⟨#[],by rw[zj (yE q f0),q];simp⟩) (λ_ q=>q) hs I.bare
def zav(wi:TI)(mp:List (Option Nat))(g:TG)(ti:TT)(te:TE):TE:=λO H Q=>wi O H λJ H1=>∃W:Nat->Nat->List V->Hp->Prop,(∃m,W 0 m [] H1)/\∀i m ys H,W i m ys H-> (J.stop i H/\ys.length<=sizeLine/\∀p,H p=none->Q (.ref p) (upd H p (.lst ys)))\/ (J.go i H/\∀x H',J.yld i H x H'->g x (inner mp O) H' λO2 H2=>(O2.length=(inner mp O).length/\∀(i:Nat) v,(inner mp O)[i]? = some (some v)->O2[i]? = some (some v))/\ ti O2 H2 λb H3=>if b=true then te O2 H3 λy H4=>ys.length<=sizeLine/\∃m',m'<m/\W (i+1) m' (ys++[y]) H4 else ∃m',m'<m/\W (i+1) m' ys H3)
def jN(X:Cx)(pins:List (Addr×Obj))(O:St)(C:Addr)(Q:VK)(acc:Value)(s':Shared):Prop:= ∃v Hf,Inv X pins O Hf s'/\xc v acc/\Q v Hf/\(∃m,s'.heap.Ns C m)/\z2B X pins Hf C
theorem kG {X:Cx} {tg iter elt:Expr} {ifs:List Expr} {scope:Scope} {pos:Pos} {g:TG} {ti:TT} {te:TE} {N':List Str} {mp:List (Option Nat)} {pins:List (Addr×Obj)} {O:St} {Q:VK} {J:It} {H2:Hp} {s₂:Shared} {it:Addr} {fp:List Addr} {tn:Nat->Heap->Prop} {E:Value->Shared->Prop} {RR:Value->Addr->Result->Shared->Prop} (hc:X.calm=true) (hg:∀ex s H,PG (zq X N' scope ex s H) tg g) (ht:∀ex s H,z5I (zq X N' scope ex s H) ifs ti) (he:∀ex s H,PE (zq X N' scope ex s H) elt te) (hkd:scope.kind=.function) (hnm:∀y∈scope.names,scope.names.lookup y.1=some y.2) (hfr:∀y∈scope.names,y.2=.free->X.env.kindOf y.1=some .cell\/X.env.kindOf y.1=some .free) (hmp:z0I X.N scope.names N' mp=true) (I2:Inv X pins O H2 s₂) (T:zbU X.prog X.w X.K tg J fp it tn) (st2:tn 0 s₂.heap) (f2:∀b∈fp,z2B X pins H2 b) (W:Nat->Nat->List V->Hp->Prop) (w0:∃m,W 0 m [] H2) (turn:∀i m ys H,W i m ys H-> (J.stop i H/\ys.length<=sizeLine/\∀p,H p=none->Q (.ref p) (upd H p (.lst ys)))\/ (J.go i H/\∀x H',J.yld i H x H'->g x (inner mp O) H' λO2 H2=>(O2.length=(inner mp O).length/\∀(i:Nat) v,(inner mp O)[i]? = some (some v)->O2[i]? = some (some v))/\ ti O2 H2 λb H3=>if b=true then te O2 H3 λy H4=>ys.length<=sizeLine/\∃m',m'<m/\W (i+1) m' (ys++[y]) H4 else ∃m',m'<m/\W (i+1) m' ys H3)) (hRR:∀acc C s',jN X pins O C Q acc s'->RR acc C (.ok .next) s'): wpAny (model X.prog X.w) X.A (newList []) (λacc s₃=>wpAny (model X.prog X.w) X.A (newFunctionEnv scope X.env.globals (z37 X.env scope.names []) [] X.env.qual none .none (some X.env)) (λcenv s₄=> codeAny (model X.prog X.w) X.A (.compStart (.ListComp elt [⟨tg,iter,ifs,0⟩] scope pos) 0 (.ref it) acc {cenv with scope:=relabel scope X.env}) (RR acc cenv.locals) s₄) E s₃) E s₂:=by
 refine _am ?_;have hf2:H2 s₂.heap.objs.size=none:=I2.hok.fresh (_d _);have fA:z2B X pins H2 s₂.heap.objs.size:=I2.fpOk (_d _) hf2;generalize hacc:s₂.heap.objs.size=acc at hf2 fA ⊢;have I3:Inv X pins O H2 {s₂ with heap:=s₂.heap.push {cls:=.type "list",data:=.seq ([]:List Value).toArray}}:=I2.kept (t':=s₂.toks) λb o e=>_e _ e;have ha3:(s₂.heap.push {cls:=.type "list",data:=.seq ([]:List Value).toArray}).get? acc=some (LCg.lst []):=by rw[<- hacc];exact _v _ rfl
 have sz3:(s₂.heap.push {cls:=.type "list",data:=.seq ([]:List Value).toArray}).objs.size=acc+1:=by rw[_au,hacc]
 have kp3:∀b o,s₂.heap.get? b=some o->(s₂.heap.push {cls:=.type "list",data:=.seq ([]:List Value).toArray}).get? b=some o:=λb o e=>_e _ e;show wpAny _ _ _ _ _ {s₂ with heap:=s₂.heap.push {cls:=.type "list",data:=.seq ([]:List Value).toArray}};generalize hs3:({s₂ with heap:=s₂.heap.push {cls:=.type "list",data:=.seq ([]:List Value).toArray}}:Shared)=s₃ at I3 ⊢;have ha3':s₃.heap.get? acc=some (LCg.lst []):=by rw[<- hs3];exact ha3
 have sz3':s₃.heap.objs.size=acc+1:=by rw[<- hs3];exact sz3
 have kp3':∀b o,s₂.heap.get? b=some o->s₃.heap.get? b=some o:=by rw[<- hs3];exact kp3
 have flt:∀b∈fp,b<acc:=λb hb=>by
  obtain⟨o,e,_⟩:=T.obj 0 _ st2 b hb;rw[<- hacc];exact _o e
 have fne:∀b∈fp,b≠acc:=λb hb=>_D (flt b hb);have tn3:tn 0 s₃.heap:=T.keep 0 _ _ st2 λb hb o e=>kp3' b o e;refine z1M ?_;rw[xU];have hex:∀b∈acc::fp,b<s₃.heap.objs.size/\H2 b=none/\b≠X.env.locals/\b∉X.fs/\(b∈X.ex\/X.s₀.heap.objs.size<=b)/\(∀x c,X.env.cells.lookup x=some c->c≠b):=λb hb=>by
  rcases _n.mp hb with z | hb
  ·subst z;exact⟨by rw[sz3'];exact _bg _,hf2,fA.2.1,fA.2.2.1,fA.2.2.2.1,fA.2.2.2.2.1⟩
  ·have q:=f2 b hb;exact⟨by rw[sz3'];exact _aR (flt b hb),q.1,q.2.1,q.2.2.1,q.2.2.2.1,q.2.2.2.2.1⟩
 have I4:=z2w (N':=N') (mp:=mp) (ex:=acc::fp) (s1:={s₃ with heap:=pushCells (s₃.heap.push {cls:=.type "dict",data:=.dict #[]}) scope.names}) I3 hkd hnm hfr hmp hex rfl rfl rfl;have kp4:∀b o,s₃.heap.get? b=some o->(pushCells (s₃.heap.push {cls:=.type "dict",data:=.dict #[]}) scope.names).get? b=some o:=λb o e=>_co _ _ b o (_e _ e);generalize hs4:({s₃ with heap:=pushCells (s₃.heap.push {cls:=.type "dict",data:=.dict #[]}) scope.names}:Shared)=s₄ at I4 ⊢;have ha4:s₄.heap.get? acc=some (LCg.lst []):=by rw[<- hs4];exact kp4 _ _ ha3'
 have tn4:tn 0 s₄.heap:=T.keep 0 _ _ tn3 λb hb o e=>by rw[<- hs4];exact kp4 b o e
 have Cne:acc≠s₃.heap.objs.size:=by rw[sz3'];exact _D (_bg _)
 have celln:∀b∈acc::fp,∀x c,(z5B X scope s₃.heap.objs.size).cells.lookup x=some c->c≠b:=λb hb=>(I4.ok.exf b hb).2;have stat:∀{H':Hp} {o:Obj},(∀b∈fp,H' b=none)->∀b∈fp,z2B (zq X N' scope (acc::fp) s₃ H2) [(acc,o)] H' b:=λ{H' o} hn b hb=> ⟨hn b hb,_D (by show b<s₃.heap.objs.size;rw[sz3'];exact _aR (flt b hb)),λhf=>I4.ok.exfs b (_w _ hb) hf,.inl (_w _ hb),celln b (_w _ hb),λp hp=>by
   have e:p=(acc,o):=by simpa[zq] using hp
   rw[e];exact _a8 (fne b hb)⟩;have pinA:∀{O':St} {H':Hp} {s':Shared} {its:List Value},Inv (zq X N' scope (acc::fp) s₃ H2) [] O' H' s'->H' acc=none->s'.heap.get? acc=some (LCg.lst its)->Inv (zq X N' scope (acc::fp) s₃ H2) [(acc,LCg.lst its)] O' H' s':=λ{O' H' s' its} J' n' e'=> J'.pins_of λp hp=>by
   have e:p=(acc,LCg.lst its):=by simpa using hp
   subst e;refine⟨e',n',Cne,λhf=>I4.ok.exfs acc _P hf,λv z=>?_⟩;have z':Data.seq _ _=Data.cell v:=z;cases z'
 obtain⟨m0,w0⟩:=w0;have loop:codeAny (model X.prog X.w) X.A (.compLoop (.ListComp elt [⟨tg,iter,ifs,0⟩] scope pos) 0 (.ref it) (.ref acc) (z5B X scope s₃.heap.objs.size)) (RR (.ref acc) s₃.heap.objs.size) s₄:=by
  refine z3S (λn s'=>∃i ys its H',Inv (zq X N' scope (acc::fp) s₃ H2) [] (inner mp O) H' s'/\tn i s'.heap/\(∀b∈fp,H' b=none)/\H' acc=none/\s'.heap.get? acc=some (LCg.lst its)/\yC ys its/\W i n ys H') ?_ m0 ⟨0,[],[],H2,I4,tn4,λb hb=>(f2 b hb).1,hf2,ha4,.nil,w0⟩;rintro n s5 ⟨i,ys,its,H5,I5,tn5,n5,na5,ea5,rv5,w5⟩;have I5':=pinA I5 na5 ea5;rcases turn i n ys H5 w5 with⟨stop,hz,q⟩ | ⟨go,step⟩
  ·refine _t (T.done (zq X N' scope (acc::fp) s₃ H2) rfl rfl rfl hc i _ s5 _ H5 (λ_ _=>False) I5' (stat n5) tn5 stop) (λr s6 ⟨hr,I6⟩=>?_) λ_ _ z=>z;subst hr;have ea6:=(I6.pin (acc,LCg.lst its) (by simp)).1;have un:Un (frs X.stack) (acc::fp) H2 H5 s₃.heap s6.heap:=I6.base;have I7:Inv X pins O H5 s6:=I3.call' (s':=s6) (I6.os) un I6.hok I6.bare λb hb=>by
    rcases _n.mp hb with z | hb;·subst z;exact⟨fA.2.2.2.1,fA.2.1,fA.2.2.2.2.1,fA.2.2.2.2.2⟩
    ·exact⟨(f2 b hb).2.2.2.1,(f2 b hb).2.1,(f2 b hb).2.2.2.2.1,(f2 b hb).2.2.2.2.2⟩
   have C7:z2B X pins H5 s₃.heap.objs.size:=I3.fpOk (_d _) I6.free;refine hRR _ _ s6 ⟨.ref acc,upd H5 acc (.lst ys),I7.track ⟨na5,fA.2⟩ ?_,rfl,q acc na5,?_,?_,C7.2⟩;·exact⟨hz,its,_,rv5,ea6⟩
   ·obtain⟨m,hm,_⟩:=I6.loc;exact⟨m,hm⟩
   ·rw[zj (_a8 Cne)];exact I6.free
  ·refine _t (T.item (zq X N' scope (acc::fp) s₃ H2) rfl rfl rfl hc i _ s5 _ H5 (λ_ _=>False) I5' (stat n5) tn5 go) (λr s6 ⟨u,hr,h6⟩=>?_) λ_ _ z=>z;subst hr;refine _t h6 (λ_ s7 ⟨x,H7,I7,r7,y7,tn7,n7⟩=>?_) λ_ _ z=>z;have I7':=I7.pinned (stat n7) (T.obj _ _ tn7);refine _t (hg _ _ _ _ s7 (inner mp O) H7 x u _ I7' r7 (step x H7 y7)) (λ_ s8 ⟨O8,H8,I8,⟨kl,kv⟩,q8⟩=>?_) λ_ _ z=>z;refine _t (ht _ _ _ _ s8 O8 H8 _ I8 q8) (λb s9 ⟨H9,I9,q9⟩=>?_) λ_ _ z=>z;have pinB:∀{O':St} {H':Hp} {s':Shared},Inv (zq X N' scope (acc::fp) s₃ H2) ([(acc,LCg.lst its)]++z2t fp s7.heap) O' H' s'->(∀b∈fp,H' b=none)/\H' acc=none/\s'.heap.get? acc=some (LCg.lst its)/\tn (i+1) s'.heap/\∀b∈fp,∀o,s7.heap.get? b=some o->s'.heap.get? b=some o:=λ{O' H' s'} J'=>by
    have z:=J'.pin (acc,LCg.lst its) (by simp[zq]);have zz:∀b∈fp,∀o,s7.heap.get? b=some o->s'.heap.get? b=some o/\H' b=none:=λb hb o e=>by
     have y:=J'.pin (b,o) (_s _ (_s _ (uy hb e)));exact⟨y.1,y.2.1⟩
    refine⟨λb hb=>?_,z.2.1,z.1,T.keep _ _ _ tn7 λb hb o e=>(zz b hb o e).1,λb hb o e=>(zz b hb o e).1⟩;obtain⟨o,e,_⟩:=T.obj _ _ tn7 b hb;exact (zz b hb o e).2
   cases b with
   | false=>
    rw[_l (by decide)]at q9 ⊢;obtain⟨m',lt,w9⟩:=q9;obtain⟨z1,z2,z3,z4,_⟩:=pinB I9;exact⟨m',lt,i+1,ys,its,H9,(I9.pins_of (pins':=[]) (λp hp=>absurd hp (by simp))).weak kl.symm kv,z4,z1,z2,z3,rv5,w9⟩ | true=>
    rw[_g rfl]at q9 ⊢;refine _t (he _ _ _ _ s9 O8 H9 _ I9 q9) (λyv s10 ⟨y,H10,I10,r10,hz,m',lt,w10⟩=>?_) λ_ _ z=>z;obtain⟨z1,z2,z3,z4,_⟩:=pinB I10;have zl:its.toArray.size<=sizeLine:=by rw[_k,<- rv5.length];exact hz
    refine append_at (hsz:=zl) z3 λh11 sb ea11=>?_;have I10':=(I10.pins_of (pins':=[]) (λp hp=>absurd hp (by simp))).weak kl.symm kv;have I11:Inv (zq X N' scope (acc::fp) s₃ H2) [] (inner mp O) H10 {s10 with heap:=h11}:=I10'.turned (t':=s10.toks) (λb o hb e=>(sb.2 b hb).trans e) z2 Cne (.inl _P) (celln acc _P) (λp hp=>absurd hp (by simp[zq]));exact⟨m',lt,i+1,ys++[y],its++[yv],H10,I11,T.keep _ _ _ z4 (λb hb o e=>(sb.2 b (fne b hb)).trans e),z1,z2,ea11.trans (_aJ some (LCg.lst_snoc its yv)),rv5.append (.cons r10 .nil),w10⟩
 exact codeAny_compStart_list loop (T.self _ 0 _ _ _ tn4 loop)
section
variable {X:Cx}{tg iter elt:Expr}{ifs:List Expr}{scope:Scope}{pos spos py:Pos}{wi:TI}{g:TG}{ti:TT}{te:TE}{N':List Str}{mp:List (Option Nat)}
theorem uX{pins:List (Addr×Obj)}{O:St}{H:Hp}{s:Shared}{h':Heap}{C:Addr}(I:Inv X pins O H s)(f:z2B X pins H C)(sb:Heap.SameBut C s.heap h'):Inv X pins O H {s with heap:=h'}:= I.turned (t':=s.toks) (λb o hb e=>(sb.2 b hb).trans e) f.1 f.2.1 f.2.2.2.1 f.2.2.2.2.1 f.2.2.2.2.2
theorem zc9 (N':List Str) (mp:List (Option Nat)) (hc:X.calm=true) (hi:PI X tg iter wi) (hg:∀ex s H,PG (zq X N' scope ex s H) tg g) (ht:∀ex s H,z5I (zq X N' scope ex s H) ifs ti) (he:∀ex s H,PE (zq X N' scope ex s H) elt te) (hkd:scope.kind=.function) (hnm:∀y∈scope.names,scope.names.lookup y.1=some y.2) (hfr:∀y∈scope.names,y.2=.free->X.env.kindOf y.1=some .cell\/X.env.kindOf y.1=some .free) (hmp:z0I X.N scope.names N' mp=true) (hs:∀x,foldedSetIterable iter X.env x=pure x:=by intro _;rfl):PE X (.ListComp elt [⟨tg,iter,ifs,0⟩] scope pos) (zav wi mp g ti te):=by
 intro pins s O H Q I h;rw[eval_ListComp];refine _bb (use:=none) rfl hs (vi λy hy hf=>I.ok.has _ (hfr y hy hf)) hkd (λy hy hl=>by rw[hnm y hy,hl]) (thn (hi pins s O H _ I h) λxv s₁ h₁=>thn h₁ λitv s₂ h₂=>?_);obtain⟨it,fp,tn,J,H2,e,I2,T,st2,f2,W,w0,turn⟩:=h₂;subst e;refine kG (N':=N') (mp:=mp) (O:=O) (pins:=pins) (Q:=Q) (RR:=λacc C=>compPost (model X.prog X.w) X.A X.xe none (EP X pins O Q) acc C) hc hg ht he hkd hnm hfr hmp I2 T st2 f2 W w0 turn ?_;rintro acc C s' ⟨v,Hf,I3,r,q,⟨m,hm⟩,f⟩;exact⟨m,hm,λh' sb=>⟨v,Hf,uX I3 f sb,r,q⟩⟩
theorem z6V {i:Nat} {y:Str} (N':List Str) (mp:List (Option Nat)) (hN:X.N.Nodup) (hy:X.N[i]? = some y) (hyl:Loc X.env.scope y) (hc:X.calm=true) (hi:PI X tg iter wi) (hg:∀ex s H,PG (zq X N' scope ex s H) tg g) (ht:∀ex s H,z5I (zq X N' scope ex s H) ifs ti) (he:∀ex s H,PE (zq X N' scope ex s H) elt te) (hkd:scope.kind=.function) (hnm:∀y∈scope.names,scope.names.lookup y.1=some y.2) (hfr:∀y∈scope.names,y.2=.free->X.env.kindOf y.1=some .cell\/X.env.kindOf y.1=some .free) (hmp:z0I X.N scope.names N' mp=true) (hs:∀x,foldedSetIterable iter X.env x=pure x:=by intro _;rfl) (hsw:swapsWith (.ListComp elt [⟨tg,iter,ifs,0⟩] scope pos) (some (.Name y py)) spos.line X.env=pure true:=by rfl) (hf:X.fn y=true\/X.env.scope.names.lookup y=some .local:=by first | exact .inl rfl | exact .inr rfl | assumption): PS X (.Assign [.Name y py] (.ListComp elt [⟨tg,iter,ifs,0⟩] scope pos) spos) (zfC (zav wi mp g ti te) (z0g i)):=by
 intro pins s O H D I h;rw[_b9 _ _ _ _ hsw];refine _a (_aC (_a ?_));show wpAny _ X.A (do let _ <- comprehension (.ListComp elt [⟨tg,iter,ifs,0⟩] scope pos) scope X.env _ (newList []) false (eval iter X.env) (some (assign (.Name y py) X.env))) _ _ s;refine _a (_t (_bb (use:=some (assign (.Name y py) X.env)) (Q:=λ_ s'=>SP X pins D .next s') rfl hs (vi λy hy hf=>I.ok.has _ (hfr y hy hf)) hkd (λy hy hl=>by rw[hnm y hy,hl]) (thn (hi pins s O H _ I h) λxv s₁ h₁=>thn h₁ λitv s₂ h₂=>?_)) (λ_ s' hq=>_j (_j hq)) λ_ _ e=>e);obtain⟨it,fp,tn,J,H2,e,I2,T,st2,f2,W,w0,turn⟩:=h₂;subst e;refine kG (N':=N') (mp:=mp) (O:=O) (pins:=pins) (Q:=λv H'=>D.nx (O.set i (some v)) H') (RR:=λacc C=>compPost (model X.prog X.w) X.A X.xe (some (assign (.Name y py) X.env)) (λ_ s'=>SP X pins D .next s') acc C) hc hg ht he hkd hnm hfr hmp I2 T st2 f2 W w0 turn ?_;rintro acc C s' ⟨v,Hf,I3,r,q,⟨m,hm⟩,f⟩;refine _bY (ke I3 hN hy hyl r (λs'' I4 ⟨a,sb,ha⟩=>?_) hf);have hC:C≠a:=by
  rcases ha with z | z;·rw[z];exact f.2.1
  ·exact _a8 (f.2.2.2.2.1 y a z)
 exact⟨m,hm.sameBut sb hC,λh' sb'=>⟨_,Hf,uX I4 f sb',q⟩⟩
end
section
variable {κ:Type} [DecidableEq κ]
noncomputable def kz(kvs:List (κ×V))(k:κ):Option V:=(kvs.find? λkv=>decide (kv.1=k)).map (·.2)
noncomputable def zbh(kvs:List (κ×V))(k:κ)(v:V):List (κ×V):= if (kvs.any λkv=>decide (kv.1=k))=true then kvs.map (λkv=>if kv.1=k then (kv.1,v) else kv) else kvs++[(k,v)]
theorem z9w{k:κ}:kz ([]:List (κ×V)) k=none:=rfl
theorem wk{p:κ×V}{r:List (κ×V)}{k:κ}(e:p.1=k):kz (p::r) k=some p.2:=by simp[kz,_bt,e]
theorem yW{p:κ×V}{r:List (κ×V)}{k:κ}(e:¬ p.1=k):kz (p::r) k=kz r k:=by simp[kz,_bt,e]
theorem z5O(k:κ):∀kvs:List (κ×V),(kvs.any λkv=>decide (kv.1=k))=(kz kvs k).isSome
 | []=>rfl | p::r=>by
  rw[List.any_cons];by_cases e:p.1=k;·simp only[wk e,_aO e,Bool.true_or,_cF]
  ·rw[yW e,_N e,Bool.false_or];exact z5O k r
theorem z4p(k j:κ)(y:V):∀kvs:List (κ×V),kz kvs k=none->kz (kvs++[(k,y)]) j=if j=k then some y else kz kvs j
 | [],_=>by
  by_cases e:k=j;·rw[_g e.symm];exact wk (p:=(k,y)) e
  ·rw[_l (λz=>e z.symm)];exact yW (p:=(k,y)) e | p::r,hn=>by
  rw[_X];have hk:¬ p.1=k:=λz=>by rw[wk z]at hn;cases hn
  rw[yW hk]at hn;have ih:=z4p k j y r hn;by_cases e:p.1=j;·rw[wk e,wk e,_l (λz=>hk (e.trans z))]
  ·rw[yW e,yW e,ih]
theorem z5z(kvs:List (κ×V))(k:κ)(v:V):(zbh kvs k v).length<=kvs.length+1:=by
 unfold zbh;split;·rw[_x];omega
 ·rw[_y,_c,_i];omega
theorem z9d{kvs:List (κ×V)}{k:κ}(v:V)(h:kz kvs k=none):zbh kvs k v=kvs++[(k,v)]:=by
 unfold zbh;rw[z5O,h];exact _l (by decide)
theorem zcW.getD{o:Option V}{u:Option Value}{d:V}{d':Value}(r:zcW o u)(rd:xc d d'):xc (o.getD d) (u.getD d'):=by cases o with
 | none=>cases u with
  | none=>exact rd | some _=>exact (show False from r).elim
 | some _=>cases u with
  | none=>exact (show False from r).elim | some _=>exact r
theorem KV.val{kvs:List (κ×V)}{vs:List (κ×Value)}(r:KV kvs vs)(k:κ):zcW (kz kvs k) (valueAt vs k):=by
 unfold KV at r;induction r with
 | nil=>exact True.intro | @cons p q ps qs h t ih=>
  obtain⟨h1,h2⟩:=h;by_cases e:p.1=k
  ·have e':q.1=k:=h1.symm.trans e;have b:valueAt (q::qs) k=some q.2:=by simp[valueAt,_bt,e']
   rw[wk e,b];exact h2
  ·have e':¬ q.1=k:=λz=>e (h1.trans z);have b:valueAt (q::qs) k=valueAt qs k:=by simp[valueAt,_bt,e']
   rw[yW e,b];exact ih
theorem KV.any{kvs:List (κ×V)}{vs:List (κ×Value)}(r:KV kvs vs)(k:κ):(kvs.any λkv=>decide (kv.1=k))=vs.any λkv=>decide (kv.1=k):=by
 unfold KV at r;induction r with
 | nil=>rfl | cons h t ih=>rw[List.any_cons,List.any_cons,ih,h.1]
theorem KV.repl{kvs:List (κ×V)}{vs:List (κ×Value)}(r:KV kvs vs)(k:κ){y:V}{u:Value}(ry:xc y u): KV (kvs.map λkv=>if kv.1=k then (kv.1,y) else kv) (vs.map λkv=>if kv.1=k then (kv.1,u) else kv):=by
 unfold KV at r ⊢;induction r with
 | nil=>exact .nil | @cons p q ps qs h t ih=>
  rw[_U,_U];refine .cons ?_ ih;obtain⟨h1,h2⟩:=h;by_cases e:p.1=k;·rw[_g e,_g (h1.symm.trans e)];exact⟨h1,ry⟩
  ·rw[_l e,_l (λz=>e (h1.trans z))];exact⟨h1,h2⟩
theorem KV.put{kvs:List (κ×V)}{vs:List (κ×Value)}(r:KV kvs vs)(k:κ){y:V}{u:Value}(ry:xc y u):KV (zbh kvs k y) (stored vs k u):=by
 unfold zbh stored;rw[r.any k];by_cases e:(vs.any λkv=>decide (kv.1=k))=true;·rw[_g e,_g e];exact r.repl k ry
 ·rw[_l e,_l e];exact Paired.snoc r ⟨rfl,ry⟩
theorem KV.length{kvs:List (κ×V)}{vs:List (κ×Value)}(r:KV kvs vs):kvs.length=vs.length:=Paired.length r
end
theorem zcT{P:Program}{w:World}{k:Key}{u:Value}(r:xc (kV k) u):(xo P w).is k u=true:=by cases k with
 | inl i=>obtain⟨t,e⟩:=(show ∃t,u=Value.int i t from r);subst e;exact z4Y P w i t | inr x=>obtain⟨t,e⟩:=(show ∃t,u=Value.str x t from r);subst e;exact z5e P w x t
theorem z3P{P:Program}{w:World}:∀{ks:List Key}{us:List Value},yC (ks.map kV) us->ItemsAre (xo P w) ks us
 | [],_,r=>by rw[List.map_nil]at r;cases r;exact .nil | k::ks,_,r=>by
  rw[_U]at r;cases r with | cons h t=>exact .cons (zcT h) (z3P t)
abbrev KT(H:Hp):List (List Key×V)->List (List Key×Addr×Value)->Prop:=Paired λp q=>p.1=q.1/\H q.2.1=some (.tup (p.1.map kV))/\xc p.2 q.2.2
theorem KT.val{H:Hp}{kvs:List (List Key×V)}{xs:List (List Key×Addr×Value)}(r:KT H kvs xs)(k:List Key):zcW (kz kvs k) ((atKey xs k).map (·.2)):=by induction r with
 | nil=>exact True.intro | @cons p q ps qs h t ih=>
  obtain⟨h1,_,h2⟩:=h;by_cases e:p.1=k
  ·have e':q.1=k:=h1.symm.trans e;have b:atKey (q::qs) k=some q.2:=by simp[atKey,_bt,e']
   rw[wk e,b];exact h2
  ·have e':¬ q.1=k:=λz=>e (h1.trans z);have b:atKey (q::qs) k=atKey qs k:=by simp[atKey,_bt,e']
   rw[yW e,b];exact ih
section
variable {P:Program}{w:World}{H:Hp}{h:Heap}{a:Addr}
theorem zet{u:HO}(ok:HOk P w H h)(e:Rd H a u):xf P w H h a u:=e.ok ok
theorem zcV{kvs:List (Key×V)}(ok:HOk P w H h)(e:Rd H a (.dK kvs)):kvs.length<=sizeLine/\(a==sysModules)=false/\∃vs,KV kvs vs/\h.DictOf (xo P w) a vs:= show xf P w H h a (.dK kvs) from zet ok e
theorem zg9{kvs:List (Key×V)}(ok:HOk P w H h)(e:H a=some (.dK kvs)):kvs.length<=sizeLine/\(a==sysModules)=false/\∃vs,KV kvs vs/\h.DictOf (xo P w) a vs:=zcV ok (.inl e)
theorem zba{ks:List Key}(ok:HOk P w H h)(e:H a=some (.tup (ks.map kV))):(tupleKind (xo P w)).is h ks a:=by
 obtain⟨_,its,r,o,h1,h2,_,n,h3⟩:=(show xf P w H h a (.tup (ks.map kV)) from ok a _ e);exact⟨o,its.toArray,n,h1,h2,h3,by simpa using z3P r⟩
theorem zeH{kvs:List (List Key×V)}(ok:HOk P w H h)(e:Rd H a (.dT kvs)):kvs.length<=sizeLine/\(a==sysModules)=false/\ ∃xs,KT H kvs xs/\h.DictOfH (tupleKind (xo P w)) a xs:=by
 obtain⟨z,y,xs,r,o,es,ep,h1,h2,h3,h4,h5⟩:=(show xf P w H h a (.dT kvs) from zet ok e);refine⟨z,y,xs,r,o,es,ep,h1,h2,h3,h4,λx hx=>?_,h5⟩;have all:∀{l:List (List Key×V)}{m:List (List Key×Addr×Value)},KT H l m->∀x∈m,(tupleKind (xo P w)).is h x.1 x.2.1:=by
  intro l m q;induction q with
  | nil=>intro x hx;exact nomatch hx | @cons p q ps qs hq t ih=>
   intro x hx;rcases _n.mp hx with e | hx
   ·subst e;exact zba ok (by rw[<- hq.1];exact hq.2.1)
   ·exact ih x hx
 exact all r x hx
end
def zgL(H:Hp)(a:Addr)(y:V)(r:Option V):Prop:= (∃kvs k,Rd H a (.dK kvs)/\y=kV k/\r=kz kvs k)\/∃kvs k b,Rd H a (.dT kvs)/\y=.ref b/\H b=some (.tup (k.map kV))/\r=kz kvs k
section
variable {X:Cx}{pins:List (Addr×Obj)}{O:St}{H:Hp}{s:Shared}{a:Addr}{y v:V}{u r:Value}{o:Option V}{A:Around}{E:Value->Shared->Prop}
theorem Inv.big(I:Inv X pins O H s):sysModules<s.heap.objs.size:=by
 have h:mainGlobals<s.heap.objs.size:=(I.mod.glob.keeps I.bk).lt;exact Nat.lt_trans (by decide) h
theorem zbv {h':Heap} {t':Nat} {ob:HO} (I:Inv X pins O H s) (mu:Mut (H a)) (hs:Heap.SameBut a s.heap h') (he:∃q,h'.get? a=some q) (new:xf X.prog X.w (upd H a ob) h' a ob): Inv X pins O (upd H a ob) {s with heap:=h',toks:=t'}:= I.write (x:=a) (e:=a) mu (.inl rfl) (λb q hb z=>(hs.2 b hb).trans z) he new
theorem zdp{P:Program}{w:World}{H':Hp}{h':Heap}{kvs:List (Key×V)}{vs:List (Key×Value)}(z:kvs.length<=sizeLine)(hd:(a==sysModules)=false)(rel:KV kvs vs)(dd:h'.DictOf (xo P w) a vs): xf P w H' h' a (.dK kvs):=⟨z,hd,vs,rel,dd⟩
end
theorem z9J{P:Program}{w:World}{H:Hp}(h:Heap)(hb:sysModules<h.objs.size):xf P w H (h.push {cls:=.type "dict",data:=.dict #[]}) h.objs.size (.dT []):= ⟨_aA _,beq_eq_false_iff_ne.mpr (_a8 (_D hb)),[],.nil,_,#[],0,_v _ rfl,⟨rfl,rfl,rfl⟩,rfl,rfl,List.nodup_nil⟩
def zdZ:TE:=λ_ H Q=>∀p,H p=none->Q (.ref p) (upd H p (.dT []))
section
variable {X:Cx}{pos:Pos}
theorem zaq:PE X (.Dict [] [] pos) zdZ:=λpins s O H Q I h=> wpAny_Dict_empty ⟨.ref s.heap.objs.size,_,I.laid (a:=s.heap.objs.size) (o:=.dT []) (t':=s.toks) (λ_ _ q=>_e _ q) (_d _) (z9J s.heap I.big),rfl,h _ (I.hok.fresh (_d _))⟩
end
structure M2(X:Cx)(o:Expr)(m:Str)(apos:Pos)(e f:Expr)(cpos:Pos):Prop where
 base:attributeBase o m X.env (eval o X.env)=eval o X.env
 few:((backTo cpos (starEach [e,f] X.env)).all (λx=>!x.1)&&(backToKw cpos (keywordEach [] X.env)).all (λx=>x.1.isSome) && decide (([e,f]:List Expr).length+([]:List Keyword).length+(if ([]:List Keyword).isEmpty then 0 else 1)<30))=true
 line:(apos.endLine==cpos.line)=true
 trees:backTo cpos (starEach [e,f] X.env)=[(false,eval e X.env),(false,eval f X.env)]
def IsD(H:Hp)(a:Addr):Prop:=(∃kvs,Rd H a (.dK kvs))\/∃kvs,Rd H a (.dT kvs)
theorem zef{X:Cx}{pins:List (Addr×Obj)}{O:St}{H:Hp}{s:Shared}{a:Addr}(I:Inv X pins O H s)(d:IsD H a): s.TypeIs (.ref a) "dict"/\(∀b,Value.ref a=.ref b->∃ob,s.heap.get? b=some ob/\ob.dict=none)/\(a==sysModules)=false:=by
 rcases d with⟨kvs,e⟩ | ⟨kvs,e⟩
 ·obtain⟨_,hd,vs,_,dd⟩:=zcV I.hok e;refine⟨dd.typeIs,λb q=>?_,hd⟩;cases q;obtain⟨ob,_,_,h1,h2,_⟩:=dd;exact⟨ob,h1,h2.2.1⟩
 ·obtain⟨_,hd,xs,_,dd⟩:=zeH I.hok e;refine⟨dd.typeIs,λb q=>?_,hd⟩;cases q;obtain⟨ob,_,_,h1,h2,_⟩:=dd;exact⟨ob,h1,h2.2.1⟩
section
variable {X:Cx}{pins:List (Addr×Obj)}{O:St}{H:Hp}{s:Shared}{a:Addr}{y d:V}{u r:Value}{o:Option V}{A:Around}{E:Value->Shared->Prop}
theorem zdz{Q:Value->Shared->Prop}(hu:A.units+1<cLine)(I:Inv X pins O H s)(g:zgL H a y o)(ry:xc y u)(rd:xc d r)(h:∀w' s',Inv X pins O H s'->xc (o.getD d) w'->Q w' s'): wpAny (model X.prog X.w) A (call (.builtin "dict.get") [.ref a,u,r]) Q E s:=by
 rcases g with⟨kvs,k,e,ey,l⟩ | ⟨kvs,k,b,e,ey,eb,l⟩
 ·subst ey;obtain⟨z,hd,vs,rel,dd⟩:=zcV I.hok e;refine call_meetsIn _ca dd.typeIs PySem.F.entry_dict_get (PySem.F.args_dict_get_3 _ _ _) (meets_dict_get_default (xo X.prog X.w) a (zcT ry) hd r) ⟨_,dd.mapOf,h _ _ (I.tok _) ?_⟩;rw[l];exact (rel.val k).getD rd
 ·subst ey;cases (show u=Value.ref b from ry);obtain⟨z,hd,xs,rel,dd⟩:=zeH I.hok e;refine call_meetsIn _ca dd.typeIs PySem.F.entry_dict_get (PySem.F.args_dict_get_3 _ _ _) (meetsH_dict_get_default (tupleKind (xo X.prog X.w)) a b hd r) ⟨tupleKind_room_in1 hu,k,xs,zba I.hok eb,dd,h _ _ (I.tok _) ?_⟩;rw[l];exact (rel.val k).getD rd
end
def zeu(td ty tx:TE):TE:=λO H Q=>td O H λx H1=>∃a,x=.ref a/\IsD H1 a/\ty O H1 λy H2=>tx O H2 λz H3=>∃o,zgL H3 a y o/\Q (o.getD z) H3
section
variable {X:Cx}{o e f:Expr}{apos cpos:Pos}{td ty tx:TE}
theorem z9j(hu:X.A.units+1<cLine)(ho:PE X o td)(he:PE X e ty)(hf:PE X f tx)(m:M2 X o "get" apos e f cpos):PE X (.Call (.Attribute o "get" apos) [e,f] [] cpos) (zeu td ty tx):=by
 intro pins s O H Q I h;refine wpAny_Call_method m.base m.few m.line PySem.F.plainAttrs_dict _ca PySem.F.type_dict_get (thn (ho pins s O H _ I h) λu s1 ⟨x,H1,I1,rx,a,ex,d,q1⟩=>?_);subst ex;obtain rfl:u=Value.ref a:=rx;obtain⟨t1,t2,_⟩:=zef I1 d;refine⟨t1,t2,?_⟩;rw[m.trees];refine Calls.callWith_builtin rfl (_cg (_bR (thn (he pins s1 O H1 _ I1 q1) λiv s2 ⟨y,H2,I2,ry,q2⟩=> _bR (thn (hf pins s2 O H2 _ I2 q2) λfv s3 ⟨z,H3,I3,rz,ov,g,q3⟩=>_cP ?_))));exact zdz hu I3 g ry rz λw' s4 I4 rw'=>⟨_,H3,I4,rw',q3⟩
end
end L2
set_option maxHeartbeats 4000000
namespace Dd
open L2
theorem z9v(xs:List Expr)(k:Nat)(p:Pos)(es:List Expr)(env:Env):starEach (.Tuple xs k p::es) env=(false,eval (.Tuple xs k p) env)::starEach es env:=rfl
theorem za1(xs:List Expr)(p:Pos)(es:List Expr)(env:Env):starEach (.List xs p::es) env=(false,eval (.List xs p) env)::starEach es env:=rfl
theorem jI(f:Expr)(xs:List Expr)(ks:List Keyword)(p:Pos)(es:List Expr)(env:Env):starEach (.Call f xs ks p::es) env=(false,eval (.Call f xs ks p) env)::starEach es env:=rfl
theorem z5Z(a:Expr)(o:Operator)(b:Expr)(p:Pos)(es:List Expr)(env:Env):starEach (.BinOp a o b p::es) env=(false,eval (.BinOp a o b p) env)::starEach es env:=rfl
theorem z36(a b:Expr)(p:Pos)(es:List Expr)(env:Env):starEach (.Subscript a b p::es) env=(false,eval (.Subscript a b p) env)::starEach es env:=rfl
theorem xk(a:Expr)(g:List Comprehension)(sc:Scope)(p:Pos)(es:List Expr)(env:Env):starEach (.ListComp a g sc p::es) env=(false,eval (.ListComp a g sc p) env)::starEach es env:=rfl
theorem z2u(c:Const)(j:Nat)(p:Pos)(es:List Expr)(env:Env):starEach (.Constant c j p::es) env=(false,eval (.Constant c j p) env)::starEach es env:=rfl
theorem zr(x:Str)(p:Pos)(es:List Expr)(env:Env):starEach (.Name x p::es) env=(false,eval (.Name x p) env)::starEach es env:=rfl
theorem zct(o:UnaryOp)(a:Expr)(p:Pos)(es:List Expr)(env:Env):starEach (.UnaryOp o a p::es) env=(false,eval (.UnaryOp o a p) env)::starEach es env:=rfl
inductive D where | non | bl (b:Bool) | int (i:Int) | str (x:Str) | tup (xs:List D) | lst (xs:List D) | dct | loc (l:Nat) | dlo (l:Nat) | fn (x:Str) | exc (x:Str) | scr (xs:List D)
abbrev Sto:=List (List D)
abbrev Ev:=List (Option D)
inductive R(α:Type) where | ok (a:α)(s:Sto) | ex (c:Str)(s:Sto) | no
noncomputable def R.bind{α β:Type}(r:R α)(k:α->Sto->R β):R β:=match r with
 | .ok a s=>k a s | .ex c s=>.ex c s | .no=>.no
@[simp] theorem R.bind_ok {α β:Type}(a:α)(s:Sto)(k:α->Sto->R β):(R.ok a s).bind k=k a s:=id rfl
abbrev Rb:=@R.bind_ok
@[simp] theorem R.bind_ex {α β:Type}(c:Str)(s:Sto)(k:α->Sto->R β):(R.ex c s:R α).bind k=.ex c s:=id rfl
noncomputable def D.flat:D->Bool
 | .tup xs=>flats xs | .lst xs=>flats xs | .scr xs=>flats xs | .loc _=>false | .dlo _=>false | _=>true
where flats:List D->Bool
 | []=>true | x::xs=>x.flat&&flats xs
noncomputable def z9q(C a:Addr):HO:=.ext λh=>∃o vs,h.get? a=some o/\o.cls=.ref C/\o.data=.fields vs
structure Gm where
 m:Str->Option Value
 K:W.Frag
noncomputable abbrev gm(X:Cx):Gm:=⟨X.mg,X.K⟩
def IsL(H:Hp)(a:Addr):Prop:=∃vs,H a=some (.lst vs)
def IsC(H:Hp)(a:Addr):Prop:=(∃kvs,H a=some (.dT kvs))\/(∃o kvs,H a=some (.frz o (.dT kvs)))\/(∃kvs,kvs≠[]/\H a=some (.dK kvs))\/∃o kvs,H a=some (.frz o (.dK kvs))
def Own(H:Hp)(Y:List Addr)(b:Addr):Prop:=∃a∈Y,∃kvs k,H a=some (.dK kvs)/\(k,V.ref b)∈kvs
theorem IsL.notC{H:Hp}{a:Addr}(h:IsL H a)(h':IsC H a):False:=by obtain⟨_,e⟩:=h;rcases h' with⟨_,e'⟩ | ⟨_,_,e'⟩ | ⟨_,_,e'⟩ | ⟨_,_,e'⟩<;>rw[e]at e'<;>cases e'
noncomputable def zhS:Key->D
 | .inl i=>.int i | .inr x=>.str x
noncomputable def zhU:V->Option D
 | .int i=>some (.int i) | .bl b=>some (.bl b) | _=>none
noncomputable def zcS:List D->List (List Key×V)->Prop
 | [],kvs=>kvs=[] | d::ds,kvs=>∃k v x r,kvs=(k,v)::r/\zhU v=some x/\d=.tup [.tup (k.map zhS),x]/\zcS ds r
def KL(K:W.Frag)(a:Addr)(xs:List V):Prop:=∃(o:Obj)(its:Array Value)(n:Nat),K.lookup a=some o/\o.cls=.type "list"/\o.dict=none/\o.data=.seq its n/\its.size<=sizeLine/\yC xs its.toList
section
variable (mg:Gm)
mutual
noncomputable def Den(H:Hp)(Y:List Addr):D->V->Prop
 | .non,v=>v=.non | .bl b,v=>v=.bl b | .int i,v=>v=.int i | .str x,v=>v=.str x | .tup ds,v=>∃a vs,v=.ref a/\H a=some (.tup vs)/\zC H Y ds vs | .lst ds,v=>∃a o vs,v=.ref a/\H a=some (.frz o (.lst vs))/\zC H Y ds vs | .dct,v=>∃a,v=.ref a/\H a=some (.dK []) | .loc l,v=>∃a,v=.ref a/\Y[l]? = some a/\IsL H a | .dlo l,v=>∃a,v=.ref a/\Y[l]? = some a/\IsC H a | .fn x,v=>∃a,v=.ref a/\mg.m x=some (.ref a) | .exc x,v=>∃a C,v=.ref a/\mg.m x=some (.ref C)/\H a=some (z9q C a) | .scr ds,v=>∃a vs,v=.ref a/\((∃o,H a=some (.frz o (.lst vs)))\/KL mg.K a vs)/\zC H Y ds vs
noncomputable def zC(H:Hp)(Y:List Addr):List D->List V->Prop
 | [],vs=>vs=[] | d::ds,vs=>∃v r,vs=v::r/\Den H Y d v/\zC H Y ds r
end
noncomputable def uV(H:Hp)(Y:List Addr):List D->List (Key×V)->Prop
 | [],kvs=>kvs=[] | d::ds,kvs=>∃k ys b vs r,kvs=(Sum.inl k,V.ref b)::r/\zC mg H Y ys vs/\((d=.tup [.int k,.lst ys]/\H b=some (.lst vs))\/(d=.tup [.int k,.lst ys,.non]/\∃o,H b=some (.frz o (.lst vs))))/\uV H Y ds r
def zc8(ys:List D):Prop:=∀d∈ys,∃k zs,d=.tup [.int k,.lst zs,.non]
def uB(H:Hp)(Y:List Addr)(xs:List D)(a:Addr):Prop:=(∃vs,H a=some (.lst vs)/\zC mg H Y xs vs)\/(∃kvs,H a=some (.dT kvs)/\zcS xs kvs)\/(∃o kvs ys,H a=some (.frz o (.dT kvs))/\xs=.non::ys/\zcS ys kvs)\/(∃kvs,kvs≠[]/\H a=some (.dK kvs)/\uV mg H Y xs kvs)\/∃o kvs ys,H a=some (.frz o (.dK kvs))/\xs=.non::ys/\uV mg H Y ys kvs/\zc8 ys/\kvs≠[]
structure Rep(H:Hp)(Y:List Addr)(s:Sto):Prop where
 len:Y.length=s.length
 nd:Y.Nodup
 cell:∀(l:Nat)(xs:List D),s[l]? = some xs->∃a,Y[l]? = some a/\uB mg H Y xs a
 flat:∀xs∈s,D.flat.flats xs=true
 own:∀b,Own H Y b->b∉Y
 uq:∀a∈Y,∀a'∈Y,∀kvs kvs' (i j:Nat) k k' b,H a=some (.dK kvs)->H a'=some (.dK kvs')->kvs[i]? = some (k,V.ref b)->kvs'[j]? = some (k',V.ref b)->a=a'/\i=j
structure yJ(H:Hp)(Y:List Addr)(H':Hp)(Y':List Addr)(s':Sto):Prop where
 rep:Rep mg H' Y' s'
 pre:Y <+: Y'
 keep:∀b o,H b=some o->b∉Y->(Own H Y b->∀vs,o≠.lst vs)->H' b=some o
 new:∀a∈Y',a∉Y->H a=none
 mt:∀a∈Y,(IsL H a/\IsL H' a)\/(IsC H a/\IsC H' a/\∀o u,H a=some (.frz o u)->H' a=some (.frz o u))
 dom:∀b,H' b=none->H b=none
 ow:∀b,Own H' Y' b->Own H Y b\/H b=none
end
section
variable {mg:Gm}{H H' H1 H2:Hp}{Y Y' Y1 Y2:List Addr}{s s' s1 s2:Sto}
theorem uB.kind{xs:List D}{a:Addr}(h:uB mg H Y xs a):IsL H a\/IsC H a:=h.imp (λ⟨vs,e,_⟩=>⟨vs,e⟩) λh=>h.imp (λ⟨k,e,_⟩=>⟨k,e⟩) λh=>h.imp (λ⟨o,k,_,e,_⟩=>⟨o,k,e⟩) λh=>h.imp (λ⟨k,n,e,_⟩=>⟨k,n,e⟩) λ⟨o,k,_,e,_⟩=>⟨o,k,e⟩
theorem Rep.mt(r:Rep mg H Y s):∀a∈Y,IsL H a\/IsC H a:=λa ha=>by
 obtain⟨l,hl,e⟩:=_aj.mp ha;have hl':l<s.length:=by rw[<- r.len];exact hl
 obtain⟨b,e1,c⟩:=r.cell l s[l] (_q hl');rw[_q hl]at e1;have:Y[l]=b:=_z e1;rw[<- e,this];exact c.kind
theorem Rep.at_(r:Rep mg H Y s){l:Nat}{xs:List D}{a:Addr}(h:s[l]? = some xs)(ha:Y[l]? = some a)(k:IsL H a):∃vs,H a=some (.lst vs)/\zC mg H Y xs vs:=by
 obtain⟨b,e1,c⟩:=r.cell l xs h;rw[ha]at e1;cases e1;rcases c with c | c;·exact c
 ·exact (k.notC (c.imp (λ⟨k,e,_⟩=>⟨k,e⟩) λh=>h.imp (λ⟨o,k,_,e,_⟩=>⟨o,k,e⟩) λh=>h.imp (λ⟨k,n,e,_⟩=>⟨k,n,e⟩) λ⟨o,k,_,e,_⟩=>⟨o,k,e⟩)).elim
theorem Rep.dic(r:Rep mg H Y s){l:Nat}{xs:List D}{a:Addr}(h:s[l]? = some xs)(ha:Y[l]? = some a)(k:IsC H a):(∃kvs,H a=some (.dT kvs)/\zcS xs kvs)\/(∃o kvs ys,H a=some (.frz o (.dT kvs))/\xs=.non::ys/\zcS ys kvs)\/(∃kvs,kvs≠[]/\H a=some (.dK kvs)/\uV mg H Y xs kvs)\/∃o kvs ys,H a=some (.frz o (.dK kvs))/\xs=.non::ys/\uV mg H Y ys kvs/\zc8 ys/\kvs≠[]:=by
 obtain⟨b,e1,c⟩:=r.cell l xs h;rw[ha]at e1;cases e1;rcases c with⟨vs,e,_⟩ | c;·exact (IsL.notC ⟨vs,e⟩ k).elim
 ·exact c
theorem yJ.refl(r:Rep mg H Y s):yJ mg H Y H Y s:=⟨r,_a0 _,λ_ _ h _ _=>h,λa h1 h2=>absurd h1 h2,λa ha=>(r.mt a ha).imp (λh=>⟨h,h⟩) λh=>⟨h,h,λ_ _ q=>q⟩,λ_ h=>h,λ_ h=>.inl h⟩
theorem yJ.trans(a:yJ mg H Y H1 Y1 s1)(b:yJ mg H1 Y1 H2 Y2 s2):yJ mg H Y H2 Y2 s2:=by
 refine⟨b.rep,a.pre.trans b.pre,λc o h n g=>?_,λc h1 h2=>?_,λc hc=>?_,λc h=>a.dom c (b.dom c h),λc h=>(b.ow c h).elim (a.ow c) λz=>.inr (a.dom c z)⟩
 ·refine b.keep c o (a.keep c o h n g) (λz=>?_) λz=>?_;·rw[a.new c z n]at h;cases h
  ·rcases a.ow c z with z | z;·exact g z
   ·rw[z]at h;cases h
 ·by_cases h3:c∈Y1;·exact a.new c h3 h2
  ·exact a.dom c (b.new c h1 h3)
 ·have hc1:c∈Y1:=a.pre.subset hc;rcases a.mt c hc with⟨k1,k2⟩ | ⟨k1,k2,k3⟩
  ·rcases b.mt c hc1 with⟨_,q⟩ | ⟨q,_,_⟩;·exact .inl ⟨k1,q⟩
   ·exact (k2.notC q).elim
  ·rcases b.mt c hc1 with⟨q,_⟩ | ⟨_,q,q3⟩;·exact (q.notC k2).elim
   ·exact .inr ⟨k1,q,λo u z=>q3 o u (k3 o u z)⟩
theorem yJ.stay(stp:yJ mg H Y H' Y' s'){b:Addr}{o:HO}(h:H b=some o)(hn:∀vs,o≠.lst vs)(hn2:∀kvs,o≠.dT kvs:=by intro vs z;cases z)(hn3:∀kvs,kvs≠[]->o≠.dK kvs:=by intro kvs g z;cases z<;>exact g rfl):H' b=some o:=by
 by_cases hb:b∈Y
 ·rcases stp.mt b hb with⟨⟨vs,e⟩,_⟩ | ⟨⟨vs,e⟩ | ⟨p,vs,e⟩ | ⟨vs,g,e⟩ | ⟨p,vs,e⟩,_,q⟩
  ·rw[h]at e;exact absurd (_z e) (hn vs)
  ·rw[h]at e;exact absurd (_z e) (hn2 vs)
  ·rw[h]at e;cases e;exact q _ _ h
  ·rw[h]at e;exact absurd (_z e) (hn3 vs g)
  ·rw[h]at e;cases e;exact q _ _ h
 ·exact stp.keep b o h hb λ_=>hn
mutual
theorem Den.mono(stp:yJ mg H Y H' Y' s'):∀{d:D}{v:V},Den mg H Y d v->Den mg H' Y' d v
 | .non,_,h=>by simpa[Den] using h | .bl _,_,h=>by simpa[Den] using h | .int _,_,h=>by simpa[Den] using h | .str _,_,h=>by simpa[Den] using h | .tup ds,v,h=>by
  simp only[Den]at h ⊢;obtain⟨a,vs,e,h1,h2⟩:=h;exact⟨a,vs,e,stp.stay h1 (by intro vs z;cases z),zC.mono stp h2⟩ | .lst ds,v,h=>by
  simp only[Den]at h ⊢;obtain⟨a,o,vs,e,h1,h2⟩:=h;exact⟨a,o,vs,e,stp.stay h1 (by intro vs z;cases z),zC.mono stp h2⟩ | .dct,v,h=>by
  simp only[Den]at h ⊢;obtain⟨a,e,h1⟩:=h;exact⟨a,e,stp.stay h1 (by intro vs z;cases z)⟩ | .loc l,v,h=>by
  simp only[Den]at h ⊢;obtain⟨a,e,h1,k⟩:=h;obtain⟨t,ht⟩:=stp.pre;refine⟨a,e,?_,?_⟩
  ·rw[<- ht,_A (_b.mp h1).1];exact h1
  ·rcases stp.mt a (_f h1) with⟨_,q⟩ | ⟨q,_,_⟩;·exact q
   ·exact (k.notC q).elim | .dlo l,v,h=>by
  simp only[Den]at h ⊢;obtain⟨a,e,h1,k⟩:=h;obtain⟨t,ht⟩:=stp.pre;refine⟨a,e,?_,?_⟩
  ·rw[<- ht,_A (_b.mp h1).1];exact h1
  ·rcases stp.mt a (_f h1) with⟨q,_⟩ | ⟨_,q,_⟩;·exact (q.notC k).elim
   ·exact q | .fn _,_,h=>by simpa[Den] using h | .exc x,v,h=>by
  simp only[Den]at h ⊢;obtain⟨a,C,e,h1,h2⟩:=h;exact⟨a,C,e,h1,stp.stay h2 (by intro vs z;cases z)⟩ | .scr ds,v,h=>by
  simp only[Den]at h ⊢;obtain⟨a,vs,e,h1,h2⟩:=h;exact⟨a,vs,e,h1.imp (λ⟨o,h1⟩=>⟨o,stp.stay h1 (by intro vs z;cases z)⟩) id,zC.mono stp h2⟩
theorem zC.mono(stp:yJ mg H Y H' Y' s'):∀{ds:List D}{vs:List V},zC mg H Y ds vs->zC mg H' Y' ds vs
 | [],_,h=>by simpa[zC] using h | d::ds,vs,h=>by
  simp only[zC]at h ⊢;obtain⟨v,r,e,h1,h2⟩:=h;exact⟨v,r,e,Den.mono stp h1,zC.mono stp h2⟩
end
theorem zC.length:∀{ds:List D}{vs:List V},zC mg H Y ds vs->vs.length=ds.length
 | [],_,h=>by simp only[zC]at h;rw[h];rfl | d::ds,vs,h=>by
  simp only[zC]at h;obtain⟨v,r,rfl,_,h2⟩:=h;simp[zC.length h2]
theorem zC.get:∀{ds:List D}{vs:List V}{i:Nat}{d:D},zC mg H Y ds vs->ds[i]? = some d->∃v,vs[i]? = some v/\Den mg H Y d v
 | [],_,_,_,_,e=>by simp at e | d::ds,vs,0,d',h,e=>by
  simp only[zC]at h;obtain⟨v,r,rfl,h1,_⟩:=h;simp at e;subst e;exact⟨v,by simp,h1⟩ | d::ds,vs,i+1,d',h,e=>by
  simp only[zC]at h;obtain⟨v,r,rfl,_,h2⟩:=h;obtain⟨u,h3,h4⟩:=zC.get (i:=i) h2 (by simpa using e);exact⟨u,by simpa using h3,h4⟩
theorem zC.append:∀{ds es:List D}{vs us:List V},zC mg H Y ds vs->zC mg H Y es us->zC mg H Y (ds++es) (vs++us)
 | [],_,_,_,h,h'=>by simp only[zC]at h;subst h;simpa using h' | d::ds,_,_,_,h,h'=>by
  simp only[zC]at h;obtain⟨v,r,rfl,h1,h2⟩:=h;simp only[_X,zC];exact⟨v,_,rfl,h1,zC.append h2 h'⟩
theorem zC.nil:zC mg H Y [] []:=by simp[zC]
theorem zC.cons {d:D} {ds:List D} {v:V} {vs:List V} (h:Den mg H Y d v) (h':zC mg H Y ds vs):zC mg H Y (d::ds) (v::vs):=by
 simp only[zC];exact⟨v,vs,rfl,h,h'⟩
theorem zC.one{d:D}{v:V}(h:Den mg H Y d v):zC mg H Y [d] [v]:=.cons h .nil
theorem zC.take:∀{ds:List D}{vs:List V}(n:Nat),zC mg H Y ds vs->zC mg H Y (ds.take n) (vs.take n)
 | ds,vs,0,h=>by simp[zC] | [],vs,n+1,h=>by simp only[zC]at h;subst h;simp[zC] | d::ds,vs,n+1,h=>by
  simp only[zC]at h;obtain⟨v,r,rfl,h1,h2⟩:=h;simp only[List.take_succ_cons];exact .cons h1 (zC.take n h2)
theorem zC.drop:∀{ds:List D}{vs:List V}(n:Nat),zC mg H Y ds vs->zC mg H Y (ds.drop n) (vs.drop n)
 | ds,vs,0,h=>by simpa using h | [],vs,n+1,h=>by simp only[zC]at h;subst h;simp[zC] | d::ds,vs,n+1,h=>by
  simp only[zC]at h;obtain⟨v,r,rfl,h1,h2⟩:=h;simpa using zC.drop n h2
theorem zC.set:∀{ds:List D}{vs:List V}{d:D}{v:V}(n:Nat),zC mg H Y ds vs->Den mg H Y d v->zC mg H Y (ds.set n d) (vs.set n v)
 | [],vs,_,_,n,h,_=>by simp only[zC]at h;subst h;simp[zC] | d::ds,vs,_,_,0,h,h'=>by
  simp only[zC]at h;obtain⟨v,r,rfl,h1,h2⟩:=h;simpa using zC.cons h' h2 | d::ds,vs,_,_,n+1,h,h'=>by
  simp only[zC]at h;obtain⟨v,r,rfl,h1,h2⟩:=h;simpa using zC.cons h1 (zC.set n h2 h')
mutual
theorem Den.flatten(k:∀b o,H b=some o->(∀vs,o≠.lst vs)->(∀kvs,o≠.dT kvs)->(∀kvs,kvs≠[]->o≠.dK kvs)->H' b=some o):∀{d:D}{v:V},d.flat=true->Den mg H Y d v->Den mg H' Y' d v
 | .non,_,_,h=>by simpa[Den] using h | .bl _,_,_,h=>by simpa[Den] using h | .int _,_,_,h=>by simpa[Den] using h | .str _,_,_,h=>by simpa[Den] using h | .tup ds,v,f,h=>by
  simp only[Den]at h ⊢;obtain⟨a,vs,e,h1,h2⟩:=h;exact⟨a,vs,e,k a _ h1 (by intro vs z;cases z) (by intro vs z;cases z) (by intro vs g z;cases z<;>exact g rfl),zC.flatten k (by simpa[D.flat] using f) h2⟩ | .lst ds,v,f,h=>by
  simp only[Den]at h ⊢;obtain⟨a,o,vs,e,h1,h2⟩:=h;exact⟨a,o,vs,e,k a _ h1 (by intro vs z;cases z) (by intro vs z;cases z) (by intro vs g z;cases z<;>exact g rfl),zC.flatten k (by simpa[D.flat] using f) h2⟩ | .dct,v,_,h=>by
  simp only[Den]at h ⊢;obtain⟨a,e,h1⟩:=h;exact⟨a,e,k a _ h1 (by intro vs z;cases z) (by intro vs z;cases z) (by intro vs g z;cases z<;>exact g rfl)⟩ | .loc l,v,f,h=>by simp[D.flat]at f | .dlo l,v,f,h=>by simp[D.flat]at f | .fn _,_,_,h=>by simpa[Den] using h | .exc x,v,_,h=>by
  simp only[Den]at h ⊢;obtain⟨a,C,e,h1,h2⟩:=h;exact⟨a,C,e,h1,k a _ h2 (by intro vs z;cases z) (by intro vs z;cases z) (by intro vs g z;cases z<;>exact g rfl)⟩ | .scr ds,v,f,h=>by
  simp only[Den]at h ⊢;obtain⟨a,vs,e,h1,h2⟩:=h;exact⟨a,vs,e,h1.imp (λ⟨o,h1⟩=>⟨o,k a _ h1 (by intro vs z;cases z) (by intro vs z;cases z) (by intro vs g z;cases z<;>exact g rfl)⟩) id,zC.flatten k (by simpa[D.flat] using f) h2⟩
theorem zC.flatten(k:∀b o,H b=some o->(∀vs,o≠.lst vs)->(∀kvs,o≠.dT kvs)->(∀kvs,kvs≠[]->o≠.dK kvs)->H' b=some o):∀{ds:List D}{vs:List V},D.flat.flats ds=true->zC mg H Y ds vs->zC mg H' Y' ds vs
 | [],_,_,h=>by simpa[zC] using h | d::ds,vs,f,h=>by
  simp only[zC]at h ⊢;simp only[D.flat.flats,_u]at f;obtain⟨v,r,e,h1,h2⟩:=h;exact⟨v,r,e,Den.flatten k f.1 h1,zC.flatten k f.2 h2⟩
end
end
def okR{α β:Type}(mg:Gm)(E:XK)(H:Hp)(Y:List Addr)(Dn:Hp->List Addr->α->β->Prop)(r:R α)(Q:β->Hp->Prop):Prop:=match r with
 | .ok a s'=>∀b H' Y',yJ mg H Y H' Y' s'->Dn H' Y' a b->Q b H' | .ex c s'=>∀H' Y' C,yJ mg H Y H' Y' s'->mg.m c=some (.ref C)->E (.ref C) none H' | .no=>False
section
variable {α β α2 β2:Type}{mg:Gm}{E:XK}{H H' H1 H2:Hp}{Y Y' Y1 Y2:List Addr}{s s' s1 s2:Sto}{Dn:Hp->List Addr->α->β->Prop}{Dn2:Hp->List Addr->α2->β2->Prop}
theorem okR.rebase{r:R α}{Q:β->Hp->Prop}(h:okR mg E H Y Dn r Q)(stp:yJ mg H Y H1 Y1 s1):okR mg E H1 Y1 Dn r Q:=by cases r with
 | ok a s'=>exact λb H' Y' stp'=>h b H' Y' (stp.trans stp') | ex c s'=>exact λH' Y' C stp'=>h H' Y' C (stp.trans stp') | no=>exact h
theorem okR.bind{r:R α}{k:α->Sto->R α2}{Q:β2->Hp->Prop}(h:okR mg E H Y Dn2 (r.bind k) Q): okR mg E H Y Dn r (λb H1=>∃Y1 s1 a,yJ mg H Y H1 Y1 s1/\Dn H1 Y1 a b/\okR mg E H1 Y1 Dn2 (k a s1) Q):=by cases r with
 | ok a s'=>exact λb H' Y' stp dn=>⟨Y',s',a,stp,dn,okR.rebase h stp⟩ | ex c s'=>exact h | no=>exact h
theorem okR.imp{r:R α}{Q Q':β->Hp->Prop}(h:okR mg E H Y Dn r Q)(i:∀b H',Q b H'->Q' b H'):okR mg E H Y Dn r Q':=by cases r with
 | ok a s'=>exact λb H' Y' stp dn=>i b H' (h b H' Y' stp dn) | ex c s'=>exact h | no=>exact h
theorem okR.here{a:α}{Q:β->Hp->Prop}{b:β}(h:okR mg E H Y Dn (.ok a s) Q)(r:Rep mg H Y s)(d:Dn H Y a b):Q b H:=h b H Y (.refl r) d
end
structure vK(mg:Gm)(H:Hp)(Y:List Addr)(ρ:Ev)(O:L2.St):Prop where
 len:ρ.length=O.length
 at_:∀(i:Nat)(d:D),ρ[i]? = some (some d)->∃v,O[i]? = some (some v)/\Den mg H Y d v
theorem vK.mono{mg:Gm}{H H':Hp}{Y Y':List Addr}{s':Sto}{ρ:Ev}{O:L2.St}(e:vK mg H Y ρ O)(stp:yJ mg H Y H' Y' s'):vK mg H' Y' ρ O:= ⟨e.len,λi d h=>let ⟨v,h1,h2⟩:=e.at_ i d h;⟨v,h1,h2.mono stp⟩⟩
theorem vK.set{mg:Gm}{H:Hp}{Y:List Addr}{ρ:Ev}{O:L2.St}{d:D}{v:V}(e:vK mg H Y ρ O)(h:Den mg H Y d v)(i:Nat):vK mg H Y (ρ.set i (some d)) (O.set i (some v)):=by
 refine⟨by simp[e.len],λj d' hj=>?_⟩;by_cases hij:i=j
 ·subst hij;have hi:i<ρ.length:=by
   have:=(_b.mp hj).1;simpa using this
  rw[_H hi]at hj;cases hj;exact⟨v,by rw[_H (by rw[<- e.len];exact hi)],h⟩
 ·rw[_F hij]at hj ⊢;exact e.at_ j d' hj
abbrev FE:=Ev->Sto->R D
abbrev FT:=Ev->Sto->R Bool
abbrev FA:=Ev->Sto->R (List D)
inductive Fl where | nx (ρ:Ev) | rt (d:D) | bk (ρ:Ev) | ct (ρ:Ev)
inductive FlV where | nx (O:L2.St) | rt (v:V) | bk (O:L2.St) | ct (O:L2.St)
abbrev FS:=Ev->Sto->R Fl
def FlD(mg:Gm)(H:Hp)(Y:List Addr):Fl->FlV->Prop
 | .nx ρ,.nx O=>vK mg H Y ρ O | .rt d,.rt v=>Den mg H Y d v | .bk ρ,.bk O=>vK mg H Y ρ O | .ct ρ,.ct O=>vK mg H Y ρ O | _,_=>False
def z21(D:z9G):FlV->Hp->Prop
 | .nx O,H=>D.nx O H | .rt v,H=>D.rt v H | .bk O,H=>D.bk O H | .ct O,H=>D.ct O H
def bD(_:Hp)(_:List Addr)(a b:Bool):Prop:=a=b
def tE(mg:Gm)(E:XK)(f:FE):TE:=λO H Q=>∃Y ρ s,Rep mg H Y s/\vK mg H Y ρ O/\okR mg E H Y (Den mg) (f ρ s) Q
def tT(mg:Gm)(E:XK)(f:FT):TT:=λO H Q=>∃Y ρ s,Rep mg H Y s/\vK mg H Y ρ O/\okR mg E H Y bD (f ρ s) Q
def tA(mg:Gm)(E:XK)(f:FA):TA:=λO H Q=>∃Y ρ s,Rep mg H Y s/\vK mg H Y ρ O/\okR mg E H Y (zC mg) (f ρ s) Q
def tS(mg:Gm)(E:XK)(f:FS):TS:=λD O H=>∃Y ρ s,Rep mg H Y s/\vK mg H Y ρ O/\okR mg E H Y (FlD mg) (f ρ s) (z21 D)
def RE(X:Cx)(E:XK)(e:Expr)(f:FE):Prop:=PE X e (tE (gm X) E f)
def RT(X:Cx)(E:XK)(e:Expr)(f:FT):Prop:=PT X e (tT (gm X) E f)
def RA(X:Cx)(E:XK)(es:List Expr)(f:FA):Prop:=PA X es (tA (gm X) E f)
def RS(X:Cx)(E:XK)(st:Stmt)(f:FS):Prop:=PS X st (tS (gm X) E f)
def RSs(X:Cx)(E:XK)(st:List Stmt)(f:FS):Prop:=PSs X st (tS (gm X) E f)
section
variable {X:Cx}{E:XK}{e a b c:Expr}{es:List Expr}{pos:Pos}
theorem zX{t t':TE}(h:PE X e t)(i:∀O H Q,t' O H Q->t O H Q):PE X e t':=λpins s O H Q I q=>h pins s O H Q I (i O H Q q)
theorem z4C{t t':TT}(h:PT X e t)(i:∀O H Q,t' O H Q->t O H Q):PT X e t':=λpins s O H Q I q=>h pins s O H Q I (i O H Q q)
theorem zaR{t t':TA}(h:PA X es t)(i:∀O H Q,t' O H Q->t O H Q):PA X es t':=λpos pins s O H Q I q=>h pos pins s O H Q I (i O H Q q)
theorem um{st:Stmt}{t t':TS}(h:PS X st t)(i:∀D O H,t' D O H->t D O H):PS X st t':=λpins s O H D I q=>h pins s O H D I (i D O H q)
theorem z8i{st:List Stmt}{t t':TS}(h:PSs X st t)(i:∀D O H,t' D O H->t D O H):PSs X st t':=λpins s O H D I q=>h pins s O H D I (i D O H q)
theorem yc{α β:Type}{Dn:Hp->List Addr->α->β->Prop}{mg:Gm}{f:FE}{k:Ev->D->Sto->R α}{O:L2.St}{H:Hp}{Q:β->Hp->Prop}{Y:List Addr}{ρ:Ev}{s:Sto}(r:Rep mg H Y s)(en:vK mg H Y ρ O) (h:okR mg E H Y Dn ((f ρ s).bind (k ρ)) Q)(K:V->Hp->Prop) (hK:∀v H1 Y1 s1 d,Rep mg H1 Y1 s1->vK mg H1 Y1 ρ O->Den mg H1 Y1 d v->yJ mg H Y H1 Y1 s1->okR mg E H1 Y1 Dn (k ρ d s1) Q->K v H1):tE mg E f O H K:= ⟨Y,ρ,s,r,en,(okR.bind (Dn:=Den mg) h).imp λv H1 ⟨Y1,s1,d,stp,dn,q⟩=>hK v H1 Y1 s1 d stp.rep (en.mono stp) dn stp q⟩
theorem z5m{α β:Type}{Dn:Hp->List Addr->α->β->Prop}{mg:Gm}{f:FT}{k:Ev->Bool->Sto->R α}{O:L2.St}{H:Hp}{Q:β->Hp->Prop}{Y:List Addr}{ρ:Ev}{s:Sto}(r:Rep mg H Y s)(en:vK mg H Y ρ O) (h:okR mg E H Y Dn ((f ρ s).bind (k ρ)) Q)(K:Bool->Hp->Prop) (hK:∀v H1 Y1 s1,Rep mg H1 Y1 s1->vK mg H1 Y1 ρ O->yJ mg H Y H1 Y1 s1->okR mg E H1 Y1 Dn (k ρ v s1) Q->K v H1):tT mg E f O H K:= ⟨Y,ρ,s,r,en,(okR.bind (Dn:=bD) h).imp λv H1 ⟨Y1,s1,d,stp,dn,q⟩=>hK v H1 Y1 s1 stp.rep (en.mono stp) stp (by cases (show d=v from dn);exact q)⟩
theorem vW{α β:Type}{Dn:Hp->List Addr->α->β->Prop}{mg:Gm}{f:FA}{k:Ev->List D->Sto->R α}{O:L2.St}{H:Hp}{Q:β->Hp->Prop}{Y:List Addr}{ρ:Ev}{s:Sto}(r:Rep mg H Y s)(en:vK mg H Y ρ O) (h:okR mg E H Y Dn ((f ρ s).bind (k ρ)) Q)(K:List V->Hp->Prop) (hK:∀v H1 Y1 s1 d,Rep mg H1 Y1 s1->vK mg H1 Y1 ρ O->zC mg H1 Y1 d v->yJ mg H Y H1 Y1 s1->okR mg E H1 Y1 Dn (k ρ d s1) Q->K v H1):tA mg E f O H K:= ⟨Y,ρ,s,r,en,(okR.bind (Dn:=zC mg) h).imp λv H1 ⟨Y1,s1,d,stp,dn,q⟩=>hK v H1 Y1 s1 d stp.rep (en.mono stp) dn stp q⟩
noncomputable def zd(i:Nat):FE:=fun ρ s=>match ρ[i]? with | some (some d)=>.ok d s | _=>.no
theorem zc(i:Nat){x:Str}(hN:X.N[i]? = some x:=by rfl)(hv:Vis X.env.scope x:=by first | exact Or.inl rfl | exact Or.inr (Or.inl rfl) | exact Or.inr (Or.inr rfl))(hd:(x==("__debug__":Str))=false:=by decide) (hcd:(x==("__classdict__":Str))=false:=by decide):RE X E (.Name x pos) (zd i):= zX (zaW hN hv hd hcd) λO H Q ⟨Y,ρ,s,r,en,h⟩=>by
  unfold zd at h;split at h
  ·rename_i d hd;obtain⟨v,h1,h2⟩:=en.at_ i d hd;exact⟨v,h1,h.here r h2⟩
  ·exact h.elim
noncomputable def eC(d:D):FE:=λ_ s=>.ok d s
theorem zB{i:Int}{j:Nat}:RE X E (.Constant (.int i) j pos) (eC (.int i)):=zX zeU λO H Q ⟨Y,ρ,s,r,en,h⟩=>okR.here (b:=V.int i) h r (by simp[Den])
theorem z7e{i:Bool}{j:Nat}:RE X E (.Constant (.bool i) j pos) (eC (.bl i)):=zX zg7 λO H Q ⟨Y,ρ,s,r,en,h⟩=>okR.here (b:=V.bl i) h r (by simp[Den])
theorem z8E{j:Nat}:RE X E (.Constant .none j pos) (eC .non):=zX zej λO H Q ⟨Y,ρ,s,r,en,h⟩=>okR.here (b:=V.non) h r (by simp[Den])
theorem ue{i:Str}{j:Nat}:RE X E (.Constant (.str i) j pos) (eC (.str i)):=zX zb1 λO H Q ⟨Y,ρ,s,r,en,h⟩=>okR.here (b:=V.str i) h r (by simp[Den])
theorem zel{x:Str}{i:Int}{t:Tok}(hg:Gl X x)(hm:X.mg x=some (.int i t))(hd:(x==("__debug__":Str))=false:=by decide):RE X E (.Name x pos) (eC (.int i)):= zX (z5p hg hm (show xc (.int i) (.int i t) from⟨t,rfl⟩) hd) λO H Q ⟨Y,ρ,s,r,en,h⟩=>okR.here (b:=V.int i) h r (by simp[Den])
def OpF(X:Cx)(E:XK)(r:R2)(op:D->D->Sto->R D):Prop:= ∀H Y s d1 d2 v1 v2 (Q:VK),Rep (gm X) H Y s->Den (gm X) H Y d1 v1->Den (gm X) H Y d2 v2->okR (gm X) E H Y (Den (gm X)) (op d1 d2 s) Q->r v1 v2 H Q
noncomputable def eOp(op:D->D->Sto->R D)(fa fb:FE):FE:=fun ρ s=>(fa ρ s).bind λx s1=>(fb ρ s1).bind λy s2=>op x y s2
theorem z6h{r:R2}{op:D->D->Sto->R D}{fa fb:FE}(ho:OpF X E r op){O:L2.St}{H:Hp}{Q:VK}(h:tE (gm X) E (eOp op fa fb) O H Q):tOp r (tE (gm X) E fa) (tE (gm X) E fb) O H Q:=by
 obtain⟨Y,ρ,s,r',en,h⟩:=h;refine yc (k:=fun ρ x s1=>(fb ρ s1).bind λy s2=>op x y s2) r' en h _ λv H1 Y1 s1 d r1 en1 dn stp h1=>?_;refine yc (k:=fun ρ y s2=>op d y s2) r1 en1 h1 _ λv2 H2 Y2 s2 d2 r2 en2 dn2 St2 h2=>?_;exact ho H2 Y2 s2 d d2 v v2 Q r2 (dn.mono St2) dn2 h2
theorem zhs{op:Operator}{r:R2}{fo:D->D->Sto->R D}{fa fb:FE}(ho:OpR X (binaryOp op) r/\OpF X E r fo)(ha:RE X E a fa)(hb:RE X E b fb):RE X E (.BinOp a op b pos) (eOp fo fa fb):= zX (zfo ho.1 ha hb) λO H Q h=>z6h ho.2 h
theorem zfp{op:CmpOp}{r:R2}{fo:D->D->Sto->R D}{fa fb:FE}(ho:OpR X (compareOp op) r/\OpF X E r fo)(ha:RE X E a fa)(hb:RE X E b fb)(hm:behindInMarks op b=false):RE X E (.Compare a [op] [b] pos) (eOp fo fa fb):= zX (zcE ho.1 ha hb hm) λO H Q h=>z6h ho.2 h
end
end Dd
namespace L2
theorem Inv.freeze {X:Cx} {pins:List (Addr×Obj)} {O:L2.St} {H:Hp} {s:Shared} {a:Addr} {u:HO} {o:Obj} (I:Inv X pins O H s) (h:H a=some u) (e:s.heap.get? a=some o) (hu:∀xs,u≠.tup xs) (hf:∀o v,u≠.frz o v) (ht:∀ps,u≠.tbl ps) (ho:∀y,u≠.own y): Inv X pins O (upd H a (.frz o u)) s:=by
 have ne:∀{b:Addr} {v:HO},H b=some v->v≠u->b≠a:=λ{b v} hb hv z=>by subst z;rw[h]at hb;exact hv (_z hb).symm
 have stay:∀b v,xf X.prog X.w H s.heap b v->xf X.prog X.w (upd H a (.frz o u)) s.heap b v:=λb v q=> q.stay (λ_ _ _ q=>q) (λc q=>by rw[zj (ne q (λz=>ho b z.symm))];exact q) λc xs q=>by rw[zj (ne q (λz=>hu xs z.symm))];exact q
 have hok:HOk X.prog X.w (upd H a (.frz o u)) s.heap:=λb v q=>by
  by_cases hb:b=a
  ·subst hb;rw[zH]at q;cases q;exact⟨e,stay b u (I.hok b u h)⟩
  ·rw[zj hb]at q;exact stay b v (I.hok b v q)
 exact I.step (h':=s.heap) (g':=s.gens) (d':=s.drawn) (t':=s.toks) (ch:=[]) (λb hb=>absurd hb (by simp)) (λb o _ _ _ e _=>e) (λb o _ _ _ e _=>⟨o.slots,e⟩) (λb v _ _ n=>by rw[zj (λz=>by subst z;rw[h]at n;cases n)];exact n) (λb o _ e=>⟨o,e⟩) (λb xs q=>by rw[zj (ne q (λz=>hu xs z.symm))];exact q) (λb o' v q=>by rw[zj (ne q (λz=>hf o' v z.symm))];exact q) (λb ps q=>⟨#[],by rw[zj (ne q (λz=>ht ps z.symm)),q];simp⟩) (λ_ q=>q) hok I.bare
def z6E(Q:VK):VK:=λv H=>∃a xs,v=.ref a/\H a=some (.lst xs)/\∀o,Q v (upd H a (.frz o (.lst xs)))
theorem EP.freeze{X:Cx}{pins:List (Addr×Obj)}{O:L2.St}{Q:VK}{u:Value}{s:Shared}(h:EP X pins O (z6E Q) u s):EP X pins O Q u s:=by
 obtain⟨v,H',I,r,a,xs,rfl,ha,q⟩:=h;obtain⟨its,n,rv,e,_⟩:=I.lst ha;exact⟨_,_,I.freeze ha e (by intro _ z;cases z) (by intro _ _ z;cases z) (by intro _ z;cases z) (by intro _ z;cases z),r,q _⟩
theorem OpR.freeze{X:Cx}{f:Value->Value->Sem Value}{r:R2}(h:OpR X f r):OpR X f (λx y H Q=>r x y H (z6E Q)):=λpins s O H x y v u Q I rx ry q=>thn (h pins s O H x y v u _ I rx ry q) λ_ _ z=>z.freeze
theorem xH.freeze{X:Cx}{f:Value}{r:List V->Hp->VK->Prop}(h:xH X f r):xH X f (λxs H Q=>r xs H (z6E Q)):=λpins s O H xs us Q I rs q=>thn (h pins s O H xs us _ I rs q) λ_ _ z=>z.freeze
theorem PE.freeze{X:Cx}{e:Expr}{t:TE}(h:PE X e t):PE X e (λO H Q=>t O H (z6E Q)):=λpins s O H Q I q=>thn (h pins s O H _ I q) λ_ _ z=>z.freeze
theorem SlR.freeze{X:Cx}{r:V->Option Int->Option Int->Hp->VK->Prop}(h:SlR X r):SlR X (λx lo hi H Q=>r x lo hi H (z6E Q)):=λpins s O H x v vl vu lo hi sl Q I rx hs pl pu q=>by
 obtain⟨T,id,h1,h2,h3⟩:=h pins s O H x v vl vu lo hi sl _ I rx hs pl pu q;exact⟨T,id,h1,h2,thn h3 λ_ _ z=>z.freeze⟩
section
variable {X:Cx}
theorem z7i:OpR X (binaryOp .Add) (λx y H Q=>∃l b xs zs,x=.ref l/\y=.ref b/\Rd H l (.lst xs)/\Rd H b (.lst zs)/\xs.length+zs.length<=sizeLine/\∀p,H p=none->Q (.ref p) (upd H p (.lst (xs++zs)))):=by
 intro pins s O H x y v u Q I rx ry h;obtain⟨l,b,xs,zs,rfl,rfl,hH,hB,hz,q⟩:=h;cases rx;cases ry;obtain⟨z,its,n,r,e⟩:=hH.ok I.hok;obtain⟨z2,its2,n2,r2,e2⟩:=hB.ok I.hok;have hl:=r.length;have hl2:=r2.length;refine PySem.P.add_list e e2 ?_ (by rw[_k,_k];omega);have ea:its.toArray++its2.toArray=(its++its2).toArray:=by simp
 rw[ea];exact⟨.ref _,_,I.lnew (t':=s.toks) (r.append r2) (by rw[_y];omega),rfl,q _ I.fresh⟩
end
section
variable {X:Cx}
theorem z9Y:OpR X (binaryOp .Add) (λx y H Q=>∃a b ys,x=.ref a/\y=.ref b/\SqT X.K H a []/\SqT X.K H b ys/\Q (.ref b) H):=by
 intro pins s O H x y v u Q I rx ry h;obtain⟨a,b,ys,rfl,rfl,ha,hb,q⟩:=h;cases rx;cases ry;obtain⟨its,r1,p1,_⟩:=I.tuple ha;obtain⟨its2,r2,p2,_⟩:=I.tuple hb;cases r1;obtain⟨⟨cls,dd,data,sl⟩,ho,hc,n,hd⟩:=id p1;obtain⟨⟨cls2,dd2,data2,sl2⟩,ho2,hc2,n2,hd2⟩:=id p2;simp only at hc hd hc2 hd2;subst hc hd hc2 hd2;exact concat_meets ⟨_,ho,rfl⟩ ⟨_,ho2,rfl⟩ _cY seq_tuple_add _bZ _bW (_bJ _ _) (tuple_addW0 a b _ _ n n2 dd dd2 sl sl2 (by simp)) ⟨ho,ho2,⟨.ref b,H,I,rfl,q⟩⟩
theorem zcL:SlR X (λx lo hi H Q=>∃a xs,x=.ref a/\SqT X.K H a xs/\(HT.sIx xs.length 0 lo=0/\HT.sIx xs.length xs.length hi=xs.length)/\Q (.ref a) H):=by
 intro pins s O H x v vl vu lo hi sl Q I rx hs pl pu h;obtain⟨a,xs,rfl,hx,hw,q⟩:=h;cases rx;obtain⟨its,r,ht,hz⟩:=I.tuple hx;have hlen:its.toArray.size=xs.length:=by rw[_k];exact r.length.symm
 refine⟨"tuple",_,_aa.lookup,ht.typeIs,?_⟩;obtain⟨os,hos,hcs,hds⟩:=id hs;have hTs:s.TypeIs (.ref sl) "slice":=⟨os,hos,hcs⟩;obtain⟨oa,hoa,hca,na,hda⟩:=id ht;unfold getItem;try with_reducible refine _aY ?_
 first | refine _a (_j ?_) | skip
 refine _a (wpAny_sequenceKey ht.typeIs (by decide) ?_);refine _a (_az (name:=Str.ofString "__getitem__") ht.typeIs _aa (_aZ _aa ht.typeIs entry_tuple_getitem ?_ (args_tuple_getitem _ _)));show wpAny _ _ (Builtin.Tuple.tupleItemsOf (.ref a) >>= _) _ _ s;refine _a (tupleItemsOf_ ht ?_);refine _a (_da hTs ?_);rw[_g (by decide)];refine _a (HT.qg hs pl pu ?_);rw[hlen,hw.1,hw.2];show wpAny _ _ (if (((0:Nat):Int)==0&&(1:Int)==1&&(xs.length-0)==xs.length)=true then _ else _) _ _ s;rw[_g (by simp)];have hTa:s.TypeIs (.ref a) "tuple":=ht.typeIs;have fin:EP X pins O Q (.ref a) s:=⟨.ref a,H,I,rfl,q⟩;unfold Builtin.Tuple.tupleIsExact;refine _a (_a (_da hTa (_j ?_)));rw[_g (by decide)];exact _a (_aw (_j ⟨_,rfl,_j fin⟩))
end
end L2
namespace Dd
open L2
section
variable {mg:Gm}{H H' H1 H2:Hp}{Y Y' Y1 Y2:List Addr}{s s' s1 s2:Sto}
structure Kp(H H':Hp):Prop where
 k:∀b o,H b=some o->(∀vs,o≠.lst vs)->(∀kvs,o≠.dT kvs)->(∀kvs,kvs≠[]->o≠.dK kvs)->H' b=some o
 l:∀a,IsL H a->IsL H' a
 c:∀a,IsC H a->IsC H' a
mutual
theorem Den.gen(k:Kp H H')(hi:∀(l:Nat) a,Y[l]? = some a->Y'[l]? = some a):∀{d:D}{v:V},Den mg H Y d v->Den mg H' Y' d v
 | .non,_,h=>by simpa[Den] using h | .bl _,_,h=>by simpa[Den] using h | .int _,_,h=>by simpa[Den] using h | .str _,_,h=>by simpa[Den] using h | .tup ds,v,h=>by
  simp only[Den]at h ⊢;obtain⟨a,vs,e,h1,h2⟩:=h;exact⟨a,vs,e,k.k a _ h1 (by intro vs z;cases z) (by intro vs z;cases z) (by intro vs g z;cases z<;>exact g rfl),zC.gen k hi h2⟩ | .lst ds,v,h=>by
  simp only[Den]at h ⊢;obtain⟨a,o,vs,e,h1,h2⟩:=h;exact⟨a,o,vs,e,k.k a _ h1 (by intro vs z;cases z) (by intro vs z;cases z) (by intro vs g z;cases z<;>exact g rfl),zC.gen k hi h2⟩ | .dct,v,h=>by
  simp only[Den]at h ⊢;obtain⟨a,e,h1⟩:=h;exact⟨a,e,k.k a _ h1 (by intro vs z;cases z) (by intro vs z;cases z) (by intro vs g z;cases z<;>exact g rfl)⟩ | .loc l,v,h=>by
  simp only[Den]at h ⊢;obtain⟨a,e,h1,q⟩:=h;exact⟨a,e,hi l a h1,k.l a q⟩ | .dlo l,v,h=>by
  simp only[Den]at h ⊢;obtain⟨a,e,h1,q⟩:=h;exact⟨a,e,hi l a h1,k.c a q⟩ | .fn _,_,h=>by simpa[Den] using h | .exc x,v,h=>by
  simp only[Den]at h ⊢;obtain⟨a,C,e,h1,h2⟩:=h;exact⟨a,C,e,h1,k.k a _ h2 (by intro vs z;cases z) (by intro vs z;cases z) (by intro vs g z;cases z<;>exact g rfl)⟩ | .scr ds,v,h=>by
  simp only[Den]at h ⊢;obtain⟨a,vs,e,h1,h2⟩:=h;exact⟨a,vs,e,h1.imp (λ⟨o,h1⟩=>⟨o,k.k a _ h1 (by intro vs z;cases z) (by intro vs z;cases z) (by intro vs g z;cases z<;>exact g rfl)⟩) id,zC.gen k hi h2⟩
theorem zC.gen(k:Kp H H')(hi:∀(l:Nat) a,Y[l]? = some a->Y'[l]? = some a):∀{ds:List D}{vs:List V},zC mg H Y ds vs->zC mg H' Y' ds vs
 | [],_,h=>by simpa[zC] using h | d::ds,vs,h=>by
  simp only[zC]at h ⊢;obtain⟨v,r,e,h1,h2⟩:=h;exact⟨v,r,e,Den.gen k hi h1,zC.gen k hi h2⟩
end
theorem xJ{p:Addr}{o:HO}(hp:H p=none):∀b u,H b=some u->upd H p o b=some u:=λb u h=>by rw[zj (yE h hp)];exact h
theorem Kp.new{p:Addr}{o:HO}(hp:H p=none):Kp H (upd H p o):=⟨λb u h _ _ _=>xJ hp b u h,λa ⟨vs,e⟩=>⟨vs,xJ hp a _ e⟩,λa h=>h.imp (λ⟨vs,e⟩=>⟨vs,xJ hp a _ e⟩) λh=>h.imp (λ⟨o,vs,e⟩=>⟨o,vs,xJ hp a _ e⟩) λh=>h.imp (λ⟨vs,g,e⟩=>⟨vs,g,xJ hp a _ e⟩) λ⟨o,vs,e⟩=>⟨o,vs,xJ hp a _ e⟩⟩
theorem Kp.putL{a:Addr}{vs:List V}(h:IsL H a):Kp H (upd H a (.lst vs)):=by
 obtain⟨ws,e⟩:=h;have ne:∀{b u},H b=some u->(∀vs,u≠.lst vs)->b≠a:=λ{b u} q n z=>by subst z;rw[e]at q;exact n ws (_z q).symm
 refine⟨λb o q n1 n2 _=>by rw[zj (ne q n1)];exact q,λb ⟨us,q⟩=>?_,λb h=>?_⟩
 ·by_cases z:b=a;·subst z;exact⟨vs,zH⟩
  ·exact⟨us,by rw[zj z];exact q⟩
 ·rcases h with⟨us,q⟩ | ⟨o,us,q⟩ | ⟨us,g,q⟩ | ⟨o,us,q⟩;·exact .inl ⟨us,by rw[zj (ne q (by intro _ z;cases z))];exact q⟩
  ·exact .inr (.inl ⟨o,us,by rw[zj (ne q (by intro _ z;cases z))];exact q⟩)
  ·exact .inr (.inr (.inl ⟨us,g,by rw[zj (ne q (by intro _ z;cases z))];exact q⟩))
  ·exact .inr (.inr (.inr ⟨o,us,by rw[zj (ne q (by intro _ z;cases z))];exact q⟩))
theorem uV.imp{mg:Gm}{H H':Hp}{Y Y':List Addr}:∀{xs:List D}{kvs:List (Key×V)},(∀ys vs k,(D.tup [.int k,.lst ys]∈xs\/D.tup [.int k,.lst ys,.non]∈xs)->zC mg H Y ys vs->zC mg H' Y' ys vs)->(∀k b vs,(k,V.ref b)∈kvs->H b=some (.lst vs)->H' b=some (.lst vs))->(∀b o vs,H b=some (.frz o (.lst vs))->H' b=some (.frz o (.lst vs)))->uV mg H Y xs kvs->uV mg H' Y' xs kvs
 | [],_,_,_,_,h=>h | d::ds,kvs,g,w,z,h=>by
  obtain⟨k,ys,b,vs,r,rfl,h1,h2,h3⟩:=h;refine⟨k,ys,b,vs,r,rfl,g ys vs k (h2.imp (λq=>by rw[q.1];simp) λq=>by rw[q.1];simp) h1,h2.imp (λq=>⟨q.1,w (Sum.inl k) b vs (by simp) q.2⟩) (λq=>⟨q.1,q.2.imp λo e=>z b o vs e⟩),uV.imp (λys vs k hm=>g ys vs k (hm.imp (λq=>by simp[q]) λq=>by simp[q])) (λk b vs hm=>w k b vs (by simp[hm])) z h3⟩
theorem uV.fz{mg:Gm}{H:Hp}{Y:List Addr}:∀{xs:List D}{kvs:List (Key×V)}{k:Key}{b:Addr}{us:List V},uV mg H Y xs kvs->zc8 xs->(k,V.ref b)∈kvs->H b=some (.lst us)->False
 | [],_,k,b,us,h,f,hm,z=>by simp only[uV]at h;subst h;simp at hm | d::ds,kvs,k,b,us,h,f,hm,z=>by
  obtain⟨k',ys,b',vs,r,rfl,h1,h2,h3⟩:=h;rcases _n.mp hm with e | hm
  ·cases e;rcases h2 with⟨q,_⟩ | ⟨_,o,q⟩
   ·obtain⟨k2,zs,e2⟩:=f d (.head _);rw[e2]at q;simp at q
   ·rw[q]at z;cases z
  ·exact uV.fz h3 (λd hd=>f d (.tail _ hd)) hm z
theorem uV.at_{mg:Gm}{H:Hp}{Y:List Addr}:∀{xs:List D}{kvs:List (Key×V)}{k:Key}{b:Addr},uV mg H Y xs kvs->(k,V.ref b)∈kvs->∃u,H b=some u
 | [],_,k,b,h,hm=>by simp only[uV]at h;subst h;simp at hm | d::ds,kvs,k,b,h,hm=>by
  obtain⟨k',ys,b',vs,r,rfl,h1,h2,h3⟩:=h;rcases _n.mp hm with e | hm
  ·cases e;rcases h2 with⟨_,q⟩ | ⟨_,o,q⟩<;>exact⟨_,q⟩
  ·exact uV.at_ h3 hm
theorem Rep.ownAt(r:Rep mg H Y s){b:Addr}(h:Own H Y b):∃u,H b=some u:=by
 obtain⟨a,ha,kvs,k,e,hm⟩:=h;obtain⟨l,hl,el⟩:=_aj.mp ha;have hl':l<s.length:=by rw[<- r.len];exact hl
 obtain⟨b',e1,c⟩:=r.cell l s[l] (_q hl');rw[_q hl]at e1;have:Y[l]=b':=_z e1;subst this;rw[el]at c;rcases c with⟨_,z,_⟩ | ⟨_,z,_⟩ | ⟨_,_,_,z,_⟩ | ⟨kvs',_,z,dk⟩ | ⟨_,_,_,z,_⟩<;>rw[e]at z<;>cases z;exact dk.at_ hm
def DkS(H:Hp)(Y:List Addr)(H':Hp)(Y':List Addr):Prop:=∀a∈Y',∀kvs,H' a=some (.dK kvs)->a∈Y/\H a=some (.dK kvs)
theorem DkS.own(d:DkS H Y H' Y'){b:Addr}(h:Own H' Y' b):Own H Y b:=by
 obtain⟨a,ha,kvs,k,e,hm⟩:=h;obtain⟨h1,h2⟩:=d a ha kvs e;exact⟨a,h1,kvs,k,h2,hm⟩
theorem DkS.uq(r:Rep mg H Y s)(d:DkS H Y H' Y'):∀a∈Y',∀a'∈Y',∀kvs kvs' (i j:Nat) k k' b,H' a=some (.dK kvs)->H' a'=some (.dK kvs')->kvs[i]? = some (k,V.ref b)->kvs'[j]? = some (k',V.ref b)->a=a'/\i=j:=λa ha a' ha' kvs kvs' i j k k' b e e'=> r.uq a (d a ha kvs e).1 a' (d a' ha' kvs' e').1 kvs kvs' i j k k' b (d a ha kvs e).2 (d a' ha' kvs' e').2
theorem qJ{p:Addr}{o:HO}{b:Addr}(h:upd H p o b=none):H b=none:=by
 by_cases z:b=p;·subst z;rw[zH]at h;cases h
 ·rw[zj z]at h;exact h
theorem uB.gen{xs:List D}{a:Addr}(k:Kp H H')(hi:∀(l:Nat) a,Y[l]? = some a->Y'[l]? = some a)(e:H' a=H a)(ha:a∈Y)(ro:∀b,Own H Y b->b∉Y)(w:∀b vs,b∉Y->H b=some (.lst vs)->H' b=some (.lst vs))(h:uB mg H Y xs a):uB mg H' Y' xs a:=by
 rcases h with⟨vs,h1,h2⟩ | ⟨kvs,h1,h2⟩ | ⟨o,kvs,ys,h1,h2⟩ | ⟨kvs,g,h1,h2⟩ | ⟨o,kvs,ys,h1,e1,h2,f⟩;·exact .inl ⟨vs,e.trans h1,h2.gen k hi⟩
 ·exact .inr (.inl ⟨kvs,e.trans h1,h2⟩)
 ·exact .inr (.inr (.inl ⟨o,kvs,ys,e.trans h1,h2⟩))
 ·exact .inr (.inr (.inr (.inl ⟨kvs,g,e.trans h1,h2.imp (λ_ _ _ _ q=>q.gen k hi) (λq b vs hm=>w b vs (ro b ⟨a,ha,kvs,q,h1,hm⟩)) λb o vs q=>k.k b _ q (by intro vs z;cases z) (by intro vs z;cases z) (by intro vs g z;cases z)⟩)))
 ·exact .inr (.inr (.inr (.inr ⟨o,kvs,ys,e.trans h1,e1,h2.imp (λ_ _ _ _ q=>q.gen k hi) (λq b vs hm z=>(h2.fz f.1 hm z).elim) λb o vs q=>k.k b _ q (by intro vs z;cases z) (by intro vs z;cases z) (by intro vs g z;cases z),f⟩)))
theorem uB.ne{xs:List D}{a p:Addr}(h:uB mg H Y xs a)(hp:H p=none):a≠p:=by
 rintro rfl;rcases h.kind with⟨_,e⟩ | ⟨_,e⟩ | ⟨_,_,e⟩ | ⟨_,_,e⟩ | ⟨_,_,e⟩<;>rw[hp]at e<;>cases e
theorem Rep.notin{p:Addr}(r:Rep mg H Y s)(hp:H p=none):p∉Y:=λz=>by rcases r.mt p z with⟨_,e⟩ | ⟨_,e⟩ | ⟨_,_,e⟩ | ⟨_,_,e⟩ | ⟨_,_,e⟩<;>rw[hp]at e<;>cases e
theorem yJ.lay{p:Addr}{o:HO}(r:Rep mg H Y s)(hp:H p=none)(ho:∀vs,o≠.lst vs):yJ mg H Y (upd H p o) Y s:= have d:DkS H Y (upd H p o) Y:=λa ha kvs e=>⟨ha,by rw[zj (show a≠p from λz=>r.notin hp (z ▸ ha))]at e;exact e⟩;⟨⟨r.len,r.nd,λl xs h=>let ⟨a,h1,h2⟩:=r.cell l xs h;⟨a,h1,h2.gen (.new hp) (λ_ _ q=>q) (zj (h2.ne hp)) (_f h1) r.own (λb vs _ q=>xJ hp b _ q)⟩,r.flat,λb h=>r.own b (d.own h),d.uq r⟩,_a0 _,λb u h _ _=>xJ hp b u h,λa h1 h2=>absurd h1 h2,λa ha=>(r.mt a ha).imp (λh=>⟨h,(Kp.new hp).l a h⟩) λh=>⟨h,(Kp.new hp).c a h,λ_ _ e=>xJ hp a _ e⟩,λb h=>qJ h,λb h=>.inl (d.own h)⟩
theorem yJ.layC{p:Addr}{o:HO}{xs:List D}(r:Rep mg H Y s)(hp:H p=none)(hc:uB mg (upd H p o) (Y++[p]) xs p)(hf:D.flat.flats xs=true)(ho:∀kvs,o≠.dK kvs:=by intro _ z;cases z):yJ mg H Y (upd H p o) (Y++[p]) (s++[xs]):=by
 have pn:p∉Y:=r.notin hp;have d:DkS H Y (upd H p o) (Y++[p]):=λa ha kvs e=>by
  by_cases z:a=p;·subst z;rw[zH]at e;exact absurd (_z e) (ho kvs)
  ·rw[zj z]at e;exact⟨(_B.mp ha).elim id λq=>absurd (by simpa using q) z,e⟩
 have hi:∀(l:Nat) a,Y[l]? = some a->(Y++[p])[l]? = some a:=λl a h=>by rw[_A (_b.mp h).1];exact h
 refine⟨⟨by simp[r.len],?_,λl ys h=>?_,λys h=>?_,λb h=>?_,d.uq r⟩,List.prefix_append _ _,λb u h _ _=>xJ hp b u h,λa h1 h2=>?_,λa ha=>(r.mt a ha).imp (λh=>⟨h,(Kp.new hp).l a h⟩) λh=>⟨h,(Kp.new hp).c a h,λ_ _ e=>xJ hp a _ e⟩,λb h=>qJ h,λb h=>.inl (d.own h)⟩
 ·rw[List.nodup_append];exact⟨r.nd,by simp,λa ha b hb=>by
   have:b=p:=by simpa using hb
   subst this;exact λz=>pn (z ▸ ha)⟩
 ·by_cases hl:l<s.length
  ·rw[_A hl]at h;obtain⟨a,h1,h2⟩:=r.cell l ys h;exact⟨a,hi l a h1,h2.gen (.new hp) hi (zj (h2.ne hp)) (_f h1) r.own (λb vs _ q=>xJ hp b _ q)⟩
  ·have h0:l=s.length:=by
    have:=(_b.mp h).1;simp at this;omega
   subst h0;simp at h;subst h;exact⟨p,by rw[<- r.len];simp,hc⟩
 ·rcases _B.mp h with h | h;·exact r.flat ys h
  ·have:ys=xs:=by simpa using h
   rw[this];exact hf
 ·have q:=d.own h;obtain⟨u,hu⟩:=r.ownAt q;intro z;rcases _B.mp z with z | z;·exact r.own b q z
  ·have:b=p:=by simpa using z
   rw[this,hp]at hu;cases hu
 ·rcases _B.mp h1 with h | h;·exact absurd h h2
  ·have:a=p:=by simpa using h
   rw[this];exact hp
theorem yJ.layL{p:Addr}{xs:List D}{vs:List V}(r:Rep mg H Y s)(hp:H p=none)(hd:zC mg H Y xs vs)(hf:D.flat.flats xs=true):yJ mg H Y (upd H p (.lst vs)) (Y++[p]) (s++[xs]):= yJ.layC r hp (.inl ⟨vs,zH,hd.gen (.new hp) λl a h=>by rw[_A (_b.mp h).1];exact h⟩) hf
theorem yJ.putC{l:Nat}{a:Addr}{o:HO}{xs:List D}(r:Rep mg H Y s)(ha:Y[l]? = some a)(k:Kp H (upd H a o))(hc:uB mg (upd H a o) Y xs a)(hf:D.flat.flats xs=true)(ho:∀kvs,o≠.dK kvs:=by intro _ z;cases z):yJ mg H Y (upd H a o) Y (s.set l xs):=by
 have d:DkS H Y (upd H a o) Y:=λb hb kvs e=>by
  by_cases z:b=a;·subst z;rw[zH]at e;exact absurd (_z e) (ho kvs)
  ·rw[zj z]at e;exact⟨hb,e⟩
 have hai:a∈Y:=_f ha;have hll:l<s.length:=by rw[<- r.len];exact (_b.mp ha).1
 refine⟨⟨by simp[r.len],r.nd,λj ys h=>?_,λys h=>?_,λb h=>r.own b (d.own h),d.uq r⟩,_a0 _,λb u h hn _=>?_,λa h1 h2=>absurd h1 h2,λb hb=>(r.mt b hb).imp (λh=>⟨h,k.l b h⟩) λh=>⟨h,k.c b h,λ_ _ e=>k.k b _ e (by intro _ z;cases z) (by intro _ z;cases z) (by intro _ _ z;cases z)⟩,λb h=>qJ h,λb h=>.inl (d.own h)⟩
 ·by_cases hj:l=j
  ·subst hj;rw[_H hll]at h;cases h;exact⟨a,ha,hc⟩
  ·rw[_F hj]at h;obtain⟨b,h1,h2⟩:=r.cell j ys h;refine⟨b,h1,h2.gen k (λ_ _ q=>q) (zj ?_) (_f h1) r.own (λc vs hc q=>by rw[zj (show c≠a from λz=>hc (z ▸ hai))];exact q)⟩;rintro rfl;have il:l<Y.length:=(_b.mp ha).1;have ij:j<Y.length:=(_b.mp h1).1;exact hj ((_bF r.nd).mp (((_b.mp ha).2).trans ((_b.mp h1).2).symm))
 ·rcases _aH h with h | h;·exact r.flat ys h
  ·rw[h];exact hf
 ·rw[zj (λz=>by subst z;exact hn hai)];exact h
theorem yJ.put{l:Nat}{a:Addr}{xs:List D}{vs:List V}(r:Rep mg H Y s)(ha:Y[l]? = some a)(ka:IsL H a)(hd:zC mg H Y xs vs)(hf:D.flat.flats xs=true):yJ mg H Y (upd H a (.lst vs)) Y (s.set l xs):= yJ.putC r ha (.putL ka) (.inl ⟨vs,zH,hd.gen (.putL ka) λ_ _ q=>q⟩) hf
noncomputable def listOf(s:Sto):D->Option (List D)
 | .lst xs=>some xs | .loc l=>s[l]? | _=>none
noncomputable def yj(s:Sto):D->Option (List D)
 | .tup xs=>some xs | .lst xs=>some xs | .scr xs=>some xs | .loc l=>s[l]? | _=>none
theorem zI{d:D}{xs:List D}{v:V}(r:Rep mg H Y s)(h:listOf s d=some xs)(dn:Den mg H Y d v):∃a vs,v=.ref a/\Rd H a (.lst vs)/\zC mg H Y xs vs:=by cases d with
 | lst ys=>
  simp only[listOf,_E]at h;subst h;simp only[Den]at dn;obtain⟨a,o,vs,e,h1,h2⟩:=dn;exact⟨a,vs,e,.inr ⟨o,h1⟩,h2⟩ | loc l=>
  simp only[Den]at dn;obtain⟨a,e,h1,k⟩:=dn;obtain⟨vs,h3,h4⟩:=r.at_ h h1 k;exact⟨a,vs,e,.inl h3,h4⟩ | _=>simp[listOf]at h
theorem zb3{xs:List D}{v:V}(dn:Den mg H Y (.scr xs) v):∃a vs,v=.ref a/\SqL mg.K H a vs/\zC mg H Y xs vs:=by
 simp only[Den]at dn;obtain⟨a,vs,e,h1,h2⟩:=dn;exact⟨a,vs,e,h1.elim (λ⟨o,h⟩=>.inl (.inr ⟨o,h⟩)) .inr,h2⟩
theorem uR{K:W.Frag}{d:D}{xs:List D}{v:V}(r:Rep mg H Y s)(h:yj s d=some xs)(dn:Den mg H Y d v)(hK:mg.K=K:=by rfl):∃a vs,v=.ref a/\(SqL K H a vs\/SqT K H a vs)/\zC mg H Y xs vs:=by cases d with
 | tup ys=>
  simp only[yj,_E]at h;subst h;simp only[Den]at dn;obtain⟨a,vs,e,h1,h2⟩:=dn;exact⟨a,vs,e,.inr (.inl (.inl h1)),h2⟩ | lst ys=>
  obtain⟨a,vs,e,h1,h2⟩:=zI (d:=.lst ys) r h dn;exact⟨a,vs,e,.inl (.inl h1),h2⟩ | scr ys=>
  simp only[yj,_E]at h;subst h;subst hK;obtain⟨a,vs,e,h1,h2⟩:=zb3 dn;exact⟨a,vs,e,.inl h1,h2⟩ | loc l=>
  obtain⟨a,vs,e,h1,h2⟩:=zI (d:=.loc l) r h dn;exact⟨a,vs,e,.inl (.inl h1),h2⟩ | _=>simp[yj]at h
theorem jr{K:W.Frag}{xs:List D}{v:V}(dn:Den mg H Y (.tup xs) v):∃a vs,v=.ref a/\SqT K H a vs/\zC mg H Y xs vs:=by
 simp only[Den]at dn;obtain⟨a,vs,e,h1,h2⟩:=dn;exact⟨a,vs,e,.inl (.inl h1),h2⟩
end
noncomputable def cap:Nat:=100000
theorem ut{n:Nat}(h:n<=cap):n<=sizeLine:=_O h (by decide)
theorem z6k{n:Nat}(h:n<cap):n<sizeLine:=_r h (by decide)
noncomputable def BIG:Nat:=2 ^ 4096
noncomputable def ud:D->D->Sto->R D
 | .int i,.int j,s=>.ok (.int (i+j)) s | .tup a,.tup b,s=>if a.length+b.length<=cap then .ok (.tup (a++b)) s else .no | x,y,s=>match listOf s x,listOf s y with
  | some a,some b=>if a.length+b.length<=cap then .ok (.lst (a++b)) s else .no | _,_=>.no
section
variable {X:Cx}{E:XK}
theorem yp{mg:Gm}{H:Hp}{Y:List Addr}{i:Int}{v:V}(h:Den mg H Y (.int i) v):v=.int i:=by simpa[Den] using h
theorem jU{mg:Gm}{H:Hp}{Y:List Addr}{i:Bool}{v:V}(h:Den mg H Y (.bl i) v):v=.bl i:=by simpa[Den] using h
theorem zbr{mg:Gm}{H:Hp}{Y:List Addr}{i:Str}{v:V}(h:Den mg H Y (.str i) v):v=.str i:=by simpa[Den] using h
theorem yT{mg:Gm}{H:Hp}{Y:List Addr}{i:Int}:Den mg H Y (.int i) (.int i):=by simp[Den]
theorem vz{mg:Gm}{H:Hp}{Y:List Addr}{i:Bool}:Den mg H Y (.bl i) (.bl i):=by simp[Den]
theorem jg{mg:Gm}{H:Hp}{Y:List Addr}{s:Sto}{xs:List D}{vs:List V}{Q:VK}(r:Rep mg H Y s)(h:okR mg E H Y (Den mg) (.ok (.lst xs) s) Q)(hd:zC mg H Y xs vs):∀p,H p=none->z6E Q (.ref p) (upd H p (.lst vs)):=λp hp=>by
 refine⟨p,vs,rfl,zH,λo=>?_⟩;rw[z7H];have stp:=yJ.lay (o:=.frz o (.lst vs)) r hp (by intro _ z;cases z);refine h _ _ _ stp ?_;simp only[Den];exact⟨p,o,vs,rfl,zH,hd.mono stp⟩
theorem z1j{mg:Gm}{H:Hp}{Y:List Addr}{s:Sto}{xs:List D}{vs:List V}{Q:VK}(r:Rep mg H Y s)(h:okR mg E H Y (Den mg) (.ok (.tup xs) s) Q)(hd:zC mg H Y xs vs):∀p,H p=none->Q (.ref p) (upd H p (.tup vs)):=λp hp=>by
 have stp:=yJ.lay (o:=.tup vs) r hp (by intro _ z;cases z);refine h _ _ _ stp ?_;simp only[Den];exact⟨p,vs,rfl,zH,hd.mono stp⟩
theorem vE:∃r,OpR X (binaryOp .Add) r/\OpF X E r ud:=by
 refine⟨_,ze4.or ((z9Y).or ((zbQ).or (z7i.freeze))),?_⟩;intro H Y s d1 d2 v1 v2 Q r h1 h2 h;have lists:∀a b,listOf s d1=some a->listOf s d2=some b->okR (gm X) E H Y (Den (gm X)) (if a.length+b.length<=cap then R.ok (D.lst (a++b)) s else .no) Q-> ∃l b xs zs,v1=.ref l/\v2=.ref b/\Rd H l (.lst xs)/\Rd H b (.lst zs)/\xs.length+zs.length<=sizeLine/\∀p,H p=none->z6E Q (.ref p) (upd H p (.lst (xs++zs))):=λa b ha hb hq=>by
  obtain⟨l,vs,e,q1,q2⟩:=zI r ha h1;obtain⟨l',vs',e',q1',q2'⟩:=zI r hb h2;split at hq
  ·rename_i hl;exact⟨l,l',vs,vs',e,e',q1,q1',by rw[q2.length,q2'.length];exact ut hl,jg r hq (q2.append q2')⟩
  ·exact hq.elim
 unfold ud at h;split at h
 ·rename_i i j;cases yp h1;cases yp h2;exact .inl ⟨i,j,rfl,rfl,h.here r yT⟩
 ·rename_i a b;obtain⟨l,vs,rfl,q1,q2⟩:=jr (K:=X.K) h1;obtain⟨l',vs',rfl,q1',q2'⟩:=jr (K:=X.K) h2;split at h
  ·rename_i hl;cases a with
   | nil=>
    simp only[zC]at q2;subst q2;exact .inr (.inl ⟨l,l',vs',rfl,rfl,q1,q1',h.here r h2⟩) | cons x a=>
    have ne:vs≠[]:=λz=>by have:=q2.length;rw[z]at this;simp at this
    refine .inr (.inr (.inl ⟨l,l',vs,vs',rfl,rfl,q1,q1',ne,by rw[q2.length,q2'.length];exact ut hl,λz=>?_,λz=>z1j r h (q2.append q2')⟩));have eb:b=[]:=by
     have:=q2'.length;rw[z]at this;exact _bX.mp this.symm
    subst eb;rw[_bN]at h;exact h.here r h1
  ·exact h.elim
 ·split at h
  ·rename_i a b ha hb;exact .inr (.inr (.inr (lists a b ha hb h)))
  ·exact h.elim
end
noncomputable def dII(g:Int->Int->R D):D->D->Sto->R D
 | .int i,.int j,s=>match g i j with | .ok d _=>.ok d s | _=>.no
 | _,_,_=>.no
noncomputable def iOk(d:D):R D:=.ok d []
noncomputable def zbA:D->D->Sto->R D:=dII λi j=>iOk (.int (i-j))
noncomputable def qq:D->D->Sto->R D:=dII λi j=>if i.natAbs<BIG/\j.natAbs<BIG then iOk (.int (i*j)) else .no
noncomputable def z6F:D->D->Sto->R D:=dII λi j=>if 0<j/\j.natAbs<BIG then iOk (.int (i / j)) else .no
noncomputable def z87:D->D->Sto->R D:=dII λi j=>if 0<j then iOk (.int (i % j)) else .no
noncomputable def z8Z:D->D->Sto->R D:=dII λi j=>if 0<=j/\j<=1000/\i.natAbs<1000 then iOk (.int (i ^ j.toNat)) else .no
noncomputable def dLt:D->D->Sto->R D:=dII λi j=>iOk (.bl (decide (i<j)))
noncomputable def dLe:D->D->Sto->R D:=dII λi j=>iOk (.bl (decide (i<=j)))
noncomputable def dGt:D->D->Sto->R D:=dII λi j=>iOk (.bl (decide (j<i)))
noncomputable def dGe:D->D->Sto->R D:=dII λi j=>iOk (.bl (decide (j<=i)))
section
variable {X:Cx}{E:XK}
theorem kg{g:Int->Int->R D}{r:R2}(h:∀i j d t H Q,g i j=.ok d t->(∀v,(∀H Y,Den (gm X) H Y d v)->Q v H)->r (.int i) (.int j) H Q):OpF X E r (dII g):=by
 intro H Y s d1 d2 v1 v2 Q rp h1 h2 hq;unfold dII at hq;split at hq
 ·rename_i i j;cases yp h1;cases yp h2;split at hq
  ·rename_i d t e;exact h i j d t H Q e λv hv=>hq.here rp (hv H Y)
  ·exact hq.elim
 ·exact hq.elim
theorem z9P:∃r,OpR X (binaryOp .Sub) r/\OpF X E r zbA:=⟨_,zdl,kg λi j d t H Q e q=>by
 simp only[iOk,R.ok.injEq]at e;exact⟨i,j,rfl,rfl,q _ (by intro H Y;rw[<- e.1];exact yT)⟩⟩
theorem z6c{i:Int}(h:i.natAbs<BIG):Builtin.Int.intBits i<=2 ^ 20:=by
 have q:Builtin.Int.intBits i<=4096:=(PySem.intBits_le_iff (m:=4096)).mpr h;omega
theorem zcG:OpR X (binaryOp .Mult) (rI (λi j=>i.natAbs<BIG/\j.natAbs<BIG) λi j=>.int (i*j)):=opI λ_ _ _ _ _ _ _ hc q=>mul_int q (IntMulOk.of_bits (z6c hc.1) (z6c hc.2))
theorem z1o:∃r,OpR X (binaryOp .Mult) r/\OpF X E r qq:=⟨_,zcG,kg λi j d t H Q e q=>by
 split at e
 ·rename_i hc;simp only[iOk,R.ok.injEq]at e;exact⟨i,j,rfl,rfl,hc,q _ (by intro H Y;rw[<- e.1];exact yT)⟩
 ·cases e⟩
theorem zbL{j:Int}(h:j.natAbs<BIG):j.natAbs.log2<9000:=by
 by_cases h0:j.natAbs=0;·rw[h0];decide +kernel
 ·have:j.natAbs.log2<4096:=(Nat.log2_lt h0).mpr h;omega
theorem zaf:OpR X (binaryOp .FloorDiv) (rI (λ_ j=>0<j/\j.natAbs<BIG) λi j=>.int (i / j)):=opI λi j _ _ _ _ _ hc q=>by
 refine floordiv_int (by omega) ?_ (.inl (PyProof.noPylong_of_log2 (zbL hc.2)));rw[Int.fdiv_eq_ediv_of_nonneg _ (by omega)];exact q
theorem zb5:∃r,OpR X (binaryOp .FloorDiv) r/\OpF X E r z6F:=⟨_,zaf,kg λi j d t H Q e q=>by
 split at e
 ·rename_i hc;simp only[iOk,R.ok.injEq]at e;exact⟨i,j,rfl,rfl,hc,q _ (by intro H Y;rw[<- e.1];exact yT)⟩
 ·cases e⟩
theorem z9u:∃r,OpR X (binaryOp .Mod) r/\OpF X E r z87:=⟨_,zdu,kg λi j d t H Q e q=>by
 split at e
 ·rename_i hc;simp only[iOk,R.ok.injEq]at e;exact⟨i,j,rfl,rfl,hc,q _ (by intro H Y;rw[<- e.1];exact yT)⟩
 ·cases e⟩
theorem z9N:∃r,OpR X (binaryOp .Pow) r/\OpF X E r z8Z:=⟨_,zeB,kg λi j d t H Q e q=>by
 split at e
 ·rename_i hc;simp only[iOk,R.ok.injEq]at e;exact⟨i,j,rfl,rfl,⟨hc.1,by omega,by omega⟩,q _ (by intro H Y;rw[<- e.1];exact yT)⟩
 ·cases e⟩
theorem zh6:∃r,OpR X (compareOp .Lt) r/\OpF X E r dLt:=⟨_,zgo,kg λi j d t H Q e q=>by
 simp only[iOk,R.ok.injEq]at e;exact⟨i,j,rfl,rfl,q _ (by intro H Y;rw[<- e.1];exact vz)⟩⟩
theorem zdf:∃r,OpR X (compareOp .LtE) r/\OpF X E r dLe:=⟨_,zfq,kg λi j d t H Q e q=>by
 simp only[iOk,R.ok.injEq]at e;exact⟨i,j,rfl,rfl,q _ (by intro H Y;rw[<- e.1];exact vz)⟩⟩
theorem zgy:∃r,OpR X (compareOp .Gt) r/\OpF X E r dGt:=⟨_,zfQ,kg λi j d t H Q e q=>by
 simp only[iOk,R.ok.injEq]at e;exact⟨i,j,rfl,rfl,q _ (by intro H Y;rw[<- e.1];exact vz)⟩⟩
theorem zgq:∃r,OpR X (compareOp .GtE) r/\OpF X E r dGe:=⟨_,zg1,kg λi j d t H Q e q=>by
 simp only[iOk,R.ok.injEq]at e;exact⟨i,j,rfl,rfl,q _ (by intro H Y;rw[<- e.1];exact vz)⟩⟩
end
mutual
noncomputable def z2h:D->PyData
 | .non=>.none | .bl b=>.bool b | .int i=>.int i | .str x=>.str x | .tup xs=>.tuple (toPys xs) | .lst xs=>.list (toPys xs) | _=>.dict []
noncomputable def toPys:List D->List PyData
 | []=>[] | d::ds=>z2h d::toPys ds
end
noncomputable def eqD(a b:D):Bool:=PyData.eqv (z2h a) (z2h b)
noncomputable def zd7(d:D):Bool:=SeqAt.shaped (z2h d)
noncomputable def dEq(x y:D)(s:Sto):R D:=if zd7 x=true/\zd7 y=true then .ok (.bl (eqD x y)) s else .no
noncomputable def dNe(x y:D)(s:Sto):R D:=if zd7 x=true/\zd7 y=true then .ok (.bl (!eqD x y)) s else .no
section
variable {P:Program}{w:World}{mg:Gm}{H:Hp}{Y:List Addr}{h:Heap}
mutual
theorem Den.reads(ok:HOk P w H h):∀{d:D}{v:V}{u:Value},PyData.canLay0 (z2h d)=true->Den mg H Y d v->xc v u->∃as,Reads h u (z2h d) as
 | .non,_,_,_,dn,r=>by simp only[Den]at dn;subst dn;cases r;exact⟨_,by simpa[z2h] using Reads.none⟩ | .bl b,_,_,_,dn,r=>by simp only[Den]at dn;subst dn;cases r;exact⟨_,by simpa[z2h] using Reads.bool b⟩ | .int i,_,_,_,dn,r=>by simp only[Den]at dn;subst dn;obtain⟨t,rfl⟩:=r;exact⟨_,by simpa[z2h] using Reads.int i t⟩ | .str x,_,_,_,dn,r=>by simp only[Den]at dn;subst dn;obtain⟨t,rfl⟩:=r;exact⟨_,by simpa[z2h] using Reads.str x t⟩ | .tup ds,_,_,c,dn,r=>by
  simp only[Den]at dn;obtain⟨a,vs,rfl,h1,h2⟩:=dn;cases r;obtain⟨_,its,rv,o,e,hc,_,n,hd⟩:=ok a _ h1;obtain⟨as,q⟩:=zC.reads ok (by simpa[z2h,PyData.canLay0] using c) h2 rv;rw[z2h];exact⟨as,Reads.tuple e hc hd (by simpa using q)⟩ | .lst ds,_,_,c,dn,r=>by
  simp only[Den]at dn;obtain⟨a,o,vs,rfl,h1,h2⟩:=dn;cases r;obtain⟨_,_,its,n,rv,e⟩:=ok a _ h1;obtain⟨as,q⟩:=zC.reads ok (by simpa[z2h,PyData.canLay0] using c) h2 rv;rw[z2h];exact⟨_,Reads.list e rfl rfl (by simpa using q)⟩ | .dct,_,_,c,_,_=>by simp[z2h,PyData.canLay0]at c | .loc _,_,_,c,_,_=>by simp[z2h,PyData.canLay0]at c | .fn _,_,_,c,_,_=>by simp[z2h,PyData.canLay0]at c | .exc _,_,_,c,_,_=>by simp[z2h,PyData.canLay0]at c
theorem zC.reads(ok:HOk P w H h):∀{ds:List D}{vs:List V}{us:List Value},PyData.canLayAll0 (toPys ds)=true->zC mg H Y ds vs->yC vs us->∃as,ReadsAll h us (toPys ds) as
 | [],_,_,_,dn,r=>by simp only[zC]at dn;subst dn;cases r;exact⟨_,by simpa[toPys] using ReadsAll.nil⟩ | d::ds,_,_,c,dn,r=>by
  simp only[zC]at dn;obtain⟨v,vs,rfl,h1,h2⟩:=dn;simp only[toPys,PyData.canLayAll0,_u]at c;cases r with | cons r1 r2=>
   obtain⟨as,q⟩:=Den.reads ok c.1 h1 r1;obtain⟨bs,q'⟩:=zC.reads ok c.2 h2 r2;rw[toPys];exact⟨_,ReadsAll.cons q q'⟩
end
end
section
variable {X:Cx}{E:XK}
def zgV(mg:Gm)(neg:Bool):R2:=λx y H Q=>∃Y d1 d2,Den mg H Y d1 x/\Den mg H Y d2 y/\zd7 d1=true/\zd7 d2=true/\Q (.bl (if neg then !eqD d1 d2 else eqD d1 d2)) H
theorem zeq(hu:X.A.units+64<cLine):OpR X (compareOp .Eq) (zgV (gm X) false):=by
 intro pins s O H x y v u Q I rx ry ⟨Y,d1,d2,h1,h2,p1,p2,q⟩;obtain⟨as,ra⟩:=Den.reads I.hok (_bm p1) h1 rx;obtain⟨bs,rb⟩:=Den.reads I.hok (_bm p2) h2 ry;exact SeqAt.compareEq_shaped ra rb p1 p2 hu ⟨.bl (eqD d1 d2),H,I,rfl,q⟩
theorem zf2(hu:X.A.units+64<cLine):OpR X (compareOp .NotEq) (zgV (gm X) true):=by
 intro pins s O H x y v u Q I rx ry ⟨Y,d1,d2,h1,h2,p1,p2,q⟩;obtain⟨as,ra⟩:=Den.reads I.hok (_bm p1) h1 rx;obtain⟨bs,rb⟩:=Den.reads I.hok (_bm p2) h2 ry;exact SeqAt.compareNe_shaped ra rb p1 p2 hu ⟨.bl (!eqD d1 d2),H,I,rfl,q⟩
theorem zaQ(hu:X.A.units+64<cLine):∃r,OpR X (compareOp .Eq) r/\OpF X E r dEq:=⟨_,zeq hu,λH Y s d1 d2 v1 v2 Q r h1 h2 h=>by
 unfold dEq at h;split at h
 ·rename_i hc;exact⟨Y,d1,d2,h1,h2,hc.1,hc.2,h.here r vz⟩
 ·exact h.elim⟩
theorem zaH(hu:X.A.units+64<cLine):∃r,OpR X (compareOp .NotEq) r/\OpF X E r dNe:=⟨_,zf2 hu,λH Y s d1 d2 v1 v2 Q r h1 h2 h=>by
 unfold dNe at h;split at h
 ·rename_i hc;exact⟨Y,d1,d2,h1,h2,hc.1,hc.2,h.here r vz⟩
 ·exact h.elim⟩
noncomputable def z7R:D->Option V
 | .non=>some .non | .bl b=>some (.bl b) | .int i=>some (.int i) | .str x=>some (.str x) | _=>none
noncomputable def z5o:List D->Option (List V)
 | []=>some [] | d::ds=>match z7R d,z5o ds with | some v,some vs=>some (v::vs) | _,_=>none
noncomputable def zf8(neg:Bool)(x y:D)(s:Sto):R D:=match z7R x,(yj s y).bind z5o with
 | some v,some vs=>.ok (.bl (if neg then !inV v vs else inV v vs)) s | _,_=>.no
noncomputable def dIx(x y:D)(s:Sto):R D:=match y,yj s x with
 | .int i,some xs=>match atI xs i with | some d=>.ok d s | none=>.no
 | _,_=>.no
theorem z9i{mg:Gm}{H:Hp}{Y:List Addr}{xs:List D}{vs:List V}{i:Int}{d:D}(h:zC mg H Y xs vs)(e:atI xs i=some d):∃v,atI vs i=some v/\Den mg H Y d v:=by
 unfold atI at e ⊢;rw[h.length];cases q:ixN xs.length i with
 | none=>rw[q]at e;cases e | some j=>
  rw[q]at e;exact h.get e
theorem zhW:∃r,IxR X r/\OpF X E r dIx:=⟨_,zc0.or zee,λH Y s d1 d2 v1 v2 Q r h1 h2 h=>by
 unfold dIx at h;split at h
 ·rename_i i xs e;split at h
  ·rename_i d e2;cases yp h2;obtain⟨a,vs,rfl,q1,q2⟩:=uR (K:=X.K) r e h1;obtain⟨v,e3,e4⟩:=z9i q2 e2;rcases q1 with q1 | q1;·exact .inl ⟨a,vs,i,v,rfl,rfl,q1,e3,h.here r e4⟩
   ·exact .inr ⟨a,vs,i,v,rfl,rfl,q1,e3,h.here r e4⟩
  ·exact h.elim
 ·exact h.elim⟩
end
section
variable {X:Cx}{E:XK}{e a b c:Expr}{es:List Expr}{pos:Pos}
theorem yd{op:Operator}{fo:D->D->Sto->R D}{fa fb:FE}(ho:∃r,OpR X (binaryOp op) r/\OpF X E r fo)(ha:RE X E a fa)(hb:RE X E b fb):RE X E (.BinOp a op b pos) (eOp fo fa fb):=let ⟨_,h⟩:=ho;zhs h ha hb
theorem z0U{op:CmpOp}{fo:D->D->Sto->R D}{fa fb:FE}(ho:∃r,OpR X (compareOp op) r/\OpF X E r fo)(ha:RE X E a fa)(hb:RE X E b fb)(hm:behindInMarks op b=false:=by first | exact zbg _ | rfl):RE X E (.Compare a [op] [b] pos) (eOp fo fa fb):=let ⟨_,h⟩:=ho;zfp h ha hb hm
noncomputable def tOf(f:FE):FT:=fun ρ s=>(f ρ s).bind λd s1=>match d with | .bl k=>.ok k s1 | _=>.no
theorem z2E{f:FE}{O:L2.St}{H:Hp}{Q:Bool->Hp->Prop}(h:tT (gm X) E (tOf f) O H Q):zc4 (tE (gm X) E f) O H Q:=by
 obtain⟨Y,ρ,s,r,en,h⟩:=h;refine yc (k:=fun ρ d s1=>match d with | .bl k=>.ok k s1 | _=>.no) r en h _ λv H1 Y1 s1 d r1 en1 dn stp h1=>?_;cases d with
 | bl k=>
  cases jU dn;exact⟨k,rfl,h1.here (b:=k) r1 rfl⟩ | _=>exact h1.elim
theorem xO{op:CmpOp}{fo:D->D->Sto->R D}{fa fb:FE}(ho:∃r,OpR X (compareOp op) r/\OpF X E r fo)(ha:RE X E a fa)(hb:RE X E b fb)(hm:behindInMarks op b=false:=by first | exact zbg _ | rfl):RT X E (.Compare a [op] [b] pos) (tOf (eOp fo fa fb)):=by
 obtain⟨r,h1,h2⟩:=ho;exact z4C (zbS h1 ha hb hm) λO H Q h=>by
  have q:=z2E h;exact z6h h2 q
noncomputable def z1R(fo fo':D->D->Sto->R D)(fa fb fc:FE):FE:=fun ρ s=>(fa ρ s).bind λx s1=>(fb ρ s1).bind λy s2=>(fo x y s2).bind λz s3=>match z with
 | .bl true=>(fc ρ s3).bind λw s4=>fo' y w s4 | .bl false=>.ok (.bl false) s3 | _=>.no
theorem z4a{r r':R2}{fo fo':D->D->Sto->R D}{fa fb fc:FE}(ho:OpF X E r fo)(ho':OpF X E r' fo'){O:L2.St}{H:Hp}{Q:VK}(h:tE (gm X) E (z1R fo fo' fa fb fc) O H Q):z7D r r' (tE (gm X) E fa) (tE (gm X) E fb) (tE (gm X) E fc) O H Q:=by
 obtain⟨Y,ρ,s,rp,en,h⟩:=h;refine yc (k:=fun ρ x s1=>(fb ρ s1).bind λy s2=>(fo x y s2).bind λz s3=>match z with
  | .bl true=>(fc ρ s3).bind λw s4=>fo' y w s4 | .bl false=>.ok (.bl false) s3 | _=>.no) rp en h _ λv H1 Y1 s1 d r1 en1 dn stp h1=>?_;refine yc (k:=fun ρ y s2=>(fo d y s2).bind λz s3=>match z with
  | .bl true=>(fc ρ s3).bind λw s4=>fo' y w s4 | .bl false=>.ok (.bl false) s3 | _=>.no) r1 en1 h1 _ λv2 H2 Y2 s2 d2 r2 en2 dn2 stp2 h2=>?_;refine ho H2 Y2 s2 d d2 v v2 _ r2 (dn.mono stp2) dn2 ((okR.bind (Dn:=Den (gm X)) h2).imp λv3 H3 ⟨Y3,s3,d3,stp3,dn3,h3⟩=>?_);cases d3 with
 | bl k=>
  cases jU dn3;refine⟨k,rfl,?_⟩;cases k with
  | true=>
   rw[_g rfl];refine yc (k:=fun ρ w s4=>fo' d2 w s4) stp3.rep (en2.mono stp3) h3 _ λv4 H4 Y4 s4 d4 r4 en4 dn4 stp4 h4=>?_;exact ho' H4 Y4 s4 d2 d4 v2 v4 Q r4 ((dn2.mono stp3).mono stp4) dn4 h4 | false=>
   rw[_l (by decide)];exact okR.here (b:=V.bl false) h3 stp3.rep vz
 | _=>exact h3.elim
theorem zci{op op':CmpOp}{fo fo':D->D->Sto->R D}{fa fb fc:FE}(ho:∃r,OpR X (compareOp op) r/\OpF X E r fo)(ho':∃r,OpR X (compareOp op') r/\OpF X E r fo')(ha:RE X E a fa)(hb:RE X E b fb)(hc:RE X E c fc) (hm:lastMarks [op,op'] [b,c]=false:=by with_unfolding_all rfl):RE X E (.Compare a [op,op'] [b,c] pos) (z1R fo fo' fa fb fc):=by
 obtain⟨r,h1,h2⟩:=ho;obtain⟨r',h1',h2'⟩:=ho';exact zX (z9W h1 h1' ha hb hc hm) λO H Q h=>z4a h2 h2' h
noncomputable def z9s(fa fb:FE):FE:=fun ρ s=>(fa ρ s).bind λx s1=>match x with | .bl true=>fb ρ s1 | .bl false=>.ok (.bl false) s1 | _=>.no
noncomputable def zfl(fa:FE):FE:=fun ρ s=>(fa ρ s).bind λx s1=>match x with | .bl k=>.ok (.bl (!k)) s1 | _=>.no
variable {z3B:List Expr}
theorem z8a{op:BoolOp}{f:FE}(h:RE X E a f):RE X E (.BoolOp op [a] pos) f:=zdQ h
theorem z71{fa fb:FE}(ha:RE X E a fa)(hb:RE X E (.BoolOp .And (b::z3B) pos) fb):RE X E (.BoolOp .And (a::b::z3B) pos) (z9s fa fb):= zX (zdd ha hb) λO H Q ⟨Y,ρ,s,r,en,h⟩=>by
  refine yc (k:=fun ρ x s1=>match x with | .bl true=>fb ρ s1 | .bl false=>.ok (.bl false) s1 | _=>.no) r en h _ λv H1 Y1 s1 d r1 en1 dn stp h1=>?_;cases d with
  | bl k=>
   cases jU dn;refine⟨k,rfl,?_⟩;cases k with
   | true=>rw[_g rfl];exact⟨Y1,ρ,s1,r1,en1,h1⟩ | false=>rw[_l (by decide)];exact okR.here (b:=V.bl false) h1 r1 vz
  | _=>exact h1.elim
theorem zfL{fa:FE}(ha:RE X E a fa):RE X E (.UnaryOp .Not a pos) (zfl fa):= zX (zeE ha) λO H Q ⟨Y,ρ,s,r,en,h⟩=>by
  refine yc (k:=fun ρ x s1=>match x with | .bl k=>R.ok (D.bl (!k)) s1 | _=>.no) r en h _ λv H1 Y1 s1 d r1 en1 dn stp h1=>?_;cases d with
  | bl k=>
   cases jU dn;exact⟨k,rfl,okR.here (b:=V.bl (!k)) h1 r1 vz⟩ | _=>exact h1.elim
noncomputable def fOr(fa fb:FT):FT:=fun ρ s=>(fa ρ s).bind λx s1=>if x=true then .ok true s1 else fb ρ s1
noncomputable def z26(fa:FT):FT:=fun ρ s=>(fa ρ s).bind λx s1=>.ok (!x) s1
def RW(X:Cx)(E:XK)(e:Expr)(f:FT):Prop:=PW X e (tT (gm X) E f)
theorem RW.rt{f:FT}(h:RW X E e f):RT X E e f:=PW.pt h
theorem zdV{t t':TT}(h:PW X e t)(i:∀O H Q,t' O H Q->t O H Q):PW X e t':=λwh pins s O H Q I q=>h wh pins s O H Q I (i O H Q q)
theorem z42{f:FT}(h:RT X E a f):RW X E (.BoolOp .Or [a] pos) f:=ze2 h
theorem zbf{fa fb:FT}(ha:RT X E a fa)(hb:RW X E (.BoolOp .Or (b::z3B) pos) fb):RW X E (.BoolOp .Or (a::b::z3B) pos) (fOr fa fb):= zdV (zg8 ha hb) λO H Q ⟨Y,ρ,s,r,en,h⟩=>by
  refine z5m (k:=fun ρ x s1=>if x=true then .ok true s1 else fb ρ s1) r en h _ λv H1 Y1 s1 r1 en1 stp h1=>?_;cases v with
  | false=>rw[_l (by decide)]at h1 ⊢;exact⟨Y1,ρ,s1,r1,en1,h1⟩ | true=>rw[_g rfl]at h1 ⊢;exact h1.here r1 rfl
theorem z1k{fa:FT}(ha:RT X E a fa):RT X E (.UnaryOp .Not a pos) (z26 fa):= z4C (zdA ha) λO H Q ⟨Y,ρ,s,r,en,h⟩=>z5m (k:=fun ρ x s1=>.ok (!x) s1) r en h _ λv H1 Y1 s1 r1 en1 stp h1=>h1.here r1 rfl
theorem z35{f:FE}(h:RE X E a f)(he:∀whole,isTrue a X.env whole=(do let v <- whole;standAt a.pos;holding [v] (truthy v)):=by intro _;rfl):RT X E a (tOf f):= z4C (zey h he) λO H Q h=>z2E h
theorem z6o {fa fb:FE} (ha:RE X E a fa) (hb:RE X E b fb) (hs:z8g b:=by intro _ _;rfl):RE X E (.Subscript a b pos) (eOp dIx fa fb):=by
 obtain⟨r,h1,h2⟩:=zhW (X:=X) (E:=E);exact zX (zfS h1 ha hb hs) λO H Q h=>z6h h2 h
noncomputable def zk:FA:=λ_ s=>.ok [] s
noncomputable def za(fa:FE)(fr:FA):FA:=fun ρ s=>(fa ρ s).bind λx s1=>(fr ρ s1).bind λxs s2=>.ok (x::xs) s2
theorem zh:RA X E [] zk:=zaR qd λO H Q ⟨Y,ρ,s,r,en,h⟩=>h.here r zC.nil
theorem wT{fa:FE}{fr:FA}(ha:RE X E e fa)(hr:RA X E es fr)(hs:starEach (e::es) X.env=(false,eval e X.env)::starEach es X.env:=by rfl):RA X E (e::es) (za fa fr):= zaR (wc ha hr hs) λO H Q ⟨Y,ρ,s,r,en,h⟩=>by
  refine yc (k:=fun ρ x s1=>(fr ρ s1).bind λxs s2=>.ok (x::xs) s2) r en h _ λv H1 Y1 s1 d r1 en1 dn stp h1=>?_;refine vW (k:=fun ρ xs s2=>.ok (d::xs) s2) r1 en1 h1 _ λvs H2 Y2 s2 ds r2 en2 dn2 stp2 h2=>?_;exact h2.here r2 (zC.cons (dn.mono stp2) dn2)
noncomputable def kJ(f:FA):FE:=fun ρ s=>(f ρ s).bind λxs s1=>if xs.length<=cap then .ok (.tup xs) s1 else .no
theorem z0j{f:FA}{x1:Nat}(h:RA X E es f):RE X E (.Tuple es x1 pos) (kJ f):= zX (zdy h) λO H Q ⟨Y,ρ,s,r,en,h⟩=>by
  refine vW (k:=fun ρ xs s1=>if xs.length<=cap then R.ok (D.tup xs) s1 else .no) r en h _ λvs H2 Y2 s2 ds r2 en2 dn2 stp2 h2=>?_;split at h2
  ·rename_i hl;exact⟨by rw[dn2.length];exact ut hl,z1j r2 h2 dn2⟩
  ·exact h2.elim
noncomputable def jP(f:FA):FE:=fun ρ s=>(f ρ s).bind λxs s1=>if xs.length<=cap then .ok (.lst xs) s1 else .no
theorem qt{f:FA}(h:RA X E es f):RE X E (.List es pos) (jP f):= zX (z6i h).freeze λO H Q ⟨Y,ρ,s,r,en,h⟩=>by
  refine vW (k:=fun ρ xs s1=>if xs.length<=cap then R.ok (D.lst xs) s1 else .no) r en h _ λvs H2 Y2 s2 ds r2 en2 dn2 stp2 h2=>?_;split at h2
  ·rename_i hl;exact⟨by rw[dn2.length];exact ut hl,jg r2 h2 dn2⟩
  ·exact h2.elim
noncomputable def zck(f:FA):FE:=fun ρ s=>(f ρ s).bind λxs s1=>if xs.length<=cap/\D.flat.flats xs=true then .ok (.loc s1.length) (s1++[xs]) else .no
theorem zaB{mg:Gm}{H:Hp}{Y:List Addr}{s:Sto}{xs:List D}{vs:List V}{Q:VK}(r:Rep mg H Y s)(h:okR mg E H Y (Den mg) (.ok (.loc s.length) (s++[xs])) Q)(hf:D.flat.flats xs=true)(hd:zC mg H Y xs vs):∀p,H p=none->Q (.ref p) (upd H p (.lst vs)):=λp hp=>by
 refine h _ _ _ (yJ.layL r hp hd hf) ?_;simp only[Den];exact⟨p,rfl,by rw[<- r.len];simp,vs,zH⟩
theorem zai{f:FA}(h:RA X E es f):RE X E (.List es pos) (zck f):= zX (z6i h) λO H Q ⟨Y,ρ,s,r,en,h⟩=>by
  refine vW (k:=fun ρ xs s1=>if xs.length<=cap/\D.flat.flats xs=true then R.ok (D.loc s1.length) (s1++[xs]) else .no) r en h _ λvs H2 Y2 s2 ds r2 en2 dn2 stp2 h2=>?_;split at h2
  ·rename_i hl;exact⟨by rw[dn2.length];exact ut hl.1,zaB r2 h2 hl.2 dn2⟩
  ·exact h2.elim
def kL(X:Cx)(E:XK)(r:List V->Hp->VK->Prop)(g:List D->Sto->R D):Prop:= ∀H Y s ds vs (Q:VK),Rep (gm X) H Y s->zC (gm X) H Y ds vs->okR (gm X) E H Y (Den (gm X)) (g ds s) Q->r vs H Q
noncomputable def ze(g:List D->Sto->R D)(f:FA):FE:=fun ρ s=>(f ρ s).bind λxs s1=>g xs s1
theorem zO {x:Str} {p:Pos} {id:String} {g:List D->Sto->R D} {f:FA} (hc:∃r,xH X (.builtin id) r/\kL X E r g) (hg:Gl X x) (hm:X.mg x=none) (hv:bootBuiltins x=some (.builtin id)) (ha:RA X E (e::es) f) (hn:x≠"__name__":=by decide) (hdb:(x==("__debug__":Str))=false:=by decide) (he:starEach (e::es) X.env=(false,eval e X.env)::starEach es X.env:=by rfl) (hpl:(backTo pos (starEach es X.env)).any (·.1)=false:=by rfl):RE X E (.Call (.Name x p) (e::es) [] pos) (ze g f):=by
 obtain⟨r,h1,h2⟩:=hc;exact zX (z0F h1 hg hm hv ha hn hdb he hpl) λO H Q ⟨Y,ρ,s,r,en,h⟩=> vW (k:=fun ρ xs s1=>g xs s1) r en h _ λvs H2 Y2 s2 ds r2 en2 dn2 stp2 h3=>h2 H2 Y2 s2 ds vs Q r2 dn2 h3
theorem z2S {x:Str} {p:Pos} {T:String} {g:List D->Sto->R D} {f:FA} (hc:∃r,xH X (.type T) r/\kL X E r g) (hg:Gl X x) (hm:X.mg x=none) (hv:bootBuiltins x=some (.type T)) (ha:RA X E (e::es) f) (hn:x≠"__name__":=by decide) (hdb:(x==("__debug__":Str))=false:=by decide) (he:starEach (e::es) X.env=(false,eval e X.env)::starEach es X.env:=by rfl) (hpl:(backTo pos (starEach es X.env)).any (·.1)=false:=by rfl):RE X E (.Call (.Name x p) (e::es) [] pos) (ze g f):=by
 obtain⟨r,h1,h2⟩:=hc;exact zX (z8z h1 hg hm hv ha hn hdb he hpl) λO H Q ⟨Y,ρ,s,r,en,h⟩=> vW (k:=fun ρ xs s1=>g xs s1) r en h _ λvs H2 Y2 s2 ds r2 en2 dn2 stp2 h3=>h2 H2 Y2 s2 ds vs Q r2 dn2 h3
theorem z1V{mg:Gm}{H:Hp}{Y:List Addr}{d:D}{vs:List V}(h:zC mg H Y [d] vs):∃v,vs=[v]/\Den mg H Y d v:=by
 simp only[zC]at h;obtain⟨v,r,rfl,h1,rfl⟩:=h;exact⟨v,rfl,h1⟩
theorem z4W{mg:Gm}{H:Hp}{Y:List Addr}{d d':D}{vs:List V}(h:zC mg H Y [d,d'] vs):∃v v',vs=[v,v']/\Den mg H Y d v/\Den mg H Y d' v':=by
 simp only[zC]at h;obtain⟨v,r,rfl,h1,v',r',rfl,h2,rfl⟩:=h;exact⟨v,v',rfl,h1,h2⟩
noncomputable def vM:List D->Sto->R D
 | [d],s=>match yj s d with | some xs=>.ok (.int xs.length) s | none=>.no
 | _,_=>.no
theorem z0k:∃r,xH X (.builtin "len") r/\kL X E r vM:=⟨_,z3W,λH Y s ds vs Q r hd h=>by
 unfold vM at h;split at h
 ·split at h
  ·rename_i d xs e;obtain⟨v,rfl,dn⟩:=z1V hd;obtain⟨a,ws,rfl,q1,q2⟩:=uR (K:=X.K) r e dn;exact⟨a,ws,rfl,q1,by rw[q2.length];exact h.here r yT⟩
  ·exact h.elim
 ·exact h.elim⟩
noncomputable def jZ:List D->Sto->R D
 | [d],s=>match yj s d with | some xs=>.ok (.tup xs) s | none=>.no
 | _,_=>.no
theorem z5A:∃r,xH X (.type "tuple") r/\kL X E r jZ:=⟨_,z3n,λH Y s ds vs Q r hd h=>by match ds,hd,h with
 | [],_,h=>exact h.elim | _::_::_,_,h=>exact h.elim | [d],hd,h=>
  obtain⟨v,rfl,dn⟩:=z1V hd;simp only[jZ]at h;cases e:yj s d with
  | none=>rw[e]at h;exact h.elim | some xs=>
   rw[e]at h;cases d with
   | tup ys=>
    simp only[yj,_E]at e;subst e;obtain⟨a,ws,rfl,q1,q2⟩:=jr (K:=X.K) dn;exact⟨a,ws,rfl,.inr ⟨q1,h.here r dn⟩⟩ | lst ys=>
    obtain⟨a,ws,rfl,q1,q2⟩:=zI (d:=.lst ys) r e dn;exact⟨a,ws,rfl,.inl ⟨.inl q1,z1j r h q2⟩⟩ | loc l=>
    obtain⟨a,ws,rfl,q1,q2⟩:=zI (d:=.loc l) r e dn;exact⟨a,ws,rfl,.inl ⟨.inl q1,z1j r h q2⟩⟩ | scr ys=>
    simp only[yj,_E]at e;subst e;obtain⟨a,ws,rfl,q1,q2⟩:=zb3 dn;exact⟨a,ws,rfl,.inl ⟨q1,z1j r h q2⟩⟩ | _=>simp[yj]at e⟩
noncomputable def z5x:List D->Sto->R D
 | [d],s=>match yj s d with | some xs=>.ok (.lst xs) s | none=>.no
 | _,_=>.no
theorem zdB:∃r,xH X (.type "list") r/\kL X E r z5x:=⟨_,z4Q.freeze,λH Y s ds vs Q r hd h=>by
 unfold z5x at h;split at h
 ·split at h
  ·rename_i d xs e;obtain⟨v,rfl,dn⟩:=z1V hd;obtain⟨a,ws,rfl,q1,q2⟩:=uR (K:=X.K) r e dn;exact⟨a,ws,rfl,q1,jg r h q2⟩
  ·exact h.elim
 ·exact h.elim⟩
noncomputable def z4r:List D->Sto->R D
 | [.int i,.int j],s=>.ok (.int (if j > i then j else i)) s | _,_=>.no
noncomputable def zat:List D->Sto->R D
 | [.int i,.int j],s=>.ok (.int (if j<i then j else i)) s | _,_=>.no
theorem zbl(hc:X.calm=true):∃r,xH X (.builtin "max") r/\kL X E r z4r:=⟨_,z89 hc,λH Y s ds vs Q r hd h=>by
 unfold z4r at h;split at h
 ·rename_i i j;obtain⟨v,v',rfl,d1,d2⟩:=z4W hd;cases yp d1;cases yp d2;exact⟨i,j,rfl,h.here r yT⟩
 ·exact h.elim⟩
theorem zeg(hc:X.calm=true):∃r,xH X (.builtin "min") r/\kL X E r zat:=⟨_,z7m hc,λH Y s ds vs Q r hd h=>by
 unfold zat at h;split at h
 ·rename_i i j;obtain⟨v,v',rfl,d1,d2⟩:=z4W hd;cases yp d1;cases yp d2;exact⟨i,j,rfl,h.here r yT⟩
 ·exact h.elim⟩
abbrev FO:=Ev->Sto->R (Option Int)
def oD(_:Hp)(_:List Addr)(a b:Option Int):Prop:=a=b
def tO(mg:Gm)(E:XK)(f:FO):TO:=λO H Q=>∃Y ρ s,Rep mg H Y s/\vK mg H Y ρ O/\okR mg E H Y oD (f ρ s) Q
def RO(X:Cx)(E:XK)(e:Option Expr)(f:FO):Prop:=PO X e (tO (gm X) E f)
theorem zaP{o:Option Expr}{t t':TO}(h:PO X o t)(i:∀O H Q,t' O H Q->t O H Q):PO X o t':=λpins s O H Q I q=>h pins s O H Q I (i O H Q q)
noncomputable def yP:FO:=λ_ s=>.ok none s
noncomputable def uQ(f:FE):FO:=fun ρ s=>(f ρ s).bind λd s1=>match d with | .int i=>.ok (some i) s1 | _=>.no
theorem z03:RO X E none yP:=zaP zbW λO H Q ⟨Y,ρ,s,r,en,h⟩=>h.here (b:=none) r rfl
theorem z0d{f:FE}(h:RE X E e f):RO X E (some e) (uQ f):=zaP (zcq h) λO H Q ⟨Y,ρ,s,r,en,h⟩=>by
 refine yc (k:=fun ρ d s1=>match d with | .int i=>.ok (some i) s1 | _=>.no) r en h _ λv H1 Y1 s1 d r1 en1 dn stp h1=>?_;cases d with
 | int i=>cases yp dn;exact⟨i,rfl,h1.here (b:=some i) r1 rfl⟩ | _=>exact h1.elim
noncomputable def cutD(xs:List D)(lo hi:Option Int):List D:=(xs.drop (HT.sIx xs.length 0 lo)).take (HT.sIx xs.length xs.length hi-HT.sIx xs.length 0 lo)
theorem z2X{mg:Gm}{H:Hp}{Y:List Addr}{xs:List D}{vs:List V}(h:zC mg H Y xs vs)(lo hi:Option Int):zC mg H Y (cutD xs lo hi) (zaN vs lo hi):=by
 unfold cutD zaN;rw[h.length];exact (h.drop _).take _
noncomputable def dSl(x:D)(lo hi:Option Int)(s:Sto):R D:=match x with
 | .tup xs=>.ok (.tup (cutD xs lo hi)) s | x=>match listOf s x with | some xs=>.ok (.lst (cutD xs lo hi)) s | none=>.no
noncomputable def eSl(fe:FE)(fl fh:FO):FE:=fun ρ s=>(fe ρ s).bind λx s1=>(fl ρ s1).bind λlo s2=>(fh ρ s2).bind λhi s3=>dSl x lo hi s3
theorem z8m{α β:Type}{Dn:Hp->List Addr->α->β->Prop}{mg:Gm}{f:FO}{k:Ev->Option Int->Sto->R α}{O:L2.St}{H:Hp}{Q:β->Hp->Prop}{Y:List Addr}{ρ:Ev}{s:Sto}(r:Rep mg H Y s)(en:vK mg H Y ρ O) (h:okR mg E H Y Dn ((f ρ s).bind (k ρ)) Q)(K:Option Int->Hp->Prop) (hK:∀v H1 Y1 s1,Rep mg H1 Y1 s1->vK mg H1 Y1 ρ O->yJ mg H Y H1 Y1 s1->okR mg E H1 Y1 Dn (k ρ v s1) Q->K v H1):tO mg E f O H K:= ⟨Y,ρ,s,r,en,(okR.bind (Dn:=oD) h).imp λv H1 ⟨Y1,s1,d,stp,dn,q⟩=>hK v H1 Y1 s1 stp.rep (en.mono stp) stp (by cases (show d=v from dn);exact q)⟩
theorem qG{lo hi:Option Expr}{p2:Pos}{fe:FE}{fl fh:FO}(he:RE X E e fe)(hl:RO X E lo fl)(hh:RO X E hi fh):RE X E (.Subscript e (.Slice lo hi none p2) pos) (eSl fe fl fh):= zX (z9E ((zdT.or zcL).or zbz.freeze) he hl hh) λO H Q ⟨Y,ρ,s,r,en,h⟩=>by
  refine yc (k:=fun ρ x s1=>(fl ρ s1).bind λlo s2=>(fh ρ s2).bind λhi s3=>dSl x lo hi s3) r en h _ λv H1 Y1 s1 d r1 en1 dn stp h1=>?_;refine z8m (k:=fun ρ lo s2=>(fh ρ s2).bind λhi s3=>dSl d lo hi s3) r1 en1 h1 _ λlo H2 Y2 s2 r2 en2 stp2 h2=>?_;refine z8m (k:=fun ρ hi s3=>dSl d lo hi s3) r2 en2 h2 _ λhi H3 Y3 s3 r3 en3 stp3 h3=>?_;have dn3:=(dn.mono stp2).mono stp3;cases d with
  | tup xs=>
   obtain⟨a,vs,rfl,q1,q2⟩:=jr (K:=X.K) dn3;have h3':okR (gm X) E H3 Y3 (Den (gm X)) (.ok (.tup (cutD xs lo hi)) s3) Q:=h3;by_cases hw:HT.sIx vs.length 0 lo=0/\HT.sIx vs.length vs.length hi=vs.length
   ·refine .inl (.inr ⟨a,vs,rfl,q1,hw,?_⟩);have e:cutD xs lo hi=xs:=by
     unfold cutD;rw[<- q2.length,hw.1,hw.2];simp[q2.length]
    rw[e]at h3';exact h3'.here r3 dn3
   ·exact .inl (.inl ⟨a,vs,rfl,q1,hw,z1j r3 h3' (z2X q2 lo hi)⟩) | lst xs=>
   obtain⟨a,vs,rfl,q1,q2⟩:=zI (d:=.lst xs) r3 rfl dn3;exact .inr ⟨a,vs,rfl,.inl q1,jg r3 h3 (z2X q2 lo hi)⟩ | loc l=>
   simp only[dSl]at h3;split at h3
   ·rename_i xs e;obtain⟨a,vs,rfl,q1,q2⟩:=zI (d:=.loc l) r3 e dn3;exact .inr ⟨a,vs,rfl,.inl q1,jg r3 h3 (z2X q2 lo hi)⟩
   ·exact h3.elim | _=>exact h3.elim
end
abbrev Mir:=List D->Sto->R D
def zaK(mg:Gm)(M:Mir):Sp:=λvs H Q E=>∃Y s ds,Rep mg H Y s/\zC mg H Y ds vs/\okR mg E H Y (Den mg) (M ds s) Q
def Has(P:Program)(w:World)(K:W.Frag)(mg:Str->Option Value)(base:Heap)(CX:CXT)(x:Str)(n:Nat)(M:Mir):Prop:= ∃f fd ps,z3C P w K mg base CX n f fd ps (zaK ⟨mg,K⟩ M)/\Binds K fd ps []/\W.keepIn K (.ref f)=true/\mg x=some (.ref f)
section
variable {X:Cx}{E:XK}{e a b c:Expr}{es:List Expr}{pos:Pos}{CX:CXT}
theorem zeZ {x:Str} {p:Pos} {n:Nat} {M:Mir} {f:FA} (F:Has X.prog X.w X.K X.mg X.base CX x n M) (hr:z0m n X.A) (hx:Passes CX X E) (hg:Gl X x) (ha:RA X E (e::es) f) (hdb:(x==("__debug__":Str))=false:=by decide) (he:starEach (e::es) X.env=(false,eval e X.env)::starEach es X.env:=by rfl) (hpl:(backTo pos (starEach es X.env)).any (·.1)=false:=by rfl):RE X E (.Call (.Name x p) (e::es) [] pos) (ze M f):=by
 obtain⟨fa,fd,ps,F,hb,hk,hm⟩:=F;refine zX (zbM F hr hg hm hk hb .nil hx ha hdb he hpl) λO H Q ⟨Y,ρ,s,r,en,h⟩=>?_;refine vW (k:=fun ρ xs s1=>M xs s1) r en h _ λvs H2 Y2 s2 ds r2 en2 dn2 stp2 h3=>?_;rw[_bN];exact⟨Y2,s2,ds,r2,dn2,h3⟩
noncomputable def zW(f g:FS):FS:=fun ρ s=>(f ρ s).bind λfl s1=>match fl with | .nx ρ'=>g ρ' s1 | fl=>.ok fl s1
noncomputable def vn:FS:=fun ρ s=>.ok (.nx ρ) s
variable {st:Stmt}{rs:List Stmt}
theorem zec {mg:Gm} {f g:FS} {D:z9G} {O:L2.St} {H:Hp} (h:tS mg E (zW f g) D O H):zgK (tS mg E f) (tS mg E g) D O H:=by
 obtain⟨Y,ρ,s,r,en,h⟩:=h;refine⟨Y,ρ,s,r,en,(okR.bind (Dn:=FlD mg) h).imp λfv H1 ⟨Y1,s1,fl,stp,dn,q⟩=>?_⟩;cases fl with
 | nx ρ'=> cases fv with
  | nx O'=>exact⟨Y1,ρ',s1,stp.rep,dn,q⟩ | _=>exact (show False from dn).elim
 | rt d=> cases fv with
  | rt v=>exact okR.here (b:=FlV.rt v) (Q:=z21 D) (s:=s1) (a:=Fl.rt d) q stp.rep dn | _=>exact (show False from dn).elim
 | bk ρ'=> cases fv with
  | bk v=>exact okR.here (b:=FlV.bk v) (Q:=z21 D) (s:=s1) (a:=Fl.bk ρ') q stp.rep dn | _=>exact (show False from dn).elim
 | ct ρ'=> cases fv with
  | ct v=>exact okR.here (b:=FlV.ct v) (Q:=z21 D) (s:=s1) (a:=Fl.ct ρ') q stp.rep dn | _=>exact (show False from dn).elim
theorem wU:RSs X E [] vn:=z8i zbE λD O H ⟨Y,ρ,s,r,en,h⟩=>okR.here (b:=FlV.nx O) h r en
theorem zm{f g:FS}(h1:RS X E st f)(h2:RSs X E rs g):RSs X E (st::rs) (zW f g):=z8i (z95 h1 h2) λD O H h=>zec h
theorem zA{f:FS}(h1:RS X E st f):RSs X E [st] f:=zbC h1
noncomputable def fNo:FS:=λ_ _=>.no
noncomputable def vg(f:FE):FS:=fun ρ s=>(f ρ s).bind λ_ s1=>.ok (.nx ρ) s1
theorem qh {f:FE} (he:RE X E e f) (hs:swapsWith e none pos.line X.env=pure false:=by rfl):RS X E (.Expr e pos) (vg f):= um (zcn he hs) λD O H ⟨Y,ρ,s,r,en,h⟩=>yc (k:=fun ρ _ s1=>R.ok (Fl.nx ρ) s1) r en h _ λv H1 Y1 s1 d r1 en1 dn stp h1=>okR.here (b:=FlV.nx O) (Q:=z21 D) h1 r1 en1
noncomputable def wZ(f:FE):FS:=fun ρ s=>(f ρ s).bind λd s1=>.ok (.rt d) s1
theorem yQ {f:FE} (he:RE X E e f):RS X E (.Return (some e) pos) (wZ f):= um (zdC he) λD O H ⟨Y,ρ,s,r,en,h⟩=>yc (k:=fun ρ d s1=>R.ok (Fl.rt d) s1) r en h _ λv H1 Y1 s1 d r1 en1 dn stp h1=>okR.here (b:=FlV.rt v) (Q:=z21 D) h1 r1 dn
noncomputable def fIf(ft:FT)(f g:FS):FS:=fun ρ s=>(ft ρ s).bind λx s1=>if x=true then f ρ s1 else g ρ s1
theorem z3A{ft:FT}{f g:FS}{as bs:List Stmt}(hc:RT X E c ft)(ha:RSs X E as f)(hb:RSs X E bs g):RS X E (.If c as bs pos) (fIf ft f g):= um (zgx hc ha hb) λD O H ⟨Y,ρ,s,r,en,h⟩=>z5m (k:=fun ρ x s1=>if x=true then f ρ s1 else g ρ s1) r en h _ λv H1 Y1 s1 r1 en1 stp h1=>by cases v with
  | true=>rw[_g rfl]at h1 ⊢;exact⟨Y1,ρ,s1,r1,en1,h1⟩ | false=>rw[_l (by decide)]at h1 ⊢;exact⟨Y1,ρ,s1,r1,en1,h1⟩
abbrev FG:=D->Ev->Sto->R Ev
def tG(mg:Gm)(E:XK)(f:FG):TG:=λv O H Q=>∃Y ρ s d,Rep mg H Y s/\vK mg H Y ρ O/\Den mg H Y d v/\okR mg E H Y (vK mg) (f d ρ s) (λO' H'=>Q O' H')
def RG(X:Cx)(E:XK)(tg:Expr)(f:FG):Prop:=PG X tg (tG (gm X) E f)
theorem zaz{tg:Expr}{t t':TG}(h:PG X tg t)(i:∀v O H Q,t' v O H Q->t v O H Q):PG X tg t':=λpins s O H v u Q I r q=>h pins s O H v u Q I r (i v O H Q q)
noncomputable def xM(i:Nat):FG:=λd ρ s=>.ok (ρ.set i (some d)) s
theorem z2z(i:Nat){x:Str}(hN:X.N.Nodup)(hi:X.N[i]? = some x:=by rfl)(hx:Loc X.env.scope x:=by first | exact Or.inl rfl | exact Or.inr rfl)(hf:X.fn x=true\/X.env.scope.names.lookup x=some .local:=by first | exact .inl rfl | exact .inr rfl | assumption):RG X E (.Name x pos) (xM i):= zaz (yf hN hi hx hf) λv O H Q ⟨Y,ρ,s,d,r,en,dn,h⟩=>okR.here (b:=O.set i (some v)) h r (en.set dn i)
noncomputable def z5q(i j:Nat):FG:=λd ρ s=>match d with | .tup [x,y]=>.ok ((ρ.set i (some x)).set j (some y)) s | _=>.no
theorem zdx(i j:Nat){x y:Str}{px py:Pos}{kt:Nat}(hc:X.calm=true)(hN:X.N.Nodup)(hi:X.N[i]? = some x:=by rfl)(hj:X.N[j]? = some y:=by rfl)(hx:Loc X.env.scope x:=by first | exact Or.inl rfl | exact Or.inr rfl)(hy:Loc X.env.scope y:=by first | exact Or.inl rfl | exact Or.inr rfl) (hf:X.fn x=true\/X.env.scope.names.lookup x=some .local:=by first | exact .inl rfl | exact .inr rfl | assumption)(hf':X.fn y=true\/X.env.scope.names.lookup y=some .local:=by first | exact .inl rfl | exact .inr rfl | assumption): RG X E (.Tuple [.Name x px,.Name y py] kt pos) (z5q i j):= zaz (zbb hc (z0G (yf hN hi hx hf) (z0G (yf hN hj hy hf') z8v))) λv O H Q ⟨Y,ρ,s,d,r,en,dn,h⟩=>by
  unfold z5q at h;split at h
  ·rename_i d1 d2;obtain⟨p,vs,rfl,q1,q2⟩:=jr (K:=X.K) dn;obtain⟨v1,v2,rfl,e1,e2⟩:=z4W q2;exact⟨p,[v1,v2],rfl,q1,rfl,v1,[v2],rfl,v2,[],rfl,rfl,okR.here h r ((en.set e1 i).set e2 j)⟩
  ·exact h.elim
noncomputable def wJ(i:Nat)(f:FE):FS:=fun ρ s=>(f ρ s).bind λd s1=>.ok (.nx (ρ.set i (some d))) s1
theorem xE (i:Nat) {x:Str} {pos':Pos} {f:FE} (hN:X.N.Nodup) (he:RE X E e f) (hi:X.N[i]? = some x:=by rfl) (hx:Loc X.env.scope x:=by first | exact Or.inl rfl | exact Or.inr rfl) (hs:swapsWith e (some (.Name x pos')) pos.line X.env=pure false:=by rfl) (hf:X.fn x=true\/X.env.scope.names.lookup x=some .local:=by first | exact .inl rfl | exact .inr rfl | assumption):RS X E (.Assign [.Name x pos'] e pos) (wJ i f):= um (zeQ hN hi hx he hs hf) λD O H ⟨Y,ρ,s,r,en,h⟩=>yc (k:=fun ρ d s1=>R.ok (Fl.nx (ρ.set i (some d))) s1) r en h _ λv H1 Y1 s1 d r1 en1 dn stp h1=>okR.here (b:=FlV.nx (O.set i (some v))) (Q:=z21 D) h1 r1 (en1.set dn i)
noncomputable def zha(f:FE)(g:FG):FS:=fun ρ s=>(f ρ s).bind λd s1=>(g d ρ s1).bind fun ρ' s2=>.ok (.nx ρ') s2
theorem zfr {tg:Expr} {f:FE} {g:FG} (he:RE X E e f) (hg:RG X E tg g) (hs:swapsWithSole [tg] e pos.line X.env=pure false:=by rfl) (hw:swappedStores [tg] e X.env=pure none:=by rfl) (h1:(assignEach [tg] X.env).map (·.2)=[assign tg X.env]:=by rfl):RS X E (.Assign [tg] e pos) (zha f g):= um (zaX he hg hs hw h1) λD O H ⟨Y,ρ,s,r,en,h⟩=>yc (k:=fun ρ d s1=>(g d ρ s1).bind fun ρ' s2=>R.ok (Fl.nx ρ') s2) r en h _ λv H1 Y1 s1 d r1 en1 dn stp h1=> ⟨Y1,ρ,s1,d,r1,en1,dn,(okR.bind (Dn:=vK (gm X)) h1).imp λO' H' ⟨Y2,s2,ρ',stp2,en2,q⟩=>okR.here (b:=FlV.nx O') (Q:=z21 D) q stp2.rep en2⟩
noncomputable def zgv(i j:Nat)(f:FA):FS:=fun ρ s=>(f ρ s).bind λds s1=>match ds with | [x,y]=>.ok (.nx ((ρ.set i (some x)).set j (some y))) s1 | _=>.no
theorem zgt (i j:Nat) {x y:Str} {px py pt:Pos} {kt k2:Nat} {pt2:Pos} {f:FA} (hc:X.calm=true) (hN:X.N.Nodup) (ha:RA X E [a,b] f) (hi:X.N[i]? = some x:=by rfl) (hj:X.N[j]? = some y:=by rfl) (hij:i≠j:=by decide) (hx:X.env.scope.names.lookup x=some .local:=by rfl) (hy:X.env.scope.names.lookup y=some .local:=by rfl) (hw:swappedStores [.Tuple [.Name x px,.Name y py] kt pt] (.Tuple [a,b] k2 pt2) X.env=pure (some [x,y]):=by rfl) (hs:swapsWithSole [.Tuple [.Name x px,.Name y py] kt pt] (.Tuple [a,b] k2 pt2) pos.line X.env=pure false:=by rfl): RS X E (.Assign [.Tuple [.Name x px,.Name y py] kt pt] (.Tuple [a,b] k2 pt2) pos) (zgv i j f):= um (ze3 hc hN hi hj hij hx hy ha hw hs) λD O H ⟨Y,ρ,s,r,en,h⟩=>by
  refine vW (k:=fun ρ ds s1=>match ds with | [x,y]=>R.ok (Fl.nx ((ρ.set i (some x)).set j (some y))) s1 | _=>.no) r en h _ λvs H1 Y1 s1 ds r1 en1 dn stp h1=>?_;match ds,dn,h1 with
  | [],_,h1=>exact h1.elim | [_],_,h1=>exact h1.elim | _::_::_::_,_,h1=>exact h1.elim | [d1,d2],dn,h1=>
   obtain⟨v1,v2,rfl,e1,e2⟩:=z4W dn;exact⟨v1,v2,rfl,okR.here (b:=FlV.nx ((O.set i (some v1)).set j (some v2))) (Q:=z21 D) h1 r1 ((en1.set e1 i).set e2 j)⟩
noncomputable def z4f(fo fi fv:FE):FS:=fun ρ s=>(fv ρ s).bind λd s1=>(fo ρ s1).bind λo s2=>(fi ρ s2).bind λi s3=>match o,i with
 | .loc l,.int k=>match s3[l]? with
  | some xs=>match ixN xs.length k with
   | some j=>if d.flat=true then .ok (.nx ρ) (s3.set l (xs.set j d)) else .no | none=>.no
  | none=>.no
 | _,_=>.no
theorem z3H:∀{xs:List D}{d:D}{j:Nat},D.flat.flats xs=true->d.flat=true->D.flat.flats (xs.set j d)=true
 | [],_,_,_,_=>rfl | x::xs,d,0,h,hd=>by
  simp only[D.flat.flats,_u,_cG]at h ⊢;exact⟨hd,h.2⟩ | x::xs,d,j+1,h,hd=>by
  simp only[D.flat.flats,_u,_cH]at h ⊢;exact⟨h.1,z3H h.2 hd⟩
theorem wI:∀{xs ys:List D},D.flat.flats xs=true->D.flat.flats ys=true->D.flat.flats (xs++ys)=true
 | [],_,_,h=>h | x::xs,ys,h,h'=>by
  simp only[D.flat.flats,_u,_X]at h ⊢;exact⟨h.1,wI h.2 h'⟩
theorem z6b {o i:Expr} {p1:Pos} {fo fi fv:FE} (hv:RE X E e fv) (ho:RE X E o fo) (hi:RE X E i fi) (ha:∀v,assign (.Subscript o i p1) X.env v=(do
   let ov <- holding [v] (eval o X.env) let iv <- holding [v,ov] (eval i X.env)
   standAt p1
   holding [v,ov,iv] (setItem ov iv v)
   release [v,ov,iv] []):=by intro _;rfl) (hs:swapsWithSole [.Subscript o i p1] e pos.line X.env=pure false:=by rfl) (hw:swappedStores [.Subscript o i p1] e X.env=pure none:=by rfl) (h1:(assignEach [.Subscript o i p1] X.env).map (·.2)=[assign (.Subscript o i p1) X.env]:=by rfl):RS X E (.Assign [.Subscript o i p1] e pos) (z4f fo fi fv):= um (zaX hv (zd9 ho hi set_list ha) hs hw h1) λD O H ⟨Y,ρ,s,r,en,h⟩=>by
  unfold z4f at h;refine⟨Y,ρ,s,r,en,(okR.bind (Dn:=Den (gm X)) h).imp λv H1 ⟨Y1,s1,d,stp,dn,h1⟩=>?_⟩;refine⟨Y1,ρ,s1,stp.rep,en.mono stp,(okR.bind (Dn:=Den (gm X)) h1).imp λov H2 ⟨Y2,s2,od,stp2,dn2,h2⟩=>?_⟩;refine⟨Y2,ρ,s2,stp2.rep,(en.mono stp).mono stp2,(okR.bind (Dn:=Den (gm X)) h2).imp λiv H3 ⟨Y3,s3,id,stp3,dn3,h3⟩=>?_⟩;have en3:=((en.mono stp).mono stp2).mono stp3;have dv:=(dn.mono stp2).mono stp3;have dov:=dn2.mono stp3;cases od with
  | loc l=> cases id with
   | int k=>
    simp only at h3;split at h3
    ·rename_i xs ex;split at h3
     ·rename_i j ej;split at h3
      ·rename_i hf;cases yp dn3;simp only[Den]at dov;obtain⟨a,rfl,e1,ka⟩:=dov;obtain⟨vs,q1,q2⟩:=stp3.rep.at_ ex e1 ka;have stp4:=yJ.put (l:=l) (xs:=xs.set j d) stp3.rep e1 ka (q2.set j dv) (z3H (stp3.rep.flat xs (_f ex)) hf);exact⟨a,vs,k,j,rfl,rfl,q1,by rw[q2.length];exact ej,h3 (.nx O) _ _ stp4 (en3.mono stp4)⟩
      ·exact h3.elim
     ·exact h3.elim
    ·exact h3.elim | _=>exact h3.elim
  | _=>exact h3.elim
noncomputable def zff(fo fv:FE):FE:=fun ρ s=>(fo ρ s).bind λo s1=>match o with
 | .loc l=>(fv ρ s1).bind λd s2=>match s2[l]? with
  | some xs=>if d.flat=true/\xs.length<cap then .ok .non (s2.set l (xs++[d])) else .no | none=>.no
 | _=>.no
theorem zaj {o:Expr} {apos:Pos} {fo fv:FE} (ho:RE X E o fo) (hv:RE X E e fv) (hbase:attributeBase o "append" X.env (eval o X.env)=eval o X.env:=by rfl) (hfew:((backTo pos (starEach [e] X.env)).all (λx=>!x.1)&&(backToKw pos (keywordEach [] X.env)).all (λx=>x.1.isSome) && decide ([e].length+([]:List Keyword).length+(if ([]:List Keyword).isEmpty then 0 else 1)<30))=true:=by rfl) (hline:(apos.endLine==pos.line)=true:=by rfl) (hs:starEach [e] X.env=(false,eval e X.env)::starEach [] X.env:=by rfl) (hplain:(backTo pos (starEach [] X.env)).any (·.1)=false:=by rfl): RE X E (.Call (.Attribute o "append" apos) [e] [] pos) (zff fo fv):= zX (z8D _bh PySem.F.slot_list_append PySem.F.type_list_append z4e ho (wc hv qd hs) hbase hfew hline hs hplain) λO H Q ⟨Y,ρ,s,r,en,h⟩=>by
  unfold zff at h;refine⟨Y,ρ,s,r,en,(okR.bind (Dn:=Den (gm X)) h).imp λov H1 ⟨Y1,s1,od,stp,dn,h1⟩=>?_⟩;cases od with
  | loc l=>
   simp only at h1;have hty:tyV X.K "list" ov H1:=by
    simp only[Den]at dn;obtain⟨a,rfl,e1,vs,e2⟩:=dn;exact .inl ⟨rfl,vs,.inl (.inl e2)⟩
   refine⟨hty,⟨Y1,ρ,s1,stp.rep,en.mono stp,(okR.bind (Dn:=Den (gm X)) h1).imp λv H2 ⟨Y2,s2,d,stp2,dn2,h2⟩=>?_⟩⟩;split at h2
   ·rename_i xs ex;split at h2
    ·rename_i hf;have dov:=dn.mono stp2;simp only[Den]at dov;obtain⟨a,rfl,e1,ka⟩:=dov;obtain⟨vs,q1,q2⟩:=stp2.rep.at_ ex e1 ka;have stp3:=yJ.put (l:=l) (xs:=xs++[d]) stp2.rep e1 ka (q2.append (zC.one dn2)) (wI (stp2.rep.flat xs (_f ex)) (by simp[D.flat.flats,hf.1]));refine⟨a,vs,v,rfl,rfl,q1,by rw[q2.length];exact z6k hf.2,h2 .non _ _ stp3 (by simp[Den])⟩
    ·exact h2.elim
   ·exact h2.elim | _=>exact h1.elim
end
end Dd
namespace L2
theorem zes{X:Cx}{tg l:Expr}{tl:TE}(hl:PE X l tl):PI X tg l (λO H R=>tl O H λx H1=>∃a,x=.ref a/\(((∃xs,SqL X.K H1 a xs)/\R (Itl X.K a) H1)\/((∃xs,SqT X.K H1 a xs)/\R (Itt X.K a) H1))):=by
 intro pins s O H R I h;refine thn (hl pins s O H _ I h) λv s1 ⟨x,H1,I1,r1,q1⟩=>?_;obtain⟨a,e,q⟩:=q1;subst e;cases r1;rcases q with⟨⟨xs,hq⟩,q⟩ | ⟨⟨xs,hq⟩,q⟩
 ·obtain⟨its,rv,p,hz⟩:=I1.list hq;refine wpAny_pyIter_list p.isList ?_;refine⟨s1.heap.objs.size,[s1.heap.objs.size],_,_,H1,rfl,I1.kept (t':=s1.toks) λb o e=>_e _ e,z88 a _,⟨_,_v _ rfl,rfl,rfl⟩,λb hb=>?_,q⟩;have e:b=s1.heap.objs.size:=by simpa using hb
  subst e;exact I1.fpOk (_d _) (I1.hok.fresh (_d _))
 ·obtain⟨its,rv,p,hz⟩:=I1.tuple hq;refine wpAny_pyIter_tuple (show s1.heap.IsTuple a its.toArray from p) ?_;refine⟨s1.heap.objs.size,[s1.heap.objs.size],_,_,H1,rfl,I1.kept (t':=s1.toks) λb o e=>_e _ e,z75 a _,⟨_,_v _ rfl,rfl,rfl⟩,λb hb=>?_,q⟩;have e:b=s1.heap.objs.size:=by simpa using hb
  subst e;exact I1.fpOk (_d _) (I1.hok.fresh (_d _))
theorem jN.freeze{X:Cx}{pins:List (Addr×Obj)}{O:L2.St}{C:Addr}{Q:VK}{acc:Value}{s':Shared}(h:jN X pins O C (z6E Q) acc s'):jN X pins O C Q acc s':=by
 obtain⟨v,Hf,I,r,⟨a,xs,rfl,ha,q⟩,hm,f⟩:=h;obtain⟨its,n,rv,e,_⟩:=I.lst ha;refine⟨_,_,I.freeze ha e (by intro _ z;cases z) (by intro _ _ z;cases z) (by intro _ z;cases z) (by intro _ z;cases z),r,q _,hm,?_,f.2⟩;rw[zj (λz=>by have:=f.1;rw[z,ha]at this;cases this)];exact f.1
theorem z58 {X:Cx} {tg iter elt:Expr} {ifs:List Expr} {scope:Scope} {pos spos py:Pos} {wi:TI} {g:TG} {ti:TT} {te:TE} {i:Nat} {y:Str} (N':List Str) (mp:List (Option Nat)) (hN:X.N.Nodup) (hy:X.N[i]? = some y) (hyl:Loc X.env.scope y) (hc:X.calm=true) (hi:PI X tg iter wi) (hg:∀ex s H,PG (zq X N' scope ex s H) tg g) (ht:∀ex s H,z5I (zq X N' scope ex s H) ifs ti) (he:∀ex s H,PE (zq X N' scope ex s H) elt te) (hkd:scope.kind=.function) (hnm:∀y∈scope.names,scope.names.lookup y.1=some y.2) (hfr:∀y∈scope.names,y.2=.free->X.env.kindOf y.1=some .cell\/X.env.kindOf y.1=some .free) (hmp:z0I X.N scope.names N' mp=true) (hs:∀x,foldedSetIterable iter X.env x=pure x:=by intro _;rfl) (hsw:swapsWith (.ListComp elt [⟨tg,iter,ifs,0⟩] scope pos) (some (.Name y py)) spos.line X.env=pure true:=by rfl) (hf:X.fn y=true\/X.env.scope.names.lookup y=some .local:=by first | exact .inl rfl | exact .inr rfl | assumption): PS X (.Assign [.Name y py] (.ListComp elt [⟨tg,iter,ifs,0⟩] scope pos) spos) (λD O H=>zav wi mp g ti te O H (z6E λv H'=>D.nx (O.set i (some v)) H')):=by
 intro pins s O H D I h;rw[_b9 _ _ _ _ hsw];refine _a (_aC (_a ?_));show wpAny _ X.A (do let _ <- comprehension (.ListComp elt [⟨tg,iter,ifs,0⟩] scope pos) scope X.env _ (newList []) false (eval iter X.env) (some (assign (.Name y py) X.env))) _ _ s;refine _a (_t (_bb (use:=some (assign (.Name y py) X.env)) (Q:=λ_ s'=>SP X pins D .next s') rfl hs (vi λy hy hf=>I.ok.has _ (hfr y hy hf)) hkd (λy hy hl=>by rw[hnm y hy,hl]) (thn (hi pins s O H _ I h) λxv s₁ h₁=>thn h₁ λitv s₂ h₂=>?_)) (λ_ s' hq=>_j (_j hq)) λ_ _ e=>e);obtain⟨it,fp,tn,J,H2,e,I2,T,st2,f2,W,w0,turn⟩:=h₂;subst e;refine kG (N':=N') (mp:=mp) (O:=O) (pins:=pins) (Q:=z6E λv H'=>D.nx (O.set i (some v)) H') (RR:=λacc C=>compPost (model X.prog X.w) X.A X.xe (some (assign (.Name y py) X.env)) (λ_ s'=>SP X pins D .next s') acc C) hc hg ht he hkd hnm hfr hmp I2 T st2 f2 W w0 turn ?_;intro acc C s' hd;obtain⟨v,Hf,I3,r,q,⟨m,hm⟩,f⟩:=hd.freeze;refine _bY (ke I3 hN hy hyl r (λs'' I4 ⟨a,sb,ha⟩=>?_) hf);have hC:C≠a:=by
  rcases ha with z | z;·rw[z];exact f.2.1
  ·exact _a8 (f.2.2.2.2.1 y a z)
 exact⟨m,hm.sameBut sb hC,λh' sb'=>⟨_,Hf,uX I4 f sb',q⟩⟩
end L2
namespace Dd
open L2
abbrev ItD:=List D×List (Nat×List D)
def okG(g:List (Nat×List D))(all:List D)(s:Sto):Prop:=∀p∈g,s[p.1]? = some p.2
def za6(mg:Gm)(H0:Hp)(Y0:List Addr)(a:ItD)(J:It):Prop:=∀H Y s,yJ mg H0 Y0 H Y s->okG a.2 a.1 s->∀i:Nat, (∀d,a.1[i]? = some d->J.go i H/\∀x H',J.yld i H x H'->∃Y',yJ mg H Y H' Y' s/\Den mg H' Y' d x)/\(a.1.length<=i->J.stop i H)
abbrev FI:=Ev->Sto->R ItD
def tI(mg:Gm)(E:XK)(f:FI):TI:=λO H Rr=>∃Y ρ s,Rep mg H Y s/\vK mg H Y ρ O/\okR mg E H Y (za6 mg) (f ρ s) Rr
def RI(X:Cx)(E:XK)(tg it:Expr)(f:FI):Prop:=PI X tg it (tI (gm X) E f)
section
variable {X:Cx}{E:XK}{e a b c tg:Expr}{es:List Expr}{pos:Pos}{CX:CXT}
theorem z5G{it:Expr}{t t':TI}(h:PI X tg it t)(i:∀O H Q,t' O H Q->t O H Q):PI X tg it t':=λpins s O H Q I q=>h pins s O H Q I (i O H Q q)
noncomputable def yw(f:FE):FI:=fun ρ s=>(f ρ s).bind λd s1=>match d with
 | .tup xs=>.ok (xs,[]) s1 | .lst xs=>.ok (xs,[]) s1 | .loc l=>match s1[l]? with | some xs=>.ok (xs,[(l,xs)]) s1 | none=>.no
 | _=>.no
theorem jd{f:FE}(h:RE X E e f):RI X E tg e (yw f):=z5G (zes h) λO H Q ⟨Y,ρ,s,r,en,h⟩=>by
 unfold yw at h;refine⟨Y,ρ,s,r,en,(okR.bind (Dn:=Den (gm X)) h).imp λv H1 ⟨Y1,s1,d,stp,dn,h1⟩=>?_⟩;have lst:∀(a:Addr)(xs:List D)(g:List (Nat×List D)),(∀H2 Y2 s2,yJ (gm X) H1 Y1 H2 Y2 s2->okG g xs s2->∃ws,SqL X.K H2 a ws/\zC (gm X) H2 Y2 xs ws)->za6 (gm X) H1 Y1 (xs,g) (Itl X.K a):=λa xs g hq H2 Y2 s2 stp2 hg i=>by
  obtain⟨ws,q1,q2⟩:=hq H2 Y2 s2 stp2 hg;refine⟨λd hd=>?_,λhl=>⟨ws,q1,by rw[q2.length];exact hl⟩⟩;obtain⟨v,e1,e2⟩:=q2.get hd;refine⟨⟨ws,v,q1,e1⟩,λx H' ⟨e3,y⟩=>?_⟩;subst e3;have e4:=y ws q1;rw[e1]at e4;cases e4;exact⟨Y2,.refl stp2.rep,e2⟩
 have tup:∀(a:Addr)(xs:List D),(∀H2 Y2 s2,yJ (gm X) H1 Y1 H2 Y2 s2->∃ws,SqT X.K H2 a ws/\zC (gm X) H2 Y2 xs ws)->za6 (gm X) H1 Y1 (xs,[]) (Itt X.K a):=λa xs hq H2 Y2 s2 stp2 hg i=>by
  obtain⟨ws,q1,q2⟩:=hq H2 Y2 s2 stp2;refine⟨λd hd=>?_,λhl=>⟨ws,q1,by rw[q2.length];exact hl⟩⟩;obtain⟨v,e1,e2⟩:=q2.get hd;refine⟨⟨ws,v,q1,e1⟩,λx H' ⟨e3,y⟩=>?_⟩;subst e3;have e4:=y ws q1;rw[e1]at e4;cases e4;exact⟨Y2,.refl stp2.rep,e2⟩
 cases d with
 | tup xs=>
  have h1':okR (gm X) E H1 Y1 (za6 (gm X)) (.ok (xs,[]) s1) Q:=h1;obtain⟨a,vs,rfl,q1,q2⟩:=jr (K:=X.K) dn;refine⟨a,rfl,.inr ⟨⟨vs,q1⟩,h1'.here stp.rep (tup a xs λH2 Y2 s2 stp2=>?_)⟩⟩;have dn2:=dn.mono stp2;obtain⟨a',ws,e,q3,q4⟩:=jr (K:=X.K) dn2;cases e;exact⟨ws,q3,q4⟩ | lst xs=>
  have h1':okR (gm X) E H1 Y1 (za6 (gm X)) (.ok (xs,[]) s1) Q:=h1;obtain⟨a,vs,rfl,q1,q2⟩:=zI (d:=.lst xs) stp.rep rfl dn;refine⟨a,rfl,.inl ⟨⟨vs,.inl q1⟩,h1'.here stp.rep (lst a xs [] λH2 Y2 s2 stp2 _=>?_)⟩⟩;obtain⟨a',ws,e,q3,q4⟩:=zI (d:=.lst xs) stp2.rep rfl (dn.mono stp2);cases e;exact⟨ws,.inl q3,q4⟩ | loc l=>
  simp only at h1;split at h1
  ·rename_i xs ex;obtain⟨a,vs,rfl,q1,q2⟩:=zI (d:=.loc l) stp.rep ex dn;refine⟨a,rfl,.inl ⟨⟨vs,.inl q1⟩,h1.here stp.rep (lst a xs [(l,xs)] λH2 Y2 s2 stp2 hg=>?_)⟩⟩;obtain⟨a',ws,e,q3,q4⟩:=zI (d:=.loc l) stp2.rep (hg (l,xs) (by simp)) (dn.mono stp2);cases e;exact⟨ws,.inl q3,q4⟩
  ·exact h1.elim | _=>exact h1.elim
end
section
variable {X:Cx}{E:XK}{e a b c tg:Expr}{es:List Expr}{pos:Pos}{CX:CXT}
noncomputable def vA(n:Nat):List D:=(List.range n).map λ(k:Nat)=>D.int ((k:Nat):Int)
noncomputable def z5J(f:FA):FI:=fun ρ s=>(f ρ s).bind λds s1=>match ds with
 | [.int j]=>if -(2 ^ 62)<=j/\j<2 ^ 62 then .ok (vA j.toNat,[]) s1 else .no | _=>.no
theorem jz{p:Pos}{f:FA}(hg:Gl X "range")(hm:X.mg "range"=none)(ha:RA X E [a] f)(hs:starEach [a] X.env=[(false,eval a X.env)]:=by rfl):RI X E tg (.Call (.Name "range" p) [a] [] pos) (z5J f):= z5G (z8R hg hm ha hs) λO H Q ⟨Y,ρ,s,r,en,h⟩=>by
  unfold z5J at h;refine⟨Y,ρ,s,r,en,(okR.bind (Dn:=zC (gm X)) h).imp λvs H1 ⟨Y1,s1,ds,stp,dn,h1⟩=>?_⟩;split at h1
  ·rename_i j;split at h1
   ·rename_i hj;obtain⟨v,rfl,d1⟩:=z1V dn;cases yp d1;refine⟨j,rfl,hj.1,hj.2,h1.here stp.rep λH2 Y2 s2 stp2 _ i=>⟨λd hd=>?_,λhl=>?_⟩⟩
    ·have hi:i<j.toNat:=by
      have:=(_b.mp hd).1;simpa[vA] using this
     refine⟨hi,λx H' ⟨e1,e2⟩=>?_⟩;subst e1 e2;refine⟨Y2,.refl stp2.rep,?_⟩;have e3:d=D.int i:=by
      simp only[vA,_ag,_cv hi,_bs,_E]at hd;exact hd.symm
     rw[e3];simp[Den]
    ·have:(vA j.toNat).length=j.toNat:=by simp[vA]
     show j.toNat<=i;rw[<- this];exact hl
   ·exact h1.elim
  ·exact h1.elim
open Classical in
noncomputable def vG(g:List (Nat×List D))(all:List D)(body:D->Ev->Sto->R Fl):List D->Ev->Sto->R Fl
 | [],ρ,s=>if okG g all s then .ok (.nx ρ) s else .no | x::xs,ρ,s=>if okG g all s then (body x ρ s).bind λfl s1=>match fl with
   | .nx ρ'=>vG g all body xs ρ' s1 | .ct ρ'=>vG g all body xs ρ' s1 | .bk ρ'=>.ok (.nx ρ') s1 | .rt d=>.ok (.rt d) s1 else .no
def z8Y(fi:FI)(fg:FG)(fb:FS):FS:=fun ρ s=>(fi ρ s).bind λit s1=>vG it.2 it.1 (λd ρ s=>(fg d ρ s).bind fun ρ' s'=>fb ρ' s') it.1 ρ s1
theorem z6W {iter:Expr} {body:List Stmt} {fi:FI} {fg:FG} {fb:FS} (hp:PassesOwn (model X.prog X.w) X.A X.env X.xe) (hc:X.calm=true) (hi:RI X E tg iter fi) (hg:RG X E tg fg) (hb:RSs X E body fb) (hs:∀x,foldedSetIterable iter X.env x=pure x:=by intro _;rfl):RS X E (.For tg iter body [] pos) (z8Y fi fg fb):= um (ze5 hp hc hi hg hb hs) λD O H ⟨Y,ρ,s,r,en,h⟩=>by
  unfold z8Y at h;refine⟨Y,ρ,s,r,en,(okR.bind (Dn:=za6 (gm X)) h).imp λJ H1 ⟨Y1,s1,it,stp,ok,h1⟩=>?_⟩;obtain⟨items,g⟩:=it;simp only at h1;refine⟨λi m O H=>∃Y ρ s,yJ (gm X) H1 Y1 H Y s/\vK (gm X) H Y ρ O/\m=items.length-i/\i<=items.length/\ okR (gm X) E H Y (FlD (gm X)) (vG g items (λd ρ s=>(fg d ρ s).bind fun ρ' s'=>fb ρ' s') (items.drop i) ρ s) (z21 D), ⟨items.length,Y1,ρ,s1,.refl stp.rep,en.mono stp,by simp,_aA _,by simpa using h1⟩,?_⟩;rintro i m O H ⟨Y2,ρ2,s2,stp2,en2,rfl,hil,h2⟩;by_cases hlt:i<items.length
  ·right;rw[_aI hlt,vG]at h2;split at h2
   ·rename_i hG;obtain⟨go,yl⟩:=((ok H Y2 s2 stp2 hG i).1 items[i] (_q hlt));refine⟨go,λO' H'=>∃Y ρ s,yJ (gm X) H1 Y1 H' Y s/\vK (gm X) H' Y ρ O'/\okR (gm X) E H' Y (FlD (gm X)) (vG g items (λd ρ s=>(fg d ρ s).bind fun ρ' s'=>fb ρ' s') (items.drop (i+1)) ρ s) (z21 D), λO' H' ⟨Y3,ρ3,s3,q1,q2,q3⟩=>⟨items.length-(i+1),by omega,Y3,ρ3,s3,q1,q2,rfl,hlt,q3⟩,λx H' y=>?_⟩;obtain⟨Y3,stp3,dn3⟩:=yl x H' y;have h3:=okR.rebase h2 stp3;have h4:=okR.bind (Dn:=FlD (gm X)) h3;refine⟨Y3,ρ2,s2,items[i],stp3.rep,en2.mono stp3,dn3,(okR.bind (Dn:=vK (gm X)) h4).imp λO5 H5 ⟨Y5,s5,ρ5,stp5,en5,h5⟩=>?_⟩;refine⟨Y5,ρ5,s5,stp5.rep,en5,h5.imp λfv H6 ⟨Y6,s6,fl,stp6,dn6,q6⟩=>?_⟩;have all6:yJ (gm X) H1 Y1 H6 Y6 s6:=(stp2.trans stp3).trans stp6;cases fl with
    | nx ρ'=> cases fv with
     | nx O'=>exact⟨Y6,ρ',s6,all6,dn6,q6⟩ | _=>exact (show False from dn6).elim
    | ct ρ'=> cases fv with
     | ct O'=>exact⟨Y6,ρ',s6,all6,dn6,q6⟩ | _=>exact (show False from dn6).elim
    | bk ρ'=> cases fv with
     | bk O'=>exact okR.here (b:=FlV.nx O') (Q:=z21 D) (a:=Fl.nx ρ') (s:=s6) q6 stp6.rep dn6 | _=>exact (show False from dn6).elim
    | rt d=> cases fv with
     | rt v=>exact okR.here (b:=FlV.rt v) (Q:=z21 D) (a:=Fl.rt d) (s:=s6) q6 stp6.rep dn6 | _=>exact (show False from dn6).elim
   ·exact h2.elim
  ·left;have e:i=items.length:=by omega
   subst e;rw[_ce,vG]at h2;split at h2
   ·rename_i hG;exact⟨(ok H Y2 s2 stp2 hG _).2 (_d _),okR.here (b:=FlV.nx O) (Q:=z21 D) h2 stp2.rep en2⟩
   ·exact h2.elim
end
end Dd
namespace Zz
def Sit(b:Bool)(h:Heap)(it l:Addr)(k:Nat):Prop:=match b with
 | true=>h.IsListIter it l k | false=>h.IsTupleIter it l k
def Sco(b:Bool)(h:Heap)(l:Addr)(xs:Array Value):Prop:=match b with
 | true=>h.IsList l xs | false=>h.IsTuple l xs
theorem Sit.to{b:Bool}{h h':Heap}{it l:Addr}{k:Nat}(x:Sit b h it l k)(e:∀o,h.get? it=some o->h'.get? it=some o):Sit b h' it l k:=by cases b with
 | true=>obtain⟨o,ho,r⟩:=x;exact⟨o,e _ ho,r⟩ | false=>obtain⟨o,ho,r⟩:=x;exact⟨o,e _ ho,r⟩
theorem Sco.to{b:Bool}{h h':Heap}{l:Addr}{xs:Array Value}(x:Sco b h l xs)(e:∀o,h.get? l=some o->h'.get? l=some o):Sco b h' l xs:=by cases b with
 | true=>obtain⟨o,ho,r⟩:=x;exact⟨o,e _ ho,r⟩ | false=>obtain⟨o,ho,r⟩:=x;exact⟨o,e _ ho,r⟩
theorem Sit.lt{b:Bool}{h:Heap}{it l:Addr}{k:Nat}(x:Sit b h it l k):it<h.objs.size:=by cases b with
 | true=>obtain⟨o,ho,r⟩:=x;exact _o ho | false=>obtain⟨o,ho,r⟩:=x;exact _o ho
theorem Sit.ob{b:Bool}{h:Heap}{it l:Addr}{k:Nat}(x:Sit b h it l k):∃o,h.get? it=some o/\∀v,o.data≠.cell v:=by cases b with
 | true=>obtain⟨o,ho,_,d⟩:=x;exact⟨o,ho,λv z=>by rw[d]at z;cases z⟩ | false=>obtain⟨o,ho,_,d⟩:=x;exact⟨o,ho,λv z=>by rw[d]at z;cases z⟩
section
variable {P:Program}{w:World}{A:Around}{E:Value->Shared->Prop}{s:Shared}
theorem zdt{it l:Addr}{k:Nat}{xs:Array Value}{x:Value}{R:Value->Shared->Prop}(h1:s.heap.IsTupleIter it l k)(h2:s.heap.IsTuple l xs)(e:xs[k]? = some x) (q:∀h',h'.IsTupleIter it l (k+1)->Heap.SameBut it s.heap h'->R x {s with heap:=h'}):wpAny (model P w) A (Builtin.SmallTypes.nextOf (.ref it)) R E s:=by
 obtain⟨o,ho,hc,hd⟩:=id h1;obtain⟨ol,hol,_,nl,hdl⟩:=h2;unfold Builtin.SmallTypes.nextOf;refine _a (_az (name:=Str.ofString "__next__") h1.typeIs _a2 (_aZ _a2 h1.typeIs F.entry_tuple_iterator_next ?_ (F.args_tuple_iterator_next_1 _)));show wpAny _ _ (field (.ref it) 0 >>= _) _ _ s;refine _a (_ar ho hd (x:=.ref l) rfl ?_);show wpAny _ _ (if (Value.ref l==Value.none)=true then _ else _) _ _ s;rw[_l (show ¬ ((Value.ref l==Value.none)=true) from _ax)];show wpAny _ _ (field (.ref it) 1 >>= _) _ _ s;refine _a (_ar ho hd (x:=.int k 0) rfl ?_);show wpAny _ _ (seqItems? (.ref l) >>= _) _ _ s;refine _a (_aD hol hdl ?_);simp only[_b0,e];refine _a (wpAny_setField ho hd (by simp) (_j ⟨x,rfl,_j (q _ ?_ (_cw ..))⟩));exact⟨_,_b8 _ ho (Obj.isFreed_of_fields (Obj.data_mapFields hd _)),(Obj.cls_mapFields ..).trans hc,by rw[Obj.data_mapFields hd];simp[rawInt]⟩
theorem z6I {it l:Addr} {k:Nat} {xs:Array Value} {R:Value->Shared->Prop} (hh:A.handled=none) (h1:s.heap.IsTupleIter it l k) (h2:s.heap.IsTuple l xs) (e:xs[k]? = none) (q:∀h' e,Heap.ExtBut it s.heap h'->(∃o,h'.get? e=some o/\o.cls=.type "StopIteration")->E (.ref e) {s with heap:=h'}):wpAny (model P w) A (Builtin.SmallTypes.nextOf (.ref it)) R E s:=by
 obtain⟨o,ho,hc,hd⟩:=id h1;obtain⟨ol,hol,_,nl,hdl⟩:=h2;unfold Builtin.SmallTypes.nextOf;refine _a (_az (name:=Str.ofString "__next__") h1.typeIs _a2 (_aZ _a2 h1.typeIs F.entry_tuple_iterator_next ?_ (F.args_tuple_iterator_next_1 _)));show wpAny _ _ (field (.ref it) 0 >>= _) _ _ s;refine _a (_ar ho hd (x:=.ref l) rfl ?_);show wpAny _ _ (if (Value.ref l==Value.none)=true then _ else _) _ _ s;rw[_l (show ¬ ((Value.ref l==Value.none)=true) from _ax)];show wpAny _ _ (field (.ref it) 1 >>= _) _ _ s;refine _a (_ar ho hd (x:=.int k 0) rfl ?_);show wpAny _ _ (seqItems? (.ref l) >>= _) _ _ s;refine _a (_aD hol hdl ?_);simp only[_b0,e];refine _a (_aw (_a (wpAny_setField ho hd (by simp) ?_)));show wpAny _ _ (newExc (.type "StopIteration") [] >>= _) _ _ _;refine _a ?_;simp only[newExc,newTuple];refine _a (_am ?_ (by size_fits));refine _a (m:=firstArgMember _ _) (_cS (a:=Value.none) (by first | rfl | (simp only[firstArgMember];rfl)) ?_);refine _am ?_ (by size_fits);simp only[raiseNew];refine _a (wpAny_handled ?_);first | rw[show A.in1.handled=none from hh] | rw[hh]
 refine _a (_j (wpAny_throw ?_));exact q _ _ (((_cw ..).extBut.push _).push _) ⟨_,_v _ rfl,rfl⟩
theorem nx{b:Bool}{it l:Addr}{k:Nat}{xs:Array Value}{x:Value}{R:Value->Shared->Prop}(h1:Sit b s.heap it l k)(h2:Sco b s.heap l xs)(e:xs[k]? = some x) (q:∀h',Sit b h' it l (k+1)->Heap.SameBut it s.heap h'->R x {s with heap:=h'}):wpAny (model P w) A (Builtin.SmallTypes.nextOf (.ref it)) R E s:=by cases b with
 | true=>exact wpAny_nextOf_list_item h1 h2 e q | false=>exact zdt h1 h2 e q
theorem zaO {b:Bool} {it l:Addr} {k:Nat} {xs:Array Value} {R:Value->Shared->Prop} (hh:A.handled=none) (h1:Sit b s.heap it l k) (h2:Sco b s.heap l xs) (e:xs[k]? = none) (q:∀h' e,Heap.ExtBut it s.heap h'->(∃o,h'.get? e=some o/\o.cls=.type "StopIteration")->E (.ref e) {s with heap:=h'}):wpAny (model P w) A (Builtin.SmallTypes.nextOf (.ref it)) R E s:=by cases b with
 | true=>exact wpAny_nextOf_list_end hh h1 h2 e q | false=>exact z6I hh h1 h2 e q
theorem zE{a:Addr}{h h':Heap}(hs:Heap.SameBut a h h'){b:Addr}{o:Obj}(n:b≠a)(e:h.get? b=some o):h'.get? b=some o:=hs.extBut _ _ n e
theorem zbH {z TI TO i1 i2 l1 l2:Addr} {b1 b2:Bool} {k:Nat} {xs ys:Array Value} {x y a b:Value} {Q:Option Value->Shared->Prop} (D:ZipApart z TI TO i1 i2 l1 l2) (hz:IsZip s.heap z TI TO .none) (hTI:IsPair s.heap TI (.ref i1) (.ref i2)) (hTO:IsPair s.heap TO a b) (h1:Sit b1 s.heap i1 l1 k) (h2:Sit b2 s.heap i2 l2 k) (c1:Sco b1 s.heap l1 xs) (c2:Sco b2 s.heap l2 ys) (ex:xs[k]? = some x) (ey:ys[k]? = some y) (q:∀h',IsZip h' z TI TO (rawInt s.heap.objs.size)->IsPair h' TO x y->Sit b1 h' i1 l1 (k+1)->Sit b2 h' i2 l2 (k+1)->IsPair h' s.heap.objs.size x y->h'.objs.size=s.heap.objs.size+1-> (∀c o,c≠z->c≠TO->c≠i1->c≠i2->s.heap.get? c=some o->h'.get? c=some o)->Q (some (.ref s.heap.objs.size)) {s with heap:=h'}):wpAny (model P w) A (pyNext (.ref z)) Q E s:=by
 have hT:s.TypeIs (.ref z) "zip":=⟨_,hz,rfl⟩;unfold pyNext;refine _a (wpAny_attempt (_az (name:=Str.ofString "__next__") hT _cq (_aZ _cq hT F.entry_zip_next (Q:=λv s'=>wpAny (model P w) A (pure (some v)) Q E s') ?_ (F.args_zip_next_1 _))));show wpAny _ _ (field (.ref z) 2 >>= _) _ _ _;refine _a (_ar hz rfl (x:=.bool false) rfl ?_);show wpAny _ _ (field (.ref z) 3 >>= _) _ _ _;refine _a (_ar hz rfl (x:=.ref TI) rfl ?_);refine _a (_aD hTI rfl ?_);show wpAny _ _ (Builtin.SmallTypes.ownedTupleIsFree (.ref z) >>= _) _ _ _;refine _a ?_;unfold Builtin.SmallTypes.ownedTupleIsFree;refine _a (_ar hz rfl (x:=.none) rfl (_j ?_));simp only[_C];refine _a (_aw ?_);refine _a (_ar hz rfl (x:=.ref TO) rfl ?_);refine _a (_a3 hz (by simp) λg1 z1 s1=>?_);replace z1:IsZip g1 z TI TO .ellipsis:=z1;refine _a ?_;simp only[_c3,List.zipIdx_nil,List.forIn_cons,List.forIn_nil];refine _a (_a (_cW ?_));show wpAny _ _ (Builtin.SmallTypes.nextOf (.ref i1) >>= _) _ _ _;refine _a (nx (h1.to λo e=>zE s1 D.i1z e) (c1.to λo e=>zE s1 D.l1z e) ex λg2 t2 s2=>_j ?_);have o2:IsPair g2 TO a b:=zE s2 D.TOi1 (zE s1 D.TOz hTO);refine _a (_aD o2 rfl ?_);refine _a (_ch o2 λg3 o3 s3=>?_);replace o3:IsPair g3 TO x b:=o3;refine _a (wpAny_letGo (_j ?_));refine _a (_a (_cW ?_));show wpAny _ _ (Builtin.SmallTypes.nextOf (.ref i2) >>= _) _ _ _;refine _a (nx (h2.to λo e=>zE s3 D.TOi2.symm (zE s2 D.i12.symm (zE s1 D.i2z e))) (c2.to λo e=>zE s3 D.l2TO (zE s2 D.l2i1 (zE s1 D.l2z e))) ey λg4 t4 s4=>_j ?_);have o4:IsPair g4 TO x b:=zE s4 D.TOi2 o3;refine _a (_aD o4 rfl ?_);refine _a (_ch o4 λg5 o5 s5=>?_);replace o5:IsPair g5 TO x y:=o5;refine _a (wpAny_letGo (_j (_j ?_)));refine _a (_aD o5 rfl ?_);refine _a (wpAny_newTuple ?_);have sz:g5.objs.size=s.heap.objs.size:=by rw[s5.1,s4.1,s3.1,s2.1,s1.1]
 have z5:IsZip g5 z TI TO .ellipsis:=zE s5 D.TOz.symm (zE s4 D.i2z.symm (zE s3 D.TOz.symm (zE s2 D.i1z.symm z1)));have k5:∀c o,c≠z->c≠TO->c≠i1->c≠i2->s.heap.get? c=some o->g5.get? c=some o:=λc o n1 n2 n3 n4 e=>zE s5 n2 (zE s4 n4 (zE s3 n2 (zE s2 n3 (zE s1 n1 e))));have t5:Sit b1 g5 i1 l1 (k+1):=t2.to λo e=>zE s5 D.TOi1.symm (zE s4 D.i12 (zE s3 D.TOi1.symm e));have u5:Sit b2 g5 i2 l2 (k+1):=t4.to λo e=>zE s5 D.TOi2.symm e;have zl:z<g5.objs.size:=_o z5;show wpAny _ _ (Builtin.SmallTypes.ownedTupleHandOut (.ref z) (.ref g5.objs.size) >>= _) _ _ _;refine _a ?_;unfold Builtin.SmallTypes.ownedTupleHandOut;have z6:IsZip (g5.push {cls:=.type "tuple",data:=.seq #[x,y]}) z TI TO .ellipsis:=_e _ z5;refine _a (_a3 z6 (by simp) λg7 z7 s7=>?_);replace z7:IsZip g7 z TI TO (rawInt g5.objs.size):=z7;refine _a3 z7 (by simp) λg8 z8 s8=>?_;replace z8:IsZip g8 z TI TO (rawInt g5.objs.size):=z8;have up:∀c o,c≠z->g5.get? c=some o->g8.get? c=some o:=λc o n e=>zE s8 n (zE s7 n (_e _ e));have p8:IsPair g8 g5.objs.size x y:=zE s8 (_c9 zl) (zE s7 (_c9 zl) (_v _ rfl));have e8:g8.objs.size=g5.objs.size+1:=by rw[s8.1,s7.1,_au]
 rw[sz]at z8 p8 e8;refine _j ⟨_,rfl,_j ?_⟩;show Q (some (.ref g5.objs.size)) _;rw[sz];exact q g8 z8 (up _ _ D.TOz o5) (t5.to λo e=>up _ o D.i1z e) (u5.to λo e=>up _ o D.i2z e) p8 e8 λc o n1 n2 n3 n4 e=>up c o n1 (k5 c o n1 n2 n3 n4 e)
theorem zeD {z TI TO i1 i2 l1 l2:Addr} {b1 b2:Bool} {k:Nat} {xs ys:Array Value} {a b:Value} {Q:Option Value->Shared->Prop} (hh:A.handled=none) (D:ZipApart z TI TO i1 i2 l1 l2) (hz:IsZip s.heap z TI TO .none) (hTI:IsPair s.heap TI (.ref i1) (.ref i2)) (hTO:IsPair s.heap TO a b) (h1:Sit b1 s.heap i1 l1 k) (h2:Sit b2 s.heap i2 l2 k) (c1:Sco b1 s.heap l1 xs) (c2:Sco b2 s.heap l2 ys) (en:xs[k]? = none\/ys[k]? = none) (q:∀h',(∀c o,c≠z->c≠TO->c≠i1->c≠i2->s.heap.get? c=some o->h'.get? c=some o)->Q none {s with heap:=h'}):wpAny (model P w) A (pyNext (.ref z)) Q E s:=by
 have hT:s.TypeIs (.ref z) "zip":=⟨_,hz,rfl⟩;have fin:∀h' e,(∀c o,c≠z->c≠TO->c≠i1->c≠i2->s.heap.get? c=some o->h'.get? c=some o)->(∃o,h'.get? e=some o/\o.cls=.type "StopIteration")-> wpAny (model P w) A (isInstance (.ref e) (.type "StopIteration") >>= λb=>if b=true then (pure none:Sem (Option Value)) else throw (.ref e)) Q E {s with heap:=h'}:=λh' e hk he=>by
  obtain⟨o,ho,hc⟩:=he;refine _a (wpAny_isInstance (T:="StopIteration") (b:=true) ⟨o,ho,hc⟩ isSubtype_stop ?_);exact _j (q _ hk)
 unfold pyNext;refine _a (wpAny_attempt (_az (name:=Str.ofString "__next__") hT _cq (_aZ _cq hT F.entry_zip_next ?_ (F.args_zip_next_1 _))));show wpAny _ _ (field (.ref z) 2 >>= _) _ _ _;refine _a (_ar hz rfl (x:=.bool false) rfl ?_);show wpAny _ _ (field (.ref z) 3 >>= _) _ _ _;refine _a (_ar hz rfl (x:=.ref TI) rfl ?_);refine _a (_aD hTI rfl ?_);show wpAny _ _ (Builtin.SmallTypes.ownedTupleIsFree (.ref z) >>= _) _ _ _;refine _a ?_;unfold Builtin.SmallTypes.ownedTupleIsFree;refine _a (_ar hz rfl (x:=.none) rfl (_j ?_));simp only[_C];refine _a (_aw ?_);refine _a (_ar hz rfl (x:=.ref TO) rfl ?_);refine _a (_a3 hz (by simp) λg1 z1 s1=>?_);replace z1:IsZip g1 z TI TO .ellipsis:=z1;refine _a ?_;simp only[_c3,List.zipIdx_nil,List.forIn_cons,List.forIn_nil];refine _a (_a (_cW ?_));show wpAny _ _ (Builtin.SmallTypes.nextOf (.ref i1) >>= _) _ _ _;cases ex:xs[k]? with
 | none=>
  refine _a (zaO hh (h1.to λo e=>zE s1 D.i1z e) (c1.to λo e=>zE s1 D.l1z e) ex λg2 e s2 he=>?_);obtain⟨oe,hoe,hce⟩:=he;have z2:IsZip g2 z TI TO .ellipsis:=s2 _ _ D.i1z.symm z1;have ez:e≠z:=λt=>by subst t;rw[z2]at hoe;cases hoe;simp at hce
  exact _a3 z2 (by simp) λg3 _ s3=>fin g3 e (λc o n1 _ n3 _ t=>zE s3 n1 (s2 _ _ n3 (zE s1 n1 t))) ⟨oe,zE s3 ez hoe,hce⟩ | some x=>
  have ey:ys[k]? = none:=by rcases en with t | t;rw[ex]at t;cases t;exact t
  refine _a (nx (h1.to λo e=>zE s1 D.i1z e) (c1.to λo e=>zE s1 D.l1z e) ex λg2 t2 s2=>_j ?_);have o2:IsPair g2 TO a b:=zE s2 D.TOi1 (zE s1 D.TOz hTO);refine _a (_aD o2 rfl ?_);refine _a (_ch o2 λg3 o3 s3=>?_);refine _a (wpAny_letGo (_j ?_));refine _a (_a (_cW ?_));show wpAny _ _ (Builtin.SmallTypes.nextOf (.ref i2) >>= _) _ _ _;refine _a (zaO hh (h2.to λo e=>zE s3 D.TOi2.symm (zE s2 D.i12.symm (zE s1 D.i2z e))) (c2.to λo e=>zE s3 D.l2TO (zE s2 D.l2i1 (zE s1 D.l2z e))) ey λg4 e s4 he=>?_);obtain⟨oe,hoe,hce⟩:=he;have z4:IsZip g4 z TI TO .ellipsis:=s4 _ _ D.i2z.symm (zE s3 D.TOz.symm (zE s2 D.i1z.symm z1));have ez:e≠z:=λt=>by subst t;rw[z4]at hoe;cases hoe;simp at hce
  exact _a3 z4 (by simp) λg5 _ s5=>fin g5 e (λc o n1 n2 n3 n4 t=>zE s5 n1 (s4 _ _ n4 (zE s3 n2 (zE s2 n3 (zE s1 n1 t))))) ⟨oe,zE s5 ez hoe,hce⟩
end
noncomputable def itO(b:Bool)(l:Addr):Obj:=match b with
 | true=>{cls:=.type "list_iterator",data:=.fields #[.ref l,.int 0 0]} | false=>{cls:=.type "tuple_iterator",data:=.fields #[.ref l,.int 0 0]}
theorem z5R{b:Bool}{h:Heap}{a l:Addr}(e:h.get? a=some (itO b l)):Sit b h a l 0:=by cases b with
 | true=>exact⟨_,e,rfl,rfl⟩ | false=>exact⟨_,e,rfl,rfl⟩
theorem z3k(b:Bool)(l:Addr):(itO b l).isFreed=false:=by cases b<;>rfl
section
variable {P:Program}{w:World}{A:Around}{E:Value->Shared->Prop}{s:Shared}
theorem z7I {b:Bool} {l:Addr} {xs:Array Value} {Q:Value->Shared->Prop} (h:Sco b s.heap l xs) (q:Q (.ref s.heap.objs.size) {s with heap:=s.heap.push (itO b l)}):wpAny (model P w) A (pyIter (.ref l)) Q E s:=by cases b with
 | true=>exact wpAny_pyIter_list h q | false=>exact wpAny_pyIter_tuple h q
end
noncomputable abbrev G1(b1:Bool)(h:Heap)(l1:Addr):Heap:=h.push (itO b1 l1)
noncomputable abbrev G2(b1 b2:Bool)(h:Heap)(l1 l2:Addr):Heap:=(G1 b1 h l1).push (itO b2 l2)
noncomputable abbrev G3(b1 b2:Bool)(h:Heap)(l1 l2:Addr):Heap:=(G2 b1 b2 h l1 l2).push {cls:=.type "tuple",data:=.seq #[.ref h.objs.size,.ref (G1 b1 h l1).objs.size]}
noncomputable abbrev G4(b1 b2:Bool)(h:Heap)(l1 l2:Addr):Heap:=(G3 b1 b2 h l1 l2).push {cls:=.type "tuple",data:=.seq #[.none,.none]}
noncomputable abbrev G5(b1 b2:Bool)(h:Heap)(l1 l2:Addr):Heap:=(G4 b1 b2 h l1 l2).push {cls:=.type "zip",data:=.fields #[.none,.bool false,.bool false,.ref (G2 b1 b2 h l1 l2).objs.size,.ref (G3 b1 b2 h l1 l2).objs.size]}
theorem z8S (b1 b2:Bool) (l1 l2:Addr) (xs ys:Array Value): Meets (Builtin.«zip.__new__» ⟨[.type "zip",.ref l1,.ref l2],[]⟩) (λ_ R s=>Sco b1 s.heap l1 xs/\Sco b2 s.heap l2 ys/\R (.ok (.ret (.ref (G4 b1 b2 s.heap l1 l2).objs.size))) {s with heap:=G5 b1 b2 s.heap l1 l2}):= .of_wp λprog w A R s h=>by
  obtain⟨hp,g,d,tk,os⟩:=s;obtain⟨c1,c2,h⟩:=h;have hsub:=sub_zip;have q1:Sco b1 (Shared.heap ⟨hp,g,d,tk,os⟩) l1 xs:=c1;have q2:Sco b2 (Shared.heap ⟨hp.push (itO b1 l1),g,d,tk,os⟩) l2 ys:=c2.to λo e=>_e _ e;wp_walk using z7I q1,z7I q2;exact⟨_,rfl,h⟩
section
variable {P:Program}{w:World}{A:Around}{E:Value->Shared->Prop}{s:Shared}
theorem zac {b1 b2:Bool} {l1 l2:Addr} {xs ys:Array Value} {Q:Value->Shared->Prop} (c1:Sco b1 s.heap l1 xs) (c2:Sco b2 s.heap l2 ys) (h:∀h',IsZip h' (s.heap.objs.size+4) (s.heap.objs.size+2) (s.heap.objs.size+3) .none->IsPair h' (s.heap.objs.size+2) (.ref s.heap.objs.size) (.ref (s.heap.objs.size+1))-> IsPair h' (s.heap.objs.size+3) .none .none->Sit b1 h' s.heap.objs.size l1 0->Sit b2 h' (s.heap.objs.size+1) l2 0->(∀c o,s.heap.get? c=some o->h'.get? c=some o)->Q (.ref (s.heap.objs.size+4)) {s with heap:=h'}): wpAny (model P w) A (call (.type "zip") [.ref l1,.ref l2]) Q E s:=by
 refine callType_new F.called_zip (by decide) (F.typeCall_zip_2 _ _) (F.newCall_zip_2 _ _) (λobj=>F.args_object_init_3 obj _ _) F.entry_zip_new (z8S b1 b2 l1 l2 xs ys) ⟨c1,c2,?_⟩;have z1:(G1 b1 s.heap l1).objs.size=s.heap.objs.size+1:=_au ..;have z2:(G2 b1 b2 s.heap l1 l2).objs.size=s.heap.objs.size+2:=by rw[_au,z1]
 have z3:(G3 b1 b2 s.heap l1 l2).objs.size=s.heap.objs.size+3:=by rw[_au,z2]
 have z4:(G4 b1 b2 s.heap l1 l2).objs.size=s.heap.objs.size+4:=by rw[_au,z3]
 have up:∀{h:Heap} {o:Obj} {c:Addr} {u:Obj},h.get? c=some u->(h.push o).get? c=some u:=λe=>_e _ e;have g5:(G5 b1 b2 s.heap l1 l2).get? (G4 b1 b2 s.heap l1 l2).objs.size=some _:=_v _ rfl;have g4:(G5 b1 b2 s.heap l1 l2).get? (G3 b1 b2 s.heap l1 l2).objs.size=some _:=up (_v _ rfl);have g3:(G5 b1 b2 s.heap l1 l2).get? (G2 b1 b2 s.heap l1 l2).objs.size=some _:=up (up (_v _ rfl));have g2:(G5 b1 b2 s.heap l1 l2).get? (G1 b1 s.heap l1).objs.size=some (itO b2 l2):=up (up (up (_v _ (z3k b2 l2))));have g1:(G5 b1 b2 s.heap l1 l2).get? s.heap.objs.size=some (itO b1 l1):=up (up (up (up (_v _ (z3k b1 l1)))));show _/\_;rw[z2,z3,z4]at g5;rw[z1,z2]at g3;rw[z3]at g4;rw[z1]at g2;rw[z4];exact⟨⟨_,g5,rfl⟩,h _ g5 g3 g4 (z5R g1) (z5R g2) λc o e=>up (up (up (up (up e))))⟩
end
end Zz
namespace L2
open Zz
def Sq(b:Bool)(K:W.Frag)(H:Hp)(a:Addr)(xs:List V):Prop:=match b with
 | true=>SqL K H a xs | false=>SqT K H a xs
section
variable {X:Cx}{pins:List (Addr×Obj)}{O:St}{H:Hp}{s:Shared}{h':Heap}
theorem Inv.sq{b:Bool}{a:Addr}{xs:List V}(I:Inv X pins O H s)(h:Sq b X.K H a xs):∃its:List Value,yC xs its/\Sco b s.heap a its.toArray:=by cases b with
 | true=>obtain⟨its,r,p,_⟩:=I.list h;exact⟨its,r,p.isList⟩ | false=>obtain⟨its,r,p,_⟩:=I.tuple h;exact⟨its,r,p⟩
theorem Inv.sq_inj{b:Bool}{a:Addr}{xs ys:List V}(I:Inv X pins O H s)(h:Sq b X.K H a xs)(h':Sq b X.K H a ys):xs=ys:=by cases b with
 | true=>exact I.list_inj h h' | false=>exact I.tuple_inj h h'
theorem Inv.turnedL {t':Nat} {ch:List Addr} (I:Inv X pins O H s) (k:∀b o,b∉ch->s.heap.get? b=some o->h'.get? b=some o) (f:∀b∈ch,z2B X pins H b):Inv X pins O H {s with heap:=h',toks:=t'}:=by
 have nit:∀b u,H b=some u->b∉ch:=λb u e z=>by rw[(f b z).1]at e;cases e
 refine I.step (g':=s.gens) (d':=s.drawn) (ch:=ch) (λb hb=>⟨(f b hb).2.2.2.1,(f b hb).2.1,(f b hb).2.2.2.2.1,(f b hb).2.2.2.2.2⟩) (λb o _ _ hc e _=>k b o hc e) (λb o _ _ hc e _=>⟨o.slots,k b o hc e⟩) (λ_ _ _ _ n=>n) (λb o hc e=>⟨o,k b o hc e⟩) (λ_ _ e=>e) (λ_ _ _ e=>e) (λb ps e=>⟨#[],by rw[e];simp⟩) (λm hm=>?_) (λb u e=>?_) I.bare
 ·obtain⟨o,es,ep,ho,r⟩:=hm;exact⟨o,es,ep,k _ o (λz=>(f _ z).2.1 rfl) ho,r⟩
 ·refine (I.hok b u e).stay (λc v hc q=>k c v ?_ q) (λ_ q=>q) λ_ _ q=>q;rcases hc with z | z;·rw[z];exact nit b u e
  ·exact nit c _ z
end
noncomputable def Itz(K:W.Frag)(b1 b2:Bool)(l1 l2:Addr):It:= ⟨λi H=>∃xs ys x y,Sq b1 K H l1 xs/\Sq b2 K H l2 ys/\xs[i]? = some x/\ys[i]? = some y, λi H v H'=>∃T x y,H T=none/\v=.ref T/\H'=upd H T (.tup [x,y])/\(∀xs,Sq b1 K H l1 xs->xs[i]? = some x)/\∀ys,Sq b2 K H l2 ys->ys[i]? = some y, λi H=>∃xs ys,Sq b1 K H l1 xs/\Sq b2 K H l2 ys/\(xs.length<=i\/ys.length<=i)⟩
theorem za3 {P:Program} {w:World} {K:W.Frag} {elts:List Expr} {kt:Nat} {tp:Pos} {b1 b2:Bool} {z TI TO i1 i2 l1 l2:Addr} (D:ZipApart z TI TO i1 i2 l1 l2): zbU P w K (.Tuple elts kt tp) (Itz K b1 b2 l1 l2) [z,TI,TO,i1,i2] z (λi h=>IsZip h z TI TO .none/\IsPair h TI (.ref i1) (.ref i2)/\(∃a b,IsPair h TO a b)/\Sit b1 h i1 l1 i/\Sit b2 h i2 l2 i) where
 mem:=by simp
 obj:=λi h ⟨hz,hTI,⟨a,b,hTO⟩,h1,h2⟩ c hc=>by
  have hc':c=z\/c=TI\/c=TO\/c=i1\/c=i2:=by simpa using hc
  rcases hc' with rfl | rfl | rfl | rfl | rfl;·exact⟨_,hz,λv e=>by simp at e⟩
  ·exact⟨_,hTI,λv e=>by simp at e⟩
  ·exact⟨_,hTO,λv e=>by simp at e⟩
  ·exact h1.ob
  ·exact h2.ob
 keep:=λi h h' ⟨hz,hTI,⟨a,b,hTO⟩,h1,h2⟩ k=>⟨k z (by simp) _ hz,k TI (by simp) _ hTI,⟨a,b,k TO (by simp) _ hTO⟩,h1.to λo e=>k i1 (by simp) o e,h2.to λo e=>k i2 (by simp) o e⟩;item:=by
  intro X hP hw hK hc i pins s O H E I hf ⟨hz,hTI,⟨a,b,hTO⟩,h1,h2⟩ ⟨xs,ys,x,y,qx,qy,ex,ey⟩;subst hP hw hK;obtain⟨ix,rx,cx⟩:=I.sq qx;obtain⟨iy,ry,cy⟩:=I.sq qy;obtain⟨u,hu,ru⟩:=rx.get ex;obtain⟨v,hv,rv⟩:=ry.get ey;refine zbH D hz hTI hTO h1 h2 cx cy (x:=u) (y:=v) (by simpa using hu) (by simpa using hv) λg a1 a2 a3 a4 a5 a6 hk=>⟨_,rfl,?_⟩;have kk:∀c o,c∉[z,TO,i1,i2]->s.heap.get? c=some o->g.get? c=some o:=λc o n e=>hk c o (λt=>n (by simp[t])) (λt=>n (by simp[t])) (λt=>n (by simp[t])) (λt=>n (by simp[t])) e;have sub:∀c∈[z,TO,i1,i2],c∈[z,TI,TO,i1,i2]:=λc hc=>by
   have:c=z\/c=TO\/c=i1\/c=i2:=by simpa using hc
   rcases this with rfl | rfl | rfl | rfl<;>simp
  have I1:Inv X pins O H {s with heap:=g}:=I.turnedL (t':=s.toks) kk λc hc=>hf c (sub c hc);refine wpAny_letOwnedTupleGo_zip a1 λg2 z2 s2=>?_;obtain⟨f0,f1,f2,f3,f4,f5⟩:=hf z (by simp);have I2:Inv X pins O H {s with heap:=g2}:=I1.turned (t':=s.toks) (λc o n e=>zE s2 n e) f0 f1 f3 f4 f5;have new:z2B X pins H s.heap.objs.size:=I.fpOk (_d _) (I.hok.fresh (_d _));have ne:∀{c:Addr} {o:Obj},s.heap.get? c=some o->c≠s.heap.objs.size:=λe=>_D (_o e);have p2:IsPair g2 s.heap.objs.size u v:=zE s2 (ne hz).symm a5;refine⟨.ref s.heap.objs.size,upd H s.heap.objs.size (.tup [x,y]),I2.track new ⟨?_,[u,v],.cons ru (.cons rv .nil),⟨_,p2,rfl,rfl,_,rfl⟩⟩,rfl,⟨_,x,y,new.1,rfl,rfl,λzs qz=>?_,λzs qz=>?_⟩,⟨z2,?_,⟨_,_,zE s2 D.TOz a2⟩,a3.to λo e=>zE s2 D.i1z e,a4.to λo e=>zE s2 D.i2z e⟩,λc hc=>?_⟩;·show 2<=sizeLine;decide
  ·rw[I.sq_inj qz qx];exact ex
  ·rw[I.sq_inj qz qy];exact ey
  ·exact zE s2 D.TIz (hk TI _ D.TIz D.TITO D.TIi1 D.TIi2 hTI)
  ·have hc':c=z\/c=TI\/c=TO\/c=i1\/c=i2:=by simpa using hc
   have:c≠s.heap.objs.size:=by
    rcases hc' with rfl | rfl | rfl | rfl | rfl;·exact ne hz
    ·exact ne hTI
    ·exact ne hTO
    ·exact _D h1.lt
    ·exact _D h2.lt
   rw[zj this];exact (hf c hc).1
 done:=by
  intro X hP hw hK hc i pins s O H E I hf ⟨hz,hTI,⟨a,b,hTO⟩,h1,h2⟩ ⟨xs,ys,qx,qy,hl⟩;subst hP hw hK;obtain⟨ix,rx,cx⟩:=I.sq qx;obtain⟨iy,ry,cy⟩:=I.sq qy;have lx:=rx.length;have ly:=ry.length;refine zeD (I.ok.hd hc) D hz hTI hTO h1 h2 cx cy ?_ λg hk=>⟨rfl,?_⟩
  ·rcases hl with hl | hl;·exact .inl (by simp;omega)
   ·exact .inr (by simp;omega)
  ·exact I.turnedL (t':=s.toks) (ch:=[z,TO,i1,i2]) (λc o n e=>hk c o (λt=>n (by simp[t])) (λt=>n (by simp[t])) (λt=>n (by simp[t])) (λt=>n (by simp[t])) e) λc hc=>hf c (by
    have:c=z\/c=TO\/c=i1\/c=i2:=by simpa using hc
    rcases this with rfl | rfl | rfl | rfl<;>simp)
 self:=λ_ _ _ _ _ st h=>wpAny_pyIter_zip st.1 h
theorem zeP{X:Cx}{elts:List Expr}{kt:Nat}{tp:Pos}{a b:Expr}{ta:TA}{p pos:Pos}(hg:Gl X "zip")(hm:X.mg "zip"=none)(ha:PA X [a,b] ta)(hs:starEach [a,b] X.env=(false,eval a X.env)::starEach [b] X.env:=by rfl)(hpl:(backTo pos (starEach [b] X.env)).any (·.1)=false:=by rfl): PI X (.Tuple elts kt tp) (.Call (.Name "zip" p) [a,b] [] pos) (λO H R=>ta O H λvs H1=>∃l1 l2 b1 b2,vs=[.ref l1,.ref l2]/\(∃xs,Sq b1 X.K H1 l1 xs)/\(∃ys,Sq b2 X.K H1 l2 ys)/\R (Itz X.K b1 b2 l1 l2) H1):=by
 intro pins s O H R I h;refine _a1 (z1E I hg hm (u:=.type "zip") (by first | exact PySem.boot_zip | rfl | decide +kernel) ?_ (by decide) (by decide));refine _aT (thn (ha pos pins s O H _ I h) λus s1 ⟨vs,H1,I1,r1,q1⟩=>?_) hs hpl;obtain⟨l1,l2,b1,b2,rfl,⟨xs,qx⟩,⟨ys,qy⟩,q⟩:=q1;cases r1 with | cons r1 r2=> cases r2 with | cons r2 r3=>
   cases r3;cases r1;cases r2;obtain⟨ix,rx,cx⟩:=I1.sq qx;obtain⟨iy,ry,cy⟩:=I1.sq qy;have lt1:l1<s1.heap.objs.size:=by cases b1 with
    | true=>obtain⟨o,e,_⟩:=cx;exact _o e | false=>obtain⟨o,e,_⟩:=cx;exact _o e
   have lt2:l2<s1.heap.objs.size:=by cases b2 with
    | true=>obtain⟨o,e,_⟩:=cy;exact _o e | false=>obtain⟨o,e,_⟩:=cy;exact _o e
   have D:ZipApart (s1.heap.objs.size+4) (s1.heap.objs.size+2) (s1.heap.objs.size+3) s1.heap.objs.size (s1.heap.objs.size+1) l1 l2:=by
    have e1:∀k:Nat,l1≠s1.heap.objs.size+k:=λk=>_D (_r lt1 (_bG _ _));have e2:∀k:Nat,l2≠s1.heap.objs.size+k:=λk=>_D (_r lt2 (_bG _ _));have nk:∀(m j k:Nat),j≠k->m+j≠m+k:=λm j k h z=>h (Nat.add_left_cancel z);exact⟨nk _ 2 4 (by decide),nk _ 3 4 (by decide),nk _ 0 4 (by decide),nk _ 1 4 (by decide),nk _ 2 3 (by decide),nk _ 2 0 (by decide),nk _ 2 1 (by decide),nk _ 3 0 (by decide),nk _ 3 1 (by decide),nk _ 0 1 (by decide),e1 4,e1 3,e1 0,e1 1,e2 4,e2 3,e2 0,e2 1⟩
   refine zac cx cy λg hz hTI hTO h1 h2 hk=>?_;refine wpAny_pyIter_zip hz ?_;refine⟨_,_,_,_,H1,rfl,I1.kept (t':=s1.toks) hk,za3 D,⟨hz,hTI,⟨_,_,hTO⟩,h1,h2⟩,λc hc=>?_,q⟩;have hc':s1.heap.objs.size<=c:=by
    have:c=s1.heap.objs.size+4\/c=s1.heap.objs.size+2\/c=s1.heap.objs.size+3\/c=s1.heap.objs.size\/c=s1.heap.objs.size+1:=by simpa using hc
    rcases this with rfl | rfl | rfl | rfl | rfl<;>first | exact _d _ | exact _bG _ _
   exact I1.fpOk hc' (I1.hok.fresh hc')
end L2
namespace Zz
section
variable {P:Program}{w:World}{A:Around}{E:Value->Shared->Prop}{s:Shared}
theorem z1Q {b : Bool} {l : Addr} {its : Array Value} {Q : Value → Shared → Prop} (hh : A.handled = none) (h : Sco b s.heap l its) (k : ∀s2 : Shared, s2 = { s with heap := s.heap.push (itO b l) } → ∀St : Nat → Heap → Prop, Walks P w A s.heap.objs.size [s.heap.objs.size, l] [s.heap.objs.size] its.size (λi v => its[i]? = some v) St → St 0 s2.heap → (∀c ∈ [s.heap.objs.size, l], c < s2.heap.objs.size) → (∀h' : Heap, (∀c o, c ∉ [s.heap.objs.size] → s2.heap.get? c = some o → h'.get? c = some o) → ∀c o, s.heap.get? c = some o → h'.get? c = some o) → Q (.ref s.heap.objs.size) s2) : wpAny (model P w) A (pyIter (.ref l)) Q E s := by
  have lt : l < s.heap.objs.size := by cases b with
    | true => obtain⟨o, e, _⟩ := h; exact _o e | false => obtain⟨o, e, _⟩ := h; exact _o e
  have ne : l ≠ s.heap.objs.size := _D lt;have bd : ∀c ∈ [s.heap.objs.size, l], c < (s.heap.push (itO b l)).objs.size := λc hc => by
    have : c = s.heap.objs.size ∨ c = l := by simpa using hc
    rw[_au];rcases this with rfl | rfl;· exact _bg _
    · exact _aR lt
  have old : ∀h' : Heap, (∀c o, c ∉ [s.heap.objs.size] → (s.heap.push (itO b l)).get? c = some o → h'.get? c = some o) → ∀c o, s.heap.get? c = some o → h'.get? c = some o := λh' hk c o e =>
    hk c o (fun z => by have : c = s.heap.objs.size := by simpa using z
                        exact absurd (this ▸ _o e) (_ao _)) (_e _ e);refine z7I h ?_;have g : (s.heap.push (itO b l)).get? s.heap.objs.size = some (itO b l) := _v _ (z3k b l);cases b with
  | true => exact k _ rfl _ (Walks.list hh _ l ne its) ⟨z5R (b := true) g, Sco.to (b := true) h λo e => _e _ e⟩ bd old | false => exact k _ rfl _ (Walks.tuple hh _ l ne its) ⟨z5R (b := false) g, Sco.to (b := false) h λo e => _e _ e⟩ bd old
end
end Zz
namespace L2
open Zz
noncomputable def maxL:List Int->Int
 | []=>0 | x::xs=>xs.foldl max x
noncomputable def minL:List Int->Int
 | []=>0 | x::xs=>xs.foldl min x
theorem vS:∀(xs:List Int)(x:Int),x<=xs.foldl max x/\(∀y∈xs,y<=xs.foldl max x)/\(xs.foldl max x=x\/xs.foldl max x∈xs)
 | [],x=>⟨Int.le_refl _,by simp,.inl rfl⟩ | y::ys,x=>by
  obtain⟨h1,h2,h3⟩:=vS ys (max x y);refine⟨by simp only[_aS];omega,λz hz=>?_,?_⟩
  ·simp only[_aS];rcases _n.mp hz with rfl | hz;·omega
   ·exact h2 z hz
  ·simp only[_aS];rcases h3 with h3 | h3
   ·rw[h3];rcases Int.le_total x y with h | h;·exact .inr (by rw[Int.max_eq_right h];simp)
    ·exact .inl (Int.max_eq_left h)
   ·exact .inr (_w _ h3)
theorem vU:∀(xs:List Int)(x:Int),xs.foldl min x<=x/\(∀y∈xs,xs.foldl min x<=y)/\(xs.foldl min x=x\/xs.foldl min x∈xs)
 | [],x=>⟨Int.le_refl _,by simp,.inl rfl⟩ | y::ys,x=>by
  obtain⟨h1,h2,h3⟩:=vU ys (min x y);refine⟨by simp only[_aS];omega,λz hz=>?_,?_⟩
  ·simp only[_aS];rcases _n.mp hz with rfl | hz;·omega
   ·exact h2 z hz
  ·simp only[_aS];rcases h3 with h3 | h3
   ·rw[h3];rcases Int.le_total x y with h | h;·exact .inl (Int.min_eq_left h)
    ·exact .inr (by rw[Int.min_eq_right h];simp)
   ·exact .inr (_w _ h3)
theorem maxL_ge{xs:List Int}:∀y∈xs,y<=maxL xs:=by cases xs with
 | nil=>simp | cons x xs=>intro y hy;rcases _n.mp hy with rfl | hy;exact (vS xs y).1;exact (vS xs x).2.1 y hy
theorem maxL_mem{xs:List Int}(h:xs≠[]):maxL xs∈xs:=by cases xs with
 | nil=>exact absurd rfl h | cons x xs=>rcases (vS xs x).2.2 with e | e;exact (show xs.foldl max x∈x::xs by rw[e];simp);exact _w _ e
theorem minL_le{xs:List Int}:∀y∈xs,minL xs<=y:=by cases xs with
 | nil=>simp | cons x xs=>intro y hy;rcases _n.mp hy with rfl | hy;exact (vU xs y).1;exact (vU xs x).2.1 y hy
theorem minL_mem{xs:List Int}(h:xs≠[]):minL xs∈xs:=by cases xs with
 | nil=>exact absurd rfl h | cons x xs=>rcases (vU xs x).2.2 with e | e;exact (show xs.foldl min x∈x::xs by rw[e];simp);exact _w _ e
section
variable {X:Cx}
theorem z1P {ns:List Int} {its:List Value} (r:yC (ns.map V.int) its) {i:Nat} {v:Value} (e:its.toArray[i]? = some v):∃t,v=.int (ns.getD i 0) t/\i<ns.length:=by
 have e':its[i]? = some v:=by simpa using e
 have hl:=r.length;have hi:i<ns.length:=by
  have:=(_b.mp e').1;simp at hl;omega
 obtain⟨u,hu,ru⟩:=r.get (i:=i) (x:=V.int ns[i]) (by simp[hi]);rw[e']at hu;cases hu;obtain⟨t,rfl⟩:=ru;exact⟨t,by simp[List.getD,hi],hi⟩
theorem getD_in{ns:List Int}{i:Nat}(h:i<ns.length):ns.getD i 0∈ns:=by
 rw[List.getD,_q h];exact _aB _
theorem z8M (hc:X.calm=true):xH X (.builtin "max") (λxs H Q=>∃b p ns,xs=[.ref p]/\Sq b X.K H p (ns.map V.int)/\ns≠[]/\Q (.int (maxL ns)) H):=by
 intro pins s O H xs us Q I r h;obtain⟨b,p,ns,rfl,hq,hne,q⟩:=h;obtain⟨u,rfl,ru⟩:=vals1 r;cases ru;obtain⟨its,rv,co⟩:=I.sq hq;have hl:its.length=ns.length:=by have:=rv.length;simp at this;omega
 have hn:0<ns.length:=_cx.mpr hne;refine call_max_walk (z1Q (I.ok.hd hc) co λs2 e2 St W st bd old=>?_);subst e2;refine⟨_,_,_,_,_,_,_,rfl,W,st,bd,by simpa[hl] using hn,CmpOf.ints_gt (λi=>ns.getD i 0) (λi v e=>let ⟨t,e1,_⟩:=z1P rv e;⟨t,e1⟩),λv h' tk e hk=>?_⟩;obtain⟨t,e1,lt⟩:=z1P rv e;obtain⟨h1,h2⟩:=argBest_gt (λi=>ns.getD i 0) (its.toArray.size-1);have em:ns.getD (argBest (λi j=>decide (ns.getD i 0 > ns.getD j 0)) (its.toArray.size-1)) 0=maxL ns:=by
  refine Int.le_antisymm (maxL_ge _ ?_) ?_;·exact getD_in lt
  ·obtain⟨j,hj,ej⟩:=_aj.mp (maxL_mem hne);have:=h2 j (by simp[hl];omega);simp only[List.getD,_q hj,_c4,ej]at this;simpa[List.getD] using this
 rw[e1,em];exact⟨.int (maxL ns),H,I.kept (t':=tk) (old h' hk),⟨t,rfl⟩,q⟩
theorem z7u (hc:X.calm=true):xH X (.builtin "min") (λxs H Q=>∃b p ns,xs=[.ref p]/\Sq b X.K H p (ns.map V.int)/\ns≠[]/\Q (.int (minL ns)) H):=by
 intro pins s O H xs us Q I r h;obtain⟨b,p,ns,rfl,hq,hne,q⟩:=h;obtain⟨u,rfl,ru⟩:=vals1 r;cases ru;obtain⟨its,rv,co⟩:=I.sq hq;have hl:its.length=ns.length:=by have:=rv.length;simp at this;omega
 have hn:0<ns.length:=_cx.mpr hne;refine call_min_walk (z1Q (I.ok.hd hc) co λs2 e2 St W st bd old=>?_);subst e2;refine⟨_,_,_,_,_,_,_,rfl,W,st,bd,by simpa[hl] using hn,CmpOf.ints_lt (λi=>ns.getD i 0) (λi v e=>let ⟨t,e1,_⟩:=z1P rv e;⟨t,e1⟩),λv h' tk e hk=>?_⟩;obtain⟨t,e1,lt⟩:=z1P rv e;obtain⟨h1,h2⟩:=argBest_lt (λi=>ns.getD i 0) (its.toArray.size-1);have em:ns.getD (argBest (λi j=>decide (ns.getD i 0<ns.getD j 0)) (its.toArray.size-1)) 0=minL ns:=by
  refine Int.le_antisymm ?_ (minL_le _ ?_)
  ·obtain⟨j,hj,ej⟩:=_aj.mp (minL_mem hne);have:=h2 j (by simp[hl];omega);simp only[List.getD,_q hj,_c4,ej]at this;simpa[List.getD] using this
  ·exact getD_in lt
 rw[e1,em];exact⟨.int (minL ns),H,I.kept (t':=tk) (old h' hk),⟨t,rfl⟩,q⟩
theorem all_range{bs:List Bool}:(List.range bs.length).all (λi=>bs.getD i false)=bs.all id:=by
 rw[Bool.eq_iff_iff];simp only[_aK,_bc,id];constructor
 ·intro h x hx;obtain⟨j,hj,ej⟩:=_aj.mp hx;have:=h j hj;simpa[List.getD,hj,ej] using this
 ·intro h i hi;simp only[List.getD,_q hi,_c4];exact h _ (_aB _)
theorem z84 (hc:X.calm=true):xH X (.builtin "all") (λxs H Q=>∃(b:Bool) (p:Addr) (bs:List Bool),xs=[.ref p]/\Sq b X.K H p (bs.map V.bl)/\Q (.bl (bs.all id)) H):=by
 intro pins s O H xs us Q I r h;obtain⟨b,p,bs,rfl,hq,q⟩:=h;obtain⟨u,rfl,ru⟩:=vals1 r;cases ru;obtain⟨its,rv,co⟩:=I.sq hq;have hl:its.length=bs.length:=by have:=rv.length;simp at this;omega
 refine call_all_walk (z1Q (I.ok.hd hc) co λs2 e2 St W st bd old=>?_);subst e2;refine⟨_,_,_,_,_,_,λi=>bs.getD i false,rfl,W,st,λi v s3 Q3 E3 e q3=>?_,λh' tk hk=>?_⟩
 ·have e':its[i]? = some v:=by simpa using e
  have hi:i<bs.length:=by have:=(_b.mp e').1;omega
  obtain⟨u,hu,ru⟩:=rv.get (i:=i) (x:=V.bl bs[i]) (by simp[hi]);rw[e']at hu;cases hu;cases ru;have:bs.getD i false=bs[i]:=by simp[List.getD,hi]
  have q3:Q3 (bs.getD i false) s3:=q3;rw[this]at q3;exact _al q3
 ·have ez:its.toArray.size=bs.length:=by simp[hl]
  rw[ez,all_range];exact⟨.bl (bs.all id),H,I.kept (t':=tk) (old h' hk),rfl,q⟩
end
end L2
namespace L2
theorem z5t{X:Cx}:xH X (.builtin "isinstance") (λxs H Q=>∃x t T b,xs=[x,.ty T]/\z6n X.K H x t/\W.kitOne X.K t (.type T)=some b/\Q (.bl b) H):=by
 intro pins s O H xs us Q I r h;obtain⟨x,t,T,b,rfl,ht,hk,q⟩:=h;obtain⟨u,v,rfl,ru,rv⟩:=vals2 r;cases rv;exact z7S I ru ht hk λtk=>⟨.bl b,H,I.tok _,rfl,q⟩
end L2
namespace Dd
open L2
noncomputable def tyD:D->Option String
 | .non=>some "NoneType" | .bl _=>some "bool" | .int _=>some "int" | .str _=>some "str" | .tup _=>some "tuple" | .lst _=>some "list" | .loc _=>some "list" | .dct=>some "dict" | _=>none
noncomputable def isT(T t:String):Bool:=t==T||(T=="int"&&t=="bool")
noncomputable def gIs(T:String):D->Sto->R D:=λd s=>match tyD d with | some t=>.ok (.bl (isT T t)) s | none=>.no
theorem zcO{K:W.Frag}{t:String}(h:t∈["NoneType","bool","int","str","tuple","list","dict"])(T:String)(hT:T∈["int","bool","str","tuple","list"]):W.kitOne K (.type t) (.type T)=some (isT T t):=by
 have hh:t="NoneType"\/t="bool"\/t="int"\/t="str"\/t="tuple"\/t="list"\/t="dict":=by simpa using h
 have hh':T="int"\/T="bool"\/T="str"\/T="tuple"\/T="list":=by simpa using hT
 rcases hh with rfl | rfl | rfl | rfl | rfl | rfl | rfl<;>rcases hh' with rfl | rfl | rfl | rfl | rfl<;>kernel_rfl
theorem ze7{mg:Gm}{H:Hp}{Y:List Addr}{s:Sto}{d:D}{v:V}{t:String}(r:Rep mg H Y s)(dn:Den mg H Y d v)(e:tyD d=some t):z6n mg.K H v (.type t)/\t∈["NoneType","bool","int","str","tuple","list","dict"]:=by cases d with
 | non=>simp only[Den]at dn;subst dn;cases e;exact⟨.non,by simp⟩ | bl b=>cases jU dn;cases e;exact⟨.bl b,by simp⟩ | int b=>cases yp dn;cases e;exact⟨.int b,by simp⟩ | str b=>cases zbr dn;cases e;exact⟨.str b,by simp⟩ | tup b=>
  cases e;simp only[Den]at dn;obtain⟨a,vs,rfl,h1,_⟩:=dn;exact⟨.tup h1,by simp⟩ | lst b=>
  cases e;simp only[Den]at dn;obtain⟨a,o,vs,rfl,h1,_⟩:=dn;exact⟨.frz h1,by simp⟩ | loc l=>
  cases e;simp only[Den]at dn;obtain⟨a,rfl,h1,vs,h2⟩:=dn;exact⟨.lst h2,by simp⟩ | dct=>
  cases e;simp only[Den]at dn;obtain⟨a,rfl,h1⟩:=dn;exact⟨.dK h1,by simp⟩ | _=>cases e
section
variable {X:Cx}{E:XK}{e a b c tg:Expr}{es:List Expr}{pos:Pos}{CX:CXT}
noncomputable def eIs(T:String)(f:FE):FE:=fun ρ s=>(f ρ s).bind λd s1=>gIs T d s1
theorem zdN{p p2:Pos}{T:String}{tn:Str}{f:FE}(hT:T∈["int","bool","str","tuple","list"])(hv:bootBuiltins tn=some (.type T))(hg:Gl X "isinstance")(hm:X.mg "isinstance"=none)(hg2:Gl X tn)(hm2:X.mg tn=none)(he:RE X E e f) (hn:tn≠"__name__":=by decide)(hd:(tn==("__debug__":Str))=false:=by decide) (hs:starEach [e,.Name tn p2] X.env=(false,eval e X.env)::starEach [.Name tn p2] X.env:=by rfl)(hpl:(backTo pos (starEach [.Name tn p2] X.env)).any (·.1)=false:=by rfl):RE X E (.Call (.Name "isinstance" p) [e,.Name tn p2] [] pos) (eIs T f):= zX (z0F z5t hg hm (by decide +kernel) (wc he (wc (z7X hg2 hm2 hv (show xc (.ty T) (.type T) from rfl) hn hd) qd) hs) (by decide) (by decide) hs hpl) λO H Q ⟨Y,ρ,s,r,en,h⟩=>by
  refine yc (k:=fun ρ d s1=>gIs T d s1) r en h _ λv H1 Y1 s1 d r1 en1 dn stp h1=>?_;unfold gIs at h1;split at h1
  ·rename_i t et;obtain⟨q1,q2⟩:=ze7 r1 dn et;exact⟨v,.type t,T,isT T t,rfl,q1,zcO q2 T hT,okR.here (b:=V.bl (isT T t)) h1 r1 vz⟩
  ·exact h1.elim
noncomputable def z9b:List D->Sto->R D
 | [.int i],s=>.ok (.int (if i<0 then -i else i)) s | _,_=>.no
theorem zf0:∃r,xH X (.builtin "abs") r/\kL X E r z9b:=⟨_,z9h,λH Y s ds vs Q r hd h=>by
 unfold z9b at h;split at h
 ·rename_i i;obtain⟨v,rfl,dn⟩:=z1V hd;cases yp dn;exact⟨i,rfl,h.here r yT⟩
 ·exact h.elim⟩
noncomputable def intsOf:List D->Option (List Int)
 | []=>some [] | .int i::r=>(intsOf r).map (i::·) | _=>none
noncomputable def bools:List D->Option (List Bool)
 | []=>some [] | .bl i::r=>(bools r).map (i::·) | _=>none
theorem ui:∀{xs:List D}{ns:List Int},intsOf xs=some ns->xs=ns.map D.int
 | [],ns,h=>by simp[intsOf]at h;subst h;rfl | .int i::r,ns,h=>by
  simp only[intsOf,_M]at h;obtain⟨ms,h1,rfl⟩:=h;rw[ui h1];rfl
theorem xR(ns:List Int):intsOf (ns.map D.int)=some ns:=by induction ns with
 | nil=>rfl | cons n ns ih=>simp[intsOf,ih]
theorem z0x:∀{xs:List D}{ns:List Bool},bools xs=some ns->xs=ns.map D.bl
 | [],ns,h=>by simp[bools]at h;subst h;rfl | .bl i::r,ns,h=>by
  simp only[bools,_M]at h;obtain⟨ms,h1,rfl⟩:=h;rw[z0x h1];rfl
theorem z0W(ns:List Bool):bools (ns.map D.bl)=some ns:=by induction ns with
 | nil=>rfl | cons n ns ih=>simp[bools,ih]
theorem uj{mg:Gm}{H:Hp}{Y:List Addr}:∀{ns:List Int}{vs:List V},zC mg H Y (ns.map D.int) vs->vs=ns.map V.int
 | [],vs,h=>by simpa[zC] using h | n::ns,vs,h=>by
  simp only[_U,zC]at h;obtain⟨v,r,rfl,h1,h2⟩:=h;cases yp h1;rw[uj h2];rfl
theorem z0t{mg:Gm}{H:Hp}{Y:List Addr}:∀{ns:List Bool}{vs:List V},zC mg H Y (ns.map D.bl) vs->vs=ns.map V.bl
 | [],vs,h=>by simpa[zC] using h | n::ns,vs,h=>by
  simp only[_U,zC]at h;obtain⟨v,r,rfl,h1,h2⟩:=h;cases jU h1;rw[z0t h2];rfl
noncomputable def vN:List D->Sto->R D
 | [d],s=>match (yj s d).bind intsOf with | some (n::ns)=>.ok (.int (maxL (n::ns))) s | _=>.no
 | _,_=>.no
noncomputable def jL:List D->Sto->R D
 | [d],s=>match (yj s d).bind intsOf with | some (n::ns)=>.ok (.int (minL (n::ns))) s | _=>.no
 | _,_=>.no
noncomputable def zbZ:List D->Sto->R D
 | [d],s=>match (yj s d).bind bools with | some ns=>.ok (.bl (ns.all id)) s | none=>.no
 | _,_=>.no
theorem z60{K:W.Frag}{H:Hp}{a:Addr}{vs:List V}(h:SqL K H a vs\/SqT K H a vs):∃b,Sq b K H a vs:=h.elim (λh=>⟨true,h⟩) λh=>⟨false,h⟩
theorem z3U(hc:X.calm=true):∃r,xH X (.builtin "max") r/\kL X E r vN:=⟨_,z8M hc,λH Y s ds vs Q r hd h=>by
 unfold vN at h;split at h
 ·rename_i d;split at h
  ·rename_i n ns e;obtain⟨xs,e1,e2⟩:=_bi.mp e;have:=ui e2;subst this;obtain⟨v,rfl,dn⟩:=z1V hd;obtain⟨a,ws,rfl,q1,q2⟩:=uR (K:=X.K) r e1 dn;cases uj q2;obtain⟨b,q⟩:=z60 q1;exact⟨b,a,n::ns,rfl,q,by simp,h.here r yT⟩
  ·exact h.elim
 ·exact h.elim⟩
theorem z3N(hc:X.calm=true):∃r,xH X (.builtin "min") r/\kL X E r jL:=⟨_,z7u hc,λH Y s ds vs Q r hd h=>by
 unfold jL at h;split at h
 ·rename_i d;split at h
  ·rename_i n ns e;obtain⟨xs,e1,e2⟩:=_bi.mp e;have:=ui e2;subst this;obtain⟨v,rfl,dn⟩:=z1V hd;obtain⟨a,ws,rfl,q1,q2⟩:=uR (K:=X.K) r e1 dn;cases uj q2;obtain⟨b,q⟩:=z60 q1;exact⟨b,a,n::ns,rfl,q,by simp,h.here r yT⟩
  ·exact h.elim
 ·exact h.elim⟩
theorem zg0(hc:X.calm=true):∃r,xH X (.builtin "all") r/\kL X E r zbZ:=⟨_,z84 hc,λH Y s ds vs Q r hd h=>by
 unfold zbZ at h;split at h
 ·rename_i d;split at h
  ·rename_i ns e;obtain⟨xs,e1,e2⟩:=_bi.mp e;have:=z0x e2;subst this;obtain⟨v,rfl,dn⟩:=z1V hd;obtain⟨a,ws,rfl,q1,q2⟩:=uR (K:=X.K) r e1 dn;cases z0t q2;obtain⟨b,q⟩:=z60 q1;exact⟨b,a,ns,rfl,q,h.here r vz⟩
  ·exact h.elim
 ·exact h.elim⟩
noncomputable def z4T:List D->List D->List D
 | x::xs,y::ys=>.tup [x,y]::z4T xs ys | _,_=>[]
theorem z1z:∀(xs ys:List D),(z4T xs ys).length=min xs.length ys.length
 | [],ys=>by simp[z4T] | x::xs,[]=>by simp[z4T] | x::xs,y::ys=>by simp only[z4T,_c,z1z xs ys];omega
theorem z7j:∀{xs ys:List D}{i:Nat}{d:D},(z4T xs ys)[i]? = some d->∃x y,xs[i]? = some x/\ys[i]? = some y/\d=.tup [x,y]
 | [],ys,i,d,h=>by simp[z4T]at h | x::xs,[],i,d,h=>by simp[z4T]at h | x::xs,y::ys,0,d,h=>by simp[z4T]at h;exact⟨x,y,by simp,by simp,h.symm⟩ | x::xs,y::ys,i+1,d,h=>by
  simp only[z4T,_J]at h;obtain⟨a,b,h1,h2,h3⟩:=z7j h;exact⟨a,b,by simpa using h1,by simpa using h2,h3⟩
noncomputable def zco(s:Sto):D->Option (List D×List (Nat×List D))
 | .tup xs=>some (xs,[]) | .lst xs=>some (xs,[]) | .loc l=>(s[l]?).map λxs=>(xs,[(l,xs)]) | _=>none
theorem z83{mg:Gm}{H:Hp}{Y:List Addr}{s:Sto}{d:D}{xs:List D}{g:List (Nat×List D)}{v:V}(r:Rep mg H Y s)(h:zco s d=some (xs,g))(dn:Den mg H Y d v):okG g [] s/\∃(b:Bool)(a:Addr),v=.ref a/\ ∀H2 Y2 s2,yJ mg H Y H2 Y2 s2->okG g [] s2->∃ws,Sq b mg.K H2 a ws/\zC mg H2 Y2 xs ws:=by cases d with
 | tup ys=>
  cases h;obtain⟨a,vs,rfl,q1,q2⟩:=jr (K:=mg.K) dn;refine⟨(by intro p hp;simp at hp),false,a,rfl,λH2 Y2 s2 stp _=>?_⟩;obtain⟨a',ws,e,q3,q4⟩:=jr (K:=mg.K) (dn.mono stp);cases e;exact⟨ws,q3,q4⟩ | lst ys=>
  cases h;obtain⟨a,vs,rfl,q1,q2⟩:=zI (d:=.lst xs) r rfl dn;refine⟨(by intro p hp;simp at hp),true,a,rfl,λH2 Y2 s2 stp _=>?_⟩;obtain⟨a',ws,e,q3,q4⟩:=zI (d:=.lst xs) stp.rep rfl (dn.mono stp);cases e;exact⟨ws,.inl q3,q4⟩ | loc l=>
  simp only[zco,_M]at h;obtain⟨ys,ey,e2⟩:=h;cases e2;obtain⟨a,vs,rfl,q1,q2⟩:=zI (d:=.loc l) r ey dn;have og:okG [(l,xs)] [] s:=λp hp=>by
   have:p=(l,xs):=by simpa using hp
   subst this;exact ey
  refine⟨og,true,a,rfl,λH2 Y2 s2 stp hg=>?_⟩;obtain⟨a',ws,e,q3,q4⟩:=zI (d:=.loc l) stp.rep (hg (l,xs) (by simp)) (dn.mono stp);cases e;exact⟨ws,.inl q3,q4⟩ | _=>cases h
noncomputable def zfi(f:FA):FI:=fun ρ s=>(f ρ s).bind λds s1=>match ds with
 | [x,y]=>match zco s1 x,zco s1 y with
  | some p,some q=>.ok (z4T p.1 q.1,p.2++q.2) s1 | _,_=>.no
 | _=>.no
theorem zfv{p tp:Pos}{elts:List Expr}{kt:Nat}{f:FA}(hg:Gl X "zip")(hm:X.mg "zip"=none)(ha:RA X E [a,b] f)(hs:starEach [a,b] X.env=(false,eval a X.env)::starEach [b] X.env:=by rfl)(hpl:(backTo pos (starEach [b] X.env)).any (·.1)=false:=by rfl): RI X E (.Tuple elts kt tp) (.Call (.Name "zip" p) [a,b] [] pos) (zfi f):= z5G (zeP hg hm ha hs hpl) λO H Q ⟨Y,ρ,s,r,en,h⟩=>by
  unfold zfi at h;refine⟨Y,ρ,s,r,en,(okR.bind (Dn:=zC (gm X)) h).imp λvs H1 ⟨Y1,s1,ds,stp,dn,h1⟩=>?_⟩;split at h1
  ·rename_i x y;split at h1
   ·rename_i p q ex ey;obtain⟨xs,gx⟩:=p;obtain⟨ys,gy⟩:=q;obtain⟨v,v',rfl,d1,d2⟩:=z4W dn;obtain⟨og1,b1,a1,rfl,k1⟩:=z83 stp.rep ex d1;obtain⟨og2,b2,a2,rfl,k2⟩:=z83 stp.rep ey d2;obtain⟨w1,q1,_⟩:=k1 H1 Y1 s1 (.refl stp.rep) og1;obtain⟨w2,q2,_⟩:=k2 H1 Y1 s1 (.refl stp.rep) og2;refine⟨a1,a2,b1,b2,rfl,⟨w1,q1⟩,⟨w2,q2⟩,h1.here stp.rep λH2 Y2 s2 stp2 og i=>?_⟩;have h3:okG gx [] s2:=λp hp=>og p (_ai _ hp);have h4:okG gy [] s2:=λp hp=>og p (_s _ hp);refine⟨λd hd=>?_,λhl=>?_⟩
    ·obtain⟨x,y,e1,e2,rfl⟩:=z7j hd;obtain⟨w1,q1,n1⟩:=k1 H2 Y2 s2 stp2 h3;obtain⟨w2,q2,n2⟩:=k2 H2 Y2 s2 stp2 h4;obtain⟨u1,g1,m1⟩:=n1.get e1;obtain⟨u2,g2,m2⟩:=n2.get e2;refine⟨⟨w1,w2,u1,u2,q1,q2,g1,g2⟩,λz H' ⟨T,p,q,hT,ez,eH,hp,hq⟩=>?_⟩;subst ez eH;have e3:=hp w1 q1;have e4:=hq w2 q2;rw[g1]at e3;rw[g2]at e4;cases e3;cases e4;have st3:=yJ.lay (o:=.tup [u1,u2]) stp2.rep hT (by intro _ z;cases z);refine⟨Y2,st3,?_⟩;simp only[Den];exact⟨T,[u1,u2],rfl,zH,(zC.cons m1 (zC.one m2)).mono st3⟩
    ·obtain⟨w1,q1,n1⟩:=k1 H2 Y2 s2 stp2 h3;obtain⟨w2,q2,n2⟩:=k2 H2 Y2 s2 stp2 h4;refine⟨w1,w2,q1,q2,?_⟩;rw[n1.length,n2.length];simp only[z1z]at hl;omega
   ·exact h1.elim
  ·exact h1.elim
end
noncomputable def yb(mp:List (Option Nat))(ρ:Ev):Ev:=mp.map λo=>match o with | some j=>(ρ[j]?).getD none | none=>none
theorem vK.inner{mg:Gm}{H:Hp}{Y:List Addr}{ρ:Ev}{O:L2.St}{mp:List (Option Nat)}(en:vK mg H Y ρ O):vK mg H Y (yb mp ρ) (inner mp O):=by
 refine⟨by simp[yb,L2.inner],λi d h=>?_⟩;simp only[yb,_ag,_M]at h;obtain⟨o,h1,h2⟩:=h;cases o with
 | none=>cases h2 | some j=>
  simp only at h2;have h3:ρ[j]? = some (some d):=by cases e:ρ[j]? with
   | none=>rw[e]at h2;cases h2 | some x=>rw[e]at h2;simp at h2;rw[h2]
  obtain⟨v,h4,h5⟩:=en.at_ j d h3;exact⟨v,by simp[L2.inner,h1,h4],h5⟩
open Classical in
noncomputable def wq(g:List (Nat×List D))(all:List D)(body:D->Sto->R (Option D)):List D->List D->Sto->R (List D)
 | [],acc,s=>if okG g all s then .ok acc s else .no | x::xs,acc,s=>if okG g all s then (body x s).bind λo s1=>match o with
   | some d=>if acc.length<cap then wq g all body xs (acc++[d]) s1 else .no | none=>wq g all body xs acc s1 else .no
def z3E(fi:FI)(mp:List (Option Nat))(fg:FG)(ft:FT)(fe:FE):FA:=fun ρ s=>(fi ρ s).bind λit s1=>wq it.2 it.1 (λd s=>(fg d (yb mp ρ) s).bind fun ρ' s'=>(ft ρ' s').bind λb s2=>if b=true then (fe ρ' s2).bind λd s3=>.ok (some d) s3 else .ok none s2) it.1 [] s1
def z32(mg:Gm)(E:XK)(mp:List (Option Nat))(g:TG)(fg:FG):Prop:=∀(O:L2.St) H Y ρ s x d (Q:L2.St->Hp->Prop),Rep mg H Y s->vK mg H Y (yb mp ρ) (inner mp O)->Den mg H Y d x->okR mg E H Y (vK mg) (fg d (yb mp ρ) s) Q-> g x (inner mp O) H (λO2 H2=>(O2.length=(inner mp O).length/\∀(i:Nat) v,(inner mp O)[i]? = some (some v)->O2[i]? = some (some v))/\Q O2 H2)
theorem z1m{mp:List (Option Nat)}{i:Nat}(h:mp[i]? = some none)(O:L2.St):(inner mp O)[i]? = some none:=by simp[L2.inner,h]
theorem z2H{O:L2.St}{i:Nat}{v:V}(h:O[i]? = some none):(O.set i (some v)).length=O.length/\∀(j:Nat) u,O[j]? = some (some u)->(O.set i (some v))[j]? = some (some u):=by
 refine⟨by simp,λj u e=>?_⟩;have:i≠j:=λz=>by subst z;rw[h]at e;cases e
 rw[_F this];exact e
section
variable {X:Cx}{E:XK}{e a b c tg iter elt:Expr}{es:List Expr}{pos:Pos}{CX:CXT}{mp:List (Option Nat)}
theorem yz(i:Nat)(h:mp[i]? = some none):z32 (gm X) E mp (z0g i) (xM i):=λO H Y ρ s x d Q r en dn ok=>by
 refine⟨z2H (z1m h O),?_⟩;exact okR.here (b:=(inner mp O).set i (some x)) ok r (en.set dn i)
theorem z3t{fi:FI}{g:TG}{fg:FG}{ft:FT}{fe:FE}{O:L2.St}{H:Hp}{Q:VK}{Y:List Addr}{ρ:Ev}{s:Sto}{β:Type}{kR:List D->Sto->R β}{β2:Type}{Dn:Hp->List Addr->β->β2->Prop}{Q2:β2->Hp->Prop}(hg:z32 (gm X) E mp g fg)(r:Rep (gm X) H Y s)(en:vK (gm X) H Y ρ O) (h:okR (gm X) E H Y Dn ((z3E fi mp fg ft fe ρ s).bind kR) Q2) (fin:∀H1 Y1 s1 xs vs,Rep (gm X) H1 Y1 s1->vK (gm X) H1 Y1 ρ O->zC (gm X) H1 Y1 xs vs->okR (gm X) E H1 Y1 Dn (kR xs s1) Q2->xs.length<=cap->∀p,H1 p=none->Q (.ref p) (upd H1 p (.lst vs))): zav (tI (gm X) E fi) mp g (tT (gm X) E ft) (tE (gm X) E fe) O H Q:=by
 unfold z3E at h;have assoc:∀{α γ δ:Type}(x:R α)(f:α->Sto->R γ)(k:γ->Sto->R δ),(x.bind f).bind k=x.bind λa s=>(f a s).bind k:=λx f k=>by cases x<;>rfl
 rw[assoc]at h;refine⟨Y,ρ,s,r,en,(okR.bind (Dn:=za6 (gm X)) h).imp λJ H1 ⟨Y1,s1,it,stp,ok,h1⟩=>?_⟩;obtain⟨items,gd⟩:=it;simp only at h1;refine⟨λi m ys H=>∃Y s acc,yJ (gm X) H1 Y1 H Y s/\zC (gm X) H Y acc ys/\acc.length<=cap/\m=items.length-i/\i<=items.length/\ okR (gm X) E H Y Dn ((wq gd items (λd s=>(fg d (yb mp ρ) s).bind fun ρ' s'=>(ft ρ' s').bind λb s2=>if b=true then (fe ρ' s2).bind λd s3=>.ok (some d) s3 else .ok none s2) (items.drop i) acc s).bind kR) Q2, ⟨items.length,Y1,s1,[],.refl stp.rep,zC.nil,_aA _,by simp,_aA _,by simpa using h1⟩,?_⟩;rintro i m ys H2 ⟨Y2,s2,acc,stp2,dn2,hcap,rfl,hil,h2⟩;have en2:vK (gm X) H2 Y2 ρ O:=(en.mono stp).mono stp2;by_cases hlt:i<items.length
 ·right;rw[_aI hlt,wq]at h2;split at h2
  ·rename_i hG;obtain⟨go,yl⟩:=((ok H2 Y2 s2 stp2 hG i).1 items[i] (_q hlt));refine⟨go,λx H' y=>?_⟩;obtain⟨Y3,stp3,dn3⟩:=yl x H' y;have h3:=okR.rebase h2 stp3;rw[assoc,assoc]at h3;have h4:=okR.bind (Dn:=vK (gm X)) h3;refine hg O H' Y3 ρ s2 x items[i] _ stp3.rep ((en2.mono stp3).inner) dn3 (h4.imp λO4 H4 ⟨Y4,s4,ρ4,stp4,en4,h5⟩=>?_);rw[assoc]at h5;refine⟨Y4,ρ4,s4,stp4.rep,en4,(okR.bind (Dn:=bD) h5).imp λbb H5 ⟨Y5,s5,b',stp5,eb,h6⟩=>?_⟩;cases (show b'=bb from eb);have all5:yJ (gm X) H1 Y1 H5 Y5 s5:=((stp2.trans stp3).trans stp4).trans stp5;cases bb with
   | true=>
    rw[_g rfl]at h6 ⊢;rw[assoc]at h6;refine⟨Y5,ρ4,s5,stp5.rep,en4.mono stp5,(okR.bind (Dn:=Den (gm X)) h6).imp λy H6 ⟨Y6,s6,d6,stp6,dn6,h7⟩=>?_⟩;simp only[Rb]at h7;split at h7
    ·rename_i hc;have all6:=all5.trans stp6;have dny:zC (gm X) H6 Y6 acc ys:=(((dn2.mono stp3).mono stp4).mono stp5).mono stp6;refine⟨by rw[dn2.length];exact ut hcap,items.length-(i+1),by omega,Y6,s6,acc++[d6],all6,dny.append (zC.one dn6),by simp;omega,rfl,hlt,h7⟩
    ·exact h7.elim | false=>
    rw[_l (by decide)]at h6 ⊢;simp only[Rb]at h6;exact⟨items.length-(i+1),by omega,Y5,s5,acc,all5,((dn2.mono stp3).mono stp4).mono stp5,hcap,rfl,hlt,h6⟩
  ·exact h2.elim
 ·left;have e:i=items.length:=by omega
  subst e;rw[_ce,wq]at h2;split at h2
  ·rename_i hG;simp only[Rb]at h2;exact⟨(ok H2 Y2 s2 stp2 hG _).2 (_d _),by rw[dn2.length];exact ut hcap,fin H2 Y2 s2 acc ys stp2.rep en2 dn2 h2 hcap⟩
  ·exact h2.elim
def zV(fi:FI)(mp:List (Option Nat))(fg:FG)(ft:FT)(fe:FE):FE:=fun ρ s=>(z3E fi mp fg ft fe ρ s).bind λxs s1=>.ok (.lst xs) s1
def z2j(fi:FI)(mp:List (Option Nat))(fg:FG)(ft:FT)(fe:FE):FE:=fun ρ s=>(z3E fi mp fg ft fe ρ s).bind λxs s1=>if D.flat.flats xs=true then .ok (.loc s1.length) (s1++[xs]) else .no
noncomputable def xT:FT:=λ_ s=>.ok true s
theorem xW{Yy:Cx}:z5I Yy [] (tT (gm Yy) E xT):=λpins s O H Q I ⟨Y,ρ,st,r,en,h⟩=>zak pins s O H Q I (h.here (b:=true) r rfl)
theorem z2J{Yy:Cx}{f:FT}(h:RT Yy E c f):z5I Yy [c] (tT (gm Yy) E f):=zaw h
section
variable {scope:Scope}{ifs:List Expr}{fi:FI}{fg:FG}{ft:FT}{fe:FE}{g:TG}{spos py:Pos}
theorem zdi(N':List Str)(mp:List (Option Nat))(hc:X.calm=true)(hi:RI X E tg iter fi)(hg:∀ex s H,PG (zq X N' scope ex s H) tg g)(hgt:z32 (gm X) E mp g fg)(ht:∀ex s H,z5I (zq X N' scope ex s H) ifs (tT (gm X) E ft))(he:∀ex s H,RE (zq X N' scope ex s H) E elt fe) (hkd:scope.kind=.function)(hnm:∀y∈scope.names,scope.names.lookup y.1=some y.2) (hfr:∀y∈scope.names,y.2=.free->X.env.kindOf y.1=some .cell\/X.env.kindOf y.1=some .free)(hmp:z0I X.N scope.names N' mp=true) (hs:∀x,foldedSetIterable iter X.env x=pure x:=by intro _;rfl):RE X E (.ListComp elt [⟨tg,iter,ifs,0⟩] scope pos) (zV fi mp fg ft fe):= zX (zc9 (te:=tE (gm X) E fe) N' mp hc hi hg ht (λex s H=>he ex s H) hkd hnm hfr hmp hs).freeze λO H Q ⟨Y,ρ,s,r,en,h⟩=> z3t hgt r en h λH1 Y1 s1 xs vs r1 en1 dn h1 hcap=>jg r1 h1 dn
theorem z6w {i:Nat} {y:Str} (N':List Str) (mp:List (Option Nat)) (hN:X.N.Nodup) (hc:X.calm=true) (hi:RI X E tg iter fi) (hg:∀ex s H,PG (zq X N' scope ex s H) tg g) (hgt:z32 (gm X) E mp g fg) (ht:∀ex s H,z5I (zq X N' scope ex s H) ifs (tT (gm X) E ft)) (he:∀ex s H,RE (zq X N' scope ex s H) E elt fe) (hkd:scope.kind=.function) (hnm:∀y∈scope.names,scope.names.lookup y.1=some y.2) (hfr:∀y∈scope.names,y.2=.free->X.env.kindOf y.1=some .cell\/X.env.kindOf y.1=some .free) (hmp:z0I X.N scope.names N' mp=true) (hy:X.N[i]? = some y:=by rfl) (hyl:Loc X.env.scope y:=by first | exact Or.inl rfl | exact Or.inr rfl) (hs:∀x,foldedSetIterable iter X.env x=pure x:=by intro _;rfl) (hsw:swapsWith (.ListComp elt [⟨tg,iter,ifs,0⟩] scope pos) (some (.Name y py)) spos.line X.env=pure true:=by rfl) (hf:X.fn y=true\/X.env.scope.names.lookup y=some .local:=by first | exact .inl rfl | exact .inr rfl | assumption): RS X E (.Assign [.Name y py] (.ListComp elt [⟨tg,iter,ifs,0⟩] scope pos) spos) (wJ i (zV fi mp fg ft fe)):= um (z58 (te:=tE (gm X) E fe) N' mp hN hy hyl hc hi hg ht (λex s H=>he ex s H) hkd hnm hfr hmp hs hsw hf) λD O H ⟨Y,ρ,s,r,en,h⟩=>by
  have assoc:∀{α γ δ:Type} (x:R α) (f:α->Sto->R γ) (k:γ->Sto->R δ),(x.bind f).bind k=x.bind λa s=>(f a s).bind k:=λx f k=>by cases x<;>rfl
  unfold wJ zV at h;rw[assoc]at h;refine z3t hgt r en h λH1 Y1 s1 xs vs r1 en1 dn h1 hcap p hp=>?_;refine jg (E:=E) (mg:=gm X) (xs:=xs) r1 (λv H2 Y2 stp dn2=>?_) dn p hp;exact h1 (.nx (O.set i (some v))) H2 Y2 stp ((en1.mono stp).set dn2 i)
theorem z6Y{i:Nat}{y:Str}(N':List Str)(mp:List (Option Nat))(hN:X.N.Nodup)(hc:X.calm=true)(hi:RI X E tg iter fi)(hg:∀ex s H,PG (zq X N' scope ex s H) tg g)(hgt:z32 (gm X) E mp g fg)(ht:∀ex s H,z5I (zq X N' scope ex s H) ifs (tT (gm X) E ft))(he:∀ex s H,RE (zq X N' scope ex s H) E elt fe) (hkd:scope.kind=.function)(hnm:∀y∈scope.names,scope.names.lookup y.1=some y.2) (hfr:∀y∈scope.names,y.2=.free->X.env.kindOf y.1=some .cell\/X.env.kindOf y.1=some .free)(hmp:z0I X.N scope.names N' mp=true)(hy:X.N[i]? = some y:=by rfl)(hyl:Loc X.env.scope y:=by first | exact Or.inl rfl | exact Or.inr rfl) (hs:∀x,foldedSetIterable iter X.env x=pure x:=by intro _;rfl) (hsw:swapsWith (.ListComp elt [⟨tg,iter,ifs,0⟩] scope pos) (some (.Name y py)) spos.line X.env=pure true:=by rfl) (hf:X.fn y=true\/X.env.scope.names.lookup y=some .local:=by first | exact .inl rfl | exact .inr rfl | assumption): RS X E (.Assign [.Name y py] (.ListComp elt [⟨tg,iter,ifs,0⟩] scope pos) spos) (wJ i (z2j fi mp fg ft fe)):= um (z6V (te:=tE (gm X) E fe) N' mp hN hy hyl hc hi hg ht (λex s H=>he ex s H) hkd hnm hfr hmp hs hsw hf) λD O H ⟨Y,ρ,s,r,en,h⟩=>by
  have assoc:∀{α γ δ:Type}(x:R α)(f:α->Sto->R γ)(k:γ->Sto->R δ),(x.bind f).bind k=x.bind λa s=>(f a s).bind k:=λx f k=>by cases x<;>rfl
  unfold wJ z2j at h;rw[assoc]at h;refine z3t hgt r en h λH1 Y1 s1 xs vs r1 en1 dn h1 hcap p hp=>?_;split at h1
  ·rename_i hf;have stp:=yJ.layL (p:=p) r1 hp dn hf;refine h1 (.nx (O.set i (some (.ref p)))) _ _ stp ((en1.mono stp).set ?_ i);simp only[Den];exact⟨p,rfl,by rw[<- r1.len];simp,vs,zH⟩
  ·exact h1.elim
end
end
section
variable {X:Cx}{E:XK}{e a b c tg iter elt:Expr}{es:List Expr}{pos:Pos}{CX:CXT}{mp:List (Option Nat)}
def zbi(K:W.Frag)(i j:Nat):TG:=zh2 K 2 (zcg (z0g i) (zcg (z0g j) zgM))
theorem z9V(i j:Nat){x y:Str}{px py:Pos}{kt:Nat}(hc:X.calm=true)(hN:X.N.Nodup)(hi:X.N[i]? = some x:=by rfl)(hj:X.N[j]? = some y:=by rfl)(hx:Loc X.env.scope x:=by first | exact Or.inl rfl | exact Or.inr rfl)(hy:Loc X.env.scope y:=by first | exact Or.inl rfl | exact Or.inr rfl) (hf:X.fn x=true\/X.env.scope.names.lookup x=some .local:=by first | exact .inl rfl | exact .inr rfl | assumption)(hf':X.fn y=true\/X.env.scope.names.lookup y=some .local:=by first | exact .inl rfl | exact .inr rfl | assumption): PG X (.Tuple [.Name x px,.Name y py] kt pos) (zbi X.K i j):=zbb hc (z0G (yf hN hi hx hf) (z0G (yf hN hj hy hf') z8v))
theorem z91(i j:Nat)(hij:i≠j)(h:mp[i]? = some none)(h':mp[j]? = some none):z32 (gm X) E mp (zbi X.K i j) (z5q i j):=λO H Y ρ s x d Q r en dn ok=>by
 unfold z5q at ok;split at ok
 ·rename_i d1 d2;obtain⟨p,vs,rfl,q1,q2⟩:=jr (K:=X.K) dn;obtain⟨v1,v2,rfl,e1,e2⟩:=z4W q2;have k1:=z2H (v:=v1) (z1m h O);have own2:((inner mp O).set i (some v1))[j]? = some none:=by rw[_F hij];exact z1m h' O
  have k2:=z2H (v:=v2) own2;exact⟨p,[v1,v2],rfl,q1,rfl,v1,[v2],rfl,v2,[],rfl,rfl,⟨k2.1.trans k1.1,λl u e=>k2.2 l u (k1.2 l u e)⟩,okR.here ok r ((en.set e1 i).set e2 j)⟩
 ·exact ok.elim
end
noncomputable def zt(N:List Str)(ds:List D):Ev:=ds.map some++List.replicate (N.length-ds.length) none
theorem qY{mg:Gm}{H:Hp}{Y:List Addr}{N:List Str}:∀{ds:List D}{vs:List V},zC mg H Y ds vs->vK mg H Y (zt N ds) (L2.start N vs):=λ{ds vs} h=>by
 have hl:=h.length;refine⟨by simp[zt,L2.start,hl],λi d e=>?_⟩;unfold zt at e;have hi:i<ds.length:=by
  by_cases hi:i<ds.length;·exact hi
  ·rw[_G (by simpa using hi),_be]at e;split at e<;>cases e
 rw[_A (by simpa using hi),_ag]at e;have e':ds[i]? = some d:=by cases q:ds[i]? with
  | none=>rw[q]at e;cases e | some x=>rw[q]at e;simp at e;rw[e]
 obtain⟨v,h1,h2⟩:=h.get e';refine⟨v,?_,h2⟩;unfold L2.start;rw[_A (by simpa[hl] using hi),_ag,h1];rfl
noncomputable def Mof(N:List Str)(n:Nat)(fs:FS):Mir:=λds s=>if ds.length=n then (match fs (zt N ds) s with
 | .ok (.rt d) s'=>.ok d s' | .ok (.nx _) s'=>.ok .non s' | _=>.no) else .no
section
variable {P:Program}{w:World}{K:W.Frag}{mg:Str->Option Value}{base:Heap}
theorem Has.mono{CX:CXT}{x:Str}{n m:Nat}{M:Mir}(h:Has P w K mg base CX x n M)(hl:n<=m):Has P w K mg base CX x m M:=by
 obtain⟨f,fd,ps,F,r⟩:=h;exact⟨f,fd,ps,F.mono hl,r⟩
theorem wt{x qual:Str}{st:Stmt}{f:Addr}{fd:FuncData}{N ps:List Str}{k n:Nat}{fs:FS}(F:Fun K x qual st f fd)(hm:mg x=some (.ref f))(hb:Binds K fd ps [])(S:zG N ps (zi st))(hn:ps.length=n) (body:∀(cdv:Value)(A:Around)(outer:List Env)(s:Shared)(H:Hp)(E:XK),z0m k (A.deeper (envOfC qual (zi st) s.heap.objs.size f cdv))->(z1h CX0 P w K mg base N qual (zi st) f cdv A outer s H E).nox.calm=true-> RSs (z1h CX0 P w K mg base N qual (zi st) f cdv A outer s H E).nox E0 (wQ st) fs):Has P w K mg base CX0 x (k+1) (Mof N n fs):=by
 subst hn;refine⟨f,fd,ps,F.ok S (λvs H Q E h=>?_) (λcdv A outer s H vs Q E hr h=>?_),hb,F.kp,hm⟩
 ·obtain⟨Y,s,ds,_,dn,h⟩:=h;unfold Mof at h;split at h;·rename_i e;rw[dn.length];exact e
  ·exact h.elim
 ·obtain⟨Y,st0,ds,r,dn,h⟩:=h;refine⟨_,body cdv A outer s H E hr (by show A.handled.isNone=true;rw[show A.handled=none from hr.hd];rfl),Y,zt N ds,st0,r,qY dn,?_⟩;unfold Mof at h;split at h
  ·split at h
   ·rename_i d s' e;rw[e];intro fv H' Y' stp fd;cases fv with
    | rt v=>exact h v H' Y' stp fd | _=>exact (show False from fd).elim
   ·rename_i ρ s' e;rw[e];intro fv H' Y' stp fd;cases fv with
    | nx v=>exact h .non H' Y' stp (by simp[Den]) | _=>exact (show False from fd).elim
   ·exact h.elim
  ·exact h.elim
end
def zcm(K:W.Frag):Sp:=λvs H Q _=>∃(a:Addr)(ns:List Int),vs=[.ref a]/\zgm H/\SqL K H a (ns.map V.int)/\ns.length<=63/\∀H',Q (.bl true) H'
theorem qK{mg:Gm}{H:Hp}{Y:List Addr}:∀(ns:List Int),zC mg H Y (ns.map D.int) (ns.map V.int)
 | []=>zC.nil | n::ns=>zC.cons yT (qK ns)
theorem zeR{P:Program}{w:World}{K:W.Frag}{mg:Str->Option Value}{base:Heap}{x:Str}{n:Nat}{M:Mir}{f:Addr}{fd:FuncData}{ps:List Str}(F:z3C P w K mg base CX0 n f fd ps (zaK ⟨mg,K⟩ M)) (h:∀ns:List Int,ns.length<=63->∃s',M [.scr (ns.map D.int)] []=.ok (.bl true) s'):z3C P w K mg base CX0 n f fd ps (zcm K):= F.imp λvs H Q E ⟨a,ns,e,ho,hq,hl,q⟩=>by
  subst e;obtain⟨s',hs⟩:=h ns hl;refine⟨[],[],[.scr (ns.map D.int)],⟨rfl,List.nodup_nil,λl xs z=>by simp at z,λxs z=>by simp at z,λb h z=>by simp at z,λa ha=>by simp at ha⟩,zC.one ?_,?_⟩
  ·simp only[Den];refine⟨a,ns.map V.int,rfl,?_,qK ns⟩;rcases hq with (z | z) | z
   ·rcases ho a with y | ⟨o,xs,y⟩;·rw[y]at z;cases z
    ·rw[y]at z;cases z
   ·exact .inl z
   ·exact .inr z
  ·rw[hs];intro v H' Y' stp dn;cases jU dn;exact q H'
section
variable {X:Cx}{E:XK}{e a b c tg iter elt:Expr}{es:List Expr}{pos:Pos}{CX:CXT}
noncomputable def z4V(f:FE):FE:=fun ρ s=>(f ρ s).bind λd s1=>match d with | .int i=>.ok (.int (-i)) s1 | _=>.no
theorem z6A{f:FE}(h:RE X E a f):RE X E (.UnaryOp .USub a pos) (z4V f):= zX (zgn zdR h) λO H Q ⟨Y,ρ,s,r,en,h⟩=>by
  refine yc (k:=fun ρ d s1=>match d with | .int i=>R.ok (D.int (-i)) s1 | _=>.no) r en h _ λv H1 Y1 s1 d r1 en1 dn stp h1=>?_;cases d with
  | int i=>
   cases yp dn;exact⟨i,rfl,okR.here (b:=V.int (-i)) h1 r1 yT⟩ | _=>exact h1.elim
theorem zch{op op':CmpOp}{fo fo':D->D->Sto->R D}{fa fb fc:FE}(ho:∃r,OpR X (compareOp op) r/\OpF X E r fo)(ho':∃r,OpR X (compareOp op') r/\OpF X E r fo')(ha:RE X E a fa)(hb:RE X E b fb)(hc:RE X E c fc) (hm:lastMarks [op,op'] [b,c]=false:=by with_unfolding_all rfl):RT X E (.Compare a [op,op'] [b,c] pos) (tOf (z1R fo fo' fa fb fc)):=by
 obtain⟨r,h1,h2⟩:=ho;obtain⟨r',h1',h2'⟩:=ho';exact z4C (za4 h1 h1' ha hb hc hm) λO H Q h=>by
  have q:=z2E h;exact z4a h2 h2' q
noncomputable def kF(i:Int)(n:Nat):List D:=(List.range n).map λ(k:Nat)=>D.int (i+((k:Nat):Int))
noncomputable def z5c(f:FA):FI:=fun ρ s=>(f ρ s).bind λds s1=>match ds with
 | [.int i,.int j]=>if -(2 ^ 62)<=i/\i<2 ^ 62/\-(2 ^ 62)<=j/\j<2 ^ 62 then .ok (kF i (j-i).toNat,[]) s1 else .no | _=>.no
theorem z66{p:Pos}{f:FA}(hg:Gl X "range")(hm:X.mg "range"=none)(ha:RA X E [a,b] f)(hs:starEach [a,b] X.env=[(false,eval a X.env),(false,eval b X.env)]:=by rfl)(hs2:starEach [b] X.env=[(false,eval b X.env)]:=by rfl):RI X E tg (.Call (.Name "range" p) [a,b] [] pos) (z5c f):= z5G (z7Q hg hm ha hs hs2) λO H Q ⟨Y,ρ,s,r,en,h⟩=>by
  unfold z5c at h;refine⟨Y,ρ,s,r,en,(okR.bind (Dn:=zC (gm X)) h).imp λvs H1 ⟨Y1,s1,ds,stp,dn,h1⟩=>?_⟩;split at h1
  ·rename_i i j;split at h1
   ·rename_i hj;obtain⟨v,v',rfl,d1,d2⟩:=z4W dn;cases yp d1;cases yp d2;refine⟨i,j,rfl,hj,h1.here stp.rep λH2 Y2 s2 stp2 _ k=>⟨λd hd=>?_,λhl=>?_⟩⟩
    ·have hi:k<(j-i).toNat:=by
      have:=(_b.mp hd).1;simpa[kF] using this
     refine⟨hi,λx H' ⟨e1,e2⟩=>?_⟩;subst e1 e2;refine⟨Y2,.refl stp2.rep,?_⟩;have e3:d=D.int (i+k):=by
      simp only[kF,_ag,_cv hi,_bs,_E]at hd;exact hd.symm
     rw[e3];exact yT
    ·have:(kF i (j-i).toNat).length=(j-i).toNat:=by simp[kF]
     show (j-i).toNat<=k;rw[<- this];exact hl
   ·exact h1.elim
  ·exact h1.elim
end
noncomputable def isK(o:Option NameKind)(k:NameKind):Bool:=match o,k with
 | some .local,.local=>true | some .cell,.cell=>true | some .free,.free=>true | some .globalImplicit,.globalImplicit=>true | _,_=>false
theorem z86{o:Option NameKind}{k:NameKind}(h:isK o k=true):o=some k:=by cases o with
 | none=>cases k<;>simp[isK]at h | some j=>cases j<;>cases k<;>first | rfl | simp[isK]at h
noncomputable def isF(k:NameKind):Bool:=match k with | .free=>true | _=>false
theorem zdF{k:NameKind}(h:k=.free):isF k=true:=by subst h;rfl
noncomputable def z8A(ko:Str->Option NameKind)(names:List (Str×NameKind)):Bool:=names.all λy=>!isF y.2||(isK (ko y.1) .cell||isK (ko y.1) .free)
theorem z0v{ko:Str->Option NameKind}{names:List (Str×NameKind)}(h:z8A ko names=true):∀y∈names,y.2=.free->ko y.1=some .cell\/ko y.1=some .free:=λy hy hf=>by
 have:=_aK.mp h y hy;rw[zdF hf]at this;simp only[Bool.not_true,Bool.false_or,Bool.or_eq_true]at this;exact this.imp z86 z86
noncomputable def z7p(names:List (Str×NameKind)):Bool:=names.all λy=>isK (names.lookup y.1) y.2
theorem z0C{names:List (Str×NameKind)}(h:z7p names=true):∀y∈names,names.lookup y.1=some y.2:=λy hy=>by
 have:=_aK.mp h y hy;exact z86 this
section
variable {X:Cx}{E:XK}{e a b c tg iter elt:Expr}{es:List Expr}{pos:Pos}{CX:CXT}
variable {scope:Scope}{ifs:List Expr}{fi:FI}{fg:FG}{ft:FT}{fe:FE}{g:TG}{spos py:Pos}
theorem zfk{x:Str}{i:Int}(hg:Gl X x)(hm:∃t,X.mg x=some (.int i t))(hd:(x==("__debug__":Str))=false:=by decide):RE X E (.Name x pos) (eC (.int i)):=let ⟨_,h⟩:=hm;zel hg h hd
theorem xB(N':List Str)(mp:List (Option Nat))(hc:X.calm=true)(hi:RI X E tg iter fi)(hg:∀ex s H,PG (zq X N' scope ex s H) tg g)(hgt:z32 (gm X) E mp g fg)(ht:∀ex s H,z5I (zq X N' scope ex s H) ifs (tT (gm X) E ft))(he:∀ex s H,RE (zq X N' scope ex s H) E elt fe) (hkd:scope.kind=.function:=by rfl)(hnm:z7p scope.names=true:=by rfl)(hfr:z8A X.env.kindOf scope.names=true:=by rfl)(hmp:z0I X.N scope.names N' mp=true:=by rfl) (hs:∀x,foldedSetIterable iter X.env x=pure x:=by intro _;rfl):RE X E (.ListComp elt [⟨tg,iter,ifs,0⟩] scope pos) (zV fi mp fg ft fe):= zdi N' mp hc hi hg hgt ht he hkd (z0C hnm) (z0v hfr) hmp hs
theorem zbI(i:Nat){y:Str}(N':List Str)(mp:List (Option Nat))(hN:X.N.Nodup)(hc:X.calm=true)(hi:RI X E tg iter fi)(hg:∀ex s H,PG (zq X N' scope ex s H) tg g)(hgt:z32 (gm X) E mp g fg)(ht:∀ex s H,z5I (zq X N' scope ex s H) ifs (tT (gm X) E ft))(he:∀ex s H,RE (zq X N' scope ex s H) E elt fe) (hkd:scope.kind=.function:=by rfl)(hnm:z7p scope.names=true:=by rfl)(hfr:z8A X.env.kindOf scope.names=true:=by rfl)(hmp:z0I X.N scope.names N' mp=true:=by rfl)(hy:X.N[i]? = some y:=by rfl)(hyl:Loc X.env.scope y:=by first | exact Or.inl rfl | exact Or.inr rfl) (hs:∀x,foldedSetIterable iter X.env x=pure x:=by intro _;rfl) (hsw:swapsWith (.ListComp elt [⟨tg,iter,ifs,0⟩] scope pos) (some (.Name y py)) spos.line X.env=pure true:=by rfl) (hf:X.fn y=true\/X.env.scope.names.lookup y=some .local:=by first | exact .inl rfl | exact .inr rfl | assumption): RS X E (.Assign [.Name y py] (.ListComp elt [⟨tg,iter,ifs,0⟩] scope pos) spos) (wJ i (zV fi mp fg ft fe)):= z6w N' mp hN hc hi hg hgt ht he hkd (z0C hnm) (z0v hfr) hmp hy hyl hs hsw hf
theorem zcC(i:Nat){y:Str}(N':List Str)(mp:List (Option Nat))(hN:X.N.Nodup)(hc:X.calm=true)(hi:RI X E tg iter fi)(hg:∀ex s H,PG (zq X N' scope ex s H) tg g)(hgt:z32 (gm X) E mp g fg)(ht:∀ex s H,z5I (zq X N' scope ex s H) ifs (tT (gm X) E ft))(he:∀ex s H,RE (zq X N' scope ex s H) E elt fe) (hkd:scope.kind=.function:=by rfl)(hnm:z7p scope.names=true:=by rfl)(hfr:z8A X.env.kindOf scope.names=true:=by rfl)(hmp:z0I X.N scope.names N' mp=true:=by rfl)(hy:X.N[i]? = some y:=by rfl)(hyl:Loc X.env.scope y:=by first | exact Or.inl rfl | exact Or.inr rfl) (hs:∀x,foldedSetIterable iter X.env x=pure x:=by intro _;rfl) (hsw:swapsWith (.ListComp elt [⟨tg,iter,ifs,0⟩] scope pos) (some (.Name y py)) spos.line X.env=pure true:=by rfl) (hf:X.fn y=true\/X.env.scope.names.lookup y=some .local:=by first | exact .inl rfl | exact .inr rfl | assumption): RS X E (.Assign [.Name y py] (.ListComp elt [⟨tg,iter,ifs,0⟩] scope pos) spos) (wJ i (z2j fi mp fg ft fe)):= z6Y N' mp hN hc hi hg hgt ht he hkd (z0C hnm) (z0v hfr) hmp hy hyl hs hsw hf
end
theorem zdO{P:Program}{w:World}{K:W.Frag}{mg:Str->Option Value}{base:Heap}{x qual:Str}{st:Stmt}{f:Addr}{fd:FuncData}{N ps:List Str}{k n:Nat}{fs:FS}(F:Fun K x qual st f fd)(S:zG N ps (zi st))(hn:ps.length=n) (body:∀(cdv:Value)(A:Around)(outer:List Env)(s:Shared)(H:Hp)(E:XK),z0m k (A.deeper (envOfC qual (zi st) s.heap.objs.size f cdv))->(z1h CX0 P w K mg base N qual (zi st) f cdv A outer s H E).nox.calm=true-> RSs (z1h CX0 P w K mg base N qual (zi st) f cdv A outer s H E).nox E0 (wQ st) fs):z3C P w K mg base CX0 (k+1) f fd ps (zaK ⟨mg,K⟩ (Mof N n fs)):=by
 subst hn;refine F.ok S (λvs H Q E h=>?_) (λcdv A outer s H vs Q E hr h=>?_)
 ·obtain⟨Y,s,ds,_,dn,h⟩:=h;unfold Mof at h;split at h;·rename_i e;rw[dn.length];exact e
  ·exact h.elim
 ·obtain⟨Y,st0,ds,r,dn,h⟩:=h;refine⟨_,body cdv A outer s H E hr (by show A.handled.isNone=true;rw[show A.handled=none from hr.hd];rfl),Y,zt N ds,st0,r,qY dn,?_⟩;unfold Mof at h;split at h
  ·split at h
   ·rename_i d s' e;rw[e];intro fv H' Y' stp fd;cases fv with
    | rt v=>exact h v H' Y' stp fd | _=>exact (show False from fd).elim
   ·rename_i ρ s' e;rw[e];intro fv H' Y' stp fd;cases fv with
    | nx v=>exact h .non H' Y' stp (by simp[Den]) | _=>exact (show False from fd).elim
   ·exact h.elim
  ·exact h.elim
section
variable {all xs:List D}{ρ:Ev}{s:Sto}
theorem z39{body:D->Ev->Sto->R Fl}(I:Ev->Sto->Prop):∀(xs:List D),(∀x∈xs,∀ ρ s,I ρ s->∃ ρ' s',body x ρ s=.ok (.nx ρ') s'/\I ρ' s')->∀ ρ s,I ρ s->∃ ρ' s',vG [] all body xs ρ s=.ok (.nx ρ') s'/\I ρ' s'
 | [],_,ρ,s,h=>⟨ρ,s,by simp[vG,okG],h⟩ | x::xs,hb,ρ,s,h=>by
  obtain⟨ρ1,s1,e1,h1⟩:=hb x (by simp) ρ s h;obtain⟨ρ2,s2,e2,h2⟩:=z39 I xs (λy hy=>hb y (by simp[hy])) ρ1 s1 h1;exact⟨ρ2,s2,by simp[vG,okG,e1,e2],h2⟩
theorem z3R{body:D->Sto->R (Option D)}(f:D->D):∀(xs acc:List D),(∀x∈xs,body x s=.ok (some (f x)) s)->acc.length+xs.length<=cap->wq [] all body xs acc s=.ok (acc++xs.map f) s
 | [],acc,_,_=>by simp[wq,okG] | x::xs,acc,hb,hl=>by
  have ih:=z3R f xs (acc++[f x]) (λy hy=>hb y (by simp[hy])) (by simp at hl ⊢;omega);have hc:acc.length<cap:=by simp at hl;omega
  rw[wq];simp[okG,hb x (by simp),hc,ih]
end
section
variable (i j k n:Nat)(ρ:Ev)(s:Sto)(f g fa fb fc:FE)(d x y:D)(ds:List D)(ar:FA)(op op':D->D->Sto->R D)(ft ft':FT)(fs fs':FS)(M:Mir)(T:String)(fl fh fo:FO)(fi:FI)(fg:FG)(mp:List (Option Nat))(N:List Str)
@[simp] theorem jX:zd i ρ s=(match ρ[i]? with | some (some d)=>.ok d s | _=>.no):=id rfl
@[simp] theorem z7d:eC d ρ s=.ok d s:=id rfl
@[simp] theorem uY:eOp op fa fb ρ s=(fa ρ s).bind λx s1=>(fb ρ s1).bind λy s2=>op x y s2:=id rfl
@[simp] theorem wy:ze M ar ρ s=(ar ρ s).bind λxs s1=>M xs s1:=id rfl
@[simp] theorem xq:zk ρ s=.ok [] s:=id rfl
@[simp] theorem zJ:za f ar ρ s=(f ρ s).bind λx s1=>(ar ρ s1).bind λxs s2=>.ok (x::xs) s2:=id rfl
@[simp] theorem z0M:kJ ar ρ s=(ar ρ s).bind λxs s1=>if xs.length<=cap then .ok (.tup xs) s1 else .no:=id rfl
@[simp] theorem jY:jP ar ρ s=(ar ρ s).bind λxs s1=>if xs.length<=cap then .ok (.lst xs) s1 else .no:=id rfl
@[simp] theorem zbe:zck ar ρ s=(ar ρ s).bind λxs s1=>if xs.length<=cap/\D.flat.flats xs=true then .ok (.loc s1.length) (s1++[xs]) else .no:=id rfl
@[simp] theorem zhI:eIs T f ρ s=(f ρ s).bind λd s1=>gIs T d s1:=id rfl
@[simp] theorem z5M:z4V f ρ s=(f ρ s).bind λd s1=>match d with | .int i=>.ok (.int (-i)) s1 | _=>.no:=id rfl
@[simp] theorem zgC:zfl f ρ s=(f ρ s).bind λx s1=>match x with | .bl k=>.ok (.bl (!k)) s1 | _=>.no:=id rfl
@[simp] theorem zh7:z9s fa fb ρ s=(fa ρ s).bind λx s1=>match x with | .bl true=>fb ρ s1 | .bl false=>.ok (.bl false) s1 | _=>.no:=id rfl
@[simp] theorem z8I:eSl f fl fh ρ s=(f ρ s).bind λx s1=>(fl ρ s1).bind λlo s2=>(fh ρ s2).bind λhi s3=>dSl x lo hi s3:=id rfl
@[simp] theorem qE:yP ρ s=.ok none s:=id rfl
@[simp] theorem z1r:uQ f ρ s=(f ρ s).bind λd s1=>match d with | .int i=>.ok (some i) s1 | _=>.no:=id rfl
@[simp] theorem zeV:tOf f ρ s=(f ρ s).bind λd s1=>match d with | .bl k=>.ok k s1 | _=>.no:=id rfl
@[simp] theorem zg3:fOr ft ft' ρ s=(ft ρ s).bind λx s1=>if x=true then .ok true s1 else ft' ρ s1:=id rfl
@[simp] theorem zbn:z26 ft ρ s=(ft ρ s).bind λx s1=>.ok (!x) s1:=id rfl
@[simp] theorem zfa:z1R op op' fa fb fc ρ s=(fa ρ s).bind λx s1=>(fb ρ s1).bind λy s2=>(op x y s2).bind λz s3=>match z with
 | .bl true=>(fc ρ s3).bind λw s4=>op' y w s4 | .bl false=>.ok (.bl false) s3 | _=>.no:=id rfl
@[simp] theorem zdj:zW fs fs' ρ s=(fs ρ s).bind λfl s1=>match fl with | .nx ρ'=>fs' ρ' s1 | fl=>.ok fl s1:=id rfl
@[simp] theorem zfU:vn ρ s=.ok (.nx ρ) s:=id rfl
@[simp] theorem zhE:fNo ρ s=.no:=id rfl
@[simp] theorem xI:vg f ρ s=(f ρ s).bind λ_ s1=>.ok (.nx ρ) s1:=id rfl
@[simp] theorem wg:wZ f ρ s=(f ρ s).bind λd s1=>.ok (.rt d) s1:=id rfl
@[simp] theorem z3Z:fIf ft fs fs' ρ s=(ft ρ s).bind λx s1=>if x=true then fs ρ s1 else fs' ρ s1:=id rfl
@[simp] theorem yq:wJ i f ρ s=(f ρ s).bind λd s1=>.ok (.nx (ρ.set i (some d))) s1:=id rfl
@[simp] theorem zdr:zgv i j ar ρ s=(ar ρ s).bind λds s1=>match ds with | [x,y]=>.ok (.nx ((ρ.set i (some x)).set j (some y))) s1 | _=>.no:=id rfl
@[simp] theorem z4z:xM i d ρ s=.ok (ρ.set i (some d)) s:=id rfl
@[simp] theorem zft:z5q i j (.tup [x,y]) ρ s=.ok ((ρ.set i (some x)).set j (some y)) s:=id rfl
@[simp] theorem zcD:z4f fa fb fc ρ s=(fc ρ s).bind λd s1=>(fa ρ s1).bind λo s2=>(fb ρ s2).bind λi s3=>match o,i with
 | .loc l,.int k=>match s3[l]? with
  | some xs=>match ixN xs.length k with
   | some j=>if d.flat=true then .ok (.nx ρ) (s3.set l (xs.set j d)) else .no | none=>.no
  | none=>.no
 | _,_=>.no:=id rfl
@[simp] theorem z13:yw f ρ s=(f ρ s).bind λd s1=>match d with
 | .tup xs=>.ok (xs,[]) s1 | .lst xs=>.ok (xs,[]) s1 | .loc l=>match s1[l]? with | some xs=>.ok (xs,[(l,xs)]) s1 | none=>.no
 | _=>.no:=id rfl
@[simp] theorem zei:z5J ar ρ s=(ar ρ s).bind λds s1=>match ds with
 | [.int j]=>if -(2 ^ 62)<=j/\j<2 ^ 62 then .ok (vA j.toNat,[]) s1 else .no | _=>.no:=id rfl
@[simp] theorem zbY:z5c ar ρ s=(ar ρ s).bind λds s1=>match ds with
 | [.int i,.int j]=>if -(2 ^ 62)<=i/\i<2 ^ 62/\-(2 ^ 62)<=j/\j<2 ^ 62 then .ok (kF i (j-i).toNat,[]) s1 else .no | _=>.no:=id rfl
@[simp] theorem zgP:zfi ar ρ s=(ar ρ s).bind λds s1=>match ds with
 | [x,y]=>match zco s1 x,zco s1 y with
  | some p,some q=>.ok (z4T p.1 q.1,p.2++q.2) s1 | _,_=>.no
 | _=>.no:=id rfl
@[simp] theorem z2C:z8Y fi fg fs ρ s=(fi ρ s).bind λit s1=>vG it.2 it.1 (λd ρ s=>(fg d ρ s).bind fun ρ' s'=>fs ρ' s') it.1 ρ s1:=id rfl
@[simp] theorem kM:z3E fi mp fg ft f ρ s=(fi ρ s).bind λit s1=>wq it.2 it.1 (λd s=>(fg d (yb mp ρ) s).bind fun ρ' s'=>(ft ρ' s').bind λb s2=>if b=true then (f ρ' s2).bind λd s3=>.ok (some d) s3 else .ok none s2) it.1 [] s1:=id rfl
@[simp] theorem kq:zV fi mp fg ft f ρ s=(z3E fi mp fg ft f ρ s).bind λxs s1=>.ok (.lst xs) s1:=id rfl
@[simp] theorem z96:z2j fi mp fg ft f ρ s=(z3E fi mp fg ft f ρ s).bind λxs s1=>if D.flat.flats xs=true then .ok (.loc s1.length) (s1++[xs]) else .no:=id rfl
@[simp] theorem zgi:xT ρ s=.ok true s:=id rfl
@[simp] theorem zeY:zff fa fb ρ s=(fa ρ s).bind λo s1=>match o with
 | .loc l=>(fb ρ s1).bind λd s2=>match s2[l]? with
  | some xs=>if d.flat=true/\xs.length<cap then .ok .non (s2.set l (xs++[d])) else .no | none=>.no
 | _=>.no:=id rfl
@[simp] theorem zaJ:yb [] ρ=[]:=id rfl
@[simp] theorem zd1:yb (some i::mp) ρ=(ρ[i]?).getD none::yb mp ρ:=id rfl
@[simp] theorem zd3:yb (none::mp) ρ=none::yb mp ρ:=id rfl
variable (a b:Int)(u v:Bool)(xs ys:List D)
@[simp] theorem z5U:ud (.int a) (.int b) s=.ok (.int (a+b)) s:=rfl
@[simp] theorem z18:ud (.tup xs) (.tup ys) s=if xs.length+ys.length<=cap then .ok (.tup (xs++ys)) s else .no:=rfl
@[simp] theorem z7W:ud (.lst xs) (.lst ys) s=if xs.length+ys.length<=cap then .ok (.lst (xs++ys)) s else .no:=rfl
@[simp] theorem zaC:zbA (.int a) (.int b) s=.ok (.int (a-b)) s:=rfl
theorem zaE:qq (.int a) (.int b) s=if a.natAbs<BIG/\b.natAbs<BIG then .ok (.int (a*b)) s else .no:=by
 simp only[qq,dII,iOk];split<;>(rename_i h;split at h<;>simp_all)
theorem zcj:z6F (.int a) (.int b) s=if 0<b/\b.natAbs<BIG then .ok (.int (a / b)) s else .no:=by
 simp only[z6F,dII,iOk];split<;>(rename_i h;split at h<;>simp_all)
theorem zdn:z87 (.int a) (.int b) s=if 0<b then .ok (.int (a % b)) s else .no:=by
 simp only[z87,dII,iOk];split<;>(rename_i h;split at h<;>simp_all)
theorem zeo:z8Z (.int a) (.int b) s=if 0<=b/\b<=1000/\a.natAbs<1000 then .ok (.int (a ^ b.toNat)) s else .no:=by
 simp only[z8Z,dII,iOk];split<;>(rename_i h;split at h<;>simp_all)
@[simp] theorem zbD:dLt (.int a) (.int b) s=.ok (.bl (decide (a<b))) s:=rfl
@[simp] theorem zhC:dLe (.int a) (.int b) s=.ok (.bl (decide (a<=b))) s:=rfl
@[simp] theorem zbB:dGt (.int a) (.int b) s=.ok (.bl (decide (b<a))) s:=rfl
@[simp] theorem zht:dGe (.int a) (.int b) s=.ok (.bl (decide (b<=a))) s:=rfl
@[simp] theorem z6H:dEq (.int a) (.int b) s=.ok (.bl (decide (a=b))) s:=by
 have:eqD (.int a) (.int b)=decide (a=b):=by
  simp only[eqD,z2h,PyData.eqv];rw[Bool.eq_iff_iff];simp
 rw[dEq,this];rfl
@[simp] theorem zho:dNe (.int a) (.int b) s=.ok (.bl (decide (a≠b))) s:=by
 have:eqD (.int a) (.int b)=decide (a=b):=by
  simp only[eqD,z2h,PyData.eqv];rw[Bool.eq_iff_iff];simp
 rw[dNe,this,_g (by constructor<;>rfl)];simp
@[simp] theorem zhw:dEq (.bl u) (.bl v) s=.ok (.bl (u==v)) s:=by cases u<;>cases v<;>rfl
@[simp] theorem zhu:dNe (.bl u) (.bl v) s=.ok (.bl (u != v)) s:=by cases u<;>cases v<;>rfl
end
theorem zD{f g:FS}{ρ ρ':Ev}{s s':Sto}(h:f ρ s=.ok (.nx ρ') s'):zW f g ρ s=g ρ' s':=by simp[h]
theorem z8s{f g:FS}{ρ:Ev}{s s':Sto}{d:D}(h:f ρ s=.ok (.rt d) s'):zW f g ρ s=.ok (.rt d) s':=by simp[h]
theorem kj{all:List D}{body:D->Ev->Sto->R Fl}(I:Nat->Ev->Sto->Prop):∀(xs:List D)(k:Nat),(∀j x,xs[j]? = some x->∀ ρ s,I (k+j) ρ s->∃ ρ' s',body x ρ s=.ok (.nx ρ') s'/\I (k+j+1) ρ' s')-> ∀ ρ s,I k ρ s->∃ ρ' s',vG [] all body xs ρ s=.ok (.nx ρ') s'/\I (k+xs.length) ρ' s'
 | [],k,_,ρ,s,h=>⟨ρ,s,by simp[vG,okG],h⟩ | x::xs,k,hb,ρ,s,h=>by
  obtain⟨ρ1,s1,e1,h1⟩:=hb 0 x (by simp) ρ s h;obtain⟨ρ2,s2,e2,h2⟩:=kj (all:=all) I xs (k+1) (λj y hy ρ s hi=>by
   have e:k+1+j=k+(j+1):=by omega
   rw[e]at hi ⊢;exact hb (j+1) y (by simpa using hy) ρ s hi) ρ1 s1 h1;refine⟨ρ2,s2,by simp[vG,okG,e1,e2],?_⟩;have e:k+(x::xs).length=k+1+xs.length:=by simp;omega
  rw[e];exact h2
theorem z4w{n j:Nat}{x:D}(h:(vA n)[j]? = some x):j<n/\x=.int j:=by
 have hj:j<n:=by
  have:=(_b.mp h).1;simpa[vA] using this
 refine⟨hj,?_⟩;simp only[vA,_ag,_cv hj,_bs,_E]at h;exact h.symm
theorem z72 {n:Nat} {x:D} (h:x∈vA n):∃j:Nat,j<n/\x=.int j:=by
 obtain⟨j,hj,e⟩:=_aj.mp h;have:=z4w (n:=n) (j:=j) (x:=x) (by rw[_q hj,e]);exact⟨j,this.1,this.2⟩
theorem qZ:∀(ns:List Int),D.flat.flats (ns.map D.int)=true
 | []=>rfl | n::ns=>by simp[D.flat.flats,D.flat,qZ ns]
theorem z0y(i:Int):(D.int i).flat=true:=rfl
theorem wH:∀{xs:List D}{d:D},D.flat.flats xs=true->d∈xs->d.flat=true
 | x::xs,d,f,h=>by
  simp only[D.flat.flats,_u]at f;rcases _n.mp h with rfl | h;·exact f.1
  ·exact wH f.2 h
theorem uB.flatten{mg:Gm}{H H':Hp}{Y Y':List Addr}{ys:List D}{c:Addr}(k:∀b o,H b=some o->(∀vs,o≠.lst vs)->(∀kvs,o≠.dT kvs)->(∀kvs,kvs≠[]->o≠.dK kvs)->H' b=some o)(f:D.flat.flats ys=true)(e:H' c=H c)(ha:c∈Y)(ro:∀b,Own H Y b->b∉Y)(w:∀b vs,b∉Y->H b=some (.lst vs)->H' b=some (.lst vs))(h:uB mg H Y ys c):uB mg H' Y' ys c:=by
 rcases h with⟨vs,h1,h2⟩ | ⟨kvs,h1,h2⟩ | ⟨o,kvs,ys,h1,h2⟩ | ⟨kvs,g,h1,h2⟩ | ⟨o,kvs,ys,h1,e1,h2,fz⟩;·exact .inl ⟨vs,e.trans h1,h2.flatten k f⟩
 ·exact .inr (.inl ⟨kvs,e.trans h1,h2⟩)
 ·exact .inr (.inr (.inl ⟨o,kvs,ys,e.trans h1,h2⟩))
 ·refine .inr (.inr (.inr (.inl ⟨kvs,g,e.trans h1,h2.imp (λzs vs k' hm q=>q.flatten k ?_) (λq b vs hm=>w b vs (ro b ⟨c,ha,kvs,q,h1,hm⟩)) λb o vs q=>k b _ q (by intro vs z;cases z) (by intro vs z;cases z) (by intro vs g z;cases z)⟩)));rcases hm with hm | hm
  ·have:=wH f hm;simp only[D.flat,D.flat.flats,_bK,_bv]at this;exact this
  ·have:=wH f hm;simp only[D.flat,D.flat.flats,_bK,_bv]at this;exact this
 ·subst e1;have f:D.flat.flats ys=true:=by simpa[D.flat.flats,D.flat] using f
  refine .inr (.inr (.inr (.inr ⟨o,kvs,ys,e.trans h1,rfl,h2.imp (λzs vs k' hm q=>q.flatten k ?_) (λq b vs hm z=>(h2.fz fz.1 hm z).elim) λb o vs q=>k b _ q (by intro vs z;cases z) (by intro vs z;cases z) (by intro vs g z;cases z),fz⟩)));rcases hm with hm | hm
  ·have:=wH f hm;simp only[D.flat,D.flat.flats,_bK,_bv]at this;exact this
  ·have:=wH f hm;simp only[D.flat,D.flat.flats,_bK,_bv]at this;exact this
end Dd
namespace Zz
open PySem.AutoSeq1 (wpAny_loadPart')
end Zz
namespace L2
open Zz
theorem z1c(ns:List Int):∀n,n<=ns.length->preSum (λi=>ns.getD i 0) n=(ns.take n).sum
 | 0,_=>by simp[preSum] | n+1,h=>by
  rw[preSum,z1c ns n (by omega),<- List.take_append_getElem (show n<ns.length by omega),List.sum_append];have e:ns.getD n 0=ns[n]:=by simp[List.getD,_q (show n<ns.length by omega)]
  rw[e];simp only[List.sum_cons,List.sum_nil,Int.add_zero]
theorem z8L{X:Cx}(hc:X.calm=true):xH X (.builtin "sum") (λxs H Q=>∃(b:Bool)(p:Addr)(ns:List Int),xs=[.ref p]/\Sq b X.K H p (ns.map V.int)/\Q (.int ns.sum) H):=by
 intro pins s O H xs us Q I r h;obtain⟨b,p,ns,rfl,hq,q⟩:=h;obtain⟨u,rfl,ru⟩:=vals1 r;cases ru;obtain⟨its,rv,co⟩:=I.sq hq;have hl:its.length=ns.length:=by have:=rv.length;simp at this;omega
 refine call_sum_walkG (z1Q (I.ok.hd hc) co λs2 e2 St W st bd old=>?_);subst e2;refine⟨_,_,_,_,_,_,(λi=>ns.getD i 0),rfl,W,st,bd,(λi v e=>let ⟨t,e1,_⟩:=z1P rv e;⟨t,e1⟩),λh' tk t' hk=>?_⟩;have ez:its.toArray.size=ns.length:=by simp[hl]
 rw[ez,z1c ns _ (_d _),List.take_length];exact⟨.int ns.sum,H,I.kept (t':=tk) (old h' hk),⟨t',rfl⟩,q⟩
end L2
namespace L2
end L2
namespace Dd
open L2
section
variable {X:Cx}{E:XK}{e a b c tg iter elt:Expr}{es:List Expr}{pos:Pos}{CX:CXT}
noncomputable def zhx(i j k:Nat)(f:FA):FS:=fun ρ s=>(f ρ s).bind λds s1=>match ds with | [x,y,z]=>.ok (.nx (((ρ.set i (some x)).set j (some y)).set k (some z))) s1 | _=>.no
noncomputable def zd5:List D->Sto->R D
 | [d],s=>match (yj s d).bind intsOf with | some ns=>.ok (.int ns.sum) s | none=>.no
 | _,_=>.no
theorem zev(hc:X.calm=true):∃r,xH X (.builtin "sum") r/\kL X E r zd5:=⟨_,z8L hc,λH Y s ds vs Q r hd h=>by
 unfold zd5 at h;split at h
 ·rename_i d;split at h
  ·rename_i ns e;obtain⟨xs,e1,e2⟩:=_bi.mp e;have:=ui e2;subst this;obtain⟨v,rfl,dn⟩:=z1V hd;obtain⟨a,ws,rfl,q1,q2⟩:=uR (K:=X.K) r e1 dn;cases uj q2;obtain⟨b,q⟩:=z60 q1;exact⟨b,a,ns,rfl,q,h.here r yT⟩
  ·exact h.elim
 ·exact h.elim⟩
noncomputable def z9H(x y:D)(s:Sto):R D:=match listOf s x,listOf s y with
 | some a,some b=>if a.length+b.length<=cap/\D.flat.flats (a++b)=true then .ok (.loc s.length) (s++[a++b]) else .no | _,_=>.no
theorem zeK:∃r,OpR X (binaryOp .Add) r/\OpF X E r z9H:=⟨_,z7i,λH Y s d1 d2 v1 v2 Q r h1 h2 h=>by
 unfold z9H at h;split at h
 ·rename_i xs ys ex ey;split at h
  ·rename_i hc;obtain⟨l,vs,e,q1,q2⟩:=zI r ex h1;obtain⟨l',vs',e',q1',q2'⟩:=zI r ey h2;exact⟨l,l',vs,vs',e,e',q1,q1',by rw[q2.length,q2'.length];exact ut hc.1,zaB r h hc.2 (q2.append q2')⟩
  ·exact h.elim
 ·exact h.elim⟩
end
end Dd
namespace L2
end L2
namespace Dd
open L2
noncomputable def vX(ft:FT)(fb:FS):Nat->Ev->Sto->R Fl
 | 0,_,_=>.no | k+1,ρ,s=>(ft ρ s).bind λb s1=>if b=true then (fb ρ s1).bind λfl s2=>match fl with
   | .nx ρ'=>vX ft fb k ρ' s2 | .ct ρ'=>vX ft fb k ρ' s2 | .bk ρ'=>.ok (.nx ρ') s2 | .rt d=>.ok (.rt d) s2 else .ok (.nx ρ) s1
theorem kK{ft:FT}{fb:FS}:∀{k:Nat}{ρ:Ev}{s:Sto},vX ft fb k ρ s≠.no->vX ft fb (k+1) ρ s=vX ft fb k ρ s
 | 0,ρ,s,h=>absurd rfl h | k+1,ρ,s,h=>by
  rw[vX]at h ⊢;conv=>rhs;rw[vX]
  cases e:ft ρ s with
  | no=>rfl | ex c t=>rfl | ok b s1=>
   rw[e]at h;simp only[Rb]at h ⊢;cases b with
   | false=>rfl | true=>
    rw[_g rfl]at h ⊢;rw[_g rfl];cases e2:fb ρ s1 with
    | no=>rfl | ex c t=>rfl | ok fl s2=>
     rw[e2]at h;simp only[Rb]at h ⊢;cases fl with
     | nx ρ'=>exact kK h | ct ρ'=>exact kK h | bk ρ'=>rfl | rt d=>rfl
theorem z65{ft:FT}{fb:FS}{k m:Nat}{ρ:Ev}{s:Sto}(h:vX ft fb k ρ s≠.no)(hm:k<=m):vX ft fb m ρ s=vX ft fb k ρ s:=by induction hm with
 | refl=>rfl | step _ ih=>rw[kK (by rw[ih];exact h),ih]
open Classical in
def z4y(ft:FT)(fb:FS):FS:=fun ρ s=>if h:∃k,vX ft fb k ρ s≠.no then vX ft fb h.choose ρ s else .no
theorem za5{ft:FT}{fb:FS}{k:Nat}{ρ:Ev}{s:Sto}{r:R Fl}(h:vX ft fb k ρ s=r)(hr:r≠.no):z4y ft fb ρ s=r:=by
 subst h;have hx:∃k,vX ft fb k ρ s≠.no:=⟨k,hr⟩;unfold z4y;rw[dif_pos hx];rcases Nat.le_total k hx.choose with z | z;·exact z65 hr z
 ·exact (z65 hx.choose_spec z).symm
theorem zbV {X:Cx} {E:XK} {c:Expr} {body:List Stmt} {pos:Pos} {ft:FT} {fb:FS} (hp:PassesOwn (model X.prog X.w) X.A X.env X.xe) (hc:RT X E c ft) (hb:RSs X E body fb):RS X E (.While c body [] pos) (z4y ft fb):= um (zao hp hc hb) λD O H ⟨Y,ρ,s,r,en,h⟩=>by
  unfold z4y at h;split at h
  ·rename_i hx;refine⟨λm O H=>∃Y ρ s,Rep (gm X) H Y s/\vK (gm X) H Y ρ O/\okR (gm X) E H Y (FlD (gm X)) (vX ft fb m ρ s) (z21 D),⟨_,Y,ρ,s,r,en,h⟩,?_⟩;rintro m O H ⟨Y,ρ,s,r,en,h⟩;cases m with
   | zero=>exact h.elim | succ m=>
    rw[vX]at h;refine⟨Y,ρ,s,r,en,(okR.bind (Dn:=bD) h).imp λb H1 ⟨Y1,s1,b',stp,eb,h1⟩=>?_⟩;cases (show b'=b from eb);cases b with
    | false=>
     rw[_l (by decide)]at h1 ⊢;exact okR.here (b:=FlV.nx O) (Q:=z21 D) h1 stp.rep (en.mono stp) | true=>
     rw[_g rfl]at h1 ⊢;refine⟨λO' H'=>∃Y ρ s,Rep (gm X) H' Y s/\vK (gm X) H' Y ρ O'/\okR (gm X) E H' Y (FlD (gm X)) (vX ft fb m ρ s) (z21 D),λO' H' q=>⟨m,_bg _,q⟩,Y1,ρ,s1,stp.rep,en.mono stp,(okR.bind (Dn:=FlD (gm X)) h1).imp λfv H2 ⟨Y2,s2,fl,stp2,dn,h2⟩=>?_⟩;cases fl with
     | nx ρ'=> cases fv with
      | nx O'=>exact⟨Y2,ρ',s2,stp2.rep,dn,h2⟩ | _=>exact (show False from dn).elim
     | ct ρ'=> cases fv with
      | ct O'=>exact⟨Y2,ρ',s2,stp2.rep,dn,h2⟩ | _=>exact (show False from dn).elim
     | bk ρ'=> cases fv with
      | bk O'=>exact okR.here (b:=FlV.nx O') (Q:=z21 D) (a:=Fl.nx ρ') (s:=s2) h2 stp2.rep dn | _=>exact (show False from dn).elim
     | rt d=> cases fv with
      | rt v=>exact okR.here (b:=FlV.rt v) (Q:=z21 D) (a:=Fl.rt d) (s:=s2) h2 stp2.rep dn | _=>exact (show False from dn).elim
  ·exact h.elim
end Dd
namespace PySem
open PySem.AutoSeq1 (wpAny_loadPart')
open MeetsSeq MeetsSeq2 SeqAt
end PySem
namespace L2
end L2
namespace Dd
open L2
theorem yJ.cut{mg:Gm}{H H1:Hp}{Y Y1:List Addr}{s1:Sto}(stp:yJ mg H Y H1 Y1 s1):yJ mg H Y H1 (Y1.take Y.length) (s1.take Y.length):=by
 have fl:∀{ds:List D}{ws:List V},D.flat.flats ds=true->zC mg H1 Y1 ds ws->zC mg H1 (Y1.take Y.length) ds ws:=λf h=>h.flatten (λ_ _ h _ _ _=>h) f;have dk:DkS H1 Y1 H1 (Y1.take Y.length):=λb hb kvs e=>⟨_Z hb,e⟩;refine⟨⟨by simp[stp.rep.len],stp.rep.nd.sublist (List.take_sublist _ _),λj ys h=>?_,λys h=>stp.rep.flat ys (_Z h),λb h z=>stp.rep.own b (dk.own h) (_Z z),dk.uq stp.rep⟩,?_,stp.keep,λc h1 h2=>stp.new c (_Z h1) h2,stp.mt,stp.dom,λb h=>stp.ow b (dk.own h)⟩
 ·have hj:j<Y.length:=by
   have:=(_b.mp h).1;simp at this;omega
  rw[_aM hj]at h ⊢;obtain⟨c,q1,q2⟩:=stp.rep.cell j ys h;exact⟨c,q1,q2.flatten (λ_ _ h _ _ _=>h) (stp.rep.flat _ (_f h)) rfl (_f q1) stp.rep.own (λ_ _ _ q=>q)⟩
 ·obtain⟨t,ht⟩:=stp.pre;exact⟨[],by rw[<- ht,List.take_append];simp⟩
noncomputable def zgO(n:Nat):R D->R D
 | .ok (.loc l) s1=>match s1[l]? with
  | some xs=>if n<=l then .ok (.lst xs) (s1.take n) else .no | none=>.no
 | .ok _ _=>.no | .ex c s1=>.ex c s1 | .no=>.no
@[simp] theorem zfj {s:Sto}{xs:List D}:zgO s.length (.ok (.loc s.length) (s++[xs]))=.ok (.lst xs) s:=by simp[zgO]
noncomputable def z6s(n:Nat):R D->R D
 | .ok (.loc l) s1=>if l<n then .ok (.loc l) (s1.take n) else .ok (.loc l) s1 | .ok d s1=>if d.flat=true then .ok d (s1.take n) else .ok d s1 | r=>r
noncomputable def z5u(M:Mir):Mir:=λds s=>z6s s.length (M ds s)
theorem zbJ{mg:Gm}{M:Mir}{vs:List V}{H:Hp}{Q:VK}{E:XK}(h:zaK mg (z5u M) vs H Q E):zaK mg M vs H Q E:=by
 obtain⟨Y,s,ds,r,dn,h⟩:=h;refine⟨Y,s,ds,r,dn,?_⟩;unfold z5u z6s at h;split at h
 ·rename_i l s1 e;rw[e];split at h
  ·rename_i hl;intro v H1 Y1 stp dv;rw[<- r.len]at h;refine h v H1 _ stp.cut ?_;simp only[Den]at dv ⊢;obtain⟨a,rfl,e1,ka⟩:=dv;exact⟨a,rfl,by rw[_aM (by rw[r.len];exact hl)];exact e1,ka⟩
  ·exact h
 ·rename_i d s1 hn e;rw[e];split at h
  ·rename_i hf;intro v H1 Y1 stp dv;rw[<- r.len]at h;exact h v H1 _ stp.cut (dv.flatten (λ_ _ h _ _ _=>h) hf)
  ·exact h
 ·exact h
section
variable {P:Program}{w:World}{K:W.Frag}{mg:Str->Option Value}{base:Heap}
theorem Has.tidy{CX:CXT}{x:Str}{n:Nat}{M:Mir}(h:Has P w K mg base CX x n M):Has P w K mg base CX x n (z5u M):=by
 obtain⟨f,fd,ps,F,r⟩:=h;exact⟨f,fd,ps,F.imp λvs H Q E h=>zbJ h,r⟩
end
@[simp] theorem z34 (M:Mir)(ds:List D)(s:Sto):z5u M ds s=z6s s.length (M ds s):=id rfl
@[simp] theorem qU {d:D}{n:Nat}{s1:Sto}(h:d.flat=true):z6s n (.ok d s1)=.ok d (s1.take n):=by cases d<;>first | (simp[D.flat]at h;done) | simp_all[z6s]
noncomputable def zd4:D->D->Sto->R D
 | x,.int k,s=>match listOf s x with
  | some xs=>if xs.length*k.toNat<=cap/\-(2 ^ 62)<=k/\k<2 ^ 62 then .ok (.lst (List.replicate k.toNat xs).flatten) s else .no | none=>.no
 | _,_,_=>.no
theorem zC.flat_rep{mg:Gm}{H:Hp}{Y:List Addr}{xs:List D}{vs:List V}(h:zC mg H Y xs vs):∀k:Nat,zC mg H Y (List.replicate k xs).flatten (List.replicate k vs).flatten
 | 0=>by simpa using zC.nil | k+1=>by
  rw[_aq,_aq,_aQ,_aQ];exact h.append (h.flat_rep k)
section
variable {X:Cx}{E:XK}
theorem zcx:∃r,OpR X (binaryOp .Mult) r/\OpF X E r zd4:=by
 refine⟨_,zdD.freeze,?_⟩;intro H Y s d1 d2 v1 v2 Q r h1 h2 h;unfold zd4 at h;split at h
 ·rename_i k;cases yp h2;split at h
  ·rename_i xs hx;split at h
   ·rename_i hl;obtain⟨l,vs,e,q1,q2⟩:=zI r hx h1;exact⟨l,k,vs,e,rfl,q1,by omega,by omega,by rw[q2.length];exact ut hl.1,jg r h (q2.flat_rep _)⟩
   ·exact h.elim
  ·exact h.elim
 ·exact h.elim
end
section
variable {P:Program}{w:World}{K:W.Frag}{mg:Str->Option Value}{base:Heap}{CX:CXT}{n:Nat}
theorem z5H:∀y M,([]:List (Str×Mir)).lookup y=some M->Has P w K mg base CX y n M:=λy M h=>by simp at h
theorem uw{x:Str}{M0:Mir}{Ms:List (Str×Mir)}(h:Has P w K mg base CX x n M0)(hs:∀y M,Ms.lookup y=some M->Has P w K mg base CX y n M):∀y M,((x,M0)::Ms).lookup y=some M->Has P w K mg base CX y n M:=λy M e=>by
 rw[_ad]at e;split at e
 ·rename_i hb;cases e;have:y=x:=by simpa using hb
  subst this;exact h
 ·exact hs y M e
end
def Sub(K:W.Frag)(h:Heap):Prop:=∀p∈K,h.get? p.1=some p.2
theorem Sub.in_{K:W.Frag}{h:Heap}(s:Sub K h):K.In h:=λa o e=>by induction K with
 | nil=>simp at e | cons p K ih=>
  obtain⟨b,u⟩:=p;rw[_ad]at e;split at e
  ·rename_i hb;cases e;have:a=b:=by simpa using hb
   subst this;exact s (a,o) (by simp)
  ·exact ih (λq hq=>s q (by simp[hq])) e
theorem z2Z(h:Heap)(a:Addr):Sub (z5b h a) h:=λp hp=>by
 unfold z5b at hp;split at hp
 ·rename_i o e;simp at hp;subst hp;exact e
 ·simp at hp
theorem Sub.app{K L:W.Frag}{h:Heap}(a:Sub K h)(b:Sub L h):Sub (K++L) h:=λp hp=>(_B.mp hp).elim (a p) (b p)
theorem zbw(h:Heap)(ns:List Str):Sub (gat h ns) h:=by
 refine (z2Z h _).app λp hp=>?_;obtain⟨x,_,hx⟩:=_c5.mp hp;unfold zgR at hx;split at hx
 ·rcases _B.mp hx with hx | hx;·exact z2Z h _ p hx
  ·split at hx
   ·split at hx;·exact z2Z h _ p hx
    ·simp at hx
   ·exact z2Z h _ p hx
   ·simp at hx
 ·simp at hx
def zgI(K:W.Frag)(x:Str)(st:Stmt):Prop:=∃f fd,W.nsIn K mainGlobals x=some (some (.ref f))/\Fun K x x st f fd
theorem dA(s:Stmt):dArgs s=kI s:=by cases s<;>rfl
theorem dB(s:Stmt):zdX s=wQ s:=by cases s<;>rfl
theorem dS(s:Stmt):zaS s=zi s:=by cases s<;>rfl
theorem zc3{K:W.Frag}{x:Str}{st:Stmt}(h:zcz K x=zfG x st):zgI K x st:=by
 unfold zcz zfG at h;rw[dA,dB,dS]at h;split at h
 ·rename_i f hf;split at h
  ·rename_i oc od fd sl hl;simp only[_E,_bL]at h;obtain⟨h1,h2,h3,h4,h5,h6,h7,h8,h9,h10,h11⟩:=h;obtain⟨a1,a2,a3,a4,a5,a6,a7,a8,a9,a10,a11,a12,a13,a14,a15⟩:=fd;simp only at h1 h2 h3 h4 h5 h6 h7 h8 h9 h10;subst h1 h3 h4 h5 h6 h7 h8 h9;subst h2;exact⟨f,_,hf,zew hl h10 h11⟩
  ·cases h
 ·cases h
theorem z99{K:W.Frag}{x:Str}(h:zc2 K x=true):W.nsIn K mainGlobals x=some none:=by
 unfold zc2 at h;split at h;·rename_i e;exact e
 ·cases h
theorem zar{K:W.Frag}{x:Str}{i:Int}(h:zcX K x=some i):∃t,W.nsIn K mainGlobals x=some (some (.int i t)):=by
 unfold zcX at h;split at h;·rename_i j t e;cases h;exact⟨t,e⟩
 ·cases h
def saysS(q:Ask)(w:World)(h:Heap):Prop:=∃K:W.Frag,K.In h/\z7Y q K=valS q w
theorem zbt(q:Ask)(w:World)(s:Shared)(e:obsS q s=valS q w):saysS q w s.heap:=⟨_,(zbw _ _).in_,e⟩
theorem z6U(q:Ask)(w:World)(h h':Heap)(x:saysS q w h)(k:∀b o,h.get? b=some o->h'.get? b=some o):saysS q w h':=let ⟨K,a,b⟩:=x;⟨K,a.keeps k,b⟩
theorem z4E{α β:Type}{f g:α->β}:∀{l:List α},l.map f=l.map g->∀x∈l,f x=g x:=λh x hx=>List.map_inj_left.mp h x hx
theorem zgs{q:Ask}{w:World}{K:W.Frag}(e:z7Y q K=valS q w)(x:Str)(st:Stmt)(hx:(x,st)∈q.fs):zgI K x st:=zc3 (z4E (_aJ Prod.fst e) (x,st) hx)
theorem zfI{q:Ask}{w:World}{K:W.Frag}(e:z7Y q K=valS q w)(x:Str)(hx:x∈q.bs):W.nsIn K mainGlobals x=some none:=z99 (z4E (_aJ (λz=>z.2.1) e) x hx)
theorem zgz{q:Ask}{w:World}{K:W.Frag}(e:z7Y q K=valS q w)(x:Str)(i:Int)(hx:(x,i)∈q.cs):∃t,W.nsIn K mainGlobals x=some (some (.int i t)):=zar (z4E (_aJ (λz=>z.2.2.1) e) (x,i) hx)
theorem z6R{p q:Program}{loose:List Str}{Xt:Shared->Bool}{α:Type}{Yf:Shared->α}{Ya:World->α}{N:Nat}{g0:Bool} (bo:∀w:World,(W.fencedOpening treeTable p w N).map (λs=>(s.heap,s.gens,s.drawn,s.toks))=some (W.boot_heap w.params,Array.mk [],W.boot_drawn,W.boot_toks)) (hf:∀(w:World)(os:OsState),(W.topFrom treeTable p w N ⟨W.boot_heap w.params,Array.mk [],W.boot_drawn,W.boot_toks,os⟩).map (λs=>(W.openSeen q loose (importedModules p.main.body) Xt g0 s,Yf s))=some (W.openGood q loose,Ya w)):W.LeftO p q loose Xt Yf Ya N g0:=λw=>by
 obtain⟨⟨h,gs,d,k,os⟩,e,e'⟩:=_M.mp (bo w);obtain⟨rfl,rfl,rfl,rfl⟩:h=W.boot_heap w.params/\gs=Array.mk []/\d=W.boot_drawn/\k=W.boot_toks:=by simpa only [_bL] using e'
 unfold W.openEnds;rw[e,_Y];exact hf w os
theorem z44{tb:String->Option Builtin}{p:Program}{w:World}{n₀:Nat}{ann:Option Value}:∀{n:Nat}{s s':W.SharedT}{t:Thread},z1B tb p w n₀ ann n s t=some s'->W.topRun tb p w n₀ ann n s.abs t=some s'.abs
 | 0,_,_,_,h=>by cases h | n+1,s,s',t,h=>by
  unfold z1B at h;unfold W.topRun;cases he:W.through t with
  | true=>rw[he]at h;cases h;rfl | false=>
   rw[he]at h;cases hk:W.stepOk n₀ ann t with
   | false=>rw[hk]at h;cases h | true=>
    rw[hk]at h;cases hs:W.stepT (denote tb) p w s t with
    | none=>rw[hs]at h;cases h | some r=>obtain⟨s₂,t₂⟩:=r;rw[hs]at h;rw[W.stepT_spec hs];exact z44 h
theorem z6q{p:Program}{w:World}{N:Nat}{h:Heap}{d:Drawn}{k:Nat}{os:OsState}{t0:W.BT}{m₀:Nat}{ann:Option Value}(ha:W.absHeap t0 m₀ h.life=h) (sz:(h.isNs mainGlobals&&(Array.mk []:Array GenState).size==0,h.objs.size,h.nsMap mainGlobals "__annotations__")=(true,m₀,ann)){α:Type}{f:Shared->α}{v:α} (hr:(z1B treeTable p w m₀ ann N ⟨t0,m₀,h.life,Array.mk [],d,k,os⟩ (W.topStub p)).map (λsT=>(W.staticsOk (importedModules p.main.body) h sT.abs.heap&&W.namesBound p sT.abs.heap&&W.gensDone sT.abs&&W.laidKept h sT.abs.heap,f sT.abs))=some (true,v)): (W.topFrom treeTable p w N ⟨h,Array.mk [],d,k,os⟩).map f=some v:=by
 obtain⟨sT,e1,e2⟩:=_M.mp hr;obtain⟨e3,e4⟩:=Prod.mk.inj e2;obtain⟨z1,z2,z3⟩:_/\_/\_:=by simpa only [_bL] using sz
 have r:=z44 e1;have a0:(⟨t0,m₀,h.life,Array.mk [],d,k,os⟩:W.SharedT).abs=⟨h,Array.mk [],d,k,os⟩:=by
  show (⟨W.absHeap t0 m₀ h.life,Array.mk [],d,k,os⟩:Shared)=_;rw[ha]
 rw[a0]at r;have t:W.topFrom treeTable p w N ⟨h,Array.mk [],d,k,os⟩=some sT.abs:=by
  unfold W.topFrom;dsimp only;rw[z1,z2,z3];dsimp only;rw[r];show (match (W.staticsOk (importedModules p.main.body) h sT.abs.heap&&W.namesBound p sT.abs.heap&&W.gensDone sT.abs&&W.laidKept h sT.abs.heap) with | true=>some sT.abs | false=>none)=_;rw[e3]
 rw[t,_bs,e4]
theorem z8T{α β γ δ:Type}{r:Option α}{f:α->β}{g:α->γ}{k:α->δ}{x:β}{y:γ}{z:δ}(h1:r.map (λs=>(f s,k s))=some (x,z))(h2:r.map g=some y):r.map (λs=>(f s,(g s,k s)))=some (x,(y,z)):=by
 obtain⟨s,e1,e2⟩:=_M.mp h1;obtain⟨s',e3,e4⟩:=_M.mp h2;rw[e1]at e3;cases e3;obtain⟨e5,e6⟩:=Prod.mk.inj e2;rw[e1,_bs,e4,e5,e6]
theorem walkY{l:W.OpenLaw}{n k:Nat}{q:Program}{loose:List Str}{XP:(Str->Option Value)->Heap->Prop}{YP:World->Heap->Prop}{d:DefRec}{x:Str} (hn:l.most=some n)(hn2:n<=sizeLine)(hn3:n<=63)(hdf:d.params.defaults=[])(hr:z0m k callerA) (F:∀(w:World)(mg:Str->Option Value)(fa:Addr)(h:Heap),YP w h->h.Ns mainGlobals mg->mg d.name=some (.ref fa)->XP mg h-> ∃K:W.Frag,K.In h/\∃fd:FuncData,(∀(s:Shared)(u:Value),BindsTo s fd ⟨[u],[]⟩ [(x,u)])/\ ∀base:Heap,K.In base->base.Ns mainGlobals mg->z3C l.prog w K mg base CX0 k fa fd [x] (zcm K)): W.WalkO q loose XP YP l.row.toRowW d [] (λf vs=>PySem.call f vs):=by
 refine Att.z5j hn hdf λw s₀ s₁ mg mb fa o pm cd doc a vs ns G Yy ho hd hcd hmg hobj hints hlen hg=>?_;obtain⟨K,KX,fd,hb,hF⟩:=F w mg fa _ Yy G.T.g hmg G.X;exact z9L KX G.T.g G.T.b G.T.builtins G.T.nolimit hg hobj hints (_O hlen hn2) hr hF hb (λH hO hS=>⟨a,ns,rfl,hO,hS,_O hlen hn3,λ_=>rfl⟩) λH e s' z=>z
end Dd
namespace HT
end HT
namespace L2
end L2
namespace Dd
open L2
structure Fly(P:Program)(w:World)(outer:List Env)(H:Hp)(s:Shared)(C ea:Addr)(H':Hp)(s':Shared):Prop where
 os:s'.os=s.os
 bare:AllBare s'.gens
 un:Un (frs outer) [] H H' s.heap s'.heap
 hok:HOk P w H' s'.heap
 fly:∃B a0,Heap.FlyingW B outer ea (.ref C) a0 s'.heap/\∀b o,s'.heap.get? b=some o->(H' b≠none\/((∃o',s.heap.get? b=some o')/\b∉frs outer))->B.get? b=some o
def CX1(P:Program)(w:World):CXT:=λouter H s E e s'=>∃C ea H',e=.ref ea/\Fly P w outer H s C ea H' s'/\E (.ref C) none H'
theorem z6f{env:Env}{l:List Env}{L:Addr}(h:env.frame=some L):frs (env::l)=L::frs l:=by unfold frs;rw[_bI,h]
theorem HOk.cov{P:Program}{w:World}{H:Hp}{h h' B:Heap}(x:HOk P w H h)(c:∀b o,h.get? b=some o->H b≠none->B.get? b=some o)(k:B.StaysIn h'):HOk P w H h':=λa o e=> (x a o e).stay (λb u hb q=>by
  refine k b u (c b u q ?_);rcases hb with rfl | hb;·rw[e];simp
  ·rw[hb];simp) (λ_ q=>q) λ_ _ q=>q
theorem z9t{P:Program}{w:World}{H:Hp}{h:Heap}{a:Addr}{o:HO}(x:xf P w H h a o):∃ob,h.get? a=some ob:=by cases o with
 | lst xs=>obtain⟨_,_,_,_,e⟩:=x;exact⟨_,e⟩ | tup xs=>obtain⟨_,_,_,ob,e,_⟩:=x;exact⟨_,e⟩ | dK kvs=>obtain⟨_,_,_,_,o,_,_,e,_⟩:=x;exact⟨_,e⟩ | dT kvs=>obtain⟨_,_,_,_,o,_,_,e,_⟩:=x;exact⟨_,e⟩ | set S n=>obtain⟨o,_,_,_,e,_⟩:=x;exact⟨_,e⟩ | ins C dx fs=>obtain⟨_,_,_,e,_⟩:=x;exact⟨_,e⟩ | own y=>exact x | xd fs=>obtain⟨_,⟨_,_,_,e,_⟩,_⟩:=x;exact⟨_,e⟩ | rng lo hi=>obtain⟨_,_,_,e⟩:=x;exact⟨_,e⟩ | frz ob u=>obtain⟨e,_⟩:=x;exact⟨_,e⟩ | tbl ps=>exact⟨_,(show h.get? a=some _ from x)⟩ | met f y=>exact⟨_,(show h.get? a=some _ from x)⟩ | ext φ=>obtain⟨_,e,_⟩:=x;exact e
section
variable {X:Cx}{E:XK}{pins:List (Addr×Obj)}{O:L2.St}{H:Hp}{s:Shared}
theorem Inv.left{outer:List Env}{h' B:Heap}{C ea:Addr}{a0:Value}(I:Inv X pins O H s)(hex:X.ex=[])(ho:X.outer=outer)(fl:Heap.FlyingW B outer ea (.ref C) a0 h')(sm:s.heap.UpToSlots h') (c:∀b o,s.heap.get? b=some o->(H b≠none\/((∃o',X.s₀.heap.get? b=some o')/\b∉frs outer))->B.get? b=some o){g:Array GenState}{d:Drawn}{t:Nat}(hg:AllBare g): Fly X.prog X.w outer X.H₀ X.s₀ C ea H ⟨h',g,d,t,s.os⟩:=by
 subst ho;have k:=fl.1;refine⟨I.os,hg,⟨λb o e n nf ne=>?_,λb o e n hf ne=>?_,λb o e n ne=>?_,λb o e ne=>?_,I.base.tups,I.base.frzs,I.base.tbls⟩,HOk.cov I.hok (λb o e n=>c b o e (.inl n)) k,B,a0,fl,λb o e q=>?_⟩
 ·have e1:=I.base.keep b o e n nf (by rw[hex];exact ne);exact k b o (c b o e1 (.inr ⟨⟨o,e⟩,nf⟩))
 ·obtain⟨sl,e1⟩:=I.base.slot b o e n hf (by rw[hex];exact ne);obtain⟨_,o2,e2,hnf⟩:=I.funs.mem hf;rw[e1]at e2;cases e2;obtain⟨sl2,e3⟩:=sm b _ e1 hnf;exact⟨sl2,e3⟩
 ·exact I.base.free b o e n (by rw[hex];exact ne)
 ·by_cases hf:b∈frs X.outer
  ·obtain⟨_,o2,e2,hnf⟩:=I.funs.mem hf;obtain⟨sl2,e3⟩:=sm b _ e2 hnf;exact⟨_,e3⟩
  ·obtain⟨o1,e1⟩:=I.base.there b o e (by rw[hex];exact ne);exact⟨o1,k b o1 (c b o1 e1 (.inr ⟨⟨o,e⟩,hf⟩))⟩
 ·have back:∀o1,s.heap.get? b=some o1->B.get? b=some o:=λo1 e1=>by
   have e2:=c b o1 e1 (q.imp id λz=>z);have e3:h'.get? b=some o1:=k b o1 e2;have:h'.get? b=some o:=e;rw[e3]at this;cases this;exact e2
  rcases q with q | ⟨⟨o',e'⟩,nf⟩;·cases z:H b with
   | none=>exact absurd z q | some u=>
    obtain⟨o1,e1⟩:∃o1,s.heap.get? b=some o1:=by exact z9t (I.hok b u z)
    exact back o1 e1
  ·obtain⟨o1,e1⟩:=I.base.there b o' e' (by rw[hex];simp);exact back o1 e1
end
section
variable {P:Program}{w:World}{K:W.Frag}{mg:Str->Option Value}{base:Heap}{N:List Str}{qual:Str}{scope:Scope}{f:Addr}{cd:Value}{A:Around}{outer:List Env}{s:Shared}{H:Hp}{E:XK}
theorem vO:(envOfC qual scope s.heap.objs.size f cd).frame=some s.heap.objs.size:=rfl
theorem z25:Passes (CX1 P w) (z1h (CX1 P w) P w K mg base N qual scope f cd A outer s H E) E:=by
 intro pins O H1 s1 e s' I h;obtain⟨C,ea,H',he,fl,hE⟩:=h;subst he;obtain⟨h2,g2,d2,t2,os2⟩:=s';have eos:os2=s1.os:=fl.os;subst eos;have I':=I.call (h':=h2) (g':=g2) (d':=d2) (t':=t2) (ch:=[]) fl.un fl.hok fl.bare (λb z=>absurd z (by simp));obtain⟨B,a0,fw,cov⟩:=fl.fly;refine wpAny_leaves_onW (base:=B) (outer:=outer) I.ok.frames vO fw λh' fw' sm=>?_;refine⟨C,ea,H',rfl,Inv.left I' rfl rfl fw' sm (λb o e q=>cov b o e (q.imp id λz=>?_)) I'.bare,hE⟩;obtain⟨⟨o',e'⟩,nf⟩:=z;obtain⟨o1,e1⟩:=I.base.there b o' e' (by show b∉([]:List Addr);simp);refine⟨⟨o1,e1⟩,λz=>?_⟩;rw[show (z1h (CX1 P w) P w K mg base N qual scope f cd A outer s H E).stack=envOfC qual scope s.heap.objs.size f cd::outer from rfl,z6f vO]at z;rcases _n.mp z with z | z
 ·have:=_o e';rw[z]at this;exact absurd this (_ao _)
 ·exact nf z
theorem zea {pins:List (Addr×Obj)} {O:L2.St} {H1:Hp} {s1:Shared} {h':Heap} {e C:Addr} {args:List Value} (I:Inv (z1h (CX1 P w) P w K mg base N qual scope f cd A outer s H E) pins O H1 s1) (hx:Heap.MadeExcOf s1.heap h' e (.ref C) args) (hE:E (.ref C) none H1): (z1h (CX1 P w) P w K mg base N qual scope f cd A outer s H E).xe (.ref e) {s1 with heap:=h'}:=by
 have hin:∀env∈(envOfC qual scope s.heap.objs.size f cd::outer),∀b,env.frame=some b->b∈frs (envOfC qual scope s.heap.objs.size f cd::outer):=λenv he b hb=>_bQ.mpr ⟨env,he,hb⟩;refine wpAny_leaves_madeW (base:=W.hideAll s1.heap (frs (envOfC qual scope s.heap.objs.size f cd::outer))) (h:=s1.heap) (outer:=outer) I.ok.frames vO (λb o q=>W.of_hideAll _ q) (W.funFrames_hide I.stack hin) hx λh'' t fw tup bt sm=>?_;refine⟨C,e,H1,rfl,Inv.left I rfl rfl fw ((Heap.UpToSlots.of_keeps hx.keeps).trans sm) (λb o eb q=>W.hideAll_get _ eb λz=>?_) I.bare,hE⟩;rcases q with q | ⟨⟨o',e'⟩,nf⟩;·exact q (I.stkFree b z)
 ·rw[z6f vO]at z;rcases _n.mp z with z | z
  ·have:=_o e';rw[show (z1h (CX1 P w) P w K mg base N qual scope f cd A outer s H E).s₀=s from rfl]at this;rw[z]at this;exact absurd this (_ao _)
  ·exact nf z
end
def z7B (X:Cx) (E:XK):Prop:=∀(pins:List (Addr×Obj)) (O:L2.St) (H1:Hp) (s1:Shared) (h':Heap) (e C:Addr) (args:List Value),Inv X pins O H1 s1->Heap.MadeExcOf s1.heap h' e (.ref C) args->E (.ref C) none H1->X.xe (.ref e) {s1 with heap:=h'}
def zay(K:W.Frag)(mg:Str->Option Value)(x:Str):Prop:=∃C,mg x=some (.ref C)/\W.excIn K C bmV "ValueError.__new__"=true
theorem z8H{K:W.Frag}{h₀:Heap}{C:Addr}{bmB:List Value}{newId:String}(X:K.In h₀)(q:W.excIn K C bmB newId=true): ∃bm N nm q bs hdct sn sub ab col dd k0 k1 k2 k3 k5 mN,h₀.get? C=some (excClassObj nm q C N bs bm hdct sn sub ab col dd k0 k1 k2 k3 k5 newId)/\h₀.Ns N mN/\mN "__init__"=none/\OwnTail h₀ bmB bm:=by
 unfold W.excIn at q;split at q
 ·rename_i dd cd sl ho;split at q
  ·rename_i C' bm k0 k1 k2 k3 n k5 hm hs;simp only[_u,_ay,_aE]at q;obtain⟨⟨⟨⟨⟨rfl,rfl⟩,hdel⟩,ht⟩,hok⟩,hni⟩:=q;obtain⟨nm,bs,mro,ns,qn,hd,sn,sub,ab,col,del⟩:=cd;dsimp only at hm hdel hok hni;subst hm hdel;have hsl:sl=#[k0,k1,k2,k3,some (.builtin n),k5]:=by
    obtain⟨l⟩:=sl;simp only at hs;rw[hs]
   subst hsl;exact⟨bm,ns,nm,qn,bs,hd,sn,sub,ab,col,dd,k0,k1,k2,k3,k5,_,X _ _ ho,.of_isNs (W.isNs_of_in X hok),W.nsMap_none_of_in X hok hni,W.tail_of_in X ht⟩
  ·cases q
 ·cases q
section
variable {X:Cx}{E:XK}{pos:Pos}
noncomputable def z4j(c:Str):FS:=λ_ s=>.ex c s
theorem z4X {x:Str} {np cpos p:Pos} {m:Str} {j:Nat} (hk:zay X.K X.mg x) (hro:z7B X E) (hc:X.calm=true) (hg:Gl X x) (hd:(x==("__debug__":Str))=false:=by decide): RS X E (.Raise (some (.Call (.Name x np) [.Constant (.str m) j p] [] cpos)) none pos) (z4j x):=by
 intro pins s O H D I h;obtain⟨Y,ρ,st,r,en,h⟩:=h;obtain⟨C,hm,hq⟩:=hk;have hE:E (.ref C) none H:=h H Y C (yJ.refl r) hm;obtain⟨tl,Nn,nm,q,bs,hdct,sn,sub,ab,col,dd,k0,k1,k2,k3,k5,mN,hC,hN,hni,T⟩:=z8H I.mod.kin hq;refine wpAny_Raise_call_subT (C:=C) (nm:=nm) (q:=q) (N:=Nn) (bs:=bs) (bm:=tl) (hdct:=hdct) (sn:=sn) (sub:=sub) (ab:=ab) (col:=col) (dd:=dd) (k0:=k0) (k1:=k1) (k2:=k2) (k3:=k3) (k5:=k5) _by (mN:=mN) (T.hasType _by.hasBase) (I.ok.hd hc) rfl hni (z1O I hg hm ⟨rfl,?_⟩ hd);refine _cg (thn (wc (X:=X) (zb1 (X:=X)) (qd (X:=X)) rfl cpos pins s O H (λvs H1=>vs=[.str m]/\H1=H) I ⟨rfl,rfl⟩) λus s2 h2=>?_);obtain⟨vs,H1,I1,r1,e1,e2⟩:=h2;subst e1 e2;obtain⟨u,rfl,ru⟩:=r1.one;exact⟨rfl,by show (1:Nat)<=sizeLine;decide,I1.bk _ _ hC,hN.keeps I1.bk,T.keeps I1.bk,λh' e mk=>hro pins O _ s2 h' e C [u] I1 mk hE⟩
end
noncomputable def jE(N:List Str)(n:Nat)(fs:FS):Mir:=λds s=>if ds.length=n then (match fs (zt N ds) s with
 | .ok (.rt d) s'=>.ok d s' | .ok (.nx _) s'=>.ok .non s' | .ex c s'=>.ex c s' | _=>.no) else .no
section
variable {P:Program}{w:World}{K:W.Frag}{mg:Str->Option Value}{base:Heap}
theorem z6D{X:Cx}{E:XK}:Passes CX0 X E:=λ_ _ _ _ _ _ _ h=>h.elim
theorem vy{x qual:Str}{st:Stmt}{f:Addr}{fd:FuncData}{N ps:List Str}{k n:Nat}{fs:FS}(F:Fun K x qual st f fd)(hm:mg x=some (.ref f))(hb:Binds K fd ps [])(S:zG N ps (zi st))(hn:ps.length=n) (body:∀(cdv:Value)(A:Around)(outer:List Env)(s:Shared)(H:Hp)(E:XK),z0m k (A.deeper (envOfC qual (zi st) s.heap.objs.size f cdv))->(z1h (CX1 P w) P w K mg base N qual (zi st) f cdv A outer s H E).calm=true-> RSs (z1h (CX1 P w) P w K mg base N qual (zi st) f cdv A outer s H E) E (wQ st) fs):Has P w K mg base (CX1 P w) x (k+1) (jE N n fs):=by
 subst hn;obtain⟨oc,od,kV,doc,pm,an,cdv,ct,osl,rfl,lk,hcd⟩:=F.ex;refine⟨f,_,ps,zde lk hcd S (λvs H Q E h=>?_) (λA outer s H vs Q E hr h=>?_),hb,F.kp,hm⟩
 ·obtain⟨Y,s,ds,_,dn,h⟩:=h;unfold jE at h;split at h;·rename_i e;rw[dn.length];exact e
  ·exact h.elim
 ·obtain⟨Y,st0,ds,r,dn,h⟩:=h;refine⟨_,body cdv A outer s H E hr (by show A.handled.isNone=true;rw[show A.handled=none from hr.hd];rfl),Y,zt N ds,st0,r,qY dn,?_⟩;unfold jE at h;split at h
  ·split at h
   ·rename_i d s' e;rw[e];intro fv H' Y' stp fd;cases fv with
    | rt v=>exact h v H' Y' stp fd | _=>exact (show False from fd).elim
   ·rename_i ρ s' e;rw[e];intro fv H' Y' stp fd;cases fv with
    | nx v=>exact h .non H' Y' stp (by simp[Den]) | _=>exact (show False from fd).elim
   ·rename_i c s' e;rw[e];exact h
   ·exact h.elim
  ·exact h.elim
noncomputable def zi4(M:Mir):Mir:=λds s=>match M ds s with | .ex _ _=>.no | r=>r
end
noncomputable def uN(f:FS):FS:=fun ρ s=>match f ρ s with | .ex _ _=>.no | r=>r
theorem vP{X:Cx}{E:XK}{st:Stmt}{f:FS}(h:RS X.nox E0 st f):RS X E st (uN f):=λpins s O H D I hw=>by
 obtain⟨Y,ρ,st0,r,en,q⟩:=hw;have q':okR (gm X) E0 H Y (FlD (gm X)) (f ρ st0) (z21 D):=by
  unfold uN at q;cases e:f ρ st0 with
  | ok d s'=>rw[e]at q;exact q | ex c s'=>rw[e]at q;exact q.elim | no=>rw[e]at q;exact q.elim
 exact _t (h pins s O H D (I.wish _) ⟨Y,ρ,st0,r,en,q'⟩) (λ_ _ q=>q.unwish) λ_ _ z=>False.elim z
@[simp] theorem zce (f:FS)(ρ:Ev)(s:Sto):uN f ρ s=(match f ρ s with | .ex _ _=>.no | r=>r):=id rfl
@[simp] theorem zan (c:Str)(ρ:Ev)(s:Sto):z4j c ρ s=.ex c s:=id rfl
theorem z30{P:Program}{w:World}{K:W.Frag}{mg:Str->Option Value}{base:Heap}{N:List Str}{qual:Str}{scope:Scope}{f:Addr}{cd:Value}{A:Around}{outer:List Env}{s:Shared}{H:Hp}{E:XK}: z7B (z1h (CX1 P w) P w K mg base N qual scope f cd A outer s H E) E:=λ_ _ _ _ _ _ _ _ I hx hE=>zea I hx hE
end Dd
namespace PySem
open PySem.Sem (wp)
section
variable {M:Model}{A:Around}{E:Value->Shared->Prop}
theorem uO{h:Heap}{g:Array GenState}{d:Drawn}{t:Nat}{os:OsState}{e C D:Addr}{oe:Obj}{Q:Bool->Shared->Prop} {nm q:Str}{N:Addr}{bs bm:List Value}{hdct:Bool}{sn:List Str}{sub:List Value}{ab:Bool}{col:Option Bool}{dd:Option Addr}{k0 k1 k2 k3 k5:Option Value}{newId:String} {nm' q':Str}{N':Addr}{bs' bm':List Value}{hdct':Bool}{sn':List Str}{sub':List Value}{ab':Bool}{col':Option Bool}{dd':Option Addr}{k0' k1' k2' k3' k5':Option Value}{newId':String} (hC:h.get? C=some (excClassObj nm q C N bs bm hdct sn sub ab col dd k0 k1 k2 k3 k5 newId))(hD:h.get? D=some (excClassObj nm' q' D N' bs' bm' hdct' sn' sub' ab' col' dd' k0' k1' k2' k3' k5' newId')) (he:h.get? e=some oe)(hcls:oe.cls=.ref C)(hbase:bm'.contains (.type "BaseException")=true)(hsub:(Value.ref C::bm).contains (.ref D)=true) (hq:Q true ⟨h,g,d,t,os⟩):wpAny M A (excMatches (.ref e) (.ref D)) Q E ⟨h,g,d,t,os⟩:=by
 have hcB:(Value.ref D::bm').contains (.type "BaseException")=true:=by rw[List.contains_cons,hbase,Bool.or_true]
 have f:=tc_notTuple;unfold excMatches;repeat (first | (with_reducible refine _as he ?_;rw[hcls]) | with_reducible refine _as hD ?_ | with_reducible refine _as hC ?_ | (with_reducible refine wpAny_isSubtype_exc hD ?_;rw[hcB]) | (with_reducible refine wpAny_isSubtype_exc hC ?_;rw[hsub]) | wp_step)
 exact hq
end
end PySem
namespace Dd
open L2
theorem _root_.L2.Inv.locals{X:Cx}{pins:List (Addr×Obj)}{O:L2.St}{H:Hp}{s:Shared}{h':Heap}{m':Str->Option Value}{t:Nat}(I:L2.Inv X pins O H s)(hn:h'.Ns X.env.locals m')(sb:Heap.SameBut X.env.locals s.heap h'): L2.Inv X pins (List.replicate X.N.length none) H {s with heap:=h',toks:=t}:=by
 have k:∀b o,b≠X.env.locals->s.heap.get? b=some o->h'.get? b=some o:=λb o n e=>sb.extBut _ _ n e;have neL:∀b o,X.s₀.heap.get? b=some o->b≠X.env.locals:=λb o e=>_D (_r (_o e) I.ok.above);refine⟨I.ok,I.os,I.bare,⟨λb o e n nf ne=>k b o (neL b o e) (I.base.keep b o e n nf ne),λb o e n hf ne=>?_,I.base.free,λb o e ne=>?_,I.base.tups,I.base.frzs,I.base.tbls⟩,⟨m',hn,λi x v h1 h2=>?_⟩,λx c e=>?_,I.free,I.freeC,λp hp=>?_,λa o e=>?_,by simp⟩
 ·obtain⟨sl,e1⟩:=I.base.slot b o e n hf ne;exact⟨sl,k b _ (neL b o e) e1⟩
 ·obtain⟨o1,e1⟩:=I.base.there b o e ne;exact⟨o1,k b _ (neL b o e) e1⟩
 ·rw[_be]at h2;split at h2<;>cases h2
 ·obtain⟨v,o,ho,hd⟩:=I.cell x c e;exact⟨v,o,k c o (I.cne x c e) ho,hd⟩
 ·obtain⟨q1,q2,q3,q4⟩:=I.pin p hp;exact⟨k p.1 p.2 q3 q1,q2,q3,q4⟩
 ·refine (I.hok a o e).stay (λb u hb q=>k b u (λz=>?_) q) (λ_ q=>q) λ_ _ q=>q;have:=I.free;rw[<- z]at this;rcases hb with rfl | hb;·rw[e]at this;cases this
  ·rw[hb]at this;cases this
noncomputable abbrev Cx.at_(X:Cx)(pn:List (Addr×Obj))(xe:Value->Shared->Prop):Cx:={X with pn:=pn,xe:=xe}
noncomputable abbrev Cx.mk_(X:Cx)(e:Addr)(pn:List (Addr×Obj)):Cx:={X with A:=X.A.mark (some (.ref e)),calm:=false,pn:=pn,xe:=λ_ _=>False}
theorem Cx.ok_at{X:Cx}(ok:X.Ok){pn:List (Addr×Obj)}{xe:Value->Shared->Prop}:(Cx.at_ X pn xe).Ok:= ⟨ok.mod,ok.kind,ok.glob,ok.blt,ok.above,ok.inj,ok.has,ok.cab,ok.hd,ok.frames,ok.stk,ok.exf,ok.bs,ok.bsz,ok.noex,ok.exfs,ok.funs,ok.frf⟩
theorem Cx.ok_of{X:Cx}{pn:List (Addr×Obj)}{xe:Value->Shared->Prop}(ok:(Cx.at_ X pn xe).Ok):X.Ok:= ⟨ok.mod,ok.kind,ok.glob,ok.blt,ok.above,ok.inj,ok.has,ok.cab,ok.hd,ok.frames,ok.stk,ok.exf,ok.bs,ok.bsz,ok.noex,ok.exfs,ok.funs,ok.frf⟩
theorem Cx.ok_mk{X:Cx}(ok:X.Ok){e:Addr}{pn:List (Addr×Obj)}:(Cx.mk_ X e pn).Ok:= ⟨ok.mod,ok.kind,ok.glob,ok.blt,ok.above,ok.inj,ok.has,ok.cab,(λh=>by cases h),ok.frames,ok.stk,ok.exf,ok.bs,ok.bsz,ok.noex,ok.exfs,ok.funs,ok.frf⟩
section
variable {X:Cx}{pins:List (Addr×Obj)}{O:L2.St}{H:Hp}{s:Shared}
theorem _root_.L2.Inv.at_(I:L2.Inv X pins O H s){xe:Value->Shared->Prop}:L2.Inv (Cx.at_ X (X.pn++pins) xe) [] O H s:= ⟨Cx.ok_at I.ok,I.os,I.bare,I.base,I.loc,I.cell,I.free,I.freeC,λp hp=>I.pin p (by simpa using hp),I.hok,I.len⟩
theorem _root_.L2.Inv.of_at{xe:Value->Shared->Prop}{pins':List (Addr×Obj)}(I:L2.Inv (Cx.at_ X (X.pn++pins) xe) pins' O H s):L2.Inv X pins O H s:= ⟨Cx.ok_of I.ok,I.os,I.bare,I.base,I.loc,I.cell,I.free,I.freeC,λp hp=>I.pin p (_ai _ hp),I.hok,I.len⟩
theorem _root_.L2.Inv.mk_(I:L2.Inv X pins O H s){e:Addr}:L2.Inv (Cx.mk_ X e (X.pn++pins)) [] O H s:= ⟨Cx.ok_mk I.ok,I.os,I.bare,I.base,I.loc,I.cell,I.free,I.freeC,λp hp=>I.pin p (by simpa using hp),I.hok,I.len⟩
theorem _root_.L2.Inv.of_mk{e:Addr}{pins':List (Addr×Obj)}(ok:X.Ok)(I:L2.Inv (Cx.mk_ X e (X.pn++pins)) pins' O H s):L2.Inv X pins O H s:= ⟨ok,I.os,I.bare,I.base,I.loc,I.cell,I.free,I.freeC,λp hp=>I.pin p (_ai _ hp),I.hok,I.len⟩
theorem Fly.land{P:Program}{w:World}{outer:List Env}{H H':Hp}{s s':Shared}{C ea:Addr}{h5 B:Heap}{a0:Value}(un:Un (frs outer) [] H H' s.heap s'.heap)(hok:HOk P w H' s'.heap)(fw:Heap.FlyingW B outer ea (.ref C) a0 s'.heap) (cov:∀b o,s'.heap.get? b=some o->(H' b≠none\/((∃o',s.heap.get? b=some o')/\b∉frs outer))->B.get? b=some o)(fw5:Heap.FlyingW B outer ea (.ref C) a0 h5)(sm:s'.heap.UpToSlots h5): s.heap.get? ea=none/\H' ea=none/\Un (frs outer) [] H (upd H' ea (z9q C ea)) s.heap h5/\HOk P w (upd H' ea (z9q C ea)) h5/\∃oe,h5.get? ea=some oe/\oe.cls=.ref C:=by
 have k:=fw5.1;obtain⟨oe,vs,T,oT,ts,he,⟨hcls,_⟩,hd,_⟩:=fw5.2.2.2;obtain⟨oe',vs',_,_,_,he',_,hd',_⟩:=fw.2.2.2;have new:s.heap.get? ea=none:=by cases z:s.heap.get? ea with
  | none=>rfl | some o=>
   exfalso;obtain⟨o1,e1⟩:=un.there ea o z (by simp);by_cases hf:ea∈frs outer
   ·obtain⟨_,o2,e2,hnf⟩:=fw.2.2.1.mem hf;rw[he']at e2;cases e2;exact hnf _ hd'
   ·have:=cov ea o1 e1 (.inr ⟨⟨o,z⟩,hf⟩);rw[fw.2.1]at this;cases this
 have hn:H' ea=none:=by cases z:H' ea with
  | none=>rfl | some u=>
   exfalso;have:=cov ea _ he' (.inl (by rw[z];simp));rw[fw.2.1]at this;cases this
 have ne:∀b o,s.heap.get? b=some o->b≠ea:=λb o e z=>by rw[z,new]at e;cases e
 have neH:∀b u,H' b=some u->b≠ea:=λb u e z=>by rw[z,hn]at e;cases e
 refine⟨new,hn,⟨λb o e n nf _=>?_,λb o e n hf _=>?_,λb o e n _=>?_,λb o e _=>?_,λb xs e=>?_,λb o u e=>?_,λb ps e=>?_⟩,λa o e=>?_,oe,he,hcls⟩
 ·have e1:=un.keep b o e n nf (by simp);exact k b o (cov b o e1 (.inr ⟨⟨o,e⟩,nf⟩))
 ·obtain⟨sl,e1⟩:=un.slot b o e n hf (by simp);obtain⟨_,o2,e2,hnf⟩:=fw.2.2.1.mem hf;rw[e1]at e2;cases e2;obtain⟨sl2,e3⟩:=sm b _ e1 hnf;exact⟨sl2,e3⟩
 ·rw[zj (ne b o e)];exact un.free b o e n (by simp)
 ·by_cases hf:b∈frs outer
  ·obtain⟨_,o2,e2,hnf⟩:=fw.2.2.1.mem hf;obtain⟨sl2,e3⟩:=sm b _ e2 hnf;exact⟨_,e3⟩
  ·obtain⟨o1,e1⟩:=un.there b o e (by simp);exact⟨o1,k b o1 (cov b o1 e1 (.inr ⟨⟨o,e⟩,hf⟩))⟩
 ·have q:=un.tups b xs e;rw[zj (neH b _ q)];exact q
 ·have q:=un.frzs b o u e;rw[zj (neH b _ q)];exact q
 ·obtain⟨more,q⟩:=un.tbls b ps e;exact⟨more,by rw[zj (neH b _ q)];exact q⟩
 ·by_cases z:a=ea
  ·subst z;rw[zH]at e;cases e;exact⟨⟨oe,vs,he,hcls,hd⟩,⟨oe,he⟩,λh1 h2 ⟨o,ws,q1,q2,q3⟩ st=>⟨o,ws,st o q1,q2,q3⟩⟩
  ·rw[zj z]at e;refine (HOk.cov hok (λb o e n=>cov b o e (.inl n)) k a o e).stay (λb u _ q=>q) (λb q=>?_) λb xs q=>?_;·rw[zj (neH b _ q)];exact q
   ·rw[zj (neH b _ q)];exact q
end
def zfb(K:W.Frag)(mg:Str->Option Value)(x y:Str):Prop:=∃C D,mg x=some (.ref C)/\mg y=some (.ref D)/\W.excIn K C bmV "ValueError.__new__"=true/\W.excIn K D bmV "ValueError.__new__"=true/\ ∀h₀:Heap,K.In h₀->∃bm N nm q bs hdct sn sub ab col dd k0 k1 k2 k3 k5,h₀.get? C=some (excClassObj nm q C N bs bm hdct sn sub ab col dd k0 k1 k2 k3 k5 "ValueError.__new__")/\(Value.ref C::bm).contains (.ref D)=true
section
variable {prog:Program}{w:World}{A:Around}{E:Value->Shared->Prop}{s:Shared}{env:Env}
theorem z0Z {e C D:Addr} {t:Expr} {n:Str} {b₀:Stmt} {suite:List Stmt} {pos:Pos} {z3B:List ExceptHandler} {Q:Flow->Shared->Prop} (h:wpAny (model prog w) (A.mark (some (.ref e))) (eval t env) (λc s₁=>c=.ref D/\ (∃bm N nm q bs hdct sn sub ab col dd k0 k1 k2 k3 k5 newId,s₁.heap.get? C=some (excClassObj nm q C N bs bm hdct sn sub ab col dd k0 k1 k2 k3 k5 newId)/\(Value.ref C::bm).contains (.ref D)=true)/\ (∃bm N nm q bs hdct sn sub ab col dd k0 k1 k2 k3 k5 newId,s₁.heap.get? D=some (excClassObj nm q D N bs bm hdct sn sub ab col dd k0 k1 k2 k3 k5 newId)/\bm.contains (.type "BaseException")=true)/\(∃oe,s₁.heap.get? e=some oe/\oe.cls=.ref C)/\ wpAny (model prog w) (A.mark (some (.ref e))) (setFlight (.ref e) none) (λ_ s₂=> wpAny (model prog w) (A.mark (some (.ref e))) (storeName env n (.ref e)) (λ_ s₃=> wpAny (model prog w) (A.mark (some (.ref e))) (execs (b₀::suite) env) (λf s₄=>wpAny (model prog w) A (do bindName env n .none;unbindBehindTheSuite env n pos) (λ_ s₅=>Q f s₅) E s₄) (AsSuiteRaised (model prog w) (A.mark (some (.ref e))) env n pos (notedBy (model prog w) (A.mark (some (.ref e))) env (cameBackBy (model prog w) A env E))) s₃) (notedBy (model prog w) (A.mark (some (.ref e))) env (cameBackBy (model prog w) A env E)) s₂) (notedBy (model prog w) (A.mark (some (.ref e))) env (cameBackBy (model prog w) A env E)) s₁) (notedBy (model prog w) (A.mark (some (.ref e))) env (cameBackBy (model prog w) A env E)) s): wpAny (model prog w) A (handleBy (.ref e) env (.ExceptHandler (some t) (some n) (b₀::suite) pos::z3B)) Q E s:=by
 refine wpAny_handleBy_cons (codeAny_handlers_test (_t h (λc s₁ h₁=>?_) λ_ _ y=>y)) (by intro q;cases q);obtain⟨rfl,⟨bm,N,nm,q,bs,hdct,sn,sub,ab,col,dd,k0,k1,k2,k3,k5,newId,hC,hsub⟩,⟨bm',N',nm',q',bs',hdct',sn',sub',ab',col',dd',k0',k1',k2',k3',k5',newId',hD,hbase⟩,⟨oe,he,hcls⟩,hk⟩:=h₁;obtain⟨hh,g,d,tk,os⟩:=s₁;exact uO hC hD he hcls hbase hsub (codeAny_handlers_suite_as hk)
end
end Dd
namespace PySem
open PySem.Sem (wp)
open PySem.W
structure ExcCls(K:Frag)(C:Addr):Prop where
 ga:findIn K (.ref C) "__getattribute__"=some (some (.builtin "BaseException.__getattribute__"))
 gh:findIn K (.ref C) "__getattr__"=some none
 cl:findIn K (.ref C) "__class__"=some (some (.builtin "object.__class__"))
 ob:mroIn K C (.type "object")=some true
 be:mroIn K C (.type "BaseException")=some true
 ty:∃d cd sl,K.lookup C=some ⟨.type "type",d,.cls cd,sl⟩
section
variable {prog:Program}{w:World}{A:Around}{E:Value->Shared->Prop}{K:Frag}{h:Heap}{g:Array GenState}{d:Drawn}{t:Nat}{os:OsState}{a C:Addr}{o:Obj}
theorem zeI{M:Model}(hx:h.get? a=some o)(hc:o.cls=.ref C):Looks M h (typeOf (.ref a)) (.ref C):=by
 intro A' Q' E' s' k q;unfold typeOf;refine _a (wpAny_loadPart (k _ _ hx) ?_);rw[hc];exact _j q
theorem z3f{R:Result->Shared->Prop}(X:K.In h)(Fx:ExcCls K C)(hx:h.get? a=some o)(hc:o.cls=.ref C)(hq:R (.ok (.ret (.ref C))) ⟨h,g,d,t,os⟩): codeAny (model prog w) A (.call (.builtin "getset_descriptor.__get__") ⟨[.builtin "object.__class__",.ref a,.ref C],[]⟩) R ⟨h,g,d,t,os⟩:=by
 have hT5:(⟨h,g,d,t,os⟩:Shared).TypeIs (.builtin "object.__class__") "getset_descriptor":=_cb;have L1:=looks_mroIn (M:=model prog w) X Fx.ob;rw[<- F.owner_object_class]at L1;refine _ci F.slot_gs_get.plain F.entry_gs_get (F.slot_gs_get.check _ _ _ _ _ _ _ _ hT5 (F.args_gs_get _ _ _) ?_);repeat (any_goals (first | assumption | (with_reducible refine _as hx ?_;rw[hc]) | (with_reducible refine L1.at ?_) | wp_step))
 refine⟨Code.quiet_builtin _ (by decide +kernel),codeAny_builtin F.entry_object_class ?_⟩;repeat (any_goals (first | assumption | (with_reducible refine _as hx ?_;rw[hc]) | wp_step))
theorem z0H{tk:Tok}{Q:Fin->Shared->Prop}(X:K.In h)(Fx:ExcCls K C)(hx:h.get? a=some o)(hc:o.cls=.ref C)(hq:Q (.done (.ret (.ref C))) ⟨h,g,d,t,os⟩): wpAny (model prog w) A (Builtin.«object.__getattribute__» ⟨[.ref a,.str "__class__" tk],[]⟩) Q E ⟨h,g,d,t,os⟩:=by
 have hT5:(⟨h,g,d,t,os⟩:Shared).TypeIs (.builtin "object.__class__") "getset_descriptor":=_cb;have L4:=looks_findIn (M:=model prog w) X Fx.cl;have f5:=_cb;have f6:=F.slot_gs_get.lookup;have f7:=F.slot_gs_set.lookup;repeat (any_goals (first | assumption | (with_reducible refine _as hx ?_;rw[hc]) | (with_reducible refine L4.at ?_) | wp_step))
 refine z3f X Fx hx hc ?_;repeat (any_goals (first | assumption | wp_step))
theorem z4P{M:Model}{nameV:Value}{Q:Unit->Shared->Prop}(X:K.In h)(Fx:ExcCls K C)(hx:h.get? a=some o)(hc:o.cls=.ref C)(hq:Q () ⟨h,g,d,t,os⟩):wpAny M A (checkBuiltinCall "BaseException.__getattribute__" ⟨[.ref a,nameV],[]⟩) Q E ⟨h,g,d,t,os⟩:=by
 have hk:builtinKind "BaseException.__getattribute__"=some .slot:=by decide +kernel
 have hsplit:splitId "BaseException.__getattribute__"=some ("BaseException","__getattribute__"):=by decide +kernel
 have L1:=looks_mroIn (M:=M) X Fx.be;have ha:=F.args_bexc_ga (.ref a) nameV;simp only[checkBuiltinCall,hk,hsplit];refine _a ?_
 ·unfold isInstance;repeat (first | (with_reducible refine _as hx ?_;rw[hc]) | (with_reducible refine L1.at ?_) | wp_step)
  exact hq
theorem z1U{tk:Tok}{R:Result->Shared->Prop}(X:K.In h)(Fx:ExcCls K C)(hx:h.get? a=some o)(hc:o.cls=.ref C)(hq:R (.ok (.ret (.ref C))) ⟨h,g,d,t,os⟩): codeAny (model prog w) A (.call (.builtin "BaseException.__getattribute__") ⟨[.ref a,.str "__class__" tk],[]⟩) R ⟨h,g,d,t,os⟩:= _ci F.attrBase_ValueError.ga.plain F.entry_bexc_ga (z4P X Fx hx hc (z0H X Fx hx hc hq))
theorem z43{tk:Tok}{fill expr:Bool}{Q:Value->Shared->Prop}(X:K.In h)(Fx:ExcCls K C)(hx:h.get? a=some o)(hc:o.cls=.ref C)(hq:Q (.ref C) ⟨h,g,d,t,os⟩): wpAny (model prog w) A (getAttrBy (.ref a) (.str "__class__" tk) fill expr) Q E ⟨h,g,d,t,os⟩:=by
 have f3:=F.attrBase_ValueError.ga.bind (.ref a);have hx0:(expr&&onTheHeap (Value.builtin "BaseException.__getattribute__"))=false:=by cases expr<;>rfl
 have hx2:(Value.builtin "BaseException.__getattribute__"==Value.builtin "object.__getattribute__")=false:=by decide +kernel
 have hx1:(onTheHeap (Value.ref C)&&Value.builtin "BaseException.__getattribute__"==Value.builtin "object.__getattribute__")=false:=by rw[hx2];rfl
 have L1:=looks_findIn (M:=model prog w) X Fx.ga;have L2:=looks_findIn (M:=model prog w) X Fx.gh;repeat (any_goals (first | assumption | (with_reducible refine _as hx ?_;rw[hc]) | (with_reducible refine L1.at ?_) | (with_reducible refine L2.at ?_) | wp_step))
 refine z1U X Fx hx hc ?_;repeat (any_goals (first | assumption | wp_step))
theorem z24{Q:Option Value->Shared->Prop}(X:K.In h)(Fx:ExcCls K C)(hx:h.get? a=some o)(hc:o.cls=.ref C)(hq:Q (some (.ref C)) ⟨h,g,d,t+1,os⟩):wpAny (model prog w) A (getAttr? (.ref a) "__class__") Q E ⟨h,g,d,t,os⟩:=by
 unfold getAttr? getAttrBy?;repeat (any_goals (first | assumption | with_reducible apply z43 X Fx hx hc | (with_reducible refine _as hx ?_;rw[hc]) | wp_step))
end
theorem z9k{K:Frag}{a C:Addr}(Fx:ExcCls K C):KitX K (.ref a) (.ref C) (λh=>∃o,h.get? a=some o/\o.cls=.ref C) where
 ty:=λ_ _ _ ⟨_,hx,hc⟩=>zeI hx hc;it:=λ_ _ X _=>by
  obtain⟨dd,cd,sl,ho⟩:=Fx.ty;intro A' Q' E' s' k q;unfold isType loadHead;exact _a (wpAny_loadPart (k _ _ (X _ _ ho)) (_j q))
 ne:=λh tp dd its n sl X htp=>by
  obtain⟨d2,cd,sl2,ho⟩:=Fx.ty;cases e:(Value.ref C==Value.ref tp) with
  | false=>rfl | true=>
   have e:=eq_of_beq e;cases e;have:=X _ _ ho;rw[htp]at this;simp at this
 ca:=λ{prog w A E Q s} X p hq=>by
  obtain⟨h,g,d,t,os⟩:=s;obtain⟨o,hx,hc⟩:=p;exact z24 X Fx hx hc hq
end PySem
namespace L2
end L2
namespace Dd
open L2
end Dd
namespace L2
open MeetsSeq MeetsSeq2 SeqAt
noncomputable def zeG(k:Bool):Value->Bool
 | .bool b=>b==k | _=>false
theorem z3h:∀{bs:List Bool}{its:List Value},yC (bs.map V.bl) its->its=bs.map Value.bool
 | [],_,.nil=>rfl | b::bs,_,.cons r rs=>by
  cases r;rw[z3h rs];rfl
theorem zb7:∀(bs:List Bool)(k:Bool)(m:Nat)(hm:m<bs.length),m<bs.idxOf k->(bs[m]==k)=false
 | [],k,m,hm,_=>absurd hm (by simp) | b::bs,k,m,hm,h=>by
  rw[List.idxOf_cons]at h;cases e:b==k with
  | true=>rw[e]at h;simp at h | false=>
   rw[e]at h;cases m with
   | zero=>simpa using e | succ m=>simpa using zb7 bs k m (by simpa using hm) (by simpa using h)
section
variable {X:Cx}
def zfE:V->List V->Hp->VK->Prop:=λx vs H Q=>∃(p:Addr)(bs:List Bool)(k:Bool),x=.ref p/\vs=[.bl k]/\Rd H p (.lst (bs.map V.bl))/\Q (.int (bs.count k:Nat)) H
theorem z5y:MtR X "list.count" zfE:=by
 intro pins s O H x vs v us Q I rx rv h;obtain⟨p,bs,k,rfl,rfl,hp,q⟩:=h;cases rx;obtain⟨u,rfl,ru⟩:=vals1 rv;cases ru;obtain⟨_,its,n,r,e1⟩:=hp.ok I.hok;cases z3h r;refine _bl PySem.F.slot_list_count ⟨_,e1,rfl⟩ PySem.F.entry_list_count (PySem.F.args_list_count_2 _ _) (list_countAt p _ n _ _ (.bool k) (zeG k)) ⟨e1,λy hy=>?_,?_⟩
 ·obtain⟨b,_,rfl⟩:=_I.mp (List.mem_toArray.mp hy);exact EqAt.bool_bool b k
 ·have e:(List.map Value.bool bs).countP (zeG k)=bs.count k:=by rw[List.countP_map];rfl
  refine⟨.int (bs.count k:Nat),H,I.kept (λb o e=>e),⟨s.toks,?_⟩,q⟩;rw[<- e]
def zfO:V->List V->Hp->VK->Prop:=λx vs H Q=>∃(p:Addr)(bs:List Bool)(k:Bool),x=.ref p/\vs=[.bl k]/\Rd H p (.lst (bs.map V.bl))/\k∈bs/\bs.length<2 ^ 62/\Q (.int (bs.idxOf k:Nat)) H
theorem z5n:MtR X "list.index" zfO:=by
 intro pins s O H x vs v us Q I rx rv h;obtain⟨p,bs,k,rfl,rfl,hp,hk,hl,q⟩:=h;cases rx;obtain⟨u,rfl,ru⟩:=vals1 rv;cases ru;obtain⟨_,its,n,r,e1⟩:=hp.ok I.hok;cases z3h r;have hj:bs.idxOf k<bs.length:=List.idxOf_lt_length_iff.mpr hk;refine _bl PySem.F.slot_list_index ⟨_,e1,rfl⟩ PySem.F.entry_list_index (PySem.F.args_list_index_2 _ _) (list_indexAt p _ n _ _ (.bool k) (zeG k) (bs.idxOf k) (by simpa using hj) (by omega) ?_ ?_) ⟨e1,λy hy=>?_,?_⟩
 ·have:=List.getElem_idxOf hj;simp[zeG,this]
 ·intro m hm hlt;have hm':m<bs.length:=by simpa using hm
  have:=zb7 bs k m hm' hlt;simpa[zeG] using this
 ·obtain⟨b,_,rfl⟩:=_I.mp (List.mem_toArray.mp hy);exact EqAt.bool_bool b k
 ·exact⟨.int (bs.idxOf k:Nat),H,I.kept (λb o e=>e),⟨s.toks,rfl⟩,q⟩
end
end L2
namespace Dd
open L2
end Dd
namespace L2
structure uv(k:Nat)(A:Around):Prop where
 dp:A.depth+3*k+5<recursionLimit
 un:A.units+16*k+200<cLine
 gd:A.guards=some []
theorem z0m.h{k:Nat}{A:Around}(r:z0m k A):uv k A:=⟨r.dp,r.un,r.gd⟩
theorem uv.mono{j k:Nat}{A:Around}(r:uv k A)(h:j<=k):uv j A:=⟨by have:=r.dp;omega,by have:=r.un;omega,r.gd⟩
theorem uv.deeper{k:Nat}{A:Around}(r:uv (k+1) A)(env:Env):uv k (A.deeper env):= ⟨by have:=r.dp;show A.depth+1+3*k+5<_;omega,by have:=r.un;show A.units+3+16*k+200<_;omega,r.gd⟩
theorem uv.depth{k:Nat}{A:Around}(r:uv k A):A.depth<recursionLimit:=by have:=r.dp;omega
theorem uv.units{k:Nat}{A:Around}(r:uv k A):A.units+64<cLine:=by have:=r.un;omega
structure z8k(P:Program)(w:World)(K:W.Frag)(mg:Str->Option Value)(base:Heap)(CX:CXT)(k:Nat)(f:Addr)(fd:FuncData)(ps:List Str)(sp:Sp):Prop where
 len:∀vs H Q E,sp vs H Q E->vs.length=ps.length
 run:∀(A:Around)(outer:List Env)(s:Shared)(H:Hp)(args:Args)(us:List Value)(vs:List V)(Q:VK)(E:XK),uv k A->zdS P w K mg base A outer s H->BindsTo s fd args (ps.zip us)->yC vs us->sp vs H Q E-> codeAny (model P w) A (.call (.ref f) args) (CR CX outer P w H s Q E) s
theorem zda {CX:CXT} {P:Program} {w:World} {K:W.Frag} {mg:Str->Option Value} {base:Heap} {k:Nat} {f:Addr} {name qual:Str} {params:Arguments} {body:List Stmt} {scope:Scope} {dV kV doc pm cdv ct oc:Value} {an od:Option Addr} {osl:Array (Option Value)} {N ps:List Str} {sp:Sp} (lk:K.lookup f=some ⟨oc,od,.func (W.fnOf name qual params body scope dV kV doc pm an cdv ct),osl⟩) (hcd:W.codeIn K cdv qual=true) (S:zG N ps scope) (len:∀vs H Q E,sp vs H Q E->vs.length=ps.length) (hbody:∀(A:Around) (outer:List Env) (s:Shared) (H:Hp) (vs:List V) (Q:VK) (E:XK),uv k (A.deeper (envOfC qual scope s.heap.objs.size f cdv))->sp vs H Q E-> ∃t,PSs (z1h CX P w K mg base N qual scope f cdv A outer s H E) body t/\t {nx:=λ_ H'=>Q .non H',rt:=Q} (start N vs) H): z8k P w K mg base CX (k+1) f (W.fnOf name qual params body scope dV kV doc pm an cdv ct) ps sp:=by
 refine⟨len,λA outer s H args us vs Q E hr e0 hb r hsp=>?_⟩;have hl:=len _ _ _ _ hsp;have KX:K.In s.heap:=e0.mod.kin.keeps λb o e=>(e0.bs b o e).1;have lim:s.heap.NoLimit:=e0.mod.nolimit.keeps λb o e=>(e0.bs b o e).1;have hkind:∀y∈ps.zip us,scope.names.lookup y.1=some .local\/(scope.names.lookup y.1=some .cell/\((cellsFrom (s.heap.objs.size+1) scope.names []).lookup y.1).isSome=true):=λ⟨n,v⟩ hy=>by
  rcases S.par n (_bq hy).1 with q | q;·exact .inl q
  ·exact .inr ⟨q,_cX _ _ _ (.inl q)⟩
 refine codeAny_call_function hr.depth (KX _ _ lk) rfl S.co S.gen rfl (W.codeRec_of KX hcd) (hb _ _ _ _ ?_);refine wpAny_newFunctionEnv_cells S.kind hkind λenv he s1 x=>?_;subst he;refine⟨lim.keeps x.toInCall.keep,codeAny_func ?_⟩;obtain⟨t,ht,hq⟩:=hbody A outer s H vs Q E (hr.deeper _) hsp;have I:Inv (z1h CX P w K mg base N qual scope f cdv A outer s H E) [] (start N vs) H s1:=z47 S e0 hl r x;refine _t (ht [] s1 (start N vs) H _ I hq) (λfl s' hs=>?_) λe s' hs=>hs;have fin:∀{O':St} {H':Hp} {v:V} {u:Value},Inv (z1h CX P w K mg base N qual scope f cdv A outer s H E) [] O' H' s'->xc v u->Q v H'->CE outer P w H s Q u s':= λ{O' H' v u} J rv q=>⟨v,H',J.os,J.bare,J.base,J.hok,rv,q⟩;cases fl with
 | ret u=>
  obtain⟨v,O',H',J,rv,q⟩:=hs;exact fin J rv q | next=>
  obtain⟨O',H',J,q⟩:=hs;exact fin (v:=V.non) (u:=Value.none) J rfl q | brk=>
  obtain⟨_,_,_,q⟩:=hs;exact False.elim q | cont=>
  obtain⟨_,_,_,q⟩:=hs;exact False.elim q
section
variable {X:Cx}{CX:CXT}{k:Nat}{f:Addr}{fd:FuncData}{ps:List Str}{sp:Sp}{ds:List Value}{dvs:List V}{E:XK}{x:Str}{p pos:Pos}{e:Expr}{es:List Expr}{t:TA}
theorem zbO{pins:List (Addr×Obj)}{O:St}{H:Hp}{s:Shared}{Q:VK}{us:List Value}{vs:List V}(F:z8k X.prog X.w X.K X.mg X.base CX k f fd ps sp)(hr:uv k X.A)(hb:Binds X.K fd ps ds)(hd:yC dvs ds)(hx:Passes CX X E) (I:Inv X pins O H s)(r:yC vs us)(h:sp (vs++dvs) H Q E):wpAny (model X.prog X.w) X.A (call (.ref f) us) (EP X pins O Q) X.xe s:=by
 have r2:yC (vs++dvs) (us++ds):=r.append hd;have hl:(us++ds).length=ps.length:=by rw[<- r2.length];exact F.len _ _ _ _ h
 refine wpAny_call (_cA (F.run X.A X.stack s H ⟨us,[]⟩ (us++ds) (vs++dvs) Q E hr I.env0 (hb s us I.kIn hl) r2 h) λr s' hq=>?_);cases r with
 | error e=>exact hx pins O H s e s' I hq | ok fl=> cases fl with
  | ret u=>exact I.after hq | next=>exact False.elim hq | brk=>exact False.elim hq | cont=>exact False.elim hq
theorem z98 (F:z8k X.prog X.w X.K X.mg X.base CX k f fd ps sp) (hr:uv k X.A) (hg:Gl X x) (hm:X.mg x=some (.ref f)) (hk:W.keepIn X.K (.ref f)=true) (hb:Binds X.K fd ps ds) (hd:yC dvs ds) (hx:Passes CX X E) (ha:PA X (e::es) t) (hdb:(x==("__debug__":Str))=false:=by decide) (he:starEach (e::es) X.env=(false,eval e X.env)::starEach es X.env:=by rfl) (hpl:(backTo pos (starEach es X.env)).any (·.1)=false:=by rfl): PE X (.Call (.Name x p) (e::es) [] pos) (zdG sp dvs E t):=by
 intro pins s O H Q I h;refine _a1 (z1O I hg hm ?_ hdb);refine W.callWith_K (h₀:=X.base) I.ok.mod.kin hk (thn (ha pos pins s O H _ I h) λus s1 ⟨vs,H1,I1,r,q⟩=>⟨I1.kIn,?_⟩) he hpl;exact zbO F hr hb hd hx I1 r q
end
section
variable {P:Program}{w:World}{K:W.Frag}{mg:Str->Option Value}{base:Heap}
theorem Fun.okH{x qual:Str}{st:Stmt}{f:Addr}{fd:FuncData}{N ps:List Str}{k:Nat}{sp:Sp}(F:Fun K x qual st f fd)(S:zG N ps (zi st))(len:∀vs H Q E,sp vs H Q E->vs.length=ps.length) (hbody:∀(cdv:Value)(A:Around)(outer:List Env)(s:Shared)(H:Hp)(vs:List V)(Q:VK)(E:XK),uv k (A.deeper (envOfC qual (zi st) s.heap.objs.size f cdv))->sp vs H Q E-> ∃t,PSs (z1h CX0 P w K mg base N qual (zi st) f cdv A outer s H E).nox (wQ st) t/\t {nx:=λ_ H'=>Q .non H',rt:=Q} (start N vs) H):z8k P w K mg base CX0 (k+1) f fd ps sp:=by
 obtain⟨oc,od,kV,doc,pm,an,cdv,ct,osl,rfl,lk,hcd⟩:=F.ex;refine zda lk hcd S len λA outer s H vs Q E hr hsp=>?_;obtain⟨t,h,q⟩:=hbody cdv A outer s H vs Q E hr hsp;exact⟨t,h.nox,q⟩
end
end L2
namespace Dd
open L2
def zfe(P:Program)(w:World)(K:W.Frag)(mg:Str->Option Value)(base:Heap)(CX:CXT)(x:Str)(n:Nat)(M:Mir):Prop:= ∃f fd ps,z8k P w K mg base CX n f fd ps (zaK ⟨mg,K⟩ M)/\Binds K fd ps []/\W.keepIn K (.ref f)=true/\mg x=some (.ref f)
section
variable {X:Cx}{E:XK}{e:Expr}{es:List Expr}{pos:Pos}{CX:CXT}
theorem zcH {x:Str} {p:Pos} {n:Nat} {M:Mir} {f:FA} (F:zfe X.prog X.w X.K X.mg X.base CX x n M) (hr:uv n X.A) (hx:Passes CX X E) (hg:Gl X x) (ha:RA X E (e::es) f) (hdb:(x==("__debug__":Str))=false:=by decide) (he:starEach (e::es) X.env=(false,eval e X.env)::starEach es X.env:=by rfl) (hpl:(backTo pos (starEach es X.env)).any (·.1)=false:=by rfl):RE X E (.Call (.Name x p) (e::es) [] pos) (ze M f):=by
 obtain⟨fa,fd,ps,F,hb,hk,hm⟩:=F;refine zX (z98 F hr hg hm hk hb .nil hx ha hdb he hpl) λO H Q ⟨Y,ρ,s,r,en,h⟩=>?_;refine vW (k:=fun ρ xs s1=>M xs s1) r en h _ λvs H2 Y2 s2 ds r2 en2 dn2 stp2 h3=>?_;rw[_bN];exact⟨Y2,s2,ds,r2,dn2,h3⟩
end
section
variable {P:Program}{w:World}{K:W.Frag}{mg:Str->Option Value}{base:Heap}
theorem zc7{x qual:Str}{st:Stmt}{f:Addr}{fd:FuncData}{N ps:List Str}{k n:Nat}{fs:FS}(F:Fun K x qual st f fd)(hm:mg x=some (.ref f))(hb:Binds K fd ps [])(S:zG N ps (zi st))(hn:ps.length=n) (body:∀(cdv:Value)(A:Around)(outer:List Env)(s:Shared)(H:Hp)(E:XK),uv k (A.deeper (envOfC qual (zi st) s.heap.objs.size f cdv))-> RSs (z1h CX0 P w K mg base N qual (zi st) f cdv A outer s H E).nox E0 (wQ st) fs):zfe P w K mg base CX0 x (k+1) (Mof N n fs):=by
 subst hn;refine⟨f,fd,ps,F.okH S (λvs H Q E h=>?_) (λcdv A outer s H vs Q E hr h=>?_),hb,F.kp,hm⟩
 ·obtain⟨Y,s,ds,_,dn,h⟩:=h;unfold Mof at h;split at h;·rename_i e;rw[dn.length];exact e
  ·exact h.elim
 ·obtain⟨Y,st0,ds,r,dn,h⟩:=h;refine⟨_,body cdv A outer s H E hr,Y,zt N ds,st0,r,qY dn,?_⟩;unfold Mof at h;split at h
  ·split at h
   ·rename_i d s' e;rw[e];intro fv H' Y' stp fd;cases fv with
    | rt v=>exact h v H' Y' stp fd | _=>exact (show False from fd).elim
   ·rename_i ρ s' e;rw[e];intro fv H' Y' stp fd;cases fv with
    | nx v=>exact h .non H' Y' stp (by simp[Den]) | _=>exact (show False from fd).elim
   ·exact h.elim
  ·exact h.elim
end
theorem z0b{X:Cx}:xH X (.builtin "isinstance") (λxs H Q=>∃(a C:Addr)(y:V)(b:Bool),xs=[.ref a,y]/\H a=some (z9q C a)/\PySem.ExcCls X.K C/\(∀c,xc y c->W.kitOne X.K (.ref C) c=some b)/\Q (.bl b) H):=by
 intro pins s O H xs us Q I r h;obtain⟨a,C,y,b,rfl,ha,hc,hk,q⟩:=h;obtain⟨u,v,rfl,ru,rv⟩:=vals2 r;cases ru;obtain⟨⟨o,vs,h1,h2,_⟩,_⟩:=(show xf X.prog X.w H s.heap a (z9q C a) from I.hok a _ ha);exact _bd (PySem.z9k hc) I.kIn ⟨o,h1,h2⟩ (hk v rv) (λz=>nomatch z) λtk=>⟨.bl b,H,I.tok _,rfl,q⟩
structure z3T(mg:Gm)(rs cs:List Str):Prop where
 cls:∀c∈rs,∀C,mg.m c=some (.ref C)->PySem.ExcCls mg.K C
 has:∀d∈cs,∃D,mg.m d=some (.ref D)
 one:∀c∈rs,∀d∈cs,∀C D,mg.m c=some (.ref C)->mg.m d=some (.ref D)->W.kitOne mg.K (.ref C) (.ref D)=some (c==d)
 val:∀c∈rs,∀C,mg.m c=some (.ref C)->W.kitOne mg.K (.ref C) (.type "ValueError")=some true
noncomputable def zfc(rs:List Str)(T:Str):D->Sto->R D
 | .exc c,s=>if c∈rs then .ok (.bl (c==T)) s else .no | _,_=>.no
noncomputable def z0u(rs:List Str)(T:Str)(f:FE):FE:=fun ρ s=>(f ρ s).bind λd s1=>zfc rs T d s1
noncomputable def zfd(rs:List Str):D->Sto->R D
 | .exc c,s=>if c∈rs then .ok (.bl true) s else .no | _,_=>.no
noncomputable def zgQ(rs:List Str)(f:FE):FE:=fun ρ s=>(f ρ s).bind λd s1=>zfd rs d s1
section
variable {X:Cx}{E:XK}{e:Expr}{pos:Pos}
theorem qP{p p2:Pos}{T:Str}{rs cs:List Str}{f:FE}(FM:z3T (gm X) rs cs)(hT:T∈cs)(hg:Gl X "isinstance")(hm:X.mg "isinstance"=none)(hg2:Gl X T)(he:RE X E e f) (hd:(T==("__debug__":Str))=false:=by decide) (hs:starEach [e,.Name T p2] X.env=(false,eval e X.env)::starEach [.Name T p2] X.env:=by rfl)(hpl:(backTo pos (starEach [.Name T p2] X.env)).any (·.1)=false:=by rfl):RE X E (.Call (.Name "isinstance" p) [e,.Name T p2] [] pos) (z0u rs T f):=by
 obtain⟨D,hD⟩:=FM.has T hT;exact zX (z0F z0b hg hm (by decide +kernel) (wc he (wc (z5p hg2 hD (show xc (.ref D) (.ref D) from rfl) hd) qd (zr ..)) hs) (by decide) (by decide) hs hpl) λO H Q ⟨Y,ρ,s,r,en,h⟩=>by
  refine yc (k:=fun ρ d s1=>zfc rs T d s1) r en h _ λv H1 Y1 s1 d r1 en1 dn stp h1=>?_;unfold zfc at h1;split at h1
  ·rename_i c;split at h1
   ·rename_i hc;simp only[Den]at dn;obtain⟨a,C,rfl,hC,hH⟩:=dn;exact⟨a,C,.ref D,c==T,rfl,hH,FM.cls c hc C hC,λz hz=>by cases hz;exact FM.one c hc T hT C D hC hD,okR.here (b:=V.bl (c==T)) h1 r1 vz⟩
   ·exact h1.elim
  ·exact h1.elim
theorem zfx{p p2:Pos}{rs cs:List Str}{f:FE}(FM:z3T (gm X) rs cs)(hg:Gl X "isinstance")(hm:X.mg "isinstance"=none)(hg2:Gl X "ValueError")(hm2:X.mg "ValueError"=none)(he:RE X E e f) (hs:starEach [e,.Name "ValueError" p2] X.env=(false,eval e X.env)::starEach [.Name "ValueError" p2] X.env:=by rfl)(hpl:(backTo pos (starEach [.Name "ValueError" p2] X.env)).any (·.1)=false:=by rfl):RE X E (.Call (.Name "isinstance" p) [e,.Name "ValueError" p2] [] pos) (zgQ rs f):= zX (z0F z0b hg hm (by decide +kernel) (wc he (wc (z7X hg2 hm2 (by decide +kernel) (show xc (.ty "ValueError") (.type "ValueError") from rfl)) qd (zr ..)) hs) (by decide) (by decide) hs hpl) λO H Q ⟨Y,ρ,s,r,en,h⟩=>by
  refine yc (k:=fun ρ d s1=>zfd rs d s1) r en h _ λv H1 Y1 s1 d r1 en1 dn stp h1=>?_;unfold zfd at h1;split at h1
  ·rename_i c;split at h1
   ·rename_i hc;simp only[Den]at dn;obtain⟨a,C,rfl,hC,hH⟩:=dn;exact⟨a,C,.ty "ValueError",true,rfl,hH,FM.cls c hc C hC,λz hz=>by cases hz;exact FM.val c hc C hC,okR.here (b:=V.bl true) h1 r1 vz⟩
   ·exact h1.elim
  ·exact h1.elim
end
section
variable {X:Cx}{E:XK}{e a b:Expr}{es:List Expr}{pos:Pos}{CX:CXT}
theorem zfR{x:Str}{g:Addr}{p:Pos}(hg:Gl X x)(hm:X.mg x=some (.ref g))(hd:(x==("__debug__":Str))=false:=by decide):RE X E (.Name x p) (eC (.fn x)):= zX (z5p hg hm (show xc (.ref g) (.ref g) from rfl) hd) λO H Q ⟨Y,ρ,s,r,en,h⟩=>okR.here h r (by simp only[Den];exact⟨g,rfl,hm⟩)
theorem z76{x:Str}{p:Pos}{n:Nat}{M:Mir}(F:Has X.prog X.w X.K X.mg X.base CX x n M)(hg:Gl X x)(hd:(x==("__debug__":Str))=false:=by decide):RE X E (.Name x p) (eC (.fn x)):=by
 obtain⟨f,_,_,_,_,_,hm⟩:=F;exact zfR hg hm hd
noncomputable def z2v(g:FE)(Ms:List (Str×Mir))(f:FA):FE:=fun ρ s=>(g ρ s).bind λd s1=>match d with
 | .fn y=>match Ms.lookup y with
  | some M=>(f ρ s1).bind λxs s2=>M xs s2 | none=>.no
 | _=>.no
theorem zam(args:List Expr)(sp:Pos)(env:Env):eval (.Call (.Subscript a b sp) args [] pos) env=(do callWith pos (<- eval (.Subscript a b sp) env) [] (backTo pos (starEach args env)) (backToKw pos (keywordEach [] env))):=rfl
theorem z8W {sp:Pos} {n:Nat} {Ms:List (Str×Mir)} {g:FE} {f:FA} (F:∀y M,Ms.lookup y=some M->Has X.prog X.w X.K X.mg X.base CX y n M) (hr:z0m n X.A) (hxx:Passes CX X E) (hg:RE X E (.Subscript a b sp) g) (ha:RA X E (e::es) f) (he:starEach (e::es) X.env=(false,eval e X.env)::starEach es X.env:=by rfl) (hpl:(backTo pos (starEach es X.env)).any (·.1)=false:=by rfl):RE X E (.Call (.Subscript a b sp) (e::es) [] pos) (z2v g Ms f):=by
 intro pins s O H Q I ⟨Y,ρ,st,r,en,h⟩;unfold z2v at h;rw[zam];refine _a (thn (hg pins s O H (λv H1=>∃Y1 s1 d,yJ (gm X) H Y H1 Y1 s1/\Den (gm X) H1 Y1 d v/\okR (gm X) E H1 Y1 (Den (gm X)) (match d with
  | .fn y=>match Ms.lookup y with
   | some M=>(f ρ s1).bind λxs s2=>M xs s2 | none=>.no
  | _=>.no) Q) I ⟨Y,ρ,st,r,en,(okR.bind (Dn:=Den (gm X)) h).imp λv H1 q=>q⟩) λu s1 ⟨v,H1,I1,r1,Y1,st1,d,stp,dn,h1⟩=>?_);split at h1
 ·rename_i y;split at h1
  ·rename_i M hM;simp only[Den]at dn;obtain⟨gg,rfl,hmg⟩:=dn;cases r1;obtain⟨fa,fd,ps,Fk,hb,hk,hm⟩:=F y M hM;have e0:gg=fa:=by
    have hmg':X.mg y=some (.ref gg):=hmg;rw[hmg']at hm;cases hm;rfl
   subst e0;have hA:=ha pos pins s1 O H1 (λvs H2=>zaK (gm X) M (vs++[]) H2 Q E) I1 (vW (k:=fun ρ xs s1=>M xs s1) stp.rep (en.mono stp) h1 _ λvs H2 Y2 s2 ds r2 en2 dn2 stp2 h3=>by
    rw[_bN];exact⟨Y2,s2,ds,r2,dn2,h3⟩);refine W.callWith_K (h₀:=X.base) I1.ok.mod.kin hk (thn hA λus s2 ⟨vs,H2,I2,r2,q⟩=>⟨I2.kIn,?_⟩) he hpl;exact zbm Fk hr hb .nil hxx I2 r2 q
  ·exact h1.elim
 ·exact h1.elim
end
end Dd
namespace PySem
open PySem.AutoSeq1 (wpAny_loadPart')
open MeetsSeq MeetsSeq2 SeqAt
theorem z3K (l:Addr) (items:Array Value) (n:Nat) (dd:Option Addr) (sl:Array (Option Value)) (x:Int) (u:Tok) (h2:2<=x) (hx:x<2 ^ 63) (hne:items.isEmpty=false) (hc:¬ (items.size:Int)*x > (2 ^ 63-1) / 8) (ht:Builtin.Tuple.tupleTooMany ((items.size:Int)*x)=false) (hs:((List.replicate x.toNat items).foldl (· ++ ·) #[]).size<=sizeLine): Meets (Builtin.«tuple.__mul__» ⟨[.ref l,.int x u],[]⟩) (λA R s=>s.heap.get? l=some {cls:=.type "tuple",dict:=dd,data:=.seq items n,slots:=sl}/\R (.ok (.ret (.ref s.heap.objs.size))) {s with heap:=s.heap.push {cls:=.type "tuple",data:=.seq ((List.replicate x.toNat items).foldl (· ++ ·) #[])}}):= .of_wp λprog w A R s h=>by
  obtain⟨hp,g,d,tk,os⟩:=s;obtain⟨hl,h⟩:=h;have e1:(x==1)=false:=by simp;omega
  have e2:decide (x<=0)=false:=by simp;omega
  have e3:decide (x < -(2 ^ 63))=false:=by simp;omega
  have e4:decide (x ≥ 2 ^ 63)=false:=by simp;omega
  wp_walk using _aG hl;rw[_l (by simp;omega)];wp_walk using _aG hl;rw[_l hc];wp_walk;exact⟨_,rfl,h⟩
theorem z2N(l:Addr)(items:Array Value)(n:Nat)(dd:Option Addr)(sl:Array (Option Value))(u:Tok): Meets (Builtin.«tuple.__mul__» ⟨[.ref l,.int 1 u],[]⟩) (λA R s=>s.heap.get? l=some {cls:=.type "tuple",dict:=dd,data:=.seq items n,slots:=sl}/\R (.ok (.ret (.ref l))) s):= .of_wp λprog w A R s h=>by
  obtain⟨hp,g,d,tk,os⟩:=s;obtain⟨hl,h⟩:=h;wp_walk using _aG hl;exact⟨_,rfl,h⟩
theorem qi:fillsNumberSlot (.type "tuple") "mul"=pure false:= fillsNumberSlot_seq (id:="tuple.__mul__") (r:=some (.builtin "tuple.__rmul__")) _cf.lookup (by decide +kernel) F.slot_tuple_rmul.lookup (by decide +kernel)
theorem z09:seqRepeat? (.type "tuple")=pure (some (.builtin "tuple.__mul__")):=by
 unfold seqRepeat?;rw[seqSlot_of (T:="tuple") (name:="__mul__") (id:="tuple.__mul__") _cf.lookup (by decide +kernel),seqSlot_of (T:="tuple") (name:="__rmul__") (id:="tuple.__rmul__") F.slot_tuple_rmul.lookup (by decide +kernel)];rfl
theorem uh(a:Int)(t:Tok)(l:Addr)(items:Array Value)(n:Nat)(dd:Option Addr)(sl:Array (Option Value)): Meets (Builtin.«int.__rmul__» ⟨[.int a t,.ref l],[]⟩) (λ_ R s=>s.heap.get? l=some {cls:=.type "tuple",dict:=dd,data:=.seq items n,slots:=sl}/\R (.ok (.ret Value.notImplemented)) s):= .of_wp λprog w A R s h=>by obtain⟨hp,g,d,tk,os⟩:=s;obtain⟨hl,h⟩:=h;wp_walk;exact⟨_,rfl,h⟩
end PySem
namespace L2
section
variable {X:Cx}
def zgc:R2:=λx y H Q=>∃l k xs,x=.ref l/\y=.int k/\H l=some (.tup xs)/\1<=k/\xs≠[]/\xs.length*k.toNat<=sizeLine/\ ((k=1->Q (.ref l) H)/\∀p,H p=none->Q (.ref p) (upd H p (.tup (List.replicate k.toNat xs).flatten)))
theorem zcU:OpR X (binaryOp .Mult) zgc:=by
 intro pins s O H x y v u Q I rx ry h;obtain⟨l,k,xs,rfl,rfl,hH,h1,hne,hz,q1,q⟩:=h;cases rx;obtain⟨t,rfl⟩:=ry;obtain⟨z,its,r,o,e,c1,d1,n,w1⟩:=(show xf X.prog X.w H s.heap l (.tup xs) from I.hok l _ hH);obtain⟨cls,dd,data,sl⟩:=o;simp only at c1 d1 w1;subst c1 d1 w1;have hl:xs.length=its.length:=by have:=r.length;omega
 have hp:0<its.length:=by rw[<- hl];exact _cx.mpr hne
 have hk:(k.toNat:Int)=k:=by omega
 have hlen:its.length*k.toNat<=sizeLine:=by rw[<- hl];exact hz
 have hkle:k.toNat<=sizeLine:=_O (Nat.le_mul_of_pos_left _ hp) hlen;have hS:(sizeLine:Nat)<=(2 ^ 63-1) / 8:=by decide
 have hkb:k<2 ^ 63:=by
  have:k.toNat<=(2 ^ 63-1) / 8:=_O hkle hS;omega
 have hm:(its.toArray.size:Int)*k=((its.length*k.toNat:Nat):Int):=by rw[_k,_bP,hk]
 by_cases ho:k=1
 ·subst ho;refine _bH (T:="tuple") (U:="int") (by decide) ⟨_,e,rfl⟩ (λs'=>_cd s' 1 t) qi F.fills_int_mul _br z09 _cZ.lookup (_bl _br (_cd s 1 t) _c0 (_cQ _ _) (uh 1 t l its.toArray n _ sl) ⟨e,rfl,⟨_,e,rfl⟩,_bl _cf ⟨_,e,rfl⟩ F.entry_tuple_mul (F.args_tuple_mul_2 _ _) (z2N l its.toArray n _ sl t) ⟨e,?_⟩⟩);exact⟨.ref l,H,I,rfl,q1 rfl⟩
 ·have hnew:List.foldl (λx1 x2=>x1++x2) #[] (List.replicate k.toNat its.toArray)=(List.replicate k.toNat its).flatten.toArray:=by
   have:=foldl_rep its k.toNat [];rw[_cn]at this;exact this
  refine _bH (T:="tuple") (U:="int") (by decide) ⟨_,e,rfl⟩ (λs'=>_cd s' k t) qi F.fills_int_mul _br z09 _cZ.lookup (_bl _br (_cd s k t) _c0 (_cQ _ _) (uh k t l its.toArray n _ sl) ⟨e,rfl,⟨_,e,rfl⟩,_bl _cf ⟨_,e,rfl⟩ F.entry_tuple_mul (F.args_tuple_mul_2 _ _) (z3K l its.toArray n _ sl k t (by omega) hkb (by cases its with | nil=>simp at hp | cons a b=>rfl) (by rw[hm];have:=_O hlen hS;omega) (by rw[hm];unfold Builtin.Tuple.tupleTooMany;exact _N (by omega)) (by rw[hnew,_k,len_rep,_aV];exact hlen)) ⟨e,?_⟩⟩);rw[hnew];have hlz:(List.replicate k.toNat xs).flatten.length<=sizeLine:=by rw[len_rep,_aV];exact hz
  exact⟨.ref _,_,I.laid (o:=.tup (List.replicate k.toNat xs).flatten) (t':=s.toks) (λb u q=>_e _ q) (_d _) ⟨hlz,_,r.rep k.toNat,z7k.new _ _⟩,rfl,q _ I.fresh⟩
end
end L2
namespace Dd
open L2
section
variable {X:Cx}{E:XK}
noncomputable def z57:D->D->Sto->R D
 | .tup xs,.int k,s=>if 1<=k/\xs≠[]/\xs.length*k.toNat<=cap then .ok (.tup (List.replicate k.toNat xs).flatten) s else .no | _,_,_=>.no
theorem zeJ:∃r,OpR X (binaryOp .Mult) r/\OpF X E r z57:=by
 refine⟨_,zcU,?_⟩;intro H Y s d1 d2 v1 v2 Q r h1 h2 h;unfold z57 at h;split at h
 ·rename_i xs k;cases yp h2;split at h
  ·rename_i hl;have hden:=h1;simp only[Den]at h1;obtain⟨a,vs,rfl,e1,e2⟩:=h1;refine⟨a,k,vs,rfl,rfl,e1,hl.1,λz=>?_,by rw[e2.length];exact ut hl.2.2,λhk=>?_,z1j r h (e2.flat_rep _)⟩
   ·subst z;have:=e2.length;exact hl.2.1 (_bX.mp (by simpa using this.symm))
   ·subst hk;have e:(List.replicate (1:Int).toNat xs).flatten=xs:=by simp
    rw[e]at h;exact h.here r hden
  ·exact h.elim
 ·exact h.elim
@[simp] theorem zbG (xs:List D)(k:Int)(s:Sto):z57 (.tup xs) (.int k) s=if 1<=k/\xs≠[]/\xs.length*k.toNat<=cap then .ok (.tup (List.replicate k.toNat xs).flatten) s else .no:=id rfl
end
end Dd
namespace L2
section
variable {X:Cx}{pos:Pos}
theorem Inv.far{pins:List (Addr×Obj)}{O:St}{H:Hp}{s:Shared}(I:Inv X pins O H s):(s.heap.objs.size==sysModules)=false:=by
 obtain⟨o,es,ep,h,_⟩:=I.mod.glob.keeps I.bk;have h1:(mainGlobals:Nat)<s.heap.objs.size:=_o h;have e1:(1:Nat)<=(mainGlobals:Nat):=by decide
 have h2:(1:Nat)<s.heap.objs.size:=_bU e1 h1;have h3:s.heap.objs.size≠(1:Nat):=_c9 h2;exact beq_false_of_ne h3
def zfJ:TE:=λ_ H Q=>∀p,H p=none->Q (.ref p) (upd H p (.dK []))
theorem zc5:PE X (.Dict [] [] pos) zfJ:=by
 intro pins s O H Q I hq;refine wpAny_Dict_empty ?_;refine⟨.ref s.heap.objs.size,upd H s.heap.objs.size (.dK []),I.laid (o:=.dK []) (t':=s.toks) (λb u e=>_e _ e) (_d _) ⟨_aA _,I.far,[],?_,Heap.DictOf.new _⟩,rfl,hq _ (I.hok.fresh (_d _))⟩;constructor
end
end L2
namespace Dd
open L2
section
variable {X:Cx}{E:XK}{pos:Pos}
theorem zfu:RE X E (.Dict [] [] pos) (eC .dct):= zX zc5 λO H Q ⟨Y,ρ,s,r,en,h⟩=>λp hp=>by
  have stp:=yJ.lay (o:=.dK []) r hp (by intro _ z;cases z);exact h _ _ _ stp (by simp only[Den];exact⟨p,rfl,zH⟩)
end
structure XOk(K:W.Frag)(C:Addr):Prop where
 exc:W.excIn K C bmV "ValueError.__new__"=true
 cls:PySem.ExcCls K C
 val:W.kitOne K (.ref C) (.type "ValueError")=some true
theorem z4k{K:W.Frag}{C:Addr}(h:z1A K C=true):∃d cd sl,K.lookup C=some ⟨.type "type",d,.cls cd,sl⟩:=by
 unfold z1A at h;split at h
 ·rename_i t d cd sl e;have:=_ay.mp h;subst this;exact⟨_,_,_,e⟩
 ·cases h
theorem vQ{K:W.Frag}{x:Str}(h:z2I K x=true):∃C,W.nsIn K mainGlobals x=some (some (.ref C))/\XOk K C:=by
 unfold z2I at h;split at h
 ·rename_i C e;simp only[_u]at h;obtain⟨h1,h2,h3,h4,h5,h6,h7,h8⟩:=h;exact⟨C,e,h1,⟨_ay.mp h2,_ay.mp h3,_ay.mp h4,_ay.mp h5,_ay.mp h6,z4k h7⟩,_ay.mp h8⟩
 ·cases h
section
variable {K:W.Frag}{mg:Str->Option Value}(G:∀(x:Str)(v:Value),W.nsIn K mainGlobals x=some (some v)->mg x=some v)
include G
theorem z51{x:Str}(h:z2I K x=true):zay K mg x:=by
 obtain⟨C,e,o⟩:=vQ h;exact⟨C,G x _ e,o.exc⟩
theorem z7C{rs cs:List Str}(hr:∀x∈rs,z2I K x=true)(hc:∀y∈cs,z2I K y=true)(h:∀x∈rs,∀y∈cs,(z2i K x y).map (·.2)=some (some (x==y))):z3T ⟨mg,K⟩ rs cs:=by
 have un:∀x C D,W.nsIn K mainGlobals x=some (some (.ref D))->mg x=some (.ref C)->C=D:=λx C D e m=>by
  have:=G x _ e;rw[m]at this;cases this;rfl
 refine⟨λc hcm C m=>?_,λd hd=>?_,λc hcm d hd C D mC mD=>?_,λc hcm C m=>?_⟩
 ·obtain⟨D,e,o⟩:=vQ (hr c hcm);cases un c C D e m;exact o.cls
 ·obtain⟨D,e,o⟩:=vQ (hc d hd);exact⟨D,G d _ e⟩
 ·obtain⟨C',e1,_⟩:=vQ (hr c hcm);obtain⟨D',e2,_⟩:=vQ (hc d hd);cases un c C C' e1 mC;cases un d D D' e2 mD;have q:=h c hcm d hd;unfold z2i at q;rw[e1,e2]at q;simpa using q
 ·obtain⟨D,e,o⟩:=vQ (hr c hcm);cases un c C D e m;exact o.val
theorem zcK{x y:Str}(hx:z2I K x=true)(hy:z2I K y=true)(h:(z2i K x y).map (·.1)=some (some true)):zfb K mg x y:=by
 obtain⟨C,e1,o1⟩:=vQ hx;obtain⟨D,e2,o2⟩:=vQ hy;refine⟨C,D,G x _ e1,G y _ e2,o1.exc,o2.exc,λh₀ X=>?_⟩;unfold z2i at h;rw[e1,e2]at h;have hm:W.mroIn K C (.ref D)=some true:=by simpa using h
 obtain⟨bm,N,nm,q,bs,hdct,sn,sub,ab,col,dd,k0,k1,k2,k3,k5,mN,hC,_⟩:=z8H X o1.exc;refine⟨bm,N,nm,q,bs,hdct,sn,sub,ab,col,dd,k0,k1,k2,k3,k5,hC,?_⟩;obtain⟨d',cd',sl',hl⟩:=o1.cls.ty;have h2:=X _ _ hl;rw[hC]at h2;unfold W.mroIn W.clsIn at hm;rw[hl]at hm;simp only[_Y]at hm;split at hm;·cases hm
 ·unfold excClassObj at h2;simp only[_E,Obj.mk.injEq,Data.cls.injEq]at h2;obtain⟨_,_,h3,_⟩:=h2;have h4:cd'.mro=Value.ref C::bm:=by rw[<- h3]
  rw[h4]at hm;simpa using hm
end
theorem z59{q:Ask}{w:World}{K:W.Frag}(e:z7Y q K=valS q w)(x:Str)(hx:x∈q.xs):z2I K x=true:=z4E (_aJ (λz=>z.2.2.2.2.2.1) e) x hx
theorem zf3{q:Ask}{w:World}{K:W.Frag}(e:z7Y q K=valS q w)(x y:Str)(b:Bool)(hx:((x,y),b)∈q.ps):z2i K x y=some (some b,some b):=z4E (_aJ (λz=>z.2.2.2.2.2.2) e) ((x,y),b) hx
theorem zgd{k:Nat}{A:Around}{e:Option Value}(r:uv k A):uv k (A.mark e):=⟨r.dp,r.un,r.gd⟩
def LeS(f g:FS):Prop:=∀ ρ s a s',f ρ s=.ok a s'->g ρ s=.ok a s'
def LeM(M N:Mir):Prop:=∀ds s d s',M ds s=.ok d s'->N ds s=.ok d s'
theorem LeS.rfl{f:FS}:LeS f f:=λ_ _ _ _ h=>h
theorem LeS.no{f g:FS}(h:LeS f g):LeS f (uN g):=fun ρ s a s' e=>by rw[zce,h ρ s a s' e]
theorem LeS.calm{f:FS}:LeS f (uN f):=LeS.rfl.no
theorem LeS.fNo{g:FS}:LeS fNo g:=λ_ _ _ _ h=>by cases h
theorem LeM.mof{N:List Str}{n:Nat}{f g:FS}(h:LeS f g):LeM (Mof N n f) (jE N n g):=λds s d s' e=>by
 unfold Mof at e;unfold jE;split at e
 ·rename_i hl;rw[_g hl];split at e
  ·rename_i d' s1 e1;rw[h _ _ _ _ e1];exact e
  ·rename_i ρ s1 e1;rw[h _ _ _ _ e1];exact e
  ·cases e
 ·cases e
def LeE(f g:FE):Prop:=∀ ρ s a s',f ρ s=.ok a s'->g ρ s=.ok a s'
theorem qS{α β:Type}{r:R α}{k:α->Sto->R β}{b:β}{s':Sto}(h:r.bind k=.ok b s'):∃a s1,r=.ok a s1/\k a s1=.ok b s':=by cases r with
 | ok a s=>exact⟨a,s,Eq.refl _,h⟩ | ex c s=>cases h | no=>cases h
theorem LeS.seq{f f' g g':FS}(h:LeS f f')(h2:LeS g g'):LeS (zW f g) (zW f' g'):=fun ρ s a s' e=>by
 obtain⟨fl,s1,e1,e2⟩:=qS e;show (f' ρ s).bind _=_;rw[h _ _ _ _ e1,Rb];cases fl with
 | nx ρ'=>exact h2 _ _ _ _ e2 | _=>exact e2
theorem LeS.drop{f f':FE}(h:LeE f f'):LeS (vg f) (vg f'):=fun ρ s a s' e=>by
 obtain⟨d,s1,e1,e2⟩:=qS e;show (f' ρ s).bind _=_;rw[h _ _ _ _ e1,Rb];exact e2
theorem LeS.ret{f f':FE}(h:LeE f f'):LeS (wZ f) (wZ f'):=fun ρ s a s' e=>by
 obtain⟨d,s1,e1,e2⟩:=qS e;show (f' ρ s).bind _=_;rw[h _ _ _ _ e1,Rb];exact e2
theorem LeS.set{i:Nat}{f f':FE}(h:LeE f f'):LeS (wJ i f) (wJ i f'):=fun ρ s a s' e=>by
 obtain⟨d,s1,e1,e2⟩:=qS e;show (f' ρ s).bind _=_;rw[h _ _ _ _ e1,Rb];exact e2
theorem LeE.call{M M':Mir}{f:FA}(h:LeM M M'):LeE (ze M f) (ze M' f):=fun ρ s a s' e=>by
 obtain⟨d,s1,e1,e2⟩:=qS e;show (f ρ s).bind _=_;rw[e1,Rb];exact h _ _ _ _ e2
theorem LeS.if_{t:FT}{f f' g g':FS}(h:LeS f f')(h2:LeS g g'):LeS (fIf t f g) (fIf t f' g'):=fun ρ s a s' e=>by
 obtain⟨d,s1,e1,e2⟩:=qS e;show (t ρ s).bind _=_;rw[e1,Rb];cases d with
 | true=>exact h _ _ _ _ e2 | false=>exact h2 _ _ _ _ e2
theorem LeM.ok{M N:Mir}(h:LeM M N){ds:List D}{s s':Sto}{d:D}(e:M ds s=.ok d s'):N ds s=.ok d s':=h ds s d s' e
noncomputable def z7t(cs:List Str)(fb:FS)(j:Nat)(fh:FS):FS:=fun ρ s=>match fb ρ s with
 | .ex c s1=>if c∈cs then (match fh ((List.replicate ρ.length none).set j (some (.exc c))) s1 with
  | .ok (.rt d) s2=>.ok (.rt d) s2 | _=>.no) else .no | .ok (.rt d) s1=>.ok (.rt d) s1 | .ok (.nx ρ') s1=>.ok (.nx ρ') s1 | _=>.no
section
variable {X:Cx}{E:XK}{pos hpos np:Pos}
theorem zdh {cs:List Str} {y n:Str} {body:List Stmt} {b₀:Stmt} {suite:List Stmt} {j:Nat} {fb fh:FS} (hst:X.stack=X.env::X.outer) (hfr:X.env.frame=some X.env.locals) (hex:X.ex=[]) (hcs:∀c∈cs,zfb X.K X.mg c y) (hg:Gl X y) (hN:X.N.Nodup) (hj:X.N[j]? = some n) (hloc:X.env.scope.names.lookup n=some .local) (hb:∀(pn:List (Addr×Obj)) (xe:Value->Shared->Prop) (E1:XK),Passes (CX1 X.prog X.w) (Cx.at_ X pn xe) E1->RSs (Cx.at_ X pn xe) E1 body fb) (hh:∀(e:Addr) (pn:List (Addr×Obj)),RSs (Cx.mk_ X e pn) E0 (b₀::suite) fh) (hdb:(y==("__debug__":Str))=false:=by decide): RS X E (.Try body [.ExceptHandler (some (.Name y np)) (some n) (b₀::suite) hpos] [] [] pos) (z7t cs fb j fh):=by
 intro pins s O H D I hw;obtain⟨Y,ρ,st0,r,en,h⟩:=hw;have hlen:ρ.length=X.N.length:=by rw[en.len,I.len]
 refine wpAny_Try_except ?_;generalize hEb:(λ(e:Value) (s₁:Shared)=>wpAny (model X.prog X.w) X.A (noteFrame e X.env) (λ_ s₂=>wpAny (model X.prog X.w) X.A (setFlight e none) (λ_ s₃=>wpAny (model X.prog X.w) X.A (handleBy e X.env [.ExceptHandler (some (.Name y np)) (some n) (b₀::suite) hpos]) (SP X pins D) X.xe s₃) X.xe s₂) X.xe s₁)=Eb;let E1:XK:=λv _ H'=>∃c Y' st' C d s2,v=.ref C/\c∈cs/\X.mg c=some (.ref C)/\yJ (gm X) H Y H' Y' st'/\fh ((List.replicate ρ.length none).set j (some (.exc c))) st'=.ok (.rt d) s2/\okR (gm X) E H Y (FlD (gm X)) (.ok (.rt d) s2) (z21 D);have pass:Passes (CX1 X.prog X.w) (Cx.at_ X (X.pn++pins) Eb) E1:=by
  intro pins' O' H1 s1 e s' I1 hcx;obtain⟨C,ea,H',he,fl,hE⟩:=hcx;subst he;obtain⟨c,Y',st',C',d,s2,eC,hcm,hmc,stp,efh,ok⟩:=hE;cases eC;have J1:=I1.of_at;obtain⟨B,a0,fw,cov⟩:=fl.fly;have fw:Heap.FlyingW B (X.env::X.outer) ea (.ref C) a0 s'.heap:=by rw[<- hst];exact fw
  have un:Un (frs (X.env::X.outer)) [] H1 H' s1.heap s'.heap:=by rw[<- hst];exact fl.un
  have cov:∀b o,s'.heap.get? b=some o->(H' b≠none\/((∃o',s1.heap.get? b=some o')/\b∉frs (X.env::X.outer)))->B.get? b=some o:=by rw[<- hst];exact cov
  have land:∀h5,Heap.FlyingW B (X.env::X.outer) ea (.ref C) a0 h5->s'.heap.UpToSlots h5->L2.Inv X pins O' (upd H' ea (z9q C ea)) {s' with heap:=h5}/\H' ea=none/\∃oe,h5.get? ea=some oe/\oe.cls=.ref C:=λh5 fw5 sm=>by
   obtain⟨_,hn,un5,hok5,oe⟩:=Fly.land un fl.hok fw cov fw5 sm;exact⟨J1.call' (s':={s' with heap:=h5}) (ch:=[]) fl.os (by rw[hst];exact un5) hok5 fl.bare (λb z=>absurd z (by simp)),hn,oe⟩
  rw[<- hEb];have hfrm:X.A.frames=some (X.env::X.outer):=by rw[<- hst];exact J1.ok.frames
  show wpAny (model X.prog X.w) X.A (noteFrame (.ref ea) X.env) _ _ s';refine wpAny_looks_onW (base:=B) hfrm hfr fw λh4 held sm4=>?_;refine wpAny_landsW held λh5 fw5 sm5=>?_;obtain⟨I5,hn5,oe5⟩:=land h5 fw5 (sm4.trans sm5);obtain⟨C2,D2,hm2,hmy,q1,q2,hsub⟩:=hcs c hcm;rw[hmc]at hm2;cases hm2;refine z0Z (C:=C) (D:=D2) (z1O (X:=Cx.mk_ X ea (X.pn++pins)) I5.mk_ hg hmy ⟨rfl,?_,?_,oe5,?_⟩ hdb)
  ·obtain⟨bm,N,nm,q,bs,hdct,sn,sub,ab,col,dd,k0,k1,k2,k3,k5,hC,hs⟩:=hsub _ I5.kIn;exact⟨bm,N,nm,q,bs,hdct,sn,sub,ab,col,dd,k0,k1,k2,k3,k5,_,hC,hs⟩
  ·obtain⟨bm,N,nm,q,bs,hdct,sn,sub,ab,col,dd,k0,k1,k2,k3,k5,mN,hC,hNs,hni,T⟩:=z8H I5.kIn q2;exact⟨bm,N,nm,q,bs,hdct,sn,sub,ab,col,dd,k0,k1,k2,k3,k5,_,hC,T.hasType _by.hasBase⟩
  ·refine lands_againW fw5 λh6 fw6 sm6=>?_;obtain⟨I6,hn6,oe6⟩:=land h6 fw6 ((sm4.trans sm5).trans sm6);refine qW (X:=Cx.mk_ X ea (X.pn++pins)) I6.mk_ hN hj (.inl hloc) (show xc (.ref ea) (.ref ea) from rfl) (λs7 I7=>?_) (.inr hloc);have stl:yJ (gm X) H' Y' (upd H' ea (z9q C ea)) Y' st':=yJ.lay stp.rep hn6 (by intro vs z;cases z);have stl2:=stp.trans stl;have enh:vK (gm X) (upd H' ea (z9q C ea)) Y' ((List.replicate ρ.length none).set j (some (.exc c))) (O'.set j (some (.ref ea))):=by
    refine⟨by rw[_cm,_bw,_cm,hlen];exact J1.len.symm,λi d' hi=>?_⟩;by_cases z:j=i
    ·subst z;have hjl:j<(List.replicate ρ.length (none:Option Dd.D)).length:=by
      have:=(_b.mp hi).1;simpa using this
     rw[_H hjl]at hi;cases hi;refine⟨.ref ea,by rw[_H (by rw[J1.len,<- hlen];simpa using hjl)],?_⟩;simp only[Den];exact⟨ea,C,rfl,hmc,zH⟩
    ·rw[_F z,_be]at hi;split at hi<;>cases hi
   have run:=hh ea (X.pn++pins) [] s7 (O'.set j (some (.ref ea))) (upd H' ea (z9q C ea)) {nx:=λ_ _=>False,rt:=D.rt} I7 ⟨Y',_,st',stl2.rep,enh,by
    rw[efh];intro fv H2 Y2 stp2 fd;cases fv with
    | rt v=>exact ok (.rt v) H2 Y2 (stl2.trans stp2) fd | _=>exact (show False from fd).elim⟩;refine _t run (λfl s8 q8=>?_) λ_ _ z=>z.elim;cases fl with
   | ret u=>
    obtain⟨v,O8,H8,I8,rv,q8⟩:=q8;have J8:=I8.of_mk J1.ok;obtain⟨m,hn,_⟩:=J8.loc;refine wpAny_nameGoes (env:=X.env) hloc hn (by rw[J1.ok.kind];rfl) λh9 m9 hn9 sb9=>?_;exact⟨v,_,H8,J8.locals hn9 sb9,rv,q8⟩ | next=>obtain⟨_,_,_,z⟩:=q8;exact z.elim | brk=>obtain⟨_,_,_,z⟩:=q8;exact z.elim | cont=>obtain⟨_,_,_,z⟩:=q8;exact z.elim
 have run:=hb (X.pn++pins) Eb E1 pass [] s O H {nx:=D.nx,rt:=D.rt} I.at_ ⟨Y,ρ,st0,r,en,?_⟩
 ·refine _t run (λfl s1 q1=>?_) λ_ _ z=>z;cases fl with
  | ret u=>
   obtain⟨v,O8,H8,I8,rv,q8⟩:=q1;exact⟨v,O8,H8,I8.of_at,rv,q8⟩ | next=>
   obtain⟨O8,H8,I8,q8⟩:=q1;exact (show wpAny (model X.prog X.w) X.A (pure Flow.next) (SP X pins D) X.xe s1 from _j ⟨O8,H8,I8.of_at,q8⟩) | brk=>obtain⟨_,_,_,z⟩:=q1;exact z.elim | cont=>obtain⟨_,_,_,z⟩:=q1;exact z.elim
 ·unfold z7t at h;cases e:fb ρ st0 with
  | no=>rw[e]at h;exact h.elim | ok fl s1=>
   rw[e]at h;cases fl with
   | rt d=>
    intro fv H2 Y2 stp2 fd;cases fv with
    | rt v=>exact h (.rt v) H2 Y2 stp2 fd | _=>exact (show False from fd).elim
   | nx ρ'=>
    intro fv H2 Y2 stp2 fd;cases fv with
    | nx v=>exact h (.nx v) H2 Y2 stp2 fd | _=>exact (show False from fd).elim
   | _=>exact h.elim
  | ex c s1=>
   rw[e]at h;intro H' Y' C stp hmc;simp only at h;split at h
   ·rename_i hcm;cases e2:fh ((List.replicate ρ.length none).set j (some (.exc c))) s1 with
    | no=>rw[e2]at h;exact h.elim | ex _ _=>rw[e2]at h;exact h.elim | ok fl s2=>
     rw[e2]at h;cases fl with
     | rt d=>exact⟨c,Y',s1,C,d,s2,rfl,hcm,hmc,stp,e2,h⟩ | _=>exact h.elim
   ·exact h.elim
end
section
variable {X:Cx}{E:XK}{o e:Expr}{pos:Pos}
noncomputable def z8X(fo fv:FE):FE:=fun ρ s=>(fo ρ s).bind λo s1=>match o with
 | .loc l=>(fv ρ s1).bind λd s2=>match (s2[l]?).bind bools,d with
  | some ns,.bl k=>.ok (.int (ns.count k:Nat)) s2 | _,_=>.no
 | _=>.no
theorem z8r{apos:Pos}{fo fv:FE}(ho:RE X E o fo)(hv:RE X E e fv)(hbase:attributeBase o "count" X.env (eval o X.env)=eval o X.env:=by rfl) (hfew:((backTo pos (starEach [e] X.env)).all (λx=>!x.1)&&(backToKw pos (keywordEach [] X.env)).all (λx=>x.1.isSome) && decide ([e].length+([]:List Keyword).length+(if ([]:List Keyword).isEmpty then 0 else 1)<30))=true:=by rfl) (hline:(apos.endLine==pos.line)=true:=by rfl)(hs:starEach [e] X.env=(false,eval e X.env)::starEach [] X.env:=by rfl)(hplain:(backTo pos (starEach [] X.env)).any (·.1)=false:=by rfl): RE X E (.Call (.Attribute o "count" apos) [e] [] pos) (z8X fo fv):= zX (z8D _bh PySem.F.slot_list_count PySem.F.type_list_count z5y ho (wc hv qd hs) hbase hfew hline hs hplain) λO H Q ⟨Y,ρ,s,r,en,h⟩=>by
  unfold z8X at h;refine⟨Y,ρ,s,r,en,(okR.bind (Dn:=Den (gm X)) h).imp λov H1 ⟨Y1,s1,od,stp,dn,h1⟩=>?_⟩;cases od with
  | loc l=>
   simp only at h1;have hty:tyV X.K "list" ov H1:=by
    simp only[Den]at dn;obtain⟨a,rfl,e1,vs,e2⟩:=dn;exact .inl ⟨rfl,vs,SqL.of e2⟩
   refine⟨hty,⟨Y1,ρ,s1,stp.rep,en.mono stp,(okR.bind (Dn:=Den (gm X)) h1).imp λv H2 ⟨Y2,s2,d,stp2,dn2,h2⟩=>?_⟩⟩;split at h2
   ·rename_i ns k ei;cases jU dn2;have dov:=dn.mono stp2;cases ex:s2[l]? with
    | none=>rw[ex]at ei;cases ei | some xs=>
     rw[ex]at ei;have ei:bools xs=some ns:=ei;obtain⟨a,vs,rfl,rd,e2⟩:=zI (d:=.loc l) stp2.rep ex dov;rw[z0x ei]at e2;cases z0t e2;exact⟨a,ns,k,rfl,rfl,rd,h2.here stp2.rep yT⟩
   ·exact h2.elim | _=>exact h1.elim
noncomputable def z5E(fo fv:FE):FE:=fun ρ s=>(fo ρ s).bind λo s1=>match o with
 | .loc l=>(fv ρ s1).bind λd s2=>match (s2[l]?).bind bools,d with
  | some ns,.bl k=>if k∈ns/\ns.length<2 ^ 62 then .ok (.int (ns.idxOf k:Nat)) s2 else .no | _,_=>.no
 | _=>.no
theorem z7s{apos:Pos}{fo fv:FE}(ho:RE X E o fo)(hv:RE X E e fv)(hbase:attributeBase o "index" X.env (eval o X.env)=eval o X.env:=by rfl) (hfew:((backTo pos (starEach [e] X.env)).all (λx=>!x.1)&&(backToKw pos (keywordEach [] X.env)).all (λx=>x.1.isSome) && decide ([e].length+([]:List Keyword).length+(if ([]:List Keyword).isEmpty then 0 else 1)<30))=true:=by rfl) (hline:(apos.endLine==pos.line)=true:=by rfl)(hs:starEach [e] X.env=(false,eval e X.env)::starEach [] X.env:=by rfl)(hplain:(backTo pos (starEach [] X.env)).any (·.1)=false:=by rfl): RE X E (.Call (.Attribute o "index" apos) [e] [] pos) (z5E fo fv):= zX (z8D _bh PySem.F.slot_list_index PySem.F.type_list_index z5n ho (wc hv qd hs) hbase hfew hline hs hplain) λO H Q ⟨Y,ρ,s,r,en,h⟩=>by
  unfold z5E at h;refine⟨Y,ρ,s,r,en,(okR.bind (Dn:=Den (gm X)) h).imp λov H1 ⟨Y1,s1,od,stp,dn,h1⟩=>?_⟩;cases od with
  | loc l=>
   simp only at h1;have hty:tyV X.K "list" ov H1:=by
    simp only[Den]at dn;obtain⟨a,rfl,e1,vs,e2⟩:=dn;exact .inl ⟨rfl,vs,SqL.of e2⟩
   refine⟨hty,⟨Y1,ρ,s1,stp.rep,en.mono stp,(okR.bind (Dn:=Den (gm X)) h1).imp λv H2 ⟨Y2,s2,d,stp2,dn2,h2⟩=>?_⟩⟩;split at h2
   ·rename_i ns k ei;split at h2
    ·rename_i hk;cases jU dn2;have dov:=dn.mono stp2;cases ex:s2[l]? with
     | none=>rw[ex]at ei;cases ei | some xs=>
      rw[ex]at ei;have ei:bools xs=some ns:=ei;obtain⟨a,vs,rfl,rd,e2⟩:=zI (d:=.loc l) stp2.rep ex dov;rw[z0x ei]at e2;cases z0t e2;exact⟨a,ns,k,rfl,rfl,rd,hk.1,hk.2,h2.here stp2.rep yT⟩
    ·exact h2.elim
   ·exact h2.elim | _=>exact h1.elim
end
end Dd
namespace PySem
end PySem
namespace L2
end L2
namespace Dd
open L2
open PySem.W
end Dd
namespace L2
open PySem.Builtin.Str
end L2
namespace Dd
open L2 PySem.Builtin.Str
end Dd
namespace Dd
open L2
section
variable {X:Cx}{E:XK}{es:List Expr}{fa:FE}{fr:FA}
theorem aN{x:Str}{p:Pos}(ha:RE X E (.Name x p) fa)(hr:RA X E es fr):RA X E ((.Name x p)::es) (za fa fr):=wT ha hr (zr ..)
theorem aK{c:Const}{j:Nat}{p:Pos}(ha:RE X E (.Constant c j p) fa)(hr:RA X E es fr):RA X E ((.Constant c j p)::es) (za fa fr):=wT ha hr (z2u ..)
theorem aQ{g:Expr}{xs:List Expr}{ks:List Keyword}{p:Pos}(ha:RE X E (.Call g xs ks p) fa)(hr:RA X E es fr):RA X E ((.Call g xs ks p)::es) (za fa fr):=wT ha hr (jI ..)
theorem aT{xs:List Expr}{k:Nat}{p:Pos}(ha:RE X E (.Tuple xs k p) fa)(hr:RA X E es fr):RA X E ((.Tuple xs k p)::es) (za fa fr):=wT ha hr (z9v ..)
theorem aS{a b:Expr}{p:Pos}(ha:RE X E (.Subscript a b p) fa)(hr:RA X E es fr):RA X E ((.Subscript a b p)::es) (za fa fr):=wT ha hr (z36 ..)
theorem aB{a b:Expr}{o:Operator}{p:Pos}(ha:RE X E (.BinOp a o b p) fa)(hr:RA X E es fr):RA X E ((.BinOp a o b p)::es) (za fa fr):=wT ha hr (z5Z ..)
theorem aL{xs:List Expr}{p:Pos}(ha:RE X E (.List xs p) fa)(hr:RA X E es fr):RA X E ((.List xs p)::es) (za fa fr):=wT ha hr (za1 ..)
theorem aO{a:Expr}{g:List Comprehension}{sc:Scope}{p:Pos}(ha:RE X E (.ListComp a g sc p) fa)(hr:RA X E es fr):RA X E ((.ListComp a g sc p)::es) (za fa fr):=wT ha hr (xk ..)
theorem aU{o:UnaryOp}{a:Expr}{p:Pos}(ha:RE X E (.UnaryOp o a p) fa)(hr:RA X E es fr):RA X E ((.UnaryOp o a p)::es) (za fa fr):=wT ha hr (zct ..)
theorem xF {e:Expr} {pos:Pos} {CX:CXT} {x:Str} {p:Pos} {n k:Nat} {M:Mir} {f:FA} (F:Has X.prog X.w X.K X.mg X.base CX x n M) (hr:z0m k X.A) (hx:Passes CX X E) (ha:RA X E (e::es) f) (hk:n<=k:=by decide) (hg:Gl X x:=by rfl) (hdb:(x==("__debug__":Str))=false:=by decide) (he:starEach (e::es) X.env=(false,eval e X.env)::starEach es X.env:=by rfl) (hpl:(backTo pos (starEach es X.env)).any (·.1)=false:=by rfl):RE X E (.Call (.Name x p) (e::es) [] pos) (ze M f):=zeZ F (hr.mono hk) hx hg ha hdb he hpl
end
section
variable {q:Ask}{w:World}{K:W.Frag}{h:Heap}{mg:Str->Option Value}
theorem ym(X:K.In h)(G:h.Ns mainGlobals mg)(e:z7Y q K=valS q w)(i:Nat){x:Str}{st:Stmt}(hx:q.fs[i]? = some (x,st)):∃f fd,mg x=some (.ref f)/\Fun K x x st f fd:=let ⟨f,fd,a,F⟩:=zgs e x st (_f hx);⟨f,fd,W.mg_of X G a,F⟩
theorem vx(X:K.In h)(G:h.Ns mainGlobals mg)(e:z7Y q K=valS q w)(i:Nat){x:Str}(hx:q.bs[i]? = some x):mg x=none:=W.mg_none_of X G (zfI e x (_f hx))
theorem z5T(X:K.In h)(G:h.Ns mainGlobals mg)(e:z7Y q K=valS q w)(i:Nat){x:Str}{c:Int}(hx:q.cs[i]? = some (x,c)):∃t,mg x=some (.int c t):=let ⟨t,z⟩:=zgz e x c (_f hx);⟨t,W.mg_of X G z⟩
end
open PySem.W
end Dd
namespace Dd
open L2
section
variable {X:Cx}{E:XK}{e:Expr}{pos pos':Pos}
noncomputable def zgD(i:Nat)(f:FE):FS:=fun ρ s=>match ρ[i]? with
 | some (some (.int a))=>(f ρ s).bind λd s1=>match d with | .int b=>.ok (.nx (ρ.set i (some (.int (a+b))))) s1 | _=>.no
 | _=>.no
@[simp] theorem zgS {i:Nat}{f:FE}{ρ:Ev}{s:Sto}{a b:Int}{s1:Sto}(h:ρ[i]? = some (some (.int a)))(hf:f ρ s=.ok (.int b) s1):zgD i f ρ s=.ok (.nx (ρ.set i (some (.int (a+b))))) s1:=by simp only[zgD,h,hf,Rb]
end
open PySem.W
end Dd
namespace Dd
open L2
end Dd
namespace L2
end L2
namespace Dd
open L2
section
variable {X:Cx}{E:XK}{o i e value:Expr}{pos pos':Pos}
noncomputable def zdU:FE:=λ_ s=>.ok (.dlo s.length) (s++[[]])
theorem zeh:RE X E (.Dict [] [] pos) zdU:=zX zaq λO H Q ⟨Y,ρ,s,r,en,h⟩ p hp=>by
 refine h _ _ _ (yJ.layC r hp (o:=.dT []) (.inr (.inl ⟨[],zH,rfl⟩)) rfl) ?_;simp only[Den];exact⟨p,rfl,by rw[<- r.len];simp,.inl ⟨[],zH⟩⟩
end
noncomputable def zbk:List D->Option (List Int)
 | []=>some [] | .int i::r=>(zbk r).map (i::·) | _=>none
noncomputable def zd8:D->Option (List Int)
 | .tup ds=>zbk ds | _=>none
noncomputable def z3D:List D->Option (List (List Int))
 | []=>some [] | d::ds=>match zd8 d,z3D ds with | some n,some ns=>some (n::ns) | _,_=>none
theorem z61:∀ns:List Int,zbk (ns.map D.int)=some ns
 | []=>rfl | i::r=>by simp[zbk,z61 r]
theorem z8o:∀{ds:List D}{ns:List Int},zbk ds=some ns->ds=ns.map D.int
 | [],_,e=>by simp[zbk]at e;subst e;rfl | d::r,ns,e=>by cases d with
  | int i=>
   simp only[zbk,_M]at e;obtain⟨a,h1,rfl⟩:=e;rw[z8o h1];rfl | _=>simp[zbk]at e
theorem z94(ns:List Int):zd8 (.tup (ns.map D.int))=some ns:=z61 ns
theorem zcF{d:D}{ns:List Int}(e:zd8 d=some ns):d=.tup (ns.map D.int):=by cases d with
 | tup ds=>simp only[zd8]at e;rw[z8o e] | _=>simp[zd8]at e
theorem z4D:∀L:List (List Int),z3D (L.map λns=>.tup (ns.map D.int))=some L
 | []=>rfl | n::L=>by simp only[_U,z3D,z94,z4D L]
def AtN(H:Hp)(v:V)(ns:List Int):Prop:=∃b,v=.ref b/\H b=some (.tup (ns.map V.int))
theorem zap{mg:Gm}{H:Hp}{Y:List Addr}{d:D}{v:V}{ns:List Int}(h:zd8 d=some ns)(dn:Den mg H Y d v):AtN H v ns:=by
 rw[zcF h]at dn;simp only[Den]at dn;obtain⟨a,vs,rfl,e,dd⟩:=dn;have:∀{ns:List Int}{vs:List V},zC mg H Y (ns.map D.int) vs->vs=ns.map V.int:=by
  intro ns;induction ns with
  | nil=>intro vs h;simpa[zC] using h | cons i r ih=>
   intro vs h;simp only[_U,zC]at h;obtain⟨v,r',rfl,h1,h2⟩:=h;rw[yp h1,ih h2];rfl
 rw[this dd]at e;exact⟨a,rfl,e⟩
theorem z4S{mg:Gm}{H:Hp}{Y:List Addr}:∀{ds:List D}{vs:List V}{L:List (List Int)},z3D ds=some L->zC mg H Y ds vs->Paired (λv ns=>AtN H v ns) vs L
 | [],_,_,h,dn=>by simp only[z3D,_E]at h;simp only[zC]at dn;subst dn;subst h;exact .nil | d::ds,_,_,h,dn=>by
  simp only[zC]at dn;obtain⟨v,vs,rfl,h1,h2⟩:=dn;simp only[z3D]at h;split at h
  ·rename_i n ns e1 e2;cases h;exact .cons (zap e1 h1) (z4S e2 h2)
  ·cases h
end Dd
namespace L2
open PySem.Builtin.Str
end L2
namespace Dd
open L2 PySem.Builtin.Str
end Dd
namespace Zz
noncomputable abbrev T1(b1:Bool)(h:Heap)(l1:Addr):Heap:=h.push (itO b1 l1)
noncomputable abbrev T2(b1 b2:Bool)(h:Heap)(l1 l2:Addr):Heap:=(T1 b1 h l1).push (itO b2 l2)
end Zz
namespace L2
open Zz
end L2
namespace Dd
open L2
noncomputable def lexN:List Int->List Int->Bool
 | [],[]=>false | [],_::_=>true | _::_,[]=>false | x::a,y::b=>if x=y then lexN a b else decide (x<y)
inductive vm:List Value->List Int->Prop | nil:vm [] [] | cons {i t vs ns}:vm vs ns->vm (.int i t::vs) (i::ns)
theorem vm.of_vals:∀{ns:List Int}{us:List Value},yC (ns.map V.int) us->vm us ns
 | [],_,.nil=>.nil | _::_,_,.cons ⟨_,rfl⟩ r=>.cons (vm.of_vals r)
theorem vm.length:∀{us ns},vm us ns->us.length=ns.length
 | _,_,.nil=>rfl | _,_,.cons r=>by simp[r.length]
end Dd
namespace L2
end L2
namespace Dd
open L2
section
variable {X:Cx}{E:XK}
theorem AtN.tuple{pins:List (Addr×Obj)}{O:L2.St}{H:Hp}{s:Shared}(I:Inv X pins O H s){v:V}{u:Value}{ns:List Int}(a:AtN H v ns)(r:xc v u):∃b its,v=.ref b/\u=.ref b/\s.heap.IsTuple b its/\vm its.toList ns:=by
 obtain⟨b,rfl,e⟩:=a;cases (show u=Value.ref b from r);obtain⟨its,r,pl,hz⟩:=I.tuple (.inl (.inl e));exact⟨b,its.toArray,rfl,rfl,pl,vm.of_vals (by simpa using r)⟩
end
end Dd
namespace L2
section
variable {prog:Program}{w:World}{A:Around}{R:Result->Shared->Prop}{s:Shared}{elt t1 i1 t2 i2:Expr}{scope:Scope}{pos:Pos}{it acc:Value}{env:Env}
theorem z7v:compTurn (.ListComp elt [⟨t1,i1,[],0⟩,⟨t2,i2,[],0⟩] scope pos) 0 it acc env=(standAt i1.pos >>= λ_=>pyNext it >>= λr=>match r with
  | none=>pure (.done .next) | some v=>letOwnedTupleGo t1 it v >>= λ_=>assign t1 env v >>= λ_=>eval i2 env >>= λx=>standAt i2.pos >>= λ_=>foldedSetIterable i2 env x >>= λx=>holding [x] (pyIter x) >>= λjt=> runOwn (.compStart (.ListComp elt [⟨t1,i1,[],0⟩,⟨t2,i2,[],0⟩] scope pos) 1 jt acc env) env >>= λ_=>again (.compLoop (.ListComp elt [⟨t1,i1,[],0⟩,⟨t2,i2,[],0⟩] scope pos) 0 it acc env)):=by rfl
theorem z7A:compTurn (.ListComp elt [⟨t1,i1,[],0⟩,⟨t2,i2,[],0⟩] scope pos) 1 it acc env=(standAt i2.pos >>= λ_=>pyNext it >>= λr=>match r with
  | none=>pure (.done .next) | some v=>letOwnedTupleGo t2 it v >>= λ_=>assign t2 env v >>= λ_=>(eval elt env >>= λx=>call (.builtin "list.append") [acc,x] >>= λ_=>pure ()) >>= λ_=> again (.compLoop (.ListComp elt [⟨t1,i1,[],0⟩,⟨t2,i2,[],0⟩] scope pos) 1 it acc env)):=by rfl
theorem z7q(I:Nat->Shared->Prop) (turn:∀n s,I n s->wpAny (model prog w) A (pyNext it) (λr s₁=>match r with
   | none=>R (.ok .next) s₁ | some v=>wpAny (model prog w) A (letOwnedTupleGo t2 it v) (λ_ s₁'=>wpAny (model prog w) A (assign t2 env v) (λ_ s₂=>wpAny (model prog w) A (eval elt env) (λx s₄=> wpAny (model prog w) A (call (.builtin "list.append") [acc,x]) (λ_ s₅=>∃m,m<n/\I m s₅) (λ_ _=>False) s₄) (λ_ _=>False) s₂) (λ_ _=>False) s₁') (λ_ _=>False) s₁) (λ_ _=>False) s) (n:Nat)(h:I n s):codeAny (model prog w) A (.compLoop (.ListComp elt [⟨t1,i1,[],0⟩,⟨t2,i2,[],0⟩] scope pos) 1 it acc env) R s:=by
 refine codeAny_loop rfl I (λn s hI=>?_) n h;show wpAny _ A ((compTurn (.ListComp elt [⟨t1,i1,[],0⟩,⟨t2,i2,[],0⟩] scope pos) 1 it acc env).onRaise (λx=>do noteFrame x env;theTreesLotGoes x)) _ _ s;refine wpAny_noted ?_;rw[z7A];refine _a (_aC (_a (_t (turn n s hI) (λr s₁ h₁=>?_) λ_ _ h'=>h'.elim)));cases r with
 | none=>exact _j h₁ | some v=>
  refine _a (_t h₁ (λ_ s₁' h₁'=>_a (_t h₁' (λ_ s₂ h₂=>?_) λ_ _ h'=>h'.elim)) λ_ _ h'=>h'.elim);exact _a (_a (_t h₂ (λx s₄ h₄=>_a (_t h₄ (λ_ s₅ h₅=>_j (_j ⟨rfl,h₅⟩)) λ_ _ h'=>h'.elim)) λ_ _ h'=>h'.elim))
theorem z6P(h0:codeAny (model prog w) A (.compLoop (.ListComp elt [⟨t1,i1,[],0⟩,⟨t2,i2,[],0⟩] scope pos) 1 it acc env) R s) (h:wpAny (model prog w) A (pyIter it) (λit' s'=>codeAny (model prog w) A (.compLoop (.ListComp elt [⟨t1,i1,[],0⟩,⟨t2,i2,[],0⟩] scope pos) 1 it' acc env) R s') (notedBy (model prog w) A env λx s'=>R (.error x) s') s): codeAny (model prog w) A (.compStart (.ListComp elt [⟨t1,i1,[],0⟩,⟨t2,i2,[],0⟩] scope pos) 1 it acc env) R s:=by
 refine codeAny_of_tree ?_;show wpAny _ _ ((compStart (.ListComp elt [⟨t1,i1,[],0⟩,⟨t2,i2,[],0⟩] scope pos) 1 it acc env).onRaise (λx=>do noteFrame x env;standAt theWindowsPlace)) _ _ s;refine wpAny_notedAt ?_;unfold compStart;show wpAny _ _ (ask >>= _) _ _ s;refine _a (wpAny_askSetting (wpAny_ite ?_));split;·first
   | exact _a (_j (_j (And.intro rfl h0))) | exact _j (And.intro rfl h0)
 ·first
   | exact _a (_aw (_a (_aC (_a (_t h (λit' s' h'=>_j (And.intro rfl h')) λ_ _ x=>x))))) | (refine _a (_aw ?_);show wpAny _ _ (standAt i2.pos >>= _) _ _ s;exact _a (_aC (_a (_t h (λit' s' h'=>_j (And.intro rfl h')) λ_ _ x=>x))))
theorem z7V(hs2:∀x,foldedSetIterable i2 env x=pure x)(I:Nat->Shared->Prop) (turn:∀n s,I n s->wpAny (model prog w) A (pyNext it) (λr s₁=>match r with
   | none=>R (.ok .next) s₁ | some v=>wpAny (model prog w) A (letOwnedTupleGo t1 it v) (λ_ s₁'=>wpAny (model prog w) A (assign t1 env v) (λ_ s₂=>wpAny (model prog w) A (eval i2 env) (λx s₃=>wpAny (model prog w) A (pyIter x) (λjt s₄=> codeAny (model prog w) A (.compStart (.ListComp elt [⟨t1,i1,[],0⟩,⟨t2,i2,[],0⟩] scope pos) 1 jt acc env) (λr s₅=>match r with | .ok _=>∃m,m<n/\I m s₅ | .error _=>False) s₄) (λ_ _=>False) s₃) (λ_ _=>False) s₂) (λ_ _=>False) s₁') (λ_ _=>False) s₁) (λ_ _=>False) s) (n:Nat)(h:I n s):codeAny (model prog w) A (.compLoop (.ListComp elt [⟨t1,i1,[],0⟩,⟨t2,i2,[],0⟩] scope pos) 0 it acc env) R s:=by
 refine codeAny_loop rfl I (λn s hI=>?_) n h;show wpAny _ A ((compTurn (.ListComp elt [⟨t1,i1,[],0⟩,⟨t2,i2,[],0⟩] scope pos) 0 it acc env).onRaise (λx=>do noteFrame x env;theTreesLotGoes x)) _ _ s;refine wpAny_noted ?_;rw[z7v];refine _a (_aC (_a (_t (turn n s hI) (λr s₁ h₁=>?_) λ_ _ h'=>h'.elim)));cases r with
 | none=>exact _j h₁ | some v=>
  refine _a (_t h₁ (λ_ s₁' h₁'=>_a (_t h₁' (λ_ s₂ h₂=>?_) λ_ _ h'=>h'.elim)) λ_ _ h'=>h'.elim);refine _a (_t h₂ (λx s₃ h₃=>_a (_aC (_a (_cS (hs2 x) ?_)))) λ_ _ h'=>h'.elim);refine _a (_aY (_t h₃ (λjt s₄ h₄=>?_) λ_ _ h'=>h'.elim));refine _a (wpAny_runOwn (_cA h₄ λr s₅ h₅=>?_));cases r with
  | ok f=>exact _j ⟨rfl,h₅⟩ | error e=>exact h₅.elim
end
def zbj(wi:TI)(mp:List (Option Nat))(k1 k2:Nat)(wi2:TI)(te:TE):TE:=λO H Q=>wi O H λJ H1=>∃W:Nat->Nat->List V->Hp->Prop,(∃m,W 0 m [] H1)/\∀i m ys H,W i m ys H-> (J.stop i H/\ys.length<=sizeLine/\∀p,H p=none->Q (.ref p) (upd H p (.lst ys)))\/ (J.go i H/\∀x H',J.yld i H x H'->wi2 ((inner mp O).set k1 (some x)) H' λJ2 H3=>∃W2:Nat->Nat->List V->Hp->Prop,(∃m2,W2 0 m2 ys H3)/\∀j m2 ys2 H4,W2 j m2 ys2 H4-> (J2.stop j H4/\∃m',m'<m/\W (i+1) m' ys2 H4)\/ (J2.go j H4/\∀x2 H5,J2.yld j H4 x2 H5->te (((inner mp O).set k1 (some x)).set k2 (some x2)) H5 λy H6=>ys2.length<=sizeLine/\∃m',m'<m2/\W2 (j+1) m' (ys2++[y]) H6))
theorem z3M{O:St}{i:Nat}{v:V}(h:O[i]? = some none):(O.set i (some v)).length=O.length/\∀(j:Nat) u,O[j]? = some (some u)->(O.set i (some v))[j]? = some (some u):=by
 refine⟨by simp,λj u e=>?_⟩;have:i≠j:=λz=>by subst z;rw[h]at e;cases e
 rw[_F this];exact e
theorem z5g {X:Cx} {tg iter tg2 iter2 elt:Expr} {scope:Scope} {pos:Pos} {wi2:TI} {te:TE} {N':List Str} {mp:List (Option Nat)} {k1 k2:Nat} {pins:List (Addr×Obj)} {O:St} {Q:VK} {J:It} {H2:Hp} {s₂:Shared} {it:Addr} {fp:List Addr} {tn:Nat->Heap->Prop} {E:Value->Shared->Prop} {RR:Value->Addr->Result->Shared->Prop} (hc:X.calm=true) (hm1:mp[k1]? = some none) (hm2:mp[k2]? = some none) (hk:k1≠k2) (hg:∀ex s H,PG (zq X N' scope ex s H) tg (z0g k1)) (hg2:∀ex s H,PG (zq X N' scope ex s H) tg2 (z0g k2)) (hi2:∀ex s H,PI (zq X N' scope ex s H) tg2 iter2 wi2) (he:∀ex s H,PE (zq X N' scope ex s H) elt te) (hs2:∀env x,foldedSetIterable iter2 env x=pure x) (hkd:scope.kind=.function) (hnm:∀y∈scope.names,scope.names.lookup y.1=some y.2) (hfr:∀y∈scope.names,y.2=.free->X.env.kindOf y.1=some .cell\/X.env.kindOf y.1=some .free) (hmp:z0I X.N scope.names N' mp=true) (I2:Inv X pins O H2 s₂) (T:zbU X.prog X.w X.K tg J fp it tn) (st2:tn 0 s₂.heap) (f2:∀b∈fp,z2B X pins H2 b) (W:Nat->Nat->List V->Hp->Prop) (w0:∃m,W 0 m [] H2) (turn:∀i m ys H,W i m ys H-> (J.stop i H/\ys.length<=sizeLine/\∀p,H p=none->Q (.ref p) (upd H p (.lst ys)))\/ (J.go i H/\∀x H',J.yld i H x H'->wi2 ((inner mp O).set k1 (some x)) H' λJ2 H3=>∃W2:Nat->Nat->List V->Hp->Prop,(∃m2,W2 0 m2 ys H3)/\∀j m2 ys2 H4,W2 j m2 ys2 H4-> (J2.stop j H4/\∃m',m'<m/\W (i+1) m' ys2 H4)\/ (J2.go j H4/\∀x2 H5,J2.yld j H4 x2 H5->te (((inner mp O).set k1 (some x)).set k2 (some x2)) H5 λy H6=>ys2.length<=sizeLine/\∃m',m'<m2/\W2 (j+1) m' (ys2++[y]) H6))) (hRR:∀acc C s',jN X pins O C Q acc s'->RR acc C (.ok .next) s'): wpAny (model X.prog X.w) X.A (newList []) (λacc s₃=>wpAny (model X.prog X.w) X.A (newFunctionEnv scope X.env.globals (z37 X.env scope.names []) [] X.env.qual none .none (some X.env)) (λcenv s₄=> codeAny (model X.prog X.w) X.A (.compStart (.ListComp elt [⟨tg,iter,[],0⟩,⟨tg2,iter2,[],0⟩] scope pos) 0 (.ref it) acc {cenv with scope:=relabel scope X.env}) (RR acc cenv.locals) s₄) E s₃) E s₂:=by
 refine _am ?_;have hf2:H2 s₂.heap.objs.size=none:=I2.hok.fresh (_d _);have fA:z2B X pins H2 s₂.heap.objs.size:=I2.fpOk (_d _) hf2;generalize hacc:s₂.heap.objs.size=acc at hf2 fA ⊢;have I3:Inv X pins O H2 {s₂ with heap:=s₂.heap.push {cls:=.type "list",data:=.seq ([]:List Value).toArray}}:=I2.kept (t':=s₂.toks) λb o e=>_e _ e;have ha3:(s₂.heap.push {cls:=.type "list",data:=.seq ([]:List Value).toArray}).get? acc=some (LCg.lst []):=by rw[<- hacc];exact _v _ rfl
 have sz3:(s₂.heap.push {cls:=.type "list",data:=.seq ([]:List Value).toArray}).objs.size=acc+1:=by rw[_au,hacc]
 have kp3:∀b o,s₂.heap.get? b=some o->(s₂.heap.push {cls:=.type "list",data:=.seq ([]:List Value).toArray}).get? b=some o:=λb o e=>_e _ e;show wpAny _ _ _ _ _ {s₂ with heap:=s₂.heap.push {cls:=.type "list",data:=.seq ([]:List Value).toArray}};generalize hs3:({s₂ with heap:=s₂.heap.push {cls:=.type "list",data:=.seq ([]:List Value).toArray}}:Shared)=s₃ at I3 ⊢;have ha3':s₃.heap.get? acc=some (LCg.lst []):=by rw[<- hs3];exact ha3
 have sz3':s₃.heap.objs.size=acc+1:=by rw[<- hs3];exact sz3
 have kp3':∀b o,s₂.heap.get? b=some o->s₃.heap.get? b=some o:=by rw[<- hs3];exact kp3
 have flt:∀b∈fp,b<acc:=λb hb=>by
  obtain⟨o,e,_⟩:=T.obj 0 _ st2 b hb;rw[<- hacc];exact _o e
 have fne:∀b∈fp,b≠acc:=λb hb=>_D (flt b hb);have tn3:tn 0 s₃.heap:=T.keep 0 _ _ st2 λb hb o e=>kp3' b o e;refine z1M ?_;rw[xU];have hex:∀b∈acc::fp,b<s₃.heap.objs.size/\H2 b=none/\b≠X.env.locals/\b∉X.fs/\(b∈X.ex\/X.s₀.heap.objs.size<=b)/\(∀x c,X.env.cells.lookup x=some c->c≠b):=λb hb=>by
  rcases _n.mp hb with z | hb
  ·subst z;exact⟨by rw[sz3'];exact _bg _,hf2,fA.2.1,fA.2.2.1,fA.2.2.2.1,fA.2.2.2.2.1⟩
  ·have q:=f2 b hb;exact⟨by rw[sz3'];exact _aR (flt b hb),q.1,q.2.1,q.2.2.1,q.2.2.2.1,q.2.2.2.2.1⟩
 have I4:=z2w (N':=N') (mp:=mp) (ex:=acc::fp) (s1:={s₃ with heap:=pushCells (s₃.heap.push {cls:=.type "dict",data:=.dict #[]}) scope.names}) I3 hkd hnm hfr hmp hex rfl rfl rfl;have kp4:∀b o,s₃.heap.get? b=some o->(pushCells (s₃.heap.push {cls:=.type "dict",data:=.dict #[]}) scope.names).get? b=some o:=λb o e=>_co _ _ b o (_e _ e);generalize hs4:({s₃ with heap:=pushCells (s₃.heap.push {cls:=.type "dict",data:=.dict #[]}) scope.names}:Shared)=s₄ at I4 ⊢;have ha4:s₄.heap.get? acc=some (LCg.lst []):=by rw[<- hs4];exact kp4 _ _ ha3'
 have tn4:tn 0 s₄.heap:=T.keep 0 _ _ tn3 λb hb o e=>by rw[<- hs4];exact kp4 b o e
 have Cne:acc≠s₃.heap.objs.size:=by rw[sz3'];exact _D (_bg _)
 have celln:∀b∈acc::fp,∀x c,(z5B X scope s₃.heap.objs.size).cells.lookup x=some c->c≠b:=λb hb=>(I4.ok.exf b hb).2;have stat:∀{H':Hp} {o:Obj},(∀b∈fp,H' b=none)->∀b∈fp,z2B (zq X N' scope (acc::fp) s₃ H2) [(acc,o)] H' b:=λ{H' o} hn b hb=> ⟨hn b hb,_D (by show b<s₃.heap.objs.size;rw[sz3'];exact _aR (flt b hb)),λhf=>I4.ok.exfs b (_w _ hb) hf,.inl (_w _ hb),celln b (_w _ hb),λp hp=>by
   have e:p=(acc,o):=by simpa[zq] using hp
   rw[e];exact _a8 (fne b hb)⟩;have accP:∀(its:List Value) (v:Option Value),(LCg.lst its).data≠.cell v:=λits v z=>by
  have z':Data.seq _ _=Data.cell v:=z;cases z'
 have pinA:∀{P:List (Addr×Obj)} {O':St} {H':Hp} {s':Shared} {its:List Value},Inv (zq X N' scope (acc::fp) s₃ H2) P O' H' s'->H' acc=none->s'.heap.get? acc=some (LCg.lst its)->Inv (zq X N' scope (acc::fp) s₃ H2) ([(acc,LCg.lst its)]++P) O' H' s':=λ{P O' H' s' its} J' n' e'=> J'.pins_of λp hp=>by
   rcases _B.mp hp with hp | hp
   ·have e:p=(acc,LCg.lst its):=by simpa using hp
    subst e;exact⟨e',n',Cne,λhf=>I4.ok.exfs acc _P hf,accP its⟩
   ·exact J'.pin p (_s _ hp)
 obtain⟨m0,w0⟩:=w0;have loop:codeAny (model X.prog X.w) X.A (.compLoop (.ListComp elt [⟨tg,iter,[],0⟩,⟨tg2,iter2,[],0⟩] scope pos) 0 (.ref it) (.ref acc) (z5B X scope s₃.heap.objs.size)) (RR (.ref acc) s₃.heap.objs.size) s₄:=by
  refine z7V (hs2 _) (λn s'=>∃i ys its H',Inv (zq X N' scope (acc::fp) s₃ H2) [] (inner mp O) H' s'/\tn i s'.heap/\(∀b∈fp,H' b=none)/\H' acc=none/\s'.heap.get? acc=some (LCg.lst its)/\yC ys its/\W i n ys H') ?_ m0 ⟨0,[],[],H2,I4,tn4,λb hb=>(f2 b hb).1,hf2,ha4,.nil,w0⟩;rintro n s5 ⟨i,ys,its,H5,I5,tn5,n5,na5,ea5,rv5,w5⟩;have I5':Inv (zq X N' scope (acc::fp) s₃ H2) [(acc,LCg.lst its)] (inner mp O) H5 s5:=pinA I5 na5 ea5;rcases turn i n ys H5 w5 with⟨stop,hz,q⟩ | ⟨go,step⟩
  ·refine _t (T.done (zq X N' scope (acc::fp) s₃ H2) rfl rfl rfl hc i _ s5 _ H5 (λ_ _=>False) I5' (stat n5) tn5 stop) (λr s6 ⟨hr,I6⟩=>?_) λ_ _ z=>z;subst hr;have ea6:=(I6.pin (acc,LCg.lst its) (by simp)).1;have un:Un (frs X.stack) (acc::fp) H2 H5 s₃.heap s6.heap:=I6.base;have I7:Inv X pins O H5 s6:=I3.call' (s':=s6) (I6.os) un I6.hok I6.bare λb hb=>by
    rcases _n.mp hb with z | hb;·subst z;exact⟨fA.2.2.2.1,fA.2.1,fA.2.2.2.2.1,fA.2.2.2.2.2⟩
    ·exact⟨(f2 b hb).2.2.2.1,(f2 b hb).2.1,(f2 b hb).2.2.2.2.1,(f2 b hb).2.2.2.2.2⟩
   have C7:z2B X pins H5 s₃.heap.objs.size:=I3.fpOk (_d _) I6.free;refine hRR _ _ s6 ⟨.ref acc,upd H5 acc (.lst ys),I7.track ⟨na5,fA.2⟩ ?_,rfl,q acc na5,?_,?_,C7.2⟩;·exact⟨hz,its,_,rv5,ea6⟩
   ·obtain⟨m,hm,_⟩:=I6.loc;exact⟨m,hm⟩
   ·rw[zj (_a8 Cne)];exact I6.free
  ·refine _t (T.item (zq X N' scope (acc::fp) s₃ H2) rfl rfl rfl hc i _ s5 _ H5 (λ_ _=>False) I5' (stat n5) tn5 go) (λr s6 ⟨u,hr,h6⟩=>?_) λ_ _ z=>z;subst hr;refine _t h6 (λ_ s7 ⟨x,H7,I7,r7,y7,tn7,n7⟩=>?_) λ_ _ z=>z;have I7':=I7.pinned (stat n7) (T.obj _ _ tn7);generalize hP:z2t fp s7.heap=P7 at I7';have inP:∀b∈fp,∀o,s7.heap.get? b=some o->(b,o)∈P7:=λb hb o e=>by rw[<- hP];exact uy hb e
   have back:∀{O':St} {H':Hp} {s':Shared} {its':List Value},Inv (zq X N' scope (acc::fp) s₃ H2) ([(acc,LCg.lst its')]++P7) O' H' s'->(∀b∈fp,H' b=none)/\H' acc=none/\s'.heap.get? acc=some (LCg.lst its')/\tn (i+1) s'.heap:=λ{O' H' s' its'} J'=>by
    have z:=J'.pin (acc,LCg.lst its') (by simp[zq]);have zz:∀b∈fp,∀o,s7.heap.get? b=some o->s'.heap.get? b=some o/\H' b=none:=λb hb o e=>by
     have y:=J'.pin (b,o) (_s _ (_s _ (inP b hb o e)));exact⟨y.1,y.2.1⟩
    refine⟨λb hb=>?_,z.2.1,z.1,T.keep _ _ _ tn7 λb hb o e=>(zz b hb o e).1⟩;obtain⟨o,e,_⟩:=T.obj _ _ tn7 b hb;exact (zz b hb o e).2
   have ow1:(inner mp O)[k1]? = some none:=by simp[L2.inner,hm1]
   have kp1:=z3M (v:=x) ow1;have ow2:((inner mp O).set k1 (some x))[k2]? = some none:=by rw[_F hk];simp[L2.inner,hm2]
   refine _t (hg _ _ _ _ s7 (inner mp O) H7 x u (λO8 H8=>O8=(inner mp O).set k1 (some x)/\H8=H7) I7' r7 ⟨rfl,rfl⟩) (λ_ s8 ⟨O8,H8,I8,e8,e8'⟩=>?_) λ_ _ z=>z;subst e8 e8';refine _t (hi2 _ _ _ _ s8 _ H8 _ I8 (step x H8 y7)) (λxv s9 h9=>?_) λ_ _ z=>z;refine _t h9 (λjt s10 h10=>?_) λ_ _ z=>z;obtain⟨it2,fp2,tn2,J2,H10,e10,I10,T2,st10,f10,W2,⟨m2,v0⟩,turn2⟩:=h10;subst e10;obtain⟨_,na10,ea10,_⟩:=back I10;have stat2:∀{H':Hp} {its':List Value},(∀b∈fp2,H' b=none)->∀b∈fp2,z2B (zq X N' scope (acc::fp) s₃ H2) ([(acc,LCg.lst its')]++P7) H' b:=λ{H' its'} hn b hb=>by
    obtain⟨q1,q2,q3,q4,q5,q6⟩:=f10 b hb;refine⟨hn b hb,q2,q3,q4,q5,λp hp=>?_⟩;rcases _B.mp hp with hp | hp;·exact q6 p (_ai _ hp)
    ·rcases _B.mp hp with hp | hp
     ·have e:p=(acc,LCg.lst its'):=by simpa using hp
      rw[e];exact q6 (acc,LCg.lst its) (_s _ (_ai _ (by simp)))
     ·exact q6 p (_s _ (_s _ hp))
   have unA:∀{O':St} {H':Hp} {s':Shared} {its':List Value},Inv (zq X N' scope (acc::fp) s₃ H2) ([(acc,LCg.lst its')]++P7) O' H' s'->Inv (zq X N' scope (acc::fp) s₃ H2) P7 O' H' s':=λJ'=>J'.pins_of λp hp=>J'.pin p (_s _ (_s _ hp));have za2:codeAny (model X.prog X.w) X.A (.compLoop (.ListComp elt [⟨tg,iter,[],0⟩,⟨tg2,iter2,[],0⟩] scope pos) 1 (.ref it2) (.ref acc) (z5B X scope s₃.heap.objs.size)) (λr s'=>match r with | .ok _=>∃m,m<n/\∃i ys its H',Inv (zq X N' scope (acc::fp) s₃ H2) [] (inner mp O) H' s'/\tn i s'.heap/\(∀b∈fp,H' b=none)/\H' acc=none/\s'.heap.get? acc=some (LCg.lst its)/\yC ys its/\W i m ys H' | .error _=>False) s10:=by
    refine z7q (λn' s'=>∃j ys2 its2 H',Inv (zq X N' scope (acc::fp) s₃ H2) P7 ((inner mp O).set k1 (some x)) H' s'/\tn2 j s'.heap/\(∀b∈fp2,H' b=none)/\H' acc=none/\s'.heap.get? acc=some (LCg.lst its2)/\yC ys2 its2/\W2 j n' ys2 H') ?_ m2 ⟨0,ys,its,H10,unA I10,st10,λb hb=>(f10 b hb).1,na10,ea10,rv5,v0⟩;rintro n' s11 ⟨j,ys2,its2,H11,I11,tn11,n11,na11,ea11,rv11,v11⟩;have I11':=pinA I11 na11 ea11;rcases turn2 j n' ys2 H11 v11 with⟨stop2,m',lt,w12⟩ | ⟨go2,step2⟩
    ·refine _t (T2.done (zq X N' scope (acc::fp) s₃ H2) rfl rfl rfl hc j _ s11 _ H11 (λ_ _=>False) I11' (stat2 n11) tn11 stop2) (λr s12 ⟨hr,I12⟩=>?_) λ_ _ z=>z;subst hr;obtain⟨z1,z2,z3,z4⟩:=back I12;exact⟨m',lt,i+1,ys2,its2,H11,(I12.pins_of (pins':=[]) (λp hp=>absurd hp (by simp))).weak kp1.1.symm kp1.2,z4,z1,z2,z3,rv11,w12⟩
    ·refine _t (T2.item (zq X N' scope (acc::fp) s₃ H2) rfl rfl rfl hc j _ s11 _ H11 (λ_ _=>False) I11' (stat2 n11) tn11 go2) (λr s12 ⟨u2,hr,h12⟩=>?_) λ_ _ z=>z;subst hr;refine _t h12 (λ_ s13 ⟨x2,H13,I13,r13,y13,tn13,n13⟩=>?_) λ_ _ z=>z;have I13':=I13.pinned (stat2 n13) (T2.obj _ _ tn13);have kp2:=z3M (v:=x2) ow2;refine _t (hg2 _ _ _ _ s13 _ H13 x2 u2 (λO14 H14=>O14=((inner mp O).set k1 (some x)).set k2 (some x2)/\H14=H13) I13' r13 ⟨rfl,rfl⟩) (λ_ s14 ⟨O14,H14,I14,e14,e14'⟩=>?_) λ_ _ z=>z;subst e14 e14';refine _t (he _ _ _ _ s14 _ H14 _ I14 (step2 x2 H14 y13)) (λyv s15 ⟨y,H15,I15,r15,hz,m',lt,v15⟩=>?_) λ_ _ z=>z;have I15u:Inv (zq X N' scope (acc::fp) s₃ H2) ([(acc,LCg.lst its2)]++P7) _ H15 s15:=I15.unpinned;obtain⟨z1,z2,z3,z4⟩:=back I15u;have zz:∀b∈fp2,∀o,s13.heap.get? b=some o->s15.heap.get? b=some o/\H15 b=none:=λb hb o e=>by
      have y:=I15.pin (b,o) (_s _ (_s _ (uy hb e)));exact⟨y.1,y.2.1⟩
     have fne2:∀b∈fp2,b≠acc:=λb hb=>by
      have:=(f10 b hb).2.2.2.2.2 (acc,LCg.lst its) (_s _ (_ai _ (by simp)));exact _a8 this
     have zl:its2.toArray.size<=sizeLine:=by rw[_k,<- rv11.length];exact hz
     refine append_at (hsz:=zl) z3 λh16 sb ea16=>?_;have I15w:=(unA I15u).weak kp2.1.symm kp2.2;have aP:∀p∈(zq X N' scope (acc::fp) s₃ H2).pn++P7,p.1≠acc:=λp hp=>by
      have hp':p∈P7:=by simpa[zq] using hp
      rw[<- hP]at hp';obtain⟨b,hb,e⟩:=_bQ.mp hp';obtain⟨o,_,e2⟩:=_M.mp e;rw[<- e2];exact fne b hb
     have I16:Inv (zq X N' scope (acc::fp) s₃ H2) P7 ((inner mp O).set k1 (some x)) H15 {s15 with heap:=h16}:=I15w.turned (t':=s15.toks) (λb o hb e=>(sb.2 b hb).trans e) z2 Cne (.inl _P) (celln acc _P) aP;refine⟨m',lt,j+1,ys2++[y],its2++[yv],H15,I16,T2.keep _ _ _ tn13 (λb hb o e=>(sb.2 b (fne2 b hb)).trans (zz b hb o e).1),λb hb=>?_,z2,ea16.trans (_aJ some (LCg.lst_snoc its2 yv)),rv11.append (.cons r15 .nil),v15⟩;obtain⟨o,e,_⟩:=T2.obj _ _ tn13 b hb;exact (zz b hb o e).2
   exact z6P za2 (T2.self _ 0 _ _ _ st10 za2)
 exact codeAny_compStart_list loop (T.self _ 0 _ _ _ tn4 loop)
section
variable {X:Cx}{tg iter tg2 iter2 elt:Expr}{scope:Scope}{pos spos py:Pos}{wi wi2:TI}{te:TE}{k1 k2:Nat}
theorem z56 {i:Nat} {y:Str} (N':List Str) (mp:List (Option Nat)) (hN:X.N.Nodup) (hy:X.N[i]? = some y) (hyl:Loc X.env.scope y) (hc:X.calm=true) (hm1:mp[k1]? = some none) (hm2:mp[k2]? = some none) (hk:k1≠k2) (hi:PI X tg iter wi) (hg:∀ex s H,PG (zq X N' scope ex s H) tg (z0g k1)) (hg2:∀ex s H,PG (zq X N' scope ex s H) tg2 (z0g k2)) (hi2:∀ex s H,PI (zq X N' scope ex s H) tg2 iter2 wi2) (he:∀ex s H,PE (zq X N' scope ex s H) elt te) (hs2:∀env x,foldedSetIterable iter2 env x=pure x) (hkd:scope.kind=.function) (hnm:∀y∈scope.names,scope.names.lookup y.1=some y.2) (hfr:∀y∈scope.names,y.2=.free->X.env.kindOf y.1=some .cell\/X.env.kindOf y.1=some .free) (hmp:z0I X.N scope.names N' mp=true) (hs:∀x,foldedSetIterable iter X.env x=pure x:=by intro _;rfl) (hsw:swapsWith (.ListComp elt [⟨tg,iter,[],0⟩,⟨tg2,iter2,[],0⟩] scope pos) (some (.Name y py)) spos.line X.env=pure true:=by rfl) (hf:X.fn y=true\/X.env.scope.names.lookup y=some .local:=by first | exact .inl rfl | exact .inr rfl | assumption): PS X (.Assign [.Name y py] (.ListComp elt [⟨tg,iter,[],0⟩,⟨tg2,iter2,[],0⟩] scope pos) spos) (λD O H=>zbj wi mp k1 k2 wi2 te O H (z6E λv H'=>D.nx (O.set i (some v)) H')):=by
 intro pins s O H D I h;rw[_b9 _ _ _ _ hsw];refine _a (_aC (_a ?_));show wpAny _ X.A (do let _ <- comprehension (.ListComp elt [⟨tg,iter,[],0⟩,⟨tg2,iter2,[],0⟩] scope pos) scope X.env _ (newList []) false (eval iter X.env) (some (assign (.Name y py) X.env))) _ _ s;refine _a (_t (_bb (use:=some (assign (.Name y py) X.env)) (Q:=λ_ s'=>SP X pins D .next s') rfl hs (vi λy hy hf=>I.ok.has _ (hfr y hy hf)) hkd (λy hy hl=>by rw[hnm y hy,hl]) (thn (hi pins s O H _ I h) λxv s₁ h₁=>thn h₁ λitv s₂ h₂=>?_)) (λ_ s' hq=>_j (_j hq)) λ_ _ e=>e);obtain⟨it,fp,tn,J,H2,e,I2,T,st2,f2,W,w0,turn⟩:=h₂;subst e;refine z5g (N':=N') (mp:=mp) (O:=O) (pins:=pins) (Q:=z6E λv H'=>D.nx (O.set i (some v)) H') (RR:=λacc C=>compPost (model X.prog X.w) X.A X.xe (some (assign (.Name y py) X.env)) (λ_ s'=>SP X pins D .next s') acc C) hc hm1 hm2 hk hg hg2 hi2 he hs2 hkd hnm hfr hmp I2 T st2 f2 W w0 turn ?_;intro acc C s' hd;obtain⟨v,Hf,I3,r,q,⟨m,hm⟩,f⟩:=hd.freeze;refine _bY (ke I3 hN hy hyl r (λs'' I4 ⟨a,sb,ha⟩=>?_) hf);have hC:C≠a:=by
  rcases ha with z | z;·rw[z];exact f.2.1
  ·exact _a8 (f.2.2.2.2.1 y a z)
 exact⟨m,hm.sameBut sb hC,λh' sb'=>⟨_,Hf,uX I4 f sb',q⟩⟩
end
end L2
namespace Dd
open L2
open Classical in
def z2V(g:List (Nat×List D))(all:List D)(body:D->List D->Sto->R (List D)):List D->List D->Sto->R (List D)
 | [],acc,s=>if okG g all s then .ok acc s else .no | x::xs,acc,s=>if okG g all s then (body x acc s).bind λacc' s1=>z2V g all body xs acc' s1 else .no
def z62(fi:FI)(mp:List (Option Nat))(k1 k2:Nat)(fi2:FI)(fe:FE):FA:=fun ρ s=>(fi ρ s).bind λit s1=>z2V it.2 it.1 (λd acc s=>(fi2 ((yb mp ρ).set k1 (some d)) s).bind λit2 s2=>wq it2.2 it2.1 (λd2 s=>(fe (((yb mp ρ).set k1 (some d)).set k2 (some d2)) s).bind λd s3=>.ok (some d) s3) it2.1 acc s2) it.1 [] s1
section
variable {X:Cx}{E:XK}{tg iter tg2 iter2 elt:Expr}{pos spos py:Pos}{mp:List (Option Nat)}{k1 k2:Nat}{fi fi2:FI}{fe:FE}{scope:Scope}
theorem z8O{O:L2.St}{H:Hp}{Q:VK}{Y:List Addr}{ρ:Ev}{s:Sto}{β:Type}{kR:List D->Sto->R β}{β2:Type}{Dn:Hp->List Addr->β->β2->Prop}{Q2:β2->Hp->Prop}(r:Rep (gm X) H Y s)(en:vK (gm X) H Y ρ O) (h:okR (gm X) E H Y Dn ((z62 fi mp k1 k2 fi2 fe ρ s).bind kR) Q2) (fin:∀H1 Y1 s1 xs vs,Rep (gm X) H1 Y1 s1->vK (gm X) H1 Y1 ρ O->zC (gm X) H1 Y1 xs vs->okR (gm X) E H1 Y1 Dn (kR xs s1) Q2->xs.length<=cap->∀p,H1 p=none->Q (.ref p) (upd H1 p (.lst vs))): zbj (tI (gm X) E fi) mp k1 k2 (tI (gm X) E fi2) (tE (gm X) E fe) O H Q:=by
 unfold z62 at h;have assoc:∀{α γ δ:Type}(x:R α)(f:α->Sto->R γ)(k:γ->Sto->R δ),(x.bind f).bind k=x.bind λa s=>(f a s).bind k:=λx f k=>by cases x<;>rfl
 rw[assoc]at h;refine⟨Y,ρ,s,r,en,(okR.bind (Dn:=za6 (gm X)) h).imp λJ H1 ⟨Y1,s1,it,stp,ok,h1⟩=>?_⟩;obtain⟨items,gd⟩:=it;simp only at h1;generalize hb:(λ(d:D)(acc:List D)(s:Sto)=>(fi2 ((yb mp ρ).set k1 (some d)) s).bind λit2 s2=>wq it2.2 it2.1 (λd2 s=>(fe (((yb mp ρ).set k1 (some d)).set k2 (some d2)) s).bind λd s3=>R.ok (some d) s3) it2.1 acc s2)=body at h1;refine⟨λi m ys H=>∃Y s acc,yJ (gm X) H1 Y1 H Y s/\zC (gm X) H Y acc ys/\acc.length<=cap/\m=items.length-i/\i<=items.length/\okR (gm X) E H Y Dn ((z2V gd items body (items.drop i) acc s).bind kR) Q2, ⟨items.length,Y1,s1,[],.refl stp.rep,zC.nil,_aA _,by simp,_aA _,by simpa using h1⟩,?_⟩;rintro i m ys H2 ⟨Y2,s2,acc,stp2,dn2,hcap,rfl,hil,h2⟩;have en2:vK (gm X) H2 Y2 ρ O:=(en.mono stp).mono stp2;by_cases hlt:i<items.length
 ·right;rw[_aI hlt,z2V]at h2;split at h2
  ·rename_i hG;obtain⟨go,yl⟩:=((ok H2 Y2 s2 stp2 hG i).1 items[i] (_q hlt));refine⟨go,λx H' y=>?_⟩;obtain⟨Y3,stp3,dn3⟩:=yl x H' y;have h3:=okR.rebase h2 stp3;rw[<- hb]at h3;simp only at h3;rw[hb,assoc,assoc]at h3;have en3:vK (gm X) H' Y3 ((yb mp ρ).set k1 (some items[i])) ((inner mp O).set k1 (some x)):=((en2.mono stp3).inner).set dn3 k1;refine⟨Y3,(yb mp ρ).set k1 (some items[i]),s2,stp3.rep,en3,(okR.bind (Dn:=za6 (gm X)) h3).imp λJ2 H4 ⟨Y4,s4,it2,stp4,ok2,h4⟩=>?_⟩;obtain⟨items2,gd2⟩:=it2;simp only at h4;generalize hb2:(λ(d2:D)(s:Sto)=>(fe (((yb mp ρ).set k1 (some items[i])).set k2 (some d2)) s).bind λd s3=>R.ok (some d) s3)=body2 at h4;have all4:yJ (gm X) H1 Y1 H4 Y4 s4:=(stp2.trans stp3).trans stp4;refine⟨λj m2 ys2 H=>∃Y s acc2,yJ (gm X) H4 Y4 H Y s/\zC (gm X) H Y acc2 ys2/\acc2.length<=cap/\m2=items2.length-j/\j<=items2.length/\okR (gm X) E H Y Dn ((wq gd2 items2 body2 (items2.drop j) acc2 s).bind λacc' s1=>(z2V gd items body (items.drop (i+1)) acc' s1).bind kR) Q2, ⟨items2.length,Y4,s4,acc,.refl stp4.rep,(dn2.mono stp3).mono stp4,hcap,by simp,_aA _,by simpa using h4⟩,?_⟩;rintro j m2 ys2 H5 ⟨Y5,s5,acc2,stp5,dn5,hcap2,rfl,hjl,h5⟩;have en5:vK (gm X) H5 Y5 ((yb mp ρ).set k1 (some items[i])) ((inner mp O).set k1 (some x)):=(en3.mono stp4).mono stp5;by_cases hlt2:j<items2.length
   ·right;rw[_aI hlt2,wq]at h5;split at h5
    ·rename_i hG2;obtain⟨go2,yl2⟩:=((ok2 H5 Y5 s5 stp5 hG2 j).1 items2[j] (_q hlt2));refine⟨go2,λx2 H6 y2=>?_⟩;obtain⟨Y6,stp6,dn6⟩:=yl2 x2 H6 y2;have h6:=okR.rebase h5 stp6;rw[<- hb2]at h6;simp only at h6;rw[hb2,assoc,assoc]at h6;have en6:=(en5.mono stp6).set dn6 k2;refine⟨Y6,((yb mp ρ).set k1 (some items[i])).set k2 (some items2[j]),s5,stp6.rep,en6,(okR.bind (Dn:=Den (gm X)) h6).imp λyv H7 ⟨Y7,s7,d7,stp7,dn7,h7⟩=>?_⟩;simp only[Rb]at h7;split at h7
     ·rename_i hcc;have all7:=(stp5.trans stp6).trans stp7;refine⟨by rw[dn5.length];exact ut hcap2,items2.length-(j+1),by omega,Y7,s7,acc2++[d7],all7,((dn5.mono stp6).mono stp7).append (zC.one dn7),by simp;omega,rfl,hlt2,h7⟩
     ·exact h7.elim
    ·exact h5.elim
   ·left;have e:j=items2.length:=by omega
    subst e;rw[_ce,wq]at h5;split at h5
    ·rename_i hG2;simp only[Rb]at h5;exact⟨(ok2 H5 Y5 s5 stp5 hG2 _).2 (_d _),items.length-(i+1),by omega,Y5,s5,acc2,all4.trans stp5,dn5,hcap2,rfl,hlt,h5⟩
    ·exact h5.elim
  ·exact h2.elim
 ·left;have e:i=items.length:=by omega
  subst e;rw[_ce,z2V]at h2;split at h2
  ·rename_i hG;simp only[Rb]at h2;exact⟨(ok H2 Y2 s2 stp2 hG _).2 (_d _),by rw[dn2.length];exact ut hcap,fin H2 Y2 s2 acc ys stp2.rep en2 dn2 h2 hcap⟩
  ·exact h2.elim
def z4J(fi:FI)(mp:List (Option Nat))(k1 k2:Nat)(fi2:FI)(fe:FE):FE:=fun ρ s=>(z62 fi mp k1 k2 fi2 fe ρ s).bind λxs s1=>.ok (.lst xs) s1
theorem zcy (i:Nat) {y:Str} (N':List Str) (mp:List (Option Nat)) (k1 k2:Nat) (hN:X.N.Nodup) (hc:X.calm=true) (hi:RI X E tg iter fi) (hg:∀ex s H,PG (zq X N' scope ex s H) tg (z0g k1)) (hg2:∀ex s H,PG (zq X N' scope ex s H) tg2 (z0g k2)) (hi2:∀ex s H,RI (zq X N' scope ex s H) E tg2 iter2 fi2) (he:∀ex s H,RE (zq X N' scope ex s H) E elt fe) (hm1:mp[k1]? = some none:=by rfl) (hm2:mp[k2]? = some none:=by rfl) (hk:k1≠k2:=by decide) (hs2:∀env x,foldedSetIterable iter2 env x=pure x:=by intro _ _;rfl) (hkd:scope.kind=.function:=by rfl) (hnm:z7p scope.names=true:=by rfl) (hfr:z8A X.env.kindOf scope.names=true:=by rfl) (hmp:z0I X.N scope.names N' mp=true:=by rfl) (hy:X.N[i]? = some y:=by rfl) (hyl:Loc X.env.scope y:=by first | exact Or.inl rfl | exact Or.inr rfl) (hs:∀x,foldedSetIterable iter X.env x=pure x:=by intro _;rfl) (hsw:swapsWith (.ListComp elt [⟨tg,iter,[],0⟩,⟨tg2,iter2,[],0⟩] scope pos) (some (.Name y py)) spos.line X.env=pure true:=by rfl) (hf:X.fn y=true\/X.env.scope.names.lookup y=some .local:=by first | exact .inl rfl | exact .inr rfl | assumption): RS X E (.Assign [.Name y py] (.ListComp elt [⟨tg,iter,[],0⟩,⟨tg2,iter2,[],0⟩] scope pos) spos) (wJ i (z4J fi mp k1 k2 fi2 fe)):= um (z56 (te:=tE (gm X) E fe) (wi2:=tI (gm X) E fi2) N' mp hN hy hyl hc hm1 hm2 hk hi hg hg2 (λex s H=>hi2 ex s H) (λex s H=>he ex s H) hs2 hkd (z0C hnm) (z0v hfr) hmp hs hsw hf) λD O H ⟨Y,ρ,s,r,en,h⟩=>by
  have assoc:∀{α γ δ:Type} (x:R α) (f:α->Sto->R γ) (k:γ->Sto->R δ),(x.bind f).bind k=x.bind λa s=>(f a s).bind k:=λx f k=>by cases x<;>rfl
  unfold wJ z4J at h;rw[assoc]at h;refine z8O r en h λH1 Y1 s1 xs vs r1 en1 dn h1 hcap p hp=>?_;refine jg (E:=E) (mg:=gm X) (xs:=xs) r1 (λv H2 Y2 stp dn2=>?_) dn p hp;exact h1 (.nx (O.set i (some v))) H2 Y2 stp ((en1.mono stp).set dn2 i)
end
end Dd
namespace L2
end L2
namespace Dd
open L2
end Dd
namespace L2
noncomputable def n3(a b c:Int):Nat:=if a<b then ((b-a-1) / c+1).toNat else 0
end L2
namespace Dd
open L2
open PySem.W
section
end
noncomputable def z7J(fin:Bool):List Int->List Int->Bool
 | x::a,y::b=>if x=y then z7J fin a b else decide (x<y) | _,_=>fin
theorem zbc:∀ns ms:List Int,z7J (decide (ns.length<ms.length)) ns ms=lexN ns ms
 | [],[]=>by simp[z7J,lexN] | [],_::_=>by simp[z7J,lexN] | _::_,[]=>by simp[z7J,lexN] | x::a,y::b=>by
  have:=zbc a b;simp only[z7J,lexN,_c,Nat.add_lt_add_iff_right,this]
def TupAt(h:Heap)(v:Value)(ns:List Int):Prop:=∃a o n us,v=.ref a/\h.get? a=some o/\o.cls=.type "tuple"/\o.data=.seq us n/\vm us.toList ns/\ns≠[]
inductive uZ (h:Heap):List Value->List (List Int)->Prop | nil:uZ h [] [] | cons {v p vs ps}:TupAt h v p->uZ h vs ps->uZ h (v::vs) (p::ps)
theorem uZ.mono{h h':Heap}(k:∀b o,h.get? b=some o->h'.get? b=some o):∀{vs ps},uZ h vs ps->uZ h' vs ps
 | _,_,.nil=>.nil | _,_,.cons ⟨a,o,n,us,e,g,c,d,i,z⟩ r=>.cons ⟨a,o,n,us,e,k _ _ g,c,d,i,z⟩ (r.mono k)
theorem uZ.tups{h:Heap}:∀{vs ps},uZ h vs ps->∃fs,KatTups h vs fs/\fs.length=ps.length/\∀v∈fs,∃i t,v=.int i t
 | _,_,.nil=>⟨[],KatTups.nil,rfl,λv hv=>by cases hv⟩ | _,_,.cons (p:=p) ⟨a,o,n,us,e,g,c,d,i,z⟩ r=>by
  obtain⟨fs,k,l,m⟩:=r.tups;subst e;obtain⟨ul⟩:=us;cases i with
  | nil=>exact absurd rfl z | @cons x t ws ns i'=>
   refine⟨.int x t::fs,KatTups.cons g c d rfl k,by simp[l],λv hv=>?_⟩;rcases _n.mp hv with rfl | hv;·exact⟨_,_,rfl⟩
   ·exact m v hv
section
variable {prog:Program}{w:World}{A:Around}{E:Value->Shared->Prop}{s:Shared}
theorem z5X {fin:Bool} {C:Bool->Shared->Prop}:∀{xs ys:List Value} {ns ms:List Int} (i:Nat),vm xs ns->vm ys ms->C (z7J fin ns ms) s->KatLex prog w A true fin C (xs.zip ys) i s
 | _,_,_,_,i,.nil,_,h=>by
  simp only[List.zip_nil_left];refine kat_nil ?_;simpa[z7J] using h | _,_,_,_,i,.cons _,.nil,h=>by
  simp only[List.zip_nil_right];refine kat_nil ?_;simpa[z7J] using h | _,_,_,_,i,.cons (i:=x) (t:=t) r,.cons (i:=y) (t:=t') r',h=>by
  simp only[_bS];refine kat_cons (wpAny_eqBool_int (kat_go (λe=>kat_yes (z5X (i+1) r r' ?_)) λe=>kat_no ?_))
  ·have e1:x=y:=by simpa using e
   simpa[z7J,e1] using h
  ·have e1:¬ x=y:=by simpa using e
   have h':C (decide (x<y)) s:=by simpa[z7J,e1] using h
   cases i with
   | zero=>
    have hb:(true&&((0:Nat)==0))=true:=rfl;rw[hb];exact oneLt_int h' | succ i=>
    have hb:(true&&((i+1:Nat)==0))=false:=by simp
    rw[hb];exact kat_one _ _ (PyProof.Rows.lt_int h')
theorem zcb{v u:Value}{p q:List Int}{C:Bool->Shared->Prop}(hv:TupAt s.heap v p)(hu:TupAt s.heap u q)(h:C (lexN p q) s):wpAny (model prog w) A (keyLt' (tuples' true) v u) C E s:=by
 obtain⟨a,o,n,us,rfl,g,c,d,i,_⟩:=hv;obtain⟨b,o',n',us',rfl,g',c',d',i',_⟩:=hu;refine kat_lt g d g' d' (z5X 0 i i' ?_);have e:decide (us.size<us'.size)=decide (p.length<q.length):=by
  have:=i.length;have:=i'.length;simp only[_V]at *;simp[*]
 rw[e,zbc];exact h
theorem z8b{vs:List Value}{ps:List (List Int)}{Q:SortKind->Shared->Prop}(hp:uZ s.heap vs ps)(h0:0<ps.length)(h:Q (tuples' true) s):wpAny (model prog w) A (keyKind' vs.toArray) Q E s:=by
 obtain⟨fs,k,l,m⟩:=hp.tups;refine kat_kind (T:=.type "int") k (by rw[l];exact h0) (λv hv=>?_) rfl h;obtain⟨i,t,rfl⟩:=m v hv;exact Looks.of_pure rfl
end
section
variable {X:Cx}{E:XK}
theorem z8n{pins:List (Addr×Obj)}{O:L2.St}{H:Hp}{s:Shared}(I:Inv X pins O H s):∀{ys:List V}{its:List Value}{ps:List (List Int)},yC ys its->Paired (λv ns=>AtN H v ns) ys ps->(∀n∈ps,n≠[])->uZ s.heap its ps
 | [],_,_,.nil,.nil,_=>.nil | y::ys,_,_,.cons r rs,.cons a p,hn=>by
  refine .cons ?_ (z8n I rs p λn hm=>hn n (.tail _ hm));obtain⟨b,its,rfl,rfl,⟨o,g,c,k,d⟩,z⟩:=a.tuple I r;exact⟨b,o,k,its,rfl,g,c,d,z,hn _ (.head _)⟩
end
end Dd
namespace Dd
open L2
theorem zgg{H:Hp}{p:Addr}(h:IsC H p):IsD H p:=by
 rcases h with⟨kvs,q⟩ | ⟨o,kvs,q⟩ | ⟨kvs,_,q⟩ | ⟨o,kvs,q⟩;·exact .inr ⟨kvs,.inl q⟩
 ·exact .inr ⟨kvs,.inr ⟨o,q⟩⟩
 ·exact .inl ⟨kvs,.inl q⟩
 ·exact .inl ⟨kvs,.inr ⟨o,q⟩⟩
end Dd
namespace L2
open Dd
end L2
namespace Dd
open L2
section
variable {X:Cx}{E:XK}{a:Expr}
noncomputable def ze9(f:FE):FT:=fun ρ s=>(f ρ s).bind λd s1=>match listOf s1 d with | some xs=>.ok (!xs.isEmpty) s1 | none=>.no
theorem z2l{mg:Gm}{H:Hp}{Y:List Addr}{ds:List D}{vs:List V}(h:zC mg H Y ds vs):vs.isEmpty=ds.isEmpty:=by
 have:=h.length;cases ds<;>cases vs<;>simp at this ⊢
theorem zgb{f:FE}(h:RE X E a f)(he:∀whole,isTrue a X.env whole=(do let v <- whole;standAt a.pos;holding [v] (truthy v)):=by intro _;rfl):RT X E a (ze9 f):= z4C (z9o h he) λO H Q ⟨Y,ρ,s,r,en,h⟩=>by
  refine yc (k:=fun ρ d s1=>match listOf s1 d with | some xs=>.ok (!xs.isEmpty) s1 | none=>.no) r en h _ λv H1 Y1 s1 d r1 en1 dn stp h1=>?_;split at h1
  ·rename_i xs e;obtain⟨p,vs,rfl,q1,q2⟩:=zI r1 e dn;exact⟨!xs.isEmpty,.inl ⟨vs,.inl q1,by rw[z2l q2]⟩,h1.here (b:=!xs.isEmpty) r1 rfl⟩
  ·exact h1.elim
end
@[simp] theorem zeL (f:FE)(ρ:Ev)(s:Sto):ze9 f ρ s=(f ρ s).bind λd s1=>match listOf s1 d with | some xs=>.ok (!xs.isEmpty) s1 | none=>.no:=id rfl
end Dd
namespace Pg
open L2 Dd
@[simp] noncomputable def z4v:FS:=(wZ (z9s (eIs "int" (zd 0)) (zfl (eIs "bool" (zd 0)))))
noncomputable def jx:FS:=z4v
noncomputable def yu:Mir:=Mof ["thing"] 1 jx
@[simp] noncomputable def z4O:FS:=(wZ (z9s (eIs "tuple" (zd 0)) (z1R dLe dLe (eC (.int 2)) (ze vM (za (zd 0) zk)) (eC (.int 4)))))
noncomputable def vB:FS:=z4O
noncomputable def yi:Mir:=Mof ["thing"] 1 vB
@[simp] noncomputable def yX:FS:=(wJ 3 (jP (za (kJ zk) zk)))
@[simp] def yY:FS:=(wJ 3 (z4J (yw (zd 3)) [some 1,some 2,none,none] 2 3 (z5c (za (zd 0) (za (eOp ud (zd 1) (eC (.int 1))) zk))) (eOp ud (zd 2) (kJ (za (zd 3) zk)))))
@[simp] def yU:FS:=(z8Y (z5J (za (zd 0) zk)) (xM 4) yY)
@[simp] noncomputable def jV:FS:=(wZ (zd 3))
def uo:FS:=(zW yX (zW yU jV))
def zN:Mir:=Mof ["size","least","most","found","place"] 3 uo
@[simp] noncomputable def z1W:FS:=(wZ (eC (.bl false)))
@[simp] noncomputable def z20:FS:=(fIf (fOr (z26 (tOf (eIs "tuple" (zd 0)))) (tOf (eOp dNe (ze vM (za (zd 0) zk)) (zd 1)))) z1W vn)
@[simp] def jq:FS:=(wZ (ze zbZ (za (zV (yw (zd 0)) [none] (xM 0) xT (ze yu (za (zd 0) zk))) zk)))
def uK:FS:=(zW z20 jq)
def zU:Mir:=Mof ["thing","many"] 2 uK
@[simp] noncomputable def z1t:FS:=fNo
@[simp] noncomputable def qw:FS:=(fIf (fOr (z26 (tOf (ze yu (za (zd 0) zk)))) (z26 (tOf (z1R dLe dLe (zd 1) (zd 0) (zd 2))))) z1t vn)
noncomputable def jo:FS:=qw
noncomputable def xZ:Mir:=Mof ["thing","least","most"] 3 jo
@[simp] noncomputable def z0q:FS:=(fIf (fOr (z26 (tOf (ze yu (za (zd 0) zk)))) (z26 (tOf (z1R dLe dLe (zd 1) (zd 0) (zd 2))))) (z4j "NoNumber") vn)
noncomputable def wb:FS:=z0q
noncomputable def zK:Mir:=jE ["thing","least","most"] 3 wb
@[simp] noncomputable def z7b:FS:=(wZ (eC (.bl false)))
@[simp] def z7a:FS:=(fIf (fOr (z26 (tOf (ze yi (za (zd 0) zk)))) (z26 (tOf (ze zU (za (zd 0) (za (ze vM (za (zd 0) zk)) zk)))))) z7b vn)
@[simp] noncomputable def z6C:FS:=(wZ (z9s (eOp dGe (ze jL (za (zd 0) zk)) (eC (.int 0))) (eOp dGt (ze vN (za (zd 0) zk)) (eC (.int 0)))))
def vq:FS:=(zW z7a z6C)
def zY:Mir:=Mof ["thing"] 1 vq
@[simp] noncomputable def z3G:FS:=fNo
@[simp] def z4c:FS:=(fIf (z26 (tOf (ze zY (za (zd 0) zk)))) z3G vn)
def z1y:FS:=z4c
def vk:Mir:=Mof ["thing"] 1 z1y
@[simp] def z3m:FS:=(fIf (z26 (tOf (ze zY (za (zd 0) zk)))) (z4j "NoLot") vn)
def kY:FS:=z3m
def xw:Mir:=jE ["thing"] 1 kY
@[simp] def z49:FS:=(wZ (ze zd5 (za (zV (zfi (za (zd 0) (za (zd 1) zk))) [none,none] (z5q 0 1) xT (eOp qq (zd 0) (zd 1))) zk)))
def z0L:FS:=z49
def zM:Mir:=Mof ["line","numbers"] 2 z0L
@[simp] def z2p:FS:=(wZ (ze vN (za (zV (yw (zd 0)) [none] (xM 0) xT (ze z9b (za (zd 0) zk))) zk)))
def z3X:FS:=z2p
def yB:Mir:=Mof ["line"] 1 z3X
@[simp] def z2o:FS:=(wZ (ze zd5 (za (zV (yw (zd 0)) [none] (xM 0) xT (ze z9b (za (zd 0) zk))) zk)))
def z3O:FS:=z2o
def yy:Mir:=Mof ["line"] 1 z3O
@[simp] def z2d:FS:=(wZ (ze jZ (za (zV (yw (zd 0)) [none] (xM 0) xT (z4V (zd 0))) zk)))
def z4g:FS:=z2d
def wC:Mir:=Mof ["line"] 1 z4g
@[simp] def z41:FS:=(wZ (ze jZ (za (zV (yw (zd 0)) [none] (xM 0) xT (ze z4r (za (zd 0) (za (eC (.int 0)) zk)))) zk)))
def z5D:FS:=z41
def uS:Mir:=Mof ["line"] 1 z5D
@[simp] def z3x:FS:=(wZ (z9s (ze zU (za (zd 2) (za (ze vM (za (zd 0) zk)) zk))) (z9s (eOp dGe (ze jL (za (zd 2) zk)) (eC (.int 0))) (eOp dLe (ze vN (za (zd 2) zk)) (zd 1)))))
def z4L:FS:=z3x
def uP:Mir:=Mof ["lot","number","thing"] 3 z4L
@[simp] noncomputable def z0h:FS:=(wZ (eOp dIx (zd 0) (zd 1)))
@[simp] noncomputable def z0p:FS:=(fIf (tOf (eOp dLt (zd 1) (ze vM (za (zd 0) zk)))) z0h vn)
@[simp] noncomputable def z0i:FS:=(wZ (eC (.int 0)))
noncomputable def vw:FS:=(zW z0p z0i)
noncomputable def yS:Mir:=Mof ["_law_script","_law_k"] 2 vw
@[simp] noncomputable def z4n:FS:=(wZ (zck (za (eOp zbA (zd 0) (eOp z8Z (eC (.int 10)) (eC (.int 18)))) zk)))
@[simp] noncomputable def z4u:FS:=(fIf (tOf (eOp dGe (zd 0) (eOp z8Z (eC (.int 10)) (eC (.int 18))))) z4n vn)
@[simp] noncomputable def z4H:FS:=(wJ 1 (eC (.int 0)))
@[simp] noncomputable def z06:FS:=(wJ 3 (eOp z87 (eOp qq (eOp ud (eOp ud (eOp z87 (zd 0) (eC (.int 2147483629))) (eOp qq (eC (.int 7919)) (zd 2))) (eC (.int 1))) (eC (.int 48271))) (eC (.int 2147483647))))
@[simp] noncomputable def kZ:FS:=(wJ 3 (eOp z87 (eOp ud (eOp ud (eOp qq (zd 3) (zd 3)) (eOp qq (eC (.int 69621)) (zd 2))) (eC (.int 7))) (eC (.int 2147483587))))
@[simp] noncomputable def z07:FS:=(wJ 1 (eOp ud (eOp qq (zd 1) (eC (.int 2147483587))) (zd 3)))
@[simp] def z05:FS:=(z8Y (z5J (za (eC (.int 64)) zk)) (xM 2) (zW z06 (zW kZ z07)))
@[simp] noncomputable def z4s:FS:=(wZ (zck (za (zd 1) zk)))
def jA:FS:=(zW z4u (zW z4H (zW z05 z4s)))
def vj:Mir:=Mof ["_law_cell","_law_number","_law_j","_law_more"] 1 jA
@[simp] noncomputable def z3r:FS:=(wJ 2 (eOp z87 (eOp dIx (zd 0) (eC (.int 0))) (zd 1)))
@[simp] noncomputable def z2L:FS:=(z4f (zd 0) (eC (.int 0)) (eOp z6F (eOp dIx (zd 0) (eC (.int 0))) (zd 1)))
@[simp] noncomputable def z2O:FS:=(wZ (zd 2))
noncomputable def z08:FS:=(zW z3r (zW z2L z2O))
noncomputable def zo:Mir:=Mof ["_law_pot_here","_law_far","_law_found"] 2 z08
@[simp] noncomputable def z23:FS:=(wZ (z9s (eIs "int" (zd 0)) (zfl (eIs "bool" (zd 0)))))
noncomputable def jT:FS:=z23
noncomputable def qN:Mir:=Mof ["_law_thing"] 1 jT
@[simp] noncomputable def z1e:FS:=(wZ (eC (.bl false)))
@[simp] noncomputable def qL:FS:=(fIf (fOr (z26 (tOf (eIs "tuple" (zd 0)))) (tOf (eOp (zf8 true) (ze vM (za (zd 0) zk)) (kJ (za (eC (.int 2)) (za (eC (.int 3)) (za (eC (.int 4)) zk))))))) z1e vn)
@[simp] noncomputable def z1C:FS:=(wZ (eC (.bl false)))
@[simp] noncomputable def xt:FS:=(fIf (fOr (z26 (tOf (ze qN (za (zd 1) zk)))) (tOf (eOp dLt (zd 1) (eC (.int 0))))) z1C vn)
@[simp] def xg:FS:=(z8Y (yw (zd 0)) (xM 1) xt)
@[simp] noncomputable def wd:FS:=(wZ (eOp dGt (ze vN (za (zd 0) zk)) (eC (.int 0))))
def wz:FS:=(zW qL (zW xg wd))
def yM:Mir:=Mof ["_law_thing","_law_number"] 1 wz
@[simp] noncomputable def xj:FS:=(wJ 2 (ze zo (za (zd 0) (za (ze vM (za (zd 1) zk)) zk))))
@[simp] noncomputable def xp:FS:=(wJ 3 (eOp dIx (jP (za (z4V (eC (.int 1))) (za (eC (.bl true)) (za (eC .non) (za (eC (.str "1")) (za (kJ (za (eC (.int 1)) zk)) (za (eC (.bl false)) (za (jP (za (eC (.int 1)) zk)) zk)))))))) (ze zo (za (zd 0) (za (eC (.int 7)) zk)))))
@[simp] noncomputable def yF:FS:=(wJ 4 (jP (za (eOp ud (eOp ud (eSl (zd 1) yP (uQ (zd 2))) (kJ (za (zd 3) zk))) (eSl (zd 1) (uQ (eOp ud (zd 2) (eC (.int 1)))) yP)) (za (eOp z57 (kJ (za (eC (.int 0)) zk)) (ze vM (za (zd 1) zk))) (za (ze z5x (za (zd 1) zk)) (za (eSl (eOp ud (eOp ud (zd 1) (zd 1)) (zd 1)) yP (uQ (eC (.int 5)))) (za (eSl (zd 1) yP (uQ (eC (.int 1)))) (za (kJ zk) (za (eC .non) zk)))))))))
@[simp] noncomputable def yH:FS:=(wZ (eOp dIx (eOp ud (zd 4) (jP (za (eC (.int 7)) (za (eC (.str "1:2")) (za (eC .dct) (za (kJ (za (zd 1) zk)) zk)))))) (ze zo (za (zd 0) (za (eC (.int 11)) zk)))))
noncomputable def wB:FS:=(zW xj (zW xp (zW yF yH)))
noncomputable def yx:Mir:=Mof ["_law_pot_here","_law_lot_here","_law_at","_law_odd","_law_some"] 2 wB
@[simp] noncomputable def we:FS:=(wJ 2 (eOp dIx (jP (za (eC (.int 10)) (za (eC (.int 61)) (za (eC (.int 1001)) zk)))) (ze zo (za (zd 0) (za (eC (.int 3)) zk)))))
@[simp] def wo:FS:=(wJ 3 (z2j (z5J (za (zd 1) zk)) [some 0,some 2,none] (xM 2) xT (ze zo (za (zd 0) (za (zd 1) zk)))))
@[simp] noncomputable def xV:FS:=(zgv 4 5 (za (ze zo (za (zd 0) (za (zd 1) zk))) (za (ze zo (za (zd 0) (za (zd 1) zk))) zk)))
@[simp] noncomputable def wf:FS:=(wJ 6 (ze zo (za (zd 0) (za (eC (.int 5)) zk))))
@[simp] noncomputable def vR:FS:=(z4f (zd 3) (zd 4) (eC (.int 0)))
@[simp] noncomputable def yZ:FS:=(fIf (tOf (eOp dEq (zd 6) (eC (.int 0)))) vR vn)
@[simp] noncomputable def vT:FS:=(z4f (zd 3) (zd 4) (eOp dIx (zd 3) (zd 5)))
@[simp] noncomputable def xb:FS:=(fIf (tOf (eOp dEq (zd 6) (eC (.int 1)))) vT vn)
@[simp] noncomputable def vI:FS:=(z4f (zd 3) (zd 5) (eOp ud (eC (.int 1)) (ze zo (za (zd 0) (za (eOp zbA (zd 2) (eC (.int 1))) zk)))))
@[simp] noncomputable def yV:FS:=(fIf (tOf (eOp dEq (ze vN (za (zd 3) zk)) (eC (.int 0)))) vI vn)
@[simp] noncomputable def vp:FS:=(wZ (ze jZ (za (zd 3) zk)))
def uu:FS:=(zW we (zW wo (zW xV (zW wf (zW yZ (zW xb (zW yV vp)))))))
def yR:Mir:=z5u (Mof ["_law_pot_here","_law_size","_law_far","_law_found","_law_at","_law_to","_law_way"] 2 uu)
end Pg
namespace Dd
open L2
end Dd
namespace L2
open Dd Zz
end L2
namespace Dd
open L2
end Dd
set_option maxRecDepth 1000000
set_option maxHeartbeats 4000000
namespace Pm
noncomputable def dot(r v:List Int):Int:=(List.zipWith (λa b=>a*b) r v).sum
end Pm
set_option maxRecDepth 1000000
set_option maxHeartbeats 40000000
namespace Pm
end Pm
set_option maxRecDepth 1000000
set_option maxHeartbeats 40000000
namespace Pm
abbrev Sz(n:Nat):Prop:=n=2\/n=3\/n=4
open L2 (maxL minL maxL_ge maxL_mem minL_le minL_mem)
structure Lot(n:Nat)(v:List Int):Prop where
 sz:Sz n
 len:v.length=n
 nn:∀x∈v,0<=x
 pos:∃x∈v,0<x
@[simp] theorem z5l:dot [] []=0:=id rfl
@[simp] theorem dot_cons (a b:Int) (r v:List Int):dot (a::r) (b::v)=a*b+dot r v:=rfl
theorem z2m:∀{r c r' c':List Int},r.length=c.length->dot (r++r') (c++c')=dot r c+dot r' c'
 | [],[],_,_,_=>by simp | a::r,b::c,r',c',h=>by
  have:=z2m (r:=r) (c:=c) (r':=r') (c':=c') (by simpa using h);simp only[_X,dot_cons,this];omega | [],_::_,_,_,h=>by simp at h | _::_,[],_,_,h=>by simp at h
theorem getD_mem{v:List Int}{i:Nat}(h:i<v.length):v.getD i 0∈v:=by simp[List.getD,_q h]
theorem Lot.ne{n:Nat}{v:List Int}(h:Lot n v):v≠[]:=λz=>by
 obtain⟨x,hx,_⟩:=h.pos;rw[z]at hx;simp at hx
open Dd (lexN)
theorem uH:∀a:List Int,lexN a a=false
 | []=>rfl | x::a=>by simp[lexN,uH a]
theorem z3y:∀{a b:List Int},a≠b->lexN b a=!lexN a b
 | [],[],h=>absurd rfl h | [],_::_,_=>rfl | _::_,[],_=>rfl | x::a,y::b,h=>by
  by_cases e:x=y
  ·subst e;have:a≠b:=λz=>h (by rw[z]);simp only[lexN,_C];exact z3y this
  ·have e':¬ y=x:=λz=>e z.symm;simp only[lexN,e,e',_an];by_cases l:x<y;·simp[l];omega
   ·simp[l];omega
theorem z5i:∀{a b c:List Int},lexN a b=true->lexN b c=true->lexN a c=true
 | [],[],_,h,_=>by simp[lexN]at h | [],_::_,[],_,h=>by simp[lexN]at h | [],_::_,_::_,_,_=>rfl | _::_,[],_,h,_=>by simp[lexN]at h | _::_,_::_,[],_,h=>by simp[lexN]at h | x::a,y::b,z::c,h1,h2=>by
  simp only[lexN]at h1 h2 ⊢;by_cases e1:x=y
  ·subst e1;by_cases e2:x=z
   ·subst e2;simp only[_C]at h1 h2 ⊢;exact z5i h1 h2
   ·simp only[e2,_an]at h2 ⊢;exact h2
  ·simp only[e1,_an,_p]at h1;by_cases e2:y=z
   ·subst e2;simp only[e1,_an,_p];exact h1
   ·simp only[e2,_an,_p]at h2;have e3:¬ x=z:=by omega
    simp only[e3,_an,_p];omega
theorem z12:∀{a b:List Int}{x y:Int},a.length=b.length->(lexN a b=true\/(a=b/\x<y))->lexN (a++[x]) (b++[y])=true
 | [],[],x,y,_,h=>by
  rcases h with h | ⟨_,h⟩;·simp[lexN]at h
  ·have:¬ x=y:=by omega
   simp[lexN,this,h] | [],_::_,_,_,h,_=>by simp at h | _::_,[],_,_,h,_=>by simp at h | u::a,w::b,x,y,hl,h=>by
  simp only[_X,lexN];by_cases e:u=w
  ·subst e;simp only[_C];refine z12 (by simpa using hl) ?_;rcases h with h | ⟨h1,h2⟩;·exact .inl (by simpa[lexN] using h)
   ·exact .inr ⟨by simpa using h1,h2⟩
  ·simp only[e,_an,_p];rcases h with h | ⟨h1,h2⟩;·simpa[lexN,e] using h
   ·simp at h1;exact absurd h1.1 e
abbrev Up(L:List (List Int)):Prop:=L.Pairwise λa b=>lexN a b=true
theorem Up.nodup{L:List (List Int)}(h:Up L):L.Nodup:=h.imp λ{a b} q z=>by rw[z,uH]at q;cases q
theorem z7E:∀{L M:List (List Int)},Up L->Up M->(∀x,x∈L ↔ x∈M)->L=M
 | [],[],_,_,_=>rfl | [],b::M,_,_,h=>by have:=(h b).mpr (.head _);cases this | a::L,[],_,_,h=>by have:=(h a).mp (.head _);cases this | a::L,b::M,h1,h2,h=>by
  obtain⟨p1,q1⟩:=_bV.mp h1;obtain⟨p2,q2⟩:=_bV.mp h2;have e:a=b:=by
   rcases _n.mp ((h a).mp (.head _)) with z | z;·exact z
   ·rcases _n.mp ((h b).mpr (.head _)) with z' | z';·exact z'.symm
    ·have:=z5i (p2 a z) (p1 b z');rw[uH]at this;cases this
  subst e;refine _aJ (a::·) (z7E q1 q2 λx=>⟨λhx=>?_,λhx=>?_⟩)
  ·rcases _n.mp ((h x).mp (.tail _ hx)) with z | z;·have:=p1 x hx;rw[z,uH]at this;cases this
   ·exact z
  ·rcases _n.mp ((h x).mpr (.tail _ hx)) with z | z;·have:=p2 x hx;rw[z,uH]at this;cases this
   ·exact z
theorem z7M{α:Type}{a b:List α}{i:Nat}{d:α}(h:i<a.length):(a++b).getD i d=a.getD i d:=by simp[_R,_A h]
theorem z8P{α:Type}{a b:List α}{i:Nat}{d:α}(h:a.length<=i):(a++b).getD i d=b.getD (i-a.length) d:=by simp[_R,_G h]
noncomputable def zaI(F:List (List Int))(c:List Int):List (List Int):=F.flatMap λa=>c.map λg=>a++[g]
noncomputable def qk(cs:List (List Int)):List (List Int):=cs.foldl zaI [[]]
theorem qV(cs:List (List Int))(c:List Int):qk (cs++[c])=zaI (qk cs) c:=by simp[qk]
theorem snoc_ind{α:Type}{P:List α->Prop}(h0:P [])(h1:∀l x,P l->P (l++[x]))(l:List α):P l:=by
 have:∀n (l:List α),l.length=n->P l:=by
  intro n;induction n with
  | zero=>intro l hl;rw[_bX.mp hl];exact h0 | succ n ih=>
   intro l hl;have ne:l≠[]:=λz=>by rw[z]at hl;simp at hl
   rw[<- List.dropLast_concat_getLast ne];exact h1 _ _ (ih _ (by simp[hl]))
 exact this _ l rfl
theorem z1f(cs:List (List Int)):∀v:List Int,v∈qk cs ↔ v.length=cs.length/\∀i,i<cs.length->v.getD i 0∈cs.getD i []:=by
 refine snoc_ind (P:=λcs=>∀v:List Int,v∈qk cs ↔ v.length=cs.length/\∀i,i<cs.length->v.getD i 0∈cs.getD i []) ?_ ?_ cs
 ·intro v;simp[qk]
 ·intro cs c ih v;rw[qV];simp only[zaI,_c5,_I];constructor
  ·rintro⟨a,ha,g,hg,rfl⟩;obtain⟨l,h⟩:=(ih a).mp ha;refine⟨by simp[l],λi hi=>?_⟩;by_cases q:i<cs.length
   ·have:=h i q;rw[z7M (a:=a) (by omega),z7M q];exact this
   ·have e:i=cs.length:=by simp at hi;omega
    subst e;rw[z8P (a:=a) (by omega),z8P (a:=cs) (by omega)];simp[l,hg]
  ·rintro⟨l,h⟩;have ne:v≠[]:=λz=>by rw[z]at l;simp at l
   refine⟨v.dropLast,(ih _).mpr ⟨by simp[l],λi hi=>?_⟩,v.getLast ne,?_,List.dropLast_concat_getLast ne⟩
   ·have:=h i (by simp;omega);rw[z7M hi]at this;have e:v.dropLast.getD i 0=v.getD i 0:=by
     have l':v.length=cs.length+1:=by simpa using l
     have h1:i<v.length:=by omega
     simp[_R,List.getElem?_dropLast,l',hi,_q h1]
    rw[e];exact this
   ·have:=h cs.length (by simp);rw[z8P (_d _)]at this;have e:v.getD cs.length 0=v.getLast ne:=by
     rw[List.getLast_eq_getElem];simp at l;simp[_R,l]
    rw[e]at this;simpa using this
theorem z9f(cs:List (List Int)):(∀c∈cs,c.Pairwise (· < ·))->Up (qk cs):=by
 refine snoc_ind (P:=λcs=>(∀c∈cs,c.Pairwise (· < ·))->Up (qk cs)) (λ_=>by simp[qk,Up]) ?_ cs;intro cs c ih h;have ih:=ih λc hc=>h c (by simp[hc]);have hc:=h c (by simp);have hl:=λv hv=>((z1f cs v).mp hv).1;rw[qV];unfold zaI Up;rw[List.pairwise_flatMap];refine⟨λa ha=>?_,?_⟩
 ·rw[_b1];exact hc.imp λ{x y} q=>z12 rfl (.inr ⟨rfl,q⟩)
 ·refine _bM (λ{a b} ha hb q=>?_) ih;intro x hx y hy;obtain⟨g,_,rfl⟩:=_I.mp hx;obtain⟨k,_,rfl⟩:=_I.mp hy;exact z12 (by rw[hl a ha,hl b hb]) (.inl q)
theorem z4I(cs:List (List Int)){k:Nat}:(∀c∈cs,c.length<=k)->(qk cs).length<=k ^ cs.length:=by
 refine snoc_ind (P:=λcs=>(∀c∈cs,c.length<=k)->(qk cs).length<=k ^ cs.length) (λ_=>by simp[qk]) ?_ cs;intro cs c ih h;have ih:=ih λc hc=>h c (by simp[hc]);have hc:=h c (by simp);rw[qV];have e:(zaI (qk cs) c).length=(qk cs).length*c.length:=by
  unfold zaI;rw[List.length_flatMap];simp;induction (qk cs) with
  | nil=>simp | cons a l ih=>simp[ih,Nat.add_mul,Nat.add_comm]
 rw[e,_y,List.length_singleton,Nat.pow_succ];exact _bj ih hc
end Pm
namespace Pg
open L2 Dd Pm
noncomputable abbrev iL(ns:List Int):List D:=ns.map D.int
theorem zgN{i:Int}{m:Nat}(h:i.natAbs<2 ^ m)(hm:m<=2000):i.natAbs<BIG:=_r h (_a9 (by decide) (by omega))
theorem zaG{a b:Int}{m k:Nat}(s:Sto)(ha:a.natAbs<2 ^ m)(hm:m<=2000)(hb:b.natAbs<2 ^ k)(hk:k<=2000):qq (.int a) (.int b) s=.ok (.int (a*b)) s:=by rw[zaE,_g ⟨zgN ha hm,zgN hb hk⟩]
theorem z5W{a b:Int}(s:Sto)(hb:0<b):z87 (.int a) (.int b) s=.ok (.int (a % b)) s:=by rw[zdn,_g hb]
theorem z9p{xs:List D}(s:Sto)(h:∀x∈xs,x=.bl true):zbZ [.lst xs] s=.ok (.bl true) s:=by
 have e:xs=(xs.map λ_=>true).map D.bl:=by
  rw[_bn];conv=>lhs;rw[<- List.map_id xs]
  exact List.map_congr_left λx hx=>h x hx
 have b:bools xs=some (xs.map λ_=>true):=by
  conv=>lhs;rw[e]
  exact z0W _
 simp[zbZ,yj,b]
theorem z4b{ns:List Int}(s:Sto)(h:ns≠[]):vN [.tup (iL ns)] s=.ok (.int (maxL ns)) s:=by cases ns with
 | nil=>exact absurd rfl h | cons n ns=>simp only[vN,yj,_Y,xR]
theorem zaV{ns:List Int}(s:Sto)(h:ns≠[]):jL [.tup (iL ns)] s=.ok (.int (minL ns)) s:=by cases ns with
 | nil=>exact absurd rfl h | cons n ns=>simp only[jL,yj,_Y,xR]
theorem zdq{ns:List Int}(s:Sto)(h:ns≠[]):vN [.lst (iL ns)] s=.ok (.int (maxL ns)) s:=by cases ns with
 | nil=>exact absurd rfl h | cons n ns=>simp only[vN,yj,_Y,xR]
theorem z9F{ns:List Int}{l:Nat}{s:Sto}(h:ns≠[])(e:s[l]? = some (iL ns)):vN [.loc l] s=.ok (.int (maxL ns)) s:=by cases ns with
 | nil=>exact absurd rfl h | cons n ns=>simp only[vN,yj,e,_Y,xR]
theorem z2s(i:Int)(s:Sto):yu [.int i] s=.ok (.bl true) s:=by simp[yu,Mof,jx,zt,gIs,tyD,isT]
theorem z2q(xs:List D)(s:Sto)(h:2<=xs.length/\xs.length<=4):yi [.tup xs] s=.ok (.bl true) s:=by
 have h1:(2:Int)<=xs.length:=by omega
 have h2:(xs.length:Int)<=4:=by omega
 simp[yi,Mof,vB,zt,gIs,tyD,isT,vM,yj,h1,h2]
theorem z3J (ns:List Int) (s:Sto) (h:ns.length<=1000):zU [.tup (iL ns),.int ns.length] s=.ok (.bl true) s:=by
 simp[zU,Mof,uK,zt,gIs,tyD,isT,vM,yj];rw[z3R (λ_=>D.bl true) (iL ns) [] (by intro x hx;obtain⟨n,_,rfl⟩:=_I.mp hx;simp[z2s]) (by simp[cap];omega)];simp only[Rb,_cn];rw[z9p s (by intro x hx;obtain⟨_,_,rfl⟩:=_I.mp hx;rfl)];simp
theorem z6l{α:Type}{all:List D}{s:Sto}{body:D->Sto->R (Option D)}(g f:α->D):∀(l:List α)(acc:List D),(∀a∈l,body (g a) s=.ok (some (f a)) s)->acc.length+l.length<=cap->wq [] all body (l.map g) acc s=.ok (acc++l.map f) s
 | [],acc,_,_=>by simp[wq,okG] | x::xs,acc,hb,hl=>by
  have ih:=z6l (all:=all) g f xs (acc++[f x]) (λy hy=>hb y (by simp[hy])) (by simp at hl ⊢;omega);have hc:acc.length<cap:=by simp at hl;omega
  rw[_U,wq];simp[okG,hb x (by simp),hc,ih]
theorem zaY(ns:List Int)(s:Sto):zd5 [.lst (iL ns)] s=.ok (.int ns.sum) s:=by simp only[zd5,yj,_Y,xR]
theorem zw:∀(r v:List Int),List.zipWith (λa b=>a*b) r v=(List.zip r v).map λp=>p.1*p.2
 | [],_=>by simp | _::_,[]=>by simp | a::r,b::v=>by simp[zw r v]
theorem z5N:∀(r v:List Int),z4T (iL r) (iL v)=(List.zip r v).map λp=>D.tup [.int p.1,.int p.2]
 | [],_=>by simp[z4T] | _::_,[]=>by simp[z4T] | a::r,b::v=>by
  have:=z5N r v;simp only[iL]at this;simp[z4T,this]
theorem z2y{r v:List Int}{m k:Nat}(s:Sto)(hr:∀x∈r,x.natAbs<2 ^ m)(hv:∀x∈v,x.natAbs<2 ^ k)(hm:m<=2000)(hk:k<=2000)(hl:r.length<=4):zM [.tup (iL r),.tup (iL v)] s=.ok (.int (dot r v)) s:=by
 have ez:=z5N r v;simp only[iL]at ez;simp[zM,Mof,z0L,zt,zco,ez,-List.map_map];rw[z6l _ (λp:Int×Int=>D.int (p.1*p.2)) _ [] (by
  intro p hp;have h1:=hr p.1 (_bq hp).1;have h2:=hv p.2 (_bq hp).2;simp[zaG s h1 hm h2 hk]) (by simp[cap];omega)];simp only[Rb,_cn];have e:(List.zip r v).map (λp:Int×Int=>D.int (p.1*p.2))=iL ((List.zip r v).map λp=>p.1*p.2):=by simp[_aF]
 rw[e,zaY];simp[dot,zw]
noncomputable abbrev rD(r:List Int):D:=.tup (iL r)
theorem z11(xs:List D)(i:Nat)(s:Sto):dSl (.tup xs) none (some (i:Int)) s=.ok (.tup (xs.take i)) s:=by
 have e:Dd.cutD xs none (some (i:Int))=xs.take i:=by
  unfold Dd.cutD;rw[HT.z5V,HT.z80];simp[List.take_eq_take_min]
 simp only[dSl,e]
theorem z5v(xs:List D)(i:Nat)(s:Sto):dSl (.tup xs) (some (i:Int)) none s=.ok (.tup (xs.drop i)) s:=by
 have e:Dd.cutD xs (some (i:Int)) none=xs.drop i:=by
  unfold Dd.cutD;rw[HT.z5V,HT.z80];by_cases h:i<=xs.length
  ·rw[Nat.min_eq_left h];exact _aW (by simp)
  ·rw[Nat.min_eq_right (by omega)];simp[List.drop_of_length_le (show xs.length<=i by omega)]
 simp only[dSl,e]
theorem qA{α:Type}{all:List D}{s:Sto}{body:D->Sto->R (Option D)}(g f:α->D)(p:α->Bool):∀(l:List α)(acc:List D),(∀a∈l,body (g a) s=.ok (if p a=true then some (f a) else none) s)->acc.length+l.length<=cap->wq [] all body (l.map g) acc s=.ok (acc++(l.filter p).map f) s
 | [],acc,_,_=>by simp[wq,okG] | x::xs,acc,hb,hl=>by
  have og:okG [] all s:=by intro p hp;simp at hp
  rw[_U,wq,_g og,hb x (by simp)];cases hp:p x with
  | true=>
   have ih:=qA (all:=all) g f p xs (acc++[f x]) (λy hy=>hb y (by simp[hy])) (by simp at hl ⊢;omega);have hc:acc.length<cap:=by simp at hl;omega
   simp[hc,ih,hp] | false=>
   have ih:=qA (all:=all) g f p xs acc (λy hy=>hb y (by simp[hy])) (by simp at hl ⊢;omega);simp[ih,hp]
theorem z0z{α:Type}{fi:FI}{mp:List (Option Nat)}{fg:FG}{ft:FT}{fe:FE}{ρ:Ev}{s:Sto}(g f:α->D)(p:α->Bool)(ev:α->Ev)(l:List α) (hi:fi ρ s=.ok (l.map g,[]) s)(hg:∀a∈l,fg (g a) (yb mp ρ) s=.ok (ev a) s)(ht:∀a∈l,ft (ev a) s=.ok (p a) s)(he:∀a∈l,p a=true->fe (ev a) s=.ok (f a) s)(hl:l.length<=cap): zV fi mp fg ft fe ρ s=.ok (.lst ((l.filter p).map f)) s:=by
 rw[kq,kM,hi,Rb];rw[qA g f p l [] (by
  intro a ha;simp only[hg a ha,ht a ha,Rb];cases hp:p a with
  | true=>simp[he a ha hp] | false=>simp) (by simpa using hl)];rfl
theorem comp_map{α:Type}{fi:FI}{mp:List (Option Nat)}{fg:FG}{fe:FE}{ρ:Ev}{s:Sto}(g f:α->D)(ev:α->Ev)(l:List α) (hi:fi ρ s=.ok (l.map g,[]) s)(hg:∀a∈l,fg (g a) (yb mp ρ) s=.ok (ev a) s)(he:∀a∈l,fe (ev a) s=.ok (f a) s)(hl:l.length<=cap): zV fi mp fg xT fe ρ s=.ok (.lst (l.map f)) s:=by
 have:=z0z (ft:=xT) g f (λ_=>true) ev l hi hg (λa _=>rfl) (λa ha _=>he a ha) hl;rw[show l.filter (λ_=>true)=l from _cy.mpr (by simp)]at this;exact this
theorem z3o{f:FE}{ρ:Ev}{s:Sto}{xs:List D}(h:f ρ s=.ok (.tup xs) s):yw f ρ s=.ok (xs,[]) s:=by simp[h]
theorem wY{f:FE}{ρ:Ev}{s:Sto}{xs:List D}(h:f ρ s=.ok (.lst xs) s):yw f ρ s=.ok (xs,[]) s:=by simp[h]
structure zh4(n m:Nat)(v:List Int):Prop extends Lot n v where bd:∀x∈v,x<2 ^ m
theorem _root_.Pm.Lot.le4{n:Nat}{v:List Int}(h:Lot n v):v.length<=4/\2<=v.length:=by have:=h.len;have:=h.sz;omega
theorem z6a{n:Nat}{v:List Int}(h:Lot n v)(s:Sto):zY [rD v] s=.ok (.bl true) s:=by
 have l4:=h.le4;have h1:=z2q (iL v) s (by simp;omega);have h2:=z3J v s (by omega);have g1:=z4b s h.ne;have g2:=zaV s h.ne;have mn:0<=minL v:=h.nn _ (minL_mem h.ne);have mx:0<maxL v:=by obtain⟨x,hx,h0⟩:=h.pos;have:=maxL_ge (xs:=v) x hx;omega
 have gl:vM [rD v] s=.ok (.int v.length) s:=by simp[vM,yj]
 have key:∀d:D,yi [d] s=.ok (.bl true) s->vM [d] s=.ok (.int v.length) s->zU [d,.int v.length] s=.ok (.bl true) s->vN [d] s=.ok (.int (maxL v)) s->jL [d] s=.ok (.int (minL v)) s->zY [d] s=.ok (.bl true) s:=λd a1 a2 a3 a4 a5=>by simp[zY,Mof,vq,zt,a1,a2,a3,a4,a5,mn,mx]
 exact key _ h1 gl h2 g1 g2
theorem z2n{n:Nat}{v:List Int}(h:Lot n v)(s:Sto):vk [rD v] s=.ok .non s:=by
 have h1:=z6a h s;have key:∀d:D,zY [d] s=.ok (.bl true) s->vk [d] s=.ok .non s:=λd a1=>by simp[vk,Mof,z1y,zt,a1]
 exact key _ h1
end Pg
namespace Pm
open L2 (maxL minL maxL_ge maxL_mem minL_le minL_mem n3)
end Pm
namespace Pg
open L2 Dd Pm
theorem yr{M:Mir}{f:FE}{ρ:Ev}{s:Sto}{x:D}(h:f ρ s=.ok x s):ze M (za f zk) ρ s=M [x] s:=by simp only[wy,zJ,xq,h,Rb]
theorem call2{M:Mir}{f g:FE}{ρ:Ev}{s:Sto}{x y:D}(h:f ρ s=.ok x s)(h2:g ρ s=.ok y s):ze M (za f (za g zk)) ρ s=M [x,y] s:=by simp only[wy,zJ,xq,h,h2,Rb]
theorem z1v{M:Mir}{f g k:FE}{ρ:Ev}{s:Sto}{x y z:D}(h:f ρ s=.ok x s)(h2:g ρ s=.ok y s)(h3:k ρ s=.ok z s):ze M (za f (za g (za k zk))) ρ s=M [x,y,z] s:=by simp only[wy,zJ,xq,h,h2,h3,Rb]
theorem op2{o:D->D->Sto->R D}{f g:FE}{ρ:Ev}{s:Sto}{x y:D}(h:f ρ s=.ok x s)(h2:g ρ s=.ok y s):eOp o f g ρ s=o x y s:=by simp only[uY,h,h2,Rb]
theorem z8J{i:Int}(h0:0<=i)(h:i<2 ^ 2000):i.natAbs<BIG:=by
 have e:(i.natAbs:Int)=i:=Int.natAbs_of_nonneg h0;have k:(2:Int) ^ 2000<=(BIG:Int):=by decide +kernel
 exact Int.ofNat_lt.mp (Int.lt_of_lt_of_le (by rw[e];exact h) k)
theorem z1J{a b:Int}(s:Sto)(ha:0<=a)(ha':a<2 ^ 2000)(hb:0<=b)(hb':b<2 ^ 2000):qq (.int a) (.int b) s=.ok (.int (a*b)) s:=by rw[zaE,_g ⟨z8J ha ha',z8J hb hb'⟩]
theorem zc6{a b:Int}(s:Sto)(hb:0<b)(hb':b<2 ^ 2000):z6F (.int a) (.int b) s=.ok (.int (a / b)) s:=by rw[zcj,_g ⟨hb,z8J (by omega) hb'⟩]
theorem zdH(ns:List Int)(k:Nat)(s:Sto):∃c,yS [.scr (iL ns),.int k] s=.ok (.int c) s:=by
 by_cases h:k<ns.length
 ·have hk:(k:Int)<ns.length:=by omega
  refine⟨ns[k],?_⟩;have e:ixN (iL ns).length (k:Int)=some k:=by
   unfold ixN;rw[_g (by omega),_g (by simpa using hk)];simp
  have ix:dIx (.scr (iL ns)) (.int k) s=.ok (.int ns[k]) s:=by
   simp only[dIx,yj,atI,e,_Y];simp[h]
  simp only[iL]at ix;simp[yS,Mof,vw,zt,vM,yj,hk,ix]
 ·have hk:¬ (k:Int)<ns.length:=by omega
  exact⟨0,by simp[yS,Mof,vw,zt,vM,yj,hk]⟩
def Pot(s:Sto)(l:Nat):Prop:=∃p:Int,s[l]? = some [.int p]
theorem Pot.lt{s:Sto}{l:Nat}(h:Pot s l):l<s.length:=by
 obtain⟨p,e⟩:=h;exact (_b.mp e).1
theorem Pot.app{s:Sto}{l:Nat}(h:Pot s l)(t:Sto):Pot (s++t) l:=by
 obtain⟨p,e⟩:=h;exact⟨p,by rw[_A (_b.mp e).1];exact e⟩
structure ur(s s':Sto)(l:Nat):Prop where
 pot:Pot s' l
 len:s'.length=s.length
 oth:∀m,m≠l->s'[m]? = s[m]?
theorem zbd{s:Sto}{l:Nat}{far:Int}(h:Pot s l)(h0:0<far)(h1:far<2 ^ 2000):∃r s',zo [.loc l,.int far] s=.ok (.int r) s'/\0<=r/\r<far/\ur s s' l:=by
 obtain⟨p,e⟩:=h;have hl:l<s.length:=(_b.mp e).1;refine⟨p % far,s.set l [.int (p / far)],?_,_bu _ (by omega),_a4 _ h0,⟨p / far,by rw[_H hl]⟩,by simp,λm hm=>_F (_a8 hm)⟩;have ix:dIx (.loc l) (.int 0) s=.ok (.int p) s:=by simp[dIx,yj,e,atI,ixN]
 simp[zo,Mof,z08,zt,ix,z5W s h0,zc6 s h0 h1,e,ixN,z0y,List.replicate]
theorem zdP(s:Sto):z8Z (.int 10) (.int 18) s=.ok (.int 1000000000000000000) s:=by rw[zeo];rfl
theorem pow_step{m r j:Nat}(h:m<2147483648 ^ j)(hr:r<2147483587):m*2147483587+r<2147483648 ^ (j+1):=by
 rw[Nat.pow_succ];generalize 2147483648 ^ j=B at h;omega
theorem zex{m j:Nat}(h:m<2147483648 ^ j)(hj:j<=64):(m:Int)<2 ^ 2000:=by
 have h1:2147483648 ^ j<=2147483648 ^ 64:=_a9 (by decide) hj;have h2:2147483648 ^ 64<=2 ^ 2000:=by decide +kernel
 have h3:m<2 ^ 2000:=_r h (_O h1 h2);have h4:((2 ^ 2000:Nat):Int)=2 ^ 2000:=by decide +kernel
 rw[<- h4];exact Int.ofNat_lt.mpr h3
theorem zg5 (c:Int) (s:Sto):∃p:Int,vj [.int c] s=.ok (.loc s.length) (s++[[.int p]]):=by
 by_cases h:1000000000000000000<=c;·exact⟨c-1000000000000000000,by simp[vj,Mof,jA,zt,zdP,h,D.flat.flats,z0y,cap,List.replicate]⟩
 ·have lp:∃ ρ' s',z05 [some (.int c),some (.int 0),none,none] s=.ok (.nx ρ') s'/\∃(m:Nat) (a b:Option D),ρ'=[some (.int c),some (.int m),a,b]/\s'=s:=by
   obtain⟨ρ',s',e,m,a,b,e1,e2,_⟩:=kj (all:=vA 64) (body:=λd ρ s=>(xM 2 d ρ s).bind fun ρ' s'=>(zW z06 (zW kZ z07)) ρ' s') (λj ρ s'=>∃(m:Nat) (a b:Option D),ρ=[some (.int c),some (.int m),a,b]/\s'=s/\m<2147483648 ^ j) (vA 64) 0 (λj x hx ρ s' hi=>by
    obtain⟨m,a,b,rfl,rfl,hm⟩:=hi;obtain⟨hj,rfl⟩:=z4w hx;rw[_S]at hm;have r0:=_bu c (show (2147483629:Int)≠0 by decide);have r1:=_a4 c (show (0:Int)<2147483629 by decide);have a1:z87 (.int c) (.int 2147483629) s'=.ok (.int (c % 2147483629)) s':=z5W s' (by decide);have a2:qq (.int 7919) (.int j) s'=.ok (.int (7919*j)) s':=z1J s' (by decide) (by decide +kernel) (by omega) (by omega);have a3:qq (.int (c % 2147483629+7919*j+1)) (.int 48271) s'=.ok (.int ((c % 2147483629+7919*j+1)*48271)) s':=z1J s' (by omega) (by omega) (by decide) (by decide +kernel);generalize hx1:(c % 2147483629+7919*(j:Int)+1)*48271 % 2147483647=x1;have b0:0<=x1:=by rw[<- hx1];exact _bu _ (by decide)
    have b1:x1<2147483647:=by rw[<- hx1];exact _a4 _ (by decide)
    have a4:z87 (.int ((c % 2147483629+7919*j+1)*48271)) (.int 2147483647) s'=.ok (.int x1) s':=by rw[<- hx1];exact z5W s' (by decide)
    have a5:qq (.int x1) (.int x1) s'=.ok (.int (x1*x1)) s':=z1J s' b0 (by omega) b0 (by omega);have a6:qq (.int 69621) (.int j) s'=.ok (.int (69621*j)) s':=z1J s' (by decide) (by decide +kernel) (by omega) (by omega);generalize hx2:(x1*x1+69621*(j:Int)+7) % 2147483587=x2;have c0:0<=x2:=by rw[<- hx2];exact _bu _ (by decide)
    have c1:x2<2147483587:=by rw[<- hx2];exact _a4 _ (by decide)
    have a7:z87 (.int (x1*x1+69621*j+7)) (.int 2147483587) s'=.ok (.int x2) s':=by rw[<- hx2];exact z5W s' (by decide)
    have a8:qq (.int m) (.int 2147483587) s'=.ok (.int (m*2147483587)) s':=z1J s' (by omega) (zex hm (by omega)) (by decide) (by decide +kernel);obtain⟨y,rfl⟩:=_ae c0;refine⟨[some (.int c),some (.int ((m*2147483587+y:Nat):Int)),some (.int j),some (.int y)],s',?_,m*2147483587+y,_,_,rfl,rfl,?_⟩;·simp[a1,a2,a3,a4,a5,a6,a7,a8]
    ·rw[_S];exact pow_step hm (by omega)) [some (.int c),some (.int 0),none,none] s ⟨0,none,none,rfl,rfl,by decide⟩;exact⟨ρ',s',by simpa using e,m,a,b,e1,e2⟩
  obtain⟨ρ',s',e,m,a,b,rfl,rfl⟩:=lp;refine⟨m,?_⟩;have st:zt ["_law_cell","_law_number","_law_j","_law_more"] [.int c]=[some (.int c),none,none,none]:=rfl;simp only[vj,Mof,jA,st,_c,_i,_C];rw[zD (ρ':=[some (.int c),none,none,none]) (s':=s') (by simp[zdP,h])];rw[zD (ρ':=[some (.int c),some (.int 0),none,none]) (s':=s') (by simp)];rw[zD e];simp[D.flat.flats,z0y,cap]
structure LS(s0:Sto)(l:Nat)(s:Sto)(xs:List Int):Prop where
 pot:Pot s l
 len:s.length=s0.length+1
 at_:s[s0.length]? = some (iL xs)
 oth:∀m,m≠l->m<s0.length->s[m]? = s0[m]?
theorem LS.drawn{s0 s s':Sto}{l:Nat}{xs:List Int}(h:LS s0 l s xs)(hl:l<s0.length)(d:ur s s' l):LS s0 l s' xs:= ⟨d.pot,by rw[d.len,h.len],by rw[d.oth _ (by omega)];exact h.at_,λm h1 h2=>by rw[d.oth m h1];exact h.oth m h1 h2⟩
theorem LS.set{s0 s:Sto}{l:Nat}{xs:List Int}(h:LS s0 l s xs)(hl:l<s0.length)(ys:List Int):LS s0 l (s.set s0.length (iL ys)) ys:=by
 refine⟨?_,by simp[h.len],_H (by rw[h.len];omega),λm h1 h2=>?_⟩
 ·obtain⟨p,e⟩:=h.pot;exact⟨p,by rw[_F (by omega)];exact e⟩
 ·rw[_F (by omega)];exact h.oth m h1 h2
theorem LS.fin{s0 s:Sto}{l:Nat}{xs:List Int}(h:LS s0 l s xs)(hl:l<s0.length):ur s0 (s.take s0.length) l:=by
 obtain⟨p,e⟩:=h.pot;refine⟨⟨p,by rw[_aM hl];exact e⟩,by simp[h.len],λm h1=>?_⟩;by_cases h2:m<s0.length;·rw[_aM h2];exact h.oth m h1 h2
 ·rw[List.getElem?_eq_none (by simp[h.len];omega),List.getElem?_eq_none (by omega)]
theorem LS.start{s0 s:Sto}{l:Nat}(d:ur s0 s l)(h:Pot s0 l)(xs:List Int):LS s0 l (s++[iL xs]) xs:= ⟨d.pot.app _,by simp[d.len],by rw[<- d.len];simp,λm h1 h2=>by rw[_A (by rw[d.len];exact h2)];exact d.oth m h1⟩
theorem ur.trans{s s1 s2:Sto}{l:Nat}(a:ur s s1 l)(b:ur s1 s2 l):ur s s2 l:=⟨b.pot,by rw[b.len,a.len],λm h=>by rw[b.oth m h,a.oth m h]⟩
theorem qI{s:Sto}{l:Nat}{far:Int}{f g:FE}{ρ:Ev}(h:Pot s l)(h0:0<far)(h1:far<2 ^ 2000)(hf:f ρ s=.ok (.loc l) s)(hg:g ρ s=.ok (.int far) s):∃r s',ze zo (za f (za g zk)) ρ s=.ok (.int r) s'/\0<=r/\r<far/\ur s s' l:=by
 obtain⟨r,s',e,a,b,c⟩:=zbd h h0 h1;exact⟨r,s',by rw[call2 hf hg,e],a,b,c⟩
theorem z2k{xs:List D}{i:Int}{d:D}{s:Sto}(h0:0<=i)(h:xs[i.toNat]? = some d):dIx (.lst xs) (.int i) s=.ok d s:=by
 have hj:i.toNat<xs.length:=(_b.mp h).1;have e:ixN xs.length i=some i.toNat:=by
  unfold ixN;rw[_g h0,_g (by omega)]
 simp only[dIx,yj,atI,e,_Y,h]
theorem zdv{xs:List D}{l:Nat}{i:Int}{d:D}{s:Sto}(hl:s[l]? = some xs)(h0:0<=i)(h:xs[i.toNat]? = some d):dIx (.loc l) (.int i) s=.ok d s:=by
 have hj:i.toNat<xs.length:=(_b.mp h).1;have e:ixN xs.length i=some i.toNat:=by
  unfold ixN;rw[_g h0,_g (by omega)]
 simp only[dIx,yj,hl,atI,e,_Y,h]
theorem z50{fa fb fc:FE}{ρ:Ev}{s s1 s2:Sto}{L:Nat}{xs:List Int}{i x:Int}(hc:fc ρ s=.ok (.int x) s1)(ha:fa ρ s1=.ok (.loc L) s1)(hb:fb ρ s1=.ok (.int i) s2)(at_:s2[L]? = some (iL xs))(h0:0<=i)(h1:i<xs.length):z4f fa fb fc ρ s=.ok (.nx ρ) (s2.set L (iL (xs.set i.toNat x))):=by
 have e:ixN (iL xs).length i=some i.toNat:=by
  unfold ixN;rw[_g h0,_g (by simp;omega)]
 rw[zcD,hc,Rb,ha,Rb,hb,Rb];simp only[at_,e,z0y,_C,iL,List.map_set]
theorem z8U{xs:List Int}{i:Nat}{x B:Int}(h:∀y∈xs,0<=y/\y<=B)(hx:0<=x/\x<=B):∀y∈xs.set i x,0<=y/\y<=B:=λy hy=>by
 rcases _aH hy with h2 | h2;·exact h y h2
 ·rw[h2];exact hx
theorem z27{x:Int}(h:x<=1000):x<2 ^ 2000:=Int.lt_of_le_of_lt h (by decide +kernel)
theorem z9O{v:List Int}{n:Nat}{s:Sto}:z6s n (.ok (rD v) s)=.ok (rD v) (s.take n):=qU (qZ v)
theorem zcd{ns:List Int}{L:Nat}{s:Sto}{f:FE}{ρ:Ev}(h:ns≠[])(e:s[L]? = some (iL ns))(hf:f ρ s=.ok (.loc L) s):tOf (eOp dEq (ze vN (za f zk)) (eC (.int 0))) ρ s=.ok (decide (maxL ns=0)) s:=by
 rw[zeV,uY,yr hf,z9F h e];simp
theorem z78{ns:List Int}(h:ns≠[])(hn:∀y∈ns,0<=y)(hm:maxL ns≠0):∃x∈ns,0<x:=⟨maxL ns,maxL_mem h,by have:=hn _ (maxL_mem h);omega⟩
end Pg
namespace Pn
open L2 Dd Pm Pg
noncomputable def isI:D->Bool
 | .int _=>true | _=>false
noncomputable def okI:D->Bool
 | .int i=>decide (0<=i) | _=>false
theorem jH{d:D}(h:(tyD d).isSome=true)(s:Sto):yu [d] s=.ok (.bl (isI d)) s:=by cases d<;>simp[tyD]at h<;>simp[yu,Mof,jx,zt,gIs,tyD,isT,isI]
theorem z45{d:D}(h:(tyD d).isSome=true)(s:Sto):qN [d] s=.ok (.bl (isI d)) s:=by cases d<;>simp[tyD]at h<;>simp[qN,Mof,jT,zt,gIs,tyD,isT,isI]
def Kd:D->Prop
 | .tup xs=>∀x∈xs,(tyD x).isSome=true | .scr _=>False | d=>(tyD d).isSome=true
theorem Kd.ty{d:D}(h:Kd d):(tyD d).isSome=true:=by cases d<;>first | rfl | exact h | exact (show False from h).elim
theorem all_ints:∀{xs:List D},xs.all isI=true->∃v:List Int,xs=iL v
 | [],_=>⟨[],rfl⟩ | x::xs,h=>by
  rw[List.all_cons,_u]at h;obtain⟨v,rfl⟩:=all_ints h.2;cases x with
  | int i=>exact⟨i::v,rfl⟩ | _=>simp[isI]at h
theorem z7y:∀{v w:List Int},iL v=iL w->v=w
 | [],[],_=>rfl | [],_::_,h=>by simp at h | _::_,[],h=>by simp at h | a::v,b::w,h=>by
  simp only[iL,_U,_cs,D.int.injEq]at h;rw[h.1,z7y (v:=v) (w:=w) h.2]
theorem z8V(v:List Int):(iL v).all okI=v.all λx=>decide (0<=x):=by
 simp only[iL,List.all_map];rfl
theorem z9r{α:Type}(l:List α)(p:α->Bool)(s:Sto):zbZ [.lst (l.map λx=>D.bl (p x))] s=.ok (.bl (l.all p)) s:=by
 have b:bools (l.map λx=>D.bl (p x))=some (l.map p):=by
  rw[show (l.map λx=>D.bl (p x))=(l.map p).map D.bl by rw[_bn];rfl];exact z0W _
 simp[zbZ,yj,b]
theorem z38 {xs:List D} (hk:∀x∈xs,(tyD x).isSome=true) (s:Sto) (h:xs.length<=1000):zU [.tup xs,.int xs.length] s=.ok (.bl (xs.all isI)) s:=by
 have st:zt ["thing","many"] [.tup xs,.int xs.length]=[some (.tup xs),some (.int xs.length)]:=rfl;simp only[zU,Mof,uK,st,_c,_i,_C];rw[zD (ρ':=[some (.tup xs),some (.int xs.length)]) (s':=s) (by simp[gIs,tyD,isT,vM,yj])];have c:=comp_map (fi:=yw (zd 0)) (mp:=[none]) (fg:=xM 0) (fe:=ze yu (za (zd 0) zk)) (ρ:=[some (.tup xs),some (.int xs.length)]) (s:=s) (λx=>x) (λx=>D.bl (isI x)) (λx=>[some x]) xs (by simp) (λa _=>by simp) (λa ha=>by simp[jH (hk a ha)]) (by simp[cap];omega);simp only[jq,wg,wy,zJ,xq,c,Rb,z9r]
theorem kX{t:Option D}(s:Sto):∀(xs all:List D)(z:Option D),(∀x∈xs,(tyD x).isSome=true)-> if xs.all okI=true then ∃z',vG [] all (λd ρ s=>(xM 1 d ρ s).bind fun ρ' s'=>xt ρ' s') xs [t,z] s=.ok (.nx [t,z']) s else vG [] all (λd ρ s=>(xM 1 d ρ s).bind fun ρ' s'=>xt ρ' s') xs [t,z] s=.ok (.rt (.bl false)) s
 | [],all,z,_=>by simp[vG,okG] | x::xs,all,z,hk=>by
  have hx:=hk x (by simp);have ih:=kX (t:=t) s xs all (some x) λy hy=>hk y (by simp[hy]);have og:okG [] all s:=by intro p hp;simp at hp
  have step:xt [t,some x] s=if okI x=true then .ok (.nx [t,some x]) s else .ok (.rt (.bl false)) s:=by
   have w:=z45 hx s;have no:isI x=false->xt [t,some x] s=.ok (.rt (.bl false)) s:=λh=>by simp[w,h]
   cases x with
   | int i=>
    by_cases h0:0<=i
    ·have:¬ i<0:=by omega
     simp[w,isI,okI,h0,this]
    ·have:i<0:=by omega
     simp[w,isI,okI,h0,this] | _=>rw[no rfl];rfl
  simp only[vG,_g og,z4z,Rb,_cH,_cG,step];cases h:okI x with
  | true=>
   simp only[_C,Rb,List.all_cons,h,_bv];exact ih | false=>simp[h]
theorem zc1{xs:List D}(h:xs.all okI=true):xs.all isI=true:=by
 rw[_aK]at h ⊢;intro x hx;have:=h x hx;cases x<;>simp_all[okI,isI]
theorem noT_{d:D}{s:Sto}(h:gIs "tuple" d s=.ok (.bl false) s):zY [d] s=.ok (.bl false) s/\yM [d] s=.ok (.bl false) s:=by
 constructor
 · simp[zY,Mof,vq,yi,vB,zt,h]
 · simp[yM,Mof,wz,zt,h]
theorem z9g{d:D}(hd:Kd d)(s:Sto):(∃n v,d=rD v/\Lot n v/\zY [d] s=.ok (.bl true) s/\yM [d] s=.ok (.bl true) s)\/(zY [d] s=.ok (.bl false) s/\yM [d] s=.ok (.bl false) s):=by cases d with
  | tup xs=>
    have hk:∀x∈xs,(tyD x).isSome=true:=hd;by_cases hs:2<=xs.length/\xs.length<=4
    · have h1:=z2q xs s hs;have h2:=z38 hk s (by omega);have gl:vM [.tup xs] s=.ok (.int xs.length) s:=by simp[vM,yj]
      have lf:qL [some (.tup xs),none] s=.ok (.nx [some (.tup xs),none]) s:=by
        have:zf8 true (.int (xs.length:Int)) (.tup [.int 2,.int 3,.int 4]) s=.ok (.bl false) s:=by
          have hc:xs.length=2\/xs.length=3\/xs.length=4:=by omega
          rcases hc with hc | hc | hc<;>rw[hc]<;>rfl
        simp[gIs,tyD,isT,gl,this,cap]
      have lp:=kX (t:=some (.tup xs)) s xs xs none hk;have st:zt ["_law_thing","_law_number"] [.tup xs]=[some (.tup xs),none]:=rfl;have lw:yM [.tup xs] s=(match zW xg wd [some (.tup xs),none] s with | .ok (.rt d) s'=>.ok d s' | .ok (.nx _) s'=>.ok .non s' | _=>.no):=by
        simp only[yM,Mof,wz,st,_c,_i,_C];rw[zD lf]<;>(generalize zW xg wd [some (.tup xs),none] s=r;cases r with
          | ok fl _=>cases fl<;>rfl | _=>rfl)
      have q3:xg [some (.tup xs),none] s=vG [] xs (λd ρ s=>(xM 1 d ρ s).bind fun ρ' s'=>xt ρ' s') xs [some (.tup xs),none] s:=by
        rw[xg,z2C];simp only[z13,jX,_K,Rb]
      have pg:∀b,(∀v:List Int,xs=iL v->(decide (0<=minL v)&&decide (0<maxL v))=b)->(xs.all isI=false->b=false)->zY [.tup xs] s=.ok (.bl b) s:=λb hb hb2=>by cases hi:xs.all isI with
        | false=>
          rw[hi]at h2;rw[hb2 hi];have key:∀d:D,yi [d] s=.ok (.bl true) s->vM [d] s=.ok (.int xs.length) s->zU [d,.int xs.length] s=.ok (.bl false) s->zY [d] s=.ok (.bl false) s:=λd a1 a2 a3=>by simp[zY,Mof,vq,zt,a1,a2,a3]
          exact key _ h1 gl h2 | true=>
          rw[hi]at h2;obtain⟨v,rfl⟩:=all_ints hi;have ne:v≠[]:=by rintro rfl;simp at hs
          have g1:=z4b s ne;have g2:=zaV s ne;have hb:=hb v rfl;have key:∀d:D,yi [d] s=.ok (.bl true) s->vM [d] s=.ok (.int (iL v).length) s->zU [d,.int (iL v).length] s=.ok (.bl true) s->vN [d] s=.ok (.int (maxL v)) s->jL [d] s=.ok (.int (minL v)) s->zY [d] s=.ok (.bl b) s:=λd a1 a2 a3 a4 a5=>by
            rw[<- hb];by_cases z:0<=minL v;· simp[zY,Mof,vq,zt,a1,a2,a3,a4,a5,z,-List.length_map]
            · simp[zY,Mof,vq,zt,a1,a2,a3,a4,a5,z,-List.length_map]
          exact key _ h1 gl h2 g1 g2
      cases ho:xs.all okI with
      | false=>
        right;rw[ho,_l (by decide)]at lp;refine⟨pg false (λv hv=>?_) (λ_=>rfl),?_⟩
        · subst hv;rw[z8V]at ho;rw[Bool.and_eq_false_iff];left;rw[_T];intro z;have ne:v≠[]:=by rintro rfl;simp at hs
          have:v.all (λx=>decide (0<=x))=true:=by
            rw[_aK];intro x hx;have:=minL_le (xs:=v) x hx;exact _aO (by omega)
          rw[this]at ho;cases ho
        · rw[lw,z8s (by rw[q3];exact lp)] | true=>
        rw[ho,_g rfl]at lp;obtain⟨z',lp⟩:=lp;obtain⟨v,rfl⟩:=all_ints (zc1 ho);have ne:v≠[]:=by rintro rfl;simp at hs
        rw[z8V,_aK]at ho;have nn:∀x∈v,0<=x:=λx hx=>of_decide_eq_true (ho x hx);have mn:0<=minL v:=nn _ (minL_mem ne);have g1:=z4b s ne;have lw2:yM [.tup (iL v)] s=.ok (.bl (decide (0<maxL v))) s:=by
          rw[lw,zD (by rw[q3];exact lp)];have key:∀d:D,vN [d] s=.ok (.int (maxL v)) s->wd [some d,z'] s=.ok (.rt (.bl (decide (0<maxL v)))) s:=λd a=>by simp[a]
          rw[key _ g1]
        by_cases mx:0<maxL v
        · left;have hv:Lot v.length v:=by refine⟨?_,?_,nn,⟨maxL v,maxL_mem ne,mx⟩⟩<;>first | rfl | (simp at hs;omega) | skip
          refine⟨v.length,v,rfl,hv,z6a hv s,?_⟩;rw[lw2,_aO mx]
        · right;refine⟨pg false (λw hw=>?_) (λ_=>rfl),?_⟩
          · have:v=w:=z7y hw;subst this;rw[_N mx,Bool.and_false]
          · rw[lw2,_N mx]
    · right;have e:(decide ((2:Int)<=xs.length)&&decide ((xs.length:Int)<=4))=false:=by
        by_cases a:(2:Int)<=xs.length
        · have:¬ (xs.length:Int)<=4:=by omega
          simp[a,this]
        · simp[a]
      constructor
      · have h1:yi [.tup xs] s=.ok (.bl false) s:=by
          by_cases a:(2:Int)<=xs.length
          · have:¬ (xs.length:Int)<=4:=by omega
            simp[yi,Mof,vB,zt,gIs,tyD,isT,vM,yj,a,this]
          · simp[yi,Mof,vB,zt,gIs,tyD,isT,vM,yj,a]
        have key:∀d:D,yi [d] s=.ok (.bl false) s->zY [d] s=.ok (.bl false) s:=λd a1=>by simp[zY,Mof,vq,zt,a1]
        exact key _ h1
      · have gl:vM [.tup xs] s=.ok (.int xs.length) s:=by simp[vM,yj]
        have q:zf8 true (.int (xs.length:Int)) (.tup [.int 2,.int 3,.int 4]) s=.ok (.bl true) s:=by
          have h2:xs.length≠2:=by omega
          have h3:xs.length≠3:=by omega
          have h4:xs.length≠4:=by omega
          generalize xs.length=m at h2 h3 h4;have g2:¬ (2:Int)=m:=by omega
          have g3:¬ (3:Int)=m:=by omega
          have g4:¬ (4:Int)=m:=by omega
          have e:inV (.int (m:Int)) [.int 2,.int 3,.int 4]=false:=by simp[inV,eqV,g2,g3,g4]
          simp[zf8,z7R,yj,z5o,e]
        simp[yM,Mof,wz,zt,gIs,tyD,isT,gl,q,cap] | scr _=>exact hd.elim | _=>
    right;have hd:=hd.ty;first
    | (exfalso;simp[tyD]at hd;done)
    | exact noT_ rfl
theorem z1w:LeM vk xw:=LeM.mof (LeS.if_ LeS.fNo LeS.rfl)
theorem z3j{d:D}{s:Sto}(h:zY [d] s=.ok (.bl false) s):xw [d] s=.ex "NoLot" s:=by
 have st:zt ["thing"] [d]=[some d]:=rfl;simp[xw,jE,kY,st,h]
theorem z1q{f g:FS}{ρ:Ev}{s s':Sto}{c:Str}(h:f ρ s=.ex c s'):zW f g ρ s=.ex c s':=by rw[zdj,h,R.bind_ex]
theorem jC{f:FE}{ρ:Ev}{s s':Sto}{c:Str}(h:f ρ s=.ex c s'):vg f ρ s=.ex c s':=by rw[xI,h,R.bind_ex]
end Pn
namespace Pm
end Pm
namespace Pg
open L2 Dd Pm
theorem vr{i:Nat}{ρ:Ev}{s:Sto}{d:D}(h:ρ[i]? = some (some d)):zd i ρ s=.ok d s:=by rw[jX,h]
theorem z9M{f g:FS}{t:FT}{ρ:Ev}{s:Sto}(h:t ρ s=.ok false s):fIf t f g ρ s=g ρ s:=by rw[z3Z,h,Rb,_l (by decide)]
theorem zal{t u:FT}{ρ:Ev}{s:Sto}(h:t ρ s=.ok false s)(h2:u ρ s=.ok false s):fOr t u ρ s=.ok false s:=by rw[zg3,h,Rb,_l (by decide),h2]
theorem vL{f:FE}{ρ:Ev}{s:Sto}{b:Bool}(h:f ρ s=.ok (.bl b) s):tOf f ρ s=.ok b s:=by rw[zeV,h];rfl
theorem zcw{t:FT}{ρ:Ev}{s:Sto}(h:t ρ s=.ok true s):z26 t ρ s=.ok false s:=by rw[zbn,h];rfl
end Pg
namespace Pm
end Pm
namespace Pg
open L2 Dd Pm
end Pg
namespace Pm
end Pm
namespace Pg
open L2 Dd Pm
theorem z0J{ar:FA}{ρ:Ev}{s s1:Sto}{n:Nat}(hn:n<=1000)(h:ar ρ s=.ok [.int n] s1):z5J ar ρ s=.ok ((List.range n).map λk:Nat=>D.int ((k:Nat):Int),[]) s1:=by
 rw[zei,h,Dd.R.bind_ok];simp only;rw[_g ⟨by omega,by omega⟩];simp[vA]
end Pg
namespace Pn
open L2 Dd Pm Pg
theorem z52{s:Sto}{x y:List D}:(s++[x]).set s.length y=s++[y]:=by simp
end Pn
namespace Pm
open L2 (maxL minL maxL_ge maxL_mem minL_le minL_mem)
end Pm
namespace Pg
open L2 Dd Pm
theorem z5L{α:Type}{all:List D}{body:D->Sto->R (Option D)}(g:α->D)(P:Nat->Sto->Prop)(Q:D->Prop):∀(l:List α)(j:Nat)(acc:List D)(s:Sto),(∀i a,l[i]? = some a->∀s,P (j+i) s->∃y s',body (g a) s=.ok (some y) s'/\Q y/\P (j+i+1) s')->acc.length+l.length<=cap->P j s->(∀y∈acc,Q y)->∃ys s',wq [] all body (l.map g) acc s=.ok ys s'/\ys.length=acc.length+l.length/\(∀y∈ys,Q y)/\P (j+l.length) s'
 | [],j,acc,s,_,_,hP,hQ=>⟨acc,s,by simp[wq,okG],by simp,hQ,hP⟩ | x::xs,j,acc,s,hb,hl,hP,hQ=>by
  obtain⟨y,s1,e,hy,hP1⟩:=hb 0 x (by simp) s hP;obtain⟨ys,s2,e2,h1,h2,h3⟩:=z5L (all:=all) g P Q xs (j+1) (acc++[y]) s1 (λi a ha s h=>by
   have:=hb (i+1) a (by simpa using ha) s (by rw[show j+(i+1)=j+1+i by omega];exact h);rw[show j+(i+1)+1=j+1+i+1 by omega]at this;exact this) (by simp at hl ⊢;omega) hP1 (by
   intro z hz;rcases _B.mp hz with hz | hz;·exact hQ z hz
   ·simp at hz;rw[hz];exact hy);refine⟨ys,s2,?_,by simp at h1 ⊢;omega,h2,by rw[_c,show j+(xs.length+1)=j+1+xs.length by omega];exact h3⟩;rw[_U,wq,_g (by intro p hp;simp at hp),e];have hc:acc.length<cap:=by simp at hl;omega
  simp[hc,e2]
theorem zae {α:Type} {fi:FI} {mp:List (Option Nat)} {fg:FG} {fe:FE} {ρ:Ev} {s s0:Sto} (g:α->D) (ev:α->Ev) (P:Nat->Sto->Prop) (Q:D->Prop) (l:List α) (hi:fi ρ s=.ok (l.map g,[]) s0) (hg:∀a∈l,∀s,fg (g a) (yb mp ρ) s=.ok (ev a) s) (he:∀i a,l[i]? = some a->∀s,P i s->∃y s',fe (ev a) s=.ok y s'/\Q y/\P (i+1) s') (hl:l.length<=cap) (hP:P 0 s0): ∃ys s',z3E fi mp fg xT fe ρ s=.ok ys s'/\ys.length=l.length/\(∀y∈ys,Q y)/\P l.length s':=by
 obtain⟨ys,s',e,h1,h2,h3⟩:=z5L (all:=l.map g) (body:=λd s=>(fg d (yb mp ρ) s).bind fun ρ' s1=>(xT ρ' s1).bind λt s2=>if t=true then (fe ρ' s2).bind λy s3=>.ok (some y) s3 else .ok none s2) g P Q l 0 [] s0 (λi a ha s hP=>by
  rw[_S]at hP ⊢;obtain⟨y,s',e,hq,hp⟩:=he i a ha s hP;exact⟨y,s',by simp[hg a (_f ha) s,e],hq,hp⟩) (by simpa using hl) hP (by simp);refine⟨ys,s',?_,by simpa using h1,h2,by simpa using h3⟩;rw[kM,hi,Dd.R.bind_ok];exact e
theorem z9a{α:Type}{fi:FI}{mp:List (Option Nat)}{fg:FG}{fe:FE}{ρ:Ev}{s s0:Sto}(g:α->D)(ev:α->Ev)(P:Nat->Sto->Prop)(Q:D->Prop)(l:List α) (hi:fi ρ s=.ok (l.map g,[]) s0)(hg:∀a∈l,∀s,fg (g a) (yb mp ρ) s=.ok (ev a) s)(he:∀i a,l[i]? = some a->∀s,P i s->∃y s',fe (ev a) s=.ok y s'/\Q y/\P (i+1) s')(hl:l.length<=cap)(hP:P 0 s0)(hf:∀y,Q y->y.flat=true): ∃ys s',z2j fi mp fg xT fe ρ s=.ok (.loc s'.length) (s'++[ys])/\ys.length=l.length/\(∀y∈ys,Q y)/\P l.length s':=by
 obtain⟨ys,s',e,h1,h2,h3⟩:=zae g ev P Q l hi hg he hl hP;have fl:∀zs:List D,(∀y∈zs,Q y)->D.flat.flats zs=true:=λzs=>by induction zs with
  | nil=>intro _;rfl | cons z zs ih=>intro hz;simp only[D.flat.flats,_u];exact⟨hf z (hz z (by simp)),ih λy hy=>hz y (by simp[hy])⟩
 exact⟨ys,s',by rw[z96,e,Dd.R.bind_ok,_g (fl ys h2)],h1,h2,h3⟩
end Pg
namespace Po
open L2 Dd Pm Pg Pn
theorem zca{f g:FS}{t:FT}{ρ:Ev}{s:Sto}(h:t ρ s=.ok true s):fIf t f g ρ s=f ρ s:=by rw[z3Z,h,Rb,_g rfl]
section
end
end Po
namespace Pr
open L2 Dd Pm Pg Pn Po
theorem z7T{ns:List Int}(s:Sto)(h:ns≠[]):jL [.lst (iL ns)] s=.ok (.int (minL ns)) s:=by
 obtain⟨a,t,e⟩:=_bz h;rw[e];simp only[jL,yj,_Y,iL];rw[xR]
end Pr
namespace Pn
open L2 Dd Pm Pg
end Pn
namespace Po
open L2 Dd Pm Pg Pn
open PySem.Builtin.Str
end Po
namespace Po
open L2 Dd Pm Pg Pn
end Po
namespace Pr
open L2 Dd Pm Pg Pn Po
open PySem.W
theorem z3I {α β:Type} {all:List D} {s:Sto} {fi2:D->Sto->R ItD} {fb:D->D->Sto->R D} (g:α->D) (g2:α->β->D) (l2:α->List β) (f:α->β->D):∀(l:List α) (acc:List D),(∀a∈l,fi2 (g a) s=.ok ((l2 a).map (g2 a),[]) s)->(∀a∈l,∀b∈l2 a,fb (g a) (g2 a b) s=.ok (f a b) s)->acc.length+(l.flatMap λa=>(l2 a).map (f a)).length<=cap-> z2V [] all (λd acc s=>(fi2 d s).bind λit2 s2=>wq it2.2 it2.1 (λd2 s=>(fb d d2 s).bind λd s3=>.ok (some d) s3) it2.1 acc s2) (l.map g) acc s=.ok (acc++l.flatMap λa=>(l2 a).map (f a)) s
 | [],acc,_,_,_=>by simp[z2V,okG] | x::xs,acc,h1,h2,hl=>by
  have og:okG [] all s:=by intro p hp;simp at hp
  rw[List.flatMap_cons,_y,_x]at hl;rw[_U,z2V,_g og,h1 x (by simp),Rb];have c:=qA (s:=s) (all:=(l2 x).map (g2 x)) (body:=λd2 s=>(fb (g x) d2 s).bind λd s3=>.ok (some d) s3) (g2 x) (f x) (λ_=>true) (l2 x) acc (λb hb=>by simp[h2 x (by simp) b hb]) (by omega);rw[c,Rb,_cy.mpr (by simp)];rw[z3I g g2 l2 f xs _ (λa ha=>h1 a (by simp[ha])) (λa ha=>h2 a (by simp[ha])) (by simp only[_y,_x];omega)];simp
theorem z8j {α β:Type} {fi:FI} {mp:List (Option Nat)} {k1 k2:Nat} {fi2:FI} {fe:FE} {ρ:Ev} {s:Sto} (g:α->D) (g2:α->β->D) (l:List α) (l2:α->List β) (f:α->β->D) (hi:fi ρ s=.ok (l.map g,[]) s) (hi2:∀a∈l,fi2 ((yb mp ρ).set k1 (some (g a))) s=.ok ((l2 a).map (g2 a),[]) s) (he:∀a∈l,∀b∈l2 a,fe (((yb mp ρ).set k1 (some (g a))).set k2 (some (g2 a b))) s=.ok (f a b) s) (hl:(l.flatMap λa=>(l2 a).map (f a)).length<=cap):z4J fi mp k1 k2 fi2 fe ρ s=.ok (.lst (l.flatMap λa=>(l2 a).map (f a))) s:=by
 unfold z4J z62;rw[hi,Rb,z3I (fi2:=λd s=>fi2 ((yb mp ρ).set k1 (some d)) s) (fb:=λd d2 s=>fe (((yb mp ρ).set k1 (some d)).set k2 (some d2)) s) g g2 l2 f l [] hi2 he (by simpa using hl)];rfl
end Pr
namespace Dd
open L2 PySem.W Pm Pr
end Dd
namespace L2
def zeF(H:Hp)(a:Addr)(kvs:List (Key×V)):Prop:=H a=some (.dK kvs)\/(kvs=[]/\H a=some (.dT []))
section
variable {X:Cx}{pins:List (Addr×Obj)}{O:St}{H:Hp}{s:Shared}{a:Addr}{kvs:List (Key×V)}{k:Key}
theorem zbF(I:Inv X pins O H s)(h:zeF H a kvs):kvs.length<=sizeLine/\(a==sysModules)=false/\∃vs,KV kvs vs/\s.heap.DictOf (xo X.prog X.w) a vs:=by
 rcases h with h | ⟨rfl,h⟩;·exact zg9 I.hok h
 ·obtain⟨z,hd,xs,rel,o,es,ep,h1,h2,h3,h4,h5⟩:=(show xf X.prog X.w H s.heap a (.dT []) from I.hok a _ h);cases rel;have e:es=#[]:=by
   have:es.toList=[]:=h4;exact Array.toList_eq_nil_iff.mp this
  subst e;exact⟨z,hd,[],.nil,o,#[],ep,h1,h2,h3,λe he=>by simp at he,.nil,List.nodup_nil⟩
theorem zau(h:zeF H a kvs):Mut (H a):=by rcases h with h | ⟨_,h⟩<;>rw[h]<;>exact True.intro
theorem z8q:MtR X "dict.setdefault" (λx vs H Q=>∃a kvs k z,x=.ref a/\vs=[kV k,z]/\zeF H a kvs/\kvs.length<sizeLine/\(∀v,kz kvs k=some v->Q v H)/\(kz kvs k=none->Q z (upd H a (.dK (zbh kvs k z))))):=by
 intro pins s O H x vs v us Q I rx rv h;obtain⟨a,kvs,k,z,rfl,rfl,hD,hl,q1,q2⟩:=h;cases rx;obtain⟨u,r,rfl,ru,rr⟩:=rv.two;obtain⟨z1,hd,ws,rel,dd⟩:=zbF I hD;have rl:=rel.val k;refine call_meetsIn PySem.F.slot_dict_setdefault dd.typeIs PySem.F.entry_dict_setdefault (PySem.F.args_dict_setdefault_3 _ _ _) (kt_meets_setdefault (xo X.prog X.w) a (zcT ru) hd r) ⟨ws,dd,by rw[<- rel.length];exact z1,λw hw=>?_,λhn h' dd' hs=>?_⟩
 ·rw[hw]at rl;cases hv:kz kvs k with
  | none=>rw[hv]at rl;exact rl.elim | some y=>
   rw[hv]at rl;exact⟨y,H,I.tok _,rl,q1 y hv⟩
 ·rw[hn]at rl;cases hv:kz kvs k with
  | some y=>rw[hv]at rl;exact rl.elim | none=>
   have he:∃q,h'.get? a=some q:=let ⟨q,_,_,hq,_⟩:=dd';⟨q,hq⟩;have hl':(zbh kvs k z).length<=sizeLine:=by have:=z5z kvs k z;omega
   exact⟨z,_,zbv I (zau hD) hs he (zdp hl' hd (rel.put k rr) dd'),rr,q2 hv⟩
end
end L2
namespace Dd
open L2
noncomputable def xx(k:Int):List D->Option (Option (List D×Bool))
 | []=>some none | .tup [.int i,.lst ys]::t=>if i=k then some (some (ys,false)) else xx k t | .tup [.int i,.lst ys,.non]::t=>if i=k then some (some (ys,true)) else xx k t | _=>none
noncomputable def vY(k:Int)(v:D):List D->List D
 | .tup [.int i,.lst ys]::t=>if i=k then .tup [.int i,.lst (ys++[v])]::t else .tup [.int i,.lst ys]::vY k v t | d::t=>d::vY k v t | []=>[]
noncomputable def z4U(k:Int):List D->List D
 | .tup [.int i,.lst ys]::t=>if i=k then .tup [.int i,.lst ys,.non]::t else .tup [.int i,.lst ys]::z4U k t | d::t=>d::z4U k t | []=>[]
section
variable {mg:Gm}{H H':Hp}{Y:List Addr}{s:Sto}{l:Nat}{a p b:Addr}{xs ys:List D}{kvs:List (Key×V)}{k:Int}{vs:List V}{d:D}{v:V}
theorem z1K:∀{kvs:List (Key×V)}{k:Key}{v:V},kz kvs k=some v->∃j:Nat,kvs[j]? = some (k,v)
 | [],k,v,h=>by simp[z9w]at h | (k',v')::r,k,v,h=>by
  by_cases e:k'=k
  ·rw[wk (p:=(k',v')) e]at h;cases h;exact⟨0,by simp[e]⟩
  ·rw[yW (p:=(k',v')) e]at h;obtain⟨j,hj⟩:=z1K h;exact⟨j+1,by simpa using hj⟩
theorem z2A{i k:Int}(h:¬ i=k):¬ ((Sum.inl i:Key)=Sum.inl k):=λz=>h (by injection z)
theorem z1s:∀{xs:List D}{kvs:List (Key×V)},uV mg H Y xs kvs->xx k xs=some none->kz kvs (.inl k)=none
 | [],kvs,h,_=>by simp only[uV]at h;subst h;rfl | x::xs,kvs,h,g=>by
  obtain⟨i,ys,b,vs,r,rfl,h1,h2,h3⟩:=h;rcases h2 with⟨rfl,_⟩ | ⟨rfl,_⟩;all_goals
   simp only[xx]at g;split at g;·simp at g
   ·rename_i ne;rw[yW (z2A ne)];exact z1s h3 g
theorem jQ:∀{xs:List D}{kvs:List (Key×V)}{ys:List D}{z:Bool},uV mg H Y xs kvs->xx k xs=some (some (ys,z))->∃b vs,kz kvs (.inl k)=some (.ref b)/\zC mg H Y ys vs/\(z=false->H b=some (.lst vs))/\(z=true->∃o,H b=some (.frz o (.lst vs)))
 | [],kvs,ys,z,h,g=>by simp[xx]at g | x::xs,kvs,ys,z,h,g=>by
  obtain⟨i,ys',b,vs,r,rfl,h1,h2,h3⟩:=h;rcases h2 with⟨rfl,q⟩ | ⟨rfl,q⟩;all_goals
   simp only[xx]at g;split at g
   ·rename_i e;subst e;simp only[_E,_bL]at g;obtain⟨rfl,rfl⟩:=g;exact⟨b,vs,wk rfl,h1,by simp[q],by simp[q]⟩
   ·rename_i ne;rw[yW (z2A ne)];exact jQ h3 g
def UqK(kvs:List (Key×V)):Prop:=∀(i j:Nat) k k' b,kvs[i]? = some (k,V.ref b)->kvs[j]? = some (k',V.ref b)->i=j
theorem UqK.tail{p:Key×V}{r:List (Key×V)}(h:UqK (p::r)):UqK r:=λi j k k' b h1 h2=>by
 have:=h (i+1) (j+1) k k' b (by simpa using h1) (by simpa using h2);omega
theorem z5P{α:Type}{x:α}{l:List α}(h:x∈l):∃j:Nat,l[j]? = some x:=by
 obtain⟨j,hj,e⟩:=_aj.mp h;exact⟨j,by rw[_q hj,e]⟩
theorem z1a(g:∀ys ws,zC mg H Y ys ws->zC mg H' Y ys ws)(dn:Den mg H' Y d v)(hb:H b=some (.lst vs))(e:H'=upd H b (.lst (vs++[v]))):∀{xs:List D}{kvs:List (Key×V)},uV mg H Y xs kvs->UqK kvs->xx k xs=some (some (ys,false))->kz kvs (.inl k)=some (.ref b)->uV mg H' Y (vY k d xs) kvs
 | [],kvs,h,_,q,_=>by simp[xx]at q | x::xs,kvs,h,u,q,w=>by
  obtain⟨i,zs,c,ws,r,rfl,h1,h2,h3⟩:=h;have fz:∀b' o ws,H b'=some (.frz o (.lst ws))->H' b'=some (.frz o (.lst ws)):=λb' o ws z=>by rw[e,zj (λy=>by subst y;rw[hb]at z;cases z)];exact z
  rcases h2 with⟨rfl,hc⟩ | ⟨rfl,o,hc⟩
  ·simp only[xx]at q;simp only[vY];split at q
   ·rename_i ei;subst ei;rw[_g rfl];rw[wk rfl]at w;cases w;rw[hb]at hc;cases hc;refine⟨i,zs++[d],b,vs++[v],r,rfl,(g _ _ h1).append (zC.one dn),.inl ⟨rfl,by rw[e,zH]⟩,h3.imp (λ_ _ _ _ z=>g _ _ z) (λk' b' ws' hm z=>?_) fz⟩;obtain⟨j,hj⟩:=z5P hm;rw[e,zj (λy=>by
     subst y;have:=u 0 (j+1) (Sum.inl i) _ _ rfl (by simpa using hj);omega)];exact z
   ·rename_i ne;rw[_l ne];rw[yW (z2A ne)]at w;refine⟨i,zs,c,ws,r,rfl,g _ _ h1,.inl ⟨rfl,?_⟩,z1a g dn hb e h3 u.tail q w⟩;obtain⟨j,hj⟩:=z1K w;rw[e,zj (λy=>by
     subst y;have:=u 0 (j+1) (Sum.inl i) _ _ rfl (by simpa using hj);omega)];exact hc
  ·simp only[xx]at q;simp only[vY];split at q;·simp at q
   ·rename_i ne;rw[yW (z2A ne)]at w;exact⟨i,zs,c,ws,r,rfl,g _ _ h1,.inr ⟨rfl,o,fz _ _ _ hc⟩,z1a g dn hb e h3 u.tail q w⟩
theorem z4d{x:D}{q:Key×V}:∀{xs:List D}{kvs:List (Key×V)},uV mg H Y xs kvs->uV mg H Y [x] [q]->uV mg H Y (xs++[x]) (kvs++[q])
 | [],kvs,h,h'=>by simp only[uV]at h;subst h;exact h' | y::xs,kvs,h,h'=>by
  obtain⟨i,zs,c,ws,r,rfl,h1,h2,h3⟩:=h;exact⟨i,zs,c,ws,r++[q],rfl,h1,h2,z4d h3 h'⟩
theorem yJ.touch(r:Rep mg H Y s)(ha:Y[l]? = some a)(hx:s[l]? = some xs)(hp:H p=none)(hD:(kvs=[]/\xs=[]/\H a=some (.dT []))\/(kvs≠[]/\H a=some (.dK kvs)/\uV mg H Y xs kvs)): yJ mg H Y (upd (upd H p (.lst [])) a (.dK (kvs++[(.inl k,.ref p)]))) Y (s.set l (xs++[.tup [.int k,.lst []]])):=by
 have hai:a∈Y:=_f ha;have pn:p∉Y:=r.notin hp;have hll:l<s.length:=by rw[<- r.len];exact (_b.mp ha).1
 have pa:p≠a:=λz=>pn (z ▸ hai);have ka:∀o,H a=some o->(∀kvs,o≠.dT kvs)->(∀kvs,kvs≠[]->o≠.dK kvs)->False:=λo e n2 n3=>by
  rcases hD with⟨_,_,z⟩ | ⟨n,z,_⟩;·rw[e]at z;exact n2 _ (_z z)
  ·rw[e]at z;exact n3 _ n (_z z)
 have nl:∀ws,H a≠some (.lst ws):=λws e=>ka _ e (by intro _ z;cases z) (by intro _ _ z;cases z);have same:∀{b},b≠a->b≠p->upd (upd H p (.lst [])) a (.dK (kvs++[(.inl k,.ref p)])) b=H b:=λ{b} h1 h2=>by rw[zj h1,zj h2]
 have np:∀{b o},H b=some o->b≠p:=λ{b o} e z=>by rw[z,hp]at e;cases e
 have atp:upd (upd H p (.lst [])) a (.dK (kvs++[(.inl k,.ref p)])) p=some (.lst []):=by rw[zj pa,zH]
 have ata:upd (upd H p (.lst [])) a (.dK (kvs++[(.inl k,.ref p)])) a=some (.dK (kvs++[(.inl k,.ref p)])):=zH;generalize hH:upd (upd H p (.lst [])) a (.dK (kvs++[(.inl k,.ref p)]))=H' at same atp ata;have kp:Kp H H':=by
  refine⟨λb o q n1 n2 n3=>?_,λb ⟨ws,q⟩=>?_,λb q=>?_⟩
  ·by_cases z:b=a;·subst z;exact (ka o q n2 n3).elim
   ·rw[same z (np q)];exact q
  ·by_cases z:b=a;·subst z;exact (nl ws q).elim
   ·exact⟨ws,by rw[same z (np q)];exact q⟩
  ·by_cases z:b=a;·subst z;exact .inr (.inr (.inl ⟨_,by simp,ata⟩))
   ·have:H' b=H b:=same z (by rcases q with⟨_,q⟩ | ⟨_,_,q⟩ | ⟨_,_,q⟩ | ⟨_,_,q⟩<;>exact np q);rw[IsC,this];exact q
 have cases_:∀{a' kvs'},H' a'=some (.dK kvs')->a'∈Y->(a'=a/\kvs'=kvs++[(Sum.inl k,V.ref p)])\/(a'≠a/\H a'=some (.dK kvs')):=λ{a' kvs'} e m=>by
  by_cases z:a'=a;·subst z;rw[ata]at e;cases e;exact .inl ⟨rfl,rfl⟩
  ·rw[same z (λy=>pn (y ▸ m))]at e;exact .inr ⟨z,e⟩
 have old:∀{q b},(q,V.ref b)∈kvs->Own H Y b:=λ{q b} hm=>by
  rcases hD with⟨rfl,_,_⟩ | ⟨_,z,_⟩;·simp at hm
  ·exact⟨a,hai,kvs,q,z,hm⟩
 have ow:∀b,Own H' Y b->Own H Y b\/b=p:=λb ⟨a',m,kvs',q,e,hm⟩=>by
  rcases cases_ e m with⟨rfl,rfl⟩ | ⟨_,e⟩
  ·rcases _B.mp hm with hm | hm;·exact .inl (old hm)
   ·simp at hm;exact .inr hm.2
  ·exact .inl ⟨a',m,kvs',q,e,hm⟩
 have wst:∀b ws,b∉Y->H b=some (.lst ws)->H' b=some (.lst ws):=λb ws hb q=>by rw[same (show b≠a from λz=>hb (z ▸ hai)) (np q)];exact q
 have fzs:∀b o ws,H b=some (.frz o (.lst ws))->H' b=some (.frz o (.lst ws)):=λb o ws q=>kp.k b _ q (by intro _ z;cases z) (by intro _ z;cases z) (by intro _ _ z;cases z);refine⟨⟨by simp[r.len],r.nd,λj zs h=>?_,λzs h=>?_,λb h=>?_,?_⟩,_a0 _,λb o h hb _=>?_,λa h1 h2=>absurd h1 h2,λb hb=>(r.mt b hb).imp (λh=>⟨h,kp.l b h⟩) λh=>⟨h,kp.c b h,λ_ _ e=>kp.k b _ e (by intro _ z;cases z) (by intro _ z;cases z) (by intro _ _ z;cases z)⟩,λb h=>?_,λb h=>(ow b h).imp id λz=>by rw[z];exact hp⟩
 ·by_cases hj:l=j
  ·subst hj;rw[_H hll]at h;cases h;refine⟨a,ha,.inr (.inr (.inr (.inl ⟨_,by simp,ata,z4d ?_ ⟨k,[],p,[],[],rfl,zC.nil,.inl ⟨rfl,atp⟩,rfl⟩⟩)))⟩;rcases hD with⟨rfl,rfl,_⟩ | ⟨_,z,dk⟩;·rfl
   ·exact dk.imp (λ_ _ _ _ q=>q.gen kp λ_ _ q=>q) (λq b ws hm=>wst b ws (r.own b (old hm))) fzs
  ·rw[_F hj]at h;obtain⟨b,h1,h2⟩:=r.cell j zs h;refine⟨b,h1,h2.gen kp (λ_ _ q=>q) (same ?_ λz=>pn (z ▸ _f h1)) (_f h1) r.own wst⟩;rintro rfl;exact hj ((_bF r.nd).mp (((_b.mp ha).2).trans ((_b.mp h1).2).symm))
 ·rcases _aH h with h | h;·exact r.flat zs h
  ·rw[h];exact wI (r.flat xs (_f hx)) rfl
 ·rcases ow b h with h | rfl;·exact r.own b h
  ·exact pn
 ·intro a1 m1 a2 m2 k1 k2 i j q1 q2 b e1 e2 g1 g2;have op:∀{q b},(q,V.ref b)∈kvs->b≠p:=λ{q b} hm z=>by obtain⟨u,hu⟩:=r.ownAt (old hm);exact np hu z
  have ot:∀{a' kvs' q b},a'∈Y->H a'=some (.dK kvs')->(q,V.ref b)∈kvs'->b≠p:=λ{a' kvs' q b} m e hm z=>by obtain⟨u,hu⟩:=r.ownAt ⟨a',m,kvs',q,e,hm⟩;exact np hu z
  have lastP:∀{i:Nat} {q b},(kvs++[(Sum.inl k,V.ref p)])[i]? = some (q,V.ref b)->(kvs[i]? = some (q,V.ref b))\/(i=kvs.length/\b=p):=λ{i q b} g=>by
   by_cases hi:i<kvs.length;·rw[_A hi]at g;exact .inl g
   ·rw[_G (by omega)]at g;have:i-kvs.length=0:=by
     have:=(_b.mp g).1;simp at this;omega
    rw[this]at g;simp at g;exact .inr ⟨by omega,g.2.symm⟩
  have hk:∀{i:Nat} {q b},kvs[i]? = some (q,V.ref b)->H a=some (.dK kvs):=λ{i q b} g=>by
   rcases hD with⟨rfl,_,_⟩ | ⟨_,z,_⟩;·simp at g
   ·exact z
  rcases cases_ e1 m1 with⟨rfl,rfl⟩ | ⟨n1,e1⟩<;>rcases cases_ e2 m2 with⟨rfl,rfl⟩ | ⟨n2,e2⟩
  ·rcases lastP g1 with g1 | ⟨rfl,rfl⟩<;>rcases lastP g2 with g2 | ⟨rfl,z⟩;·exact r.uq _ m1 _ m1 _ _ i j q1 q2 b (hk g1) (hk g1) g1 g2
   ·exact absurd z (op (_f g1))
   ·exact absurd rfl (op (_f g2))
   ·exact⟨rfl,rfl⟩
  ·rcases lastP g1 with g1 | ⟨rfl,rfl⟩;·exact r.uq _ m1 _ m2 _ _ i j q1 q2 b (hk g1) e2 g1 g2
   ·exact absurd rfl (ot m2 e2 (_f g2))
  ·rcases lastP g2 with g2 | ⟨rfl,rfl⟩;·exact r.uq _ m1 _ m2 _ _ i j q1 q2 b e1 (hk g2) g1 g2
   ·exact absurd rfl (ot m1 e1 (_f g1))
  ·exact r.uq _ m1 _ m2 _ _ i j q1 q2 b e1 e2 g1 g2
 ·rw[same (show b≠a from λz=>hb (z ▸ hai)) (np h)];exact h
 ·rw[<- hH]at h;exact qJ (qJ h)
theorem yJ.layP{o:HO}(r:Rep mg H Y s)(hp:H p=none):yJ mg H Y (upd H p o) Y s:= have d:DkS H Y (upd H p o) Y:=λa ha kvs e=>⟨ha,by rw[zj (show a≠p from λz=>r.notin hp (z ▸ ha))]at e;exact e⟩;⟨⟨r.len,r.nd,λl xs h=>let ⟨a,h1,h2⟩:=r.cell l xs h;⟨a,h1,h2.gen (.new hp) (λ_ _ q=>q) (zj (h2.ne hp)) (_f h1) r.own (λb vs _ q=>xJ hp b _ q)⟩,r.flat,λb h=>r.own b (d.own h),d.uq r⟩,_a0 _,λb u h _ _=>xJ hp b u h,λa h1 h2=>absurd h1 h2,λa ha=>(r.mt a ha).imp (λh=>⟨h,(Kp.new hp).l a h⟩) λh=>⟨h,(Kp.new hp).c a h,λ_ _ e=>xJ hp a _ e⟩,λb h=>qJ h,λb h=>.inl (d.own h)⟩
theorem kE(hd:d.flat=true):∀{xs:List D},D.flat.flats xs=true->D.flat.flats (vY k d xs)=true
 | [],h=>by simpa[vY] using h | x::xs,h=>by
  simp only[D.flat.flats,_u]at h;unfold vY;split
  ·rename_i i ys t e;cases e;split
   ·simp only[D.flat.flats,D.flat,_bK,_bv,_u]at h ⊢;exact⟨wI h.1 (by simp[D.flat.flats,hd]),h.2⟩
   ·simp only[D.flat.flats,_u];exact⟨h.1,kE hd h.2⟩
  ·rename_i e;cases e;simp only[D.flat.flats,_u];exact⟨h.1,kE hd h.2⟩
  ·rename_i e;cases e
theorem yJ.push(r:Rep mg H Y s)(ha:Y[l]? = some a)(hx:s[l]? = some xs)(n:kvs≠[])(hk:H a=some (.dK kvs))(hd:uV mg H Y xs kvs)(hg:xx k xs=some (some (ys,false)))(hv:kz kvs (.inl k)=some (.ref b))(hb:H b=some (.lst vs))(dn:Den mg H Y d v)(df:d.flat=true): yJ mg H Y (upd H b (.lst (vs++[v]))) Y (s.set l (vY k d xs)):=by
 have hai:a∈Y:=_f ha;have hll:l<s.length:=by rw[<- r.len];exact (_b.mp ha).1
 obtain⟨jb,hjb⟩:=z1K hv;have own:Own H Y b:=⟨a,hai,kvs,_,hk,_f hjb⟩;have bn:b∉Y:=r.own b own;have kp:Kp H (upd H b (.lst (vs++[v]))):=.putL ⟨vs,hb⟩;have same:∀{c},c∈Y->upd H b (.lst (vs++[v])) c=H c:=λ{c} m=>zj (λz=>bn (z ▸ m));have d0:DkS H Y (upd H b (.lst (vs++[v]))) Y:=λc m kvs e=>⟨m,by rw[same m]at e;exact e⟩;have fzs:∀c o ws,H c=some (.frz o (.lst ws))->upd H b (.lst (vs++[v])) c=some (.frz o (.lst ws)):=λc o ws q=>kp.k c _ q (by intro _ z;cases z) (by intro _ z;cases z) (by intro _ _ z;cases z);refine⟨⟨by simp[r.len],r.nd,λj zs h=>?_,λzs h=>?_,λc h=>r.own c (d0.own h),d0.uq r⟩,_a0 _,λc o h hc g=>?_,λa h1 h2=>absurd h1 h2,λc hc=>(r.mt c hc).imp (λh=>⟨h,kp.l c h⟩) λh=>⟨h,kp.c c h,λ_ _ e=>kp.k c _ e (by intro _ z;cases z) (by intro _ z;cases z) (by intro _ _ z;cases z)⟩,λb h=>qJ h,λb h=>.inl (d0.own h)⟩
 ·by_cases hj:l=j
  ·subst hj;rw[_H hll]at h;cases h;exact⟨a,ha,.inr (.inr (.inr (.inl ⟨kvs,n,(same hai).trans hk,z1a (λ_ _ q=>q.gen kp λ_ _ q=>q) (dn.gen kp λ_ _ q=>q) hb rfl hd (λi j k k' b h1 h2=>(r.uq a hai a hai kvs kvs i j k k' b hk hk h1 h2).2) hg hv⟩)))⟩
  ·rw[_F hj]at h;obtain⟨c,h1,h2⟩:=r.cell j zs h;have mc:=_f h1;have nc:c≠a:=by
    rintro rfl;exact hj ((_bF r.nd).mp (((_b.mp ha).2).trans ((_b.mp h1).2).symm))
   refine⟨c,h1,?_⟩;rcases h2 with⟨ws,q1,q2⟩ | ⟨kvs',q1,q2⟩ | ⟨o,kvs',zs',q1,q2⟩ | ⟨kvs',n',q1,q2⟩ | ⟨o,kvs',zs',q1,q3,q2,f⟩;·exact .inl ⟨ws,(same mc).trans q1,q2.gen kp λ_ _ q=>q⟩
   ·exact .inr (.inl ⟨kvs',(same mc).trans q1,q2⟩)
   ·exact .inr (.inr (.inl ⟨o,kvs',zs',(same mc).trans q1,q2⟩))
   ·refine .inr (.inr (.inr (.inl ⟨kvs',n',(same mc).trans q1,q2.imp (λ_ _ _ _ q=>q.gen kp λ_ _ q=>q) (λq c' ws hm z=>?_) fzs⟩)));obtain⟨j',hj'⟩:=z5P hm;rw[zj (λy=>by subst y;exact nc (r.uq c mc a hai kvs' kvs j' jb _ _ _ q1 hk hj' hjb).1)];exact z
   ·exact .inr (.inr (.inr (.inr ⟨o,kvs',zs',(same mc).trans q1,q3,q2.imp (λ_ _ _ _ q=>q.gen kp λ_ _ q=>q) (λq c' ws hm z=>(q2.fz f.1 hm z).elim) fzs,f⟩)))
 ·rcases _aH h with h | h;·exact r.flat zs h
  ·rw[h];exact kE df (r.flat xs (_f hx))
 ·rw[zj (λz=>by subst z;rw[hb]at h;exact g own _ (_z h).symm)];exact h
end
section
variable {mg:Gm}{H H':Hp}{Y:List Addr}{s:Sto}{l:Nat}{a p b:Addr}{xs ys:List D}{kvs:List (Key×V)}{k:Int}{vs:List V}{d:D}{v:V}
theorem z3e:∀{xs:List D}{kvs:List (Key×V)},uV mg H Y xs kvs->kvs.length=xs.length
 | [],kvs,h=>by simp only[uV]at h;subst h;rfl | x::xs,kvs,h=>by
  obtain⟨i,zs,c,ws,r,rfl,h1,h2,h3⟩:=h;simp[z3e h3]
theorem z53(r:Rep mg H Y s)(hx:s[l]? = some xs)(ha:Y[l]? = some a)(hc:IsC H a){g:Option (List D×Bool)}(hg:xx k xs=some g):(xs=[]/\H a=some (.dT []))\/∃kvs,kvs≠[]/\H a=some (.dK kvs)/\uV mg H Y xs kvs:=by
 rcases r.dic hx ha hc with⟨kvs,q1,q2⟩ | ⟨o,kvs,ys,q1,rfl,q2⟩ | q | ⟨o,kvs,ys,q1,rfl,q2⟩;·cases xs with
  | nil=>simp only[zcS]at q2;subst q2;exact .inl ⟨rfl,q1⟩ | cons x xs=>
   simp only[zcS]at q2;obtain⟨k,v,x,r,rfl,h1,rfl,h2⟩:=q2;simp[xx]at hg
 ·simp[xx]at hg
 ·exact .inr q
 ·simp[xx]at hg
theorem vD{e:D}:∀{xs:List D},xx k xs=some none->xx k (xs++[e])=xx k [e]
 | [],_=>rfl | x::xs,h=>by
  unfold xx at h;split at h;·cases ‹_=[] ›
  ·rename_i i ys t e;cases e;split at h;·simp at h
   ·rename_i ne;rw[_X,xx,_l ne];exact vD h
  ·rename_i i ys t e;cases e;split at h;·simp at h
   ·rename_i ne;rw[_X,xx,_l ne];exact vD h
  ·simp at h
theorem kN:∀{xs:List D},xx k xs=some none->vY k d (xs++[.tup [.int k,.lst []]])=xs++[.tup [.int k,.lst [d]]]
 | [],_=>by simp[vY] | x::xs,h=>by
  unfold xx at h;split at h;·cases ‹_=[] ›
  ·rename_i i ys t e;cases e;split at h;·simp at h
   ·rename_i ne;rw[_X,vY,_l ne,kN h];rfl
  ·rename_i i ys t e;cases e;split at h;·simp at h
   ·rename_i ne;rw[_X,vY,kN h];·rfl
    ·intro i ys z;cases z
  ·simp at h
end
section
variable {X:Cx}{E:XK}{o e:Expr}{x:Str}{ap1 ap2 cp1 cp2 lp pos:Pos}
noncomputable def z6O(fo fk:FE)(j:Nat):FE:=fun ρ s=>(fo ρ s).bind λo s1=>match o with
 | .dlo l=>match s1[l]? with
  | some (.non::_)=>.no | _=>(fk ρ s1).bind λkd s2=>match kd,s2[l]?,ρ[j]? with
   | .int k,some xs,some (some d)=>match xx k xs with
    | some none=>if d.flat=true/\xs.length<cap then .ok .non (s2.set l (xs++[.tup [.int k,.lst [d]]])) else .no | some (some (ys,false))=>if d.flat=true/\ys.length<cap/\xs.length<cap then .ok .non (s2.set l (vY k d xs)) else .no | _=>.no
   | _,_,_=>.no
 | _=>.no
theorem zdw {fo fk:FE} (j:Nat) (ho:RE X E o fo) (he:RE X E e fk) (hN:X.N[j]? = some x:=by rfl) (hv:Vis X.env.scope x:=by first | exact Or.inl rfl | exact Or.inr (Or.inl rfl) | exact Or.inr (Or.inr rfl)) (hd:(x==("__debug__":Str))=false:=by decide) (hcd:(x==("__classdict__":Str))=false:=by decide) (hb1:attributeBase o "setdefault" X.env (eval o X.env)=eval o X.env:=by rfl) (hf1:((backTo cp1 (starEach [e,.List [] lp] X.env)).all (λx=>!x.1)&&(backToKw cp1 (keywordEach [] X.env)).all (λx=>x.1.isSome) && decide (([e,.List [] lp]:List Expr).length+([]:List Keyword).length+(if ([]:List Keyword).isEmpty then 0 else 1)<30))=true:=by rfl) (hl1:(ap1.endLine==cp1.line)=true:=by rfl) (hs1:starEach [e,.List [] lp] X.env=(false,eval e X.env)::starEach [.List [] lp] X.env:=by rfl) (hs0:starEach [.List [] lp] X.env=(false,eval (.List [] lp) X.env)::starEach [] X.env:=by rfl) (hp1:(backTo cp1 (starEach [.List [] lp] X.env)).any (·.1)=false:=by rfl) (hb2:attributeBase (.Call (.Attribute o "setdefault" ap1) [e,.List [] lp] [] cp1) "append" X.env (eval (.Call (.Attribute o "setdefault" ap1) [e,.List [] lp] [] cp1) X.env)=eval (.Call (.Attribute o "setdefault" ap1) [e,.List [] lp] [] cp1) X.env:=by rfl) (hf2:((backTo cp2 (starEach [.Name x pos] X.env)).all (λx=>!x.1)&&(backToKw cp2 (keywordEach [] X.env)).all (λx=>x.1.isSome) && decide (([.Name x pos]:List Expr).length+([]:List Keyword).length+(if ([]:List Keyword).isEmpty then 0 else 1)<30))=true:=by rfl) (hl2:(ap2.endLine==cp2.line)=true:=by rfl) (hs2:starEach [.Name x pos] X.env=(false,eval (.Name x pos) X.env)::starEach [] X.env:=by rfl) (hp2:(backTo cp2 (starEach [] X.env)).any (·.1)=false:=by rfl): RE X E (.Call (.Attribute (.Call (.Attribute o "setdefault" ap1) [e,.List [] lp] [] cp1) "append" ap2) [.Name x pos] [] cp2) (z6O fo fk j):= zX (z8D _bh PySem.F.slot_list_append PySem.F.type_list_append z4e (z8D PySem.F.plainAttrs_dict PySem.F.slot_dict_setdefault PySem.F.type_dict_setdefault z8q ho (wc he (wc (z6i qd) qd hs0) hs1) hb1 hf1 hl1 hs1 hp1) (wc (zaW hN hv hd hcd) qd hs2) hb2 hf2 hl2 hs2 hp2) λO H Q ⟨Y,ρ,s,r,en,h⟩=>by
  unfold z6O at h;refine⟨Y,ρ,s,r,en,(okR.bind (Dn:=Den (gm X)) h).imp λov H1 ⟨Y1,s1,od,stp,dn,h1⟩=>?_⟩;have en1:=en.mono stp;split at h1
  ·rename_i l;split at h1;·exact h1.elim
   ·rename_i hnf;have dl:=dn;simp only[Den]at dl;obtain⟨a,rfl,e1,ka⟩:=dl;have hls:∃xs,s1[l]? = some xs:=by
     have:l<s1.length:=by rw[<- stp.rep.len];exact (_b.mp e1).1
     exact⟨_,_q this⟩
    obtain⟨xs1,hx1⟩:=hls;have hty:tyV X.K "dict" (.ref a) H1:=by
     rcases stp.rep.dic hx1 e1 ka with⟨kvs,q1,_⟩ | ⟨o,kvs,ys,q1,rfl,q2⟩ | ⟨kvs,_,q1,_⟩ | ⟨o,kvs,ys,q1,rfl,q2⟩;·exact .inr (.inr (.inl ⟨rfl,.inr ⟨kvs,q1⟩⟩))
     ·exact absurd hx1 (hnf ys)
     ·exact .inr (.inr (.inl ⟨rfl,.inl ⟨kvs,q1⟩⟩))
     ·exact absurd hx1 (hnf ys)
    refine⟨hty,⟨Y1,ρ,s1,stp.rep,en1,(okR.bind (Dn:=Den (gm X)) h1).imp λkv H2 ⟨Y2,s2,kd,stp2,dn2,h2⟩=>?_⟩⟩;have en2:=en1.mono stp2;have r2:=stp2.rep;have dl2:=dn.mono stp2;simp only[Den]at dl2;obtain⟨a',e',e2,ka2⟩:=dl2;cases e';split at h2
    ·rename_i k xs d hx hj;have ek:kv=.int k:=yp dn2;subst ek;obtain⟨v,hv1,hv2⟩:=en2.at_ j d hj;refine⟨by simp,λp hp=>?_⟩;have pa:a≠p:=λz=>r2.notin hp (z ▸ _f e2);have stpP:yJ (gm X) H2 Y2 (upd H2 p (.lst [])) Y2 s2:=yJ.layP r2 hp;split at h2
     ·rename_i hg;split at h2
      ·rename_i hc;have key:∃kvs,zeF H2 a kvs/\kvs.length=xs.length/\kz kvs (.inl k)=none/\((kvs=[]/\xs=[]/\H2 a=some (.dT []))\/(kvs≠[]/\H2 a=some (.dK kvs)/\uV (gm X) H2 Y2 xs kvs)):=by
        rcases z53 r2 hx e2 ka2 hg with⟨rfl,q⟩ | ⟨kvs,n,q1,q2⟩;·exact⟨[],.inr ⟨rfl,q⟩,rfl,rfl,.inl ⟨rfl,rfl,q⟩⟩
        ·exact⟨kvs,.inl q1,z3e q2,z1s q2 hg,.inr ⟨n,q1,q2⟩⟩
       obtain⟨kvs,hD,hlen,hnone,hcell⟩:=key;have hD':zeF (upd H2 p (.lst [])) a kvs:=hD.imp (λq=>by rw[zj pa];exact q) λ⟨z,q⟩=>⟨z,by rw[zj pa];exact q⟩;refine⟨a,kvs,.inl k,.ref p,rfl,rfl,hD',by rw[hlen];exact z6k hc.2,(λv hv=>by rw[hnone]at hv;cases hv),λ_=>?_⟩;rw[z9d _ hnone];have tc:=yJ.touch (k:=k) r2 e2 hx hp hcell;have atp:upd (upd H2 p (.lst [])) a (.dK (kvs++[(.inl k,.ref p)])) p=some (.lst []):=by rw[zj (λz=>pa z.symm),zH]
       have ata:upd (upd H2 p (.lst [])) a (.dK (kvs++[(.inl k,.ref p)])) a=some (.dK (kvs++[(.inl k,.ref p)])):=zH;generalize upd (upd H2 p (.lst [])) a (.dK (kvs++[(.inl k,.ref p)]))=H4 at tc atp ata;refine⟨.inl ⟨rfl,[],.inl (.inl atp)⟩,v,hv1,p,[],v,rfl,rfl,atp,by decide,?_⟩;have hll:l<s2.length:=(_b.mp hx).1;have hx4:(s2.set l (xs++[.tup [.int k,.lst []]]))[l]? = some (xs++[.tup [.int k,.lst []]]):=_H hll;have dk4:uV (gm X) H4 Y2 (xs++[.tup [.int k,.lst []]]) (kvs++[(.inl k,.ref p)]):=by
        rcases tc.rep.dic hx4 e2 (.inr (.inr (.inl ⟨_,by simp,ata⟩))) with⟨_,z,_⟩ | ⟨_,_,_,z,_⟩ | ⟨kvs',_,z,q⟩ | ⟨_,_,_,z,_⟩;·rw[ata]at z;cases z
        ·rw[ata]at z;cases z
        ·rw[ata]at z;cases z;exact q
        ·rw[ata]at z;cases z
       have hv4:kz (kvs++[(.inl k,.ref p)]) (.inl k)=some (.ref p):=by rw[z4p _ _ _ _ hnone,_g rfl]
       have ps:=yJ.push (k:=k) (d:=d) (v:=v) (ys:=[]) tc.rep e2 hx4 (by simp) ata dk4 (by rw[vD hg];simp[xx]) hv4 atp (hv2.mono tc) hc.1;rw[kN hg,List.set_set]at ps;exact h2 .non _ _ (tc.trans ps) (by simp[Den])
      ·exact h2.elim
     ·rename_i ys hg;split at h2
      ·rename_i hc;rcases z53 r2 hx e2 ka2 hg with⟨rfl,q⟩ | ⟨kvs,n,q1,q2⟩;·simp[xx]at hg
       ·obtain⟨b,ws,g1,g2,g3,_⟩:=jQ q2 hg;have hb:=g3 rfl;have pb:b≠p:=λz=>by rw[z,hp]at hb;cases hb
        refine⟨a,kvs,.inl k,.ref p,rfl,rfl,.inl (by rw[zj pa];exact q1),by rw[z3e q2];exact z6k hc.2.2,λu hu=>?_,λz=>by rw[g1]at z;cases z⟩;rw[g1]at hu;cases hu;have hb3:upd H2 p (.lst []) b=some (.lst ws):=by rw[zj pb];exact hb
        have ha3:upd H2 p (.lst []) a=some (.dK kvs):=by rw[zj pa];exact q1
        refine⟨.inl ⟨rfl,ws,.inl (.inl hb3)⟩,v,hv1,b,ws,v,rfl,rfl,hb3,by rw[g2.length];exact z6k hc.2.1,?_⟩;have dk3:uV (gm X) (upd H2 p (.lst [])) Y2 xs kvs:=by
         rcases stpP.rep.dic hx e2 (.inr (.inr (.inl ⟨_,n,ha3⟩))) with⟨_,z,_⟩ | ⟨_,_,_,z,_⟩ | ⟨kvs',_,z,q⟩ | ⟨_,_,_,z,_⟩;·rw[ha3]at z;cases z
         ·rw[ha3]at z;cases z
         ·rw[ha3]at z;cases z;exact q
         ·rw[ha3]at z;cases z
        have ps:=yJ.push (k:=k) (d:=d) (v:=v) stpP.rep e2 hx n ha3 dk3 hg g1 hb3 (hv2.mono stpP) hc.1;exact h2 .non _ _ (stpP.trans ps) (by simp[Den])
      ·exact h2.elim
     ·exact h2.elim
    ·exact h2.elim
  ·exact h1.elim
end
end Dd
namespace L2
def zgB(Q:VK):VK:=λv H=>z6E Q v H\/Q v H
theorem PE.freezeOr{X:Cx}{e:Expr}{t:TE}(h:PE X e t):PE X e (λO H Q=>t O H (zgB Q)):=λpins s O H Q I q=>thn (h pins s O H _ I q) λ_ _ ⟨v,H',I',r,z⟩=>z.elim (λz=>EP.freeze ⟨v,H',I',r,z⟩) λz=>⟨v,H',I',r,z⟩
end L2
namespace Dd
open L2
section
variable {mg:Gm}{H H':Hp}{Y:List Addr}{s:Sto}{l:Nat}{a p b:Addr}{xs ys:List D}{kvs:List (Key×V)}{k:Int}{vs:List V}{d:D}{v:V}
theorem z2T{o:Obj}(g:∀ys ws,D.flat.flats ys=true->zC mg H Y ys ws->zC mg H' Y ys ws)(hb:H b=some (.lst vs))(e:H'=upd H b (.frz o (.lst vs))):∀{xs:List D}{kvs:List (Key×V)},D.flat.flats xs=true->uV mg H Y xs kvs->UqK kvs->xx k xs=some (some (ys,false))->kz kvs (.inl k)=some (.ref b)->uV mg H' Y (z4U k xs) kvs
 | [],kvs,_,h,_,q,_=>by simp[xx]at q | x::xs,kvs,f,h,u,q,w=>by
  obtain⟨i,zs,c,ws,r,rfl,h1,h2,h3⟩:=h;simp only[D.flat.flats,_u]at f;have fzs:∀b' o ws,H b'=some (.frz o (.lst ws))->H' b'=some (.frz o (.lst ws)):=λb' o ws z=>by rw[e,zj (λy=>by subst y;rw[hb]at z;cases z)];exact z
  rcases h2 with⟨rfl,hc⟩ | ⟨rfl,o',hc⟩
  ·have fz:D.flat.flats zs=true:=by simpa[D.flat,D.flat.flats] using f.1
   simp only[xx]at q;simp only[z4U];split at q
   ·rename_i ei;subst ei;rw[_g rfl];rw[wk rfl]at w;cases w;rw[hb]at hc;cases hc;refine⟨i,zs,b,vs,r,rfl,g _ _ fz h1,.inr ⟨rfl,o,by rw[e,zH]⟩,h3.imp (λys' _ _ hm z=>g _ _ ?_ z) (λk' b' ws' hm z=>?_) fzs⟩
    ·rcases hm with hm | hm;all_goals
      have:=wH f.2 hm;simpa[D.flat,D.flat.flats] using this
    ·obtain⟨j,hj⟩:=z5P hm;rw[e,zj (λy=>by
      subst y;have:=u 0 (j+1) (Sum.inl i) _ _ rfl (by simpa using hj);omega)];exact z
   ·rename_i ne;rw[_l ne];rw[yW (z2A ne)]at w;refine⟨i,zs,c,ws,r,rfl,g _ _ fz h1,.inl ⟨rfl,?_⟩,z2T g hb e f.2 h3 u.tail q w⟩;obtain⟨j,hj⟩:=z1K w;rw[e,zj (λy=>by
     subst y;have:=u 0 (j+1) (Sum.inl i) _ _ rfl (by simpa using hj);omega)];exact hc
  ·have fz:D.flat.flats zs=true:=by simpa[D.flat,D.flat.flats] using f.1
   simp only[xx]at q;simp only[z4U];split at q;·simp at q
   ·rename_i ne;rw[yW (z2A ne)]at w;exact⟨i,zs,c,ws,r,rfl,g _ _ fz h1,.inr ⟨rfl,o',fzs _ _ _ hc⟩,z2T g hb e f.2 h3 u.tail q w⟩
theorem z1G:∀{xs:List D},D.flat.flats xs=true->D.flat.flats (z4U k xs)=true
 | [],h=>by simpa[z4U] using h | x::xs,h=>by
  simp only[D.flat.flats,_u]at h;unfold z4U;split
  ·rename_i i ys t e;cases e;split
   ·simp only[D.flat.flats,D.flat,_bK,_bv,_u]at h ⊢;exact h
   ·simp only[D.flat.flats,_u];exact⟨h.1,z1G h.2⟩
  ·rename_i e;cases e;simp only[D.flat.flats,_u];exact⟨h.1,z1G h.2⟩
  ·rename_i e;cases e
theorem yJ.frzOwn(o:Obj)(r:Rep mg H Y s)(ha:Y[l]? = some a)(hx:s[l]? = some xs)(n:kvs≠[])(hk:H a=some (.dK kvs))(hd:uV mg H Y xs kvs)(hg:xx k xs=some (some (ys,false)))(hv:kz kvs (.inl k)=some (.ref b))(hb:H b=some (.lst vs)): yJ mg H Y (upd H b (.frz o (.lst vs))) Y (s.set l (z4U k xs)):=by
 have hai:a∈Y:=_f ha;have hll:l<s.length:=by rw[<- r.len];exact (_b.mp ha).1
 obtain⟨jb,hjb⟩:=z1K hv;have own:Own H Y b:=⟨a,hai,kvs,_,hk,_f hjb⟩;have bn:b∉Y:=r.own b own;have kk:∀c u,H c=some u->(∀vs,u≠.lst vs)->(∀kvs,u≠.dT kvs)->(∀kvs,kvs≠[]->u≠.dK kvs)->upd H b (.frz o (.lst vs)) c=some u:=λc u h hn _ _=>by rw[zj (λz=>by subst z;rw[hb]at h;exact hn vs (_z h).symm)];exact h
 have g:∀ys ws,D.flat.flats ys=true->zC mg H Y ys ws->zC mg (upd H b (.frz o (.lst vs))) Y ys ws:=λys ws f q=>q.flatten kk f;have same:∀{c},c∈Y->upd H b (.frz o (.lst vs)) c=H c:=λ{c} m=>zj (λz=>bn (z ▸ m));have d0:DkS H Y (upd H b (.frz o (.lst vs))) Y:=λc m kvs e=>⟨m,by rw[same m]at e;exact e⟩;have fzs:∀c o' ws,H c=some (.frz o' (.lst ws))->upd H b (.frz o (.lst vs)) c=some (.frz o' (.lst ws)):=λc o' ws q=>kk c _ q (by intro _ z;cases z) (by intro _ z;cases z) (by intro _ _ z;cases z);refine⟨⟨by simp[r.len],r.nd,λj zs h=>?_,λzs h=>?_,λc h=>r.own c (d0.own h),d0.uq r⟩,_a0 _,λc o' h hc q=>?_,λa h1 h2=>absurd h1 h2,λc hc=>(r.mt c hc).imp (λh=>⟨h,by rw[IsL,same hc];exact h⟩) λh=>⟨h,by rw[IsC,same hc];exact h,λ_ _ e=>by rw[same hc];exact e⟩,λb h=>qJ h,λb h=>.inl (d0.own h)⟩
 ·by_cases hj:l=j
  ·subst hj;rw[_H hll]at h;cases h;exact⟨a,ha,.inr (.inr (.inr (.inl ⟨kvs,n,(same hai).trans hk,z2T g hb rfl (r.flat xs (_f hx)) hd (λi j k k' b h1 h2=>(r.uq a hai a hai kvs kvs i j k k' b hk hk h1 h2).2) hg hv⟩)))⟩
  ·rw [_F hj]at h;obtain⟨c,h1,h2⟩:=r.cell j zs h;have mc:=_f h1;have fz:=r.flat zs (_f h);have nc:c≠a:=by
    rintro rfl;exact hj ((_bF r.nd).mp (((_b.mp ha).2).trans ((_b.mp h1).2).symm))
   refine⟨c,h1,?_⟩;rcases h2 with⟨ws,q1,q2⟩ | ⟨kvs',q1,q2⟩ | ⟨o',kvs',zs',q1,q2⟩ | ⟨kvs',n',q1,q2⟩ | ⟨o',kvs',zs',q1,q3,q2,f⟩;·exact .inl ⟨ws,(same mc).trans q1,g _ _ fz q2⟩
   ·exact .inr (.inl ⟨kvs',(same mc).trans q1,q2⟩)
   ·exact .inr (.inr (.inl ⟨o',kvs',zs',(same mc).trans q1,q2⟩))
   ·refine .inr (.inr (.inr (.inl ⟨kvs',n',(same mc).trans q1,q2.imp (λys' _ _ hm q=>g _ _ ?_ q) (λq c' ws hm z=>?_) fzs⟩)))
    ·rcases hm with hm | hm;all_goals
      have:=wH fz hm;simpa[D.flat,D.flat.flats] using this
    ·obtain⟨j',hj'⟩:=z5P hm;rw[zj (λy=>by subst y;exact nc (r.uq c mc a hai kvs' kvs j' jb _ _ _ q1 hk hj' hjb).1)];exact z
   ·subst q3;have fz':D.flat.flats zs'=true:=by simpa[D.flat.flats,D.flat] using fz
    refine .inr (.inr (.inr (.inr ⟨o',kvs',zs',(same mc).trans q1,rfl,q2.imp (λys' _ _ hm q=>g _ _ ?_ q) (λq c' ws hm z=>(q2.fz f.1 hm z).elim) fzs,f⟩)));rcases hm with hm | hm;all_goals
     have:=wH fz' hm;simpa[D.flat,D.flat.flats] using this
 ·rcases _aH h with h | h;·exact r.flat zs h
  ·rw[h];exact z1G (r.flat xs (_f hx))
 ·rw[zj (λz=>by subst z;rw[hb]at h;exact q own _ (_z h).symm)];exact h
end
section
variable {X:Cx}{E:XK}{o e:Expr}{apos pos lp:Pos}
noncomputable def z2c(fo fk:FE):FE:=fun ρ s=>(fo ρ s).bind λo s1=>match o with
 | .dlo l=>(fk ρ s1).bind λkd s2=>match kd,s2[l]? with
  | .int k,some (x::xs)=>match xx k (x::xs) with
   | some none=>.ok (.lst []) s2 | some (some (ys,true))=>.ok (.lst ys) s2 | some (some (ys,false))=>.ok (.lst ys) (s2.set l (z4U k (x::xs))) | none=>.no
  | _,_=>.no
 | _=>.no
theorem zbX{fo fk:FE}(hu:X.A.units+64<cLine)(ho:RE X E o fo)(he:RE X E e fk)(hbase:attributeBase o "get" X.env (eval o X.env)=eval o X.env:=by rfl) (hfew:((backTo pos (starEach [e,.List [] lp] X.env)).all (λx=>!x.1)&&(backToKw pos (keywordEach [] X.env)).all (λx=>x.1.isSome) && decide (([e,.List [] lp]:List Expr).length+([]:List Keyword).length+(if ([]:List Keyword).isEmpty then 0 else 1)<30))=true:=by rfl) (hline:(apos.endLine==pos.line)=true:=by rfl)(htr:backTo pos (starEach [e,.List [] lp] X.env)=[(false,eval e X.env),(false,eval (.List [] lp) X.env)]:=by rfl): RE X E (.Call (.Attribute o "get" apos) [e,.List [] lp] [] pos) (z2c fo fk):= zX (PE.freezeOr (z9j (by omega) ho he (z6i qd) ⟨hbase,hfew,hline,htr⟩)) λO H Q ⟨Y,ρ,s,r,en,h⟩=>by
  unfold z2c at h;refine⟨Y,ρ,s,r,en,(okR.bind (Dn:=Den (gm X)) h).imp λov H1 ⟨Y1,s1,od,stp,dn,h1⟩=>?_⟩;have en1:=en.mono stp;split at h1
  ·rename_i l;have dl:=dn;simp only[Den]at dl;obtain⟨a,rfl,e1,ka⟩:=dl;refine⟨a,rfl,zgg ka,⟨Y1,ρ,s1,stp.rep,en1,(okR.bind (Dn:=Den (gm X)) h1).imp λkv H2 ⟨Y2,s2,kd,stp2,dn2,h2⟩=>?_⟩⟩;have r2:=stp2.rep;have dl2:=dn.mono stp2;simp only[Den]at dl2;obtain⟨a',e',e2,ka2⟩:=dl2;cases e';split at h2
   ·rename_i k x xs hx;have ek:kv=.int k:=yp dn2;subst ek;refine⟨by simp,λp hp=>?_⟩;have pa:a≠p:=λz=>r2.notin hp (z ▸ _f e2);have stpP:yJ (gm X) H2 Y2 (upd H2 p (.lst [])) Y2 s2:=yJ.layP r2 hp;have cell:∀{g},xx k (x::xs)=some g->∃kvs,kvs≠[]/\H2 a=some (.dK kvs)/\uV (gm X) H2 Y2 (x::xs) kvs:=λ{g} hg=>by
     rcases z53 r2 hx e2 ka2 hg with⟨z,_⟩ | q;·cases z
     ·exact q
    split at h2
    ·rename_i hg;obtain⟨kvs,n,q1,q2⟩:=cell hg;refine⟨none,.inl ⟨kvs,.inl k,.inl (by rw[zj pa];exact q1),rfl,(z1s q2 hg).symm⟩,.inl ⟨p,[],rfl,zH,λo=>?_⟩⟩;rw[z7H];exact h2 _ _ _ (yJ.layP r2 hp) (by simp only[Den];exact⟨p,o,[],rfl,zH,zC.nil⟩)
    ·rename_i ys hg;obtain⟨kvs,n,q1,q2⟩:=cell hg;obtain⟨b,ws,g1,g2,_,g4⟩:=jQ q2 hg;obtain⟨o,hb⟩:=g4 rfl;have pb:b≠p:=λz=>by rw[z,hp]at hb;cases hb
     refine⟨some (.ref b),.inl ⟨kvs,.inl k,.inl (by rw[zj pa];exact q1),rfl,g1.symm⟩,.inr ?_⟩;exact h2 _ _ _ stpP (by simp only[Den];exact⟨b,o,ws,rfl,by rw[zj pb];exact hb,g2.mono stpP⟩)
    ·rename_i ys hg;obtain⟨kvs,n,q1,q2⟩:=cell hg;obtain⟨b,ws,g1,g2,g3,_⟩:=jQ q2 hg;have hb:=g3 rfl;have pb:b≠p:=λz=>by rw[z,hp]at hb;cases hb
     have hb3:upd H2 p (.lst []) b=some (.lst ws):=by rw[zj pb];exact hb
     have ha3:upd H2 p (.lst []) a=some (.dK kvs):=by rw[zj pa];exact q1
     have dk3:uV (gm X) (upd H2 p (.lst [])) Y2 (x::xs) kvs:=by
      rcases stpP.rep.dic hx e2 (.inr (.inr (.inl ⟨_,n,ha3⟩))) with⟨_,z,_⟩ | ⟨_,_,_,z,_⟩ | ⟨kvs',_,z,q⟩ | ⟨_,_,_,z,_⟩;·rw[ha3]at z;cases z
      ·rw[ha3]at z;cases z
      ·rw[ha3]at z;cases z;exact q
      ·rw[ha3]at z;cases z
     refine⟨some (.ref b),.inl ⟨kvs,.inl k,.inl ha3,rfl,g1.symm⟩,.inl ⟨b,ws,rfl,hb3,λo=>?_⟩⟩;have st3:=yJ.frzOwn (k:=k) o stpP.rep e2 hx n ha3 dk3 hg g1 hb3;refine h2 _ _ _ (stpP.trans st3) ?_;simp only[Den];exact⟨b,o,ws,rfl,zH,(g2.mono stpP).mono st3⟩
    ·exact h2.elim
   ·exact h2.elim
  ·exact h1.elim
end
end Dd
namespace L2
theorem z2Y:fillsInplaceSlot (.type "list") "add" (Operator.Add==.Add)=pure false:=by
 unfold fillsInplaceSlot;show (typeLookup (.type "list") (dunderI "add") >>= λfi=>pure (fi.isSome&&!isSeqSlot fi))=pure false;rw[_b2.lookup];have h:isSeqSlot (some (.builtin "list.__iadd__"))=true:=by decide +kernel
 simp only[pure_bind,h,_cF,Bool.not_true,Bool.and_false]
theorem z1T:seqSlot? (.type "list") (dunderI "add")=pure (some (.builtin "list.__iadd__")):=PySem.seqSlot_of _b2.lookup (by decide +kernel)
def zeO:TIp:=λx y H Q=>∃l b xs zs,x=.ref l/\y=.ref b/\H l=some (.lst xs)/\Rd H b (.lst zs)/\xs.length+zs.length<=sizeLine/\Q (.ref l) (upd H l (.lst (xs++zs)))
theorem z9K{X:Cx}:PIp X .Add zeO:=by
 intro pins s O H x y v u Q I rx ry h;obtain⟨l,b,xs,zs,rfl,rfl,hH,hB,hz,q⟩:=h;cases rx;cases ry;obtain⟨z,its,n,r,hl,e⟩:=I.lstM hH;obtain⟨z2,its2,n2,r2,e2⟩:=hB.ok I.hok;have l1:=r.length;have l2:=r2.length;have ta:s.TypeIs (.ref l) "list":=⟨_,e,rfl⟩;have tb:s.TypeIs (.ref b) "list":=⟨_,e2,rfl⟩;unfold inplaceOp;refine _aY ?_;refine _a (_da ta (_a (_cS z2Y ?_)));show wpAny _ _ (if false=true then _ else _) _ _ s;rw[_l _ax];refine _a (wpAny_binaryOp1_none (nm:="add") ta tb noFill_list_add ?_);refine _a (_cS z1T ?_);refine _a (_aw ?_);refine _bl _b2 ta PySem.F.entry_list_iadd (PySem.F.args_list_iadd_2 _ _) (AutoSeq1.list___iadd___list_list_0 l its.toArray n b its2.toArray n2 ?_ (by rw[_k];omega) (by rw[_k,_k];omega)) ⟨e,e2,?_⟩
 ·intro q';simp only[_u]at q';have:=q'.2;simp only[Builtin.List.listTooLong,_k,_p]at this;omega
 ·refine⟨.ref l,_,I.lset (its':=its++its2) hH e (by simp) (r.append r2) ?_,rfl,q⟩;rw[_y];omega
end L2
namespace Dd
open L2
section
variable {X:Cx}{E:XK}{e:Expr}{pos pos':Pos}
noncomputable def z8d(i:Nat)(f:FE):FS:=fun ρ s=>match ρ[i]? with
 | some (some (.loc l))=>(f ρ s).bind λd s1=>match d with
  | .lst ys=>match s1[l]? with
   | some xs=>if D.flat.flats ys=true/\xs.length+ys.length<=cap then .ok (.nx (ρ.set i (some (.loc l)))) (s1.set l (xs++ys)) else .no | none=>.no
  | _=>.no
 | _=>.no
theorem zdW (i:Nat) {x:Str} {f:FE} (hN:X.N.Nodup) (he:RE X E e f) (hi:X.N[i]? = some x:=by rfl) (hx:Loc X.env.scope x:=by first | exact Or.inl rfl | exact Or.inr rfl) (hf:X.fn x=true\/X.env.scope.names.lookup x=some .local:=by first | exact .inl rfl | exact .inr rfl | assumption): RS X E (.AugAssign (.Name x pos') .Add e pos) (z8d i f):= um (zf7 hN hi hx he z9K hf) λDn O H ⟨Y,ρ,s,r,en,h⟩=>by
  unfold z8d at h;split at h
  ·rename_i l ea;obtain⟨v,h1,h2⟩:=en.at_ i _ ea;refine⟨_,h1,?_⟩;refine yc (k:=fun ρ d s1=>match d with
    | .lst ys=>match s1[l]? with
     | some xs=>if D.flat.flats ys=true/\xs.length+ys.length<=cap then R.ok (Fl.nx (ρ.set i (some (.loc l)))) (s1.set l (xs++ys)) else .no | none=>.no
    | _=>.no) r en h _ λv2 H1 Y1 s1 d r1 en1 dn stp h3=>?_;have dl:=h2.mono stp;split at h3
   ·rename_i ys;split at h3
    ·rename_i xs ex;split at h3
     ·rename_i hc;have dl':=dl;simp only[Den]at dl' dn;obtain⟨a,rfl,e1,ka⟩:=dl';obtain⟨b,o',ws,rfl,eb,dw⟩:=dn;obtain⟨vs,q1,q2⟩:=r1.at_ ex e1 ka;have stp3:=yJ.put (l:=l) (xs:=xs++ys) r1 e1 ka (q2.append dw) (wI (r1.flat xs (_f ex)) hc.1);refine⟨a,b,vs,ws,rfl,rfl,q1,.inr ⟨o',eb⟩,by rw[q2.length,dw.length];exact ut hc.2,?_⟩;exact h3 (FlV.nx (O.set i (some (.ref a)))) _ _ stp3 ((en1.mono stp3).set (dl.mono stp3) i)
     ·exact h3.elim
    ·exact h3.elim
   ·exact h3.elim
  ·exact h.elim
end
section
variable {X:Cx}{E:XK}
noncomputable def zd2:D->D->Sto->R D
 | .tup xs,.tup ys,s=>match intsOf xs,intsOf ys with
  | some ns,some ms=>.ok (.bl (HT.lexLt ns ms)) s | _,_=>.no
 | _,_,_=>.no
theorem zed(hu:X.A.units<cLine):∃r,OpR X (compareOp .Lt) r/\OpF X E r zd2:=⟨_,zen hu,λH Y s d1 d2 v1 v2 Q r h1 h2 h=>by
 unfold zd2 at h;split at h
 ·rename_i xs ys;split at h
  ·rename_i ns ms e1 e2;simp only[Den]at h1 h2;obtain⟨a,vs,rfl,q1,p1⟩:=h1;obtain⟨b,ws,rfl,q2,p2⟩:=h2;rw[ui e1]at p1;rw[ui e2]at p2;rw[uj p1]at q1;rw[uj p2]at q2;exact⟨a,b,ns,ms,rfl,rfl,.inl (.inl q1),.inl (.inl q2),h.here r vz⟩
  ·exact h.elim
 ·exact h.elim⟩
end
section
variable {prog:Program}{w:World}{A:Around}{E:Value->Shared->Prop}{s:Shared}
theorem z6K{id:String}{b:Builtin}{args:List Value}{kw:List (Str×Value)}{Q:Value->Shared->Prop}(hk:builtinKind id=none)(hp:plainId id=true) (hb:entryFor table id=some b)(ha:argsOk id ⟨args,kw⟩) (hc:wpAny (model prog w) A.in1 (b ⟨args,kw⟩) (λfin s'=>match fin with
   | .done f=>(match (Except.ok f:Result) with | .ok (.ret v)=>Q v s' | .ok _=>False | .error e=>E e s') | .again c'=>c'.quiet=true/\codeAny (model prog w) A c' (λr s'=>match r with | .ok (.ret v)=>Q v s' | .ok _=>False | .error e=>E e s') s') E s): wpAny (model prog w) A (call (.builtin id) args kw) Q E s:=by
 refine wpAny_call (_ci hp hb ?_);simp only[checkBuiltinCall,hk];cases hsig:Manifest.signature? id with
 | none=>exact _j hc | some sig=>
  simp only[argsOk,hsig]at ha;have h2:Bind.checkArgs id sig ⟨args,kw⟩=pure ():=ha;show wpAny _ A.in1 (Bind.checkArgs id sig ⟨args,kw⟩) _ _ s;rw[h2];exact _j hc
theorem z8B(a v:Value):argsOk "min" ⟨[a],[("default",v)]⟩:=by unfold argsOk;kernel_rfl
theorem z8l(v:Value):Builtin.Builtins.bindParams "min" ["key","default"] 0 ⟨[],[("default",v)]⟩=pure [none,some v]:=by kernel_rfl
theorem z8K{x d:Value}{Q:Value->Shared->Prop} (h:wpAny (model prog w) A.in1 (pyIter x) (λit s2=>∃I fp wr n P St,it=.ref I/\Walks prog w A.in1 I fp wr n P St/\St 0 s2.heap/\(∀b∈fp,b<s2.heap.objs.size)/\n<=1/\ (n=0->∀h' tk,(∀b o,b∉wr->s2.heap.get? b=some o->h'.get? b=some o)->Q d {s2 with heap:=h',toks:=tk})/\ (n=1->∀v h' tk,P 0 v->(∀b o,b∉wr->s2.heap.get? b=some o->h'.get? b=some o)->Q v {s2 with heap:=h',toks:=tk})) E s): wpAny (model prog w) A (call (.builtin "min") [x] [("default",d)]) Q E s:=by
 have nm:(toString "min"++toString ".loop":String)="min.loop":=by decide
 refine z6K PySem.F.kind_min PySem.F.plain_min PySem.F.entry_min (z8B _ _) ?_;show wpAny _ A.in1 (Builtin.Builtins.bindParams "min" ["key","default"] 0 ⟨[],[("default",d)]⟩ >>= _) _ _ s;refine _a (_cS (z8l d) (_a (_j ?_)));refine _a (_t h (λit s2 z=>?_) λ_ _ e=>e);obtain⟨I,fp,wr,n,P,St,rfl,W,st,bd,hn,f0,f1⟩:=z;refine _a (_am ?_);have out:s2.heap.objs.size∉fp:=λz=>_ao _ (bd _ z);have ow:s2.heap.objs.size∉wr:=λz=>out (W.sub _ z);rw[nm];refine _j ⟨plainId_quiet _bo _,codeAny_builtin PySem.F.entry_min_loop ?_⟩;have gS:(s2.heap.push (seqObj "list" #[] 0)).get? s2.heap.objs.size=some (seqObj "list" #[] 0):=_v _ rfl;rw[Around.under_plainId _bo _];show wpAny _ A.in1 (seqItems? (.ref s2.heap.objs.size) >>= _) _ _ {s2 with heap:=s2.heap.push (seqObj "list" #[] 0)};refine _a (_aD gS rfl ?_);show wpAny _ A.in1 (tryCatch (pyNext (.ref I)) _ >>= _) _ _ _;have st':St 0 (s2.heap.push (seqObj "list" #[] 0)):=W.frame _ _ _ st λb _ o e=>_e _ e;rcases (by omega:n=0\/n=1) with rfl | rfl
 ·refine _a (wpAny_tryCatch (W.done _ _ _ st' λh1 tk k1=>?_));refine _a (_aw (_j ?_));exact f0 rfl _ _ λb o hb e=>k1 b o hb (_e _ e)
 ·refine _a (wpAny_tryCatch (W.item 0 _ _ _ (by decide) st' λu h1 tk pu st1 k1=>?_));have gS1:=k1 _ _ ow gS;show wpAny _ A.in1 (updateSeq s2.heap.objs.size (λ_=>#[u,u]) >>= _) _ _ _;refine _a (wpAny_updateSeq gS1 rfl ?_);rw[nm];have gS2:=_b8 (Obj.mapSeq λ_=>#[u,u]) gS1 rfl;refine _j ⟨plainId_quiet _bo _,codeAny_builtin PySem.F.entry_min_loop ?_⟩;rw[Around.under_plainId _bo _];show wpAny _ A.in1 (seqItems? (.ref s2.heap.objs.size) >>= _) _ _ _;refine _a (_aD gS2 rfl ?_);show wpAny _ A.in1 (tryCatch (pyNext (.ref I)) _ >>= _) _ _ _;refine _a (wpAny_tryCatch (W.done _ _ _ (W.frame _ _ _ st1 λb hb o e=>(_aU _ _ (λz:s2.heap.objs.size=b=>out (z ▸ hb))).trans e) λh2 tk2 k2=>?_));show wpAny _ A.in1 (updateSeq s2.heap.objs.size (λ_=>#[]) >>= _) _ _ _;refine _a (wpAny_updateSeq (k2 _ _ ow gS2) rfl (_a (wpAny_letGo (_j ?_))));refine f1 rfl u _ _ pu λb o hb e=>?_;have ne:s2.heap.objs.size≠b:=_a8 (_D (_o e));exact (_aU _ _ ne).trans (k2 b o hb ((_aU _ _ ne).trans (k1 b o hb (_e _ e))))
end
section
variable {X:Cx}{E:XK}{e f:Expr}{x:Str}{p pos kp:Pos}{te tf:TE}
def zge(te tf:TE):TE:=λO H Q=>te O H λv H1=>tf O H1 λd H2=>∃a xs,v=.ref a/\SqL X.K H2 a xs/\xs.length<=1/\(xs=[]->Q d H2)/\∀y,xs=[y]->Q y H2
theorem zbs (hc:X.calm=true) (he:PE X e te) (hf:PE X f tf) (hg:Gl X x) (hm:X.mg x=none) (hv:bootBuiltins x=some (.builtin "min")) (hn:x≠"__name__":=by decide) (hdb:(x==("__debug__":Str))=false:=by decide) (h1:backTo pos (starEach [e] X.env)=(false,eval e X.env)::backTo pos (starEach [] X.env):=by rfl) (h2:(backTo pos (starEach [e] X.env)).any (·.1)=false:=by rfl) (h3:(backToKw pos (keywordEach [⟨some "default",f,kp⟩] X.env)).all (·.1.isSome)=true:=by rfl) (h4:(backToKw pos (keywordEach [⟨some "default",f,kp⟩] X.env)).any (·.1.isNone)=false:=by rfl) (h5:∀v:Value,((backToKw pos (keywordEach [⟨some "default",f,kp⟩] X.env)).filterMap (·.1)).zip [v]=[(("default":Str),v)]:=by intro _;rfl): PE X (.Call (.Name x p) [e] [⟨some "default",f,kp⟩] pos) (zge (X:=X) te tf):=by
 intro pins s O H Q I h;refine _a1 (z1E I hg hm hv ?_ hn hdb);refine PyProof.Rows.callWith_kw ?_ h1 h2 h3 h4;rw[h1];refine _bR (thn (he pins s O H _ I h) λu s1 ⟨v,H1,I1,r1,q1⟩=>_cP ?_);refine kws_cons (thn (hf pins s1 O H1 _ I1 q1) λw s2 ⟨d,H2,I2,r2,a,xs,ev,sq,hl,q0,q1⟩=>kws_nil ?_);subst ev;cases (show u=Value.ref a from r1);rw[h5];obtain⟨its,rv,co⟩:=I2.sq (b:=true) sq;have ll:=rv.length;refine z8K (Zz.z1Q (I2.ok.hd hc) co λs3 e3 St W st bd old=>?_);subst e3;refine⟨_,_,_,_,_,_,rfl,W,st,bd,by simp;omega,λz h' tk hk=>?_,λz v h' tk e hk=>?_⟩
 ·have:xs=[]:=_cj (by rw[_k]at z;omega);exact⟨d,H2,I2.kept (t':=tk) (old h' hk),r2,q0 this⟩
 ·have e':its[0]? = some v:=by simpa using e
  cases xs with
  | nil=>rw[_k]at z;simp at ll;omega | cons y r=>
   have:r=[]:=by simpa using hl
   subst this;obtain⟨w',hw,rw_⟩:=rv.get (i:=0) (x:=y) rfl;rw[e']at hw;cases hw;exact⟨y,H2,I2.kept (t':=tk) (old h' hk),rw_,q1 y rfl⟩
end
section
variable {X:Cx}{E:XK}{e f:Expr}{x:Str}{p pos kp:Pos}
noncomputable def ze8(fe ff:FE):FE:=fun ρ s=>(fe ρ s).bind λv s1=>(ff ρ s1).bind λd s2=>match v with
 | .lst []=>.ok d s2 | .lst [y]=>.ok y s2 | _=>.no
theorem zeS{fe ff:FE}(hc:X.calm=true)(he:RE X E e fe)(hf:RE X E f ff)(hg:Gl X x)(hm:X.mg x=none)(hv:bootBuiltins x=some (.builtin "min"))(hn:x≠"__name__":=by decide)(hdb:(x==("__debug__":Str))=false:=by decide) (h1:backTo pos (starEach [e] X.env)=(false,eval e X.env)::backTo pos (starEach [] X.env):=by rfl)(h2:(backTo pos (starEach [e] X.env)).any (·.1)=false:=by rfl) (h3:(backToKw pos (keywordEach [⟨some "default",f,kp⟩] X.env)).all (·.1.isSome)=true:=by rfl)(h4:(backToKw pos (keywordEach [⟨some "default",f,kp⟩] X.env)).any (·.1.isNone)=false:=by rfl) (h5:∀v:Value,((backToKw pos (keywordEach [⟨some "default",f,kp⟩] X.env)).filterMap (·.1)).zip [v]=[(("default":Str),v)]:=by intro _;rfl): RE X E (.Call (.Name x p) [e] [⟨some "default",f,kp⟩] pos) (ze8 fe ff):= zX (zbs hc he hf hg hm hv hn hdb h1 h2 h3 h4 h5) λO H Q ⟨Y,ρ,s,r,en,h⟩=>by
  refine yc (k:=fun ρ v s1=>(ff ρ s1).bind λd s2=>match v with
   | .lst []=>R.ok d s2 | .lst [y]=>.ok y s2 | _=>.no) r en h _ λv H1 Y1 s1 vd r1 en1 dn stp h1=>?_;refine yc (k:=fun ρ d s2=>match vd with
   | .lst []=>R.ok d s2 | .lst [y]=>.ok y s2 | _=>.no) r1 en1 h1 _ λw H2 Y2 s2 d r2 en2 dn2 stp2 h2=>?_;have dv:=dn.mono stp2;split at h2
  ·simp only[Den,zC]at dv;obtain⟨a,o,vs,rfl,q1,rfl⟩:=dv;exact⟨a,[],rfl,.inl (.inr ⟨o,q1⟩),by decide,λ_=>h2.here r2 dn2,λy z=>by cases z⟩
  ·rename_i y;simp only[Den,zC]at dv;obtain⟨a,o,vs,rfl,q1,u,t,rfl,q2,rfl⟩:=dv;exact⟨a,[u],rfl,.inl (.inr ⟨o,q1⟩),by simp,(λz=>by cases z),λy z=>by cases z;exact h2.here r2 q2⟩
  ·exact h2.elim
end
section
variable {X:Cx}{E:XK}{a:Expr}{pos:Pos}{ta:TE}
theorem z8e(ha:PE X a ta):PE X (.UnaryOp .Not a pos) (λO H Q=>ta O H λx H'=>∃k,zgp X.K x H' k/\Q (.bl (!k)) H'):=by
 intro pins s O H Q I h;refine UnaryOp_ (thn (ha pins s O H _ I h) λv s1 ⟨x,H1,I1,r1,k,q1,q2⟩=>?_);exact not_of (thn (zaU pins s1 O H1 x v (λc H'=>Q (.bl (!c)) H') I1 r1 ⟨k,q1,q2⟩) λc s2 ⟨H2,I2,q⟩=>⟨.bl (!c),H2,I2,rfl,q⟩)
noncomputable def zbR(f:FE):FE:=fun ρ s=>(f ρ s).bind λd s1=>match listOf s1 d with
 | some xs=>.ok (.bl xs.isEmpty) s1 | none=>.no
theorem zer{f:FE}(h:RE X E a f):RE X E (.UnaryOp .Not a pos) (zbR f):= zX (z8e h) λO H Q ⟨Y,ρ,s,r,en,h⟩=>by
  refine yc (k:=fun ρ d s1=>match listOf s1 d with | some xs=>R.ok (D.bl xs.isEmpty) s1 | none=>.no) r en h _ λv H1 Y1 s1 d r1 en1 dn stp h1=>?_;split at h1
  ·rename_i xs e;obtain⟨p,vs,rfl,q1,q2⟩:=zI r1 e dn;refine⟨!xs.isEmpty,.inl ⟨vs,.inl q1,by rw[z2l q2]⟩,?_⟩;rw[Bool.not_not];exact h1.here r1 vz
  ·exact h1.elim
end
end Dd
namespace Dt
noncomputable def z1p:Bool->Keyed->Array Keyed->Nat->Nat->Nat->StateT SortSt Sem (Option Nat):=sortPriv% PySem.Builtin.gallop
noncomputable def zab:Array Keyed->Array Keyed->StateT SortSt Sem (Array Keyed):=sortPriv% PySem.Builtin.mergeLo
noncomputable def zad:Array Keyed->Array Keyed->StateT SortSt Sem (Array Keyed):=sortPriv% PySem.Builtin.mergeHi
noncomputable def z8N(left:Bool)(key:Keyed)(arr:Array Keyed)(base i:Nat):StateT SortSt Sem (Option Bool):=do
 let x <- elem' arr (base+i) if left then lt' x key else return (<- lt' key x).map (!·)
noncomputable def at_(arr:Array Keyed)(i:Nat):Keyed:=arr.getD i (Value.none,Value.none)
theorem z5a{arr:Array Keyed}{i:Nat}(h:i<arr.size):arr[i]? = some (at_ arr i):=by simp[at_,h]
structure Env(prog:Program)(w:World)(A:Around)(s:Shared)(κ:SortKind)(P:Keyed->Prop)(rk:Keyed->Nat):Prop where cmp:∀x y,P x->P y->∀(C:Bool->Shared->Prop)(E:Value->Shared->Prop),C (decide (rk x<rk y)) s->wpAny (model prog w) A (keyLt' κ x.1 y.1) C E s
section
variable {prog:Program}{w:World}{A:Around}{E:Value->Shared->Prop}{s:Shared}{κ:SortKind}{P:Keyed->Prop}{rk:Keyed->Nat}(V:Env prog w A s κ P rk) {arr a b:Array Keyed}{st:SortSt}
theorem yk{i:Nat}{Q:Keyed->SortSt->Prop}(h:i<arr.size)(q:Q (at_ arr i) st):wpS (model prog w) A E s (elem' arr i) Q st:=by
 rw[elem'_eq,z5a h];exact _m q
include V
theorem z8C{x y:Keyed}{Q:Option Bool->SortSt->Prop}(hk:kindOf st=κ)(hx:P x)(hy:P y)(h:Q (some (decide (rk x<rk y))) st):wpS (model prog w) A E s (lt' x y) Q st:=by
 rw[lt'_eq];refine _h (_b3 ?_);rw[hk];refine _h (_cI (wpAny_attempt (V.cmp x y hx hy _ _ ⟨rfl,?_⟩)));exact _m h
noncomputable def bey(rk:Keyed->Nat)(left:Bool)(key x:Keyed):Bool:=if left then decide (rk x<rk key) else !decide (rk key<rk x)
theorem qo{left:Bool}{key:Keyed}{base i:Nat}{Q:Option Bool->SortSt->Prop}(hk:kindOf st=κ)(hP:∀i,i<arr.size->P (at_ arr i))(hx:P key)(hi:base+i<arr.size)(h:Q (some (bey rk left key (at_ arr (base+i)))) st):wpS (model prog w) A E s (z8N left key arr base i) Q st:=by
 unfold z8N;refine _h (yk hi ?_);cases left
 ·simp only[_Q,_an];refine _h (z8C V hk hx (hP _ hi) ?_);exact _m h
 ·exact z8C V hk (hP _ hi) hx h
theorem uA{left:Bool}{key:Keyed}{base n hint:Nat}{Q:Option Nat->SortSt->Prop}(hk:kindOf st=κ)(hP:∀i,i<arr.size->P (at_ arr i))(hx:P key)(hb:base+n<=arr.size)(hh:hint<n) (mono:∀i j,i<=j->j<n->bey rk left key (at_ arr (base+j))=true->bey rk left key (at_ arr (base+i))=true) (h:∀k,k<=n->(∀i,i<k->bey rk left key (at_ arr (base+i))=true)->(∀i,k<=i->i<n->bey rk left key (at_ arr (base+i))=false)->Q (some k) st):wpS (model prog w) A E s (z1p left key arr base n hint) Q st:=by
 have anti:∀i j,i<=j->j<n->bey rk left key (at_ arr (base+i))=false->bey rk left key (at_ arr (base+j))=false:=λi j h1 h2 h3=>by
  cases e:bey rk left key (at_ arr (base+j));·rfl
  ·rw[mono i j h1 h2 e]at h3;cases h3
 refine _h (qo V hk hP hx (i:=hint) (by omega) ?_);dsimp only;cases e:bey rk left key (at_ arr (base+hint))
 ·simp only[_Q,_an];refine _h (_bA (_av (I:=λx c st'=>st'=st/\∃l o,c=(none,l,o)/\x+1<=o/\l<o/\l<=hint/\bey rk left key (at_ arr (base+(hint-l)))=false) (Q:=λc st'=>st'=st/\∃l o,c=(none,l,o)/\hint+1-min o (hint+1)<=hint-l/\hint-l<=n/\(∀i,i<hint+1-min o (hint+1)->bey rk left key (at_ arr (base+i))=true)/\(∀i,hint-l<=i->i<n->bey rk left key (at_ arr (base+i))=false)) ?_ ?_ ⟨rfl,0,1,rfl,by omega,by omega,by omega,e⟩) ?_)
  ·rintro x c st' _ hx' ⟨rfl,l,o,rfl,h1,h2,h3,h4⟩;dsimp only;by_cases q:o ≥ hint+1
   ·rw[_g q];exact _m ⟨rfl,l,o,rfl,by omega,by omega,λi hi=>by omega,λi hi hn=>anti _ _ hi hn h4⟩
   ·rw[_l q];refine _h (qo V hk hP hx (i:=hint-o) (by omega) ?_);dsimp only;cases e2:bey rk left key (at_ arr (base+(hint-o)))
    ·simp only[_Q,_an];exact _m ⟨rfl,o,2*o+1,rfl,by omega,by omega,by omega,e2⟩
    ·simp only[_C];exact _m ⟨rfl,l,o,rfl,by omega,by omega,λi hi=>mono i (hint-o) (by omega) (by omega) e2,λi hi hn=>anti _ _ hi hn h4⟩
  ·rintro c st' ⟨rfl,l,o,rfl,h1,h2,h3,h4⟩;exact⟨rfl,l,o,rfl,by omega,by omega,λi hi=>by omega,λi hi hn=>anti _ _ hi hn h4⟩
  ·rintro c st' ⟨rfl,l,o,rfl,f1,f2,f3,f4⟩;dsimp only;generalize hint+1-min o (hint+1)=lo at f1 f3;generalize hint-l=hi at f1 f2 f4;refine _h (_bA (_av (I:=λx c st2=>st2=st'/\∃lo hi,c=(none,lo,hi)/\hi-lo<=n-x/\lo<=hi/\hi<=n/\(∀i,i<lo->bey rk left key (at_ arr (base+i))=true)/\(∀i,hi<=i->i<n->bey rk left key (at_ arr (base+i))=false)) (Q:=λc st2=>st2=st'/\∃k,c=(none,k,k)/\k<=n/\(∀i,i<k->bey rk left key (at_ arr (base+i))=true)/\(∀i,k<=i->i<n->bey rk left key (at_ arr (base+i))=false)) ?_ ?_ ⟨rfl,lo,hi,rfl,by omega,f1,f2,f3,f4⟩) ?_)
   ·rintro x c st2 _ hx' ⟨rfl,lo,hi,rfl,h0,h1,h2,h3,h4⟩;dsimp only;by_cases q:lo ≥ hi
    ·rw[_g q];have:lo=hi:=by omega
     subst this;exact _m ⟨rfl,lo,rfl,h2,h3,h4⟩
    ·rw[_l q];refine _h (qo V hk hP hx (i:=lo+(hi-lo) / 2) (by omega) ?_);dsimp only;cases e2:bey rk left key (at_ arr (base+(lo+(hi-lo) / 2)))
     ·simp only[_Q,_an];exact _m ⟨rfl,lo,_,rfl,by omega,by omega,by omega,h3,λi hi' hn=>anti _ _ hi' hn e2⟩
     ·simp only[_C];exact _m ⟨rfl,_,hi,rfl,by omega,by omega,by omega,λi hi'=>mono _ _ (by omega) (by omega) e2,h4⟩
   ·rintro c st2 ⟨rfl,lo,hi,rfl,h0,h1,h2,h3,h4⟩;have:lo=hi:=by omega
    subst this;exact⟨rfl,lo,rfl,h2,h3,h4⟩
   ·rintro c st2 ⟨rfl,k,rfl,h2,h3,h4⟩;exact _m (h k h2 h3 h4)
 ·simp only[_C];refine _h (_bA (_av (I:=λx c st'=>st'=st/\∃l o,c=(none,l,o)/\x+1<=o/\l<o/\hint+l<n/\bey rk left key (at_ arr (base+(hint+l)))=true) (Q:=λc st'=>st'=st/\∃l o,c=(none,l,o)/\hint+l+1<=hint+min o (n-hint)/\hint+min o (n-hint)<=n/\(∀i,i<hint+l+1->bey rk left key (at_ arr (base+i))=true)/\(∀i,hint+min o (n-hint)<=i->i<n->bey rk left key (at_ arr (base+i))=false)) ?_ ?_ ⟨rfl,0,1,rfl,by omega,by omega,by omega,e⟩) ?_)
  ·rintro x c st' _ hx' ⟨rfl,l,o,rfl,h1,h2,h3,h4⟩;dsimp only;by_cases q:o ≥ n-hint
   ·rw[_g q];exact _m ⟨rfl,l,o,rfl,by omega,by omega,λi hi=>mono i (hint+l) (by omega) h3 h4,λi hi hn=>by omega⟩
   ·rw[_l q];refine _h (qo V hk hP hx (i:=hint+o) (by omega) ?_);dsimp only;cases e2:bey rk left key (at_ arr (base+(hint+o)))
    ·simp only[Bool.not_false,_C];exact _m ⟨rfl,l,o,rfl,by omega,by omega,λi hi=>mono i (hint+l) (by omega) h3 h4,λi hi hn=>anti (hint+o) i (by omega) hn e2⟩
    ·simp only[Bool.not_true,_Q,_an];exact _m ⟨rfl,o,2*o+1,rfl,by omega,by omega,by omega,e2⟩
  ·rintro c st' ⟨rfl,l,o,rfl,h1,h2,h3,h4⟩;exact⟨rfl,l,o,rfl,by omega,by omega,λi hi=>mono i (hint+l) (by omega) h3 h4,λi hi hn=>by omega⟩
  ·rintro c st' ⟨rfl,l,o,rfl,f1,f2,f3,f4⟩;dsimp only;generalize hint+l+1=lo at f1 f3;generalize hint+min o (n-hint)=hi at f1 f2 f4;refine _h (_bA (_av (I:=λx c st2=>st2=st'/\∃lo hi,c=(none,lo,hi)/\hi-lo<=n-x/\lo<=hi/\hi<=n/\(∀i,i<lo->bey rk left key (at_ arr (base+i))=true)/\(∀i,hi<=i->i<n->bey rk left key (at_ arr (base+i))=false)) (Q:=λc st2=>st2=st'/\∃k,c=(none,k,k)/\k<=n/\(∀i,i<k->bey rk left key (at_ arr (base+i))=true)/\(∀i,k<=i->i<n->bey rk left key (at_ arr (base+i))=false)) ?_ ?_ ⟨rfl,lo,hi,rfl,by omega,f1,f2,f3,f4⟩) ?_)
   ·rintro x c st2 _ hx' ⟨rfl,lo,hi,rfl,h0,h1,h2,h3,h4⟩;dsimp only;by_cases q:lo ≥ hi
    ·rw[_g q];have:lo=hi:=by omega
     subst this;exact _m ⟨rfl,lo,rfl,h2,h3,h4⟩
    ·rw[_l q];refine _h (qo V hk hP hx (i:=lo+(hi-lo) / 2) (by omega) ?_);dsimp only;cases e2:bey rk left key (at_ arr (base+(lo+(hi-lo) / 2)))
     ·simp only[_Q,_an];exact _m ⟨rfl,lo,_,rfl,by omega,by omega,by omega,h3,λi hi' hn=>anti _ _ hi' hn e2⟩
     ·simp only[_C];exact _m ⟨rfl,_,hi,rfl,by omega,by omega,by omega,λi hi'=>mono _ _ (by omega) (by omega) e2,h4⟩
   ·rintro c st2 ⟨rfl,lo,hi,rfl,h0,h1,h2,h3,h4⟩;have:lo=hi:=by omega
    subst this;exact⟨rfl,lo,rfl,h2,h3,h4⟩
   ·rintro c st2 ⟨rfl,k,rfl,h2,h3,h4⟩;exact _m (h k h2 h3 h4)
end
section
variable {rk:Keyed->Nat}{a b out:Array Keyed}{ia ib:Nat}
def Srt(rk:Keyed->Nat)(a:Array Keyed):Prop:=∀i j,i<=j->j<a.size->rk (at_ a i)<=rk (at_ a j)
structure Mlo(rk:Keyed->Nat)(a b:Array Keyed)(ia ib:Nat)(out:Array Keyed):Prop where
 pm:out.toList.Perm (a.toList.take ia++b.toList.take ib)
 pw:out.toList.Pairwise λx y=>rk x<=rk y
 la:∀x∈out.toList,∀i,ia<=i->i<a.size->rk x<=rk (at_ a i)
 lb:∀x∈out.toList,∀j,ib<=j->j<b.size->rk x<=rk (at_ b j)
theorem zbq{i:Nat}(h:i<a.size):a.toList.take (i+1)=a.toList.take i++[at_ a i]:=by
 rw[List.take_succ];simp[at_,h]
theorem Mlo.pushA(h:Mlo rk a b ia ib out)(sa:Srt rk a)(hi:ia<a.size)(le:∀j,ib<=j->j<b.size->rk (at_ a ia)<=rk (at_ b j)):Mlo rk a b (ia+1) ib (out.push (at_ a ia)):=by
 refine⟨?_,?_,?_,?_⟩
 ·rw[zbq hi,_ah];refine (h.pm.append_right _).trans ?_;rw[_L,_L];exact _cc.append_left _
 ·rw[_ah,List.pairwise_append];exact⟨h.pw,List.pairwise_singleton _ _,λx hx y hy=>by rw[_a5.mp hy];exact h.la x hx _ (_d _) hi⟩
 ·intro x hx i h1 h2;rw[_ah]at hx;rcases _B.mp hx with hx | hx;·exact h.la x hx i (by omega) h2
  ·rw[_a5.mp hx];exact sa _ _ (by omega) h2
 ·intro x hx j h1 h2;rw[_ah]at hx;rcases _B.mp hx with hx | hx;·exact h.lb x hx j h1 h2
  ·rw[_a5.mp hx];exact le j h1 h2
theorem Mlo.swap(h:Mlo rk a b ia ib out):Mlo rk b a ib ia out:=⟨h.pm.trans _cc,h.pw,h.lb,h.la⟩
theorem Mlo.pushB(h:Mlo rk a b ia ib out)(sb:Srt rk b)(hi:ib<b.size)(le:∀i,ia<=i->i<a.size->rk (at_ b ib)<=rk (at_ a i)):Mlo rk a b ia (ib+1) (out.push (at_ b ib)):=(h.swap.pushA sb hi le).swap
theorem z9n{i k:Nat}(h:i+k<a.size):a.extract i (i+(k+1))=(a.extract i (i+k)).push (at_ a (i+k)):=by
 apply Array.ext_getElem?;intro j;rw[Array.getElem?_push,_b4,_b4,_cJ];by_cases e:j=k
 ·subst e;rw[_g (by omega),_g (by omega)];exact z5a h
 ·rw[_l (show ¬ j=min (i+k) a.size-i by omega)];by_cases q:j<k;·rw[_g (by omega),_g (by omega)]
  ·rw[_l (by omega),_l (by omega)]
theorem Mlo.moreA(h:Mlo rk a b ia ib out)(sa:Srt rk a):∀k,ia+k<=a.size->(∀i,ia<=i->i<ia+k->∀j,ib<=j->j<b.size->rk (at_ a i)<=rk (at_ b j))->Mlo rk a b (ia+k) ib (out++a.extract ia (ia+k))
 | 0,_,_=>by
  rw[_b5,show a.extract ia ia=#[] by simp;omega,_bp];exact h | k+1,hk,le=>by
  rw[z9n (by omega),Array.append_push];exact (h.moreA sa k (by omega) λi h1 h2=>le i h1 (by omega)).pushA sa (by omega) λj=>le _ (by omega) (by omega) j
theorem Mlo.moreB(h:Mlo rk a b ia ib out)(sb:Srt rk b)(k:Nat)(hk:ib+k<=b.size)(le:∀j,ib<=j->j<ib+k->∀i,ia<=i->i<a.size->rk (at_ b j)<=rk (at_ a i)):Mlo rk a b ia (ib+k) (out++b.extract ib (ib+k)):=(h.swap.moreA sb k hk le).swap
def Mrg(rk:Keyed->Nat)(a b r:Array Keyed):Prop:=r.toList.Perm (a.toList++b.toList)/\r.toList.Pairwise λx y=>rk x<=rk y
theorem Mlo.fin(h:Mlo rk a b a.size b.size out):Mrg rk a b out:=⟨by have:=h.pm;rwa [_aW (by simp),_aW (by simp)]at this,h.pw⟩
theorem Mlo.done(h:Mlo rk a b ia ib out)(sa:Srt rk a)(hi:ia<=a.size)(e:ib=b.size):Mrg rk a b (out++a.extract ia a.size++b.extract ib b.size):=by
 subst e;have:=h.moreA sa (a.size-ia) (by omega) λi h1 h2 j h3 h4=>absurd h3 (by omega);rw[show ia+(a.size-ia)=a.size by omega]at this;rw[show b.extract b.size b.size=#[] by simp,_bp];exact this.fin
theorem Mlo.lastA(h:Mlo rk a b ia ib out)(sa:Srt rk a)(sb:Srt rk b)(hi:ib<=b.size)(e:ia+1=a.size)(lt:∀j,j<b.size->rk (at_ b j)<=rk (at_ a (a.size-1))):Mrg rk a b (out++b.extract ib b.size++a.extract ia a.size):=by
 have h1:=h.moreB sb (b.size-ib) (by omega) λj h1 h2 i h3 h4=>by
  have:i=a.size-1:=by omega
  subst this;exact lt j (by omega)
 rw[show ib+(b.size-ib)=b.size by omega]at h1;have h2:=h1.moreA sa 1 (by omega) λi h1 h2 j h3 h4=>absurd h3 (by omega);rw[e]at h2;exact h2.fin
end
section
variable {prog:Program}{w:World}{A:Around}{E:Value->Shared->Prop}{s:Shared}{κ:SortKind}{P:Keyed->Prop}{rk:Keyed->Nat}(V:Env prog w A s κ P rk) {arr a b:Array Keyed}{st:SortSt}
omit V in
theorem yK{α:Type}{c:Prop} [Decidable c]{u v:StateT SortSt Sem α}{Q:α->SortSt->Prop}{st:SortSt}(h1:c->wpS (model prog w) A E s u Q st)(h2:¬ c->wpS (model prog w) A E s v Q st):wpS (model prog w) A E s (if c then u else v) Q st:=by
 split;·exact h1 ‹_›
 ·exact h2 ‹_›
omit V in
theorem z0e{α:Type}{c:Prop} [Decidable c]{u v:StateT SortSt Sem α}{Q:α->SortSt->Prop}{st:SortSt}(h1:c)(h2:wpS (model prog w) A E s u Q st):wpS (model prog w) A E s (if c then u else v) Q st:=yK (λ_=>h2) λh=>absurd h1 h
omit V in
omit V in
theorem zfg{α:Type}{c:Prop} [Decidable c]{u v x:StateT SortSt Sem α}{Q:α->SortSt->Prop}{st:SortSt}(h1:c->u=x)(h2:¬ c->v=x)(h:wpS (model prog w) A E s x Q st):wpS (model prog w) A E s (if c then u else v) Q st:=by
 split;·rw[h1 ‹_›];exact h
 ·rw[h2 ‹_›];exact h
omit V in
theorem zag{a:Array Keyed}{i k:Nat}(h:¬ k > 0)(out:Array Keyed):out++a.extract i (i+k)=out/\i+k=i:=by
 have:k=0:=by omega
 subst this;refine⟨?_,rfl⟩;rw[show a.extract i (i+0)=#[] by simp;omega,_bp]
def z2R(st st':SortSt):Prop:=kindOf st'=kindOf st/\arrOf st'=arrOf st/\pendingOf st'=pendingOf st/\failedOf st'=failedOf st
def z9G{ω τ:Type}(Tq:ω->SortSt->Prop)(J I:τ->SortSt->Prop):ForInStep (Option ω×τ)->SortSt->Prop
 | .done (some r,_),st=>Tq r st | .done (none,c),st=>J c st | .yield (some _,_),_=>False | .yield (none,c),st=>I c st
omit V in
theorem kC {ω τ:Type} {n m:Nat} {f:Nat->Option ω×τ->StateT SortSt Sem (ForInStep (Option ω×τ))} {K:Option ω×τ->SortSt->Prop} {c0:τ} (Tq:ω->SortSt->Prop) (J:τ->SortSt->Prop) (I:Nat->τ->SortSt->Prop) (step:∀i c st,m<=i->i<n->I i c st->wpS (model prog w) A E s (f i (none,c)) (z9G Tq J (I (i+1))) st) (fin:∀c st,I (max m n) c st->J c st) (h0:I m c0 st) (ret:∀r d st,Tq r st->K (some r,d) st) (nxt:∀c st,J c st->K (none,c) st):wpS (model prog w) A E s (forIn [m:n] (none,c0) f) K st:=by
 refine _bA (_av (I:=λx c st'=>∃d,c=(none,d)/\I x d st') (Q:=λc st'=>(∃r d,c=(some r,d)/\Tq r st')\/∃d,c=(none,d)/\J d st') ?_ ?_ ⟨_,rfl,h0⟩) ?_
 ·rintro i c st' hm hi ⟨d,rfl,h⟩;refine _bA (step i d st' hm hi h) λr st2 e=>?_;match r,e with
  | .done (some r,d),e=>exact .inl ⟨r,d,rfl,e⟩ | .done (none,d),e=>exact .inr ⟨d,rfl,e⟩ | .yield (none,d),e=>exact⟨d,rfl,e⟩
 ·rintro c st' ⟨d,rfl,h⟩;exact .inr ⟨d,rfl,fin d st' h⟩
 ·rintro c st' (⟨r,d,rfl,h⟩ | ⟨d,rfl,h⟩);·exact ret r d st' h
  ·exact nxt d st' h
include V
theorem z7c {Q:Array Keyed->SortSt->Prop} (hk:kindOf st=κ) (Pa:∀i,i<a.size->P (at_ a i)) (Pb:∀i,i<b.size->P (at_ b i)) (sa:Srt rk a) (sb:Srt rk b) (na:1<=a.size) (nb:1<=b.size) (first:rk (at_ b 0)<rk (at_ a 0)) (last:rk (at_ b (b.size-1))<rk (at_ a (a.size-1))) (h:∀r st',z2R st st'->Mrg rk a b r->Q r st'):wpS (model prog w) A E s (zab a b) Q st:=by
 have lastA:∀j,j<b.size->rk (at_ b j)<rk (at_ a (a.size-1)):=λj hj=>by have:=sb j (b.size-1) (by omega) (by omega);omega
 have lastA':∀j,j<b.size->rk (at_ b j)<=rk (at_ a (a.size-1)):=λj hj=>_ap (lastA j hj);have m1:Mlo rk a b 0 1 #[at_ b 0]:=by
  have m0:Mlo rk a b 0 0 #[]:=⟨by simp,by simp,λx hx=>by simp at hx,λx hx=>by simp at hx⟩;exact m0.pushB sb (by omega) λi _ hi=>by have:=sa 0 i (by omega) hi;omega
 have fin:∀{out:Array Keyed} {ia ib:Nat},Mlo rk a b ia ib out->ib<=b.size->ia+1=a.size->Mrg rk a b (out++b.extract ib b.size++a.extract ia a.size):=λm hb e=>m.lastA sa sb hb e lastA';have ga:∀{st':SortSt} {ia ib:Nat} {R:Option Nat->SortSt->Prop},kindOf st'=κ->ia<a.size->ib<b.size->(∀k,ia+k<a.size->(∀i,ia<=i->i<ia+k->rk (at_ a i)<=rk (at_ b ib))->(∀i,ia+k<=i->i<a.size->rk (at_ b ib)<rk (at_ a i))->R (some k) st')->wpS (model prog w) A E s (z1p false (at_ b ib) a ia (a.size-ia) 0) R st':=λ{st' ia ib R} k1 h1 h2 hh=>by
  refine uA V k1 Pa (Pb _ h2) (by omega) (by omega) (λi j hij hj=>?_) λk hk f1 f2=>?_
  ·simp only[bey,_Q,_an,_aE,_T];have:=sa (ia+i) (ia+j) (by omega) (by omega);omega
  ·simp only[bey,_Q,_an,_aE,_T,_cK,_p]at f1 f2;have kl:ia+k<a.size:=by
    rcases Nat.lt_or_ge (ia+k) a.size with z | z;·exact z
    ·have z1:=f1 (a.size-1-ia) (by omega);rw[show ia+(a.size-1-ia)=a.size-1 by omega]at z1;exact absurd (lastA ib h2) z1
   refine hh k kl (λi z1 z2=>?_) λi z1 z2=>?_
   ·have:=f1 (i-ia) (by omega);rw[show ia+(i-ia)=i by omega]at this;omega
   ·have:=f2 (i-ia) (by omega) (by omega);rwa [show ia+(i-ia)=i by omega]at this
 have gb:∀{st':SortSt} {ia ib:Nat} {R:Option Nat->SortSt->Prop},kindOf st'=κ->ia<a.size->ib<b.size->(∀k,ib+k<=b.size->(∀j,ib<=j->j<ib+k->rk (at_ b j)<rk (at_ a ia))->(∀j,ib+k<=j->j<b.size->rk (at_ a ia)<=rk (at_ b j))->R (some k) st')->wpS (model prog w) A E s (z1p true (at_ a ia) b ib (b.size-ib) 0) R st':=λ{st' ia ib R} k1 h1 h2 hh=>by
  refine uA V k1 Pb (Pa _ h1) (by omega) (by omega) (λi j hij hj=>?_) λk hk f1 f2=>?_
  ·simp only[bey,_C,_p];have:=sb (ib+i) (ib+j) (by omega) (by omega);omega
  ·simp only[bey,_C,_p,_T]at f1 f2;refine hh k (by omega) (λi z1 z2=>?_) λi z1 z2=>?_
   ·have:=f1 (i-ib) (by omega);rwa [show ib+(i-ib)=i by omega]at this
   ·have:=f2 (i-ib) (by omega) (by omega);rw[show ib+(i-ib)=i by omega]at this;omega
 refine _h (_cI (_aw ⟨rfl,_h (yk (by omega) (yK (λq1=>_m (h _ _ ⟨rfl,rfl,rfl,rfl⟩ (m1.done sa (by omega) (by simpa using q1)))) λq1=>yK (λq2=>_m (h _ _ ⟨rfl,rfl,rfl,rfl⟩ (fin m1 (by omega) (by simpa using q2)))) λq2=>_h (_b3 (_h ?_))))⟩));have q1:=show ¬ 1=b.size by simpa using q1
 have q2:=show ¬ 0+1=a.size by simpa using q2
 refine kC (λr st'=>z2R st st'/\Mrg rk a b r) (λ_ _=>False) (λx c st'=>x+1<=c.2.1+c.2.2.1/\z2R st st'/\Mlo rk a b c.2.1 c.2.2.1 c.1/\c.2.1+1<a.size/\c.2.2.1<b.size) ?_ (λc st' z=>absurd z.1 (by omega)) ⟨by show 0+1<=0+1;omega,⟨rfl,rfl,rfl,rfl⟩,m1,by show 0+1<a.size;omega,by show 1<b.size;omega⟩ (λr d st' z=>_m (h r _ z.1 z.2)) (λc st' z=>z.elim);intro x c st1 _ hx I0;refine _h (kC (λr st'=>z2R st st'/\Mrg rk a b r) (λc st'=>x+1<=c.2.1+c.2.2.1/\z2R st st'/\Mlo rk a b c.2.1 c.2.2.1 c.1/\c.2.1+1<a.size/\c.2.2.1<b.size) (λy c st'=>x+1+y<=c.2.1+c.2.2.1/\z2R st st'/\Mlo rk a b c.2.1 c.2.2.1 c.1/\c.2.1+1<a.size/\c.2.2.1<b.size) ?_ (λc st' z=>absurd z.1 (by omega)) I0 (λr d st' z=>_m z) λc st2 J0=>?_)
 ·intro y c st2 _ hy I1;have lk:=I1.2.1;have m:=I1.2.2.1;have c1:=I1.1;have c2:=I1.2.2.2.1;have c3:=I1.2.2.2.2;refine _h (yk c3 (_h (yk (_ba c2) (_h (z8C V (lk.1.trans hk) (Pb _ c3) (Pa _ (_ba c2)) (yK (λq=>?_) λq=>?_))))))
  ·have m2:=m.pushB sb c3 λi h1 h2=>by have:=sa _ i h1 h2;simp only[_p]at q;omega
   have b1:x+1<=c.2.1+(c.2.2.1+1):=by omega
   have b2:x+1+(y+1)<=c.2.1+(c.2.2.1+1):=by omega
   have b3:¬ ((c.2.2.1+1==b.size)=true)->c.2.2.1+1<b.size:=λe=>by have:¬ c.2.2.1+1=b.size:=(by simpa using e);omega
   exact _h (yk c3 (yK (λe=>_m ⟨lk,m2.done sa (_ap (_ba c2)) (by simpa using e)⟩) λe=>yK (λ_=>_m ⟨b1,lk,m2,c2,b3 e⟩) λ_=>_m ⟨b2,lk,m2,c2,b3 e⟩))
  ·have m2:=m.pushA sa (_ba c2) λi h1 h2=>by have:=sb _ i h1 h2;simp only[_p]at q;omega
   have b1:x+1<=c.2.1+1+c.2.2.1:=by omega
   have b2:x+1+(y+1)<=c.2.1+1+c.2.2.1:=by omega
   have b3:¬ ((c.2.1+1+1==a.size)=true)->c.2.1+1+1<a.size:=λe=>by have:¬ c.2.1+1+1=a.size:=(by simpa using e);omega
   exact _h (yk (_ba c2) (yK (λe=>_m ⟨lk,fin m2 (_ap c3) (by simpa using e)⟩) λe=>yK (λ_=>_m ⟨b1,lk,m2,b3 e,c3⟩) λ_=>_m ⟨b2,lk,m2,b3 e,c3⟩))
 have lk:=J0.2.1;have m:=J0.2.2.1;have c1:=J0.1;have c2:=J0.2.2.2.1;have c3:=J0.2.2.2.2;refine _h (_cI (_aw ⟨rfl,_h (kC (λr st'=>z2R st st'/\Mrg rk a b r) (λc st'=>x+1+1<=c.2.1+c.2.2.1/\z2R st st'/\Mlo rk a b c.2.1 c.2.2.1 c.1/\c.2.1+1<a.size/\c.2.2.1<b.size) (λy c st'=>x+1+y<=c.2.1+c.2.2.1/\z2R st st'/\Mlo rk a b c.2.1 c.2.2.1 c.1/\c.2.1+1<a.size/\c.2.2.1<b.size) ?_ (λc st' z=>absurd z.1 (by omega)) J0 (λr d st' z=>_m z) λc st3 z=>_h (_aL (_m z)))⟩));intro y c st3 _ hy I1;have lk:=I1.2.1;have m:=I1.2.2.1;have c1:=I1.1;have c2:=I1.2.2.2.1;have c3:=I1.2.2.2.2;have later:∀{k:Nat},c.2.1+k<a.size->(∀i,c.2.1<=i->i<c.2.1+k->rk (at_ a i)<=rk (at_ b c.2.2.1))->(∀i,c.2.1+k<=i->i<a.size->rk (at_ b c.2.2.1)<rk (at_ a i))->Mlo rk a b (c.2.1+k) c.2.2.1 (c.1++a.extract c.2.1 (c.2.1+k))/\Mlo rk a b (c.2.1+k) (c.2.2.1+1) ((c.1++a.extract c.2.1 (c.2.1+k)).push (at_ b c.2.2.1)):=λ{k} k1 k2 k3=>by
  have m2:=m.moreA sa k (by omega) λi h1 h2 j h3 h4=>by have:=k2 i h1 h2;have:=sb _ j h3 h4;omega
  exact⟨m2,m2.pushB sb c3 λi h1 h2=>_ap (k3 i h1 h2)⟩
 refine yK (λ_=>?_) λ_=>?_;all_goals
  refine _h (_aL (_h (yk c3 (_h (ga (ia:=c.2.1) (ib:=c.2.2.1) (lk.1.trans hk) (_ba c2) c3 λk k1 k2 k3=>?_)))));have L:=later k1 k2 k3;have m2:=L.1;have m3:=L.2;by_cases e1:c.2.1+k+1=a.size
  ·have k0:k > 0:=by omega
   exact z0e k0 (z0e (by simpa using e1) (_m ⟨lk,fin m2 (_ap c3) e1⟩))
  have c2':c.2.1+k+1<a.size:=by omega
  have c1':x+1+y<=c.2.1+k+c.2.2.1:=by omega
  have z1:¬ c.2.1+k=a.size:=by omega
  clear m m2 L later c1 I1;refine zfg (λk0=>(_l (by simpa using e1)).trans (_l (by simpa using z1))) (λk0=>by rw[(zag k0 c.1).1,(zag (a:=a) (i:=c.2.1) k0 c.1).2]) ?_;refine _h (yk c3 (yK (λe2=>_m ⟨lk,m3.done sa (by omega) (by simpa using e2)⟩) λe2=>?_));have e2:¬ c.2.2.1+1=b.size:=by simpa using e2
  refine _h (yk k1 (_h (gb (ia:=c.2.1+k) (ib:=c.2.2.1+1) (lk.1.trans hk) k1 (by omega) λk' k1' k2' k3'=>?_)));have m4:=m3.moreB sb k' k1' λj h1 h2 i h3 h4=>by have:=k2' j h1 h2;have:=sa _ i h3 h4;omega
  by_cases e3:c.2.2.1+1+k'=b.size
  ·have k0':k' > 0:=by omega
   exact z0e k0' (z0e (by simpa using e3) (_m ⟨lk,m4.done sa (by omega) e3⟩))
  have m5:=m4.pushA sa k1 λj h1 h2=>k3' j h1 h2;have c3':c.2.2.1+1+k'<b.size:=by omega
  have b1:x+1+1<=c.2.1+k+1+(c.2.2.1+1+k'):=by omega
  have b2:x+1+(y+1)<=c.2.1+k+1+(c.2.2.1+1+k'):=by omega
  clear m3 m4;refine zfg (λk0'=>_l (by simpa using e3)) (λk0'=>by rw[(zag k0' _).1,(zag (a:=b) (i:=c.2.2.1+1) k0' #[]).2]) ?_;refine _h (yk k1 (yK (λe4=>_m ⟨lk,fin m5 (by omega) (by simpa using e4)⟩) λe4=>?_));have b3:c.2.1+k+1+1<a.size:=by
   have:¬ c.2.1+k+1+1=a.size:=(by simpa using e4);omega
  exact yK (λ_=>_m ⟨b1,lk,m5,b3,c3'⟩) λ_=>_m ⟨b2,lk,m5,b3,c3'⟩
end
section
variable {rk:Keyed->Nat}{a b out:Array Keyed}{na nb:Nat}
structure Mhi(rk:Keyed->Nat)(a b:Array Keyed)(na nb:Nat)(out:Array Keyed):Prop where
 pm:out.toList.reverse.Perm (a.toList.drop na++b.toList.drop nb)
 pw:out.toList.reverse.Pairwise λx y=>rk x<=rk y
 la:∀x∈out.toList,∀i,i<na->rk (at_ a i)<=rk x
 lb:∀x∈out.toList,∀j,j<nb->rk (at_ b j)<=rk x
theorem z82{i:Nat}(h:i<a.size):a.toList.drop i=at_ a i::a.toList.drop (i+1):=by
 rw[_aI (by simpa using h)];simp[at_,h]
theorem Mhi.pushA{m:Nat}(h:Mhi rk a b (m+1) nb out)(sa:Srt rk a)(hi:m<a.size)(le:∀j,j<nb->rk (at_ b j)<=rk (at_ a m)):Mhi rk a b m nb (out.push (at_ a m)):=by
 have er:(out.push (at_ a m)).toList.reverse=at_ a m::out.toList.reverse:=by simp
 refine⟨?_,?_,?_,?_⟩
 ·rw[er,z82 hi];exact h.pm.cons _
 ·rw[er,_bV];exact⟨λx hx=>h.la x (List.mem_reverse.mp hx) m (by omega),h.pw⟩
 ·intro x hx i h1;rw[_ah]at hx;rcases _B.mp hx with hx | hx;·exact h.la x hx i (by omega)
  ·rw[_a5.mp hx];exact sa _ _ (by omega) hi
 ·intro x hx j h1;rw[_ah]at hx;rcases _B.mp hx with hx | hx;·exact h.lb x hx j h1
  ·rw[_a5.mp hx];exact le j h1
theorem Mhi.swap(h:Mhi rk a b na nb out):Mhi rk b a nb na out:=⟨h.pm.trans _cc,h.pw,h.lb,h.la⟩
theorem Mhi.pushB{m:Nat}(h:Mhi rk a b na (m+1) out)(sb:Srt rk b)(hi:m<b.size)(le:∀j,j<na->rk (at_ a j)<=rk (at_ b m)):Mhi rk a b na m (out.push (at_ b m)):=(h.swap.pushA sb hi le).swap
theorem zcP{i k:Nat}(h:i<a.size)(hk:i<k)(hz:k<=a.size):(a.extract i k).reverse=(a.extract (i+1) k).reverse.push (at_ a i):=by
 apply Array.toList_inj.mp;simp only[Array.toList_reverse,_ah,Array.toList_extract,List.extract_eq_take_drop];rw[z82 h,show k-i=(k-(i+1))+1 by omega,List.take_succ_cons,List.reverse_cons]
theorem Mhi.moreA(h:Mhi rk a b na nb out)(sa:Srt rk a)(hz:na<=a.size):∀k m,m+k=na->(∀i,m<=i->i<na->∀j,j<nb->rk (at_ b j)<=rk (at_ a i))->Mhi rk a b m nb (out++(a.extract m na).reverse)
 | 0,m,e,_=>by
  rw[show m=na by omega,show a.extract na na=#[] by simp;omega,Array.reverse_empty,_bp];exact h | k+1,m,e,le=>by
  rw[zcP (by omega) (by omega) hz,Array.append_push];exact (h.moreA sa hz k (m+1) (by omega) λi h1 h2=>le i (by omega) h2).pushA sa (by omega) (le m (_d _) (by omega))
theorem Mhi.moreB(h:Mhi rk a b na nb out)(sb:Srt rk b)(hz:nb<=b.size)(k m:Nat)(e:m+k=nb)(le:∀j,m<=j->j<nb->∀i,i<na->rk (at_ a i)<=rk (at_ b j)):Mhi rk a b na m (out++(b.extract m nb).reverse):=(h.swap.moreA sb hz k m e le).swap
theorem Mhi.fin(h:Mhi rk a b 0 0 out):Mrg rk a b out.reverse:=⟨by simpa using h.pm,by simpa using h.pw⟩
theorem z5r(x y:Array Keyed):(x++y.reverse).reverse=y++x.reverse:=by simp
theorem Mhi.done(h:Mhi rk a b na nb out)(sb:Srt rk b)(hz:nb<=b.size)(e:na=0):Mrg rk a b (a.extract 0 na++b.extract 0 nb++out.reverse):=by
 subst e;have:=h.moreB sb hz nb 0 (by omega) λj _ _ i hi=>by omega
 rw[show a.extract 0 0=#[] by simp,Array.empty_append,<- z5r];exact this.fin
theorem Mhi.firstB(h:Mhi rk a b na nb out)(sa:Srt rk a)(sb:Srt rk b)(hz:na<=a.size)(zb:nb<=b.size)(e:nb=1)(lt:∀i,i<a.size->rk (at_ b 0)<=rk (at_ a i)):Mrg rk a b (b.extract 0 nb++a.extract 0 na++out.reverse):=by
 subst e;have h1:=h.moreA sa hz na 0 (by omega) λi h1 h2 j h3=>by
  have:j=0:=by omega
  subst this;exact lt i (by omega)
 have h2:=h1.moreB sb zb 1 0 (by omega) λj _ _ i hi=>by omega
 rw[Array.append_assoc,<- z5r,<- z5r];exact h2.fin
end
theorem z9I{a:Array Keyed}{k n:Nat}(hk:k<=n)(h:¬ n-k > 0)(out:Array Keyed):out++(a.extract k n).reverse=out/\k=n:=by
 have:n=k:=by omega
 subst this;refine⟨?_,rfl⟩;rw[show a.extract n n=#[] by simp;omega,Array.reverse_empty,_bp]
section
variable {prog:Program}{w:World}{A:Around}{E:Value->Shared->Prop}{s:Shared}{κ:SortKind}{P:Keyed->Prop}{rk:Keyed->Nat}(V:Env prog w A s κ P rk) {arr a b:Array Keyed}{st:SortSt}
include V
theorem z6z {Q:Array Keyed->SortSt->Prop} (hk:kindOf st=κ) (Pa:∀i,i<a.size->P (at_ a i)) (Pb:∀i,i<b.size->P (at_ b i)) (sa:Srt rk a) (sb:Srt rk b) (pa:1<=a.size) (pb:1<=b.size) (first:rk (at_ b 0)<rk (at_ a 0)) (last:rk (at_ b (b.size-1))<rk (at_ a (a.size-1))) (h:∀r st',z2R st st'->Mrg rk a b r->Q r st'):wpS (model prog w) A E s (zad a b) Q st:=by
 have lastA:∀j,j<b.size->rk (at_ b j)<rk (at_ a (a.size-1)):=λj hj=>by have:=sb j (b.size-1) (by omega) (by omega);omega
 have firstB:∀i,i<a.size->rk (at_ b 0)<rk (at_ a i):=λi hi=>by have:=sa 0 i (by omega) hi;omega
 have firstB':∀i,i<a.size->rk (at_ b 0)<=rk (at_ a i):=λi hi=>_ap (firstB i hi);have m1:Mhi rk a b (a.size-1) b.size #[at_ a (a.size-1)]:=by
  have m0:Mhi rk a b (a.size-1+1) b.size #[]:=⟨by rw[show a.size-1+1=a.size by omega];simp,by simp,λx hx=>by simp at hx,λx hx=>by simp at hx⟩;exact m0.pushA sa (by omega) λi hi=>_ap (lastA i hi)
 have ga:∀{st':SortSt} {na nb:Nat} {R:Option Nat->SortSt->Prop},kindOf st'=κ->0<na->na<=a.size->nb<b.size->(∀k,k<=na->(∀i,i<k->rk (at_ a i)<=rk (at_ b nb))->(∀i,k<=i->i<na->rk (at_ b nb)<rk (at_ a i))->R (some k) st')->wpS (model prog w) A E s (z1p false (at_ b nb) a 0 na (na-1)) R st':=λ{st' na nb R} k1 h0 h1 h2 hh=>by
  refine uA V k1 Pa (Pb _ h2) (by omega) (by omega) (λi j hij hj=>?_) λk hk f1 f2=>?_
  ·simp only[bey,_Q,_an,_aE,_T];have:=sa (0+i) (0+j) (by omega) (by omega);omega
  ·simp only[bey,_Q,_an,_aE,_T,_cK,_p,_S]at f1 f2;exact hh k hk (λi z1=>by have:=f1 i z1;omega) f2
 have gb:∀{st':SortSt} {na nb:Nat} {R:Option Nat->SortSt->Prop},kindOf st'=κ->na<a.size->0<nb->nb<=b.size->(∀k,1<=k->k<=nb->(∀j,j<k->rk (at_ b j)<rk (at_ a na))->(∀j,k<=j->j<nb->rk (at_ a na)<=rk (at_ b j))->R (some k) st')->wpS (model prog w) A E s (z1p true (at_ a na) b 0 nb (nb-1)) R st':=λ{st' na nb R} k1 h0 h1 h2 hh=>by
  refine uA V k1 Pb (Pa _ h0) (by omega) (by omega) (λi j hij hj=>?_) λk hk f1 f2=>?_
  ·simp only[bey,_C,_p];have:=sb (0+i) (0+j) (by omega) (by omega);omega
  ·simp only[bey,_C,_p,_T,_S]at f1 f2;have k1:1<=k:=by
    rcases Nat.eq_zero_or_pos k with z | z;·exact absurd (firstB na h0) (f2 0 (by omega) h1)
    ·exact z
   exact hh k k1 hk f1 (λi z1 z2=>by have:=f2 i z1 z2;omega)
 have fin:∀{out:Array Keyed} {na nb:Nat},Mhi rk a b na nb out->na<=a.size->nb<=b.size->nb=1->Mrg rk a b (b.extract 0 nb++a.extract 0 na++out.reverse):=λm ha hb e=>m.firstB sa sb ha hb e firstB';refine _h (_cI (_aw ⟨rfl,_h (yk (by omega) (yK (λq1=>_m (h _ _ ⟨rfl,rfl,rfl,rfl⟩ (m1.done sb (_d _) (by simpa using q1)))) λq1=>yK (λq2=>_m (h _ _ ⟨rfl,rfl,rfl,rfl⟩ (fin m1 (Nat.sub_le _ _) (_d _) (by simpa using q2)))) λq2=>_h (_b3 (_h ?_))))⟩));have q1:¬ a.size-1=0:=by simpa using q1
 have q2:¬ b.size=1:=by simpa using q2
 refine kC (λr st'=>z2R st st'/\Mrg rk a b r) (λ_ _=>False) (λx c st'=>c.1+c.2.1+x<a.size+b.size/\z2R st st'/\Mhi rk a b c.1 c.2.1 c.2.2.1/\(0<c.1/\c.1<=a.size)/\1<c.2.1/\c.2.1<=b.size) ?_ (λc st' z=>absurd z.1 (by omega)) ⟨by show a.size-1+b.size+0<_;omega,⟨rfl,rfl,rfl,rfl⟩,m1,⟨by show 0<a.size-1;omega,Nat.sub_le _ _⟩,by show 1<b.size;omega,_d _⟩ (λr d st' z=>_m (h r _ z.1 z.2)) (λc st' z=>z.elim);intro x c st1 _ hx I0;refine _h (kC (λr st'=>z2R st st'/\Mrg rk a b r) (λc st'=>c.1+c.2.1+x<a.size+b.size/\z2R st st'/\Mhi rk a b c.1 c.2.1 c.2.2.1/\(0<c.1/\c.1<=a.size)/\1<c.2.1/\c.2.1<=b.size) (λy c st'=>c.1+c.2.1+x+y<a.size+b.size/\z2R st st'/\Mhi rk a b c.1 c.2.1 c.2.2.1/\(0<c.1/\c.1<=a.size)/\1<c.2.1/\c.2.1<=b.size) ?_ (λc st' z=>absurd z.1 (by omega)) I0 (λr d st' z=>_m z) λc st2 J0=>?_)
 ·intro y c st2 _ hy I1;have lk:=I1.2.1;have m:=I1.2.2.1;have c1:=I1.1;have c2:=I1.2.2.2.1;have c3:=I1.2.2.2.2;have la:c.1-1<a.size:=by omega
  have lb:c.2.1-1<b.size:=by omega
  have ea:c.1-1+1=c.1:=by omega
  have eb:c.2.1-1+1=c.2.1:=by omega
  refine _h (yk lb (_h (yk la (_h (z8C V (lk.1.trans hk) (Pb _ lb) (Pa _ la) (yK (λq=>?_) λq=>?_))))))
  ·have m2:=Mhi.pushA (m:=c.1-1) (by rw[ea];exact m) sa la λi h1=>by have:=sb i (c.2.1-1) (by omega) lb;simp only[_p]at q;omega
   have b1:c.1-1+c.2.1+x<a.size+b.size:=by omega
   have b2:c.1-1+c.2.1+x+(y+1)<a.size+b.size:=by omega
   have b3:¬ ((c.1-1==0)=true)->0<c.1-1:=λe=>by have:¬ c.1-1=0:=(by simpa using e);omega
   have b4:c.1-1<=a.size:=by omega
   exact _h (yk la (yK (λe=>_m ⟨lk,m2.done sb c3.2 (by simpa using e)⟩) λe=>yK (λ_=>_m ⟨b1,lk,m2,⟨b3 e,b4⟩,c3⟩) λ_=>_m ⟨b2,lk,m2,⟨b3 e,b4⟩,c3⟩))
  ·have m2:=Mhi.pushB (m:=c.2.1-1) (by rw[eb];exact m) sb lb λi h1=>by have:=sa i (c.1-1) (by omega) la;simp only[_p]at q;omega
   have b1:c.1+(c.2.1-1)+x<a.size+b.size:=by omega
   have b2:c.1+(c.2.1-1)+x+(y+1)<a.size+b.size:=by omega
   have b3:¬ ((c.2.1-1==1)=true)->1<c.2.1-1:=λe=>by have:¬ c.2.1-1=1:=(by simpa using e);omega
   have b4:c.2.1-1<=b.size:=by omega
   exact _h (yk lb (yK (λe=>_m ⟨lk,fin m2 c2.2 b4 (by simpa using e)⟩) λe=>yK (λ_=>_m ⟨b1,lk,m2,c2,b3 e,b4⟩) λ_=>_m ⟨b2,lk,m2,c2,b3 e,b4⟩))
 refine _h (_cI (_aw ⟨rfl,_h (kC (λr st'=>z2R st st'/\Mrg rk a b r) (λc st'=>c.1+c.2.1+x+1<a.size+b.size/\z2R st st'/\Mhi rk a b c.1 c.2.1 c.2.2.1/\(0<c.1/\c.1<=a.size)/\1<c.2.1/\c.2.1<=b.size) (λy c st'=>c.1+c.2.1+x+y<a.size+b.size/\z2R st st'/\Mhi rk a b c.1 c.2.1 c.2.2.1/\(0<c.1/\c.1<=a.size)/\1<c.2.1/\c.2.1<=b.size) ?_ (λc st' z=>absurd z.1 (by omega)) J0 (λr d st' z=>_m z) λc st3 z=>_h (_aL (_m z)))⟩));intro y c st3 _ hy I1;have lk:=I1.2.1;have m:=I1.2.2.1;have c1:=I1.1;have c2:=I1.2.2.2.1;have c3:=I1.2.2.2.2;have lb:c.2.1-1<b.size:=by omega
 have eb:c.2.1-1+1=c.2.1:=by omega
 have later:∀{k:Nat},k<=c.1->(∀i,i<k->rk (at_ a i)<=rk (at_ b (c.2.1-1)))->(∀i,k<=i->i<c.1->rk (at_ b (c.2.1-1))<rk (at_ a i))->Mhi rk a b k c.2.1 (c.2.2.1++(a.extract k c.1).reverse)/\Mhi rk a b k (c.2.1-1) ((c.2.2.1++(a.extract k c.1).reverse).push (at_ b (c.2.1-1))):=λ{k} k1 k2 k3=>by
  have m2:=m.moreA sa c2.2 (c.1-k) k (by omega) λi h1 h2 j h3=>by have:=k3 i h1 h2;have:=sb j (c.2.1-1) (by omega) lb;omega
  exact⟨m2,Mhi.pushB (m:=c.2.1-1) (by rw[eb];exact m2) sb lb k2⟩
 refine yK (λ_=>?_) λ_=>?_;all_goals
  refine _h (_aL (_h (yk lb (_h (ga (na:=c.1) (nb:=c.2.1-1) (lk.1.trans hk) c2.1 c2.2 lb λk k1 k2 k3=>?_)))));have L:=later k1 k2 k3;have m2:=L.1;have m3:=L.2;by_cases e1:k=0
  ·have k0:c.1-k > 0:=by omega
   exact z0e k0 (z0e (by simpa using e1) (_m ⟨lk,m2.done sb c3.2 e1⟩))
  clear m m2 L later I1;have lk1:k-1<a.size:=by omega
  have ek:k-1+1=k:=by omega
  have b6:k<=a.size:=by omega
  have b7:c.2.1-1<=b.size:=by omega
  have b8:0<c.2.1-1:=by omega
  refine zfg (λk0=>_l (by simpa using e1)) (λk0=>by rw[(z9I k1 k0 c.2.2.1).1,(z9I (a:=a) k1 k0 c.2.2.1).2]) ?_;refine _h (yk lb (yK (λe2=>_m ⟨lk,fin m3 b6 b7 (by simpa using e2)⟩) λe2=>?_));have e2:¬ c.2.1-1=1:=by simpa using e2
  refine _h (yk lk1 (_h (gb (na:=k-1) (nb:=c.2.1-1) (lk.1.trans hk) lk1 b8 b7 λk' k0' k1' k2' k3'=>?_)));have m4:=m3.moreB sb b7 (c.2.1-1-k') k' (by omega) λj h1 h2 i h3=>by have:=k3' j h1 h2;have:=sa i (k-1) (by omega) lk1;omega
  by_cases e3:k'=1
  ·have k00':c.2.1-1-k' > 0:=by omega
   exact z0e k00' (z0e (by simpa using e3) (_m ⟨lk,fin m4 b6 (by omega) e3⟩))
  have m5:=Mhi.pushA (m:=k-1) (by rw[ek];exact m4) sa lk1 λj h1=>_ap (k2' j h1);have z1:¬ k'=0:=by omega
  have b1:k-1+k'+x+1<a.size+b.size:=by omega
  have b2:k-1+k'+x+(y+1)<a.size+b.size:=by omega
  have b5:1<k'/\k'<=b.size:=by omega
  clear m3 m4;refine zfg (λk00'=>(_l (by simpa using e3)).trans (_l (by simpa using z1))) (λk00'=>by rw[(z9I k1' k00' _).1,(z9I (a:=b) k1' k00' #[]).2]) ?_;refine _h (yk lk1 (yK (λe4=>_m ⟨lk,m5.done sb b5.2 (by simpa using e4)⟩) λe4=>?_));have b3:0<k-1/\k-1<=a.size:=by
   have:¬ k-1=0:=(by simpa using e4);omega
  exact yK (λ_=>_m ⟨b1,lk,m5,b3,b5⟩) λ_=>_m ⟨b2,lk,m5,b3,b5⟩
end
section
variable {rk:Keyed->Nat}{a b x y r:Array Keyed}
def wG(rk:Keyed->Nat)(a:Array Keyed)(lo hi:Nat):Prop:=∀i j,lo<=i->i<=j->j<hi->rk (at_ a i)<=rk (at_ a j)
def zgX(a b:Array Keyed)(lo hi:Nat):Prop:=∀i,i<lo\/hi<=i->at_ b i=at_ a i
theorem zb4{i lo hi:Nat}(h1:lo+i<hi)(h2:hi<=a.size):at_ (a.extract lo hi) i=at_ a (lo+i):=by
 simp only[at_,_aX];rw[_b4,_g (by omega)]
theorem z8w{v:Keyed}(h:v∈a.toList):∃j,j<a.size/\v=at_ a j:=by
 obtain⟨j,hj,e⟩:=_aj.mp h;have hj':j<a.size:=by simpa using hj
 exact⟨j,hj',by simp[at_,hj',<- e]⟩
noncomputable def write(a r:Array Keyed)(sa:Nat):Array Keyed:=r.toList.zipIdx.foldl (λa p=>a.setIfInBounds (sa+p.2) p.1) a
theorem z3s:∀(l:List Keyed)(k sa:Nat)(a:Array Keyed),((l.zipIdx k).foldl (λa p=>a.setIfInBounds (sa+p.2) p.1) a).size=a.size/\∀i,((l.zipIdx k).foldl (λa p=>a.setIfInBounds (sa+p.2) p.1) a)[i]? = if sa+k<=i/\i<sa+k+l.length/\i<a.size then l[i-(sa+k)]? else a[i]?
 | [],k,sa,a=>⟨rfl,λi=>by rw[_l (by simp;omega)];rfl⟩ | v::l,k,sa,a=>by
  obtain⟨h1,h2⟩:=z3s l (k+1) sa (a.setIfInBounds (sa+k) v);rw[_c3,_aS];refine⟨h1.trans (by simp),λi=>(h2 i).trans ?_⟩;rw[Array.size_setIfInBounds,_c];by_cases e:i=sa+k
  ·subst e;rw[_l (by omega)];by_cases q:sa+k<a.size;·rw[_g (by omega),Array.getElem?_setIfInBounds_self_of_lt q];simp
   ·rw[_l (by omega)];simp[q]
  ·rw[Array.getElem?_setIfInBounds_ne (by omega)];by_cases q:sa+(k+1)<=i/\i<sa+(k+1)+l.length/\i<a.size;·rw[_g q,_g (by omega),show i-(sa+k)=(i-(sa+(k+1)))+1 by omega,_J]
   ·rw[_l q,_l (by omega)]
theorem z6u{sa:Nat}(h:sa+r.size<=a.size):(write a r sa).toList=a.toList.take sa++r.toList++a.toList.drop (sa+r.size):=by
 obtain⟨h1,h2⟩:=z3s r.toList 0 sa a;apply List.ext_getElem?;intro i;have e:(write a r sa).toList[i]? = (write a r sa)[i]? := by simp
 rw[e];refine (h2 i).trans ?_;simp only[_V,_b5];by_cases q1:i<sa;·rw[_l (by omega),_L,_A (by simp;omega),List.getElem?_take,_g q1];simp
 ·by_cases q2:i<sa+r.size;·rw[_g (by omega),_L,_G (by simp;omega),_ak,_V,Nat.min_eq_left (by omega),_A (by simp;omega)]
  ·rw[_l (by omega),_G (by simp;omega),List.getElem?_drop];simp only[_y,_ak,_V];rw[show sa+r.size+(i-(min sa a.size+r.size))=i by omega];simp
theorem z9R{sa i:Nat}(h:sa+r.size<=a.size):at_ (write a r sa) i=if sa<=i/\i<sa+r.size then at_ r (i-sa) else at_ a i:=by
 obtain⟨h1,h2⟩:=z3s r.toList 0 sa a;simp only[at_,_aX];have:=h2 i;simp only[_V,_b5]at this;rw[show (write a r sa)[i]? = _ from this];by_cases q:sa<=i/\i<sa+r.size;·rw[_g (by omega),_g q];simp
 ·rw[_l (by omega),_l q]
theorem zep(h:r.toList.Pairwise λx y=>rk x<=rk y):Srt rk r:=λi j hij hj=>by
 rcases Nat.lt_or_ge i j with q | q
 ·have:=List.pairwise_iff_getElem.mp h i j (by simp;omega) (by simpa using hj) q;simpa[at_,hj,show i<r.size by omega] using this
 ·rw[show i=j by omega];exact _d _
end
section
variable {prog:Program}{w:World}{A:Around}{E:Value->Shared->Prop}{s:Shared}{κ:SortKind}{a₀:Array Keyed}{rk:Keyed->Nat}(V:Env prog w A s κ (· ∈ a₀.toList) rk) {st:SortSt}
structure SB(κ:SortKind)(a₀:Array Keyed)(st:SortSt):Prop where
 perm:(arrOf st).Perm a₀
 kind:kindOf st=κ
 failed:failedOf st=none
theorem SB.size(h:SB κ a₀ st):(arrOf st).size=a₀.size:=h.perm.size_eq
theorem SB.mem(h:SB κ a₀ st):∀i,i<(arrOf st).size->at_ (arrOf st) i∈a₀.toList:=λi hi=>by
 have:at_ (arrOf st) i∈(arrOf st).toList:=by simp[at_,hi]
 exact (_bB.mp h.perm).mem_iff.mp this
include V
theorem z6J {i sa na p sb nb p':Nat} {Q:Bool->SortSt->Prop} (B:SB κ a₀ st) (h1:(pendingOf st)[i]? = some (sa,na,p)) (h2:(pendingOf st)[i+1]? = some (sb,nb,p')) (eb:sb=sa+na) (pa:1<=na) (pb:1<=nb) (hz:sb+nb<=a₀.size) (s1:wG rk (arrOf st) sa (sa+na)) (s2:wG rk (arrOf st) sb (sb+nb)) (h:∀st',SB κ a₀ st'->pendingOf st'=((pendingOf st).setIfInBounds i (sa,na+nb,p)).eraseIdxIfInBounds (i+1)->zgX (arrOf st) (arrOf st') sa (sa+(na+nb))->wG rk (arrOf st') sa (sa+(na+nb))->Q true st'):wpS (model prog w) A E s (mergeAt' i) Q st:=by
 have sz:=B.size;have mem:=B.mem;have nf:=B.failed;refine _h (_b3 ?_);show wpS _ _ _ _ (match ((pendingOf st)[i]?,(pendingOf st)[i+1]?) with | (some (sa,na,power),some (sb,nb,_))=>_ | _=>_) _ _;rw[h1,h2];dsimp only;refine _h (_aL (f:=λ_=>setPending st (((pendingOf st).setIfInBounds i (sa,na+nb,p)).eraseIdxIfInBounds (i+1))) ?_);have B1:SB κ a₀ (setPending st (((pendingOf st).setIfInBounds i (sa,na+nb,p)).eraseIdxIfInBounds (i+1))):=⟨B.perm,B.kind,B.failed⟩;have a1:arrOf (setPending st (((pendingOf st).setIfInBounds i (sa,na+nb,p)).eraseIdxIfInBounds (i+1)))=arrOf st:=rfl;have p1:pendingOf (setPending st (((pendingOf st).setIfInBounds i (sa,na+nb,p)).eraseIdxIfInBounds (i+1)))=((pendingOf st).setIfInBounds i (sa,na+nb,p)).eraseIdxIfInBounds (i+1):=rfl;generalize setPending st (((pendingOf st).setIfInBounds i (sa,na+nb,p)).eraseIdxIfInBounds (i+1))=st1 at B1 a1 p1;refine _h (yk (arr:=arrOf st) (by omega) (_h (uA V (arr:=arrOf st) B1.kind mem (mem _ (by omega)) (by omega) (by omega) (λi j hij hj=>?_) λk hk f1 f2=>?_)))
 ·simp only[bey,_Q,_an,_aE,_T];have:=s1 (sa+i) (sa+j) (by omega) (by omega) (by omega);omega
 simp only[bey,_Q,_an,_aE,_T,_cK,_p]at f1 f2;dsimp only;by_cases q:na-k=0
 ·rw[_g (by simpa using q)];refine _m (h _ B1 p1 (λi _=>by rw[a1]) λi j hi hij hj=>?_);rw[a1];by_cases c1:j<sb;·exact s1 i j hi hij (by omega)
  ·by_cases c2:sb<=i;·exact s2 i j c2 hij (by omega)
   ·have e1:=f1 (i-sa) (by omega);rw[show sa+(i-sa)=i by omega]at e1;have e2:=s2 sb j (_d _) (by omega) (by omega);omega
 rw[_l (by simpa using q)];refine _h (yk (arr:=arrOf st) (by omega) (_h (uA V (arr:=arrOf st) B1.kind mem (mem _ (by omega)) (by omega) (by omega) (λi j hij hj=>?_) λm hm g1 g2=>?_)))
 ·simp only[bey,_C,_p];have:=s2 (sb+i) (sb+j) (by omega) (by omega) (by omega);omega
 simp only[bey,_C,_p,_T]at g1 g2;dsimp only;have f0:=f2 k (_d _) (by omega);have m1:1<=m:=by
  rcases Nat.eq_zero_or_pos m with z | z
  ·have e1:=g2 0 (by omega) (by omega);rw[_b5]at e1;have:=s1 (sa+k) (sa+k+(na-k)-1) (by omega) (by omega) (by omega);omega
  ·exact z
 rw[_l (by simp;omega)];have xs:((arrOf st).extract (sa+k) sb).size=na-k:=by rw[_cJ];omega
 have ys:((arrOf st).extract sb (sb+m)).size=m:=by rw[_cJ];omega
 have xa:∀i,i<na-k->at_ ((arrOf st).extract (sa+k) sb) i=at_ (arrOf st) (sa+k+i):=λi hi=>zb4 (by omega) (by omega);have ya:∀i,i<m->at_ ((arrOf st).extract sb (sb+m)) i=at_ (arrOf st) (sb+i):=λi hi=>zb4 (by omega) (by omega);have fin:∀r st',z2R st1 st'->Mrg rk ((arrOf st).extract (sa+k) sb) ((arrOf st).extract sb (sb+m)) r->wpS (model prog w) A E s (do
   modify λs=>setArr s (write (arrOf s) r (sa+k)) return (failedOf (<- get)).isNone) Q st':=λr st' lk mg=>by
  have al:arrOf st'=arrOf st:=lk.2.1.trans a1;have rs:r.size=na-k+m:=by
   have:=mg.1.length_eq;simp only[_y,_V]at this;omega
  have hw:sa+k+r.size<=(arrOf st).size:=by omega
  refine _h (_aL (_h (_b3 ?_)));have B2:SB κ a₀ (setArr st' (write (arrOf st') r (sa+k))):=by
   refine⟨?_,lk.1.trans B1.kind,lk.2.2.2.trans B1.failed⟩;show (write (arrOf st') r (sa+k)).Perm a₀;rw[al];refine Array.Perm.trans (_bB.mpr ?_) B.perm;rw[z6u hw];have e1:(arrOf st).toList=(arrOf st).toList.take (sa+k)++((arrOf st).extract (sa+k) sb).toList++((arrOf st).extract sb (sb+m)).toList++(arrOf st).toList.drop (sa+k+r.size):=by
    simp only[Array.toList_extract,List.extract_eq_take_drop];have:=_at (sa+k) (arrOf st).toList;have d1:=_at (sb-(sa+k)) ((arrOf st).toList.drop (sa+k));have d2:=_at (sb+m-sb) ((arrOf st).toList.drop sb);rw[List.drop_drop,show sa+k+(sb-(sa+k))=sb by omega]at d1;rw[List.drop_drop,show sb+(sb+m-sb)=sa+k+r.size by omega]at d2;rw[_L,_L,d2,d1,this]
   conv=>rhs;rw[e1]
   rw[_L,_L,_L];refine List.Perm.append_left _ ?_;rw[<- _L];exact mg.1.append_right _
  have sr:=zep mg.2;have wa:∀i,at_ (arrOf (setArr st' (write (arrOf st') r (sa+k)))) i=if sa+k<=i/\i<sa+k+r.size then at_ r (i-(sa+k)) else at_ (arrOf st) i:=λi=>by
   show at_ (write (arrOf st') r (sa+k)) i=_;rw[al];exact z9R hw
  have rm:∀i,i<r.size->(∃j,sa+k<=j/\j<sb/\at_ r i=at_ (arrOf st) j)\/∃j,sb<=j/\j<sb+m/\at_ r i=at_ (arrOf st) j:=λi hi=>by
   have:at_ r i∈r.toList:=by simp[at_,hi]
   rcases _B.mp (mg.1.mem_iff.mp this) with z | z
   ·obtain⟨j,hj,e⟩:=z8w z;exact .inl ⟨sa+k+j,by omega,by omega,by rw[e,xa j (by omega)]⟩
   ·obtain⟨j,hj,e⟩:=z8w z;exact .inr ⟨sb+j,by omega,by omega,by rw[e,ya j (by omega)]⟩
  rw[show (failedOf (setArr st' (write (arrOf st') r (sa+k)))).isNone=true by rw[B2.failed];rfl];refine _m (h _ B2 (lk.2.2.1.trans p1) (λi hi=>?_) λi j hi hij hj=>?_);·rw[wa,_l (by omega)]
  ·-- lo part<=b0<merged;merged<last a<=hi part
   have lowM:∀i,sa<=i->i<sa+k->∀j,j<r.size->rk (at_ (arrOf st) i)<=rk (at_ r j):=λi i1 i2 j hj=>by
    have e1:=f1 (i-sa) (by omega);rw[show sa+(i-sa)=i by omega]at e1;rcases rm j hj with⟨j',j1,j2,e⟩ | ⟨j',j1,j2,e⟩;·rw[e];exact s1 i j' i1 (by omega) (by omega)
    ·rw[e];have:=s2 sb j' (_d _) j1 (by omega);omega
   have hiM:∀j,sb+m<=j->j<sb+nb->∀i,i<r.size->rk (at_ r i)<=rk (at_ (arrOf st) j):=λj j1 j2 i hi=>by
    have e1:=g2 (j-sb) (by omega) (by omega);rw[show sb+(j-sb)=j by omega]at e1;rcases rm i hi with⟨i',i1,i2,e⟩ | ⟨i',i1,i2,e⟩
    ·rw[e];have:=s1 i' (sa+k+(na-k)-1) (by omega) (by omega) (by omega);omega
    ·rw[e];exact s2 i' j i1 (by omega) j2
   rw[wa,wa];by_cases c1:sa+k<=i/\i<sa+k+r.size
   ·rw[_g c1];by_cases c2:sa+k<=j/\j<sa+k+r.size;·rw[_g c2];exact sr _ _ (by omega) (by omega)
    ·rw[_l c2];exact hiM j (by omega) (by omega) _ (by omega)
   ·rw[_l c1];by_cases c2:sa+k<=j/\j<sa+k+r.size
    ·rw[_g c2];exact lowM i hi (by omega) _ (by omega)
    ·rw[_l c2];by_cases c3:sb<=i;·exact s2 i j c3 hij (by omega)
     ·by_cases c4:j<sb;·exact s1 i j hi hij (by omega)
      ·have z1:=lowM i hi (by omega) 0 (by omega);have z2:=hiM j (by omega) (by omega) 0 (by omega);omega
 have args:(∀i,i<((arrOf st).extract (sa+k) sb).size->at_ ((arrOf st).extract (sa+k) sb) i∈a₀.toList)/\(∀i,i<((arrOf st).extract sb (sb+m)).size->at_ ((arrOf st).extract sb (sb+m)) i∈a₀.toList)/\Srt rk ((arrOf st).extract (sa+k) sb)/\Srt rk ((arrOf st).extract sb (sb+m)):=by
  refine⟨λi hi=>?_,λi hi=>?_,λi j hij hj=>?_,λi j hij hj=>?_⟩;·rw[xa i (by omega)];exact mem _ (by omega)
  ·rw[ya i (by omega)];exact mem _ (by omega)
  ·rw[xa i (by omega),xa j (by omega)];exact s1 _ _ (by omega) (by omega) (by omega)
  ·rw[ya i (by omega),ya j (by omega)];exact s2 _ _ (by omega) (by omega) (by omega)
 obtain⟨Px,Py,sx,sy⟩:=args;have fst_:rk (at_ ((arrOf st).extract sb (sb+m)) 0)<rk (at_ ((arrOf st).extract (sa+k) sb) 0):=by rw[xa 0 (by omega),ya 0 (by omega),_b5,_b5];exact f0
 have lst_:rk (at_ ((arrOf st).extract sb (sb+m)) (((arrOf st).extract sb (sb+m)).size-1))<rk (at_ ((arrOf st).extract (sa+k) sb) (((arrOf st).extract (sa+k) sb).size-1)):=by
  rw[xs,ys,xa _ (by omega),ya _ (by omega),show sa+k+(na-k-1)=sa+k+(na-k)-1 by omega];exact g1 (m-1) (by omega)
 refine yK (λ_=>?_) λ_=>?_;·exact _h (z7c V (a:=(arrOf st).extract (sa+k) sb) (b:=(arrOf st).extract sb (sb+m)) B1.kind Px Py sx sy (by omega) (by omega) fst_ lst_ fin)
 ·exact _h (z6z V (a:=(arrOf st).extract (sa+k) sb) (b:=(arrOf st).extract sb (sb+m)) B1.kind Px Py sx sy (by omega) (by omega) fst_ lst_ fin)
end
noncomputable def zgZ(lo a nrem:Nat):StateT SortSt Sem (Option (Option Nat)×Nat):= forIn [a:nrem] ((none,a):Option (Option Nat)×Nat) λ_ c=>do match <- ltAt' (lo+c.2) (lo+c.2-1) with
  | some less=>if less=true then pure (.done (none,c.2)) else pure (.yield (none,c.2+1)) | _=>pure (.done (some none,c.2))
noncomputable def zgE(lo n nrem:Nat):StateT SortSt Sem (Option (Option Nat)×Nat×Nat):= forIn [n:nrem] ((none,n,0):Option (Option Nat)×Nat×Nat) λ_ c=>do match <- ltAt' (lo+c.2.1) (lo+c.2.1-1) with
  | some less=>
   if less=true then
    if c.2.2 > 0 then do
     reverseSlice' (lo+c.2.1-(c.2.2+1)) (lo+c.2.1)
     pure (.yield (none,c.2.1+1,0)) else pure (.yield (none,c.2.1+1,0)) else do match <- ltAt' (lo+c.2.1-1) (lo+c.2.1) with
    | some more=>if more=true then pure (.done (none,c.2.1,c.2.2)) else pure (.yield (none,c.2.1+1,c.2.2+1)) | _=>pure (.done (some none,c.2.1,c.2.2))
  | _=>pure (.done (some none,c.2.1,c.2.2))
section
variable {rk:Keyed->Nat}{a:Array Keyed}
theorem ji{i j:Nat}(hj:j<=a.size)(k:Nat):at_ (mirror a i j ((j-i) / 2)) k=if i<=k/\k<j then at_ a (i+j-1-k) else at_ a k:=by
 simp only[at_,_aX];rw[getElem?_mirror_all hj];split<;>rfl
theorem jS{i j:Nat}(hj:j<=a.size)(he:∀k,i<=k->k<j->rk (at_ a k)=rk (at_ a (j-1)))(k:Nat):rk (at_ (mirror a i j ((j-i) / 2)) k)=rk (at_ a k):=by
 rw[ji hj];split;·rw[he _ (by omega) (by omega),he k (by omega) (by omega)]
 ·rfl
def Dsc(rk:Keyed->Nat)(a:Array Keyed)(lo hi:Nat):Prop:=∀i j,lo<=i->i<=j->j<hi->rk (at_ a j)<=rk (at_ a i)
theorem Dsc.more{lo x:Nat}(h:Dsc rk a lo (lo+x))(hx:1<=x)(e:rk (at_ a (lo+x))<=rk (at_ a (lo+x-1))):Dsc rk a lo (lo+(x+1)):=λi j hi hij hj=>by
 by_cases q:j<lo+x;·exact h i j hi hij q
 ·have:j=lo+x:=by omega
  subst this;by_cases q2:i=lo+x;·rw[q2];exact _d _
  ·have:=h i (lo+x-1) hi (by omega) (by omega);omega
theorem wG.more{lo x:Nat}(h:wG rk a lo (lo+x))(hx:1<=x)(e:rk (at_ a (lo+x-1))<=rk (at_ a (lo+x))):wG rk a lo (lo+(x+1)):=λi j hi hij hj=>by
 by_cases q:j<lo+x;·exact h i j hi hij q
 ·have:j=lo+x:=by omega
  subst this;by_cases q2:i=lo+x;·rw[q2];exact _d _
  ·have:=h i (lo+x-1) hi (by omega) (by omega);omega
end
section
variable {prog:Program}{w:World}{A:Around}{E:Value->Shared->Prop}{s:Shared}{κ:SortKind}{a₀:Array Keyed}{rk:Keyed->Nat}(V:Env prog w A s κ (· ∈ a₀.toList) rk) {st:SortSt}{lo nrem:Nat}
theorem SB.set(h:SB κ a₀ st){xs:Array Keyed}(hp:xs.Perm (arrOf st)):SB κ a₀ (setArr st xs):=⟨hp.trans h.perm,h.kind,h.failed⟩
theorem kP{i j:Nat}{Q:Unit->SortSt->Prop}(h:Q () (setArr st (mirror (arrOf st) i j ((j-i) / 2)))):wpS (model prog w) A E s (reverseSlice' i j) Q st:=by rw[reverseSlice'_eq];exact _aL h
def z2a(lo:Nat)(st st':SortSt):Prop:=(∀i,i<lo->at_ (arrOf st') i=at_ (arrOf st) i)/\pendingOf st'=pendingOf st
theorem z2a.refl:z2a lo st st:=⟨λ_ _=>rfl,rfl⟩
theorem z2a.mir{st':SortSt}(h:z2a lo st st'){i j:Nat}(hi:lo<=i)(hj:j<=(arrOf st').size):z2a lo st (setArr st' (mirror (arrOf st') i j ((j-i) / 2))):= ⟨λk hk=>by rw[show arrOf (setArr st' (mirror (arrOf st') i j ((j-i) / 2)))=mirror (arrOf st') i j ((j-i) / 2) from rfl,ji hj,_l (by omega)];exact h.1 k hk,h.2⟩
include V
theorem z0O{i j:Nat}{Q:Option Bool->SortSt->Prop}(B:SB κ a₀ st)(hi:i<a₀.size)(hj:j<a₀.size)(h:Q (some (decide (rk (at_ (arrOf st) i)<rk (at_ (arrOf st) j)))) st):wpS (model prog w) A E s (ltAt' i j) Q st:=by
 have sz:=B.size;rw[ltAt'_eq];refine _h (_b3 ?_);exact _h (yk (arr:=arrOf st) (by omega) (_h (yk (arr:=arrOf st) (by omega) (z8C V B.kind (B.mem _ (by omega)) (B.mem _ (by omega)) h))))
theorem z4A{a:Nat}{Q:Option (Option Nat)×Nat->SortSt->Prop}(hn:lo+nrem<=a₀.size)(ha:1<=a)(han:a<=nrem)(B:SB κ a₀ st)(hs:wG rk (arrOf st) lo (lo+a)) (h:∀n,a<=n->n<=nrem->wG rk (arrOf st) lo (lo+n)->(n=nrem\/rk (at_ (arrOf st) (lo+n))<rk (at_ (arrOf st) (lo+n-1)))->Q (none,n) st):wpS (model prog w) A E s (zgZ lo a nrem) Q st:=by
 unfold zgZ;refine _av (I:=λx c st'=>st'=st/\c=(none,x)/\wG rk (arrOf st) lo (lo+x)) ?_ ?_ ⟨rfl,rfl,hs⟩
 ·rintro x c st' h1 h2 ⟨rfl,rfl,hs'⟩;refine _h (z0O V B (by omega) (by omega) ?_);refine yK (λq=>?_) λq=>?_;·exact _m (h x h1 (by omega) hs' (.inr (by simpa using q)))
  ·simp only[_p]at q;exact _m ⟨rfl,rfl,hs'.more (by omega) (by omega)⟩
 ·rintro c st' ⟨rfl,rfl,hs'⟩;rw[show max a nrem=nrem by omega]at hs' ⊢;exact h nrem han (_d _) hs' (.inl rfl)
theorem zaZ{n:Nat}{Q:Option (Option Nat)×Nat×Nat->SortSt->Prop}{st0:SortSt}(hn:lo+nrem<=a₀.size)(ha:1<=n)(han:n<=nrem)(B:SB κ a₀ st)(kp:z2a lo st0 st)(hs:Dsc rk (arrOf st) lo (lo+n)) (h:∀m q st',SB κ a₀ st'->z2a lo st0 st'->n<=m->m<=nrem->Dsc rk (arrOf st') lo (lo+m)->q+1<=m->(∀i,lo+m-(q+1)<=i->i<lo+m->rk (at_ (arrOf st') i)=rk (at_ (arrOf st') (lo+m-1)))->Q (none,m,q) st'):wpS (model prog w) A E s (zgE lo n nrem) Q st:=by
 unfold zgE;refine _av (I:=λx c st'=>∃q,c=(none,x,q)/\SB κ a₀ st'/\z2a lo st0 st'/\Dsc rk (arrOf st') lo (lo+x)/\q+1<=x/\∀i,lo+x-(q+1)<=i->i<lo+x->rk (at_ (arrOf st') i)=rk (at_ (arrOf st') (lo+x-1))) ?_ ?_ ⟨0,rfl,B,kp,hs,by omega,λi h1 h2=>by congr 2;omega⟩
 ·rintro x c st' h1 h2 ⟨q,rfl,B',kp',ds,qx,eq⟩;have sz:=B'.size;dsimp only;refine _h (z0O V B' (by omega) (by omega) ?_);dsimp only;refine yK (λc1=>?_) λc1=>?_
  ·simp only[_p]at c1;refine yK (λc2=>?_) λc2=>?_
   ·have me:∀k,rk (at_ (mirror (arrOf st') (lo+x-(q+1)) (lo+x) ((lo+x-(lo+x-(q+1))) / 2)) k)=rk (at_ (arrOf st') k):=jS (by omega) eq;refine _h (kP (_m ⟨0,rfl,B'.set (_bC _ _ _ _),kp'.mir (by omega) (by omega),Dsc.more (λi j hi hij hj=>?_) (by omega) ?_,by omega,λi h1 h2=>by congr 2;omega⟩))
    ·show rk (at_ (mirror _ _ _ _) j)<=rk (at_ (mirror _ _ _ _) i);rw[me,me];exact ds i j hi hij hj
    ·show rk (at_ (mirror _ _ _ _) _)<=rk (at_ (mirror _ _ _ _) _);rw[me,me];omega
   ·exact _m ⟨0,rfl,B',kp',ds.more (by omega) (by omega),by omega,λi h1 h2=>by congr 2;omega⟩
  ·simp only[_p]at c1;refine _h (z0O V B' (by omega) (by omega) ?_);dsimp only;refine yK (λc2=>?_) λc2=>?_;·exact _m (h x q st' B' kp' h1 (by omega) ds qx eq)
   ·simp only[_p]at c2;have e0:rk (at_ (arrOf st') (lo+x))=rk (at_ (arrOf st') (lo+x-1)):=by omega
    refine _m ⟨q+1,rfl,B',kp',ds.more (by omega) (by omega),by omega,λi h1 h2=>?_⟩;rw[show lo+(x+1)-1=lo+x by omega];by_cases z:i=lo+x;·rw[z]
    ·rw[e0];exact eq i (by omega) (by omega)
 ·rintro c st' ⟨q,rfl,B',kp',ds,qx,eq⟩;rw[show max n nrem=nrem by omega]at ds qx eq ⊢;exact h nrem q st' B' kp' han (_d _) ds qx eq
theorem z9C {Q:Option Nat->SortSt->Prop} (hn:lo+nrem<=a₀.size) (h1:1<=nrem) (B:SB κ a₀ st) (h:∀m st',SB κ a₀ st'->z2a lo st st'->1<=m->m<=nrem->wG rk (arrOf st') lo (lo+m)->Q (some m) st'):wpS (model prog w) A E s (countRun' lo nrem) Q st:=by
 have sz:=B.size;refine _h (z4A V hn (_d 1) h1 B (λi j hi hij hj=>by rw[show i=j by omega];exact _d _) λn n1 n2 sn or=>?_);dsimp only;by_cases e:n=nrem
 ·rw[_g (by simpa using e)];exact _m (h n st B .refl n1 n2 sn)
 rw[_l (by simpa using e)];have lt:=or.resolve_left e;refine yK (λc=>?_) λc=>?_
 ·refine _h (z0O V B (by omega) (by omega) ?_);dsimp only;refine yK (λc2=>?_) λc2=>?_;·exact _m (h n st B .refl n1 n2 sn)
  ·simp only[_p]at c2;have all:∀k,lo<=k->k<lo+n->rk (at_ (arrOf st) k)=rk (at_ (arrOf st) (lo+n-1)):=λk z1 z2=>by
    have a1:=sn lo k (_d _) z1 z2;have a2:=sn k (lo+n-1) z1 (by omega) (by omega);omega
   refine _h (kP ?_);have B1:=SB.set B (_bC _ lo (lo+n) ((lo+n-lo) / 2));have k1:=z2a.mir (z2a.refl (lo:=lo) (st:=st)) (i:=lo) (j:=lo+n) (_d _) (by omega);have d1:Dsc rk (arrOf (setArr st (mirror (arrOf st) lo (lo+n) ((lo+n-lo) / 2)))) lo (lo+(n+1)):=by
    refine Dsc.more (λi j hi hij hj=>?_) n1 ?_
    ·show rk (at_ (mirror _ _ _ _) j)<=rk (at_ (mirror _ _ _ _) i);rw[jS (rk:=rk) (by omega) all,jS (rk:=rk) (by omega) all,all i hi (by omega),all j (by omega) hj];exact _d _
    ·show rk (at_ (mirror _ _ _ _) _)<=rk (at_ (mirror _ _ _ _) _);rw[jS (rk:=rk) (by omega) all,jS (rk:=rk) (by omega) all];omega
   refine _h (_cI (_aw ⟨rfl,?_⟩));refine _h (zaZ V hn (by omega) (by omega) B1 k1 d1 λm q st2 B2 k2 m1 m2 ds2 q1 eq=>?_);have sz2:=B2.size;dsimp only;refine yK (λc=>?_) λc=>?_
   ·refine _h (kP ?_);have Bm:=SB.set B2 (_bC _ (lo+m-(q+1)) (lo+m) ((lo+m-(lo+m-(q+1))) / 2));have km:=z2a.mir k2 (i:=lo+m-(q+1)) (j:=lo+m) (by omega) (by omega);have dm:Dsc rk (mirror (arrOf st2) (lo+m-(q+1)) (lo+m) ((lo+m-(lo+m-(q+1))) / 2)) lo (lo+m):=λi j hi hij hj=>by
     rw[jS (rk:=rk) (by omega) eq,jS (rk:=rk) (by omega) eq];exact ds2 i j hi hij hj
    generalize mirror (arrOf st2) (lo+m-(q+1)) (lo+m) ((lo+m-(lo+m-(q+1))) / 2)=am at Bm km dm;have szm:(arrOf (setArr st2 am)).size=a₀.size:=Bm.size;refine _h (kP ?_);have B3:=SB.set Bm (_bC _ lo (lo+m) ((lo+m-lo) / 2));have k3:=z2a.mir km (i:=lo) (j:=lo+m) (_d _) (by omega);refine _h (z4A V hn (by omega) m2 B3 (λi j hi hij hj=>?_) λm' m1' m2' sm _=>_m (h m' _ B3 k3 (by omega) m2' sm));show rk (at_ (mirror _ _ _ _) i)<=rk (at_ (mirror _ _ _ _) j);rw[ji (by omega),ji (by omega),_g (by omega),_g (by omega)];exact dm _ _ (by omega) (by omega) (by omega)
   ·refine _h (kP ?_);have B3:=SB.set B2 (_bC _ lo (lo+m) ((lo+m-lo) / 2));have k3:=z2a.mir k2 (i:=lo) (j:=lo+m) (_d _) (by omega);refine _h (z4A V hn (by omega) m2 B3 (λi j hi hij hj=>?_) λm' m1' m2' sm _=>_m (h m' _ B3 k3 (by omega) m2' sm));show rk (at_ (mirror _ _ _ _) i)<=rk (at_ (mirror _ _ _ _) j);rw[ji (by omega),ji (by omega),_g (by omega),_g (by omega)];exact ds2 _ _ (by omega) (by omega) (by omega)
 ·have n1':n=1:=by omega
  subst n1';have B1:=B;have k1:=z2a.refl (lo:=lo) (st:=st);have d1:Dsc rk (arrOf st) lo (lo+(1+1)):=Dsc.more (λi j hi hij hj=>by rw[show i=j by omega];exact _d _) (_d _) (by omega);refine _h (_cI (_aw ⟨rfl,?_⟩));refine _h (zaZ V hn (by omega) (by omega) B1 k1 d1 λm q st2 B2 k2 m1 m2 ds2 q1 eq=>?_);have sz2:=B2.size;dsimp only;refine yK (λc=>?_) λc=>?_
  ·refine _h (kP ?_);have Bm:=SB.set B2 (_bC _ (lo+m-(q+1)) (lo+m) ((lo+m-(lo+m-(q+1))) / 2));have km:=z2a.mir k2 (i:=lo+m-(q+1)) (j:=lo+m) (by omega) (by omega);have dm:Dsc rk (mirror (arrOf st2) (lo+m-(q+1)) (lo+m) ((lo+m-(lo+m-(q+1))) / 2)) lo (lo+m):=λi j hi hij hj=>by
    rw[jS (rk:=rk) (by omega) eq,jS (rk:=rk) (by omega) eq];exact ds2 i j hi hij hj
   generalize mirror (arrOf st2) (lo+m-(q+1)) (lo+m) ((lo+m-(lo+m-(q+1))) / 2)=am at Bm km dm;have szm:(arrOf (setArr st2 am)).size=a₀.size:=Bm.size;refine _h (kP ?_);have B3:=SB.set Bm (_bC _ lo (lo+m) ((lo+m-lo) / 2));have k3:=z2a.mir km (i:=lo) (j:=lo+m) (_d _) (by omega);refine _h (z4A V hn (by omega) m2 B3 (λi j hi hij hj=>?_) λm' m1' m2' sm _=>_m (h m' _ B3 k3 (by omega) m2' sm));show rk (at_ (mirror _ _ _ _) i)<=rk (at_ (mirror _ _ _ _) j);rw[ji (by omega),ji (by omega),_g (by omega),_g (by omega)];exact dm _ _ (by omega) (by omega) (by omega)
  ·refine _h (kP ?_);have B3:=SB.set B2 (_bC _ lo (lo+m) ((lo+m-lo) / 2));have k3:=z2a.mir k2 (i:=lo) (j:=lo+m) (_d _) (by omega);refine _h (z4A V hn (by omega) m2 B3 (λi j hi hij hj=>?_) λm' m1' m2' sm _=>_m (h m' _ B3 k3 (by omega) m2' sm));show rk (at_ (mirror _ _ _ _) i)<=rk (at_ (mirror _ _ _ _) j);rw[ji (by omega),ji (by omega),_g (by omega),_g (by omega)];exact ds2 _ _ (by omega) (by omega) (by omega)
end
theorem zcM(c:Prop) [Decidable c](x:Nat):(if c then x-1 else x)<=x:=by split<;>omega
abbrev Run:=Nat×Nat×Nat
section
variable {rk:Keyed->Nat}{a b:Array Keyed}
theorem zeW{src d:Nat}(hs:src<a.size)(hd:d<=src)(k:Nat):at_ (bubble a src d) k=if k=src-d then at_ a src else if src-d<k/\k<=src then at_ a (k-1) else at_ a k:=by
 simp only[at_,_aX];rw[getElem?_bubble hs d hd];split;·rfl
 ·split<;>rfl
noncomputable def Chain(rk:Keyed->Nat)(a:Array Keyed):List Run->Nat->Nat->Prop
 | [],lo,hi=>lo=hi | (x,n,_)::t,lo,hi=>x=lo/\1<=n/\wG rk a x (x+n)/\Chain rk a t (x+n) hi
theorem Chain.len:∀{l:List Run}{lo hi:Nat},Chain rk a l lo hi->l.length+lo<=hi
 | [],_,_,h=>by simp only[Chain]at h;simp[h] | (x,n,_)::t,lo,hi,⟨h1,h2,_,h4⟩=>by have:=h4.len;simp only[_c];omega
theorem Chain.same:∀{l:List Run}{lo hi:Nat},(∀i,lo<=i->i<hi->at_ b i=at_ a i)->Chain rk a l lo hi->Chain rk b l lo hi
 | [],_,_,_,h=>h | (x,n,_)::t,lo,hi,e,⟨h1,h2,h3,h4⟩=>by
  have:=h4.len;exact⟨h1,h2,λi j hi hij hj=>by rw[e i (by omega) (by omega),e j (by omega) (by omega)];exact h3 i j hi hij hj,h4.same λi i1 i2=>e i (by omega) i2⟩
theorem Chain.push{n p lo:Nat}:∀{l:List Run}{st:Nat},Chain rk a l st lo->1<=n->wG rk a lo (lo+n)->Chain rk a (l++[(lo,n,p)]) st (lo+n)
 | [],st,h,h1,h2=>by
  have e:st=lo:=h;exact⟨e.symm,h1,h2,rfl⟩ | (x,m,_)::t,st,⟨g1,g2,g3,g4⟩,h1,h2=>⟨g1,g2,g3,g4.push h1 h2⟩
theorem Chain.modify{f:Run->Run}(hf:∀x,(f x).1=x.1/\(f x).2.1=x.2.1):∀{l:List Run}{k lo hi:Nat},Chain rk a l lo hi->Chain rk a (l.modify k f) lo hi
 | [],k,lo,hi,h=>by cases k<;>exact h | x::t,0,lo,hi,h=>by
  have e:=hf x;show Chain rk a (f x::t) lo hi;generalize f x=y at e;obtain⟨x1,x2,x3⟩:=x;obtain⟨y1,y2,y3⟩:=y;obtain⟨rfl,rfl⟩:=e;exact h | (x,n,p)::t,k+1,lo,hi,⟨g1,g2,g3,g4⟩=>⟨g1,g2,g3,g4.modify hf⟩
theorem Chain.two{sa na p sb nb p' hi:Nat}:∀{l:List Run}{i lo:Nat},Chain rk a l lo hi->l[i]? = some (sa,na,p)->l[i+1]? = some (sb,nb,p')->lo<=sa/\sb=sa+na/\1<=na/\1<=nb/\sb+nb<=hi/\wG rk a sa (sa+na)/\wG rk a sb (sb+nb)
 | x::[],i,lo,h,e1,e2=>by simp at e2 | x::y::t,0,lo,h,e1,e2=>by
  simp only[_K,_E]at e1;simp only[_J,_K,_E]at e2;subst e1 e2;obtain⟨g1,g2,g3,h1,h2,h3,h4⟩:=h;have:=h4.len;exact⟨by omega,by omega,g2,h2,by omega,g3,h3⟩ | (x,n,p)::y::t,i+1,lo,⟨g1,g2,g3,g4⟩,e1,e2=>by
  simp only[_J]at e1 e2;have:=g4.two (i:=i) e1 (by simpa using e2);exact⟨by omega,this.2⟩
theorem Chain.merge{sa na p sb nb p' hi:Nat}(S:zgX a b sa (sa+(na+nb)))(s:wG rk b sa (sa+(na+nb))):∀{l:List Run}{i lo:Nat},Chain rk a l lo hi->l[i]? = some (sa,na,p)->l[i+1]? = some (sb,nb,p')->Chain rk b ((l.set i (sa,na+nb,p)).eraseIdx (i+1)) lo hi
 | x::[],i,lo,h,e1,e2=>by simp at e2 | x::y::t,0,lo,h,e1,e2=>by
  simp only[_K,_E]at e1;simp only[_J,_K,_E]at e2;subst e1 e2;obtain⟨g1,g2,g3,h1,h2,h3,h4⟩:=h;show Chain rk b ((sa,na+nb,p)::t) lo hi;refine⟨g1,by omega,s,?_⟩;have h4':Chain rk a t (sa+(na+nb)) hi:=by rw[show sa+(na+nb)=sb+nb by omega];exact h4
  exact h4'.same λi i1 i2=>S i (.inr i1) | (x,n,q)::y::t,i+1,lo,⟨g1,g2,g3,g4⟩,e1,e2=>by
  simp only[_J]at e1 e2;have e2':(y::t)[i+1]? = some (sb,nb,p'):=by simpa using e2
  have tw:=g4.two e1 e2';show Chain rk b ((x,n,q)::(((y::t).set i (sa,na+nb,p)).eraseIdx (i+1))) lo hi;exact⟨g1,g2,λi j hi hij hj=>by rw[S i (by omega),S j (by omega)];exact g3 i j hi hij hj,g4.merge S s e1 e2'⟩
end
section
variable {prog:Program}{w:World}{A:Around}{E:Value->Shared->Prop}{s:Shared}{κ:SortKind}{a₀:Array Keyed}{rk:Keyed->Nat}(V:Env prog w A s κ (· ∈ a₀.toList) rk) {st:SortSt}{lo nrem:Nat}
include V
theorem zeC{n ok:Nat}{Q:Bool->SortSt->Prop}(hn:lo+n<=a₀.size)(hok:ok<=n)(B:SB κ a₀ st)(hs:wG rk (arrOf st) lo (lo+ok))(h:∀st',SB κ a₀ st'->z2a lo st st'->wG rk (arrOf st') lo (lo+n)->Q true st'):wpS (model prog w) A E s (binarySort' lo n ok) Q st:=by
 refine _h (_bA (_av (I:=λk c st'=>c=(none,())/\SB κ a₀ st'/\z2a lo st st'/\wG rk (arrOf st') lo (lo+min k n)) (Q:=λc st'=>c=(none,())/\SB κ a₀ st'/\z2a lo st st'/\wG rk (arrOf st') lo (lo+n)) ?_ ?_ ?_) ?_)
 ·rintro k c st1 h1 h2 ⟨rfl,B1,k1,s1⟩;have sz:=B1.size;rw[show min k n=k by omega]at s1;refine _h (_bA (_av (I:=λx c st2=>st2=st1/\∃l r,c=(none,l,r)/\l<=r/\r<=k/\r-l<=k-x/\(∀i,lo<=i->i<lo+l->rk (at_ (arrOf st1) i)<=rk (at_ (arrOf st1) (lo+k)))/\(∀i,lo+r<=i->i<lo+k->rk (at_ (arrOf st1) (lo+k))<rk (at_ (arrOf st1) i))) (Q:=λc st2=>st2=st1/\∃l r,c=(none,l,r)/\l<=k/\(∀i,lo<=i->i<lo+l->rk (at_ (arrOf st1) i)<=rk (at_ (arrOf st1) (lo+k)))/\(∀i,lo+l<=i->i<lo+k->rk (at_ (arrOf st1) (lo+k))<rk (at_ (arrOf st1) i))) ?_ ?_ ⟨rfl,0,k,rfl,by omega,by omega,by omega,λi _ hi=>by omega,λi h1 h2=>by omega⟩) ?_)
  ·rintro x c st2 _ hx ⟨rfl,l,r,rfl,c1,c2,c3,c4,c5⟩;dsimp only;refine yK (λq=>?_) λq=>?_
   ·have:l=r:=by omega
    subst this;exact _m ⟨rfl,l,l,rfl,c2,c4,c5⟩
   ·refine _h (z0O V B1 (by omega) (by omega) ?_);dsimp only;refine yK (λq2=>?_) λq2=>?_
    ·simp only[_p]at q2;refine _m ⟨rfl,l,(l+r) / 2,rfl,by omega,by omega,by omega,c4,λi i1 i2=>?_⟩;have:=s1 (lo+(l+r) / 2) i (by omega) i1 i2;omega
    ·simp only[_p]at q2;refine _m ⟨rfl,(l+r) / 2+1,r,rfl,by omega,by omega,by omega,λi i0 i1=>?_,c5⟩;have:=s1 i (lo+(l+r) / 2) i0 (by omega) (by omega);omega
  ·rintro c st2 ⟨rfl,l,r,rfl,c1,c2,c3,c4,c5⟩;have:l=r:=by omega
   subst this;exact⟨rfl,l,l,rfl,c2,c4,c5⟩
  ·rintro c st2 ⟨rfl,l,r,rfl,c2,c4,c5⟩;have ab:∀i,at_ (bubble (arrOf st2) (lo+k) (lo+k-(lo+l))) i=if i=lo+l then at_ (arrOf st2) (lo+k) else if lo+l<i/\i<=lo+k then at_ (arrOf st2) (i-1) else at_ (arrOf st2) i:=λi=>by rw[zeW (by omega) (by omega),show lo+k-(lo+k-(lo+l))=lo+l by omega]
   refine _h (_aL (_m ⟨rfl,B1.set (bubble_perm _ _ _),⟨λi hi=>?_,k1.2⟩,?_⟩))
   ·show at_ (bubble (arrOf st2) (lo+k) (lo+k-(lo+l))) i=_;rw[ab,_l (by omega),_l (by omega)];exact k1.1 i hi
   ·rw[show min (k+1) n=k+1 by omega];intro i j i1 i2 i3;show rk (at_ (bubble (arrOf st2) (lo+k) (lo+k-(lo+l))) i)<=rk (at_ (bubble (arrOf st2) (lo+k) (lo+k-(lo+l))) j);rw[ab,ab];repeat' split
    all_goals first
     | (exfalso;omega) | exact _d _ | exact c4 _ (by omega) (by omega) | exact _ap (c5 _ (by omega) (by omega)) | exact s1 _ _ (by omega) (by omega) (by omega)
 ·rintro c st1 ⟨hc,B1,k1,s1⟩;rw[show min (max (max ok 1) n) n=n by omega]at s1;exact⟨hc,B1,k1,s1⟩
 ·refine⟨rfl,B,.refl,λi j i1 i2 i3=>?_⟩;by_cases z:ok=0;·rw[show i=j by omega];exact _d _
  ·exact hs i j i1 i2 (by omega)
 ·rintro c st1 ⟨rfl,B1,k1,s1⟩;exact _m (h st1 B1 k1 s1)
theorem z0V{i hi:Nat}{Q:Bool->SortSt->Prop}(B:SB κ a₀ st)(c:Chain rk (arrOf st) (pendingOf st).toList 0 hi)(hz:hi<=a₀.size)(hi':i+1<(pendingOf st).size) (h:∀st',SB κ a₀ st'->Chain rk (arrOf st') (pendingOf st').toList 0 hi->(pendingOf st').size+1=(pendingOf st).size->(∀i,hi<=i->at_ (arrOf st') i=at_ (arrOf st) i)->Q true st'):wpS (model prog w) A E s (mergeAt' i) Q st:=by
 obtain⟨⟨sa,na,p⟩,e1⟩:∃x,(pendingOf st)[i]? = some x:=⟨_,_dg _ i (by omega)⟩;obtain⟨⟨sb,nb,p'⟩,e2⟩:∃x,(pendingOf st)[i+1]? = some x:=⟨_,_dg _ (i+1) hi'⟩;have l1:(pendingOf st).toList[i]? = some (sa,na,p):=by simpa using e1
 have l2:(pendingOf st).toList[i+1]? = some (sb,nb,p'):=by simpa using e2
 have tw:=c.two l1 l2;refine z6J V B e1 e2 tw.2.1 tw.2.2.1 tw.2.2.2.1 (by omega) tw.2.2.2.2.2.1 tw.2.2.2.2.2.2 λst' B' ep S s'=>h st' B' ?_ ?_ λi hi=>S i (by omega)
 ·rw[ep,_b7,Array.toList_setIfInBounds];exact c.merge S s' l1 l2
 ·have:=_aJ (λa=>a.toList.length) ep;simp only[_b7,Array.toList_setIfInBounds,List.length_eraseIdx,_cm,_V]at this;rw[_g hi']at this;omega
theorem zcc{Q:Unit->SortSt->Prop}(B:SB κ a₀ st)(hp:pendingOf st=#[])(h:∀st',SB κ a₀ st'->wG rk (arrOf st') 0 a₀.size->Q () st'):wpS (model prog w) A E s sortRuns' Q st:=by
 have sz:=B.size;refine _h (_b3 ?_);dsimp only;rw[show (arrOf st).size=a₀.size from sz];refine _h (_bA (_av (I:=λx c st'=>∃lo,c=(none,lo)/\SB κ a₀ st'/\lo<=a₀.size/\min x a₀.size<=lo/\Chain rk (arrOf st') (pendingOf st').toList 0 lo) (Q:=λc st'=>c=(none,a₀.size)/\SB κ a₀ st'/\Chain rk (arrOf st') (pendingOf st').toList 0 a₀.size) ?_ ?_ ⟨0,rfl,B,by omega,by omega,by rw[hp];exact rfl⟩) ?_)
 ·rintro x c st1 _ hx ⟨lo,rfl,B1,l1,l2,ch⟩;dsimp only;refine yK (λq=>?_) λq=>?_
  ·have:lo=a₀.size:=by omega
   subst this;exact _m ⟨rfl,B1,ch⟩
  refine _h (z9C V (by omega) (by omega) B1 λm st2 B2 k2 m1 m2 s2=>?_);dsimp only;have c2:Chain rk (arrOf st2) (pendingOf st2).toList 0 lo:=by
   rw[k2.2];exact ch.same λi _ hi=>k2.1 i hi
  refine yK (λq1=>?_) λq1=>?_
  ·refine _h (_cI (_aw ⟨rfl,?_⟩));refine _h (zeC V (n:=min (a₀.size-lo) _) (by omega) (by omega) B2 s2 λst3 B3 k3 s3=>?_);have n2:=Nat.min_le_left (a₀.size-lo) (minRun' a₀.size a₀.size 0);have n1:1<=min (a₀.size-lo) (minRun' a₀.size a₀.size 0):=by
    have:m<minRun' a₀.size a₀.size 0:=q1;omega
   have c3:Chain rk (arrOf st3) (pendingOf st3).toList 0 lo:=by
    rw[k3.2];exact c2.same λi _ hi=>k3.1 i hi
   rw[_l (by simp)];have en:∃n,n=min (a₀.size-lo) (minRun' a₀.size a₀.size 0):=⟨_,rfl⟩;obtain⟨n,en⟩:=en;rw[<- en]at n1 n2;have s3:wG rk (arrOf st3) lo (lo+n):=by rw[en];exact s3
   show wpS _ _ _ _ (get >>= _) _ _;refine _h (_b3 ?_);cases e:(pendingOf st3).back? with
   | none=>
    dsimp only;refine _h (_aL (_m ⟨lo+n,by first | rfl | (rw[en];rfl),⟨B3.perm,B3.kind,B3.failed⟩,by omega,by omega,?_⟩));show Chain rk (arrOf st3) ((pendingOf st3).push (_,_,0)).toList 0 _;rw[_ah];first | exact c3.push n1 s3 | (rw[en]at n1 s3 ⊢;exact c3.push n1 s3)
   | some y=>
    obtain⟨y1,y2,y3⟩:=y;dsimp only;refine _h (_bA (_av (I:=λx c st'=>c=(none,())/\SB κ a₀ st'/\Chain rk (arrOf st') (pendingOf st').toList 0 lo/\wG rk (arrOf st') lo (lo+n)) (Q:=λc st'=>c=(none,())/\SB κ a₀ st'/\Chain rk (arrOf st') (pendingOf st').toList 0 lo/\wG rk (arrOf st') lo (lo+n)) ?_ (λc st' z=>z) ⟨rfl,B3,c3,s3⟩) ?_)
    ·rintro x' c st4 _ hx' ⟨rfl,B4,c4,s4⟩;refine _h (_b3 ?_);by_cases g:(pendingOf st4).size > 1
     ·rw[_g g];obtain⟨⟨z1,z2,z3⟩,ez⟩:∃x,(pendingOf st4)[(pendingOf st4).size-2]? = some x:=⟨_,_dg _ _ (by omega)⟩;rw[ez];dsimp only;refine yK (λ_=>_m ⟨rfl,B4,c4,s4⟩) λ_=>?_;refine _h (z0V V (i:=(pendingOf st4).size-2) B4 c4 l1 (by omega) λst5 B5 c5 _ fr=>?_);rw[_l (by simp)];exact _m ⟨rfl,B5,c5,λi j i1 i2 i3=>by rw[fr i i1,fr j (by omega)];exact s4 i j i1 i2 i3⟩
     ·rw[_l g];exact _m ⟨rfl,B4,c4,s4⟩
    ·rintro c st4 ⟨rfl,B4,c4,s4⟩;dsimp only;refine _h (_aL (_h (_aL (_m ⟨lo+n,by first | rfl | (rw[en];rfl),⟨B4.perm,B4.kind,B4.failed⟩,by omega,by omega,?_⟩))));show Chain rk (arrOf st4) (((pendingOf st4).modify _ _).push (_,_,0)).toList 0 _;rw[_ah,Array.toList_modify];first | (refine Chain.push (Chain.modify ?_ c4) n1 s4;exact λx=>⟨rfl,rfl⟩) | (rw[en]at n1 s4 ⊢;refine Chain.push (Chain.modify ?_ c4) n1 s4;exact λx=>⟨rfl,rfl⟩)
  ·have n1:=m1;have n2:=m2;have c3:=c2;have B3:=B2;have s3:=s2;generalize m=n at n1 n2 s3;generalize st2=st3 at B3 c3 s3;refine _h (_b3 ?_);cases e:(pendingOf st3).back? with
   | none=>
    dsimp only;refine _h (_aL (_m ⟨lo+n,by first | rfl | (rw[en];rfl),⟨B3.perm,B3.kind,B3.failed⟩,by omega,by omega,?_⟩));show Chain rk (arrOf st3) ((pendingOf st3).push (_,_,0)).toList 0 _;rw[_ah];first | exact c3.push n1 s3 | (rw[en]at n1 s3 ⊢;exact c3.push n1 s3)
   | some y=>
    obtain⟨y1,y2,y3⟩:=y;dsimp only;refine _h (_bA (_av (I:=λx c st'=>c=(none,())/\SB κ a₀ st'/\Chain rk (arrOf st') (pendingOf st').toList 0 lo/\wG rk (arrOf st') lo (lo+n)) (Q:=λc st'=>c=(none,())/\SB κ a₀ st'/\Chain rk (arrOf st') (pendingOf st').toList 0 lo/\wG rk (arrOf st') lo (lo+n)) ?_ (λc st' z=>z) ⟨rfl,B3,c3,s3⟩) ?_)
    ·rintro x' c st4 _ hx' ⟨rfl,B4,c4,s4⟩;refine _h (_b3 ?_);by_cases g:(pendingOf st4).size > 1
     ·rw[_g g];obtain⟨⟨z1,z2,z3⟩,ez⟩:∃x,(pendingOf st4)[(pendingOf st4).size-2]? = some x:=⟨_,_dg _ _ (by omega)⟩;rw[ez];dsimp only;refine yK (λ_=>_m ⟨rfl,B4,c4,s4⟩) λ_=>?_;refine _h (z0V V (i:=(pendingOf st4).size-2) B4 c4 l1 (by omega) λst5 B5 c5 _ fr=>?_);rw[_l (by simp)];exact _m ⟨rfl,B5,c5,λi j i1 i2 i3=>by rw[fr i i1,fr j (by omega)];exact s4 i j i1 i2 i3⟩
     ·rw[_l g];exact _m ⟨rfl,B4,c4,s4⟩
    ·rintro c st4 ⟨rfl,B4,c4,s4⟩;dsimp only;refine _h (_aL (_h (_aL (_m ⟨lo+n,by first | rfl | (rw[en];rfl),⟨B4.perm,B4.kind,B4.failed⟩,by omega,by omega,?_⟩))));show Chain rk (arrOf st4) (((pendingOf st4).modify _ _).push (_,_,0)).toList 0 _;rw[_ah,Array.toList_modify];first | (refine Chain.push (Chain.modify ?_ c4) n1 s4;exact λx=>⟨rfl,rfl⟩) | (rw[en]at n1 s4 ⊢;refine Chain.push (Chain.modify ?_ c4) n1 s4;exact λx=>⟨rfl,rfl⟩)
 ·rintro c st1 ⟨lo,rfl,B1,l1,l2,ch⟩;have:lo=a₀.size:=by omega
  subst this;exact⟨rfl,B1,ch⟩
 ·rintro c st1 ⟨rfl,B1,ch⟩;dsimp only;refine _h (_bA (_av (I:=λx c st'=>c=(none,())/\SB κ a₀ st'/\Chain rk (arrOf st') (pendingOf st').toList 0 a₀.size/\(pendingOf st').size<=max 1 (a₀.size-x)) (Q:=λc st'=>c=(none,())/\SB κ a₀ st'/\Chain rk (arrOf st') (pendingOf st').toList 0 a₀.size/\(pendingOf st').size<=1) ?_ ?_ ⟨rfl,B1,ch,?_⟩) ?_)
  ·rintro x c st2 _ hx ⟨rfl,B2,c2,l2⟩;refine _h (_b3 ?_);refine yK (λq=>_m ⟨rfl,B2,c2,q⟩) λq=>?_;have q:¬ (pendingOf st2).size<=1:=q;refine _h (z0V V B2 c2 (_d _) ?_ λst3 B3 c3 e3 _=>?_)
   ·refine _bU (Nat.add_le_add_right (show _<=(pendingOf st2).size-2 from ?_) 1) (by omega);exact zcM _ _
   ·rw[_l (by simp)];exact _m ⟨rfl,B3,c3,by omega⟩
  ·rintro c st2 ⟨rfl,B2,c2,l2⟩;exact⟨rfl,B2,c2,by omega⟩
  ·have:=ch.len;simp only[_V]at this;omega
  ·rintro c st2 ⟨rfl,B2,c2,l2⟩;refine _m (h st2 B2 ?_);have l2':(pendingOf st2).toList.length<=1:=by simpa using l2
   generalize (pendingOf st2).toList=l at c2 l2';match l,c2,l2' with
   | [],c2,_=>rw[show 0=a₀.size from c2];exact λi j i1 i2 i3=>by omega | (x,n,p)::[],⟨g1,g2,g3,g4⟩,_=>
    have e:x+n=a₀.size:=g4;rw[e,g1]at g3;exact g3 | _::_::_,_,z=>simp at z
end
end Dt
namespace Dd
open L2 PySem.W Dt
theorem z63{α β:Type}{f:α->β}:∀{ys xs:List β},ys.Perm xs->∀l:List α,l.map f=xs->∃l':List α,l'.Perm l/\l'.map f=ys:=by
 intro ys xs p;induction p with
 | nil=>exact λl e=>⟨l,.refl _,e⟩ | cons x p ih=>
  intro l e;cases l with
  | nil=>simp at e | cons a l=>
   simp only[_U,_cs]at e;obtain⟨l',p',e'⟩:=ih l e.2;exact⟨a::l',p'.cons a,by simp[e',e.1]⟩
 | swap x y l0=>
  intro l e;match l,e with
  | a::b::l,e=>
   simp only[_U,_cs]at e;exact⟨b::a::l,.swap a b l,by simp[e.1,e.2.1,e.2.2]⟩
 | trans p1 p2 ih1 ih2=>
  intro l e;obtain⟨l2,q2,e2⟩:=ih2 l e;obtain⟨l1,q1,e1⟩:=ih1 l2 e2;exact⟨l1,q1.trans q2,e1⟩
theorem z7K{α β:Type}:∀Z:List (α×β),(Z.map Prod.fst).zip (Z.map Prod.fst)=Z.map λz=>(z.1,z.1)
 | []=>rfl | z::Z=>by simp[z7K Z]
structure uz{K:Type}(lt:K->K->Bool):Prop where
 irr:∀a,lt a a=false
 tot:∀a b,a≠b->lt b a=!lt a b
 tr:∀a b c,lt a b=true->lt b c=true->lt a c=true
section
variable {K:Type}{lt:K->K->Bool}(Oo:uz lt)
include Oo
theorem zb8{L:List K}{a b:K}(ha:a∈L):decide (L.countP (λz=>lt z a)<L.countP λz=>lt z b)=lt a b:=by
 have mono:∀{a b:K},lt a b=true->∀L:List K,L.countP (λz=>lt z a)<=L.countP λz=>lt z b:=λ{a b} h L=>List.countP_mono_left λz _ hz=>Oo.tr _ _ _ hz h;cases h:lt a b with
 | true=>
  have:∀L:List K,a∈L->L.countP (λz=>lt z a)<L.countP λz=>lt z b:=by
   intro L;induction L with
   | nil=>intro h;cases h | cons x L ih=>
    intro hm;rw[List.countP_cons,List.countP_cons];rcases _n.mp hm with e | hm
    ·subst e;rw[Oo.irr,h];have:=mono h L;simp;omega
    ·have i:=ih hm;by_cases c:lt x a=true;·rw[_g c,_g (Oo.tr _ _ _ c h)];omega
     ·rw[_l c];omega
  exact _aO (this L ha) | false=>
  refine _N ?_;by_cases e:a=b;·subst e;omega
  ·have:lt b a=true:=by rw[Oo.tot a b e,h];rfl
   have:=mono this L;omega
end
section
variable {prog:Program}{w:World}{A:Around}{E:Value->Shared->Prop}{s:Shared}
open Classical in
def keyOf{K:Type}(d:K)(Z:List (Value×K))(v:Value):K:=if h:∃z∈Z,z.1=v then (choose h).2 else d
theorem keyOf_eq{K:Type}{d:K}{Z:List (Value×K)}(fn:∀x∈Z,∀y∈Z,x.1=y.1->x.2=y.2){z:Value×K}(hz:z∈Z):keyOf d Z z.1=z.2:=by
 have h:∃x∈Z,x.1=z.1:=⟨z,hz,rfl⟩;rw[keyOf,dif_pos h];exact fn _ h.choose_spec.1 _ hz h.choose_spec.2
def z7N(prog:Program)(w:World)(A:Around){K:Type}(lt:K->K->Bool)(κ:SortKind)(Z:List (Value×K))(s:Shared):Prop:= (∀(Q:SortKind->Shared->Prop)(E:Value->Shared->Prop),0<Z.length->Q κ s->wpAny (model prog w) A (keyKind' (Z.map Prod.fst).toArray) Q E s)/\ ∀x∈Z,∀y∈Z,∀(C:Bool->Shared->Prop)(E:Value->Shared->Prop),C (lt x.2 y.2) s->wpAny (model prog w) A (keyLt' κ x.1 y.1) C E s
theorem z77 {K:Type} {lt:K->K->Bool} (Oo:uz lt) (d:K) {κ:SortKind} {Z:List (Value×K)} (fn:∀x∈Z,∀y∈Z,x.1=y.1->x.2=y.2) {a:Addr} {n:Nat} {P:PySem.Fin->Shared->Prop} (ho:s.heap.get? a=some (seqObj "list" (Z.map Prod.fst).toArray n)) (hp:∀s':Shared,(∀b o,b≠a->s.heap.get? b=some o->s'.heap.get? b=some o)->z7N prog w A lt κ Z s') (hline:Z.length<=sizeLine) (h:∀Z':List (Value×K),Z'.Perm Z->(Z'.map Prod.snd).Pairwise (λa b=>lt b a=false)->P (.done (.ret .none)) {s with heap:=sortedHeap s.heap a (Z.map Prod.fst) (Z'.map Prod.fst).toArray}):wpAny (model prog w) A (Builtin.«list.sort» ⟨[.ref a],[]⟩) P E s:=by
 have ha:a<s.heap.objs.size:=_o ho;have hv:(Z.map Prod.fst).length=Z.length:=_x _;generalize hvs:Z.map Prod.fst=vs at *;obtain⟨e1,g1⟩:∃e1,(s.heap.update a (Obj.mapSeq λ_=>(#[]:Array Value))).get? a=some (seqObj "list" #[] e1):=⟨_,get?_update_seq ho λ_=>#[]⟩;have g2:(((s.heap.update a (Obj.mapSeq λ_=>(#[]:Array Value))).push (seqObj "tuple" vs.toArray 0)).push (seqObj "list" #[] 0)).get? a=some (seqObj "list" #[] e1):=_e _ (_e _ g1);have ok:=hp {s with heap:=((s.heap.update a (Obj.mapSeq λ_=>(#[]:Array Value))).push (seqObj "tuple" vs.toArray 0)).push (seqObj "list" #[] 0)} λb o hb e=> _e _ (_e _ (((_cw s.heap a (Obj.mapSeq λ_=>(#[]:Array Value))).2 b hb).trans e));rw[list_sort_plain];refine _a (listItems_at ho rfl (_a (listUpdate_at ho rfl (_a (seqEpoch_at g1 rfl (_a (wpAny_newTuple (_a (wpAny_newList (_aY ?_) (_aA _))) (by rw[hv];exact hline))))) (by rw[_k,hv];exact hline) (_aA _))));dsimp only;by_cases big:vs.toArray.size<2
 ·rw[_g big,_g big];have small:vs.length<2:=by simpa using big
  refine _a (_j (_a (_j ?_)));dsimp only;have out:(arrOf (SortSt.mk' general' (vs.toArray.zip vs.toArray) #[] 7 none)).map (·.2)=vs.toArray:=by
   show ((vs.toArray.zip vs.toArray).map (·.2))=_;apply Array.ext_getElem?;intro i;by_cases hi:i<vs.length<;>simp[hi]
  rw[out];refine _a (seqEpoch_at g2 rfl (_a (listUpdate_at g2 rfl ?_ (_aA _) (by rw[_k,hv];exact Nat.le_succ_of_le hline))));simp only[bne_self_eq_false,_Q,_an];have h':=h Z (.refl _) (by match Z,hv with
   | [],_=>exact .nil | [x],_=>exact List.pairwise_singleton _ _ | _::_::_,z=>simp at z;omega);rw[hvs]at h';exact _j h'
 ·rw[_l big,_l big];have b2:2<=vs.length:=by simpa using big
  have ok1:=ok.1;rw[hvs]at ok1;refine _a (ok1 _ _ (by omega) ?_);have mz:∀x∈(pairsOf vs).toList,∃z∈Z,x=(z.1,z.1):=λx hx=>by
   rw[pairsOf_toList]at hx;obtain⟨e,hm⟩:=mem_zip_self hx;rw[<- hvs]at hm;obtain⟨z,hz,ez⟩:=_I.mp hm;exact⟨z,hz,Prod.ext ez.symm (by rw[<- e];exact ez.symm)⟩
  have V:Env prog w A {s with heap:=((s.heap.update a (Obj.mapSeq λ_=>(#[]:Array Value))).push (seqObj "tuple" vs.toArray 0)).push (seqObj "list" #[] 0)} κ (· ∈ (pairsOf vs).toList) (λx=>(Z.map Prod.snd).countP λz=>lt z (keyOf d Z x.1)):=⟨λx y hx hy C E hc=>by
   obtain⟨zx,mx,rfl⟩:=mz x hx;obtain⟨zy,my,rfl⟩:=mz y hy;refine ok.2 zx mx zy my C E ?_;simp only[keyOf_eq fn mx,keyOf_eq fn my]at hc;rw[zb8 Oo (List.mem_map_of_mem mx)]at hc;exact hc⟩;refine _a (_t (show wpAny _ _ ((sortRuns').run (SortSt.mk' κ (pairsOf vs) #[] 7 none)) _ _ _ from zcc V (st:=SortSt.mk' κ (pairsOf vs) #[] 7 none) (Q:=λ_ st'=>SB κ (pairsOf vs) st'/\wG (λx=>(Z.map Prod.snd).countP λz=>lt z (keyOf d Z x.1)) (arrOf st') 0 (pairsOf vs).size) ⟨Array.Perm.refl _,rfl,rfl⟩ rfl λst' B sr=>⟨B,sr⟩) ?_ λ_ _ z=>z);rintro⟨⟨⟩,st'⟩ s' ⟨rfl,B,sr⟩;dsimp only at B sr ⊢;have pl:(arrOf st').toList.Perm (vs.zip vs):=by rw[<- pairsOf_toList];exact _bB.mp B.perm
  have zz:(Z.map λz=>(z.1,z.1))=vs.zip vs:=by rw[<- hvs,z7K]
  obtain⟨Z',pz,ez⟩:=z63 pl Z zz;have out:(arrOf st').map (·.2)=(Z'.map Prod.fst).toArray:=by
   apply Array.toList_inj.mp;rw[Array.toList_map,<- ez,_bn];rfl
  have pw:(Z'.map Prod.snd).Pairwise λa b=>lt b a=false:=by
   rw[List.pairwise_iff_getElem];intro i j hi hj hij;have hi':i<Z'.length:=by simpa using hi
   have hj':j<Z'.length:=by simpa using hj
   have sz:(arrOf st').size=Z'.length:=by rw[<- _V,<- ez,_x]
   have az:∀k (hk:k<Z'.length),at_ (arrOf st') k=(Z'[k].1,Z'[k].1):=λk hk=>by
    have:(arrOf st').toList[k]? = some (Z'[k].1,Z'[k].1):=by rw[<- ez,_ag,_q hk];rfl
    have e2:(arrOf st')[k]? = some (Z'[k].1,Z'[k].1):=by simpa using this
    have e3:=z5a (arr:=arrOf st') (i:=k) (by omega);rw[e2]at e3;exact (_z e3).symm
   have r:=sr i j (_aA _) (_ap hij) (by rw[<- B.size];omega);rw[az i hi',az j hj']at r;have mi:Z'[i]∈Z:=pz.mem_iff.mp (_aB _);have mj:Z'[j]∈Z:=pz.mem_iff.mp (_aB _);simp only[keyOf_eq fn mi,keyOf_eq fn mj]at r;rw[List.getElem_map,List.getElem_map,<- zb8 Oo (L:=Z.map Prod.snd) (List.mem_map_of_mem mj)];exact _N (by omega)
  rw[out,B.failed];refine _a (seqEpoch_at g2 rfl (_a (listUpdate_at g2 rfl ?_ (_aA _) (by rw[_k,_x,pz.length_eq];exact Nat.le_succ_of_le hline))));simp only[bne_self_eq_false,_Q,_an];exact _j (h Z' pz pw)
theorem z79 {K:Type} {lt:K->K->Bool} (Oo:uz lt) (d:K) {κ:SortKind} {Z:List (Value×K)} (fn:∀x∈Z,∀y∈Z,x.1=y.1->x.2=y.2) {l:Addr} {Q:Value->Shared->Prop} (hl:s.heap.IsList l (Z.map Prod.fst).toArray) (hp:∀(A':Around) (s':Shared),(∀b o,s.heap.get? b=some o->s'.heap.get? b=some o)->z7N prog w A' lt κ Z s') (hline:Z.length<=sizeLine) (h:∀Z':List (Value×K),Z'.Perm Z->(Z'.map Prod.snd).Pairwise (λa b=>lt b a=false)->Q (.ref (s.heap.objs.size+1)) {s with heap:=sortedAll s.heap (Z.map Prod.fst) (Z'.map Prod.fst).toArray}): wpAny (model prog w) A (call (.builtin "sorted") [.ref l]) Q E s:=by
 have hv:(Z.map Prod.fst).length=Z.length:=_x _;have hline':(Z.map Prod.fst).toArray.size<=sizeLine:=by simpa using hline
 refine Calls.call_function_entry kind_sorted plain_sorted entry_sorted (args_sorted1 _) ?_;unfold Builtin.«sorted»;refine _a (m:=checkCount "sorted" 1 1 _) (_j (_a (collect_list hl (_a (wpAny_newList ?_ hline')) hline')));have sz:((s.heap.push (seqObj "list" #[] 0)).update s.heap.objs.size (Obj.mapSeq (· ++ (Z.map Prod.fst).toArray))).objs.size=s.heap.objs.size+1:=by rw[Heap.size_update,size_push']
 have g:(((s.heap.push (seqObj "list" #[] 0)).update s.heap.objs.size (Obj.mapSeq (· ++ (Z.map Prod.fst).toArray))).push (seqObj "list" (Z.map Prod.fst).toArray 0)).get? (s.heap.objs.size+1)=some (seqObj "list" (Z.map Prod.fst).toArray 0):=by
  rw[<- sz];exact _v _ rfl
 have keep:∀b o,s.heap.get? b=some o->(((s.heap.push (seqObj "list" #[] 0)).update s.heap.objs.size (Obj.mapSeq (· ++ (Z.map Prod.fst).toArray))).push (seqObj "list" (Z.map Prod.fst).toArray 0)).get? b=some o/\b≠s.heap.objs.size+1:=λb o q=>by
  have lt:b<s.heap.objs.size:=_o q;refine⟨?_,_D (_aR lt)⟩;rw[Heap.get?_push_ne _ _ _ (by rw[sz];exact _D (_aR lt)),Heap.get?_update_ne _ _ _ _ (_D lt),Heap.get?_push_ne _ _ _ (_D lt)];exact q
 show wpAny (model prog w) _ _ _ _ {s with heap:=((s.heap.push (seqObj "list" #[] 0)).update s.heap.objs.size (Obj.mapSeq (· ++ (Z.map Prod.fst).toArray))).push (seqObj "list" (Z.map Prod.fst).toArray 0)};rw[sz];exact _a (_aY (_aZ slot_list_sort ⟨_,g,rfl⟩ entry_list_sort (z77 Oo d fn g (λs' k=>hp _ s' λb o q=>k b o (keep b o q).2 (keep b o q).1) hline λZ' pz pw=>⟨_,rfl,_j ⟨_,rfl,h Z' pz pw⟩⟩) (args_list_sort _)))
end
open Pm
theorem zb9{K:Type}{lt:K->K->Bool}(Oo:uz lt):∀{xs ys:List K},xs.Perm ys->xs.Pairwise (λa b=>lt b a=false)->ys.Pairwise (λa b=>lt b a=false)->xs=ys
 | [],ys,p,_,_=>by rw[List.Perm.nil_eq p] | x::xs,[],p,_,_=>by simp at p | x::xs,y::ys,p,h1,h2=>by
  have hx:x∈y::ys:=p.mem_iff.mp (by simp);have hy:y∈x::xs:=p.mem_iff.mpr (by simp);rw[_bV]at h1 h2;have e:x=y:=by
   rcases _n.mp hx with e | hx;·exact e
   ·rcases _n.mp hy with e | hy;·exact e.symm
    ·refine Classical.byContradiction λne=>?_;have a:=h1.1 y hy;have b:=h2.1 x hx;rw[Oo.tot y x λz=>ne z.symm,a]at b;cases b
  subst e;rw[zb9 Oo ((List.perm_cons x).mp p) h1.2 h2.2]
noncomputable def z55{K:Type}(lt:K->K->Bool)(L:List K):List K:=L.mergeSort λa b=>!lt b a
theorem z6r{K:Type}(lt:K->K->Bool)(L:List K):(z55 lt L).Perm L:=List.mergeSort_perm L _
theorem z64{K:Type}{lt:K->K->Bool}(Oo:uz lt){L L':List K}(p:L'.Perm L)(h:L'.Pairwise λa b=>lt b a=false):z55 lt L=L':=by
 refine zb9 Oo ((z6r lt L).trans p.symm) ?_ h;have:=List.pairwise_mergeSort (le:=λa b=>!lt b a) (λa b c h1 h2=>by
  simp only[_aE]at h1 h2 ⊢;by_cases e1:a=b;·rw[e1];exact h2
  by_cases e2:b=c;·rw[<- e2];exact h1
  have q1:lt a b=true:=by rw[Oo.tot b a λz=>e1 z.symm,h1];rfl
  have q2:lt b c=true:=by rw[Oo.tot c b λz=>e2 z.symm,h2];rfl
  have q3:=Oo.tr _ _ _ q1 q2;have ne:a≠c:=λz=>by rw[z,Oo.irr]at q3;cases q3
  rw[Oo.tot a c ne,q3];rfl) (λa b=>by
  by_cases e:a=b;·rw[e,Oo.irr];rfl
  ·rw[Oo.tot a b e];cases lt a b<;>rfl) L;exact this.imp λh=>by simpa using h
theorem z2U:uz lexN:=⟨uH,λ_ _=>z3y,λ_ _ _=>z5i⟩
theorem z2D:∀{vs:List Value}{a b:List Int},vm vs a->vm vs b->a=b
 | _,_,_,.nil,.nil=>rfl | _,_,_,.cons h1,.cons h2=>by rw[z2D h1 h2]
theorem TupAt.one{h:Heap}{v:Value}{p q:List Int}(h1:TupAt h v p)(h2:TupAt h v q):p=q:=by
 obtain⟨a,o,n,us,rfl,g,c,d,i,_⟩:=h1;obtain⟨b,o',n',us',e,g',c',d',i',_⟩:=h2;cases e;rw[g]at g';cases g';rw[d]at d';cases d';exact z2D i i'
theorem z3u:∀{h:Heap}{vs:List Value}{ps:List (List Int)},uZ h vs ps->(vs.zip ps).map Prod.fst=vs/\(vs.zip ps).map Prod.snd=ps/\∀z∈vs.zip ps,TupAt h z.1 z.2
 | _,_,_,.nil=>⟨rfl,rfl,λz hz=>by cases hz⟩ | _,_,_,.cons p r=>by
  obtain⟨h1,h2,h3⟩:=z3u r;refine⟨by simp[h1],by simp[h2],λz hz=>?_⟩;rw[_bS]at hz;rcases _n.mp hz with rfl | hz;·exact p
  ·exact h3 z hz
section
variable {X:Cx}{E:XK}
theorem zcI{prog:Program}{w:World}{A:Around}{s:Shared}{vs:List Value}{ps:List (List Int)}(h:uZ s.heap vs ps):z7N prog w A lexN (tuples' true) (vs.zip ps) s:=by
 obtain⟨h1,h2,h3⟩:=z3u h;refine⟨λQ E h0 q=>?_,λx hx y hy C E hc=>zcb (h3 x hx) (h3 y hy) hc⟩;rw[h1];refine z8b h (by rw[<- h2,_x];exact h0) q
theorem zh3 {H:Hp}:∀{ys:List V} {its:List Value} {ps:List (List Int)},yC ys its->Paired (λv ns=>AtN H v ns) ys ps->∃T:List (V×Value×List Int),T.map (λt=>t.2)=its.zip ps/\∀t∈T,xc t.1 t.2.1/\AtN H t.1 t.2.2
 | _,_,_,.nil,.nil=>⟨[],rfl,λt h=>by cases h⟩ | _,_,_,.cons (a:=y) (b:=v) r rs,.cons (b:=p) a ps=>by
  obtain⟨T,h1,h2⟩:=zh3 rs ps;refine⟨(y,v,p)::T,by simp[h1],λt ht=>?_⟩;rcases _n.mp ht with rfl | ht;·exact⟨r,a⟩
  ·exact h2 t ht
theorem z4M{H:Hp}:∀{T:List (V×Value×List Int)},(∀t∈T,xc t.1 t.2.1/\AtN H t.1 t.2.2)->yC (T.map Prod.fst) (T.map λt=>t.2.1)/\Paired (λv ns=>AtN H v ns) (T.map Prod.fst) (T.map λt=>t.2.2)
 | [],_=>⟨.nil,.nil⟩ | t::T,h=>by
  obtain⟨h1,h2⟩:=z4M (T:=T) λt ht=>h t (.tail _ ht);exact⟨.cons (h t (.head _)).1 h1,.cons (h t (.head _)).2 h2⟩
def zb0(K:W.Frag):List V->Hp->VK->Prop:=λxs H Q=>∃(l:Addr)(ys:List V)(ps:List (List Int)),xs=[.ref l]/\SqL K H l ys/\Paired (λv ns=>AtN H v ns) ys ps/\(∀n∈ps,n≠[])/\ ∀zs,Paired (λv ns=>AtN H v ns) zs (z55 lexN ps)->∀r,H r=none->Q (.ref r) (upd H r (.lst zs))
theorem z6L:xH X (.builtin "sorted") (zb0 X.K):=by
 intro pins s O H xs us Q I r h;obtain⟨l,ys,ps,rfl,hq,hp,hn,q⟩:=h;obtain⟨u,rfl,rx⟩:=vals1 r;cases rx;obtain⟨its,r',pl,hz⟩:=I.list hq;have hlen:=r'.length;have tu:=z8n I r' hp hn;obtain⟨h1,h2,h3⟩:=z3u tu;obtain⟨T,t1,t2⟩:=zh3 r' hp;have lz:(its.zip ps).length=its.length:=by rw[<- _x (f:=Prod.fst) (as:=its.zip ps),h1]
 refine z79 z2U [] (κ:=tuples' true) (Z:=its.zip ps) (λx hx y hy e=>(h3 x hx).one (by rw[e];exact h3 y hy)) (by rw[h1];exact pl.isList) (λA' s' k=>zcI (tu.mono k)) (by omega) λZ' pz pw=>?_;rw[h1];obtain⟨T',pt,et⟩:=z63 (f:=λt:V×Value×List Int=>t.2) pz T t1;have eT1:T'.map (λt=>t.2.1)=Z'.map Prod.fst:=by rw[<- et,_bn];rfl
 have eT2:T'.map (λt=>t.2.2)=Z'.map Prod.snd:=by rw[<- et,_bn];rfl
 obtain⟨b1,b2⟩:=z4M (T:=T') λt ht=>t2 t (pt.mem_iff.mp ht);rw[eT1]at b1;rw[eT2,<- z64 z2U (show (Z'.map Prod.snd).Perm ps from by have:=pz.map Prod.snd;rwa [h2]at this) pw]at b2;obtain⟨c',e⟩:=sortedAll_at s.heap its (Z'.map Prod.fst).toArray;refine⟨.ref (s.heap.objs.size+1),_,I.laid (t':=s.toks) (λb o z=>sortedAll_old z) (Nat.le_succ _) (show xf X.prog X.w _ (sortedAll s.heap its (Z'.map Prod.fst).toArray) _ (.lst (T'.map Prod.fst)) from⟨?_,_,c',b1,e⟩),rfl,q _ b2 _ (I.hok.fresh (Nat.le_succ _))⟩;have l1:T'.length=(its.zip ps).length:=by rw[pt.length_eq,<- _x (f:=λt:V×Value×List Int=>t.2) (as:=T),t1]
 rw[_x,l1,lz];omega
theorem z4l{mg:Gm}{H:Hp}{Y:List Addr}:∀{zs:List V}{ps:List (List Int)},Paired (λv ns=>AtN H v ns) zs ps->zC mg H Y (ps.map λns=>.tup (ns.map D.int)) zs
 | _,_,.nil=>zC.nil | _,_,.cons (b:=p) ⟨b,e,h⟩ r=>by
  simp only[_U,zC];refine⟨_,_,rfl,?_,z4l r⟩;simp only[Den];exact⟨b,_,e,h,qK p⟩
noncomputable def z4q(s:Sto)(d:D):Option (List (List Int)):=match listOf s d with
 | some xs=>match z3D xs with
  | some L=>if L.all (λn=>!n.isEmpty)=true then some (z55 lexN L) else none | none=>none
 | none=>none
noncomputable def zfP:Mir:=λds s=>match ds with
 | [d]=>match z4q s d with | some L=>.ok (.loc s.length) (s++[L.map λns=>.tup (ns.map D.int)]) | none=>.no
 | _=>.no
noncomputable def z6d:Mir:=λds s=>match ds with
 | [d]=>match z4q s d with | some L=>.ok (.lst (L.map λns=>.tup (ns.map D.int))) s | none=>.no
 | _=>.no
theorem z97{H:Hp}{Y:List Addr}{s:Sto}{d:D}{v:V}{L:List (List Int)}{Q:VK}(r:Rep (gm X) H Y s)(dn:Den (gm X) H Y d v)(e:z4q s d=some L)(q:∀vs,zC (gm X) H Y (L.map λns=>.tup (ns.map D.int)) vs->∀a,H a=none->Q (.ref a) (upd H a (.lst vs))):zb0 X.K [v] H Q:=by
 unfold z4q at e;split at e
 ·rename_i xs ex;split at e
  ·rename_i L eL;split at e
   ·rename_i hp;cases e;obtain⟨a,ws,rfl,q1,q2⟩:=zI r ex dn;exact⟨a,ws,L,rfl,.inl q1,z4S eL q2,(λn hn z=>by have:=_aK.mp hp n hn;rw[z]at this;cases this),λzs pz=>q zs (z4l pz)⟩
   ·cases e
  ·cases e
 ·cases e
theorem zbP:∃r,xH X (.builtin "sorted") r/\kL X E r z6d:=⟨_,z6L.freeze,λH Y s ds vs Q r hd h=>by
 unfold z6d at h;split at h
 ·rename_i d;split at h
  ·rename_i L e;obtain⟨v,rfl,dn⟩:=z1V hd;exact z97 r dn e λvs dv=>jg r h dv
  ·exact h.elim
 ·exact h.elim⟩
end
end Dd
namespace Pg
open L2 Dd
@[simp] noncomputable def xA:FS:=(wJ 2 (eOp z6F (ze vM (za (zd 0) zk)) (eC (.int 2))))
@[simp] noncomputable def wW:FS:=(wJ 3 zdU)
@[simp] def zT:FS:=(vg (z6O (zd 3) (ze zM (za (zd 4) (za (eSl (zd 0) yP (uQ (zd 2))) zk))) 4))
@[simp] def xC:FS:=(z8Y (yw (ze zN (za (zd 2) (za (z4V (zd 1)) (za (zd 1) zk))))) (xM 4) zT)
@[simp] noncomputable def xz:FS:=(wJ 5 (zck zk))
@[simp] def zS:FS:=(z8d 5 (zV (yw (z2c (zd 3) (z4V (ze zM (za (zd 6) (za (eSl (zd 0) (uQ (zd 2)) yP) zk)))))) [some 6,none] (xM 1) xT (eOp ud (zd 1) (zd 0))))
@[simp] def xy:FS:=(z8Y (yw (ze zN (za (eOp zbA (ze vM (za (zd 0) zk)) (zd 2)) (za (z4V (zd 1)) (za (zd 1) zk))))) (xM 6) zS)
@[simp] def xD:FS:=(wZ (ze z6d (za (zV (yw (zd 5)) [none] (xM 0) (tOf (eOp dGt (ze yB (za (zd 0) zk)) (eC (.int 0)))) (zd 0)) zk)))
def vJ:FS:=(zW xA (zW wW (zW xC (zW xz (zW xy xD)))))
def zg:Mir:=z5u (Mof ["lot","most","middle","by_sum","first","found","second"] 2 vJ)
@[simp] def js:FS:=(vg (ze vk (za (zd 0) zk)))
@[simp] noncomputable def z28:FS:=fNo
@[simp] noncomputable def jp:FS:=(fIf (tOf (eOp dGt (ze vN (za (zd 0) zk)) (eC (.int 1000)))) z28 vn)
def jJ:FS:=(zW js jp)
def xr:Mir:=Mof ["lot"] 1 jJ
@[simp] def vt:FS:=(vg (ze xw (za (zd 0) zk)))
@[simp] noncomputable def qC:FS:=(fIf (tOf (eOp dGt (ze vN (za (zd 0) zk)) (eC (.int 1000)))) (z4j "TooMany") vn)
def vV:FS:=(zW vt qC)
def zL:Mir:=jE ["lot"] 1 vV
@[simp] def jO:FS:=(vg (ze xr (za (zd 0) zk)))
@[simp] noncomputable def jK:FS:=(wJ 1 (eC (.int 1)))
@[simp] def ve:FS:=(wJ 2 (ze zg (za (zd 0) (za (zd 1) zk))))
@[simp] noncomputable def vb:FS:=(wJ 1 (eOp qq (eC (.int 2)) (zd 1)))
@[simp] def wX:FS:=(wJ 2 (ze zg (za (zd 0) (za (zd 1) zk))))
@[simp] def vh:FS:=(z4y (z26 (ze9 (zd 2))) (zW vb wX))
@[simp] def va:FS:=(wJ 3 (ze jL (za (zV (yw (zd 2)) [none] (xM 0) xT (ze yB (za (zd 0) zk))) zk)))
@[simp] def uW:FS:=(wZ (zV (yw (zd 2)) [some 3,none] (xM 1) (tOf (eOp dEq (ze yB (za (zd 1) zk)) (zd 0))) (zd 1)))
def kT:FS:=(zW jO (zW jK (zW ve (zW vh (zW va uW)))))
def yN:Mir:=Mof ["lot","most","found","least"] 1 kT
@[simp] def jl:FS:=(vg (ze zL (za (zd 0) zk)))
def ki:FS:=(zW jl (zW (uN jK) (zW (uN ve) (zW (uN vh) (zW (uN va) (uN uW))))))
def zQ:Mir:=jE ["lot","most","found","least"] 1 ki
@[simp] def xN:FS:=(vg (ze xr (za (zd 0) zk)))
@[simp] noncomputable def xQ:FS:=(vg (ze xZ (za (zd 1) (za (eC (.int 1)) (za (eC (.int 8)) zk)))))
def xX:FS:=(zW xN xQ)
def zu:Mir:=Mof ["lot","number"] 2 xX
@[simp] def yA:FS:=(vg (ze zL (za (zd 0) zk)))
@[simp] noncomputable def xG:FS:=(vg (ze zK (za (zd 1) (za (eC (.int 1)) (za (eC (.int 8)) zk)))))
def yI:FS:=(zW yA xG)
def zf:Mir:=jE ["lot","number"] 2 yI
@[simp] def uU:FS:=(wJ 1 (ze zg (za (zd 0) (za (ze jL (za (zV (yw (ze yN (za (zd 0) zk))) [none] (xM 0) xT (ze yy (za (zd 0) zk))) zk)) zk))))
@[simp] def vc:FS:=(wJ 2 (ze jL (za (zV (yw (zd 1)) [none] (xM 0) xT (ze yy (za (zd 0) zk))) zk)))
@[simp] def uG:FS:=(wZ (zV (yw (zd 1)) [some 2,none] (xM 1) (tOf (eOp dEq (ze yy (za (zd 1) zk)) (zd 0))) (zd 1)))
def z04:FS:=(zW uU (zW vc uG))
def xK:Mir:=Mof ["lot","found","least"] 1 z04
@[simp] def jh:FS:=(wJ 1 (ze zg (za (zd 0) (za (ze jL (za (zV (yw (ze zQ (za (zd 0) zk))) [none] (xM 0) xT (ze yy (za (zd 0) zk))) zk)) zk))))
def ku:FS:=(zW jh (zW (uN vc) (uN uG)))
def yo:Mir:=jE ["lot","found","least"] 1 ku
@[simp] def qc:FS:=(wZ (ze yB (za (eOp dIx (ze yN (za (zd 0) zk)) (eC (.int 0))) zk)))
def qO:FS:=qc
def wE:Mir:=Mof ["lot"] 1 qO
@[simp] def ux:FS:=(wZ (ze yB (za (eOp dIx (ze zQ (za (zd 0) zk)) (eC (.int 0))) zk)))
def qe:FS:=ux
def yg:Mir:=jE ["lot"] 1 qe
@[simp] def kQ:FS:=(vg (ze zu (za (zd 0) (za (zd 1) zk))))
@[simp] def qu:FS:=(wZ (zbR (ze zg (za (zd 0) (za (zd 1) zk)))))
def z0X:FS:=(zW kQ qu)
def qX:Mir:=Mof ["lot","number"] 2 z0X
@[simp] def kc:FS:=(vg (ze zf (za (zd 0) (za (zd 1) zk))))
def z0a:FS:=(zW kc (uN qu))
def xS:Mir:=jE ["lot","number"] 2 z0a
@[simp] def kU:FS:=(vg (ze zu (za (zd 0) (za (zd 1) zk))))
@[simp] noncomputable def z3V:FS:=(wZ (eC (.bl false)))
@[simp] noncomputable def kW:FS:=(fIf (fOr (z26 (tOf (eIs "tuple" (zd 2)))) (tOf (eOp dNe (ze vM (za (zd 2) zk)) (eC (.int 2))))) z3V vn)
@[simp] noncomputable def z0c:FS:=(zha (zd 2) (z5q 3 4))
@[simp] noncomputable def z3L:FS:=(wZ (eC (.bl false)))
@[simp] def kS:FS:=(fIf (fOr (z26 (tOf (ze uP (za (zd 0) (za (zd 1) (za (zd 3) zk)))))) (z26 (tOf (ze uP (za (zd 0) (za (zd 1) (za (zd 4) zk))))))) z3L vn)
@[simp] def kO:FS:=(wZ (z9s (eOp zd2 (zd 3) (zd 4)) (eOp dEq (ze zM (za (zd 3) (za (zd 0) zk))) (ze zM (za (zd 4) (za (zd 0) zk))))))
def z0R:FS:=(zW kU (zW kW (zW z0c (zW kS kO))))
def ja:Mir:=Mof ["lot","number","thing","one","other"] 3 z0R
@[simp] def jM:FS:=(vg (ze zf (za (zd 0) (za (zd 1) zk))))
def z0f:FS:=(zW jM (zW (uN kW) (zW (uN z0c) (zW (uN kS) (uN kO)))))
def wv:Mir:=jE ["lot","number","thing","one","other"] 3 z0f
@[simp] def qp:FS:=(vg (ze zu (za (zd 0) (za (zd 1) zk))))
@[simp] def vF:FS:=(wJ 2 (zV (yw (ze zg (za (zd 0) (za (zd 1) zk)))) [none] (xM 0) (tOf (eOp zd2 (ze wC (za (zd 0) zk)) (zd 0))) (kJ (za (ze uS (za (ze wC (za (zd 0) zk)) zk)) (za (ze uS (za (zd 0) zk)) zk)))))
@[simp] noncomputable def wj:FS:=(wZ (ze8 (zd 2) (eC .non)))
def jf:FS:=(zW qp (zW vF wj))
def vf:Mir:=Mof ["lot","number","clashes"] 2 jf
@[simp] def qj:FS:=(vg (ze zf (za (zd 0) (za (zd 1) zk))))
def ql:FS:=(zW qj (zW (uN vF) (uN wj)))
def ye:Mir:=jE ["lot","number","clashes"] 2 ql
@[simp] def qf:FS:=(wZ (ze yy (za (eOp dIx (ze xK (za (zd 0) zk)) (eC (.int 0))) zk)))
def qB:FS:=qf
def wA:Mir:=Mof ["lot"] 1 qB
@[simp] def uk:FS:=(wZ (ze yy (za (eOp dIx (ze yo (za (zd 0) zk)) (eC (.int 0))) zk)))
def qa:FS:=uk
def yh:Mir:=jE ["lot"] 1 qa
end Pg
namespace K53
open L2 Dd Pg
noncomputable def rsX:List Str:=["NoLot","NoNumber","TooMany"]
noncomputable def csX:List Str:=["NoLot","NoRule","Ended","NoBottom","NoRoot","NoCube","NoSize","NoNumber","TooMany","NoTable","NoTuple","NotAlike","NotFair","NoText","NoStep","NoDeed","NoRow"]
@[simp] noncomputable def wR:FS:=(wJ 1 (jP (za (z0u rsX "NoLot" (zd 0)) (za (z0u rsX "NoRule" (zd 0)) (za (z0u rsX "Ended" (zd 0)) (za (z0u rsX "NoBottom" (zd 0)) zk))))))
@[simp] noncomputable def wK:FS:=(wJ 1 (eOp ud (zd 1) (jP (za (z0u rsX "NoRoot" (zd 0)) (za (z0u rsX "NoCube" (zd 0)) (za (z0u rsX "NoSize" (zd 0)) (za (z0u rsX "NoNumber" (zd 0)) zk)))))))
@[simp] noncomputable def wP:FS:=(wJ 1 (eOp ud (zd 1) (jP (za (z0u rsX "TooMany" (zd 0)) (za (z0u rsX "NoTable" (zd 0)) (za (z0u rsX "NoTuple" (zd 0)) (za (z0u rsX "NotAlike" (zd 0)) zk)))))))
@[simp] noncomputable def wO:FS:=(wJ 1 (eOp z9H (zd 1) (zck (za (z0u rsX "NotFair" (zd 0)) (za (z0u rsX "NoText" (zd 0)) (za (z0u rsX "NoStep" (zd 0)) (za (z0u rsX "NoDeed" (zd 0)) zk)))))))
@[simp] noncomputable def wL:FS:=(vg (zff (zd 1) (z0u rsX "NoRow" (zd 0))))
@[simp] noncomputable def z0o:FS:=(wZ (eC (.str "other")))
@[simp] noncomputable def wS:FS:=(fIf (fOr (tOf (eOp dNe (z8X (zd 1) (eC (.bl true))) (eC (.int 1)))) (z26 (tOf (zgQ rsX (zd 0))))) z0o vn)
@[simp] noncomputable def wM:FS:=(wJ 2 (jP (za (eC (.str "lot")) (za (eC (.str "rule")) (za (eC (.str "ended")) (za (eC (.str "bottom")) (za (eC (.str "root")) (za (eC (.str "cube")) (za (eC (.str "size")) (za (eC (.str "number")) (za (eC (.str "many")) zk)))))))))))
@[simp] noncomputable def wN:FS:=(wZ (eOp dIx (eOp ud (zd 2) (eOp zd4 (jP (za (eC (.str "no")) zk)) (eC (.int 8)))) (z5E (zd 1) (eC (.bl true)))))
noncomputable def qM:FS:=(zW wR (zW wK (zW wP (zW wO (zW wL (zW wS (zW wM wN)))))))
noncomputable def zR:Mir:=Mof ["_law_e","_law_some","_law_words"] 1 qM
@[simp] noncomputable def xj:FS:=(wJ 2 (ze Pg.zo (za (zd 0) (za (ze vM (za (zd 1) zk)) zk))))
@[simp] noncomputable def xp:FS:=(wJ 3 (eOp dIx (jP (za (z4V (eC (.int 1))) (za (eC (.bl true)) (za (eC .non) (za (eC (.str "1")) (za (kJ (za (eC (.int 1)) zk)) (za (eC (.bl false)) (za (jP (za (eC (.int 1)) zk)) zk)))))))) (ze Pg.zo (za (zd 0) (za (eC (.int 7)) zk)))))
@[simp] noncomputable def yF:FS:=(wJ 4 (jP (za (eOp ud (eOp ud (eSl (zd 1) yP (uQ (zd 2))) (kJ (za (zd 3) zk))) (eSl (zd 1) (uQ (eOp ud (zd 2) (eC (.int 1)))) yP)) (za (eOp z57 (kJ (za (eC (.int 0)) zk)) (ze vM (za (zd 1) zk))) (za (ze z5x (za (zd 1) zk)) (za (eSl (eOp ud (eOp ud (zd 1) (zd 1)) (zd 1)) yP (uQ (eC (.int 5)))) (za (eSl (zd 1) yP (uQ (eC (.int 1)))) (za (kJ zk) (za (eC .non) zk)))))))))
@[simp] noncomputable def yH:FS:=(wZ (eOp dIx (eOp ud (zd 4) (jP (za (eC (.int 7)) (za (eC (.str "1:2")) (za (eC .dct) (za (kJ (za (zd 1) zk)) zk)))))) (ze Pg.zo (za (zd 0) (za (eC (.int 11)) zk)))))
noncomputable def wB:FS:=(zW xj (zW xp (zW yF yH)))
noncomputable def yx:Mir:=Mof ["_law_pot_here","_law_lot","_law_at","_law_odd","_law_some"] 2 wB
@[simp] def kf:FS:=(vg (z2v (eOp dIx (jP (za (eC (.fn "by_weight")) (za (eC (.fn "by_length")) (za (eC (.fn "least_weight")) (za (eC (.fn "least_length")) zk))))) (zd 0)) [("by_weight",Pg.zQ),("by_length",Pg.yo),("least_weight",Pg.yg),("least_length",Pg.yh)] (za (zd 1) zk)))
@[simp] def kb:FS:=(vg (ze Pg.wv (za (zd 1) (za (zd 2) (za (eC .non) zk)))))
@[simp] def ky:FS:=(vg (z2v (eOp dIx (jP (za (eC (.fn "has_none")) (za (eC (.fn "first_clash")) zk))) (eOp zbA (zd 0) (eC (.int 5)))) [("has_none",Pg.xS),("first_clash",Pg.ye)] (za (zd 1) (za (zd 2) zk))))
@[simp] def uC:FS:=(fIf (tOf (eOp dEq (zd 0) (eC (.int 4)))) kb ky)
@[simp] def zF:FS:=(fIf (tOf (eOp dLt (zd 0) (eC (.int 4)))) kf uC)
@[simp] noncomputable def uT:FS:=(wZ (ze zR (za (zd 3) zk)))
@[simp] def uE:FS:=(z7t rsX zF 3 uT)
@[simp] noncomputable def je:FS:=(wZ (eC (.str "told")))
def qD:FS:=(zW uE je)
def zp:Mir:=z5u (Mof ["_law_way","_law_lot","_law_number","_law_e"] 3 qD)
@[simp] def z0K:FS:=(wJ 2 (ze Pg.vj (za (ze Pg.yS (za (zd 0) (za (zd 1) zk))) zk)))
@[simp] def z1N:FS:=(wJ 3 (ze Pg.yR (za (zd 2) (za (eOp ud (eC (.int 2)) (ze Pg.zo (za (zd 2) (za (eC (.int 2)) zk)))) zk))))
@[simp] noncomputable def z1u:FS:=(wJ 4 (ze yx (za (zd 2) (za (zd 3) zk))))
@[simp] noncomputable def z10:FS:=(wJ 5 (ze Pg.zo (za (zd 2) (za (ze vM (za (zd 3) zk)) zk))))
@[simp] noncomputable def z19:FS:=(wJ 6 (eOp ud (eOp ud (eSl (zd 3) yP (uQ (zd 5))) (kJ (za (eOp dIx (jP (za (eC (.int 1001)) (za (eOp z8Z (eC (.int 10)) (eC (.int 39))) (za (eC (.int 1002)) zk)))) (ze Pg.zo (za (zd 2) (za (eC (.int 3)) zk)))) zk))) (eSl (zd 3) (uQ (eOp ud (zd 5) (eC (.int 1)))) yP)))
@[simp] noncomputable def z1l:FS:=(wJ 7 (eOp dIx (jP (za (eC (.int 0)) (za (eC (.int 9)) (za (z4V (eC (.int 1))) (za (eC (.bl true)) (za (eC .non) (za (eC (.str "1")) (za (kJ (za (eC (.int 1)) zk)) (za (eOp z8Z (eC (.int 10)) (eC (.int 39))) zk))))))))) (ze Pg.zo (za (zd 2) (za (eC (.int 8)) zk)))))
@[simp] noncomputable def z9l:FS:=(wZ (eC (.bl false)))
@[simp] def z1b:FS:=(fIf (fOr (tOf (eOp dNe (ze zp (za (zd 8) (za (zd 4) (za (zd 7) zk)))) (eC (.str "lot")))) (tOf (eOp dNe (ze zp (za (zd 8) (za (zd 6) (za (zd 7) zk)))) (eC (.str "many"))))) z9l vn)
@[simp] noncomputable def z9U:FS:=(wZ (eC (.bl false)))
@[simp] def jW:FS:=(fIf (fOr (tOf (eOp dNe (ze zp (za (zd 8) (za (zd 4) (za (eC (.int 1)) zk)))) (eC (.str "lot")))) (tOf (eOp dNe (ze zp (za (zd 8) (za (zd 6) (za (eC (.int 8)) zk)))) (eC (.str "many"))))) z9U vn)
@[simp] def z1d:FS:=(z8Y (z5J (za (eC (.int 7)) zk)) (xM 8) (zW z1b jW))
@[simp] noncomputable def za7:FS:=(wZ (eC (.bl false)))
@[simp] def kr:FS:=(fIf (tOf (eOp dNe (zV (z5c (za (eC (.int 4)) (za (eC (.int 7)) zk))) [some 3,some 7,none] (xM 2) xT (ze zp (za (zd 2) (za (zd 0) (za (zd 1) zk))))) (eOp zd4 (jP (za (eC (.str "number")) zk)) (eC (.int 3))))) za7 vn)
@[simp] def z5h:FS:=(z8Y (z5J (za (ze z4r (za (eC (.int 1)) (za (ze zat (za (ze vM (za (zd 0) zk)) (za (eC (.int 8)) zk))) zk))) zk)) (xM 1) (zW z0K (zW z1N (zW z1u (zW z10 (zW z19 (zW z1l (zW z1d kr))))))))
@[simp] def z0D:FS:=(wJ 9 (eOp ud (zV (z5J (za (eC (.int 7)) zk)) [none] (xM 0) xT (ze zp (za (zd 0) (za (kJ (za (eC (.int 1000)) (za (eC (.int 1)) zk))) (za (eC (.int 8)) zk))))) (zV (z5J (za (eC (.int 7)) zk)) [none] (xM 0) xT (ze zp (za (zd 0) (za (kJ (za (eC (.int 0)) (za (eC (.int 1000)) zk))) (za (eC (.int 1)) zk)))))))
@[simp] noncomputable def z3v:FS:=(wZ (eOp dEq (zd 9) (eOp zd4 (jP (za (eC (.str "told")) zk)) (eC (.int 14)))))
def zaD:FS:=(zW z5h (zW z0D z3v))
def zcs:Mir:=Mof ["_law_script","_law_at","_law_pot_here","_law_lot","_law_none","_law_place","_law_great","_law_bad","_law_way","_law_good"] 1 zaD
end K53
set_option maxHeartbeats 6000000
namespace K53
open L2 Dd Pg
structure Txt(mg:Str->Option Value):Prop where
 f0:∃t,mg "LEAST_SIZE"=some (.int 2 t)
 f1:∃t,mg "MOST_NUMBER"=some (.int 1000 t)
 f2:∃t,mg "MOST_OFTEN"=some (.int 8 t)
 f3:∃t,mg "MOST_SIZE"=some (.int 4 t)
 f4:mg "ValueError"=none
 f5:mg "abs"=none
 f6:mg "all"=none
 f7:mg "bool"=none
 f8:mg "int"=none
 f9:mg "isinstance"=none
 f10:mg "len"=none
 f11:mg "list"=none
 f12:mg "max"=none
 f13:mg "min"=none
 f14:mg "range"=none
 f15:mg "sorted"=none
 f16:mg "sum"=none
 f17:mg "tuple"=none
 f18:mg "zip"=none
theorem zaF:bootBuiltins "abs"=some (.builtin "abs"):=by decide +kernel
theorem zdb:bootBuiltins "all"=some (.builtin "all"):=by decide +kernel
theorem zcv:bootBuiltins "bool"=some (.type "bool"):=by decide +kernel
theorem zek:bootBuiltins "int"=some (.type "int"):=by decide +kernel
theorem qb:bootBuiltins "len"=some (.builtin "len"):=by decide +kernel
theorem zbK:bootBuiltins "list"=some (.type "list"):=by decide +kernel
theorem z0Y:bootBuiltins "max"=some (.builtin "max"):=by decide +kernel
theorem z1x:bootBuiltins "min"=some (.builtin "min"):=by decide +kernel
theorem z7g:bootBuiltins "sorted"=some (.builtin "sorted"):=by decide +kernel
theorem zaT:bootBuiltins "sum"=some (.builtin "sum"):=by decide +kernel
theorem qT:bootBuiltins "tuple"=some (.type "tuple"):=by decide +kernel
theorem zhK:(["_law_lot","_law_bad","_law_way"]:List Str).Nodup:=by decide +kernel
theorem zgF:(["_law_way"]:List Str).Nodup:=by decide +kernel
theorem zhF:(["_law_pot_here","_law_far","_law_place"]:List Str).Nodup:=by decide +kernel
theorem zf5:(["line"]:List Str).Nodup:=by decide +kernel
theorem zgG:(["least","line"]:List Str).Nodup:=by decide +kernel
theorem zhk:(["second","first"]:List Str).Nodup:=by decide +kernel
theorem zgU:(["least","most","ahead","number"]:List Str).Nodup:=by decide +kernel
theorem zhm:(["one","other"]:List Str).Nodup:=by decide +kernel
theorem zfh:(["number"]:List Str).Nodup:=by decide +kernel
theorem zhH:(["part"]:List Str).Nodup:=by decide +kernel
section
local macro_rules | `(tactic| trivial)=>`(tactic| exact⟨rfl,rfl,rfl,by decide +kernel,rfl,by decide +kernel,by decide +kernel⟩)
theorem z5s:zG ["thing"] ["thing"] (zi jD):=by trivial
theorem z5w:zG ["thing"] ["thing"] (zi jy):=by trivial
theorem xu:zG ["size","least","most","found","place"] ["size","least","most"] (zi wu):=by trivial
theorem z5f:zG ["line","numbers"] ["line","numbers"] (zi ju):=by trivial
theorem z8c:zG ["line"] ["line"] (zi z1i):=by trivial
theorem z8y:zG ["line"] ["line"] (zi z1H):=by trivial
theorem z7P:zG ["line"] ["line"] (zi z0N):=by trivial
theorem z9x:zG ["line"] ["line"] (zi z3z):=by trivial
theorem z16:zG ["_law_script","_law_k"] ["_law_script","_law_k"] (zi vv):=by trivial
theorem ww:zG ["_law_cell","_law_number","_law_j","_law_more"] ["_law_cell"] (zi jG):=by trivial
theorem z00:zG ["_law_pot_here","_law_far","_law_found"] ["_law_pot_here","_law_far"] (zi qR):=by trivial
theorem yD:zG ["_law_e","_law_some","_law_words"] ["_law_e"] (zi vo):=by trivial
theorem z33:zG ["thing","many"] ["thing","many"] (zi uD):=by trivial
theorem z1X:zG ["thing","least","most"] ["thing","least","most"] (zi ua):=by trivial
theorem zP:zG ["lot","most","middle","by_sum","first","found","second"] ["lot","most"] (zi xL):=by trivial
theorem wD:zG ["_law_pot_here","_law_lot","_law_at","_law_odd","_law_some"] ["_law_pot_here","_law_lot"] (zi uc):=by trivial
theorem yG:zG ["_law_pot_here","_law_size","_law_far","_law_found","_law_at","_law_to","_law_way"] ["_law_pot_here","_law_size"] (zi wx):=by trivial
theorem z7w:zG ["thing"] ["thing"] (zi z1L):=by trivial
theorem z3Y:zG ["lot","number","thing"] ["lot","number","thing"] (zi qQ):=by trivial
theorem z54:zG ["thing"] ["thing"] (zi jv):=by trivial
theorem z3g:zG ["lot"] ["lot"] (zi uJ):=by trivial
theorem uM:zG ["lot","number"] ["lot","number"] (zi yO):=by trivial
theorem xP:zG ["lot","most","found","least"] ["lot"] (zi qF):=by trivial
theorem qH:zG ["lot","found","least"] ["lot"] (zi qm):=by trivial
theorem z0S:zG ["lot"] ["lot"] (zi vC):=by trivial
theorem z5k:zG ["lot","number"] ["lot","number"] (zi jF):=by trivial
theorem z0P:zG ["lot","number","thing","one","other"] ["lot","number","thing"] (zi jw):=by trivial
theorem jn:zG ["lot","number","clashes"] ["lot","number"] (zi ug):=by trivial
theorem z15:zG ["lot"] ["lot"] (zi vH):=by trivial
theorem z02:zG ["_law_way","_law_lot","_law_number","_law_e"] ["_law_way","_law_lot","_law_number"] (zi qr):=by trivial
theorem jm:zG ["_law_script","_law_at","_law_pot_here","_law_lot","_law_none","_law_place","_law_great","_law_bad","_law_way","_law_good"] ["_law_script"] (zi z2f):=by trivial
end
section
variable {P:Program}{w:World}{K:W.Frag}{mg:Str->Option Value}{base:Heap}(T:Txt mg){f:Addr}{fd:FuncData}
include T
local macro_rules | `(tactic| trivial)=>`(tactic| first | exact (λ_ _ _ _ _ _ us hl=>match us,hl with | [_],_=>rfl) | exact (λ_ _ _ _ _ _ us hl=>match us,hl with | [_,_],_=>rfl) | exact (λ_ _ _ _ _ _ us hl=>match us,hl with | [_,_,_],_=>rfl))
theorem z4x(F:Fun K "is_whole" "is_whole" jD f fd)(hm:mg "is_whole"=some (.ref f))  : Has P w K mg base CX0 "is_whole" 1 Pg.yu:= (wt F hm (F.binds (ps:=["thing"]) (by trivial)) z5s rfl λcdv A outer s H E hr hc=> have hu:=hr.units;(zA (yQ (z71 (zdN (by decide) zek (by rfl) T.f9 (by rfl) T.f8 (zc 0)) (z8a (zfL (zdN (by decide) zcv (by rfl) T.f9 (by rfl) T.f7 (zc 0))))))))
theorem z4o (F:Fun K "has_size" "has_size" jy f fd) (hm:mg "has_size"=some (.ref f))  : Has P w K mg base CX0 "has_size" 1 Pg.yi:= (wt F hm (F.binds (ps:=["thing"]) (by trivial)) z5w rfl λcdv A outer s H E hr hc=> have hu:=hr.units;(zA (yQ (z71 (zdN (by decide) qT (by rfl) T.f9 (by rfl) T.f17 (zc 0)) (z8a (zci zdf zdf (zfk (by rfl) T.f0) (zO z0k (by rfl) T.f10 qb (aN (zc 0) zh) (he:=(zr ..))) (zfk (by rfl) T.f3)))))))
theorem jR(F:Fun K "tuples_between" "tuples_between" wu f fd)(hm:mg "tuples_between"=some (.ref f))  : Has P w K mg base CX0 "tuples_between" 1 Pg.zN:= (wt F hm (F.binds (ps:=["size","least","most"]) (by trivial)) xu rfl λcdv A outer s H E hr hc=> have hu:=hr.units;(zm (xE 3 xu.nd (qt (aT (z0j zh) zh))) (zm (z6W _a7 hc (jz (by rfl) T.f14 (aN (zc 0) zh)) (z2z 4 xu.nd) (zA (zcy 3 ["least","most","ahead","number"] [some 1,some 2,none,none] 2 3 xu.nd hc (jd (zc 3)) (λ_ _ _=>yf (i:=2) zgU (by rfl) (by first | exact Or.inl rfl | exact Or.inr rfl)) (λ_ _ _=>yf (i:=3) zgU (by rfl) (by first | exact Or.inl rfl | exact Or.inr rfl)) (λ_ _ _=>(z66 (by rfl) T.f14 (aN (zc 0) (aB (yd vE (zc 1) zB) zh)))) (λ_ _ _=>(yd vE (zc 2) (z0j (aN (zc 3) zh))))))) (zA (yQ (zc 3))))))
theorem z4K (F:Fun K "together" "together" ju f fd) (hm:mg "together"=some (.ref f))  : Has P w K mg base CX0 "together" 1 Pg.zM:= (wt F hm (F.binds (ps:=["line","numbers"]) (by trivial)) z5f rfl λcdv A outer s H E hr hc=> have hu:=hr.units;(zA (yQ (zO (zev (by exact hc)) (by rfl) T.f16 zaT (aO (xB ["one","other"] [none,none] (by exact hc) (zfv (by rfl) T.f18 (aN (zc 0) (aN (zc 1) zh))) (λ_ _ _=>z9V 0 1 (by exact hc) zhm) (z91 0 1 (by decide) (by rfl) (by rfl)) (λ_ _ _=>xW) (λ_ _ _=>(yd z1o (zc 0) (zc 1)))) zh) (he:=(xk ..))))))
theorem z6Z (F:Fun K "weight" "weight" z1i f fd) (hm:mg "weight"=some (.ref f))  : Has P w K mg base CX0 "weight" 1 Pg.yB:= (wt F hm (F.binds (ps:=["line"]) (by trivial)) z8c rfl λcdv A outer s H E hr hc=> have hu:=hr.units;(zA (yQ (zO (z3U (by exact hc)) (by rfl) T.f12 z0Y (aO (xB ["number"] [none] (by exact hc) (jd (zc 0)) (λ_ _ _=>yf (i:=0) zfh (by rfl) (by first | exact Or.inl rfl | exact Or.inr rfl)) (yz 0 (by rfl)) (λ_ _ _=>xW) (λ_ _ _=>(zO zf0 (by rfl) T.f5 zaF (aN (zc 0) zh) (he:=(zr ..))))) zh) (he:=(xk ..))))))
theorem z6y (F:Fun K "length" "length" z1H f fd) (hm:mg "length"=some (.ref f))  : Has P w K mg base CX0 "length" 1 Pg.yy:= (wt F hm (F.binds (ps:=["line"]) (by trivial)) z8y rfl λcdv A outer s H E hr hc=> have hu:=hr.units;(zA (yQ (zO (zev (by exact hc)) (by rfl) T.f16 zaT (aO (xB ["number"] [none] (by exact hc) (jd (zc 0)) (λ_ _ _=>yf (i:=0) zfh (by rfl) (by first | exact Or.inl rfl | exact Or.inr rfl)) (yz 0 (by rfl)) (λ_ _ _=>xW) (λ_ _ _=>(zO zf0 (by rfl) T.f5 zaF (aN (zc 0) zh) (he:=(zr ..))))) zh) (he:=(xk ..))))))
theorem z6N (F:Fun K "turned" "turned" z0N f fd) (hm:mg "turned"=some (.ref f))  : Has P w K mg base CX0 "turned" 1 Pg.wC:= (wt F hm (F.binds (ps:=["line"]) (by trivial)) z7P rfl λcdv A outer s H E hr hc=> have hu:=hr.units;(zA (yQ (z2S z5A (by rfl) T.f17 qT (aO (xB ["number"] [none] (by exact hc) (jd (zc 0)) (λ_ _ _=>yf (i:=0) zfh (by rfl) (by first | exact Or.inl rfl | exact Or.inr rfl)) (yz 0 (by rfl)) (λ_ _ _=>xW) (λ_ _ _=>(z6A (zc 0)))) zh) (he:=(xk ..))))))
theorem z7n (F:Fun K "above" "above" z3z f fd) (hm:mg "above"=some (.ref f))  : Has P w K mg base CX0 "above" 1 Pg.uS:= (wt F hm (F.binds (ps:=["line"]) (by trivial)) z9x rfl λcdv A outer s H E hr hc=> have hu:=hr.units;(zA (yQ (z2S z5A (by rfl) T.f17 qT (aO (xB ["number"] [none] (by exact hc) (jd (zc 0)) (λ_ _ _=>yf (i:=0) zfh (by rfl) (by first | exact Or.inl rfl | exact Or.inr rfl)) (yz 0 (by rfl)) (λ_ _ _=>xW) (λ_ _ _=>(zO (zbl (by exact hc)) (by rfl) T.f12 z0Y (aN (zc 0) (aK zB zh)) (he:=(zr ..))))) zh) (he:=(xk ..))))))
theorem z0s (F:Fun K "_law_cell_at" "_law_cell_at" vv f fd) (hm:mg "_law_cell_at"=some (.ref f))  : Has P w K mg base CX0 "_law_cell_at" 1 Pg.yS:= (wt F hm (F.binds (ps:=["_law_script","_law_k"]) (by trivial)) z16 rfl λcdv A outer s H E hr hc=> have hu:=hr.units;(zm (z3A (xO zh6 (zc 1) (zO z0k (by rfl) T.f10 qb (aN (zc 0) zh) (he:=(zr ..)))) (zA (yQ (z6o (zc 0) (zc 1)))) wU) (zA (yQ zB))))
theorem z4B(F:Fun K "_law_pot" "_law_pot" jG f fd)(hm:mg "_law_pot"=some (.ref f))  : Has P w K mg base CX0 "_law_pot" 1 Pg.vj:= (wt F hm (F.binds (ps:=["_law_cell"]) (by trivial)) ww rfl λcdv A outer s H E hr hc=> have hu:=hr.units;(zm (z3A (xO zgq (zc 0) (yd z9N zB zB)) (zA (yQ (zai (aB (yd z9P (zc 0) (yd z9N zB zB)) zh)))) wU) (zm (xE 1 ww.nd zB) (zm (z6W _a7 hc (jz (by rfl) T.f14 (aK zB zh)) (z2z 2 ww.nd) (zm (xE 3 ww.nd (yd z9u (yd z1o (yd vE (yd vE (yd z9u (zc 0) zB) (yd z1o zB (zc 2))) zB) zB) zB)) (zm (xE 3 ww.nd (yd z9u (yd vE (yd vE (yd z1o (zc 3) (zc 3)) (yd z1o zB (zc 2))) zB) zB)) (zA (xE 1 ww.nd (yd vE (yd z1o (zc 1) zB) (zc 3))))))) (zA (yQ (zai (aN (zc 1) zh))))))))
theorem z2G(F:Fun K "_law_take" "_law_take" qR f fd)(hm:mg "_law_take"=some (.ref f))  : Has P w K mg base CX0 "_law_take" 1 Pg.zo:= (wt F hm (F.binds (ps:=["_law_pot_here","_law_far"]) (by trivial)) z00 rfl λcdv A outer s H E hr hc=> have hu:=hr.units;(zm (xE 2 z00.nd (yd z9u (z6o (zc 0) zB) (zc 1))) (zm (z6b (yd zb5 (z6o (zc 0) zB) (zc 1)) (zc 0) zB) (zA (yQ (zc 2))))))
theorem z0l(F:Fun K "_law_kind_of" "_law_kind_of" vo f fd)(hm:mg "_law_kind_of"=some (.ref f))(FM:z3T ⟨mg,K⟩ rsX csX):zfe P w K mg base CX0 "_law_kind_of" 1 zR:= zc7 F hm (F.binds (ps:=["_law_e"]) (by trivial)) yD rfl λcdv A outer s H E hr=> have hu:=hr.units;(zm (xE 1 yD.nd (qt (aQ (qP FM (by decide) (by rfl) T.f9 (by rfl) (zc 0)) (aQ (qP FM (by decide) (by rfl) T.f9 (by rfl) (zc 0)) (aQ (qP FM (by decide) (by rfl) T.f9 (by rfl) (zc 0)) (aQ (qP FM (by decide) (by rfl) T.f9 (by rfl) (zc 0)) zh)))))) (zm (xE 1 yD.nd (yd vE (zc 1) (qt (aQ (qP FM (by decide) (by rfl) T.f9 (by rfl) (zc 0)) (aQ (qP FM (by decide) (by rfl) T.f9 (by rfl) (zc 0)) (aQ (qP FM (by decide) (by rfl) T.f9 (by rfl) (zc 0)) (aQ (qP FM (by decide) (by rfl) T.f9 (by rfl) (zc 0)) zh))))))) (zm (xE 1 yD.nd (yd vE (zc 1) (qt (aQ (qP FM (by decide) (by rfl) T.f9 (by rfl) (zc 0)) (aQ (qP FM (by decide) (by rfl) T.f9 (by rfl) (zc 0)) (aQ (qP FM (by decide) (by rfl) T.f9 (by rfl) (zc 0)) (aQ (qP FM (by decide) (by rfl) T.f9 (by rfl) (zc 0)) zh))))))) (zm (xE 1 yD.nd (yd zeK (zc 1) (zai (aQ (qP FM (by decide) (by rfl) T.f9 (by rfl) (zc 0)) (aQ (qP FM (by decide) (by rfl) T.f9 (by rfl) (zc 0)) (aQ (qP FM (by decide) (by rfl) T.f9 (by rfl) (zc 0)) (aQ (qP FM (by decide) (by rfl) T.f9 (by rfl) (zc 0)) zh))))))) (zm (qh (zaj (zc 1) (qP FM (by decide) (by rfl) T.f9 (by rfl) (zc 0)))) (zm (z3A (RW.rt (zbf (xO (zaH hu) (z8r (zc 1) z7e) zB) (z42 (z1k (z35 (zfx FM (by rfl) T.f9 (by rfl) T.f4 (zc 0))))))) (zA (yQ ue)) wU) (zm (xE 2 yD.nd (qt (aK ue (aK ue (aK ue (aK ue (aK ue (aK ue (aK ue (aK ue (aK ue zh))))))))))) (zA (yQ (z6o (yd vE (zc 2) (yd zcx (qt (aK ue zh)) zB)) (z7s (zc 1) z7e)))))))))))
theorem z1Y (F:Fun K "are_wholes" "are_wholes" uD f fd) (hm:mg "are_wholes"=some (.ref f)) (H_is_whole:Has P w K mg base CX0 "is_whole" 1 Pg.yu):Has P w K mg base CX0 "are_wholes" 2 Pg.zU:= (wt F hm (F.binds (ps:=["thing","many"]) (by trivial)) z33 rfl λcdv A outer s H E hr hc=> have hu:=hr.units;(zm (z3A (RW.rt (zbf (z1k (z35 (zdN (by decide) qT (by rfl) T.f9 (by rfl) T.f17 (zc 0)))) (z42 (xO (zaH hu) (zO z0k (by rfl) T.f10 qb (aN (zc 0) zh) (he:=(zr ..))) (zc 1))))) (zA (yQ z7e)) wU) (zA (yQ (zO (zg0 (by exact hc)) (by rfl) T.f6 zdb (aO (xB ["part"] [none] (by exact hc) (jd (zc 0)) (λ_ _ _=>yf (i:=0) zhH (by rfl) (by first | exact Or.inl rfl | exact Or.inr rfl)) (yz 0 (by rfl)) (λ_ _ _=>xW) (λ_ _ _=>(xF H_is_whole hr zZ (aN (zc 0) zh)))) zh) (he:=(xk ..)))))))
theorem z0r(F:Fun K "want_number" "want_number" ua f fd)(hm:mg "want_number"=some (.ref f))(E_NoNumber:zay K mg "NoNumber")(H_is_whole:Has P w K mg base CX0 "is_whole" 1 Pg.yu):Has P w K mg base (CX1 P w) "want_number" 2 Pg.zK:= (vy F hm (F.binds (ps:=["thing","least","most"]) (by trivial)) z1X rfl λcdv A outer s H E hr hc=> have hu:=hr.units;(zA (z3A (RW.rt (zbf (z1k (z35 (xF H_is_whole hr z6D (aN (zc 0) zh)))) (z42 (z1k (zch zdf zdf (zc 1) (zc 0) (zc 2)))))) (zA (z4X E_NoNumber z30 hc (by rfl))) wU)))
theorem jc (F:Fun K "relations_within" "relations_within" xL f fd) (hm:mg "relations_within"=some (.ref f)) (H_tuples_between:Has P w K mg base CX0 "tuples_between" 1 Pg.zN) (H_together:Has P w K mg base CX0 "together" 1 Pg.zM) (H_weight:Has P w K mg base CX0 "weight" 1 Pg.yB):Has P w K mg base CX0 "relations_within" 2 Pg.zg:= (wt F hm (F.binds (ps:=["lot","most"]) (by trivial)) zP rfl λcdv A outer s H E hr hc=> have hu:=hr.units;(zm (xE 2 zP.nd (yd zb5 (zO z0k (by rfl) T.f10 qb (aN (zc 0) zh) (he:=(zr ..))) zB)) (zm (xE 3 zP.nd zeh) (zm (z6W _a7 hc (jd (xF H_tuples_between hr zZ (aN (zc 2) (aU (z6A (zc 1)) (aN (zc 1) zh))))) (z2z 4 zP.nd) (zA (qh (zdw 4 (zc 3) (xF H_together hr zZ (aN (zc 4) (aS (qG (zc 0) z03 (z0d (zc 2))) zh))))))) (zm (xE 5 zP.nd (zai zh)) (zm (z6W _a7 hc (jd (xF H_tuples_between hr zZ (aB (yd z9P (zO z0k (by rfl) T.f10 qb (aN (zc 0) zh) (he:=(zr ..))) (zc 2)) (aU (z6A (zc 1)) (aN (zc 1) zh))) (he:=(z5Z ..)))) (z2z 6 zP.nd) (zA (zdW 5 zP.nd (xB ["second","first"] [some 6,none] (by exact hc) (jd (zbX hu (zc 3) (z6A (xF H_together hr zZ (aN (zc 6) (aS (qG (zc 0) (z0d (zc 2)) z03) zh)))))) (λ_ _ _=>yf (i:=1) zhk (by rfl) (by first | exact Or.inl rfl | exact Or.inr rfl)) (yz 1 (by rfl)) (λ_ _ _=>xW) (λ_ _ _=>(yd vE (zc 1) (zc 0))))))) (zA (yQ (zO zbP (by rfl) T.f15 z7g (aO (xB ["line"] [none] (by exact hc) (jd (zc 5)) (λ_ _ _=>yf (i:=0) zf5 (by rfl) (by first | exact Or.inl rfl | exact Or.inr rfl)) (yz 0 (by rfl)) (λ_ _ _=>z2J (xO zgy (xF H_weight hr zZ (aN (zc 0) zh)) zB)) (λ_ _ _=>(zc 0))) zh) (he:=(xk ..))))))))))).tidy
theorem z1g (F:Fun K "_law_no_lot" "_law_no_lot" uc f fd) (hm:mg "_law_no_lot"=some (.ref f)) (H__law_take:Has P w K mg base CX0 "_law_take" 1 Pg.zo):Has P w K mg base CX0 "_law_no_lot" 2 yx:= (wt F hm (F.binds (ps:=["_law_pot_here","_law_lot"]) (by trivial)) wD rfl λcdv A outer s H E hr hc=> have hu:=hr.units;(zm (xE 2 wD.nd (xF H__law_take hr zZ (aN (zc 0) (aQ (zO z0k (by rfl) T.f10 qb (aN (zc 1) zh) (he:=(zr ..))) zh)))) (zm (xE 3 wD.nd (z6o (qt (aU (z6A zB) (aK z7e (aK z8E (aK ue (aT (z0j (aK zB zh)) (aK z7e (aL (qt (aK zB zh)) zh)))))))) (xF H__law_take hr zZ (aN (zc 0) (aK zB zh))))) (zm (xE 4 wD.nd (qt (aB (yd vE (yd vE (qG (zc 1) z03 (z0d (zc 2))) (z0j (aN (zc 3) zh))) (qG (zc 1) (z0d (yd vE (zc 2) zB)) z03)) (aB (yd zeJ (z0j (aK zB zh)) (zO z0k (by rfl) T.f10 qb (aN (zc 1) zh) (he:=(zr ..)))) (aQ (z2S zdB (by rfl) T.f11 zbK (aN (zc 1) zh) (he:=(zr ..))) (aS (qG (yd vE (yd vE (zc 1) (zc 1)) (zc 1)) z03 (z0d zB)) (aS (qG (zc 1) z03 (z0d zB)) (aT (z0j zh) (aK z8E zh))))))))) (zA (yQ (z6o (yd vE (zc 4) (qt (aK zB (aK ue (wT zfu (aT (z0j (aN (zc 1) zh)) zh) (by rfl)))))) (xF H__law_take hr zZ (aN (zc 0) (aK zB zh))))))))))
theorem kh (F:Fun K "_law_small_lot" "_law_small_lot" wx f fd) (hm:mg "_law_small_lot"=some (.ref f)) (H__law_take:Has P w K mg base CX0 "_law_take" 1 Pg.zo):Has P w K mg base CX0 "_law_small_lot" 2 Pg.yR:= (wt F hm (F.binds (ps:=["_law_pot_here","_law_size"]) (by trivial)) yG rfl λcdv A outer s H E hr hc=> have hu:=hr.units;(zm (xE 2 yG.nd (z6o (qt (aK zB (aK zB (aK zB zh)))) (xF H__law_take hr zZ (aN (zc 0) (aK zB zh))))) (zm (zcC 3 ["_law_pot_here","_law_far","_law_place"] [some 0,some 2,none] yG.nd hc (jz (by rfl) T.f14 (aN (zc 1) zh)) (λ_ _ _=>yf (i:=2) zhF (by rfl) (by first | exact Or.inl rfl | exact Or.inr rfl)) (yz 2 (by rfl)) (λ_ _ _=>xW) (λ_ _ _=>(xF H__law_take hr zZ (aN (zc 0) (aN (zc 1) zh))))) (zm (zgt 4 5 hc yG.nd (aQ (xF H__law_take hr zZ (aN (zc 0) (aN (zc 1) zh))) (aQ (xF H__law_take hr zZ (aN (zc 0) (aN (zc 1) zh))) zh))) (zm (xE 6 yG.nd (xF H__law_take hr zZ (aN (zc 0) (aK zB zh)))) (zm (z3A (xO (zaQ hu) (zc 6) zB) (zA (z6b zB (zc 3) (zc 4))) wU) (zm (z3A (xO (zaQ hu) (zc 6) zB) (zA (z6b (z6o (zc 3) (zc 5)) (zc 3) (zc 4))) wU) (zm (z3A (xO (zaQ hu) (zO (z3U (by exact hc)) (by rfl) T.f12 z0Y (aN (zc 3) zh) (he:=(zr ..))) zB) (zA (z6b (yd vE zB (xF H__law_take hr zZ (aN (zc 0) (aB (yd z9P (zc 2) zB) zh)))) (zc 3) (zc 5))) wU) (zA (yQ (z2S z5A (by rfl) T.f17 qT (aN (zc 3) zh) (he:=(zr ..))))))))))))).tidy
theorem z6t (F:Fun K "is_lot" "is_lot" z1L f fd) (hm:mg "is_lot"=some (.ref f)) (H_has_size:Has P w K mg base CX0 "has_size" 1 Pg.yi) (H_are_wholes:Has P w K mg base CX0 "are_wholes" 2 Pg.zU):Has P w K mg base CX0 "is_lot" 3 Pg.zY:= (wt F hm (F.binds (ps:=["thing"]) (by trivial)) z7w rfl λcdv A outer s H E hr hc=> have hu:=hr.units;(zm (z3A (RW.rt (zbf (z1k (z35 (xF H_has_size hr zZ (aN (zc 0) zh)))) (z42 (z1k (z35 (xF H_are_wholes hr zZ (aN (zc 0) (aQ (zO z0k (by rfl) T.f10 qb (aN (zc 0) zh) (he:=(zr ..))) zh)))))))) (zA (yQ z7e)) wU) (zA (yQ (z71 (z0U zgq (zO (z3N (by exact hc)) (by rfl) T.f13 z1x (aN (zc 0) zh) (he:=(zr ..))) zB) (z8a (z0U zgy (zO (z3U (by exact hc)) (by rfl) T.f12 z0Y (aN (zc 0) zh) (he:=(zr ..))) zB)))))))
theorem z3c (F:Fun K "is_taking" "is_taking" qQ f fd) (hm:mg "is_taking"=some (.ref f)) (H_are_wholes:Has P w K mg base CX0 "are_wholes" 2 Pg.zU):Has P w K mg base CX0 "is_taking" 3 Pg.uP:= (wt F hm (F.binds (ps:=["lot","number","thing"]) (by trivial)) z3Y rfl λcdv A outer s H E hr hc=> have hu:=hr.units;(zA (yQ (z71 (xF H_are_wholes hr zZ (aN (zc 2) (aQ (zO z0k (by rfl) T.f10 qb (aN (zc 0) zh) (he:=(zr ..))) zh))) (z71 (z0U zgq (zO (z3N (by exact hc)) (by rfl) T.f13 z1x (aN (zc 2) zh) (he:=(zr ..))) zB) (z8a (z0U zdf (zO (z3U (by exact hc)) (by rfl) T.f12 z0Y (aN (zc 2) zh) (he:=(zr ..))) (zc 1))))))))
theorem z3d(F:Fun K "want_lot" "want_lot" jv f fd)(hm:mg "want_lot"=some (.ref f))(E_NoLot:zay K mg "NoLot")(H_is_lot:Has P w K mg base CX0 "is_lot" 3 Pg.zY):Has P w K mg base (CX1 P w) "want_lot" 4 Pg.xw:= (vy F hm (F.binds (ps:=["thing"]) (by trivial)) z54 rfl λcdv A outer s H E hr hc=> have hu:=hr.units;(zA (z3A (z1k (z35 (xF H_is_lot hr z6D (aN (zc 0) zh)))) (zA (z4X E_NoLot z30 hc (by rfl))) wU)))
theorem z1D (F:Fun K "want_small" "want_small" uJ f fd) (hm:mg "want_small"=some (.ref f)) (E_TooMany:zay K mg "TooMany") (HX_want_lot:Has P w K mg base (CX1 P w) "want_lot" 4 Pg.xw):Has P w K mg base (CX1 P w) "want_small" 5 Pg.zL:= (vy F hm (F.binds (ps:=["lot"]) (by trivial)) z3g rfl λcdv A outer s H E hr hc=> have hu:=hr.units;(zm (qh (xF HX_want_lot hr z25 (aN (zc 0) zh))) (zA (z3A (xO zgy (zO (z3U (by exact hc)) (by rfl) T.f12 z0Y (aN (zc 0) zh) (he:=(zr ..))) (zfk (by rfl) T.f1)) (zA (z4X E_TooMany z30 hc (by rfl))) wU))))
theorem uf(F:Fun K "want_small_and_often" "want_small_and_often" yO f fd)(hm:mg "want_small_and_often"=some (.ref f))(HX_want_number:Has P w K mg base (CX1 P w) "want_number" 2 Pg.zK)(HX_want_small:Has P w K mg base (CX1 P w) "want_small" 5 Pg.zL):Has P w K mg base (CX1 P w) "want_small_and_often" 6 Pg.zf:= (vy F hm (F.binds (ps:=["lot","number"]) (by trivial)) uM rfl λcdv A outer s H E hr hc=> have hu:=hr.units;(zm (qh (xF HX_want_small hr z25 (aN (zc 0) zh))) (zA (qh (xF HX_want_number hr z25 (aN (zc 1) (aK zB (aN (zfk (by rfl) T.f2) zh))))))))
theorem z2b (F:Fun K "by_weight" "by_weight" qF f fd) (hm:mg "by_weight"=some (.ref f)) (H_weight:Has P w K mg base CX0 "weight" 1 Pg.yB) (H_relations_within:Has P w K mg base CX0 "relations_within" 2 Pg.zg) (HX_want_small:Has P w K mg base (CX1 P w) "want_small" 5 Pg.zL):Has P w K mg base (CX1 P w) "by_weight" 6 Pg.zQ:= (vy F hm (F.binds (ps:=["lot"]) (by trivial)) xP rfl λcdv A outer s H E hr hc=> have hu:=hr.units;(zm (qh (xF HX_want_small hr z25 (aN (zc 0) zh))) (zm (vP (xE 1 xP.nd zB)) (zm (vP (xE 2 xP.nd (xF H_relations_within hr zZ (aN (zc 0) (aN (zc 1) zh))))) (zm (vP (zbV _a7 (z1k (zgb (zc 2))) (zm (xE 1 xP.nd (yd z1o zB (zc 1))) (zA (xE 2 xP.nd (xF H_relations_within hr zZ (aN (zc 0) (aN (zc 1) zh)))))))) (zm (vP (xE 3 xP.nd (zO (z3N (by exact hc)) (by rfl) T.f13 z1x (aO (xB ["line"] [none] (by exact hc) (jd (zc 2)) (λ_ _ _=>yf (i:=0) zf5 (by rfl) (by first | exact Or.inl rfl | exact Or.inr rfl)) (yz 0 (by rfl)) (λ_ _ _=>xW) (λ_ _ _=>(xF H_weight hr zZ (aN (zc 0) zh)))) zh) (he:=(xk ..))))) (zA (vP (yQ (xB ["least","line"] [some 3,none] (by exact hc) (jd (zc 2)) (λ_ _ _=>yf (i:=1) zgG (by rfl) (by first | exact Or.inl rfl | exact Or.inr rfl)) (yz 1 (by rfl)) (λ_ _ _=>z2J (xO (zaQ hu) (xF H_weight hr zZ (aN (zc 1) zh)) (zc 0))) (λ_ _ _=>(zc 1))))))))))))
theorem z1S (F:Fun K "by_length" "by_length" qm f fd) (hm:mg "by_length"=some (.ref f)) (H_length:Has P w K mg base CX0 "length" 1 Pg.yy) (H_relations_within:Has P w K mg base CX0 "relations_within" 2 Pg.zg) (HX_by_weight:Has P w K mg base (CX1 P w) "by_weight" 6 Pg.zQ):Has P w K mg base (CX1 P w) "by_length" 7 Pg.yo:= (vy F hm (F.binds (ps:=["lot"]) (by trivial)) qH rfl λcdv A outer s H E hr hc=> have hu:=hr.units;(zm (xE 1 qH.nd (xF H_relations_within hr z6D (aN (zc 0) (aQ (zO (z3N (by exact hc)) (by rfl) T.f13 z1x (aO (xB ["line"] [none] (by exact hc) (jd (xF HX_by_weight hr z25 (aN (zc 0) zh))) (λ_ _ _=>yf (i:=0) zf5 (by rfl) (by first | exact Or.inl rfl | exact Or.inr rfl)) (yz 0 (by rfl)) (λ_ _ _=>xW) (λ_ _ _=>(xF H_length hr z6D (aN (zc 0) zh)))) zh) (he:=(xk ..))) zh)))) (zm (vP (xE 2 qH.nd (zO (z3N (by exact hc)) (by rfl) T.f13 z1x (aO (xB ["line"] [none] (by exact hc) (jd (zc 1)) (λ_ _ _=>yf (i:=0) zf5 (by rfl) (by first | exact Or.inl rfl | exact Or.inr rfl)) (yz 0 (by rfl)) (λ_ _ _=>xW) (λ_ _ _=>(xF H_length hr zZ (aN (zc 0) zh)))) zh) (he:=(xk ..))))) (zA (vP (yQ (xB ["least","line"] [some 2,none] (by exact hc) (jd (zc 1)) (λ_ _ _=>yf (i:=1) zgG (by rfl) (by first | exact Or.inl rfl | exact Or.inr rfl)) (yz 1 (by rfl)) (λ_ _ _=>z2J (xO (zaQ hu) (xF H_length hr zZ (aN (zc 1) zh)) (zc 0))) (λ_ _ _=>(zc 1)))))))))
theorem kA (F:Fun K "least_weight" "least_weight" vC f fd) (hm:mg "least_weight"=some (.ref f)) (H_weight:Has P w K mg base CX0 "weight" 1 Pg.yB) (HX_by_weight:Has P w K mg base (CX1 P w) "by_weight" 6 Pg.zQ):Has P w K mg base (CX1 P w) "least_weight" 7 Pg.yg:= (vy F hm (F.binds (ps:=["lot"]) (by trivial)) z0S rfl λcdv A outer s H E hr hc=> have hu:=hr.units;(zA (yQ (xF H_weight hr z6D (aS (z6o (xF HX_by_weight hr z25 (aN (zc 0) zh)) zB) zh) (he:=(z36 ..))))))
theorem z31(F:Fun K "has_none" "has_none" jF f fd)(hm:mg "has_none"=some (.ref f))(H_relations_within:Has P w K mg base CX0 "relations_within" 2 Pg.zg)(HX_want_small_and_often:Has P w K mg base (CX1 P w) "want_small_and_often" 6 Pg.zf):Has P w K mg base (CX1 P w) "has_none" 7 Pg.xS:= (vy F hm (F.binds (ps:=["lot","number"]) (by trivial)) z5k rfl λcdv A outer s H E hr hc=> have hu:=hr.units;(zm (qh (xF HX_want_small_and_often hr z25 (aN (zc 0) (aN (zc 1) zh)))) (zA (vP (yQ (zer (xF H_relations_within hr zZ (aN (zc 0) (aN (zc 1) zh)))))))))
theorem z2P (F:Fun K "is_clash" "is_clash" jw f fd) (hm:mg "is_clash"=some (.ref f)) (H_together:Has P w K mg base CX0 "together" 1 Pg.zM) (H_is_taking:Has P w K mg base CX0 "is_taking" 3 Pg.uP) (HX_want_small_and_often:Has P w K mg base (CX1 P w) "want_small_and_often" 6 Pg.zf):Has P w K mg base (CX1 P w) "is_clash" 7 Pg.wv:= (vy F hm (F.binds (ps:=["lot","number","thing"]) (by trivial)) z0P rfl λcdv A outer s H E hr hc=> have hu:=hr.units;(zm (qh (xF HX_want_small_and_often hr z25 (aN (zc 0) (aN (zc 1) zh)))) (zm (vP (z3A (RW.rt (zbf (z1k (z35 (zdN (by decide) qT (by rfl) T.f9 (by rfl) T.f17 (zc 2)))) (z42 (xO (zaH hu) (zO z0k (by rfl) T.f10 qb (aN (zc 2) zh) (he:=(zr ..))) zB)))) (zA (yQ z7e)) wU)) (zm (vP (zfr (zc 2) (zdx 3 4 hc z0P.nd))) (zm (vP (z3A (RW.rt (zbf (z1k (z35 (xF H_is_taking hr zZ (aN (zc 0) (aN (zc 1) (aN (zc 3) zh)))))) (z42 (z1k (z35 (xF H_is_taking hr zZ (aN (zc 0) (aN (zc 1) (aN (zc 4) zh))))))))) (zA (yQ z7e)) wU)) (zA (vP (yQ (z71 (z0U (zed (_bU (_bG _ _) hu)) (zc 3) (zc 4)) (z8a (z0U (zaQ hu) (xF H_together hr zZ (aN (zc 3) (aN (zc 0) zh))) (xF H_together hr zZ (aN (zc 4) (aN (zc 0) zh))))))))))))))
theorem z0n (F:Fun K "first_clash" "first_clash" ug f fd) (hm:mg "first_clash"=some (.ref f)) (H_turned:Has P w K mg base CX0 "turned" 1 Pg.wC) (H_above:Has P w K mg base CX0 "above" 1 Pg.uS) (H_relations_within:Has P w K mg base CX0 "relations_within" 2 Pg.zg) (HX_want_small_and_often:Has P w K mg base (CX1 P w) "want_small_and_often" 6 Pg.zf):Has P w K mg base (CX1 P w) "first_clash" 7 Pg.ye:= (vy F hm (F.binds (ps:=["lot","number"]) (by trivial)) jn rfl λcdv A outer s H E hr hc=> have hu:=hr.units;(zm (qh (xF HX_want_small_and_often hr z25 (aN (zc 0) (aN (zc 1) zh)))) (zm (vP (zbI 2 ["line"] [none] jn.nd hc (jd (xF H_relations_within hr zZ (aN (zc 0) (aN (zc 1) zh)))) (λ_ _ _=>yf (i:=0) zf5 (by rfl) (by first | exact Or.inl rfl | exact Or.inr rfl)) (yz 0 (by rfl)) (λ_ _ _=>z2J (xO (zed (_bU (_bG _ _) hu)) (xF H_turned hr zZ (aN (zc 0) zh)) (zc 0))) (λ_ _ _=>(z0j (aQ (xF H_above hr zZ (aQ (xF H_turned hr zZ (aN (zc 0) zh)) zh) (he:=(jI ..))) (aQ (xF H_above hr zZ (aN (zc 0) zh)) zh)))))) (zA (vP (yQ (zeS (by exact hc) (zc 2) z8E (by rfl) T.f13 z1x)))))))
theorem kB (F:Fun K "least_length" "least_length" vH f fd) (hm:mg "least_length"=some (.ref f)) (H_length:Has P w K mg base CX0 "length" 1 Pg.yy) (HX_by_length:Has P w K mg base (CX1 P w) "by_length" 7 Pg.yo):Has P w K mg base (CX1 P w) "least_length" 8 Pg.yh:= (vy F hm (F.binds (ps:=["lot"]) (by trivial)) z15 rfl λcdv A outer s H E hr hc=> have hu:=hr.units;(zA (yQ (xF H_length hr z6D (aS (z6o (xF HX_by_length hr z25 (aN (zc 0) zh)) zB) zh) (he:=(z36 ..))))))
theorem z3b (F:Fun K "_law_told" "_law_told" qr f fd) (hm:mg "_law_told"=some (.ref f)) (KS:∀c∈rsX,zfb K mg c "DrawError") (H__law_kind_of:zfe P w K mg base CX0 "_law_kind_of" 1 zR) (HX_by_weight:Has P w K mg base (CX1 P w) "by_weight" 6 Pg.zQ) (HX_by_length:Has P w K mg base (CX1 P w) "by_length" 7 Pg.yo) (HX_least_weight:Has P w K mg base (CX1 P w) "least_weight" 7 Pg.yg) (HX_has_none:Has P w K mg base (CX1 P w) "has_none" 7 Pg.xS) (HX_is_clash:Has P w K mg base (CX1 P w) "is_clash" 7 Pg.wv) (HX_first_clash:Has P w K mg base (CX1 P w) "first_clash" 7 Pg.ye) (HX_least_length:Has P w K mg base (CX1 P w) "least_length" 8 Pg.yh):Has P w K mg base CX0 "_law_told" 9 zp:= (wt F hm (F.binds (ps:=["_law_way","_law_lot","_law_number"]) (by trivial)) z02 rfl λcdv A outer s H E hr hc=> have hu:=hr.units;(zm (zdh rfl rfl rfl KS (by rfl) z02.nd (by rfl) (by rfl) (λpn xe E1 hp=>(zA (z3A (xO zh6 (zc 0) zB) (zA (qh (z8W (n:=8) (uw (Has.mono HX_by_weight (by decide)) (uw (Has.mono HX_by_length (by decide)) (uw (Has.mono HX_least_weight (by decide)) (uw (Has.mono HX_least_length (by decide)) z5H)))) (hr.mono (by decide)) hp (z6o (qt (wT (z76 HX_by_weight (by rfl)) (wT (z76 HX_by_length (by rfl)) (wT (z76 HX_least_weight (by rfl)) (wT (z76 HX_least_length (by rfl)) zh (zr ..)) (zr ..)) (zr ..)) (zr ..))) (zc 0)) (aN (zc 1) zh) (he:=(zr ..))))) (zA (z3A (xO (zaQ hu) (zc 0) zB) (zA (qh (xF HX_is_clash hr hp (aN (zc 1) (aN (zc 2) (aK z8E zh)))))) (zA (qh (z8W (n:=8) (uw (Has.mono HX_has_none (by decide)) (uw (Has.mono HX_first_clash (by decide)) z5H)) (hr.mono (by decide)) hp (z6o (qt (wT (z76 HX_has_none (by rfl)) (wT (z76 HX_first_clash (by rfl)) zh (zr ..)) (zr ..))) (yd z9P (zc 0) zB)) (aN (zc 1) (aN (zc 2) zh)) (he:=(zr ..)))))))))) (λe pn=>(zA (yQ (zcH H__law_kind_of (zgd (hr.h.mono (by decide))) zZ (by rfl) (aN (zc 3) zh) (he:=(zr ..))))))) (zA (yQ ue)))).tidy
theorem z6p (F:Fun K "law" "law" z2f f fd) (hm:mg "law"=some (.ref f)) (H__law_cell_at:Has P w K mg base CX0 "_law_cell_at" 1 Pg.yS) (H__law_pot:Has P w K mg base CX0 "_law_pot" 1 Pg.vj) (H__law_take:Has P w K mg base CX0 "_law_take" 1 Pg.zo) (H__law_no_lot:Has P w K mg base CX0 "_law_no_lot" 2 yx) (H__law_small_lot:Has P w K mg base CX0 "_law_small_lot" 2 Pg.yR) (H__law_told:Has P w K mg base CX0 "_law_told" 9 zp):z3C P w K mg base CX0 10 f fd ["_law_script"] (zaK ⟨mg,K⟩ zcs):= zdO F jm rfl λcdv A outer s H E hr hc=> have hu:=hr.units;(zm (z6W _a7 hc (jz (by rfl) T.f14 (aQ (zO (zbl (by exact hc)) (by rfl) T.f12 z0Y (aK zB (aQ (zO (zeg (by exact hc)) (by rfl) T.f13 z1x (aQ (zO z0k (by rfl) T.f10 qb (aN (zc 0) zh) (he:=(zr ..))) (aK zB zh)) (he:=(jI ..))) zh)) (he:=(z2u ..))) zh)) (z2z 1 jm.nd) (zm (xE 2 jm.nd (xF H__law_pot hr zZ (aQ (xF H__law_cell_at hr zZ (aN (zc 0) (aN (zc 1) zh))) zh) (he:=(jI ..)))) (zm (xE 3 jm.nd (xF H__law_small_lot hr zZ (aN (zc 2) (aB (yd vE zB (xF H__law_take hr zZ (aN (zc 2) (aK zB zh)))) zh)))) (zm (xE 4 jm.nd (xF H__law_no_lot hr zZ (aN (zc 2) (aN (zc 3) zh)))) (zm (xE 5 jm.nd (xF H__law_take hr zZ (aN (zc 2) (aQ (zO z0k (by rfl) T.f10 qb (aN (zc 3) zh) (he:=(zr ..))) zh)))) (zm (xE 6 jm.nd (yd vE (yd vE (qG (zc 3) z03 (z0d (zc 5))) (z0j (aS (z6o (qt (aK zB (aB (yd z9N zB zB) (aK zB zh)))) (xF H__law_take hr zZ (aN (zc 2) (aK zB zh)))) zh))) (qG (zc 3) (z0d (yd vE (zc 5) zB)) z03))) (zm (xE 7 jm.nd (z6o (qt (aK zB (aK zB (aU (z6A zB) (aK z7e (aK z8E (aK ue (aT (z0j (aK zB zh)) (aB (yd z9N zB zB) zh))))))))) (xF H__law_take hr zZ (aN (zc 2) (aK zB zh))))) (zm (z6W _a7 hc (jz (by rfl) T.f14 (aK zB zh)) (z2z 8 jm.nd) (zm (z3A (RW.rt (zbf (xO (zaH hu) (xF H__law_told hr zZ (aN (zc 8) (aN (zc 4) (aN (zc 7) zh)))) ue) (z42 (xO (zaH hu) (xF H__law_told hr zZ (aN (zc 8) (aN (zc 6) (aN (zc 7) zh)))) ue)))) (zA (yQ z7e)) wU) (zA (z3A (RW.rt (zbf (xO (zaH hu) (xF H__law_told hr zZ (aN (zc 8) (aN (zc 4) (aK zB zh)))) ue) (z42 (xO (zaH hu) (xF H__law_told hr zZ (aN (zc 8) (aN (zc 6) (aK zB zh)))) ue)))) (zA (yQ z7e)) wU)))) (zA (z3A (xO (zaH hu) (xB ["_law_lot","_law_bad","_law_way"] [some 3,some 7,none] (by exact hc) (z66 (by rfl) T.f14 (aK zB (aK zB zh))) (λ_ _ _=>yf (i:=2) zhK (by rfl) (by first | exact Or.inl rfl | exact Or.inr rfl)) (yz 2 (by rfl)) (λ_ _ _=>xW) (λ_ _ _=>(xF H__law_told hr zZ (aN (zc 2) (aN (zc 0) (aN (zc 1) zh)))))) (yd zcx (qt (aK ue zh)) zB)) (zA (yQ z7e)) wU)))))))))) (zm (xE 9 jm.nd (yd vE (xB ["_law_way"] [none] (by exact hc) (jz (by rfl) T.f14 (aK zB zh)) (λ_ _ _=>yf (i:=0) zgF (by rfl) (by first | exact Or.inl rfl | exact Or.inr rfl)) (yz 0 (by rfl)) (λ_ _ _=>xW) (λ_ _ _=>(xF H__law_told hr zZ (aN (zc 0) (aT (z0j (aK zB (aK zB zh))) (aK zB zh)))))) (xB ["_law_way"] [none] (by exact hc) (jz (by rfl) T.f14 (aK zB zh)) (λ_ _ _=>yf (i:=0) zgF (by rfl) (by first | exact Or.inl rfl | exact Or.inr rfl)) (yz 0 (by rfl)) (λ_ _ _=>xW) (λ_ _ _=>(xF H__law_told hr zZ (aN (zc 0) (aT (z0j (aK zB (aK zB zh))) (aK zB zh)))))))) (zA (yQ (z0U (zaQ hu) (zc 9) (yd zcx (qt (aK ue zh)) zB))))))
end
end K53
namespace Pr
open L2 Dd Pm Pg Pn Po
theorem z2M:∀(F:List (List Int)),D.flat.flats (F.map rD)=true
 | []=>rfl | r::T=>by
  have:=z2M T;simp[D.flat.flats,D.flat,this,qZ]
end Pr
namespace Pt
open L2 Dd Pm Pg Pn Po Pr
theorem len_sub {α:Type}:∀{l m:List α},l.Nodup->(∀x∈l,x∈m)->l.length<=m.length
 | [],m,_,_=>_aA _ | a::l,m,nd,h=>by
  obtain⟨h1,h2⟩:=_bO.mp nd;obtain⟨p,q,rfl⟩:=List.append_of_mem (h a (.head _));have:=len_sub (l:=l) (m:=p++q) h2 λx hx=>by
   have z:=h x (.tail _ hx);have ne:x≠a:=λe=>h1 (e ▸ hx);rcases _B.mp z with z | z;·exact _ai _ z
   ·rcases _n.mp z with z | z;·exact absurd z ne
    ·exact _s _ z
  simp only[_y,_c]at this ⊢;omega
end Pt
namespace Pp
open L2 Dd
open Pm Pg
open Pn
theorem z6S{x a b:Int}(h1:a<=x)(h2:x<=b)(s:Sto):xZ [.int x,.int a,.int b] s=.ok .non s:=by
 have w:yu [.int x] s=.ok (.bl true) s:=jH (by rfl) s;have st:zt ["thing","least","most"] [.int x,.int a,.int b]=[some (.int x),some (.int a),some (.int b)]:=rfl;simp only[xZ,Mof,jo,st,_c,_i,_C];rw[qw,z9M];·rfl
 ·refine zal (zcw (vL ?_)) (zcw (vL ?_));·rw[yr (x:=.int x) (by simp)];exact w
  ·simp[h1,h2]
end Pp
namespace Pr
open L2 Dd Pm Pg Pn Po Pp
end Pr
namespace Pt
open L2 Dd Pm Pg Pn Po Pr Pp
end Pt
namespace Pv
open L2 Dd Pm Pg Pn Po Pr Pp Pt
noncomputable def z6Q(m:Nat):List Int:=(List.range (2*m+1)).map λk:Nat=>-(m:Int)+((k:Nat):Int)
theorem z68{m:Nat}{x:Int}:x∈z6Q m ↔ x.natAbs<=m:=by
 unfold z6Q;rw[_I];constructor
 ·rintro⟨k,hk,rfl⟩;rw[_bc]at hk;omega
 ·intro h;exact⟨(x+m).toNat,by rw[_bc];omega,by omega⟩
theorem zcR(m:Nat):(z6Q m).Pairwise (· < ·):=by
 unfold z6Q;rw[_b1];exact List.pairwise_lt_range.imp λ{a b} h=>by omega
noncomputable def box(n m:Nat):List (List Int):=qk (List.replicate n (z6Q m))
theorem z9S(n m:Nat):box (n+1) m=zaI (box n m) (z6Q m):=by
 unfold box;rw[List.replicate_succ',qV]
theorem z14 {n m:Nat}:(box n m).length<=(2*m+1) ^ n:=by
 have:=z4I (List.replicate n (z6Q m)) (k:=2*m+1) λc hc=>by rw[_aN hc];simp[z6Q]
 simpa[box] using this
theorem z4F(n m:Nat):Up (box n m):=z9f _ λc hc=>by rw[_aN hc];exact zcR m
theorem xh{n m:Nat}{v:List Int}:v∈box n m ↔ v.length=n/\∀x∈v,x.natAbs<=m:=by
 unfold box;rw[z1f,_bw];constructor
 ·rintro⟨h1,h2⟩;refine⟨h1,λx hx=>?_⟩;obtain⟨i,hi,rfl⟩:=_aj.mp hx;have:=h2 i (by omega);rw[show v.getD i 0=v[i] by simp[_R,hi],show (List.replicate n (z6Q m)).getD i []=z6Q m by simp[_R,show i<n by omega]]at this;exact z68.mp this
 ·rintro⟨h1,h2⟩;refine⟨h1,λi hi=>?_⟩;rw[show (List.replicate n (z6Q m)).getD i []=z6Q m by simp[_R,hi]];exact z68.mpr (h2 _ (Pm.getD_mem (by omega)))
theorem z48 {n m:Nat} (hn:n<=4) (hm:m<=40000) (hs:(2*m+1) ^ n<=90000) (s:Sto):zN [.int n,.int (-(m:Int)),.int m] s=.ok (.lst ((box n m).map rD)) s:=by
 have f1:yX [some (.int n),some (.int (-(m:Int))),some (.int m),none,none] s=.ok (.nx [some (.int n),some (.int (-(m:Int))),some (.int m),some (.lst ((box 0 m).map rD)),none]) s:=by
  rw[yX,yq,jY,zJ,z0M,xq];simp[cap,box,qk]
 obtain⟨ρ',S',lp,a4,hρ,rfl⟩:=kj (all:=(List.range n).map λk:Nat=>D.int ((k:Nat):Int)) (body:=λx ρ s=>(xM 4 x ρ s).bind fun ρ' s'=>yY ρ' s') (λi ρ S'=>∃a4,ρ=[some (.int n),some (.int (-(m:Int))),some (.int m),some (.lst ((box i m).map rD)),a4]/\S'=s) ((List.range n).map λk:Nat=>D.int ((k:Nat):Int)) 0 (by
   intro i x hx ρ S' ⟨a4,hρ,hS⟩;subst hρ hS;rw[_S];have hi:i<n:=by have:=(_b.mp hx).1;simpa using this
   have eg:((box i m).flatMap λa=>(List.range (2*m+1)).map λk=>rD (a++[-(m:Int)+((k:Nat):Int)]))=(box (i+1) m).map rD:=by
    rw[z9S,zaI,List.map_flatMap,z6Q];simp[_aF]
   have c:=z8j (fi:=yw (zd 3)) (mp:=[some 1,some 2,none,none]) (k1:=2) (k2:=3) (fi2:=z5c (za (zd 0) (za (eOp ud (zd 1) (eC (.int 1))) zk))) (fe:=eOp ud (zd 2) (kJ (za (zd 3) zk))) (ρ:=[some (.int n),some (.int (-(m:Int))),some (.int m),some (.lst ((box i m).map rD)),some x]) (s:=S') rD (λ_ (k:Nat)=>D.int (-(m:Int)+((k:Nat):Int))) (box i m) (λ_=>List.range (2*m+1)) (λa k=>rD (a++[-(m:Int)+((k:Nat):Int)])) (wY (vr rfl)) (λa _=>by
     rw[zbY,zJ,vr (d:=.int (-(m:Int))) rfl,Rb,zJ,op2 (x:=.int m) (y:=.int 1) (vr rfl) rfl,z5U,Rb,xq];simp only[Rb];rw[_g (by omega),show ((m:Int)+1 - -(m:Int)).toNat=2*m+1 by omega];rfl) (λa ha k _=>by
     have la:=(xh.mp ha).1;rw[op2 (x:=rD a) (y:=rD [-(m:Int)+(k:Int)]) (vr rfl) (by
      rw[z0M,zJ,vr (d:=.int (-(m:Int)+(k:Int))) rfl,Rb,xq];simp[cap]),z18,_g (by simp[cap];omega)];simp) (by
     rw[eg,_x];have h1:=z14 (n:=i+1) (m:=m);have h2:(2*m+1) ^ (i+1)<=(2*m+1) ^ n:=_a9 (by omega) (by omega);have:(90000:Nat)<=cap:=by unfold cap;omega
     omega);rw[eg]at c;refine⟨[some (.int n),some (.int (-(m:Int))),some (.int m),some (.lst ((box (i+1) m).map rD)),some x],S',?_,some x,rfl,rfl⟩;rw[z4z,Rb];show yY [some (.int n),some (.int (-(m:Int))),some (.int m),some (.lst ((box i m).map rD)),some x] S'=_;rw[yY,yq,c];rfl) [some (.int n),some (.int (-(m:Int))),some (.int m),some (.lst ((box 0 m).map rD)),none] s ⟨none,rfl,rfl⟩;rw[_S,_x,List.length_range]at hρ;have f2:yU [some (.int n),some (.int (-(m:Int))),some (.int m),some (.lst ((box 0 m).map rD)),none] S'=.ok (.nx ρ') S':=by
  rw[yU,z2C,z0J (n:=n) (s1:=S') (by omega) (by rw[zJ,vr (d:=.int n) rfl,Rb,xq];rfl),Rb];exact lp
 have key:∀(dn dz dm d0 d:D) (a4:Option D),yX [some dn,some dz,some dm,none,none] S'=.ok (.nx [some dn,some dz,some dm,some d0,none]) S'->yU [some dn,some dz,some dm,some d0,none] S'=.ok (.nx [some dn,some dz,some dm,some d,a4]) S'->zN [dn,dz,dm] S'=.ok d S':=λdn dz dm d0 d a4 h1 h2=>by
  have st:zt ["size","least","most","found","place"] [dn,dz,dm]=[some dn,some dz,some dm,none,none]:=rfl;simp only[zN,Mof,uo,st,_c,_i,_C];rw[zD h1,zD h2];rfl
 rw[hρ]at f2;exact key _ _ _ _ _ _ f1 f2
noncomputable def wgt(x:List Int):Int:=maxL (x.map λi=>((i.natAbs:Nat):Int))
noncomputable def lng(x:List Int):Int:=(x.map λi=>((i.natAbs:Nat):Int)).sum
theorem z5Q {x:List Int} (hl:x.length<=1000) (s:Sto):zV (yw (zd 0)) [none] (xM 0) xT (ze z9b (za (zd 0) zk)) [some (rD x)] s=.ok (.lst (iL (x.map λi=>((i.natAbs:Nat):Int)))) s:=by
 have:=comp_map (ρ:=[some (rD x)]) (mp:=[none]) (fg:=xM 0) (fe:=ze z9b (za (zd 0) zk)) (s:=s) (fi:=yw (zd 0)) D.int (λi:Int=>D.int ((i.natAbs:Nat):Int)) (λi=>[some (.int i)]) x (z3o (vr rfl)) (λi _=>rfl) (λi _=>by rw[yr (x:=.int i) (vr rfl)];simp only[z9b];congr 2;split<;>omega) (by simp[cap];omega);rw[this];simp[_aF]
theorem z0A{x:List Int}(h0:x≠[])(hl:x.length<=1000)(s:Sto):yB [rD x] s=.ok (.int (wgt x)) s:=by
 have key:∀(d:D)(ns:List Int),ns≠[]->zV (yw (zd 0)) [none] (xM 0) xT (ze z9b (za (zd 0) zk)) [some d] s=.ok (.lst (iL ns)) s->yB [d] s=.ok (.int (maxL ns)) s:=λd ns hn h=>by
  have st:zt ["line"] [d]=[some d]:=rfl;simp only[yB,Mof,z3X,st,_c,_i,_C];rw[z2p,wg,yr h,zdq s hn];rfl
 exact key _ _ (by simpa using h0) (z5Q hl s)
theorem z0E{x:List Int}(hl:x.length<=1000)(s:Sto):yy [rD x] s=.ok (.int (lng x)) s:=by
 have key:∀(d:D)(ns:List Int),zV (yw (zd 0)) [none] (xM 0) xT (ze z9b (za (zd 0) zk)) [some d] s=.ok (.lst (iL ns)) s->yy [d] s=.ok (.int ns.sum) s:=λd ns h=>by
  have st:zt ["line"] [d]=[some d]:=rfl;simp only[yy,Mof,z3O,st,_c,_i,_C];rw[z2o,wg,yr h,zaY];rfl
 exact key _ _ (z5Q hl s)
theorem zaA{x:List Int}{i:Int}(h:i∈x):(i.natAbs:Int)<=wgt x:=maxL_ge _ (_I.mpr ⟨i,h,rfl⟩)
theorem z46{x:List Int}(h:x≠[]):∃i∈x,wgt x=((i.natAbs:Nat):Int):=by
 have:=maxL_mem (show (x.map λi=>((i.natAbs:Nat):Int))≠[] by simpa using h);obtain⟨i,hi,e⟩:=_I.mp this;exact⟨i,hi,e.symm⟩
theorem z69{x:List Int}{m:Nat}(h:x≠[]):wgt x<=(m:Int) ↔ ∀i∈x,i.natAbs<=m:=by
 constructor
 ·intro q i hi;have:=zaA hi;omega
 ·intro q;obtain⟨i,hi,e⟩:=z46 h;have:=q i hi;omega
theorem zdL{x:List Int}(h:x≠[]):0<=wgt x:=by
 obtain⟨i,_,e⟩:=z46 h;omega
def ent(k:Int)(ys:List D):Option (List D×Bool)->Prop
 | none=>ys=[] | some (zs,_)=>ys=zs/\ys≠[]
structure Grp(f:Int->List D)(xs:List D):Prop where get:∀k,∃o,xx k xs=some o/\ent k (f k) o
structure zd6(f:Int->List D)(xs:List D):Prop where get:∀k,(f k=[]/\xx k xs=some none)\/(f k≠[]/\xx k xs=some (some (f k,false)))
theorem zd6.grp{f:Int->List D}{xs:List D}(h:zd6 f xs):Grp f xs:=⟨λk=>by
 rcases h.get k with⟨h1,h2⟩ | ⟨h1,h2⟩;·exact⟨_,h2,h1⟩
 ·exact⟨_,h2,rfl,h1⟩⟩
theorem vD {k j:Int} {d:D}:∀{xs:List D},xx j xs=some none->xx k (xs++[.tup [.int j,.lst [d]]])=(if j=k then some (some ([d],false)) else xx k xs)\/xx k xs=none
 | [],h=>by simp[xx] | x::xs,h=>by
  unfold xx at h;split at h;·cases ‹x::xs=[]›
  ·rename_i i ys t e;cases e;split at h;·simp at h
   ·rename_i ne;rcases vD (k:=k) (d:=d) h with q | q
    ·left;simp only[_X,xx];by_cases c:i=k
     ·rw[_g c,_g c];by_cases c2:j=k;·omega
      ·rw[_l c2]
     ·rw[_l c,_l c,q]
    ·by_cases c:i=k
     ·left;simp only[_X,xx];rw[_g c,_g c,_l (by omega)]
     ·right;simp only[xx];rw[_l c,q]
  ·rename_i i ys t e;cases e;split at h;·simp at h
   ·rename_i ne;rcases vD (k:=k) (d:=d) h with q | q
    ·left;simp only[_X,xx];by_cases c:i=k
     ·rw[_g c,_g c];by_cases c2:j=k;·omega
      ·rw[_l c2]
     ·rw[_l c,_l c,q]
    ·by_cases c:i=k
     ·left;simp only[_X,xx];rw[_g c,_g c,_l (by omega)]
     ·right;simp only[xx];rw[_l c,q]
  ·simp at h
theorem z0T {k j:Int} {d:D} {ys:List D}:∀{xs:List D},xx j xs=some (some (ys,false))->xx k (vY j d xs)=(if j=k then some (some (ys++[d],false)) else xx k xs)
 | [],h=>by simp[xx]at h | x::xs,h=>by
  unfold xx at h;split at h;·cases ‹x::xs=[]›
  ·rename_i i zs t e;cases e;split at h
   ·rename_i c;subst c;simp only[_E,_bL,and_true]at h;subst h;simp only[vY,_C,xx];split<;>rfl
   ·rename_i ne;have q:=z0T (k:=k) (d:=d) h;simp only[vY];rw[_l ne];simp only[xx,q];by_cases c:i=k;·rw[_g c,_l (by omega),_g c]
    ·rw[_l c,_l c]
  ·rename_i i zs t e;cases e;split at h;·simp at h
   ·rename_i ne;have q:=z0T (k:=k) (d:=d) h;simp only[vY,xx,q];by_cases c:i=k;·rw[_g c,_l (by omega),_g c]
    ·rw[_l c,_l c]
  ·simp at h
theorem z0B{j:Int}{d:D}:∀{xs:List D},(vY j d xs).length=xs.length
 | []=>rfl | x::xs=>by
  unfold vY;split
  ·rename_i i ys t e;cases e;split;·rfl
   ·simp[z0B (xs:=xs)]
  ·rename_i e;cases e;simp[z0B (xs:=xs)]
  ·rename_i h;cases h
theorem z3q{k j:Int}{ys:List D}:∀{xs:List D},xx j xs=some (some (ys,false))->xx k (z4U j xs)=(if j=k then some (some (ys,true)) else xx k xs)
 | [],h=>by simp[xx]at h | x::xs,h=>by
  unfold xx at h;split at h;·cases ‹x::xs=[]›
  ·rename_i i zs t e;cases e;split at h
   ·rename_i c;subst c;simp only[_E,_bL,and_true]at h;subst h;simp only[z4U,_C,xx];split<;>rfl
   ·rename_i ne;have q:=z3q (k:=k) h;simp only[z4U];rw[_l ne];simp only[xx,q];by_cases c:i=k;·rw[_g c,_l (by omega),_g c]
    ·rw[_l c,_l c]
  ·rename_i i zs t e;cases e;split at h;·simp at h
   ·rename_i ne;have q:=z3q (k:=k) h;simp only[z4U,xx,q];by_cases c:i=k;·rw[_g c,_l (by omega),_g c]
    ·rw[_l c,_l c]
  ·simp at h
theorem ze0{j:Int}{xs:List D}(h:xs≠[]):z4U j xs≠[]:=by cases xs with
 | nil=>exact absurd rfl h | cons x xs=>
  unfold z4U;split;·split<;>simp
  ·simp
  ·rename_i h;cases h
noncomputable def zeb(f:Int->List D)(j:Int)(d:D):Int->List D:=λk=>if j=k then f k++[d] else f k
theorem zcY {f:Int->List D} {xs:List D} (g:zd6 f xs) {fo fk:FE} {i:Nat} {ρ:Ev} {s:Sto} {l:Nat} {j:Int} {d:D} (ho:fo ρ s=.ok (.dlo l) s) (hl:s[l]? = some xs) (hk:fk ρ s=.ok (.int j) s) (hd:ρ[i]? = some (some d)) (hf:d.flat=true) (hc:xs.length<cap) (hn:(f j).length<cap): ∃ys,z6O fo fk i ρ s=.ok .non (s.set l ys)/\zd6 (zeb f j d) ys/\ys.length<=xs.length+1/\ys≠[]:=by
 have nn:∀t,xs≠.non::t:=λt e=>by rcases g.get 0 with⟨_,h⟩ | ⟨_,h⟩<;>rw[e]at h<;>simp[xx]at h
 have un:z6O fo fk i ρ s=(match xx j xs with
    | some none=>if d.flat=true/\xs.length<cap then .ok .non (s.set l (xs++[.tup [.int j,.lst [d]]])) else .no | some (some (ys,false))=>if d.flat=true/\ys.length<cap/\xs.length<cap then .ok .non (s.set l (vY j d xs)) else .no | _=>.no):=by
  unfold z6O;rw[ho,Rb];simp only[hl];split
  ·rename_i t e;simp only[_E]at e;exact absurd e (nn _)
  ·rw[hk,Rb];simp only[hl,hd]<;>rfl
 rw[un];rcases g.get j with⟨h1,h2⟩ | ⟨h1,h2⟩
 ·rw[h2];simp only;rw[_g ⟨hf,hc⟩];refine⟨_,rfl,⟨λk=>?_⟩,by simp,by simp⟩;have q:=vD (k:=k) (d:=d) h2;unfold zeb;by_cases c:j=k
  ·subst c;rw[_g rfl,h1];right;rcases q with q | q;·rw[q,_g rfl];exact⟨by simp,rfl⟩
   ·rw[h2]at q;cases q
  ·rw[_l c];rcases q with q | q;·rw[q,_l c];exact g.get k
   ·rcases g.get k with⟨_,z⟩ | ⟨_,z⟩<;>rw[z]at q<;>cases q
 ·rw[h2];simp only;rw[_g ⟨hf,hn,hc⟩];refine⟨_,rfl,⟨λk=>?_⟩,by rw[z0B];omega,λz=>?_⟩
  ·have q:=z0T (k:=k) (d:=d) h2;unfold zeb;rw[q];by_cases c:j=k
   ·subst c;rw[_g rfl,_g rfl];right;exact⟨by simp,rfl⟩
   ·rw[_l c,_l c];exact g.get k
  ·have:=_aJ List.length z;rw[z0B]at this;have e:xs=[]:=_cj this;rw[e]at h2;simp[xx]at h2
theorem zaa{f:Int->List D}{xs:List D}(g:Grp f xs){fo fk:FE}{ρ:Ev}{s:Sto}{l:Nat}{j:Int}(ho:fo ρ s=.ok (.dlo l) s)(hl:s[l]? = some xs)(hk:fk ρ s=.ok (.int j) s)(ne:xs≠[]): ∃ys,z2c fo fk ρ s=.ok (.lst (f j)) (s.set l ys)/\Grp f ys/\ys≠[]:=by
 obtain⟨x,t,rfl⟩:∃x t,xs=x::t:=by cases xs with
  | nil=>exact absurd rfl ne | cons x t=>exact⟨x,t,rfl⟩
 have same:s.set l (x::t)=s:=by
  obtain⟨h1,h2⟩:=_b.mp hl;rw[<- h2];exact List.set_getElem_self h1
 unfold z2c;rw[ho,Rb];simp only;rw[hk,Rb];simp only[hl];obtain⟨o,h1,h2⟩:=g.get j;rw[h1];match o,h2 with
 | none,h2=>
  rw[show f j=[] from h2];exact⟨x::t,by rw[same],g,by simp⟩ | some (zs,true),h2=>
  rw[h2.1];exact⟨x::t,by rw[same],g,by simp⟩ | some (zs,false),h2=>
  rw[h2.1];refine⟨_,rfl,⟨λk=>?_⟩,ze0 (by simp)⟩;rw[z3q h1];by_cases c:j=k
  ·subst c;rw[_g rfl];exact⟨_,rfl,h2⟩
  ·rw[_l c];exact g.get k
end Pv
namespace Pt
open L2 Dd Pm Pg Pn Po Pr Pp
theorem zbN{α:Type}{fi:FI}{mp:List (Option Nat)}{fg:FG}{ft:FT}{fe:FE}{ρ:Ev}{s s1:Sto}(g f:α->D)(p:α->Bool)(ev:α->Ev)(l:List α) (hi:fi ρ s=.ok (l.map g,[]) s1)(hg:∀a∈l,fg (g a) (yb mp ρ) s1=.ok (ev a) s1)(ht:∀a∈l,ft (ev a) s1=.ok (p a) s1)(he:∀a∈l,p a=true->fe (ev a) s1=.ok (f a) s1)(hl:l.length<=cap): zV fi mp fg ft fe ρ s=.ok (.lst ((l.filter p).map f)) s1:=by
 rw[kq,kM,hi,Rb];rw[qA g f p l [] (by
  intro a ha;simp only[hg a ha,ht a ha,Rb];cases hp:p a with
  | true=>simp[he a ha hp] | false=>simp) (by simpa using hl)];rfl
theorem z1Z:LeM xZ zK:=LeM.mof (LeS.if_ LeS.fNo LeS.rfl)
end Pt
namespace Pv
open L2 Dd Pm Pg Pn Po Pr Pp Pt
theorem kD{α:Type}{G:List (Nat×List D)}{all:List D}{s:Sto}{body:D->Sto->R (Option D)}(og:okG G all s)(g f:α->D)(p:α->Bool):∀(l:List α)(acc:List D),(∀a∈l,body (g a) s=.ok (if p a=true then some (f a) else none) s)->acc.length+l.length<=cap->wq G all body (l.map g) acc s=.ok (acc++(l.filter p).map f) s
 | [],acc,_,_=>by simp[wq,og] | x::xs,acc,hb,hl=>by
  rw[_U,wq,_g og,hb x (by simp)];cases hp:p x with
  | true=>
   have ih:=kD (all:=all) og g f p xs (acc++[f x]) (λy hy=>hb y (by simp[hy])) (by simp at hl ⊢;omega);have hc:acc.length<cap:=by simp at hl;omega
   simp[hc,ih,hp] | false=>
   have ih:=kD (all:=all) og g f p xs acc (λy hy=>hb y (by simp[hy])) (by simp at hl ⊢;omega);simp[ih,hp]
theorem z8G{α:Type}{G:List (Nat×List D)}{fi:FI}{mp:List (Option Nat)}{fg:FG}{ft:FT}{fe:FE}{ρ:Ev}{s:Sto}(g f:α->D)(p:α->Bool)(ev:α->Ev)(l:List α) (hi:fi ρ s=.ok (l.map g,G) s)(og:okG G (l.map g) s)(hg:∀a∈l,fg (g a) (yb mp ρ) s=.ok (ev a) s)(ht:∀a∈l,ft (ev a) s=.ok (p a) s)(he:∀a∈l,p a=true->fe (ev a) s=.ok (f a) s)(hl:l.length<=cap): zV fi mp fg ft fe ρ s=.ok (.lst ((l.filter p).map f)) s:=by
 rw[kq,kM,hi,Rb];rw[kD og g f p l [] (by
  intro a ha;simp only[hg a ha,ht a ha,Rb];cases hp:p a with
  | true=>simp[he a ha hp] | false=>simp) (by simpa using hl)];rfl
noncomputable def z6j(v:List Int)(x:List Int):Int:=dot x (v.take (v.length / 2))
noncomputable def z9B(v:List Int)(x:List Int):Int:=dot x (v.drop (v.length / 2))
noncomputable def z7l(v:List Int)(P:List (List Int)):Int->List D:=λk=>(P.filter λx=>decide (z6j v x=k)).map rD
noncomputable def fnd(v:List Int)(F G:List (List Int)):List (List Int):=G.flatMap λg=>(F.filter λx=>decide (z6j v x=-z9B v g)).map λx=>x++g
noncomputable def z92(v x:List Int):Bool:=decide (dot x v=0)&&decide (0<wgt x)
noncomputable def rel(v:List Int)(m:Nat):List (List Int):=(box v.length m).filter (z92 v)
noncomputable def z6v(v:List Int)(m:Nat):List (List Int):=(box v.length m).filter λx=>decide (dot x v=0)
theorem z9X(v:List Int)(P:List (List Int))(x:List Int):zeb (z7l v P) (z6j v x) (rD x)=z7l v (P++[x]):=by
 funext k;unfold zeb z7l;rw[List.filter_append,List.map_append];by_cases c:z6j v x=k;·rw[_g c,List.filter_cons_of_pos (by simpa using c)];rfl
 ·rw[_l c,List.filter_cons_of_neg (by simpa using c)];simp
theorem z2r{v x g:List Int}(hx:x.length=v.length / 2):dot (x++g) v=z6j v x+z9B v g:=by
 conv=>lhs;rw[<- _at (v.length / 2) v]
 exact z2m (by rw[hx,_ak];omega)
theorem z7O{v:List Int}{m:Nat}{z:List Int}:z∈fnd v (box (v.length / 2) m) (box (v.length-v.length / 2) m) ↔ z∈z6v v m:=by
 simp only[fnd,z6v,_c5,_I,_W,_p];constructor
 ·rintro⟨g,hg,x,⟨hx,e⟩,rfl⟩;obtain⟨g1,g2⟩:=xh.mp hg;obtain⟨x1,x2⟩:=xh.mp hx;refine⟨xh.mpr ⟨by rw[_y];omega,λi hi=>?_⟩,?_⟩
  ·rcases _B.mp hi with hi | hi;·exact x2 i hi
   ·exact g2 i hi
  ·rw[z2r x1];omega
 ·rintro⟨hz,e⟩;obtain⟨z1,z2⟩:=xh.mp hz;have l1:(z.take (v.length / 2)).length=v.length / 2:=by rw[_ak];omega
  refine⟨z.drop (v.length / 2),xh.mpr ⟨by rw[_bf];omega,λi hi=>z2 i (_bD hi)⟩,z.take (v.length / 2),⟨xh.mpr ⟨l1,λi hi=>z2 i (_Z hi)⟩,?_⟩,_at _ _⟩;rw[<- _at (v.length / 2) z,z2r l1]at e;omega
theorem z8F{v:List Int}{m:Nat}:(fnd v (box (v.length / 2) m) (box (v.length-v.length / 2) m)).Nodup:=by
 unfold fnd;refine List.pairwise_flatMap.mpr ⟨λg hg=>?_,?_⟩
 ·rw[_b1];exact ((z4F _ _).nodup.filter _).imp λ{a b} h e=>h (List.append_cancel_right e)
 ·refine _bM (λ{a b} ha hb ne x hx y hy=>?_) (z4F (v.length-v.length / 2) m).nodup;obtain⟨p,hp,rfl⟩:=_I.mp hx;obtain⟨q,hq,rfl⟩:=_I.mp hy;have l1:=(xh.mp (_W.mp hp).1).1;have l2:=(xh.mp (_W.mp hq).1).1;exact λe=>ne (List.append_inj e (by omega)).2
theorem z3w{v:List Int}{m:Nat}:(fnd v (box (v.length / 2) m) (box (v.length-v.length / 2) m)).Perm (z6v v m):=(List.perm_ext_iff_of_nodup z8F ((z4F _ _).nodup.filter _)).mpr λz=>z7O
theorem z4G(v:List Int)(m:Nat):Up (rel v m):=(z4F _ _).filter _
theorem z7z(v:List Int)(m:Nat):rel v m=(z6v v m).filter λx=>decide (0<wgt x):=by
 unfold rel z6v;rw[List.filter_filter];refine List.filter_congr λx _=>?_;unfold z92;rw[Bool.and_comm]
theorem za0{v:List Int}{m:Nat}:z55 lexN ((fnd v (box (v.length / 2) m) (box (v.length-v.length / 2) m)).filter λx=>decide (0<wgt x))=rel v m:=by
 refine z64 z2U ?_ ((z4G v m).imp λ{a b} h=>?_)
 ·rw[z7z];exact (z3w.filter _).symm
 ·have ne:a≠b:=λe=>by rw[e,uH]at h;cases h
  rw[z3y ne,h];rfl
structure SmL(n:Nat)(v:List Int):Prop where
 len:v.length=n
 lo:2<=n
 hi:n<=4
 bd:∀x∈v,0<=x/\x<=1000
theorem SmL.big{n:Nat}{v:List Int}(h:SmL n v):∀x∈v,x.natAbs<2 ^ 10:=λx hx=>by have:=h.bd x hx;omega
noncomputable abbrev W7(a0 a1 a2 a3 a4 a5 a6:Option D):Ev:=[a0,a1,a2,a3,a4,a5,a6]
theorem z8t{n m:Nat}{x:List Int}(hx:x∈box n m)(hm:m<=40000):∀i∈x,i.natAbs<2 ^ 16:=λi hi=>by have:=(xh.mp hx).2 i hi;omega
section
variable {n m:Nat}{v:List Int}(L:SmL n v)(hm:m<=40000)(h1:(2*m+1) ^ (v.length / 2)<=90000)(h2:(2*m+1) ^ (v.length-v.length / 2)<=90000)(hf:(z6v v m).length<=90000)
include L hm h1 in
theorem zgu (dl dm:D) (hl:dl=rD v) (s:Sto):∃xs,∃a4,vG [] ((box (v.length / 2) m).map rD) (λd ρ s=>(xM 4 d ρ s).bind fun ρ' s'=>zT ρ' s') ((box (v.length / 2) m).map rD) (W7 (some dl) (some dm) (some (.int ((v.length / 2:Nat):Int))) (some (.dlo s.length)) none none none) (s++[[]]) = .ok (.nx (W7 (some dl) (some dm) (some (.int ((v.length / 2:Nat):Int))) (some (.dlo s.length)) a4 none none)) (s++[xs])/\zd6 (z7l v (box (v.length / 2) m)) xs/\xs≠[]:=by
 have bl:=z14 (n:=v.length / 2) (m:=m);have capn:(90000:Nat)<cap:=by unfold cap;omega
 have mid:v.length / 2<=2:=by have:=L.len;have:=L.hi;omega
 obtain⟨ρ',S',lp,a4,xs,hρ,hS,g,xl,xn⟩:=kj (all:=(box (v.length / 2) m).map rD) (body:=λd ρ s=>(xM 4 d ρ s).bind fun ρ' s'=>zT ρ' s') (λi ρ S=>∃a4 xs,ρ=W7 (some dl) (some dm) (some (.int ((v.length / 2:Nat):Int))) (some (.dlo s.length)) a4 none none/\S=s++[xs]/\zd6 (z7l v ((box (v.length / 2) m).take i)) xs/\xs.length<=i/\(0<i->xs≠[])) ((box (v.length / 2) m).map rD) 0 (by
   intro i d hd ρ S ⟨a4,xs,hρ,hS,g,xl,xn⟩;subst hρ hS;rw[_S]at g xl xn ⊢;rw[_ag,_M]at hd;obtain⟨x,ex,rfl⟩:=hd;have xm:x∈box (v.length / 2) m:=_f ex;have il:i<(box (v.length / 2) m).length:=(_b.mp ex).1;have tk:(box (v.length / 2) m).take (i+1)=(box (v.length / 2) m).take i++[x]:=by rw[List.take_succ,ex];rfl
   have xle:x.length<=2:=by rw[(xh.mp xm).1];exact mid
   have tg:zM [rD x,rD (v.take (v.length / 2))] (s++[xs])=.ok (.int (z6j v x)) (s++[xs]):=z2y (m:=16) (k:=10) _ (z8t xm hm) (λy hy=>L.big y (_Z hy)) (by omega) (by omega) (by omega);have sl:dSl dl none (some (((v.length / 2:Nat):Int))) (s++[xs])=.ok (rD (v.take (v.length / 2))) (s++[xs]):=by rw[hl,z11];simp[rD,List.map_take]
   have at1:(s++[xs])[s.length]? = some xs:=by simp
   have key:∀e:D,∀k,zM [e,rD (v.take (v.length / 2))] (s++[xs])=.ok (.int k) (s++[xs])->ze zM (za (zd 4) (za (eSl (zd 0) yP (uQ (zd 2))) zk)) (W7 (some dl) (some dm) (some (.int ((v.length / 2:Nat):Int))) (some (.dlo s.length)) (some e) none none) (s++[xs])=.ok (.int k) (s++[xs]):=λe k q=>by
    rw[call2 (x:=e) (y:=rD (v.take (v.length / 2))) (vr rfl) (by rw[z8I,vr (d:=dl) rfl,Rb,qE,Rb,z1r,vr (d:=.int ((v.length / 2:Nat):Int)) rfl,Rb];exact sl)];exact q
   have gl:(z7l v ((box (v.length / 2) m).take i) (z6j v x)).length<cap:=by
    unfold z7l;rw[_x];have:=_bx (λx'=>decide (z6j v x'=z6j v x)) ((box (v.length / 2) m).take i);rw[_ak]at this;omega
   obtain⟨ys,e,g',yl,yn⟩:=zcY g (fo:=zd 3) (fk:=ze zM (za (zd 4) (za (eSl (zd 0) yP (uQ (zd 2))) zk))) (i:=4) (ρ:=W7 (some dl) (some dm) (some (.int ((v.length / 2:Nat):Int))) (some (.dlo s.length)) (some (rD x)) none none) (s:=s++[xs]) (l:=s.length) (j:=z6j v x) (d:=rD x) (vr rfl) at1 (key _ _ tg) rfl (by simp[D.flat,qZ]) (by omega) gl;refine⟨_,_,?_,some (rD x),ys,rfl,rfl,?_,by omega,λ_=>yn⟩
   ·rw[z4z,Rb];show zT (W7 (some dl) (some dm) (some (.int ((v.length / 2:Nat):Int))) (some (.dlo s.length)) (some (rD x)) none none) (s++[xs])=_;rw[zT,xI,e,Rb,z52]
   ·rw[tk,<- z9X];exact g') (W7 (some dl) (some dm) (some (.int ((v.length / 2:Nat):Int))) (some (.dlo s.length)) none none none) (s++[[]]) ⟨none,[],rfl,rfl,⟨λk=>.inl ⟨by simp[z7l],rfl⟩⟩,by simp,λh=>absurd h (by omega)⟩;rw[_S,_x]at g xl xn;rw[_aW (_d _)]at g;refine⟨xs,a4,by rw[lp,hρ,hS],g,xn ?_⟩;have:List.replicate (v.length / 2) (0:Int)∈box (v.length / 2) m:=xh.mpr ⟨by simp,λi hi=>by rw[_aN hi];omega⟩;exact List.length_pos_of_mem this
end
theorem z6g(v:List Int)(F G:List (List Int))(g:List Int):fnd v F (G++[g])=fnd v F G++(F.filter λx=>decide (z6j v x=-z9B v g)).map λx=>x++g:=by
 unfold fnd;rw[List.flatMap_append];simp
theorem z4Z(v:List Int)(F G:List (List Int))(i:Nat):(fnd v F (G.take i)).length<=(fnd v F G).length:=by
 conv=>rhs;rw[<- _at i G]
 unfold fnd;rw[List.flatMap_append,_y];omega
theorem zbo{s:Sto}{xs ys zs:List D}:(s++[xs]++[zs]).set s.length ys=s++[ys]++[zs]:=by
 rw[_L,_L,List.set_append_right _ _ (_d _)];simp
section
variable {n m:Nat}{v:List Int}(L:SmL n v)(hm:m<=40000)(h1:(2*m+1) ^ (v.length / 2)<=90000)(h2:(2*m+1) ^ (v.length-v.length / 2)<=90000)(hf:(z6v v m).length<=90000)
include L hm h1 hf in
theorem za2 (dl dm:D) (hl:dl=rD v) (s:Sto) {xs:List D} (g0:Grp (z7l v (box (v.length / 2) m)) xs) (x0:xs≠[]) (a4:Option D):∃ys a6,vG [] ((box (v.length-v.length / 2) m).map rD) (λd ρ s=>(xM 6 d ρ s).bind fun ρ' s'=>zS ρ' s') ((box (v.length-v.length / 2) m).map rD) (W7 (some dl) (some dm) (some (.int ((v.length / 2:Nat):Int))) (some (.dlo s.length)) a4 (some (.loc (s.length+1))) none) (s++[xs]++[[]]) = .ok (.nx (W7 (some dl) (some dm) (some (.int ((v.length / 2:Nat):Int))) (some (.dlo s.length)) a4 (some (.loc (s.length+1))) a6)) (s++[ys]++[(fnd v (box (v.length / 2) m) (box (v.length-v.length / 2) m)).map rD]):=by
 have bl:=z14 (n:=v.length / 2) (m:=m);have capn:(90000:Nat)<cap:=by unfold cap;omega
 have vl:=L.len;have v2:=L.lo;have v4:=L.hi;have ft:(fnd v (box (v.length / 2) m) (box (v.length-v.length / 2) m)).length<=90000:=by rw[z3w.length_eq];exact hf
 obtain⟨ρ',S',lp,a6,ys,hρ,hS,g,yn⟩:=kj (all:=(box (v.length-v.length / 2) m).map rD) (body:=λd ρ s=>(xM 6 d ρ s).bind fun ρ' s'=>zS ρ' s') (λi ρ S=>∃a6 ys,ρ=W7 (some dl) (some dm) (some (.int ((v.length / 2:Nat):Int))) (some (.dlo s.length)) a4 (some (.loc (s.length+1))) a6/\S=s++[ys]++[(fnd v (box (v.length / 2) m) ((box (v.length-v.length / 2) m).take i)).map rD]/\Grp (z7l v (box (v.length / 2) m)) ys/\ys≠[]) ((box (v.length-v.length / 2) m).map rD) 0 (by
   intro i d hd ρ S ⟨a6,ys,hρ,hS,g,yn⟩;subst hρ hS;rw[_S];rw[_ag,_M]at hd;obtain⟨x,ex,rfl⟩:=hd;have xm:x∈box (v.length-v.length / 2) m:=_f ex;have tk:(box (v.length-v.length / 2) m).take (i+1)=(box (v.length-v.length / 2) m).take i++[x]:=by rw[List.take_succ,ex];rfl
   have xle:x.length<=4:=by rw[(xh.mp xm).1];omega
   have fl:=z4Z v (box (v.length / 2) m) (box (v.length-v.length / 2) m) (i+1);rw[tk,z6g,_y,_x]at fl;rw[tk,z6g];generalize hA:fnd v (box (v.length / 2) m) ((box (v.length-v.length / 2) m).take i)=A at fl;have sl:∀S:Sto,dSl dl (some (((v.length / 2:Nat):Int))) none S=.ok (rD (v.drop (v.length / 2))) S:=λS=>by rw[hl,z5v];simp[rD,List.map_drop]
   have tg:zM [rD x,rD (v.drop (v.length / 2))] (s++[ys]++[A.map rD])=.ok (.int (z9B v x)) (s++[ys]++[A.map rD]):=z2y (m:=16) (k:=10) _ (z8t xm hm) (λy hy=>L.big y (_bD hy)) (by omega) (by omega) (by omega);have key:∀e:D,∀k,zM [e,rD (v.drop (v.length / 2))] (s++[ys]++[A.map rD])=.ok (.int k) (s++[ys]++[A.map rD])->z4V (ze zM (za (zd 6) (za (eSl (zd 0) (uQ (zd 2)) yP) zk))) (W7 (some dl) (some dm) (some (.int ((v.length / 2:Nat):Int))) (some (.dlo s.length)) a4 (some (.loc (s.length+1))) (some e)) (s++[ys]++[A.map rD])=.ok (.int (-k)) (s++[ys]++[A.map rD]):=λe k q=>by
    rw[z5M,call2 (x:=e) (y:=rD (v.drop (v.length / 2))) (vr rfl) (by rw[z8I,vr (d:=dl) rfl,Rb,z1r,vr (d:=.int ((v.length / 2:Nat):Int)) rfl,Rb];simp only[Rb];rw[qE,Rb];exact sl _),q];rfl
   have at1:(s++[ys]++[A.map rD])[s.length]? = some ys:=by rw[_L,_G (_d _)];simp
   obtain⟨zs,e,g',zn⟩:=zaa g (fo:=zd 3) (fk:=z4V (ze zM (za (zd 6) (za (eSl (zd 0) (uQ (zd 2)) yP) zk)))) (ρ:=W7 (some dl) (some dm) (some (.int ((v.length / 2:Nat):Int))) (some (.dlo s.length)) a4 (some (.loc (s.length+1))) (some (rD x))) (s:=s++[ys]++[A.map rD]) (l:=s.length) (j:=-z9B v x) (vr rfl) at1 (key _ _ tg) yn;rw[zbo]at e;have gf:z7l v (box (v.length / 2) m) (-z9B v x)=((box (v.length / 2) m).filter λy=>decide (z6j v y=-z9B v x)).map rD:=rfl;have gm:∀y∈(box (v.length / 2) m).filter (λy=>decide (z6j v y=-z9B v x)),y.length<=4:=λy hy=>by rw[(xh.mp (_W.mp hy).1).1];omega
   rw[gf]at e;generalize (box (v.length / 2) m).filter (λy=>decide (z6j v y=-z9B v x))=B at e fl gm;have c:=zbN (s:=s++[ys]++[A.map rD]) (s1:=s++[zs]++[A.map rD]) (ρ:=W7 (some dl) (some dm) (some (.int ((v.length / 2:Nat):Int))) (some (.dlo s.length)) a4 (some (.loc (s.length+1))) (some (rD x))) (fi:=yw (z2c (zd 3) (z4V (ze zM (za (zd 6) (za (eSl (zd 0) (uQ (zd 2)) yP) zk)))))) (mp:=[some 6,none]) (fg:=xM 1) (ft:=xT) (fe:=eOp ud (zd 1) (zd 0)) rD (λy=>rD (y++x)) (λ_=>true) (λy=>[some (rD x),some (rD y)]) B (by rw[z13,e,Rb]) (λy _=>rfl) (λy _=>rfl) (λy hy _=>by
     have:=gm y hy;rw[op2 (x:=rD y) (y:=rD x) (vr rfl) (vr rfl),z18,_g (by simp[cap];omega),<- List.map_append]) (by omega);rw[show B.filter (λ_=>true)=B from _cy.mpr (by simp)]at c;have at2:(s++[zs]++[A.map rD])[s.length+1]? = some (A.map rD):=by rw[_G (by simp)];simp
   refine⟨W7 (some dl) (some dm) (some (.int ((v.length / 2:Nat):Int))) (some (.dlo s.length)) a4 (some (.loc (s.length+1))) (some (rD x)),_,?_,some (rD x),zs,rfl,rfl,g',zn⟩;rw[z4z,Rb];show zS (W7 (some dl) (some dm) (some (.int ((v.length / 2:Nat):Int))) (some (.dlo s.length)) a4 (some (.loc (s.length+1))) (some (rD x))) (s++[ys]++[A.map rD])=_;have fB:D.flat.flats (B.map λy=>rD (y++x))=true:=by
    have:=z2M (B.map λy=>y++x);rwa [_bn]at this
   have au:∀(f:FE) (ρ:Ev) (S S1:Sto) (l:Nat) (as bs:List D),ρ[5]? = some (some (.loc l))->f ρ S=.ok (.lst bs) S1->S1[l]? = some as->D.flat.flats bs=true->as.length+bs.length<=cap->z8d 5 f ρ S=.ok (.nx (ρ.set 5 (some (.loc l)))) (S1.set l (as++bs)):=λf ρ S S1 l as bs e1 e2 e3 e4 e5=>by
    unfold z8d;simp only[e1,e2,Rb,e3];rw[_g ⟨e4,e5⟩]
   rw[zS,au _ _ _ _ (s.length+1) _ _ rfl c at2 fB (by simp only[_x];omega)];rw[show s.length+1=(s++[zs]).length by simp,z52,List.map_append,_bn];rfl) (W7 (some dl) (some dm) (some (.int ((v.length / 2:Nat):Int))) (some (.dlo s.length)) a4 (some (.loc (s.length+1))) none) (s++[xs]++[[]]) ⟨none,xs,rfl,by simp[fnd],g0,x0⟩;rw[_S,_x,_aW (_d _)]at hS;exact⟨ys,a6,by rw[lp,hρ,hS]⟩
include L hm h1 h2 hf in
theorem z17 (s:Sto):zg [rD v,.int m] s=.ok (.lst ((rel v m).map rD)) s:=by
 have vl:=L.len;have v2:=L.lo;have v4:=L.hi;have capn:(90000:Nat)<cap:=by unfold cap;omega
 have key:∀(dl dm:D) (F G:List D) (R0:List (List Int)) (xs ys:List D) (a4 a6:Option D),vM [dl] s=.ok (.int v.length) s->vM [dl] (s++[xs]++[[]])=.ok (.int v.length) (s++[xs]++[[]])->(∃k:Int,dm=.int k/\zN [.int ((v.length / 2:Nat):Int),.int (-k),dm] (s++[[]])=.ok (.lst F) (s++[[]])/\zN [.int ((v.length-v.length / 2:Nat):Int),.int (-k),dm] (s++[xs]++[[]])=.ok (.lst G) (s++[xs]++[[]]))-> vG [] F (λd ρ s=>(xM 4 d ρ s).bind fun ρ' s'=>zT ρ' s') F (W7 (some dl) (some dm) (some (.int ((v.length / 2:Nat):Int))) (some (.dlo s.length)) none none none) (s++[[]])=.ok (.nx (W7 (some dl) (some dm) (some (.int ((v.length / 2:Nat):Int))) (some (.dlo s.length)) a4 none none)) (s++[xs])-> vG [] G (λd ρ s=>(xM 6 d ρ s).bind fun ρ' s'=>zS ρ' s') G (W7 (some dl) (some dm) (some (.int ((v.length / 2:Nat):Int))) (some (.dlo s.length)) a4 (some (.loc (s.length+1))) none) (s++[xs]++[[]])=.ok (.nx (W7 (some dl) (some dm) (some (.int ((v.length / 2:Nat):Int))) (some (.dlo s.length)) a4 (some (.loc (s.length+1))) a6)) (s++[ys]++[R0.map rD])-> R0.length<=90000->(∀x∈R0,x≠[]/\x.length<=4)->zg [dl,dm] s=.ok (.lst ((z55 lexN (R0.filter λx=>decide (0<wgt x))).map rD)) s:=λdl dm F G R0 xs ys a4 a6 e1 e2 e3 e4 e5 e6 e7=>by
  obtain⟨k,rfl,t1,t2⟩:=e3;have st:zt ["lot","most","middle","by_sum","first","found","second"] [dl,.int k]=W7 (some dl) (some (.int k)) none none none none none:=rfl;have f1:xA (W7 (some dl) (some (.int k)) none none none none none) s=.ok (.nx (W7 (some dl) (some (.int k)) (some (.int ((v.length / 2:Nat):Int))) none none none none)) s:=by
   rw[xA,yq,op2 (x:=.int v.length) (y:=.int 2) (by rw[yr (x:=dl) (vr rfl)];exact e1) rfl];rfl
  have f2:wW (W7 (some dl) (some (.int k)) (some (.int ((v.length / 2:Nat):Int))) none none none none) s=.ok (.nx (W7 (some dl) (some (.int k)) (some (.int ((v.length / 2:Nat):Int))) (some (.dlo s.length)) none none none)) (s++[[]]):=rfl;have f3:xC (W7 (some dl) (some (.int k)) (some (.int ((v.length / 2:Nat):Int))) (some (.dlo s.length)) none none none) (s++[[]])=.ok (.nx (W7 (some dl) (some (.int k)) (some (.int ((v.length / 2:Nat):Int))) (some (.dlo s.length)) a4 none none)) (s++[xs]):=by
   rw[xC,z2C,wY (xs:=F) (by rw[z1v (x:=.int ((v.length / 2:Nat):Int)) (y:=.int (-k)) (z:=.int k) (vr rfl) (by rw[z5M,vr (d:=.int k) rfl,Rb]) (vr rfl)];exact t1),Rb];exact e4
  have f5:xz (W7 (some dl) (some (.int k)) (some (.int ((v.length / 2:Nat):Int))) (some (.dlo s.length)) a4 none none) (s++[xs])=.ok (.nx (W7 (some dl) (some (.int k)) (some (.int ((v.length / 2:Nat):Int))) (some (.dlo s.length)) a4 (some (.loc (s.length+1))) none)) (s++[xs]++[[]]):=by
   rw[xz,yq,zbe,xq,Rb,_g ⟨by simp,rfl⟩,Rb,_y];rfl
  have f6:xy (W7 (some dl) (some (.int k)) (some (.int ((v.length / 2:Nat):Int))) (some (.dlo s.length)) a4 (some (.loc (s.length+1))) none) (s++[xs]++[[]])=.ok (.nx (W7 (some dl) (some (.int k)) (some (.int ((v.length / 2:Nat):Int))) (some (.dlo s.length)) a4 (some (.loc (s.length+1))) a6)) (s++[ys]++[R0.map rD]):=by
   rw[xy,z2C,wY (xs:=G) (by rw[z1v (x:=.int ((v.length-v.length / 2:Nat):Int)) (y:=.int (-k)) (z:=.int k) (by rw[op2 (x:=.int v.length) (y:=.int ((v.length / 2:Nat):Int)) (by rw[yr (x:=dl) (vr rfl)];exact e2) (vr rfl),zaC,show ((v.length:Int)-((v.length / 2:Nat):Int))=((v.length-v.length / 2:Nat):Int) by omega]) (by rw[z5M,vr (d:=.int k) rfl,Rb]) (vr rfl)];exact t2),Rb];exact e5
  have at2:(s++[ys]++[R0.map rD])[s.length+1]? = some (R0.map rD):=by rw[_G (by simp)];simp
  generalize hS:s++[ys]++[R0.map rD]=S at f6 at2;have tk:S.take s.length=s:=by rw[<- hS,_L,List.take_left'];rfl
  have c:=z8G (G:=[(s.length+1,R0.map rD)]) (fi:=yw (zd 5)) (mp:=[none]) (fg:=xM 0) (ft:=tOf (eOp dGt (ze yB (za (zd 0) zk)) (eC (.int 0)))) (fe:=zd 0) (ρ:=W7 (some dl) (some (.int k)) (some (.int ((v.length / 2:Nat):Int))) (some (.dlo s.length)) a4 (some (.loc (s.length+1))) a6) (s:=S) rD rD (λx=>decide (0<wgt x)) (λx=>[some (rD x)]) R0 (by rw[z13,vr (d:=.loc (s.length+1)) rfl,Rb];simp only[at2]) (λp hp=>by rw[_a5.mp hp];exact at2) (λx _=>rfl) (λx hx=>vL (by rw[op2 (x:=.int (wgt x)) (y:=.int 0) (by rw[yr (x:=rD x) (vr rfl)];exact z0A (e7 x hx).1 (by have:=(e7 x hx).2;omega) S) rfl,zbB])) (λx _ _=>vr rfl) (by omega);have ne:∀x∈R0.filter (λx=>decide (0<wgt x)),x≠[]:=λx hx=>(e7 x (_W.mp hx).1).1;generalize R0.filter (λx=>decide (0<wgt x))=T at c ne;have f8:xD (W7 (some dl) (some (.int k)) (some (.int ((v.length / 2:Nat):Int))) (some (.dlo s.length)) a4 (some (.loc (s.length+1))) a6) S=.ok (.rt (.lst ((z55 lexN T).map rD))) S:=by
   rw[xD,wg,yr c];have tu:z3D (T.map rD)=some T:=z4D T;simp only[z6d,z4q,Dd.listOf,tu];rw[_g (_aK.mpr λx hx=>by have:=ne x hx;cases x<;>simp_all)];rfl
  simp only[zg,z34,Mof,vJ,st,_c,_i,_C];rw[zD f1,zD f2,zD f3,zD f5,zD f6,f8];simp only[];rw[qU (by simp only[D.flat];exact z2M _),tk]
 obtain⟨xs,a4,l1,g,xn⟩:=zgu L hm h1 (rD v) (.int m) rfl s;obtain⟨ys,a6,l2⟩:=za2 L hm h1 hf (rD v) (.int m) rfl s g.grp xn a4;have gl:∀S:Sto,vM [rD v] S=.ok (.int v.length) S:=λS=>by simp[vM,yj]
 have r:=key (rD v) (.int m) _ _ _ xs ys a4 a6 (gl _) (gl _) ⟨_,rfl,z48 (by omega) hm h1 _,z48 (by omega) hm h2 _⟩ l1 l2 (by rw[z3w.length_eq];exact hf) λx hx=>by
  have:=(xh.mp (_W.mp (z7O.mp hx)).1).1;exact⟨λz=>by rw[z]at this;simp at this;omega,by omega⟩
 rw[r,za0]
end
end Pv
namespace Pp
open L2 Dd Pm Pg Pn
end Pp
namespace Pp
open Pm Pg Dd
theorem z8u : ∀(M : Nat) (f : Nat → Nat), (∀i ≤ M, f i < M) → ∃i j, i < j ∧ j ≤ M ∧ f i = f j
 | 0, f, h => absurd (h 0 (_d _)) (Nat.not_lt_zero _) | M + 1, f, h => by
  by_cases hv : ∃i, i ≤ M ∧ f i = f (M + 1)
  ·obtain⟨i, hi, e⟩ := hv;exact⟨i, M + 1, by omega, _d _, e⟩
  ·have hn : ∀i ≤ M, f i ≠ f (M + 1) := λi hi e => hv ⟨i, hi, e⟩;have hl := h (M + 1) (_d _);obtain⟨i, j, hij, hj, e⟩ := z8u M (λi => if f i = M then f (M + 1) else f i) (λi hi => by
    have h1 := h i (by omega);have h2 := hn i hi;show (if f i = M then f (M + 1) else f i) < M;split <;> omega);refine⟨i, j, hij, by omega, ?_⟩;have h1 := hn i (by omega);have h2 := hn j hj;split at e <;> split at e <;> omega
end Pp
namespace Pv
open L2 (maxL minL maxL_ge maxL_mem minL_le minL_mem)
open Pm Pp Pt
def wV(v:List Int)(w:Nat):Prop:=∃x:List Int,x.length=v.length/\(∀i∈x,i.natAbs<=w)/\dot x v=0/\0<wgt x
theorem vZ{x:List Int}{i:Int}(h:i∈x)(h0:i≠0):0<wgt x:=by have:=zaA h;omega
theorem xY{v:List Int}{m:Nat}{x:List Int}:x∈rel v m ↔ x.length=v.length/\(∀i∈x,i.natAbs<=m)/\dot x v=0/\0<wgt x:=by
 unfold rel z92;rw[_W,xh];simp[and_assoc]
theorem z01{v:List Int}{m:Nat}:rel v m≠[] ↔ wV v m:=by
 constructor
 ·intro h;obtain⟨x,hx⟩:=List.exists_mem_of_ne_nil _ h;exact⟨x,xY.mp hx⟩
 ·rintro⟨x,hx⟩ z;have:=xY.mpr hx;rw[z]at this;cases this
theorem wV.mono{v:List Int}{w w':Nat}(h:wV v w)(hw:w<=w'):wV v w':=by
 obtain⟨x,h1,h2,h3⟩:=h;exact⟨x,h1,λi hi=>_O (h2 i hi) hw,h3⟩
theorem zhL{a b:Int}(ha:0<=a/\a<=1000)(hb:0<=b/\b<=1000)(hp:0<a\/0<b):wV [a,b] 1000:=by
 refine⟨[b,-a],rfl,λi hi=>?_,?_,?_⟩
 ·simp only[_n,_af,_bE]at hi;rcases hi with rfl | rfl<;>omega
 ·simp only[dot_cons,z5l];rw[_dh b a,Int.neg_mul];omega
 ·rcases hp with hp | hp;·exact vZ (i:=-a) (by simp) (by omega)
  ·exact vZ (i:=b) (by simp) (by omega)
theorem zhr{a b c:Nat}(hc:1<=c)(hc2:c<=1000)(ha:a<=c)(hb:b<=c):∃p q r:Int,p.natAbs<=44/\q.natAbs<=44/\r.natAbs<=44/\p*a+q*b+r*c=0/\(p≠0\/q≠0\/r≠0):=by
 have bd:∀t,t<2025->(t / 45)*a+(t % 45)*b<=88*c:=λt ht=>by
  have h1:t / 45<=44:=by omega
  have h2:t % 45<=44:=by omega
  have e1:(t / 45)*a<=44*c:=_bj h1 ha;have e2:(t % 45)*b<=44*c:=_bj h2 hb;omega
 obtain⟨i,j,hij,hj,e⟩:=z8u 2000 (λt=>(((t / 45)*a+(t % 45)*b) % c)*2+(if (t / 45)*a+(t % 45)*b<=44*c then 0 else 1)) (λt ht=>by
  have:=Nat.mod_lt ((t / 45)*a+(t % 45)*b) hc;show _*2+_<2000;split<;>omega);have b1:=bd i (by omega);have b2:=bd j (by omega);have em:((i / 45)*a+(i % 45)*b) % c=((j / 45)*a+(j % 45)*b) % c/\(((i / 45)*a+(i % 45)*b<=44*c) ↔ ((j / 45)*a+(j % 45)*b<=44*c)):=by split at e<;>split at e<;>refine⟨by omega,?_⟩<;>constructor<;>intro _<;>first | assumption | (exfalso;omega)
 obtain⟨em,ew⟩:=em;have d1:=Nat.mod_add_div ((i / 45)*a+(i % 45)*b) c;have d2:=Nat.mod_add_div ((j / 45)*a+(j % 45)*b) c;have ne:i / 45≠j / 45\/i % 45≠j % 45:=by omega
 have x1:i / 45<=44:=by omega
 have x2:j / 45<=44:=by omega
 have x3:i % 45<=44:=by omega
 have x4:j % 45<=44:=by omega
 generalize i / 45=i1 at *;generalize i % 45=i2 at *;generalize j / 45=j1 at *;generalize j % 45=j2 at *;have s1:((i1*a+i2*b:Nat):Int)=(i1:Int)*a+(i2:Int)*b:=by simp
 have s2:((j1*a+j2*b:Nat):Int)=(j1:Int)*a+(j2:Int)*b:=by simp
 generalize i1*a+i2*b=S at *;generalize j1*a+j2*b=T at *;have t1:S=S % c+c*(S / c):=d1.symm;have t2:T=T % c+c*(T / c):=d2.symm;have ml:=Nat.mod_lt S hc;have ys:(S<=44*c->S / c<=44)/\(¬ S<=44*c->44<=S / c)/\S / c<=88:=⟨λw=>_aP (by rw[_aV];exact w),λw=>(Nat.le_div_iff_mul_le hc).mpr (by omega),_aP (by rw[_aV];exact b1)⟩;have yt:(T<=44*c->T / c<=44)/\(¬ T<=44*c->44<=T / c)/\T / c<=88:=⟨λw=>_aP (by rw[_aV];exact w),λw=>(Nat.le_div_iff_mul_le hc).mpr (by omega),_aP (by rw[_aV];exact b2)⟩;have u1:(S:Int)=((S % c:Nat):Int)+((S / c:Nat):Int)*c:=by
  have:=_aJ (λz:Nat=>(z:Int)) t1;simp only[_cu,_bP]at this;rw[_dh ((S / c:Nat):Int)];exact this
 have u2:(T:Int)=((T % c:Nat):Int)+((T / c:Nat):Int)*c:=by
  have:=_aJ (λz:Nat=>(z:Int)) t2;simp only[_cu,_bP]at this;rw[_dh ((T / c:Nat):Int)];exact this
 rw[em]at u1;clear t1 t2 d1 d2;generalize S / c=u at *;generalize T / c=z at *;refine⟨(j1:Int)-i1,(j2:Int)-i2,(u:Int)-(z:Int),by omega,by omega,?_,?_,by omega⟩
 ·by_cases w:S<=44*c
  ·have:=ys.1 w;have:=yt.1 (ew.mp w);omega
  ·have:=ys.2.1 w;have:=yt.2.1 λz=>w (ew.mpr z);omega
 ·rw[_bk,_bk,_bk];omega
theorem zhD {a b c:Int} (ha:0<=a/\a<=1000) (hb:0<=b/\b<=1000) (hc:0<=c/\c<=1000) (hp:0<a\/0<b\/0<c):wV [a,b,c] 44:=by
 have key:∀{x y z:Int},0<=x->x<=z->0<=y->y<=z->0<z->z<=1000->∃p q r:Int,p.natAbs<=44/\q.natAbs<=44/\r.natAbs<=44/\p*x+q*y+r*z=0/\(p≠0\/q≠0\/r≠0):=λ{x y z} h1 h2 h3 h4 h5 h6=>by
  have:=zhr (a:=x.toNat) (b:=y.toNat) (c:=z.toNat) (by omega) (by omega) (by omega) (by omega);rwa [_cz h1,_cz h3,_cz (by omega)]at this
 have fin:∀p q r:Int,p.natAbs<=44->q.natAbs<=44->r.natAbs<=44->p*a+q*b+r*c=0->(p≠0\/q≠0\/r≠0)->wV [a,b,c] 44:=λp q r h1 h2 h3 e ne=>by
  refine⟨[p,q,r],rfl,λi hi=>?_,by simp only[dot_cons,z5l];omega,?_⟩
  ·simp only[_n,_af,_bE]at hi;rcases hi with rfl | rfl | rfl<;>assumption
  ·rcases ne with h | h | h;·exact vZ (i:=p) (by simp) h
   ·exact vZ (i:=q) (by simp) h
   ·exact vZ (i:=r) (by simp) h
 by_cases c1:a<=c/\b<=c
 ·obtain⟨p,q,r,h1,h2,h3,e,ne⟩:=key (x:=a) (y:=b) (z:=c) ha.1 c1.1 hb.1 c1.2 (by omega) hc.2;exact fin p q r h1 h2 h3 e ne
 by_cases c2:a<=b/\c<=b
 ·obtain⟨p,q,r,h1,h2,h3,e,ne⟩:=key (x:=a) (y:=c) (z:=b) ha.1 c2.1 hc.1 c2.2 (by omega) hb.2;exact fin p r q h1 h3 h2 (by omega) (by omega)
 ·obtain⟨p,q,r,h1,h2,h3,e,ne⟩:=key (x:=b) (y:=c) (z:=a) hb.1 (by omega) hc.1 (by omega) (by omega) ha.2;exact fin r p q h3 h1 h2 (by omega) (by omega)
theorem zhh{a b c d:Int}(ha:0<=a/\a<=1000)(hb:0<=b/\b<=1000)(hc:0<=c/\c<=1000)(hd:0<=d/\d<=1000):wV [a,b,c,d] 15:=by
 obtain⟨a,rfl⟩:=_ae ha.1;obtain⟨b,rfl⟩:=_ae hb.1;obtain⟨c,rfl⟩:=_ae hc.1;obtain⟨d,rfl⟩:=_ae hd.1;obtain⟨i,j,hij,hj,e⟩:=z8u 60001 (λt=>(t / 4096)*a+(t / 256 % 16)*b+(t / 16 % 16)*c+(t % 16)*d) (λt ht=>by
  have e1:(t / 4096)*a<=15*1000:=_bj (by omega) (by omega);have e2:(t / 256 % 16)*b<=15*1000:=_bj (by omega) (by omega);have e3:(t / 16 % 16)*c<=15*1000:=_bj (by omega) (by omega);have e4:(t % 16)*d<=15*1000:=_bj (by omega) (by omega);show _+_+_+_<60001;omega);have ne:i / 4096≠j / 4096\/i / 256 % 16≠j / 256 % 16\/i / 16 % 16≠j / 16 % 16\/i % 16≠j % 16:=by omega
 have x1:i / 4096<=15:=by omega
 have x2:j / 4096<=15:=by omega
 have y1:i / 256 % 16<=15:=by omega
 have y2:j / 256 % 16<=15:=by omega
 have z1:i / 16 % 16<=15:=by omega
 have z2:j / 16 % 16<=15:=by omega
 have w1:i % 16<=15:=by omega
 have w2:j % 16<=15:=by omega
 generalize i / 4096=i1 at *;generalize i / 256 % 16=i2 at *;generalize i / 16 % 16=i3 at *;generalize i % 16=i4 at *;generalize j / 4096=j1 at *;generalize j / 256 % 16=j2 at *;generalize j / 16 % 16=j3 at *;generalize j % 16=j4 at *;refine⟨[(j1:Int)-i1,(j2:Int)-i2,(j3:Int)-i3,(j4:Int)-i4],rfl,λk hk=>?_,?_,?_⟩
 ·simp only[_n,_af,_bE]at hk;rcases hk with rfl | rfl | rfl | rfl<;>omega
 ·simp only[dot_cons,z5l];rw[_bk,_bk,_bk,_bk];have:=_aJ (λz:Nat=>(z:Int)) e;simp only[_cu,_bP]at this;omega
 ·rcases ne with h | h | h | h;·exact vZ (i:=(j1:Int)-i1) (by simp) (by omega)
  ·exact vZ (i:=(j2:Int)-i2) (by simp) (by omega)
  ·exact vZ (i:=(j3:Int)-i3) (by simp) (by omega)
  ·exact vZ (i:=(j4:Int)-i4) (by simp) (by omega)
noncomputable def bnd(n:Nat):Nat:=if n=2 then 1000 else if n=3 then 44 else 15
theorem SmL.has{n:Nat}{v:List Int}(h:SmL n v)(hp:∃x∈v,0<x):wV v (bnd n):=by
 have h1:=h.len;have h2:=h.lo;have h3:=h.hi;have bd:=h.bd;obtain⟨x,hx,x0⟩:=hp;match v,h1 with
 | [],e=>simp at e;omega | [_],e=>simp at e;omega | [a,b],e=>
  have:n=2:=by simpa using e.symm
  subst this;simp only[_n,_af,_bE]at hx;exact zhL (bd a (by simp)) (bd b (by simp)) (by rcases hx with rfl | rfl<;>simp[x0]) | [a,b,c],e=>
  have:n=3:=by simpa using e.symm
  subst this;simp only[_n,_af,_bE]at hx;exact zhD (bd a (by simp)) (bd b (by simp)) (bd c (by simp)) (by rcases hx with rfl | rfl | rfl<;>simp[x0]) | [a,b,c,d],e=>
  have:n=4:=by simpa using e.symm
  subst this;exact zhh (bd a (by simp)) (bd b (by simp)) (bd c (by simp)) (bd d (by simp)) | _::_::_::_::_::_,e=>simp at e;omega
theorem z85{v:List Int}{W:Nat}(h:wV v W):∃w,w<=W/\1<=w/\wV v w/\∀w',w'<w->¬ wV v w':=by induction W using Nat.strongRecOn with | ind W ih=>
  by_cases q:∃w',w'<W/\wV v w'
  ·obtain⟨w',h1,h2⟩:=q;obtain⟨w,a,b⟩:=ih w' h1 h2;exact⟨w,by omega,b⟩
  ·refine⟨W,_d _,?_,h,λw' h1 h2=>q ⟨w',h1,h2⟩⟩;obtain⟨x,h1,h2,h3,h4⟩:=h;have ne:x≠[]:=λz=>by rw[z]at h4;simp[wgt,maxL]at h4
   obtain⟨i,hi,e⟩:=z46 ne;have:=h2 i hi;omega
theorem z5Y:∀{x y v:List Int},x.length=y.length->dot (List.zipWith (λa b=>a-b) x y) v=dot x v-dot y v
 | [],[],v,_=>by simp[dot] | a::x,b::y,[],_=>by simp[dot] | a::x,b::y,c::v,h=>by
  rw[_b6,dot_cons,dot_cons,dot_cons,z5Y (by simpa using h),_bk];omega
theorem z5S:∀{x y:List Int},x.length=y.length->(∀i∈List.zipWith (λa b:Int=>a-b) x y,i=0)->x=y
 | [],[],_,_=>rfl | a::x,b::y,h,z=>by
  simp only[_b6,_n,forall_eq_or_imp]at z;rw[z5S (by simpa using h) z.2,show a=b by omega]
theorem zb2{w:Nat}(hw:1<=w):∀{x y:List Int},x.map (λi=>i / (w:Int))=y.map (λi=>i / (w:Int))->∀i∈List.zipWith (λa b:Int=>a-b) x y,i.natAbs<=w-1
 | [],_,_,i,hi=>by simp at hi | _::_,[],_,i,hi=>by simp at hi | a::x,b::y,h,i,hi=>by
  simp only[_U,_cs]at h;simp only[_b6,_n]at hi;rcases hi with rfl | hi
  ·have e1:=Int.emod_add_mul_ediv a w;have e2:=Int.emod_add_mul_ediv b w;have l1:=_bu a (show (w:Int)≠0 by omega);have l2:=_bu b (show (w:Int)≠0 by omega);have l3:=_a4 a (show (0:Int)<w by omega);have l4:=_a4 b (show (0:Int)<w by omega);rw[h.1]at e1;omega
  ·exact zb2 hw h.2 i hi
theorem zgW {v:List Int} {w m:Nat} (hw:1<=w) (no:∀w',w'<w->¬ wV v w'):(z6v v m).length<=(2*(m / w)+2) ^ v.length:=by
 have m0:∀x∈z6v v m,x.length=v.length/\(∀i∈x,i.natAbs<=m)/\dot x v=0:=λx hx=>by
  obtain⟨h1,h2⟩:=_W.mp hx;obtain⟨h3,h4⟩:=xh.mp h1;exact⟨h3,h4,by simpa using h2⟩
 have nd:((z6v v m).map λx=>x.map λi=>i / (w:Int)).Nodup:=by
  unfold List.Nodup;rw[_b1];refine _bM (λ{x y} hx hy ne e=>?_) ((z4F _ _).nodup.filter _);obtain⟨x1,x2,x3⟩:=m0 x hx;obtain⟨y1,y2,y3⟩:=m0 y hy;by_cases z:∀i∈List.zipWith (λa b:Int=>a-b) x y,i=0;·exact ne (z5S (by omega) z)
  ·have ⟨i,hi⟩:=Classical.not_forall.mp z;have ⟨hm,h0⟩:=Classical.not_imp.mp hi;exact no (w-1) (by omega) ⟨List.zipWith (λa b=>a-b) x y,by rw[List.length_zipWith];omega,zb2 hw e,by rw[z5Y (by omega)];omega,vZ hm h0⟩
 have sub:∀z∈(z6v v m).map (λx=>x.map λi=>i / (w:Int)),z∈qk (List.replicate v.length ((List.range (2*(m / w)+2)).map λk:Nat=>-((m / w:Nat):Int)-1+((k:Nat):Int))):=λz hz=>by
  obtain⟨x,hx,rfl⟩:=_I.mp hz;obtain⟨x1,x2,_⟩:=m0 x hx;rw[z1f];refine⟨by simp[x1],λk hk=>?_⟩;rw[_bw]at hk;rw[show (List.replicate v.length ((List.range (2*(m / w)+2)).map λk:Nat=>-((m / w:Nat):Int)-1+((k:Nat):Int))).getD k []=(List.range (2*(m / w)+2)).map λk:Nat=>-((m / w:Nat):Int)-1+((k:Nat):Int) by simp[_R,hk]];have hk':k<x.length:=by omega
  have xi:=x2 x[k] (_aB _);rw[show (x.map λi=>i / (w:Int)).getD k 0=x[k] / (w:Int) by simp[_R,hk']];generalize x[k]=i at xi;have wp:(0:Int)<w:=by omega
  have dm:=Nat.mod_add_div m w;have ml:=Nat.mod_lt m hw;have mq:(w:Int)*((m / w:Nat):Int)+((m % w:Nat):Int)=m:=by
   have:=_aJ (λz:Nat=>(z:Int)) dm;simp only[_cu,_bP]at this;omega
  have up:i / (w:Int)<=((m / w:Nat):Int):=by
   have:=Int.ediv_le_ediv wp (show i<=(m:Int) by omega);rwa [<- Int.natCast_ediv]at this
  have lo:-((m / w:Nat):Int)-1<=i / (w:Int):=by
   refine (Int.le_ediv_iff_mul_le wp).mpr ?_;rw[_bk,Int.neg_mul,_dh ((m / w:Nat):Int)];omega
  exact _I.mpr ⟨(i / (w:Int)+((m / w:Nat):Int)+1).toNat,by rw[_bc];omega,by omega⟩
 have:=len_sub nd sub;rw[_x]at this;refine _O this ?_;have:=z4I (List.replicate v.length ((List.range (2*(m / w)+2)).map λk:Nat=>-((m / w:Nat):Int)-1+((k:Nat):Int))) (k:=2*(m / w)+2) λc hc=>by rw[_aN hc];simp
 simpa using this
open L2 Dd Pg Pn Po Pr
structure LW(n:Nat)(v:List Int)(w:Nat):Prop where
 L:SmL n v
 pos:∃x∈v,0<x
 le:w<=bnd n
 one:1<=w
 has:wV v w
 no:∀w',w'<w->¬ wV v w'
theorem SmL.lw{n:Nat}{v:List Int}(h:SmL n v)(hp:∃x∈v,0<x):∃w,LW n v w:=by
 obtain⟨w,a,b,c,d⟩:=z85 (h.has hp);exact⟨w,h,hp,a,b,c,d⟩
theorem LW.lot{n w:Nat}{v:List Int}(h:LW n v w):Lot n v:=⟨by have:=h.L.lo;have:=h.L.hi;unfold Sz;omega,h.L.len,λx hx=>(h.L.bd x hx).1,h.pos⟩
section
variable {n w:Nat}{v:List Int}(h:LW n v w)
include h
theorem LW.rels{m:Nat}(hm:m<=n*w)(s:Sto):zg [rD v,.int m] s=.ok (.lst ((rel v m).map rD)) s:=by
 have vl:=h.L.len;have lo:=h.L.lo;have hi:=h.L.hi;have le:=h.le;have one:=h.one;have pk:=zgW (m:=m) one h.no;have mw:m / w<=n:=_aP (by rw[_aV];exact hm);rw[vl]at pk;have cs:n=2\/n=3\/n=4:=by omega
 have b1:m<=2000/\(2*m+1) ^ (v.length / 2)<=90000/\(2*m+1) ^ (v.length-v.length / 2)<=90000/\(z6v v m).length<=90000:=by
  rw[vl];rcases cs with rfl | rfl | rfl
  ·have:w<=1000:=le;have p2:(2*(m / w)+2) ^ 2<=6 ^ 2:=_ac (by omega) 2;refine⟨by omega,?_,?_,by omega⟩;·show (2*m+1) ^ 1<=90000;rw[Nat.pow_one];omega
   ·show (2*m+1) ^ 1<=90000;rw[Nat.pow_one];omega
  ·have:w<=44:=le;have p2:(2*(m / w)+2) ^ 3<=8 ^ 3:=_ac (by omega) 3;have p3:(2*m+1) ^ 2<=265 ^ 2:=_ac (by omega) 2;refine⟨by omega,?_,?_,by omega⟩;·show (2*m+1) ^ 1<=90000;rw[Nat.pow_one];omega
   ·show (2*m+1) ^ 2<=90000;omega
  ·have:w<=15:=le;have p2:(2*(m / w)+2) ^ 4<=10 ^ 4:=_ac (by omega) 4;have p3:(2*m+1) ^ 2<=121 ^ 2:=_ac (by omega) 2;refine⟨by omega,?_,?_,by omega⟩;·show (2*m+1) ^ 2<=90000;omega
   ·show (2*m+1) ^ 2<=90000;omega
 exact z17 h.L (by omega) b1.2.1 b1.2.2.1 b1.2.2.2 s
theorem LW.len{m:Nat}(hm:m<=n*w):(rel v m).length<=10000:=by
 have pk:=zgW (m:=m) h.one h.no;have mw:m / w<=n:=_aP (by rw[_aV];exact hm);have lo:=h.L.lo;have hi:=h.L.hi;rw[h.L.len]at pk;have cs:n=2\/n=3\/n=4:=by omega
 have:(z6v v m).length<=10000:=by
  rcases cs with rfl | rfl | rfl
  ·have p2:(2*(m / w)+2) ^ 2<=6 ^ 2:=_ac (by omega) 2;omega
  ·have p2:(2*(m / w)+2) ^ 3<=8 ^ 3:=_ac (by omega) 3;omega
  ·have p2:(2*(m / w)+2) ^ 4<=10 ^ 4:=_ac (by omega) 4;omega
 rw[z7z];exact _O (_bx _ _) this
theorem LW.relne{m:Nat}{x:List Int}(hx:x∈rel v m):x≠[]/\x.length<=1000/\(w:Int)<=wgt x:=by
 obtain⟨h1,h2,h3,h4⟩:=xY.mp hx;have vl:=h.L.len;have lo:=h.L.lo;have hi:=h.L.hi;have ne:x≠[]:=λz=>by rw[z]at h1;simp at h1;omega
 refine⟨ne,by omega,?_⟩;rcases Int.lt_or_le (wgt x) w with z | z
 ·have nn:=zdL ne;refine absurd ⟨x,h1,?_,h3,h4⟩ (h.no (wgt x).toNat (by omega));exact (z69 ne).mp (by omega)
 ·exact z
theorem LW.same{m:Nat}(hm:w<=m):(rel v m).filter (λx=>decide (wgt x=(w:Int)))=rel v w:=by
 refine z7E ((z4G v m).filter _) (z4G v w) λx=>?_;rw[_W,_p];constructor
 ·rintro⟨h1,h2⟩;have ne:=(h.relne h1).1;obtain⟨a,b,c,d⟩:=xY.mp h1;exact xY.mpr ⟨a,(z69 ne).mp (by omega),c,d⟩
 ·intro h1;have ⟨ne,_,ge⟩:=h.relne h1;obtain⟨a,b,c,d⟩:=xY.mp h1;have:=(z69 (m:=w) ne).mpr b;exact⟨xY.mpr ⟨a,λi hi=>_O (b i hi) hm,c,d⟩,by omega⟩
theorem LW.want (s:Sto):xr [rD v] s=.ok .non s:=by
 have w1:=z2n h.lot s;have mx:vN [rD v] s=.ok (.int (maxL v)) s:=z4b s h.lot.ne;have mle:maxL v<=1000:=(h.L.bd _ (maxL_mem h.lot.ne)).2;have key:∀d:D,vk [d] s=.ok .non s->vN [d] s=.ok (.int (maxL v)) s->xr [d] s=.ok .non s:=λd h1 h2=>by
  have st:zt ["lot"] [d]=[some d]:=rfl;simp only[xr,Mof,jJ,st,_c,_i,_C];rw[zD (ρ':=[some d]) (s':=s) (by rw[js,xI,yr (x:=d) (vr rfl),h1];rfl),jp,z9M (vL (by rw[op2 (x:=.int (maxL v)) (y:=.int 1000) (by rw[yr (x:=d) (vr rfl)];exact h2) rfl,zbB,_N (by omega)]))];rfl
 exact key _ w1 mx
noncomputable abbrev V4(a0 a1 a2 a3:Option D):Ev:=[a0,a1,a2,a3]
theorem LW.loop (d:D) (hd:d=rD v) (s:Sto):∀(f i:Nat),2 ^ i<2*w->w<=2 ^ (i+f)->∃j,w<=2 ^ j/\2 ^ j<2*w/\vX (z26 (ze9 (zd 2))) (zW vb wX) (f+1) (V4 (some d) (some (.int ((2 ^ i:Nat):Int))) (some (.lst ((rel v (2 ^ i)).map rD))) none) s=.ok (.nx (V4 (some d) (some (.int ((2 ^ j:Nat):Int))) (some (.lst ((rel v (2 ^ j)).map rD))) none)) s:=by
 have lo:=h.L.lo;have tst:∀i,z26 (ze9 (zd 2)) (V4 (some d) (some (.int ((2 ^ i:Nat):Int))) (some (.lst ((rel v (2 ^ i)).map rD))) none) s=.ok (((rel v (2 ^ i)).isEmpty)) s:=λi=>by
  rw[zbn,zeL,vr (d:=.lst ((rel v (2 ^ i)).map rD)) rfl,Rb];simp[Dd.listOf]
 intro f;induction f with
 | zero=>
  intro i h1 h2;refine⟨i,h2,h1,?_⟩;have ne:(rel v (2 ^ i)).isEmpty=false:=by
   have:=z01.mpr (h.has.mono h2);simpa using this
  rw[vX,tst,ne,Rb,_l (by simp)] | succ f ih=>
  intro i h1 h2;by_cases c:w<=2 ^ i
  ·refine⟨i,c,h1,?_⟩;have ne:(rel v (2 ^ i)).isEmpty=false:=by
    have:=z01.mpr (h.has.mono c);simpa using this
   rw[vX,tst,ne,Rb,_l (by simp)]
  ·have e0:(rel v (2 ^ i)).isEmpty=true:=by cases z:rel v (2 ^ i) with
    | nil=>rfl | cons a t=>exact absurd (z01.mp (by rw[z];simp)) (h.no _ (by omega))
   have p2:2 ^ (i+1)=2*2 ^ i:=by rw[Nat.pow_succ,_aV]
   obtain⟨j,j1,j2,e⟩:=ih (i+1) (by omega) (by rw[show i+1+f=i+(f+1) by omega];exact h2);refine⟨j,j1,j2,?_⟩;have le:=h.le;have bn:bnd n<=1000:=by unfold bnd;split<;>(try split)<;>omega
   have f5:vb (V4 (some d) (some (.int ((2 ^ i:Nat):Int))) (some (.lst ((rel v (2 ^ i)).map rD))) none) s=.ok (.nx (V4 (some d) (some (.int ((2 ^ (i+1):Nat):Int))) (some (.lst ((rel v (2 ^ i)).map rD))) none)) s:=by
    rw[vb,yq,op2 (x:=.int 2) (y:=.int ((2 ^ i:Nat):Int)) rfl (vr rfl),zaG (m:=10) (k:=20) s (by omega) (by omega) (by omega) (by omega),Rb,p2,show ((2*2 ^ i:Nat):Int)=2*((2 ^ i:Nat):Int) by simp];rfl
   have nw:2*w<=n*w:=_ck _ lo;have f6:wX (V4 (some d) (some (.int ((2 ^ (i+1):Nat):Int))) (some (.lst ((rel v (2 ^ i)).map rD))) none) s=.ok (.nx (V4 (some d) (some (.int ((2 ^ (i+1):Nat):Int))) (some (.lst ((rel v (2 ^ (i+1))).map rD))) none)) s:=by
    have r:=h.rels (m:=2 ^ (i+1)) (by omega) s;rw[<- hd]at r;rw[wX,yq,call2 (x:=d) (y:=.int ((2 ^ (i+1):Nat):Int)) (vr rfl) (vr rfl),r];rfl
   rw[vX,tst,e0,Rb,_g rfl,zD f5,f6,Rb];exact e
theorem LW.byw (s:Sto):yN [rD v] s=.ok (.lst ((rel v w).map rD)) s:=by
 have le:=h.le;have one:=h.one;have lo:=h.L.lo;have bn:bnd n<=1000:=by unfold bnd;split<;>(try split)<;>omega
 have nw:2*w<=n*w:=_ck _ lo;have wl:w<=2 ^ (0+10):=by show w<=1024;omega
 have key:∀(d:D),d=rD v->yN [d] s=.ok (.lst ((rel v w).map rD)) s:=λd hd=>by
  have st:zt ["lot","most","found","least"] [d]=V4 (some d) none none none:=rfl;have ws:=h.want s;have r1:=h.rels (m:=1) (by omega) s;rw[<- hd]at ws r1;obtain⟨j,j1,j2,lp⟩:=h.loop d hd s 10 0 (by omega) wl;have f3:ve (V4 (some d) (some (.int 1)) none none) s=.ok (.nx (V4 (some d) (some (.int ((2 ^ 0:Nat):Int))) (some (.lst ((rel v (2 ^ 0)).map rD))) none)) s:=by
   rw[ve,yq,call2 (x:=d) (y:=.int 1) (vr rfl) (vr rfl)];rw[show zg [d,.int 1] s=.ok (.lst ((rel v 1).map rD)) s from r1];rfl
  have f4:vh (V4 (some d) (some (.int ((2 ^ 0:Nat):Int))) (some (.lst ((rel v (2 ^ 0)).map rD))) none) s=.ok (.nx (V4 (some d) (some (.int ((2 ^ j:Nat):Int))) (some (.lst ((rel v (2 ^ j)).map rD))) none)) s:=by
   rw[vh];exact za5 lp (by intro z;cases z)
  have rn:∀x∈rel v (2 ^ j),x≠[]/\x.length<=1000/\(w:Int)<=wgt x:=λx hx=>h.relne hx;have ln:=h.len (m:=2 ^ j) (by omega);have ne:=z01.mpr (h.has.mono j1);have sm:=h.same j1;have lw:minL ((rel v (2 ^ j)).map wgt)=(w:Int):=by
   obtain⟨x,hx,e⟩:=_I.mp (minL_mem (show (rel v (2 ^ j)).map wgt≠[] by simpa using ne));have g1:=(rn x hx).2.2;obtain⟨y,hy⟩:=List.exists_mem_of_ne_nil _ (z01.mpr h.has);rw[<- sm]at hy;obtain⟨y1,y2⟩:=_W.mp hy;have g2:=minL_le (wgt y) (_I.mpr ⟨y,y1,rfl⟩);have y3:wgt y=w:=by simpa using y2
   omega
  generalize rel v (2 ^ j)=R at *;generalize 2 ^ j=J at *;have c7:=comp_map (fi:=yw (zd 2)) (mp:=[none]) (fg:=xM 0) (fe:=ze yB (za (zd 0) zk)) (ρ:=V4 (some d) (some (.int J)) (some (.lst (R.map rD))) none) (s:=s) rD (λx=>D.int (wgt x)) (λx=>[some (rD x)]) R (wY (vr rfl)) (λx _=>rfl) (λx hx=>by rw[yr (x:=rD x) (vr rfl)];exact z0A (rn x hx).1 (rn x hx).2.1 s) (by unfold cap;omega);have f7:va (V4 (some d) (some (.int J)) (some (.lst (R.map rD))) none) s=.ok (.nx (V4 (some d) (some (.int J)) (some (.lst (R.map rD))) (some (.int w)))) s:=by
   rw[va,yq,yr c7,show (R.map λx=>D.int (wgt x))=iL (R.map wgt) by simp[_aF],z7T s (by simpa using ne),lw];rfl
  have c8:=z0z (fi:=yw (zd 2)) (mp:=[some 3,none]) (fg:=xM 1) (ft:=tOf (eOp dEq (ze yB (za (zd 1) zk)) (zd 0))) (fe:=zd 1) (ρ:=V4 (some d) (some (.int J)) (some (.lst (R.map rD))) (some (.int w))) (s:=s) rD rD (λx=>decide (wgt x=(w:Int))) (λx=>[some (.int w),some (rD x)]) R (wY (vr rfl)) (λx _=>rfl) (λx hx=>vL (by rw[op2 (x:=.int (wgt x)) (y:=.int w) (by rw[yr (x:=rD x) (vr rfl)];exact z0A (rn x hx).1 (rn x hx).2.1 s) (vr rfl),z6H])) (λx _ _=>vr rfl) (by unfold cap;omega);rw[sm]at c8;simp only[yN,Mof,kT,st,_c,_i,_C];rw[zD (ρ':=V4 (some d) none none none) (s':=s) (by rw[jO,xI,yr (x:=d) (vr rfl),ws];rfl),zD (ρ':=V4 (some d) (some (.int 1)) none none) (s':=s) rfl,zD f3,zD f4,zD f7,uW,wg,c8];rfl
 exact key _ rfl
end
theorem z3p(i:Int)(x:List Int):lng (i::x)=(i.natAbs:Int)+lng x:=by simp[lng]
theorem z6m:∀x:List Int,0<=lng x
 | []=>by simp[lng] | i::x=>by rw[z3p];have:=z6m x;omega
theorem z1n:∀{x:List Int}{i:Int},i∈x->((i.natAbs:Nat):Int)<=lng x
 | j::x,i,h=>by
  rw[z3p];have:=z6m x;rcases _n.mp h with rfl | h;·omega
  ·have:=z1n h;omega
theorem zb6{m:Nat}:∀{x:List Int},(∀i∈x,i.natAbs<=m)->lng x<=((x.length*m:Nat):Int)
 | [],_=>by simp[lng] | i::x,h=>by
  rw[z3p,_c,Nat.add_mul,Nat.one_mul];have:=zb6 (x:=x) λi hi=>h i (.tail _ hi);have:=h i (.head _);omega
noncomputable def za8(v:List Int)(l:Nat):List (List Int):=(rel v l).filter λx=>decide (lng x=(l:Int))
theorem z3i{v:List Int}{l:Nat}{x:List Int}:x∈za8 v l ↔ x.length=v.length/\dot x v=0/\0<wgt x/\lng x=(l:Int):=by
 unfold za8;rw[_W,xY,_p];constructor;·rintro⟨⟨a,b,c,d⟩,e⟩;exact⟨a,c,d,e⟩
 ·rintro⟨a,c,d,e⟩;exact⟨⟨a,λi hi=>by have:=z1n hi;omega,c,d⟩,e⟩
theorem zbp(v:List Int)(l:Nat):Up (za8 v l):=(z4G v l).filter _
structure LL(v:List Int)(l:Nat):Prop where
 has:za8 v l≠[]
 no:∀x:List Int,x.length=v.length->dot x v=0->0<wgt x->(l:Int)<=lng x
section
variable {n w:Nat}{v:List Int}(h:LW n v w)
include h
theorem LW.ll:∃l,LL v l/\w<=l/\l<=n*w/\(∀s,xK [rD v] s=.ok (.lst ((za8 v l).map rD)) s):=by
 have vl:=h.L.len;have lo:=h.L.lo;have hi:=h.L.hi;have rne:=z01.mpr h.has;have wn:w<=n*w:=by have:=_ck w (show 1<=n by omega);omega
 obtain⟨y,hy,ey⟩:=_I.mp (minL_mem (show (rel v w).map lng≠[] by simpa using rne));obtain⟨m,em⟩:∃m:Nat,lng y=(m:Int):=⟨(lng y).toNat,by have:=z6m y;omega⟩;have yl:=(xY.mp hy);have mw:m<=n*w:=by
  have:=zb6 yl.2.1;rw[yl.1,vl]at this;omega
 have wm:w<=m:=by
  have g:=(h.relne hy);obtain⟨i,hi,e⟩:=z46 g.1;have:=z1n hi;omega
 have fne:=z01.mpr (h.has.mono wm);obtain⟨z,hz,ez⟩:=_I.mp (minL_mem (show (rel v m).map lng≠[] by simpa using fne));obtain⟨l,el⟩:∃l:Nat,lng z=(l:Int):=⟨(lng z).toNat,by have:=z6m z;omega⟩;have zl:=xY.mp hz;have lm:l<=m:=by
  have:y∈rel v m:=xY.mpr ⟨yl.1,λi hi=>by have:=z1n hi;omega,yl.2.2⟩;have:=minL_le (lng y) (_I.mpr ⟨y,this,rfl⟩);omega
 have wl:w<=l:=by
  have g:=(h.relne hz);obtain⟨i,hi,e⟩:=z46 g.1;have:=z1n hi;omega
 have L0:LL v l:=by
  refine⟨List.ne_nil_of_mem (z3i.mpr ⟨zl.1,zl.2.2.1,zl.2.2.2,el⟩),λx x1 x2 x3=>?_⟩;rcases Int.lt_or_le (lng x) l with q | q
  ·have:x∈rel v m:=xY.mpr ⟨x1,λi hi=>by have:=z1n hi;omega,x2,x3⟩;have:=minL_le (lng x) (_I.mpr ⟨x,this,rfl⟩);omega
  ·exact q
 refine⟨l,L0,wl,by omega,λs=>?_⟩;have same:(rel v m).filter (λx=>decide (lng x=(l:Int)))=za8 v l:=by
  refine z7E ((z4G v m).filter _) (zbp v l) λx=>?_;rw[_W,z3i,xY,_p];constructor;·rintro⟨⟨a,b,c,d⟩,e⟩;exact⟨a,c,d,e⟩
  ·rintro⟨a,c,d,e⟩;exact⟨⟨a,λi hi=>by have:=z1n hi;omega,c,d⟩,e⟩
 have bw:=h.byw s;have rw_:=h.rels mw s;have l1:=h.len wn;have l2:=h.len mw;have n1:∀x∈rel v w,x.length<=1000:=λx hx=>(h.relne hx).2.1;have n2:∀x∈rel v m,x.length<=1000:=λx hx=>(h.relne hx).2.1;have mm:minL ((rel v w).map lng)=(m:Int):=by rw[<- ey,em]
 have ml:minL ((rel v m).map lng)=(l:Int):=by rw[<- ez,el]
 generalize za8 v l=T at same;generalize rel v w=A at *;generalize rel v m=B at *;have key:∀d:D,yN [d] s=.ok (.lst (A.map rD)) s->zg [d,.int m] s=.ok (.lst (B.map rD)) s->xK [d] s=.ok (.lst (T.map rD)) s:=λd e1 e2=>by
  have st:zt ["lot","found","least"] [d]=[some d,none,none]:=rfl;have c1:=comp_map (fi:=yw (ze yN (za (zd 0) zk))) (mp:=[none]) (fg:=xM 0) (fe:=ze yy (za (zd 0) zk)) (ρ:=[some d,none,none]) (s:=s) rD (λx=>D.int (lng x)) (λx=>[some (rD x)]) A (wY (by rw[yr (x:=d) (vr rfl)];exact e1)) (λx _=>rfl) (λx hx=>by rw[yr (x:=rD x) (vr rfl)];exact z0E (n1 x hx) s) (by unfold cap;omega);have f1:uU [some d,none,none] s=.ok (.nx [some d,some (.lst (B.map rD)),none]) s:=by
   rw[uU,yq,call2 (x:=d) (y:=.int m) (vr rfl) (by rw[yr c1,show (A.map λx=>D.int (lng x))=iL (A.map lng) by simp[_aF],z7T s (by simpa using rne),mm]),e2];rfl
  have c2:=comp_map (fi:=yw (zd 1)) (mp:=[none]) (fg:=xM 0) (fe:=ze yy (za (zd 0) zk)) (ρ:=[some d,some (.lst (B.map rD)),none]) (s:=s) rD (λx=>D.int (lng x)) (λx=>[some (rD x)]) B (wY (vr rfl)) (λx _=>rfl) (λx hx=>by rw[yr (x:=rD x) (vr rfl)];exact z0E (n2 x hx) s) (by unfold cap;omega);have f2:vc [some d,some (.lst (B.map rD)),none] s=.ok (.nx [some d,some (.lst (B.map rD)),some (.int l)]) s:=by
   rw[vc,yq,yr c2,show (B.map λx=>D.int (lng x))=iL (B.map lng) by simp[_aF],z7T s (by simpa using fne),ml];rfl
  have c3:=z0z (fi:=yw (zd 1)) (mp:=[some 2,none]) (fg:=xM 1) (ft:=tOf (eOp dEq (ze yy (za (zd 1) zk)) (zd 0))) (fe:=zd 1) (ρ:=[some d,some (.lst (B.map rD)),some (.int l)]) (s:=s) rD rD (λx=>decide (lng x=(l:Int))) (λx=>[some (.int l),some (rD x)]) B (wY (vr rfl)) (λx _=>rfl) (λx hx=>vL (by rw[op2 (x:=.int (lng x)) (y:=.int l) (by rw[yr (x:=rD x) (vr rfl)];exact z0E (n2 x hx) s) (vr rfl),z6H])) (λx _ _=>vr rfl) (by unfold cap;omega);rw[same]at c3;simp only[xK,Mof,z04,st,_c,_i,_C];rw[zD f1,zD f2,uG,wg,c3];rfl
 exact key _ bw rw_
theorem LW.m_lw (s:Sto):wE [rD v] s=.ok (.int w) s:=by
 have bw:=h.byw s;obtain⟨x,t,e⟩:=_bz (z01.mpr h.has);have hx:x∈rel v w:=by rw[e];exact .head _
 have g:=h.relne hx;have wl:wgt x=(w:Int):=by
  have:=(z69 (m:=w) g.1).mpr (xY.mp hx).2.1;omega
 have mwg:=z0A g.1 g.2.1 s;rw[wl]at mwg;rw[e]at bw;have key:∀(d y:D) (ys:List D),yN [d] s=.ok (.lst (y::ys)) s->yB [y] s=.ok (.int w) s->wE [d] s=.ok (.int w) s:=λd y ys e1 e2=>by
  have st:zt ["lot"] [d]=[some d]:=rfl;simp only[wE,Mof,qO,st,_c,_i,_C];rw[qc,wg,yr (x:=y) (by rw[op2 (x:=.lst (y::ys)) (y:=.int 0) (by rw[yr (x:=d) (vr rfl)];exact e1) rfl,z2k (d:=y) (by omega) rfl]),e2];rfl
 exact key _ _ _ bw mwg
end
theorem LL.m_ll {v:List Int} {l:Nat} (h:LL v l) (hv:v.length<=4) (hb:∀s,xK [rD v] s=.ok (.lst ((za8 v l).map rD)) s) (s:Sto):wA [rD v] s=.ok (.int l) s:=by
 have bw:=hb s;obtain⟨x,t,e⟩:=_bz h.has;have hx:=z3i.mp (show x∈za8 v l by rw[e];exact .head _);have ml:=z0E (x:=x) (by omega) s;rw[hx.2.2.2]at ml;rw[e]at bw;have key:∀(d y:D) (ys:List D),xK [d] s=.ok (.lst (y::ys)) s->yy [y] s=.ok (.int l) s->wA [d] s=.ok (.int l) s:=λd y ys e1 e2=>by
  have st:zt ["lot"] [d]=[some d]:=rfl;simp only[wA,Mof,qB,st,_c,_i,_C];rw[qf,wg,yr (x:=y) (by rw[op2 (x:=.lst (y::ys)) (y:=.int 0) (by rw[yr (x:=d) (vr rfl)];exact e1) rfl,z2k (d:=y) (by omega) rfl]),e2];rfl
 exact key _ _ _ bw ml
theorem z81{n m w:Nat}{v:List Int}(h:LW n v w)(hm:m<=8)(s:Sto):zg [rD v,.int m] s=.ok (.lst ((rel v m).map rD)) s:=by
 have vl:=h.L.len;have lo:=h.L.lo;have hi:=h.L.hi;have hl:(2*m+1)<=17:=by omega
 have p:∀k,k<=4->(2*m+1) ^ k<=90000:=λk hk=>by
  have p1:(2*m+1) ^ k<=17 ^ k:=_ac hl k;have p2:17 ^ k<=17 ^ 4:=_a9 (by omega) hk;omega
 exact z17 h.L (by omega) (p _ (by omega)) (p _ (by omega)) (_O (_bx _ _) (_O z14 (p _ (by omega)))) s
theorem LW.often {n m w:Nat} {v:List Int} (h:LW n v w) (h1:1<=m) (h8:m<=8) (s:Sto):zu [rD v,.int m] s=.ok .non s:=by
 have w1:=h.want s;have w2:=z6S (x:=(m:Int)) (a:=1) (b:=8) (by omega) (by omega) s;have key:∀d e:D,xr [d] s=.ok .non s->xZ [e,.int 1,.int 8] s=.ok .non s->zu [d,e] s=.ok .non s:=λd e e1 e2=>by
  have st:zt ["lot","number"] [d,e]=[some d,some e]:=rfl;simp only[zu,Mof,xX,st,_c,_i,_C];rw[zD (ρ':=[some d,some e]) (s':=s) (by rw[xN,xI,yr (x:=d) (vr rfl),e1];rfl),xQ,xI,z1v (x:=e) (y:=.int 1) (z:=.int 8) (vr rfl) rfl rfl,e2];rfl
 exact key _ _ w1 w2
theorem LW.hasnone {n m w:Nat} {v:List Int} (h:LW n v w) (h1:1<=m) (h8:m<=8) (s:Sto):qX [rD v,.int m] s=.ok (.bl (rel v m).isEmpty) s:=by
 have w1:=h.often h1 h8 s;have w2:=z81 h h8 s;have key:∀d e:D,zu [d,e] s=.ok .non s->zg [d,e] s=.ok (.lst ((rel v m).map rD)) s->qX [d,e] s=.ok (.bl (rel v m).isEmpty) s:=λd e e1 e2=>by
  have st:zt ["lot","number"] [d,e]=[some d,some e]:=rfl;simp only[qX,Mof,z0X,st,_c,_i,_C];rw[zD (ρ':=[some d,some e]) (s':=s) (by rw[kQ,xI,call2 (x:=d) (y:=e) (vr rfl) (vr rfl),e1];rfl),qu,wg];unfold zbR;rw[call2 (x:=d) (y:=e) (vr rfl) (vr rfl),e2,Rb];simp[Dd.listOf]
 exact key _ _ w1 w2
end Pv
namespace Pp
open L2 Dd Pm Pg Pn
noncomputable abbrev T39:Int:=1000000000000000000000000000000000000000
end Pp
namespace Po
open L2 Dd Pm Pg Pn
end Po
namespace Pp
open L2 Dd Pm Pg Pn
def NoL(d:D):Prop:=Kd d/\∀n v,d=rD v->¬ Lot n v
theorem NoL.x{d:D}(h:NoL d)(s:Sto):xw [d] s=.ex "NoLot" s:=by
 rcases z9g h.1 s with⟨n,v,e,lt,_⟩ | ⟨e,_⟩;·exact absurd lt (h.2 n v e)
 ·exact z3j e
theorem NoL.other{d:D}(h:Kd d)(hn:∀xs,d≠.tup xs):NoL d:=⟨h,λn v e=>absurd e (hn _)⟩
theorem NoL.len{xs:List D}(h:∀x∈xs,(tyD x).isSome=true)(hl:xs.length<2\/4<xs.length):NoL (.tup xs):=⟨h,λn v e lt=>by
 have e':xs=iL v:=by simpa using e
 have h1:=lt.len;have h2:=lt.sz;rw[e']at hl;simp only[iL,_x]at hl;unfold Sz at h2;omega⟩
theorem NoL.odd{xs:List D}{o:D}(h:∀x∈xs,(tyD x).isSome=true)(ho:o∈xs)(hi:okI o=false):NoL (.tup xs):=⟨h,λn v e lt=>by
 have e':xs=iL v:=by simpa using e
 rw[e']at ho;obtain⟨x,hx,rfl⟩:=_I.mp ho;have:=lt.nn x hx;simp[okI]at hi;omega⟩
noncomputable def zas:List D:=[.int (-1),.bl true,.non,.str "1",.tup [.int 1],.bl false,.lst [.int 1]]
theorem zcQ{o:D}(h:o∈zas):(tyD o).isSome=true/\okI o=false:=by
 simp only[zas,_n,_af,_bE]at h;rcases h with rfl | rfl | rfl | rfl | rfl | rfl | rfl<;>exact⟨rfl,rfl⟩
theorem zax {s:Sto} {l n m:Nat} {v:List Int} (h:Pot s l) (hv:zh4 n m v):∃d s',yx [.loc l,rD v] s=.ok d s'/\NoL d/\ur s s' l:=by
 have hn:2<=v.length/\v.length<=4:=by have h1:=hv.len;have h2:=hv.sz;unfold Sz at h2;omega
 have st:∀d:D,zt ["_law_pot_here","_law_lot_here","_law_at","_law_odd","_law_some"] [.loc l,d]=[some (.loc l),some d,none,none,none]:=λd=>rfl;have gl:∀s,vM [rD v] s=.ok (.int v.length) s:=λs=>by simp[vM,yj]
 obtain⟨r1,s1,e1,a1,b1,d1⟩:=qI (ρ:=[some (.loc l),some (rD v),none,none,none]) (f:=zd 0) (g:=ze vM (za (zd 1) zk)) (far:=v.length) h (by omega) (z27 (by omega)) (by simp) (by rw[yr (x:=rD v) (by simp)];exact gl s);obtain⟨k,rfl⟩:=_ae a1;have q1:xj [some (.loc l),some (rD v),none,none,none] s=.ok (.nx [some (.loc l),some (rD v),some (.int k),none,none]) s1:=by rw[xj,yq,e1];rfl
 obtain⟨r2,s2,e2,a2,b2,d2⟩:=qI (ρ:=[some (.loc l),some (rD v),some (.int k),none,none]) (f:=zd 0) (g:=eC (.int 7)) (far:=7) d1.pot (by decide) (z27 (by decide)) (by simp) (by simp);have hr2:r2.toNat<zas.length:=by simp[zas];omega
 have ix2:=z2k (xs:=zas) (d:=zas[r2.toNat]) (s:=s2) a2 (by simp[hr2]);have ho:=zcQ (_aB hr2);generalize zas[r2.toNat]=o at ix2 ho;have q2:xp [some (.loc l),some (rD v),some (.int k),none,none] s1=.ok (.nx [some (.loc l),some (rD v),some (.int k),some o,none]) s2:=by
  have c7:(7:Nat)<=cap:=by decide
  have x1:jP (za (z4V (eC (.int 1))) (za (eC (.bl true)) (za (eC .non) (za (eC (.str "1")) (za (kJ (za (eC (.int 1)) zk)) (za (eC (.bl false)) (za (jP (za (eC (.int 1)) zk)) zk))))))) [some (.loc l),some (rD v),some (.int k),none,none] s1=.ok (.lst zas) s1:=by simp[cap,zas]
  rw[xp,yq,uY,x1,Rb,e2,Rb,ix2];rfl
 have sk:dSl (rD v) none (some (k:Int)) s2=.ok (.tup ((iL v).take k)) s2:=z11 _ _ _;have sd1:dSl (rD v) (some ((k:Int)+1)) none s2=.ok (.tup ((iL v).drop (k+1))) s2:=z5v (iL v) (k+1) s2;have s1':dSl (rD v) none (some 1) s2=.ok (.tup ((iL v).take 1)) s2:=z11 (iL v) 1 s2;have s5':dSl (.tup (iL v++iL v++iL v)) none (some 5) s2=.ok (.tup ((iL v++iL v++iL v).take 5)) s2:=z11 (iL v++iL v++iL v) 5 s2;have lv:(iL v).length=v.length:=by simp
 have iT:∀x∈(iL v).take k,x∈iL v:=λx hx=>_Z hx;have iW:∀x∈(iL v).drop (k+1),x∈iL v:=λx hx=>_bD hx;have lT:((iL v).take k).length<=4:=by rw[_ak];omega
 have lW:((iL v).drop (k+1)).length<=4:=by rw[_bf];omega
 generalize (iL v).take k=T at sk iT lT;generalize (iL v).drop (k+1)=W at sd1 iW lW;have ad:ud (rD v) (rD v) s2=.ok (.tup (iL v++iL v)) s2:=by rw[z18,_g (by simp[cap];omega)]
 have ad2:ud (.tup (iL v++iL v)) (rD v) s2=.ok (.tup (iL v++iL v++iL v)) s2:=by rw[z18,_g (by simp[cap];omega)]
 have rp:z57 (.tup [.int 0]) (.int v.length) s2=.ok (rD (List.replicate v.length 0)) s2:=by
  rw[zbG,_g ⟨by omega,by simp,by simp[cap];omega⟩];congr 2;rw[_b0];generalize v.length=n;induction n with
  | zero=>rfl | succ n ih=>rw[_aq,_aQ,ih];rfl
 have gls:z5x [rD v] s2=.ok (.lst (iL v)) s2:=by simp[z5x,yj]
 let M7:List D:=[.tup (T++[o]++W),rD (List.replicate v.length 0),.lst (iL v),.tup ((iL v++iL v++iL v).take 5),.tup ((iL v).take 1),.tup [],.non];have q3:yF [some (.loc l),some (rD v),some (.int k),some o,none] s2=.ok (.nx [some (.loc l),some (rD v),some (.int k),some o,some (.lst M7)]) s2:=by
  have c1:T.length+1<=cap:=by simp[cap];omega
  have c2:T.length+1+W.length<=cap:=by simp[cap];omega
  have c4:(1:Nat)<=cap:=by decide
  have c0:(0:Nat)<=cap:=by decide
  have c7:(7:Nat)<=cap:=by decide
  have key:∀(d z g aa bb cc y:D),dSl d none (some (k:Int)) s2=.ok (.tup T) s2->dSl d (some ((k:Int)+1)) none s2=.ok (.tup W) s2->vM [d] s2=.ok (.int v.length) s2->z57 (.tup [.int 0]) (.int v.length) s2=.ok z s2->z5x [d] s2=.ok g s2->ud d d s2=.ok aa s2->ud aa d s2=.ok bb s2->dSl bb none (some 5) s2=.ok cc s2->dSl d none (some 1) s2=.ok y s2-> yF [some (.loc l),some d,some (.int k),some o,none] s2=.ok (.nx [some (.loc l),some d,some (.int k),some o,some (.lst [.tup (T++[o]++W),z,g,cc,y,.tup [],.non])]) s2:=λd z g aa bb cc y x1 x2 x3 x4 x5 x6 x7 x8 x9=>by
   rw[yF,yq];simp only[jY,zJ,xq,uY,z8I,qE,z1r,jX,z0M,z7d,wy,_J,_K,Rb,x1,x2,x3,x4,x5,x6,x7,x8,x9,z5U,z18,_y,_c,_i,_S,_g c1,_g c2,_g c4,_g c0,Nat.reduceAdd,_g c7,_cH,_cG]
  exact key _ _ _ _ _ _ _ sk sd1 (gl s2) rp gls ad ad2 s5' s1'
 let M11:List D:=M7++[.int 7,.str "1:2",.dct,.tup [rD v]];obtain⟨r4,s4,e4,a4,b4,d4⟩:=qI (f:=zd 0) (g:=eC (.int 11)) (far:=11) (ρ:=[some (.loc l),some (rD v),some (.int k),some o,some (.lst M7)]) (d1.trans d2).pot (by decide) (z27 (by decide)) (by simp) (by simp);have hr4:r4.toNat<M11.length:=by simp[M11,M7];omega
 have ix4:=z2k (xs:=M11) (d:=M11[r4.toNat]) (s:=s4) a4 (by simp[hr4]);have hrow:∀x∈iL v,(tyD x).isSome=true:=λx hx=>by obtain⟨z,hz,rfl⟩:=_I.mp hx;rfl
 have hM:∀d∈M11,NoL d:=by
  intro d hd;simp only[M11,M7,_B,_n,_af,_bE]at hd;rcases hd with (rfl | rfl | rfl | rfl | rfl | rfl | rfl) | rfl | rfl | rfl | rfl
  ·refine NoL.odd (o:=o) (λx hx=>?_) (by simp) ho.2;simp only[_B,_n,_af,_bE]at hx;rcases hx with (hx | rfl) | hx;·exact hrow x (iT x hx)
   ·exact ho.1
   ·exact hrow x (iW x hx)
  ·refine⟨λx hx=>by obtain⟨z,hz,rfl⟩:=_I.mp hx;rfl,λn' v' e lt=>?_⟩;have e':List.replicate v.length 0=v':=z7y (by simpa using e);obtain⟨x,hx,h0⟩:=lt.pos;rw[<- e']at hx;have:=_aN hx;omega
  ·exact NoL.other rfl (by intro xs q;cases q)
  ·refine NoL.len (λx hx=>?_) (.inr (by simp;omega));have hx:=_Z hx;simp only[_B]at hx;rcases hx with (hx | hx) | hx<;>exact hrow x hx
  ·exact NoL.len (λx hx=>hrow x (_Z hx)) (.inl (by simp;omega))
  ·exact NoL.len (λx hx=>by cases hx) (.inl (by decide))
  ·exact NoL.other rfl (by intro xs q;cases q)
  ·exact NoL.other rfl (by intro xs q;cases q)
  ·exact NoL.other rfl (by intro xs q;cases q)
  ·exact NoL.other rfl (by intro xs q;cases q)
  ·exact NoL.len (λx hx=>by simp only[_n,_af,_bE]at hx;subst hx;rfl) (.inl (by simp))
 refine⟨M11[r4.toNat],s4,?_,hM _ (_aB hr4),(d1.trans d2).trans d4⟩;have q4:yH [some (.loc l),some (rD v),some (.int k),some o,some (.lst M7)] s2=.ok (.rt M11[r4.toNat]) s4:=by
  have lM:M7.length=7:=rfl;have key:∀(d x y:D) (z:List D),z.length=7->x=.lst z->ze zo (za (zd 0) (za (eC (.int 11)) zk)) [some (.loc l),some d,some (.int k),some o,some x] s2=.ok (.int r4) s4->dIx (.lst (z++[.int 7,.str "1:2",.dct,.tup [d]])) (.int r4) s4=.ok y s4-> yH [some (.loc l),some d,some (.int k),some o,some x] s2=.ok (.rt y) s4:=λd x y z hz hx x1 x2=>by
   subst hx;have c4:(4:Nat)<=cap:=by decide
   have c1:(1:Nat)<=cap:=by decide
   have c11:(11:Nat)<=cap:=by decide
   rw[yH,wg];simp only[jY,zJ,xq,uY,jX,z0M,z7d,_J,_K,Rb,x1,x2,z7W,_c,_i,hz,_S,Nat.reduceAdd,_g c1,_g c4,_g c11]
  exact key _ _ _ M7 lM rfl e4 ix4
 simp only[yx,Mof,wB,st,_c,_i,_C];rw[zD q1,zD q2,zD q3,q4]
end Pp
namespace Pv
open L2 Dd Pm Pg Pn Po Pr Pp Pt
theorem zhy{r:Int}(s:Sto)(h0:0<=r)(h1:r<3):∃far:Int,dIx (.lst [.int 10,.int 61,.int 1001]) (.int r) s=.ok (.int far) s/\10<=far/\far<=1001:=by
 obtain⟨k,rfl⟩:=_ae h0;have:k=0\/k=1\/k=2:=by omega
 rcases this with rfl | rfl | rfl;·exact⟨10,rfl,by decide,by decide⟩
 ·exact⟨61,rfl,by decide,by decide⟩
 ·exact⟨1001,rfl,by decide,by decide⟩
theorem z6e(B:Int):∀ys:List D,(∀y∈ys,∃x:Int,y=.int x/\0<=x/\x<=B)->∃xs:List Int,ys=iL xs/\∀x∈xs,0<=x/\x<=B
 | [],_=>⟨[],rfl,by simp⟩ | y::ys,h=>by
  obtain⟨x,rfl,hx⟩:=h y (by simp);obtain⟨xs,rfl,hs⟩:=z6e B ys λz hz=>h z (by simp[hz]);exact⟨x::xs,rfl,λz hz=>by rcases _n.mp hz with rfl | hz;exact hx;exact hs z hz⟩
noncomputable abbrev EvS(l:Nat)(n:Nat)(a3 a4 a5 a6 a7:Option D):Ev:=[some (.loc l),some (.int n),a3,a4,a5,a6,a7]
theorem z5d {s:Sto} {l n:Nat} (h:Pot s l) (hsz:Sz n):∃v s',yR [.loc l,.int n] s=.ok (rD v) s'/\SmL n v/\(∃x∈v,0<x)/\ur s s' l:=by
 have hl:=h.lt;have hn:2<=n/\n<=4:=by unfold Sz at hsz;omega
 have st:zt ["_law_pot_here","_law_size","_law_far","_law_found","_law_at","_law_to","_law_way"] [.loc l,.int n]=EvS l n none none none none none:=rfl;obtain⟨r1,s1,e1,a1,b1,d1⟩:=qI (ρ:=EvS l n none none none none none) (f:=zd 0) (g:=eC (.int 3)) (far:=3) h (by decide) (z27 (by decide)) (by simp) (by simp);obtain⟨far,ef,f0,f1⟩:=zhy s1 a1 b1;have ft:far<2 ^ 2000:=Int.lt_of_le_of_lt f1 (by decide +kernel);have p1:we (EvS l n none none none none none) s=.ok (.nx (EvS l n (some (.int far)) none none none none)) s1:=by
  have:jP (za (eC (.int 10)) (za (eC (.int 61)) (za (eC (.int 1001)) zk))) (EvS l n none none none none none) s=.ok (.lst [.int 10,.int 61,.int 1001]) s:=by
   simp only[jY,zJ,xq,z7d,Rb];rw[_g (by simp[cap])]
  rw[we,yq,uY,this,Rb,e1,Rb,ef];rfl
 obtain⟨ys,s2,e2,y1,y2,d2⟩:=z9a (fi:=z5J (za (zd 1) zk)) (mp:=[some 0,some 2,none]) (fg:=xM 2) (fe:=ze zo (za (zd 0) (za (zd 1) zk))) (ρ:=EvS l n (some (.int far)) none none none none) (s:=s1) (s0:=s1) (λk:Nat=>D.int ((k:Nat):Int)) (λk=>[some (.loc l),some (.int far),some (.int ((k:Nat):Int))]) (λ_ s'=>ur s s' l) (λy=>∃x:Int,y=.int x/\0<=x/\x<=1000) (List.range n) (z0J (n:=n) (by omega) (by simp)) (λk _ s=>by simp) (λi k _ s' hd=>by
   obtain⟨x,s'',e,x0,x1,d⟩:=zbd hd.pot (far:=far) (by omega) ft;exact⟨.int x,s'',by rw[call2 (x:=.loc l) (y:=.int far) (vr rfl) (vr rfl)];exact e,⟨x,rfl,x0,by omega⟩,hd.trans d⟩) (by simp[cap];omega) d1 (λy ⟨x,hx,_⟩=>by subst hx;rfl);obtain⟨xs,rfl,x2⟩:=z6e 1000 ys y2;have n2:xs.length=n:=by simpa using y1
 have p2:wo (EvS l n (some (.int far)) none none none none) s1=.ok (.nx (EvS l n (some (.int far)) (some (.loc s.length)) none none none)) (s2++[iL xs]):=by
  rw[wo,yq,e2,Rb,d2.len];rfl
 have L3:=LS.start d2 h xs;obtain⟨at_,s4,e4,a4,b4,d4⟩:=qI (ρ:=EvS l n (some (.int far)) (some (.loc s.length)) none none none) (f:=zd 0) (g:=zd 1) (far:=n) L3.pot (by omega) (z27 (by omega)) (by simp) (by simp);have L4:=L3.drawn hl d4;obtain⟨to,s5,e5,a5,b5,d5⟩:=qI (ρ:=EvS l n (some (.int far)) (some (.loc s.length)) none none none) (f:=zd 0) (g:=zd 1) (far:=n) L4.pot (by omega) (z27 (by omega)) (by simp) (by simp);have L5':=L4.drawn hl d5;have p3:xV (EvS l n (some (.int far)) (some (.loc s.length)) none none none) (s2++[iL xs])=.ok (.nx (EvS l n (some (.int far)) (some (.loc s.length)) (some (.int at_)) (some (.int to)) none)) s5:=by
  rw[xV,zdr,zJ,e4,Rb,zJ,e5];rfl
 obtain⟨way,s5w,e3,a3,b3,d3⟩:=qI (ρ:=EvS l n (some (.int far)) (some (.loc s.length)) (some (.int at_)) (some (.int to)) none) (f:=zd 0) (g:=eC (.int 5)) (far:=5) L5'.pot (by decide) (z27 (by decide)) (by simp) (by simp);have L5:=L5'.drawn hl d3;have p4:wf (EvS l n (some (.int far)) (some (.loc s.length)) (some (.int at_)) (some (.int to)) none) s5=.ok (.nx (EvS l n (some (.int far)) (some (.loc s.length)) (some (.int at_)) (some (.int to)) (some (.int way)))) s5w:=by rw[wf,yq,e3];rfl
 let E:=EvS l n (some (.int far)) (some (.loc s.length)) (some (.int at_)) (some (.int to)) (some (.int way));have s5':∃s6 ys,yZ E s5w=.ok (.nx E) s6/\LS s l s6 ys/\(∀y∈ys,0<=y/\y<=1000)/\ys.length=n:=by
  have t:tOf (eOp dEq (zd 6) (eC (.int 0))) E s5w=.ok (decide (way=0)) s5w:=vL (by rw[op2 (x:=.int way) (y:=.int 0) (vr rfl) rfl,z6H]);by_cases z:way=0
  ·refine⟨_,_,?_,L5.set hl (xs.set at_.toNat 0),z8U x2 (by omega),by simp[n2]⟩;rw[yZ,z3Z,t,Rb,_g (by simpa using z),vR];exact z50 (s1:=s5w) (s2:=s5w) (x:=0) rfl (vr rfl) (vr rfl) L5.at_ a4 (by omega)
  ·refine⟨s5w,xs,?_,L5,x2,n2⟩;rw[yZ,z3Z,t,Rb,_l (by simpa using z)];rfl
 obtain⟨s6,ys,p5,L6,x6,n6⟩:=s5';have s7':∃s7 zs,xb E s6=.ok (.nx E) s7/\LS s l s7 zs/\(∀y∈zs,0<=y/\y<=1000)/\zs.length=n:=by
  have t:tOf (eOp dEq (zd 6) (eC (.int 1))) E s6=.ok (decide (way=1)) s6:=vL (by rw[op2 (x:=.int way) (y:=.int 1) (vr rfl) rfl,z6H]);by_cases z:way=1
  ·have hra:to.toNat<ys.length:=by omega
   have ix:=zdv (d:=.int ys[to.toNat]) L6.at_ a5 (by simp[hra]);have my:=x6 ys[to.toNat] (_aB hra);refine⟨_,_,?_,L6.set hl (ys.set at_.toNat ys[to.toNat]),z8U x6 my,by simp[n6]⟩;rw[xb,z3Z,t,Rb,_g (by simpa using z),vT];exact z50 (s1:=s6) (s2:=s6) (x:=ys[to.toNat]) (by rw[op2 (x:=.loc s.length) (y:=.int to) (vr rfl) (vr rfl)];exact ix) (vr rfl) (vr rfl) L6.at_ a4 (by omega)
  ·refine⟨s6,ys,?_,L6,x6,n6⟩;rw[xb,z3Z,t,Rb,_l (by simpa using z)];rfl
 obtain⟨s7,zs,p7,L7,x7,n7⟩:=s7';have ne7:zs≠[]:=λz=>by rw[z]at n7;simp at n7;omega
 have s9':∃s9 ws,yV E s7=.ok (.nx E) s9/\LS s l s9 ws/\(∀y∈ws,0<=y/\y<=1000)/\ws.length=n/\∃x∈ws,0<x:=by
  have t:=zcd (f:=zd 3) (ρ:=E) ne7 L7.at_ (vr rfl);by_cases z:maxL zs=0
  ·obtain⟨ra,sa,ea,aa,ba,da⟩:=qI (ρ:=E) (f:=zd 0) (g:=eOp zbA (zd 2) (eC (.int 1))) (far:=far-1) L7.pot (by omega) (Int.lt_trans (by omega) ft) (vr rfl) (by rw[op2 (x:=.int far) (y:=.int 1) (vr rfl) rfl];rfl);have La:=L7.drawn hl da;refine⟨_,_,?_,La.set hl (zs.set to.toNat (1+ra)),z8U x7 (by omega),by simp[n7],1+ra,List.mem_set (by omega) _,by omega⟩;rw[yV,z3Z,t,Rb,_g (by simpa using z),vI];exact z50 (s1:=sa) (s2:=sa) (x:=1+ra) (by rw[uY,z7d,Rb,ea];rfl) (vr rfl) (vr rfl) La.at_ a5 (by omega)
  ·refine⟨s7,zs,?_,L7,x7,n7,z78 ne7 (λy hy=>(x7 y hy).1) z⟩;rw[yV,z3Z,t,Rb,_l (by simpa using z)];rfl
 obtain⟨s9,ws,p9,L9,x9,n9,w9⟩:=s9';refine⟨ws,s9.take s.length,?_,⟨n9,hn.1,hn.2,x9⟩,w9,L9.fin hl⟩;simp only[yR,z34,Mof,uu,st,_c,_i,_C];rw[zD p1,zD p2,zD p3,zD p4,zD p5,zD p7,zD p9];have c:jZ [.loc s.length] s9=.ok (rD ws) s9:=by simp only[jZ,yj,L9.at_]
 rw[vp,wg,yr (x:=.loc s.length) (vr rfl),c];simp only[Rb];exact z9O
section
variable {d e x:D}{s:Sto}{c:Str}
theorem zgr{n a b:Int}(hn:¬ (a<=n/\n<=b))(s:Sto):zK [.int n,.int a,.int b] s=.ex "NoNumber" s:=by
 have i:=z2s n s;by_cases h:a<=n
 ·have hb:¬ n<=b:=λz=>hn ⟨h,z⟩;simp[zK,jE,wb,zt,i,h,hb]
 ·simp[zK,jE,wb,zt,i,h]
theorem zfT{d a b:D}(h1:(tyD d).isSome=true)(h2:isI d=false)(s:Sto):zK [d,a,b] s=.ex "NoNumber" s:=by
 have i:=jH h1 s;rw[h2]at i;simp[zK,jE,wb,zt,i]
theorem zdm (h:xw [d] s=.ex c s):zL [d] s=.ex c s:=by
 have st:zt ["lot"] [d]=[some d]:=rfl;simp only[zL,jE,vV,st,_c,_i,_C];rw[z1q (c:=c) (s':=s) (by rw[vt];exact jC (by rw[yr (x:=d) (vr rfl),h]))]
theorem zcu {k:Int} (h:xw [d] s=.ok .non s) (hm:vN [d] s=.ok (.int k) s) (hk:1000<k):zL [d] s=.ex "TooMany" s:=by
 have st:zt ["lot"] [d]=[some d]:=rfl;simp only[zL,jE,vV,st,_c,_i,_C];rw[zD (ρ':=[some d]) (s':=s) (by rw[vt,xI,yr (x:=d) (vr rfl),h];rfl),qC,zca (vL (by rw[op2 (x:=.int k) (y:=.int 1000) (by rw[yr (x:=d) (vr rfl)];exact hm) rfl,zbB,_aO hk])),zan]
theorem zhn (h:zL [d] s=.ex c s):zf [d,e] s=.ex c s:=by
 have st:zt ["lot","number"] [d,e]=[some d,some e]:=rfl;simp only[zf,jE,yI,st,_c,_i,_C];rw[z1q (c:=c) (s':=s) (by rw[yA];exact jC (by rw[yr (x:=d) (vr rfl),h]))]
theorem zhc (h0:zL [d] s=.ok .non s) (h:zK [e,.int 1,.int 8] s=.ex c s):zf [d,e] s=.ex c s:=by
 have st:zt ["lot","number"] [d,e]=[some d,some e]:=rfl;simp only[zf,jE,yI,st,_c,_i,_C];rw[zD (ρ':=[some d,some e]) (s':=s) (by rw[yA,xI,yr (x:=d) (vr rfl),h0];rfl),xG,jC (by rw[z1v (x:=e) (y:=.int 1) (z:=.int 8) (vr rfl) rfl rfl,h])]
theorem zfN (h:zL [d] s=.ex c s):zQ [d] s=.ex c s:=by
 have st:zt ["lot","most","found","least"] [d]=V4 (some d) none none none:=rfl;simp only[zQ,jE,ki,st,_c,_i,_C];rw[z1q (c:=c) (s':=s) (by rw[jl];exact jC (by rw[yr (x:=d) (vr rfl),h]))]
theorem zgl (h:zQ [d] s=.ex c s):yo [d] s=.ex c s:=by
 have st:zt ["lot","found","least"] [d]=[some d,none,none]:=rfl;have c1:zV (yw (ze zQ (za (zd 0) zk))) [none] (xM 0) xT (ze yy (za (zd 0) zk)) [some d,none,none] s=.ex c s:=by
  rw[kq,kM,z13,yr (x:=d) (vr rfl),h];simp only[R.bind_ex]
 simp only[yo,jE,ku,st,_c,_i,_C];rw[z1q (c:=c) (s':=s) (by
  rw[jh,yq,wy,zJ,vr (d:=d) rfl,Rb,zJ,wy,zJ,c1];simp only[R.bind_ex])]
theorem zhe(h:zQ [d] s=.ex c s):yg [d] s=.ex c s:=by
 have st:zt ["lot"] [d]=[some d]:=rfl;simp only[yg,jE,qe,st,_c,_i,_C];rw[ux,wg,wy,zJ,uY,yr (x:=d) (vr rfl),h];simp only[R.bind_ex]
theorem zhi(h:yo [d] s=.ex c s):yh [d] s=.ex c s:=by
 have st:zt ["lot"] [d]=[some d]:=rfl;simp only[yh,jE,qa,st,_c,_i,_C];rw[uk,wg,wy,zJ,uY,yr (x:=d) (vr rfl),h];simp only[R.bind_ex]
theorem zh9 (h:zf [d,e] s=.ex c s):xS [d,e] s=.ex c s:=by
 have st:zt ["lot","number"] [d,e]=[some d,some e]:=rfl;simp only[xS,jE,z0a,st,_c,_i,_C];rw[z1q (c:=c) (s':=s) (by rw[kc];exact jC (by rw[call2 (x:=d) (y:=e) (vr rfl) (vr rfl),h]))]
theorem zh8 (h:zf [d,e] s=.ex c s):ye [d,e] s=.ex c s:=by
 have st:zt ["lot","number","clashes"] [d,e]=[some d,some e,none]:=rfl;simp only[ye,jE,ql,st,_c,_i,_C];rw[z1q (c:=c) (s':=s) (by rw[qj];exact jC (by rw[call2 (x:=d) (y:=e) (vr rfl) (vr rfl),h]))]
theorem zh1 (h:zf [d,e] s=.ex c s):wv [d,e,x] s=.ex c s:=by
 have st:zt ["lot","number","thing","one","other"] [d,e,x]=[some d,some e,some x,none,none]:=rfl;simp only[wv,jE,z0f,st,_c,_i,_C];rw[z1q (c:=c) (s':=s) (by rw[jM];exact jC (by rw[call2 (x:=d) (y:=e) (vr rfl) (vr rfl),h]))]
end
theorem uL:LeM xr zL:=LeM.mof (LeS.seq (LeS.drop (LeE.call z1w)) (LeS.if_ LeS.fNo LeS.rfl))
theorem z3a:LeM zu zf:=LeM.mof (LeS.seq (LeS.drop (LeE.call uL)) (LeS.drop (LeE.call Pt.z1Z)))
theorem z7G:LeM yN zQ:=LeM.mof (LeS.seq (LeS.drop (LeE.call uL)) (LeS.seq LeS.calm (LeS.seq LeS.calm (LeS.seq LeS.calm (LeS.seq LeS.calm LeS.calm)))))
theorem zgj:LeM qX xS:=LeM.mof (LeS.seq (LeS.drop (LeE.call z3a)) LeS.calm)
theorem zdY:LeM vf ye:=LeM.mof (LeS.seq (LeS.drop (LeE.call z3a)) (LeS.seq LeS.calm LeS.calm))
theorem zfA:LeM ja wv:=LeM.mof (LeS.seq (LeS.drop (LeE.call z3a)) (LeS.seq LeS.calm (LeS.seq LeS.calm (LeS.seq LeS.calm LeS.calm))))
theorem LeE.seqI{f f':FE}(h:LeE f f'):∀ ρ s a s',yw f ρ s=.ok a s'->yw f' ρ s=.ok a s':=fun ρ s a s' e=>by
 rw[z13]at e ⊢;cases q:f ρ s with
 | ok d s1=>rw[h ρ s d s1 q];rw[q]at e;exact e | no=>rw[q]at e;cases e | ex c t=>rw[q]at e;cases e
theorem LeE.comp{fi fi':FI}{mp:List (Option Nat)}{fg:FG}{ft:FT}{fe:FE}(h:∀ ρ s a s',fi ρ s=.ok a s'->fi' ρ s=.ok a s'):LeE (zV fi mp fg ft fe) (zV fi' mp fg ft fe):=fun ρ s a s' e=>by
 rw[kq,kM]at e ⊢;cases q:fi ρ s with
 | ok d s1=>rw[h ρ s d s1 q];rw[q]at e;exact e | no=>rw[q]at e;cases e | ex c t=>rw[q]at e;cases e
theorem LeE.arg1{M:Mir}{f f':FE}(h:LeE f f'):LeE (ze M (za f zk)) (ze M (za f' zk)):=fun ρ s a s' e=>by
 rw[wy,zJ]at e ⊢;cases q:f ρ s with
 | ok d s1=>rw[h ρ s d s1 q];rw[q]at e;exact e | no=>rw[q]at e;cases e | ex c t=>rw[q]at e;cases e
theorem LeE.arg2{M:Mir}{g f f':FE}(h:LeE f f'):LeE (ze M (za g (za f zk))) (ze M (za g (za f' zk))):=fun ρ s a s' e=>by
 rw[wy,zJ]at e ⊢;cases q1:g ρ s with
 | ok d1 t1=>
  rw[q1,Rb,zJ]at e;rw[Rb,zJ];cases q:f ρ t1 with
  | ok d s1=>rw[h ρ t1 d s1 q];rw[q]at e;exact e | no=>rw[q]at e;cases e | ex c t=>rw[q]at e;cases e
 | no=>rw[q1]at e;cases e | ex c t=>rw[q1]at e;cases e
theorem LeE.opL{o:D->D->Sto->R D}{f f' g:FE}(h:LeE f f'):LeE (eOp o f g) (eOp o f' g):=fun ρ s a s' e=>by
 rw[uY]at e ⊢;cases q:f ρ s with
 | ok d s1=>rw[h ρ s d s1 q];rw[q]at e;exact e | no=>rw[q]at e;cases e | ex c t=>rw[q]at e;cases e
theorem zaM:LeM xK yo:=LeM.mof (LeS.seq (LeS.set (LeE.arg2 (LeE.arg1 (LeE.comp (LeE.seqI (Dd.LeE.call z7G)))))) (LeS.seq LeS.calm LeS.calm))
theorem zfB:LeM wE yg:=LeM.mof (LeS.ret (LeE.arg1 (LeE.opL (Dd.LeE.call z7G))))
theorem zfV:LeM wA yh:=LeM.mof (LeS.ret (LeE.arg1 (LeE.opL (Dd.LeE.call zaM))))
theorem z67:∀a b:List Int,HT.lexLt a b=lexN a b
 | [],[]=>rfl | [],_::_=>rfl | _::_,[]=>rfl | x::a,y::b=>by
  show (if x=y then HT.lexLt a b else decide (x<y))=if x=y then lexN a b else decide (x<y);rw[z67 a b]
noncomputable def neg(x:List Int):List Int:=x.map λi=>-i
noncomputable def abv(x:List Int):List Int:=x.map λi=>max i 0
theorem z9c {x:List Int} (hl:x.length<=1000) (s:Sto):wC [rD x] s=.ok (rD (neg x)) s:=by
 have c:=comp_map (ρ:=[some (rD x)]) (mp:=[none]) (fg:=xM 0) (fe:=z4V (zd 0)) (s:=s) (fi:=yw (zd 0)) D.int (λi:Int=>D.int (-i)) (λi=>[some (.int i)]) x (z3o (vr rfl)) (λi _=>rfl) (λi _=>by rw[z5M,vr (d:=.int i) rfl,Rb]) (by simp[cap];omega);have key:∀(d:D) (ys:List D),zV (yw (zd 0)) [none] (xM 0) xT (z4V (zd 0)) [some d] s=.ok (.lst ys) s->wC [d] s=.ok (.tup ys) s:=λd ys h=>by
  have st:zt ["line"] [d]=[some d]:=rfl;simp only[wC,Mof,z4g,st,_c,_i,_C];rw[z2d,wg,yr h];simp[jZ,yj]
 rw[key _ _ c];simp[neg,rD,_aF]
theorem z7F {x:List Int} (hl:x.length<=1000) (s:Sto):uS [rD x] s=.ok (rD (abv x)) s:=by
 have c:=comp_map (ρ:=[some (rD x)]) (mp:=[none]) (fg:=xM 0) (fe:=ze z4r (za (zd 0) (za (eC (.int 0)) zk))) (s:=s) (fi:=yw (zd 0)) D.int (λi:Int=>D.int (max i 0)) (λi=>[some (.int i)]) x (z3o (vr rfl)) (λi _=>rfl) (λi _=>by rw[call2 (x:=.int i) (y:=.int 0) (vr rfl) rfl];simp only[z4r];congr 2;split<;>omega) (by simp[cap];omega);have key:∀(d:D) (ys:List D),zV (yw (zd 0)) [none] (xM 0) xT (ze z4r (za (zd 0) (za (eC (.int 0)) zk))) [some d] s=.ok (.lst ys) s->uS [d] s=.ok (.tup ys) s:=λd ys h=>by
  have st:zt ["line"] [d]=[some d]:=rfl;simp only[uS,Mof,z5D,st,_c,_i,_C];rw[z41,wg,yr h];simp[jZ,yj]
 rw[key _ _ c];simp[abv,rD,_aF]
noncomputable def cls(v:List Int)(m:Nat):List (List Int×List Int):=((rel v m).filter λx=>lexN (neg x) x).map λx=>(abv (neg x),abv x)
noncomputable abbrev cD2(p:List Int×List Int):D:=.tup [rD p.1,rD p.2]
theorem LW.fc {n m w:Nat} {v:List Int} (h:LW n v w) (h1:1<=m) (h8:m<=8) (s:Sto) (y:D) (hy:wj [some (rD v),some (.int m),some (.lst ((cls v m).map cD2))] s=.ok (.rt y) s):vf [rD v,.int m] s=.ok y s:=by
 have w1:=h.often h1 h8 s;have w2:=z81 h h8 s;have rn:∀x∈rel v m,x.length<=1000:=λx hx=>(h.relne hx).2.1;have rl:(rel v m).length<=90000:=by
  have:=_bx (z92 v) (box v.length m);have b:=z14 (n:=v.length) (m:=m);have:(2*m+1) ^ v.length<=17 ^ 4:=_O (_ac (by omega) _) (_a9 (by omega) (by have:=h.L.len;have:=h.L.hi;omega));unfold rel;omega
 have key:∀d e:D,zu [d,e] s=.ok .non s->zg [d,e] s=.ok (.lst ((rel v m).map rD)) s->wj [some d,some e,some (.lst ((cls v m).map cD2))] s=.ok (.rt y) s->vf [d,e] s=.ok y s:=λd e e1 e2 e3=>by
  have st:zt ["lot","number","clashes"] [d,e]=[some d,some e,none]:=rfl;have tn:∀(x:List Int) (hx:x∈rel v m),ze wC (za (zd 0) zk) [some (rD x)] s=.ok (rD (neg x)) s:=λx hx=>by rw[yr (x:=rD x) (vr rfl)];exact z9c (rn x hx) s
  have c:=z0z (fi:=yw (ze zg (za (zd 0) (za (zd 1) zk)))) (mp:=[none]) (fg:=xM 0) (ft:=tOf (eOp zd2 (ze wC (za (zd 0) zk)) (zd 0))) (fe:=kJ (za (ze uS (za (ze wC (za (zd 0) zk)) zk)) (za (ze uS (za (zd 0) zk)) zk))) (ρ:=[some d,some e,none]) (s:=s) rD (λx=>cD2 (abv (neg x),abv x)) (λx=>lexN (neg x) x) (λx=>[some (rD x)]) (rel v m) (wY (by rw[call2 (x:=d) (y:=e) (vr rfl) (vr rfl)];exact e2)) (λx _=>rfl) (λx hx=>vL (by
    rw[op2 (x:=rD (neg x)) (y:=rD x) (tn x hx) (vr rfl)];simp only[zd2];rw[show intsOf (iL (neg x))=some (neg x) from xR _,show intsOf (iL x)=some x from xR _];simp only[];rw[z67])) (λx hx _=>by
    have nl:(neg x).length<=1000:=by unfold neg;rw[_x];exact rn x hx
    rw[z0M,zJ,yr (x:=rD (neg x)) (tn x hx),z7F nl,Rb,zJ,yr (x:=rD x) (vr rfl),z7F (rn x hx),Rb,xq];simp[cap]) (by unfold cap;omega);have ec:((rel v m).filter λx=>lexN (neg x) x).map (λx=>cD2 (abv (neg x),abv x))=(cls v m).map cD2:=by unfold cls;rw[_bn];rfl
  rw[ec]at c;simp only[vf,Mof,jf,st,_c,_i,_C];rw[zD (ρ':=[some d,some e,none]) (s':=s) (by rw[qp,xI,call2 (x:=d) (y:=e) (vr rfl) (vr rfl),e1];rfl),zD (ρ':=[some d,some e,some (.lst ((cls v m).map cD2))]) (s':=s) (by rw[vF,yq,c];rfl),e3]
 exact key _ _ w1 w2 hy
end Pv
namespace K53
open L2 Dd Pm Pg Pn Po Pr Pp Pt Pv
theorem isx{c T:Str}{ρ:Ev}{s:Sto}(hc:c∈rsX)(h:ρ[0]? = some (some (.exc c))):z0u rsX T (zd 0) ρ s=.ok (.bl (c==T)) s:=by
 show (zd 0 ρ s).bind _=_;rw[vr h,Rb,zfc,_g hc]
noncomputable def z93(c:Str):List Bool:=[c=="NoLot",c=="NoRule",c=="Ended",c=="NoBottom",c=="NoRoot",c=="NoCube",c=="NoSize",c=="NoNumber",c=="TooMany",c=="NoTable",c=="NoTuple",c=="NotAlike"]
noncomputable def bl4(c:Str):List Bool:=[c=="NotFair",c=="NoText",c=="NoStep",c=="NoDeed"]
theorem zcZ {c w:Str} {k:Nat} (hc:c∈rsX) (h1:(z93 c++bl4 c++[c=="NoRow"]).count true=1) (hk:(z93 c++bl4 c++[c=="NoRow"]).idxOf true=k) (hm:true∈z93 c++bl4 c++[c=="NoRow"]) (hw:([.str "lot",.str "rule",.str "ended",.str "bottom",.str "root",.str "cube",.str "size",.str "number",.str "many",.str "no",.str "no",.str "no",.str "no",.str "no",.str "no",.str "no",.str "no"]:List D)[k]? = some (.str w)) (s:Sto): ∃more,zR [.exc c] s=.ok (.str w) (s++more):=by
 have st:zt ["_law_e","_law_some","_law_words"] [.exc c]=[some (.exc c),none,none]:=rfl;have c4:(4:Nat)<=cap:=by decide
 have c8:(8:Nat)<=cap:=by decide
 have c12:(12:Nat)<=cap:=by decide
 have c16:(16:Nat)<=cap:=by decide
 have x:∀T (a b:Option D) s,z0u rsX T (zd 0) [some (.exc c),a,b] s=.ok (.bl (c==T)) s:=λT a b s=>isx hc rfl;have f1:wR [some (.exc c),none,none] s=.ok (.nx [some (.exc c),some (.lst [.bl (c=="NoLot"),.bl (c=="NoRule"),.bl (c=="Ended"),.bl (c=="NoBottom")]),none]) s:=by
  rw[wR,yq];simp only[jY,zJ,xq,x,Rb,_c,_i,_S,Nat.reduceAdd,_g c4];rfl
 have f2:wK [some (.exc c),some (.lst [.bl (c=="NoLot"),.bl (c=="NoRule"),.bl (c=="Ended"),.bl (c=="NoBottom")]),none] s=.ok (.nx [some (.exc c),some (.lst [.bl (c=="NoLot"),.bl (c=="NoRule"),.bl (c=="Ended"),.bl (c=="NoBottom"),.bl (c=="NoRoot"),.bl (c=="NoCube"),.bl (c=="NoSize"),.bl (c=="NoNumber")]),none]) s:=by
  rw[wK,yq,uY];simp only[jY,zJ,xq,x,Rb,jX,_J,_K,_c,_i,_S,Nat.reduceAdd,_g c4,z7W,_g c8];rfl
 have q3:wP [some (.exc c),some (.lst [.bl (c=="NoLot"),.bl (c=="NoRule"),.bl (c=="Ended"),.bl (c=="NoBottom"),.bl (c=="NoRoot"),.bl (c=="NoCube"),.bl (c=="NoSize"),.bl (c=="NoNumber")]),none] s=.ok (.nx [some (.exc c),some (.lst ((z93 c).map D.bl)),none]) s:=by
  rw[wP,yq,uY];simp only[jY,zJ,xq,x,Rb,jX,_J,_K,_c,_i,_S,Nat.reduceAdd,_g c4,z7W,_g c12];rfl
 have l12:((z93 c).map D.bl).length=12:=rfl;have fl:D.flat.flats ((z93 c).map D.bl++(bl4 c).map D.bl)=true:=rfl;have fl4:D.flat.flats ((bl4 c).map D.bl)=true:=rfl;generalize hL:(z93 c).map D.bl=L at q3 l12 fl;have at1:(s++[(bl4 c).map D.bl])[s.length]? = some ((bl4 c).map D.bl):=by simp
 have q4:wO [some (.exc c),some (.lst L),none] s=.ok (.nx [some (.exc c),some (.loc (s.length+1)),none]) (s++[(bl4 c).map D.bl]++[L++(bl4 c).map D.bl]):=by
  rw[wO,yq,uY,vr (d:=.lst L) rfl,Rb];have e:zck (za (z0u rsX "NotFair" (zd 0)) (za (z0u rsX "NoText" (zd 0)) (za (z0u rsX "NoStep" (zd 0)) (za (z0u rsX "NoDeed" (zd 0)) zk)))) [some (.exc c),some (.lst L),none] s=.ok (.loc s.length) (s++[(bl4 c).map D.bl]):=by
   simp only[zbe,zJ,xq,x,Rb,_c,_i,_S,Nat.reduceAdd];rw[_g ⟨c4,rfl⟩];rfl
  rw[e,Rb];simp only[z9H,Dd.listOf,at1];rw[_g ⟨by rw[l12];show 12+4<=cap;decide,fl⟩];simp
 let ns:=z93 c++bl4 c++[c=="NoRow"];have hns:L++(bl4 c).map D.bl++[.bl (c=="NoRow")]=ns.map D.bl:=by rw[<- hL];simp[ns]
 have q5:wL [some (.exc c),some (.loc (s.length+1)),none] (s++[(bl4 c).map D.bl]++[L++(bl4 c).map D.bl])=.ok (.nx [some (.exc c),some (.loc (s.length+1)),none]) (s++[(bl4 c).map D.bl]++[ns.map D.bl]):=by
  have at2:(s++[(bl4 c).map D.bl]++[L++(bl4 c).map D.bl])[s.length+1]? = some (L++(bl4 c).map D.bl):=by rw[_G (by simp)];simp
  rw[wL,xI,zeY,vr (d:=.loc (s.length+1)) rfl,Rb];simp only;rw[x,Rb];simp only[at2];rw[_g ⟨rfl,by rw[_y,l12];show 12+4<cap;decide⟩,Rb,hns];have:=z52 (s:=s++[(bl4 c).map D.bl]) (x:=L++(bl4 c).map D.bl) (y:=ns.map D.bl);rw[_y]at this;rw[show s.length+1=s.length+[(bl4 c).map D.bl].length from rfl,this]
 have at3:(s++[(bl4 c).map D.bl]++[ns.map D.bl])[s.length+1]? = some (ns.map D.bl):=by rw[_G (by simp)];simp
 have bn:bools (ns.map D.bl)=some ns:=z0W _;refine⟨[(bl4 c).map D.bl]++[ns.map D.bl],?_⟩;rw[<- _L];generalize s++[(bl4 c).map D.bl]++[ns.map D.bl]=s' at q5 at3;have q6:wS [some (.exc c),some (.loc (s.length+1)),none] s'=.ok (.nx [some (.exc c),some (.loc (s.length+1)),none]) s':=by
  rw[wS,z9M];·rfl
  ·refine zal (vL ?_) (zcw (vL ?_))
   ·rw[op2 (x:=.int 1) (y:=.int 1) (by
     show (zd 1 _ s').bind _=_;rw[vr (d:=.loc (s.length+1)) rfl,Rb];simp only[z7d,Rb,at3,_Y,bn];rw[show ns.count true=1 from h1];rfl) rfl];rfl
   ·show (zd 0 _ s').bind _=_;rw[vr (d:=.exc c) rfl,Rb,zfd,_g hc]
 have q8:wM [some (.exc c),some (.loc (s.length+1)),none] s'=.ok (.nx [some (.exc c),some (.loc (s.length+1)),some (.lst [.str "lot",.str "rule",.str "ended",.str "bottom",.str "root",.str "cube",.str "size",.str "number",.str "many"])]) s':=by
  rw[wM,yq];rfl
 have q9:wN [some (.exc c),some (.loc (s.length+1)),some (.lst [.str "lot",.str "rule",.str "ended",.str "bottom",.str "root",.str "cube",.str "size",.str "number",.str "many"])] s'=.ok (.rt (.str w)) s':=by
  have e1:eOp ud (zd 2) (eOp zd4 (jP (za (eC (.str "no")) zk)) (eC (.int 8))) [some (.exc c),some (.loc (s.length+1)),some (.lst [.str "lot",.str "rule",.str "ended",.str "bottom",.str "root",.str "cube",.str "size",.str "number",.str "many"])] s'=.ok (.lst [.str "lot",.str "rule",.str "ended",.str "bottom",.str "root",.str "cube",.str "size",.str "number",.str "many",.str "no",.str "no",.str "no",.str "no",.str "no",.str "no",.str "no",.str "no"]) s':=rfl;have e2:z5E (zd 1) (eC (.bl true)) [some (.exc c),some (.loc (s.length+1)),some (.lst [.str "lot",.str "rule",.str "ended",.str "bottom",.str "root",.str "cube",.str "size",.str "number",.str "many"])] s'=.ok (.int (k:Nat)) s':=by
   show (zd 1 _ s').bind _=_;rw[vr (d:=.loc (s.length+1)) rfl,Rb];simp only[z7d,Rb,at3,_Y,bn];rw[_g ⟨hm,by simp[ns,z93,bl4]⟩,show ns.idxOf true=k from hk]
  rw[wN,wg,op2 e1 e2,z2k (d:=.str w) (by omega) (by simpa using hw)];rfl
 simp only[zR,Mof,qM,st,_c,_i,_C];rw[zD f1,zD f2,zD q3,zD q4,zD q5,zD q6,zD q8,q9]
theorem z9Z(s:Sto):∃more,zR [.exc "NoLot"] s=.ok (.str "lot") (s++more):=zcZ (k:=0) (by decide +kernel) (by decide +kernel) (by decide +kernel) (by decide +kernel) rfl s
theorem jB(s:Sto):∃more,zR [.exc "NoNumber"] s=.ok (.str "number") (s++more):=zcZ (k:=7) (by decide +kernel) (by decide +kernel) (by decide +kernel) (by decide +kernel) rfl s
theorem z8h(s:Sto):∃more,zR [.exc "TooMany"] s=.ok (.str "many") (s++more):=zcZ (k:=8) (by decide +kernel) (by decide +kernel) (by decide +kernel) (by decide +kernel) rfl s
theorem zbT {w x y:D} {s s':Sto} (ht:s'.take s.length=s) (h:zF [some w,some x,some y,none] s=.ok (.nx [some w,some x,some y,none]) s'):zp [w,x,y] s=.ok (.str "told") s:=by
 have st:zt ["_law_way","_law_lot","_law_number","_law_e"] [w,x,y]=[some w,some x,some y,none]:=rfl;simp only[zp,z34,Mof,qD,st,_c,_i,_C];rw[zD (ρ':=[some w,some x,some y,none]) (s':=s') (by simp only[uE,z7t];rw[h])];simp only[je,wg,z7d,Rb];rw[qU rfl,ht]
theorem uF{w x y:D}{s:Sto}(h:zF [some w,some x,some y,none] s=.ok (.nx [some w,some x,some y,none]) s):zp [w,x,y] s=.ok (.str "told") s:=zbT (s':=s) (by simp) h
theorem wF {w x y:D} {s:Sto} {c k:Str} (hc:c∈rsX) (hk:∃more,zR [.exc c] s=.ok (.str k) (s++more)) (h:zF [some w,some x,some y,none] s=.ex c s):zp [w,x,y] s=.ok (.str k) s:=by
 have st:zt ["_law_way","_law_lot","_law_number","_law_e"] [w,x,y]=[some w,some x,some y,none]:=rfl;obtain⟨more,hk⟩:=hk;have e9:uT ((List.replicate 4 none).set 3 (some (.exc c))) s=.ok (.rt (.str k)) (s++more):=by rw[uT,wg,yr (x:=.exc c) (by rfl),hk];rfl
 simp only[zp,z34,Mof,qD,st,_c,_i,_C];rw[z8s (s':=s++more) (d:=.str k) (by
  simp only[uE,z7t];rw[h];simp only[_g hc,_c,_i,_S,Nat.reduceAdd];rw[e9])];simp only[];rw[qU rfl,List.take_left'];rfl
section
variable {x y:D}{s:Sto}
theorem low {k:Int} {f:Str} {X:Mir} (hk:k<4) (h0:dIx (.lst [.fn "by_weight",.fn "by_length",.fn "least_weight",.fn "least_length"]) (.int k) s=.ok (.fn f) s) (hx:List.lookup f [("by_weight",zQ),("by_length",yo),("least_weight",yg),("least_length",yh)]=some X): zF [some (.int k),some x,some y,none] s=(X [x] s).bind λ_ s1=>.ok (.nx [some (.int k),some x,some y,none]) s1:=by
 have c4:(4:Nat)<=cap:=by decide
 rw[zF,zca (vL (by rw[op2 (x:=.int k) (y:=.int 4) (vr rfl) rfl,zbD,_aO hk])),kf,xI];simp only[z2v,uY,jY,zJ,xq,z7d,jX,_K,_J,Rb,_c,_i,_S,Nat.reduceAdd,_g c4,h0,hx]
theorem w0:zF [some (.int 0),some x,some y,none] s=(zQ [x] s).bind λ_ s1=>.ok (.nx [some (.int 0),some x,some y,none]) s1:=low (by decide) rfl rfl
theorem w1:zF [some (.int 1),some x,some y,none] s=(yo [x] s).bind λ_ s1=>.ok (.nx [some (.int 1),some x,some y,none]) s1:=low (by decide) rfl rfl
theorem w2:zF [some (.int 2),some x,some y,none] s=(yg [x] s).bind λ_ s1=>.ok (.nx [some (.int 2),some x,some y,none]) s1:=low (by decide) rfl rfl
theorem w3:zF [some (.int 3),some x,some y,none] s=(yh [x] s).bind λ_ s1=>.ok (.nx [some (.int 3),some x,some y,none]) s1:=low (by decide) rfl rfl
theorem w4:zF [some (.int 4),some x,some y,none] s=(wv [x,y,.non] s).bind λ_ s1=>.ok (.nx [some (.int 4),some x,some y,none]) s1:=by rw[zF,z9M (vL (by rw[op2 (x:=.int 4) (y:=.int 4) (vr rfl) rfl,zbD,_N (by omega)])),uC,zca (vL (by rw[op2 (x:=.int 4) (y:=.int 4) (vr rfl) rfl,z6H,_aO rfl])),kb,xI,z1v (x:=x) (y:=y) (z:=.non) (vr rfl) (vr rfl) rfl]
theorem zgJ {k:Int} {f:Str} {X:Mir} (hk:4<k) (h0:dIx (.lst [.fn "has_none",.fn "first_clash"]) (.int (k-5)) s=.ok (.fn f) s) (hx:List.lookup f [("has_none",xS),("first_clash",ye)]=some X): zF [some (.int k),some x,some y,none] s=(X [x,y] s).bind λ_ s1=>.ok (.nx [some (.int k),some x,some y,none]) s1:=by
 have c2:(2:Nat)<=cap:=by decide
 rw[zF,z9M (vL (by rw[op2 (x:=.int k) (y:=.int 4) (vr rfl) rfl,zbD,_N (by omega)])),uC,z9M (vL (by rw[op2 (x:=.int k) (y:=.int 4) (vr rfl) rfl,z6H,_N (by omega)])),ky,xI];simp only[z2v,uY,jY,zJ,xq,z7d,jX,_K,_J,Rb,_c,_i,_S,Nat.reduceAdd,_g c2,zaC,h0,hx]
theorem w5:zF [some (.int 5),some x,some y,none] s=(xS [x,y] s).bind λ_ s1=>.ok (.nx [some (.int 5),some x,some y,none]) s1:=zgJ (by decide) rfl rfl
theorem w6:zF [some (.int 6),some x,some y,none] s=(ye [x,y] s).bind λ_ s1=>.ok (.nx [some (.int 6),some x,some y,none]) s1:=zgJ (by decide) rfl rfl
theorem zaL{c k:Str}(hc:c∈rsX)(hk:∃more,zR [.exc c] s=.ok (.str k) (s++more))(h:zL [x] s=.ex c s){j:Nat}(hj:j<7):zp [.int j,x,y] s=.ok (.str k) s:=by
 have h1:=zfN h;have h2:=zgl h1;have h3:zf [x,y] s=.ex c s:=zhn h;have cs:j=0\/j=1\/j=2\/j=3\/j=4\/j=5\/j=6:=by omega
 rcases cs with rfl | rfl | rfl | rfl | rfl | rfl | rfl;·exact wF hc hk (by rw[show ((0:Nat):Int)=0 from rfl,w0,h1];rfl)
 ·exact wF hc hk (by rw[show ((1:Nat):Int)=1 from rfl,w1,h2];rfl)
 ·exact wF hc hk (by rw[show ((2:Nat):Int)=2 from rfl,w2,zhe h1];rfl)
 ·exact wF hc hk (by rw[show ((3:Nat):Int)=3 from rfl,w3,zhi h2];rfl)
 ·exact wF hc hk (by rw[show ((4:Nat):Int)=4 from rfl,w4,zh1 h3];rfl)
 ·exact wF hc hk (by rw[show ((5:Nat):Int)=5 from rfl,w5,zh9 h3];rfl)
 ·exact wF hc hk (by rw[show ((6:Nat):Int)=6 from rfl,w6,zh8 h3];rfl)
theorem zfZ(h:NoL x){j:Nat}(hj:j<7):zp [.int j,x,y] s=.ok (.str "lot") s:=zaL (by decide +kernel) (z9Z s) (zdm (h.x s)) hj
theorem zdk{n:Nat}{v:List Int}(hv:Lot n v)(hm:1000<maxL v){j:Nat}(hj:j<7):zp [.int j,rD v,y] s=.ok (.str "many") s:=zaL (by decide +kernel) (z8h s) (zcu (z1w.ok (z2n hv s)) (z4b s hv.ne) hm) hj
theorem zfY{n w:Nat}{v:List Int}(h:LW n v w)(hy:zK [y,.int 1,.int 8] s=.ex "NoNumber" s){j:Nat}(h4:4<=j)(hj:j<7):zp [.int j,rD v,y] s=.ok (.str "number") s:=by
 have h3:zf [rD v,y] s=.ex "NoNumber" s:=zhc (uL.ok (h.want s)) hy;have cs:j=4\/j=5\/j=6:=by omega
 generalize rD v=d at *;rcases cs with rfl | rfl | rfl;·exact wF (by decide +kernel) (jB s) (by rw[show ((4:Nat):Int)=4 from rfl,w4,zh1 h3];rfl)
 ·exact wF (by decide +kernel) (jB s) (by rw[show ((5:Nat):Int)=5 from rfl,w5,zh9 h3];rfl)
 ·exact wF (by decide +kernel) (jB s) (by rw[show ((6:Nat):Int)=6 from rfl,w6,zh8 h3];rfl)
end
theorem zf6 {n m w:Nat} {v:List Int} (h:LW n v w) (h1:1<=m) (h8:m<=8) (s:Sto):ja [rD v,.int m,.non] s=.ok (.bl false) s:=by
 have w1:=h.often h1 h8 s;have key:∀d e:D,zu [d,e] s=.ok .non s->ja [d,e,.non] s=.ok (.bl false) s:=λd e e1=>by
  have st:zt ["lot","number","thing","one","other"] [d,e,.non]=[some d,some e,some .non,none,none]:=rfl;simp only[ja,Mof,z0R,st,_c,_i,_C];rw[zD (ρ':=[some d,some e,some .non,none,none]) (s':=s) (by rw[kU,xI,call2 (x:=d) (y:=e) (vr rfl) (vr rfl),e1];rfl)];rw[z8s (d:=.bl false) (s':=s) (by rfl)]
 exact key _ _ w1
theorem zeA{n m w:Nat}{v:List Int}(h:LW n v w)(h1:1<=m)(h8:m<=8)(hc:(cls v m).length<=1)(s:Sto){j:Nat}(hj:j<7):zp [.int j,rD v,.int m] s=.ok (.str "told") s:=by
 obtain⟨l,L,_,_,bl⟩:=h.ll;have e0:=z7G.ok (h.byw s);have e1:=zaM.ok (bl s);have e2:=zfB.ok (h.m_lw s);have e3:=zfV.ok (L.m_ll (by have:=h.L.len;have:=h.L.hi;omega) bl s);have e4:=zfA.ok (zf6 h h1 h8 s);have e5:=zgj.ok (h.hasnone h1 h8 s);have e6:∃y,ye [rD v,.int m] s=.ok y s:=by match q:cls v m,hc with
  | [],_=>exact⟨.non,zdY.ok (h.fc h1 h8 s .non (by rw[q];rfl))⟩ | [p],_=>exact⟨cD2 p,zdY.ok (h.fc h1 h8 s (cD2 p) (by rw[q];rfl))⟩ | _::_::_,z=>simp at z
 obtain⟨y6,e6⟩:=e6;have cs:j=0\/j=1\/j=2\/j=3\/j=4\/j=5\/j=6:=by omega
 generalize rD v=d at *;generalize D.int m=e at *;rcases cs with rfl | rfl | rfl | rfl | rfl | rfl | rfl;·exact uF (by rw[show ((0:Nat):Int)=0 from rfl,w0,e0];rfl)
 ·exact uF (by rw[show ((1:Nat):Int)=1 from rfl,w1,e1];rfl)
 ·exact uF (by rw[show ((2:Nat):Int)=2 from rfl,w2,e2];rfl)
 ·exact uF (by rw[show ((3:Nat):Int)=3 from rfl,w3,e3];rfl)
 ·exact uF (by rw[show ((4:Nat):Int)=4 from rfl,w4,e4];rfl)
 ·exact uF (by rw[show ((5:Nat):Int)=5 from rfl,w5,e5];rfl)
 ·exact uF (by rw[show ((6:Nat):Int)=6 from rfl,w6,e6];rfl)
theorem zfs:(cls [1000,1] 8).length<=1:=by decide +kernel
theorem zfX:(cls [0,1000] 1).length<=1:=by decide +kernel
theorem zem(s:Sto){j:Nat}(hj:j<7):zp [.int j,.tup [.int 1000,.int 1],.int 8] s=.ok (.str "told") s:=by
 have L:SmL 2 [1000,1]:=⟨rfl,by decide,by decide,by decide⟩;obtain⟨w,h⟩:=L.lw ⟨1,by decide,by decide⟩;exact zeA h (m:=8) (by decide) (by decide) zfs s hj
theorem zeX(s:Sto){j:Nat}(hj:j<7):zp [.int j,.tup [.int 0,.int 1000],.int 1] s=.ok (.str "told") s:=by
 have L:SmL 2 [0,1000]:=⟨rfl,by decide,by decide,by decide⟩;obtain⟨w,h⟩:=L.lw ⟨1000,by decide,by decide⟩;exact zeA h (m:=1) (by decide) (by decide) zfX s hj
end K53
namespace Pr
open L2 Dd Pm Pg Pn Po Pp
end Pr
namespace Pp
open L2 Dd Pm Pg Pn
end Pp
namespace Pr
open L2 Dd Pm Pg Pn Po Pp
theorem zdc(n:Nat)(b:Nat):∃k:Nat,(if (if (b:Int)<(n:Int) then (b:Int) else n) > 1 then (if (b:Int)<(n:Int) then (b:Int) else n) else 1)=(k:Int)/\k<=b+1:=by
 by_cases h:(b:Int)<n
 ·rw[_g h];by_cases h2:(b:Int) > 1;·exact⟨b,by rw[_g h2],by omega⟩
  ·exact⟨1,by rw[_l h2];rfl,by omega⟩
 ·rw[_l h];by_cases h2:(n:Int) > 1;·exact⟨n,by rw[_g h2],by omega⟩
  ·exact⟨1,by rw[_l h2];rfl,by omega⟩
end Pr
namespace K53
open L2 Dd Pm Pg Pn Po Pr Pp Pt Pv
theorem z9z:yx=Pg.yx:=rfl
noncomputable def zf9:List D:=[.int 0,.int 9,.int (-1),.bl true,.non,.str "1",.tup [.int 1],.int T39]
theorem zdg{d:D}(h:d∈zf9)(s:Sto):zK [d,.int 1,.int 8] s=.ex "NoNumber" s:=by
 simp only[zf9,_n,_af,_bE]at h;rcases h with rfl | rfl | rfl | rfl | rfl | rfl | rfl | rfl<;>first | exact zgr (by decide) s | exact zfT rfl rfl s
noncomputable def z7h:List D:=[.int 1001,.int T39,.int 1002]
theorem zgY {xs:List D} {k:Nat} (hl:xs.length=k) (hk:1<=k) (hk2:k<=100) {f:FE} {ρ:Ev} {s:Sto} {l:Nat} (hp:Pot s l) (hf:∀s,f ρ s=.ok (.lst xs) s) (h2:ρ[2]? = some (some (.loc l))): ∃d s',eOp dIx f (ze Pg.zo (za (zd 2) (za (eC (.int k)) zk))) ρ s=.ok d s'/\d∈xs/\ur s s' l:=by
 obtain⟨x,s',e,a,b,dr⟩:=qI (f:=zd 2) (g:=eC (.int k)) (far:=(k:Int)) (ρ:=ρ) hp (by omega) (z27 (by omega)) (vr h2) (by simp);have hx:x.toNat<xs.length:=by omega
 refine⟨xs[x.toNat],s',?_,_aB hx,dr⟩;rw[uY,hf,Rb,e,Rb];exact z2k a (_q hx)
noncomputable abbrev Sh(a0 a1 a2 a3 a4 a5 a6 a7 a8 a9:Option D):Ev:=[a0,a1,a2,a3,a4,a5,a6,a7,a8,a9]
theorem zfn(ρ:Ev)(s:Sto):jP (za (eC (.int 0)) (za (eC (.int 9)) (za (z4V (eC (.int 1))) (za (eC (.bl true)) (za (eC .non) (za (eC (.str "1")) (za (kJ (za (eC (.int 1)) zk)) (za (eOp z8Z (eC (.int 10)) (eC (.int 39))) zk)))))))) ρ s=.ok (.lst zf9) s:=by kernel_rfl
theorem zgh(ρ:Ev)(s:Sto):jP (za (eC (.int 1001)) (za (eOp z8Z (eC (.int 10)) (eC (.int 39))) (za (eC (.int 1002)) zk))) ρ s=.ok (.lst z7h) s:=by kernel_rfl
theorem z4t{n k:Nat}{v:List Int}{b:Int}(h:SmL n v)(hk:k<n)(hb:1000<b):Lot n (v.take k++[b]++v.drop (k+1))/\1000<maxL (v.take k++[b]++v.drop (k+1)):=by
 have hl:=h.len;have lo:=h.lo;have hi:=h.hi;have mb:b∈v.take k++[b]++v.drop (k+1):=by simp
 refine⟨⟨by unfold Sz;omega,?_,λx hx=>?_,b,mb,by omega⟩,?_⟩;·simp only[_y,_ak,_bf,_c,_i];omega
 ·simp only[_B,_n,_af,_bE]at hx;rcases hx with (hx | rfl) | hx;·exact (h.bd x (_Z hx)).1
  ·omega
  ·exact (h.bd x (_bD hx)).1
 ·have:=maxL_ge b mb;omega
def ShL(ns:List Int)(ρ:Ev):Prop:=∃a1 a2 a3 a4 a5 a6 a7 a8 a9,ρ=Sh (some (.scr (iL ns))) a1 a2 a3 a4 a5 a6 a7 a8 a9
noncomputable abbrev S3(ns:List Int)(j:Nat)(s:Sto)(a3 a4 a5 a6 a7 a8 a9:Option D):Ev:=Sh (some (.scr (iL ns))) (some (.int j)) (some (.loc s.length)) a3 a4 a5 a6 a7 a8 a9
abbrev zcp:D->Ev->Sto->R Fl:=λd ρ s=>(xM 1 d ρ s).bind fun ρ' s'=>(zW z0K (zW z1N (zW z1u (zW z10 (zW z19 (zW z1l (zW z1d kr))))))) ρ' s'
theorem ze6(s:Sto):dNe (.str "lot") (.str "lot") s=.ok (.bl false) s:=by kernel_rfl
theorem zby(s:Sto):dNe (.str "many") (.str "many") s=.ok (.bl false) s:=by kernel_rfl
theorem zcB {a0 a1 a2 a3 a5 a8 a9:Option D} {no gr bad:D} {s:Sto} (h1:∀(y:D) {j:Nat},j<7->zp [.int j,no,y] s=.ok (.str "lot") s) (h2:∀(y:D) {j:Nat},j<7->zp [.int j,gr,y] s=.ok (.str "many") s): ∃b8,z1d (Sh a0 a1 a2 a3 (some no) a5 (some gr) (some bad) a8 a9) s=.ok (.nx (Sh a0 a1 a2 a3 (some no) a5 (some gr) (some bad) b8 a9)) s:=by
 have n1:=ze6 s;have n2:=zby s;obtain⟨ρ',s',lp,b8,hρ,hs⟩:=z39 (all:=(List.range 7).map λk:Nat=>D.int ((k:Nat):Int)) (body:=λd ρ s=>(xM 8 d ρ s).bind fun ρ' s'=>(zW z1b jW) ρ' s') (fun ρ S=>∃b8,ρ=Sh a0 a1 a2 a3 (some no) a5 (some gr) (some bad) b8 a9/\S=s) ((List.range 7).map λk:Nat=>D.int ((k:Nat):Int)) (λx hx ρ S ⟨b8,hρ,hS⟩=>by
  obtain⟨j,hj,rfl⟩:=_I.mp hx;rw[_bc]at hj;subst hρ hS;have k1:=h1 bad hj;have k2:=h2 bad hj;have k3:=h1 (.int 1) hj;have k4:=h2 (.int 8) hj;generalize D.int j=dj at *;have f9:z1b (Sh a0 a1 a2 a3 (some no) a5 (some gr) (some bad) (some dj) a9) S=.ok (.nx (Sh a0 a1 a2 a3 (some no) a5 (some gr) (some bad) (some dj) a9)) S:=by
   rw[z1b,z9M (zal (vL (by rw[op2 (x:=.str "lot") (y:=.str "lot") (by rw[z1v (x:=dj) (y:=no) (z:=bad) (vr rfl) (vr rfl) (vr rfl)];exact k1) rfl,n1])) (vL (by rw[op2 (x:=.str "many") (y:=.str "many") (by rw[z1v (x:=dj) (y:=gr) (z:=bad) (vr rfl) (vr rfl) (vr rfl)];exact k2) rfl,n2])))];rfl
  have f11:jW (Sh a0 a1 a2 a3 (some no) a5 (some gr) (some bad) (some dj) a9) S=.ok (.nx (Sh a0 a1 a2 a3 (some no) a5 (some gr) (some bad) (some dj) a9)) S:=by
   rw[jW,z9M (zal (vL (by rw[op2 (x:=.str "lot") (y:=.str "lot") (by rw[z1v (x:=dj) (y:=no) (z:=.int 1) (vr rfl) (vr rfl) rfl];exact k3) rfl,n1])) (vL (by rw[op2 (x:=.str "many") (y:=.str "many") (by rw[z1v (x:=dj) (y:=gr) (z:=.int 8) (vr rfl) (vr rfl) rfl];exact k4) rfl,n2])))];rfl
  refine⟨Sh a0 a1 a2 a3 (some no) a5 (some gr) (some bad) (some dj) a9,S,?_,some dj,rfl,rfl⟩;rw[z4z,Rb];show (zW z1b jW) (Sh a0 a1 a2 a3 (some no) a5 (some gr) (some bad) (some dj) a9) S=_;rw[zD f9,f11]) (Sh a0 a1 a2 a3 (some no) a5 (some gr) (some bad) a8 a9) s ⟨a8,rfl,rfl⟩;refine⟨b8,?_⟩;rw[z1d,z2C,z0J (n:=7) (s1:=s) (by omega) (by rfl),Rb,lp,hρ,hs]
theorem zbx {a0 a1 a2 a4 a5 a6 a8 a9:Option D} {lt bad:D} {s:Sto} (h:∀{j:Nat},4<=j->j<7->zp [.int ((j:Nat):Int),lt,bad] s=.ok (.str "number") s): kr (Sh a0 a1 a2 (some lt) a4 a5 a6 (some bad) a8 a9) s=.ok (.nx (Sh a0 a1 a2 (some lt) a4 a5 a6 (some bad) a8 a9)) s:=by
 have c:=comp_map (fi:=z5c (za (eC (.int 4)) (za (eC (.int 7)) zk))) (mp:=[some 3,some 7,none]) (fg:=xM 2) (fe:=ze zp (za (zd 2) (za (zd 0) (za (zd 1) zk)))) (ρ:=Sh a0 a1 a2 (some lt) a4 a5 a6 (some bad) a8 a9) (s:=s) (λk:Nat=>D.int ((k:Nat):Int)) (λ_=>D.str "number") (λk=>[some lt,some bad,some (.int ((k:Nat):Int))]) [4,5,6] (by rfl) (λk _=>rfl) (λk hk=>by
   have:4<=k/\k<7:=by simp at hk;omega
   rw[z1v (x:=.int k) (y:=lt) (z:=bad) (vr rfl) (vr rfl) (vr rfl)];exact h this.1 this.2) (by simp[cap]);have e:([4,5,6]:List Nat).map (λ_=>D.str "number")=[.str "number",.str "number",.str "number"]:=rfl;rw[e]at c;have ne:dNe (.lst [.str "number",.str "number",.str "number"]) (.lst [.str "number",.str "number",.str "number"]) s=.ok (.bl false) s:=by kernel_rfl
 rw[kr,z9M (vL (by rw[op2 (x:=.lst [.str "number",.str "number",.str "number"]) (y:=.lst [.str "number",.str "number",.str "number"]) c (by kernel_rfl),ne]))];rfl
theorem zcN (ns:List Int) (j:Nat) (ρ:Ev) (s:Sto) (h:ShL ns ρ):∃ ρ' s',zcp (.int j) ρ s=.ok (.nx ρ') s'/\ShL ns ρ':=by
 obtain⟨a1,a2,a3,a4,a5,a6,a7,a8,a9,rfl⟩:=h;rw[show zcp (.int j) (Sh (some (.scr (iL ns))) a1 a2 a3 a4 a5 a6 a7 a8 a9) s=(zW z0K (zW z1N (zW z1u (zW z10 (zW z19 (zW z1l (zW z1d kr))))))) (Sh (some (.scr (iL ns))) (some (.int j)) a2 a3 a4 a5 a6 a7 a8 a9) s from rfl];obtain⟨c,e1⟩:=zdH ns j s;obtain⟨q,e2⟩:=zg5 c s;have hp:Pot (s++[[.int q]]) s.length:=⟨q,by simp⟩;have f2:z0K (Sh (some (.scr (iL ns))) (some (.int j)) a2 a3 a4 a5 a6 a7 a8 a9) s=.ok (.nx (S3 ns j s a3 a4 a5 a6 a7 a8 a9)) (s++[[.int q]]):=by rw[z0K,yq,yr (x:=.int c) (by rw[call2 (x:=.scr (iL ns)) (y:=.int j) (vr rfl) (vr rfl),e1]),e2];rfl
 obtain⟨x,s4,e5,x0,x3,d4⟩:=qI (f:=zd 2) (g:=eC (.int 2)) (far:=2) (ρ:=S3 ns j s a3 a4 a5 a6 a7 a8 a9) hp (by decide) (z27 (by decide)) (vr rfl) rfl;have hn:Sz (x.toNat+2):=by unfold Sz;omega
 have en:(2:Int)+x=((x.toNat+2:Nat):Int):=by omega
 generalize x.toNat+2=n at *;obtain⟨v,s5,e6,L,pos,d5⟩:=z5d d4.pot hn;obtain⟨w,W⟩:=L.lw pos;have hv:zh4 n 10 v:=⟨W.lot,λy hy=>by have:=(L.bd y hy).2;omega⟩;have f3:z1N (S3 ns j s a3 a4 a5 a6 a7 a8 a9) (s++[[.int q]])=.ok (.nx (S3 ns j s (some (rD v)) a4 a5 a6 a7 a8 a9)) s5:=by
  rw[z1N,yq,wy,zJ,vr (d:=.loc s.length) rfl,Rb,zJ,uY,z7d,Rb,e5,Rb,z5U,en,Rb,xq];simp only[Rb];rw[e6];rfl
 obtain⟨no,s6,e7,hno,d6⟩:=zax d5.pot hv;have f4:z1u (S3 ns j s (some (rD v)) a4 a5 a6 a7 a8 a9) s5=.ok (.nx (S3 ns j s (some (rD v)) (some no) a5 a6 a7 a8 a9)) s6:=by rw[z1u,yq,call2 (x:=.loc s.length) (y:=rD v) (vr rfl) (vr rfl),z9z,e7];rfl
 have gl:vM [rD v] s6=.ok (.int n) s6:=by rw[<- L.len];simp[vM,yj]
 have vl:=L.len;have lo:=L.lo;have hi:=L.hi;have sk:∀(k:Nat) (S:Sto),dSl (rD v) none (some (k:Int)) S=.ok (rD (v.take k)) S:=λk S=>by rw[z11];simp[rD,List.map_take]
 have sd:∀(k:Nat) (S:Sto),dSl (rD v) (some ((k:Int)+1)) none S=.ok (rD (v.drop (k+1))) S:=λk S=>by
  have:=z5v (iL v) (k+1) S;rw[show ((k+1:Nat):Int)=(k:Int)+1 by omega]at this;rw[this];simp[rD,List.map_drop]
 have tl:=λ(s:Sto) (y:D) (jj:Nat) (hj:jj<7)=>zfZ (x:=no) (y:=y) (s:=s) hno (j:=jj) hj;have tn:=λ(s:Sto) (y:D) (hy:zK [y,.int 1,.int 8] s=.ex "NoNumber" s) (jj:Nat) (h4:4<=jj) (hj:jj<7)=>zfY (y:=y) (s:=s) W hy (j:=jj) h4 hj;have tm:=λ(s:Sto) (y:D) (k:Nat) (b:Int) (hk:k<n) (hb:1000<b) (jj:Nat) (hj:jj<7)=>zdk (y:=y) (s:=s) (z4t L hk hb).1 (z4t L hk hb).2 (j:=jj) hj;have lk:∀k,(v.take k).length<=4:=λk=>by rw[_ak];omega
 have lw:∀k,(v.drop (k+1)).length<=4:=λk=>by rw[_bf];omega
 generalize hV:rD v=vd at *;obtain⟨p,s7,e8,p0,p1,d7⟩:=qI (f:=zd 2) (g:=ze vM (za (zd 3) zk)) (far:=(n:Int)) (ρ:=S3 ns j s (some vd) (some no) a5 a6 a7 a8 a9) d6.pot (by omega) (z27 (by omega)) (vr rfl) (by rw[yr (x:=vd) (vr rfl)];exact gl);obtain⟨k,rfl⟩:=_ae p0;have f5:z10 (S3 ns j s (some vd) (some no) a5 a6 a7 a8 a9) s6=.ok (.nx (S3 ns j s (some vd) (some no) (some (.int k)) a6 a7 a8 a9)) s7:=by rw[z10,yq,e8];rfl
 obtain⟨b,s8,e9,hb,d8⟩:=zgY (xs:=z7h) (k:=3) rfl (by decide) (by decide) (ρ:=S3 ns j s (some vd) (some no) (some (.int k)) a6 a7 a8 a9) d7.pot (zgh _) rfl;obtain⟨bi,rfl,hbi⟩:∃bi:Int,b=.int bi/\1000<bi:=by
  simp only[z7h,_n,_af,_bE]at hb;rcases hb with rfl | rfl | rfl;·exact⟨_,rfl,by decide⟩
  ·exact⟨_,rfl,by decide⟩
  ·exact⟨_,rfl,by decide⟩
 have f6:z19 (S3 ns j s (some vd) (some no) (some (.int k)) a6 a7 a8 a9) s7=.ok (.nx (S3 ns j s (some vd) (some no) (some (.int k)) (some (rD (v.take k++[bi]++v.drop (k+1)))) a7 a8 a9)) s8:=by
  have e9':eOp dIx _ (ze Pg.zo (za (zd 2) (za (eC (.int 3)) zk))) _ s7=_:=e9;have l1:=lk k;have l2:=lw k;rw[z19,yq,uY,uY,z8I,vr (d:=vd) rfl,Rb,qE,Rb,z1r,vr (d:=.int k) rfl,Rb];simp only[Rb];rw[sk,Rb,z0M,zJ,e9',Rb,xq];simp only[Rb];rw[_g (by simp[cap]),Rb,z18,_g (by simp[cap];omega),Rb,z8I,vr (d:=vd) rfl,Rb,z1r,op2 (x:=.int k) (y:=.int 1) (vr rfl) rfl,z5U,Rb];simp only[Rb,qE];rw[sd,Rb,z18,_g (by simp[cap];omega),Rb];have:iL (v.take k)++[D.int bi]++iL (v.drop (k+1))=iL (v.take k++[bi]++v.drop (k+1)):=by simp
  rw[this];rfl
 have kn:k<n:=by omega
 obtain⟨bad,s9,e10,hbad,d9⟩:=zgY (xs:=zf9) (k:=8) rfl (by decide) (by decide) (ρ:=S3 ns j s (some vd) (some no) (some (.int k)) (some (rD (v.take k++[bi]++v.drop (k+1)))) a7 a8 a9) d8.pot (zfn _) rfl;have tm':=λ(y:D) (jj:Nat) (hj:jj<7)=>tm s9 y k bi kn hbi jj hj;generalize rD (v.take k++[bi]++v.drop (k+1))=gr at *;have f7:z1l (S3 ns j s (some vd) (some no) (some (.int k)) (some gr) a7 a8 a9) s8=.ok (.nx (S3 ns j s (some vd) (some no) (some (.int k)) (some gr) (some bad) a8 a9)) s9:=by
  have e10':eOp dIx _ (ze Pg.zo (za (zd 2) (za (eC (.int 8)) zk))) _ s8=_:=e10;rw[z1l,yq,e10'];rfl
 obtain⟨b8,f8⟩:=zcB (a0:=some (.scr (iL ns))) (a1:=some (.int j)) (a2:=some (.loc s.length)) (a3:=some vd) (a5:=some (.int k)) (a8:=a8) (a9:=a9) (no:=no) (gr:=gr) (bad:=bad) (s:=s9) (λy {jj} hj=>tl s9 y jj hj) (λy {jj} hj=>tm' y jj hj);have f13:=zbx (a0:=some (.scr (iL ns))) (a1:=some (.int j)) (a2:=some (.loc s.length)) (a4:=some no) (a5:=some (.int k)) (a6:=some gr) (a8:=b8) (a9:=a9) (lt:=vd) (bad:=bad) (s:=s9) (λ{jj} h4 hj=>tn s9 bad (zdg hbad s9) jj h4 hj);exact⟨_,s9,by rw[zD f2,zD f3,zD f4,zD f5,zD f6,zD f7,zD f8,f13],_,_,_,_,_,_,_,_,_,rfl⟩
theorem zf1 (ns:List Int):∃ ρ' s',z5h (Sh (some (.scr (iL ns))) none none none none none none none none none) []=.ok (.nx ρ') s'/\ShL ns ρ':=by
 obtain⟨k,ek,hk⟩:=zdc ns.length 8;rw[show ((8:Nat):Int)=8 from rfl]at ek;obtain⟨ρ',s',e,h⟩:=z39 (all:=vA k) (body:=zcp) (fun ρ _=>ShL ns ρ) (vA k) (λx hx ρ s hI=>by
  obtain⟨j,_,rfl⟩:=z72 hx;exact zcN ns j ρ s hI) (Sh (some (.scr (iL ns))) none none none none none none none none none) [] ⟨_,_,_,_,_,_,_,_,_,rfl⟩;refine⟨ρ',s',?_,h⟩;unfold z5h;rw[z2C,z0J (n:=k) (s1:=[]) (by omega) (by simp only[wy,zJ,xq,z7d,jX,_K,Rb,vM,yj,_x,zat,z4r,ek]),Rb];exact e
noncomputable abbrev t7:List D:=[.str "told",.str "told",.str "told",.str "told",.str "told",.str "told",.str "told"]
theorem zgk (a0 a1 a2 a3 a4 a5 a6 a7 a8 a9:Option D) (s:Sto):(zW z0D z3v) (Sh a0 a1 a2 a3 a4 a5 a6 a7 a8 a9) s=.ok (.rt (.bl true)) s:=by
 have c2:(2:Nat)<=cap:=by decide
 have tp:∀(x y:D) (ρ:Ev),kJ (za (eC x) (za (eC y) zk)) ρ s=.ok (.tup [x,y]) s:=λx y ρ=>by simp only[z0M,zJ,xq,z7d,Rb,_c,_i,_S,Nat.reduceAdd,_g c2]
 have c:∀(x y z:D),(∀{j:Nat},j<7->zp [.int ((j:Nat):Int),.tup [x,y],z] s=.ok (.str "told") s)->zV (z5J (za (eC (.int 7)) zk)) [none] (xM 0) xT (ze zp (za (zd 0) (za (kJ (za (eC x) (za (eC y) zk))) (za (eC z) zk)))) (Sh a0 a1 a2 a3 a4 a5 a6 a7 a8 a9) s=.ok (.lst t7) s:=λx y z h=>by
  have:=comp_map (fi:=z5J (za (eC (.int 7)) zk)) (mp:=[none]) (fg:=xM 0) (fe:=ze zp (za (zd 0) (za (kJ (za (eC x) (za (eC y) zk))) (za (eC z) zk)))) (ρ:=Sh a0 a1 a2 a3 a4 a5 a6 a7 a8 a9) (s:=s) (λk:Nat=>D.int ((k:Nat):Int)) (λ_=>D.str "told") (λk=>[some (.int ((k:Nat):Int))]) (List.range 7) (z0J (n:=7) (s1:=s) (by omega) (by rfl)) (λk _=>rfl) (λk hk=>by
    rw[z1v (x:=.int k) (y:=.tup [x,y]) (z:=z) (vr rfl) (tp x y _) rfl];exact h (_bc.mp hk)) (by simp[cap]);exact this
 have ca:=c (.int 1000) (.int 1) (.int 8) (λ{j} hj=>zem s hj);have cb:=c (.int 0) (.int 1000) (.int 1) (λ{j} hj=>zeX s hj);have ad:ud (.lst t7) (.lst t7) s=.ok (.lst (t7++t7)) s:=by kernel_rfl
 have f15:z0D (Sh a0 a1 a2 a3 a4 a5 a6 a7 a8 a9) s=.ok (.nx (Sh a0 a1 a2 a3 a4 a5 a6 a7 a8 (some (.lst (t7++t7))))) s:=by rw[z0D,yq,op2 ca cb,ad];rfl
 have eq:dEq (.lst (t7++t7)) (.lst (t7++t7)) s=.ok (.bl true) s:=by kernel_rfl
 rw[zD f15,z3v,wg,op2 (x:=.lst (t7++t7)) (y:=.lst (t7++t7)) (vr rfl) (by kernel_rfl),eq];rfl
theorem za9:∀ns:List Int,ns.length<=63->∃s',zcs [.scr (ns.map D.int)] []=.ok (.bl true) s':=λns hn=>by
 obtain⟨ρ',s',e,a1,a2,a3,a4,a5,a6,a7,a8,a9,rfl⟩:=zf1 ns;refine⟨s',?_⟩;have st:zt ["_law_script","_law_at","_law_pot_here","_law_lot","_law_none","_law_place","_law_great","_law_bad","_law_way","_law_good"] [.scr (ns.map D.int)]=Sh (some (.scr (iL ns))) none none none none none none none none none:=rfl;unfold zcs Mof zaD;rw[_g (by rfl),st,zD e,zgk]
end K53
namespace K53
open L2 Dd Pg
theorem zf4:∀x∈rsX,x∈askQ.xs:=by decide +kernel
theorem zhP:∀x∈csX,x∈askQ.xs:=by decide +kernel
theorem zhR:∀x∈rsX,∀y∈csX,((x,y),x==y)∈askQ.ps:=by decide +kernel
theorem zhN:("DrawError":Str)∈askQ.xs:=by decide +kernel
theorem zhY:∀x∈rsX,((x,("DrawError":Str)),true)∈askQ.ps:=by decide +kernel
theorem all_mk {P:Program} {w:World} {K:W.Frag} {h:Heap} {mg:Str->Option Value} {fa:Addr} (X:K.In h) (G:h.Ns mainGlobals mg) (hfa:mg "law"=some (.ref fa)) (e:z7Y askQ K=valS askQ w) : ∃fd:FuncData,(∀(s:Shared) (v:Value),BindsTo s fd ⟨[v],[]⟩ [("_law_script",v)])/\∀base:Heap,K.In base->base.Ns mainGlobals mg->z3C P w K mg base CX0 10 fa fd ["_law_script"] (zcm K):=by
 obtain⟨f0,d0,a0,F0⟩:=ym X G e 0 rfl;obtain⟨f1,d1,a1,F1⟩:=ym X G e 1 rfl;obtain⟨f2,d2,a2,F2⟩:=ym X G e 2 rfl;obtain⟨f3,d3,a3,F3⟩:=ym X G e 3 rfl;obtain⟨f4,d4,a4,F4⟩:=ym X G e 4 rfl;obtain⟨f5,d5,a5,F5⟩:=ym X G e 5 rfl;obtain⟨f6,d6,a6,F6⟩:=ym X G e 6 rfl;obtain⟨f7,d7,a7,F7⟩:=ym X G e 7 rfl;obtain⟨f8,d8,a8,F8⟩:=ym X G e 8 rfl;obtain⟨f9,d9,a9,F9⟩:=ym X G e 9 rfl;obtain⟨f10,d10,a10,F10⟩:=ym X G e 10 rfl;obtain⟨f11,d11,a11,F11⟩:=ym X G e 11 rfl;obtain⟨f12,d12,a12,F12⟩:=ym X G e 12 rfl;obtain⟨f13,d13,a13,F13⟩:=ym X G e 13 rfl;obtain⟨f14,d14,a14,F14⟩:=ym X G e 14 rfl;obtain⟨f15,d15,a15,F15⟩:=ym X G e 15 rfl;obtain⟨f16,d16,a16,F16⟩:=ym X G e 16 rfl;obtain⟨f17,d17,a17,F17⟩:=ym X G e 17 rfl;obtain⟨f18,d18,a18,F18⟩:=ym X G e 18 rfl;obtain⟨f19,d19,a19,F19⟩:=ym X G e 19 rfl;obtain⟨f20,d20,a20,F20⟩:=ym X G e 20 rfl;obtain⟨f21,d21,a21,F21⟩:=ym X G e 21 rfl;obtain⟨f22,d22,a22,F22⟩:=ym X G e 22 rfl;obtain⟨f23,d23,a23,F23⟩:=ym X G e 23 rfl;obtain⟨f24,d24,a24,F24⟩:=ym X G e 24 rfl;obtain⟨f25,d25,a25,F25⟩:=ym X G e 25 rfl;obtain⟨f26,d26,a26,F26⟩:=ym X G e 26 rfl;obtain⟨f27,d27,a27,F27⟩:=ym X G e 27 rfl;obtain⟨f28,d28,a28,F28⟩:=ym X G e 28 rfl;obtain⟨f29,d29,a29,F29⟩:=ym X G e 29 rfl;obtain⟨f30,d30,a30,F30⟩:=ym X G e 30 rfl;have e0:=hfa.symm.trans a30;cases e0;obtain⟨oc,od,kV,doc,pm,an,cdv,ct,osl,rfl,hl,hc⟩:=F30.ex;have T:Txt mg:=⟨z5T X G e 0 rfl,z5T X G e 1 rfl,z5T X G e 2 rfl,z5T X G e 3 rfl,vx X G e 0 rfl,vx X G e 1 rfl,vx X G e 2 rfl,vx X G e 3 rfl,vx X G e 4 rfl,vx X G e 5 rfl,vx X G e 6 rfl,vx X G e 7 rfl,vx X G e 8 rfl,vx X G e 9 rfl,vx X G e 10 rfl,vx X G e 11 rfl,vx X G e 12 rfl,vx X G e 13 rfl,vx X G e 14 rfl⟩;have GG:∀(x:Str) (v:Value),W.nsIn K mainGlobals x=some (some v)->mg x=some v:=λx v h=>W.mg_of X G h;have E_NoLot:zay K mg "NoLot":=z51 GG (z59 e "NoLot" (zf4 _ (by decide +kernel)));have E_NoNumber:zay K mg "NoNumber":=z51 GG (z59 e "NoNumber" (zf4 _ (by decide +kernel)));have E_TooMany:zay K mg "TooMany":=z51 GG (z59 e "TooMany" (zf4 _ (by decide +kernel)));have FM:z3T ⟨mg,K⟩ rsX csX:=z7C GG (λx hx=>z59 e x (zf4 x hx)) (λx hx=>z59 e x (zhP x hx)) (λx hx y hy=>by rw[zf3 e x y (x==y) (zhR x hx y hy)];rfl);have KS:∀c∈rsX,zfb K mg c "DrawError":=λx hx=>zcK GG (z59 e x (zf4 x hx)) (z59 e "DrawError" zhN) (by rw[zf3 e x "DrawError" true (zhY x hx)];rfl);refine⟨W.fnOf "law" "law" (kI z2f) (wQ z2f) (zi z2f) .none kV doc pm an cdv ct,λs v=>.of_eq rfl,λbase _ _=>?_⟩;have H0:=z4x (P:=P) (w:=w) (base:=base) T F0 a0;have H1:=z4o (P:=P) (w:=w) (base:=base) T F1 a1;have H2:=jR (P:=P) (w:=w) (base:=base) T F2 a2;have H3:=z4K (P:=P) (w:=w) (base:=base) T F3 a3;have H4:=z6Z (P:=P) (w:=w) (base:=base) T F4 a4;have H5:=z6y (P:=P) (w:=w) (base:=base) T F5 a5;have H6:=z6N (P:=P) (w:=w) (base:=base) T F6 a6;have H7:=z7n (P:=P) (w:=w) (base:=base) T F7 a7;have H8:=z0s (P:=P) (w:=w) (base:=base) T F8 a8;have H9:=z4B (P:=P) (w:=w) (base:=base) T F9 a9;have H10:=z2G (P:=P) (w:=w) (base:=base) T F10 a10;have H11:=z0l (P:=P) (w:=w) (base:=base) T F11 a11 FM;have H12:=z1Y (P:=P) (w:=w) (base:=base) T F12 a12 H0;have HX13:=z0r (P:=P) (w:=w) (base:=base) T F13 a13 E_NoNumber H0;have H14:=jc (P:=P) (w:=w) (base:=base) T F14 a14 H2 H3 H4;have H15:=z1g (P:=P) (w:=w) (base:=base) T F15 a15 H10;have H16:=kh (P:=P) (w:=w) (base:=base) T F16 a16 H10;have H17:=z6t (P:=P) (w:=w) (base:=base) T F17 a17 H1 H12;have H18:=z3c (P:=P) (w:=w) (base:=base) T F18 a18 H12;have HX19:=z3d (P:=P) (w:=w) (base:=base) T F19 a19 E_NoLot H17;have HX20:=z1D (P:=P) (w:=w) (base:=base) T F20 a20 E_TooMany HX19;have HX21:=uf (P:=P) (w:=w) (base:=base) T F21 a21 HX13 HX20;have HX22:=z2b (P:=P) (w:=w) (base:=base) T F22 a22 H4 H14 HX20;have HX23:=z1S (P:=P) (w:=w) (base:=base) T F23 a23 H5 H14 HX22;have HX24:=kA (P:=P) (w:=w) (base:=base) T F24 a24 H4 HX22;have HX25:=z31 (P:=P) (w:=w) (base:=base) T F25 a25 H14 HX21;have HX26:=z2P (P:=P) (w:=w) (base:=base) T F26 a26 H3 H18 HX21;have HX27:=z0n (P:=P) (w:=w) (base:=base) T F27 a27 H6 H7 H14 HX21;have HX28:=kB (P:=P) (w:=w) (base:=base) T F28 a28 H5 HX23;have H29:=z3b (P:=P) (w:=w) (base:=base) T F29 a29 KS H11 HX22 HX23 HX24 HX25 HX26 HX27 HX28;have H30:=z6p (P:=P) (w:=w) (base:=base) T F30 a30 H8 H9 H10 H15 H16 H29;exact zeR (x:="law") H30 za9
theorem boot_:∀w:World,(W.fencedOpening treeTable PySem.Challenge.pw_drawndown_k53_no_least w 9690).map (λs=>(s.heap,s.gens,s.drawn,s.toks))=some (W.boot_heap w.params,Array.mk [],W.boot_drawn,W.boot_toks):= W.boot_open (by kernel_rfl) (by decide) (λs=>by kernel_rfl)
theorem left_:W.LeftO PySem.Challenge.pw_drawndown_k53_no_least qv looseQ xtQ (obsS askQ) (valS askQ) 9690:=z6R boot_ (λw os=>z6q (f:=λs=>(seenQ s,obsS askQ s)) (zhj w) (bsz w) (z8T (z9m w os) (z9Q w os)))
end K53
open PySem.W
set_option maxRecDepth 100000 in
set_option maxHeartbeats 0 in
theorem PySem.Challenge.cw_drawndown_k53_no_least_holds : PySem.Challenge.rw_drawndown_k53_no_least.Holds := by
  w_on; o_law
  refine holds_open (q := K53.qv) (loose := K53.looseQ) (Xt := K53.xtQ) (XP := XL K53.qv K53.lvQ) (Yf := Dd.obsS K53.askQ) (Ya := Dd.valS K53.askQ) (YP := Dd.saysS K53.askQ) (N := 9690) K53.left_ (Dd.zbt K53.askQ) (Dd.z6U K53.askQ) (λs e => xl_of s (Bool.and_eq_true_iff.mp e).1) XL.keeps (by rfl) (by rfl) (by rfl) (λs e => recFacts_of (Bool.and_eq_true_iff.mp e).2) (by rfl) (by first | assumption | decide +kernel) (by decide +kernel) ⟨rfl, rfl, rfl, rfl, rfl, by decide +kernel⟩ ?hw ?hc
  (case hw => w_witness2)
  refine Dd.walkY (l := PySem.Challenge.rw_drawndown_k53_no_least) (n := 63) (k := 10) (x := "_law_script") rfl (by decide) (by decide) rfl ⟨rfl, by decide, by decide, rfl⟩ ?F
  case F =>
    intro w mg fa h Yy G hmg XP
    obtain⟨K, KX, e⟩ := Yy
    exact⟨K, KX, K53.all_mk KX G hmg e ⟩
