import PyProof.Rows.All
import Wide.All
import OpenK.AllK
import Wide.FinOn
import Lean
import PyProof.EqAt
import PyProof.EqKinds
import PyProof.TupleCall
import PySem.Value
import PySem.Sem
import PySem.SetTable
import PyProof.TupleKey
import PyProof.SetKind
import PyProof.DictKinds
import PyProof.IsRules
import PyProof.CompMap
import PyProof.Rows.SetFrom
import PyProof.WalksMore
import PyProof.FactsAll.subtypes_4
import PyProof.FactsAll.set
import PyProof.Seq
import PyProof.Walks
import PyProof.FactsAll.set_2
import PyProof.MeetsSeq2
import KE.KDictSum
import PyProof.CollectStr
import PyProof.ListRange
import PyProof.Rows.SortShell
import PyProof.Rows.SortRuns
import KE.KSortAsk
import KE.KSortTup
import PyProof.StationsW
import PyProof.RulesAs
import PyProof.ExcClass3
import PyProof.IsInstance
import OpenK.KMore
import PyProof.ExcArgsOwn
import OpenK.KDescr
import PyProof.ListMulAny
import PyProof.EnumMake
import PyProof.EnumFor
import PyProof.EnumStmt
import KE.BitLaws
import PyProof.Rows.SumAny
import PyProof.WalkInts
import PyProof.FactsAll.list_3
import PyProof.ExcBaseAll.ValueError
import PyProof.StrOps2
import PySem.Challenge.RW_holeyard_k22_whole_alike
set_option linter.all false
def Oh:=@PySem.wpAny_bind
def Oi:=@Bool.and_eq_true
def Oj:=@PySem.wpAny_pure
def Ol:=@PySem.Heap.get?_push_of_some
def Om:=@Bool.false_eq_true
def Oo.{u}:=@List.length_append.{u}
def Oq.{u}:=@List.mem_cons.{u}
def Ot:=@Nat.le_refl
def Ou:=@PySem.Heap.lt_size
def Ov.{u}:=@List.getElem?_eq_getElem.{u}
def Ow.{u}:=@List.mem_append_right.{u}
def Ox.{u}:=@List.mem_append.{u}
def Oy.{u}:=@Array.getElem?_eq_getElem.{u}
def Oz:=@decide_eq_true_eq
def OA:=@PySem.Heap.get?_push_size
def OB:=@Nat.mod_two_eq_zero_or_one
def OC.{u}:=@List.mem_singleton.{u}
def OD:=@Nat.lt_of_lt_of_le
def OE.{u}:=@List.size_toArray.{u}
def OF.{u}:=@List.getElem?_append_left.{u}
def OG.{u,v}:=@List.getElem?_map.{u,v}
def OH.{u}:=@if_false.{u}
def OI:=@Nat.ne_of_lt
def OJ.{u}:=@List.mem_filter.{u}
def OK.{u}:=@List.getElem?_eq_some_iff.{u}
def OL.{u}:=@beq_iff_eq.{u}
def OM.{u}:=@List.all_eq_true.{u}
def ON.{u}:=@List.pairwise_cons.{u}
def OO:=@Nat.pow_le_pow_right
def OP.{u}:=@Array.getElem?_eq_some_iff.{u}
def OQ:=@Nat.zero_le
def OR:=@PySem.Heap.get?_update_other
def OS:=@Nat.testBit_lt_two_pow
def OT:=@PySem.wpAny_setState_of
def OU.{u}:=@Array.getElem?_toList.{u}
def OV.{u}:=@List.getElem?_eq_none.{u}
def OW:=@PySem.Heap.get?_update_self
def OX.{u}:=@List.nodup_cons.{u}
def OY:=@Classical.byContradiction
def OZ:=@PySem.wpAny_newObj_type
def O0.{u,v}:=@List.lookup_cons.{u,v}
def O1.{u}:=@Option.some.inj.{u}
def O2:=@Nat.testBit_xor
def O3:=@Nat.le_trans
def O4:=@PyProof.Rows.callWith_type1
def O5:=@PySem.W.kia_one
def O6:=@Bool.not_eq_true'
def O7.{u}:=@List.getElem?_append_right.{u}
def O8:=@PyProof.Rows.wpS_bind
def O9:=@PySem.mem_of_lookup
def Pa.{u}:=@List.append_nil.{u}
def Pb.{u}:=@if_true.{u}
def Pc:=@Bool.false_ne_true
def Pd.{u}:=@Ne.symm.{u}
def Pe:=@PyProof.Rows.slot_tuple_getitem
def Pf.{u}:=@List.Pairwise.sublist.{u}
def Pg.{u}:=@List.contains_iff_mem.{u}
def Ph:=@PySem.Heap.SameBut.update
def Pj:=@PySem.wpAny_mono
def Pk.{u}:=@List.append_assoc.{u}
def Pl:=@Bool.not_true
def Pm:=@PySem.wpAny_loadPart_at
def Pn.{u}:=@List.mem_of_getElem?.{u}
def Po:=@PySem.wpAny_Call_Name_kw
def Pp.{u}:=@Array.getElem?_setIfInBounds.{u}
def Pq:=@Nat.lt_irrefl
def Pr:=@PySem.wpAny_holding
def Pt:=@PySem.wpAny_call_entry
def Pu:=@Nat.xor_assoc
def Pw.{u,v}:=@congrArg.{u,v}
def Px.{u}:=@Option.some.injEq.{u}
def Py.{u}:=@Array.getD_eq_getD_getElem?.{u}
def Pz:=@Nat.xor_lt_two_pow
def PA:=@PySem.codeAny_builtin
def PB.{u}:=@List.take_of_length_le.{u}
def PC.{u}:=@List.drop_eq_getElem_cons.{u}
def PD.{u,v}:=@List.pairwise_map.{u,v}
def PE.{u}:=@List.Pairwise.imp_of_mem.{u}
def PF:=@Bool.or_eq_true
def PG:=@PySem.F.slot_dict_keyiterator_next
def PH:=@PySem.wpAny_callSpecial?_slot
def PI.{u}:=@List.pairwise_singleton.{u}
def PJ:=@Nat.eq_of_testBit_eq
def PK:=@PySem.Around.under_plainId
def PL:=@PySem.wpAny_askSetting
def PM:=@PyProof.Rows.wpS_pure
def PN.{u}:=@List.idxOf_lt_length_of_mem.{u}
def PO.{u}:=@List.countP_congr.{u}
def PQ.{u}:=@List.nodup_append.{u}
def PR.{u}:=@List.replicate_succ.{u}
def PS.{u,v}:=@List.map_congr_left.{u,v}
def PT:=@PySem.wpAny_isSubtype_exc
def PU:=@PySem.Calls.spliced_cons
def PV:=@PyProof.Rows.callWith_builtin1
def PW:=@Nat.lt_succ_self
def PX:=@PySem.Obj.data_mapFields
def PY.{u}:=@List.nodup_nil.{u}
def PZ:=@PySem.wpAny_setField
def P0:=@PySem.wpAny_typeNameOfWhole_keyiter
def P1.{u}:=@bne_self_eq_false.{u}
def P2:=@Bool.eq_iff_iff
def P4:=@PyProof.Rows.F.plain_set_update_loop
def P5.{u,v}:=@List.map_nil.{u,v}
def P6:=@Nat.zero_add
def P7.{u}:=@Array.getElem?_eq_none.{u}
def P8.{u}:=@List.length_take.{u}
def P9.{u}:=@List.length_drop.{u}
def Qa.{u,v}:=@List.mem_flatMap.{u,v}
def Qb:=@Int.natCast_nonneg
def Qd.{u}:=@List.nodup_iff_pairwise_ne.{u}
def Qe.{u}:=@Array.size_extract.{u}
def Qf.{u,v}:=@List.countP_map.{u,v}
def Qg.{u}:=@List.length_set.{u}
def Qh.{u}:=@List.getElem?_set_ne.{u}
def Qi:=@PySem.Calls.spliced_nil
def Qj:=@PySem.wpAny_typeOf
def Qk.{u}:=@List.flatten_cons.{u}
def Ql.{u,v}:=@List.all_map.{u,v}
def Qm:=@Nat.xor_self
def Qn:=@Nat.pow_lt_pow_right
def Qo.{u}:=@List.ext_getElem?.{u}
def Qp:=@PySem.Heap.SameBut.refl
def Qq:=@Nat.testBit_two_pow_self
def Qr:=@PySem.wpAny_typeNameOf_keyiter
def Qs:=@PySem.AutoSeq1.wpAny_loadPart'
def Qt.{u}:=@List.filter_sublist.{u}
def Qu.{u}:=@List.getElem?_replicate.{u}
def Qv:=@Nat.zero_testBit
def Qw.{u}:=@List.not_mem_nil.{u}
def Qx:=@PySem.F.plainAttrs_list
def Qy:=@PySem.wpAny_field
def Qz:=@Nat.xor_zero
def QA:=@Nat.and_mod_two_eq_one
def QB.{u}:=@Array.getElem?_extract.{u}
def QC:=@PySem.F.called_set
def QD.{u}:=@List.filter_append.{u}
def QE.{u}:=@List.contains_cons.{u}
def QF:=@Nat.two_pow_pos
def QG.{u}:=@List.countP_eq_length_filter.{u}
def QH.{u}:=@List.length_replicate.{u}
def QI.{u}:=@List.take_append_drop.{u}
def QJ.{u}:=@List.getElem?_toArray.{u}
def QK:=@PySem.Obj.isFreed_of_fields
def QL:=@PySem.wpAny_truthy_bool
def QM.{u}:=@List.Pairwise.imp.{u}
def QN:=@PySem.wpAny_storeSet_of
def QO:=@of_decide_eq_true
def QP.{u}:=@List.count_append.{u}
def QQ:=@Bool.false_and
def QR:=@Nat.le_of_lt
def QS:=@Nat.le_of_not_lt
def QT:=@Nat.zero_xor
def QU:=@PySem.putSet_of
def QV:=@PySem.wpAny_isInstance
def QW.{u}:=@List.any_eq_true.{u}
def QX.{u}:=@List.nil_sublist.{u}
def QY:=@Bool.or_true
def QZ.{u}:=@List.pairwise_iff_getElem.{u}
def Q0:=@Nat.testBit_two_pow
def Q1:=@List.getElem?_range
def Q2:=@PyProof.Rows.F.entry_set_update_loop
def Q3.{u,v}:=@List.flatMap_append.{u,v}
def Q4:=@PySem.F.args_tuple_add_2
def Q5.{u}:=@List.length_erase_of_mem.{u}
def Q6:=@PySem.wpAny_passesOwn
def Q7.{u}:=@List.getElem_idxOf.{u}
def Q8:=@PySem.F.entry_tuple_add
def Q9.{u}:=@List.map_id.{u}
def Ra:=@PySem.W.kitx_dict
def Rb:=@PySem.F.slot_tuple_add
def Rc:=@Bool.xor_false
def Rd:=@Nat.xor_mod_two_eq_one
def Rf.{u}:=@Array.size_append.{u}
def Rg:=@List.pairwise_lt_range
def Rh:=@PySem.F.plain_list_iadd
def Ri:=@PyProof.Rows.wpS_forRange
def Rj.{u}:=@List.mk_mem_zipIdx_iff_getElem?.{u}
def Rk:=@PySem.F.slot_dict_get
def Rl.{u}:=@List.eq_nil_or_concat.{u}
def Rm.{u}:=@List.concat_eq_append.{u}
def Rn:=@PySem.builtinLookup_eq_fast
def Ro.{u}:=@List.length_filter_le.{u}
def Rp:=@PySem.F.typeOf_object_class
def Rq:=@PySem.wpAny_forIn_list
def Rr:=@Nat.testBit_zero
def Rt:=@Nat.testBit_succ
def Ru:=@PySem.F.args_dict_keyiterator_next_1
def Rv:=@Nat.max_eq_right
def Rw:=@PyProof.Rows.reverseSlice'_eq
def Rx:=@PyProof.Rows.wpS_modify
def Ry.{u}:=@List.sublist_nil.{u}
def Rz.{u}:=@List.filter_cons.{u}
def RA:=@PySem.plainId_quiet
def RB:=@PySem.wpAny_attempt
def RC:=@PySem.Calls.evalArgs_plain
def RD.{u}:=@List.eq_nil_of_length_eq_zero.{u}
def RE:=@PySem.codeAny_call_builtin
def RF:=@PySem.F.entry_dict_keyiterator_next
def RG:=@PySem.wpAny_execs_nil
def RH.{u}:=@List.nil_append.{u}
def RI:=@Nat.and_div_two
def RJ:=@PySem.wpAny_updateSeq
def RK.{u}:=@List.countP_eq_zero.{u}
def RL:=@PySem.wpAny_setEntries_of
def RM:=@Nat.ne_of_gt
def RN:=@PySem.codeAny_mono
def RO:=@Nat.xor_comm
def RP:=@Nat.lt_or_ge
def RQ:=@PySem.Calls.Name_function_global
def RR.{u,v}:=@List.mem_filterMap.{u,v}
def RS:=@Int.fdiv_eq_ediv_of_nonneg
def RT:=@PySem.call_meets
def RU:=@PySem.tupleKind_room_in1
def RV:=@Bool.not_false
def RW:=@Int.emod_lt_of_pos
def RX.{u}:=@List.perm_ext_iff_of_nodup.{u}
def RY:=@PySem.Code.quiet_builtin
def RZ:=@PySem.wpAny_runValue
def R0:=@PySem.isSubtype_type
def R1:=@PySem.wpAny_fieldsOf
def R2.{u}:=@Array.perm_iff_toList_perm.{u}
def R3.{u}:=@List.count_eq_zero.{u}
def R4:=@PySem.Value.isInt_shape
def R5.{u,v}:=@Sum.inl.inj.{u,v}
def R6.{u}:=@List.any_eq_false.{u}
def R7:=@PySem.W.kitx_list
def R8:=@Nat.lt_trichotomy
def R9:=@PySem.wpAny_pyIter_slot
def Sa.{u}:=@Array.isEmpty_iff.{u}
def Sb:=@PySem.wpAny_setEpoch_of
def Sd:=@PySem.wpAny_dictEntries
def Se.{u}:=@List.filter_congr.{u}
def Sf.{u,v}:=@List.flatMap_cons.{u,v}
def Sg.{u}:=@List.Sublist.refl.{u}
def Sh:=@PySem.AutoSeq1.sub_tuple_tuple
def Si:=@PyProof.Rows.listUpdate_at
def Sj:=@PySem.noFill_tuple_add
def Sk:=@PySem.F.args_dict_get_3
def Sl:=@Nat.testBit_div_two_pow
def Sm:=@Nat.testBit_mod_two_pow
def Sn.{u}:=@beq_self_eq_true.{u}
def So.{u}:=@List.perm_middle.{u}
def Sp:=@decide_eq_false_iff_not
def Sq:=@PySem.isinstance_outer
def Sr.{u}:=@List.drop_length.{u}
def Ss.{u}:=@List.take_length.{u}
def Su:=@PySem.W.cellsFrom_some
def Sv:=@PySem.concat_meets
def Sw:=@PySem.F.entry_dict_get
def Sx:=@Nat.mod_lt
def Sy:=@PySem.wpAny_rule
def Sz:=@List.range_succ_eq_map
def SA:=@PySem.wpAny_specialOf
def SD:=@Nat.xor_div_two
def SE:=@Nat.testBit_and
def SF:=@Int.emod_nonneg
def SG:=@PySem.typeLookup_type
def SH:=@PySem.wpAny_dictEpoch
def SI:=@PySem.call_isinstance
def SJ.{u}:=@List.Perm.refl.{u}
def SK:=@PySem.Heap.size_push
def SM:=@PySem.entryFor_alias
def SN:=@PyProof.Rows.wpS_mono
def SO:=@PySem.wpAny_loadPart
def SP:=@Iff.rfl
def SQ:=@PySem.Paired.length
def SR:=@PySem.seq_tuple_add
def SS:=@Bool.and_self
def SU:=@PySem.wpAny_newList
def SV:=@PySem.F.slot_gs_get
def SW:=@PySem.W.mg_of
def SX:=@PySem.wpAny_load
def SY:=@PySem.W.kitx_tuple
def S0:=@PySem.W.mg_none_of
def S1:=@Nat.add_comm
def S2:=@or_false
def S3:=@decide_true
noncomputable section
open Array renaming length_toList->Tt,replicate->UI,getD->Vi,getElem?_append->VZ,getElem?_map->WH,forIn_toList->WI,toList_inj->W8,toList_map->W9,size_push->Xl
open Bool renaming false->S6,and_false->Ug,true_and->Vr,true->J
open Classical renaming propDecidable->VE
open False renaming elim->UD
open ForInStep renaming yield->Uk
open Function renaming comp->UZ,comp_def->WL
open Int renaming toNat_natCast->T9
open List renaming mem_cons_of_mem->S4,length_map->S5,mem_cons_self->S7,map_cons->Tb,map_append->Te,mem_map->Tf,mem_append_left->Tg,map_map->Ti,length_cons->To,range->Tp,replicate->Tr,mem_range->Ts,foldl_append->Tv,length_singleton->TB,length_nil->TG,find?_cons->TY,any_cons->TZ,foldl_cons->Ua,countP_cons->Uc,getD->Ui,filterMap_cons->Um,all_cons->Un,length_range->Uu,length->U3,extract_eq_drop_take->Vl,getElem?_zip_eq_some->Vn,count_singleton_self->Vo,getElem?_take_of_lt->Vq,getElem?_cons_succ->Vz,length_eq_zero_iff->VB,getElem?_set_self->VH,length_pos_of_mem->VP,drop_of_length_le->VS,sublist_cons_self->VT,of_mem_zip->VV,mem_iff_getElem?->V2,mem_erase_of_ne->Wa,pairwise_append->Wc,foldl_nil->Wf,count_singleton->Wg,lookup->Wi,mem_of_mem_take->Wj,getElem_toArray->Wk,zipIdx_map_fst->Wt,getElem_of_mem->Wu,zip_cons_cons->WE,zipIdx_append->WG,find?_eq_none->WJ,cons_append->W3,getElem_mem->W4,nodup_range->W5,zipIdx_cons->Xb,any_toArray->Xd,foldl->Xx,idxOf->XH
open List.Pairwise renaming nil->UQ
open List.Perm renaming swap->UR,cons->Wb,of_eq->Xm
open List.Sublist renaming append->Ws
open Nat renaming pow_succ->Ut,not_lt_zero->UA,strongRecOn->VW,lt_succ_of_lt->WO,le_add_right->W7,and_le_left->Xj,div_add_mod->Xk
open Option renaming map_some->Uj,bind_eq_bind->U9,isSome_iff_exists->Vp,bind_some->Vy,getD_none->W0,getD_some->Xc,pure_def->Xn,some->Z,none->Y
open Prod renaming fst->XE
open PyProof.Rows renaming arrOf->Tn,Keyed->TF,IntsAre->TR,seqObj->Ul,SortSt->Ux,pendingOf->Uz,SortKind->UT,failedOf->UU,mirror->U8,AllBare->Va,reverseSlice'->Vu,subscriptTail_builtinR->VL,get?_update_seq->VY,entry_tuple_getitem->Wr,subscriptTail->Ww,envOfC->WC,listItems_at->WS,wpS_get->WU,keyKind'->WV,tuples'->WW,seqEpoch_at->Xi,IsTup->Xs,ltAt'->XR
open PyProof.Rows.IsTup renaming new->XO
open PySem renaming Value->S8,Shared->S9,wpAny->Ta,model->Tc,Addr->Td,Str->Tj,Expr->Tq,starEach->Tu,sizeLine_eq->Tw,sizeLine->Tx,mainGlobals->Tz,Heap->TH,Program->TK,excClassObj->TL,Around->TO,compareOp->TP,cLine->TS,World->TU,binaryOp->TV,bootBuiltins->T2,Stmt->T3,eval->T4,foldedSetIterable->T7,sysModules->Ub,Builtin->Uh,Obj->Uq,NameKind->Uy,assignEach->UC,SetTable->UG,backTo->UJ,swapsWith->UK,sliceBounds->UM,Pos->UN,rawInt->UO,ofAClassStatement->US,behindInMarks->UX,attributeBase->UY,Scope->U1,FuncData->U2,pyNext->U4,letOwnedTupleGo->U5,codeAny->Vb,Keyword->Vc,getItem->Vd,setsByText->Vj,firstArgMember->Vk,setSearchFrom->Vs,tupleKind->Vx,checkBuiltinCall->VA,ReadsAll->VD,setFlight->VF,compEnvC->VG,holding->VI,BindsTo->VJ,IsPart->VK,typeOf->VM,callerA->VO,setAddHashed->VQ,wpAny_eqIsQuiet_tuple->V0,wpAny_isSame_ref_self->V1,wpAny_isOneOf_keyiter->V4,pyIter->V7,subscripted->V8,keywordEach->V9,hashByValue->Wd,wpAny_pyIter_keyiter->We,valueAt->Wn,pickOrder->Wo,collect->Wq,ExceptHandler->Wx,signature?_of->Wz,setWalkUnseen->WA,isTrue->WB,spliced->WK,sub_set_self->WN,assign->WY,PassesOwn->WZ,DictEntry->W2,Model->Xe,atKey->Xf,wpAny_of_eq->Xg,unsupported->Xh,intKind->Xp,newList->Xq,ItemsOf->Xr,bindL->Xu,bindC->Xv,backToKw->Xw,stored->Xy,entryFor->XC,argsOk->XD,Reads->XG,rule->XJ,again->XN,Env->XS
open PySem.Builtin renaming bitAnd->UP,bitXor->Xt
open PySem.Builtin.Dict renaming showsAll->V3
open PySem.Builtin.Dict_items renaming ownsTuple->U7
open PySem.Builtin.Frozenset renaming addrOf->TJ,symmetricDifferenceUpdate->T6,isAnySet->Up,baseOf->UH,updateFrom->U6,unchanged->Vf,newFrom->Vm,slot1->VC,newClass->XB,sizeOf->XM,slot0->XP,merge->XQ
open PySem.Builtin.List renaming listExtendWith->T5,listTooLong->Uw,listLengthHint->Ve,listSameRef->Vt
open PySem.Builtin.Range renaming rangeSize->UL
open PySem.Builtin.Slice renaming slicePlaces->Ur,sliceAdjust->UE,sliceApplied->Vg
open PySem.Builtin.Tuple renaming tupleExact->Ue,tupleItemsOf->Vh
open PySem.Calls renaming callWith_builtin->VN
open PySem.EntryCells renaming newEntry->Wv
open PySem.F renaming entry_proto_collect->V5,plain_proto_collect->V6,excAttr_ValueError->Wh,excBase_ValueError->Wl,entry_list_iadd->WT
open PySem.Heap renaming SameBut->TA
open PySem.IsRange renaming new->XW
open PySem.IsTupleKey renaming typeIs->WM,inj->XA
open PySem.NameKind renaming free->TC,cell->Uo
open PySem.Obj renaming mapSeq->TX,mapFields->T1,putSet->T8,cls_mapFields->WR
open PySem.PyData renaming depthAll->Us,canLayAll0->Uv,eqvAll->Vv,eqv->XF,depth->XU
open PySem.SeqAt renaming EqAt->WD,eqAt_reads->Xa
open PySem.SetFound renaming there->Xz
open PySem.SetTable renaming fresh->TN,relaid->VX,laid->Wy,tooFull->W6,fill->XK
open PySem.Str renaming ofString->Ud
open PySem.Value renaming ref->Th,type->TM,int->UB,bool->UW,isInt->U0,builtin->Vw,scannable->Xo,isStrOf->XI
open PySem.W renaming kas_ask->VR,findIn->VU,looks_findIn->WX
open PySem.W.KatTups renaming cons->XT,nil->XX
open PySem.pickOrder renaming go->WQ
open Sum renaming inl->TQ,inr->Wm
section
set_option Elab.async false
set_option linter.all false
set_option maxRecDepth 100000
namespace aJ
open PySem PySem.Spec PyProof.Rows
noncomputable abbrev Key:=Sum Int Tj
noncomputable def kY:Key->S8->Bool
 |.inl k,v=>U0 k v
 |.inr x,v=>XI x v
noncomputable def FZ(w:TU):Key->Int
 |.inl k=>hashInt k
 |.inr x=>hashStr w x
def h1:∀{k:Key}{v:S8},kY k v=J->(∃i t,k=TQ i/\v=UB i t)\/(∃x t,k=Wm x/\v=Value.str x t)
 |.inl i,v,h=>by
  obtain⟨t,e⟩:=R4 (k:=i) (v:=v) h;exact .inl ⟨i,t,rfl,e⟩
 |.inr x,v,h=>by
  obtain⟨t,e⟩:=Value.isStrOf_shape (x:=x) (v:=v) h;exact .inr ⟨x,t,rfl,e⟩
def F0(i)(t):kY (.inl i) (.int i t)=true:=by simp[kY,U0]
def F1(x)(t):kY (.inr x) (.str x t)=true:=by simp[kY,XI]
def F3(a b):decide ((TQ a:Key)=TQ b)=(a==b):=by
 by_cases e:a=b
 .subst e;simp
 .have h:¬(TQ a:Key)=TQ b:=λq=>e (R5 q)
  rw[decide_eq_false h];exact(beq_eq_false_iff_ne.mpr e).symm
def F6(a b):decide ((Wm a:Key)=Wm b)=decide (a=b):=by
 by_cases e:a=b
 .subst e;simp
 .have h:¬(Wm a:Key)=Wm b:=λq=>e (Sum.inr.inj q)
  rw[decide_eq_false h,decide_eq_false e]
def F4(a)(b):decide ((TQ a:Key)=Wm b)=false:=decide_eq_false (λq=>nomatch q)
def F5(a)(b):decide ((Wm a:Key)=TQ b)=false:=decide_eq_false (λq=>nomatch q)
noncomputable def eA(prog)(w):PySem.KeyKind prog w Key where
 is:=kY
 hash:=FZ w
 inj:=λv a b f d=>by
  rcases h1 f with⟨i,t,rfl,rfl⟩|⟨x,t,rfl,rfl⟩
  .rcases h1 d with⟨j,u,rfl,e⟩|⟨y,u,rfl,e⟩
   .injection e with e1 _;rw[e1]
   .exact nomatch e
  .rcases h1 d with⟨j,u,rfl,e⟩|⟨y,u,rfl,e⟩
   .exact nomatch e
   .injection e with e1 _;rw[e1]
 byValue:=λk v h=>by
  rcases h1 h with⟨i,t,rfl,rfl⟩|⟨x,t,rfl,rfl⟩<;>rfl
 pyHash:=λc h=>by
  rcases h1 c with⟨i,t,rfl,rfl⟩|⟨x,t,rfl,rfl⟩
  .exact wpAny_pyHash_int h
  .exact wpAny_pyHash_str h
 eqBool:=λg c h=>by
  rcases h1 g with⟨i,t,rfl,rfl⟩|⟨x,t,rfl,rfl⟩
  .rcases h1 c with⟨j,u,rfl,rfl⟩|⟨y,u,rfl,rfl⟩
   .rw[F3]at h;exact wpAny_eqBool_int h
   .rw[F4]at h;exact SeqAt.EqAt.int_str i t y u _ _ _ _ h
  .rcases h1 c with⟨j,u,rfl,rfl⟩|⟨y,u,rfl,rfl⟩
   .rw[F5]at h;exact SeqAt.EqAt.str_int x t j u _ _ _ _ h
   .rw[F6]at h;exact wpAny_eqBool_str h
 «strs»:=λk x t v h=>by
  rcases h1 h with⟨i,u,rfl,e⟩|⟨y,u,rfl,e⟩
  .exact nomatch e
  .injection e with e1 _;subst e1;cases v<;>rfl
def Hn(prog)(w)(i)(t):(eA prog w).is (.inl i) (.int i t)=true:=F0 i t
def Ho(prog)(w)(x)(t):(eA prog w).is (.inr x) (.str x t)=true:=F1 x t
end aJ
namespace aJ
open PySem PySem.Spec PyProof.Rows
inductive V where
 |bG|ah (b:Bool)|int (i:Int)|str (x:Tj)|rA (b:Array UInt8)|fX (b:UInt64)|ref (a:Td)|ty (n:String)
 deriving DecidableEq
noncomputable def RelV:V->S8->Prop
 |.bG,u=>u=Value.none
 |.ah b,u=>u=UW b
 |.int i,u=>∃t,u=UB i t
 |.str x,u=>∃t,u=Value.str x t
 |.rA b,u=>∃t,u=Value.bytes b t
 |.fX b,u=>∃t,u=Value.float b t
 |.ref a,u=>u=Th a
 |.ty n,u=>u=TM n
noncomputable abbrev Vals:List V->List S8->Prop:=Paired RelV
theorem Vals.length(r:Vals xs a):xs.length=a.length:=SQ r
theorem Vals.get:∀{xs:List V}{a:List S8}{i:Nat}{x:V},Vals xs a->xs[i]?=Z x->∃u,a[i]?=Z u/\RelV x u
 |_,_,_,_,.nil,e=>by simp at e
 |_,_,0,_,.cons r _,e=>by simp at e;subst e;exact⟨_,rfl,r⟩
 |_,_,i+1,x,.cons _ t,e=>by
  obtain⟨u,b,c⟩:=Vals.get (i:=i) (x:=x) t (by simpa using e);exact⟨u,by simpa using b,c⟩
theorem Vals.append:∀{xs ys:List V}{a b:List S8},Vals xs a->Vals ys b->Vals (xs++ys) (a++b)
 |_,_,_,_,.nil,s=>s
 |_,_,_,_,.cons r t,s=>.cons r (Vals.append t s)
theorem Vals.take:∀{xs:List V}{a:List S8}(n:Nat),Vals xs a->Vals (xs.take n) (a.take n)
 |_,_,0,_=>.nil
 |_,_,_+1,.nil=>.nil
 |_,_,n+1,.cons r t=>.cons r (Vals.take n t)
theorem Vals.drop:∀{xs:List V}{a:List S8}(n:Nat),Vals xs a->Vals (xs.drop n) (a.drop n)
 |_,_,0,r=>r
 |_,_,_+1,.nil=>.nil
 |_,_,n+1,.cons _ t=>Vals.drop n t
noncomputable def fO:Option V->Option S8->Prop
 |some v,Z u=>RelV v u
 |none,Y=>True
 |_,_=>False
def c7{κ:Type}:List (κ×V)->List (κ×S8)->Prop:=Paired λ(p:κ×V)(q:κ×S8)=>p.1=q.1/\RelV p.2 q.2
noncomputable def bQ:Key->V
 |.inl i=>.int i
 |.inr x=>.str x
inductive eG where
  |lst (xs:List V)
  |tup (xs:List V)
  |b5 (fZ:List (Key×V))|cm (fZ:List (List Key×V))
  |set (S:Int->Bool) (n:Nat)
  |ins (C ey:Td) (bx:List (Tj×V))
  |own (x:Td)
  |qj (bx:List (Tj×V))
  |met (f x:Td)
  |dz (lo aw:Int)
  |cy (o:Uq) (u:eG)
  |jg (d2:Array S8)
  |ext (Og:TH->Prop)
noncomputable abbrev ag:=Td->Option eG
noncomputable def upd(H:ag)(a:Td)(o:eG):ag:=λb=>if b=a then Z o else H b
def cj:upd H a o a=Z o:=by unfold upd;rw[if_pos rfl]
def bj(h:b≠a):upd H a o b=H b:=by unfold upd;rw[if_neg h]
def tW:upd (upd H a o) a u=upd H a u:=by
 funext b;unfold upd;split<;>rfl
def HI{H:ag}(h:H a=Z o)(h':H b=Z u)(d:o≠u):a≠b:=by
 intro e;subst e;rw[h]at h';exact d (O1 h')
def f5{H:ag}(h:H a=Z o)(h':H b=Y):a≠b:=by
 intro e;subst e;rw[h]at h';cases h'
section
variable(P:TK)(w:TU)
noncomputable def bZ(H:ag)(h:TH)(a:Td):eG->Prop
 |.lst xs=>xs.length<=Tx/\∃(its:List S8)(n:Nat),Vals xs its/\h.get? a=Z { cls:=.type "list",data:=.seq its.toArray n }
 |.tup xs=>xs.length<=Tx/\∃its:List S8,Vals xs its/\Xs h a its.toArray
 |.b5 d=>d.length<=Tx/\(a==Ub)=S6/\∃l,c7 d l/\h.DictOf (eA P w) a l
 |.cm d=>d.length<=Tx/\(a==Ub)=S6/\∃xs:List (List Key×Td×S8),
   Paired (λ(p:List Key×V)(q:List Key×Td×S8)=>p.1=q.1/\H q.2.1=Z (.tup (p.1.map bQ))/\RelV p.2 q.2.2) d xs /\
   ∃o i m,h.get? a=Z o/\o.ExactDict/\o.data=.dict i m/\i.toList=xs.map (entryOfKey (Vx (eA P w)))/\(xs.map (·.1)).Nodup
 |.set S n=>h.SetOf (Xp P w) a S n
 |.ins C e c=>H e=Z (.own a)/\c.length<=1000/\e≠a/\h.get? a=Z (PySem.W.instObj C e) /\
   ∃b,h.Ns1 e b/\(∀f,fO (c.lookup f) (b f))/\PySem.Within b (c.map (·.1))
 |.own _=>∃o,h.get? a=Z o
 |.qj c=>∃b,h.Ns1 a b/\∀f,fO (c.lookup f) (b f)
 |.dz lo r=>∃t u v,h.get? a=Z { cls:=.type "range",data:=.fields #[.int lo t,.int r u,.int 1 v] }
 |.cy o u=>h.get? a=Z o/\bZ H h a u
 |.jg s=>h.get? a=Z { cls:=.none,data:=.fields s }
 |.met f x=>h.get? a=Z (PySem.W.methodObj (.ref f) (.ref x))
 |.ext g=>g h/\(∃o,h.get? a=Z o)/\∀j k:TH,g j->(∀o,j.get? a=Z o->k.get? a=Z o)->g k
def cD(H:ag)(h:TH):Prop:=∀a o,H a=Z o->bZ P w H h a o
end
section
variable{P:TK}{w:TU}{H aD:ag}{h h':TH}{a:Td}{o:eG}
theorem bZ.lt(x:bZ P w H h a o):a<h.objs.size:=by
 cases o with
 |lst xs=>obtain⟨_,_,_,_,e⟩:=x;exact Ou e
 |tup xs=>obtain⟨_,_,_,p⟩:=x;exact p.lt
 |b5 c=>obtain⟨_,_,_,_,o,_,_,e,_⟩:=x;exact Ou e
 |cm c=>obtain⟨_,_,_,_,o,_,_,e,_⟩:=x;exact Ou e
 |set S n=>obtain⟨o,_,_,_,e,_⟩:=x;exact Ou e
 |ins C d b=>obtain⟨_,_,_,e,_⟩:=x;exact Ou e
 |own y=>obtain⟨_,e⟩:=x;exact Ou e
 |qj b=>obtain⟨_,⟨_,_,_,e,_⟩,_⟩:=x;exact Ou e
 |dz lo g=>obtain⟨_,_,_,e⟩:=x;exact Ou e
 |cy i u=>obtain⟨e,_⟩:=x;exact Ou e
 |jg j=>exact Ou (show h.get? a=Z _ from x)
 |met f y=>exact Ou (show h.get? a=Z _ from x)
 |ext k=>obtain⟨_,⟨_,e⟩,_⟩:=x;exact Ou e
theorem Paired.sG{α β:Type}{F G:α->β->Prop}:∀{c:List α}{d:List β},Paired F c d->(∀a b,F a b->G a b)->Paired G c d
 |_,_,.nil,_=>.nil
 |_,_,.cons r t,f=>.cons (f _ _ r) (Paired.sG t f)
def bZ.g0(x:bZ P w H h a o)(k:∀b u,(b=a\/H b=Z (.own a))->h.get? b=Z u->h'.get? b=Z u)(D:∀b,H b=Z (.own a)->aD b=Z (.own a))(E:∀b xs,H b=Z (.tup xs)->aD b=Z (.tup xs)):bZ P w aD h' a o:=by
 induction o with
 |lst xs=>obtain⟨z,its,n,r,e⟩:=x;exact⟨z,its,n,r,k _ _ (.inl rfl) e⟩
 |tup xs=>obtain⟨z,its,r,g,e,c⟩:=x;exact⟨z,its,r,g,k _ _ (.inl rfl) e,c⟩
 |b5 I=>obtain⟨z,y,M,r,g,j,i,e,c⟩:=x;exact⟨z,y,M,r,g,j,i,k _ _ (.inl rfl) e,c⟩
 |cm I =>
  obtain⟨z,y,xs,r,g,j,i,e,c⟩:=x;exact⟨z,y,xs,Paired.sG r λp q z=>⟨z.1,E _ _ z.2.1,z.2.2⟩,g,j,i,k _ _ (.inl rfl) e,c⟩
 |set S n=>obtain⟨g,j,i,t,e,c⟩:=x;exact⟨g,j,i,t,k _ _ (.inl rfl) e,c⟩
 |ins C N B =>
  obtain⟨d,z,L,e,l,⟨m,j,i,A,c⟩,r⟩:=x;exact⟨D _ d,z,L,k _ _ (.inl rfl) e,l,⟨m,j,i,k _ _ (.inr d) A,c⟩,r⟩
 |own y=>obtain⟨g,e⟩:=x;exact⟨g,k _ _ (.inl rfl) e⟩
 |qj B=>obtain⟨l,⟨m,j,i,e,c⟩,r⟩:=x;exact⟨l,⟨m,j,i,k _ _ (.inl rfl) e,c⟩,r⟩
 |dz lo O=>obtain⟨t,u,v,e⟩:=x;exact⟨t,u,v,k _ _ (.inl rfl) e⟩
 |cy g u G=>obtain⟨e,q⟩:=x;exact⟨k _ _ (.inl rfl) e,G q⟩
 |jg s =>
  have e:h.get? a=Z { cls:=.none,data:=.fields s }:=x;show h'.get? a=Z { cls:=.none,data:=.fields s };exact k a _ (.inl rfl) e
 |met f y =>
  have e:h.get? a=Z (PySem.W.methodObj (.ref f) (.ref y)):=x;show h'.get? a=Z (PySem.W.methodObj (.ref f) (.ref y));exact k a _ (.inl rfl) e
 |ext Q=>obtain⟨p,⟨o,e⟩,st⟩:=x;exact⟨st _ _ p λo q=>k _ _ (.inl rfl) q,⟨o,k _ _ (.inl rfl) e⟩,st⟩
theorem cD.lt(x:cD P w H h)(e:H a=Z o):a<h.objs.size:=(x a o e).lt
def cD.fresh(x:cD P w H h)(e:h.objs.size<=a):H a=none:=by
 cases q:H a with
 |none=>rfl
 |some u=>exact absurd (OD (x.lt q) e) (Pq _)
def cD.kept(x:cD P w H h)(k:∀b u,h.get? b=Z u->h'.get? b=Z u):cD P w H h':=λa o e =>
 (x a o e).g0 (λb u _ q=>k b u q) (λ_ q=>q) λ_ _ q=>q
def cD.laid(x:cD P w H h)(k:∀b u,h.get? b=Z u->h'.get? b=Z u)(g:h.objs.size<=a)(i:bZ P w (upd H a o) h' a o):cD P w (upd H a o) h':=λb u e=>by
 have f:=x.fresh g
 by_cases d:b=a
 .subst d;rw[cj]at e;cases e;exact i
 .rw[bj d]at e;exact(x b u e).g0 (λc v _ q=>k c v q) (λc q=>by rw[bj (f5 q f)];exact q) λc xs q=>by rw[bj (f5 q f)];exact q
end
def eI(H:ag)(a:Td)(u:eG):Prop:=H a=Z u\/∃o,H a=Z (.cy o u)
def eI.ok(r:eI H a u)(x:cD P w H h):bZ P w H h a u:=by
 rcases r with r|⟨o,r⟩
 .exact x a u r
 .obtain⟨_,q⟩:=x a _ r;exact q
noncomputable def l2:Option eG->Prop
 |some (.lst _)=>True
 |some (.b5 _)=>True
 |some (.cm _)=>True
 |some (.set _ _)=>True
 |some (.ins _ _ _)=>True
 |some (.ext _)=>True
 |_=>False
section
variable{P:TK}{w:TU}{H:ag}{h h':TH}{x e:Td}{m3:eG}
def cD.write (s : cD P w H h) (g : l2 (H x)) (i : e = x \/ H e = Z (.own x)) (k : ∀ b u, b ≠ e -> h.get? b = Z u -> h'.get? b = Z u) (m : ∃ u, h'.get? e = Z u)
    (o : bZ P w (upd H x m3) h' x m3) : cD P w (upd H x m3) h' := fun b u q => by
  have j : ∀ c y, H c = Z (.own y) -> c ≠ x := fun c y r z => by subst z; rw [r] at g; exact g
  have p : ∀ c xs, H c = Z (.tup xs) -> c ≠ x := fun c xs r z => by subst z; rw [r] at g; exact g
  by_cases a : b = x
  · subst a; rw [cj] at q; cases q; exact o
  · rw [bj a] at q
    by_cases d : b = e
    · have l : H b = Z (.own x) := by
        rcases i with z | z
        · exact absurd (d.trans z) a
        · rw [d]; exact z
      rw [q] at l; cases l
      obtain ⟨v, n⟩ := m
      exact ⟨v, by rw [d]; exact n⟩
    · refine (s b u q).g0 (fun c v f r => k c v ?_ r) (fun c r => by rw [bj (j c b r)]; exact r) fun c xs r => by rw [bj (p c xs r)]; exact r
      rcases f with rfl | f
      · exact d
      · rintro rfl
        rcases i with z | z
        · exact j c b f z
        · rw [f] at z; cases z; exact a rfl
end
structure dt(bx ex:List Td)(H aD:ag)(h h':TH):Prop where
 keep:∀b o,h.get? b=Z o->H b=Y->b∉bx->b∉ex->h'.get? b=Z o
 slot:∀b o,h.get? b=Z o->H b=Y->b∈bx->b∉ex->∃K1,h'.get? b=Z { o with slots:=K1 }
 free:∀b o,h.get? b=Z o->H b=Y->b∉ex->aD b=Y
 there:∀b o,h.get? b=Z o->b∉ex->∃m3,h'.get? b=Z m3
 g5:∀b xs,H b=Z (.tup xs)->aD b=Z (.tup xs)
 gs:∀b o u,H b=Z (.cy o u)->aD b=Z (.cy o u)
 g4:∀b d2,H b=Z (.jg d2)->∃more,aD b=Z (.jg (d2++more))
section
variable{bx EJ ex NW:List Td}{H H1 eF:ag}{h bY cO h':TH}{a x e:Td}{o:eG}
def dt.any(u:dt bx ex H H1 h bY)(q:h.get? b=Z c)(n:H b=Y)(f:b∉ex):∃g,bY.get? b=Z { c with slots:=g }:=by
 by_cases d:b∈bx
 .exact u.slot b c q n d f
 .exact⟨c.slots,u.keep b c q n d f⟩
def dt.kept(k:∀b u,h.get? b=Z u->h'.get? b=Z u):dt bx ex H H h h' :=
 ⟨λb c q _ _ _=>k b c q,λb c q _ _ _=>⟨c.slots,k b c q⟩,λ_ _ _ n _=>n,λb c q _=>⟨c,k b c q⟩,λ_ _ q=>q,λ_ _ _ q=>q,λ_ d q=>⟨#[],by rw[q];simp⟩⟩
def dt.refl:dt bx ex H H h h:=dt.kept λ_ _ q=>q
def dt.laid(k:∀b u,h.get? b=Z u->h'.get? b=Z u)(d:h.objs.size<=a)(c:H a=Y):dt bx ex H (upd H a o) h h' where
 keep:=λb u q _ _ _=>k b u q
 slot:=λb u q _ _ _=>⟨u.slots,k b u q⟩
 free:=λb u q n _=>by rw[bj (OI (OD (Ou q) d))];exact n
 there:=λb u q _=>⟨u,k b u q⟩
 g5:=λb xs q=>by rw[bj (f5 q c)];exact q
 gs:=λb u xs q=>by rw[bj (f5 q c)];exact q
 g4:=λb f q=>⟨#[],by rw[bj (f5 q c),q];simp⟩
def dt.write(c:l2 (H x))(j:e=x\/H e=Z (.own x))(k:∀b u,b≠e->h.get? b=Z u->h'.get? b=Z u)(l:∃u,h'.get? e=Z u):dt bx ex H (upd H x o) h h':=by
 have i:∀b,H b=Y->b≠x:=λb n z=>by subst z;rw[n]at c;exact c
 have f:∀b,H b=Y->b≠e:=λb n z=>by
  subst z;rcases j with r|r
  .exact i b n r
  .rw[n]at r;cases r
 have d:∀b u,H b=Z u->¬l2 (Z u)->b≠x:=λb u q nm z=>by subst z;rw[q]at c;exact nm c
 refine⟨λb u q n _ _=>k b u (f b n) q,λb u q n _ _=>⟨u.slots,k b u (f b n) q⟩,λb u q n _=>by rw[bj (i b n)];exact n,λb u q _=>?_,
  λb xs q=>by rw[bj (d b _ q λz=>z)];exact q,λb u xs q=>by rw[bj (d b _ q λz=>z)];exact q,λb m q=>⟨#[],by rw[bj (d b _ q λz=>z),q];simp⟩⟩
 by_cases g:b=e
 .subst g;exact l
 .exact⟨u,k b u g q⟩
end
noncomputable def p9(h:TH)(H:ag):List Addr:=(Tp h.objs.size).filter λa=>(H a).isSome
noncomputable def hY(h:TH)(H:ag):Heap:=PySem.W.hideAll h (p9 h H)
def E4(h)(H):(hY h H).objs.size=h.objs.size:=PySem.W.hideAll_size _ _
def E3(e:h.get? b=Z o)(n:H b=Y):(hY h H).get? b=Z o :=
 PySem.W.hideAll_get _ e λa=>by
  have q:(H b).isSome=true:=(OJ.mp a).2;rw[n]at q;simp at q
def HY(e:(hY h H).get? b=Z o):h.get? b=Z o/\H b=none:=by
 have a:h.get? b=Z o:=PySem.W.of_hideAll (p9 h H) e;refine⟨a,?_⟩;cases q:H b with
 |none=>rfl
 |some x =>
  have c:b∈p9 h H:=OJ.mpr ⟨Ts.mpr (Ou a),by simp[q]⟩;have z:(hY h H).get? b=none:=PySem.W.hideAll_none (p9 h H) c;rw[z]at e;cases e
noncomputable def Bb(g h:TH)(L:Td):List (Td×Uq):=(Tp h.objs.size).filterMap λa=>if a=L\/(g.get? a).isSome=J then Y else(h.get? a).map λo=>(a,o)
noncomputable def rest(g h:TH)(L d:Td):List (Td×Uq):=(Bb g h L).filter λp=>decide (p.1≠d)
end aJ
namespace aJ
open PySem PySem.Spec PyProof.Rows
structure Mod(K:W.Frag)(aG:Tj->Option S8)(base:TH):Prop where
 sr:K.In base
 glob:base.Ns Tz aG
 blt:∃xW,base.Ns builtinsNs xW/\∀x:Tj,x≠"__name__"->xW x=T2 x
 nolimit:base.NoLimit
structure au where
 prog:TK
 w:TU
 K:W.Frag
 aG:Tj->Option S8
 base:TH
 A:TO
 N:List Tj
 dG:S9
 lW:ag
 env:XS
 outer:List XS
 stack:List XS
 ex:List Td
 fn:Tj->Bool
 calm:Bool
 b7:List (Td×Uq)
 bk:S8->S9->Prop
noncomputable def eg(l:List XS):List Addr:=l.filterMap (·.frame)
noncomputable abbrev au.bx(X:au):List Addr:=eg X.outer
def dB(a:U1)(x:Tj):Prop:=a.names.lookup x=Z .local\/a.names.lookup x=Z .cell\/a.names.lookup x=Z .free
def Loc(a:U1)(x:Tj):Prop:=a.names.lookup x=Z .local\/a.names.lookup x=Z .cell
def Look(env:XS)(h:TH)(m:Tj->Option S8)(x:Tj)(u:S8):Prop :=
 (env.kindOf x=Z .local/\m x=Z u)\/((env.kindOf x=Z .cell\/env.kindOf x=Z .free)/\∃c,env.cells.lookup x=Z c/\h.IsCell c (Z u))
structure au.Ok(X:au):Prop where
 mod:Mod X.K X.aG X.base
 kind:X.env.scope.kind=.function
 glob:X.env.globals=Tz
 blt:X.env.builtins=builtinsNs
 above:X.dG.heap.objs.size<=X.env.locals
 inj:∀x y c,X.env.cells.lookup x=Z c->X.env.cells.lookup y=Z c->x=y
 has:∀x,(X.env.kindOf x=Z .cell\/X.env.kindOf x=Z .free)->∃c,X.env.cells.lookup x=Z c
 mh:∀x c,X.fn x=J->X.env.cells.lookup x=Z c->X.dG.heap.objs.size<=c
 hd:X.calm=J->X.A.handled=Y
 frames:X.A.frames=Z X.stack
 j3:X.stack=X.outer\/(X.stack=X.env::X.outer/\X.env.frame=Z X.env.locals)
 r2:∀b∈X.ex,b≠X.env.locals/\∀x c,X.env.cells.lookup x=Z c->c≠b
 bs:∀b o,X.base.get? b=Z o->X.dG.heap.get? b=Z o/\X.lW b=Y
 jx:X.base.objs.size<=X.dG.heap.objs.size
 m1:∀b o,X.base.get? b=Z o->b∉X.ex
 kB:∀b∈X.ex,b∉X.bx
 gu:X.dG.heap.FunFrames X.base X.outer
 kH:∀b∈X.bx,X.lW b=Y
structure Inv(X:au)(pins:List (Td×Uq))(σ:List (Option V))(H:ag)(s:S9):Prop where
 ok:X.Ok
 os:s.os=X.dG.os
 bare:Va s.gens
 base:dt X.bx X.ex X.lW H X.dG.heap s.heap
 loc:∃m,s.heap.Ns X.env.locals m/\∀(i:Nat)(x:Tj)(v:V),X.N[i]?=Z x->σ[i]?=Z (Z v)->dB X.env.scope x->∃u,RelV v u/\Look X.env s.heap m x u
 cell:∀x c,X.env.cells.lookup x=Z c->∃v,s.heap.IsCell c v
 free:H X.env.locals=Y
 ez:∀x c,X.env.cells.lookup x=Z c->H c=Y
 pin:∀p∈X.b7++pins,s.heap.get? p.1=Z p.2/\H p.1=Y/\p.1≠X.env.locals/\p.1∉X.bx/\∀v,p.2.data≠.cell v
 aK:cD X.prog X.w H s.heap
 len:σ.length=X.N.length
section
variable{X:au}{pins:List (Td×Uq)}{σ:List (Option V)}{H aD:ag}{s:S9}{h':TH}
def au.Ok.HN(c:X.Ok)(e:X.base.get? b=Z o):b∉X.bx:=λa=>by
 have:=(c.gu.mem a).1;rw[e]at this;cases this
theorem Inv.bs(I:Inv X pins σ H s):∀b o,X.base.get? b=Z o->s.heap.get? b=Z o/\H b=none:=λb o e =>
 ⟨I.base.keep b o (I.ok.bs b o e).1 (I.ok.bs b o e).2 (I.ok.HN e) (I.ok.m1 b o e),I.base.free b o (I.ok.bs b o e).1 (I.ok.bs b o e).2 (I.ok.m1 b o e)⟩
def Inv.fj(I:Inv X pins σ H s):∀b o,X.base.get? b=Z o->s.heap.get? b=Z o:=λb o e=>(I.bs b o e).1
theorem Inv.mod(I:Inv X pins σ H s):Mod X.K X.aG X.base:=I.ok.mod
def Inv.dS(I:Inv X pins σ H s):X.K.In s.heap:=I.ok.mod.sr.keeps I.fj
theorem Inv.lt(I:Inv X pins σ H s):X.env.locals<s.heap.objs.size:=let ⟨_,a,_⟩:=I.loc;a.lt
def Inv.d5(I:Inv X pins σ H s):X.dG.heap.objs.size<=s.heap.objs.size:=O3 I.ok.above (QR I.lt)
def Inv.m2(I:Inv X pins σ H s){a:Td}(h:s.heap.objs.size<=a):a∉X.bx:=λb=>by
 obtain⟨_,o,c,_⟩:=I.ok.gu.mem b;exact absurd (OD (Ou c) (O3 I.d5 h)) (Pq _)
def Inv.oc(I:Inv X pins σ H s):∀x c,X.env.cells.lookup x=Z c->c≠X.env.locals:=λx c e z=>by
 obtain⟨v,o,b,a⟩:=I.cell x c e;obtain⟨m,⟨i,h,g,f,d,_⟩,_⟩:=I.loc;rw[z,f]at b;cases b;rw[d]at a;cases a
theorem Inv.gu(I:Inv X pins σ H s):s.heap.FunFrames X.base X.outer:=by
 have all:∀(l:List XS),(∀b∈eg l,b∈X.bx)->X.dG.heap.FunFrames X.base l->s.heap.FunFrames X.base l:=by
  intro l
  induction l with
  |nil=>intro _ _;trivial
  |cons env r n =>
   intro f i;obtain⟨h,⟨L,o,d,j,k,g⟩,m⟩:=i;have a:L∈X.bx:=f L (by unfold eg;rw[Um,d];exact S7);obtain⟨p,e⟩:=I.base.slot L o k (I.ok.kH L a) a λz=>I.ok.kB L z a
   exact⟨h,⟨L,_,d,j,e,g⟩,n (λb c=>f b (by unfold eg;rw[Um,d];exact S4 _ c)) m⟩
 exact all X.outer (λ_ c=>c) I.ok.gu
theorem Inv.stack(I:Inv X pins σ H s):s.heap.FunFrames X.base X.stack:=by
 rcases I.ok.j3 with e|⟨e,a⟩
 .rw[e];exact I.gu
 .rw[e];obtain⟨m,b,_⟩:=I.loc;refine .cons (by rw[I.ok.kind];decide) a b ?_ I.gu;exact Heap.get?_none_of_le (O3 I.ok.jx I.ok.above)
def Inv.j4(I:Inv X pins σ H s):∀b∈eg X.stack,b∈X.env.locals::X.bx:=λb a=>by
 rcases I.ok.j3 with e|⟨e,c⟩
 .rw[e]at a;exact S4 _ a
 .rw[e]at a;unfold eg at a;rw[Um,c]at a;exact a
def Inv.tI(I:Inv X pins σ H s):∀b∈eg X.stack,H b=none:=λb a=>by
 rcases Oq.mp (I.j4 b a) with e|a
 .rw[e];exact I.free
 .obtain⟨_,o,c,_⟩:=I.ok.gu.mem a;exact I.base.free b o c (I.ok.kH b a) λz=>I.ok.kB b z a
def Inv.step{ch:List Td}(I:Inv X pins σ H s)(j:∀b∈ch,(b∈X.ex\/X.dG.heap.objs.size<=b)/\b≠X.env.locals/\(∀x c,X.env.cells.lookup x=Z c->c≠b)/\∀p∈X.b7++pins,p.1≠b)(C:∀b o,b≠X.env.locals->b∉X.bx->b∉ch->s.heap.get? b=Z o->H b=Y->h'.get? b=Z o)(Q:∀b o,b≠X.env.locals->b∈X.bx->b∉ch->s.heap.get? b=Z o->H b=Y->∃D,h'.get? b=Z { o with slots:=D })(free:∀b o,b∉ch->s.heap.get? b=Z o->H b=Y->aD b=Y)(ax:∀b o,b∉ch->s.heap.get? b=Z o->∃w,h'.get? b=Z w)(ay:∀b xs,H b=Z (.tup xs)->aD b=Z (.tup xs))(S:∀b o u,H b=Z (.cy o u)->aD b=Z (.cy o u))(ao:∀b A,H b=Z (.jg A)->∃aj,aD b=Z (.jg (A++aj)))(ns:∀m,s.heap.Ns X.env.locals m->h'.Ns X.env.locals m)(aK:cD X.prog X.w aD h')(T:Va g'):
  Inv X pins σ aD { s with heap:=h',gens:=g',drawn:=d',toks:=t' }:=by
 have N:∀b o,X.dG.heap.get? b=Z o->b≠X.env.locals:=λb o e=>OI (OD (Ou e) I.ok.above)
 have y:∀b o,X.dG.heap.get? b=Z o->b∉X.ex->b∉ch:=λb o e a f=>by
  rcases(j b f).1 with z|z
  .exact a z
  .exact absurd (OD (Ou e) z) (Pq _)
 have E:∀x c,X.env.cells.lookup x=Z c->∀v,s.heap.IsCell c v->h'.IsCell c v:=λx c e v aA=>by
  obtain⟨o,g,B⟩:=aA;have t:c∉ch:=λz=>(j c z).2.2.1 x c e rfl
  by_cases G:c∈X.bx
  .obtain⟨D,q⟩:=Q c o (I.oc x c e) G t g (I.ez x c e);exact⟨_,q,B⟩
  .exact⟨o,C c o (I.oc x c e) G t g (I.ez x c e),B⟩
 refine⟨I.ok,I.os,T,⟨λb o e n f a=>?_,λb o e n f a=>?_,λb o e n a=>?_,λb o e a=>?_,λb xs e=>ay b xs (I.base.g5 b xs e),λb o xs e=>S b o xs (I.base.gs b o xs e),λb A e=>?_⟩,?_,λx c e=>?_,?_,λx c e=>?_,λp L=>?_,aK,I.len⟩
 .exact C b o (N b o e) f (y b o e a) (I.base.keep b o e n f a) (I.base.free b o e n a)
 .obtain⟨D,e1⟩:=I.base.slot b o e n f a;obtain⟨ar,h⟩:=Q b _ (N b o e) f (y b o e a) e1 (I.base.free b o e n a);exact⟨ar,h⟩
 .obtain⟨w,e1⟩:=I.base.there b o e a;exact free b w (y b o e a) e1 (I.base.free b o e n a)
 .obtain⟨w,e1⟩:=I.base.there b o e a;exact ax b w (y b o e a) e1
 .obtain⟨a1,e1⟩:=I.base.g4 b A e;obtain⟨a2,h⟩:=ao b _ e1;exact⟨a1++a2,by rw[h,Array.append_assoc]⟩
 .obtain⟨m,a0,U⟩:=I.loc;refine⟨m,ns m a0,λi x v e1 h R=>?_⟩;obtain⟨u,r,l⟩:=U i x v e1 h R;refine⟨u,r,?_⟩;rcases l with l|⟨k,c,e,z⟩
  .exact .inl l
  .exact .inr ⟨k,c,e,E x c e _ z⟩
 .obtain⟨v,z⟩:=I.cell x c e;exact⟨v,E x c e v z⟩
 .obtain⟨m,⟨o,_,_,g,_⟩,_⟩:=I.loc;exact free _ o (λz=>(j _ z).2.1 rfl) g I.free
 .obtain⟨v,o,g,B⟩:=I.cell x c e;exact free c o (λz=>(j c z).2.2.1 x c e rfl) g (I.ez x c e)
 .obtain⟨e,n,M,O,d⟩:=I.pin p L;have t:p.1∉ch:=λz=>(j p.1 z).2.2.2 p L rfl
  exact⟨C p.1 p.2 M O t e n,free p.1 p.2 t e n,M,O,d⟩
def Inv.un(I:Inv X pins σ H s)(u:dt X.bx [] H aD s.heap h')(aK:cD X.prog X.w aD h'):Inv X pins σ aD { s with heap:=h',toks:=t' }:=by
 obtain⟨m,⟨o,l,k,c,r⟩,_⟩:=id I.loc;obtain⟨t,h⟩:=u.any c I.free (by simp);exact I.step (g':=s.gens) (d':=s.drawn) (ch:=[]) (λ_ z=>nomatch z) (λb o _ a _ e n=>u.keep b o e n a (by simp)) (λb o _ a _ e n=>u.slot b o e n a (by simp)) (λb o _ e n=>u.free b o e n (by simp)) (λb o _ e=>u.there b o e (by simp)) u.g5 u.gs u.g4 (λp i=>by
  obtain⟨q,g,f,d,j⟩:=i;rw[c]at d;cases d;exact⟨_,g,f,h,j⟩) aK I.bare
def Inv.call(I:Inv X pins σ H s)(u:dt (eg X.stack) ch H aD s.heap h')(aK:cD X.prog X.w aD h')(l:Va g')(f:∀b∈ch,(b∈X.ex\/X.dG.heap.objs.size<=b)/\b≠X.env.locals/\(∀x c,X.env.cells.lookup x=Z c->c≠b)/\∀p∈X.b7++pins,p.1≠b):
  Inv X pins σ aD { s with heap:=h',gens:=g',drawn:=d',toks:=t' }:=by
 obtain⟨m,⟨o,w,v,g,r⟩,_⟩:=id I.loc;obtain⟨B,d⟩:=u.any g I.free λz=>(f _ z).2.1 rfl
 exact I.step (ch:=ch) f (λb o d k a e n=>u.keep b o e n (λz=>(Oq.mp (I.j4 b z)).elim d k) a) (λb o _ _ a e n=>u.any e n a) (λb o a e n=>u.free b o e n a) (λb o a e=>u.there b o e a) u.g5 u.gs u.g4 (λy q=>by
  obtain⟨A,j,i,h,t⟩:=q;rw[g]at h;cases h;exact⟨_,j,i,d,t⟩) aK l
def Inv.turned(I:Inv X pins σ H s)(k:∀b o,b≠it->s.heap.get? b=Z o->h'.get? b=Z o)(y:H it=Y)(d:it≠X.env.locals)(i:it∈X.ex\/X.dG.heap.objs.size<=it)(j:∀x c,X.env.cells.lookup x=Z c->c≠it)(l:∀p∈X.b7++pins,p.1≠it):Inv X pins σ H { s with heap:=h',toks:=t' }:=by
 have f:∀b u,H b=Z u->b≠it:=λb u e z=>by rw[z,y]at e;cases e
 refine I.step (g':=s.gens) (d':=s.drawn) (ch:=[it]) (λb t=>?_) (λb o _ _ a e _=>k b o (λz=>a (by simp[z])) e) (λb o _ _ a e _=>⟨o.slots,k b o (λz=>a (by simp[z])) e⟩) (λ_ _ _ _ n=>n)
  (λb o a e=>⟨o,k b o (λz=>a (by simp[z])) e⟩) (λ_ _ e=>e) (λ_ _ _ e=>e) (λb B e=>⟨#[],by rw[e];simp⟩) (λm w=>?_) (λb u e=>?_) I.bare
 .have e:b=it:=(by simpa using t);subst e;exact⟨i,d,j,l⟩
 .obtain⟨o,h,g,A,r⟩:=w;exact⟨o,h,g,k _ o (Pd d) A,r⟩
 .refine(I.aK b u e).g0 (λc v a q=>k c v ?_ q) (λ_ q=>q) λ_ _ q=>q
  rcases a with z|z
  .rw[z];exact f b u e
  .exact f c _ z
def Inv.tok(I:Inv X pins σ H s)(t):Inv X pins σ H { s with toks:=t }:=I.un (h':=s.heap) (t':=t) dt.refl I.aK
theorem Inv.kept(I:Inv X pins σ H s)(k:∀b u,s.heap.get? b=Z u->h'.get? b=Z u):Inv X pins σ H { s with heap:=h',toks:=t' }:=I.un (dt.kept k) (I.aK.kept k)
theorem Inv.laid{a:Td}(I:Inv X pins σ H s)(k:∀b u,s.heap.get? b=Z u->h'.get? b=Z u)(c:s.heap.objs.size<=a)(d:bZ X.prog X.w (upd H a o) h' a o):
  Inv X pins σ (upd H a o) { s with heap:=h',toks:=t' }:=I.un (dt.laid k c (I.aK.fresh c)) (I.aK.laid k c d)
theorem Inv.write(I:Inv X pins σ H s)(d:l2 (H x))(a:e=x\/H e=Z (.own x))(k:∀b u,b≠e->s.heap.get? b=Z u->h'.get? b=Z u)(c:∃u,h'.get? e=Z u)(f:bZ X.prog X.w (upd H x o) h' x o):Inv X pins σ (upd H x o) { s with heap:=h',toks:=t' }:=I.un (dt.write d a k c) (I.aK.write d a k c f)
def Inv.m8(I:Inv X pins σ H s)(h:∀p∈b,s.heap.get? p.1=Z p.2/\H p.1=Y/\p.1≠X.env.locals/\p.1∉X.bx/\∀v,p.2.data≠.cell v):Inv X b σ H s :=
 ⟨I.ok,I.os,I.bare,I.base,I.loc,I.cell,I.free,I.ez,λp a=>(Ox.mp a).elim (λz=>I.pin p (Tg _ z)) (h p),I.aK,I.len⟩
def yc{N:List Tj}(d:N.Nodup){i j:Nat}(a:N[i]?=Z x)(b:N[j]?=Z x):i=j:=by
 obtain⟨e,e1⟩:=OK.mp a;obtain⟨f,c⟩:=OK.mp b;exact(List.getElem_inj d).mp (e1.trans c.symm)
def Lu(I:Inv X pins σ H s)(ax:X.N.Nodup)(D:X.N[i]?=Z x)(l:Loc X.env.scope x)(r:RelV v u)(h:∀s',Inv X pins (σ.set i (Z v)) H s'->(∃a,TA a s.heap s'.heap/\(a=X.env.locals\/X.env.cells.lookup x=Z a))->Q () s')(a6:X.fn x=J\/X.env.scope.names.lookup x=Z .local):Ta M A (storeName X.env x u) Q E s:=by
 obtain⟨m,T,b1⟩:=id I.loc;have a5:(X.env.scope.kind==.class||(X.env.scope.kind==.module&&X.env.locals != X.env.globals))=false:=by rw[I.ok.kind];rfl
 have aC:i<σ.length:=by rw[I.len];exact(OK.mp D).1
 have O:=I.oc;have bb:∀{a:Td}{h':TH},(∃o,s.heap.get? a=Z o/\H a=Y)->TA a s.heap h'->cD X.prog X.w H h':=λ{a h'} a7 f b cx e=>by
  obtain⟨_,_,aB⟩:=a7;refine(I.aK b cx e).g0 (λc N g q=>(f.2 c ?_).trans q) (λ_ q=>q) λ_ _ q=>q
  rintro rfl;rcases g with rfl|g
  .rw[aB]at e;cases e
  .rw[aB]at g;cases g
 rcases l with w|w
 .refine wpAny_storeName_local w T (λh' a8 f=>?_) a5;obtain⟨cw,_,_,bl,_⟩:=id T;refine h _ ⟨I.ok,I.os,I.bare,⟨λb o e n B l=>?_,λb o e n B l=>?_,I.base.free,λb o e l=>?_,I.base.g5,I.base.gs,I.base.g4⟩,⟨_,a8,λj y ao e1 t R=>?_⟩,λy c e=>?_,I.free,I.ez,λp U=>?_,bb ⟨cw,bl,I.free⟩ f,by simpa using I.len⟩ ⟨_,f,.inl rfl⟩
  .exact(f.2 b (OI (OD (Ou e) I.ok.above))).trans (I.base.keep b o e n B l)
  .obtain⟨aj,e1⟩:=I.base.slot b o e n B l;exact⟨aj,(f.2 b (OI (OD (Ou e) I.ok.above))).trans e1⟩
  .obtain⟨a1,e1⟩:=I.base.there b o e l;exact⟨a1,(f.2 b (OI (OD (Ou e) I.ok.above))).trans e1⟩
  .by_cases C:j=i
   .subst C;rw[D]at e1;cases e1;rw[VH aC]at t;cases t;exact⟨u,r,.inl ⟨w,by simp⟩⟩
   .rw[Qh (Pd C)]at t;obtain⟨ar,a2,q⟩:=b1 j y ao e1 t R;refine⟨ar,a2,?_⟩;rcases q with⟨k,e⟩|⟨k,c,e,z⟩
    .refine .inl ⟨k,?_⟩;have:y≠x:=λe=>C (yc ax e1 (e▸D))
     simp[this,e]
    .exact .inr ⟨k,c,e,z.sameBut f (O y c e)⟩
  .obtain⟨N,z⟩:=I.cell y c e;exact⟨N,z.sameBut f (O y c e)⟩
  .obtain⟨e,n,L,a0,d⟩:=I.pin p U;exact⟨(f.2 p.1 L).trans e,n,L,a0,d⟩
 .have S:X.fn x=true:=by
   rcases a6 with z|z
   .exact z
   .rw[z]at w;cases w
  obtain⟨c,g⟩:=I.ok.has x (.inl w);obtain⟨N,z⟩:=I.cell x c g;refine wpAny_storeName_cell I.ok.kind w g z (λh' ay f=>?_);obtain⟨aX,b2,bw⟩:=id z;refine h { s with heap:=h' } ⟨I.ok,I.os,I.bare,⟨λb o e n B l=>?_,λb o e n B l=>?_,I.base.free,λb o e l=>?_,I.base.g5,I.base.gs,I.base.g4⟩,⟨m,T.sameBut f (Pd (O x c g)),λj y ao e1 t R=>?_⟩,λy G e=>?_,I.free,I.ez,λp U=>?_,bb ⟨aX,b2,I.ez x c g⟩ f,by simpa using I.len⟩ ⟨c,f,.inr g⟩
  .exact(f.2 b (OI (OD (Ou e) (I.ok.mh x c S g)))).trans (I.base.keep b o e n B l)
  .obtain⟨aj,e1⟩:=I.base.slot b o e n B l;exact⟨aj,(f.2 b (OI (OD (Ou e) (I.ok.mh x c S g)))).trans e1⟩
  .obtain⟨a1,e1⟩:=I.base.there b o e l;exact⟨a1,(f.2 b (OI (OD (Ou e) (I.ok.mh x c S g)))).trans e1⟩
  .by_cases C:j=i
   .subst C;rw[D]at e1;cases e1;rw[VH aC]at t;cases t;exact⟨u,r,.inr ⟨.inl w,c,g,ay⟩⟩
   .rw[Qh (Pd C)]at t;obtain⟨ar,a2,q⟩:=b1 j y ao e1 t R;refine⟨ar,a2,?_⟩;rcases q with q|⟨k,G,e,cf⟩
    .exact .inl q
    .refine .inr ⟨k,G,e,cf.sameBut f ?_⟩;rintro rfl;exact C (yc ax e1 (I.ok.inj _ _ _ e g▸D))
  .by_cases aA:G=c
   .subst aA;exact⟨_,ay⟩
   .obtain⟨cc,cq⟩:=I.cell y G e;exact⟨cc,cq.sameBut f aA⟩
  .obtain⟨e,n,L,a0,d⟩:=I.pin p U;refine⟨(f.2 p.1 ?_).trans e,n,L,a0,d⟩;intro q;rw[q,b2]at e;have b9:aX=p.2:=O1 e;exact d N (by rw[<- b9];exact bw)
def pR{M:Xe}{A:TO}{E:S8->S9->Prop}{i:Nat}{x:Tj}{v:V}{u:S8}{Q:Unit->S9->Prop}(I:Inv X pins σ H s)(b:X.N.Nodup)(d:X.N[i]?=Z x)(e:Loc X.env.scope x)(r:RelV v u)(h:∀s',Inv X pins (σ.set i (Z v)) H s'->Q () s')(c:X.fn x=J\/X.env.scope.names.lookup x=Z .local:=by first|exact .inl rfl|exact .inr rfl|assumption):Ta M A (storeName X.env x u) Q E s :=
 Lu I b d e r (λs' a _=>h s' a) c
def Inv.u0(I:Inv X pins σ H s)(f:s'.os=s.os)(u:dt (eg X.stack) ch H aD s.heap s'.heap)(aK:cD X.prog X.w aD s'.heap)(d:Va s'.gens)(a:∀b∈ch,(b∈X.ex\/X.dG.heap.objs.size<=b)/\b≠X.env.locals/\(∀x c,X.env.cells.lookup x=Z c->c≠b)/\∀p∈X.b7++pins,p.1≠b):Inv X pins σ aD s':=by
 obtain⟨h',g',d',t',g⟩:=s';have e:g=s.os:=f;subst e;exact I.call (g':=g') (t':=t') (d':=d') u aK d a
end
noncomputable abbrev gJ:=S8->Option Td->ag->Prop
noncomputable abbrev St:=List (Option V)
noncomputable abbrev ck:=V->ag->Prop
noncomputable abbrev TE:=St->ag->ck->Prop
noncomputable abbrev TT:=St->ag->(Bool->ag->Prop)->Prop
noncomputable abbrev eK:=St->ag->(List V->ag->Prop)->Prop
structure Ends where
 aU:St->ag->Prop
 bK:ck
 fj:St->ag->Prop:=λ_ _=>False
 ct:St->ag->Prop:=λ_ _=>False
noncomputable abbrev eu:=Ends->St->ag->Prop
def c3(X:au)(b:List (Td×Uq))(c:St)(Q:ck)(u:S8)(s':S9):Prop:=∃v a,Inv X b c a s'/\RelV v u/\Q v a
def uA(X:au)(c:List (Td×Uq))(d:St)(Q:Bool->ag->Prop)(b:Bool)(s':S9):Prop:=∃a,Inv X c d a s'/\Q b a
def AY(X:au)(c:List (Td×Uq))(e:St)(Q:List V->ag->Prop)(d:List S8)(s':S9):Prop:=∃b a,Inv X c e a s'/\Vals b d/\Q b a
def kg(X:au)(c:List (Td×Uq))(D:Ends)(f:Flow)(s':S9):Prop :=
 match f with
 |.next=>∃b a,Inv X c b a s'/\D.aU b a
 |.brk=>∃b a,Inv X c b a s'/\D.fj b a
 |.cont=>∃b a,Inv X c b a s'/\D.ct b a
 |.ret u=>∃v b a,Inv X c b a s'/\RelV v u/\D.bK v a
def ai(X:au)(e:Tq)(t:TE):Prop :=
 ∀(b:List (Td×Uq))(s:S9)(a:St)(H:ag)(Q:ck),Inv X b a H s->t a H Q->Ta (Tc X.prog X.w) X.A (T4 e X.env) (c3 X b a Q) X.bk s
def dY(X:au)(e:Tq)(t:TT):Prop :=
 ∀(b:List (Td×Uq))(s:S9)(a:St)(H:ag)(Q:Bool->ag->Prop),Inv X b a H s->t a H Q->Ta (Tc X.prog X.w) X.A (WB e X.env (T4 e X.env)) (uA X b a Q) X.bk s
def fN(X:au)(e:Tq)(t:TT):Prop :=
 ∀(c:Sem S8)(b:List (Td×Uq))(s:S9)(a:St)(H:ag)(Q:Bool->ag->Prop),Inv X b a H s->t a H Q->Ta (Tc X.prog X.w) X.A (WB e X.env c) (uA X b a Q) X.bk s
def fN.pt(h:fN X e t):dY X e t:=h _
def dX(X:au)(c:List Tq)(t:eK):Prop :=
 ∀(pos:UN)(b:List (Td×Uq))(s:S9)(a:St)(H:ag)(Q:List V->ag->Prop),Inv X b a H s->t a H Q->Ta (Tc X.prog X.w) X.A (WK (UJ pos (Tu c X.env))) (AY X b a Q) X.bk s
def bV(X:au)(st:T3)(t:eu):Prop :=
 ∀(a:List (Td×Uq))(s:S9)(b:St)(H:ag)(D:Ends),Inv X a b H s->t D b H->Ta (Tc X.prog X.w) X.A (exec st X.env) (kg X a D) X.bk s
def c8(X:au)(st:List T3)(t:eu):Prop :=
 ∀(a:List (Td×Uq))(s:S9)(b:St)(H:ag)(D:Ends),Inv X a b H s->t D b H->Ta (Tc X.prog X.w) X.A (execs st X.env) (kg X a D) X.bk s
def aV{α:Type}{t:Sem α}{Q b:α->S9->Prop}(h:Ta M A t Q E s)(c:∀a s,Q a s->b a s):Ta M A t b E s:=Pj h c λ_ _ x=>x
end aJ
namespace aJ
open PySem PySem.Spec PyProof.Rows
section
variable{X:au}
def bin(l:ai X a A)(m:ai X b B){d:St}{R:V->V->ag->Prop}(I:Inv X g d H s)(h:A d H λx e=>B d e λy c=>R x y c){α:Type}{Q:α->S9->Prop}{f:S8->S8->Sem α}(n:∀v u s2 x y c,Inv X g d c s2->RelV x v->RelV y u->R x y c->Ta (Tc X.prog X.w) X.A (f v u) Q X.bk s2):
  Ta (Tc X.prog X.w) X.A (T4 a X.env) (λv w=>Ta (Tc X.prog X.w) X.A (T4 b X.env) (λu z=>Ta (Tc X.prog X.w) X.A (f v u) Q X.bk z) X.bk w) X.bk s:=by
 refine aV (l g s d H _ I h) λv t i=>?_
 obtain⟨x,e,j,q,o⟩:=i;refine aV (m g t d e _ j o) λu s2 i=>?_
 obtain⟨y,c,k,r,p⟩:=i;exact n v u s2 x y c k q r p
noncomputable def j5(i:Nat):TE:=λa H Q=>∃v,a[i]?=Z (Z v)/\Q v H
noncomputable def jf(v:V):TE:=λ_ H Q=>Q v H
def d1{i:Nat}{x:Tj}{pos:UN}(g:X.N[i]?=Z x)(p:dB X.env.scope x)(b:(x==("__debug__":Tj))=false:=by decide)(j:(x==("__classdict__":Tj))=false:=by decide):ai X (.Name x pos) (j5 i):=by
 intro q s t H Q I h;obtain⟨v,e,h⟩:=h;obtain⟨m,o,k⟩:=I.loc;obtain⟨u,r,l⟩:=k i x v g e p;have fin:c3 X q t Q u s:=⟨v,H,I,r,h⟩;rcases l with⟨a,n⟩|⟨a,c,d,f⟩
 .exact wpAny_Name (wpAny_loadName_local I.ok.kind a o n fin) b
 .rcases a with a|a
  .exact wpAny_Name (wpAny_loadName_cell I.ok.kind a d f fin) b
  .exact wpAny_Name (wpAny_loadName_free I.ok.kind a d f fin j) b
def sZ{i j pos}:ai X (.Constant (.int i) j pos) (jf (.int i)):=λ_ _ _ H _ I h=>wpAny_Constant_int ⟨.int i,H,I.tok _,⟨_,rfl⟩,h⟩
def yu{b j pos}:ai X (.Constant (.bool b) j pos) (jf (.ah b)):=λ_ _ _ H _ I h=>Constant_bool ⟨.ah b,H,I,rfl,h⟩
def IA{j pos}:ai X (.Constant .none j pos) (jf .bG):=λ_ _ _ H _ I h=>Constant_none ⟨.bG,H,I,rfl,h⟩
def s8{x j pos}:ai X (.Constant (.str x) j pos) (jf (.str x)):=λ_ _ _ H _ I h=>Calls.Constant_str ⟨.str x,H,I.tok _,⟨_,rfl⟩,h⟩
def cQ(X:au)(x:Tj):Prop:=X.env.kindOf x=Z .globalImplicit
def oY{E:S8->S9->Prop}{d:List (Td×Uq)}{s:S9}{e:St}{H:ag}{x:Tj}{u:S8}{pos:UN}{Q:S8->S9->Prop}(I:Inv X d e H s)(b:cQ X x)(c:X.aG x=Z u)(h:Q u s)(a:(x==("__debug__":Tj))=false:=by decide):Ta (Tc X.prog X.w) X.A (T4 (.Name x pos) X.env) Q E s :=
 RQ I.ok.kind b (Calls.loadGlobal_global (by rw[I.ok.glob];exact I.mod.glob.keeps I.fj) c h) a
def f3{E:S8->S9->Prop}{i:List (Td×Uq)}{s:S9}{j:St}{H:ag}{x:Tj}{u:S8}{pos:UN}{Q:S8->S9->Prop}(I:Inv X i j H s)(d:cQ X x)(e:X.aG x=Y)(g:T2 x=Z u)(h:Q u s)(f:x≠"__name__":=by decide)(c:(x==("__debug__":Tj))=false:=by decide):Ta (Tc X.prog X.w) X.A (T4 (.Name x pos) X.env) Q E s:=by
 obtain⟨k,a,b⟩:=I.mod.blt;exact RQ I.ok.kind d (Calls.loadGlobal_builtin (by rw[I.ok.glob];exact I.mod.glob.keeps I.fj) e (by rw[I.ok.blt];exact a.keeps I.fj) ((b x f).trans g) h) c
def Iw{x:Tj}{v:V}{u:S8}{pos:UN}(b:cQ X x)(c:X.aG x=Z u)(r:RelV v u)(a:(x==("__debug__":Tj))=false:=by decide):ai X (.Name x pos) (jf v) :=
 λ_ _ _ H _ I h=>oY I b c ⟨v,H,I,r,h⟩ a
def yv{x:Tj}{v:V}{u:S8}{pos:UN}(b:cQ X x)(c:X.aG x=Y)(e:T2 x=Z u)(r:RelV v u)(d:x≠"__name__":=by decide)(a:(x==("__debug__":Tj))=false:=by decide):ai X (.Name x pos) (jf v) :=
 λ_ _ _ H _ I h=>f3 I b c e ⟨v,H,I,r,h⟩ d a
variable{a b:Tq}{cH cI:TE}{pos:UN}
def nW(X:au)(op:CmpOp)(a b:Tq)(t:TE):Prop :=
 ∀(d:List (Td×Uq))(s:S9)(c:St)(H:ag)(Q:ck),Inv X d c H s->t c H Q ->
  Ta (Tc X.prog X.w) X.A (T4 a X.env) (λv e=>Ta (Tc X.prog X.w) X.A (T4 b X.env) (λu f=>Ta (Tc X.prog X.w) X.A (TP op v u) (c3 X d c Q) X.bk f) X.bk e) X.bk s
noncomputable def LC(t:TE):TT:=λe H Q=>t e H λx d=>∃c,x=.ah c/\Q c d
def Jc{e:Tq}{t:TE}(h:ai X e t)(i:∀c,WB e X.env c=(do let v <- c;standAt e.pos;VI [v] (truthy v)):=by intro _;rfl):dY X e (LC t):=by
 intro j s n H Q I hw;refine isTrue_plain (aV (h j s n H _ I hw) λv o m=>?_) (i _);obtain⟨x,f,g,l,k⟩:=m;obtain⟨d,rfl,q⟩:=k;cases l;exact QL ⟨f,g,q⟩
variable{hB pV:TT}{rest:List Tq}
noncomputable def LA(t u:TT):TT:=λe H Q=>t e H λc d=>if c=J then u e d Q else Q S6 d
noncomputable def LV(t u:TT):TT:=λe H Q=>t e H λc d=>if c=J then Q J d else u e d Q
noncomputable def LS(t:TT):TT:=λe H Q=>t e H λc d=>Q (!c) d
def Je(d:dY X a hB):fN X (.BoolOp .And [a] pos) hB:=by
 intro j f s g H Q I h;refine isTrue_and (aV (d f s g H Q I h) λc i e=>?_);cases c with
 |true=>exact isTrue_and_nil e
 |false=>exact e
def Jg(d:dY X a hB):fN X (.BoolOp .Or [a] pos) hB:=by
 intro j f s g H Q I h;refine isTrue_or (aV (d f s g H Q I h) λc i e=>?_);cases c with
 |false=>exact isTrue_or_nil e
 |true=>exact e
def Jd(j:dY X a hB)(k:fN X (.BoolOp .And (b::rest) pos) pV):fN X (.BoolOp .And (a::b::rest) pos) (LA hB pV):=by
 intro m f s i H Q I h;refine isTrue_and (aV (j f s i H _ I h) λc l n=>?_);obtain⟨d,e,g⟩:=n;cases c with
 |true=>exact k m f l i d Q e g
 |false=>exact⟨d,e,g⟩
def Jf(j:dY X a hB)(k:fN X (.BoolOp .Or (b::rest) pos) pV):fN X (.BoolOp .Or (a::b::rest) pos) (LV hB pV):=by
 intro m f s i H Q I h;refine isTrue_or (aV (j f s i H _ I h) λc l n=>?_);obtain⟨d,e,g⟩:=n;cases c with
 |true=>exact⟨d,e,g⟩
 |false=>exact k m f l i d Q e g
def Jb(e:dY X a hB):dY X (.UnaryOp .Not a pos) (LS hB):=by
 intro f s g H Q I h;exact isTrue_not (e f s g H (λc d=>Q (!c) d) I h)
noncomputable def LB(cH cI:TE):TE:=λe H Q=>cH e H λx d=>∃c,x=.ah c/\if c=J then cI e d Q else Q (.ah S6) d
noncomputable def LW(cH cI:TE):TE:=λe H Q=>cH e H λx d=>∃c,x=.ah c/\if c=J then Q (.ah J) d else cI e d Q
noncomputable def LU(cH:TE):TE:=λe H Q=>cH e H λx d=>∃c,x=.ah c/\Q (.ah (!c)) d
def s6{op}(h:ai X a t):ai X (.BoolOp op [a] pos) t:=λc s d H Q I hw=>BoolOp_one (h c s d H Q I hw)
def yt(j:ai X a cH)(k:ai X (.BoolOp .And (b::rest) pos) cI):ai X (.BoolOp .And (a::b::rest) pos) (LB cH cI):=by
 intro g s i H Q I h;refine BoolOp_and (aV (j g s i H _ I h) λv m n=>?_);obtain⟨x,e,f,l,d⟩:=n;obtain⟨c,rfl,d⟩:=d;cases l;refine QL ?_;cases c with
 |true=>exact k g m i e Q f d
 |false=>exact⟨.ah S6,e,f,rfl,d⟩
def IC(j:ai X a cH)(k:ai X (.BoolOp .Or (b::rest) pos) cI):ai X (.BoolOp .Or (a::b::rest) pos) (LW cH cI):=by
 intro g s i H Q I h;refine BoolOp_or (aV (j g s i H _ I h) λv m n=>?_);obtain⟨x,e,f,l,d⟩:=n;obtain⟨c,rfl,d⟩:=d;cases l;refine QL ?_;cases c with
 |false=>exact k g m i e Q f d
 |true=>exact⟨.ah J,e,f,rfl,d⟩
def IB(g:ai X a cH):ai X (.UnaryOp .Not a pos) (LU cH):=by
 intro i s l H Q I h;refine UnaryOp_ (aV (g i s l H _ I h) λv m k=>?_);obtain⟨x,e,f,j,d⟩:=k;obtain⟨c,rfl,d⟩:=d;cases j;exact not_of (QL ⟨.ah (!c),e,f,rfl,d⟩)
noncomputable def ny(t:TT)(cH cI:TE):TE:=λd H Q=>t d H λc e=>if c=J then cH d e Q else cI d e Q
end
end aJ
namespace aJ
open PySem PySem.Spec PyProof.Rows
def cp(K:W.Frag)(H:ag)(a:Td)(xs:List V):Prop :=
 eI H a (.lst xs) \/
  ∃(o:Uq)(its:Array S8)(n:Nat),K.lookup a=Z o/\o.cls=.type "list"/\o.dict=Y/\o.data=.seq its n/\its.size<=Tx/\Vals xs its.toList
def dN(K:W.Frag)(H:ag)(a:Td)(xs:List V):Prop :=
 eI H a (.tup xs) \/
  ∃(o:Uq)(its:Array S8)(n:Nat),K.lookup a=Z o/\o.cls=.type "tuple"/\o.data=.seq its n/\its.size<=Tx/\Vals xs its.toList
noncomputable def A4:S8->Option V
 |.none=>Z .bG
 |.bool b=>Z (.ah b)
 |.int i _=>Z (.int i)
 |.str x _=>Z (.str x)
 |.bytes b _=>Z (.rA b)
 |.float b _=>Z (.fX b)
 |.ref a=>Z (.ref a)
 |.type n=>Z (.ty n)
 |_=>Y
def RelV.abs(r:RelV x u):A4 u=Z x:=by
 cases x with
 |bG=>cases r;rfl
 |ah _=>cases r;rfl
 |int _=>obtain⟨t,rfl⟩:=r;rfl
 |str _=>obtain⟨t,rfl⟩:=r;rfl
 |rA _=>obtain⟨t,rfl⟩:=r;rfl
 |fX _=>obtain⟨t,rfl⟩:=r;rfl
 |ref _=>cases r;rfl
 |ty _=>cases r;rfl
def RelV.inj(r:RelV x u)(q:RelV y u):x=y:=O1 (r.abs.symm.trans q.abs)
theorem Vals.inj:∀{xs ys:List V}{a:List S8},Vals xs a->Vals ys a->xs=ys:=by
 intro xs ys a h
 induction h generalizing ys with
 |nil=>intro q;cases q;rfl
 |cons r t b=>intro q;cases q with
  |cons c t'=>rw[r.inj c,b t']
section
variable{X:au}{pins:List (Td×Uq)}{σ:St}{H:ag}{s:S9}{a:Td}{xs ys:List V}
def cp.of{K:W.Frag}(h:H a=Z (.lst xs)):cp K H a xs:=.inl (.inl h)
def Inv.list(I:Inv X pins σ H s)(h:cp X.K H a xs):∃its:List S8,Vals xs its/\PlainL s.heap a its.toArray/\xs.length<=sizeLine:=by
 rcases h with h|⟨o,its,n,d,b,c,f,hz,r⟩
 .obtain⟨z,its,n,r,e⟩:=h.ok I.aK;exact⟨its,r,⟨_,n,e,rfl,rfl,rfl⟩,z⟩
 .refine⟨its.toList,r,⟨o,n,I.dS a o d,b,c,by simpa using f⟩,?_⟩;have e:=r.length;simp only[Tt]at e;omega
def Inv.tuple(I:Inv X pins σ H s)(h:dN X.K H a xs):∃its:List S8,Vals xs its/\Xs s.heap a its.toArray/\xs.length<=sizeLine:=by
 rcases h with h|⟨o,its,n,c,b,d,hz,r⟩
 .obtain⟨z,its,r,p⟩:=h.ok I.aK;exact⟨its,r,p,z⟩
 .refine⟨its.toList,r,⟨o,I.dS a o c,b,n,by simpa using d⟩,?_⟩;have e:=r.length;simp only[Tt]at e;omega
def Inv.xG(I:Inv X pins σ H s)(h:cp X.K H a xs)(h':cp X.K H a ys):xs=ys:=by
 obtain⟨its,r,⟨o,n,e,_,_,d⟩,_⟩:=I.list h;obtain⟨its',f,⟨i,g,b,_,_,d'⟩,_⟩:=I.list h';rw[e]at b;cases b;rw[d]at d';injection d' with c _;have:its=its':=by simpa using Pw Array.toList c
 subst this;exact r.inj f
def Inv.MR(I:Inv X pins σ H s)(h:dN X.K H a xs)(h':dN X.K H a ys):xs=ys:=by
 obtain⟨its,r,⟨o,e,_,n,d⟩,_⟩:=I.tuple h;obtain⟨its',f,⟨i,b,_,g,d'⟩,_⟩:=I.tuple h';rw[e]at b;cases b;rw[d]at d';injection d' with c _;have:its=its':=by simpa using Pw Array.toList c
 subst this;exact r.inj f
end
section
variable{X:au}{pins:List (Td×Uq)}{σ:St}{H:ag}{s:S9}{E:S8->S9->Prop}
end
section
variable{X:au}{st:T3}{rest:List T3}{t u:eu}{e:Tq}{er:TE}{pos:UN}
noncomputable def LQ:eu:=λD a H=>D.aU a H
noncomputable def LZ(t u:eu):eu:=λD a H=>t { D with aU:=u D } a H
def yP:c8 X [] LQ:=λ_ _ a H _ I h=>RG ⟨a,H,I,h⟩
def yO(d:bV X st t)(g:c8 X rest u):c8 X (st::rest) (LZ t u):=by
 intro a s j H D I h;refine wpAny_execs_cons (aV (d a s j H { D with aU:=u D } I h) λf i q=>?_);cases f with
 |next =>
  obtain⟨k,b,c,q⟩:=q;exact g a i k b D c q
 |ret v=>exact q
 |brk=>exact q
 |cont=>exact q
def yQ(a:bV X st t):c8 X [st] t:=by
 intro b s c H D I h;refine wpAny_execs_cons (aV (a b s c H D I h) λf d q=>?_);cases f with
 |next=>exact RG q
 |ret v=>exact q
 |brk=>exact q
 |cont=>exact q
def Inv.quiet{a:St}(I:Inv X b a H s):interactive X.env=false:=by simp[interactive,I.ok.kind]
noncomputable def LK(er:TE):eu:=λD a H=>er a H λ_ b=>D.aU a b
def yL(d:ai X e er)(f:UK e Y pos.line X.env=pure false:=by rfl):bV X (.Expr e pos) (LK er):=by
 intro g s a H D I h;exact wpAny_Expr_any (aV (d g s a H _ I h) λv k ⟨x,b,c,j,i⟩=>⟨a,b,c,i⟩) I.quiet f
noncomputable def hC(er:TE):eu:=λD a H=>er a H D.bK
def px(d:ai X e er):bV X (.Return (Z e) pos) (hC er):=by
 intro f s a H D I h;exact wpAny_Return_some (aV (d f s a H _ I h) λv j ⟨x,b,c,i,g⟩=>⟨x,a,b,c,i,g⟩)
noncomputable def LO(c:TT)(t u:eu):eu:=λD a H=>c a H λb d=>if b=J then t D a d else u D a d
def yN(o:dY X c p)(m:c8 X a t)(n:c8 X b u):bV X (.If c a b pos) (LO p t u):=by
 intro f s g H D I h;refine wpAny_If (aV (o f s g H _ I h) λd l q=>?_);obtain⟨i,j,k⟩:=q;cases d with
 |true=>exact m f l g i D j k
 |false=>exact n f l g i D j k
end
noncomputable abbrev hI:=V->St->ag->(St->ag->Prop)->Prop
noncomputable abbrev iy:=List V->St->ag->(St->ag->Prop)->Prop
def ix(X:au)(e:Tq)(t:hI):Prop :=
 ∀(b:List (Td×Uq))(s:S9)(c:St)(H:ag)(v:V)(u:S8)(Q:St->ag->Prop),Inv X b c H s->RelV v u->t v c H Q ->
  Ta (Tc X.prog X.w) X.A (WY e X.env u) (λ_ s'=>∃d a,Inv X b d a s'/\Q d a) X.bk s
def l3(X:au)(ts:List Tq)(t:iy):Prop :=
 ∀(b:List (Td×Uq))(s:S9)(e:St)(H:ag)(d:List V)(c:List S8)(Q:St->ag->Prop),Inv X b e H s->Vals d c->t d e H Q ->
  Ta (Tc X.prog X.w) X.A (assignInOrder ((UC ts X.env).map (·.2)) c) (λ_ s'=>∃f a,Inv X b f a s'/\Q f a) X.bk s
section
variable{X:au}{pos:UN}
noncomputable def r4(i:Nat):hI:=λv a H Q=>Q (a.set i (Z v)) H
def yB{i:Nat}{x:Tj}(b:X.N.Nodup)(d:X.N[i]?=Z x)(e:Loc X.env.scope x)(c:X.fn x=J\/X.env.scope.names.lookup x=Z .local:=by first|exact .inl rfl|exact .inr rfl|assumption):ix X (.Name x pos) (r4 i):=by
 intro f s g H v u Q I r h;exact wpAny_assign_Name (pR I b d e r (λs' a=>⟨_,H,a,h⟩) c)
noncomputable def wJ:iy:=λa b H Q=>a=[]/\Q b H
noncomputable def wH(t:hI)(u:iy):iy:=λb c H Q=>∃v r,b=v::r/\t v c H λd a=>u r d a Q
def IM:l3 X [] wJ:=by
 intro b s a H d c Q I r h;obtain⟨e,h⟩:=h;subst e;cases r;exact assignInOrder_nil ⟨a,H,I,h⟩
def IL{e:Tq}{a:List Tq}{t:hI}{u:iy}(f:ix X e t)(g:l3 X a u)(i:(UC (e::a) X.env).map (·.2)=WY e X.env::(UC a X.env).map (·.2):=by rfl):l3 X (e::a) (wH t u):=by
 intro b s n H w p Q I r h;obtain⟨v,q,e1,h⟩:=h;subst e1;cases r with
 |cons r k =>
  rw[i];refine assignInOrder_cons (aV (f b s n H _ _ _ I r h) λ_ l m=>?_);obtain⟨o,c,d,j⟩:=m;exact g b l o c _ _ Q d k j
noncomputable def EK(K:W.Frag)(n:Nat)(t:iy):hI:=λv b H Q=>∃a xs,v=.ref a/\dN K H a xs/\xs.length=n/\t xs b H Q
def IK{c:List Tq}{k:Nat}{t:iy}{n:Nat}(j:X.calm=J)(h:l3 X c t)(m:(UC c X.env).length=n:=by rfl)(q:(UC c X.env).findIdx? (·.1)=none:=by rfl):ix X (.Tuple c k pos) (EK X.K n t):=by
 intro d s g H v u Q I r hw;obtain⟨a,xs,e1,p,l,hw⟩:=hw;subst e1;cases r;obtain⟨its,f,w,hz⟩:=I.tuple p;refine assign_Tuple_tuple (I.ok.hd j) w (by simp[m,<- l,f.length]) q λh' x=>?_
 have i:Inv X d g H { s with heap:=h' }:=I.kept (t':=s.toks) λb o e=>x b o (OI (Ou e)) e
 exact h d _ g H xs _ Q i (by simpa using f) hw
noncomputable def fI(c:TE)(g:hI):eu:=λD a H=>c a H λx b=>g x a b D.aU
def nd{i:Nat}{x:Tj}{e:Tq}{b:TE}{a:UN}(g:X.N.Nodup)(l:X.N[i]?=Z x)(n:Loc X.env.scope x)(j:ai X e b)(m:UK e (Z (.Name x a)) pos.line X.env=pure false:=by rfl)(k:X.fn x=J\/X.env.scope.names.lookup x=Z .local:=by first|exact .inl rfl|exact .inr rfl|assumption):
  bV X (.Assign [.Name x a] e pos) (fI b (r4 i)):=by
 intro o s t H D I h;refine wpAny_Assign_Name (aV (j o s t H _ I h) λv u r=>?_) m;obtain⟨y,c,d,q,p⟩:=r;exact pR d g l n q (λs2 f=>⟨_,c,f,p⟩) k
end
section
variable{X:au}{pos:UN}
end
structure gH where
 go:Nat->ag->Prop
 gF:Nat->ag->V->ag->Prop
 stop:Nat->ag->Prop
def gh(X:au)(a:List (Td×Uq))(H:ag)(b:Td):Prop :=
 H b=Y/\b≠X.env.locals/\b∉X.bx/\(b∈X.ex\/X.dG.heap.objs.size<=b)/\(∀x c,X.env.cells.lookup x=Z c->c≠b)/\∀p∈X.b7++a,p.1≠b
def Inv.kG{i:St}{b:Td}(I:Inv X h i H s)(a:s.heap.objs.size<=b)(f:d b=Y):gh X h d b:=by
 refine⟨f,RM (OD I.lt a),I.m2 a,.inr (O3 I.d5 a),λx c e z=>?_,λp g z=>?_⟩
 .obtain⟨v,q⟩:=I.cell x c e;exact absurd (OD q.lt (by rw[z];exact a)) (Pq _)
 .exact absurd (OD (Ou (I.pin p g).1) (by rw[z];exact a)) (Pq _)
structure Turn(P:TK)(w:TU)(K:W.Frag)(eC:Tq)(jr:gH)(fA:List Td)(it:Td)(ig:Nat->TH->Prop):Prop where
 mem:it∈fA
 obj:∀i h,ig i h->∀b∈fA,∃o,h.get? b=Z o/\∀v,o.data≠.cell v
 keep:∀i h h',ig i h->(∀b∈fA,∀o,h.get? b=Z o->h'.get? b=Z o)->ig i h'
 item:∀(X:au),X.prog=P->X.w=w->X.K=K->X.calm=J->∀(i:Nat)(pins:List (Td×Uq))(s:S9)(σ:St)(H:ag)(E:S8->S9->Prop),Inv X pins σ H s->(∀b∈fA,gh X pins H b)->ig i s.heap->jr.go i H ->
  Ta (Tc P w) X.A (U4 (.ref it)) (λr s1=>∃u,r=Z u /\
   Ta (Tc P w) X.A (U5 eC (.ref it) u) (λ_ s2=>∃x aD,Inv X pins σ aD s2/\RelV x u/\jr.gF i H x aD/\ig (i+1) s2.heap/\∀b∈fA,aD b=Y) E s1) E s
 done:∀(X:au),X.prog=P->X.w=w->X.K=K->X.calm=J->∀(i:Nat)(pins:List (Td×Uq))(s:S9)(σ:St)(H:ag)(E:S8->S9->Prop),Inv X pins σ H s->(∀b∈fA,gh X pins H b)->ig i s.heap->jr.stop i H ->
  Ta (Tc P w) X.A (U4 (.ref it)) (λr s1=>r=Y/\Inv X pins σ H s1) E s
 self:∀(A:TO)(i:Nat)(s:S9)(Q:S8->S9->Prop)(E:S8->S9->Prop),ig i s.heap->Q (.ref it) s->Ta (Tc P w) A (V7 (.ref it)) Q E s
noncomputable abbrev TI:=St->ag->(gH->ag->Prop)->Prop
def qC(X:au)(f:List (Td×Uq))(j:St)(i:Tq)(R:gH->ag->Prop)(h:S8)(s2:S9):Prop :=
 ∃(e:Td)(d:List Td)(g:Nat->TH->Prop)(c:gH)(a:ag),h=.ref e/\Inv X f j a s2/\Turn X.prog X.w X.K i c d e g/\g 0 s2.heap/\(∀b∈d,gh X f a b)/\R c a
def fb(X:au)(e c:Tq)(f:TI):Prop :=
 ∀(b:List (Td×Uq))(s:S9)(a:St)(H:ag)(R:gH->ag->Prop),Inv X b a H s->f a H R ->
  Ta (Tc X.prog X.w) X.A (T4 c X.env) (λv d=>Ta (Tc X.prog X.w) X.A (V7 v) (qC X b a e R) X.bk d) X.bk s
def oB (e : s.heap.get? f = Z o) (b : o.cls = .type n) (c : o.data = .fields i)
    (d : ["enumerate", "zip", "dict_itemiterator", "dict_reverseitemiterator", "odict_iterator", "itertools.zip_longest", "itertools.pairwise"].contains n = S6) (a : Q () s) : Ta M A (U5 g (.ref f) u) Q E s := by
  unfold U5
  cases g <;> first
    | exact Oj a
    | (cases u <;> first
        | exact Oj a
        | (refine Oh (SX e ?_)
           rw [b, c]
           show Ta M A (if (["enumerate", "zip", "dict_itemiterator", "dict_reverseitemiterator", "odict_iterator", "itertools.zip_longest", "itertools.pairwise"].contains n && i[0]? == Z (UO _)) = J then _ else _) Q E s
           rw [if_neg (by intro h; rw [d, QQ] at h; cases h)]
           exact Oj a))
noncomputable def qv(K:W.Frag)(a:Td):gH :=
 ⟨λi H=>∃xs x,cp K H a xs/\xs[i]?=Z x,λi H x b=>b=H/\∀xs,cp K H a xs->xs[i]?=Z x,λi H=>∃xs,cp K H a xs/\xs.length<=i⟩
noncomputable def qw(K:W.Frag)(a:Td):gH :=
 ⟨λi H=>∃xs x,dN K H a xs/\xs[i]?=Z x,λi H x b=>b=H/\∀xs,dN K H a xs->xs[i]?=Z x,λi H=>∃xs,dN K H a xs/\xs.length<=i⟩
noncomputable def lX(lo:Int)(n:Nat):gH:=⟨λi _=>i<n,λi H x a=>a=H/\x=.int (lo+i),λi _=>n<=i⟩
def MX{K:W.Frag}(a it):Turn P w K a1 (qv K a) [it] it (λi h=>h.IsListIter it a i) where
 mem:=by simp
 obj:=λi h st b f=>by
  have e:b=it:=(by simpa using f);subst e;obtain⟨o,e,c,d⟩:=st;exact⟨o,e,λv z=>by rw[d]at z;cases z⟩
 keep:=λi h h' st k=>st.at λo e=>k it (by simp) o e
 item:=by
  intro X y hw t D i G s M H E I g st A;subst y hw t;obtain⟨xs,x,j,B⟩:=A;obtain⟨its,C,p,hz⟩:=I.list j;obtain⟨u,R,T⟩:=C.get B;obtain⟨l,m,Q,n,q,r⟩:=g it (by simp);refine wpAny_pyNext_list_item st p.isList (x:=u) (by simpa using R) λh' L U=>?_
  have N:Inv X G M H { s with heap:=h' }:=I.turned (t':=s.toks) (λb o f e=>(U.2 b f).trans e) l m n q r;obtain⟨o,e,c,d⟩:=id L;exact⟨u,rfl,oB (s:={ s with heap:=h' }) e c d (by decide) ⟨x,H,N,T,⟨rfl,λys S=>by rw[I.xG S j];exact B⟩,L,λb f=>(g b f).1⟩⟩
 done:=by
  intro X y hw t D i G s M H E I g st A;subst y hw t;obtain⟨xs,j,B⟩:=A;obtain⟨its,C,p,hz⟩:=I.list j;obtain⟨l,m,Q,n,q,r⟩:=g it (by simp);have a0:=C.length;exact wpAny_pyNext_list_end (I.ok.hd D) st p.isList (by simp;omega) λh' O=>⟨rfl,I.turned (t':=s.toks) (λb o f e=>O b o f e) l m n q r⟩
 self:=λ_ _ _ _ _ st h=>wpAny_pyIter_listiter st h
def MZ{K:W.Frag}(a it):Turn P w K a1 (qw K a) [it] it (λi h=>h.IsTupleIter it a i) where
 mem:=by simp
 obj:=λi h st b f=>by
  have e:b=it:=(by simpa using f);subst e;obtain⟨o,e,c,d⟩:=st;exact⟨o,e,λv z=>by rw[d]at z;cases z⟩
 keep:=λi h h' st k=>st.at λo e=>k it (by simp) o e
 item:=by
  intro X y hw t D i G s M H E I g st A;subst y hw t;obtain⟨xs,x,j,B⟩:=A;obtain⟨its,C,p,hz⟩:=I.tuple j;obtain⟨u,R,T⟩:=C.get B;obtain⟨l,m,Q,n,q,r⟩:=g it (by simp);refine wpAny_pyNext_tuple_item st (show s.heap.IsTuple a its.toArray from p) (x:=u) (by simpa using R) λh' L U=>?_
  have N:Inv X G M H { s with heap:=h' }:=I.turned (t':=s.toks) (λb o f e=>(U.2 b f).trans e) l m n q r;obtain⟨o,e,c,d⟩:=id L;exact⟨u,rfl,oB (s:={ s with heap:=h' }) e c d (by decide) ⟨x,H,N,T,⟨rfl,λys S=>by rw[I.MR S j];exact B⟩,L,λb f=>(g b f).1⟩⟩
 done:=by
  intro X y hw t D i G s M H E I g st A;subst y hw t;obtain⟨xs,j,B⟩:=A;obtain⟨its,C,p,hz⟩:=I.tuple j;obtain⟨l,m,Q,n,q,r⟩:=g it (by simp);have a0:=C.length;exact wpAny_pyNext_tuple_end (I.ok.hd D) st (show s.heap.IsTuple a its.toArray from p) (by simp;omega) λh' O=>⟨rfl,I.turned (t':=s.toks) (λb o f e=>O b o f e) l m n q r⟩
 self:=λ_ _ _ _ _ st h=>wpAny_pyIter_tupleiter st h
def MY{K:W.Frag}(it)(lo)(n):Turn P w K M (lX lo n) [it] it (λi h=>IsRangeIter h it (lo+(i:Nat)*1) ((n:Int)-(i:Nat)) 1) where
 mem:=by simp
 obj:=λi h st b a=>by
  have e:b=it:=(by simpa using a);subst e;exact⟨_,st,λv z=>by
   have L:Data.fields _=Data.cell v:=z;cases L⟩
 keep:=λi h h' st k=>k it (by simp) _ st
 item:=by
  intro X p hw m q i u s y H E I c st r;subst p hw m;obtain⟨d,f,C,g,j,l⟩:=c it (by simp);have W:=Walks.range (prog:=X.prog) (w:=X.w) (I.ok.hd q) it lo 1 n;refine W.item i s _ _ r st λv h' tk D x G=>?_
  obtain⟨t,rfl⟩:=D;have A:Inv X u y H { s with heap:=h',toks:=tk }:=I.turned (λb o a e=>G b o (by simpa using a) e) d f g j l;refine⟨_,rfl,oB (s:={ s with heap:=h',toks:=tk }) (n:="range_iterator") x rfl rfl (by decide) ⟨.int (lo+i),H,A,⟨t,?_⟩,⟨rfl,rfl⟩,x,λb a=>(c b a).1⟩⟩;rw[Int.mul_one]
 done:=by
  intro X p hw m q i u s y H E I c st r;subst p hw m;obtain⟨d,f,C,g,j,l⟩:=c it (by simp);exact wpAny_pyNext_range_end (I.ok.hd q) st (by have:n<=i:=r;omega) λh' B=>⟨rfl,I.turned (t':=s.toks) (λb o a e=>B b o a e) d f g j l⟩
 self:=λ_ _ _ _ _ st h=>wpAny_pyIter_rangeiter st h
end aJ
namespace aJ
open PySem PySem.Spec PyProof.Rows
section
variable{X:au}{eC:Tq}
def Jq{d:St}{lo a:Int}(I:Inv X f d H s)(h:-(2 ^ 62)<=lo)(i:lo<2 ^ 62)(j:-(2 ^ 62)<=a)(k:a<2 ^ 62)(q:R (lX lo (a-lo).toNat) H):Ta (Tc X.prog X.w) X.A (V7 (.ref s.heap.objs.size)) (qC X f d eC R) E { s with heap:=s.heap.push { cls:=.type "range",data:=.fields #[.int lo t,.int a u,.int 1 v] },toks:=tk }:=by
 refine wpAny_pyIter_range (XW ..) (small_one h i j k) ?_;have c:Inv X f d H { s with heap:=s.heap.push { cls:=.type "range",data:=.fields #[.int lo t,.int a u,.int 1 v] },toks:=tk }:=I.kept λb o e=>Ol _ e
 refine⟨(s.heap.push { cls:=.type "range",data:=.fields #[.int lo t,.int a u,.int 1 v] }).objs.size,[(s.heap.push { cls:=.type "range",data:=.fields #[.int lo t,.int a u,.int 1 v] }).objs.size],_,_,H,rfl,
  c.kept (t':=tk) λb o e=>Ol _ e,MY _ lo (a-lo).toNat,?_,λb l=>?_,q⟩
 .have e1:lo+((0:Nat):Int)*1=lo:=(by simp);have g:(((a-lo).toNat:Nat):Int)-((0:Nat):Int)=UL lo a 1:=(by rw[rangeSize_one];split<;>omega);show IsRangeIter _ _ (lo+((0:Nat):Int)*1) ((((a-lo).toNat:Nat):Int)-((0:Nat):Int)) 1;rw[e1,g];exact OA _ rfl
 .have e:b=(s.heap.push { cls:=.type "range",data:=.fields #[.int lo t,.int a u,.int 1 v] }).objs.size:=(by simpa using l);subst e;exact c.kG (Ot _) (c.aK.fresh (Ot _))
noncomputable def Fb(b:eK):TI:=λd H R=>b d H λc a=>∃j:Int,c=[.int j]/\-(2 ^ 62)<=j/\j<2 ^ 62/\R (lX 0 j.toNat) a
def IP{a:Tq}{c:eK}{p pos:UN}(g:cQ X "range")(i:X.aG "range"=Y)(f:dX X [a] c)(k:Tu [a] X.env=[(S6,T4 a X.env)]:=by rfl):fb X eC (.Call (.Name "range" p) [a] [] pos) (Fb c):=by
 intro l s v H R I h;refine Call_ (f3 I g i boot_range (O4 (aV (f pos l s v H _ I h) λy x u=>?_) k rfl));obtain⟨z,w,d,n,b⟩:=u;obtain⟨j,e,b,m,q⟩:=b;subst e;cases n with
 |cons r o =>
  cases o;obtain⟨t,rfl⟩:=r;exact call_range_1 (Jq d (by omega) (by omega) b m (by simpa using q))
noncomputable def nx(k:TI)(g:hI)(j:eu):eu:=λD a H=>k a H λc f=>∃W:Nat->Nat->St->ag->Prop,(∃m,W 0 m a f)/\∀i m a H,W i m a H ->
 (c.stop i H/\D.aU a H)\/(c.go i H/\∃N:St->ag->Prop,(∀e b,N e b->∃d,d<m/\W (i+1) d e b)/\∀x b,c.gF i H x b->g x a b λl h=>j { D with aU:=N,ct:=N,fj:=D.aU } l h)
noncomputable def ps(a:List Td)(h:TH):List (Td×Uq):=a.filterMap λb=>(h.get? b).map λo=>(b,o)
def la(c:b∈a)(e:h.get? b=Z o):(b,o)∈ps a h:=RR.mpr ⟨b,c,by rw[e];rfl⟩
def HZ(f:p∈ps c h):p.1∈c/\h.get? p.1=Z p.2:=by
 obtain⟨b,d,e⟩:=RR.mp f;cases q:h.get? b with
 |none=>rw[q]at e;cases e
 |some o =>
  rw[q]at e;have a:(b,o)=p:=O1 e;subst a;exact⟨d,q⟩
def Inv.pinned{h:St}(I:Inv X g h H s)(l:∀b∈c,gh X g H b)(m:∀b∈c,∃o,s.heap.get? b=Z o/\∀v,o.data≠.cell v):Inv X (g++ps c s.heap) h H s :=
 I.m8 λp n=>(Ox.mp n).elim (λz=>I.pin p (Ow _ z)) λz=>by
  obtain⟨f,e⟩:=HZ z;obtain⟨i,j,k,_⟩:=l p.1 f;obtain⟨o,a,d⟩:=m p.1 f;rw[e]at a;cases a;exact⟨e,i,j,k,d⟩
def Inv.lM{a:St}(I:Inv X (c++d) a H s):Inv X c a H s:=I.m8 λp b=>I.pin p (Ow _ (Tg _ b))
def yM{E:Tq}{body:List T3}{ar:TI}{g:hI}{a2:eu}{pos:UN}(w:WZ (Tc X.prog X.w) X.A X.env X.bk)(U:X.calm=J)(bw:fb X eC E ar)(bl:ix X eC g)(j:c8 X body a2)(b9:∀x,T7 E X.env x=pure x:=by intro _;rfl):bV X (.For eC E body [] pos) (nx ar g a2):=by
 intro p s ao H D I h;refine wpAny_For (aV (bw p s ao H _ I h) λv e1 a7=>aV a7 λe0 s2 a5=>?_) b9;obtain⟨fk,t,aj,eM,ax,e,aA,T,c0,R,W,⟨m0,dI⟩,turn⟩:=a5;subst e;have M:∀{aD:ag},(∀b∈t,aD b=Y)->∀b∈t,gh X p aD b:=λcx b j=>⟨cx b j,(R b j).2⟩
 refine codeAny_forLoop_any (λn s'=>∃i z aD,Inv X p z aD s'/\aj i s'.heap/\(∀b∈t,aD b=Y)/\W i n z aD) ?_ m0 ⟨0,ao,ax,aA,c0,λb j=>(R b j).1,dI⟩;rintro n s3 ⟨i,A,B,Q,a1,S,dv⟩;rcases turn i n A B dv with⟨stop,cq⟩|⟨bb,N,a8,step⟩
 .refine Q6 w (aV (T.done X rfl rfl rfl U i p s3 A B X.bk Q (M S) a1 stop) λr cA q=>?_);obtain⟨C,aB⟩:=q;subst C;exact RG ⟨A,B,aB,cq⟩
 .refine Q6 w (aV (T.item X rfl rfl rfl U i p s3 A B X.bk Q (M S) a1 bb) λr cA q=>?_);obtain⟨u,C,a6⟩:=q;subst C;refine Q6 w (aV a6 λ_ a0 q=>?_);obtain⟨x,O,aC,cM,ee,L,aX⟩:=q;have b1:=aC.pinned (M aX) (T.obj _ _ L);refine Q6 w (aV (bl _ a0 A O x u _ b1 cM (step x O ee)) λ_ cN q=>?_);obtain⟨en,ay,b2,cf⟩:=q;refine Q6 w (aV (j _ cN en ay _ b2 cf) λf G l=>?_);have XN:∀{k:St}{a:ag},Inv X (p++ps t a0.heap) k a G->N k a->∃m,m<n/\∃i z aD,Inv X p z aD G/\aj i G.heap/\(∀b∈t,aD b=Y)/\W i m z aD:=λ{k a} c y=>by
   obtain⟨cc,cw,dP⟩:=a8 k a y;refine⟨cc,cw,i+1,k,a,c.lM,T.keep _ _ _ L λb j o e=>(c.pin (b,o) (Ow _ (Ow _ (la j e)))).1,λb j=>?_,dP⟩;obtain⟨o,e,d⟩:=T.obj _ _ L b j;exact(c.pin (b,o) (Ow _ (Ow _ (la j e)))).2.1
  cases f with
  |next=>obtain⟨k,a,c,y⟩:=l;exact XN c y
  |cont=>obtain⟨k,a,c,y⟩:=l;exact XN c y
  |brk=>obtain⟨k,a,c,l⟩:=l;exact⟨k,a,c.lM,l⟩
  |ret v=>obtain⟨ed,k,a,c,cz,l⟩:=l;exact⟨ed,k,a,c.lM,cz,l⟩
end
end aJ
namespace aJ
open PySem PySem.Spec PyProof.Rows
noncomputable abbrev gi:=V->V->ag->ck->Prop
def b0(X:au)(f:S8->S8->Sem S8)(r:gi):Prop :=
 ∀(a:List (Td×Uq))(s:S9)(b:St)(H:ag)(x y:V)(v u:S8)(Q:ck),Inv X a b H s->RelV x v->RelV y u->r x y H Q ->
  Ta (Tc X.prog X.w) X.A (f v u) (c3 X a b Q) X.bk s
def qF(X:au)(f:S8->Sem S8)(r:V->ag->ck->Prop):Prop :=
 ∀(a:List (Td×Uq))(s:S9)(b:St)(H:ag)(x:V)(v:S8)(Q:ck),Inv X a b H s->RelV x v->r x H Q ->
  Ta (Tc X.prog X.w) X.A (f v) (c3 X a b Q) X.bk s
def eV(X:au)(f:S8)(r:List V->ag->ck->Prop):Prop :=
 ∀(a:List (Td×Uq))(s:S9)(c:St)(H:ag)(xs:List V)(b:List S8)(Q:ck),Inv X a c H s->Vals xs b->r xs H Q ->
  Ta (Tc X.prog X.w) X.A (call f b) (c3 X a c Q) X.bk s
noncomputable def nz(r:gi)(d e:TE):TE:=λa H Q=>d a H λx b=>e a b λy c=>r x y c Q
noncomputable def L4(r:V->ag->ck->Prop)(b:TE):TE:=λc H Q=>b c H λx a=>r x a Q
noncomputable def lu(C:Int->Int->Prop)(g:Int->Int->V):gi:=λx y H Q=>∃i j,x=.int i/\y=.int j/\C i j/\Q (g i j) H
noncomputable def i7(g:Int->Int->V):gi:=λx y H Q=>∃i j,x=.int i/\y=.int j/\Q (g i j) H
noncomputable def yX(g:Int->V):V->ag->ck->Prop:=λx H Q=>∃i,x=.int i/\Q (g i) H
section
variable{X:au}{a b c:Tq}{cH cI ME:TE}{pos:UN}
def rz(m:ai X a cH)(n:ai X b cI){e:St}{R:V->V->ag->Prop}(I:Inv X i e H s)(h:cH e H λx g=>cI e g λy d=>R x y d){f:S8->S8->Sem S8}(o:∀v u s2 x y d,Inv X i e d s2->RelV x v->RelV y u->R x y d->Ta (Tc X.prog X.w) X.A (f v u) Q X.bk s2):
  Ta (Tc X.prog X.w) X.A (T4 a X.env) (λv z=>Ta (Tc X.prog X.w) X.A (T4 b X.env) (λu A=>Ta (Tc X.prog X.w) X.A (f v u) Q X.bk A) X.bk z) X.bk s:=by
 refine aV (m i s e H _ I h) λv w j=>?_
 obtain⟨x,g,k,r,p⟩:=j;refine aV (n i w e g _ k p) λu s2 j=>?_
 obtain⟨y,d,l,t,q⟩:=j;exact o v u s2 x y d l r t q
def s7(i:b0 X (TV op) r)(f:ai X a cH)(g:ai X b cI):ai X (.BinOp a op b pos) (nz r cH cI):=by
 intro j s m H Q I h;exact wpAny_BinOp (rz f g I h λv u s2 x y d e k l q=>i j s2 m d x y v u Q e k l q)
def IF(j:qF X (unaryOp op) r)(i:ai X a cH):ai X (.UnaryOp op a pos) (L4 r cH):=by
 intro d s e H Q I h;exact UnaryOp_ (aV (i d s e H _ I h) λv m ⟨x,f,g,l,k⟩=>j d m e f x v Q g l k)
def m6{g:Int->Int->Int}(XJ:∀(i j:Int)(t u:Tok)(s:S9)(Q:S8->S9->Prop)(E:S8->S9->Prop),C i j->Q (.int (g i j) s.toks) { s with toks:=s.toks+1 }->Ta (Tc X.prog X.w) X.A (f (.int i t) (.int j u)) Q E s):
  b0 X f (lu C λi j=>.int (g i j)):=by
 intro l s m H x y v u Q I e k h;obtain⟨i,j,rfl,rfl,d,q⟩:=h;obtain⟨t,rfl⟩:=e;obtain⟨t',rfl⟩:=k;exact XJ i j t t' s _ _ d ⟨.int (g i j),H,I.tok _,⟨_,rfl⟩,q⟩
def pe{g:Int->Int->Int}(XJ:∀(i j:Int)(t u:Tok)(s:S9)(Q:S8->S9->Prop)(E:S8->S9->Prop),Q (.int (g i j) s.toks) { s with toks:=s.toks+1 }->Ta (Tc X.prog X.w) X.A (f (.int i t) (.int j u)) Q E s):
  b0 X f (i7 λi j=>.int (g i j)):=by
 intro k s l H x y v u Q I d e h;obtain⟨i,j,rfl,rfl,q⟩:=h;obtain⟨t,rfl⟩:=d;obtain⟨t',rfl⟩:=e;exact XJ i j t t' s _ _ ⟨.int (g i j),H,I.tok _,⟨_,rfl⟩,q⟩
def yg{g:Int->Int->Bool}(XJ:∀(i j:Int)(t u:Tok)(s:S9)(Q:S8->S9->Prop)(E:S8->S9->Prop),Q (.bool (g i j)) s->Ta (Tc X.prog X.w) X.A (f (.int i t) (.int j u)) Q E s):
  b0 X f (i7 λi j=>.ah (g i j)):=by
 intro k s l H x y v u Q I d e h;obtain⟨i,j,rfl,rfl,q⟩:=h;obtain⟨t,rfl⟩:=d;obtain⟨t',rfl⟩:=e;exact XJ i j t t' s _ _ ⟨.ah (g i j),H,I,rfl,q⟩
def AZ(i j:Int):Prop:=0<j/\j<1073741824
def A1(i j:Int):Prop:=0<=j/\j<=1000000/\i.natAbs<2 ^ 64
def qn(i j:Int):Prop:=(-(2 ^ 64)<i/\i<2 ^ 64)\/(-(2 ^ 64)<j/\j<2 ^ 64)
def qn.ok(h:qn i j):IntMulOk i j:=by
 rcases h with⟨d,e⟩|⟨d,e⟩
 .exact .of_left (intBits_le_64 d e)
 .exact .of_right (intBits_le_64 d e)
def M0(k):(0:Int)<=2 ^ k:=by
 rw[two_pow_cast];exact Qb _
def yi:b0 X (TV .Add) (i7 λi j=>.int (i+j)):=pe λ_ _ _ _ _ _ _ q=>add_int q
def Ic:b0 X (TV .Sub) (i7 λi j=>.int (i-j)):=pe λ_ _ _ _ _ _ _ q=>sub_int q
def H8:b0 X (TV .Mult) (lu qn λi j=>.int (i*j)):=m6 λ_ _ _ _ _ _ _ d q=>mul_int q d.ok
def H3:b0 X (TV .FloorDiv) (lu AZ λi j=>.int (i / j)):=m6 λi j _ _ _ _ _ d q=>by
 have e:(0:Int)<j:=d.1;have f:j<1073741824:=d.2;exact floordiv_int (by omega) (by rw[RS i (by omega)];exact q) (.inl (PyProof.noPylong_small (by omega)))
def H7:b0 X (TV .Mod) (lu (λ_ j=>0<j) λi j=>.int (i%j)):=m6 λi j _ _ _ _ _ d q=>by
 have e:(0:Int)<j:=d;exact mod_int' (by omega) (by rw[Int.fmod_eq_emod_of_nonneg i (by omega)];exact q)
def H9:b0 X (TV .LShift) (lu A1 λi j=>.int (i*2 ^ j.toNat)):=m6 λ_ _ _ _ _ _ _ d q=>lshift_int_small d.1 d.2.1 d.2.2 q
def Ia:b0 X (TV .RShift) (lu (λ_ j=>0<=j) λi j=>.int (i / 2 ^ j.toNat)):=m6 λi j _ _ _ _ _ d q =>
 rshift_int d (by rw[RS i (M0 _)];exact q)
def yj:b0 X (TV .BitAnd) (i7 λi j=>.int (UP i j)):=pe λ_ _ _ _ _ _ _ q=>and_int q
def Ie:b0 X (TV .BitXor) (i7 λi j=>.int (Xt i j)):=pe λ_ _ _ _ _ _ _ q=>xor_int q
def Ay{g:Int->Int}(XJ:∀(i:Int)(t:Tok)(s:S9)(Q:S8->S9->Prop)(E:S8->S9->Prop),Q (.int (g i) s.toks) { s with toks:=s.toks+1 }->Ta (Tc X.prog X.w) X.A (f (.int i t)) Q E s):
  qF X f (yX λi=>.int (g i)):=by
 intro e s j H x v Q I d h;obtain⟨i,rfl,q⟩:=h;obtain⟨t,rfl⟩:=d;exact XJ i t s _ _ ⟨.int (g i),H,I.tok _,⟨_,rfl⟩,q⟩
def M4:qF X (unaryOp .USub) (yX λi=>.int (-i)):=Ay λ_ _ _ _ _ q=>neg_int q
end
section
variable{X:au}{a b c:Tq}{cH cI ME:TE}{pos:UN}
def H5:b0 X (TP .Lt) (i7 λi j=>.ah (decide (i<j))):=yg λ_ _ _ _ _ _ _ q=>lt_int q
def H4:b0 X (TP .Gt) (i7 λi j=>.ah (decide (j<i))):=yg λ_ _ _ _ _ _ _ q=>gt_int q
def Iq(j:b0 X (TP op) r)(f:ai X a cH)(g:ai X b cI)(i:UX op b=S6):ai X (.Compare a [op] [b] pos) (nz r cH cI):=by
 intro k s n H Q I h;exact wpAny_Compare1 (rz f g I h λv u s2 x y d e l m q=>j k s2 n d x y v u Q e l m q) i
noncomputable def L1(t:TE):TT:=λe H Q=>t e H λx d=>∃k,x=.ah k/\Q k d
def Ja(t:b0 X (TP op) r)(o:ai X a cH)(p:ai X b cI)(q:UX op b=S6):dY X (.Compare a [op] [b] pos) (L1 (nz r cH cI)):=by
 intro d s f H Q I h;refine wpAny_isTrue_Compare1 (aV (o d s f H _ I h) λv G ⟨x,g,l,C,w⟩=>aV (p d G f g _ l w) λu s2 ⟨y,i,m,D,A⟩ =>
  aV (t d s2 f i x y v u _ m C D A) λc s3 ⟨z,j,n,E,k,e,B⟩=>?_) q
 subst e;cases E;exact QL ⟨j,n,B⟩
def oZ:(Tx:Nat)<2 ^ 63:=by rw[Tw];decide
def vals1(r:Vals [x] f):∃u,f=[u]/\RelV x u:=by
 cases r with
 |cons d e=>cases e;exact⟨_,rfl,d⟩
def vals2(r:Vals [x,y] h):∃u AO,h=[u,AO]/\RelV x u/\RelV y AO:=by
 cases r with
 |cons d e =>
  cases e with
  |cons f g=>cases g;exact⟨_,_,rfl,d,f⟩
def u1:eV X (.type "int") (λxs H Q=>(∃i,xs=[.int i]/\Q (.int i) H)\/∃k,xs=[.ah k]/\Q (.int (if k then 1 else 0)) H):=by
 intro e s g H xs f Q I r h;rcases h with⟨i,rfl,q⟩|⟨k,rfl,q⟩
 .obtain⟨u,rfl,t,rfl⟩:=vals1 r;exact call_int_int ⟨.int i,H,I,⟨_,rfl⟩,q⟩
 .obtain⟨u,rfl,d⟩:=vals1 r;cases d;exact call_int_bool ⟨.int (if k then 1 else 0),H,I.tok _,⟨_,rfl⟩,q⟩
end
end aJ
namespace aJ
open PySem PySem.Spec PyProof.Rows
structure qA(h:TH)(x ey C:Td)(xV:Tj->Option S8):Prop where
 obj:h.get? x=Z (PySem.W.instObj C ey)
 ns:h.Ns1 ey xV
 ne:ey≠x
def GR{h:TH}(n:h.Ns1 f p):∃c,h.get? f=Z c/\∀name,PySem.W.lookIn name c=Z (p name):=by
 obtain⟨o,b,r,l,g,i,_,k⟩:=n;refine⟨o,l,λname=>?_⟩;have e:=k name;unfold nsFind findBy at e;rw[<- Array.find?_toList]at e;unfold PySem.W.lookIn;rw[g];dsimp only
 split
 .rename_i y q;rw[q]at e;exact Pw Z e
 .rename_i q;rw[q]at e;have a:b.toList.any (·.refKey)=false:=by
   rw[R6];intro y m;obtain⟨z,t,j⟩:=i y (Array.mem_toList_iff.mp m);simp[DictEntry.refKey,j]
  have d:¬b.toList.any (·.refKey)=true:=(by rw[a];exact Pc);rw[if_neg d];exact Pw Z e
def qA.look(I:qA h x b C e):∃a,PySem.W.InstAt h x (PySem.W.instObj C b) C (Z a)/\∀name,PySem.W.lookIn name a=Z (e name) :=
 let ⟨a,d,c⟩:=GR I.ns
 ⟨a,⟨I.obj,rfl,rfl,d⟩,c⟩
section
variable{prog:TK}{w:TU}{A:TO}{E:S8->S9->Prop}{s:S9}{K:W.Frag}{x ey C f:Td}{xV:Tj->Option S8}{name:Tj}{v:S8}
end
def fO.some_of(r:fO (Z v) o):∃u,o=Z u/\RelV v u:=by
 cases o with
 |none=>exact(show False from r).elim
 |some u=>exact⟨u,rfl,r⟩
section
variable{P:TK}{w:TU}{H aD:ag}{h h':TH}{a C ey:Td}{bx EJ:List (Tj×V)}
def hZ(c:cD P w H h)(e:H a=Z (.ins C ey bx)):∃b,qA h a ey C b/\(∀f,fO (bx.lookup f) (b f))/\PySem.Within b (bx.map (·.1))/\bx.length<=1000/\H ey=Z (.own a):=by
 obtain⟨d,z,g,i,b,n,r,q⟩:=(show bZ P w H h a (.ins C ey bx) from c a _ e);exact⟨b,⟨i,n,g⟩,r,q,z,d⟩
end
structure lS(K:W.Frag)(C:Td):Prop where
 pg:PySem.W.plainGet K C Str.empty=J
 hd:PySem.W.hasDictIn K C=J
 po:PySem.W.plainOver K C=J
 ja:PySem.W.findIn K (.ref C) "__setattr__"=Z (Z (.builtin "object.__setattr__"))
def lS.get{K:W.Frag}(c:lS K C)(f):PySem.W.plainGet K C f=true:=c.pg
structure NO(K:W.Frag)(C:Td)(f:Tj)(v:V)(u:S8):Prop where
 at_:PySem.W.findIn K (.ref C) f=Z (Z u)
 rel:RelV v u
 get:PySem.W.specialIn K u "__get__"=Z Y
 du:PySem.W.copiedNames.contains f=S6
structure Meth(K:W.Frag)(C:Td)(m:Tj)(f:Td):Prop where
 at_:PySem.W.findIn K (.ref C) m=Z (Z (.ref f))
 fn:PySem.W.isFn K (.ref f)=J
 oW:W.keepIn K (.ref f)=J
section
variable{X:au}{pins:List (Td×Uq)}{σ:St}{H:ag}{s:S9}{a C ey:Td}{bx:List (Tj×V)}{f:Tj}{v:V}{A:TO}{E:S8->S9->Prop}
end
section
variable{X:au}{o e value:Tq}{f:Tj}{pos pos' MO:UN}{cH tV:TE}
end
section
variable{X:au}{pins:List (Td×Uq)}{σ:St}{H:ag}{s:S9}{A:TO}{E:S8->S9->Prop}{Q:S8->S9->Prop}{c:S8}{b:Bool}
inductive gk(K:W.Frag)(H:ag):V->S8->Prop where
 |bG:gk K H .bG (.type "NoneType")
 |ah (x:Bool):gk K H (.ah x) (.type "bool")
 |int (i:Int):gk K H (.int i) (.type "int")
 |str (x:Tj):gk K H (.str x) (.type "str")
 |fX (x:UInt64):gk K H (.fX x) (.type "float")
 |lst {a:Td} {xs:List V} (e:H a=Z (.lst xs)):gk K H (.ref a) (.type "list")
 |cy {a:Td} {o:Uq} {xs:List V} (e:H a=Z (.cy o (.lst xs))):gk K H (.ref a) (.type "list")
 |tup {a:Td} {xs:List V} (e:H a=Z (.tup xs)):gk K H (.ref a) (.type "tuple")
 |b5 {a:Td} {fZ:List (Key×V)} (e:H a=Z (.b5 fZ)):gk K H (.ref a) (.type "dict")
 |cm {a:Td} {fZ:List (List Key×V)} (e:H a=Z (.cm fZ)):gk K H (.ref a) (.type "dict")
 |ins {a C ey:Td} {bx:List (Tj×V)} (e:H a=Z (.ins C ey bx)) (cl:lS K C) (N1:PySem.W.findIn K (.ref C) "__class__"=Z (Z (.builtin "object.__class__")))
   (N3:PySem.W.specialIn K (.builtin "object.__class__") "__get__"=Z (Z (.builtin "getset_descriptor.__get__"))) (N4:PySem.W.takesIn K (.builtin "object.__class__")=Z J)
   (hm:PySem.W.mroIn K C (.type "object")=Z J):gk K H (.ref a) (.ref C)
def oT(I:Inv X pins σ H s)(f:RelV x u)(M:gk X.K H x t)(e:PySem.W.kitOne X.K t c=Z b)(h:∀tk,Q (.bool b) { s with toks:=tk }):
  Ta (Tc X.prog X.w) A (call (.builtin "isinstance") [u,c]) Q E s:=by
 cases M with
 |bG=>cases (show u=Value.none from f);exact O5 PySem.W.kitx_none I.dS True.intro e (λz=>nomatch z) h
 |ah y=>cases (show u=UW y from f);exact O5 PySem.W.kitx_bool I.dS True.intro e (λz=>nomatch z) h
 |int i=>obtain⟨t,q⟩:=(show ∃t,u=UB i t from f);cases q;exact O5 PySem.W.kitx_int I.dS True.intro e (λz=>nomatch z) h
 |str y=>obtain⟨t,q⟩:=(show ∃t,u=Value.str y t from f);cases q;exact O5 PySem.W.kitx_str I.dS True.intro e (λz=>nomatch z) h
 |fX y=>obtain⟨t,q⟩:=(show ∃t,u=Value.float y t from f);cases q;exact O5 PySem.W.kitx_float I.dS True.intro e (λz=>nomatch z) h
 |@lst a xs d =>
  cases (show u=Th a from f);obtain⟨_,_,n,_,g⟩:=(show bZ X.prog X.w H s.heap a (.lst xs) from I.aK a _ d);exact O5 R7 I.dS ⟨_,g,rfl⟩ e (λz=>nomatch z) h
 |@cy a L xs d =>
  cases (show u=Th a from f);obtain⟨_,_,_,n,_,g⟩:=(show bZ X.prog X.w H s.heap a (.cy L (.lst xs)) from I.aK a _ d);exact O5 R7 I.dS ⟨_,g,rfl⟩ e (λz=>nomatch z) h
 |@tup a xs d =>
  cases (show u=Th a from f);obtain⟨_,_,_,p⟩:=(show bZ X.prog X.w H s.heap a (.tup xs) from I.aK a _ d);obtain⟨o,g,j,_⟩:=p;exact O5 SY I.dS ⟨o,g,j⟩ e (λz=>nomatch z) h
 |@b5 a k d =>
  cases (show u=Th a from f);obtain⟨_,_,U,_,p⟩:=(show bZ X.prog X.w H s.heap a (.b5 k) from I.aK a _ d);obtain⟨o,v,r,g,j,_⟩:=p;exact O5 Ra I.dS ⟨o,g,j.1⟩ e (λz=>nomatch z) h
 |@cm a k d =>
  cases (show u=Th a from f);obtain⟨_,_,xs,_,o,v,r,g,j,_⟩:=(show bZ X.prog X.w H s.heap a (.cm k) from I.aK a _ d);exact O5 Ra I.dS ⟨o,g,j.1⟩ e (λz=>nomatch z) h
 |@ins a C N R d l w D G B =>
  cases (show u=Th a from f);obtain⟨S,O,_⟩:=hZ I.aK d;obtain⟨T,m,_⟩:=O.look;exact O5 (PySem.W.kitx_own (l.get _) l.hd w D G B) I.dS m e (λz=>nomatch z) h
end
end aJ
namespace aJ
open PySem PySem.Spec PyProof.Rows
structure ea(k:Nat)(A:TO):Prop where
 hd:A.handled=Y
 iK:A.depth+3*k+5<recursionLimit
 un:A.units+16*k+200<TS
def ea.mono(r:ea k A)(h:j<=k):ea j A:=⟨r.hd,by have:=r.iK;omega,by have:=r.un;omega⟩
theorem ea.deeper(r:ea (k+1) A)(env):ea k (A.deeper env) :=
 ⟨r.hd,by have:=r.iK;show A.depth+1+3*k+5<_;omega,by have:=r.un;show A.units+3+16*k+200<_;omega⟩
theorem ea.depth(r:ea k A):A.depth<recursionLimit:=by have:=r.iK;omega
theorem ea.units(r:ea k A):A.units+64<cLine:=by have:=r.un;omega
noncomputable def tL:eK:=λ_ H Q=>Q [] H
noncomputable def pW(d:TE)(e:eK):eK:=λa H Q=>d a H λx b=>e a b λxs c=>Q (x::xs) c
section
variable{X:au}{e:Tq}{az:List Tq}{er:TE}{t:eK}{pos:UN}
def lp:dX X [] tL:=λ_ _ _ _ H Q I h=>Qi ⟨[],H,I,.nil,h⟩
def ia(i:ai X e er)(j:dX X az t)(k:Tu (e::az) X.env=(S6,T4 e X.env)::Tu az X.env:=by rfl):dX X (e::az) (pW er t):=by
 intro pos a s b H Q I h;rw[k];show Ta _ _ (WK ((S6,T4 e X.env)::UJ pos (Tu az X.env))) _ _ s;refine PU (aV (i a s b H _ I h) λu p q=>?_);obtain⟨x,c,f,n,l⟩:=q;exact aV (j pos a p b c _ f l) λr s2 ⟨xs,d,g,o,m⟩=>⟨x::xs,d,g,.cons n o,m⟩
noncomputable def L3(t:eK):TE:=λb H Q=>t b H λxs a=>xs.length<=Tx/\∀p,a p=Y->Q (.ref p) (upd a p (.tup xs))
noncomputable def LP(t:eK):TE:=λb H Q=>t b H λxs a=>xs.length<=Tx/\∀p,a p=Y->Q (.ref p) (upd a p (.lst xs))
def IE{k}(h:dX X az t):ai X (.Tuple az k pos) (L3 t):=by
 intro i s l H Q I g;refine wpAny_Tuple_spliced (aV (h pos i s l H _ I g) λj a ⟨xs,c,d,r,z,q⟩=>⟨by rw[<- r.length];exact z,?_⟩);have f:c a.heap.objs.size=none:=d.aK.fresh (Ot _);refine⟨.ref a.heap.objs.size,upd c a.heap.objs.size (.tup xs),d.laid (t':=a.toks) (λb u e=>Ol _ e) (Ot _) ?_,rfl,q _ f⟩;exact⟨z,j,r,⟨_,OA _ rfl,rfl,_,rfl⟩⟩
def Iz(h:dX X az t):ai X (.List az pos) (LP t):=by
 intro i s k H Q I g;refine wpAny_List_spliced (aV (h pos i s k H _ I g) λj a ⟨xs,c,d,r,z,q⟩=>⟨by rw[<- r.length];exact z,?_⟩);have f:c a.heap.objs.size=none:=d.aK.fresh (Ot _);refine⟨.ref a.heap.objs.size,upd c a.heap.objs.size (.lst xs),d.laid (t':=a.toks) (λb u e=>Ol _ e) (Ot _) ?_,rfl,q _ f⟩;exact⟨z,j,0,r,OA _ rfl⟩
end
noncomputable abbrev ff:=List V->ag->ck->gJ->Prop
noncomputable abbrev ij:=List XS->ag->S9->gJ->S8->S9->Prop
structure nM(P:TK)(w:TU)(K:W.Frag)(aG:Tj->Option S8)(base:TH)(A:TO)(outer:List XS)(s:S9)(H:ag):Prop where
 frames:A.frames=Z outer
 mod:Mod K aG base
 bs:∀b o,base.get? b=Z o->s.heap.get? b=Z o/\H b=Y
 jx:base.objs.size<=s.heap.objs.size
 gu:s.heap.FunFrames base outer
 kH:∀b∈eg outer,H b=Y
 aK:cD P w H s.heap
 bare:Va s.gens
def qm(outer:List XS)(P:TK)(w:TU)(H:ag)(s:S9)(Q:ck)(u:S8)(s':S9):Prop :=
 ∃v a,s'.os=s.os/\Va s'.gens/\dt (eg outer) [] H a s.heap s'.heap/\cD P w a s'.heap/\RelV v u/\Q v a
def A2(CX:ij)(outer:List XS)(P:TK)(w:TU)(H:ag)(s:S9)(Q:ck)(E:gJ)(r:Result)(s':S9):Prop :=
 match r with
 |.ok (.ret u)=>qm outer P w H s Q u s'
 |.ok _=>False
 |.error e=>CX outer H s E e s'
structure g7(P:TK)(w:TU)(K:W.Frag)(aG:Tj->Option S8)(base:TH)(CX:ij)(k:Nat)(f:Td)(fd:U2)(d2:List Tj)(sp:ff):Prop where
 len:∀d8 H Q E,sp d8 H Q E->d8.length=d2.length
 run:∀(A:TO)(outer:List XS)(s:S9)(H:ag)(args:Args)(us:List S8)(d8:List V)(Q:ck)(E:gJ),ea k A->nM P w K aG base A outer s H->VJ s fd args (d2.zip us)->Vals d8 us->sp d8 H Q E ->
  Vb (Tc P w) A (.call (.ref f) args) (A2 CX outer P w H s Q E) s
section
variable{X:au}{pins:List (Td×Uq)}{σ:St}{H:ag}{s s':S9}
def Inv.Ds(I:Inv X pins σ H s):nM X.prog X.w X.K X.aG X.base X.A X.stack s H :=
 ⟨I.ok.frames,I.ok.mod,I.bs,O3 I.ok.jx I.d5,I.stack,I.tI,I.aK,I.bare⟩
def Inv.after(I:Inv X pins σ H s)(h:qm X.stack X.prog X.w H s Q u s'):c3 X pins σ Q u s':=by
 obtain⟨v,a,os,bare,un,aK,r,q⟩:=h;obtain⟨c,g,d,t,e⟩:=s';obtain rfl:e=s.os:=os;exact⟨v,a,I.call (h':=c) (g':=g) (d':=d) (t':=t) (ch:=[]) un aK bare (λb z=>absurd z (by simp)),r,q⟩
end
noncomputable def LF(sp:ff)(dvs:List V)(E:gJ)(t:eK):TE:=λc H Q=>t c H λb a=>sp (b++dvs) a Q E
def Binds(K:W.Frag)(fd:U2)(b:List Tj)(ds:List S8):Prop :=
 ∀(s:S9)(a:List S8),K.In s.heap->(a++ds).length=b.length->VJ s fd ⟨a,[]⟩ (b.zip (a++ds))
def Binds.all{K:W.Frag}(h:∀a:List S8,a.length=c.length->bindArgs fd ⟨a,[]⟩=pure (c.zip a)):Binds K fd c []:=λs a _ b=>by
 rw[Pa]at b ⊢;exact .of_eq (h a b)
def Passes(CX:ij)(X:au)(E:gJ):Prop:=∀(a:List (Td×Uq))(b:St)(H:ag)(s:S9)(e:S8)(s':S9),Inv X a b H s->CX X.stack H s E e s'->X.bk e s'
section
variable{X:au}{CX:ij}{k:Nat}{f C:Td}{fd:U2}{d2:List Tj}{sp:ff}{dvs:List V}{ds:List S8}{E:gJ}{x m:Tj}{p pos apos:UN}{e o:Tq}{az:List Tq}{cH:TE}{t:eK}
def JN{d:St}(F:g7 X.prog X.w X.K X.aG X.base CX k f fd d2 sp)(v:ea k X.A)(l:Binds X.K fd d2 ds)(n:Vals dvs ds)(w:Passes CX X E)(I:Inv X g d H s)(r:Vals c a)(h:sp (c++dvs) H Q E):Ta (Tc X.prog X.w) X.A (call (.ref f) a) (c3 X g d Q) X.bk s:=by
 have i:Vals (c++dvs) (a++ds):=r.append n;have q:(a++ds).length=d2.length:=by rw[<- i.length];exact F.len _ _ _ _ h
 refine wpAny_call (RN (F.run X.A X.stack s H ⟨a,[]⟩ (a++ds) (c++dvs) Q E v I.Ds (l s a I.dS q) i h) λr s' b=>?_);cases r with
 |error e=>exact w g d H s e s' I b
 |ok j =>
  cases j with
  |ret u=>exact I.after b
  |next=>exact UD b
  |brk=>exact UD b
  |cont=>exact UD b
def Ip(F:g7 X.prog X.w X.K X.aG X.base CX k f fd d2 sp)(v:ea k X.A)(j:cQ X x)(n:X.aG x=Z (.ref f))(l:W.keepIn X.K (.ref f)=J)(c:Binds X.K fd d2 ds)(d:Vals dvs ds)(w:Passes CX X E)(b:dX X (e::az) t)(g:(x==("__debug__":Tj))=false:=by decide)(i:Tu (e::az) X.env=(S6,T4 e X.env)::Tu az X.env:=by rfl)(u:(UJ pos (Tu az X.env)).any (·.1)=false:=by rfl):
  ai X (.Call (.Name x p) (e::az) [] pos) (LF sp dvs E t):=by
 intro y s z H Q I h;refine Po (oY I j n ?_ g);refine PySem.W.callWith_K (h₀:=X.base) I.ok.mod.sr l (aV (b pos y s z H _ I h) λD B ⟨G,A,a,r,q⟩=>⟨a.dS,?_⟩) i u;exact JN F v c d w a r q
structure cR(K:W.Frag)(C f:Td):Prop where
 makes:PySem.W.makesIn K C=J
 init:PySem.W.findIn K (.ref C) "__init__"=Z (Z (.ref f))
 fn:PySem.W.isFn K (.ref f)=J
 oW:W.keepIn K (.ref C)=J
end
section
variable{X:au}{CX:ij}{k:Nat}{f C:Td}{fd:U2}{d2 aY:List Tj}{sp:ff}{E:gJ}{x m:Tj}{p pos apos N5:UN}{e o:Tq}{az:List Tq}{N6:List Vc}{er cH:TE}{t tk:eK}{nm:Option Tj}
structure NP(K:W.Frag)(fd:U2)(d2 aY:List Tj)(g:List S8->List S8->List S8)(wK:List V->List V->List V):Prop where
 to:∀(s:S9)(us ws:List S8),K.In s.heap->(g us ws).length=d2.length->VJ s fd ⟨us,aY.zip ws⟩ (d2.zip (g us ws))
 rel:∀{d8:List V}{us:List S8}{zs:List V}{ws:List S8},Vals d8 us->Vals zs ws->Vals (wK d8 zs) (g us ws)
variable{g:List S8->List S8->List S8}{wK:List V->List V->List V}
end
structure qr(N P:List Tj)(sc:U1):Prop where
 kind:sc.kind=.function
 co:sc.isCoroutine=S6
 gen:sc.isGenerator=S6
 dE:N.Nodup
 pre:N.take P.length=P
 par:∀x∈P,sc.names.lookup x=Z .local\/sc.names.lookup x=Z .cell
 HO:∀y∈sc.names,y.2≠.free
theorem uZ{kindOf:Tj->Option Uy}:∀{a:List (Tj×S8)}{m:Tj->Option S8},(∀v,(x,v)∉a)->Xu kindOf a m x=m x
 |[],_,_=>rfl
 |(n,v)::r,m,h=>by
  unfold Xu;rw[uZ λw hw=>h w (S4 _ hw)]
  split
  .have:x≠n:=(by rintro rfl;exact h v S7);simp[this]
  .rfl
theorem uX{kindOf:Tj->Option Uy}:∀{a:List (Tj×S8)}{m:Tj->Option S8},(∀v,(x,v)∉a)->Xv kindOf a m x=m x
 |[],_,_=>rfl
 |(n,v)::r,m,h=>by
  unfold Xv;rw[uX λw hw=>h w (S4 _ hw)]
  split
  .rfl
  .have:x≠n:=(by rintro rfl;exact h v S7);simp[this]
theorem uY{kindOf:Tj->Option Uy}:∀{P:List Tj}{a:List S8}{i:Nat}{m:Tj->Option S8},P.Nodup->P[i]?=Z x->a[i]?=Z v->kindOf x=Z .local ->
  Xu kindOf (P.zip a) m x=Z v
 |[],_,_,_,_,h,_,_=>by simp at h
 |_::_,[],_,_,_,_,h,_=>by simp at h
 |p::P,w::a,0,m,e,b,c,d=>by
  simp at b c;subst b;subst c;show Xu kindOf ((p,w)::P.zip a) m p=_;unfold Xu;rw[uZ λv f=>(OX.mp e).1 (VV f).1,if_pos d];simp
 |p::P,w::a,i+1,m,e,b,c,d=>by
  show Xu kindOf ((p,w)::P.zip a) m x=_;unfold Xu;exact uY (i:=i) (OX.mp e).2 (by simpa using b) (by simpa using c) d
theorem uW{kindOf:Tj->Option Uy}:∀{P:List Tj}{a:List S8}{i:Nat}{m:Tj->Option S8},P.Nodup->P[i]?=Z x->a[i]?=Z v->kindOf x≠Z .local ->
  Xv kindOf (P.zip a) m x=Z v
 |[],_,_,_,_,h,_,_=>by simp at h
 |_::_,[],_,_,_,_,h,_=>by simp at h
 |p::P,w::a,0,m,e,b,c,d=>by
  simp at b c;subst b;subst c;show Xv kindOf ((p,w)::P.zip a) m p=_;unfold Xv;rw[uX λv f=>(OX.mp e).1 (VV f).1,if_neg d];simp
 |p::P,w::a,i+1,m,e,b,c,d=>by
  show Xv kindOf ((p,w)::P.zip a) m x=_;unfold Xv;exact uW (i:=i) (OX.mp e).2 (by simpa using b) (by simpa using c) d
noncomputable def start(N:List Tj)(a:List V):St:=a.map Z++Tr (N.length-a.length) Y
noncomputable def iG(CX:ij)(P:TK)(w:TU)(K:W.Frag)(aG:Tj->Option S8)(base:TH)(N:List Tj)(b:Tj)(c:U1)(f:Td)(a:S8)(A:TO)(outer:List XS)(s:S9)(H:ag)(E:gJ):au where
 prog:=P
 w:=w
 K:=K
 aG:=aG
 base:=base
 A:=A.deeper (WC b c s.heap.objs.size f a)
 N:=N
 dG:=s
 lW:=H
 env:=WC b c s.heap.objs.size f a
 outer:=outer
 stack:=WC b c s.heap.objs.size f a::outer
 ex:=[]
 calm:=J
 fn:=λ_=>J
 b7:=[]
 bk:=λe s'=>Ta (Tc P w) (A.deeper (WC b c s.heap.objs.size f a)) (leaving (WC b c s.heap.objs.size f a) e) (λ_ d=>CX outer H s E e d) (λg d=>CX outer H s E g d) s'
def va{a:U1}(h:a.names.lookup x=Z .cell):∃c,(cellsFrom n a.names []).lookup x=Z c:=by
 have q:=Su a.names n [] (.inl h);exact Vp.mp q
def Fq{K:W.Frag}(S:qr N l g)(T:A.handled=Y)(e0:nM P w K M base A outer s H)(a0:m.length=l.length)(r:Vals m Q)(x:InCallC s s.heap.objs.size (Xu (WC G g s.heap.objs.size f C).kindOf (l.zip Q) λ_=>Y) (cellsFrom (s.heap.objs.size+1) g.names []) (Xv (WC G g s.heap.objs.size f C).kindOf (l.zip Q) λ_=>Y) s1):
  Inv (iG CX P w K M base N G g f C A outer s H E) [] (start N m) H s1:=by
 have a1:l.length<=N.length:=by have:=Pw U3 S.pre;rw[P8]at this;omega
 obtain⟨t,tk,rfl,I⟩:=x.done;have D:∀b:Td,b∉(iG CX P w K M base N G g f C A outer s H E).ex:=λb z=>absurd (show b∈([]:List Td) from z) (by simp)
 refine⟨⟨e0.mod,S.kind,rfl,rfl,Ot _,λy z c t d=>?_,λy j=>?_,λy c _ h=>?_,λ_=>T,Around.frames_deeper e0.frames,.inr ⟨rfl,rfl⟩,λb z=>absurd z (D b),e0.bs,e0.jx,λb _ _=>D b,λb z=>absurd z (D b),e0.gu,e0.kH⟩,
  rfl,e0.bare,dt.kept I,⟨_,x.toInCall.ns,λi y v t d X=>?_⟩,λy c h=>⟨_,x.cell y c h⟩,e0.aK.fresh (Ot _),λy c h=>?_,λp o=>absurd (show p∈([]:List (Td×Uq)) from o) (by simp),e0.aK.kept I,?_⟩
 .exact name_of_addr x.apart (O9 t) (O9 d)
 .have j:g.names.lookup y=Z .cell\/g.names.lookup y=Z .free:=j;rcases j with j|j
  .exact va j
  .exact absurd rfl (S.HO _ (O9 j))
 .exact QR (x.above y c (O9 h))
 .have B:i<m.length:=by
   unfold start at d
   by_cases B:i<m.length
   .exact B
   .rw[O7 (by simpa using B)]at d;rw[Qu]at d
    split at d<;>cases d
  have R:m[i]?=Z v:=by
   unfold start at d;rw[OF (by simpa using B),OG]at d;cases e:m[i]? with
   |none=>rw[e]at d;cases d
   |some a=>rw[e]at d;cases d;rfl
  obtain⟨u,L,U⟩:=r.get R;have o:l[i]?=Z y:=by
   rw[<- S.pre,Vq (by omega)];exact t
  have O:l.Nodup:=(by rw[<- S.pre];exact S.dE.sublist (List.take_sublist _ _));refine⟨u,U,?_⟩;rcases S.par y (Pn o) with k|k
  .exact .inl ⟨k,uY O o L k⟩
  .obtain⟨c,e⟩:=va (n:=s.heap.objs.size+1) k;refine .inr ⟨.inl k,c,e,?_⟩;have q:=x.cell y c e;rw[uW O o L (by show g.names.lookup y≠_;rw[k];decide)]at q;exact q
 .exact e0.aK.fresh (QR (x.above y c (O9 h)))
 .unfold start;show _=N.length;rw[Oo,S5,QH];omega
def EC{K:W.Frag}{D bQ G O h ct aA:S8}(lk:K.lookup f=Z ⟨aA,b1,.func (W.fnOf name j aB body a D bQ G O R h ct),b2⟩)(a0:W.codeIn K h j=J)(S:qr N z a)(M:∀c H Q E,sp c H Q E->c.length=z.length)(X:∀(A:TO)(outer:List XS)(s:S9)(H:ag)(c:List V)(Q:ck)(E:gJ),ea k (A.deeper (WC j a s.heap.objs.size f h))->sp c H Q E ->
   ∃t,c8 (iG CX P w K p base N j a f h A outer s H E) body t/\t { aU:=λ_ d=>Q .bG d,bK:=Q } (start N c) H):
  g7 P w K p base CX (k+1) f (W.fnOf name j aB body a D bQ G O R h ct) z sp:=by
 refine⟨M,λA outer s H args aC c Q E m e0 U r L=>?_⟩;have aj:=M _ _ _ _ L;have C:K.In s.heap:=e0.mod.sr.keeps λb o e=>(e0.bs b o e).1
 have ay:s.heap.NoLimit:=e0.mod.nolimit.keeps λb o e=>(e0.bs b o e).1
 have a2:∀y∈z.zip aC,a.names.lookup y.1=Z .local\/(a.names.lookup y.1=Z .cell/\((cellsFrom (s.heap.objs.size+1) a.names []).lookup y.1).isSome=J):=λ⟨n,v⟩ ax=>by
  rcases S.par n (VV ax).1 with q|q
  .exact .inl q
  .exact .inr ⟨q,Su _ _ _ (.inl q)⟩
 refine codeAny_call_function m.depth (C _ _ lk) rfl S.co S.gen rfl (PySem.W.codeRec_of C a0) (U _ _ _ _ ?_);refine wpAny_newFunctionEnv_cells S.kind a2 λenv a1 s1 x=>?_
 subst a1;refine⟨ay.keeps x.toInCall.keep,codeAny_func ?_⟩;obtain⟨t,ao,ar⟩:=X A outer s H c Q E (m.deeper _) L;have I:Inv (iG CX P w K p base N j a f h A outer s H E) [] (start N c) H s1:=Fq S m.hd e0 aj r x;refine Pj (ao [] s1 (start N c) H _ I ar) (λT s' i=>?_) λe s' i=>i
 have fin:∀{l:St}{d:ag}{v:V}{u:S8},Inv (iG CX P w K p base N j a f h A outer s H E) [] l d s'->RelV v u->Q v d->qm outer P w H s Q u s' :=
  λ{l d v u} g B q=>⟨v,d,g.os,g.bare,g.base,g.aK,B,q⟩
 cases T with
 |ret u =>
  obtain⟨v,l,d,g,B,q⟩:=i;exact fin g B q
 |next =>
  obtain⟨l,d,g,q⟩:=i;exact fin (v:=V.bG) (u:=Value.none) g rfl q
 |brk =>
  obtain⟨_,_,_,q⟩:=i;exact UD q
 |cont =>
  obtain⟨_,_,_,q⟩:=i;exact UD q
end aJ
namespace aJ
open PySem PySem.Spec PyProof.Rows
section
variable{X:au}{x:Tj}{p pos:UN}{e:Tq}{az:List Tq}{t:eK}{id T:String}{r:List V->ag->ck->Prop}
noncomputable def z2(r:List V->ag->ck->Prop)(t:eK):TE:=λc H Q=>t c H λb a=>r b a Q
def pn(g:eV X (.builtin id) r)(k:cQ X x)(l:X.aG x=Y)(o:T2 x=Z (.builtin id))(f:dX X (e::az) t)(m:x≠"__name__":=by decide)(i:(x==("__debug__":Tj))=false:=by decide)(j:Tu (e::az) X.env=(S6,T4 e X.env)::Tu az X.env:=by rfl)(n:(UJ pos (Tu az X.env)).any (·.1)=false:=by rfl):ai X (.Call (.Name x p) (e::az) [] pos) (z2 r t):=by
 intro a s b H Q I h;refine Po (f3 I k l o ?_ m i);exact PV (aV (f pos a s b H _ I h) λw v ⟨y,c,d,u,q⟩=>g a v b c y w Q d u q) j n
def yw(g:eV X (.type T) r)(k:cQ X x)(l:X.aG x=Y)(o:T2 x=Z (.type T))(f:dX X (e::az) t)(m:x≠"__name__":=by decide)(i:(x==("__debug__":Tj))=false:=by decide)(j:Tu (e::az) X.env=(S6,T4 e X.env)::Tu az X.env:=by rfl)(n:(UJ pos (Tu az X.env)).any (·.1)=false:=by rfl):ai X (.Call (.Name x p) (e::az) [] pos) (z2 r t):=by
 intro a s b H Q I h;refine Po (f3 I k l o ?_ m i);exact O4 (aV (f pos a s b H _ I h) λw v ⟨y,c,d,u,q⟩=>g a v b c y w Q d u q) j n
end
end aJ
namespace bL
open PySem PyProof.Rows
noncomputable def lexLt:List Int->List Int->Bool
 |[],[]=>S6
 |[],_::_=>J
 |_::_,[]=>S6
 |x::xs,y::ys=>if x=y then lexLt xs ys else decide (x<y)
def GI(x y)(xs ys):lexLt (x::xs) (y::ys)=if x=y then lexLt xs ys else decide (x<y):=rfl
def GL:lexLt [] []=false:=rfl
def GK(y)(ys):lexLt [] (y::ys)=true:=rfl
def GJ(x)(xs):lexLt (x::xs) []=false:=rfl
def Dt(A)(s)(a)(t)(c)(u):∃e,WD A s (.int a t) (.int c u) e/\(e=J<->a=c) :=
 ⟨(a==c),SeqAt.EqAt.int_int a t c u,by simp⟩
def Jt(A)(s)(a)(t)(c)(u)(prog)(w)(E)(Q)(h:Q (.bool (decide (a<c))) s):
  Ta (Tc prog w) A (richCompare .Lt (.int a t) (.int c u)) Q E s :=
 (PyProof.Rows.lt_int h:Ta (Tc prog w) A (TP .Lt (.int a t) (.int c u)) Q E s)
section
open PySem.SeqAt
open PySem.AutoSeq1 (wpAny_loadPart')
open PySem.MeetsSeq PySem.MeetsSeq2 PySem.MeetsSeq3
def MS(l b)(f i)(n a1)(dd L)(a2 aj)(ns r)(D:TR f.toList ns)(G:TR i.toList r):
  Meets (Uh.«tuple.__lt__» ⟨[.ref l,.ref b],[]⟩)
   (λ_ R s=>s.heap.get? l=Z { cls:=.type "tuple",dict:=dd,data:=.seq f n,slots:=a2 }/\s.heap.get? b=Z { cls:=.type "tuple",dict:=L,data:=.seq i a1,slots:=aj } /\
    R (.ok (.ret (.bool (lexLt ns r)))) s) :=
 .of_wp λprog w A R s h=>by
  obtain⟨o,g,d,tk,os⟩:=s;obtain⟨O,M,h⟩:=h;have ar:=Sh;have ao:f.size=ns.length:=(by rw[<- D.length];simp);have ax:i.size=r.length:=by rw[<- G.length];simp
  wp_walk using wpAny_loadPart' O,wpAny_loadPart' M,Rq _ (λI b s'=>b.1=Y/\s'=⟨o,g,d,tk,os⟩/\∃(v z:List S8)(k j:List Int),I=v.zip z /\
   TR v k/\TR z j/\k.length+i.size=j.length+f.size/\R (.ok (.ret (.bool (lexLt k j)))) ⟨o,g,d,tk,os⟩) _
  case turn =>
   rintro⟨y,x⟩ I b s' ⟨B,rfl,v,z,k,j,hz,C,p,m,hR⟩;cases C with
   |nil=>rw[List.zip_nil_left]at hz;cases hz
   |cons a t T =>
    cases p with
    |nil=>rw[List.zip_nil_right]at hz;cases hz
    |cons c u U =>
     rw[WE]at hz;injection hz with a0 Q;injection a0 with X V;subst X V;rw[GI]at hR;simp only[To]at m;obtain⟨e,N,E⟩:=Dt A.in1 ⟨o,g,d,tk,os⟩ a t c u;refine Oh (N prog w _ _ ?_);cases e with
     |true =>
      rw[if_pos (E.mp rfl)]at hR
      wp_walk
      exact⟨rfl,rfl,_,_,_,_,Q,T,U,by omega,hR⟩
     |false =>
      rw[if_neg (λq=>absurd (E.mpr q) Pc)]at hR;have S:=Jt A.in1 ⟨o,g,d,tk,os⟩ a t c u prog w
      wp_walk using S
      exact⟨_,rfl,by simpa using hR⟩
  case fin =>
   rintro⟨b1,b2⟩ s' ⟨B,rfl,v,z,k,j,hz,C,p,m,hR⟩;simp only at B;subst B;have H:lexLt k j=decide (f.size<i.size):=by
    cases C with
    |nil =>
     cases p with
     |nil =>
      simp only[TG]at m;rw[GL];exact(decide_eq_false (by omega)).symm
     |cons c u hw =>
      simp only[TG,To]at m;rw[GK];exact(decide_eq_true (by omega)).symm
    |cons a t H =>
     cases p with
     |nil =>
      simp only[TG,To]at m;rw[GJ];exact(decide_eq_false (by omega)).symm
     |cons c u hw =>
      rw[WE]at hz;cases hz
   rw[H]at hR
   wp_walk
   exact⟨_,rfl,by simpa[Builtin.Tuple.tupleCompareSizes] using hR⟩
  case h =>
   exact⟨rfl,rfl,f.toList,i.toList,ns,r,rfl,D,G,by omega,h⟩
end
section
variable{prog:TK}{w:TU}{A:TO}{E:S8->S9->Prop}{s:S9}
def xS(r:Xs s.heap l j)(o:Xs s.heap b k)(p:TR j.toList ns)(q:TR k.toList a)(t:A.units<TS)(h:Q (.bool (lexLt ns a)) s):Ta (Tc prog w) A (TP .Lt (.ref l) (.ref b)) Q E s:=by
 obtain⟨⟨z,dd,C,v⟩,g,c,n,e⟩:=id r;obtain⟨⟨B,m,data2,y⟩,i,d,u,f⟩:=id o;simp only at c e d f;subst c e d f;exact richCompare_meets_room (op:=.Lt) ⟨_,g,rfl⟩ ⟨_,i,rfl⟩ PySem.F.slot_tuple_lt PySem.F.entry_tuple_lt (PySem.F.args_tuple_lt_2 _ _) (MS l b j k n u dd m v y ns a p q)
  ⟨g,i,show UW (lexLt ns a)≠Value.notImplemented/\Q (.bool (lexLt ns a)) s from⟨(λx=>nomatch x),h⟩⟩ t
def Cd(v:Xs s.heap t c.toArray)(u:Xs s.heap b a.toArray)(l:c≠[])(q:a=[]->Q (.ref t) s)(r:a≠[]->Q (.ref s.heap.objs.size) { s with heap:=s.heap.push { cls:=.type "tuple",data:=.seq (c++a).toArray } })(hsz:c.length+a.length<=Tx):Ta (Tc prog w) A (TV .Add (.ref t) (.ref b)) Q E s:=by
 obtain⟨⟨cls,dd,data,o⟩,d,h,n,j⟩:=id v;obtain⟨⟨x,g,data2,p⟩,f,i,m,k⟩:=id u;simp only at h j i k;subst h j i k;have e:c.toArray++a.toArray=(c++a).toArray:=by simp
 by_cases hw:a=[]
 .exact Sv ⟨_,d,rfl⟩ ⟨_,f,rfl⟩ Sj SR Rb Q8 (Q4 _ _)
   (tuple_addW1 t b c.toArray a.toArray n m dd g o p (by simpa using l) (by simp[hw])) ⟨d,f,q hw⟩
 .refine Sv ⟨_,d,rfl⟩ ⟨_,f,rfl⟩ Sj SR Rb Q8 (Q4 _ _)
   (tuple_addW2 t b c.toArray a.toArray n m dd g o p (by simpa using l) (by simpa using hw) (by rw[OE,OE];exact hsz)) ⟨d,f,?_⟩
  rw[e];exact r hw
noncomputable def aQ(n d:Nat):Option Int->Nat
 |none=>d
 |some v=>if v<0 then(v+(n:Int)).toNat else min v.toNat n
def pF(n d)(b:d<=n)(o):aQ n d o<=n:=by
 cases o with
 |none=>exact b
 |some v =>
  show(if v<0 then(v+(n:Int)).toNat else min v.toNat n)<=n
  by_cases a:v<0
  .rw[if_pos a];omega
  .rw[if_neg a];exact Nat.min_le_right _ _
def vi(v)(n d:Nat):(if v<0 then max (v+(n:Int)) 0 else min v (n:Int))=((aQ n d (Z v):Nat):Int):=by
 show(if v<0 then max (v+(n:Int)) 0 else min v (n:Int))=(((if v<0 then(v+(n:Int)).toNat else min v.toNat n):Nat):Int)
 by_cases a:v<0
 .simp only[if_pos a];omega
 .simp only[if_neg a];omega
def A6(lo a)(n:Nat):UE lo a 1 (n:Int)=(((aQ n 0 lo:Nat):Int),((aQ n n a:Nat):Int)):=by
 have b:¬((1:Int)<0):=by omega
 unfold UE;simp only[b,OH];refine Prod.ext ?_ ?_
 .cases lo with
  |none=>rfl
  |some v=>exact vi v n 0
 .cases a with
  |none=>rfl
  |some v=>exact vi v n n
def IV(i j:Nat):Ur (i:Int) (j:Int) 1=j-i:=by
 unfold Ur;have a:(1:Int)>0:=by omega
 simp only[a,Pb,Int.ediv_one]
 split<;>omega
def zM(p:VK v o)(h:Q o s):Ta (Tc prog w) A (Builtin.Slice.slicePartIndex v) Q E s:=by
 cases p with
 |none=>exact slicePart_none h
 |int i t=>exact slicePart_int h
def zL{lo a:Option Int}{n:Nat}(f:s.heap.IsSliceOf j d e .none)(g:VK d lo)(i:VK e a)(h:Q (((aQ n 0 lo:Nat):Int),1,aQ n n a-aQ n 0 lo) s):Ta (Tc prog w) A (Vg (.ref j) (pure (n:Int))) Q E s:=by
 obtain⟨os,c,k,b⟩:=id f;unfold Vg Builtin.Slice.sliceFields;refine Oh (Oh (Qy c b (x:=d) rfl (Oh (Qy c b (x:=e) rfl (Oh (Qy c b (x:=.none) rfl (Oj ?_)))))));refine Oh (slicePart_none ?_);show Ta _ _ (if ((1:Int)==0)=J then _ else _) _ _ s;rw[if_neg (by decide)];refine Oh (zM g (Oh (zM i (Oh (Oj ?_)))));show Ta _ _ (match UE lo a 1 (n:Int) with|(lo,a)=>pure (lo,(1:Int),Ur lo a 1)) _ _ s;rw[A6 lo a n];show Ta _ _ (pure (((aQ n 0 lo:Nat):Int),(1:Int),Ur ((aQ n 0 lo:Nat):Int) ((aQ n n a:Nat):Int) 1)) _ _ s;rw[IV];exact Oj h
def IS(xs:Array S8)(i k:Nat):((Tp k).filterMap λ(m:Nat)=>xs[((i:Int)+(m:Int)*1).toNat]?).toArray=((xs.toList.drop i).take k).toArray:=by
 have e:(λ(m:Nat)=>xs[((i:Int)+(m:Int)*1).toNat]?)=λm=>xs[i+m]?:=by
  funext m;have:((i:Int)+(m:Int)*1).toNat=i+m:=(by omega);rw[this]
 rw[e];have:=pick_run xs i k;rw[List.filterMap_map]at this;have a:((λx=>xs[x]?) ∘ λx=>i+x)=λm=>xs[i+m]?:=rfl
 rw[a]at this;rw[this]
def EP{lo b:Option Int}(c:Xs s.heap t a)(e:s.heap.IsSliceOf f o p .none)(l:VK o lo)(n:VK p b)(hw:¬(aQ a.size 0 lo=0/\aQ a.size a.size b=a.size))(h:Q (.ref s.heap.objs.size) { s with heap:=s.heap.push { cls:=.type "tuple",data:=.seq ((a.toList.drop (aQ a.size 0 lo)).take (aQ a.size a.size b-aQ a.size 0 lo)).toArray } })(hsz:a.size<=Tx):Ta (Tc prog w) A (Vd (.ref t) (.ref f)) Q E s:=by
 have d:sizeOk (.seq ((a.toList.drop (aQ a.size 0 lo)).take (aQ a.size a.size b-aQ a.size 0 lo)).toArray):=by
  show((a.toList.drop (aQ a.size 0 lo)).take (aQ a.size a.size b-aQ a.size 0 lo)).toArray.size<=Tx;rw[OE,P8,P9,Tt];omega
 have u:aQ a.size a.size b<=a.size:=pF _ _ (Ot _) b;obtain⟨os,k,i,r⟩:=id e;have g:s.TypeIs (.ref f) "slice":=⟨os,k,i⟩;unfold Vd
 try with_reducible refine Pr ?_
 first|refine Oh (Oj ?_)|skip
 refine Oh (wpAny_sequenceKey c.typeIs (by decide) ?_);refine Oh (PH (name:=Ud "__getitem__") c.typeIs Pe
  (Pt Pe c.typeIs Wr ?_ (args_tuple_getitem _ _)))
 show Ta _ _ (Vh (.ref t)>>=_) _ _ s;refine Oh (tupleItemsOf_ c ?_);refine Oh (Qj g ?_);rw[if_pos (by decide)];refine Oh (zL e l n ?_);have j:¬((((aQ a.size 0 lo:Nat):Int)==0&&(1:Int)==1&&(aQ a.size a.size b-aQ a.size 0 lo)==a.size)=J):=by
  intro q;rw[Oi,Oi]at q;have v:((aQ a.size 0 lo:Nat):Int)=0:=eq_of_beq q.1.1;have x:aQ a.size a.size b-aQ a.size 0 lo=a.size:=eq_of_beq q.2;exact hw ⟨by omega,by omega⟩
 show Ta _ _ (if (((aQ a.size 0 lo:Nat):Int)==0&&(1:Int)==1&&(aQ a.size a.size b-aQ a.size 0 lo)==a.size)=J then _ else _) _ _ s;rw[if_neg j,IS]
 first
  |exact Oh (m:=Ue _) (OZ (Oj ⟨_,rfl,Oj h⟩) d)
  |exact Oh (m:=Ue _) (OZ (Oh (Oj (Oj ⟨_,rfl,Oj h⟩))) d)
  |exact Oh (Oh (m:=Ue _) (OZ (Oj (Oj ⟨_,rfl,Oj h⟩)) d))
  |exact Oh (Oh (m:=Ue _) (OZ (Oj ⟨_,rfl,Oj h⟩) d))
end
end bL
namespace aJ
open PySem PySem.Spec PyProof.Rows
noncomputable abbrev ki:=St->ag->(Option Int->ag->Prop)->Prop
def g9(X:au)(e:Option Tq)(t:ki):Prop :=
 ∀(c:List (Td×Uq))(s:S9)(a:St)(H:ag)(Q:Option Int->ag->Prop),Inv X c a H s->t a H Q ->
  Ta (Tc X.prog X.w) X.A (evalPart e X.env) (λu s'=>∃o b,Inv X c a b s'/\VK u o/\Q o b) X.bk s
noncomputable def LR:ki:=λ_ H Q=>Q Y H
noncomputable def LX(t:TE):ki:=λb H Q=>t b H λx a=>∃i,x=.int i/\Q (Z i) a
def intsAre_of:∀{a:List S8},Vals (ns.map V.int) a->TR a ns:=by
 induction ns with
 |nil=>intro a r;rw[P5]at r;cases r;exact .nil
 |cons n ns b =>
  intro a r;rw[Tb]at r;cases r with
  |cons c d =>
   obtain⟨t,e⟩:=c;subst e;exact .cons n t (b d)
section
variable{X:au}{e:Tq}{er:TE}{lo aw:Option Tq}{ie p7:ki}{pos p2:UN}
def IY:g9 X Y LR:=by
 intro a s b H Q I h;rw[evalPart_none];exact Oj ⟨Y,H,I,.none,h⟩
def IZ(h:ai X e er):g9 X (Z e) (LX er):=by
 intro c s j H Q I hw;rw[evalPart_some];refine aV (h c s j H _ I hw) λu k g=>?_
 obtain⟨x,a,b,f,d⟩:=g;obtain⟨i,rfl,q⟩:=d;obtain⟨t,rfl⟩:=f;exact⟨Z i,a,b,.int i t,q⟩
def l5(X:au)(r:V->Option Int->Option Int->ag->ck->Prop):Prop :=
 ∀(a:List (Td×Uq))(s:S9)(f:St)(H:ag)(x:V)(v c d:S8)(lo aw:Option Int)(b:Td)(Q:ck),Inv X a f H s->RelV x v->s.heap.IsSliceOf b c d .none->VK c lo->VK d aw->r x lo aw H Q ->
  ∃T id,typeLookup (.type T) "__getitem__"=pure (Z (.builtin id))/\s.TypeIs v T/\Ta (Tc X.prog X.w) X.A (Vd v (.ref b)) (c3 X a f Q) X.bk s
noncomputable def L0(r:V->Option Int->Option Int->ag->ck->Prop)(er:TE)(ie p7:ki):TE:=λa H Q=>er a H λx b=>ie a b λl c=>p7 a c λu d=>r x l u d Q
def ID(z:l5 X r)(t:ai X e er)(y:g9 X lo ie)(B:g9 X aw p7):ai X (.Subscript e (.Slice lo aw Y p2) pos) (L0 r er ie p7):=by
 intro a s c H Q I h;refine Subscript_ (aV (t a s c H _ I h) λv N O=>?_);obtain⟨x,i,k,M,E⟩:=O;refine wpAny_Slice (aV (y a N c i _ k E) λd s2 ⟨l,j,m,C,G⟩=>aV (B a s2 c j _ m G) λf s3 ⟨u,g,n,D,L⟩=>?_);rw[evalPart_none];refine Oj ?_;have o:Inv X a c g { s3 with heap:=s3.heap.push { cls:=.type "slice",data:=.fields #[d,f,.none] } }:=n.kept (t':=s3.toks) λb R q=>Ol _ q
 obtain⟨T,id,p,A,w⟩:=z a { s3 with heap:=s3.heap.push { cls:=.type "slice",data:=.fields #[d,f,.none] } } c g x v d f l u s3.heap.objs.size Q o M (Heap.IsSliceOf.new ..) C D L;show Ta (Tc X.prog X.w) X.A (Ww e (.Slice lo aw Y p2) v (.ref s3.heap.objs.size)) (c3 X a c Q) X.bk { s3 with heap:=s3.heap.push { cls:=.type "slice",data:=.fields #[d,f,.none] } };exact tail_any (ops:=[.ref s3.heap.objs.size,v]) A p w (by with_unfolding_all rfl)
noncomputable def hN(xs:List V)(lo aw:Option Int):List V:=(xs.drop (bL.aQ xs.length 0 lo)).take (bL.aQ xs.length xs.length aw-bL.aQ xs.length 0 lo)
def vs(xs)(lo aw):(hN xs lo aw).length<=xs.length:=by
 unfold hN;rw[P8,P9];omega
noncomputable def Jo(K:W.Frag):V->Option Int->Option Int->ag->ck->Prop:=λx lo aw H Q=>∃a xs,x=.ref a/\dN K H a xs /\
 ¬(bL.aQ xs.length 0 lo=0/\bL.aQ xs.length xs.length aw=xs.length)/\∀p,H p=Y->Q (.ref p) (upd H p (.tup (hN xs lo aw)))
def K6:l5 X (Jo X.K):=by
 intro m s u H x v p t lo aw n Q I k f i j h;obtain⟨a,xs,rfl,g,hw,q⟩:=h;cases k;obtain⟨its,r,d,hz⟩:=I.tuple g;have c:its.toArray.size=xs.length:=by rw[OE];exact r.length.symm
 refine⟨"tuple",_,Pe.lookup,d.typeIs,?_⟩;refine bL.EP d f i j (by rw[c];exact hw) ?_ (by rw[c];exact hz);rw[c];refine⟨.ref s.heap.objs.size,_,I.laid (t':=s.toks) (o:=.tup (hN xs lo aw)) (λb l q=>Ol _ q) (Ot _) ?_,rfl,q _ (I.aK.fresh (Ot _))⟩;exact⟨O3 (vs xs lo aw) hz,_,(r.drop (bL.aQ xs.length 0 lo)).take (bL.aQ xs.length xs.length aw-bL.aQ xs.length 0 lo),XO _ _⟩
noncomputable def Jl(K:W.Frag):gi:=λx y H Q=>∃a b ns c,x=.ref a/\y=.ref b/\dN K H a (ns.map V.int)/\dN K H b (c.map V.int)/\Q (.ah (bL.lexLt ns c)) H
def H6(f:X.A.units<TS):b0 X (TP .Lt) (Jl X.K):=by
 intro o s p H x y v u Q I m n h;obtain⟨a,b,ns,ms,rfl,rfl,c,d,q⟩:=h;cases m;cases n;obtain⟨its,k,p1,_⟩:=I.tuple c;obtain⟨j,l,p2,_⟩:=I.tuple d;have g:TR its.toArray.toList ns:=intsAre_of k;have i:TR j.toArray.toList ms:=intsAre_of l;exact bL.xS p1 p2 g i f ⟨.ah (bL.lexLt ns ms),H,I,rfl,q⟩
end
end aJ
namespace aJ
open PySem PySem.Spec PyProof.Rows
noncomputable def gv(n:Nat)(i:Int):Option Nat:=if 0<=i then(if i<n then Z i.toNat else Y) else if -(n:Int)<=i then Z (i+n).toNat else Y
def ju{α:Type}(xs:List α)(i:Int):Option α:=(gv xs.length i).bind λj=>xs[j]?
def FN(h:gv n i=Z j):seqIndex? i n=Z j/\j<n/\-(n:Int)<=i/\i<n:=by
 unfold gv at h
 by_cases h0:0<=i
 .rw[if_pos h0]at h
  by_cases a:i<n
  .rw[if_pos a]at h;have e:i.toNat=j:=O1 h;exact⟨by rw[seqIndex_of h0 a,e],by omega,by omega,a⟩
  .rw[if_neg a]at h;cases h
 .rw[if_neg h0]at h
  by_cases a:-(n:Int)<=i
  .rw[if_pos a]at h;have e:(i+n).toNat=j:=O1 h;exact⟨by rw[seqIndex_neg (by omega) a,e],by omega,a,by omega⟩
  .rw[if_neg a]at h;cases h
def qR{α:Type}{xs:List α}{v:α}(h:ju xs i=Z v):∃j,seqIndex? i xs.length=Z j/\xs[j]?=Z v/\j<xs.length/\-(xs.length:Int)<=i/\i<xs.length:=by
 unfold ju at h;cases e:gv xs.length i with
 |none=>rw[e]at h;cases h
 |some j =>
  rw[e]at h;obtain⟨a,b,c,d⟩:=FN e;exact⟨j,a,h,b,c,d⟩
def qD(b:Tq):Prop:=∀o i,V8 b S6 o i=operate [o,i] (Vd o i)
def hF(X:au)(r:gi):Prop :=
 ∀(d b:Tq)(a:List (Td×Uq))(s:S9)(c:St)(H:ag)(x y:V)(v u:S8)(Q:ck),Inv X a c H s->RelV x v->RelV y u->r x y H Q ->
  V8 b S6 v u=operate [v,u] (Vd v u)->Ta (Tc X.prog X.w) X.A (Ww d b v u) (c3 X a c Q) X.bk s
def A3(X:au)(id:String)(r:V->List V->ag->ck->Prop):Prop :=
 ∀(a:List (Td×Uq))(s:S9)(c:St)(H:ag)(x:V)(xs:List V)(v:S8)(b:List S8)(Q:ck),Inv X a c H s->RelV x v->Vals xs b->r x xs H Q ->
  Ta (Tc X.prog X.w) X.A (call (.builtin id) (v::b)) (c3 X a c Q) X.bk s
section
variable{X:au}{a b:Tq}{cH cI:TE}{pos:UN}
def hF.or(h:hF X r)(h':hF X k):hF X (λx y H Q=>r x y H Q\/k x y H Q):=by
 intro i g d s j H x y v u Q I e f q c;rcases q with q|q
 .exact h i g d s j H x y v u Q I e f q c
 .exact h' i g d s j H x y v u Q I e f q c
def Iy(g:hF X r)(e:ai X a cH)(f:ai X b cI)(i:qD b):ai X (.Subscript a b pos) (nz r cH cI):=by
 intro j s m H Q I h;exact Subscript_ (rz e f I h λv u s2 x y c d k l q=>g a b j s2 m c x y v u Q d k l q (i _ _))
noncomputable def yU(K:W.Frag):gi:=λx y H Q=>∃p xs i v,x=.ref p/\y=.int i/\cp K H p xs/\ju xs i=Z v/\Q v H
noncomputable def yW(K:W.Frag):gi:=λx y H Q=>∃p xs i v,x=.ref p/\y=.int i/\dN K H p xs/\ju xs i=Z v/\Q v H
noncomputable def yV:gi:=λx y H Q=>∃z i c,x=.str z/\y=.int i/\z.length<=Tx/\ju z.cps.toList i=Z c/\Q (.str ⟨#[c]⟩) H
def FO:hF X (yU X.K):=by
 intro O N k s l H x y v u Q I E G h g;obtain⟨p,xs,i,z,rfl,rfl,C,A,q⟩:=h;cases E;obtain⟨t,rfl⟩:=G;obtain⟨its,r,e,hz⟩:=I.list C;obtain⟨j,c,m,L,n,o⟩:=qR A;obtain⟨w,f,D⟩:=r.get m;have B:=r.length;have M:=oZ;have fin:c3 X k l Q w s:=⟨z,H,I,D,q⟩
 by_cases h0:0<=i
 .have d:i.toNat=j:=by
   rw[seqIndex_of h0 o]at c;exact O1 c
  exact item_listR e.isList h0 (by omega) (by rw[d];simpa using f) fin g
 .have d:(i+(its.toArray.size:Int)).toNat=j:=by
   rw[seqIndex_neg (by omega) n]at c;rw[OE,<- B];exact O1 c
  exact VL (x:=w) e.isList.typeIs slot_list_getitem.lookup
   (wpAny_getItem_list_neg (Q:=λr s'=>r=w/\c3 X k l Q r s') e.isList (by omega) (by rw[OE]<;>omega) (by omega) (by rw[d];simpa using f) ⟨rfl,fin⟩) g
def FT:hF X (yW X.K):=by
 intro N M c s e H x y v u Q I B C h o;obtain⟨p,xs,i,z,rfl,rfl,n,l,q⟩:=h;cases B;obtain⟨t,rfl⟩:=C;obtain⟨its,r,d,hz⟩:=I.tuple n;obtain⟨j,g,k,D,E,G⟩:=qR l;obtain⟨w,f,A⟩:=r.get k;have m:=r.length;have L:=oZ;have fin:c3 X c e Q w s:=⟨z,H,I,A,q⟩;exact VL (x:=w) d.typeIs slot_tuple_getitem.lookup
  (getItem_tuple (j:=j) (Q:=λr s'=>r=w/\c3 X c e Q r s') d (by omega) (by omega) (by rw[OE,<- m];exact g) (by simpa using f) ⟨rfl,fin⟩) o
def FR:hF X yV:=by
 intro C B A s D H x y v u Q I o p h n;obtain⟨z,i,c,rfl,rfl,hz,l,q⟩:=h;obtain⟨t,rfl⟩:=o;obtain⟨t',rfl⟩:=p;obtain⟨j,d,f,r,g,k⟩:=qR l;have m:z.cps.toList.length=z.length:=by simp[Str.length]
 rw[m]at d g k;have w:=oZ;exact tail_any (typeIs_str s z t) slot_str_getitem.lookup (getItem_str (c:=c) (by
  have e1:decide (i < -(2 ^ 63:Int))=false:=decide_eq_false (by omega);have e:decide (i>=2 ^ 63)=false:=decide_eq_false (by omega);rw[e1,e,Bool.or_false]) (by rw[d];simpa using f) ⟨.str ⟨#[c]⟩,H,I.tok _,⟨_,rfl⟩,q⟩) n
noncomputable def Jk(K:W.Frag):gi:=λx y H Q=>yU K x y H Q\/yW K x y H Q\/yV x y H Q
def FQ:hF X (Jk X.K):=FO.or (FT.or FR)
def K8(lo c)(n):(UM lo c Y n).1=((bL.aQ n 0 lo:Nat):Int)/\(UM lo c Y n).2.1=((bL.aQ n n c:Nat):Int)/\(UM lo c Y n).2.2=1:=by
 refine⟨?_,?_,rfl⟩
 .cases lo with
  |none=>simp[UM,bL.aQ]
  |some i =>
   simp only[UM,bL.aQ,W0,show(1:Int)>0 by decide,Pb]
   by_cases h:i<0
   .simp only[h,Pb]<;>omega
   .simp only[h,OH]<;>omega
 .cases c with
  |none=>simp[UM,bL.aQ]
  |some i =>
   simp only[UM,bL.aQ,W0,show(1:Int)>0 by decide,Pb]
   by_cases h:i<0
   .simp only[h,Pb]<;>omega
   .simp only[h,OH]<;>omega
def K7(its:List S8)(lo c):slicePick its.toArray lo c Y=((its.drop (bL.aQ its.length 0 lo)).take (bL.aQ its.length its.length c-bL.aQ its.length 0 lo)).toArray:=by
 obtain⟨d,e,f⟩:=K8 lo c its.toArray.size;unfold slicePick;rw[d,e,f];simp only[sliceRange_one,pick_run,OE]<;>rfl
noncomputable def Jn(K:W.Frag):V->Option Int->Option Int->ag->ck->Prop:=λx lo c H Q=>∃a xs,x=.ref a/\cp K H a xs/\∀p,H p=Y->Q (.ref p) (upd H p (.lst (hN xs lo c)))
def K4:l5 X (Jn X.K):=by
 intro m s u H x v p t lo c n Q I k f i j h;obtain⟨a,xs,rfl,g,q⟩:=h;cases k;obtain⟨its,r,d,hz⟩:=I.list g;have e:=r.length;refine⟨"list",_,slot_list_getitem.lookup,d.isList.typeIs,?_⟩;refine wpAny_getItem_list_slice d.isList f i j .none (by simp) ?_ (by rw[OE]<;>omega);rw[K7,<- e];refine⟨.ref s.heap.objs.size,_,I.laid (t':=s.toks) (o:=.lst (hN xs lo c)) (λb l q=>Ol _ q) (Ot _) ?_,rfl,q _ (I.aK.fresh (Ot _))⟩;exact⟨O3 (vs xs lo c) hz,_,0,(r.drop (bL.aQ xs.length 0 lo)).take (bL.aQ xs.length xs.length c-bL.aQ xs.length 0 lo),OA _ rfl⟩
def u2:eV X (.builtin "len") (λxs H Q=>∃p ys,xs=[.ref p]/\(cp X.K H p ys\/dN X.K H p ys)/\Q (.int ys.length) H):=by
 intro j s l H xs k Q I r h;obtain⟨p,ys,rfl,c,q⟩:=h;obtain⟨u,rfl,g⟩:=vals1 r;cases g;have i:=oZ;rcases c with c|c
 .obtain⟨its,f,e,hz⟩:=I.list c;have d:=f.length;exact Calls.call_len_list e.isList (by simp only[OE]<;>omega) ⟨.int ys.length,H,I.tok _,⟨s.toks+1,by rw[OE,d]⟩,q⟩
 .obtain⟨its,f,e,hz⟩:=I.tuple c;have d:=f.length;exact len_tuple e (by simp only[OE]<;>omega) ⟨.int ys.length,H,I.tok _,⟨s.toks+1,by rw[OE,d]⟩,q⟩
def u4:eV X (.type "tuple") (λxs H Q=>∃p ys,xs=[.ref p]/\((cp X.K H p ys/\∀l,H l=Y->Q (.ref l) (upd H l (.tup ys)))\/(dN X.K H p ys/\Q (.ref p) H))):=by
 intro i s j H xs v Q I r h;obtain⟨p,ys,rfl,h⟩:=h;obtain⟨u,rfl,n⟩:=vals1 r;cases n;rcases h with⟨c,q⟩|⟨c,q⟩
 .obtain⟨its,f,d,hz⟩:=I.list c;have t:=f.length;refine call_tuple_list d.isList (λh' m=>?_) (by simp only[OE]<;>omega);have g:Inv X i j H { s with heap:=h' }:=I.kept (t':=s.toks) m;have k:Inv X i j (upd H h'.objs.size (.tup ys)) { s with heap:=h'.push { cls:=.type "tuple",data:=.seq its.toArray } } :=
   g.laid (t':=s.toks) (λb o e=>Ol _ e) (Ot _) (show bZ X.prog X.w _ _ _ (.tup ys) from⟨hz,its,f,XO _ _⟩)
  exact⟨.ref h'.objs.size,_,k,rfl,q _ (g.aK.fresh (Ot _))⟩
 .obtain⟨its,f,d,hz⟩:=I.tuple c;exact call_tuple_same d ⟨.ref p,H,I,rfl,q⟩
def Ax(K:W.Frag)(T:String)(x:V)(H:ag):Prop:=match x with
 |.str _=>T="str"
 |.int _=>T="int"
 |.ref p=>(T="list"/\∃xs,cp K H p xs)\/(T="tuple"/\∃o,K.lookup p=Z o/\o.cls=.type "tuple"/\o.dict=Y) \/
   (T="dict"/\((∃c,H p=Z (.b5 c))\/∃c,H p=Z (.cm c)))\/(T="set"/\∃S n,H p=Z (.set S n))
 |_=>False
def M3{w:St}(I:Inv X y w H s)(r:RelV x v)(g:Ax X.K T x H):
  s.TypeIs v T/\∀a,v=.ref a->∃k,s.heap.get? a=Z k/\k.dict=none:=by
 cases x with
 |str z =>
  obtain⟨t,rfl⟩:=r;cases (show T="str" from g);exact⟨typeIs_str s z t,λ_ e=>nomatch e⟩
 |int i =>
  obtain⟨t,rfl⟩:=r;cases (show T="int" from g);exact⟨typeIs_int s i t,λ_ e=>nomatch e⟩
 |ref p =>
  cases r;rcases g with⟨rfl,xs,q⟩|⟨rfl,o,d,m,j⟩|⟨rfl,d⟩|⟨rfl,S,n,d⟩
  .obtain⟨its,_,l,_⟩:=I.list q;refine⟨l.isList.typeIs,λa e=>?_⟩;cases e;obtain⟨o,n,e,c,j,_⟩:=l;exact⟨o,e,j⟩
  .refine⟨⟨o,I.dS p o d,m⟩,λa e=>?_⟩;cases e;exact⟨o,I.dS _ o d,j⟩
  .have z:∃o,s.heap.get? p=Z o/\o.ExactDict:=by
    rcases d with⟨u,d⟩|⟨u,d⟩
    .obtain⟨_,_,_,_,o,_,_,e,f,_⟩:=I.aK p _ d;exact⟨o,e,f⟩
    .obtain⟨_,_,_,_,o,_,_,e,f,_⟩:=I.aK p _ d;exact⟨o,e,f⟩
   obtain⟨o,e,f⟩:=z;refine⟨⟨o,e,f.1⟩,λa h=>?_⟩;cases h;exact⟨o,e,f.2.1⟩
  .obtain⟨o,_,_,_,e,f,_⟩:=I.aK p _ d;refine⟨⟨o,e,f.1⟩,λa h=>?_⟩;cases h;exact⟨o,e,f.2.1⟩
 |_=>exact UD g
noncomputable def LD(K:W.Frag)(T:String)(r:V->List V->ag->ck->Prop)(f:TE)(t:eK):TE:=λd H Q=>f d H λx c=>Ax K T x c/\t d c λxs e=>r x xs e Q
variable{o e:Tq}{az:List Tq}{to:TE}{t:eK}{name:Tj}{apos dD:UN}{T id:String}{r:V->List V->ag->ck->Prop}
def pl(D:PlainAttrs T)(N:Slot T name id)(C:VM (.builtin id)=pure (.type "method_descriptor"))(y:A3 X id r)(z:ai X o to)(p:dX X (e::az) t)(q:UY o name X.env (T4 o X.env)=T4 o X.env:=by rfl)(u:((UJ dD (Tu (e::az) X.env)).all (λx=>!x.1)&&(Xw dD (V9 [] X.env)).all (λx=>x.1.isSome)
   && decide ((e::az).length+([]:List Vc).length+(if ([]:List Vc).isEmpty then 0 else 1)<30))=true:=by rfl)(w:(apos.endLine==dD.line)=true:=by rfl)(B:Tu (e::az) X.env=(S6,T4 e X.env)::Tu az X.env:=by rfl)(A:(UJ dD (Tu az X.env)).any (·.1)=false:=by rfl):
  ai X (.Call (.Attribute o name apos) (e::az) [] dD) (LD X.K T r to t):=by
 intro c s d H Q I h;refine wpAny_Call_method_late q u w rfl (aV (z c s d H _ I h) λv M U=>?_);obtain⟨x,j,f,i,O,E⟩:=U;obtain⟨m,n⟩:=M3 f i O;refine⟨T,id,D,N,C,m,n,?_⟩;have g:=p dD c M d j _ f E;rw[B]at g ⊢;refine VN (by show(S6||(UJ dD (Tu az X.env)).any (·.1))=S6;rw[A]<;>rfl) (RC ?_);exact aV g λR s2 ⟨S,k,l,L,G⟩=>y c s2 d k x S v R Q l i L G
end
end aJ
namespace aJ
open PySem PySem.Spec PyProof.Rows
def nU(X:au)(id:String)(r:V->List V->ag->ck->Prop):Prop :=
 ∀(a:List (Td×Uq))(s:S9)(c:St)(H:ag)(x:V)(xs:List V)(v:S8)(b:List S8)(Q:ck),Inv X a c H s->RelV x v->Vals xs b->r x xs H Q ->
  Ta (Tc X.prog X.w) X.A (call (.builtin id) (v::b)) (c3 X a c Q) X.bk s
def Vals.one:∀{x:V}{a:List S8},Vals [x] a->∃u,a=[u]/\RelV x u:=by
 intro x a h;cases h with
 |cons r h=>cases h;exact⟨_,rfl,r⟩
theorem Vals.rep(h:Vals xs a):∀k:Nat,Vals (Tr k xs).flatten (Tr k a).flatten
 |0=>.nil
 |k+1=>by
  rw[PR,PR,Qk,Qk];exact Vals.append h (Vals.rep h k)
theorem foldl_rep(its):∀(k:Nat)(a:List S8),
  Xx (λc d=>c++d) a.toArray (Tr k its.toArray)=(a++(Tr k its).flatten).toArray
 |0,a=>by simp
 |k+1,a=>by
  have e:a.toArray++its.toArray=(a++its).toArray:=(by simp);have b:(a++its)++(Tr k its).flatten=a++(Tr (k+1) its).flatten:=by
   rw[PR,Qk,Pk]
  rw[<- b,<- foldl_rep its k (a++its),<- e,PR,Ua]
section
variable{X:au}{pins:List (Td×Uq)}{σ:St}{H:ag}{s:S9}{l b:Td}{xs ys zs:List V}
def Inv.xO{its its':List S8}(I:Inv X pins σ H s)(a:H l=Z (.lst xs))(e:s.heap.get? l=Z { cls:=.type "list",data:=.seq its.toArray n })(d:f its.toArray=its'.toArray)(h:Vals ys its')(hz:ys.length<=Tx):
  Inv X pins σ (upd H l (.lst ys)) { s with heap:=s.heap.update l (TX f),toks:=t' }:=by
 have q:=PySem.IsL.update e f;rw[d]at q;refine I.write (x:=l) (e:=l) (by rw[a];exact trivial) (.inl rfl) (λi u c g=>(OR s.heap (TX f) (Pd c)).trans g) ⟨_,q⟩ ?_;exact⟨hz,its',_,h,q⟩
def Inv.xI(I:Inv X pins σ H s)(a:Vals ys its)(hz:ys.length<=Tx):
  Inv X pins σ (upd H s.heap.objs.size (.lst ys)) { s with heap:=s.heap.push { cls:=.type "list",data:=.seq its.toArray },toks:=t' } :=
 I.laid (λ_ _ q=>Ol _ q) (Ot _) ⟨hz,its,0,a,OA _ rfl⟩
theorem Inv.fresh(I:Inv X pins σ H s):H s.heap.objs.size=none:=I.aK.fresh (Ot _)
def Inv.xP(I:Inv X pins σ H s)(a:H l=Z (.lst xs)):xs.length<=Tx/\∃(its:List S8)(n:Nat),Vals xs its/\xs.length=its.length/\s.heap.get? l=Z { cls:=.type "list",data:=.seq its.toArray n }:=by
 obtain⟨z,its,n,r,e⟩:=I.aK l _ a;exact⟨z,its,n,r,r.length,e⟩
def yd(h:n<=Tx):Uw n=false:=by
 unfold Uw;exact decide_eq_false (by omega)
end
section
variable{X:au}
noncomputable def Ji:V->List V->ag->ck->Prop:=λx a H Q=>∃l xs y,x=.ref l/\a=[y]/\H l=Z (.lst xs)/\xs.length<Tx/\Q .bG (upd H l (.lst (xs++[y])))
def x1:nU X "list.append" Ji:=by
 intro g s k H x j v i Q I d c h;obtain⟨l,xs,y,rfl,rfl,a,hz,q⟩:=h;cases d;obtain⟨u,rfl,b⟩:=c.one;obtain⟨z,its,n,r,f,e⟩:=I.xP a;refine RT F.slot_list_append ⟨_,e,rfl⟩ F.entry_list_append (F.args_list_append_2 _ _) (PySem.list_append l its.toArray n u (by rw[OE];omega)) ⟨e,?_⟩;refine⟨.bG,_,I.xO (its':=its++[u]) a e (by simp) (r.append (.cons b .nil)) ?_,rfl,q⟩;rw[Oo,TB];omega
def len_rep{α:Type}(xs:List α)(k):(Tr k xs).flatten.length=k*xs.length:=by
 induction k with
 |zero=>simp
 |succ k a=>rw[PR,Qk,Oo,a,Nat.succ_mul,S1]
end
section
variable{prog:TK}{w:TU}{A:TO}{E:S8->S9->Prop}{s:S9}
end
section
variable{X:au}
end
end aJ
namespace uh
open PySem PySem.W PySem.Calls PyProof.Rows
def Fp:∀(ns:List Int)(c:List S8),WellAll P h c (ns.map WData.int)->TR c ns:=by
 intro ns
 induction ns with
 |nil =>
  intro c w;rw[P5]at w;cases w;exact .nil
 |cons n ns d =>
  intro c w;rw[Tb]at w;cases w with
  |cons a b =>
   cases a;exact .cons _ _ (d _ b)
def KH{l:OpenLaw}(p:l.most=Z n)(f:l.row.toRowW.claim.pre args=J)(u:WellAll P h w args):
  ∃a g ns,w=[Th a]/\args=[WData.list (ns.map WData.int)]/\h.get? a=Z { cls:=.type "list",data:=.seq g.toArray }/\TR g ns/\ns.length<=n:=by
 have t:WShape.hasAll [] args [.list .int]=true:=(pre_splitW f).1;have e:l.pre.holds [] { args:=args }=true:=(pre_splitW f).2;obtain⟨d,r,rfl,i,j⟩:=hasAllW_cons t;obtain rfl:=hasAllW_nil j;obtain⟨xs,rfl,k⟩:=hasW_list i;obtain⟨ns,rfl⟩:=items_int k;have o:ns.length<=n:=by
  unfold OpenLaw.pre at e;have b:(WTm.not (.lt (.lit (.int (n:Int))) (.len (.arg 0)))).holds [] { args:=[.list (ns.map .int)] }=true:=by
   have b:=(holds_andW e).1;rw[p]at b;exact b
  have c:=condW_of b (w_not (w_lt w_lit (w_len_list (w_arg rfl))));rw[S5]at c;refine QS λq=>?_
  have v:(n:Int)<((ns.length:Nat):Int):=by omega
  first
   |(rw[decide_eq_true v]at c;exact absurd c (by decide))
   |(simp at c;omega)
 cases u with
 |cons x y =>
  cases y;cases x with
  |list s m=>exact⟨_,_,ns,rfl,rfl,s,Fp ns _ m,o⟩
def I0(l:OpenLaw)(args):l.row.toRowW.claim.post args (.bool J) args=true :=
 postW_of (r:=l.row.toRowW) (X:=(J==J))
  (show WShape.has [] (.bool J) .bool=J by first|rfl|decide|simp[WShape.has,WShape.arms,WShape.armsAll])
  (show(WTm.eq .res (.lit (.bool J))).value [] { args:=args,res:=Z (.bool J),after:=args }=Z (.bool (J==J)) from w_eq_bool (w_res rfl) w_lit) rfl
def BF{l:OpenLaw}(M:l.most=Z n)(C:d.params.defaults=[])(call:∀(w:TU)(m b:S9)(h j:Tj->Option S8)(e:Td)(o:Uq)(k g i:S8)(a:Td)(c:List S8)(ns:List Int),
   Ground q a0 [] s w m h j b.heap->u w b.heap ->
   b.heap.get? e=Z o->o.data=.func (docDef d.name d.params d.body d.scope k g i)->b.heap.CodeRec g d.name->h d.name=Z (.ref e) ->
   b.heap.get? a=Z { cls:=.type "list",data:=.seq c.toArray }->TR c ns->ns.length<=n->b.gens=#[] ->
   Vb (Tc l.prog w) VO (.call (.ref e) ⟨[.ref a],[]⟩) (λr s'=>r=.ok (.ret (.bool J))/\OldK b.heap s'.heap/\s'.os=b.os/\Va s'.gens) b):
  WalkO q a0 s u l.row.toRowW d [] (λf c=>PySem.call f c):=by
 intro w m b h j G t e o k g i v V N B A p L D args ar as Q a1 aj U a2;obtain rfl:v=.none:=Dflts.none p C;obtain rfl:V=.none:=Dflts.noKw p;obtain⟨a,c,ns,rfl,rfl,O,E,H⟩:=KH M Q U;refine enter_call (RN (call w m b h j e o k g i a c ns G t N (fd_plain B) A L O E H D) λr s' T=>?_);obtain⟨rfl,x,y,z⟩:=T;exact⟨.inl ⟨.bool J,.bool J,[],rfl,λ_=>rfl,.bool J,I0 l _,λ_=>⟨UQ,λ_ I=>(nomatch I)⟩⟩,x,y,z⟩
section
variable{prog:TK}{w:TU}{A:TO}{E:S8->S9->Prop}{s:S9}{K:Frag}
end
end uh
namespace aJ
open PySem PySem.Spec PyProof.Rows
theorem AM:∀{a:List S8}{ns:List Int},TR a ns->Vals (ns.map V.int) a
 |_,_,.nil=>.nil
 |_,_,.cons n t h=>.cons ⟨t,rfl⟩ (AM h)
def qB(H:ag):Prop:=∀b,H b=Y\/∃o xs,H b=Z (.cy o (.lst xs))
def Gr{K:W.Frag}(A:K.In dH.heap)(N:dH.heap.Ns Tz l)(c:dH.heap.Ns builtinsNs Q)(ax:∀x:Tj,x≠"__name__"->Q x=T2 x)(aB:dH.heap.NoLimit)(aA:dH.gens=#[])(j:dH.heap.get? a=Z { cls:=.type "list",data:=.seq f.toArray })(L:TR f ns)(M:ns.length<=Tx)(b1:ea k VO)(F:∀base:TH,K.In base->base.Ns Tz l->g7 P w K l base CX k D fd [x] sp)(ay:∀(s:S9)(u:S8),VJ s fd ⟨[u],[]⟩ [(x,u)])(b2:∀H:ag,qB H->cp K H a (ns.map V.int)->sp [.ref a] H (λv _=>v=.ah J) λ_ _ _=>False)(a2:∀H e s',CX [] H dH (λ_ _ _=>False) e s'->False):
  Vb (Tc P w) VO (.call (.ref D) ⟨[.ref a],[]⟩) (λr s'=>r=.ok (.ret (.bool J))/\OldK dH.heap s'.heap/\s'.os=dH.os/\Va s'.gens) dH:=by
 have R:=AM L;have aX:=L.length;have C:∀H:ag,qB H->cp K H a (ns.map V.int)->cD P w H dH.heap->(∀b,H b≠Y->b=a)->(H a≠Y->K.lookup a=Y) ->
   Vb (Tc P w) VO (.call (.ref D) ⟨[.ref a],[]⟩) (λr s'=>r=.ok (.ret (.bool J))/\OldK dH.heap s'.heap/\s'.os=dH.os/\Va s'.gens) dH:=by
  intro H I ao O E aj;have B:∀{b:Td}{o:Uq},dH.heap.get? b=Z o->H b=Y->(hY dH.heap H).get? b=Z o:=λe n=>E3 e n
  have a7:∀{b:Td}{o:Uq}{g:Array W2}{gQ:Nat},dH.heap.get? b=Z o->o.data=.dict g gQ->H b=none:=λ{b o g gQ} e d=>by
   cases q:H b with
   |none=>rfl
   |some u =>
    have t:b=a:=E b (by rw[q];simp);subst t;rw[j]at e;cases e;have d':Data.seq f.toArray _=Data.dict g gQ:=d;cases d'
  have p:∀{b:Td}{m:Tj->Option S8},dH.heap.Ns b m->(hY dH.heap H).Ns b m:=λ{b m} ⟨o,g,gQ,e,d,r⟩=>⟨o,g,gQ,B e (a7 e d),d,r⟩;have G:K.In (hY dH.heap H):=λb o e=>B (A b o e) (by
   cases q:H b with
   |none=>rfl
   |some u =>
    have t:b=a:=E b (by rw[q];simp);subst t;rw[aj (by rw[q];simp)]at e;cases e)
  have ar:Mod K l (hY dH.heap H):=⟨G,p N,⟨Q,p c,ax⟩,let ⟨bb,a0,a1⟩:=aB;⟨bb,p a0,a1⟩⟩;have e0:nM P w K l (hY dH.heap H) VO [] dH H:=⟨rfl,ar,λb o e=>HY e,Nat.le_of_eq (E4 _ _),trivial,λb c=>absurd (show b∈([]:List Td) from c) (by simp),O,.of_eq aA⟩;refine RN ((F _ G (p N)).run VO [] dH H ⟨[.ref a],[]⟩ [.ref a] [.ref a] _ _ b1 e0 (ay dH (.ref a)) (.cons rfl .nil) (b2 H I ao)) λr s' h=>?_
  cases r with
  |error e=>exact(a2 H e s' h).elim
  |ok X =>
   cases X with
   |next=>exact UD h
   |brk=>exact UD h
   |cont=>exact UD h
   |ret u =>
    obtain⟨v,bw,os,T,S,aC,a8,q⟩:=h;have a6:v=.ah true:=q;subst a6;obtain rfl:u=UW true:=a8;refine⟨rfl,OldK.of_keep λb o e=>?_,os,T⟩;cases q:H b with
    |none=>exact S.keep b o e q (by intro z;exact absurd (show b∈([]:List Td) from z) (by simp)) (by simp)
    |some u =>
     rcases I b with z|⟨a5,xs,z⟩
     .rw[q]at z;cases z
     .have bl:=S.gs b a5 _ z;obtain⟨e1,_⟩:=O b _ z;obtain⟨U,_⟩:=aC b _ bl;rw[e]at e1;cases e1;exact U
 cases y:K.lookup a with
 |some o =>
  have e:=A a o y;rw[j]at e;cases e;refine C (λ_=>Y) (λ_=>.inl rfl) (.inr ⟨_,f.toArray,_,y,rfl,rfl,rfl,by rw[OE,aX];exact M,by simpa using R⟩) (λb u z=>by have i:(Y:Option eG)=Z u:=z;cases i) (λb z=>absurd rfl z) λz=>absurd rfl z
 |none =>
  refine C (λb=>if b=a then Z (.cy { cls:=.type "list",data:=.seq f.toArray } (.lst (ns.map V.int))) else Y) (λb=>?_) (.inl (.inr ⟨{ cls:=.type "list",data:=.seq f.toArray },if_pos rfl⟩)) (λb u z=>?_) (λb z=>?_) λ_=>y
  .by_cases c:b=a
   .exact .inr ⟨_,_,if_pos c⟩
   .exact .inl (if_neg c)
  .by_cases c:b=a
   .have i:=(if_pos c).symm.trans z;cases i;subst c;exact⟨j,by rw[S5];exact M,f,_,R,j⟩
   .have i:=(if_neg c).symm.trans z;cases i
  .by_cases c:b=a
   .exact c
   .exact absurd (if_neg c) z
end aJ
namespace aJ
open PySem PySem.Spec PyProof.Rows
noncomputable abbrev nS{K:W.Frag}(_:K.In h):W.Frag:=K
def Nw{l:PySem.W.OpenLaw}{K:Params->W.Frag}{CX:TU->ij}{sp:TU->ff}(L:l.most=Z n)(M:n<=Tx)(C:d.params.defaults=[])(O:ea k VO)(A:∀(w:TU)(h:TH),p w h->(K w.params).In h)(F:∀(w:TU)(b:Tj->Option S8)(c:Td)(h:TH),(K w.params).In h->h.Ns Tz b->b d.name=Z (.ref c) ->
   ∃fd:U2,(∀(s:S9)(u:S8),VJ s fd ⟨[u],[]⟩ [(x,u)]) /\
    ∀base:TH,(K w.params).In base->base.Ns Tz b->g7 l.prog w (K w.params) b base (CX w) k c fd [x] (sp w))(Q:∀(w:TU)(H:ag)(a:Td)(ns:List Int),ns.length<=n->qB H->cp (K w.params) H a (ns.map V.int)->sp w [.ref a] H (λv _=>v=.ah J) λ_ _ _=>False)(r:∀(w:TU)(H:ag)(s:S9)(e:S8)(s':S9),CX w [] H s (λ_ _ _=>False) e s'->False):
  PySem.W.WalkO q a2 S p l.row.toRowW d [] (λf j=>PySem.call f j):=by
 refine uh.BF L C λw ao R b aj c o ar T U a j ns G m a1 a0 X I N E i D=>?_
 have g:=A w _ m;obtain⟨fd,B,t⟩:=F w b c _ g G.T.g I;exact Gr g G.T.g G.T.b G.T.builtins G.T.nolimit D N E (O3 i M) O t B (λH y z=>Q w H a ns i y z) λH e s'=>r w H R e s'
end aJ
namespace aJ
open PySem PySem.Spec PyProof.Rows
noncomputable def eZ(s:T3):Arguments:=match s with
 |.FunctionDef _ a _ _ _ _ _ _ _ _=>a
 |_=>{ posonlyargs:=[],args:=[],vararg:=Y,kwonlyargs:=[],kw_defaults:=[],kwarg:=Y,defaults:=[] }
noncomputable def hO(s:T3):List Stmt:=match s with
 |.FunctionDef _ _ b _ _ _ _ _ _ _=>b
 |_=>[]
noncomputable def e2(s:T3):Scope:=match s with
 |.FunctionDef _ _ _ _ _ _ a _ _ _=>a
 |_=>{ kind:=.function,names:=[],isGenerator:=S6,isCoroutine:=S6 }
structure lU(K:W.Frag)(x qual:Tj)(st:T3)(f:Td)(fd:U2):Prop where
 ex:∃(HW:S8)(ep:Option Td)(bQ doc pm:S8)(an:Option Td)(u9 ct:S8)(Ih:Array (Option S8)),
  fd=W.fnOf x qual (eZ st) (hO st) (e2 st) .none bQ doc pm an u9 ct/\K.lookup f=Z ⟨HW,ep,.func fd,Ih⟩/\W.codeIn K u9 qual=J
 oW:W.keepIn K (.ref f)=J
section
variable{P:TK}{w:TU}{K:W.Frag}{aG:Tj->Option S8}{base:TH}
def lU.binds{st:T3}(F:lU K x i st f fd)(h:∀(bQ c d:S8)(a:Option Td)(b ct:S8)(e:List S8),e.length=g.length->bindArgs (W.fnOf x i (eZ st) (hO st) (e2 st) .none bQ c d a b ct) ⟨e,[]⟩=pure (g.zip e)):Binds K fd g []:=by
 obtain⟨k,l,bQ,c,d,a,b,ct,m,rfl,lk,j⟩:=F.ex;exact .all (h bQ c d a b ct)
def wG{st:T3}{bQ b d a ct:S8}(l:K.lookup f=Z ⟨h,i,.func (W.fnOf x e (eZ st) (hO st) (e2 st) .none bQ b d g a ct),j⟩)(c:W.codeIn K a e=J)(k:W.keepIn K (.ref f)=J):lU K x e st f (W.fnOf x e (eZ st) (hO st) (e2 st) .none bQ b d g a ct):=⟨⟨h,i,bQ,b,d,g,a,ct,j,rfl,l,c⟩,k⟩
end
section
variable{X:au}
end
def aH(H a:ag):Prop:=∀b o,H b=Z o->a b=Z o
def aH.refl(H):aH H H:=λ_ _ h=>h
def aH.trans(a:aH H d)(b:aH d eF):aH H eF:=λc o h=>b c o (a c o h)
def aH.free(e:aH H a)(h:a l=Option.none):H l=Option.none:=by
 cases q:H l with
 |none=>rfl
 |some o =>
  rw[e l o q]at h;cases h
end aJ
end
section
set_option Elab.async false
set_option linter.all false
set_option maxRecDepth 100000
namespace aJ
open PySem PySem.Spec PyProof.Rows
section
variable{κ:Type}[DecidableEq κ]
noncomputable def fu(b:List (κ×V))(k:κ):Option V:=(b.find? λa=>decide (a.1=k)).map (·.2)
noncomputable def putK(b:List (κ×V))(k:κ)(v:V):List (κ×V) :=
 if (b.any λa=>decide (a.1=k))=J then b.map (λa=>if a.1=k then(a.1,v) else a) else b++[(k,v)]
def uc{k:κ}(e:p.1=k):fu (p::r) k=Z p.2:=by simp[fu,TY,e]
def ub{k:κ}(e:¬p.1=k):fu (p::r) k=fu r k:=by simp[fu,TY,e]
theorem AL(k):∀a:List (κ×V),(a.any λb=>decide (b.1=k))=(fu a k).isSome
 |[]=>rfl
 |p::r=>by
  rw[TZ]
  by_cases e:p.1=k
  .simp only[uc e,decide_eq_true e,Bool.true_or,Option.isSome_some]
  .rw[ub e,decide_eq_false e,Bool.false_or];exact AL k r
def sy(a)(k:κ)(v):(putK a k v).length<=a.length+1:=by
 unfold putK
 split
 .rw[S5];omega
 .rw[Oo,To,TG];omega
def fO.Fv(r:fO o u):o.isSome=u.isSome:=by
 cases o with
 |none=>cases u with
  |none=>rfl
  |some _=>exact(show False from r).elim
 |some _=>cases u with
  |none=>exact(show False from r).elim
  |some _=>rfl
theorem fO.getD(r:fO o u)(a:RelV d d'):RelV (o.getD d) (u.getD d'):=by
 cases o with
 |none=>cases u with
  |none=>exact a
  |some _=>exact(show False from r).elim
 |some _=>cases u with
  |none=>exact(show False from r).elim
  |some _=>exact r
def c7.val(r:c7 g i)(k:κ):fO (fu g k) (Wn i k):=by
 unfold c7 at r
 induction r with
 |nil=>exact True.intro
 |@cons p q j qs h t f =>
  obtain⟨c,d⟩:=h
  by_cases e:p.1=k
  .have a:q.1=k:=c.symm.trans e;have b:Wn (q::qs) k=Z q.2:=(by simp[Wn,TY,a]);rw[uc e,b];exact d
  .have a:¬q.1=k:=λz=>e (c.trans z)
   have b:Wn (q::qs) k=Wn qs k:=(by simp[Wn,TY,a]);rw[ub e,b];exact f
theorem c7.any(r:c7 c d)(k:κ):(c.any λa=>decide (a.1=k))=d.any λa=>decide (a.1=k):=by
 unfold c7 at r
 induction r with
 |nil=>rfl
 |cons h t b=>rw[TZ,TZ,b,h.1]
def c7.th(r:c7 f i)(k:κ)(g:RelV y u):
  c7 (f.map λa=>if a.1=k then(a.1,y) else a) (i.map λa=>if a.1=k then(a.1,u) else a):=by
 unfold c7 at r ⊢
 induction r with
 |nil=>exact .nil
 |@cons p q j qs h t d =>
  rw[Tb,Tb];refine .cons ?_ d;obtain⟨b,c⟩:=h
  by_cases e:p.1=k
  .rw[if_pos e,if_pos (b.symm.trans e)];exact⟨b,g⟩
  .rw[if_neg e,if_neg (λz=>e (b.trans z))];exact⟨b,c⟩
def c7.put(r:c7 d b)(k:κ)(a:RelV y u):c7 (putK d k y) (Xy b k u):=by
 unfold putK Xy;rw[r.any k]
 by_cases e:(b.any λc=>decide (c.1=k))=J
 .rw[if_pos e,if_pos e];exact r.th k a
 .rw[if_neg e,if_neg e];exact Paired.snoc r ⟨rfl,a⟩
theorem c7.length{a:List (κ×V)}(r:c7 a b):a.length=b.length:=SQ r
end
def mO(r:RelV (bQ k) u):(eA P w).is k u=true:=by
 cases k with
 |inl i=>obtain⟨t,e⟩:=(show ∃t,u=UB i t from r);subst e;exact Hn P w i t
 |inr x=>obtain⟨t,e⟩:=(show ∃t,u=Value.str x t from r);subst e;exact Ho P w x t
theorem kW:∀{a:List Key}{b:List S8},Vals (a.map bQ) b->ItemsAre (eA P w) a b
 |[],_,r=>by rw[P5]at r;cases r;exact .nil
 |k::a,_,r=>by
  rw[Tb]at r;cases r with
  |cons h t=>exact .cons (mO h) (kW t)
noncomputable abbrev KT(H:ag):List (List Key×V)->List (List Key×Td×S8)->Prop:=Paired λp q=>p.1=q.1/\H q.2.1=Z (.tup (p.1.map bQ))/\RelV p.2 q.2.2
def KT.val(r:KT H g xs)(k):fO (fu g k) ((Xf xs k).map (·.2)):=by
 induction r with
 |nil=>exact True.intro
 |@cons p q i qs h t f =>
  obtain⟨c,_,d⟩:=h
  by_cases e:p.1=k
  .have a:q.1=k:=c.symm.trans e;have b:Xf (q::qs) k=Z q.2:=(by simp[Xf,TY,a]);rw[uc e,b];exact d
  .have a:¬q.1=k:=λz=>e (c.trans z)
   have b:Xf (q::qs) k=Xf qs k:=(by simp[Xf,TY,a]);rw[ub e,b];exact f
def KT.th(r:KT H g xs)(k)(i:RelV y u):
  KT H (g.map λb=>if b.1=k then(b.1,y) else b) (xs.map (putAt k u)):=by
 induction r with
 |nil=>exact .nil
 |@cons p q j qs h t f =>
  rw[Tb,Tb];refine .cons ?_ f;obtain⟨a,c,d⟩:=h;unfold putAt
  by_cases e:p.1=k
  .rw[if_pos e,if_pos (a.symm.trans e)];exact⟨a,c,i⟩
  .rw[if_neg e,if_neg (λz=>e (a.trans z))];exact⟨a,c,d⟩
def KT.put(r:KT H a xs)(k)(d:H b=Z (.tup (k.map bQ)))(c:RelV y u):
  KT H (putK a k y) (storedH xs k b u):=by
 have e:(a.any λf=>decide (f.1=k))=(Xf xs k).isSome:=by
  rw[AL,(r.val k).Fv,Option.isSome_map]
 unfold putK storedH;rw[e]
 by_cases q:(Xf xs k).isSome=J
 .rw[if_pos q,if_pos q];exact r.th k c
 .rw[if_neg q,if_neg q];exact Paired.snoc r ⟨rfl,d,c⟩
def KT.keeps(r:KT H d xs)(c:∀b ys,H b=Z (.tup ys)->a b=Z (.tup ys)):KT a d xs :=
 Paired.sG r λ_ _ z=>⟨z.1,c _ _ z.2.1,z.2.2⟩
section
variable{P:TK}{w:TU}{H:ag}{h:TH}{a:Td}
def yZ(b:cD P w H h)(e:eI H a u):bZ P w H h a u:=e.ok b
def mu(c:cD P w H h)(e:eI H a (.b5 b)):b.length<=Tx/\(a==Ub)=S6/\∃d8,c7 b d8/\h.DictOf (eA P w) a d8 :=
 show bZ P w H h a (.b5 b) from yZ c e
def vH(c:cD P w H h)(e:H a=Z (.b5 b)):b.length<=Tx/\(a==Ub)=S6/\∃d8,c7 b d8/\h.DictOf (eA P w) a d8:=mu c (.inl e)
def oV(g:cD P w H h)(e:H a=Z (.tup (b.map bQ))):(Vx (eA P w)).is h b a:=by
 obtain⟨_,its,r,o,c,d,n,f⟩:=(show bZ P w H h a (.tup (b.map bQ)) from g a _ e);exact⟨o,its.toArray,n,c,d,f,by simpa using kW r⟩
def mw(f:cD P w H h)(e:eI H a (.cm c)):c.length<=Tx/\(a==Ub)=S6 /\
  ∃xs,KT H c xs/\h.DictOfH (Vx (eA P w)) a xs:=by
 obtain⟨z,y,xs,r,o,i,g,j,k,n,s,u⟩:=(show bZ P w H h a (.cm c) from yZ f e);refine⟨z,y,xs,r,o,i,g,j,k,n,s,λx b=>?_,u⟩;have all:∀{l:List (List Key×V)}{m:List (List Key×Td×S8)},KT H l m->∀x∈m,(Vx (eA P w)).is h x.1 x.2.1:=by
  intro l m q
  induction q with
  |nil=>intro x b;exact nomatch b
  |@cons p q A qs d t v =>
   intro x b;rcases Oq.mp b with e|b
   .subst e;exact oV f (by rw[<- d.1];exact d.2.1)
   .exact v x b
 exact all r x b
def Di(c:cD P w H h)(e:H a=Z (.cm b)):b.length<=Tx/\(a==Ub)=S6 /\
  ∃xs,KT H b xs/\h.DictOfH (Vx (eA P w)) a xs:=mw c (.inl e)
end
def il(H:ag)(a:Td)(y:V)(r:Option V):Prop :=
 (∃c k,eI H a (.b5 c)/\y=bQ k/\r=fu c k)\/∃c k b,eI H a (.cm c)/\y=.ref b/\H b=Z (.tup (k.map bQ))/\r=fu c k
def gg(H:ag)(a:Td)(y v:V)(d:ag):Prop :=
 (∃c k,H a=Z (.b5 c)/\y=bQ k/\c.length<Tx/\d=upd H a (.b5 (putK c k v))) \/
 ∃c k b,H a=Z (.cm c)/\y=.ref b/\H b=Z (.tup (k.map bQ))/\c.length<Tx/\d=upd H a (.cm (putK c k v))
def il.t{k:List Key}(e:H a=Z (.cm c))(d:H b=Z (.tup (k.map bQ))):il H a (.ref b) (fu c k):=.inr ⟨c,k,b,.inl e,rfl,d,rfl⟩
theorem gg.k{k:Key}(e:H a=Z (.b5 b))(c:b.length<Tx):gg H a (bQ k) v (upd H a (.b5 (putK b k v))):=.inl ⟨b,k,e,rfl,c,rfl⟩
def gg.t{k:List Key}(e:H a=Z (.cm c))(d:H b=Z (.tup (k.map bQ)))(f:c.length<Tx):
  gg H a (.ref b) v (upd H a (.cm (putK c k v))):=.inr ⟨c,k,b,e,rfl,d,f,rfl⟩
section
variable{X:au}{pins:List (Td×Uq)}{σ:St}{H:ag}{s:S9}{a:Td}{y v:V}{u r:S8}{o:Option V}{A:TO}{E:S8->S9->Prop}
def Inv.big(I:Inv X pins σ H s):Ub<s.heap.objs.size:=by
 have h:Tz<s.heap.objs.size:=(I.mod.glob.keeps I.fj).lt;exact Nat.lt_trans (by decide) h
def CW(w:A.units+1<TS)(I:Inv X pins σ H s)(g:il H a y (Z v))(j:RelV y u)(h:∀c s',Inv X pins σ H s'->RelV v c->Q c s'):
  Ta (Tc X.prog X.w) A (Vd (.ref a) u) Q E s:=by
 rcases g with⟨x,k,e,d,l⟩|⟨x,k,b,e,d,m,l⟩
 .subst d;obtain⟨z,n,B,f,dd⟩:=mu I.aK e;obtain⟨c,hw,i⟩:=fO.some_of (v:=v) (o:=Wn B k) (by rw[l];exact f.val k);exact wpAny_getItem_of (mO j) dd.mapOf hw (h c _ (I.tok _) i)
 .subst d;cases (show u=Th b from j);obtain⟨z,n,xs,f,dd⟩:=mw I.aK e;obtain⟨c,hw,i⟩:=fO.some_of (v:=v) (o:=(Xf xs k).map (·.2)) (by rw[l];exact f.val k);obtain⟨p,q,t⟩:=Option.map_eq_some_iff.mp hw;refine wpAny_getItem_heap (RU w) (oV I.aK m) dd q ?_;rw[t];exact h c _ (I.tok _) i
def rS(I:Inv X pins σ H s)(h:l2 (H a))(g:TA a s.heap h')(f:∃q,h'.get? a=Z q)(i:bZ X.prog X.w (upd H a c) h' a c):
  Inv X pins σ (upd H a c) { s with heap:=h',toks:=t' } :=
 I.write (x:=a) (e:=a) h (.inl rfl) (λb q d z=>(g.2 b d).trans z) f i
def vG(z:b.length<=Tx)(d:(a==Ub)=S6)(e:c7 b c)(dd:h'.DictOf (eA P w) a c):
  bZ P w f h' a (.b5 b):=⟨z,d,c,e,dd⟩
def C0(U:A.units+1<TS)(I:Inv X pins σ H s)(g:gg H a y v G)(D:RelV y u)(C:RelV v r)(h:∀s',Inv X pins σ G s'->Q () s'):
  Ta (Tc X.prog X.w) A (setItem (.ref a) u r) Q E s:=by
 rcases g with⟨d,k,e,n,l,m⟩|⟨d,k,b,e,n,x,l,m⟩
 .subst n m;obtain⟨z,p,a0,f,dd⟩:=vH I.aK e;have hz:a0.length<=sizeLine:=(by rw[<- f.length];exact z);have t:(putK d k v).length<=sizeLine:=(by have:=sy d k v;omega);refine wpAny_setItem_pairs (hsz:=hz) (mO D) dd λh' i w=>h _ ?_
  have T:∃q,h'.get? a=Z q:=let ⟨q,_,_,j,_⟩:=i;⟨q,j⟩
  exact rS I (by rw[e];exact True.intro) w T (vG t p (f.put k C) i)
 .subst n m;cases (show u=Th b from D);obtain⟨z,p,xs,f,dd⟩:=Di I.aK e;have hz:xs.length<=sizeLine:=(by rw[<- SQ f];exact z);have t:(putK d k v).length<=sizeLine:=(by have:=sy d k v;omega);refine wpAny_setItem_heap (hsz:=hz) (RU U) (oV I.aK x) dd λh' i w=>h _ ?_
  obtain⟨q,M,L,j,N,O,R,_,S⟩:=i;refine rS I (by rw[e];exact True.intro) w ⟨q,j⟩ ⟨t,p,_,(f.put k x C).keeps λc ys B=>?_,q,M,L,j,N,O,R,S⟩;rw[bj (HI B e (λz=>nomatch z))];exact B
end
section
variable{X:au}{pins:List (Td×Uq)}{σ:St}{H:ag}{s:S9}{a:Td}{fZ:List (Key×V)}{k:Key}{u:S8}{A:TO}{E:S8->S9->Prop}
end
def ux(i:Tq):Prop:=∀b a,V8 i S6 b a=operate [b,a] (Vd b a)
def Lv{T id:String}(g:typeLookup (.type T) "__getitem__"=pure (Z (.builtin id)))(j:ux b)(h:Ta (Tc prog w) A (T4 f env) (λo d=>Ta (Tc prog w) A (T4 b env) (λi pU=>pU.TypeIs o T/\Ta (Tc prog w) A (Vd o i) Q E pU) E d) E s):
  Ta (Tc prog w) A (T4 (.Subscript f b pos) env) Q E s:=by
 refine Subscript_ (Pj h (λo d k=>Pj k (λi pU a=>?_) λ_ _ x=>x) λ_ _ x=>x);obtain⟨c,a⟩:=a;unfold Ww;refine Oh ?_;rw[getitemInPython_of_ne c.not_modules];refine Oh (SA c g ?_);have fin:Ta (Tc prog w) A (V8 b S6 o i) (λr e=>Ta (Tc prog w) A (letTemporaryGo f o r>>=λ_=>pure r) Q E e) E pU:=by
  rw[j o i];exact wpAny_operating (Pj a (λr e l=>Oh (wpAny_letTemporaryGo (Oj l))) λ_ _ x=>x)
 first
  |exact Oj (Oh fin)
  |exact Oh (Oj (Oh fin))
  |exact Oh fin
def C9{d:St}(I:Inv X f d H s)(g:il H a y o):s.TypeIs (.ref a) "dict":=by
 rcases g with⟨c,k,e,_,_⟩|⟨c,k,b,e,_,_,_⟩
 .obtain⟨_,_,h,_,dd⟩:=mu I.aK e;exact dd.typeIs
 .obtain⟨_,_,xs,_,dd⟩:=mw I.aK e;exact dd.typeIs
noncomputable def tK(e f:TE):TE:=λc H Q=>e c H λx d=>f c d λy b=>∃a v,x=.ref a/\il b a y (Z v)/\Q v b
noncomputable def JQ(g i h:TE):eu:=λD b H=>h b H λv d=>g b d λx e=>i b e λy f=>∃a c,x=.ref a/\gg f a y v c/\D.aU b c
section
variable{X:au}{o i e value:Tq}{pos pos' MO:UN}{j6 ty tV:TE}
def Ir(r:X.A.units+1<TS)(p:ai X o j6)(n:ai X i ty)(q:ux i):ai X (.Subscript o i pos) (tK j6 ty):=by
 intro c s d H Q I h;refine Lv PySem.F.slot_dict_getitem.lookup q (aV (p c s d H _ I h) λu C ⟨x,f,k,A,t⟩=>aV (n c C d f _ k t) λD s2 ⟨y,j,b,B,a,v,m,g,w⟩=>?_);subst m;obtain rfl:u=Th a:=A;exact⟨C9 b g,CW r b g B λE s3 l z=>⟨v,j,l,z,w⟩⟩
def yK(z:X.A.units+1<TS)(t:ai X o j6)(q:ai X i ty)(A:ai X value tV)(w:UK value (Z (.Subscript o i pos')) pos.line X.env=pure S6):
  bV X (.Assign [.Subscript o i pos'] value pos) (JQ j6 ty tV):=by
 intro c s b H D I h;refine wpAny_Assign_Subscript (aV (A c s b H _ I h) λr N ⟨v,d,k,G,B⟩=>aV (t c N b d _ k B) λu s2 ⟨x,f,l,L,C⟩=>aV (q c s2 b f _ l C) λQ s3 ⟨y,O,m,M,a,j,p,g,E⟩=>?_) w;subst p;obtain rfl:u=Th a:=L;exact C0 z m g M G λR n=>⟨b,j,n,E⟩
end
def vE(h:TH)(a:Ub<h.objs.size):bZ P w H (h.push { cls:=.type "dict",data:=.dict #[] }) h.objs.size (.b5 []) :=
 ⟨OQ _,beq_eq_false_iff_ne.mpr (Pd (OI a)),[],.nil,Heap.DictOf.new h⟩
def Dh(h:TH)(a:Ub<h.objs.size):bZ P w H (h.push { cls:=.type "dict",data:=.dict #[] }) h.objs.size (.cm []) :=
 ⟨OQ _,beq_eq_false_iff_ne.mpr (Pd (OI a)),[],.nil,_,#[],0,OA _ rfl,⟨rfl,rfl,rfl⟩,rfl,rfl,PY⟩
noncomputable def LH:TE:=λ_ H Q=>∀p,H p=Y->Q (.ref p) (upd H p (.b5 []))
noncomputable def LI:TE:=λ_ H Q=>∀p,H p=Y->Q (.ref p) (upd H p (.cm []))
section
variable{X:au}{pos:UN}
def yx:ai X (.Dict [] [] pos) LH:=λb s c H Q I h =>
 wpAny_Dict_empty ⟨.ref s.heap.objs.size,_,I.laid (a:=s.heap.objs.size) (o:=.b5 []) (t':=s.toks) (λ_ _ q=>Ol _ q) (Ot _) (vE s.heap I.big),rfl,h _ (I.aK.fresh (Ot _))⟩
def Iv:ai X (.Dict [] [] pos) LI:=λb s c H Q I h =>
 wpAny_Dict_empty ⟨.ref s.heap.objs.size,_,I.laid (a:=s.heap.objs.size) (o:=.cm []) (t':=s.toks) (λ_ _ q=>Ol _ q) (Ot _) (Dh s.heap I.big),rfl,h _ (I.aK.fresh (Ot _))⟩
end
noncomputable def tM:List (TE×TE)->St->ag->(List (V×V)->ag->Prop)->Prop
 |[],_,H,Q=>Q [] H
 |(tk,f)::r,a,H,Q=>tk a H λx b=>f a b λy c=>tM r a c λe d=>Q ((x,y)::e) d
noncomputable abbrev uB:List (V×V)->List (S8×S8)->Prop:=Paired λp q=>RelV p.1 q.1/\RelV p.2 q.2
def nX(X:au)(pos:UN)(e:List (Option Tq))(g:List Tq)(f:List (TE×TE)):Prop :=
 ∀(c:List (Td×Uq))(s:S9)(a:St)(H:ag)(Q:List (V×V)->ag->Prop),Inv X c a H s->tM f a H Q ->
  Ta (Tc X.prog X.w) X.A (evalPairs (pairTrees e g X.env pos)) (λh s'=>∃d b,Inv X c a b s'/\uB d h/\Q d b) X.bk s
def I2:nX X pos [] [] []:=λa s b H Q I h=>pairTrees_nil_walk ⟨[],H,I,.nil,h⟩
def I1(j:ai X k tk)(m:ai X v C)(l:nX X pos n D B):
  nX X pos (Z k::n) (v::D) ((tk,C)::B):=λa s b H Q I h =>
 pairTrees_cons_walk (aV (j a s b H _ I h) λu A ⟨x,c,f,w,p⟩=>aV (m a A b c _ f p) λE s2 ⟨y,d,g,z,q⟩ =>
  aV (l a s2 b d _ g q) λG s3 ⟨o,e,i,t,r⟩=>⟨(x,y)::o,e,i,.cons ⟨w,z⟩ t,r⟩)
noncomputable def lg(c d:List (Key×V)):List (Key×V):=d.foldl (λb a=>putK b a.1 a.2) c
def c7.merge:∀{c:List (Key×V)}{rs:List (Key×S8)}{a:List (Key×V)}{b:List (Key×S8)},c7 c rs->c7 a b->c7 (lg a c) (merged b rs):=by
 intro c rs a b r;unfold c7 at r
 induction r generalizing a b with
 |nil=>intro q;exact q
 |@cons p q g qs h t d =>
  intro f;have e:c7 (putK a p.1 p.2) (Xy b q.1 q.2):=by
   have:=f.put p.1 h.2;rw[<- h.1];exact this
  exact d e
theorem xv:∀(b a:List (Key×V)),(lg a b).length<=a.length+b.length
 |[],a=>by show a.length<=a.length+0;omega
 |p::r,a=>by
  have c:=xv r (putK a p.1 p.2);have d:=sy a p.1 p.2;show(lg (putK a p.1 p.2) r).length<=_;rw[To];omega
theorem u5:∀{d:List (Key×V)}{f:List (S8×S8)},uB (d.map λe=>(bQ e.1,e.2)) f->∃rs,Carries (eA P w) f rs/\c7 d rs
 |[],_,r=>by rw[P5]at r;cases r;exact⟨[],True.intro,.nil⟩
 |p::d,_,r=>by
  rw[Tb]at r;cases r with
  |@cons a b as bs h t =>
   obtain⟨rs,c,q⟩:=u5 (P:=P) (w:=w) t;obtain⟨b1,b2⟩:=b;exact⟨(p.1,b2)::rs,⟨mO h.1,rfl,c⟩,.cons ⟨rfl,h.2⟩ q⟩
noncomputable def LJ(e:List (TE×TE)):TE:=λf H Q=>∀p,H p=Y->tM e f (upd H p (.b5 [])) λd b=>b p=Z (.b5 [])/\∃a:List (Key×V),d=a.map (λc=>(bQ c.1,c.2))/\a.length<=15/\Q (.ref p) (upd b p (.b5 (lg [] a)))
def Iu(h:nX X pos b i E)(n:b.all (·.isSome)=J)(t:b.length=i.length)(h0:b≠[])(m:b.length<=15):ai X (.Dict b i pos) (LJ E):=by
 intro y s L H Q I q;have u:=I.aK.fresh (Ot s.heap.objs.size);have j:=I.laid (a:=s.heap.objs.size) (o:=.b5 []) (h':=s.heap.push { cls:=.type "dict",data:=.dict #[] }) (t':=s.toks) (λ_ _ q=>Ol _ q) (Ot _) (vE s.heap I.big);refine wpAny_Dict_walk (knd:=eA X.prog X.w) n t h0 m (aV (h y _ L _ _ j (q _ u)) λR s2 G=>?_);obtain⟨N,M,d,C,e,g,k,lk,A⟩:=G;subst k;obtain⟨rs,c,D⟩:=u5 (P:=X.prog) (w:=X.w) C;obtain⟨z,p,O,B,dd⟩:=vH d.aK e;cases B;refine⟨rs,c,dd,λh' f x=>⟨.ref s.heap.objs.size,_,?_,rfl,A⟩⟩;have hz:(lg [] g).length<=sizeLine:=by
  have l:=xv g [];rw[TG]at l;rw[Tw];omega
 have r:∃q,h'.get? s.heap.objs.size=Z q:=let ⟨q,_,_,v,_⟩:=f;⟨q,v⟩
 exact rS d (by rw[e];exact True.intro) x r (vG hz p (D.merge .nil) f)
structure NQ(X:au)(o:Tq)(m:Tj)(apos:UN)(e:Tq)(dD:UN):Prop where
 base:UY o m X.env (T4 o X.env)=T4 o X.env
 kF:((UJ dD (Tu [e] X.env)).all (λx=>!x.1)&&(Xw dD (V9 [] X.env)).all (λx=>x.1.isSome)
  && decide (([e]:List Tq).length+([]:List Vc).length+(if ([]:List Vc).isEmpty then 0 else 1)<30))=J
 line:(apos.endLine==dD.line)=J
 trees:UJ dD (Tu [e] X.env)=[(S6,T4 e X.env)]
structure M2(X:au)(o:Tq)(m:Tj)(apos:UN)(e f:Tq)(dD:UN):Prop where
 base:UY o m X.env (T4 o X.env)=T4 o X.env
 kF:((UJ dD (Tu [e,f] X.env)).all (λx=>!x.1)&&(Xw dD (V9 [] X.env)).all (λx=>x.1.isSome)
  && decide (([e,f]:List Tq).length+([]:List Vc).length+(if ([]:List Vc).isEmpty then 0 else 1)<30))=J
 line:(apos.endLine==dD.line)=J
 trees:UJ dD (Tu [e,f] X.env)=[(S6,T4 e X.env),(S6,T4 f X.env)]
def uq(H:ag)(a:Td):Prop:=(∃b,eI H a (.b5 b))\/∃b,eI H a (.cm b)
def Ft{j:St}(I:Inv X k j H s)(d:uq H a):
  s.TypeIs (.ref a) "dict"/\(∀b,Th a=.ref b->∃c,s.heap.get? b=Z c/\c.dict=Y)/\(a==Ub)=false:=by
 rcases d with⟨i,e⟩|⟨i,e⟩
 .obtain⟨_,h,l,_,dd⟩:=mu I.aK e;refine⟨dd.typeIs,λb q=>?_,h⟩;cases q;obtain⟨c,_,_,f,g,_⟩:=dd;exact⟨c,f,g.2.1⟩
 .obtain⟨_,h,xs,_,dd⟩:=mw I.aK e;refine⟨dd.typeIs,λb q=>?_,h⟩;cases q;obtain⟨c,_,_,f,g,_⟩:=dd;exact⟨c,f,g.2.1⟩
section
variable{X:au}{pins:List (Td×Uq)}{σ:St}{H:ag}{s:S9}{a:Td}{y d:V}{u r:S8}{o:Option V}{A:TO}{E:S8->S9->Prop}
def CV(q:A.units+1<TS)(I:Inv X pins σ H s)(g:il H a y o)(m:RelV y u)(j:RelV d r)(h:∀n s',Inv X pins σ H s'->RelV (o.getD d) n->Q n s'):
  Ta (Tc X.prog X.w) A (call (.builtin "dict.get") [.ref a,u,r]) Q E s:=by
 rcases g with⟨t,k,e,c,l⟩|⟨t,k,b,e,c,p,l⟩
 .subst c;obtain⟨z,f,v,i,dd⟩:=mu I.aK e;refine call_meetsIn Rk dd.typeIs Sw (Sk _ _ _) (meets_dict_get_default (eA X.prog X.w) a (mO m) f r) ⟨_,dd.mapOf,h _ _ (I.tok _) ?_⟩;rw[l];exact(i.val k).getD j
 .subst c;cases (show u=Th b from m);obtain⟨z,f,xs,i,dd⟩:=mw I.aK e;refine call_meetsIn Rk dd.typeIs Sw (Sk _ _ _) (meetsH_dict_get_default (Vx (eA X.prog X.w)) a b f r) ⟨RU q,k,xs,oV I.aK p,dd,h _ _ (I.tok _) ?_⟩;rw[l];exact(i.val k).getD j
end
noncomputable def LG(f h g:TE):TE:=λb H Q=>f b H λx c=>∃a,x=.ref a/\uq c a/\h b c λy e=>g b e λz d=>∃o,il d a y o/\Q (o.getD z) d
section
variable{X:au}{o e f:Tq}{apos dD:UN}{j6 ty Aw:TE}
def It(A:X.A.units+1<TS)(w:ai X o j6)(t:ai X e ty)(v:ai X f Aw)(m:M2 X o "get" apos e f dD):ai X (.Call (.Attribute o "get" apos) [e,f] [] dD) (LG j6 ty Aw):=by
 intro b s c H Q I h;refine wpAny_Call_method m.base m.kF m.line PySem.F.plainAttrs_dict Rk PySem.F.type_dict_get (aV (w b s c H _ I h) λu N S=>?_);obtain⟨x,j,i,G,a,r,d,B⟩:=S;subst r;obtain rfl:u=Th a:=G;obtain⟨O,R,_⟩:=Ft i d;refine⟨O,R,?_⟩;rw[m.trees];refine VN rfl (RC (PU (aV (t b N c j _ i B) λU s2 ⟨y,k,n,L,C⟩ =>
  PU (aV (v b s2 c k _ n C) λT s3 ⟨z,l,p,M,a0,g,D⟩=>Qi ?_))))
 exact CV A p g L M λa2 a1 q E=>⟨_,l,q,E,D⟩
end
section
variable{X:au}{pins:List (Td×Uq)}{σ:St}{H:ag}{s:S9}{a:Td}{fZ:List (Key×V)}{A:TO}{E:S8->S9->Prop}
end
section
variable{X:au}{pins:List (Td×Uq)}{σ:St}{H:ag}{s:S9}{a:Td}{y:V}{u:S8}{A:TO}{E:S8->S9->Prop}
end
end aJ
end
set_option autoImplicit true
set_option linter.all false
set_option maxRecDepth 100000
set_option maxHeartbeats 8000000
local macro_rules|`(tactic|lia)=>`(tactic|first | decide | assumption | exact Nat.le_trans (by assumption) (by decide) | exact Nat.lt_succ_of_le (by assumption) | exact Nat.le_of_succ_le_succ (by assumption) | exact Nat.le_succ_of_le (by assumption) | exact Nat.le_of_lt (by assumption) | exact Nat.not_le.mp (by assumption) | exact Nat.not_lt.mp (by assumption) | exact Int.le_trans (by assumption) (by decide)|lia -verbose)
local macro_rules|`(⋯)=>`(by lia)
local macro_rules|`(∅)=>`(by decide)
section
namespace ζ
open PySem
inductive R(α:Type) where
 |ok (a:α)
 |exc (c:Nat)
 |bad
def R.bind{α β:Type}:R α->(α->R β)->R β
 |.ok a,f=>f a
 |.exc c,_=>.exc c
 |.bad,_=>.bad
noncomputable instance:Monad R where
 pure:=R.ok
 bind:=R.bind
def av{α:Type}{a b:α}(h:a=b):a=b:=h
@[simp] theorem R.i3 {α β:Type} (a) (f:α->R β):(R.ok a>>=f)=f a:=av rfl
@[simp] theorem R.Ef {α β:Type} (c) (f:α->R β):(R.exc c>>=f)=R.exc c:=av rfl
@[simp] theorem R.NV {α β:Type} (f:α->R β):(R.bad>>=f)=R.bad:=av rfl
@[simp] theorem R.Od {α:Type} (a):(pure a:R α)=R.ok a:=rfl
inductive D where
 |bG
 |ah (b:Bool)
 |int (i:Int)
 |str (x:Tj)
 |tup (xs:List D)
 |lst (xs:List D)
 |aN (fZ:List (List Int×Int))
 |aM (fZ:List (Int×Int×Int))
 |dQ (c:Nat)
mutual
noncomputable def cU:D->D->Bool
 |.bG,.bG=>J
 |.ah a,.ah b=>a==b
 |.ah a,.int j=>(if a then 1 else 0)==j
 |.int i,.ah b=>i==(if b then 1 else 0)
 |.int i,.int j=>i==j
 |.str x,.str y=>x==y
 |.tup xs,.tup ys=>hT xs ys
 |.lst xs,.lst ys=>hT xs ys
 |_,_=>S6
noncomputable def hT:List D->List D->Bool
 |[],[]=>J
 |x::xs,y::ys=>cU x y&&hT xs ys
 |_,_=>S6
end
mutual
noncomputable def hq:D->D->Option Bool
 |.int i,.int j=>Z (decide (i<j))
 |.tup xs,.tup ys=>hr xs ys
 |_,_=>Y
noncomputable def hr:List D->List D->Option Bool
 |[],[]=>Z S6
 |[],_::_=>Z J
 |_::_,[]=>Z S6
 |x::xs,y::ys=>if cU x y then hr xs ys else hq x y
end
noncomputable def dK:Nat->D->Bool
 |0,.int _=>J
 |n+1,.tup xs=>xs.all (dK n)
 |_,_=>S6
noncomputable def kT(x:D):List D->List D
 |[]=>[x]
 |y::ys=>if hq y x=Z J then y::kT x ys else x::y::ys
noncomputable def eB:List D->List D
 |[]=>[]
 |x::xs=>kT x (eB xs)
noncomputable def fS:List D->List D
 |[]=>[]
 |x::xs=>if xs.any (cU x) then fS xs else x::fS xs
noncomputable def fY:D->Bool
 |.tup (x::xs)=>dK 0 x&&xs.all (dK 0)
 |_=>S6
noncomputable def jJ:D->Bool
 |.tup (x::xs)=>fY x&&xs.all fY
 |_=>S6
noncomputable def hs(xs:List D):Bool:=xs.all (dK 0)||xs.all fY
noncomputable def SZ:Nat:=16777216
noncomputable def da:Int:=18446744073709551616
noncomputable def sorted(xs:List D):R D:=if (hs xs||xs.all jJ)&&xs.length<=63 then .ok (.lst (eB xs)) else .bad
noncomputable def d4(xs:List D):R D:=if xs.all fY&&(fS xs).length<=63 then .ok (.lst (eB (fS xs))) else .bad
inductive Op where
 |add|sub|mul|fdiv|mod|and|xor|shl|shr
inductive lT where
 |eq|ne|lt|gt|is|kV|mem|h8
noncomputable def js(i j:Int):R D:=if 0<=i then(if 0<=j then .ok (.int (i.toNat &&& j.toNat:Nat)) else .ok (.int (i-(i.toNat &&& (-j-1).toNat:Nat)))) else .bad
noncomputable def nG(i j:Int):R D:=if 0<=i/\0<=j then .ok (.int (i.toNat ^^^ j.toNat:Nat)) else .bad
noncomputable def bT:Op->D->D->R D
 |.and,.int i,.int j=>js i j
 |.xor,.int i,.int j=>nG i j
 |.add,.int i,.int j=>.ok (.int (i+j))
 |.add,.tup xs,.tup ys=>if xs.length+ys.length<=SZ then .ok (.tup (xs++ys)) else .bad
 |.add,.lst xs,.lst ys=>if xs.length+ys.length<=SZ then .ok (.lst (xs++ys)) else .bad
 |.sub,.int i,.int j=>.ok (.int (i-j))
 |.shl,.int i,.int j=>if 0<=j/\j<=1000/\-da<i/\i<da then .ok (.int (i*2 ^ j.toNat)) else .bad
 |.shr,.int i,.int j=>if 0<=j then .ok (.int (i / 2 ^ j.toNat)) else .bad
 |.mul,.lst xs,.int j=>if 0<=j/\j<=1000/\xs.length<=1000 then .ok (.lst (Tr j.toNat xs).flatten) else .bad
 |.mul,.int i,.int j=>if (-da<i/\i<da)\/(-da<j/\j<da) then .ok (.int (i*j)) else .bad
 |.fdiv,.int i,.int j=>if 0<j/\j<1073741824 then .ok (.int (i / j)) else .bad
 |.mod,.int i,.int j=>if 0<j then .ok (.int (i%j)) else .bad
 |_,_,_=>.bad
noncomputable def e8:R Bool->R Bool
 |.ok b=>.ok (!b)
 |.exc c=>.exc c
 |.bad=>.bad
noncomputable def bB:Nat->D->Bool
 |_,.bG=>J
 |_,.ah _=>J
 |_,.int _=>J
 |_,.str x=>x.cps.all (· < 0x110000)
 |n+1,.tup xs=>xs.all (bB n)
 |n+1,.lst xs=>xs.all (bB n)
 |_,_=>S6
noncomputable def dJ(x y:D):R Bool:=if bB 60 x&&bB 60 y then .ok (cU x y) else .bad
noncomputable def memD(x:D)(xs:List D):Bool:=xs.any λy=>cU y x
noncomputable def fq(x:D)(ys:List D):R Bool:=if bB 60 x&&ys.all (bB 60) then .ok (memD x ys) else .bad
noncomputable def sS:Option Bool->R Bool
 |some b=>.ok b
 |none=>.bad
noncomputable def o2(x y:D):R Bool:=if (dK 0 x&&dK 0 y)||(dK 1 x&&dK 1 y) then sS (hq x y) else .bad
noncomputable def jK:D->Bool
 |.bG=>J
 |_=>S6
noncomputable def sh(b:Bool):D->Bool
 |.ah a=>a==b
 |_=>S6
noncomputable def mL(x:D):D->R Bool
 |.bG=>.ok (jK x)
 |.ah b=>.ok (sh b x)
 |_=>.bad
noncomputable def dh:lT->D->D->R Bool
 |.eq,x,y=>dJ x y
 |.ne,x,y=>e8 (dJ x y)
 |.lt,x,y=>o2 x y
 |.gt,.int i,.int j=>.ok (decide (j<i))
 |.is,x,y=>mL x y
 |.kV,x,y=>e8 (mL x y)
 |.mem,x,.tup ys=>fq x ys
 |.mem,x,.lst ys=>fq x ys
 |.h8,x,.tup ys=>e8 (fq x ys)
 |.h8,x,.lst ys=>e8 (fq x ys)
 |_,_,_=>.bad
noncomputable def gv(n:Nat)(i:Int):Option Nat:=if 0<=i then(if i<n then Z i.toNat else Y) else(if 0<=i+n then Z (i+n).toNat else Y)
def hn{α:Type}(xs:List α)(i:Int):Option α:=(gv xs.length i).bind (xs[·]?)
noncomputable def fC:D->D->R D
 |.tup xs,.int i=>match hn xs i with|some d=>.ok d|none=>.bad
 |.lst xs,.int i=>match hn xs i with|some d=>.ok d|none=>.bad
 |_,_=>.bad
noncomputable def aQ(n d:Nat):Option Int->Nat
 |none=>d
 |some i=>if i<0 then(if i+n<0 then 0 else(i+n).toNat) else(if (n:Int)<i then n else i.toNat)
def cut{α:Type}(xs:List α)(a b:Option Int):List α:=(xs.drop (aQ xs.length 0 a)).take (aQ xs.length xs.length b-aQ xs.length 0 a)
noncomputable def gB(d:D)(b a:Option Int):R D:=match d with
 |.tup xs=>.ok (.tup (cut xs b a))
 |.lst xs=>.ok (.lst (cut xs b a))
 |_=>.bad
noncomputable def h2:D->R D
 |.tup xs=>.ok (.int xs.length)
 |.lst xs=>.ok (.int xs.length)
 |_=>.bad
inductive Ty where
 |int|bool|str|tuple|cls (c:Nat)
noncomputable abbrev hc:=Nat->List Nat
noncomputable def iR(up:hc)(d:D):Ty->R Bool
 |.int=>.ok (match d with|.int _=>J|.ah _=>J|_=>S6)
 |.bool=>.ok (match d with|.ah _=>J|_=>S6)
 |.str=>.ok (match d with|.str _=>J|_=>S6)
 |.tuple=>.ok (match d with|.tup _=>J|_=>S6)
 |.cls c=>match d with|.dQ k=>.ok ((up k).contains c)|_=>.bad
noncomputable def cP:D->R (List D)
 |.tup xs=>.ok xs
 |.lst xs=>.ok xs
 |_=>.bad
noncomputable def c9(a b:Int):List D:=(Tp (b-a).toNat).map λk=>.int (a+(k:Nat))
noncomputable def jX(i:Int):Bool:=decide (-4611686018427387904<=i/\i<4611686018427387904)
noncomputable def ic(i j:Int):R (List D):=if jX i&&jX j&&decide ((j-i).toNat<=1000000) then .ok (c9 i j) else .bad
noncomputable def fw:Nat->List D->List D
 |_,[]=>[]
 |k,x::xs=>.tup [.int (k:Nat),x]::fw (k+1) xs
noncomputable def om:D->R (List D)
 |.lst xs=>.ok (fw 0 xs)
 |_=>.bad
noncomputable def ql(xs ys:List D):List D:=xs.filter (λx=>!ys.any (cU x))++ys.filter (λy=>!xs.any (cU y))
noncomputable def nH(xs ys:List D):R D:=if xs.all fY&&ys.all fY&&decide ((fS (xs++ys)).length<=63) then .ok (.lst (eB (fS (ql xs ys)))) else .bad
noncomputable def ka(x y:D):R D:=cP x>>=λxs=>cP y>>=λys=>nH xs ys
inductive cJ where
 |len|inst (t:Ty)|int|sorted|d4|sum|max
mutual
inductive E where
 |var (i:Nat)
 |lit (d:D)
 |tup (a:A)
 |lst (a:A)
 |bin (op:Op) (a b:E)
 |not (a:E)
 |neg (a:E)
 |cmp (op:lT) (a b:E)
 |and (a b:E)
 |or (a b:E)
 |idx (a b:E)
 |slice (a:E) (lo aw:O)
 |call (f:Nat) (a:A)
 |prim (p:cJ) (a:E)
 |tupI (s:I)
 |comp (elt:E) (k:Nat) (s:I) (c:O)
 |lG (a b:E)
 |kx (i:Nat)
 |min2 (a b:E)
 |cnt (a:E)
 |eN (i j:Nat)
 |h3 (i j:Nat)
 |ks (i j:Nat)
 |ku
inductive A where
 |nil
 |cons (e:E) (a:A)
inductive O where
 |none
 |some (e:E)
inductive I where
 |seq (e:E)
 |dz (a:E)
 |enum (a:E)
 |iI (i:Nat)
end
noncomputable abbrev aF:=List (Option D)
noncomputable abbrev dn:=Nat->List D->R D
noncomputable def dC:Nat->D->R (List (Option D))
 |0,d=>.ok [Z d]
 |k,.tup xs=>if xs.length=k then .ok (xs.map Z) else .bad
 |_,_=>.bad
noncomputable def bN(f:D->R (Option D)):List D->R (List D)
 |[]=>.ok []
 |d::ds=>f d>>=λo=>bN f ds>>=λr=>match o with|some x=>.ok (x::r)|none=>.ok r
def h7{α:Type}:R α->R α
 |.exc _=>.bad
 |r=>r
noncomputable def intsOf:List D->Option (List Int)
 |[]=>Z []
 |.int i::xs=>(intsOf xs).map (i::·)
 |_=>Y
noncomputable def k7:D->R (List D)
 |.lst xs=>.ok xs
 |_=>.bad
noncomputable def hA(xs:List D):R D:=match intsOf xs with
 |some ns=>.ok (.int ns.sum)
 |none=>.bad
noncomputable def ht(xs:List D):R D:=match intsOf xs with
 |some (n::ns)=>.ok (.int (ns.foldl (λm x=>if x>m then x else m) n))
 |_=>.bad
noncomputable def gV(up:hc):cJ->D->R D
 |.len,d=>h2 d
 |.sorted,d=>cP d>>=λxs=>sorted xs
 |.d4,d=>cP d>>=λxs=>d4 xs
 |.sum,d=>k7 d>>=λxs=>hA xs
 |.max,d=>k7 d>>=λxs=>ht xs
 |.inst t,d=>iR up d t>>=λb=>.ok (.ah b)
 |.int,d=>(match d with|.ah b=>.ok (.int (if b then 1 else 0))|_=>.bad)
noncomputable def eh(a:List (List Int×Int))(k:List Int):Option Int:=(a.find? λp=>decide (p.1=k)).map (·.2)
noncomputable def putN(a:List (List Int×Int))(k:List Int)(n:Int):List (List Int×Int):=if (a.any λp=>decide (p.1=k))=J then a.map (λp=>if p.1=k then(p.1,n) else p) else a++[(k,n)]
noncomputable def jZ(r:Int×Int):D:=.tup [.int r.1,.int r.2]
noncomputable def jj(a:List (Int×Int×Int))(k:Int):Option (Int×Int):=(a.find? λp=>decide (p.1=k)).map (·.2)
noncomputable def ib(a:List (Int×Int×Int))(k:Int)(r:Int×Int):List (Int×Int×Int):=if (a.any λp=>decide (p.1=k))=J then a.map (λp=>if p.1=k then(p.1,r) else p) else a++[(k,r)]
noncomputable def fl:Option (Option D)->Option (List (List Int×Int))
 |some (Z (.aN a))=>Z a
 |_=>Y
noncomputable def gm:Option (Option D)->Option (List (Int×Int×Int))
 |some (Z (.aM a))=>Z a
 |_=>Y
noncomputable def rowOf:D->Option (Int×Int)
 |.tup ds=>(match intsOf ds with|some [a,b]=>Z (a,b)|_=>Y)
 |_=>Y
noncomputable def intD:D->Option Int
 |.int i=>Z i
 |_=>Y
noncomputable def d6:D->Option (List Int)
 |.tup ds=>intsOf ds
 |_=>Y
def df{α:Type}(f:D->Option α):Option (Option D)->Option α
 |some (Z d)=>f d
 |_=>Y
noncomputable def hk(o p:Option (Option D)):R D:=match fl o,df d6 p with
 |some a,Z k=>(match eh a k with|some n=>.ok (.int n)|none=>.bad)
 |_,_=>(match gm o,df intD p with|some a,Z k=>(match jj a k with|some r=>.ok (jZ r)|none=>.bad)|_,_=>.bad)
noncomputable def kv(o p:Option (Option D))(d:D):R D:=match fl o,df d6 p,intD d with
 |some a,Z k,Z n=>if a.length<1000 then .ok (.aN (putN a k n)) else .bad
 |_,_,_=>(match gm o,df intD p,rowOf d with|some a,Z k,Z r=>if a.length<1000 then .ok (.aM (ib a k r)) else .bad|_,_,_=>.bad)
noncomputable def mv(p q:Option (Option D)):R D:=match df intD p,df rowOf q with
 |some k,Z r=>.ok (.aM [(k,r)])
 |_,_=>.bad
noncomputable def ky(o:Option (Option D)):R D:=match fl o with
 |some a=>sorted (a.map λp=>.tup (p.1.map .int))
 |none=>.bad
noncomputable def mr(o p:Option (Option D)):R D:=match fl o,df d6 p with
 |some a,Z k=>if a.length<1000 then .ok (.aN (putN a k ((eh a k).getD 0+1))) else .bad
 |_,_=>.bad
noncomputable def od:D->R D
 |.lst xs=>if xs.all (bB 60)&&decide (xs.length<=1000) then .ok (.int (xs.countP λy=>cU y (.ah J):Nat)) else .bad
 |_=>.bad
noncomputable def kr(o:Option (Option D)):R (List D):=match fl o with
 |some a=>.ok (a.map λp=>.tup (p.1.map .int))
 |none=>(match gm o with|some a=>.ok (a.map λp=>.int p.1)|none=>.bad)
noncomputable def jh:List D->Option (List (List Int))
 |[]=>Z []
 |x::xs=>(match d6 x,jh xs with|some k,Z a=>Z (k::a)|_,_=>Y)
noncomputable def qb:D->Option (List (List Int))
 |.lst xs=>jh xs
 |_=>Y
noncomputable def kZ(o p:Option (Option D)):R D:=match df qb o,df d6 p with
 |some a,Z k=>if k∈a/\a.length<=1000 then .ok (.int (a.idxOf k:Nat)) else .bad
 |_,_=>.bad
noncomputable def o1:Option (Option D)->R D
 |some (Z (.lst ds))=>.ok (.lst ds)
 |_=>.bad
noncomputable def mq:Option (Option D)->R D
 |some (Z (.aN a))=>.ok (.aN a)
 |some (Z (.aM a))=>.ok (.aM a)
 |_=>.bad
noncomputable def ej:D->R Bool
 |.ah b=>.ok b
 |_=>.bad
noncomputable def ek:D->R Int
 |.int i=>.ok i
 |_=>.bad
noncomputable def mE:Option (Option D)->R D
 |some (Z d)=>.ok d
 |_=>.bad
structure cT where
 up:hc
 cs:List D
section
variable(pg:cT)(Φ:dn)
mutual
noncomputable def ev (g:aF):E->R D
 |.var i=>mE g[i]?
 |.lit d=>.ok d
 |.tup a=>fm g a>>=λds=>.ok (.tup ds)
 |.lst a=>fm g a>>=λds=>.ok (.lst ds)
 |.bin op a b=>ev g a>>=λx=>ev g b>>=λy=>bT op x y
 |.neg a=>ev g a>>=λx=>ek x>>=λi=>.ok (.int (-i))
 |.not a=>ev g a>>=λx=>ej x>>=λb=>.ok (.ah (!b))
 |.cmp op a b=>ev g a>>=λx=>ev g b>>=λy=>dh op x y>>=λc=>.ok (.ah c)
 |.and a b=>ev g a>>=λx=>ej x>>=λk=>if k then ev g b else .ok (.ah S6)
 |.or a b=>ev g a>>=λx=>ej x>>=λk=>if k then .ok (.ah J) else ev g b
 |.kx i=>ky g[i]?
 |.min2 a b=>ev g a>>=λx=>ek x>>=λi=>ev g b>>=λy=>ek y>>=λj=>.ok (.int (if j<i then j else i))
 |.cnt a=>ev g a>>=λx=>od x
 |.lG a b=>ev g a>>=λx=>ev g b>>=λy=>ka x y
 |.idx a b=>ev g a>>=λx=>ev g b>>=λy=>fC x y
 |.slice a o n=>ev g a>>=λx=>iO g o>>=λl=>iO g n>>=λh=>gB x l h
 |.call f a=>fm g a>>=λds=>Φ f ds
 |.prim p a=>ev g a>>=λx=>gV pg.up p x
 |.tupI s=>fo g s>>=λds=>.ok (.tup ds)
 |.eN i j=>hk g[i]? g[j]?
 |.h3 i j=>kZ g[i]? g[j]?
 |.ks i j=>mv g[i]? g[j]?
 |.ku=>.ok (.aM [])
 |.comp e k s c=>fo g s>>=λds=>h7 (bN (λd=>dC k d>>=λm=>hU (g++m) c>>=λb=>if b then ev (g++m) e>>=λy=>.ok (Z y) else .ok Y) ds)>>=λys=>.ok (.lst ys)
noncomputable def fm (g:aF):A->R (List D)
 |.nil=>.ok []
 |.cons e a=>ev g e>>=λx=>fm g a>>=λxs=>.ok (x::xs)
noncomputable def iO (g:aF):O->R (Option Int)
 |.none=>.ok Y
 |.some e=>ev g e>>=λx=>ek x>>=λi=>.ok (Z i)
noncomputable def hU (g:aF):O->R Bool
 |.none=>.ok J
 |.some e=>ev g e>>=λx=>ej x
noncomputable def fo (g:aF):I->R (List D)
 |.seq e=>ev g e>>=λx=>cP x
 |.dz a=>ev g a>>=λx=>ek x>>=λi=>ic 0 i
 |.enum a=>ev g a>>=λx=>om x
 |.iI i=>kr g[i]?
end
end
structure eF where
 j:Nat
 k5:Nat
 mM:Nat
noncomputable def kS(up:hc)(k5 a:Nat):Bool:=(up 1).contains k5&&(up 1).contains a
noncomputable def e7:Str:="none"
mutual
inductive S where
 |asg (i:Nat) (e:E)
 |app (i:Nat) (e:E)
 |iJ (i:Nat)
 |jV (i:Nat)
 |ly (i:Nat)
 |jE (i:Nat)
 |gO (i j:Nat) (e:E)
 |stop
 |hP (i j:Nat)
 |raise (c:Nat)
 |j7 (i:Nat) (e:E) (k:Nat) (h:eF)
 |ext (i:Nat) (e:E)
 |ret (e:E)
 |iff (c:E) (a b:B)
 |c1 (k:Nat) (ts:List Nat) (s:I) (b:B)
inductive B where
 |nil
 |cons (s:S) (b:B)
end
inductive c4 where
 |aU (aa:aF)
 |bK (d:D)
noncomputable def f9:List Nat->List (Option D)->aF->aF
 |i::b,v::c,a=>f9 b c (a.set i v)
 |_,_,a=>a
noncomputable def forL(f:D->aF->R c4):List D->aF->R c4
 |[],a=>.ok (.aU a)
 |d::ds,a=>f d a>>=λr=>match r with
  |.aU b=>forL f ds b
  |.bK x=>.ok (.bK x)
noncomputable def gr(pg:cT)(c k:Nat)(h:eF):R c4:=if c==1&&((pg.up c).contains k&&kS pg.up h.k5 h.mM) then .ok (.bK (.str e7)) else .bad
noncomputable def Aq:R c4->(Nat->R c4)->R c4
 |.ok r,_=>.ok r
 |.exc c,f=>f c
 |.bad,_=>.bad
noncomputable def l7:Option (Option D)->D->R D
 |some (Z (.lst xs)),d=>if xs.length<SZ then .ok (.lst (xs++[d])) else .bad
 |_,_=>.bad
noncomputable def ow:Option (Option D)->D->R D
 |some (Z (.lst xs)),.lst ys=>if xs.length+ys.length<=SZ then .ok (.lst (xs++ys)) else .bad
 |some (Z (.lst xs)),.tup ys=>if xs.length+ys.length<=SZ then .ok (.lst (xs++ys)) else .bad
 |_,_=>.bad
noncomputable def iC:Option (Option D)->R Unit
 |some (Z (.lst _))=>.ok ()
 |_=>.bad
section
variable(pg:cT)(Φ:dn)
mutual
noncomputable def ex (f:aF):S->R c4
 |.asg i e=>ev pg Φ f e>>=λd=>.ok (.aU (f.set i (Z d)))
 |.app i e=>iC f[i]?>>=λ_=>ev pg Φ f e>>=λd=>l7 f[i]? d>>=λx=>.ok (.aU (f.set i (Z x)))
 |.ret e=>ev pg Φ f e>>=λd=>.ok (.bK d)
 |.jV i=>o1 f[i]?>>=λd=>.ok (.bK d)
 |.ly i=>mq f[i]?>>=λd=>.ok (.bK d)
 |.iJ i=>.ok (.aU (f.set i (Z (.aN []))))
 |.jE i=>.ok (.aU (f.set i (Z (.aM []))))
 |.gO i j e=>ev pg Φ f e>>=λd=>kv f[i]? f[j]? d>>=λx=>.ok (.aU (f.set i (Z x)))
 |.stop=>.bad
 |.hP i j=>mr f[i]? f[j]?>>=λx=>.ok (.aU (f.set i (Z x)))
 |.raise c=>.exc c
 |.j7 i e k h=>Aq (ev pg Φ f e>>=λd=>.ok (.aU (f.set i (Z d)))) λc=>gr pg c k h
 |.ext i e=>iC f[i]?>>=λ_=>ev pg Φ f e>>=λd=>ow f[i]? d>>=λx=>.ok (.aU (f.set i (Z x)))
 |.iff c a b=>ev pg Φ f c>>=λx=>ej x>>=λk=>if k then cV f a else cV f b
 |.c1 k ts s b=>fo pg Φ f s>>=λds=>forL (λd g=>dC k d>>=λl=>cV (f9 ts l g) b) ds f
noncomputable def cV (f:aF):B->R c4
 |.nil=>.ok (.aU f)
 |.cons s b=>ex f s>>=λr=>match r with
  |.aU g=>cV g b
  |.bK d=>.ok (.bK d)
end
end
structure ir where
 np:Nat
 nl:Nat
 body:B
noncomputable def start(fd:ir)(ds:List D):aF:=ds.map Z++Tr fd.nl Y
noncomputable def iN:R c4->R D
 |.ok (.bK d)=>.ok d
 |.ok (.aU _)=>.ok .bG
 |.exc c=>.exc c
 |.bad=>.bad
noncomputable def bg(pg:cT)(Φ:dn)(fd:ir)(ds:List D):R D:=if ds.length=fd.np then iN (cV pg Φ (start fd ds) fd.body) else .bad
noncomputable def run(pg:cT)(fds:List ir):Nat->dn
 |0=>λ_ _=>.bad
 |n+1=>λf ds=>match fds[f]? with
  |some fd=>bg pg (run pg fds n) fd ds
  |none=>.bad
def nj(pg:cT)(fds:List ir)(n f:Nat)(ds:List D):run pg fds (n+1) f ds=(match fds[f]? with|some fd=>bg pg (run pg fds n) fd ds|none=>.bad):=rfl
structure Gt where
 fns:List Tj
 cls:List Tj
 mF:List Tj
structure bR where
 N:List Tj
 sc:U1
 ae:List Nat
noncomputable def gE(a:U1)(x:Tj):Bool:=a.names.lookup x==Z .local||a.names.lookup x==Z .cell||a.names.lookup x==Z .free
noncomputable def gy(a:U1)(x:Tj):Bool:=a.names.lookup x==Z .local||a.names.lookup x==Z .cell
noncomputable def ho(a:U1)(x:Tj):Bool:=a.names.lookup x==Z .globalImplicit
noncomputable def okN(x:Tj):Bool:=!(x==("__debug__":Tj))&&!(x==("__classdict__":Tj))&&!(x==("__name__":Tj))
noncomputable def yh:Op->Operator->Bool
 |.add,.Add=>J|.sub,.Sub=>J|.mul,.Mult=>J|.fdiv,.FloorDiv=>J|.mod,.Mod=>J|.and,.BitAnd=>J|.xor,.BitXor=>J|.shl,.LShift=>J|.shr,.RShift=>J
 |_,_=>S6
noncomputable def vj:lT->CmpOp->Bool
 |.mem,.In=>J|.h8,.NotIn=>J|.eq,.Eq=>J|.ne,.NotEq=>J|.lt,.Lt=>J|.is,.Is=>J|.kV,.IsNot=>J|.gt,.Gt=>J 
 |_,_=>S6
noncomputable def litOk:D->Const->Bool
 |.bG,.none=>J
 |.ah a,.bool b=>a==b
 |.int i,.int j=>i==j
 |.str x,.str y=>x==y
 |_,_=>S6
noncomputable def tyName:Ty->Tj
 |.int=>"int"|.bool=>"bool"|.str=>"str"|.tuple=>"tuple"|.cls _=>""
noncomputable def m9:cJ->Tj
 |.len=>"len"|.sorted=>"sorted"|.sum=>"sum"|.max=>"max"|.int=>"int"|_=>""
noncomputable def nc:cJ->Bool
 |.len=>J|.sorted=>J|.sum=>J|.max=>J|.int=>J|_=>S6
noncomputable def nameOf:Tq->Option Tj
 |.Name x _=>Z x
 |_=>Y
noncomputable def namesOf:List Tq->Option (List Tj)
 |[]=>Z []
 |e::a=>match nameOf e,namesOf a with|some x,Z xs=>Z (x::xs)|_,_=>Y
noncomputable def dk:Nat->Tq->Option (List Tj)
 |0,.Name x _=>Z [x]
 |k+1,.Tuple a _ _=>match namesOf a with|some xs=>if xs.length=k+1 then Z xs else Y|none=>Y
 |_,_=>Y
noncomputable def mask(N xs:List Tj):List Str:=N.map λn=>if xs.contains n then(((".":Tj))++n) else n
noncomputable def i4:I->Bool
 |.enum _=>J
 |_=>S6
noncomputable def zK:I->Bool
 |.seq _=>J
 |.dz _=>J
 |_=>S6
noncomputable def o9:Tq->Bool
 |.ListComp ..=>S6
 |_=>J
noncomputable def cL(g:Gt)(a:U1)(x:Tj):Bool:=ho a x&&!(g.fns.contains x)&&!(g.cls.contains x)&&!(g.mF.contains x)
noncomputable def dm:Tq->Option Tj
 |.Name x _=>Z x
 |_=>Y
noncomputable def ji:Tq->Option Const
 |.Constant c _ _=>Z c
 |_=>Y
noncomputable def AH:Tq->Option (List Tq)
 |.Tuple a _ _=>Z a
 |_=>Y
noncomputable def AF:Tq->Option (List Tq)
 |.List a _=>Z a
 |_=>Y
noncomputable def nB:Tq->Option (Tq×Operator×Tq)
 |.BinOp x o y _=>Z (x,o,y)
 |_=>Y
noncomputable def nE:Tq->Option (UnaryOp×Tq)
 |.UnaryOp o x _=>Z (o,x)
 |_=>Y
noncomputable def tZ:Tq->Option (Tq×List CmpOp×List Tq)
 |.Compare x os ys _=>Z (x,os,ys)
 |_=>Y
noncomputable def vBool:Tq->Option (BoolOp×List Tq×UN)
 |.BoolOp o a p=>Z (o,a,p)
 |_=>Y
noncomputable def qg:Tq->Option (Tq×Tq)
 |.Subscript x y _=>Z (x,y)
 |_=>Y
noncomputable def AG:Tq->Option (Option Tq×Option Tq×Option Tq)
 |.Slice l h t _=>Z (l,h,t)
 |_=>Y
noncomputable def lN:Tq->Option (Tq×List Tq×List Vc)
 |.Call f a b _=>Z (f,a,b)
 |_=>Y
noncomputable def d7(x:Tq):Option (Tj×List Tq):=match lN x with
 |some (f,a,[])=>(match dm f with|some y=>Z (y,a)|none=>Y)
 |_=>Y
noncomputable def qd:Tq->Option (Tq×Tj×UN)
 |.Attribute o n p=>Z (o,n,p)
 |_=>Y
noncomputable def AB:Tq->Option (Tq×List Comprehension×U1)
 |.ListComp x a b _=>Z (x,a,b)
 |_=>Y
noncomputable def tyB(g:Gt)(ct:bR)(n:Tj):Ty->Bool
 |.cls c=>ho ct.sc n&&okN n&&(if c=1000 then n==("ValueError":Tj)&&cL g ct.sc n else g.cls[c]?==Z n)
 |t=>n==tyName t&&cL g ct.sc n
noncomputable def tyP(g:Gt)(ct:bR)(n:Tj):Ty->Bool
 |.cls _=>S6
 |t=>n==tyName t&&cL g ct.sc n
noncomputable def lP(g:Gt)(ct:bR)(x:Tj)(t:Ty)(e y:Tq):Option Expr:=match dm y with
 |some n=>if x==("isinstance":Tj)&&cL g ct.sc x&&tyP g ct n t then Z e else Y
 |none=>Y
noncomputable def qh(g:Gt)(ct:bR)(x:Tj)(e:Tq):Option Expr:=match d7 e with
 |some (y,[a])=>if x==("sorted":Tj)&&cL g ct.sc x&&y==("set":Tj)&&cL g ct.sc y then Z a else Y
 |_=>Y
noncomputable def AN(g:Gt)(ct:bR)(x:Tj)(p:cJ)(a:List Tq):Option Expr:=match p with
 |.d4=>(match a with|[e]=>qh g ct x e|_=>Y)
 |.inst t=>(match a with|[e,y]=>lP g ct x t e y|_=>Y)
 |p=>(match a with|[e]=>if nc p&&x==m9 p&&cL g ct.sc x then Z e else Y|_=>Y)
noncomputable def mg(ct:bR)(a:U1)(xs:List Tj):Bool:=decide (a.kind=.function)&&a.names.all (λy=>y.2 != .cell)&&a.names.all (λy=>y.2 != .local||a.names.lookup y.1==Z .local)
 && xs.all (λy=>a.names.lookup y==Z .local&&okN y)&&decide xs.Nodup&&a.names.all (λy=>y.2 != .local||xs.contains y.1||y.1==(".0":Tj))
 && a.names.all (λy=>y.2 != .free||(ct.sc.names.lookup y.1==Z .cell||ct.sc.names.lookup y.1==Z .free))&&((mask ct.N xs).zip ct.N).all (λp=>p.1==p.2||a.names.lookup p.1==Y)&&decide (mask ct.N xs++xs).Nodup&&!((mask ct.N xs++xs).contains (".0":Tj))
noncomputable def oS:Tq->Bool
 |.Dict [] [] _=>J
 |_=>S6
noncomputable def t5:Tq->Option (List (Option Tq)×List Tq)
 |.Dict a b _=>Z (a,b)
 |_=>Y
noncomputable def t4(z:Tq):Option (Tj×Tj):=match t5 z with
 |some ([Z a],[b])=>(match dm a,dm b with|some n,Z k=>Z (n,k)|_,_=>Y)
 |_=>Y
noncomputable def l6(ct:bR)(i:Nat)(n:Tj):Bool:=ct.N[i]?==Z n&&gE ct.sc n&&okN n
noncomputable def t6(z:Tq):Option (Tj×Tj×UN):=match lN z with
 |some (f,[k,o],[])=>(match qd f with
  |some (d,n,a)=>(match dm d,dm k,ji o with|some x,Z y,Z (.int i)=>if n==("get":Tj)&&i==0 then Z (x,y,a) else Y|_,_,_=>Y)
  |none=>Y)
 |_=>Y
noncomputable def t8(z:Tq):Option (Tj×Tj):=match d7 z with
 |some (x,[e])=>(match dm e with|some n=>Z (x,n)|none=>Y)
 |_=>Y
noncomputable def jQ(ct:bR)(i:Nat)(n:Tj):Bool:=ct.N[i]?==Z n&&gE ct.sc n&&okN n&&ct.ae.contains i
noncomputable def i5(ct:bR)(i:Nat)(n:Tj):Bool:=ct.N[i]?==Z n&&gE ct.sc n&&okN n&&!ct.ae.contains i
noncomputable def nD(z:Tq):Option (Tj×Tj):=match qg z with
 |some (x,y)=>(match dm x,dm y with|some n,Z k=>Z (n,k)|_,_=>Y)
 |none=>Y
noncomputable def qc(z:Tq):Option (Tj×Tj×UN×Tq):=match lN z with
 |some (f,[y],[])=>(match qd f with
  |some (o,n,a)=>(match dm o with|some x=>Z (x,n,a,y)|none=>Y)
  |none=>Y)
 |_=>Y
noncomputable def isVar:E->Bool
 |.var _=>J
 |_=>S6
noncomputable def ua(z:Tq):Option (Tj×Tj×Tq×Tj×Tq):=match d7 z with
 |some (x,[e])=>(match nB e with
  |some (l,.BitXor,r)=>(match d7 l,d7 r with|some (y,[c]),Z (b,[a])=>Z (x,y,c,b,a)|_,_=>Y)
  |_=>Y)
 |_=>Y
noncomputable def t2(z:Tq):Option (Tq×Tj×UN):=match lN z with
 |some (f,[y],[])=>(match qd f,ji y with|some (o,n,a),Z (.bool J)=>Z (o,n,a)|_,_=>Y)
 |_=>Y
noncomputable def Fs:Tq->Bool
 |.ListComp ..=>J
 |_=>S6
section
variable(g:Gt)
mutual
noncomputable def bH (ct:bR) (v:Bool):E->Tq->Bool
 |.var i,z=>(match dm z with|some x=>ct.N[i]?==Z x&&gE ct.sc x&&okN x&&(v||!ct.ae.contains i)|none=>S6)
 |.lit d,z=>(match ji z with|some c=>litOk d c|none=>S6)
 |.tup a,z=>(match AH z with|some m=>iD ct a m&&decide (m.length<=1000)|none=>S6)
 |.lst a,z=>(match AF z with|some m=>iD ct a m&&decide (m.length<=1000)|none=>S6)
 |.bin op a b,z=>(match nB z with|some (x,o,y)=>yh op o&&bH ct J a x&&bH ct J b y|none=>S6)
 |.neg a,z=>(match nE z with|some (.USub,x)=>bH ct J a x|_=>S6)
 |.not a,z=>(match nE z with|some (.Not,x)=>bH ct J a x|_=>S6)
 |.cmp op a b,z=>(match tZ z with|some (x,[o],[y])=>vj op o&&bH ct J a x&&bH ct J b y|_=>S6)
 |.and a b,z=>(match vBool z with|some (.And,[x,y],_)=>bH ct J a x&&bH ct v b y|some (.And,x::y::w::r,p)=>bH ct J a x&&bH ct v b (.BoolOp .And (y::w::r) p)|_=>S6)
 |.or a b,z=>(match vBool z with|some (.Or,[x,y],_)=>bH ct J a x&&bH ct v b y|some (.Or,x::y::w::r,p)=>bH ct J a x&&bH ct v b (.BoolOp .Or (y::w::r) p)|_=>S6)
 |.lG a b,z=>(match ua z with|some (x,y,c,M,C)=>x==("sorted":Tj)&&cL g ct.sc x&&y==("set":Tj)&&cL g ct.sc y&&M==("set":Tj)&&isVar b&&bH ct J a c&&bH ct J b C|none=>S6)
 |.idx a b,z=>(match qg z with|some (x,y)=>bH ct J a x&&bH ct J b y|none=>S6)
 |.slice a L G,z=>(match qg z with|some (x,y)=>(match AG y with|some (l,h,Y)=>bH ct J a x&&mm ct L l&&mm ct G h|_=>S6)|none=>S6)
 |.call f a,z=>(match d7 z with|some (x,m)=>g.fns[f]?==Z x&&ho ct.sc x&&okN x&&!m.isEmpty&&iD ct a m|none=>S6)
 |.prim p a,z=>(match d7 z with|some (x,m)=>(match AN g ct x p m with|some e=>bH ct J a e|none=>S6)|none=>S6)
 |.tupI s,z=>(match d7 z with|some (x,[e])=>x==("tuple":Tj)&&cL g ct.sc x&&zK s&&hh ct J s e|_=>S6)
 |.comp e k s c,z=>(match AB z with
   |some (x,[⟨t,K,H,0⟩],u)=>(match dk k t with
    |some xs=>(!i4 s||k==2)&&mg ct u xs&&hh ct J s K&&bH ⟨mask ct.N xs++xs,u,ct.ae⟩ S6 e x&&jz ⟨mask ct.N xs++xs,u,ct.ae⟩ c H
    |none=>S6)
   |_=>S6)
 |.eN i j,z=>(match nD z with|some (n,k)=>l6 ct i n&&i5 ct j k|none=>S6)
 |.h3 i j,z=>(match qc z with|some (x,n,q,y)=>(match dm y with|some k=>n==("index":Tj)&&(q.endLine==z.pos.line)&&l6 ct i x&&l6 ct j k|none=>S6)|none=>S6)
 |.kx i,z=>(match t8 z with|some (x,n)=>x==("sorted":Tj)&&cL g ct.sc x&&jQ ct i n|none=>S6)
 |.min2 a b,z=>(match d7 z with|some (x,[y,w])=>x==("min":Tj)&&cL g ct.sc x&&bH ct J a y&&bH ct J b w|_=>S6)
 |.cnt a,z=>(match t2 z with|some (o,n,q)=>n==("count":Tj)&&(q.endLine==z.pos.line)&&Fs o&&bH ct J a o|none=>S6)
 |.ks i j,z=>(match t4 z with|some (n,k)=>i5 ct i n&&i5 ct j k|none=>S6)
 |.ku,z=>oS z
noncomputable def iD (ct:bR):A->List Tq->Bool
 |.nil,[]=>J
 |.cons e a,x::xs=>bH ct S6 e x&&iD ct a xs
 |_,_=>S6
noncomputable def mm (ct:bR):O->Option Tq->Bool
 |.none,Y=>J
 |.some e,Z x=>bH ct J e x
 |_,_=>S6
noncomputable def jz (ct:bR):O->List Tq->Bool
 |.none,[]=>J
 |.some e,[x]=>bH ct J e x
 |_,_=>S6
noncomputable def hh (ct:bR) (v:Bool):I->Tq->Bool
 |.seq e,z=>bH ct v e z
 |.dz a,z=>(match d7 z with|some (x,[y])=>x==("range":Tj)&&cL g ct.sc x&&bH ct J a y|_=>S6)
 |.enum a,z=>(match d7 z with|some (x,[y])=>x==("enumerate":Tj)&&cL g ct.sc x&&bH ct v a y|_=>S6)
 |.iI i,z=>(match dm z with|some n=>i5 ct i n|none=>S6)
end
noncomputable def gR:E->Bool
 |.lst _=>J
 |.comp ..=>J
 |.bin .add _ _=>J
 |.prim .sorted _=>J
 |.prim .d4 _=>J
 |.lG _ _=>J
 |.kx _=>J
 |_=>S6
noncomputable def kq(ct:bR):List Nat->List Tj->Bool
 |[],[]=>J
 |i::a,x::xs=>ct.N[i]?==Z x&&gy ct.sc x&&okN x&&!ct.ae.contains i&&kq ct a xs
 |_,_=>S6
noncomputable def fI:T3->Option (List Tq×Tq)
 |.Assign ts y _=>Z (ts,y)
 |_=>Y
noncomputable def z3:T3->Option Tq
 |.Expr y _=>Z y
 |_=>Y
noncomputable def hC:T3->Option (Option Tq)
 |.Return y _=>Z y
 |_=>Y
noncomputable def ny:T3->Option (Tq×List T3×List T3)
 |.If t x y _=>Z (t,x,y)
 |_=>Y
noncomputable def nx:T3->Option (Tq×Tq×List T3×List T3)
 |.For t a x y _=>Z (t,a,x,y)
 |_=>Y
noncomputable def z6:T3->Option Tq
 |.Raise (Z y) Y _=>Z y
 |_=>Y
noncomputable def tN:T3->Option (List T3×List Wx×List T3×List T3)
 |.Try a h e f _=>Z (a,h,e,f)
 |_=>Y
noncomputable def Nf:Wx->Option Tq×Option Tj×List T3
 |.ExceptHandler t n b _=>(t,n,b)
noncomputable def n9(ct:bR)(i:Nat)(e:E)(z:T3):Bool:=match fI z with
 |some ([t],y)=>(match dm t with|some x=>ct.N[i]?==Z x&&gy ct.sc x&&okN x&&(!ct.ae.contains i||gR e)&&bH g ct S6 e y|none=>S6)
 |_=>S6
noncomputable def ob(ct:bR)(i:Nat)(e:E)(nm:Tj)(z:T3):Bool:=match z3 z with
 |some c=>(match qc c with|some (x,n,a,y)=>(a.endLine==c.pos.line)&&ct.N[i]?==Z x&&gE ct.sc x&&okN x&&ct.ae.contains i&&n==nm&&bH g ct S6 e y|none=>S6)
 |none=>S6
noncomputable def kp(ct:bR)(i:Nat)(z:T3):Bool:=match fI z with
 |some ([t],y)=>(match dm t with|some x=>ct.N[i]?==Z x&&gy ct.sc x&&okN x&&ct.ae.contains i&&oS y|none=>S6)
 |_=>S6
noncomputable def rE(ct:bR)(i j:Nat)(z:T3):Bool:=match fI z with
 |some ([t],v)=>(match nD t with
  |some (x,y)=>(match nB v with
   |some (c,.Add,b)=>(match t6 c,ji b with|some (d,e,a),Z (.int n)=>n==1&&d==x&&e==y&&jQ ct i x&&i5 ct j y&&(a.endLine==c.pos.line)|_,_=>S6)
   |_=>S6)
  |none=>S6)
 |_=>S6
noncomputable def rF(ct:bR)(i j:Nat)(e:E)(z:T3):Bool:=match fI z with
 |some ([t],v)=>(match nD t with|some (x,y)=>jQ ct i x&&i5 ct j y&&o9 v&&bH g ct S6 e v|none=>S6)
 |_=>S6
noncomputable def rJ(ct:bR)(c:Nat)(z:T3):Bool:=match z6 z with
 |some y=>(match d7 y with
  |some (x,[a])=>(match ji a with|some (.str _)=>c==1&&g.cls[c]?==Z x&&ho ct.sc x&&okN x|_=>S6)
  |_=>S6)
 |none=>S6
noncomputable def oa(ct:bR)(n:Tj)(k:Nat)(z:Tq):Bool:=match d7 z with
 |some (x,[e,d])=>(match dm e,dm d with|some y,Z t=>x==("isinstance":Tj)&&cL g ct.sc x&&y==n&&tyB g ct t (.cls k)&&(k==1000||decide (k<g.cls.length))|_,_=>S6)
 |_=>S6
noncomputable def rD(ct:bR)(k:Nat)(t:Tq):Bool:=match dm t with
 |some x=>g.cls[k]?==Z x&&ho ct.sc x&&okN x
 |none=>S6
noncomputable def xa(y:Tq):Bool:=match ji y with
 |some (.str b)=>b==e7
 |_=>S6
noncomputable def rH(ct:bR)(n:Tj)(k5 b:Nat)(t:T3):Bool:=match hC t with
 |some (Z r)=>(match nB r with
  |some (q,.Mult,v)=>(match d7 v with
   |some (a,[y])=>(match vBool y with
    |some (.And,[c,d],_)=>oa g ct n k5 c&&oa g ct n b d&&xa q&&a==("int":Tj)&&cL g ct.sc a
    |_=>S6)
   |_=>S6)
  |_=>S6)
 |_=>S6
noncomputable def rI(ct:bR)(h:eF)(n:Option Tj)(st:List T3):Bool:=match n with
 |some n=>ct.N[h.j]?==Z n&&ct.sc.names.lookup n==Z .local&&okN n&&(match st with|[t]=>rH g ct n h.k5 h.mM t|_=>S6)
 |none=>S6
noncomputable def ve(ct:bR)(k:Nat)(h:eF)(q:Option Tq×Option Tj×List T3):Bool:=match q.1 with
 |some t=>rD g ct k t&&rI g ct h q.2.1 q.2.2
 |none=>S6
noncomputable def rL(ct:bR)(i:Nat)(e:E)(k:Nat)(h:eF)(z:T3):Bool:=match tN z with
 |some ([a],[b],[],[])=>n9 g ct i e a&&decide (k<2)&&ve g ct k h (Nf b)
 |_=>S6
noncomputable def tX:B->Option (Nat×E×B)
 |.cons (.asg i e) b=>Z (i,e,b)
 |_=>Y
noncomputable def Fu:B->Bool
 |.nil=>J
 |_=>S6
noncomputable def AE:B->Option (E×B)
 |.cons (.iff c a .nil) .nil=>Z (c,a)
 |_=>Y
noncomputable def v1:List T3->Option T3
 |[st]=>Z st
 |_=>Y
noncomputable def rC(ct:bR)(i:Nat)(e:E)(z:T3):Bool:=match fI z with
 |some ([t],y)=>(match dm t with|some x=>ct.N[i]?==Z x&&gy ct.sc x&&!ct.ae.contains i&&o9 y&&bH g ct S6 e y|none=>S6)
 |_=>S6
noncomputable def ml(ct:bR):List T3->B->Bool
 |[],b=>Fu b
 |z::c,b=>(match tX b with|some (i,e,a)=>rC g ct i e z&&ml ct c a|none=>S6)
noncomputable def rG(ct:bR)(b:B)(d:List T3):Bool:=ml g ct d b||(match AE b,v1 d with
 |some (c,a),Z z=>(match ny z with|some (t,x,[])=>bH g ct J c t&&ml g ct x a|_=>S6)
 |_,_=>S6)
mutual
noncomputable def rK (ct:bR):S->T3->Bool
 |.asg i e,z=>n9 g ct i e z
 |.app i e,z=>ob g ct i e "append" z
 |.ret e,z=>(match hC z with|some (Z y)=>bH g ct S6 e y|_=>S6)
 |.jV i,z=>(match hC z with|some (Z y)=>(match dm y with|some x=>jQ ct i x|none=>S6)|_=>S6)
 |.ly i,z=>(match hC z with|some (Z y)=>(match dm y with|some x=>jQ ct i x|none=>S6)|_=>S6)
 |.iff c a b,z=>(match ny z with|some (t,x,y)=>bH g ct J c t&&hg ct a x&&hg ct b y|none=>S6)
 |.c1 k ts s b,z=>(match nx z with|some (t,d,x,[])=>(match dk k t with|some xs=>(!i4 s||k==2)&&kq ct ts xs&&decide ts.Nodup&&((hh g ct S6 s d&&hg ct b x)||(hh g ct J s d&&rG g ct b x))|none=>S6)|_=>S6)
 |.iJ i,z=>kp ct i z
 |.jE i,z=>kp ct i z
 |.gO i j e,z=>rF g ct i j e z
 |.stop,_=>J
 |.hP i j,z=>rE ct i j z
 |.raise c,z=>rJ g ct c z
 |.j7 i e k h,z=>rL g ct i e k h z
 |.ext i e,z=>ob g ct i e "extend" z
noncomputable def hg (ct:bR):B->List T3->Bool
 |.nil,[]=>J
 |.cons s b,x::xs=>rK ct s x&&hg ct b xs
 |_,_=>S6
end
mutual
noncomputable def Hz:S->List Nat
 |.app j _=>[j]
 |.iJ j=>[j]
 |.jE j=>[j]
 |.hP j _=>[j]
 |.gO j _ _=>[j]
 |.ext j _=>[j]
 |.iff _ a b=>hv a++hv b
 |.c1 _ _ _ b=>hv b
 |_=>[]
noncomputable def hv:B->List Nat
 |.nil=>[]
 |.cons s b=>Hz s++hv b
end
noncomputable def iE(N:List Tj)(fd:ir):T3->Bool
 |.FunctionDef name args body [] Y [] a Y bind _ =>
   decide (a.kind=.function)&&!a.isCoroutine&&!a.isGenerator&&decide N.Nodup&&N.length==fd.np+fd.nl
   && (args.args.map (·.arg))==N.take fd.np&&args.posonlyargs.isEmpty&&args.vararg.isNone&&args.kwonlyargs.isEmpty&&args.kwarg.isNone&&args.defaults.isEmpty&&args.kw_defaults.isEmpty
   && (N.take fd.np).all (λx=>gy a x)&&a.names.all (λy=>y.2 != .free)
   && (hv fd.body).all (λi=>decide (fd.np<=i)&&decide (i<N.length))&&hg g ⟨N,a,hv fd.body⟩ fd.body body
 |_=>S6
end
end ζ
end
section
local macro_rules|`({$x:term})=>`(.cons $x .nil)|`({$x:term,$y:term,*})=>`(.cons $x ({$y:term,*}))
local macro_rules(kind:=scientific)|`($n:scientific)=>match n.getScientific with|(m,_,0)=>`(.var $(Lean.quote m))|(m,_,_)=>`(.lit (.int $(Lean.quote m)))
namespace ak
open PySem ζ
noncomputable def n7 :B:={.ret (.tupI (.seq (.lG 0e0 1e0)))}
noncomputable def ru :B:={.ret (.comp (.bin .add (.slice 0e0 .none (.some 1e0)) (.slice 0e0 (.some (.bin .add 1e0 1e1)) .none)) 0 (.dz (.prim .len 0e0)) (.some (.cmp .gt (.prim .len 0e0) 1e1)))}
noncomputable def rq(b:Nat)(a:Nat):B:={.asg 1 (.tup .nil),.c1 0 [2] (.seq 0e0) {.asg 1 (.call b {1e0,.call a {2e0}})},.ret 1e0}
noncomputable def q1(a:Nat):B:={.ret (.cmp .eq (.call a {0e0}) (.tup .nil))}
noncomputable def qW :B:={.asg 1 (.lst .nil),.c1 0 [2] (.seq 0e0) {.asg 1 (.bin .add (.bin .add 1e0 (.lst {.tup {2e0}})) (.comp (.bin .add 3e0 (.tup {2e0})) 0 (.seq 1e0) .none))},.ret 1e0}
noncomputable def qY(a:Nat):B:={.asg 1 (.lst .nil),.c1 0 [2] (.seq (.idx 0e0 1e1)) {.ext 1 (.call a {2e0})},.ret (.prim .d4 1e0)}
noncomputable def qV(a:Nat):B:={.ret (.tupI (.seq (.comp 2e0 0 (.seq (.call a {0e0})) (.some (.cmp .eq (.bin .sub (.prim .len 2e0) 1e1) 1e0)))))}
noncomputable def ro(a:Nat):B:={.iJ 2,.asg 3 1e1,.c1 0 [4] (.seq (.call a {0e0,1e0})) {.gO 2 4 3e0,.asg 3 (.bin .mul 3e0 2e1)},.ly 2}
noncomputable def mb :B:={.ret (.prim .sum (.comp (.eN 1 2) 0 (.seq 0e0) .none))}
noncomputable def qX :B:={.ret (.tupI (.seq (.comp 2e0 0 (.iI 1) (.some (.cmp .ne (.bin .and 0e0 (.eN 1 2)) 0e1)))))}
noncomputable def rr(b:Nat)(c:Nat)(a:Nat):B:={.asg 2 (.call a {0e0,.bin .sub 1e0 1e1}),.asg 3 (.call a {0e0,1e0}),.ret (.comp (.tup {.call b {.call c {4e0},2e0},.eN 3 4}) 0 (.iI 3) .none)}
noncomputable def rv :B:={.ret (.tup {.bin .xor (.idx 0e0 0e1) (.idx 1e0 0e1),.bin .xor (.idx 0e0 1e1) (.idx 1e0 1e1)})}
noncomputable def rp(a:Nat):B:={.c1 0 [2] (.iI 1) {.iff (.cmp .ne (.bin .and (.idx 0e0 0e1) 2e0) 0e1) {.asg 0 (.call a {0e0,.eN 1 2})} .nil},.ret 0e0}
noncomputable def rn :B:={.ret (.bin .and 0e0 (.neg 0e0))}
noncomputable def n6(a:Nat)(b:Nat):B:={.asg 2 (.call a {1e0,0e0}),.iff (.cmp .eq (.idx 2e0 0e1) 0e1) {.ret 0e0} .nil,.asg 3 (.call b {.idx 2e0 0e1}),.jE 4,.c1 0 [5] (.iI 0) {.gO 4 5 (.call a {.eN 0 5,.ks 3 2})},.gO 4 3 2e0,.ly 4}
noncomputable def qU(a:Nat):B:={.asg 1 .ku,.c1 0 [2] (.seq 0e0) {.asg 1 (.call a {1e0,2e0})},.ret 1e0}
noncomputable def qZ(a:Nat)(b:Nat):B:={.asg 1 .ku,.asg 2 (.lst .nil),.c1 0 [3] (.seq 0e0) {.asg 4 (.call b {3e0,1e0}),.iff (.cmp .eq (.idx 4e0 0e1) 0e1) {.app 2 (.idx 4e0 1e1)} .nil,.asg 1 (.call a {1e0,3e0})},.jV 2}
noncomputable def q0(a:Nat):B:={.ret (.cmp .eq 1e0 (.tupI (.seq (.comp 3e0 0 (.seq (.call a {0e0,2e0})) (.some (.cmp .mem 3e0 1e0))))))}
noncomputable def q2(b:Nat)(a:Nat):B:={.ret (.and (.call a {0e0,1e0,2e0}) (.call b {1e0}))}
noncomputable def n5(d:Nat)(a:Nat)(f:Nat)(b:Nat)(g:Nat)(c:Nat)(e:Nat):B:={.iff (.not (.call e {0e0,1e0,2e0})) {.ret (.lit .bG)} .nil,.asg 3 (.call c {1e0,.call a {0e0,2e0}}),.asg 4 (.call f {.tup {3e0,0e1},.call b {.call g {0e0,.bin .add 2e0 1e1}}}),.iff (.cmp .ne (.idx 4e0 0e1) 0e1) {.ret (.lit .bG)} .nil,.ret (.call d {.idx 4e0 1e1,.call a {0e0,.bin .add 2e0 1e1}})}
noncomputable def rt(e:Nat)(a:Nat)(g:Nat)(d:Nat)(c:Nat)(f:Nat)(b:Nat):B:={.asg 2 (.call b {.call a {0e0,.bin .add 1e0 1e1}}),.asg 3 (.call f {0e0,1e0}),.asg 4 (.lst .nil),.c1 0 [5] (.seq (.call e {.call a {0e0,1e0}})) {.asg 6 (.tup {5e0,0e1}),.iff (.cmp .ne (.idx (.call g {6e0,2e0}) 0e1) 0e1) {.app 4 (.call c {5e0,3e0}),.asg 2 (.call d {2e0,6e0})} .nil},.ret (.tupI (.seq (.prim .sorted 4e0)))}
noncomputable def jw(c:Nat)(d:Nat)(a:Nat)(b:Nat):B:={.iff (.or (.not (.call a {0e0,1e0,3e0})) (.not (.call a {0e0,2e0,3e0}))) {.raise b} .nil,.ret (.cmp .kV (.call c {0e0,.call d {1e0,2e0},3e0}) (.lit .bG))}
noncomputable def q5 :B:={.iff (.cmp .lt 1e0 (.prim .len 0e0)) {.ret (.idx 0e0 1e0)} .nil,.ret 0e1}
noncomputable def rd(a:Nat):B:={.asg 2 (.bin .mod (.bin .mul (.bin .add (.bin .add (.call a {0e0,1e0}) (.bin .mul 7919e1 1e0)) 1e1) 48271e1) 2147483647e1),.ret (.bin .mod (.bin .add (.bin .add (.bin .mul 2e0 2e0) (.bin .mul 7e1 2e0)) 1e0) 2147483629e1)}
noncomputable def q8 :B:={.asg 2 (.bin .mod (.bin .mul (.bin .add (.bin .add 0e0 (.bin .mul 104729e1 1e0)) 17e1) 69621e1) 2147483647e1),.ret (.bin .mod (.bin .add (.bin .add (.bin .mul 2e0 2e0) (.bin .mul 3e1 2e0)) 1e0) 2147483629e1)}
noncomputable def rb :B:={.ret (.cmp .eq (.comp 2e0 0 (.seq 0e0) (.some (.cmp .h8 2e0 1e0))) (.lst .nil))}
noncomputable def rm(a:Nat):B:={.asg 1 (.lst .nil),.c1 0 [2] (.seq (.prim .d4 0e0)) {.iff (.cmp .eq (.comp 3e0 0 (.seq 0e0) (.some (.and (.cmp .ne 2e0 3e0) (.call a {2e0,3e0})))) (.lst .nil)) {.app 1 2e0} .nil},.ret (.tupI (.seq 1e0))}
noncomputable def kn(a:Nat):B:={.iff (.cmp .eq 1e0 0e1) {.ret (.lst {.tup .nil})} .nil,.asg 2 (.lst .nil),.c1 0 [3] (.dz (.prim .len 0e0)) {.asg 2 (.bin .add 2e0 (.comp (.bin .add (.tup {.idx 0e0 3e0}) 4e0) 0 (.seq (.call a {.slice 0e0 (.some (.bin .add 3e0 1e1)) .none,.bin .sub 1e0 1e1})) .none))},.ret 2e0}
noncomputable def rk(a:Nat):B:={.asg 2 (.comp (.tup {6e0}) 0 (.dz 1e0) .none),.c1 0 [3] (.dz (.bin .mod 0e0 9e1)) {.asg 4 (.call a {0e0,3e0}),.asg 5 (.tupI (.seq (.comp 6e0 0 (.dz 1e0) (.some (.cmp .lt (.bin .mod (.call a {4e0,6e0}) 5e1) (.bin .add 2e1 (.bin .mod 4e0 2e1))))))),.iff (.cmp .ne 5e0 (.tup .nil)) {.app 2 5e0} .nil},.jV 2}
noncomputable def rf(c:Nat)(a:Nat)(b:Nat):B:={.asg 2 (.bin .add 1e1 (.bin .mod 0e0 1e0)),.asg 3 (.bin .mod (.bin .fdiv 0e0 12e1) 8e1),.iff (.cmp .eq 3e0 0e1) {.asg 4 (.call a {.tupI (.dz 2e0),.bin .add 1e1 (.bin .mod (.bin .fdiv 0e0 96e1) 2e0)})} {.iff (.and (.cmp .eq 3e0 1e1) (.cmp .gt 1e0 5e1)) {.asg 2 6e1,.asg 4 (.comp (.tup {0e1,.bin .add 1e1 5e0,.bin .add 1e1 (.bin .mod (.bin .add 5e0 1e1) 5e1)}) 0 (.dz 5e1) .none),.asg 4 (.bin .add 4e0 (.comp (.tup {.bin .add 1e1 5e0,.bin .add 1e1 (.bin .mod (.bin .add 5e0 1e1) 5e1),.bin .add 1e1 (.bin .mod (.bin .add 5e0 3e1) 5e1)}) 0 (.dz 5e1) .none))} {.iff (.and (.cmp .eq 3e0 2e1) (.cmp .gt 1e0 6e1)) {.asg 2 7e1,.asg 4 (.comp (.tup {5e0,.bin .mod (.bin .add 5e0 1e1) 7e1,.bin .mod (.bin .add 5e0 3e1) 7e1}) 0 (.dz 7e1) .none),.asg 4 (.bin .add 4e0 (.comp (.tup {5e0,.bin .mod (.bin .add 5e0 2e1) 7e1,.bin .mod (.bin .add 5e0 3e1) 7e1}) 0 (.dz 7e1) .none))} {.asg 4 (.call b {.bin .fdiv 0e0 96e1,2e0})}}},.ret (.tup {2e0,.call c {.comp (.tupI (.seq (.prim .sorted 5e0))) 0 (.seq 4e0) .none}})}
noncomputable def q6(a:Nat):B:={.asg 2 (.lst .nil),.c1 0 [3] (.seq (.idx 0e0 1e1)) {.asg 2 (.bin .add 2e0 (.call a {3e0,.bin .add 1e0 1e1}))},.ret (.prim .d4 2e0)}
noncomputable def ra :B:={.ret (.prim .max (.comp (.prim .len 1e0) 0 (.seq (.idx 0e0 1e1)) .none))}
noncomputable def rh :B:={.iJ 1,.c1 0 [2] (.seq 0e0) {.c1 0 [3] (.dz (.bin .mul (.prim .len 2e0) (.prim .int (.cmp .gt (.prim .len 2e0) 1e1)))) {.asg 4 (.bin .add (.slice 2e0 .none (.some 3e0)) (.slice 2e0 (.some (.bin .add 3e0 1e1)) .none)),.hP 1 4}},.ret (.tupI (.seq (.comp 5e0 0 (.seq (.kx 1)) (.some (.cmp .eq (.bin .mod (.eN 1 5) 2e1) 1e1)))))}
noncomputable def mc(b:Nat)(a:Nat):B:={.asg 2 (.call a {0e0,1e0}),.iff (.cmp .eq 1e0 0e1) {.ret (.bin .mul (.lst {0e1}) (.prim .len 2e0))} .nil,.asg 3 (.call a {0e0,.bin .sub 1e0 1e1}),.ret (.comp (.prim .sum (.comp (.bin .shl 1e1 (.h3 3 5)) 0 (.seq (.call b {4e0,1e0})) .none)) 0 (.seq 2e0) .none)}
noncomputable def rg :B:={.asg 1 (.lst .nil),.c1 0 [2] (.seq 0e0) {.asg 3 2e0,.c1 0 [4] (.seq 1e0) {.asg 3 (.min2 3e0 (.bin .xor 3e0 4e0))},.iff (.cmp .gt 3e0 0e1) {.app 1 3e0} .nil},.ret (.prim .len 1e0)}
noncomputable def rj(a:Nat):B:={.asg 2 (.lst .nil),.asg 3 (.lst .nil),.c1 2 [4,5] (.enum (.call a {0e0,1e0})) {.asg 6 5e0,.asg 7 (.bin .shl 1e1 4e0),.c1 2 [8,9] (.seq 2e0) {.iff (.cmp .lt (.bin .xor 6e0 8e0) 6e0) {.asg 6 (.bin .xor 6e0 8e0),.asg 7 (.bin .xor 7e0 9e0)} .nil},.iff (.cmp .gt 6e0 0e1) {.app 2 (.tup {6e0,7e0})} {.app 3 7e0}},.jV 3}
noncomputable def q7 :B:={.ret (.tupI (.seq (.comp 3e0 2 (.enum 1e0) (.some (.cmp .eq (.bin .and (.bin .shr 0e0 2e0) 1e1) 1e1)))))}
noncomputable def ri(b:Nat)(a:Nat)(d:Nat)(c:Nat):B:={.asg 3 0e1,.c1 2 [4,5] (.enum (.call d {0e0,1e0})) {.iff (.cmp .eq (.bin .mod (.call c {2e0,4e0}) 2e1) 1e1) {.asg 3 (.bin .xor 3e0 5e0)} .nil},.ret (.call b {3e0,.call a {0e0,1e0}})}
noncomputable def q9(b:Nat)(a:Nat):B:={.asg 3 (.call a {0e0,1e0}),.ret (.tupI (.seq (.comp 5e0 2 (.enum 3e0) (.some (.cmp .eq (.bin .mod (.call b {2e0,4e0}) 3e1) 0e1)))))}
noncomputable def q4 :B:={.ret (.prim .sum (.comp (.bin .shl 1e1 (.h3 1 2)) 0 (.seq 0e0) .none))}
noncomputable def md(c:Nat)(b:Nat)(a:Nat):B:={.j7 4 (.call c {0e0,1e0,2e0,3e0}) b ⟨5,a,1000⟩,.ret (.idx (.lst {4e0,.lit (.str (Ud ""))}) (.prim .int (.not (.prim (.inst .bool) 4e0))))}
noncomputable def rl(b:Nat)(a:Nat):B:={.asg 2 (.lst {0e1}),.c1 0 [3] (.seq (.slice 0e0 .none (.some 3e1))) {.asg 2 (.bin .add 2e0 (.comp (.bin .xor 4e0 (.call a {3e0,1e0})) 0 (.seq 2e0) .none))},.ret (.comp (.call b {4e0,1e0}) 0 (.seq 2e0) .none)}
noncomputable def q3(b:Nat)(m:Nat)(f:Nat)(d:Nat)(c:Nat)(h:Nat)(l:Nat)(a:Nat)(i:Nat)(e:Nat)(g:Nat)(j:Nat)(k:Nat):B:={.asg 1 (.call k {.call a {0e0,0e1},6e1}),.asg 2 (.bin .mod (.call a {0e0,1e1}) (.call j {1e0})),.asg 3 (.call g {1e0,2e0}),.asg 4 (.call e {1e0,2e0,.call a {0e0,2e1}}),.asg 5 (.call e {1e0,2e0,.call a {0e0,3e1}}),.iff (.cmp .eq (.bin .mod (.call a {0e0,4e1}) 5e1) 1e1) {.asg 5 (.call i {1e0,2e0,.call a {0e0,5e1}})} .nil,.iff (.cmp .ne (.call l {5e0}) (.tup .nil)) {.ret (.and (.cmp .eq (.call b {1e0,4e0,5e0,2e0}) (.lit (.str (Ud "none")))) (.cmp .eq (.call b {1e0,5e0,4e0,2e0}) (.lit (.str (Ud "none")))))} .nil,.asg 6 (.call h {1e0,.bin .add 2e0 1e1}),.asg 7 (.bin .xor (.call c {4e0,3e0}) (.call c {5e0,3e0})),.asg 8 (.cmp .eq (.call d {.bin .add 6e0 (.lst {7e0})}) (.call d {6e0})),.iff (.or (.cmp .ne (.call b {1e0,4e0,5e0,2e0}) 8e0) (.cmp .ne (.call b {1e0,5e0,4e0,2e0}) 8e0)) {.ret (.lit (.ah S6))} .nil,.asg 9 (.call f {1e0,2e0}),.iff (.cmp .lt (.prim .len 9e0) 4e1) {.asg 10 (.call m {9e0,3e0}),.iff (.cmp .ne (.cnt (.comp (.call b {1e0,4e0,11e0,2e0}) 0 (.seq 10e0) .none)) 1e1) {.ret (.lit (.ah S6))} .nil} .nil,.ret (.cmp .is (.call b {1e0,4e0,4e0,2e0}) (.lit (.ah J)))}
end ak
end
section
namespace de
open PySem ζ
noncomputable def fds:List ir:=[
 ⟨2,0,ak.n7⟩,
 ⟨1,0,ak.ru⟩,
 ⟨1,2,ak.rq 0 1⟩,
 ⟨1,0,ak.q1 2⟩,
 ⟨1,2,ak.qW⟩,
 ⟨1,2,ak.qY 4⟩,
 ⟨2,0,ak.qV 5⟩,
 ⟨2,3,ak.ro 6⟩,
 ⟨2,0,ak.mb⟩,
 ⟨2,0,ak.qX⟩,
 ⟨2,2,ak.rr 8 1 7⟩,
 ⟨2,0,ak.rv⟩,
 ⟨2,1,ak.rp 11⟩,
 ⟨1,0,ak.rn⟩,
 ⟨2,4,ak.n6 12 13⟩,
 ⟨1,2,ak.qU 14⟩,
 ⟨1,4,ak.qZ 14 12⟩,
 ⟨3,0,ak.q0 6⟩,
 ⟨3,0,ak.q2 3 17⟩,
 ⟨3,2,ak.n5 9 7 12 15 10 8 17⟩,
 ⟨2,5,ak.rt 16 10 12 14 9 7 15⟩,
 ⟨4,0,ak.jw 19 0 18 1⟩,
 ⟨2,0,ak.q5⟩,
 ⟨2,1,ak.rd 22⟩,
 ⟨2,1,ak.q8⟩,
 ⟨2,0,ak.rb⟩,
 ⟨1,2,ak.rm 25⟩,
 ⟨2,2,ak.kn 27⟩,
 ⟨2,4,ak.rk 24⟩,
 ⟨2,3,ak.rf 26 27 28⟩,
 ⟨2,2,ak.q6 27⟩,
 ⟨1,0,ak.ra⟩,
 ⟨1,4,ak.rh⟩,
 ⟨2,2,ak.mc 27 30⟩,
 ⟨1,4,ak.rg⟩,
 ⟨2,8,ak.rj 33⟩,
 ⟨2,0,ak.q7⟩,
 ⟨3,3,ak.ri 36 30 35 24⟩,
 ⟨3,1,ak.q9 24 30⟩,
 ⟨2,0,ak.q4⟩,
 ⟨4,2,ak.md 21 1 0⟩,
 ⟨2,2,ak.rl 36 39⟩,
 ⟨1,10,ak.q3 40 41 20 34 39 33 32 23 38 37 30 31 29⟩]
noncomputable def cs:List D:=[]
noncomputable def up:hc:=λc=>match c with|0=>[0,1000]|1=>[1,0,1000]|_=>[]
noncomputable def pg:cT:=⟨up,cs⟩
noncomputable def ya:List (List Tj):=[
 (["one","other"]:List Tj),
 (["cell"]:List Tj),
 (["chain","found","cell"]:List Tj),
 (["chain"]:List Tj),
 (["top","found","corner"]:List Tj),
 (["net","found","top"]:List Tj),
 (["net","height"]:List Tj),
 (["net","height","found","bit","cell"]:List Tj),
 (["chain","marked"]:List Tj),
 (["bits","marked"]:List Tj),
 (["net","height","lower","own"]:List Tj),
 (["one","other"]:List Tj),
 (["row","basis","pivot"]:List Tj),
 (["bits"]:List Tj),
 (["basis","row","left","pivot","wider","other"]:List Tj),
 (["rows","basis","row"]:List Tj),
 (["rows","basis","found","row","left"]:List Tj),
 (["net","chain","height"]:List Tj),
 (["net","chain","height"]:List Tj),
 (["net","chain","height","bits","left"]:List Tj),
 (["net","height","reached","marked","found","bits","row"]:List Tj),
 (["net","one","other","height"]:List Tj),
 (["_law_script","_law_k"]:List Tj),
 (["_law_script","_law_k","_law_drawn_here"]:List Tj),
 (["_law_number","_law_k","_law_drawn_here"]:List Tj),
 (["_law_cell","_law_other"]:List Tj),
 (["_law_some_here","_law_found","_law_cell"]:List Tj),
 (["_law_cell","_law_size","_law_found","_law_at"]:List Tj),
 (["_law_number","_law_many","_law_found","_law_k","_law_drawn_here","_law_cell"]:List Tj),
 (["_law_number","_law_most","_law_many","_law_kind","_law_some_here"]:List Tj),
 (["_law_net_here","_law_height","_law_found","_law_top"]:List Tj),
 (["_law_net_here"]:List Tj),
 (["_law_chain_here","_law_counts","_law_cell","_law_at","_law_part"]:List Tj),
 (["_law_net_here","_law_height","_law_some_here","_law_lower"]:List Tj),
 (["_law_some_here","_law_basis","_law_one","_law_left","_law_other"]:List Tj),
 (["_law_net_here","_law_height","_law_basis","_law_found","_law_at","_law_one","_law_left","_law_made","_law_other","_law_its"]:List Tj),
 (["_law_bits_here","_law_every"]:List Tj),
 (["_law_net_here","_law_height","_law_number","_law_bits_here","_law_k","_law_one"]:List Tj),
 (["_law_net_here","_law_height","_law_number","_law_some_here"]:List Tj),
 (["_law_chain_here","_law_every"]:List Tj),
 (["_law_net_here","_law_one","_law_other","_law_height","_law_found","e"]:List Tj),
 (["_law_told_here","_law_every","_law_found","_law_one"]:List Tj),
 (["_law_script","_law_net_here","_law_height","_law_some_here","_law_one","_law_other","_law_filled","_law_bits_here","_law_due","_law_told_here","_law_sums_here"]:List Tj)]
noncomputable def gt:Gt:=⟨[("sum_of":Tj),("sides":Tj),("rim":Tj),("is_round":Tj),("cells_within":Tj),("every_cell":Tj),("cells_of_height":Tj),("marks":Tj),("bits_of":Tj),("chain_of":Tj),("rim_rows":Tj),("sum_of_rows":Tj),("reduced":Tj),("lowest_bit":Tj),("grown":Tj),("basis_of":Tj),("idle_parts":Tj),("is_chain_of":Tj),("is_round_of":Tj),("filling":Tj),("rounds_about":Tj),("alike":Tj),("_law_cell_at":Tj),("_law_mixed":Tj),("_law_drawn":Tj),("_law_lies":Tj),("_law_tops":Tj),("_law_parts":Tj),("_law_some":Tj),("_law_net":Tj),("_law_cells":Tj),("_law_high":Tj),("_law_rim":Tj),("_law_columns":Tj),("_law_rank":Tj),("_law_rounds":Tj),("_law_chain":Tj),("_law_round":Tj),("_law_drawn_chain":Tj),("_law_bits":Tj),("_law_told":Tj),("_law_sums":Tj),("law":Tj)],["HoleError","NoRound"],[]⟩
end de
end
section
namespace ζ
section
variable{pg:cT}{Φ:dn}{aa:aF}
noncomputable def qK(pg:cT)(Φ:dn)(aa:aF)(r:R D)(b:E):R D:=r>>=λx=>ej x>>=λk=>if k then ev pg Φ aa b else .ok (.ah S6)
noncomputable def pH(pg:cT)(Φ:dn)(r:R c4)(b:B):R c4:=r>>=λx=>match x with
 |.aU a=>cV pg Φ a b
 |.bK d=>.ok (.bK d)
noncomputable def sb(pg:cT)(Φ:dn)(aa:aF)(r:R D)(a b:B):R c4:=r>>=λx=>ej x>>=λk=>if k then cV pg Φ aa a else cV pg Φ aa b
noncomputable def turn(pg:cT)(Φ:dn)(k:Nat)(ts:List Nat)(b:B)(d:D)(aa:aF):R c4:=dC k d>>=λa=>cV pg Φ (f9 ts a aa) b
noncomputable def elem(pg:cT)(Φ:dn)(aa:aF)(e:E)(k:Nat)(c:O)(d:D):R (Option D):=dC k d>>=λa=>hU pg Φ (aa++a) c>>=λb=>if b then ev pg Φ (aa++a) e>>=λy=>.ok (Z y) else .ok Y
def we(i:Nat){d:D}(h:aa[i]?=Z (Z d)):ev pg Φ aa (.var i)=.ok d:=Pw mE h
def ov(i:Nat):ev pg Φ aa (.var i)=mE aa[i]?:=av rfl
def DX{d:D}{r:aF}:ev pg Φ (Z d::r) (.var 0)=.ok d:=av rfl
def DY{o:Option D}{r:aF}{i:Nat}:ev pg Φ (o::r) (.var (i+1))=ev pg Φ r (.var i):=av rfl
def wb(d:D):ev pg Φ aa (.lit d)=.ok d:=av rfl
def DW(a:A):ev pg Φ aa (.tup a)=fm pg Φ aa a>>=λds=>.ok (.tup ds):=av rfl
def DP(a:A):ev pg Φ aa (.lst a)=fm pg Φ aa a>>=λds=>.ok (.lst ds):=av rfl
def DH(op:Op)(a b:E):ev pg Φ aa (.bin op a b)=ev pg Φ aa a>>=λx=>ev pg Φ aa b>>=λy=>bT op x y:=av rfl
def DR(a:E):ev pg Φ aa (.neg a)=ev pg Φ aa a>>=λx=>ek x>>=λi=>.ok (.int (-i)):=av rfl
def ot(i:Nat):fo pg Φ aa (.iI i)=kr aa[i]?:=av rfl
def DS(a:E):ev pg Φ aa (.not a)=ev pg Φ aa a>>=λx=>ej x>>=λb=>.ok (.ah (!b)):=av rfl
def DJ(op:lT)(a b:E):ev pg Φ aa (.cmp op a b)=ev pg Φ aa a>>=λx=>ev pg Φ aa b>>=λy=>dh op x y>>=λc=>.ok (.ah c):=av rfl
def DG(a b:E):ev pg Φ aa (.and a b)=qK pg Φ aa (ev pg Φ aa a) b:=av rfl
def DO(a b:E):ev pg Φ aa (.idx a b)=ev pg Φ aa a>>=λx=>ev pg Φ aa b>>=λy=>fC x y:=av rfl
def DU(a:E)(c b:O):ev pg Φ aa (.slice a c b)=ev pg Φ aa a>>=λx=>iO pg Φ aa c>>=λl=>iO pg Φ aa b>>=λh=>gB x l h:=av rfl
def DI(f:Nat)(a:A):ev pg Φ aa (.call f a)=fm pg Φ aa a>>=λds=>Φ f ds:=av rfl
def DT(p:cJ)(a:E):ev pg Φ aa (.prim p a)=ev pg Φ aa a>>=λx=>gV pg.up p x:=av rfl
def wd(s:I):ev pg Φ aa (.tupI s)=fo pg Φ aa s>>=λds=>.ok (.tup ds):=av rfl
def DL(e:E)(k:Nat)(s:I)(c:O):ev pg Φ aa (.comp e k s c)=fo pg Φ aa s>>=λds=>h7 (bN (elem pg Φ aa e k c) ds)>>=λys=>.ok (.lst ys):=av rfl
def sO{α:Type}(a:α):h7 (.ok a)=.ok a:=av rfl
def v8:fm pg Φ aa .nil=.ok []:=av rfl
def v7(e:E)(a:A):fm pg Φ aa (.cons e a)=ev pg Φ aa e>>=λx=>fm pg Φ aa a>>=λxs=>.ok (x::xs):=av rfl
def DE:iO pg Φ aa .none=.ok none:=av rfl
def DF(e:E):iO pg Φ aa (.some e)=ev pg Φ aa e>>=λx=>ek x>>=λi=>.ok (Z i):=av rfl
def DB:hU pg Φ aa .none=.ok true:=av rfl
def DC(e:E):hU pg Φ aa (.some e)=ev pg Φ aa e>>=λx=>ej x:=av rfl
def v9(e:E):fo pg Φ aa (.seq e)=ev pg Φ aa e>>=λx=>cP x:=av rfl
def DD(a:E):fo pg Φ aa (.dz a)=ev pg Φ aa a>>=λx=>ek x>>=λi=>ic 0 i:=av rfl
def Bw(b:Bool):ej (.ah b)=.ok b:=av rfl
def Bx(i:Int):ek (.int i)=.ok i:=av rfl
def KO(xs:List D):cP (.tup xs)=.ok xs:=av rfl
def KN(xs:List D):cP (.lst xs)=.ok xs:=av rfl
def BN(d:D):dC 0 d=.ok [Z d]:=av rfl
def Be(b:E):qK pg Φ aa (.ok (.ah J)) b=ev pg Φ aa b:=av rfl
def Bd(b:E):qK pg Φ aa (.ok (.ah S6)) b=.ok (.ah S6):=av rfl
def D5:cV pg Φ aa .nil=.ok (.aU aa):=av rfl
def D4(s:S)(b:B):cV pg Φ aa (.cons s b)=pH pg Φ (ex pg Φ aa s) b:=av rfl
def KJ(b:B):pH pg Φ (.ok (.aU aa)) b=cV pg Φ aa b:=av rfl
def KL(d:D)(b:B):pH pg Φ (.ok (.bK d)) b=.ok (.bK d):=av rfl
def wh(i:Nat)(e:E):ex pg Φ aa (.asg i e)=ev pg Φ aa e>>=λd=>.ok (.aU (aa.set i (Z d))):=av rfl
noncomputable def sV(pg:cT)(Φ:dn)(aa:aF)(r:R D)(b:E):R D:=r>>=λx=>ej x>>=λk=>if k then .ok (.ah J) else ev pg Φ aa b
def mB(a b:E):ev pg Φ aa (.or a b)=sV pg Φ aa (ev pg Φ aa a) b:=av rfl
def Ig(b:E):sV pg Φ aa (.ok (.ah J)) b=.ok (.ah J):=av rfl
def pf(b:E):sV pg Φ aa (.ok (.ah S6)) b=ev pg Φ aa b:=av rfl
def DV(a b:E):ev pg Φ aa (.lG a b)=ev pg Φ aa a>>=λx=>ev pg Φ aa b>>=λy=>ka x y:=av rfl
def ou(a:E):fo pg Φ aa (.enum a)=ev pg Φ aa a>>=λx=>om x:=av rfl
noncomputable def qa(pg:cT)(r:R c4)(k:Nat)(h:eF):R c4:=Aq r λc=>gr pg c k h
def wj(c:Nat):ex pg Φ aa (.raise c)=.exc c:=av rfl
def r1(i:Nat)(e:E)(k:Nat)(h:eF):ex pg Φ aa (.j7 i e k h)=qa pg (ev pg Φ aa e>>=λd=>.ok (.aU (aa.set i (Z d)))) k h:=av rfl
def Ap(x:c4)(k:Nat)(h:eF):qa pg (.ok x) k h=.ok x:=av rfl
def Ao(c k:Nat)(h:eF):qa pg (.exc c) k h=gr pg c k h:=av rfl
def DN(i:Nat):ev pg Φ aa (.kx i)=ky aa[i]?:=av rfl
def D7(i j:Nat):ex pg Φ aa (.hP i j)=mr aa[i]? aa[j]?>>=λx=>.ok (.aU (aa.set i (Z x))):=av rfl
def DQ(a b:E):ev pg Φ aa (.min2 a b)=ev pg Φ aa a>>=λx=>ek x>>=λi=>ev pg Φ aa b>>=λy=>ek y>>=λj=>.ok (.int (if j<i then j else i)):=av rfl
def DK(a:E):ev pg Φ aa (.cnt a)=ev pg Φ aa a>>=λx=>od x:=av rfl
def I4(up:hc)(b:Bool):gV up .int (.ah b)=.ok (.int (if b then 1 else 0)):=av rfl
def I3(up:hc)(t:Ty)(d:D):gV up (.inst t) d=iR up d t>>=λb=>.ok (.ah b):=av rfl
def zD(c:Nat)(b:B):pH pg Φ (.exc c) b=.exc c:=av rfl
def vQ(c:Nat):iN (.exc c)=.exc c:=av rfl
def D6(i:Nat)(e:E):ex pg Φ aa (.app i e)=iC aa[i]?>>=λ_=>ev pg Φ aa e>>=λd=>l7 aa[i]? d>>=λx=>.ok (.aU (aa.set i (Z x))):=av rfl
def Ed(i:Nat):ex pg Φ aa (.jV i)=o1 aa[i]?>>=λd=>.ok (.bK d):=av rfl
def GY(ds:List D):o1 (Z (Z (.lst ds)))=.ok (.lst ds):=av rfl
def Ec(e:E):ex pg Φ aa (.ret e)=ev pg Φ aa e>>=λd=>.ok (.bK d):=av rfl
def Eb(c:E)(a b:B):ex pg Φ aa (.iff c a b)=sb pg Φ aa (ev pg Φ aa c) a b:=av rfl
def Fh(a b:B):sb pg Φ aa (.ok (.ah J)) a b=cV pg Φ aa a:=av rfl
def Fg(a b:B):sb pg Φ aa (.ok (.ah S6)) a b=cV pg Φ aa b:=av rfl
def Ea(k:Nat)(ts:List Nat)(s:I)(b:B):ex pg Φ aa (.c1 k ts s b)=fo pg Φ aa s>>=λds=>forL (turn pg Φ k ts b) ds aa:=av rfl
def JL{a:Nat}{b:B}(x:D):bg pg Φ ⟨1,a,b⟩ [x]=iN (cV pg Φ (Z x::Tr a Y) b):=av rfl
def JM{a:Nat}{b:B}(x y:D):bg pg Φ ⟨2,a,b⟩ [x,y]=iN (cV pg Φ (Z x::Z y::Tr a Y) b):=av rfl
def Dn(d:D):iN (.ok (.bK d))=.ok d:=av rfl
def I5(up:hc)(d:D):gV up .len d=h2 d:=av rfl
def I7(up:hc)(d:D):gV up .sorted d=cP d>>=λxs=>sorted xs:=av rfl
def I8(up:hc)(d:D):gV up .d4 d=cP d>>=λxs=>d4 xs:=av rfl
def sx(xs:List D):h2 (.tup xs)=.ok (.int xs.length):=av rfl
def GG(xs:List D):h2 (.lst xs)=.ok (.int xs.length):=av rfl
def vk(x y:D):dh .eq x y=dJ x y:=av rfl
def vn(x y:D):dh .ne x y=e8 (dJ x y):=av rfl
def vm(x y:D):dh .lt x y=o2 x y:=av rfl
def cmp_gt(i j:Int):dh .gt (.int i) (.int j)=.ok (decide (j<i)):=av rfl
def vl(x:D)(b:Bool):dh .is x (.ah b)=.ok (sh b x):=av rfl
def Cx(x:D):dh .kV x .bG=.ok (!jK x):=av rfl
def KZ(i j:Int):bT .shr (.int i) (.int j)=if 0<=j then .ok (.int (i / 2 ^ j.toNat)) else .bad:=av rfl
def Cy(x:D)(ys:List D):dh .mem x (.tup ys)=fq x ys:=av rfl
def CA(x:D)(ys:List D):dh .h8 x (.tup ys)=e8 (fq x ys):=av rfl
def Cz(x:D)(ys:List D):dh .h8 x (.lst ys)=e8 (fq x ys):=av rfl
def G0(i j:Int):o2 (.int i) (.int j)=.ok (decide (i<j)):=av rfl
def HQ(b:Bool):e8 (.ok b)=.ok (!b):=av rfl
def Dw(i j:Int):dJ (.int i) (.int j)=.ok (i==j):=av rfl
def Dx{x y:D}(h:bB 60 x=J)(h':bB 60 y=J):dJ x y=.ok (cU x y):=by simp only[dJ,h,h',SS,Pb]
def add_int(i j:Int):bT .add (.int i) (.int j)=.ok (.int (i+j)):=av rfl
def sub_int(i j:Int):bT .sub (.int i) (.int j)=.ok (.int (i-j)):=av rfl
def nY(xs ys:List D):bT .add (.tup xs) (.tup ys)=if xs.length+ys.length<=SZ then .ok (.tup (xs++ys)) else .bad:=av rfl
def iz(xs ys:List D):bT .add (.lst xs) (.lst ys)=if xs.length+ys.length<=SZ then .ok (.lst (xs++ys)) else .bad:=av rfl
def mul_int(i j:Int):bT .mul (.int i) (.int j)=if (-da<i/\i<da)\/(-da<j/\j<da) then .ok (.int (i*j)) else .bad:=av rfl
def wo(i j:Int):bT .fdiv (.int i) (.int j)=if 0<j/\j<1073741824 then .ok (.int (i / j)) else .bad:=av rfl
def mod_int(i j:Int):bT .mod (.int i) (.int j)=if 0<j then .ok (.int (i%j)) else .bad:=av rfl
def w1(xs:List D)(i:Int):fC (.tup xs) (.int i)=(match hn xs i with|some d=>.ok d|none=>.bad):=av rfl
def w0(xs:List D)(i:Int):fC (.lst xs) (.int i)=(match hn xs i with|some d=>.ok d|none=>.bad):=av rfl
def nu(xs:List D)(b a:Option Int):gB (.tup xs) b a=.ok (.tup (cut xs b a)):=av rfl
def zN(xs:List D)(b a:Option Int):gB (.lst xs) b a=.ok (.lst (cut xs b a)):=av rfl
def rB(xs:List D):iC (Z (Z (.lst xs)))=.ok ():=av rfl
def n1(xs:List D)(d:D):l7 (Z (Z (.lst xs))) d=if xs.length<SZ then .ok (.lst (xs++[d])) else .bad:=av rfl
def KQ{o v:Option D}{r:aF}:(o::r:aF).set 0 v=v::r:=av rfl
def KS{o v:Option D}{r:aF}{i:Nat}:(o::r:aF).set (i+1) v=o::r.set i v:=av rfl
def EM{o:Option D}{r:aF}:(o::r:aF)[0]?=Z o:=av rfl
def ER{o:Option D}{r:aF}{i:Nat}:(o::r:aF)[i+1]?=r[i]?:=av rfl
def Jx{α:Type}(x:α):Tr 0 x=[]:=av rfl
def Jy{α:Type}(n:Nat)(x:α):Tr (n+1) x=x::Tr n x:=av rfl
def MU(i:Nat)(b:B)(d:D):turn pg Φ 0 [i] b d aa=cV pg Φ (aa.set i (Z d)) b:=av rfl
def Dl(e:E)(c:O)(d:D):elem pg Φ aa e 0 c d=hU pg Φ (aa++[Z d]) c>>=λb=>if b then ev pg Φ (aa++[Z d]) e>>=λy=>.ok (Z y) else .ok none:=av rfl
end
end ζ
end
section
def ζ.DNA:=And.intro (And.intro (And.intro (And.intro (And.intro (And.intro (@ζ.DX) (@ζ.DY)) (And.intro (@ζ.wb) (And.intro (@ζ.DW) (@ζ.DP)))) (And.intro (And.intro (@ζ.DH) (@ζ.DS)) (And.intro (@ζ.DJ) (And.intro (@ζ.DG) (@ζ.DO))))) (And.intro (And.intro (And.intro (@ζ.DU) (@ζ.DI)) (And.intro (@ζ.DT) (And.intro (@ζ.wd) (@ζ.DL)))) (And.intro (And.intro (@ζ.sO) (And.intro (@ζ.v8) (@ζ.v7))) (And.intro (@ζ.DE) (And.intro (@ζ.DF) (@ζ.DB)))))) (And.intro (And.intro (And.intro (And.intro (@ζ.DC) (@ζ.v9)) (And.intro (@ζ.DD) (And.intro (@ζ.Bw) (@ζ.Bx)))) (And.intro (And.intro (@ζ.KO) (And.intro (@ζ.KN) (@ζ.BN))) (And.intro (@ζ.Be) (And.intro (@ζ.Bd) (@ζ.D5))))) (And.intro (And.intro (And.intro (@ζ.D4) (@ζ.KJ)) (And.intro (@ζ.KL) (And.intro (@ζ.wh) (@ζ.D6)))) (And.intro (And.intro (@ζ.rB) (And.intro (@ζ.Ec) (@ζ.Ed))) (And.intro (@ζ.GY) (And.intro (@ζ.Eb) (@ζ.Fh))))))) (And.intro (And.intro (And.intro (And.intro (And.intro (@ζ.Fg) (@ζ.Ea)) (And.intro (@ζ.JL) (And.intro (@ζ.JM) (@ζ.Dn)))) (And.intro (And.intro (@ζ.I5) (And.intro (@ζ.I7) (@ζ.I8))) (And.intro (@ζ.sx) (And.intro (@ζ.GG) (@ζ.vk))))) (And.intro (And.intro (And.intro (@ζ.vn) (@ζ.vm)) (And.intro (@ζ.cmp_gt) (And.intro (@ζ.Cy) (@ζ.CA)))) (And.intro (And.intro (@ζ.Cz) (And.intro (@ζ.G0) (@ζ.HQ))) (And.intro (@ζ.Dw) (And.intro (@ζ.add_int) (@ζ.sub_int)))))) (And.intro (And.intro (And.intro (And.intro (@ζ.nu) (@ζ.zN)) (And.intro (@ζ.KQ) (And.intro (@ζ.KS) (@ζ.EM)))) (And.intro (And.intro (@ζ.ER) (And.intro (@ζ.Jx) (@ζ.Jy))) (And.intro (@ζ.MU) (And.intro (@ζ.Dl) (@ζ.R.i3))))) (And.intro (And.intro (And.intro (@ζ.R.Ef) (@W3.{0})) (And.intro (@RH.{0}) (And.intro (@To.{0}) (@TG.{0})))) (And.intro (And.intro (@P6) (And.intro (@Pb.{1}) (@Pl))) (And.intro (@RV) (And.intro (@Om) (@OH.{1})))))))
end
local macro_rules | `(tactic| simp![$xs,*] $[$l]?) => `(tactic| simp only [ζ.DNA, Nat.reduceAdd, $xs,*] $[$l]?)
local macro_rules | `(tactic| simp! $[$l:location]?) => `(tactic| simp only [ζ.DNA, Nat.reduceAdd] $[$l]?)
section
namespace aq
open ζ
theorem wC{α:Type}{f:α->D}(I:List α->aF->Prop)(all):∀(xs pre:List α)(a:aF),all=pre++xs->I pre a ->
  (∀pre x post a,all=pre++x::post->I pre a->∃b,g (f x) a=.ok (.aU b)/\I (pre++[x]) b)->∃b,forL g (xs.map f) a=.ok (.aU b)/\I all b
 |[],pre,a,e,h,_=>⟨a,rfl,by rw[e];simpa using h⟩
 |x::xs,pre,a,e,h,c=>by
  obtain⟨k,e1,i⟩:=c pre x xs a e h;obtain⟨l,d,j⟩:=wC I all xs (pre++[x]) k (by rw[e];simp) i c;refine⟨l,?_,j⟩;simp only[Tb,forL,e1,R.i3];exact d
def d0{α:Type}{f:α->D}(I:List α->aF->Prop)(xs)(a)(h:I [] a)(b:∀pre x post a,xs=pre++x::post->I pre a->∃nI,g (f x) a=.ok (.aU nI)/\I (pre++[x]) nI):∃nI,forL g (xs.map f) a=.ok (.aU nI)/\I xs nI :=
 wC I xs xs [] a rfl h b
noncomputable def af(c:List Int):D:=.tup (c.map .int)
theorem vV:∀a b:List Int,hT (a.map .int) (b.map .int)=decide (a=b)
 |[],[]=>rfl
 |[],_::_=>rfl
 |_::_,[]=>rfl
 |x::a,y::b=>by
  show(x==y&&hT (a.map .int) (b.map .int))=_;rw[vV a b]
  by_cases c:x=y
  .subst c;by_cases d:a=b<;>simp[d]
  .simp[c]
def fV(a b):cU (af a) (af b)=decide (a=b):=vV a b
theorem vU:∀a b:List (List Int),hT (a.map af) (b.map af)=decide (a=b)
 |[],[]=>rfl
 |[],_::_=>rfl
 |_::_,[]=>rfl
 |x::a,y::b=>by
  show(cU (af x) (af y)&&hT (a.map af) (b.map af))=_;rw[fV,vU a b]
  by_cases c:x=y
  .subst c;by_cases d:a=b<;>simp[d]
  .simp[c]
noncomputable def lexLt:List Int->List Int->Bool
 |[],[]=>S6
 |[],_::_=>J
 |_::_,[]=>S6
 |x::xs,y::ys=>if x=y then lexLt xs ys else decide (x<y)
theorem mV:∀a b:List Int,hr (a.map .int) (b.map .int)=Z (lexLt a b)
 |[],[]=>rfl
 |[],_::_=>rfl
 |_::_,[]=>rfl
 |x::a,y::b=>by
  show(if (x==y)=J then hr (a.map .int) (b.map .int) else Z (decide (x<y)))=Z (if x=y then lexLt a b else decide (x<y));rw[mV a b]
  by_cases h:x=y<;>simp[h]
def h4(a b):hq (af a) (af b)=Z (lexLt a b):=mV a b
def Hh(x)(xs:List Int):memD (.int x) (xs.map .int)=decide (x∈xs):=by
 unfold memD
 induction xs with
 |nil=>simp
 |cons y ys a =>
  rw[Tb,TZ,a];show(y==x||_)=_
  by_cases h:y=x
  .subst h;simp
  .have:¬x=y:=λe=>h e.symm
   simp[h,this]
def Hg(c)(cs:List (List Int)):memD (af c) (cs.map af)=decide (c∈cs):=by
 unfold memD
 induction cs with
 |nil=>simp
 |cons y ys a =>
  simp only[Tb,TZ,a,fV,Oq]
  by_cases h:y=c
  .subst h;simp
  .have:¬c=y:=λe=>h e.symm
   simp[h,this]
theorem sA:∀a:List Int,lexLt a a=S6
 |[]=>rfl
 |x::a=>by simp[lexLt,sA a]
theorem sC:∀{a b c:List Int},lexLt a b=J->lexLt b c=J->lexLt a c=J
 |[],[],_,h,_=>by simp[lexLt]at h
 |[],_::_,[],_,h=>by simp[lexLt]at h
 |[],_::_,_::_,_,_=>rfl
 |_::_,[],_,h,_=>by simp[lexLt]at h
 |_::_,_::_,[],_,h=>by simp[lexLt]at h
 |x::a,y::b,z::c,e,f=>by
  simp only[lexLt]at *
  split at e<;>split at f
  .rename_i e1 d;subst e1;subst d;rw[if_pos rfl];exact sC e f
  .rename_i e1 d;subst e1;rw[if_neg d];exact f
  .rename_i e1 d;subst d;rw[if_neg e1];exact e
  .rename_i e1 d;simp only[Oz]at e f;rw[if_neg ⋯];simp;lia
theorem sz:∀a b:List Int,a≠b->lexLt a b=J\/lexLt b a=J
 |[],[],h=>absurd rfl h
 |[],_::_,_=>.inl rfl
 |_::_,[],_=>.inr rfl
 |x::a,y::b,h=>by
  simp only[lexLt]
  by_cases e:x=y
  .subst e;have h':a≠b:=λe=>h (by rw[e])
   simpa using sz a b h'
  .have c:¬y=x:=λz=>e z.symm
   rw[if_neg e,if_neg c];simp only[Oz];lia
section
variable{α:Type}
noncomputable def ins(lt:α->α->Bool)(x:α):List α->List α
 |[]=>[x]
 |y::ys=>if lt y x=J then y::ins lt x ys else x::y::ys
noncomputable def bD(lt:α->α->Bool):List α->List α
 |[]=>[]
 |x::xs=>ins lt x (bD lt xs)
noncomputable def bF[DecidableEq α]:List α->List α
 |[]=>[]
 |x::xs=>if x∈xs then bF xs else x::bF xs
variable{lt:α->α->Bool}
theorem w3(h:∀a b,hq (f a) (f b)=Z (lt a b))(x):∀ys:List α,kT (f x) (ys.map f)=(ins lt x ys).map f
 |[]=>rfl
 |y::ys=>by
  simp only[Tb,kT,ins,h,Px]
  split
  .simp[w3 h x ys]
  .rfl
theorem hy(h:∀a b,hq (f a) (f b)=Z (lt a b)):∀xs:List α,eB (xs.map f)=(bD lt xs).map f
 |[]=>rfl
 |x::xs=>by simp only[Tb,eB,bD,hy h xs,w3 h]
theorem jC[DecidableEq α](h:∀a b,cU (f a) (f b)=decide (a=b)):∀xs:List α,fS (xs.map f)=(bF xs).map f
 |[]=>rfl
 |x::xs=>by
  have e:(xs.map f).any (cU (f x))=decide (x∈xs):=by
   rw[List.any_map]
   induction xs with
   |nil=>simp
   |cons y ys c=>simp only[TZ,c,UZ,h,Oq];by_cases q:x=y<;>simp[q]
  simp only[Tb,fS,bF,e,jC h xs,Oz]
  split<;>rfl
theorem o4(x z):∀ys:List α,z∈ins lt x ys<->z=x\/z∈ys
 |[]=>by simp[ins]
 |y::ys=>by
  unfold ins
  split
  .simp only[Oq,o4 x z ys];constructor
   .rintro(h|h|h)
    .exact .inr (.inl h)
    .exact .inl h
    .exact .inr (.inr h)
   .rintro(h|h|h)
    .exact .inr (.inl h)
    .exact .inl h
    .exact .inr (.inr h)
  .simp
theorem fE(z):∀xs:List α,z∈bD lt xs<->z∈xs
 |[]=>by simp[bD]
 |x::xs=>by unfold bD;rw[o4,fE z xs];simp
theorem xt(x):∀ys:List α,(ins lt x ys).length=ys.length+1
 |[]=>rfl
 |y::ys=>by unfold ins;split<;>simp[xt x ys]
theorem mT:∀xs:List α,(bD lt xs).length=xs.length
 |[]=>rfl
 |x::xs=>by unfold bD;rw[xt,mT xs];simp
theorem e6[DecidableEq α](z):∀xs:List α,z∈bF xs<->z∈xs
 |[]=>by simp[bF]
 |x::xs=>by
  unfold bF
  split
  .rename_i h;rw[e6 z xs,Oq];exact⟨.inr,λq=>q.elim (λe=>e▸h) id⟩
  .simp[e6 z xs]
theorem gU[DecidableEq α]:∀xs:List α,(bF xs).Nodup
 |[]=>PY
 |x::xs=>by
  unfold bF
  split
  .exact gU xs
  .rename_i h;exact OX.mpr ⟨λq=>h ((e6 x xs).mp q),gU xs⟩
structure eH(lt:α->α->Bool):Prop where
 dR:∀a,lt a a=S6
 eE:∀{a b c},lt a b=J->lt b c=J->lt a c=J
 conn:∀a b,a≠b->lt a b=J\/lt b a=J
def bI(lt:α->α->Bool)(xs:List α):Prop:=xs.Pairwise λa b=>lt a b=J
theorem uN(L:eH lt)(x):∀{ys:List α},bI lt ys->x∉ys->bI lt (ins lt x ys)
 |[],_,_=>PI _ _
 |y::ys,h,b=>by
  obtain⟨a,d⟩:=ON.mp h;have f:x≠y:=λe=>b (by simp[e])
  unfold ins
  split
  .rename_i q;refine ON.mpr ⟨λz hz=>?_,uN L x d λq=>b (S4 _ q)⟩;rcases(o4 x z ys).mp hz with e|e
   .subst e;exact q
   .exact a z e
  .rename_i q;have c:lt x y=true:=(L.conn x y f).resolve_right q;refine ON.mpr ⟨λz hz=>?_,h⟩;rcases Oq.mp hz with e|e
   .subst e;exact c
   .exact L.eE c (a z e)
theorem gK(L:eH lt):∀{xs:List α},xs.Nodup->bI lt (bD lt xs)
 |[],_=>UQ
 |x::xs,h=>uN L x (gK L (OX.mp h).2) λq=>(OX.mp h).1 ((fE x xs).mp q)
def bI.nodup(L:eH lt)(h:bI lt xs):xs.Nodup:=QM (λ{a b} q e=>by subst e;rw[L.dR]at q;cases q) h
theorem hJ(L:eH lt):∀{xs ys:List α},bI lt xs->bI lt ys->(∀z,z∈xs<->z∈ys)->xs=ys
 |[],[],_,_,_=>rfl
 |[],y::_,_,_,h=>absurd ((h y).mpr S7) (by simp)
 |x::_,[],_,_,h=>absurd ((h x).mp S7) (by simp)
 |x::xs,y::ys,g,i,h=>by
  obtain⟨d,l⟩:=ON.mp g;obtain⟨f,m⟩:=ON.mp i;have e:x=y:=by
   rcases Oq.mp ((h x).mp S7) with e|e
   .exact e
   .rcases Oq.mp ((h y).mpr S7) with c|c
    .exact c.symm
    .have a:=f x e;have b:=d y c;have:=L.eE a b;rw[L.dR]at this;cases this
  subst e;have j:x∉xs:=λq=>by have:=d x q;rw[L.dR]at this;cases this
  have k:x∉ys:=λq=>by have:=f x q;rw[L.dR]at this;cases this
  rw[hJ L l m λz=>?_];constructor
  .intro hz;rcases Oq.mp ((h z).mp (S4 _ hz)) with e|e
   .subst e;exact absurd hz j
   .exact e
  .intro hz;rcases Oq.mp ((h z).mpr (S4 _ hz)) with e|e
   .subst e;exact absurd hz k
   .exact e
def Lj(L:eH lt)(h:bI lt xs):bD lt xs=xs:=hJ L (gK L (h.nodup L)) h λz=>fE z xs
theorem rU[DecidableEq α]:∀xs:List α,(bF xs).length<=xs.length
 |[]=>Ot _
 |x::xs=>by unfold bF;have:=rU xs;split<;>simp<;>lia
theorem f6[DecidableEq α]:∀{xs ys:List α},xs.Nodup->(∀z∈xs,z∈ys)->xs.length<=ys.length
 |[],_,_,_=>OQ _
 |x::xs,ys,h,a=>by
  obtain⟨c,d⟩:=OX.mp h;have b:=a x S7;have:=f6 (xs:=xs) (ys:=ys.erase x) d λz hz=>by
   have f:z≠x:=λe=>c (e▸hz)
   exact(Wa f).mpr (a z (S4 _ hz))
  rw[Q5 b]at this;have g:0<ys.length:=VP b;simp only[To];lia
end
def e5:eH lexLt:=⟨sA,sC,sz⟩
noncomputable def ltI(a b:Int):Bool:=decide (a<b)
def hp:eH ltI:=⟨λa=>by simp[ltI],λc d=>by simp[ltI]at *;lia,λa b h=>by simp[ltI];lia⟩
def xU(a:List Int):(a.map D.int).all (dK 0)=true:=by simp[Ql,dK]
def jB{cs:List (List Int)}(b:∀c∈cs,c≠[]):(cs.map af).all fY=true:=by
 rw[Ql,OM];intro c a;cases c with
 |nil=>exact absurd rfl (b [] a)
 |cons x c=>show(dK 0 (.int x)&&(c.map D.int).all (dK 0))=J;rw[xU];rfl
def Lc(a:∀c∈cs,c≠[])(h:cs.length<=63):sorted (cs.map af)=.ok (.lst ((bD lexLt cs).map af)):=by
 unfold sorted hs;rw[jB a];simp[hy (lt:=lexLt) h4,h]
def Ld(h:cs.length<=63):sorted (cs.map .int)=.ok (.lst ((bD ltI cs).map .int)):=by
 unfold sorted hs;rw[xU];simp[hy (f:=D.int) (lt:=ltI) λa b=>rfl,h]
def tG(a:∀c∈cs,c≠[])(h:(bF cs).length<=63):d4 (cs.map af)=.ok (.lst ((bD lexLt (bF cs)).map af)):=by
 unfold d4;rw[jB a,jC fV,hy (lt:=lexLt) h4];simp[h]
def pK(n)(i):bB n (.int i)=true:=by cases n<;>rfl
def zI(n)(c:List Int):(c.map D.int).all (bB n)=true:=by simp[Ql,pK]
def nq(n)(c):bB (n+1) (af c)=true:=zI n c
def nr(n)(cs:List (List Int)):(cs.map af).all (bB (n+1))=true:=by simp[Ql,nq]
def Hj(x)(c:List Int):fq (.int x) (c.map .int)=.ok (decide (x∈c)):=by
 unfold fq;rw[pK,zI,Hh];rfl
def Hi(c)(cs:List (List Int)):fq (af c) (cs.map af)=.ok (decide (c∈cs)):=by
 unfold fq;rw[nq,nr,Hg];rfl
def Dv(a b):dJ (af a) (af b)=.ok (decide (a=b)):=by unfold dJ;rw[nq,nq,fV];rfl
def Dy(a b:List (List Int)):dJ (.tup (a.map af)) (.tup (b.map af))=.ok (decide (a=b)):=by
 have h:∀a:List (List Int),bB 60 (.tup (a.map af))=true:=λa=>nr 58 a
 unfold dJ;rw[h,h];exact Pw R.ok (vU a b)
def vX(h:ys.all (bB 59)=J):dJ (.lst ys) (.lst [])=.ok ys.isEmpty:=by
 have a:bB 60 (.lst ys)=true:=h;have b:bB 60 (.lst [])=true:=rfl;unfold dJ;rw[a,b];cases ys<;>rfl
def rX(h:ys.all (bB 59)=J):dJ (.tup ys) (.tup [])=.ok ys.isEmpty:=by
 have a:bB 60 (.tup ys)=true:=h;have b:bB 60 (.tup [])=true:=rfl;unfold dJ;rw[a,b];cases ys<;>rfl
section
variable{α:Type}{lt:α->α->Bool}
def kl(lt:α->α->Bool)(xs:List α):Prop:=xs.Pairwise λa b=>lt b a=S6
theorem m7(x):∀ys:List α,(ins lt x ys).Perm (x::ys)
 |[]=>SJ _
 |y::ys=>by
  unfold ins
  split
  .exact(Wb y (m7 x ys)).trans (UR x y ys)
  .exact SJ _
theorem pq:∀xs:List α,(bD lt xs).Perm xs
 |[]=>SJ _
 |x::xs=>(m7 x (bD lt xs)).trans (Wb x (pq xs))
def xF(L:eH lt){a b:α}(h:lt a b=J):lt b a=false:=by
 cases q:lt b a with
 |false=>rfl
 |true=>have:=L.eE h q;rw[L.dR]at this;cases this
def xE(L:eH lt){a b c:α}(f:lt b a=S6)(d:lt c b=S6):lt c a=false:=by
 cases q:lt c a with
 |false=>rfl
 |true =>
  by_cases e:a=b
  .subst e;rw[d]at q;cases q
  .rcases L.conn a b e with w|w
   .have:=L.eE q w;rw[d]at this;cases this
   .rw[f]at w;cases w
theorem AP(L:eH lt)(x):∀{ys:List α},kl lt ys->kl lt (ins lt x ys)
 |[],_=>PI _ _
 |y::ys,h=>by
  obtain⟨a,b⟩:=ON.mp h;unfold ins
  split
  .rename_i c;refine ON.mpr ⟨λz hz=>?_,AP L x b⟩;rcases(o4 x z ys).mp hz with rfl|hz
   .exact xF L c
   .exact a z hz
  .rename_i c;refine ON.mpr ⟨λz hz=>?_,h⟩;have c:lt y x=false:=(by simpa using c);rcases Oq.mp hz with rfl|hz
   .exact c
   .exact xE L c (a z hz)
theorem AQ(L:eH lt):∀xs:List α,kl lt (bD lt xs)
 |[]=>.nil
 |x::xs=>AP L x (AQ L xs)
theorem AR(L:eH lt):∀{xs ys:List α},kl lt xs->kl lt ys->xs.Perm ys->xs=ys
 |[],ys,_,_,p=>(List.Perm.nil_eq p)
 |x::xs,[],_,_,p=>by have:=p.length_eq;simp at this
 |x::xs,y::ys,b,d,p=>by
  obtain⟨g,h⟩:=ON.mp b;obtain⟨i,j⟩:=ON.mp d;have e:x=y:=by
   apply OY;intro a;have c:y∈xs:=by
    rcases Oq.mp (p.mem_iff.mpr S7) with q|q
    .exact absurd q.symm a
    .exact q
   have f:x∈ys:=by
    rcases Oq.mp (p.mem_iff.mp S7) with q|q
    .exact absurd q a
    .exact q
   rcases L.conn x y a with w|w
   .rw[i x f]at w;cases w
   .rw[g y c]at w;cases w
  subst e;rw[AR L h j (List.Perm.cons_inv p)]
end
end aq
end
section
namespace c6
def xor_swap(x y a:Nat):(x ^^^ a) ^^^ y=(x ^^^ y) ^^^ a:=by rw[Pu,RO a y,<- Pu]
def NM(x y a:Nat):(x ^^^ a) ^^^ (y ^^^ a)=x ^^^ y:=by rw[xor_swap,<- Pu,Pu,Qm,Qz]
def ih(x a:Nat):(x ^^^ a) ^^^ a=x:=by rw[Pu,Qm,Qz]
noncomputable def sp:List Nat->Nat->Prop
 |[],x=>x=0
 |a::L,x=>sp L x\/sp L (x ^^^ a)
theorem nv:∀L,sp L 0
 |[]=>rfl
 |_::L=>.inl (nv L)
theorem fH:∀{L:List Nat}{x y:Nat},sp L x->sp L y->sp L (x ^^^ y)
 |[],x,y,b,c=>by cases b;cases c;rfl
 |a::L,x,y,b,c=>by
  rcases b with b|b<;>rcases c with c|c
  .exact .inl (fH b c)
  .exact .inr (by rw[Pu];exact fH b c)
  .exact .inr (by rw[<- xor_swap];exact fH b c)
  .exact .inl (by rw[<- NM x y a];exact fH b c)
theorem cb:∀{L:List Nat}{a:Nat},a∈L->sp L a
 |b::L,a,h=>by
  rcases Oq.mp h with rfl|h
  .exact .inr (by rw[Qm];exact nv L)
  .exact .inl (cb h)
theorem cG:∀{L:List Nat}{x:Nat},(∀a∈L,sp M a)->sp L x->sp M x
 |[],x,_,h=>by cases h;exact nv M
 |a::L,x,d,h=>by
  have c:∀b∈L,sp M b:=λb e=>d b (S4 _ e)
  rcases h with h|h
  .exact cG c h
  .have:=fH (cG c h) (d a S7);rwa[ih]at this
theorem pP:∀{L:List Nat}{x:Nat},(∀a∈L,a.testBit k=S6)->sp L x->x.testBit k=S6
 |[],x,_,h=>by cases h;exact Qv k
 |a::L,x,d,h=>by
  have c:∀b∈L,b.testBit k=false:=λb e=>d b (S4 _ e)
  rcases h with h|h
  .exact pP c h
  .have:=pP c h;rwa[O2,d a S7,Rc]at this
theorem tD:∀{L:List Nat}{x:Nat},(∀a∈L,a<2 ^ n)->sp L x->x<2 ^ n
 |[],x,_,h=>by cases h;exact QF n
 |a::L,x,d,h=>by
  have c:∀b∈L,b<2 ^ n:=λb e=>d b (S4 _ e)
  rcases h with h|h
  .exact tD c h
  .have:=Pz (tD c h) (d a S7);rwa[ih]at this
noncomputable abbrev Row:=Nat×Nat
noncomputable abbrev bP:=List (Nat×Row)
noncomputable def rws(B:bP):List Nat:=B.map λe=>e.2.1
noncomputable def one(r:Row)(e:Nat×Row):Row:=if r.1.testBit e.1=J then(r.1 ^^^ e.2.1,r.2 ^^^ e.2.2) else r
noncomputable def red(B:bP)(r:Row):Row:=B.foldl one r
def lx(e)(B:bP)(r):red (e::B) r=red B (one r e):=rfl
structure br(B:bP):Prop where
 ap:B.Pairwise λe f=>e.2.1.testBit f.1=S6/\f.2.1.testBit e.1=S6
 lo:∀e∈B,e.2.1.testBit e.1=J/\∀j,j<e.1->e.2.1.testBit j=S6
structure iq(B:bP):Prop where
 ap:B.Pairwise λe f=>f.2.1.testBit e.1=S6
 lo:∀e∈B,e.2.1.testBit e.1=J
def iq.tail{B:bP}(h:iq (e::B)):iq B:=⟨(ON.mp h.ap).2,λf a=>h.lo f (S4 _ a)⟩
def br.e1(h:br B):iq B:=⟨h.ap.imp λq=>q.2,λe a=>(h.lo e a).1⟩
theorem br.nil:br []:=⟨.nil,λ_ h=>nomatch h⟩
def br.tail{B:bP}(h:br (e::B)):br B:=⟨(ON.mp h.ap).2,λf a=>h.lo f (S4 _ a)⟩
theorem y4:∀{B:bP}{r:Row},(∀f∈B,f.2.1.testBit k=S6)->(red B r).1.testBit k=r.1.testBit k
 |[],r,_=>rfl
 |e::B,r,h=>by
  rw[lx,y4 λf a=>h f (S4 _ a)];unfold one
  split
  .rw[O2,h e S7,Rc]
  .rfl
theorem pz:∀{B:bP}{r:Row},iq B->∀e∈B,(red B r).1.testBit e.1=S6
 |f::B,r,h,e,a=>by
  obtain⟨b,d⟩:=ON.mp h.ap;rw[lx];rcases Oq.mp a with rfl|a
  .rw[y4 λg c=>b g c];unfold one
   split
   .rename_i q;rw[O2,q,h.lo e S7];rfl
   .rename_i q;simpa using q
  .exact pz h.tail e a
theorem pA:∀{B:bP}{r:Row},sp (rws B) (r.1 ^^^ (red B r).1)
 |[],r=>Qm _
 |e::B,r=>by
  have a:=pA (B:=B) (r:=one r e);rw[lx];unfold one at a ⊢
  split
  .rename_i q;rw[if_pos q]at a;exact .inr (by rw[<- xor_swap];exact a)
  .rename_i q;rw[if_neg q]at a;exact .inl a
theorem vO:∀{B:bP}{x:Nat},iq B->sp (rws B) x->(∀e∈B,x.testBit e.1=S6)->x=0
 |[],x,_,h,_=>h
 |e::B,x,h,b,d=>by
  obtain⟨g,j⟩:=ON.mp h.ap;rcases b with b|b
  .exact vO h.tail b λf c=>d f (S4 _ c)
  .exfalso;have:=pP (k:=e.1) (λa i=>by obtain⟨f,c,rfl⟩:=Tf.mp i;exact g f c) b;rw[O2,d e S7,h.lo e S7]at this;cases this
def y6(h:iq B):(red B r).1=0<->sp (rws B) r.1:=by
 have a:=pA (B:=B) (r:=r);constructor
 .intro z;rwa[z,Qz]at a
 .intro z;have b:=fH a z;rw[xor_swap,Qm,QT]at b;exact vO h b (pz h)
def jU(h:br B):(red B r).1=0<->sp (rws B) r.1:=y6 h.e1
theorem sE : ∀ {C : bP} {x k : Nat}, br C -> sp (rws C) x -> x.testBit k = J -> (∀ j, j < k -> x.testBit j = S6) -> ∃ f ∈ C, f.1 = k
  | [], x, k, _, h, e, _ => by cases h; rw [Qv] at e; cases e
  | f :: C, x, k, h, d, e, l => by
    obtain ⟨o, t⟩ := ON.mp h.ap
    rcases d with d | d
    · obtain ⟨g, a, b⟩ := sE h.tail d e l
      exact ⟨g, S4 _ a, b⟩
    · have i := pP (k := f.1) (fun a p => by obtain ⟨g, r, rfl⟩ := Tf.mp p; exact (o g r).2) d
      obtain ⟨l1, n⟩ := h.lo f S7
      rw [O2, l1] at i
      have m : x.testBit f.1 = true := by cases q : x.testBit f.1 <;> rw [q] at i <;> first | rfl | cases i
      by_cases c : f.1 = k
      · exact ⟨f, S7, c⟩
      · have s : k < f.1 := by
          rcases R8 k f.1 with q | q | q
          · exact q
          · exact absurd q.symm c
          · rw [l f.1 q] at m; cases m
        obtain ⟨g, a, b⟩ := sE h.tail d (k := k) (by rw [O2, e, n k s]; rfl) fun j q => by rw [O2, l j q, n j ⋯]; rfl
        exact ⟨g, S4 _ a, b⟩
def kz(h:br B):(B.map (·.1)).Nodup:=by
 rw[Qd,PD];refine PE (λ{e f} b a q z=>?_) h.ap;have:=(h.lo f a).1;rw[<- z,q.2]at this;cases this
def mx(a:br B)(c:br C)(h:∀x,sp (rws B) x->sp (rws C) x):B.length<=C.length:=by
 have:=aq.f6 (kz a) (ys:=C.map (·.1)) λz hz=>by
  obtain⟨e,b,rfl⟩:=Tf.mp hz;obtain⟨f,d,q⟩:=sE c (h _ (cb (Tf.mpr ⟨e,b,rfl⟩))) (a.lo e b).1 (a.lo e b).2;exact Tf.mpr ⟨f,d,q⟩
 simpa using this
noncomputable def k4:Nat->Nat->Nat
 |0,_=>0
 |f+1,n=>if n%2=1 then 0 else k4 f (n / 2)+1
noncomputable def lo(n:Nat):Nat:=k4 n n
theorem xK:∀(f n:Nat),0<n->n<=f->n.testBit (k4 f n)=J/\(∀j,j<k4 f n->n.testBit j=S6)/\n-(n &&& (n-1))=2 ^ k4 f n/\(n &&& (n-1))<=n
 |0,n,h,b=>by lia
 |f+1,n,h,b=>by
  rw[k4]
  by_cases c:n%2=1
  .rw[if_pos c];refine⟨by rw[Rr];simp[c],λj d=>⋯,?_,Xj⟩;have e1:(n &&& (n-1)) / 2=n / 2:=(by rw[RI,show(n-1) / 2=n / 2 by lia,Nat.and_self]);have a:(n &&& (n-1))%2=0:=by
    have:=@QA n (n-1);rcases OB (n &&& (n-1)) with q|q
    .exact q
    .have:=(this.mp q).2;lia
   show n-(n &&& (n-1))=1;lia
  .rw[if_neg c];obtain⟨e,g,i,k⟩:=xK f (n / 2) ⋯ ⋯;refine⟨by rw[Rt];exact e,λj d=>?_,?_,Xj⟩
   .cases j with
    |zero=>rw[Rr];simp[c]
    |succ j=>rw[Rt];exact g j ⋯
   .have e1:(n &&& (n-1)) / 2=n / 2 &&& (n / 2-1):=(by rw[RI,show(n-1) / 2=n / 2-1 by lia]);have a:(n &&& (n-1))%2=0:=by
     have:=@QA n (n-1);rcases OB (n &&& (n-1)) with q|q
     .exact q
     .have:=(this.mp q).1;lia
    rw[Ut];rw[<- e1]at i k;lia
def xJ(n)(h:0<n):n.testBit (lo n)=J/\(∀j,j<lo n->n.testBit j=S6)/\n-(n &&& (n-1))=2 ^ lo n/\(n &&& (n-1))<=n:=xK n n h (Ot _)
noncomputable def grow(B:bP)(r:Row):bP:=if (red B r).1=0 then B else B.map (λe=>(e.1,one e.2 (lo (red B r).1,red B r)))++[(lo (red B r).1,red B r)]
def jH (h : br B) (r) : br (grow B r) := by
  unfold grow
  split
  · exact h
  · rename_i p
    have c := pz (r := r) h.e1
    generalize red B r = l at p c
    obtain ⟨l1, m, -, -⟩ := xJ l.1 ⋯
    generalize lo l.1 = k at l1 m
    have g : ∀ (e : Nat × Row) j, (one e.2 (k, l)).1.testBit j = (e.2.1.testBit j ^^ (e.2.1.testBit k && l.1.testBit j)) := fun e j => by
      unfold one
      by_cases q : e.2.1.testBit k = J
      · rw [if_pos q, O2, q, Vr]
      · rw [if_neg q]
        have q : e.2.1.testBit k = false := by simpa using q
        rw [q, QQ, Rc]
    refine ⟨Wc.mpr ⟨?_, PI _ _, fun e b f i => ?_⟩, fun e b => ?_⟩
    · rw [PD]
      refine PE (fun {e f} b i q => ?_) h.ap
      dsimp only
      rw [g, g, q.1, q.2, c e b, c f i, Ug, Ug]
      exact ⟨rfl, rfl⟩
    · obtain ⟨a, d, rfl⟩ := Tf.mp b
      obtain rfl := OC.mp i
      dsimp only
      rw [g, l1, c a d, Bool.and_true, Bool.xor_self]
      exact ⟨rfl, rfl⟩
    · rcases Ox.mp b with b | b
      · obtain ⟨a, d, rfl⟩ := Tf.mp b
        dsimp only
        obtain ⟨s, n⟩ := h.lo a d
        refine ⟨by rw [g, s, c a d, Ug]; rfl, fun j o => ?_⟩
        rw [g, n j o]
        by_cases q : a.2.1.testBit k = J
        · have : a.1 < k := by
            rcases R8 a.1 k with w | w | w
            · exact w
            · have := c a d; rw [w, l1] at this; cases this
            · rw [n k w] at q; cases q
          rw [m j ⋯, Ug]; rfl
        · have q : a.2.1.testBit k = false := by simpa using q
          rw [q]; rfl
      · obtain rfl := OC.mp b
        exact ⟨l1, m⟩
def oC(h:br B)(r)(x):sp (rws (grow B r)) x<->sp (r.1::rws B) x:=by
 have h0:=pA (B:=B) (r:=r);unfold grow
 split
 .rename_i z;rw[z,Qz]at h0;exact⟨.inl,cG λa b=>by rcases Oq.mp b with rfl|b;exact h0;exact cb b⟩
 .generalize red B r=l at h0;generalize lo l.1=k;have m:∀{M:List Nat},sp M l.1->(∀e∈B,sp M (one e.2 (k,l)).1)->∀a∈rws B,sp M a:=λ{M} f j a b=>by
   obtain⟨e,c,rfl⟩:=Tf.mp b;have:=j e c;unfold one at this
   split at this
   .have:=fH this f;rwa[ih]at this
   .exact this
  constructor
  .refine cG λa b=>?_
   have d:sp (r.1::rws B) l.1:=by
    have f:sp (r.1::rws B) (r.1 ^^^ l.1):=.inl h0;have:=fH f (cb (L:=r.1::rws B) S7);rwa[xor_swap,Qm,QT]at this
   unfold rws at b;rw[Te,Ti]at b;rcases Ox.mp b with b|b
   .obtain⟨e,c,rfl⟩:=Tf.mp b;have i:sp (r.1::rws B) e.2.1:=.inl (cb (Tf.mpr ⟨e,c,rfl⟩));show sp _ (one e.2 (k,l)).1;unfold one
    split
    .exact fH i d
    .exact i
   .obtain rfl:a=l.1:=(by simpa using b);exact d
  .have d:sp (rws (B.map (λe=>(e.1,one e.2 (k,l)))++[(k,l)])) l.1:=cb (by unfold rws;simp);have g:=m d λe c=>cb (by unfold rws;rw[Te,Ti];exact Tg _ (Tf.mpr ⟨e,c,rfl⟩))
   refine cG λa b=>?_
   rcases Oq.mp b with rfl|b
   .have:=fH (cG g h0) d;rwa[ih]at this
   .exact g a b
def kM(B)(r):(grow B r).length=B.length+if (red B r).1=0 then 0 else 1:=by
 unfold grow
 split<;>simp
noncomputable def bf(B:bP)(rs:List Row):bP:=rs.foldl grow B
theorem eo:∀{rs:List Row}{B:bP},br B->br (bf B rs)
 |[],_,h=>h
 |r::rs,_,h=>eo (rs:=rs) (jH h r)
theorem jG:∀{rs:List Row}{B:bP},br B->∀x,sp (rws (bf B rs)) x<->sp (rs.map (·.1)++rws B) x
 |[],_,h,x=>SP
 |r::rs,B,h,x=>by
  show sp (rws (bf (grow B r) rs)) x<->_;rw[jG (jH h r) x];have g:=oC h r;constructor
  .refine cG λa d=>?_
   rcases Ox.mp d with d|d
   .exact cb (by rw[Tb];exact S4 _ (Tg _ d))
   .refine cG (λb e=>?_) ((g a).mp (cb d));refine cb ?_;rw[Tb];rcases Oq.mp e with rfl|e
    .exact S7
    .exact S4 _ (Ow _ e)
  .refine cG λa d=>?_
   have f:∀b,b∈r.1::rws B->sp (rs.map (·.1)++rws (grow B r)) b:=λb e=>cG (λc i=>cb (Ow _ i)) ((g b).mpr (cb e))
   rw[Tb,W3]at d;rcases Oq.mp d with rfl|d
   .exact f _ S7
   .rcases Ox.mp d with d|d
    .exact cb (Tg _ d)
    .exact f a (S4 _ d)
end c6
end
section
namespace c6
noncomputable def bd:List Nat->Nat->Nat
 |[],_=>0
 |a::as,z=>(if z%2=1 then a else 0) ^^^ bd as (z / 2)
def NJ(a b c d:Nat):(a ^^^ b) ^^^ (c ^^^ d)=(a ^^^ c) ^^^ (b ^^^ d):=by rw[Pu,<- Pu b c d,RO b c,Pu c b d,<- Pu]
theorem hM:∀(as:List Nat)(x y:Nat),bd as (x ^^^ y)=bd as x ^^^ bd as y
 |[],_,_=>(Qm 0).symm
 |a::as,x,y=>by
  show(if (x ^^^ y)%2=1 then a else 0) ^^^ bd as ((x ^^^ y) / 2)=((if x%2=1 then a else 0) ^^^ bd as (x / 2)) ^^^ ((if y%2=1 then a else 0) ^^^ bd as (y / 2));rw[SD,hM as,NJ];congr 1;have:=@Rd x y
  by_cases b:x%2=1<;>by_cases c:y%2=1<;>simp[b,c,this]
theorem ry:∀(as:List Nat)(a z:Nat),bd (as++[a]) z=bd as z ^^^ (if z.testBit as.length=J then a else 0)
 |[],a,z=>by
  show(if z%2=1 then a else 0) ^^^ 0=0 ^^^ _;rw[Qz,QT,TG,Rr];simp
 |b::as,a,z=>by
  show(if z%2=1 then b else 0) ^^^ bd (as++[a]) (z / 2)=((if z%2=1 then b else 0) ^^^ bd as (z / 2)) ^^^ _;rw[ry as a,To,Rt,Pu]
theorem uT:∀(as:List Nat)(z:Nat),(∀j,j<as.length->z.testBit j=S6)->bd as z=0
 |[],_,_=>rfl
 |a::as,z,h=>by
  have h0:=h 0 (by simp);rw[Rr]at h0;show(if z%2=1 then a else 0) ^^^ bd as (z / 2)=0;rw[if_neg (by simpa using h0),uT as (z / 2) λj b=>by rw[<- Rt];exact h (j+1) (by simpa using b)];rfl
def uU(as)(a):bd (as++[a]) (2 ^ as.length)=a:=by
 rw[ry,uT as _ λj b=>by rw[Q0];simp;lia,Qq,if_pos rfl,QT]
def hL(as)(a)(h:z<2 ^ as.length):bd (as++[a]) z=bd as z:=by
 rw[ry,OS h];simp
def mn(h:z<2 ^ (n+1)):(z.testBit n=S6/\z<2 ^ n)\/(z.testBit n=J/\∀u,u<2 ^ (n+1)->u.testBit n=J->z ^^^ u<2 ^ n):=by
 have a:∀y,y<2 ^ (n+1)->y.testBit n=S6->y<2 ^ n:=λy e c=>by
  refine Nat.lt_pow_two_of_testBit y λi f=>?_
  rcases RP n i with q|q
  .exact OS (OD e (OO ∅ q))
  .rw[show i=n by lia];exact c
 cases q:z.testBit n with
 |false=>exact .inl ⟨rfl,a z h q⟩
 |true=>exact .inr ⟨rfl,λu d b=>a _ (Pz h d) (by rw[O2,q,b];rfl)⟩
theorem y3:∀{B:bP}{r:Row},(∀e∈B,bd as e.2.2=e.2.1)->bd as r.2=r.1->bd as (red B r).2=(red B r).1
 |[],r,_,h=>h
 |e::B,r,a,h=>by
  rw[lx];refine y3 (λf b=>a f (S4 _ b)) ?_;unfold one
  split
  .show bd as (r.2 ^^^ e.2.2)=r.1 ^^^ e.2.1;rw[hM,h,a e S7]
  .exact h
theorem y5:∀{B:bP}{r:Row},(∀e∈B,e.2.2<2 ^ n)->∃u,u<2 ^ n/\(red B r).2=r.2 ^^^ u
 |[],r,_=>⟨0,QF n,(Qz _).symm⟩
 |e::B,r,b=>by
  obtain⟨u,a,c⟩:=y5 (B:=B) (r:=one r e) λf d=>b f (S4 _ d)
  rw[lx,c];unfold one
  split
  .exact⟨e.2.2 ^^^ u,Pz (b e S7) a,by rw[<- Pu]⟩
  .exact⟨u,a,rfl⟩
noncomputable def step(st:bP×List Nat)(r:Row):bP×List Nat:=(grow st.1 r,if (red st.1 r).1=0 then st.2++[(red st.1 r).2] else st.2)
noncomputable def cB(rs:List Row):bP×List Nat:=rs.foldl step ([],[])
noncomputable def bJ(as:List Nat):List Row:=as.zipIdx.map λp=>(p.1,2 ^ p.2)
def Hq(as)(a):bJ (as++[a])=bJ as++[(a,2 ^ as.length)]:=by
 unfold bJ;rw[WG,Te];simp
def wZ(rs)(r):cB (rs++[r])=step (cB rs) r:=by unfold cB;rw[Tv];rfl
noncomputable def bare(b:Nat):Row:=(b,0)
structure St(as:List Nat)(B:bP)(F:List Nat):Prop where
 iM:br B
 ko:∀e∈B,bd as e.2.2=e.2.1/\e.2.2<2 ^ as.length
 len:B.length+F.length=as.length
 fX:∀b∈F,b<2 ^ as.length
 nul:∀b∈F,bd as b=0
 fin:(bf [] (F.map bare)).length=F.length
 kX:∀z,z<2 ^ as.length->bd as z=0->sp F z
 mJ:∀z,z<2 ^ as.length->sp (rws B) (bd as z)
def lE:sp (rws (bf [] (F.map bare))) x<->sp F x:=by
 rw[jG br.nil,Ti];have e:F.map ((λx:Row=>x.1) ∘ bare)=F:=by
  have:((λx:Row=>x.1) ∘ bare)=id:=rfl;rw[this,Q9]
 rw[e];show sp (F++[]) x<->_;rw[Pa]
def snoc_ind{P:List Nat->Prop}(h0:P [])(b:∀as a,P as->P (as++[a]))(as):P as:=by
 have d:∀n (as:List Nat),as.length=n->P as:=by
  intro n
  induction n with
  |zero=>intro as h;rw[RD h];exact h0
  |succ n c =>
   intro as h;rcases Rl as with rfl|⟨l,a,rfl⟩
   .cases h
   .rw[Rm]at h ⊢;exact b l a (c l (by simpa using h))
 exact d _ as rfl
def tH (as) : St as (cB (bJ as)).1 (cB (bJ as)).2 := by
  refine snoc_ind (P := fun as => St as (cB (bJ as)).1 (cB (bJ as)).2) ?_ ?_ as
  · show St [] [] []
    refine ⟨br.nil, (fun _ h => nomatch h), rfl, (fun _ h => nomatch h), (fun _ h => nomatch h), rfl, fun z h _ => ?_, fun _ _ => rfl⟩
    have h : z < 1 := h
    show z = 0
    lia
  · intro as a d
    rw [Hq, wZ]
    generalize (cB (bJ as)) = st at d
    obtain ⟨B, F⟩ := st
    dsimp only at d
    unfold step
    dsimp only
    have j : ∀ e ∈ B, bd (as ++ [a]) e.2.2 = e.2.1 := fun e g => by rw [hL as a (d.ko e g).2]; exact (d.ko e g).1
    have l1 := y3 (r := (a, 2 ^ as.length)) j (uU as a)
    obtain ⟨u, I, A⟩ := y5 (B := B) (r := (a, 2 ^ as.length)) fun e g => (d.ko e g).2
    have hz := jU (r := (a, 2 ^ as.length)) d.iM
    have x := kM B (a, 2 ^ as.length)
    have i : (as ++ [a]).length = as.length + 1 := by simp
    have up : ∀ {z}, z < 2 ^ as.length -> z < 2 ^ (as ++ [a]).length := fun {z} h => by rw [i, Ut]; lia
    have K : (2 : Nat) ^ as.length < 2 ^ (as ++ [a]).length := by rw [i]; exact Qn ∅ (PW _)
    have p : (red B (a, 2 ^ as.length)).2 < 2 ^ (as ++ [a]).length := by rw [A]; exact Pz K (up I)
    have v : (red B (a, 2 ^ as.length)).2.testBit as.length = true := by
      rw [A, O2]
      show ((2 ^ as.length).testBit as.length ^^ u.testBit as.length) = J
      rw [Qq, OS I]; rfl
    have C : ∀ {z}, z < 2 ^ (as ++ [a]).length -> z.testBit as.length = J -> bd (as ++ [a]) z = bd as (z ^^^ 2 ^ as.length) ^^^ a /\ z ^^^ 2 ^ as.length < 2 ^ as.length := fun {z} h q => by
      have H : z ^^^ 2 ^ as.length < 2 ^ as.length := by
        rcases mn (n := as.length) (by rw [<- i]; exact h) with ⟨w, _⟩ | ⟨_, w⟩
        · rw [q] at w; cases w
        · exact w _ (by rw [<- i]; exact K) (Qq)
      refine ⟨?_, H⟩
      rw [<- hL as a H, hM, uU, ih]
    have low : ∀ {z}, z < 2 ^ (as ++ [a]).length -> z.testBit as.length = S6 -> z < 2 ^ as.length := fun {z} h q => by
      rcases mn (n := as.length) (by rw [<- i]; exact h) with ⟨_, w⟩ | ⟨w, _⟩
      · exact w
      · rw [q] at w; cases w
    generalize G : red B (a, 2 ^ as.length) = l at l1 A p v hz x
    by_cases c : l.1 = 0
    · have y : grow B (a, 2 ^ as.length) = B := by unfold grow; rw [G, if_pos c]
      rw [if_pos c, y]
      refine ⟨d.iM, fun e g => ⟨j e g, up (d.ko e g).2⟩, by rw [Oo, i]; have := d.len; simp; lia, fun b k => ?_, fun b k => ?_, ?_, fun z h0 o => ?_, fun z h0 => ?_⟩
      · rcases Ox.mp k with h | h
        · exact up (d.fX b h)
        · rw [OC.mp h]; exact p
      · rcases Ox.mp k with h | h
        · rw [hL as a (d.fX b h)]; exact d.nul b h
        · rw [OC.mp h, l1, c]
      · rw [Te]
        show (bf [] (F.map bare ++ [bare l.2])).length = _
        unfold bf
        rw [Tv]
        show (grow (bf [] (F.map bare)) (bare l.2)).length = _
        rw [kM, d.fin, Oo, if_neg]
        · rfl
        · intro w
          have := tD d.fX (lE.mp ((jU (eo br.nil)).mp w))
          have this : l.2 < 2 ^ as.length := this
          rw [OS this] at v; cases v
      · cases q : z.testBit as.length with
        | false =>
          have := d.kX z (low h0 q) (by rw [<- hL as a (low h0 q)]; exact o)
          exact cG (fun b j => cb (Tg _ j)) this
        | true =>
          have D : z ^^^ l.2 < 2 ^ as.length := by
            rcases mn (n := as.length) (by rw [<- i]; exact h0) with ⟨w, _⟩ | ⟨_, w⟩
            · rw [q] at w; cases w
            · exact w _ (by rw [<- i]; exact p) v
          have L := d.kX _ D (by rw [<- hL as a D, hM, o, l1, c]; rfl)
          have M : sp (F ++ [l.2]) (z ^^^ l.2) := cG (fun b j => cb (Tg _ j)) L
          have := fH M (cb (Ow F S7))
          rwa [ih] at this
      · cases q : z.testBit as.length with
        | false => rw [hL as a (low h0 q)]; exact d.mJ z (low h0 q)
        | true =>
          obtain ⟨m, s⟩ := C h0 q
          rw [m]
          exact fH (d.mJ _ s) (hz.mp c)
    · have y : ∀ e ∈ grow B (a, 2 ^ as.length), bd (as ++ [a]) e.2.2 = e.2.1 /\ e.2.2 < 2 ^ (as ++ [a]).length := fun e g => by
        unfold grow at g
        rw [G, if_neg c] at g
        rcases Ox.mp g with g | g
        · obtain ⟨f, t, rfl⟩ := Tf.mp g
          dsimp only
          unfold one
          split
          · exact ⟨by rw [hM, j f t, l1], Pz (up (d.ko f t).2) p⟩
          · exact ⟨j f t, up (d.ko f t).2⟩
        · rw [OC.mp g]; exact ⟨l1, p⟩
      rw [if_neg c]
      rw [if_neg c] at x
      refine ⟨jH d.iM _, y, by rw [x, i]; have := d.len; lia, fun b k => up (d.fX b k), fun b k => by rw [hL as a (d.fX b k)]; exact d.nul b k, d.fin, fun z h0 o => ?_, fun z h0 => ?_⟩
      · cases q : z.testBit as.length with
        | false => exact d.kX z (low h0 q) (by rw [<- hL as a (low h0 q)]; exact o)
        | true =>
          exfalso
          obtain ⟨m, s⟩ := C h0 q
          rw [o] at m
          have : bd as (z ^^^ 2 ^ as.length) = a := by
            have w : 0 ^^^ a = (bd as (z ^^^ 2 ^ as.length) ^^^ a) ^^^ a := Pw (· ^^^ a) m
            rw [ih, QT] at w
            exact w.symm
          exact c (hz.mpr (by have E := d.mJ _ s; rw [this] at E; exact E))
      · rw [oC d.iM]
        cases q : z.testBit as.length with
        | false => rw [hL as a (low h0 q)]; exact .inl (d.mJ z (low h0 q))
        | true =>
          obtain ⟨m, s⟩ := C h0 q
          rw [m]
          exact .inr (by rw [ih]; exact d.mJ _ s)
noncomputable def tell(st:bP×List Nat)(b:Nat):bP×List Nat:=(grow st.1 (bare b),if (red st.1 (bare b)).1=0 then st.2 else st.2++[b])
theorem tR:∀(F:List Nat)(B:bP)(G:List Nat),(F.foldl tell (B,G)).2.length+B.length=(bf B (F.map bare)).length+G.length
 |[],B,G=>S1 _ _
 |b::F,B,G=>by
  show(F.foldl tell (tell (B,G) b)).2.length+B.length=(bf (grow B (bare b)) (F.map bare)).length+G.length;have h:=tR F (grow B (bare b)) (if (red B (bare b)).1=0 then G else G++[b]);have a:=kM B (bare b);have d:tell (B,G) b=(grow B (bare b),if (red B (bare b)).1=0 then G else G++[b]):=rfl;rw[d]
  by_cases c:(red B (bare b)).1=0
  .rw[if_pos c]at h a ⊢;lia
  .rw[if_neg c]at h a ⊢;rw[Oo]at h;simp at h;lia
def JI(as)(rs)(h:∀r∈rs,r.1<2 ^ as.length/\bd as r.1=0):
  ((cB (bJ as)).2.foldl tell (bf [] rs,[])).2.length+(bf [] rs).length=(cB (bJ as)).2.length:=by
 have st:=tH as;generalize (cB (bJ as)).2=F at st;rw[tR];have e1:=eo (rs:=rs) br.nil;have e:=eo (rs:=F.map bare) e1;have f:=eo (rs:=F.map bare) br.nil;have j:∀x,sp (rws (bf (bf [] rs) (F.map bare))) x<->sp F x:=λx=>by
  rw[jG e1,Ti,show F.map ((λx:Row=>x.1) ∘ bare)=F from Q9 F];refine⟨cG λa c=>?_,cG λa c=>cb (Tg _ c)⟩;rcases Ox.mp c with c|c
  .exact cb c
  .have:=(jG (rs:=rs) br.nil a).mp (cb c);refine cG (λb g=>?_) this;rw[show rws []=[] from rfl,Pa]at g;obtain⟨r,i,rfl⟩:=Tf.mp g;exact st.kX _ (h r i).1 (h r i).2
 have k:=mx e f λx d=>lE.mpr ((j x).mp d)
 have l:=mx f e λx d=>(j x).mpr (lE.mp d)
 have:=st.fin;simp only[TG];lia
end c6
end
section
namespace c6
def uf:∀x y:Nat,(x ^^^ y)+2*(x &&& y)=x+y:=by
 intro x
 induction x using VW with
 |ind x i =>
  intro y
  by_cases h:x=0
  .subst h;simp
  .have f:=i (x / 2) ⋯ (y / 2);have e1:(x ^^^ y) / 2=x / 2 ^^^ y / 2:=SD;have g:(x &&& y) / 2=x / 2 &&& y / 2:=RI;have d:(x ^^^ y)%2=(x%2+y%2)%2:=by
    have:=@Rd x y;rcases OB x with a|a<;>rcases OB y with b|b<;>rcases OB (x ^^^ y) with c|c<;>simp[a,b,c]at this ⊢
   have e:(x &&& y)%2=(x%2)*(y%2):=by
    have:=@QA x y;rcases OB x with a|a<;>rcases OB y with b|b<;>rcases OB (x &&& y) with c|c<;>simp[a,b,c]at this ⊢
   rw[<- e1,<- g]at f;revert f d e;generalize x ^^^ y=p;generalize x &&& y=q;intro f d e;rcases OB x with a|a<;>rcases OB y with b|b<;>rw[a,b]at d e<;>lia
noncomputable def fK:List Nat->Nat
 |[]=>0
 |a::as=>a ^^^ fK as
theorem qk(j):∀L:List Nat,(fK L).testBit j=decide ((L.countP λa=>a.testBit j)%2=1)
 |[]=>by simp[fK]
 |a::L=>by
  rw[fK,O2,qk j L,Uc];cases a.testBit j with
  |false=>simp
  |true =>
   simp only[Pb,Bool.true_xor];rcases OB (L.countP λa=>a.testBit j) with h|h
   .rw[h,show(List.countP (λa=>a.testBit j) L+1)%2=1 by lia];rfl
   .rw[h,show(List.countP (λa=>a.testBit j) L+1)%2=0 by lia];rfl
theorem me:∀as:List Nat,bd as 0=0
 |[]=>rfl
 |a::as=>by show(if 0%2=1 then a else 0) ^^^ bd as (0 / 2)=0;rw[if_neg ∅,Nat.zero_div,me as];rfl
theorem rx:∀(as:List Nat)(j:Nat),bd as (2 ^ j)=as.getD j 0
 |[],j=>by simp[bd]
 |a::as,0=>by
  show(if 1%2=1 then a else 0) ^^^ bd as (1 / 2)=a;rw[if_pos ∅,show 1 / 2=0 by decide,me,Qz]
 |a::as,j+1=>by
  show(if 2 ^ (j+1)%2=1 then a else 0) ^^^ bd as (2 ^ (j+1) / 2)=(a::as).getD (j+1) 0;have c:2 ^ (j+1)%2=0:=(by rw[Ut];lia);have b:2 ^ (j+1) / 2=2 ^ j:=(by rw[Ut];lia);rw[if_neg ⋯,b,rx as j,QT];rfl
theorem uV(as):∀L:List Nat,bd as (fK L)=fK (L.map (bd as))
 |[]=>me as
 |a::L=>by rw[fK,hM,uV as L,Tb,fK]
section
variable{α:Type}[DecidableEq α]
noncomputable abbrev bc(U:List α)(x:α):Nat:=U.idxOf x
def sj{U:List α}(a:U.Nodup)(h:i<U.length):bc U U[i]=i:=a.idxOf_getElem i h
noncomputable def bh(U xs:List α):Nat:=fK (xs.map λx=>2 ^ bc U x)
def h5{U:List α}(j)(f:j<U.length)(b:xs.Nodup)(d:U.Nodup):(bh U xs).testBit j=decide (U[j]∈xs):=by
 unfold bh;rw[qk,Qf];have e:xs.countP ((λa=>a.testBit j) ∘ λx=>2 ^ U.idxOf x)=xs.countP λx=>x==U[j]:=by
  refine PO λx b=>?_
  simp only[UZ,Q0,Oz,OL];constructor
  .intro h;have:U[U.idxOf x]'⋯=x:=Q7 ⋯;rw[<- this];congr 1
  .intro h;rw[h];exact d.idxOf_getElem j f
 have c:∀{xs:List α}(y:α),xs.Nodup->xs.countP (λx=>x==y)=if y∈xs then 1 else 0:=λ{xs} y=>by
  induction xs with
  |nil=>intro _;rfl
  |cons x xs i =>
   intro g;obtain⟨k,l⟩:=OX.mp g;rw[Uc,i l]
   by_cases q:x=y
   .subst q;simp[k]
   .simp[q,Pd q]
 rw[e,c _ b]
 by_cases h:U[j]∈xs
 .rw[if_pos h,decide_eq_true h];rfl
 .rw[if_neg h,decide_eq_false h];rfl
theorem iW:∀{xs:List α},(∀x∈xs,x∈U)->bh U xs<2 ^ U.length
 |[],_=>QF _
 |x::xs,h=>by
  show 2 ^ U.idxOf x ^^^ bh U xs<2 ^ U.length;refine Pz (Qn ∅ (PN (h x S7))) (iW λy a=>h y (S4 _ a))
theorem xZ(b:U.Nodup):∀{xs:List α},xs.Nodup->(∀x∈xs,x∈U)->(xs.map λx=>((2 ^ bc U x:Nat):Int)).sum=(bh U xs:Int)
 |[],_,_=>rfl
 |x::xs,g,h=>by
  obtain⟨d,a⟩:=OX.mp g;have j:=h x S7;have c:=PN j;rw[Tb,List.sum_cons,xZ b a λy k=>h y (S4 _ k)];show _=((2 ^ bc U x ^^^ bh U xs:Nat):Int);have f:(bh U xs).testBit (bc U x)=false:=(by rw[h5 _ c a b,Q7 c,decide_eq_false d]);have e:2 ^ bc U x &&& bh U xs=0:=by
   apply PJ;intro i;rw[SE,Q0,Qv]
   by_cases q:bc U x=i
   .rw[<- q,f];simp
   .simp[q]
  have:=uf (2 ^ bc U x) (bh U xs);rw[e]at this;lia
def uS{c:List α}(b:∀x∈c,x∈U):bd (U.map h) (bh U c)=fK (c.map h):=by
 show bd _ (fK (c.map λx=>2 ^ bc U x))=_;rw[uV,Ti];refine Pw fK (PS λx d=>?_);have a:=PN (b x d);show bd _ (2 ^ U.idxOf x)=_;rw[rx,Ui,OG,Ov a,Q7 a];rfl
def AX{sd:α->List α}{c:List α}(d:V.Nodup)(f:∀x∈c,(sd x).Nodup)(e:j<V.length):(fK (c.map λx=>bh V (sd x))).testBit j=decide ((c.countP λx=>decide (V[j]∈sd x))%2=1):=by
 rw[qk,Qf];have b:c.countP ((λa=>a.testBit j) ∘ λx=>bh V (sd x))=c.countP λx=>decide (V[j]∈sd x):=by
  refine PO λx g=>?_
  show(bh V (sd x)).testBit j=J<->_;rw[h5 j e (f x g) d]
 rw[b]
def ze{sd:α->List α}(h:V.Nodup)(i:∀x∈c,x∈U)(e:∀x∈c,(sd x).Nodup/\∀y∈sd x,y∈V)(g:∀y,(c.countP λx=>decide (y∈sd x))%2=0):
  bd (U.map λx=>bh V (sd x)) (bh U c)=0:=by
 rw[uS i];apply PJ;intro j;rw[Qv]
 by_cases d:j<V.length
 .rw[AX h (λx b=>(e x b).1) d,g];rfl
 .rw[qk,Qf];have f:c.countP ((λa=>a.testBit j) ∘ λx=>bh V (sd x))=0:=by
   rw[RK];intro x b;show ¬(bh V (sd x)).testBit j=J;rw[OS (OD (iW (e x b).2) (OO ∅ (QS d)))];simp
  rw[f];rfl
def Hu{U xs ys:List α}(c:U.Nodup)(e:xs.Nodup)(b:ys.Nodup)(h:∀x,x∈xs<->x∈ys)(d:∀x∈xs,x∈U):bh U xs=bh U ys:=by
 apply PJ;intro j
 by_cases a:j<U.length
 .rw[h5 j a e c,h5 j a b c];exact decide_eq_decide.mpr (h _)
 .have p:=OO (n:=2) ∅ (QS a);rw[OS (OD (iW d) p),OS (OD (iW λy b=>d y ((h y).mpr b)) p)]
def o8{U:List α}(d:U.Nodup)(f:b<2 ^ U.length):bh U (U.filter λc=>b.testBit (bc U c))=b:=by
 apply PJ;intro j
 by_cases a:j<U.length
 .rw[h5 j a (d.filter _) d];have e:(U[j]∈U.filter λc=>b.testBit (bc U c))<->b.testBit j=true:=(by rw[OJ,sj d a];exact⟨λh=>h.2,λh=>⟨W4 a,h⟩⟩);cases q:b.testBit j with
  |true=>exact decide_eq_true (e.mpr q)
  |false=>exact decide_eq_false λz=>by rw[e.mp z]at q;cases q
 .have p:=OO (n:=2) ∅ (QS a);rw[OS (OD (iW λx g=>(OJ.mp g).1) p),OS (OD f p)]
end
end c6
end
section
namespace c6
noncomputable def dA(as:List Nat):Nat:=(bf [] (as.map bare)).length
def BI(L:List Nat):(L.map bare).map (λx:Row=>x.1)=L:=by rw[Ti];exact Q9 L
def r7(h:∀x,sp (rs.map (·.1)) x<->sp (qs.map (·.1)) x):(bf [] rs).length=(bf [] qs).length:=by
 have e:∀(rs:List Row) x,sp (rws (bf [] rs)) x<->sp (rs.map (·.1)) x:=λrs x=>by
  rw[jG br.nil,show rws []=[] from rfl,Pa]
 have b:=mx (eo (rs:=rs) br.nil) (eo (rs:=qs) br.nil) λx a=>(e qs x).mpr ((h x).mp ((e rs x).mp a))
 have c:=mx (eo (rs:=qs) br.nil) (eo (rs:=rs) br.nil) λx a=>(e rs x).mpr ((h x).mpr ((e qs x).mp a))
 lia
def zi(rs):(bf [] rs).length=dA (rs.map (·.1)):=r7 λx=>by rw[BI]
def pC(as)(a):(sp as a->dA (as++[a])=dA as)/\(¬sp as a->dA (as++[a])=dA as+1):=by
 have e:bf [] ((as++[a]).map bare)=grow (bf [] (as.map bare)) (bare a):=by unfold bf;rw[Te,Tv];rfl
 have z:=jU (B:=bf [] (as.map bare)) (r:=bare a) (eo br.nil);have z:(red (bf [] (as.map bare)) (bare a)).1=0<->sp as a:=z.trans lE;unfold dA;rw[e,kM];exact⟨λh=>by rw[if_pos (z.mpr h)];rfl,λh=>by rw[if_neg λq=>h (z.mp q)]⟩
end c6
end
section
namespace c6
noncomputable def iV(l w:Nat):Nat:=if l ^^^ w<l then l ^^^ w else l
noncomputable def dx(W:List Nat)(x:Nat):Nat:=W.foldl iV x
noncomputable def lst(W:List Nat)(x:Nat):List Nat:=if 0<dx W x then W++[dx W x] else W
noncomputable def di(cs:List Nat):List Nat:=cs.foldl lst []
noncomputable def ent(w:Nat):Nat×Row:=(w.log2,w,0)
def An(h:0<w):w.testBit w.log2=J/\∀j,w.log2<j->w.testBit j=false:=by
 have c:=Nat.log2_self_le (n:=w) ⋯;have a:=@Nat.lt_log2_self w;refine⟨?_,λj b=>OS (OD a (OO ∅ b))⟩;rcases mn a with⟨_,q⟩|⟨q,_⟩
 .omega
 .exact q
def xR{x y k:Nat}(f:x.testBit k=S6)(g:y.testBit k=J)(h:∀j,k<j->x.testBit j=y.testBit j):x<y:=by
 have e:x / 2 ^ (k+1)=y / 2 ^ (k+1):=by
  apply PJ;intro i;rw[Sl,Sl];exact h _ ⋯
 have d:=QF (k+1);have a:x%2 ^ (k+1)<2 ^ k:=by
  rcases mn (Sx x d) with⟨_,q⟩|⟨q,_⟩
  .exact q
  .rw[Sm,f]at q;simp at q
 have b:2 ^ k<=y%2 ^ (k+1):=by
  rcases RP (y%2 ^ (k+1)) (2 ^ k) with q|q
  .have:=OS q;rw[Sm,g]at this;simp at this
  .exact q
 have c:=Xk x (2 ^ (k+1));have l:=Xk y (2 ^ (k+1));rw[e]at c;lia
def Ht(h:0<w)(l):iV l w=if l.testBit w.log2=J then l ^^^ w else l:=by
 obtain⟨b,c⟩:=An h;unfold iV;cases q:l.testBit w.log2 with
 |true =>
  rw[if_pos rfl,if_pos];exact xR (k:=w.log2) (by rw[O2,q,b];rfl) q λj a=>by rw[O2,c j a,Rc]
 |false =>
  rw[if_neg (show ¬(S6=J) by decide)];have:l<l ^^^ w:=xR (k:=w.log2) q (by rw[O2,q,b];rfl) λj a=>by rw[O2,c j a,Rc]
  rw[if_neg ⋯]
theorem xM:∀{W:List Nat}(l:Nat),(∀w∈W,0<w)->red (W.map ent) (l,0)=(dx W l,0)
 |[],l,_=>rfl
 |w::W,l,h=>by
  rw[Tb,lx];have e:one (l,0) (ent w)=(iV l w,0):=by
   rw[Ht (h w S7)];unfold one ent;dsimp only
   split<;>rfl
  rw[e];exact xM (iV l w) λz hz=>h z (S4 _ hz)
def JP(W):rws (W.map ent)=W:=by
 unfold rws;rw[Ti];exact Q9 W
structure lY(W:List Nat)(B:bP):Prop where
 pos:∀w∈W,0<w
 e1:iq (W.map ent)
 iM:br B
 len:W.length=B.length
 sp:∀x,sp W x<->sp (rws B) x
def lY.step(h:lY W B)(c):lY (lst W c) (grow B (bare c)):=by
 have v:=xM c h.pos;have j:=y6 (r:=(c,0)) h.e1;have n:=jU (r:=bare c) h.iM;have i:=pA (B:=W.map ent) (r:=(c,0));have b1:=pz (r:=(c,0)) h.e1;rw[JP]at j i;rw[v]at j i b1;dsimp only at j i b1;have l:=kM B (bare c);have o:=oC h.iM (bare c);unfold lst
 by_cases q:dx W c=0
 .rw[if_neg ⋯];have k:(red B (bare c)).1=0:=n.mpr ((h.sp c).mp (j.mp q));have e:grow B (bare c)=B:=(by unfold grow;rw[if_pos k]);rw[e];exact h
 .rw[if_pos ⋯];have k:¬(red B (bare c)).1=0:=λw=>q (j.mpr ((h.sp c).mpr (n.mp w)))
  rw[if_neg k]at l;refine⟨λw hw=>?_,⟨?_,λe g=>?_⟩,jH h.iM _,by rw[Oo,h.len,l];rfl,λx=>?_⟩
  .rcases Ox.mp hw with hw|hw
   .exact h.pos w hw
   .rw[OC.mp hw];lia
  .rw[Te];refine Wc.mpr ⟨h.e1.ap,PI _ _,λe g f s=>?_⟩;rw[OC.mp s];exact b1 e g
  .rw[Te]at g;rcases Ox.mp g with g|g
   .exact h.e1.lo e g
   .rw[OC.mp g];exact(An (w:=dx W c) ⋯).1
  .rw[o x];have t:∀y,c6.sp (c::rws B) y<->c6.sp (c::W) y:=λy=>by
    constructor
    .rintro(w|w)
     .exact .inl ((h.sp _).mpr w)
     .exact .inr ((h.sp _).mpr w)
    .rintro(w|w)
     .exact .inl ((h.sp _).mp w)
     .exact .inr ((h.sp _).mp w)
   rw[show(bare c).1=c from rfl,t x];constructor
   .refine cG λa d=>?_
    rcases Ox.mp d with d|d
    .exact .inl (cb d)
    .rw[OC.mp d];exact .inr (by rw[RO];exact i)
   .refine cG λa d=>?_
    have u:c6.sp (W++[dx W c]) (dx W c):=cb (by simp);have m:∀b∈W,c6.sp (W++[dx W c]) b:=λb p=>cb (Tg _ p)
    rcases Oq.mp d with rfl|d
    .have:=fH (cG m i) u;rwa[ih]at this
    .exact m a d
def GQ(cs):lY (di cs) (bf [] (cs.map bare)):=by
 refine snoc_ind (P:=λcs=>lY (di cs) (bf [] (cs.map bare))) ?_ (λcs c b=>?_) cs
 .exact⟨(λ_ h=>nomatch h),⟨.nil,(λ_ h=>nomatch h)⟩,br.nil,rfl,λ_=>SP⟩
 .have e1:di (cs++[c])=lst (di cs) c:=(by unfold di;rw[Tv];rfl);have a:bf [] ((cs++[c]).map bare)=grow (bf [] (cs.map bare)) (bare c):=(by unfold bf;rw[Te,Tv];rfl);rw[e1,a];exact b.step c
def mU(cs):(di cs).length=(bf [] (cs.map bare)).length:=(GQ cs).len
def Jr(rs):(bf [] rs).length=(di (rs.map (·.1))).length:=by
 rw[mU];refine r7 λx=>?_
 rw[Ti,show(λx:Row=>x.1) ∘ bare=id from rfl,Q9]
theorem tS:∀(F:List Nat)(B:bP)(G:List Nat),br B->br (F.foldl tell (B,G)).1/\∃N,(F.foldl tell (B,G)).2=G++N/\(∀b∈N,b∈F)/\∀x,sp (rws B++F) x<->sp (rws B++N) x
 |[],B,G,h=>⟨h,[],(Pa G).symm,λ_ z=>z,λ_=>SP⟩
 |b::F,B,G,h=>by
  have z:=jU (r:=bare b) h;have m:=oC h (bare b);obtain⟨e1,N,i,j,n⟩:=tS F (grow B (bare b)) (if (red B (bare b)).1=0 then G else G++[b]) (jH h _);have l:∀(L:List Nat) x,sp (rws (grow B (bare b))++L) x<->sp (b::(rws B++L)) x:=λL x=>by
   constructor
   .refine cG λa e=>?_
    rcases Ox.mp e with e|e
    .refine cG (λc g=>cb ?_) ((m a).mp (cb e));rcases Oq.mp g with rfl|g
     .exact S7
     .exact S4 _ (Tg _ g)
    .exact cb (S4 _ (Ow _ e))
   .refine cG λa e=>?_
    have k:∀c,c∈(bare b).1::rws B->sp (rws (grow B (bare b))++L) c:=λc g=>cG (λd f=>cb (Tg _ f)) ((m c).mpr (cb g))
    rcases Oq.mp e with rfl|e
    .exact k _ S7
    .rcases Ox.mp e with e|e
     .exact k a (S4 _ e)
     .exact cb (Ow _ e)
  have o:(b::F).foldl tell (B,G)=F.foldl tell (grow B (bare b),if (red B (bare b)).1=0 then G else G++[b]):=rfl;rw[o];refine⟨e1,?_⟩;have all:∀x,sp (rws B++b::F) x<->sp (b::(rws B++N)) x:=λx=>by
   rw[<- l N x,<- n x,l F x];exact⟨cG λa e=>cb (by simp at e ⊢;rcases e with q|q|q<;>simp[q]),cG λa e=>cb (by simp at e ⊢;rcases e with q|q|q<;>simp[q])⟩
  by_cases c:(red B (bare b)).1=0
  .refine⟨N,?_,λd f=>S4 _ (j d f),λx=>?_⟩
   .rw[if_pos c]at i ⊢;exact i
   .rw[all x];refine⟨cG λa e=>?_,.inl⟩;rcases Oq.mp e with rfl|e
    .exact cG (λd f=>cb (Tg _ f)) (z.mp c)
    .exact cb e
  .refine⟨b::N,?_,λd f=>?_,λx=>?_⟩
   .rw[if_neg c]at i ⊢;rw[i,Pk];rfl
   .rcases Oq.mp f with rfl|f
    .exact S7
    .exact S4 _ (j d f)
   .rw[all x];exact⟨cG λa e=>cb (by simp at e ⊢;rcases e with q|q|q<;>simp[q]),cG λa e=>cb (by simp at e ⊢;rcases e with q|q|q<;>simp[q])⟩
def MM(rs)(F G:List Nat)(p:G.Perm (F.foldl tell (bf [] rs,[])).2):(di (rs.map (·.1)++G)).length=(di (rs.map (·.1))).length+G.length:=by
 obtain⟨_,N,f,_,g⟩:=tS F (bf [] rs) [] (eo br.nil);have e:=tR F (bf [] rs) [];rw[RH]at f;rw[f]at p e;rw[p.length_eq,<- Jr rs,mU];have i:bf (bf [] rs) (F.map bare)=bf [] (rs++F.map bare):=by unfold bf;rw[Tv]
 rw[i]at e;have bm:∀L:List Nat,(L.map bare).map (λx:Row=>x.1)=L:=λL=>by rw[Ti];exact Q9 L
 have d:∀x,sp (rws (bf [] rs)) x<->sp (rs.map (·.1)) x:=λx=>by rw[jG br.nil,show rws []=[] from rfl,Pa]
 have l:∀{A B L M:List Nat}{x},(∀x,sp A x->sp B x)->(∀a∈L,a∈M)->sp (A++L) x->sp (B++M) x:=λ{A B L M x} h m=>cG λa c=>by
  rcases Ox.mp c with c|c
  .exact cG (λb j=>cb (Tg _ j)) (h a (cb c))
  .exact cb (Ow _ (m a c))
 have:=r7 (rs:=(rs.map (·.1)++G).map bare) (qs:=rs++F.map bare) λx=>by
  rw[bm,Te,bm];constructor
  .exact λh=>l (λx=>(d x).mp) (λ_ h=>h) ((g x).mpr (l (λx=>(d x).mpr) (λa h=>p.subset h) h))
  .exact λh=>l (λx=>(d x).mp) (λa h=>p.symm.subset h) ((g x).mp (l (λx=>(d x).mpr) (λ_ h=>h) h))
 simp only[TG]at e;lia
end c6
end
section
namespace c6
def JG(h:∀x,sp as x->sp bs x):dA as<=dA bs :=
 mx (eo br.nil) (eo br.nil) λ_ q=>lE.mpr (h _ (lE.mp q))
def Ee(h:∀r∈rs,r<2 ^ as.length/\bd as r=0)(d:as.length<=dA rs+dA as)(hz:z<2 ^ as.length)(c:bd as z=0):sp rs z:=OY λq=>by
 have st:=tH as;have e:(cB (bJ as)).1.length=dA as:=by
  have k:∀(rs:List Row)(st:bP×List Nat),(rs.foldl step st).1=bf st.1 rs:=λrs=>by
   induction rs with
   |nil=>intro st;rfl
   |cons r rs j=>intro st;exact j (step st r)
  have:(cB (bJ as)).1=bf [] (bJ as):=k _ _;rw[this,zi];unfold bJ;rw[Ti];exact Pw dA (by simp[WL])
 have l:=st.len;have f:=st.fin;have i:=JG (as:=rs++[z]) (bs:=(cB (bJ as)).2) λx g=>cG (λa b=>(Ox.mp b).elim (λm=>st.kX _ (h a m).1 (h a m).2) λm=>by cases OC.mp m;exact st.kX _ hz c) g
 rw[(pC rs z).2 q]at i;unfold dA at i e d;lia
end c6
end
section
namespace dO
open PySem PySem.SetTable
def fe(xs:Array Nat):Prop:=∀(i j a b:Nat),i<j->xs[i]?=Z a->xs[j]?=Z b->a<b
def qz(xs:Array Nat)(j p:Nat):Prop:=∀(q a:Nat),q<p->xs[q]?=Z a->a<j
def qu(xs:Array Nat)(j p:Nat):Prop:=∀(q a:Nat),p<=q->xs[q]?=Z a->j<=a
theorem r6(i:fe xs)(j):∀(fuel b aw:Nat),aw-b<=fuel->b<=aw->aw<=xs.size->qz xs j b->qu xs j aw ->
  below.go xs j fuel b aw<=xs.size/\qz xs j (below.go xs j fuel b aw)/\qu xs j (below.go xs j fuel b aw)
 |0,b,aw,n,o,d,h,g=>by
  have e:b=aw:=⋯;subst e;exact⟨d,h,g⟩
 |fuel+1,b,aw,n,o,d,h,g=>by
  unfold below.go
  by_cases l:b<aw
  .rw[if_pos l];have m:(b+aw) / 2<xs.size:=⋯;have f:xs[(b+aw) / 2]?=Z xs[(b+aw) / 2]:=Oy m;have p:xs.getD ((b+aw) / 2) j=xs[(b+aw) / 2]:=(by simp[Vi,m]);simp only[p]
   by_cases k:xs[(b+aw) / 2]<j
   .rw[if_pos k];refine r6 i j fuel _ _ ⋯ ⋯ d ?_ g;intro q a r c
    by_cases e:q=(b+aw) / 2
    .subst e;rw[f]at c;cases c;exact k
    .have:=i q ((b+aw) / 2) a _ ⋯ c f;lia
   .rw[if_neg k];refine r6 i j fuel _ _ ⋯ ⋯ ⋯ h ?_;intro q a r c
    by_cases e:q=(b+aw) / 2
    .subst e;rw[f]at c;cases c;lia
    .have:=i ((b+aw) / 2) q _ a ⋯ f c;lia
  .rw[if_neg l];have e:b=aw:=⋯;subst e;exact⟨d,h,g⟩
def mf(d:fe xs)(j):below xs j<=xs.size/\qz xs j (below xs j)/\qu xs j (below xs j):=by
 unfold below;refine r6 d j _ _ _ ⋯ ⋯ ⋯ (λq a c _=>⋯) (λq a c b=>?_);have:=(OP.mp b).1;lia
def below_at(d:fe xs)(h:xs[i]?=Z j):below xs j=i:=by
 obtain⟨l,g,k⟩:=mf d j
 by_cases e:i<below xs j
 .exact absurd (g i j e h) (Pq _)
 .by_cases f:below xs j=i
  .exact f
  .have m:=(OP.mp h).1;have c:xs[below xs j]?=Z (xs[below xs j]'⋯):=Oy ⋯;have a:=k _ _ (Ot _) c;have b:=d (below xs j) i _ _ ⋯ c h;lia
def j1{t:UG}(a:fe t.place)(h:t.place[i]?=Z j):t.slot j=.live i:=by
 unfold slot;rw[below_at a h];simp[h]
def d9(t:UG)(j:Nat):Prop:=(∃i:Nat,t.place[i]?=Z j)\/∃i:Nat,t.dummies[i]?=Z j
def zP{t:UG}(h:∀i:Nat,t.place[i]?≠Z j):t.slot j=if has t.dummies j then .dummy else .empty:=by
 unfold slot;have h0:(t.place[below t.place j]?==Z j)=false:=by rw[beq_eq_false_iff_ne];exact h _
 simp only[h0,Om,OH]
def wQ(a:fe xs){i j:Nat}(h:xs[i]?=Z j):has xs j=true:=by
 unfold has;rw[below_at a h,h];simp
def wR(h:∀i:Nat,xs[i]?≠Z j):has xs j=false:=by
 unfold has;rw[beq_eq_false_iff_ne];exact h _
def K9(h:¬d9 t j):t.slot j=.empty:=by
 rw[zP λi e=>h (.inl ⟨i,e⟩),wR λi e=>h (.inr ⟨i,e⟩)];rfl
def zO{t:UG}(a:fe t.dummies){i j:Nat}(b:∀i:Nat,t.place[i]?≠Z j)(h:t.dummies[i]?=Z j):t.slot j=.dummy:=by
 rw[zP b,wQ a h];rfl
noncomputable def fi(m:Nat)(p:Probe):Probe :=
 if p.more>0 then { p with j:=p.j+1,more:=p.more-1 } else
 { p with j:=(leap m p.i p.perturb).1,more:=runEnd m (leap m p.i p.perturb).1-(leap m p.i p.perturb).1,i:=(leap m p.i p.perturb).1,perturb:=(leap m p.i p.perturb).2 }
def qG(t:UG)(p):t.advance p=fi t.mask p:=rfl
noncomputable def Fj(m:Nat)(h:Int):Probe:={ j:=bits h%(m+1),more:=runEnd m (bits h%(m+1))-bits h%(m+1),i:=bits h%(m+1),perturb:=bits h,dummy:=Y }
noncomputable def pr(m:Nat)(h:Int):Nat->Probe
 |0=>Fj m h
 |n+1=>fi m (pr m h n)
noncomputable def ba(m:Nat)(h:Int)(n:Nat):Nat:=(pr m h n).j
def pD(h:i<=m):runEnd m i<=m/\i<=runEnd m i/\runEnd m i<=i+9:=by
 unfold runEnd;split<;>lia
def xq(m i p):(leap m i p).1<=m:=by
 unfold leap;have:(i*5+1+p / 32)%(m+1)<m+1:=Sx _ ⋯;show(i*5+1+p / 32)%(m+1)<=m;lia
theorem yH(m)(h):∀n,(pr m h n).j+(pr m h n).more<=m
 |0=>by
  have:bits h%(m+1)<m+1:=Sx _ ⋯;have:=pD (m:=m) (i:=bits h%(m+1)) ⋯;show bits h%(m+1)+(runEnd m (bits h%(m+1))-bits h%(m+1))<=m;lia
 |n+1=>by
  have a:=yH m h n;show(fi m (pr m h n)).j+(fi m (pr m h n)).more<=m;unfold fi
  split
  .show(pr m h n).j+1+((pr m h n).more-1)<=m;lia
  .have:=xq m (pr m h n).i (pr m h n).perturb;have:=pD this;show(leap m (pr m h n).i (pr m h n).perturb).1+(runEnd m (leap m (pr m h n).i (pr m h n).perturb).1-(leap m (pr m h n).i (pr m h n).perturb).1)<=m;lia
def tE(m)(h)(n):ba m h n<=m:=by have:=yH m h n;unfold ba;lia
noncomputable def run(m:Nat)(h:Int):Nat->Nat×Nat
 |0=>(bits h%(m+1),bits h)
 |r+1=>leap m (run m h r).1 (run m h r).2
def tm(m)(h):∀r,(run m h r).1<=m
 |0=>by have:bits h%(m+1)<m+1:=Sx _ ⋯;show bits h%(m+1)<=m;lia
 |r+1=>xq _ _ _
noncomputable def st(m:Nat)(h:Int)(r d:Nat):Probe:={ j:=(run m h r).1+d,more:=runEnd m (run m h r).1-(run m h r).1-d,i:=(run m h r).1,perturb:=(run m h r).2,dummy:=Y }
noncomputable def len(m:Nat)(h:Int)(r:Nat):Nat:=runEnd m (run m h r).1-(run m h r).1
def GF(m)(h)(r):len m h r<=9:=by have:=pD (tm m h r);unfold len;lia
def uD(a:d<len m h r):fi m (st m h r d)=st m h r (d+1):=by
 unfold fi;have:(st m h r d).more>0:=by show runEnd m (run m h r).1-(run m h r).1-d>0;unfold len at a;lia
 rw[if_pos this];show Probe.mk _ _ _ _ _=Probe.mk _ _ _ _ _;congr 1
def A7:fi m (st m h r (len m h r))=st m h (r+1) 0:=by
 unfold fi;have:¬(st m h r (len m h r)).more>0:=by show ¬(runEnd m (run m h r).1-(run m h r).1-len m h r>0);unfold len;lia
 rw[if_neg this];rfl
theorem qT(m)(h):∀r:Nat,∃n,n<=10*r/\pr m h n=st m h r 0/\∀k,k<n->∃f d',f<r/\d'<=len m h f/\pr m h k=st m h f d'
 |0=>⟨0,Ot _,rfl,λk g=>absurd g (UA k)⟩
 |r+1=>by
  obtain⟨n,p,e,g⟩:=qT m h r;have walk:∀d,d<=len m h r->pr m h (n+d)=st m h r d:=by
   intro d
   induction d with
   |zero=>intro _;exact e
   |succ d i =>
    intro j;show fi m (pr m h (n+d))=_;rw[i ⋯];exact uD ⋯
  have o:=GF m h r;refine⟨n+len m h r+1,⋯,?_,λk l=>?_⟩
  .show fi m (pr m h (n+len m h r))=_;rw[walk _ (Ot _)];exact A7
  .by_cases c:k<n
   .obtain⟨f,d',a,b,c⟩:=g k c;exact⟨f,d',⋯,b,c⟩
   .refine⟨r,k-n,⋯,⋯,?_⟩;have:=walk (k-n) ⋯;rw[show n+(k-n)=k by lia]at this;exact this
def BE(m)(h)(r d)(g:d<=len m h r):∃n,n<=10*r+d/\pr m h n=st m h r d/\∀k,k<n->∃f d',d'<=len m h f/\(f<r\/(f=r/\d'<d))/\pr m h k=st m h f d':=by
 obtain⟨n,o,e,i⟩:=qT m h r;have walk:∀d,d<=len m h r->pr m h (n+d)=st m h r d:=by
  intro d
  induction d with
  |zero=>intro _;exact e
  |succ d j =>
   intro g;show fi m (pr m h (n+d))=_;rw[j ⋯];exact uD ⋯
 refine⟨n+d,⋯,walk d g,λk l=>?_⟩
 by_cases c:k<n
 .obtain⟨f,d',a,b,c⟩:=i k c;exact⟨f,d',b,.inl a,c⟩
 .refine⟨r,k-n,⋯,.inr ⟨rfl,⋯⟩,?_⟩;have:=walk (k-n) ⋯;rw[show n+(k-n)=k by lia]at this;exact this
def BQ(h):bits h<2 ^ 64:=by
 unfold bits;have a:=SF h (show(2 ^ 64:Int)≠0 by decide);have b:=RW h (show(0:Int)<2 ^ 64 by decide);have e:((2:Int) ^ 64)=18446744073709551616:=by decide
 rw[e]at a b ⊢;lia
theorem yA(m)(h):∀r,(run m h r).2=bits h / 32 ^ r
 |0=>by simp[run]
 |r+1=>by
  show(run m h r).2 / 32=_;rw[yA m h r,Nat.div_div_eq_div_mul,Ut]
def IJ(m)(h)(r)(a:13<=r):(run m h r).2=0:=by
 rw[yA];refine Nat.div_eq_of_lt (OD (BQ h) (O3 (show 2 ^ 64<=32 ^ 13 by decide) (OO ∅ a)))
noncomputable def fF(m:Nat):Nat->Nat->Nat
 |0,i=>i
 |n+1,i=>(fF m n i*5+1)%(m+1)
theorem zm(m)(h):∀n,(run m h (13+n)).1=fF m n (run m h 13).1
 |0=>rfl
 |n+1=>by
  show(leap m (run m h (13+n)).1 (run m h (13+n)).2).1=_;rw[zm m h n,IJ m h (13+n) ⋯];rfl
noncomputable def ph(m:Nat):Nat->Nat->List Nat
 |0,_=>[]
 |n+1,i=>i::ph m n ((i*5+1)%(m+1))
theorem yk(m):∀n i,fF m n ((i*5+1)%(m+1))=fF m (n+1) i
 |0,i=>rfl
 |n+1,i=>by
  show(fF m n ((i*5+1)%(m+1))*5+1)%(m+1)=(fF m (n+1) i*5+1)%(m+1);rw[yk m n i]
theorem pj(m):∀a b i,fF m (a+b) i=fF m b (fF m a i)
 |a,0,i=>rfl
 |a,b+1,i=>by
  show(fF m (a+b) i*5+1)%(m+1)=_;rw[pj m a b i];rfl
theorem xY(m):∀n i j,j∈ph m n i->∃k,k<n/\fF m k i=j
 |0,i,j,h=>by simp[ph]at h
 |n+1,i,j,h=>by
  rcases Oq.mp h with e|h
  .exact⟨0,⋯,e.symm⟩
  .obtain⟨k,a,e⟩:=xY m n _ j h;exact⟨k+1,⋯,by rw[<- yk];exact e⟩
def cR(m:Nat):Prop:=m=7\/m=15\/m=31\/m=63\/m=127\/m=255\/m=511
noncomputable def CN(m:Nat):Bool:=(Tp (m+1)).all λj=>(ph m (m+1) 0).contains j
def cR.eL(h:cR m):CN m=J/\fF m (m+1) 0=0:=by
 rcases h with rfl|rfl|rfl|rfl|rfl|rfl|rfl<;>exact⟨by decide +kernel,by decide +kernel⟩
def cR.y0(h:cR m)(a:j<=m):∃k,k<m+1/\fF m k 0=j:=by
 have:=OM.mp h.eL.1 j (Ts.mpr ⋯);exact xY m (m+1) 0 j (by simpa using this)
def cR.reach(h:cR m)(f:i<=m)(g:j<=m):∃k,k<m+1/\fF m k i=j:=by
 obtain⟨a,l,d⟩:=h.y0 f;obtain⟨b,n,e⟩:=h.y0 g
 by_cases c:a<=b
 .refine⟨b-a,⋯,?_⟩;rw[<- d,<- pj,show a+(b-a)=b by lia];exact e
 .refine⟨m+1-a+b,⋯,?_⟩;rw[<- d,<- pj,show a+(m+1-a+b)=(m+1)+b by lia,pj,h.eL.2];exact e
def cR.met(b:cR m)(h)(a:j<=m):∃r,r<m+14/\(run m h r).1=j:=by
 obtain⟨k,c,e⟩:=b.reach (tm m h 13) a;exact⟨13+k,⋯,by rw[zm];exact e⟩
def cR.Hm(c:cR m)(h)(b:j<=m):∃n,n<10*turns m/\ba m h n=j:=by
 obtain⟨r,f,e⟩:=c.met h b;obtain⟨n,d,a,_⟩:=qT m h r;refine⟨n,by unfold turns;lia,?_⟩;unfold ba;rw[a];show(run m h r).1+0=j;lia
def least{P:Nat->Prop}(n)(h:P n):∃k,k<=n/\P k/\∀q,q<k->¬P q:=by
 induction n using VW with
 |ind n g =>
  by_cases c:∃q,q<n/\P q
  .obtain⟨q,f,e⟩:=c;obtain⟨k,a,b,d⟩:=g q f e;exact⟨k,⋯,b,d⟩
  .exact⟨n,Ot _,h,λq f e=>c ⟨q,f,e⟩⟩
theorem vr:∀(k:Nat)(l:List Nat),(∀j,j<k->j∈l)->k<=l.length
 |0,_,_=>OQ _
 |k+1,l,h=>by
  have a:=h k (PW k);have b:=vr k (l.erase k) λj c=>(Wa ⋯).mpr (h j ⋯)
  rw[Q5 a]at b;have:=VP a;lia
def hole(d:t.place.size+t.dummies.size<=t.mask):∃j,j<=t.mask/\¬d9 t j:=by
 by_cases c:∃j,j<=t.mask/\¬d9 t j
 .exact c
 .exfalso;have a:=vr (t.mask+1) (t.place.toList++t.dummies.toList) λj b=>by
   have o:d9 t j:=OY λn=>c ⟨j,⋯,n⟩
   rcases o with⟨i,e⟩|⟨i,e⟩
   .exact Tg _ (Pn (by rw[OU];exact e))
   .exact Ow _ (Pn (by rw[OU];exact e))
  rw[Oo,Tt,Tt]at a;lia
def wt(f:cR t.mask)(i:t.place.size+t.dummies.size<=t.mask)(h):
  ∃N,N<10*turns t.mask/\¬d9 t (ba t.mask h N)/\∀k,k<N->d9 t (ba t.mask h k):=by
 obtain⟨j,c,g⟩:=hole i;obtain⟨n,m,e⟩:=f.Hm h c;obtain⟨N,l,a,b⟩:=least (P:=λn=>¬d9 t (ba t.mask h n)) n (by rw[e];exact g);exact⟨N,⋯,a,λk d=>OY (b k d)⟩
noncomputable def fv(p:Probe)(d:Option Nat):Probe:={ p with dummy:=d }
def qH(m)(p)(d):fi m (fv p d)=fv (fi m p) d:=by
 unfold fi fv
 by_cases c:p.more>0
 .rw[if_pos c];simp only[c,Pb]
 .rw[if_neg c];simp only[c,OH]
def jn(t:UG)(h:Int)(N:Nat)(d:Option Nat):Prop:=∀j,d=Z j->∃k,k<N/\j=ba t.mask h k/\∃i:Nat,t.dummies[i]?=Z j
theorem yI (s : fe t.place) (z : fe t.dummies) (y : ∀ i l j : Nat, t.place[i]? = Z j -> t.dummies[l]? = Z j -> False) (A : ¬ d9 t (ba t.mask h N)) (B : ∀ k, k < N -> d9 t (ba t.mask h k)) :
    ∀ (fuel n : Nat) (d : Option Nat), n <= N -> N - n < fuel -> jn t h N d ->
      (∃ k i d', n <= k /\ k < N /\ t.place[i]? = Z (ba t.mask h k) /\ hashAt i = h /\ (∀ m, n <= m -> m < k -> ∀ l : Nat, t.place[l]? = Z (ba t.mask h m) -> hashAt l ≠ h) /\ jn t h N d' /\ probe.go t hashAt h fuel (fv (pr t.mask h n) d) = Z (.candidate (ba t.mask h k) i (fv (pr t.mask h (k + 1)) d')))
      \/ ((∀ m, n <= m -> m < N -> ∀ l : Nat, t.place[l]? = Z (ba t.mask h m) -> hashAt l ≠ h) /\ ∃ d', jn t h N d' /\ probe.go t hashAt h fuel (fv (pr t.mask h n) d) = Z (.empty (ba t.mask h N) d'))
  | 0, n, d, G, H, _ => by lia
  | fuel + 1, n, d, G, H, x => by
    unfold probe.go
    by_cases c : n = N
    · subst c
      have e : t.slot (fv (pr t.mask h n) d).j = .empty := K9 A
      rw [e]
      exact .inr ⟨fun m a b => by lia, d, x, rfl⟩
    · have next : ∀ p, jn t h N p -> (∀ l : Nat, t.place[l]? = Z (ba t.mask h n) -> hashAt l ≠ h) -> ∀ R, R = probe.go t hashAt h fuel (fv (pr t.mask h (n + 1)) p) ->
          (∃ k i d', n <= k /\ k < N /\ t.place[i]? = Z (ba t.mask h k) /\ hashAt i = h /\ (∀ m, n <= m -> m < k -> ∀ l : Nat, t.place[l]? = Z (ba t.mask h m) -> hashAt l ≠ h) /\ jn t h N d' /\ R = Z (.candidate (ba t.mask h k) i (fv (pr t.mask h (k + 1)) d')))
          \/ ((∀ m, n <= m -> m < N -> ∀ l : Nat, t.place[l]? = Z (ba t.mask h m) -> hashAt l ≠ h) /\ ∃ d', jn t h N d' /\ R = Z (.empty (ba t.mask h N) d')) := fun p I C R hR => by
        rcases yI s z y A B fuel (n + 1) p ⋯ ⋯ I with ⟨k, K, d', a, b, e0, e1, f, v, g⟩ | ⟨f, d', v, g⟩
        · refine .inl ⟨k, K, d', by lia, b, e0, e1, fun m p1 p2 l p3 => ?_, v, hR.trans g⟩
          by_cases u : m = n
          · subst u; exact C l p3
          · exact f m ⋯ p2 l p3
        · refine .inr ⟨fun m p1 p2 l p3 => ?_, d', v, hR.trans g⟩
          by_cases u : m = n
          · subst u; exact C l p3
          · exact f m ⋯ p2 l p3
      rcases B n ⋯ with ⟨i, o⟩ | ⟨i, o⟩
      · have e : t.slot (fv (pr t.mask h n) d).j = .live i := j1 s o
        rw [e]
        by_cases q : hashAt i = h
        · refine .inl ⟨n, i, d, Ot _, by lia, o, q, fun m a b => by lia, x, ?_⟩
          simp only [q, Sn, Pb]
          rw [qG, qH]; rfl
        · have L : (hashAt i == h) = false := by rw [beq_eq_false_iff_ne]; exact q
          simp only [L, Om, OH]
          refine next d x (fun l w => ?_) _ (by rw [qG, qH]; rfl)
          have r := j1 s w
          rw [j1 s o] at r
          injection r with r
          rw [<- r]; exact q
      · have D : ∀ i : Nat, t.place[i]? ≠ Z (ba t.mask h n) := fun l e => y l i _ e o
        have e : t.slot (fv (pr t.mask h n) d).j = .dummy := zO z D o
        rw [e]
        refine next (Z (ba t.mask h n)) (fun j E => ?_) (fun l w => absurd w (D l)) _ ?_
        · cases E; exact ⟨n, by lia, rfl, i, o⟩
        · show probe.go t hashAt h fuel (t.advance (fv (pr t.mask h n) (Z (ba t.mask h n)))) = _
          rw [qG, qH]; rfl
def hZ{α:Type}(xs)(p)(x:α)(f:p<=xs.size)(i):
  (insertAt xs p x)[i]?=if i<p then xs[i]? else if i=p then Z x else xs[i-1]?:=by
 unfold insertAt;rw[VZ,Array.getElem?_push,QB,QB,Xl,Qe];have e:min p xs.size-0=p:=by lia
 rw[e,P6]
 by_cases a:i<p
 .simp only[if_pos (show i<p+1 by lia),if_neg (show ¬i=p by lia),if_pos a]
 .by_cases b:i=p
  .simp only[if_pos (show i<p+1 by lia),if_neg a,if_pos b]
  .simp only[if_neg (show ¬i<p+1 by lia),if_neg a,if_neg b,Nat.min_self];have d:min p xs.size=p:=by lia
   by_cases c:i-(p+1)<xs.size-p
   .rw[if_pos c];congr 1;lia
   .rw[if_neg c];rw[P7 ⋯]
def kU{α:Type}(xs)(p)(x:α)(a:p<=xs.size):(insertAt xs p x).size=xs.size+1:=by
 unfold insertAt;rw[Rf,Xl,Qe,Qe];lia
def Fm{α:Type}(xs)(p)(x:α)(a:p<=xs.size):(insertAt xs p x).toList.Perm (x::xs.toList):=by
 have e:(insertAt xs p x).toList=xs.toList.take p++x::xs.toList.drop p:=by
  unfold insertAt;simp[Vl];rw[PB (by simp)]
 rw[e];refine(So).trans (Wb x ?_);rw[QI]
def kA{α:Type}(xs:Array α)(p)(c:p<xs.size)(i):(eraseAt xs p)[i]?=if i<p then xs[i]? else xs[i+1]?:=by
 unfold eraseAt;rw[VZ,QB,QB,Qe];have e:min p xs.size-0=p:=by lia
 rw[e,P6]
 by_cases a:i<p
 .simp only[if_pos a]
 .simp only[if_neg a,Nat.min_self]
  by_cases b:i-p<xs.size-(p+1)
  .rw[if_pos b];congr 1;lia
  .rw[if_neg b];rw[P7 ⋯]
def mA{α:Type}(xs:Array α)(p)(a:p<xs.size):(eraseAt xs p).size+1=xs.size:=by
 unfold eraseAt;rw[Rf,Qe,Qe];lia
def DA{α:Type}(xs:Array α)(p)(a:p<xs.size):(xs[p]::(eraseAt xs p).toList).Perm xs.toList:=by
 have e:(eraseAt xs p).toList=xs.toList.take p++xs.toList.drop (p+1):=by
  unfold eraseAt;simp[Vl];rw[PB (by simp)]
 rw[e];refine(So).symm.trans (Xm ?_);have:xs[p]=xs.toList[p]'(by simpa using a):=rfl;rw[this,<- PC,QI]
def w6(h:fe xs)(r:∀i:Nat,xs[i]?≠Z j):fe (insertAt xs (below xs j) j):=by
 obtain⟨b1,b2,l⟩:=mf h j;generalize below xs j=p at b1 b2 l;have pg:=hZ xs p j b1;have n:∀(q a:Nat),p<=q->xs[q]?=Z a->j<a:=λq a s c=>by
  have:=l q a s c;have:j≠a:=λe=>r q (by rw[e];exact c)
  lia
 intro i f a b o c d;rw[pg]at c d
 by_cases k:i<p
 .rw[if_pos k]at c
  by_cases m:f<p
  .rw[if_pos m]at d;exact h i f a b o c d
  .rw[if_neg m]at d
   by_cases g:f=p
   .rw[if_pos g]at d;injection d with d;subst d;exact b2 i a k c
   .rw[if_neg g]at d;exact h i (f-1) a b ⋯ c d
 .rw[if_neg k]at c;rw[if_neg (show ¬f<p by lia),if_neg (show ¬f=p by lia)]at d
  by_cases g:i=p
  .rw[if_pos g]at c;injection c with c;subst c;exact n (f-1) b ⋯ d
  .rw[if_neg g]at c;exact h (i-1) (f-1) a b ⋯ c d
def w4{α:Type}{xs:Array α}{x:α}(a:p<=xs.size){v:α}{i:Nat}(h:xs[i]?=Z v):∃b:Nat,(insertAt xs p x)[b]?=Z v:=by
 by_cases c:i<p
 .exact⟨i,by rw[hZ _ _ _ a,if_pos c];exact h⟩
 .exact⟨i+1,by rw[hZ _ _ _ a,if_neg (show ¬i+1<p by lia),if_neg (show ¬i+1=p by lia)];exact h⟩
def w5{α:Type}{xs:Array α}{x:α}(a:p<=xs.size):(insertAt xs p x)[p]?=Z x:=by
 rw[hZ _ _ _ a,if_neg (Pq p),if_pos rfl]
def oP{α:Type}{xs:Array α}{x:α}(a:p<=xs.size){v:α}{i:Nat}(h:(insertAt xs p x)[i]?=Z v):v=x\/∃b:Nat,xs[b]?=Z v:=by
 rw[hZ _ _ _ a]at h
 split at h
 .exact .inr ⟨_,h⟩
 .split at h
  .injection h with h;exact .inl h.symm
  .exact .inr ⟨_,h⟩
def v3(f:fe xs)(k:p<xs.size):fe (eraseAt xs p):=by
 intro i e a b j d c;rw[kA _ _ k]at d c
 by_cases g:i<p
 .rw[if_pos g]at d
  by_cases h:e<p
  .rw[if_pos h]at c;exact f i e a b j d c
  .rw[if_neg h]at c;exact f i (e+1) a b ⋯ d c
 .rw[if_neg g]at d;rw[if_neg (show ¬e<p by lia)]at c;exact f (i+1) (e+1) a b ⋯ d c
def rZ{α:Type}{xs:Array α}(b:p<xs.size){v:α}{i:Nat}(h:(eraseAt xs p)[i]?=Z v):∃a:Nat,a≠p/\xs[a]?=Z v:=by
 rw[kA _ _ b]at h
 split at h
 .exact⟨i,⋯,h⟩
 .exact⟨i+1,⋯,h⟩
def vZ{α:Type}{xs:Array α}(a:p<xs.size){v:α}(d:i≠p)(h:xs[i]?=Z v):∃b:Nat,(eraseAt xs p)[b]?=Z v:=by
 by_cases c:i<p
 .exact⟨i,by rw[kA _ _ a,if_pos c];exact h⟩
 .exact⟨i-1,by rw[kA _ _ a,if_neg (show ¬i-1<p by lia),show i-1+1=i by lia];exact h⟩
structure Tab{α:Type}(az:Array (Int×α))(t:UG):Prop where
 gY:fe t.place
 gX:fe t.dummies
 le:∀i j:Nat,t.place[i]?=Z j->j<=t.mask
 rV:∀i j:Nat,t.dummies[i]?=Z j->j<=t.mask
 jD:∀i oF j:Nat,t.place[i]?=Z j->t.dummies[oF]?=Z j->False
 d5:t.place.size=az.size
 bh:cR t.mask
 full:t.place.size+t.dummies.size<=t.mask
 path:∀(i j:Nat)(e:Int×α),t.place[i]?=Z j->az[i]?=Z e->∃n,ba t.mask e.1 n=j/\∀k,k<n->d9 t (ba t.mask e.1 k)
section
variable{α:Type}{az:Array (Int×α)}{t:UG}
def Tab.flags(T:Tab az t)(a:t'.mask=t.mask)(b:t'.place=t.place)(c:t'.dummies=t.dummies):Tab az t':=by
 obtain⟨m,p,d,f,l,v,q⟩:=t;obtain⟨h,i,d',e,g,k,j⟩:=t';cases a;cases b;cases c;exact⟨T.gY,T.gX,T.le,T.rV,T.jD,T.d5,T.bh,T.full,T.path⟩
theorem Tab.fill(T:Tab az t):t.fill=az.size+t.dummies.size:=by unfold XK;rw[T.d5]
def Tab.inj(T:Tab az t){i oF j:Nat}(h:t.place[i]?=Z j)(h':t.place[oF]?=Z j):i=oF:=by
 have e:=j1 T.gY h;rw[j1 T.gY h']at e;injection e with e;exact e.symm
def Tab.met(T:Tab az t)(b:¬d9 t (ba t.mask h N)){i:Nat}(d:az[i]?=Z e)(l:e.1=h):∃k,k<N/\t.place[i]?=Z (ba t.mask h k):=by
 have g:=(OP.mp d).1;rw[<- T.d5]at g;have a:t.place[i]?=Z t.place[i]:=Oy g;obtain⟨n,f,m⟩:=T.path i _ e a d;subst l;refine⟨n,?_,by rw[f];exact a⟩
 by_cases c:n<N
 .exact c
 .exfalso
  by_cases j:n=N
  .subst j;exact b (.inl ⟨i,by rw[f];exact a⟩)
  .exact b (m N ⋯)
theorem Tab.put(T:Tab az t)(C:∀i:Nat,t.place[i]?≠Z (ba t.mask h N))(V:∀k,k<N->d9 t (ba t.mask h k))(E:(∃i:Nat,t.dummies[i]?=Z (ba t.mask h N))\/t.place.size+t.dummies.size+1<=t.mask):
  Tab (insertAt az (t.put (ba t.mask h N)).2 (h,x)) (t.put (ba t.mask h N)).1/\(t.put (ba t.mask h N)).2<=az.size/\(t.put (ba t.mask h N)).1.mask=t.mask/\(t.put (ba t.mask h N)).1.plain=t.plain/\(t.put (ba t.mask h N)).1.led=t.led
   /\ (t.put (ba t.mask h N)).1.dummies.size<=t.dummies.size/\((∃i:Nat,t.dummies[i]?=Z (ba t.mask h N))->(t.put (ba t.mask h N)).1.dummies.size+1=t.dummies.size):=by
 obtain⟨b1,b2,y⟩:=mf T.gY (ba t.mask h N);have G:=tE t.mask h N;generalize U:ba t.mask h N=j at C b1 b2 y E G ⊢;obtain⟨D,S,K,u,L,M,w⟩:∃D,(if has t.dummies j then eraseAt t.dummies (below t.dummies j) else t.dummies)=D/\fe D/\(∀i v:Nat,D[i]?=Z v->v≠j/\∃l:Nat,t.dummies[l]?=Z v)/\(∀i v:Nat,t.dummies[i]?=Z v->v≠j->∃l:Nat,D[l]?=Z v)/\D.size<=t.dummies.size/\((∃i:Nat,t.dummies[i]?=Z j)->D.size+1=t.dummies.size):=by
  by_cases c:∃i:Nat,t.dummies[i]?=Z j
  .obtain⟨i,g⟩:=c;have m:=(OP.mp g).1;refine⟨eraseAt t.dummies i,by rw[wQ T.gX g,below_at T.gX g];rfl,v3 T.gX m,λk v d=>?_,λk v d a0=>?_,by have:=mA t.dummies i m;lia,λ_=>mA t.dummies i m⟩
   .obtain⟨l,Q,o⟩:=rZ m d;refine⟨λe=>Q ?_,l,o⟩;subst e;exact(below_at T.gX o).symm.trans (below_at T.gX g)
   .exact vZ m (λe=>a0 (by subst e;rw[g]at d;injection d with d;exact d.symm)) d
  .exact⟨t.dummies,by rw[wR λi e=>c ⟨i,e⟩];rfl,T.gX,λi v d=>⟨λe=>c ⟨i,e▸d⟩,i,d⟩,λi v d _=>⟨i,d⟩,Ot _,λz=>absurd z c⟩
 have e1:t.put j=({ t with place:=insertAt t.place (below t.place j) j,dummies:=D },below t.place j):=by
  unfold SetTable.put;rw[<- S]
 rw[e1];have rs:=w6 T.gY C;generalize below t.place j=p at b1 b2 y rs;have r:p<=az.size:=by rw[<- T.d5];exact b1
 have pg:=hZ t.place p j b1;have O:=hZ az p (h,x) r;have H:∀v,d9 t v->d9 { t with place:=insertAt t.place p j,dummies:=D } v:=λv d=>by
  rcases d with⟨i,g⟩|⟨i,g⟩
  .exact .inl (w4 b1 g)
  .by_cases c:v=j
   .subst c;exact .inl ⟨p,w5 b1⟩
   .exact .inr (L i v g c)
 refine⟨⟨rs,K,?_,?_,?_,?_,T.bh,?_,?_⟩,r,rfl,rfl,rfl,M,w⟩
 .intro i v d;rcases oP b1 d with rfl|⟨l,h'⟩
  .exact G
  .exact T.le _ _ h'
 .intro i v d;obtain⟨_,l,h'⟩:=u i v d;exact T.rV _ _ h'
 .intro i l v d a2;obtain⟨aj,ar,o⟩:=u l v a2;rcases oP b1 d with rfl|⟨ao,R⟩
  .exact aj rfl
  .exact T.jD _ _ _ R o
 .show(insertAt t.place p j).size=(insertAt az p (h,x)).size;rw[kU _ _ _ b1,kU _ _ _ r,T.d5]
 .show(insertAt t.place p j).size+D.size<=t.mask;rw[kU _ _ _ b1];have:=T.full;rcases E with z|z
  .have:=w z;lia
  .omega
 .intro i v e d f;dsimp only at d ⊢;rw[pg]at d;rw[O]at f;have I:∀q:Nat,t.place[q]?=Z v->az[q]?=Z e->∃n,ba t.mask e.1 n=v/\∀k,k<n->d9 { t with place:=insertAt t.place p j,dummies:=D } (ba t.mask e.1 k):=λq a b=>by
   obtain⟨n,X,a1⟩:=T.path q v e a b;exact⟨n,X,λk s=>H _ (a1 k s)⟩
  by_cases A:i<p
  .rw[if_pos A]at d f;exact I i d f
  .rw[if_neg A]at d f
   by_cases B:i=p
   .rw[if_pos B]at d f;injection d with d;injection f with f;subst f;exact⟨N,by rw[U];exact d,λk s=>H _ (V k s)⟩
   .rw[if_neg B]at d f;exact I _ d f
theorem Tab.drop(T:Tab az t)(o:i<az.size):Tab (eraseAt az i) (t.drop i)/\(t.drop i).mask=t.mask/\(t.drop i).plain=t.plain/\(t.drop i).led=t.led/\(t.drop i).dummies.size=t.dummies.size+1:=by
 have g:i<t.place.size:=by rw[T.d5];exact o
 have h:t.place[i]?=Z t.place[i]:=Oy g;generalize t.place[i]=j at h;have q:∀k:Nat,t.dummies[k]?≠Z j:=λk e=>T.jD _ _ _ h e
 have b1:=(mf T.gX j).1;have rs:=w6 T.gX q;have e1:t.drop i={ t with place:=eraseAt t.place i,dummies:=insertAt t.dummies (below t.dummies j) j }:=by unfold SetTable.drop;rw[h]
 rw[e1];generalize below t.dummies j=p at b1 rs;have A:∀v,d9 t v->d9 { t with place:=eraseAt t.place i,dummies:=insertAt t.dummies p j } v:=λv d=>by
  rcases d with⟨k,f⟩|⟨k,f⟩
  .by_cases c:k=i
   .subst c;rw[h]at f;injection f with f;subst f;exact .inr ⟨p,w5 b1⟩
   .exact .inl (vZ g c f)
  .exact .inr (w4 b1 f)
 have hz:=mA t.place i g;have B:=mA az i o;refine⟨⟨v3 T.gY g,rs,λk v d=>?_,λk v d=>?_,λk s v d y=>?_,?_,T.bh,?_,?_⟩,rfl,rfl,rfl,kU _ _ _ b1⟩
 .obtain⟨s,_,h'⟩:=rZ g d;exact T.le _ _ h'
 .rcases oP b1 d with rfl|⟨s,h'⟩
  .exact T.le _ _ h
  .exact T.rV _ _ h'
 .obtain⟨k2,z,r⟩:=rZ g d;rcases oP b1 y with rfl|⟨k3,w⟩
  .exact z (T.inj r h)
  .exact T.jD _ _ _ r w
 .have:=T.d5;show(eraseAt t.place i).size=(eraseAt az i).size;lia
 .have:=T.full;show(eraseAt t.place i).size+(insertAt t.dummies p j).size<=t.mask;rw[kU _ _ _ b1];lia
 .intro k v e d l;dsimp only at d ⊢;rw[kA _ _ g]at d;rw[kA _ _ o]at l;have u:∀m:Nat,t.place[m]?=Z v->az[m]?=Z e->∃n,ba t.mask e.1 n=v/\∀k,k<n->d9 { t with place:=eraseAt t.place i,dummies:=insertAt t.dummies p j } (ba t.mask e.1 k):=λm a b=>by
   obtain⟨n,q,x⟩:=T.path m v e a b;exact⟨n,q,λk f=>A _ (x k f)⟩
  by_cases c:k<i
  .rw[if_pos c]at d l;exact u _ d l
  .rw[if_neg c]at d l;exact u _ d l
end
theorem sP:∀(k:Nat)(l:List Nat),l.Nodup->(∀x∈l,x<k)->l.length<=k
 |0,l,_,h=>by
  cases l with
  |nil=>simp
  |cons a r=>exact absurd (h a S7) (UA a)
 |k+1,l,d,h=>by
  by_cases c:k∈l
  .have f:=sP k (l.erase k) (d.erase k) λx b=>by
    have:=(d.mem_erase_iff).mp b;have:=h x this.2;lia
   rw[Q5 c]at f;lia
  .have:=sP k l d λx b=>by
    have:=h x b;have:x≠k:=λe=>c (e▸b)
    lia
   lia
def iw(a:Array (Option Nat))(j:Nat):Prop:=∃q,a[j]?=Z (Z q)
theorem wD(hz:g.size=m+1):∀(fuel r:Nat),(∃l,r<=l/\l<r+fuel/\g[(run m h l).1]?=Z Y) ->
  (∀f d,d<=len m h f->f<r->iw g ((run m h f).1+d)) ->
  ∃n p,p<=len m h n/\layClean.free m g fuel (run m h r).1 (run m h r).2=Z ((run m h n).1+p)/\g[(run m h n).1+p]?=Z Y/\∀f d,d<=len m h f->(f<n\/(f=n/\d<p))->iw g ((run m h f).1+d)
 |0,r,⟨l,a,b,_⟩,_=>by lia
 |fuel+1,r,⟨l,a,b,c⟩,v=>by
  unfold layClean.free;have C:=pD (tm m h r);have get:∀d,d<=len m h r->∃o,g[(run m h r).1+d]?=Z o/\g.getD ((run m h r).1+d) (Z 0)=o:=λd i=>by
   unfold len at i;have j:(run m h r).1+d<g.size:=(by rw[hz];lia);exact⟨g[(run m h r).1+d],Oy j,by simp[Vi,j]⟩
  cases w:(Tp (runEnd m (run m h r).1+1-(run m h r).1)).find? λk=>(g.getD ((run m h r).1+k) (Z 0)).isNone with
  |some k =>
   obtain⟨u,z,A⟩:=List.find?_range_eq_some.mp w;have x:k<=len m h r:=(by have:=Ts.mp z;unfold len;lia);refine⟨r,k,x,rfl,?_,λf d i j=>?_⟩
   .obtain⟨o,e1,s⟩:=get k x;rw[s]at u;rw[e1];cases o with
    |none=>rfl
    |some _=>simp at u
   .rcases j with j|⟨rfl,j⟩
    .exact v f d i j
    .obtain⟨o,e1,s⟩:=get d i;have:=A d j;rw[s]at this;cases o with
     |none=>simp at this
     |some q=>exact⟨q,e1⟩
  |none =>
   have B:=List.find?_range_eq_none.mp w;have t:∀d,d<=len m h r->iw g ((run m h r).1+d):=λd i=>by
    obtain⟨o,e1,s⟩:=get d i;have:=B d (by unfold len at i;lia);rw[s]at this;cases o with
    |none=>simp at this
    |some q=>exact⟨q,e1⟩
   have D:l≠r:=λe=>by
    subst e;obtain⟨q,y⟩:=t 0 (OQ _);rw[Nat.add_zero,c]at y;cases y
   show ∃n p,_/\layClean.free m g fuel (run m h (r+1)).1 (run m h (r+1)).2=_/\_;refine wD hz fuel (r+1) ⟨l,⋯,⋯,c⟩ λf d i j=>?_
   by_cases e:f=r
   .subst e;exact t d i
   .exact v f d i ⋯
structure Own(m:Nat)(wX:List Int)(eS:Array (Option Nat)):Prop where
 size:eS.size=m+1
 lt:∀j q:Nat,eS[j]?=Z (Z q)->q<wX.length
 inj:∀j xf q:Nat,eS[j]?=Z (Z q)->eS[xf]?=Z (Z q)->j=xf
 all:∀(q:Nat)(h:Int),wX[q]?=Z h->∃n,eS[ba m h n]?=Z (Z q)/\∀k,k<n->iw eS (ba m h k)
def Own.hole(O:Own m i d)(y:i.length<=m):∃j,j<=m/\d[j]?=Z none:=by
 by_cases c:∃j,j<=m/\d[j]?=Z Y
 .exact c
 .exfalso;have o:∀j,j<=m->iw d j:=λj f=>by
   have h:d[j]?=Z (d[j]'(by rw[O.size];lia)):=Oy (by rw[O.size];lia);cases e:d[j]'(by rw[O.size];lia) with
   |none=>exact absurd ⟨j,f,by rw[h,e]⟩ c
   |some q=>exact⟨q,by rw[h,e]⟩
  have r:=sP i.length ((Tp (m+1)).map λj=>(d.getD j Y).getD 0) ?_ ?_
  .simp at r;lia
  .have l:∀j,j<=m->d[j]?=Z (Z ((d.getD j Y).getD 0)):=λj f=>by
    obtain⟨q,g⟩:=o j f;have:d.getD j Y=Z q:=(by rw[Py,g];rfl);rw[this];exact g
   rw[List.Nodup,PD];refine PE ?_ (W5 (n:=m+1));intro a b s u t e;have w:=l a (by have:=Ts.mp s;lia);have k:=l b (by have:=Ts.mp u;lia);rw[<- e]at k;exact t (O.inj a b _ w k)
  .intro x v;obtain⟨j,f,e⟩:=Tf.mp v;obtain⟨q,g⟩:=o j (by have:=Ts.mp f;lia);have:d.getD j Y=Z q:=(by rw[Py,g];rfl);rw[this]at e;have p:q=x:=e;rw[<- p];exact O.lt j q g
def Own.step(E:cR m)(O:Own m g l)(C:g.length<=m)(h):
  ∃j,layClean.free m l (turns m) (bits h%(m+1)) (bits h)=Z j/\Own m (g++[h]) (l.setIfInBounds j (Z g.length)):=by
 obtain⟨R,A,e0⟩:=O.hole C;obtain⟨M,Q,x⟩:=E.met h A;obtain⟨v,c0,z,p,r,H⟩:=wD (h:=h) O.size (turns m) 0 ⟨M,OQ _,by unfold turns;lia,by rw[x];exact e0⟩ (λu d _ D=>absurd D (UA _));obtain⟨n,_,G,B⟩:=BE m h v c0 z;have y:ba m h n=(run m h v).1+c0:=by unfold ba;rw[G];rfl
 rw[<- y]at p r;have K:∀k,k<n->iw l (ba m h k):=λk i=>by
  obtain⟨u,d',a,b,c⟩:=B k i;unfold ba;rw[c];exact H u d' a b
 refine⟨ba m h n,p,?_,?_,?_,?_⟩
 .rw[Array.size_setIfInBounds];exact O.size
 .intro j q f;rw[Pp]at f;rw[Oo,TB]
  split at f
  .split at f
   .injection f with f;injection f with f;lia
   .cases f
  .have:=O.lt j q f;lia
 .intro j s q a b;rw[Pp]at a b
  split at a
  .rename_i e1
   split at b
   .rename_i w;rw[<- e1,<- w]
   .split at a
    .injection a with a;injection a with a;have:=O.lt s q b;lia
    .cases a
  .split at b
   .split at b
    .injection b with b;injection b with b;have:=O.lt j q a;lia
    .cases b
   .exact O.inj j s q a b
 .intro q h' f;have t:∀j,iw l j->iw (l.setIfInBounds (ba m h n) (Z g.length)) j:=λj N=>by
   obtain⟨L,o⟩:=N
   by_cases c:ba m h n=j
   .refine⟨g.length,?_⟩;rw[Pp,if_pos c,if_pos (by rw[O.size];have:=tE m h n;lia)]
   .exact⟨L,by rw[Pp,if_neg c];exact o⟩
  by_cases c:q<g.length
  .rw[OF c]at f;obtain⟨I,a,b⟩:=O.all q h' f;refine⟨I,?_,λk i=>t _ (b k i)⟩;rw[Pp,if_neg]
   .exact a
   .intro e;rw[<- e,r]at a;cases a
  .have o:=(OK.mp f).1;rw[Oo,TB]at o;have e:q=g.length:=⋯;subst e;rw[O7 (Ot _),Nat.sub_self]at f;simp at f;subst f;refine⟨n,?_,λk i=>t _ (K k i)⟩;rw[Pp,if_pos rfl,if_pos (by rw[O.size];have:=tE m h n;lia)]
def Ii(m):Own m [] (UI (m+1) Y):=by
 have b:∀j q:Nat,(UI (m+1) (Y:Option Nat))[j]?≠Z (Z q):=λj q a=>by
  rw[Array.getElem?_replicate]at a
  split at a<;>cases a
 exact⟨by simp,λj q a=>absurd a (b j q),λj c q a=>absurd a (b j q),λq h a=>by simp at a⟩
def GD (n : cR m) (b) (i : b.size <= m) : ∃ eS, layClean m b = Z eS /\ Own m b.toList eS := by
  unfold layClean
  rw [<- Array.foldl_toList]
  have p : ∀ (a done : List Int) (eS : Array (Option Nat)), Own m done eS -> (done ++ a).length <= m ->
      ∃ pk, a.foldl (fun (f : Option (Array (Option Nat) × Nat)) h => do
        let (owner, k) <- f
        let j <- layClean.free m owner (turns m) (bits h % (m + 1)) (bits h)
        pure (owner.setIfInBounds j (Z k), k + 1)) (Z (eS, done.length)) = Z (pk, (done ++ a).length) /\ Own m (done ++ a) pk := by
    intro a
    induction a with
    | nil => intro done eS O _; exact ⟨eS, by simp, by simpa using O⟩
    | cons h r o =>
      intro done eS O l
      rw [Oo, To] at l
      obtain ⟨j, g, c⟩ := O.step n ⋯ h
      have := o (done ++ [h]) _ c (by simp; lia)
      rw [Pk] at this
      simp only [List.singleton_append, Oo, To, TG, P6] at this
      obtain ⟨pk, e, d⟩ := this
      refine ⟨pk, ?_, d⟩
      rw [Ua]
      simp only [U9, Vy, g, Xn] at e ⊢
      rw [e]
      simp only [Oo, To]
  obtain ⟨eS, e, O⟩ := p b.toList [] (UI (m + 1) Y) (Ii m) (by simpa using i)
  refine ⟨eS, ?_, by simpa using O⟩
  simp only [TG] at e
  rw [e]; rfl
theorem r3{α β:Type}(f:α->Option β):∀(l:List α),(∀x∈l,(f x).isSome=J)->∀i:Nat,(l.filterMap f)[i]?=l[i]?.bind f
 |[],_,i=>by simp
 |x::r,h,i=>by
  have a:=h x S7;cases e:f x with
  |none=>rw[e]at a;cases a
  |some y =>
   rw[Um,e];cases i with
   |zero=>simp[e]
   |succ i =>
    simp only[Vz];exact r3 f r (λz hz=>h z (S4 _ hz)) i
theorem wz{α β:Type}(f:α->Option β):∀(l:List α),(∀x∈l,(f x).isSome=J)->(l.filterMap f).length=l.length
 |[],_=>rfl
 |x::r,h=>by
  have a:=h x S7;cases e:f x with
  |none=>rw[e]at a;cases a
  |some y=>rw[Um,e,To,To,wz f r λz hz=>h z (S4 _ hz)]
def xo{α:Type}(Q:cR m)(d:Array (Int×α))(N:d.size<=m)(f S)(led M):
  ∃t' y,laid m f S led M (d.map (·.1))=Z (t',y)/\t'.mask=m/\t'.led=led/\t'.plain=M/\(y.filterMap (d[·]?)).size=d.size/\Tab (y.filterMap (d[·]?)) t'/\(y.filterMap (d[·]?)).toList.Perm d.toList/\y.toList.Perm (Tp d.size):=by
 obtain⟨w,e,O⟩:=GD Q (d.map (·.1)) (by simpa using N);have aA:(d.map (·.1)).toList.length=d.size:=by simp
 generalize E:(Tp (m+1)).filterMap (λj=>(w.getD j Y).map (j,·))=L;have v:∀j q,(j,q)∈L<->w[j]?=Z (Z q):=λj q=>by
  rw[<- E,RR];constructor
  .rintro⟨R,a5,eO⟩;cases h0:w.getD R Y with
   |none=>rw[h0]at eO;cases eO
   |some U =>
    rw[h0]at eO;injection eO with eO;injection eO with e1 A;subst e1;subst A;rw[Py]at h0;cases s:w[R]? with
    |none=>rw[s]at h0;cases h0
    |some o=>rw[s]at h0;exact Pw Z h0
  .intro h;refine⟨j,Ts.mpr ?_,?_⟩
   .have:=(OP.mp h).1;rw[O.size]at this;exact this
   .rw[Py,h];rfl
 have V:L.Pairwise (λa b=>a.1<b.1):=by
  rw[<- E];refine List.Pairwise.filterMap _ ?_ (Rg (n:=m+1));intro a a0 aB b g bb z;cases h0:w.getD a Y with
  |none=>rw[h0]at g;cases g
  |some q =>
   cases s:w.getD a0 Y with
   |none=>rw[s]at z;cases z
   |some U =>
    rw[h0]at g;rw[s]at z;cases g;cases z;exact aB
 have lt:∀p∈L,p.2<d.size:=λp u=>by
  have:=O.lt p.1 p.2 ((v p.1 p.2).mp u);rw[aA]at this;exact this
 have b1:(L.map (·.2)).Nodup:=by
  rw[List.Nodup,PD];refine PE ?_ V;intro a b t g a7 eO;have:=O.inj a.1 b.1 a.2 ((v _ _).mp t) (by rw[eO];exact(v _ _).mp g);lia
 have K:(L.map (·.2)).Perm (Tp d.size):=by
  refine(RX b1 W5).mpr λq=>?_
  rw[Ts,Tf];constructor
  .rintro⟨p,u,rfl⟩;exact lt p u
  .intro x;obtain⟨n,a,_⟩:=O.all q (d[q].1) (by rw[OU,WH,Oy x];rfl);exact⟨(_,q),(v _ _).mpr a,rfl⟩
 have I:L.length=d.size:=by have:=K.length_eq;simpa using this
 have T:∀q∈L.map (·.2),(d[q]?).isSome=true:=λq x=>by
  obtain⟨p,u,rfl⟩:=Tf.mp x;rw[Oy (lt p u)];rfl
 have b2:∀q∈Tp d.size,(d[q]?).isSome=true:=λq x=>by
  rw[Oy (Ts.mp x)];rfl
 have D:((L.map (·.2)).toArray.filterMap (d[·]?)).toList=(L.map (·.2)).filterMap (d[·]?):=by simp
 have a2:∀(i:Nat),((L.map (·.2)).toArray.filterMap (d[·]?))[i]?=(L[i]?).bind λp=>d[p.2]?:=by
  intro i;rw[<- OU,D,r3 _ _ T,OG];cases L[i]?<;>rfl
 have X:((L.map (·.2)).toArray.filterMap (d[·]?)).size=d.size:=by
  rw[<- Tt,D,wz _ _ T,S5,I]
 have aX:((L.map (·.2)).toArray.filterMap (d[·]?)).toList.Perm d.toList:=by
  rw[D];refine(K.filterMap (d[·]?)).trans (Xm ?_);refine Qo λi=>?_
  rw[r3 _ _ b2]
  by_cases c:i<d.size
  .rw[Q1 c];simp
  .rw[OV (by simpa using c),OV (by simpa using c)];rfl
 refine⟨{ mask:=m,place:=(L.map (·.1)).toArray,dummies:=#[],finger:=f,led,moves:=S,plain:=M },(L.map (·.2)).toArray,?_,rfl,rfl,rfl,X,⟨?_,λi j a b _ h=>by simp at h,?_,λi j h=>by simp at h,λi H j _ h=>by simp at h,?_,Q,?_,?_⟩,aX,by simpa using K⟩
 .unfold laid;rw[e];simp only[U9,Vy,Xn,E]
 .intro i j a b ax t g;simp only[QJ,OG]at t g;cases B:L[i]? with
  |none=>rw[B]at t;cases t
  |some a6 =>
   cases C:L[j]? with
   |none=>rw[C]at g;cases g
   |some a8 =>
    rw[B]at t;rw[C]at g;cases t;cases g;obtain⟨s,e1⟩:=OK.mp B;obtain⟨aj,A⟩:=OK.mp C;have:=QZ.mp V i j s aj ax;rw[e1,A]at this;exact this
 .intro i j l;simp only[QJ,OG]at l;cases r:L[i]? with
  |none=>rw[r]at l;cases l
  |some p =>
   rw[r]at l;cases l;have:=(v p.1 p.2).mp (Pn r);have:=(OP.mp this).1;rw[O.size]at this;show p.1<=m;lia
 .show(L.map (·.1)).toArray.size=_;rw[X];simp[I]
 .show(L.map (·.1)).toArray.size+0<=m;simp[I];exact N
 .intro i j eO l G;simp only[QJ,OG]at l;rw[a2]at G;cases r:L[i]? with
  |none=>rw[r]at l;cases l
  |some p =>
   rw[r]at l G;cases l;have u:=(v p.1 p.2).mp (Pn r);have ar:d[p.2]?=Z eO:=G;obtain⟨n,a,b⟩:=O.all p.2 eO.1 (by rw[OU,WH,ar];rfl);refine⟨n,O.inj _ _ _ a u,λk ay=>?_⟩;obtain⟨U,aC⟩:=b k ay;obtain⟨H,ao,a1⟩:=List.mem_iff_getElem.mp ((v _ _).mpr aC);refine .inl ⟨H,?_⟩;show(L.map (·.1)).toArray[H]?=_;simp only[QJ,OG];rw[Ov ao,a1];rfl
end dO
end
section
namespace Pv
open PySem dO PySem.SetTable
section
variable{prog:TK}{w:TU}{A:TO}{E:S8->S9->Prop}{s:S9}
def eb(prog:TK)(w:TU)(h:TH)(a:List Int)(b:Td):Prop:=IsTupleKey (Xp prog w) h a b
noncomputable def cW(prog:TK)(w:TU)(a:List Int):Int:=tupleKeyHash (Xp prog w) a
def ei(prog:TK)(w:TU)(h:TH)(e:Int×S8)(a:List Int):Prop:=∃b,e.2=.ref b/\e.1=cW prog w a/\eb prog w h a b
def eb.kept(x:eb prog w h d b)(k:∀o,h.get? b=Z o->h'.get? b=Z o):eb prog w h' d b :=
 let ⟨o,c,n,a,r⟩:=x;⟨o,c,n,k o a,r⟩
def eb.ne{f e t}(x:eb prog w h k b)(i:h.get? a=Z o)(g:o.data=.set f e t):b≠a:=by
 rintro rfl;obtain⟨l,j,n,d,_,c,_⟩:=x;rw[i]at d;cases d;rw[g]at c;cases c
def vh(f:eb prog w s.heap t a)(h:Q S6 s):Ta M A (US 8 (.ref a)) Q E s:=by
 have i:s.TypeIs (.ref a) "tuple":=WM f;obtain⟨o,q,n,l,_,j,k⟩:=f;unfold US;refine Oh (Qj i ?_);dsimp only;rw[if_pos (by rfl)];refine Oh (Oj ?_);simp only[Pl,Om,OH];refine Oh (wpAny_seqItems l j ?_);dsimp only;refine Oh ?_;rw[<- WI];refine Rq _ (λg r s'=>r.1=Y/\s'=s/\∀v∈g,carriedByValue v=J) _ ?_ ?_ _ _ ⟨rfl,rfl,k.byValue⟩
 .rintro v g r s' ⟨c,rfl,d⟩;have p:=d v S7;have e:US 7 v=pure false:=by
   cases v with
   |ref b=>simp[carriedByValue]at p
   |_=>unfold US;rfl
  rw[e];refine Oh (Oj ?_);simp only[Om,OH];exact Oj ⟨rfl,rfl,λu m=>d u (S4 _ m)⟩
 .rintro⟨x,y⟩ s' ⟨c,rfl,_⟩;simp only at c;subst c;exact Oj h
def KI{Xy:List S8}(i:eb prog w s.heap m b)(k:∀v∈Xy,∃c a,v=.ref c/\eb prog w s.heap a c)(h:Q S6 s):
  Ta (Tc prog w) A (searchCouldBeSeen (.ref b) Xy) Q E s:=by
 unfold searchCouldBeSeen;refine Oh ?_;refine Rq _ (λe r s'=>r.1=Y/\s'=s/\∀v∈e,∃c a,v=.ref c/\eb prog w s.heap a c) _ ?_ ?_ _ _ ⟨rfl,rfl,k⟩
 .rintro v e r s' ⟨d,rfl,f⟩;obtain⟨c,a,rfl,g⟩:=f v S7;have j:∀v∈e,∃c a,v=.ref c/\eb prog w s'.heap a c:=λu l=>f u (S4 _ l)
  dsimp only
  split
  .exact Oj ⟨rfl,rfl,j⟩
  .refine Oh (V0 i ?_);simp only[Pl,Om,OH];refine Oh (V0 g ?_);simp only[Pl,Om,OH];refine Oh (vh i ?_);simp only[Om,OH];refine Oh (vh g ?_);simp only[Om,OH];exact Oj ⟨rfl,rfl,j⟩
 .rintro⟨n,o⟩ s' ⟨d,rfl,_⟩;simp only at d;subst d;exact Oj h
def B2(m:eb prog w s.heap C a)(h:Q J s):Ta (Tc prog w) A (Wd 8 (.ref a)) Q E s:=by
 have y:s.TypeIs (.ref a) "tuple":=WM m;obtain⟨o,f,n,p,_,g,j⟩:=m;unfold Wd;refine Oh (SA y F.slot_tuple_hash.lookup ?_);dsimp only;refine Oh (wpAny_seqItems p g ?_);refine Oh ?_;show Ta _ _ (forIn f _ _) _ _ s;rw[<- WI];have c:∀v∈f.toList,∃i t,v=UB i t:=by
  clear g p;generalize f.toList=l at j
  induction j with
  |nil=>intro v b;simp at b
  |@cons k I D K x _ B =>
   intro v b;rcases Oq.mp b with rfl|b
   .obtain⟨t,e⟩:=R4 x;exact⟨_,t,e⟩
   .exact B v b
 refine Rq _ (λq r s'=>r.1=Y/\s'=s/\∀v∈q,∃i t,v=UB i t) _ ?_ ?_ _ _ ⟨rfl,rfl,c⟩
 .rintro v q r s' ⟨d,rfl,c⟩;obtain⟨i,t,rfl⟩:=c v S7;have e:Wd 7 (UB i t)=pure true:=(by unfold Wd;rfl);rw[e];refine Oh (Oj ?_);simp only[Pl,Om,OH];exact Oj ⟨rfl,rfl,λu z=>c u (S4 _ z)⟩
 .rintro⟨G,H⟩ s' ⟨d,rfl,_⟩;simp only at d;subst d;exact Oj h
theorem Tab.fits{a:Array (Int×S8)}(T:Tab a t):t.fits a.size=true:=by
 unfold SetTable.fits;have b:=T.d5;have c:=T.fill;have d:=T.full;simp only[Oi,OL,Oz];exact⟨b,by rw[c,<- b];exact d⟩
def Tab.EL{a:Array (Int×S8)}(T:Tab a t):t.gaveWay=false:=by
 unfold SetTable.gaveWay;rcases T.bh with e|e|e|e|e|e|e<;>rw[e]<;>rfl
theorem cR.turns{m:Nat}(h:cR m):turns m<=526:=by unfold SetTable.turns;rcases h with e|e|e|e|e|e|e<;>rw[e]<;>lia
def cR.grow(h:cR m)(g:1<=n)(d:n<=f)(e:f<=76)(i:f*5>=m*3):∃a,cR a/\sizeAbove (grown n)-1=a/\n*5<a*3/\n<=a/\sizeAbove (grown n)<=512:=by
 have c:((Tp 77).all λn=>decide (n=0)||(decide (sizeAbove (grown n)-1∈[7,15,31,63,127,255,511])&&decide (n*5<(sizeAbove (grown n)-1)*3)&&decide (n<=sizeAbove (grown n)-1)&&decide (sizeAbove (grown n)<=512)))=true:=by decide +kernel
 have k:=OM.mp c n (Ts.mpr ⋯);simp only[PF,Oi,Oz]at k;rcases k with k|⟨⟨⟨k1,k2⟩,k3⟩,b⟩
 .omega
 .refine⟨_,?_,rfl,k2,k3,b⟩;simpa[cR] using k1
theorem tp (en : A.units < TS)
    (cN : s.heap.get? a = Z o) (cq : o.data = .set f hX t) (T : Tab f t) (O : Paired (ei prog w s.heap) f.toList iT) (cM : eb prog w s.heap aY b)
    (gq : N < 10 * turns t.mask) (K : ¬ d9 t (ba t.mask (cW prog w aY) N)) (aA : ∀ k, k < N -> d9 t (ba t.mask (cW prog w aY) k))
    (L : aY ∉ iT -> ∀ k b, (b = S6 /\ k = N \/ b = J /\ k < N /\ ∃ i : Nat, t.dummies[i]? = Z (ba t.mask (cW prog w aY) k)) -> R (.free (ba t.mask (cW prog w aY) k) b) s)
    (H : aY ∈ iT -> ∀ r, (u = S6 -> ∃ i e, r = Z i /\ f[i]? = Z e /\ ei prog w s.heap e aY) -> R (.there r) s) :
    ∀ (fuel n : Nat) (a8 : Option Probe) (C : Option Nat), n <= N -> N - n < fuel -> jn t (cW prog w aY) N C -> a8.getD (t.probeStart (cW prog w aY)) = fv (pr t.mask (cW prog w aY) n) C ->
      (∀ k, k < n -> ∀ (i : Nat) (e : Int × S8), t.place[i]? = Z (ba t.mask (cW prog w aY) k) -> f[i]? = Z e -> ¬ ei prog w s.heap e aY) ->
      Ta (Tc prog w) A (Vs a (.ref b) (cW prog w aY) u fuel a8) R E s
  | 0, n, a8, C, D, cf, _, _, _ => by lia
  | fuel + 1, n, a8, C, D, cf, iL, f1, aB => by
    unfold Vs
    refine Oh (OT cN cq (Tab.fits T) ?_)
    dsimp only
    rw [Tab.EL T]
    simp only [Om, OH]
    rw [f1]
    have ar : ∀ (i : Nat) (e : Int × S8), f[i]? = Z e -> (fun i => (f[i]?.map (·.1)).getD 0) i = e.1 := fun i e h => by simp [h]
    generalize ed : t.probe _ (cW prog w aY) (fv (pr t.mask (cW prog w aY) n) C) = X
    have dv : ∀ (i : Nat) (e : Int × S8), f[i]? = Z e -> ∃ fp, fp ∈ iT /\ ei prog w s.heap e fp := fun i e h => by
      have m : e ∈ f.toList := by rw [<- OU] at h; exact Pn h
      clear ar aB K aA H L
      generalize f.toList = l at O m
      induction O with
      | nil => simp at m
      | cons D _ dI =>
        rcases Oq.mp m with rfl | m
        · exact ⟨_, S7, D⟩
        · obtain ⟨fp, a1, bl⟩ := dI m
          exact ⟨fp, S4 _ a1, bl⟩
    rcases yI (h := cW prog w aY) (hashAt := fun i => (f[i]?.map (·.1)).getD 0) T.gY T.gX T.jD K aA (10 * turns t.mask) n C D ⋯ iL with ⟨k, i, a0, b1, b2, Q, hV, S, bw, U⟩ | ⟨S, a0, bw, U⟩
    · have V : X = _ := ed.symm.trans U
      rw [V]
      dsimp only
      have M : i < f.size := by rw [<- T.d5]; exact (OP.mp Q).1
      have p : f[i]? = Z f[i] := Oy M
      obtain ⟨fp, cA, c, cc, x, ao⟩ := dv i _ p
      have eM : Ta (Tc prog w) A (do
          let Z (_, y) := f[i]? | unsupported "internal:set-entry"
          let dP <- VI [y] (eqBool y (.ref b))
          let (gp, _, t') <- setState a
          if u && dP then return Xz Y
          let Z same := t'.sameMemory t.moves t.mask | unsupported "set.changed-during-lookup:is-the-new-block-at-the-old-address"
          let f4 <- match (if same then t'.slot (ba t.mask (cW prog w aY) k) else .empty) with
            | .live g => match gp[g]? with
              | some (_, kE) => do pure (if <- isSame kE y then Z g else Y)
              | none => pure Y
            | _ => pure Y
          match f4 with
          | none => XJ "set.search.anew"; Vs a (.ref b) (cW prog w aY) u fuel Y
          | some g => if dP then return Xz (Z g) else Vs a (.ref b) (cW prog w aY) u fuel (Z (fv (pr t.mask (cW prog w aY) (k + 1)) a0))) R E s := by
        rw [p]
        generalize g1 : f[i] = hQ at cc x p
        obtain ⟨f8, iP⟩ := hQ
        dsimp only at cc x ⊢
        subst cc
        refine Oh (Pr (wpAny_eqBool_tuple en ao cM ?_))
        refine Oh (OT cN cq (Tab.fits T) ?_)
        dsimp only
        have same : t.sameMemory t.moves t.mask = Z true := by unfold SetTable.sameMemory; simp
        by_cases q : fp = aY
        · subst q
          simp only [S3, Bool.and_true]
          cases u
          · simp only [Om, OH]
            rw [same]
            dsimp only
            rw [if_pos rfl, j1 T.gY Q]
            dsimp only
            rw [p]
            dsimp only
            refine Oh (V1 (Oh (Oj ?_)))
            rw [if_pos rfl]
            dsimp only
            first | exact Oj (H cA _ fun _ => ⟨i, _, rfl, p, c, rfl, x, ao⟩) | (rw [if_pos trivial]; exact Oj (H cA _ fun _ => ⟨i, _, rfl, p, c, rfl, x, ao⟩))
          · simp only [Pb]
            exact Oj (H cA _ fun z => by cases z)
        · simp only [decide_eq_false q, Ug, Om, OH]
          rw [same]
          dsimp only
          rw [if_pos rfl, j1 T.gY Q]
          dsimp only
          rw [p]
          dsimp only
          refine Oh (V1 (Oh (Oj ?_)))
          rw [if_pos rfl]
          dsimp only
          refine tp en cN cq T O cM gq K aA L H fuel (k + 1) _ a0 ⋯ ⋯ bw rfl fun aC g2 g aj c0 B I => ?_
          by_cases fk : aC < n
          · exact aB aC fk g aj c0 B I
          · by_cases b9 : aC = k
            · subst b9
              have e1 : g = i := T.inj c0 Q
              subst e1
              rw [p] at B
              cases B
              obtain ⟨hW, fT, _, gP⟩ := I
              cases fT
              exact q (XA ao gP)
            · obtain ⟨_, _, gn, _⟩ := I
              exact S aC ⋯ ⋯ g c0 ((ar g aj B).trans gn)
      cases g3 : t.led
      · simp only [RV, Pb]
        refine Oh (KI cM (fun v f2 => ?_) ?_)
        · obtain ⟨e, B, rfl⟩ := Tf.mp f2
          have m : e ∈ f.toList := by
            rw [Array.toList_filter] at B
            exact (OJ.mp B).1
          obtain ⟨j, G⟩ := V2.mp m
          obtain ⟨kD, _, b9, e0, _, cf⟩ := dv j e (by rw [<- OU]; exact G)
          exact ⟨b9, kD, e0, cf⟩
        · simp only [Om, OH]
          exact eM
      · simp only [Pl, Om, OH]
        exact eM
    · have V : X = _ := ed.symm.trans U
      rw [V]
      dsimp only
      have ee : aY ∉ iT := fun ax => by
        obtain ⟨e, m, I⟩ : ∃ e ∈ f.toList, ei prog w s.heap e aY := by
          clear ar aB K aA H L dv S U V
          generalize f.toList = l at O
          induction O with
          | nil => simp at ax
          | @cons aj fp _ _ D _ dI =>
            rcases Oq.mp ax with rfl | ax
            · exact ⟨aj, S7, D⟩
            · obtain ⟨e, a1, bl⟩ := dI ax
              exact ⟨e, S4 _ a1, bl⟩
        obtain ⟨j, G⟩ := V2.mp m
        rw [OU] at G
        obtain ⟨_, _, x, _⟩ := id I
        obtain ⟨k, cz, ay⟩ := T.met K G x
        by_cases c : k < n
        · exact aB k c j e ay G I
        · exact S k ⋯ cz j ay ((ar j e G).trans x)
      cases a0 with
      | none => exact Oj (L ee N S6 (.inl ⟨rfl, rfl⟩))
      | some d =>
        dsimp only
        obtain ⟨k, cz, ay, i, M⟩ := bw d rfl
        subst ay
        have f0 : t.slot (ba t.mask (cW prog w aY) k) = .dummy := zO T.gX (fun g e => T.jD _ _ _ e M) M
        have hz : (u && t.slot (ba t.mask (cW prog w aY) k) != .dummy) = false := by rw [f0]; cases u <;> rfl
        rw [hz]
        simp only [Om, OH]
        exact Oj (L ee k J (.inr ⟨rfl, cz, i, M⟩))
def eJ(M:S8->Prop)(prog:TK)(w:TU)(h:TH)(a:Td)(c:Nat)(d:List (List Int)):Prop :=
 ∃o b f t,h.get? a=Z o/\o.ExactSet/\o.data=.set b f t/\Tab b t/\t.fill*5<t.mask*3/\t.fill<=c/\t.plain=J/\(t.led=J<->w.params.followText "set-order"=S6)/\Paired (λe g=>ei prog w h e g/\M e.2) b.toList d/\d.Nodup
def fP(M:S8->Prop)(prog:TK)(w:TU)(h:TH)(a:Td)(b:List (List Int)):Prop:=eJ M prog w h a b.length b
def Paired.perm{α β:Type}{F:α->β->Prop}{l1 d:List α}(p:l1.Perm d):∀{a:List β},Paired F d a->∃fp,fp.Perm a/\Paired F l1 fp:=by
 induction p with
 |nil=>intro a h;cases h;exact⟨[],.refl _,.nil⟩
 |cons x _ e =>
  intro a h;cases h with
  |cons b t =>
   obtain⟨fp,i,h'⟩:=e t;exact⟨_::fp,i.cons _,.cons b h'⟩
 |swap x y l =>
  intro a h;cases h with
  |cons b t =>
   cases t with
   |cons c t=>exact⟨_::_::_,UR _ _ _,.cons c (.cons b t)⟩
 |trans _ _ f g =>
  intro a h;obtain⟨k1,p1,b⟩:=g h;obtain⟨k2,p2,c⟩:=f b;exact⟨k2,p2.trans p1,c⟩
theorem Paired.len{α β:Type}{F:α->β->Prop}:∀{l:List α}{a:List β},Paired F l a->l.length=a.length
 |_,_,.nil=>rfl
 |_,_,.cons _ t=>by simp[Paired.len t]
theorem Paired.mp{α β:Type}{F G:α->β->Prop}(f:∀a b,F a b->G a b):∀{l:List α}{c:List β},Paired F l c->Paired G l c
 |_,_,.nil=>.nil
 |_,_,.cons h t=>.cons (f _ _ h) (Paired.mp f t)
theorem eJ.kept(x:eJ M prog w h a c iT)(k:∀b o,h.get? b=Z o->h'.get? b=Z o):eJ M prog w h' a c iT:=by
 obtain⟨o,j,i,t,l,m,n,p,q,z,r,u,v,y⟩:=x;exact⟨o,j,i,t,k _ _ l,m,n,p,q,z,r,u,Paired.mp (λe B ⟨⟨b,e1,d,f⟩,g⟩=>⟨⟨b,e1,d,f.kept (k b)⟩,g⟩) v,y⟩
theorem fP.kept(x:fP M prog w h a iT)(k:∀b o,h.get? b=Z o->h'.get? b=Z o):fP M prog w h' a iT:=eJ.kept x k
def ei.move{g f t}(j:h.get? a=Z o)(i:o.data=.set g f t)(l:TA a h h')(x:ei prog w h e aY):ei prog w h' e aY :=
 let ⟨c,e1,d,b⟩:=x;⟨c,e1,d,b.kept λm k=>(l.2 c (b.ne j i)).trans k⟩
def uC(g3:A.units<TS)(gP:eJ M prog w s.heap a c q)(X:eb prog w s.heap g b)(hQ:M (.ref b))(kN:c<76)(h:∀h' y r,TA a s.heap h'->eJ M prog w h' a (if g∈q then c else c+1) y->y.Perm (if g∈q then q else g::q)->Q r { s with heap:=h' }):
  Ta (Tc prog w) A (VQ a (.ref b) (cW prog w g)) Q E s:=by
 obtain⟨o,l,U,t,v,V,p,T,a2,f0,L,a1,K,dv⟩:=gP;obtain⟨N,gq,cz,dI⟩:=wt T.bh T.full (cW prog w g);have fB:l.size=q.length:=by have:=Paired.len K;simpa using this
 unfold VQ setAddHashedIn;refine Pr (Oh (OT v p (Tab.fits T) ?_));dsimp only;have iL:byScan (.ref b) l=false:=by unfold byScan;simp[Xo]
 rw[iL];simp only[Om,OH];refine Oh ?_;unfold setSearch;refine tp g3 v p T (Paired.mp (λ_ _ x=>x.1) K) X gq cz dI (λaj k mC a0=>?_) (λcN r _=>?_) 100000 0 Y Y (OQ _) ?_ (λ_ z=>by cases z) rfl (λk c0=>absurd c0 (UA k))
 .-- kQ kP kR
  dsimp only;have kE:=T.fill;have hsz:=T.d5;have f4:t.place.size+t.dummies.size+1<=t.mask:=by
   rw[kE]at a2;rw[hsz];rcases T.bh with e|e|e|e|e|e|e<;>rw[e]at a2 ⊢<;>lia
  have cO:k<=N:=(by rcases a0 with⟨_,z⟩|⟨_,z,_⟩<;>lia);have g1:∀i:Nat,t.place[i]?≠Z (ba t.mask (cW prog w g) k):=λi e=>by
   rcases a0 with⟨_,z⟩|⟨_,_,kO,z⟩
   .subst z;exact cz (.inl ⟨i,e⟩)
   .exact T.jD _ _ _ e z
  obtain⟨u,b1,b2,D,H,a8,R⟩:=T.put (x:=Th b) g1 (λkI c0=>dI kI ⋯) (.inr f4);refine Oh (OT v p (Tab.fits T) ?_);dsimp only;generalize mD:t.put (ba t.mask (cW prog w g) k)=P at u b1 b2 D H a8 R;obtain⟨f,p1⟩:=P;dsimp only at u b1 b2 D H a8 R ⊢;rw[D,L];simp only[Pb];refine Oh (B2 X ?_);simp only[Pb];have ed:=Fm l p1 (cW prog w g,Th b) b1;have ax:(insertAt l p1 (cW prog w g,Th b)).size=l.size+1:=kU _ _ _ b1;have f1:Paired (λe g=>ei prog w s.heap e g/\M e.2) ((cW prog w g,Th b)::l.toList) (g::q):=.cons ⟨⟨b,rfl,rfl,X⟩,hQ⟩ K;obtain⟨en,aA,aB⟩:=Paired.perm ed f1;have dP:en.Nodup:=(aA.nodup_iff).mpr (OX.mpr ⟨aj,dv⟩);generalize h0:insertAt l p1 (cW prog w g,Th b)=d at u ed ax aB;have bY:f.fill=d.size+f.dummies.size:=u.fill;have ao:d.size<=sizeLine:=(by rw[ax,Tw];lia);refine Oh (QN v p ?_ ao);have I:(s.heap.update a (T8 d f)).get? a=Z { o with data:=.set d (U+1) f }:=by
   have:=OW (T8 d f) v (by rw[QU d f p];rfl);rw[QU d f p]at this;exact this
  have ar:=Ph s.heap a (T8 d f);have eM:∀{h':TH},TA a s.heap h'->∀(e:Int×S8)(ay:List Int),(ei prog w s.heap e ay/\M e.2)->(ei prog w h' e ay/\M e.2):=λ{h'} g2 e ay x=>⟨x.1.move v p g2,x.2⟩;have bw:∀h' y,TA a s.heap h'->eJ M prog w h' a (c+1) y->y.Perm (g::q)->Q J { s with heap:=h' }:=λh' y aC a6 kL=>h h' y J aC (by rw[if_neg aj];exact a6) (by rw[if_neg aj];exact kL)
  have e0:f.fill*5<f.mask*3->f.fill<=c+1->Q J { s with heap:=s.heap.update a (T8 d f) }:=λaC a6 =>
   bw _ en ar ⟨_,_,_,f,I,V,rfl,u,aC,a6,by rw[D];exact L,by rw[H];exact a1,Paired.mp (eM ar) aB,dP⟩ aA
  rcases a0 with⟨rfl,_⟩|⟨rfl,_,kD⟩
  .by_cases O:f.tooFull=J
   .simp only[O,RV,SS,Pb];have G:f.fill*5>=f.mask*3:=(by unfold W6 at O;simpa using O);obtain⟨m,hW,f8,hX,iP,EU⟩:=cR.grow (n:=d.size) u.bh ⋯ (show d.size<=f.fill by lia) ⋯ G;refine Oh ?_;unfold setRelay;refine Oh (OT I rfl (Tab.fits u) ?_);dsimp only;rw[<- ax];have ao:¬sizeAbove (grown d.size)>sizeLine:=(by rw[Tw];lia);rw[if_neg ao];obtain⟨j,B,e1,oh,fT,gn,S,bl,gp,_⟩:=xo (α:=S8) hW d iP f.finger (f.movedTo m) f.led f.plain;have C:f.relaid (d.map (·.1)) (grown d.size)=Z (j,B):=by
     unfold VX;rw[f8];exact e1
    have f2:j.dummies=#[]:=by
     unfold VX Wy at C;cases z:layClean (sizeAbove (grown d.size)-1) (d.map (·.1)) with
     |none=>rw[z]at C;cases C
     |some mI=>rw[z]at C;cases C;rfl
    have cA:j.fill=d.size:=(by rw[bl.fill,f2,S];rfl);refine Oh ?_;rw[C];show Ta (Tc prog w) A (if ((B.filterMap (d[·]?)).size != d.size)=J then _ else pure (B.filterMap (d[·]?),j)) _ E _;rw[if_neg (by rw[S];simp)];refine Oj ?_;dsimp only;refine QN I rfl ?_ (by rw[S,Tw];lia);obtain⟨kJ,fk,kK⟩:=Paired.perm gp aB;have hV:((s.heap.update a (T8 d f)).update a (T8 (B.filterMap (d[·]?)) j)).get? a=Z { o with data:=.set (B.filterMap (d[·]?)) (U+1+1) j }:=by
     have:=OW (T8 (B.filterMap (d[·]?)) j) I (by rw[QU _ j rfl];rfl);rw[QU _ j rfl]at this;exact this
    have ee:=ar.trans (Ph _ a (T8 (B.filterMap (d[·]?)) j));refine Oj (bw _ kJ ee ⟨_,_,_,j,hV,V,rfl,bl,by rw[cA,oh];exact hX,by rw[cA];lia,by rw[gn,D];exact L,by rw[fT,H];exact a1,Paired.mp (eM ee) kK,(fk.nodup_iff).mpr dP⟩ (fk.trans aA))
   .have G:f.tooFull=false:=(by simpa using O);simp only[G,Ug,Om,OH];refine Oj (e0 ?_ ⋯);unfold W6 at G;have:¬f.fill*5>=f.mask*3:=(by simpa using G);lia
  .simp only[Pl,QQ,Om,OH];have:=R kD;refine Oj (e0 ?_ ⋯);rw[b2];lia
 .dsimp only;exact Oj (h s.heap q S6 (Qp a s.heap) (by rw[if_pos cN];exact⟨o,l,U,t,v,V,p,T,a2,f0,L,a1,K,dv⟩) (by rw[if_pos cN]))
 .have:=cR.turns T.bh;lia
def A5(m:A.units<TS)(j:fP M prog w s.heap a c)(k:eb prog w s.heap f b)(i:M (.ref b))(l:c.length<76)(h:∀h' d r,TA a s.heap h'->fP M prog w h' a d->d.Perm (if f∈c then c else f::c)->Q r { s with heap:=h' }):
  Ta (Tc prog w) A (VQ a (.ref b) (cW prog w f)) Q E s :=
 uC m j k i l λh' d r n o g=>h h' d r n (by
  have e:d.length=if f∈c then c.length else c.length+1:=(by rw[g.length_eq];split<;>rfl);unfold fP;rw[e];exact o) g
def Dd(a6:A.units<TS)(a0:eJ M prog w s.heap a c j)(ay:eb prog w s.heap aY b)(h:∀h' p,TA a s.heap h'->eJ M prog w h' a c p->(if aY∈j then(aY::p).Perm j else p=j)->Q (decide (aY∈j)) { s with heap:=h' }):
  Ta (Tc prog w) A (setDiscardHashed a (.ref b) (cW prog w aY)) Q E s:=by
 obtain⟨o,d,u,t,g,v,f,T,D,a2,H,B,m,C⟩:=a0;obtain⟨N,X,ar,aB⟩:=wt T.bh T.full (cW prog w aY);have c0:d.size=j.length:=by have:=Paired.len m;simpa using this
 unfold setDiscardHashed setFind setFindIn;refine Oh (Oh (OT g f (Tab.fits T) ?_));dsimp only;have a1:byScan (.ref b) d=false:=by unfold byScan;simp[Xo]
 rw[a1];simp only[Om,OH];refine Oh ?_;unfold setSearch;refine tp a6 g f T (Paired.mp (λ_ _ x=>x.1) m) ay X ar aB (λG k cq cN=>?_) (λy r a5=>?_) 100000 0 Y Y (OQ _) ?_ (λ_ z=>by cases z) rfl (λk aA=>absurd aA (UA k))
 .dsimp only;refine Oj ?_;dsimp only;have:=h s.heap j (Qp a s.heap) ⟨o,d,u,t,g,v,f,T,D,a2,H,B,m,C⟩ (by rw[if_neg G]);rw[decide_eq_false G]at this;exact Oj this
 .obtain⟨i,e,rfl,n,a8⟩:=a5 rfl;dsimp only;refine Oj ?_;dsimp only;refine Oh (OT g f (Tab.fits T) ?_);dsimp only;have l:=(OP.mp n).1;obtain⟨q,b2,L,O,cf⟩:=T.drop l;have hz:=mA d i l;have cA:=T.fill;have ao:=q.fill;refine Oh (QN g f ?_ (by rw[Tw];have:t.fill*5<t.mask*3:=D;rcases T.bh with e|e|e|e|e|e|e<;>rw[e]at this<;>lia));refine Oh (wpAny_point ?_);have ax:(s.heap.update a (T8 (eraseAt d i) (t.drop i))).get? a=Z { o with data:=.set (eraseAt d i) (u+1) (t.drop i) }:=by
   have:=OW (T8 (eraseAt d i) (t.drop i)) g (by rw[QU _ _ f];rfl);rw[QU _ _ f]at this;exact this
  have I:=Ph s.heap a (T8 (eraseAt d i) (t.drop i));have b1:=DA d i l;obtain⟨dv,K,bw⟩:=Paired.perm b1 m;cases bw with
  |@cons _ k1 _ bl b9 cc =>
   have V:k1=aY:=by
    obtain⟨⟨cM,e1,_,R⟩,_⟩:=b9;obtain⟨cz,S,_,U⟩:=a8;have aj:d[i]=e:=(by rw[Oy l]at n;injection n);rw[aj,S]at e1;cases e1;exact XA R U
   subst V;have aC:=(K.nodup_iff).mpr C;have:=h _ bl I ⟨_,_,_,t.drop i,ax,v,rfl,q,by rw[ao,b2];lia,⋯,by rw[L];exact H,by rw[O];exact B,Paired.mp (λe dI x=>⟨x.1.move g f I,x.2⟩) cc,(OX.mp aC).2⟩ (by rw[if_pos y];exact K);rw[decide_eq_true y]at this;exact Oj this
 .have:=cR.turns T.bh;lia
def KR(f:A.units<TS)(j:fP M prog w s.heap a c)(e:eb prog w s.heap g b)(i:M (.ref b))(k:c.length<76)(h:∀h' tk d r,s.toks<=tk->TA a s.heap h'->fP M prog w h' a d->d.Perm (if g∈c then c else g::c)->Q r { s with heap:=h',toks:=tk }):
  Ta (Tc prog w) A (setAdd a (.ref b)) Q E s:=by
 unfold setAdd;refine Pr (Oh (wpAny_pyHash_tuple f e ?_));exact A5 (s:={ s with toks:=_ }) f j e i k λh' d r l m n=>h h' _ d r (W7 _ _) l m n
end
end Pv
end
section
namespace Pv
open PySem PySem.Spec PyProof.Rows dO PySem.SetTable
section
variable{prog:TK}{w:TU}
structure qE(prog:TK)(w:TU)(κ:Type)[DecidableEq κ] where
 Row:TH->S8->κ->Prop
 Set:TH->Td->List κ->Prop
 fresh:∀(h:TH)(a:Td),h.get? a=Z { cls:=.type "set",dict:=Y,data:=.set #[] 0 (.fresh 0 0 (!w.params.followText "set-order")) }->Set h a []
 moved:∀{h h':TH}{a:Td}{aY:List κ},Set h a aY->(∀o,h.get? a=Z o->h'.get? a=Z o)->(∀b o,h.get? b=Z o->o.cls=.type "tuple"->h'.get? b=Z o)->Set h' a aY
 zj:∀{h h':TH}{v:S8}{k:κ},Row h v k->(∀b o,h.get? b=Z o->o.cls=.type "tuple"->h'.get? b=Z o)->Row h' v k
 ye:∀{h:TH}{a:Td}{aY:List κ},Set h a aY->∀o,h.get? a=Z o->o.cls≠.type "tuple"
 add:∀{A:TO}{E:S8->S9->Prop}{s:S9}{a:Td}{v:S8}{k:κ}{aY:List κ}{Q:Bool->S9->Prop},A.units<TS->Set s.heap a aY->Row s.heap v k->aY.length<76 ->
  (∀h' tk fp r,s.toks<=tk->TA a s.heap h'->Set h' a fp->fp.Perm (if k∈aY then aY else k::aY)->Q r { s with heap:=h',toks:=tk })->Ta (Tc prog w) A (setAdd a v) Q E s
section
variable{κ:Type}[DecidableEq κ]
noncomputable def met(a:List κ):Nat->List κ
 |0=>[]
 |i+1=>match a[i]? with
  |some k=>if k∈met a i then met a i else k::met a i
  |none=>met a i
theorem lh(a:List κ):∀(i:Nat),i<=a.length->∀k,k∈met a i<->k∈a.take i
 |0,_,k=>by simp[met]
 |i+1,f,k=>by
  have d:=lh a i ⋯ k;have b:a[i]?=Z a[i]:=Ov ⋯;have e:a.take (i+1)=a.take i++[a[i]]:=(by rw[List.take_succ,b];rfl);unfold met;rw[b,e,Ox,<- d,OC];dsimp only
  split
  .rename_i c;constructor
   .exact .inl
   .rintro(h|h)
    .exact h
    .rw[h];exact c
  .rw[Oq];exact⟨λh=>h.symm,λh=>h.symm⟩
theorem mX(a:List κ):∀i,(met a i).Nodup
 |0=>PY
 |i+1=>by
  unfold met
  split
  .split
   .exact mX a i
   .rename_i c;exact OX.mpr ⟨c,mX a i⟩
  .exact mX a i
def IG{a:List κ}(h:l.Perm m)(h':a.Perm (if k∈l then l else k::l)):a.Perm (if k∈m then m else k::m):=by
 by_cases c:k∈l
 .rw[if_pos c]at h';rw[if_pos (h.mem_iff.mp c)];exact h'.trans h
 .rw[if_neg c]at h';rw[if_neg (λz=>c (h.mem_iff.mpr z))];exact h'.trans (h.cons k)
def M6(K:qE prog w κ){A:TO}{R:Result->S9->Prop}{I:Td}{x wr:List Td}{n:Nat}{P:Nat->S8->Prop}{St:Nat->S9->Prop}{G:Array GenState->Array GenState->Prop}(W:WalksS prog w A.in1 I x wr G n P St)(S:Td)(z:S∉x)(ar:A.in1.units<TS)(j:List κ)(h0:TH)(H:∀i s,St i s->∀b∈wr,∀o,s.heap.get? b=Z o->o.cls≠.type "tuple")(ao:∀i v,P i v->∃k,j[i]?=Z k/\K.Row h0 v k)(c:∀i,i<n->(met j i).length<76):
  ∀(k i:Nat)(s:S9),n-i=k->i<=n->St i s->(∀b o,h0.get? b=Z o->o.cls=.type "tuple"->s.heap.get? b=Z o)->(∃l,K.Set s.heap S l/\l.Perm (met j i)) ->
   (∀s' l,Moved (S::wr) G s s'->K.Set s'.heap S l->l.Perm (met j n)->R (.ok (.ret .none)) s') ->
   Vb (Tc prog w) A (.builtin "set.update.loop" ⟨[.ref S,.ref I],[]⟩) R s:=by
 have B:S∉wr:=λh=>z (W.sub _ h)
 have E:∀b∈wr,b∈S::wr:=λb c=>S4 _ c
 intro k
 induction k with
 |zero =>
  rintro i s U Q f C ⟨l,m,g⟩ hR;have T:i=n:=⋯;subst T;refine PA Q2 ?_;rw[PK P4 _];show Ta _ A.in1 (U4 (.ref I)>>=_) _ _ s;refine Oh (W.done s _ _ f λs' d=>?_);show Ta _ A.in1 (ret Value.none) _ _ s';exact Oj (hR s' l (d.mono E) (K.moved m (λo e=>d.heap S o B e) λb o e a=>d.heap b o (λp=>H _ s f b p o e a) e) g)
 |succ k ax =>
  rintro i s U Q f C ⟨l,m,g⟩ hR;have q:i<n:=⋯;refine PA Q2 ?_;rw[PK P4 _];show Ta _ A.in1 (U4 (.ref I)>>=_) _ _ s;refine Oh (W.item i s _ _ q f λv s' M aj d=>?_);obtain⟨key,X,O⟩:=ao i v M;have tk:∀b o,s.heap.get? b=Z o->o.cls=.type "tuple"->s'.heap.get? b=Z o:=λb o e a=>d.heap b o (λp=>H _ s f b p o e a) e
  have y:K.Set s'.heap S l:=K.moved m (λo e=>d.heap S o B e) tk;have D:∀b o,h0.get? b=Z o->o.cls=.type "tuple"->s'.heap.get? b=Z o:=λb o e a=>tk b o (C b o e a) a
  have V:K.Row s'.heap v key:=K.zj O D;show Ta _ A.in1 (VI [v] (setAdd S v)>>=_) _ _ s';refine Oh (Pr (K.add ar y V (by rw[g.length_eq];exact c i q) λh' b2 ay r L t aC b1=>?_));have a2:∀b o,s'.heap.get? b=Z o->o.cls=.type "tuple"->b≠S:=λb o e a=>by
   rintro rfl;exact K.ye y o e a
  refine Oj ⟨RA P4 _,ax (i+1) _ ⋯ q (W.frame _ s' _ _ aj L λb c o e=>?_) (λb o e a=>?_) ⟨ay,aC,?_⟩ λaB aA a1 N a0=>?_⟩
  .rw[t.2 b (λh:b=S=>z (by rw[<- h];exact c))];exact e
  .have u:=D b o e a;show h'.get? b=Z o;rw[t.2 b (a2 b o u a)];exact u
  .unfold met;rw[X];exact IG g b1
  .refine hR aB aA (Moved.trans W.gtrans ((d.mono E).then_heap L λb o c e=>?_) a1) N a0;rw[t.2 b (λh:b=S=>c (by rw[h];exact S7))];exact e
end
def nk(a)(h:Q₁ (.ref s.heap.objs.size) { s with heap:=s.heap.push { cls:=.type "set",dict:=Y,data:=.set #[] 0 (.fresh 0 0 (!w.params.followText "set-order")) } }):
  Vb (Tc prog w) A (.call (.builtin "set.__new__") ⟨[.type "set",a],[]⟩) (wants Q₁ E) s:=by
 refine codeAny_of_tree ?_;show Ta _ A.in1 (do VA "set.__new__" ⟨[.type "set",a],[]⟩;XN (.builtin "set.__new__" ⟨[.type "set",a],[]⟩)) _ _ s;refine Oh (Xg (F.newCall_set_1 a) (Oj ⟨RA F.plain_set_new _,PA F.entry_set_new ?_⟩));rw[PK F.plain_set_new _];unfold Uh.«set.__new__» XB;have c:=WN;obtain⟨b,g,d,tk,os⟩:=s;dsimp only
 wp_walk
 refine PL (Oj ?_);dsimp only;simp only[newObj];refine Oh (wpAny_alloc (Oj ?_));exact Oj h
def p6(led):Tab (α:=S8) #[] (TN 0 0 led):=by
 refine⟨λi j a b _ h=>?_,λi j a b _ h=>?_,λi j h=>?_,λi j h=>?_,λi c j h=>?_,rfl,.inl rfl,OQ _,λi j e h=>?_⟩<;>simp[TN]at h
theorem yq{α β:Type}{F:α->β->Prop}:∀{l:List α}{b:List β},Paired F l b->∀(i:Nat)(v:α),l[i]?=Z v->∃k,b[i]?=Z k/\F v k
 |_,_,.nil,i,v,h=>by simp at h
 |_,_,.cons a t,0,v,h=>by simp at h;subst h;exact⟨_,rfl,a⟩
 |_,_,.cons a t,i+1,v,h=>by
  have:=yq t i v (by simpa using h);simpa using this
def Nx(k:A.handled=Y)(n:T="list"\/T="tuple")(d:h.get? l=Z { cls:=.type T,dict:=r,data:=.seq items g,slots:=t }):
  ∃(j:Uq)(St:Nat->TH->Prop),j.cls≠.type "tuple"/\(∀(f:TO)(E:S8->S9->Prop)(s:S9)(Q:S8->S9->Prop),s.heap=h->Q (.ref h.objs.size) { s with heap:=h.push j }->Ta (Tc prog w) f (V7 (.ref l)) Q E s) /\
   Walks prog w A h.objs.size [h.objs.size,l] [h.objs.size] items.size (λi v=>items[i]?=Z v) St/\St 0 (h.push j)/\∀i h',St i h'->∀o,h'.get? h.objs.size=Z o->o.cls≠.type "tuple":=by
 have m:l<h.objs.size:=Ou d;rcases n with rfl|rfl
 .have b:h.IsList l items:=⟨_,d,rfl,g,rfl⟩;refine⟨{ cls:=.type "list_iterator",data:=.fields #[.ref l,.int 0 0] },_,by show TM _≠TM _;decide,λf E s Q e q=>?_,Walks.list k h.objs.size l (OI m) items,⟨⟨_,OA _ rfl,rfl,rfl⟩,b.push _⟩,λi h' st o e=>?_⟩
  .subst e;exact wpAny_pyIter_list b q
  .obtain⟨⟨p,a,c,_⟩,_⟩:=st;rw[e]at a;cases a;rw[c];decide
 .have b:h.IsTuple l items:=⟨_,d,rfl,g,rfl⟩;refine⟨{ cls:=.type "tuple_iterator",data:=.fields #[.ref l,.int 0 0] },_,by show TM _≠TM _;decide,λf E s Q e q=>?_,Walks.tuple k h.objs.size l (OI m) items,⟨⟨_,OA _ rfl,rfl,rfl⟩,⟨_,Ol _ d,rfl,g,rfl⟩⟩,λi h' st o e=>?_⟩
  .subst e;exact wpAny_pyIter_tuple b q
  .obtain⟨⟨p,a,c,_⟩,_⟩:=st;rw[e]at a;cases a;rw[c];decide
def u3 {κ : Type} [DecidableEq κ] (K : qE prog w κ) {s : S9} {a : List κ} (g : T = "list" \/ T = "tuple")
    (S : A.handled = Y) (cz : A.units + 64 < TS) (u : s.heap.get? l = Z { cls := .type T, dict := aB, data := .seq k aA, slots := b1 }) (t : Paired (K.Row s.heap) k.toList a) (d : ∀ i, i < a.length -> (met a i).length < 76)
    (h : ∀ (h' : TH) (tk : Nat) (r : List κ), K.Set h' s.heap.objs.size r -> r.Perm (met a a.length) ->
      (∀ b o, b < s.heap.objs.size -> s.heap.get? b = Z o -> h'.get? b = Z o) -> Q (.ref s.heap.objs.size) { s with heap := h', toks := tk }) :
    Ta (Tc prog w) A (call (.type "set") [.ref l]) Q E s := by
  obtain ⟨c, cN, cx⟩ := QC.mro
  have cw := QC.made
  have cM := QC.sub
  refine wpAny_call (codeAny_of_tree ?_)
  show Ta _ _ (callAny (.type "set") _) _ _ _
  refine Oj ⟨RY _ (by decide +kernel), PA F.entry_type_call ?_⟩
  rw [Around.under_plain (weight_type_call_type "set" [.ref l] []) rfl]
  have a7 := QC.notType
  have a5 := QC.canCreate
  have a8 := F.typeCall_set_1 (.ref l)
  repeat (any_goals (first | assumption | wp_step))
  refine RN (nk (.ref l) (E := E) (Q₁ := fun x y => ∃ led : Bool, led = (!w.params.followText "set-order") /\ x = .ref s.heap.objs.size /\ y = { s with heap := s.heap.push { cls := .type "set", dict := Y, data := .set #[] 0 (.fresh 0 0 led) } }) ⟨_, rfl, rfl, rfl⟩) fun r y n => ?_
  cases r with
  | error e => exact n
  | ok G =>
    cases G with
    | ret x =>
      obtain ⟨led, a1, rfl, rfl⟩ := n
      have q : (s.heap.push { cls := .type "set", dict := Y, data := .set #[] 0 (.fresh 0 0 led) }).get? s.heap.objs.size = Z { cls := .type "set", dict := Y, data := .set #[] 0 (.fresh 0 0 led) } := OA _ rfl
      have M : Shared.TypeIs { s with heap := s.heap.push { cls := .type "set", dict := Y, data := .set #[] 0 (.fresh 0 0 led) } } (.ref s.heap.objs.size) "set" := ⟨_, q, rfl⟩
      have bw := QC.init.lookup
      have a6 := QC.init.bind (.ref s.heap.objs.size)
      repeat (any_goals (first | assumption | wp_step))
      refine RN (RE (R := wants (fun r z => r = .none /\ ∃ h' tk f, z = { s with heap := h', toks := tk } /\ K.Set h' s.heap.objs.size f /\ f.Perm (met a a.length) /\
          (∀ b o, b < s.heap.objs.size -> s.heap.get? b = Z o -> h'.get? b = Z o)) E) QC.init.plain F.entry_set_init (check_set_init_1 M ?_)) fun b2 z p => ?_
      · have ar : (s.heap.push { cls := .type "set", dict := Y, data := .set #[] 0 (.fresh 0 0 led) }).get? l = Z { cls := .type T, dict := aB, data := .seq k aA, slots := b1 } := Ol _ u
        have cq : isSubtype (.type T) (.type "set") = pure false := by rcases g with rfl | rfl; exact F.sub_list_set; exact F.sub_tuple_set
        have cf : isSubtype (.type T) (.type "frozenset") = pure false := by rcases g with rfl | rfl; exact F.sub_list_frozenset; exact F.sub_tuple_frozenset
        have b9 : (TM T == TM "dict") = false := by rcases g with rfl | rfl <;> decide
        have U : A.in1.in1.in1.handled = none := by simp [S]
        obtain ⟨cA, St, cc, V, W, st0, aj⟩ := Nx (prog := prog) (w := w) U g ar
        unfold Uh.«set.__init__» noKeywords U6
        generalize I : V7 = bb
        wp_walk
        subst I
        refine V _ _ _ _ rfl ?_
        refine Oh (RZ ?_)
        have a0 : l < s.heap.objs.size := Ou u
        have L : s.heap.objs.size ∉ [(s.heap.push { cls := .type "set", dict := Y, data := .set #[] 0 (.fresh 0 0 led) }).objs.size, l] := by
          rw [SK]; simp only [Oq, OC, Qw, S2, not_or]
          exact ⟨OI (PW _), RM a0⟩
        have a2 : k.size = a.length := by have := Paired.len t; simpa using this
        refine M6 K (W.toS) s.heap.objs.size L ?hu2 a s.heap (fun i s' st b d o e => ?nt) (fun i v ay => ?val) (fun i bl => d i ⋯) (k.size - 0) 0 _ ⋯ (OQ _)
          st0 (fun b o e _ => Ol _ (Ol _ e)) ⟨[], ?hS0, .refl _⟩ ?hR
        case hu2 => first | (show A.units + 1 + 1 + 1 + 1 < TS; lia) | (show A.units + 1 + 1 + 1 < TS; lia) | (simp [Around.in1]; lia)
        case nt =>
          rw [OC] at d
          subst d
          exact aj i _ st o e
        case val => exact yq t i v (by rw [OU]; exact ay)
        case hS0 =>
          refine K.fresh _ _ ?_
          rw [<- a1]
          exact Ol _ q
        case hR =>
          intro s' f j m ao
          obtain ⟨h', g', d', aX, aC⟩ := s'
          have C : g' = s.gens := j.gens
          have B : d' = s.drawn := j.drawn
          have D : aC = s.os := j.os
          subst C; subst B; subst D
          show Ta _ _ _ _ _ _
          refine Oj ?_
          show Ta _ _ (ret Value.none) _ _ _
          refine Oj ⟨rfl, h', aX, f, rfl, m, by rw [<- a2]; exact ao, fun b o d e => ?_⟩
          have N : b ≠ s.heap.objs.size := OI d
          have O : b ≠ (s.heap.push { cls := .type "set", dict := Y, data := .set #[] 0 (.fresh 0 0 led) }).objs.size := by
            rw [SK]; exact OI (WO d)
          exact j.heap b o (by simp only [Oq, OC, Qw, S2, not_or]; exact ⟨N, O⟩) (Ol _ (Ol _ e))
      · cases b2 with
        | error e => exact p
        | ok H =>
          cases H with
          | ret r =>
            obtain ⟨rfl, h', tk, f, rfl, m, ax, X⟩ := p
            repeat (any_goals (first | assumption | wp_step))
            exact h _ _ f m ax X
          | _ => exact p.elim
    | _ => exact n.elim
end
section
variable{prog:TK}{w:TU}
noncomputable def sq(M:S8->Prop)(prog)(w):qE prog w (List Int) where
 Row:=λh v g=>∃b,v=.ref b/\eb prog w h g b/\M v
 Set:=fP M prog w
 fresh:=λh a e=>⟨_,#[],0,_,e,⟨rfl,rfl,rfl⟩,rfl,p6 _,by show 0*5<7*3;decide,Ot 0,rfl,by show(!w.params.followText "set-order")=J<->_;simp,.nil,PY⟩
 moved:=λ{h h' a aC} x U k=>by
  obtain⟨o,C,B,t,R,X,a0,a1,a2,ay,aj,ar,ao,ax⟩:=x;refine⟨o,C,B,t,U _ R,X,a0,a1,a2,ay,aj,ar,Paired.mp (λe g ⟨⟨b,e1,u,y⟩,z⟩=>⟨⟨b,e1,u,?_⟩,z⟩) ao,ax⟩;obtain⟨f,j,n,D,p,G⟩:=y;exact⟨f,j,n,k b f D p,p,G⟩
 zj:=λx k=>by
  obtain⟨b,e,⟨f,j,m,l,i,d⟩,aB⟩:=x;exact⟨b,e,⟨f,j,m,k b f l i,i,d⟩,aB⟩
 ye:=λx o e=>by
  obtain⟨b1,_,_,_,q,L,_⟩:=x;rw[e]at q;cases q;rw[L.1];decide
 add:=λ{A E s a v k g Q} T I S O h=>by
  obtain⟨b,rfl,N,H⟩:=S;refine KR T I N H O λh' tk V r aA l i d=>h h' tk V r aA l i ?_
  by_cases c:k∈g
  .rw[if_pos c]at d ⊢;exact d
  .rw[if_neg c]at d ⊢;exact d
end
def lD:Slot "set_iterator" "__next__" "set_iterator.__next__" :=
 .of (owner:="set_iterator") (n:="__next__") (by rw[SG,Rn];kernel_rfl) (by decide +kernel) (by decide +kernel) (by decide +kernel)
  (by first|exact .inl (by decide +kernel)|exact .inr (by decide +kernel)) (by rw[R0];kernel_rfl)
def vR:XC table "set_iterator.__next__"=Z Uh.«set_iterator.__next__»:=entryFor_of_tree (by kernel_rfl)
def yn:Manifest.owners.lookup (String.ofList ['r','o','t','a','r','e','t','i','_','t','e','s'].reverse)=Z Manifest.sig_set_iterator:=by kernel_rfl
def uI(a):XD "set_iterator.__next__" ⟨[a],[]⟩:=by
 unfold XD;rw[Wz (id:="set_iterator.__next__") (n:=['_','_','t','x','e','n','_','_']) (o:=['r','o','t','a','r','e','t','i','_','t','e','s']) (by kernel_rfl) yn];kernel_rfl
def zR:Slot "set_iterator" "__iter__" "set_iterator.__iter__" :=
 .of (owner:="set_iterator") (n:="__iter__") (by rw[SG,Rn];kernel_rfl) (by decide +kernel) (by decide +kernel) (by decide +kernel)
  (by first|exact .inl (by decide +kernel)|exact .inr (by decide +kernel)) (by rw[R0];kernel_rfl)
def Bh(a):XD "set_iterator.__iter__" ⟨[a],[]⟩:=by
 unfold XD;rw[Wz (id:="set_iterator.__iter__") (n:=['_','_','r','e','t','i','_','_']) (o:=['r','o','t','a','r','e','t','i','_','t','e','s']) (by kernel_rfl) yn];kernel_rfl
def zQ:Slot "set" "__iter__" "set.__iter__" :=
 .of (owner:="set") (n:="__iter__") (by rw[SG,Rn];kernel_rfl) (by decide +kernel) (by decide +kernel) (by decide +kernel)
  (by first|exact .inl (by decide +kernel)|exact .inr (by decide +kernel)) (by rw[R0];kernel_rfl)
def Bg(a):XD "set.__iter__" ⟨[a],[]⟩:=by
 unfold XD;rw[Wz (id:="set.__iter__") (n:=['_','_','r','e','t','i','_','_']) (o:=['t','e','s']) (by kernel_rfl) PySem.F.owner_set];kernel_rfl
def Dp:XC table "set.__iter__"=Z Uh.«frozenset.__iter__»:=SM (id':="frozenset.__iter__") (by kernel_rfl) rfl (by decide +kernel) (by kernel_rfl)
def Dq:XC table "set_iterator.__iter__"=Z Uh.«dict_keyiterator.__iter__»:=SM (id':="dict_keyiterator.__iter__") (by kernel_rfl) rfl (by decide +kernel) (by kernel_rfl)
theorem v5{α:Type}:∀(l:List α)(i:Nat)(h:i<l.length),(l[i]::l.eraseIdx i).Perm l
 |x::r,0,_=>by simp
 |x::r,i+1,h=>by
  simp only[List.getElem_cons_succ,List.eraseIdx_cons_succ];exact(UR _ _ _).trans ((v5 r i (by simpa using h)).cons x)
theorem yE{α:Type}(next):∀(fuel k:Nat)(left:List α)(a:Array α),left.length<=fuel->(WQ next fuel k left a).toList.Perm (a.toList++left)
 |0,k,left,a,h=>by
  have:left=[]:=VB.mp ⋯;subst this;simp[WQ]
 |fuel+1,k,left,a,h=>by
  unfold WQ;cases left with
  |nil=>simp
  |cons x r =>
   have b:next k%(x::r).length<(x::r).length:=Sx _ (by simp)
   have c:(x::r)[next k%(x::r).length]?=Z (x::r)[next k%(x::r).length]:=Ov b;rw[c];refine(yE next fuel (k+1) _ _ (by rw[List.length_eraseIdx_of_lt b];simp only[To]at h ⊢;lia)).trans ?_;rw[Array.toList_push,Pk];exact List.Perm.append_left _ (v5 _ _ b)
def IT{α:Type}(next)(xs:Array α):(Wo next xs).toList.Perm xs.toList:=by
 unfold Wo;have:=yE next xs.size 0 xs.toList #[] (by simp)
 simpa using this
section
variable{prog:TK}{w:TU}
structure ha(w:TU)(o:Uq)(az:Array (Int×S8))(gQ:Nat)(t:UG):Prop where
 ex:o.ExactSet
 data:o.data=.set az gQ t
 tab:Tab az t
 plain:t.plain=J
 led:t.led=J<->w.params.followText "set-order"=S6
noncomputable def dj(w:TU)(a:Td)(b:Array (Int×S8))(c:Nat):Array (Int×S8):=if w.params.followText "set-order"=J then Wo (w.params.setOrder a c) b else b
def jT(w)(a)(b)(c):(dj w a b c).toList.Perm b.toList:=by
 unfold dj;split
 .exact IT _ _
 .exact .refl _
noncomputable def slotAt(w:TU)(t:UG)(i:Nat):Nat:=if w.params.followText "set-order"=J then 0 else match i with
 |0=>0
 |j+1=>t.place.getD j 0+1
def jq(h:TH)(c a:Td)(slot i n b:Nat):Prop:=∃o,h.get? c=Z o/\o.cls=.type "set_iterator"/\o.data=.fields #[.int slot 0,.int i 0,.ref a,.int n 0,.int b 0]
def jq.typeIs{s:S9}{slot i n b:Nat}(h:jq s.heap e a slot i n b):s.TypeIs (.ref e) "set_iterator":=let ⟨o,d,c,_⟩:=h;⟨o,d,c⟩
def BL{e:Array (Int×S8)}(T:Tab e t)(hw:w.params.followText "set-order"=S6)(q:i<=e.size):below t.place (slotAt w t i)=i:=by
 unfold slotAt;rw[if_neg (by rw[hw];decide)];obtain⟨b,a,d⟩:=mf T.gY (match i with|0=>0|j+1=>t.place.getD j 0+1);rw[T.d5]at b;cases i with
 |zero =>
  dsimp only at b a d
  by_cases c:below t.place 0=0
  .exact c
  .exfalso;have o:0<t.place.size:=(by rw[T.d5];lia);have:=a 0 _ ⋯ (Oy o);lia
 |succ j =>
  have h:j<t.place.size:=(by rw[T.d5];lia);have f:t.place[j]?=Z t.place[j]:=Oy h;have m:t.place.getD j 0=t.place[j]:=(by simp[Vi,h]);dsimp only at b a d ⊢;rw[m]at b a d ⊢
  by_cases k:below t.place (t.place[j]+1)<=j
  .exfalso;have:=d j _ k f;lia
  .by_cases l:j+1<below t.place (t.place[j]+1)
   .exfalso;have n:j+1<t.place.size:=(by rw[T.d5];lia);have g:t.place[j+1]?=Z t.place[j+1]:=Oy n;have a1:=a (j+1) _ l g;have p:=T.gY j (j+1) _ _ ⋯ f g;lia
   .omega
def zF(g:s.heap.get? a=Z o)(O:ha w o az b t)(p:i<=az.size)(h:Q ((dj w a az b)[i]?.map λe=>(e.2,slotAt w t (i+1))) s):Ta (Tc prog w) A (setNext a (slotAt w t i) i b) Q E s:=by
 unfold setNext;refine Oh (OT g O.data (Tab.fits O.tab) ?_);dsimp only;unfold Vj;refine Oh (Oh (PL (Oj ?_)));cases hw:w.params.followText "set-order" with
 |true =>
  have d:(Tc prog w).w.params.followText "set-order"=true:=hw;simp only[d,Pb];simp only[P1,Om,OH];refine Oh ?_;unfold setWalk;refine Oh (OT g O.data (Tab.fits O.tab) ?_);unfold Vj;refine Oh (Oh (PL (Oj ?_)));simp only[d,Pb];refine Oh (PL (Oj ?_));have e1:dj w a az b=Wo (w.params.setOrder a b) az:=(by unfold dj;rw[if_pos hw]);have k:∀i,slotAt w t i=0:=λi=>by unfold slotAt;rw[if_pos hw]
  rw[e1]at h;refine Oj ?_;simp only[k]at h ⊢;exact h
 |false =>
  have d:(Tc prog w).w.params.followText "set-order"=false:=hw;simp only[d,Om,OH];have n:(!t.plain&&decide (az.size>1))=false:=(by rw[O.plain];rfl);show Ta (Tc prog w) A (if (!t.plain&&decide (az.size>1))=J then _ else _) Q E s;rw[n];simp only[Om,OH];have q:t.led=true:=O.led.mpr hw;refine Oh ?_;show Ta (Tc prog w) A (if (!t.led&&!az.isEmpty)=J then _ else pure ()) _ E s;rw[q];simp only[Pl,QQ,Om,OH];refine Oj ?_;rw[BL O.tab hw p];have e1:dj w a az b=az:=(by unfold dj;rw[if_neg (by rw[hw];decide)]);rw[e1]at h;refine Oj ?_
  by_cases c:i<az.size
  .have f:az[i]?=Z az[i]:=Oy c;have j:i<t.place.size:=(by rw[O.tab.d5];exact c);have m:t.place[i]?=Z t.place[i]:=Oy j;rw[f]at h ⊢;rw[m];have l:slotAt w t (i+1)=t.place[i]+1:=(by unfold slotAt;rw[if_neg (by rw[hw];decide)];simp[Vi,j]);rw[l]at h;exact h
  .have f:az[i]?=none:=P7 ⋯;rw[f]at h ⊢;exact h
def next_item(u:s.heap.get? a=Z o)(O:ha w o e g t)(r:jq s.heap p a (slotAt w t i) i e.size g)(z:(dj w a e g)[i]?=Z x)(B:∀h',jq h' p a (slotAt w t (i+1)) (i+1) e.size g->TA p s.heap h'->Q (Z x.2) { s with heap:=h' }):Ta (Tc prog w) A (U4 (.ref p)) Q E s:=by
 obtain⟨h,k,y,b⟩:=id r;have hsz:(dj w a e g).size=e.size:=by have:=(jT w a e g).length_eq;simpa using this
 have D:i<=e.size:=by rw[<- hsz];exact QR (OP.mp z).1
 have G:p≠a:=by
  rintro rfl;rw[u]at k;cases k;rw[O.data]at b;cases b
 unfold U4;refine Oh (RB (PH (name:=Ud "__next__") r.typeIs lD
  (Pt lD r.typeIs vR ?_ (uI _))))
 unfold Uh.«set_iterator.__next__»;refine Oh (m:=slotArgs _ _ _) (Oj ?_);refine Oh (R1 k b ?_);dsimp only;refine Oh (RL u O.data (Tab.fits O.tab) ?_);simp only[P1,Om,OH];simp only[T9];refine Oh (zF u O D ?_);rw[z];simp only[Uj];have q:=OW (T1 (·.setIfInBounds 0 (UO (slotAt w t (i+1):Nat)))) k (by obtain⟨c,d,j,l⟩:=h;simp only at b;subst b;rfl);refine Oh (PZ k b (by simp) ?_);have f:(T1 (·.setIfInBounds 0 (UO (slotAt w t (i+1):Nat))) h).data=.fields #[.int (slotAt w t (i+1):Nat) 0,.int i 0,.ref a,.int e.size 0,.int g 0]:=by
  obtain⟨c,d,j,l⟩:=h;simp only at b;subst b;rfl
 have n:(T1 (·.setIfInBounds 0 (UO (slotAt w t (i+1):Nat))) h).cls=.type "set_iterator":=by
  obtain⟨c,d,j,l⟩:=h;simp only at b y;subst b;exact y
 generalize T1 (·.setIfInBounds 0 (UO (slotAt w t (i+1):Nat))) h=v at q f n;refine Oh (PZ q f (by simp) ?_);have C:=OW (T1 (·.setIfInBounds 1 (UO ((i:Int)+1)))) q (by obtain⟨c,d,j,l⟩:=v;simp only at f;subst f;rfl);refine Oj ?_;refine⟨_,rfl,Oj ?_⟩;refine B _ ⟨_,C,?_,?_⟩ ((Ph ..).trans (Ph ..))
 .obtain⟨c,d,j,l⟩:=v;simp only at f n;subst f;exact n
 .obtain⟨c,d,j,l⟩:=v;simp only at f n;subst f;rfl
def next_end(k:A.handled=Y)(g:s.heap.get? a=Z o)(O:ha w o c d t)(e:jq s.heap i a (slotAt w t c.size) c.size c.size d)(j:∀h',Heap.ExtBut i s.heap h'->Q Y { s with heap:=h' }):Ta (Tc prog w) A (U4 (.ref i)) Q E s:=by
 obtain⟨n,h,l,f⟩:=id e;have hsz:(dj w a c d).size=c.size:=by have:=(jT w a c d).length_eq;simpa using this
 unfold U4;refine Oh (RB (PH (name:=Ud "__next__") e.typeIs lD
  (Pt lD e.typeIs vR ?_ (uI _))))
 unfold Uh.«set_iterator.__next__»;refine Oh (m:=slotArgs _ _ _) (Oj ?_);refine Oh (R1 h f ?_);dsimp only;refine Oh (RL g O.data (Tab.fits O.tab) ?_);simp only[P1,Om,OH];simp only[T9];refine Oh (zF g O (Ot _) ?_);rw[P7 ⋯];simp only[Option.map_none];refine Oh (PZ h f (by simp) ?_);show Ta _ _ (newExc (.type "StopIteration") []>>=_) _ _ _;refine Oh ?_;simp only[newExc,newTuple];refine Oh (OZ ?_ (by size_fits));refine Oh (m:=Vk _ _) (Xg (a:=Value.none) (by first|rfl|(simp only[Vk];rfl)) ?_);refine OZ ?_ (by size_fits);simp only[raiseNew];refine Oh (wpAny_handled ?_);rw[show A.in1.handled=Y from k];refine Oh (Oj (wpAny_throw ?_));refine Oh (QV (T:="StopIteration") (b:=J) ⟨_,OA _ rfl,rfl⟩ isSubtype_stop ?_);exact Oj (j _ (((Ph ..).extBut.push _).push _))
def FJ{slot i n d:Nat}(b:jq s.heap c a slot i n d)(h:Q (.ref c) s):Ta (Tc prog w) A (V7 (.ref c)) Q E s:=by
 refine R9 b.typeIs zR (Pt zR b.typeIs Dq ?_ (Bh _));show Ta _ _ (ret (.ref c)) _ _ s;exact Oj ⟨_,rfl,"set_iterator",_,b.typeIs,lD.lookup,h⟩
def FK(c:s.heap.get? a=Z o)(O:ha w o d f t)(g:Q (.ref s.heap.objs.size) { s with heap:=s.heap.push { cls:=.type "set_iterator",data:=.fields #[.int 0 0,.int 0 0,.ref a,.int d.size 0,.int f 0] } }):Ta (Tc prog w) A (V7 (.ref a)) Q E s:=by
 have e:s.TypeIs (.ref a) "set":=⟨o,c,O.ex.1⟩;refine R9 e zQ (Pt zQ e Dp ?_ (Bg _));unfold Uh.«frozenset.__iter__» XP slotArgs;simp only[List.isEmpty_nil,Pl,Om,↓reduceIte,bind_assoc,TG,P1];unfold TJ XM;simp only[pure_bind,bind_assoc];refine Oh (RL c O.data (Tab.fits O.tab) ?_);unfold setDrawn;simp only[bind_assoc];refine Oh (OT c O.data (Tab.fits O.tab) ?_);unfold Vj;simp only[bind_assoc];refine Oh (PL ?_);simp only[pure_bind];have h:∀b:Bool,(!b&&(!t.plain&&decide (d.size>1)))=false:=λb=>by rw[O.plain];simp
 show Ta (Tc prog w) A.in1 (if (!(Tc prog w).w.params.followText "set-order"&&(!t.plain&&decide (d.size>1)))=J then _ else _) _ _ s;rw[h];simp only[Om,OH,pure_bind];unfold setEpoch;simp only[bind_assoc,pure_bind];refine Oh (OT c O.data (Tab.fits O.tab) ?_);dsimp only;refine Oh (OZ (Oj ⟨_,rfl,"set_iterator",_,⟨_,OA _ rfl,rfl⟩,lD.lookup,?_⟩));exact g
def Nz(p:A.handled=Y)(q:a≠I)(O:ha w o c d t):
  Walks prog w A I [I,a] [I] c.size (λi v=>∃x,(dj w a c d)[i]?=Z x/\v=x.2) (λi h=>jq h I a (slotAt w t i) i c.size d/\h.get? a=Z o) where
 sub:=λb f=>by simp at f;simp[f]
 frame:=λi h h' st k=>⟨let ⟨g,e,r⟩:=st.1;⟨g,k I (by simp) g e,r⟩,k a (by simp) o st.2⟩
 item:=λi s Q E y st j=>by
  have hsz:(dj w a c d).size=c.size:=(by have:=(jT w a c d).length_eq;simpa using this);have l:(dj w a c d)[i]?=Z (dj w a c d)[i]:=Oy ⋯;exact next_item st.2 O st.1 l λh' u m=>j _ h' s.toks ⟨_,l,rfl⟩ ⟨u,(m.2 a q).trans st.2⟩ λb g f e=>m.extBut b g (λh=>f (by simp[h])) e
 done:=λs Q E st j=>next_end p st.2 O st.1 λh' n=>j h' s.toks λb g f e=>n b g (λh=>f (by simp[h])) e
 self:=λi s Q E st j=>FJ st.1 j
def E6(a:s.TypeIs (.ref r) "set")(h:Q S6 s):Ta (Tc prog w) A (Ve (.ref r)) Q E s:=by
 unfold Ve;refine Oh (SA a PySem.F.slot_set_len.lookup ?_);generalize d:("set.__len__":String)=e
 wp_delta
 rw[show splitId e=Z ("set","__len__") from by subst d;decide +kernel];subst d;refine Oh (QV (T:="set") (b:=J) a (by rw[R0];kernel_rfl) ?_);refine wpAny_ite_split (λc=>absurd c ∅) (λ_=>?_);refine wpAny_ite_split (λ_=>?_) (λc=>absurd (by decide +kernel) c);refine Oh (Qj a ?_);exact Oj h
end
def Dr:XC table "set.__xor__"=Z Uh.«frozenset.__xor__»:=SM (id':="frozenset.__xor__") (by kernel_rfl) rfl (by decide +kernel) (by kernel_rfl)
noncomputable def z1(id:String)(l:Td)(r:S8):Sem Value:=do
 let a <- Vm id (<- UH l) r
 VI [a] (T6 id (<- TJ a) (.ref l))
 return a
def xor_eq(args:Args):Uh.«frozenset.__xor__» args=(do
 let (self,a) <- VC "__xor__" args
 let (l,r):=if S6 then(a,self) else(self,a)
 if !(<- Up l <&&> Up r) then XJ s!"frozenset.{"__xor__"}.declined";return <- ret .notImplemented
 ret (<- z1 s!"frozenset.{"__xor__"}" (<- TJ l) r)):=rfl
section
variable{prog:TK}{w:TU}{A:TO}{E:S8->S9->Prop}{s:S9}
def n0(a:s.TypeIs v "set")(h:Q J s):Ta (Tc prog w) A (Up v) Q E s:=by
 unfold Up;refine Oh (QV a WN ?_);exact Oj h
def BJ(b:s.TypeIs (.ref a) "set")(h:Q (.type "set") s):Ta (Tc prog w) A (UH a) Q E s:=by
 unfold UH;refine Oh (QV b WN ?_);exact Oj h
def cR.room{n:Nat}(d:1<=n)(h:n<=76):∃m,cR m/\(match (TN 0 0 J).roomFor n with|some a=>sizeAbove a-1|none=>7)=m/\n*5<m*3/\n<=m/\m<=511:=by
 have c:((Tp 77).all λn=>decide (n=0)||(decide ((match (TN 0 0 J).roomFor n with|some a=>sizeAbove a-1|none=>7)∈[7,15,31,63,127,255,511])&&decide (n*5<(match (TN 0 0 J).roomFor n with|some a=>sizeAbove a-1|none=>7)*3)&&decide (n<=(match (TN 0 0 J).roomFor n with|some a=>sizeAbove a-1|none=>7))&&decide ((match (TN 0 0 J).roomFor n with|some a=>sizeAbove a-1|none=>7)<=511)))=true:=by decide +kernel
 have k:=OM.mp c n (Ts.mpr ⋯);simp only[PF,Oi,Oz]at k;rcases k with k|⟨⟨⟨k1,k2⟩,k3⟩,b⟩
 .omega
 .refine⟨_,?_,rfl,k2,k3,b⟩;simpa[cR] using k1
def Gm(m f a)(led b):laid m f a led b #[]=Z ({ mask:=m,place:=#[],dummies:=#[],finger:=f,led,moves:=a,plain:=b },#[]):=by
 have e:(Tp (m+1)).filterMap (λj=>((UI (m+1) (Y:Option Nat)).getD j Y).map (j,·))=[]:=by
  rw[List.filterMap_eq_nil_iff];intro j c;have:(UI (m+1) (Y:Option Nat)).getD j Y=none:=by
   have:=Ts.mp c;simp[Vi,this]
  rw[this];rfl
 unfold laid layClean;simp only[Array.foldl_empty,Uj,U9,Vy,e];rfl
def MB{led d:Bool}(c:cR m):Tab (α:=S8) #[] { mask:=m,place:=#[],dummies:=#[],finger:=f,led,moves:=k,plain:=d }:=by
 refine⟨λi j a b _ h=>?_,λi j a b _ h=>?_,λi j h=>?_,λi j h=>?_,λi g j h=>?_,rfl,c,OQ _,λi j e h=>?_⟩<;>simp at h
def Hl {led : Bool} (e1 : a ≠ b) (n : s.heap.get? a = Z p) (a1 : p.ExactSet) (j : p.data = .set #[] y (.fresh 0 0 led))
    (a2 : led = J <-> w.params.followText "set-order" = S6) (bl : eJ M prog w s.heap b c r) (hX : r.length <= 76) (h : ∀ h' aA, TA a s.heap h' -> eJ M prog w h' a r.length aA -> aA.Perm r -> Q () { s with heap := h' }) :
    Ta (Tc prog w) A (setMerge a b aX) Q E s := by
  obtain ⟨o, d, bb, t, oh, hW, bw, T, ar, hV, ao, ed, G, fk⟩ := bl
  have dv : d.size = r.length := by have := Paired.len G; simpa using this
  have iL : ∀ {h' : TH}, TA a s.heap h' -> ∀ (e : Int × S8) (I : List Int), (ei prog w s.heap e I /\ M e.2) -> (ei prog w h' e I /\ M e.2) := fun {h'} gp e I x => ⟨x.1.move n j gp, x.2⟩
  unfold setMerge
  have e0 : (a == b) = false := by rw [beq_eq_false_iff_ne]; exact e1
  rw [e0]
  simp only [Om, OH]
  refine Oh (OT oh bw (Tab.fits T) ?_)
  dsimp only
  by_cases q : d.isEmpty = J
  · rw [if_pos q]
    have cN : d = #[] := Sa.mp q
    subst cN
    cases G
    refine Oj (h s.heap [] (Qp a s.heap) ⟨p, #[], y, _, n, a1, j, p6 led, by show 0 * 5 < 7 * 3; decide, Ot 0, rfl, a2, .nil, PY⟩ (.refl _))
  · rw [if_neg q]
    have eM : 1 <= d.size := by
      rcases Nat.eq_zero_or_pos d.size with z | z
      · exact absurd (Sa.mpr (Array.eq_empty_of_size_eq_zero z)) q
      · exact z
    obtain ⟨m, aj, k, ee, en, f8⟩ := cR.room eM ⋯
    have aC : ∀ (l : TH) (B u : Nat), TA a s.heap l -> l.get? a = Z { p with data := .set #[] B { mask := m, place := #[], dummies := #[], finger := 0, led := led, moves := u, plain := J } } ->
        Ta (Tc prog w) A (do
          let (_, _, ts) <- setState a
          match ts.road t with
          | .slotForSlot => storeSet a d { t with finger := ts.finger, led := ts.led && t.led, moves := ts.moves, plain := ts.plain && t.plain }
          | .clean =>
            let (d, t) <- (do
              let Z (t, v) := Wy ts.mask ts.finger ts.moves (led := ts.led && t.led) (plain := ts.plain && t.plain) (d.map (·.1)) | unsupported "internal:set-table-without-room"
              let V := v.filterMap (d[·]?)
              if V.size != d.size then Xh "internal:set-table-lost-an-element"
              pure (V, t))
            storeSet a d t
          | .oneByOne =>
            for (h, x) in <- WA b [a] (Z a) do
              let _ <- VI [x] (VQ a x h)
              aX
              if (<- setState b).2.1 != bb then Xh "set.changed-during-merge") Q E { s with heap := l } := fun l B u hQ D => by
      refine Oh (OT D rfl (Tab.fits (MB aj)) ?_)
      dsimp only
      have dP : (led && t.led) = J <-> w.params.followText "set-order" = false := by
        rw [Oi, a2, ed]; exact ⟨fun z => z.1, fun z => ⟨z, z⟩⟩
      have fin : ∀ (g : Array (Int × S8)) (f : UG), Tab g f -> f.fill = d.size -> d.size * 5 < f.mask * 3 -> f.plain = J -> f.led = (led && t.led) -> g.toList.Perm d.toList ->
          Ta (Tc prog w) A (storeSet a g f) Q E { s with heap := l } := fun g f b1 X a5 a6 a8 a0 => by
        have hz : g.size = d.size := by have := a0.length_eq; simpa using this
        refine QN D rfl ?_ (by rw [hz, Tw]; lia)
        have dI : (l.update a (T8 g f)).get? a = Z { p with data := .set g (B + 1) f } := by
          have := OW (T8 g f) D (by rw [QU g f rfl]; rfl)
          rw [QU g f rfl] at this; exact this
        have ax := hQ.trans (Ph l a (T8 g f))
        obtain ⟨gP, aB, f0⟩ := Paired.perm a0 G
        exact h _ gP ax ⟨_, g, _, f, dI, a1, rfl, b1, by rw [X]; exact a5, by rw [X, dv]; exact Ot _, a6, by rw [a8]; exact dP, Paired.mp (iL ax) f0, (aB.nodup_iff).mpr fk⟩ aB
      unfold SetTable.road
      have c0 : ((XK { mask := m, place := #[], dummies := #[], finger := 0, led := led, moves := u, plain := J }) != 0) = false := rfl
      rw [c0]
      simp only [Om, OH]
      by_cases H : (m == t.mask && t.dummies.isEmpty) = J
      · simp only [H, Pb]
        have cz : t.dummies = #[] := Sa.mp (Bool.and_eq_true_iff.mp H).2
        have C := T.fill
        rw [cz] at C
        exact fin d _ (T.flags rfl rfl rfl) C (by rw [C] at ar; exact ar) (by show (J && t.plain) = J; rw [ao]; rfl) rfl (.refl _)
      · have fT : (m == t.mask && t.dummies.isEmpty) = false := by simpa using H
        simp only [fT, Om, OH]
        obtain ⟨f, v, i, N, O, R, S, U, b2, _⟩ := xo (α := S8) aj d en 0 u (led && t.led) (J && t.plain)
        have cA : f.dummies = #[] := by
          have i := i
          unfold Wy at i
          cases z : layClean m (d.map (·.1)) with
          | none => rw [z] at i; cases i
          | some iP => rw [z] at i; cases i; rfl
        refine Oh ?_
        rw [i]
        show Ta (Tc prog w) A (if ((v.filterMap (d[·]?)).size != d.size) = J then _ else pure (v.filterMap (d[·]?), f)) _ E _
        rw [if_neg (by rw [S]; simp)]
        refine Oj ?_
        exact fin _ f U (by rw [U.fill, cA, S]; rfl) (by rw [N]; exact ee) (by rw [R, ao]; rfl) O b2
    refine Oh ?_
    unfold setRoomFor
    refine Oh (OT n j (Tab.fits (p6 led)) ?_)
    dsimp only
    have a7 : (TN 0 0 led).roomFor d.size = (TN 0 0 J).roomFor d.size := rfl
    rw [a7]
    cases ay : (TN 0 0 J).roomFor d.size with
    | none =>
      rw [ay] at k
      have k : 7 = m := k
      subst k
      dsimp only
      refine Oj (aC s.heap y 0 (Qp a s.heap) ?_)
      rw [n]
      obtain ⟨i, N, O, R⟩ := p
      cases j
      rfl
    | some L =>
      rw [ay] at k
      have k : sizeAbove L - 1 = m := k
      dsimp only
      unfold setRelay
      refine Oh (OT n j (Tab.fits (p6 led)) ?_)
      dsimp only
      have gq : ¬ sizeAbove L > sizeLine := by rw [Tw]; lia
      rw [if_neg gq]
      have gn : (TN 0 0 led).relaid ((#[] : Array (Int × S8)).map (·.1)) L = Z ({ mask := m, place := #[], dummies := #[], finger := 0, led := led, moves := (TN 0 0 led).movedTo m, plain := J }, #[]) := by
        unfold VX
        rw [k, show (#[] : Array (Int × S8)).map (·.1) = #[] by simp]
        exact Gm m 0 _ led J
      refine Oh ?_
      rw [gn]
      refine Oj ?_
      dsimp only
      refine QN n j ?_ (by rw [Tw]; show 0 <= _; lia)
      refine aC _ (y + 1) ((TN 0 0 led).movedTo m) (Ph s.heap a _) ?_
      have := OW (T8 ((#[] : Array Nat).filterMap ((#[] : Array (Int × S8))[·]?)) { mask := m, place := #[], dummies := #[], finger := 0, led := led, moves := (TN 0 0 led).movedTo m, plain := J }) n (by rw [QU _ _ j]; rfl)
      rw [QU _ _ j] at this
      exact this
def KU(e:s.heap.get? a=Z o)(O:ha w o az b t)(h:Q (dj w a az b) s):Ta (Tc prog w) A (setWalk a) Q E s:=by
 unfold setWalk;refine Oh (OT e O.data (Tab.fits O.tab) ?_);dsimp only;unfold Vj;refine Oh (Oh (PL (Oj ?_)));cases hw:w.params.followText "set-order" with
 |true =>
  have c:(Tc prog w).w.params.followText "set-order"=true:=hw;simp only[c,Pb];have e1:dj w a az b=Wo (w.params.setOrder a b) az:=(by unfold dj;rw[if_pos hw]);rw[e1]at h;exact Oh (PL (Oj h))
 |false =>
  have c:(Tc prog w).w.params.followText "set-order"=false:=hw;simp only[c,Om,OH];have d:(!t.plain&&decide (az.size>1))=false:=(by rw[O.plain];rfl);show Ta (Tc prog w) A (if (!t.plain&&decide (az.size>1))=J then _ else _) Q E s;rw[d];simp only[Om,OH];refine Oh ?_;show Ta (Tc prog w) A (if (!t.led&&decide (az.size>1))=J then _ else pure ()) _ E s;rw[O.led.mpr hw];simp only[Pl,QQ,Om,OH];have e1:dj w a az b=az:=(by unfold dj;rw[if_neg (by rw[hw];decide)]);rw[e1]at h;exact Oj (Oj h)
def M5(c:s.heap.get? a=Z o)(O:ha w o b d t)(h:Q (dj w a b d) s):Ta (Tc prog w) A (WA a l f) Q E s:=by
 unfold WA;refine Oh (OT c O.data (Tab.fits O.tab) ?_);dsimp only;unfold Vj;refine Oh (Oh (PL (Oj ?_)));have e:((Tc prog w).w.params.followText "set-order"||t.led&&t.plain||decide (b.size<=1))=true:=by
  cases hw:w.params.followText "set-order" with
  |true =>
   have g:(Tc prog w).w.params.followText "set-order"=true:=hw;rw[g];rfl
  |false=>rw[O.led.mpr hw,O.plain];simp
 show Ta (Tc prog w) A (if ((Tc prog w).w.params.followText "set-order"||t.led&&t.plain||decide (b.size<=1))=J then _ else _) Q E s;rw[e];simp only[Pb];exact KU c O h
def Ew(aA:A.units<TS)(aj:a≠b)(B:s.heap.get? b=Z o)(O:ha w o T S t)(cf:Paired (λe d=>ei prog w s.heap e d/\M e.2) T.toList k1)(bw:k1.Nodup)(a0:eJ M prog w s.heap a k2.length aB)(a8:aB.Perm k2)(eM:k2.length+(k1.filter λk=>!decide (k∈k2)).length<=76)(h:∀h' gx c,TA a s.heap h'->eJ M prog w h' a c gx->(∀k,k∈gx<->((k∈k1/\k∉k2)\/(k∉k1/\k∈k2)))->Q () { s with heap:=h' }):
  Ta (Tc prog w) A (T6 nm a (.ref b)) Q E s:=by
 obtain⟨oh,dP,ed,fT,ao,ee,a2,_⟩:=id a0;have a1:s.TypeIs (.ref b) "set":=⟨o,B,O.ex.1⟩;unfold T6;have e0:(Th b==Th a)=false:=by
  rw[beq_eq_false_iff_ne];intro e;cases e;exact aj rfl
 rw[e0];simp only[Om,OH];refine Oh (Qj a1 ?_);have e1:(TM "set"==TM "dict")=false:=by decide
 rw[e1];simp only[Om,OH];refine Oh (n0 a1 ?_);simp only[Pb];refine Oh (Oj ?_);refine Oh (m:=TJ _) (Oj ?_);refine Oh (Sb B O.data (Tab.fits O.tab) ?_);refine Pr ?_;refine Oh (M5 B O ?_);obtain⟨cz,cN,c0⟩:=Paired.perm (jT w b T S) cf;refine Oh (wpAny_forIn_array' _ (λb1 _ s'=>∃gN g h' gx,s'={ s with heap:=h' }/\TA a s.heap h'/\eJ M prog w h' a (k2.length+(gN.filter λk=>!decide (k∈k2)).length) gx
  /\ (∀k,k∈gx<->((k∈gN/\k∉k2)\/(k∉gN/\k∈k2)))/\Paired (λe d=>ei prog w s.heap e d/\M e.2) b1 g/\(gN++g).Perm k1) _ ?_ ?_ _ _ ⟨[],cz,s.heap,aB,rfl,Qp a s.heap,a0,λk=>?_,c0,cN⟩)
 .rintro⟨fk,x⟩ b1 a7 s' ⟨gN,g,h',gx,rfl,C,u,p,n,l⟩;cases n with
  |@cons _ d _ g cM n =>
  obtain⟨⟨c,U,N,v⟩,X⟩:=cM;dsimp only at U N X ⊢;subst U;subst N;have cx:=(l.nodup_iff).mpr bw;have ar:d∉gN:=λz=>(PQ.mp cx).2.2 d z d S7 rfl
  have a5:eb prog w h' d c:=v.kept λcA L=>(C.2 c (v.ne ao a2)).trans L
  have G:d∈gx<->d∈k2:=by
   rw[p];exact⟨λz=>z.elim (λy=>absurd y.1 ar) (·.2),λz=>.inr ⟨ar,z⟩⟩
  have ax:(gN++[d]++g).Perm k1:=(by rw[Pk];exact l);have same:∀(f:TH),TA a s.heap f->∀{R:ForInStep PUnit->S9->Prop},R (.yield ⟨⟩) { s with heap:=f }->Ta (Tc prog w) A (do Vf nm b S;pure (Uk PUnit.unit)) R E { s with heap:=f }:=λf cq R hR=>by
   have cc:f.get? b=Z o:=(cq.2 b (Pd aj)).trans B;refine Oh ?_;unfold Vf;refine Oh (Sb (s:={ s with heap:=f }) cc O.data (Tab.fits O.tab) ?_);simp only[P1,Om,OH];exact Oj (Oj hR)
  refine Oh (Pr (Oh (Dd (s:={ s with heap:=h' }) aA u a5 λf mQ dv bb q=>?_)));have D:=C.trans dv
  by_cases i:d∈k2
  .rw[if_pos (G.mpr i)]at q;rw[decide_eq_true (G.mpr i)];simp only[Pl,Om,OH];refine Oj (same f D ⟨gN++[d],g,f,mQ,rfl,D,?_,λk=>?_,n,ax⟩)
   .rw[QD,show [d].filter (λk=>!decide (k∈k2))=[] by simp[i],Pa];exact bb
   .obtain⟨_,_,_,_,_,_,_,_,_,_,_,_,_,cw⟩:=u;have bl:=(q.nodup_iff).mpr cw;have H:k∈gx<->k=d\/k∈mQ:=(by rw[<- q.mem_iff,Oq]);have b9:d∉mQ:=(OX.mp bl).1
    by_cases j:k=d
    .subst j;simp[i,b9]
    .have:k∈mQ<->k∈gx:=(by rw[H];simp[j]);rw[this,p];simp[j]
  .have I:d∉gx:=λz=>i (G.mp z)
   rw[if_neg I]at q;subst q;rw[decide_eq_false I];simp only[RV,Pb];have en:(gN.filter λk=>!decide (k∈k2)).length+1+(g.filter λk=>!decide (k∈k2)).length=(k1.filter λk=>!decide (k∈k2)).length:=by
    have:=(l.filter λk=>!decide (k∈k2)).length_eq;rw[QD,List.filter_cons_of_pos (by simp[i]),Oo,To]at this;lia
   have a6:eb prog w f d c:=v.kept λcA L=>(D.2 c (v.ne ao a2)).trans L
   refine Oh (uC (s:={ s with heap:=f }) aA bb a6 X ⋯ λV aC r dI b2 aX=>?_);have ay:=D.trans dI;rw[if_neg I]at b2 aX;refine Oj (same V ay ⟨gN++[d],g,V,aC,rfl,ay,?_,λk=>?_,n,ax⟩)
   .rw[QD,show [d].filter (λk=>!decide (k∈k2))=[d] by simp[i],Oo];exact b2
   .have H:k∈aC<->k=d\/k∈mQ:=(by rw[aX.mem_iff,Oq]);rw[H,p]
    by_cases j:k=d
    .subst j;simp[i]
    .simp[j]
 .rintro a7 s' ⟨gN,g,h',gx,rfl,C,u,p,n,l⟩;cases n;rw[Pa]at l;refine Oj (h h' gx _ C u λk=>?_);rw[p,l.mem_iff]
 .rw[a8.mem_iff];simp
def NK(T:A.units+1<TS)(b1:a≠b)(p:fP M prog w s.heap a k1)(q:fP M prog w s.heap b k2)(S:k2.length+(k1.filter λk=>!decide (k∈k2)).length<=76)(h:∀h' x c,TA s.heap.objs.size (s.heap.push { cls:=.type "set",dict:=Y,data:=.set #[] 0 (.fresh 0 0 (!w.params.followText "set-order")) }) h'->eJ M prog w h' s.heap.objs.size c x->(∀k,k∈x<->((k∈k1/\k∉k2)\/(k∉k1/\k∈k2)))->Q (.ref s.heap.objs.size) { s with heap:=h' }):
  Ta (Tc prog w) A (TV .BitXor (.ref a) (.ref b)) Q E s:=by
 obtain⟨V,ay,aB,a6,g,u,t,G,aX,bb,X,a0,a7,a1⟩:=id p;obtain⟨y,aA,aC,a8,i,v,N,I,a5⟩:=id q;have f:s.TypeIs (.ref a) "set":=⟨V,g,u.1⟩;have r:s.TypeIs (.ref b) "set":=⟨y,i,v.1⟩;refine wpAny_binaryOp_same (op:=.BitXor) f r F.fills_set_xor F.slot_set_xor (Pt F.slot_set_xor f Dr ?_ (F.args_set_xor_2 _ _));rw[xor_eq];refine Oh (m:=VC _ _) (Oj ?_);dsimp only;simp only[Om,OH];refine Oh (Oh (n0 f ?_));refine n0 r ?_;simp only[Pl,Om,OH];refine Oh (m:=TJ _) (Oj ?_);refine Oh ?_;unfold z1;refine Oh (BJ f ?_);unfold Vm;refine Oh (Oh ?_);unfold newSet Vj;refine Oh (Oh (PL (Oj ?_)));dsimp only;simp only[newObj];refine Oh (wpAny_alloc (Oj ?_));change Ta (Tc prog w) A.in1 _ _ E { s with heap:=s.heap.push { cls:=.type "set",dict:=Y,data:=.set #[] 0 (.fresh 0 0 (!w.params.followText "set-order")) } };have n:=OA (o:=({ cls:=.type "set",dict:=Y,data:=.set #[] 0 (.fresh 0 0 (!w.params.followText "set-order")) }:Uq)) s.heap rfl;have d:∀c o,s.heap.get? c=Z o->(s.heap.push { cls:=.type "set",dict:=Y,data:=.set #[] 0 (.fresh 0 0 (!w.params.followText "set-order")) }).get? c=Z o:=λc o e=>Ol _ e
 generalize s.heap.push { cls:=.type "set",dict:=Y,data:=.set #[] 0 (.fresh 0 0 (!w.params.followText "set-order")) }=H at h n d ⊢;have j:∀c o,s.heap.get? c=Z o->c≠s.heap.objs.size:=λc o e z=>OI (Ou e) z
 have O:s.heap.objs.size≠a:=Pd (j a _ g);have R:s.heap.objs.size≠b:=Pd (j b _ i);refine Oh (m:=TJ _) (Oj ?_);refine Oh (Pr ?_);unfold U6;refine Oh (n0 ⟨y,d _ _ i,v.1⟩ ?_);simp only[Pb];refine Oh (m:=TJ _) (Oj ?_);unfold XQ;refine Oh (Sb (d _ _ i) N (Tab.fits I) ?_);refine Hl (s:={ s with heap:=H }) R n ⟨rfl,rfl,rfl⟩ rfl (by simp) (q.kept d) ⋯ λh' b2 D ao ax=>?_
 refine Oj ?_;refine Oh (m:=TJ _) (Oj ?_);refine Oh (Pr ?_);have l:∀c o,s.heap.get? c=Z o->h'.get? c=Z o:=λc o e=>(D.2 c (j c o e)).trans (d c o e)
 obtain⟨_,_,_,_,B,bl,C,bw,cw,cx,b9,cc,y8,y9⟩:=eJ.kept p l;rw[l _ _ g]at B;cases B;rw[t]at C;cases C;refine Ew (s:={ s with heap:=h' }) (k1:=k1) (k2:=k2) (show A.units+1<TS from T) O (l _ _ g) ⟨u,t,G,X,a0⟩ y8 a1 ao ax S λL U c a2 aj ar=>?_
 refine Oj (Oj ⟨_,rfl,(λz=>by cases z),?_⟩);exact h L U c (D.trans a2) aj ar
end
end Pv
end
section
namespace Pv
open PySem PySem.Spec PyProof.Rows PySem.W
section
def vy(i:(d==Ub)=S6)(b:s.heap.get? d=Z c)(j:c.ExactDict)(e:c.data=.dict g f)(h:Q (.ref s.heap.objs.size) { s with heap:=s.heap.push { cls:=.type "dict_keyiterator",data:=.fields #[.ref d,.int 0 0,.int g.size 0,.int f 0] } }):Ta (Tc prog w) A (V7 (.ref d)) Q E s:=by
 have a:s.TypeIs (.ref d) "dict":=⟨c,b,j.1⟩;refine R9 a F.slot_dict_iter (Pt F.slot_dict_iter a F.entry_dict_iter ?_ (F.args_dict_iter_1 _));unfold Uh.«dict.__iter__»;refine Oh ?_;unfold Builtin.Dict.dictSlotNone;refine Oh (wpAny_notOrdered_dict a ?_);show Ta _ _ (pure (Th d)) _ _ s;refine Oj ?_;show Ta _ _ (V3 d>>=_) _ _ s;unfold V3;rw[if_neg (by rw[i];exact Pc)];refine Oh (Oj ?_);refine Oh (Sd b e ?_);refine Oh (SH b e ?_);refine Oh (OZ (Oj ⟨_,rfl,"dict_keyiterator",_,⟨_,OA _ rfl,rfl⟩,PG.lookup,?_⟩));simpa[UO] using h
def vz(a:s.heap.IsKeyIter b d i c.size gQ)(j:s.heap.get? d=Z n)(g:n.data=.dict c gQ)(m:i<c.size)(k:∀h',h'.IsKeyIter b d (i+1) c.size gQ->TA b s.heap h'->Q (Z c[i].key) { s with heap:=h' }):Ta (Tc prog w) A (U4 (.ref b)) Q E s:=by
 obtain⟨o,f,l,e⟩:=id a;unfold U4;refine Oh (RB (PH (name:=Ud "__next__") a.typeIs PG
  (Pt PG a.typeIs RF ?_ (Ru _))))
 refine Oh (Oj ?_);refine Oh ?_;refine Oh ?_
 first|refine Oh (P0 a.typeIs (Oj ?_))|refine Oh (Qr a.typeIs (Oj ?_))
 refine Oh (R1 f e ?_);simp only[show U7 "dict_keyiterator"=S6 by decide,Om,OH];show Ta _ _ (if (Th d==Value.none)=J then _ else _) _ _ s;rw[if_neg (show ¬((Th d==Value.none)=J) from Pc)];refine Oh (Oj ?_);refine Oh (Sd j g ?_);rw[if_neg (by simp)];refine Oh (Oj ?_);refine Oh (SH j g ?_);rw[if_neg (by simp)];refine Oj ?_;simp only[show ¬((i:Int)<0) from by lia,OH,T9,Oy m];refine Oh ?_
 first|refine Oh (P0 a.typeIs (Oj ?_))|refine Oh (Qr a.typeIs (Oj ?_))
 refine Oh (V4 a.typeIs ?_);show Ta _ _ (setField (.ref b) 1 (UO ((i:Int)+1))>>=_) _ _ s;refine Oh (PZ f e (by simp) ?_);have h:(s.heap.update b (T1 (·.setIfInBounds 1 (UO ((i:Int)+1))))).IsKeyIter b d (i+1) c.size gQ :=
  ⟨_,OW _ f (QK (PX e _)),(WR ..).trans l,by rw[PX e];simp[UO]⟩
 refine Oh (Pr ?_);refine Oh (V4 (s:={ s with heap:=s.heap.update b (T1 (·.setIfInBounds 1 (UO ((i:Int)+1)))) }) h.typeIs ?_);show Ta _ _ (pure c[i].key) _ _ _;exact Oj (Oj ⟨_,rfl,Oj (k _ h (Ph ..))⟩)
def vx(n:A.handled=Y)(c:s.heap.IsKeyIter f d e.size e.size k)(j:s.heap.get? d=Z p)(h:p.data=.dict e k)(l:∀h',Heap.ExtBut f s.heap h'->Q Y { s with heap:=h' }):Ta (Tc prog w) A (U4 (.ref f)) Q E s:=by
 obtain⟨o,i,q,g⟩:=id c;unfold U4;refine Oh (RB (PH (name:=Ud "__next__") c.typeIs PG
  (Pt PG c.typeIs RF ?_ (Ru _))))
 refine Oh (Oj ?_);refine Oh ?_;refine Oh ?_
 first|refine Oh (P0 c.typeIs (Oj ?_))|refine Oh (Qr c.typeIs (Oj ?_))
 refine Oh (R1 i g ?_);simp only[show U7 "dict_keyiterator"=S6 by decide,Om,OH];show Ta _ _ (if (Th d==Value.none)=J then _ else _) _ _ s;rw[if_neg (show ¬((Th d==Value.none)=J) from Pc)];refine Oh (Oj ?_);refine Oh (Sd j h ?_);rw[if_neg (by simp)];refine Oh (Oj ?_);refine Oh (SH j h ?_);rw[if_neg (by simp)];refine Oj ?_;simp only[show ¬((e.size:Int)<0) from by lia,OH,T9,P7 (Ot e.size)];refine Oh ?_
 first|refine Oh (P0 c.typeIs (Oj ?_))|refine Oh (Qr c.typeIs (Oj ?_))
 show Ta _ _ (setField (.ref f) 0 .none>>=_) _ _ s;refine Oh (PZ i g (by simp) ?_);show Ta _ _ (newExc (.type "StopIteration") []>>=_) _ _ _;refine Oh ?_;simp only[newExc,newTuple];refine Oh (OZ ?_ (by size_fits));refine Oh (m:=Vk _ _) (Xg (a:=Value.none) (by first|rfl|(simp only[Vk];rfl)) ?_);refine OZ ?_ (by size_fits);simp only[raiseNew];refine Oh (wpAny_handled ?_);rw[show A.in1.handled=Y from n];refine Oh (Oj (wpAny_throw ?_));refine Oh (QV (T:="StopIteration") (b:=J) ⟨_,OA _ rfl,rfl⟩ isSubtype_stop ?_);exact Oj (l _ (((Ph ..).extBut.push _).push _))
end
section
def qy(a:Array W2)(i:Nat)(v:S8):Prop:=∃e,a[i]?=Z e/\v=e.key
def Ny(q:A.handled=Y)(I)(t:d≠I)(j:g.data=.dict f n):Walks prog w A I [I,d] [I] f.size (qy f) (λi h=>h.IsKeyIter I d i f.size n/\h.get? d=Z g) where
 sub:=λb a=>by simp at a;simp[a]
 frame:=λ_ _ _ st l=>⟨st.1.at λo e=>l I (by simp) o e,l d (by simp) g st.2⟩
 item:=λi s Q E k st c=>by
  refine vz st.1 st.2 j k λh' r m=>?_
  exact c _ h' s.toks ⟨f[i],Oy k,rfl⟩ ⟨r,m.extBut d g t st.2⟩ λb o a e=>m.extBut b o (λh=>a (by simp[h])) e
 done:=λs Q E st c=>vx q st.1 st.2 j λh' p=>c h' s.toks λb o a e=>p b o (λh=>a (by simp[h])) e
 self:=λ_ _ _ _ st c=>We st.1 c
def Li(k:(d==Ub)=S6)(e:b.ExactDict)(g:b.data=.dict f l):KdlSrc prog w "dict" d d f.size (qy f) (λh=>h.get? d=Z b) where
 type:=λ_ a=>⟨b,a,e.1⟩
 there:=λ_ a=>⟨Ou a,Ou a⟩
 keep:=λ_ _ a j=>j d (.inl rfl) b a
 notList:=by decide
 notTuple:=by decide
 hint:=λ_ _ _ _ a c=>kdl_hint_dict ⟨b,a,e.1⟩ c
 iter:=λ_ s i a=>⟨_,_,(λ_ _ c=>vy k a e g c),Ny i _ (OI (Ou a)) g,⟨⟨_,OA _ rfl,rfl,rfl⟩,Ol _ a⟩⟩
end
end Pv
end
section
namespace Pv
open PySem PySem.Spec PyProof.Rows dO PySem.SetTable
section
def CH (e : s.heap.IsTuple l a.toArray)
    (h : Q a { s with heap := (s.heap.push (Ul "list" #[] 0)).update s.heap.objs.size (TX (· ++ a.toArray)) }) (hsz : a.length <= Tx) :
    Ta (Tc prog w) A (Wq (.ref l)) Q E s := by
  obtain ⟨o, f, c, n, d⟩ := id e
  unfold Wq
  refine Oh (RZ (PA entry_proto_collect' ?_))
  show Ta _ _ (do XN (.builtin "list.__iadd__" ⟨[<- Xq [], .ref l], []⟩)) _ _ s
  refine Oh (SU (Oj ⟨RY _ (by decide +kernel), PA entry_list_iadd' ?_⟩))
  show Ta _ _ (T5 (.ref s.heap.objs.size) (.ref l) (.ref s.heap.objs.size)) _ _ { s with heap := s.heap.push (Ul "list" #[] 0) }
  unfold T5
  have b : (s.heap.push (Ul "list" #[] 0)).get? l = Z o := Ol _ f
  refine Oh (Qj (T := "tuple") ⟨o, b, c⟩ ?_)
  have g : (TM "tuple" == TM "tuple") = true := by rfl
  rw [if_pos (by rw [g]; simp)]
  refine Oh (WS b d ?_)
  refine Oh (WS (xs := #[]) (n := 0) (OA _ rfl) rfl ?_)
  rw [if_neg (by simp)]
  refine Oh (Si (xs := #[]) (n := 0) (OA _ rfl) rfl ?_ (OQ _) (by show (#[] ++ a.toArray).size <= Tx + 1; simp only [Rf, OE, TG]; lia))
  refine Oj ?_
  show Ta (Tc prog w) A (do
      let o <- load s.heap.objs.size
      match o.data with
      | .seq xs _ => pure xs.toList
      | _ => Xh "internal:collect") Q E { s with heap := (s.heap.push (Ul "list" #[] 0)).update s.heap.objs.size (TX (· ++ a.toArray)) }
  refine Oh (SX (VY (OA _ rfl) _) ?_)
  show Ta _ _ (pure ((#[] : Array S8) ++ a.toArray).toList) Q E _
  rw [show ((#[] : Array S8) ++ a.toArray).toList = a by simp]
  exact Oj h
def nO(s s':S9):Prop:=(∀b o,s.heap.get? b=Z o->s'.heap.get? b=Z o)/\s'.gens=s.gens/\s'.drawn=s.drawn/\s'.os=s.os
def CF{n:Nat}(m:A.handled=Y)(y:IsRange s.heap r a b c t u v)(z:Builtin.Range.small a b c=J)(x:UL a b c=n)(q:n<=2 ^ 24)(g:∀s' d,nO s s'->Xr (λi v=>∃t,v=.int (a+i*c) t) d n->Q d.toList s'):Ta (Tc prog w) A (Wq (.ref r)) Q E s:=by
 unfold Wq;refine Oh (RZ (PA V5 ?_));rw[PK V6 _];show Ta _ A.in1 (Xq []>>=λl=>XN (.builtin "list.__iadd__" ⟨[l,.ref r],[]⟩)) _ _ s;refine Oh (OZ ?_);refine Oj ⟨RA Rh _,PA WT ?_⟩;rw[PK Rh _];show Ta _ A.in1 (T5 (.ref s.heap.objs.size) (.ref r) (.ref s.heap.objs.size)) _ _ _;have h:(s.heap.push { cls:=.type "list",data:=.seq ([]:List S8).toArray }).get? s.heap.objs.size=Z { cls:=.type "list",data:=.seq ([]:List S8).toArray }:=OA _ rfl;refine wpAny_extend_range (A:=A) (R:=wants _ E) (s:={ s with heap:=s.heap.push { cls:=.type "list",data:=.seq ([]:List S8).toArray } }) m (Ol _ y) z x q s.heap.objs.size (.ref s.heap.objs.size) 0 h λh' tk f B p j k=>?_
 show Ta _ A (load s.heap.objs.size>>=_) _ _ _;refine Oh (SX j ?_);exact Oj (g _ f ⟨λb o e=>p b o (OI (Ou e)) (Ol _ e),rfl,rfl,rfl⟩ k)
def CG(a1:A.handled=Y)(I:s.heap.get? a=Z o)(O:ha w o c n t)(ao:c.size<=Tx)(S:∀s' z,nO s s'->Xr (λi v=>∃x,(dj w a c n)[i]?=Z x/\v=x.2) z c.size->Q z.toList s'):Ta (Tc prog w) A (Wq (.ref a)) Q E s:=by
 have r:a<s.heap.objs.size:=Ou I;unfold Wq;refine Oh (RZ (PA V5 ?_));rw[PK V6 _];show Ta _ A.in1 (Xq []>>=λl=>XN (.builtin "list.__iadd__" ⟨[l,.ref a],[]⟩)) _ _ s;refine Oh (OZ ?_);refine Oj ⟨RA Rh _,PA WT ?_⟩;rw[PK Rh _];show Ta _ A.in1 (T5 (.ref s.heap.objs.size) (.ref a) (.ref s.heap.objs.size)) _ _ _;unfold T5;have m:(s.heap.push { cls:=.type "list",data:=.seq ([]:List S8).toArray }).get? a=Z o:=Ol _ I;refine Oh (Qj (T:="set") ⟨o,m,O.ex.1⟩ ?_);have M:Vt (.ref s.heap.objs.size) (.ref a)=false:=by
  have u:s.heap.objs.size≠a:=Pd (OI r);simp[Vt,u]
 have N:(TM "set"==TM "list")=false:=by decide
 have R:(TM "set"==TM "tuple")=false:=by decide
 simp only[M,N,R,Bool.or_false,Om,OH];refine Oh (FK (s:={ s with heap:=s.heap.push { cls:=.type "list",data:=.seq ([]:List S8).toArray } }) m O ?_);generalize p:s.heap.push { cls:=.type "list",data:=.seq ([]:List S8).toArray }=H at *;have q:H.objs.size=s.heap.objs.size+1:=by rw[<- p,SK]
 have ar:a<H.objs.size:=by rw[q];exact WO r
 refine Oh (Pr (E6 ⟨o,Ol _ m,O.ex.1⟩ ?_));rw[if_pos ∅];have u:a≠H.objs.size:=OI ar;have C:s.heap.objs.size≠H.objs.size:=by rw[q];exact OI (PW _)
 have D:s.heap.objs.size≠a:=Pd (OI r);have V:s.heap.objs.size∉[H.objs.size,a]:=λd=>by
  rcases Oq.mp d with e|e
  .exact C e
  .exact D (OC.mp e)
 generalize g:H.push { cls:=.type "set_iterator",data:=.fields #[.int 0 0,.int 0 0,.ref a,.int c.size 0,.int n 0] }=f;have B:f.get? s.heap.objs.size=Z { cls:=.type "list",data:=.seq ([]:List S8).toArray }:=g▸Ol _ (p▸OA _ rfl);have ax:f.get? a=Z o:=g▸Ol _ m;have aj:f.get? H.objs.size=Z { cls:=.type "set_iterator",data:=.fields #[.int 0 0,.int 0 0,.ref a,.int c.size 0,.int n 0] }:=g▸OA _ rfl;have a2:A.in1.handled=none:=a1;have st0:slotAt w t 0=0:=by unfold slotAt;split<;>rfl
 refine Oh (Sy ?_);refine Oh ?_;show Ta _ A.in1 (updateSeq s.heap.objs.size (·.push .none)>>=λ_=>updateSeq s.heap.objs.size (·.pop)) _ _ _;refine Oh (RJ B rfl ?_);have G:=OW (TX (·.push Value.none)) B rfl;refine RJ G rfl ?_;have X:=OW (TX (·.pop)) G rfl;have y:∀b fs,b≠s.heap.objs.size->f.get? b=Z fs->((f.update s.heap.objs.size (TX (·.push Value.none))).update s.heap.objs.size (TX (·.pop))).get? b=Z fs :=
  λb fs j e=>(OR _ _ (Pd j)).trans ((OR _ _ (Pd j)).trans e)
 refine Oj ⟨RA F.plain_extend_loop _,codeAny_extend_loopS (Nz (prog:=prog) (A:=A.in1) a2 u O).toS ao _ V _ c.size 0 _ _ _ rfl (OQ _) ⟨⟨_,y _ _ (Pd C) aj,rfl,by rw[st0];rfl⟩,y _ _ (Pd D) ax⟩ X (ItemsOf.nil _) λs' L ay d U a0=>?_⟩;show Ta _ A (load s.heap.objs.size>>=_) _ _ s';refine Oh (SX U ?_);refine Oj (S s' L ⟨λb fs e=>d.heap b fs (λj=>?_) (y b fs (OI (Ou e)) (g▸Ol _ (p▸Ol _ e))),d.gens,d.drawn,d.os⟩ a0);have k:=Ou e;rcases Oq.mp j with h|h
 .rw[h]at k;exact Pq _ k
 .rw[OC.mp h,q]at k;exact absurd k (Nat.not_lt.mpr (Nat.le_succ _))
end
end Pv
end
section
namespace Tm
open PySem PyProof.Rows
section
variable{M:Xe}{A:TO}{E:S8->S9->Prop}{s:S9}{left:Bool}{key:TF}{arr:Array TF}{b n h:Nat}{p:Nat->Bool}{st:Ux}{Q:Option Nat->Ux->Prop}
end
structure eX(M:Xe)(A:TO)(E:S8->S9->Prop)(s:S9)(κ:UT)(S:TF->Prop)(lt:TF->TF->Bool):Prop where
 ask:∀(x y:TF)(st:Ux)(Q:Option Bool->Ux->Prop),S x->S y->kindOf st=κ->Q (Z (lt x y)) st->wpS M A E s (lt' x y) Q st
 jt:∀x y,S x->S y->lt x y=J->lt y x=S6
 eE:∀x y z,S x->S y->S z->lt y x=S6->lt z y=S6->lt z x=S6
abbrev le(lt:TF->TF->Bool)(x y:TF):Prop:=lt y x=S6
section
variable{M:Xe}{A:TO}{E:S8->S9->Prop}{s:S9}{κ:UT}{S:TF->Prop}{lt:TF->TF->Bool}{a b:Array TF}{st Ll:Ux}
def vP(h:i<a.size)(q:Q a[i] st):wpS M A E s (elem' a i) Q st:=by
 rw[elem'_eq,Oy h];exact PM q
def kh(lt:TF->TF->Bool)(a:Array TF)(i n:Nat):Prop:=∀x y (c:x<a.size) (d:y<a.size),i<=x->x<=y->y<i+n->le lt a[x] a[y]
end
structure NS(lt:TF->TF->Bool)(a b r:List TF)(i j:Nat):Prop where
 perm:(r++(a.drop i++b.drop j)).Perm (a++b)
 Oe:(r++a.drop i).Pairwise (le lt)
 Of:(r++b.drop j).Pairwise (le lt)
section
end
section
variable{M:Xe}{A:TO}{E:S8->S9->Prop}{s:S9}{κ:UT}{S:TF->Prop}{lt:TF->TF->Bool}{a b r:Array TF}{st0 st:Ux}{i j aG ca u6 N:Nat}
structure Pre(S:TF->Prop)(lt:TF->TF->Bool)(a b:Array TF):Prop where
 ja:∀x (r9:x<a.size),S a[x]
 gZ:∀x (r9:x<b.size),S b[x]
 HV:kh lt a 0 a.size
 fs:kh lt b 0 b.size
 last:∀y∈b.toList,∀x,a.toList[a.toList.length-1]?=Z x->le lt y x
end
section
def hE{st:Ux}{α:Type}{c:Prop}[Decidable c]{t e:StateT Ux Sem α}{Q:α->Ux->Prop}(bY:c->wpS M A E s t Q st)(cO:¬c->wpS M A E s e Q st):wpS M A E s (if c then t else e) Q st:=by
 by_cases h:c
 .rw[if_pos h];exact bY h
 .rw[if_neg h];exact cO h
def Lk(h:kh lt a 0 a.size):a.toList.Pairwise (le lt):=by
 rw[QZ];intro x y b c d;rw[Tt]at b c;exact h x y b c (OQ _) (QR d) ⋯
end
structure NR(lt:TF->TF->Bool)(a b t:List TF)(i j:Nat):Prop where
 perm:(a.take i++b.take j++t).Perm (a++b)
 cH:(a.take i++t).Pairwise (le lt)
 cI:(b.take j++t).Pairwise (le lt)
section
end
section
variable{M:Xe}{A:TO}{E:S8->S9->Prop}{s:S9}{κ:UT}{S:TF->Prop}{lt:TF->TF->Bool}{a b r:Array TF}{st0 st:Ux}{i j aG ca u6 N:Nat}
structure NT(S:TF->Prop)(lt:TF->TF->Bool)(a b:Array TF):Prop where
 ja:∀x (r9:x<a.size),S a[x]
 gZ:∀x (r9:x<b.size),S b[x]
 HV:kh lt a 0 a.size
 fs:kh lt b 0 b.size
 first:∀x∈b.toList.take 1,∀y∈a.toList,le lt x y
end
section
variable{M:Xe}{A:TO}{E:S8->S9->Prop}{s:S9}{κ:UT}{S:TF->Prop}{lt:TF->TF->Bool}{a b r:Array TF}{st0 st:Ux}{i j aG ca u6 N:Nat}
end
section
def eX.dR(O:eX M A E s κ S lt)(h:S x):lt x x=false:=by
 cases e:lt x x with
 |false=>rfl
 |true=>exact(O.jt x x h h e▸e).symm▸rfl
end
noncomputable abbrev at_(c:Array TF)(x:Nat):Keyed:=c.getD x (Value.none,Value.none)
def ma(h:x<c.size):at_ c x=c[x]:=by
 show c.getD x _=_;unfold Vi;rw[dif_pos h];rfl
def km(h:c[x]?=d[y]?):at_ c x=at_ d y:=by
 show c.getD x _=d.getD y _;rw[Py,Py,h]
def gL(d:j<=c.size)(k):at_ (U8 c i j ((j-i) / 2)) k=if i<=k/\k<j then at_ c (i+j-1-k) else at_ c k:=by
 have h:=getElem?_mirror (i:=i) d ((j-i) / 2) ⋯ k
 by_cases a:(i<=k/\k<i+(j-i) / 2)\/(j-(j-i) / 2<=k/\k<j)
 .rw[if_pos a]at h;rw[if_pos ⋯];exact km h
 .rw[if_neg a]at h
  by_cases b:i<=k/\k<j
  .rw[if_pos b];have:i+j-1-k=k:=⋯;rw[this];exact km h
  .rw[if_neg b];exact km h
def qS(f:k<c.size)(e:d<=k)(x):at_ (bubble c k d) x=if x=k-d then at_ c k else if k-d<x/\x<=k then at_ c (x-1) else at_ c x:=by
 have h:=getElem?_bubble f d e x
 by_cases a:x=k-d
 .rw[if_pos a]at h ⊢;exact km h
 .rw[if_neg a]at h ⊢
  by_cases b:k-d<x/\x<=k
  .rw[if_pos b]at h ⊢;exact km h
  .rw[if_neg b]at h ⊢;exact km h
def dp(lt:TF->TF->Bool)(c:Array TF)(l n:Nat):Prop:=∀x y,l<=x->x<=y->y<l+n->le lt (at_ c x) (at_ c y)
def Dec(lt:TF->TF->Bool)(c:Array TF)(l n:Nat):Prop:=∀x y,l<=x->x<=y->y<l+n->le lt (at_ c y) (at_ c x)
structure cE(c d:Array TF)(l h:Nat):Prop where
 size:d.size=c.size
 perm:d.toList.Perm c.toList
 out:∀k,(k<l\/h<=k)->at_ d k=at_ c k
theorem cE.refl(c)(l h):cE c c l h:=⟨rfl,.refl _,λ_ _=>rfl⟩
theorem cE.trans(x:cE c d l h)(y:cE d e l h):cE c e l h:=⟨y.size.trans x.size,y.perm.trans x.perm,λk q=>(y.out k q).trans (x.out k q)⟩
def cE.mono(x:cE c d l h)(a:e<=l)(b:h<=h'):cE c d e h':=⟨x.size,x.perm,λk q=>x.out k ⋯⟩
def cE.rev(a:j<=c.size):cE c (U8 c i j ((j-i) / 2)) i j :=
 ⟨mirror_size ..,R2.mp (mirror_perm ..),λk q=>by rw[gL a,if_neg ⋯]⟩
def cE.B0(b:k<c.size)(a:d<=k):cE c (bubble c k d) (k-d) (k+1) :=
 ⟨bubble_size ..,R2.mp (bubble_perm ..),λx q=>by rw[qS b a,if_neg ⋯,if_neg ⋯]⟩
section
variable{M:Xe}{A:TO}{E:S8->S9->Prop}{s:S9}{κ:UT}{S:TF->Prop}{lt:TF->TF->Bool}{st Ll:Ux}{c d:Array TF}{l h n:Nat}
abbrev dM(S:TF->Prop)(c:Array TF):Prop:=∀x∈c.toList,S x
theorem dM.at_(h:dM S c){x:Nat}(a:x<c.size):S (at_ c x):=by rw[ma a];exact h _ (by simp)
def dM.perm(h:dM S c)(p:d.toList.Perm c.toList):dM S d:=λx a=>h x (p.mem_iff.mp a)
def l9(O:eX M A E s κ S lt)(f:kindOf st=κ)(a:dM S (Tn st))(b:i<(Tn st).size)(e:j<(Tn st).size)(q:Q (Z (lt (at_ (Tn st) i) (at_ (Tn st) j))) st):wpS M A E s (XR i j) Q st:=by
 rw[ltAt'_eq];refine O8 (WU ?_);show wpS _ _ _ _ (do let x <- elem' (Tn st) i;let y <- elem' (Tn st) j;lt' x y) Q st;refine O8 (vP b (O8 (vP e ?_)));rw[ma b,ma e]at q;exact O.ask _ _ _ _ (a _ (by simp)) (a _ (by simp)) f q
def dp.snoc(O:eX M A E s κ S lt)(a:dM S c)(b:l+n<c.size)(h0:0<n)(h:dp lt c l n)(q:le lt (at_ c (l+n-1)) (at_ c (l+n))):dp lt c l (n+1):=by
 intro x y bY cO fB
 by_cases e:y=l+n
 .subst e
  by_cases f:x=l+n
  .subst f;exact O.dR (a.at_ b)
  .exact O.eE _ _ _ (a.at_ ⋯) (a.at_ ⋯) (a.at_ b) (h x (l+n-1) bY ⋯ ⋯) q
 .exact h x y bY cO ⋯
def Dec.snoc(O:eX M A E s κ S lt)(a:dM S c)(b:l+n<c.size)(h0:0<n)(h:Dec lt c l n)(q:le lt (at_ c (l+n)) (at_ c (l+n-1))):Dec lt c l (n+1):=by
 intro x y bY cO fB
 by_cases e:y=l+n
 .subst e
  by_cases f:x=l+n
  .subst f;exact O.dR (a.at_ b)
  .exact O.eE _ _ _ (a.at_ b) (a.at_ ⋯) (a.at_ ⋯) q (h x (l+n-1) bY ⋯ ⋯)
 .exact h x y bY cO ⋯
def dp.one(O:eX M A E s κ S lt)(a:dM S c)(b:l<c.size):dp lt c l 1:=λx y bY cO fB=>by
 obtain rfl:x=l:=by lia
 obtain rfl:y=x:=by lia
 exact O.dR (a.at_ b)
def Dec.rev(h:Dec lt c l n)(a:l+n<=c.size):dp lt (U8 c l (l+n) ((l+n-l) / 2)) l n:=by
 intro x y bY cO fB;rw[gL a,gL a,if_pos ⋯,if_pos ⋯];exact h _ _ ⋯ ⋯ ⋯
def dp.bD(h:dp lt c l n):kh lt c l n:=λx y a b bY cO fB=>by
 have:=h x y bY cO fB;rw[ma a,ma b]at this;exact this
end
noncomputable def ie(l z a:Nat):StateT Ux Sem (Option Nat):=do
 Vu l (l+a)
 let mut n:=a
 for _ in [n:z] do
  let Z q <- XR (l+n) (l+n-1)|return Y
  if q then break
  n:=n+1
 return Z n
noncomputable def iK(l z a:Nat):StateT Ux Sem (Option Nat):=do
 XJ "list.sort.descending-run"
 let mut n:=a+1
 let mut e:=0
 for _ in [n:z] do
  let Z q <- XR (l+n) (l+n-1)|return Y
  if q then
   if e>0 then Vu (l+n-(e+1)) (l+n)
   e:=0
  else
   let Z g <- XR (l+n-1) (l+n)|return Y
   if g then break
   e:=e+1
  n:=n+1
 if e>0 then Vu (l+n-(e+1)) (l+n)
 ie l z n
def CO(l z:Nat):countRun' l z=(do
 let mut n:=1
 for _ in [1:z] do
  let Z q <- XR (l+n) (l+n-1)|return Y
  if q then break
  n:=n+1
 if n==z then return Z n
 if n>1 then
  let Z g <- XR l (l+n-1)|return Y
  if g then return Z n
  Vu l (l+n)
 iK l z n):=by
 rw[countRun'_eq];unfold iK ie;rfl
def hb(st a:Ux):Prop:=kindOf a=kindOf st/\Uz a=Uz st/\UU a=UU st
section
variable{M:Xe}{A:TO}{E:S8->S9->Prop}{s:S9}{κ:UT}{S:TF->Prop}{lt:TF->TF->Bool}{st st0:Ux}{l z n h6:Nat}
def nW(lt:TF->TF->Bool)(l z:Nat)(st0:Ux)(o:Option Nat)(a:Ux):Prop:=∃m,o=Z m/\1<=m/\m<=z/\hb st0 a/\cE (Tn st0) (Tn a) l (l+z)/\dp lt (Tn a) l m
def uP(O:eX M A E s κ S lt)(g:kindOf st=κ)(d:dM S (Tn st))(hz:l+z<=(Tn st).size)(bY:1<=h6)(b:h6<=z)(h:dp lt (Tn st) l h6){Q:Option (Option Nat)×Nat->Ux->Prop}(f:∀n,h6<=n->n<=z->dp lt (Tn st) l n->(n=z\/lt (at_ (Tn st) (l+n)) (at_ (Tn st) (l+n-1))=J)->Q (Y,n) st):wpS M A E s (forIn [h6:z] ((Y:Option (Option Nat)),h6) λx __s=>do
   let __x <- XR (l+__s.snd) (l+__s.snd-1)
   match __x with
    |some q=>if q=J then pure (ForInStep.done (Y,__s.snd)) else pure (Uk (Y,__s.snd+1))
    |x=>pure (ForInStep.done (Z Y,__s.snd))) Q st:=by
 refine Ri (I:=λx (c:Option (Option Nat)×Nat) a=>a=st/\c.1=Y/\c.2=x/\h6<=x/\x<=z/\dp lt (Tn st) l x) ?step ?fin ⟨rfl,rfl,rfl,Ot _,b,h⟩
 case fin =>
  rintro⟨o,n⟩ a ⟨rfl,rfl,rfl,k1,k2,k3⟩;rw[Rv b]at k3 ⊢;exact f z b (Ot _) k3 (.inl rfl)
 case step =>
  rintro x ⟨o,n⟩ a _ i ⟨rfl,rfl,e,k1,k2,k3⟩;dsimp only at e ⊢;subst e;refine O8 (l9 O g d ⋯ ⋯ ?_);cases e:lt (at_ (Tn a) (l+n)) (at_ (Tn a) (l+n-1)) with
  |true=>dsimp only;rw[if_pos rfl];exact PM (f n k1 k2 k3 (.inr e))
  |false=>dsimp only;rw[if_neg (by simp)];exact PM ⟨rfl,rfl,rfl,⋯,⋯,k3.snoc O d ⋯ ⋯ e⟩
def Al(O:eX M A E s κ S lt)(c:kindOf st0=κ)(hS0:dM S (Tn st0))(e:hb st0 st)(a:cE (Tn st0) (Tn st) l (l+z))(hz:l+z<=(Tn st0).size)(bY:1<=n)(d:n<=z)(h:Dec lt (Tn st) l n):wpS M A E s (ie l z n) (nW lt l z st0) st:=by
 unfold ie;rw[Rw];refine O8 (Rx ?_);have g:l+z<=(Tn st).size:=by rw[a.size];exact hz
 generalize e1:setArr st (U8 (Tn st) l (l+n) ((l+n-l) / 2))=pQ;have a1:Tn pQ=U8 (Tn st) l (l+n) ((l+n-l) / 2):=by rw[<- e1]
 have b:hb st0 pQ:=by rw[<- e1];exact e
 have p1:cE (Tn st0) (Tn pQ) l (l+z):=by rw[a1];exact a.trans ((cE.rev ⋯).mono (Ot _) ⋯)
 have f:dp lt (Tn pQ) l n:=by rw[a1];exact h.rev ⋯
 refine O8 (uP O (b.1.trans c) (hS0.perm p1.perm) (by rw[p1.size];exact hz) bY d f λm k1 k2 k3 _=>?_);exact PM ⟨m,rfl,⋯,k2,b,p1,k3⟩
def BV(O:eX M A E s κ S lt)(g:dM S c)(a:l+n<=c.size)(i:e+1<=n)(h:Dec lt c l n)(b:∀x y,l+n-(e+1)<=x->x<l+n->l+n-(e+1)<=y->y<l+n->le lt (at_ c x) (at_ c y)):
  Dec lt (U8 c (l+n-(e+1)) (l+n) ((l+n-(l+n-(e+1))) / 2)) l n:=by
 intro x y bY cO fB;rw[gL a,gL a]
 by_cases d:l+n-(e+1)<=x
 .rw[if_pos ⋯,if_pos ⋯];exact b _ _ ⋯ ⋯ ⋯ ⋯
 .rw[if_neg (show ¬(l+n-(e+1)<=x/\x<l+n) by lia)]
  by_cases f:l+n-(e+1)<=y
  .rw[if_pos ⋯];exact h _ _ bY ⋯ ⋯
  .rw[if_neg ⋯];exact h _ _ bY cO fB
structure ip(lt:TF->TF->Bool)(S:TF->Prop)(l z:Nat)(st0 st:Ux)(n e:Nat):Prop where
 ss:hb st0 st
 dy:cE (Tn st0) (Tn st) l (l+z)
 dec:Dec lt (Tn st) l n
 len:e+1<=n
 pa:n<=z
 eq:∀x y,l+n-(e+1)<=x->x<l+n->l+n-(e+1)<=y->y<l+n->le lt (at_ (Tn st) x) (at_ (Tn st) y)
def ip.turn(O:eX M A E s κ S lt)(hS0:dM S (Tn st0))(hz:l+z<=(Tn st0).size)(h:ip lt S l z st0 st n e):ip lt S l z st0 (setArr st (U8 (Tn st) (l+n-(e+1)) (l+n) ((l+n-(l+n-(e+1))) / 2))) n 0:=by
 have bY:=h.len;have cO:=h.pa;have a:l+n<=(Tn st).size:=by rw[h.dy.size];lia
 refine⟨h.ss,h.dy.trans ((cE.rev a).mono ⋯ ⋯),BV O (hS0.perm h.dy.perm) a bY h.dec h.eq,⋯,h.pa,λx y k1 k2 k3 d=>?_⟩;have b:x=l+n-1:=by lia
 have c:y=l+n-1:=by lia
 subst b c;have dy:cE (Tn st0) (U8 (Tn st) (l+n-(e+1)) (l+n) ((l+n-(l+n-(e+1))) / 2)) l (l+z):=h.dy.trans ((cE.rev a).mono ⋯ ⋯);exact O.dR ((hS0.perm dy.perm).at_ (by rw[dy.size];lia))
def vK(O:eX M A E s κ S lt)(m:kindOf st0=κ)(hS0:dM S (Tn st0))(U:hb st0 st)(p:cE (Tn st0) (Tn st) l (l+z))(hz:l+z<=(Tn st0).size)(T:n<z)(h:Dec lt (Tn st) l (n+1)):wpS M A E s (iK l z n) (nW lt l z st0) st:=by
 unfold iK;refine O8 (wpS_lift (Sy ⟨rfl,?_⟩));have R:ip lt S l z st0 st (n+1) 0:=by
  refine⟨U,p,h,⋯,T,λx y k1 k2 k3 C=>?_⟩;have j:x=l+n:=⋯;have k:y=l+n:=⋯;subst j k;exact O.dR ((hS0.perm p.perm).at_ (by rw[p.size];lia))
 refine O8 (SN (Ri (I:=λx (c:Option (Option Nat)×Nat×Nat) g=>c.1=Y/\c.2.1=x/\ip lt S l z st0 g x c.2.2) (Q:=λ(c:Option (Option Nat)×Nat×Nat) g=>c.1=Y/\ip lt S l z st0 g c.2.1 c.2.2) ?step ?fin ⟨rfl,rfl,R⟩) ?post)
 case fin =>
  rintro⟨o,cC,e⟩ g ⟨rfl,rfl,D⟩;exact⟨rfl,D⟩
 case post =>
  rintro⟨o,cC,e⟩ g ⟨rfl,D⟩;dsimp only at D ⊢;refine hE (λ_=>?_) λ_=>?_
  .rw[Rw];have d:=D.turn O hS0 hz;exact O8 (Rx (Al O m hS0 d.ss d.dy hz (by have:=d.len;lia) d.pa d.dec))
  .exact Al O m hS0 D.ss D.dy hz (by have:=D.len;lia) D.pa D.dec
 case step =>
  rintro x ⟨o,cC,e⟩ b X V ⟨rfl,e1,D⟩;dsimp only at e1 D ⊢;subst e1;have bY:=D.len;have a0:l+z<=(Tn b).size:=(by rw[D.dy.size];exact hz);have a:=hS0.perm D.dy.perm;have B:=D.ss.1.trans m;refine O8 (l9 O B a ⋯ ⋯ ?_);cases t:lt (at_ (Tn b) (l+cC)) (at_ (Tn b) (l+cC-1)) with
  |true =>
   dsimp only;rw[if_pos rfl];have next:∀f,ip lt S l z st0 f cC 0->le lt (at_ (Tn f) (l+cC)) (at_ (Tn f) (l+cC-1))->ip lt S l z st0 f (cC+1) 0:=λf d q=>by
    have a1:l+z<=(Tn f).size:=(by rw[d.dy.size];exact hz);have w:=hS0.perm d.dy.perm;refine⟨d.ss,d.dy,d.dec.snoc O w ⋯ ⋯ q,⋯,⋯,λx y k1 k2 k3 C=>?_⟩;have j:x=l+cC:=⋯;have k:y=l+cC:=⋯;subst j k;exact O.dR (w.at_ ⋯)
   have G:=O.jt _ _ (a.at_ ⋯) (a.at_ ⋯) t;refine hE (λc=>?_) λc=>?_
   .rw[Rw];refine O8 (Rx (PM ⟨rfl,rfl,next _ (D.turn O hS0 hz) ?_⟩));show le lt (at_ (U8 (Tn b) (l+cC-(e+1)) (l+cC) ((l+cC-(l+cC-(e+1))) / 2)) (l+cC)) (at_ (U8 (Tn b) (l+cC-(e+1)) (l+cC) ((l+cC-(l+cC-(e+1))) / 2)) (l+cC-1));rw[gL ⋯,gL ⋯,if_neg ⋯,if_pos ⋯];exact O.eE _ _ _ (a.at_ ⋯) (a.at_ ⋯) (a.at_ ⋯) G (D.eq _ _ ⋯ ⋯ ⋯ ⋯)
   .have e0:e=0:=⋯;subst e0;exact PM ⟨rfl,rfl,next b D G⟩
  |false =>
   dsimp only;rw[if_neg (by simp)];refine O8 (l9 O B a ⋯ ⋯ ?_);cases v:lt (at_ (Tn b) (l+cC-1)) (at_ (Tn b) (l+cC)) with
   |true=>dsimp only;rw[if_pos rfl];exact PM ⟨rfl,D⟩
   |false =>
    dsimp only;rw[if_neg (by simp)];refine PM ⟨rfl,rfl,D.ss,D.dy,D.dec.snoc O a ⋯ ⋯ v,by show e+1+1<=cC+1;lia,⋯,λx y k1 k2 k3 C=>?_⟩;have k1:l+(cC+1)-(e+1+1)<=x:=k1;have k3:l+(cC+1)-(e+1+1)<=y:=k3;have H:∀u,l+cC-(e+1)<=u->u<l+cC->le lt (at_ (Tn b) u) (at_ (Tn b) (l+cC))/\le lt (at_ (Tn b) (l+cC)) (at_ (Tn b) u):=λu L N =>
     ⟨O.eE _ _ _ (a.at_ ⋯) (a.at_ ⋯) (a.at_ ⋯) (D.eq u (l+cC-1) L N ⋯ ⋯) t,O.eE _ _ _ (a.at_ ⋯) (a.at_ ⋯) (a.at_ ⋯) v (D.eq (l+cC-1) u ⋯ ⋯ L N)⟩
    by_cases r:x=l+cC
    .by_cases i:y=l+cC
     .subst r i;exact O.dR (a.at_ ⋯)
     .subst r;exact(H y ⋯ ⋯).2
    .by_cases i:y=l+cC
     .subst i;exact(H x ⋯ ⋯).1
     .exact D.eq x y ⋯ ⋯ ⋯ ⋯
def CP(O:eX M A E s κ S lt)(d:kindOf st=κ)(a:dM S (Tn st))(hz:l+z<=(Tn st).size)(bY:1<=z):wpS M A E s (countRun' l z) (nW lt l z st) st:=by
 rw[CO];refine O8 (uP O d a hz (Ot 1) bY (dp.one O a ⋯) λn k1 k2 k3 o=>?_);dsimp only;refine hE (λc=>?_) λc=>?_
 .exact PM ⟨n,rfl,k1,k2,⟨rfl,rfl,rfl⟩,.refl ..,k3⟩
 .have c:¬n=z:=(by simpa using c);have q:=O.jt _ _ (a.at_ ⋯) (a.at_ ⋯) (o.resolve_left c);refine hE (λm=>?_) λm=>?_
  .refine O8 (l9 O d a ⋯ ⋯ ?_);cases e:lt (at_ (Tn st) l) (at_ (Tn st) (l+n-1)) with
   |true=>dsimp only;rw[if_pos rfl];exact PM ⟨n,rfl,k1,k2,⟨rfl,rfl,rfl⟩,.refl ..,k3⟩
   |false =>
    dsimp only;rw[if_neg (by simp),Rw];refine O8 (Rx ?_);have b:l+n<=(Tn st).size:=⋯;have g:cE (Tn st) (U8 (Tn st) l (l+n) ((l+n-l) / 2)) l (l+z):=(cE.rev b).mono (Ot _) ⋯;have j:∀x y,l<=x->x<l+n->l<=y->y<l+n->le lt (at_ (Tn st) x) (at_ (Tn st) y):=λx y h k i r =>
     O.eE _ _ _ (a.at_ ⋯) (a.at_ ⋯) (a.at_ ⋯) (k3 x (l+n-1) h ⋯ ⋯)
      (O.eE _ _ _ (a.at_ ⋯) (a.at_ ⋯) (a.at_ ⋯) e (k3 l y (Ot _) i r))
    refine vK (st0:=st) O d a ⟨rfl,rfl,rfl⟩ g hz ⋯ ?_;show Dec lt (U8 (Tn st) l (l+n) ((l+n-l) / 2)) l (n+1);have f:Dec lt (U8 (Tn st) l (l+n) ((l+n-l) / 2)) l n:=λx y h k i=>by
     rw[gL b,gL b,if_pos ⋯,if_pos ⋯];exact j _ _ ⋯ ⋯ ⋯ ⋯
    refine f.snoc O (a.perm g.perm) (by rw[g.size];lia) ⋯ ?_;rw[gL b,gL b,if_neg ⋯,if_pos ⋯];exact O.eE _ _ _ (a.at_ ⋯) (a.at_ ⋯) (a.at_ ⋯) q (j _ _ ⋯ ⋯ ⋯ ⋯)
  .have p:n=1:=⋯;subst p;refine vK (st0:=st) O d a ⟨rfl,rfl,rfl⟩ (.refl ..) hz ⋯ ?_;have f:Dec lt (Tn st) l 1:=λx y h k i=>by
    obtain rfl:x=l:=⋯;obtain rfl:y=x:=⋯;exact O.dR (a.at_ ⋯)
   exact f.snoc O a ⋯ ⋯ q
end
section
def B1(O:eX M A E s κ S lt)(j:dM S c)(d:l+k<c.size)(o:p<=k)(h:dp lt c l k)(bY:∀x,x<p->le lt (at_ c (l+x)) (at_ c (l+k)))(cO:∀x,p<=x->x<k->le lt (at_ c (l+k)) (at_ c (l+x))):dp lt (bubble c (l+k) (k-p)) l (k+1):=by
 intro x y f m q;have e:l+k-(k-p)=l+p:=by lia
 rw[qS d ⋯,qS d ⋯,e];have g:∀u,l<=u->u<l+p->le lt (at_ c u) (at_ c (l+k)):=λu a b=>by have:=bY (u-l) ⋯;rwa[show l+(u-l)=u by lia]at this
 have i:∀u,l+p<=u->u<l+k->le lt (at_ c (l+k)) (at_ c u):=λu a b=>by have:=cO (u-l) ⋯ ⋯;rwa[show l+(u-l)=u by lia]at this
 by_cases a:x=l+p
 .rw[if_pos a]
  by_cases b:y=l+p
  .rw[if_pos b];exact O.dR (j.at_ d)
  .rw[if_neg b,if_pos ⋯];exact i _ ⋯ ⋯
 .rw[if_neg a]
  by_cases n:l+p<x
  .rw[if_pos ⋯,if_neg ⋯,if_pos ⋯];exact h _ _ ⋯ ⋯ ⋯
  .rw[if_neg ⋯]
   by_cases b:y=l+p
   .rw[if_pos b];exact g _ f ⋯
   .rw[if_neg b]
    by_cases b2:l+p<y
    .rw[if_pos ⋯];exact h _ _ f ⋯ ⋯
    .rw[if_neg ⋯];exact h _ _ f m ⋯
def BZ{st:Ux}(O:eX M A E s κ S lt)(H:kindOf st=κ)(hS0:dM S (Tn st))(hz:l+n<=(Tn st).size)(bY:1<=u)(B:u<=n)(h:dp lt (Tn st) l u)(N:∀d,hb st d->cE (Tn st) (Tn d) l (l+n)->dp lt (Tn d) l n->Q J d):wpS M A E s (binarySort' l n u) Q st:=by
 rw[binarySort'_eq];rw[Nat.max_eq_left bY];refine O8 (SN (Ri (I:=λk (c:Option Bool×Unit) d=>c=(Y,())/\k<=n/\hb st d/\cE (Tn st) (Tn d) l (l+n)/\dp lt (Tn d) l k)
  (Q:=λ(c:Option Bool×Unit) d=>c=(Y,())/\hb st d/\cE (Tn st) (Tn d) l (l+n)/\dp lt (Tn d) l n) ?step ?fin ⟨rfl,B,⟨rfl,rfl,rfl⟩,.refl ..,h⟩) ?post)
 case fin =>
  rintro c d ⟨rfl,k1,k2,k3,r⟩;rw[Rv B]at r;exact⟨rfl,k2,k3,r⟩
 case post =>
  rintro c d ⟨rfl,k2,k3,r⟩;exact PM (N d k2 k3 r)
 case step =>
  rintro k c f T U ⟨rfl,a0,D,v,w⟩;have X:l+n<=(Tn f).size:=(by rw[v.size];exact hz);have g:=hS0.perm v.perm;have R:=D.1.trans H;refine O8 (SN (Ri (I:=λx (c:Option Bool×Nat×Nat) d=>d=f/\c.1=Y/\c.2.1<=c.2.2/\c.2.2<=k/\(∀x,x<c.2.1->le lt (at_ (Tn f) (l+x)) (at_ (Tn f) (l+k)))/\(∀x,c.2.2<=x->x<k->le lt (at_ (Tn f) (l+k)) (at_ (Tn f) (l+x)))/\c.2.2-c.2.1+x<=k)
   (Q:=λ(c:Option Bool×Nat×Nat) d=>d=f/\c.1=Y/\c.2.1<=k/\(∀x,x<c.2.1->le lt (at_ (Tn f) (l+x)) (at_ (Tn f) (l+k)))/\∀x,c.2.1<=x->x<k->le lt (at_ (Tn f) (l+k)) (at_ (Tn f) (l+x))) ?step2 ?fin2
   ⟨rfl,rfl,OQ _,Ot _,λx C=>absurd C (UA _),λx q G=>absurd G (by dsimp only at q;lia),by show k-0+0<=k;lia⟩) ?post2)
  case fin2 =>
   rintro⟨o,a,b⟩ d ⟨rfl,rfl,z,i,j,m,t⟩;dsimp only at z i j m t;rw[Rv (OQ _)]at t;have e:a=b:=⋯;subst e;exact⟨rfl,rfl,i,j,m⟩
  case step2 =>
   rintro x ⟨o,a,b⟩ d _ C ⟨rfl,rfl,z,i,j,m,t⟩;dsimp only at z i j m t ⊢;refine hE (λc=>?_) λc=>?_
   .have e:a=b:=⋯;subst e;exact PM ⟨rfl,rfl,i,j,m⟩
   .have V:(a+b) / 2<b:=⋯;have L:a<=(a+b) / 2:=⋯;refine O8 (l9 O R g ⋯ ⋯ ?_);cases e:lt (at_ (Tn d) (l+k)) (at_ (Tn d) (l+(a+b) / 2)) with
    |true =>
     dsimp only;rw[if_pos rfl];refine PM ⟨rfl,rfl,L,by dsimp only;lia,j,λy q G=>?_,by dsimp only;lia⟩;exact O.eE _ _ _ (g.at_ ⋯) (g.at_ ⋯) (g.at_ ⋯) (O.jt _ _ (g.at_ ⋯) (g.at_ ⋯) e) (w _ _ ⋯ (by dsimp only at q;lia) ⋯)
    |false =>
     dsimp only;rw[if_neg (by simp)];refine PM ⟨rfl,rfl,by dsimp only;lia,i,λy q=>?_,m,by dsimp only;lia⟩;exact O.eE _ _ _ (g.at_ (by dsimp only at q;lia)) (g.at_ ⋯) (g.at_ ⋯) (w _ _ ⋯ (by dsimp only at q;lia) ⋯) e
  case post2 =>
   rintro⟨o,p,b⟩ d ⟨rfl,rfl,i,j,m⟩;dsimp only at i j m ⊢;rw[moveDown'_eq];refine O8 (Rx (PM ⟨rfl,⋯,D,?_,?_⟩))
   .show cE (Tn st) (bubble (Tn d) (l+k) (l+k-(l+p))) l (l+n);exact v.trans ((cE.B0 ⋯ ⋯).mono ⋯ ⋯)
   .show dp lt (bubble (Tn d) (l+k) (l+k-(l+p))) l (k+1);rw[show l+k-(l+p)=k-p by lia];exact B1 O g ⋯ i w j m
end
section
def JO{st:Ux}(O:eX M A E s κ S lt)(U:kindOf st=κ)(R:UU st=Y)(a2:Uz st=#[])(L:dM S (Tn st))(cO:2<=(Tn st).size)(H:(Tn st).size<64)(aj:∀a,UU a=Y->(Tn a).toList.Perm (Tn st).toList->(Tn a).toList.Pairwise (le lt)->Q () a):wpS M A E s sortRuns' Q st:=by
 rw[sortRuns'_eq];refine O8 (WU ?_);dsimp only;generalize a0:minRun' (Tn st).size (Tn st).size 0=u;have a1:u=(Tn st).size:=by
  rw[<- a0];obtain⟨f,T⟩:∃f,(Tn st).size=f+1:=⟨(Tn st).size-1,⋯⟩;rw[T,minRun'_succ,if_pos ⋯]
 generalize n:(Tn st).size=N at cO H a1 ⊢;refine O8 (SN (Ri (I:=λx (c:Option Unit×Nat) a=>c.1=Y/\UU a=Y/\cE (Tn st) (Tn a) 0 N/\((x=0/\c.2=0/\kindOf a=κ/\Uz a=#[])\/(c.2=N/\(Uz a).size<=1/\dp lt (Tn a) 0 N)))
  (Q:=λ(c:Option Unit×Nat) a=>c.1=Y/\UU a=Y/\cE (Tn st) (Tn a) 0 N/\(Uz a).size<=1/\dp lt (Tn a) 0 N) ?step ?fin ⟨rfl,R,.refl ..,.inl ⟨rfl,rfl,U,a2⟩⟩) ?post)
 case fin =>
  rintro c a ⟨ao,ax,ay,v⟩;rw[Rv (OQ _)]at v;rcases v with⟨z,_⟩|⟨_,aA,aB⟩
  .omega
  .exact⟨ao,ax,ay,aA,aB⟩
 case step =>
  rintro x ⟨o,lo⟩ e _ aC ⟨rfl,k2,k3,j⟩;rcases j with⟨rfl,rfl,r,d⟩|⟨j,k5,d⟩
  .have p:=L.perm k3.perm;have hsz:(Tn e).size=N:=k3.size.trans n;refine hE (λc=>absurd c ⋯) λc=>?_
   refine O8 (SN (CP (l:=0) (z:=N-0) O r p (by rw[hsz];lia) ⋯) ?_);rintro o i ⟨m,rfl,ar,bb,s2,p2,q⟩;have w:∀gc,hb e gc->cE (Tn e) (Tn gc) 0 (0+(N-0))->dp lt (Tn gc) 0 N->∀b,kindOf b=kindOf gc->UU b=UU gc->Tn b=Tn gc->Uz b=#[(0,N,0)]->UU b=Y/\cE (Tn st) (Tn b) 0 N/\(Uz b).size<=1/\dp lt (Tn b) 0 N:=λgc s3 p3 g b e1 C D G=>by
    rw[C,D,G];exact⟨s3.2.2.trans k2,k3.trans (p3.mono (Ot _) ⋯),Ot _,g⟩
   refine hE (λB=>?b1) λB=>?b2
   case b1 =>
    refine O8 (wpS_lift (Sy ⟨rfl,?_⟩));refine O8 (BZ O (s2.1.trans r) (p.perm p2.perm) (by rw[p2.size,hsz];lia) ar ⋯ q λgc s3 p3 g=>?_);refine hE (λh=>nomatch h) λ_=>?_
    refine O8 (WU ?_);have k:hb e gc:=⟨s3.1.trans s2.1,s3.2.1.trans s2.2.1,s3.2.2.trans s2.2.2⟩;have X:min (N-0) u=N:=⋯;rw[X]at g p3 ⊢;rw[k.2.1.trans d];have t:=w gc k (p2.trans (p3.mono (Ot _) ⋯)) g (setPending gc ((Uz gc).push (0,N,0))) rfl rfl rfl (by show(Uz gc).push _=_;rw[k.2.1.trans d];rfl);exact O8 (Rx (PM ⟨rfl,t.1,t.2.1,.inr ⟨P6 N,t.2.2⟩⟩))
   case b2 =>
    refine O8 (WU ?_);have V:m=N:=⋯;subst V;rw[s2.2.1.trans d];have t:=w i s2 p2 q (setPending i ((Uz i).push (0,m,0))) rfl rfl rfl (by show(Uz i).push _=_;rw[s2.2.1.trans d];rfl);exact O8 (Rx (PM ⟨rfl,t.1,t.2.1,.inr ⟨P6 m,t.2.2⟩⟩))
  .refine hE (λc=>PM ⟨rfl,k2,k3,k5,d⟩) λc=>absurd (Nat.le_of_eq j.symm) c
 case post =>
  rintro⟨o,lo⟩ e ⟨rfl,k2,k3,k5,d⟩;refine O8 (SN (Ri (I:=λx (c:Option Unit×Unit) a=>c=(Y,())/\a=e) (Q:=λ(c:Option Unit×Unit) a=>c=(Y,())/\a=e) ?step2 ?fin2 ⟨rfl,rfl⟩) ?post2)
  case fin2=>exact λc a h=>h
  case step2 =>
   rintro y c a _ aX ⟨rfl,rfl⟩;refine O8 (WU ?_);exact hE (λ_=>PM ⟨rfl,rfl⟩) λh=>absurd k5 h
  case post2 =>
   rintro c a ⟨rfl,rfl⟩;refine PM (aj a k2 k3.perm (Lk ?_));rw[show(Tn a).size=N from k3.size.trans n];exact d.bD
end
end Tm
end
section
namespace Tm
open PySem PySem.W PyProof.Rows PySem.Calls
def IH{α β:Type}(f){b m:List β}(h:b.Perm m):∀l:List α,m=l.map f->∃p:List α,p.Perm l/\b=p.map f:=by
 induction h with
 |nil=>intro l e;cases l with
  |nil=>exact⟨[],.refl _,rfl⟩
  |cons=>cases e
 |cons x _ g =>
  intro l e;cases l with
  |nil=>cases e
  |cons y l =>
   rw[Tb]at e;injection e with e1 a;obtain⟨p,bY,cO⟩:=g l a;exact⟨y::p,bY.cons y,by rw[Tb,e1,cO]⟩
 |swap x y m =>
  intro l e
  match l,e with
  |u::v::l,e =>
   rw[Tb,Tb]at e;injection e with e1 a;injection a with a c;exact⟨v::u::l,.swap u v l,by rw[Tb,Tb,e1,a,c]⟩
 |trans _ _ i j =>
  intro l e;obtain⟨p,bY,cO⟩:=j l e;obtain⟨q,fB,d⟩:=i p cO;exact⟨q,fB.trans bY,d⟩
structure Ord(lt:Nat->Nat->Bool):Prop where
 dR:∀x,lt x x=S6
 eE:∀x y z,lt y x=S6->lt z y=S6->lt z x=S6
 jt:∀x y,lt x y=J->lt y x=S6
section
noncomputable abbrev pr(a:List S8)(i:Nat):Keyed:=(a.getD i Value.none,a.getD i Value.none)
def NN(a):(a.toArray.zip a.toArray).toList=(Tp a.length).map (pr a):=by
 apply Qo;intro i;rw[OG]
 by_cases h:i<a.length
 .rw[Q1 h];simp[Vn,Ui,Ov h]
 .rw[OV (by simpa using h),OV (by simpa using h)];rfl
def GO(O:Ord lt)(U:∀i j,i<d.length->j<d.length->d.getD i Value.none=d.getD j Value.none->∀k,lt i k=lt j k/\lt k i=lt k j)(D:s.heap.get? a=Z (Ul "list" d.toArray n))(ay:d.length<64)(b1:2<=d.length->∀(h':TH),(∀b o,b≠a->s.heap.get? b=Z o->h'.get? b=Z o)->∀Q:UT->S9->Prop,Q κ { s with heap:=h' }->Ta (Tc prog w) A (WV d.toArray) Q E { s with heap:=h' })(aA:2<=d.length->∀(h':TH),(∀b o,b≠a->s.heap.get? b=Z o->h'.get? b=Z o)->∀(i j:Nat)(C:Bool->S9->Prop),i<d.length->j<d.length->C (lt i j) { s with heap:=h' }->VR prog w A κ d i j C { s with heap:=h' })(h:∀p:List Nat,p.Perm (Tp d.length)->p.Pairwise (λi j=>lt j i=S6)->∀(h':TH)(c:Nat),(∀b o,b≠a->s.heap.get? b=Z o->h'.get? b=Z o)->h'.get? a=Z (Ul "list" (p.map λi=>d.getD i Value.none).toArray c)->P (.done (.ret .none)) { s with heap:=h' }):
  Ta (Tc prog w) A (Uh.«list.sort» ⟨[.ref a],[]⟩) P E s:=by
 rw[list_sort_plain];have bl:a<s.heap.objs.size:=Ou D;refine Oh (WS D rfl ?_);refine Oh (Si D rfl ?_ (by rw[OE,Tw];lia) (OQ _));obtain⟨e1,T⟩:∃e1,(s.heap.update a (TX λ_=>(#[]:Array S8))).get? a=Z (Ul "list" #[] e1):=⟨_,VY D λ_=>#[]⟩;refine Oh (Xi T rfl ?_);refine Oh (wpAny_newTuple ?_ (by show d.length<=_;rw[Tw];lia));refine Oh (SU ?_ (OQ _));refine Pr ?_;have m:(((s.heap.update a (TX λ_=>(#[]:Array S8))).push (Ul "tuple" d.toArray 0)).push (Ul "list" #[] 0)).get? a=Z (Ul "list" #[] e1):=Ol _ (Ol _ T);have G:∀b o,b≠a->s.heap.get? b=Z o->(((s.heap.update a (TX λ_=>(#[]:Array S8))).push (Ul "tuple" d.toArray 0)).push (Ul "list" #[] 0)).get? b=Z o:=λb o l q =>
  Ol _ (Ol _ ((OR _ _ (Pd l)).trans q))
 show Ta (Tc prog w) A _ P E { s with heap:=((s.heap.update a (TX λ_=>(#[]:Array S8))).push (Ul "tuple" d.toArray 0)).push (Ul "list" #[] 0) };generalize ((s.heap.update a (TX λ_=>(#[]:Array S8))).push (Ul "tuple" d.toArray 0)).push (Ul "list" #[] 0)=bY at m G;dsimp only;have fin:∀p:List Nat,p.Perm (Tp d.length)->p.Pairwise (λi j=>lt j i=S6)->P (.done (.ret .none)) { s with heap:=bY.update a (TX λ_=>(p.map λi=>d.getD i Value.none).toArray) }:=λp bb L=>by
  obtain⟨I,aB⟩:∃I,(bY.update a (TX λ_=>(p.map λi=>d.getD i Value.none).toArray)).get? a=Z (Ul "list" (p.map λi=>d.getD i Value.none).toArray I):=⟨_,VY m λ_=>(p.map λi=>d.getD i Value.none).toArray⟩;exact h p bb L _ I (λb o l q=>(OR _ _ (Pd l)).trans (G b o l q)) aB
 have hz:=NN d
 by_cases cO:d.toArray.size<2
 .rw[if_pos cO,if_pos cO];refine Oh (Oj ?_);rw[StateT.run_pure];refine Oh (Oj ?_);dsimp only;refine Oh (Xi m rfl ?_);have a2:(Tn (SortSt.mk' general' (d.toArray.zip d.toArray) #[] 7 Y)).map (·.2)=((Tp d.length).map λi=>d.getD i Value.none).toArray:=by
   show(d.toArray.zip d.toArray).map (·.2)=_;apply W8.mp;rw[W9,hz,Ti];rfl
  rw[a2];refine Oh (Si m rfl ?_ (OQ _) (by rw[OE,S5,Uu,Tw];lia));simp only[P1,Om,OH];refine Oj (fin _ (.refl _) ?_);have u:d.length<2:=(by simpa using cO);rcases(show d.length=0\/d.length=1 by lia) with e|e
  .rw[e];exact UQ
  .rw[e];exact PI _ _
 .rw[if_neg cO,if_neg cO];have u:2<=d.length:=(by simp at cO;exact cO);refine Oh (b1 u bY G _ ?_);have V:∀x:TF,∃i,(∃i,i<d.length/\x=pr d i)->i<d.length/\x=pr d i:=λx=>by
   by_cases c:∃i,i<d.length/\x=pr d i
   .obtain⟨i,g⟩:=c;exact⟨i,λ_=>g⟩
   .exact⟨0,λq=>absurd q c⟩
  obtain⟨f,v⟩:∃f:TF->Nat,∀x,(∃i,i<d.length/\x=pr d i)->f x<d.length/\x=pr d (f x):=⟨λx=>(V x).choose,λx=>(V x).choose_spec⟩;have Or:eX (Tc prog w) A E { s with heap:=bY } κ (λx=>∃i,i<d.length/\x=pr d i) (λx y=>lt (f x) (f y)):=by
   refine⟨λx y st Q r a7 b2 q=>?_,λx y _ _ q=>O.jt _ _ q,λx y z _ _ _ a5 a6=>O.eE _ _ _ a5 a6⟩;obtain⟨M,ao⟩:=v x r;obtain⟨N,ax⟩:=v y a7;rw[lt'_eq];refine O8 (WU ?_);refine O8 (wpS_lift (RB ?_));have:=aA u bY G (f x) (f y) (λb s'=>s'={ s with heap:=bY }/\b=lt (f x) (f y)) M N ⟨rfl,rfl⟩;unfold VR at this;have e1:d.getD (f x) Value.none=x.1:=(Pw XE ao).symm;have a1:d.getD (f y) Value.none=y.1:=(Pw XE ax).symm;rw[e1,a1]at this;rw[b2];refine Pj this (λb s' ⟨L,l⟩=>⟨L,?_⟩) λ_ _ z=>z.elim
   subst l;exact PM q
  have run:=JO (st:=SortSt.mk' κ (d.toArray.zip d.toArray) #[] 7 Y) (Q:=λ_ t=>UU t=Y/\∃p:List Nat,p.Perm (Tp d.length)/\p.Pairwise (λi j=>lt j i=S6)/\(Tn t).toList=p.map (pr d)) Or rfl rfl rfl
   (λx r=>by
    have r:x∈(d.toArray.zip d.toArray).toList:=r;rw[hz]at r;obtain⟨i,g,rfl⟩:=Tf.mp r;exact⟨i,Ts.mp g,rfl⟩) (by show 2<=(d.toArray.zip d.toArray).size;rw[<- Tt,hz];simpa using u) (by show(d.toArray.zip d.toArray).size<64;rw[<- Tt,hz];simpa using ay) λt a8 H a0=>by
     have H:(Tn t).toList.Perm (d.toArray.zip d.toArray).toList:=H;rw[hz]at H;obtain⟨p,p1,p2⟩:=IH (pr d) H _ rfl;refine⟨a8,p,p1,?_,p2⟩;rw[p2,PD]at a0;refine PE (λ{i j} g B q=>?_) a0;have g:=Ts.mp (p1.mem_iff.mp g);have B:=Ts.mp (p1.mem_iff.mp B);obtain⟨M,aj⟩:=v (pr d i) ⟨i,g,rfl⟩;obtain⟨N,ar⟩:=v (pr d j) ⟨j,B,rfl⟩;have q:lt (f (pr d j)) (f (pr d i))=false:=q;rw[(U j (f (pr d j)) B N (Pw XE ar) i).1,(U i (f (pr d i)) g M (Pw XE aj) _).2];exact q
  refine Oh (Pj run ?_ λ_ _ e=>e);rintro⟨⟨⟩,t⟩ s' ⟨rfl,aC,p,p1,p2,p3⟩;have aX:(Tn t).map (·.2)=(p.map λi=>d.getD i Value.none).toArray:=by
   apply W8.mp;rw[W9,p3,Ti];rfl
  rw[aX];refine Oh (Xi m rfl ?_);refine Oh (Si m rfl ?_ (OQ _) (by rw[OE,S5,p1.length_eq,Uu,Tw];lia));rw[aC];simp only[P1,Om,OH];exact Oj (fin p p1 p2)
end
end Tm
end
section
namespace dq
open PySem PySem.W PyProof.Rows PySem.Calls
section
def ltI{κ:Type}(lt:κ->κ->Bool)(z:κ)(a:List κ)(i j:Nat):Bool:=lt (a.getD i z) (a.getD j z)
def sW{κ:Type}{lt:κ->κ->Bool}(L:aq.eH lt)(z)(c):Tm.Ord (ltI lt z c) where
 dR:=λx=>L.dR _
 eE:=λx y z a b=>aq.xE L a b
 jt:=λx y h=>aq.xF L h
def EN{κ:Type}(z:κ)(aY):(Tp aY.length).map (λi=>aY.getD i z)=aY:=by
 apply Qo;intro i;rw[OG]
 by_cases h:i<aY.length
 .rw[Q1 h];simp[Ui,h]
 .rw[OV (by simpa using h),OV (by simpa using h)];rfl
def Le{κ:Type}{lt:κ->κ->Bool}(L:aq.eH lt)(z)(aY){p:List Nat}(a:p.Perm (Tp aY.length))(b:p.Pairwise (λi j=>ltI lt z aY j i=S6)):(p.map λi=>aY.getD i z)=aq.bD lt aY:=by
 refine aq.AR L ?_ (aq.AQ L aY) ?_
 .unfold aq.kl;rw[PD];exact b
 .refine((a.map λi=>aY.getD i z).trans ?_).trans (aq.pq aY).symm;rw[EN]
def sU{κ:Type}{lt:κ->κ->Bool}{z:κ}{b:List κ}{a:List S8}(h:∀i j,i<a.length->j<a.length->a.getD i Value.none=a.getD j Value.none->b.getD i z=b.getD j z):
  ∀i j,i<a.length->j<a.length->a.getD i Value.none=a.getD j Value.none->∀k,ltI lt z b i k=ltI lt z b j k/\ltI lt z b k i=ltI lt z b k j:=λi j c d e k=>by
 unfold ltI;rw[h i j c d e];exact⟨rfl,rfl⟩
theorem ints_get:∀{a:List S8}{ns:List Int}(h:TR a ns)(i:Nat),i<a.length->∃t,a.getD i Value.none=.int (ns.getD i 0) t
 |_,_,.nil,i,h=>by simp at h
 |_,_,.cons n t _,0,_=>⟨t,rfl⟩
 |_,_,.cons n t r,i+1,h=>by
  obtain⟨u,e⟩:=ints_get r i (by simpa using h);exact⟨u,by simpa[Ui] using e⟩
theorem sg:∀{a:List S8}{ns:List Int}(h:TR a ns),ns.length=a.length
 |_,_,.nil=>rfl
 |_,_,.cons n t r=>by simp[sg r]
def F2(h:TR a ns):∀i j,i<a.length->j<a.length->a.getD i Value.none=a.getD j Value.none->ns.getD i 0=ns.getD j 0:=λi j c d e=>by
 obtain⟨t,e1⟩:=ints_get h i c;obtain⟨u,b⟩:=ints_get h j d;rw[e1,b]at e;injection e
def BB(b:TR a ns)(i j)(C)(d:i<a.length)(e:j<a.length)(h:C (ltI aq.ltI 0 ns i j) s):VR prog w A oneType' a i j C s:=by
 obtain⟨t,e1⟩:=ints_get b i d;obtain⟨u,c⟩:=ints_get b j e;unfold VR;rw[e1,c];exact kat_lt_int h
def F9(d:TR a ns)(c:2<=a.length)(h:Q oneType' s):Ta (Tc prog w) A (WV a.toArray) Q E s:=by
 obtain⟨qi,b,rest,rfl⟩:∃qi b rest,a=qi::b::rest:=by
  match a,c with
  |qi::b::rest,_=>exact⟨qi,b,rest,rfl⟩
 rw[keyKind_ints d];exact Oj h
noncomputable def ec(h:TH):List S8->List (List Int)->Prop
 |[],[]=>True
 |v::c,k::b=>(∃a o xs n,v=.ref a/\h.get? a=Z o/\o.cls=.type "tuple"/\o.data=.seq xs n/\TR xs.toList k/\k≠[])/\ec h c b
 |_,_=>False
theorem ec.kept(k:∀b o,h.get? b=Z o->h'.get? b=Z o):∀{d:List S8}{c:List (List Int)},ec h d c->ec h' d c
 |[],[],_=>trivial
 |v::d,x::c,⟨⟨a,o,xs,n,e,f,r⟩,t⟩=>⟨⟨a,o,xs,n,e,k a o f,r⟩,t.kept k⟩
theorem ec.len:∀{b:List S8}{a:List (List Int)},ec h b a->a.length=b.length
 |[],[],_=>rfl
 |v::b,x::a,⟨_,t⟩=>by simp[t.len]
theorem ec.get:∀{c:List S8}{b:List (List Int)},ec h c b->∀i,i<c.length->∃a o xs n,c.getD i Value.none=.ref a/\h.get? a=Z o/\o.cls=.type "tuple"/\o.data=.seq xs n/\TR xs.toList (b.getD i [])/\b.getD i []≠[]
 |[],[],_,i,d=>by simp at d
 |v::c,x::b,⟨q,t⟩,0,_=>q
 |v::c,x::b,e,i+1,d=>by
  obtain⟨q,t⟩:=e;have:=t.get i (by simpa using d);simpa[Ui] using this
def w8(h:TR b xs):∀{ys:List Int},TR b ys->xs=ys:=by
 induction h with
 |nil=>intro ys q;cases q;rfl
 |cons n t _ a =>
  intro ys q;cases q with
  |cons _ _ q=>rw[a q]
def F7(H:ec h b c):∀i j,i<b.length->j<b.length->b.getD i Value.none=b.getD j Value.none->c.getD i []=c.getD j []:=λi j k l e=>by
 obtain⟨a,o,xs,n,e1,m,_,p,q,_⟩:=H.get i k;obtain⟨s,u,v,t,g,d,_,f,r,_⟩:=H.get j l;rw[e1,g]at e;injection e with e;subst e;rw[m]at d;cases d;rw[p]at f;cases f;exact w8 q r
theorem ec.mP:∀{d:List S8}{f:List (List Int)},ec h d f->∃b:List S8,KatTups h d b/\b.length=d.length/\∀v∈b,∃i t,v=UB i t
 |[],[],_=>⟨[],XX,rfl,by simp⟩
 |v::d,x::f,A=>by
  obtain⟨⟨a,o,xs,n,e,w,l,m,c,s⟩,t⟩:=A;subst e;obtain⟨b,g,j,k⟩:=t.mP;obtain⟨i,u,p⟩:∃i u,xs[0]?=Z (UB i u):=by
   cases q:xs.toList with
   |nil=>rw[q]at c;cases c;exact absurd rfl s
   |cons y ys =>
    rw[q]at c;cases c with
    |cons n t r=>exact⟨n,t,(by have:xs.toList[0]?=Z (UB n t):=(by rw[q];rfl);simpa using this)⟩
  refine⟨UB i u::b,XT w l m p g,by simp[j],λz hz=>?_⟩;rcases Oq.mp hz with rfl|hz
  .exact⟨i,u,rfl⟩
  .exact k z hz
noncomputable def jL(fin:Bool):List Int->List Int->Bool
 |x::xs,y::ys=>if x=y then jL fin xs ys else decide (x<y)
 |_,_=>fin
theorem xB:∀(xs ys:List Int),jL (decide (xs.length<ys.length)) xs ys=aq.lexLt xs ys
 |[],[]=>rfl
 |[],_::_=>rfl
 |_::_,[]=>rfl
 |x::xs,y::ys=>by
  have e:decide ((x::xs).length<(y::ys).length)=decide (xs.length<ys.length):=(by simp);rw[e];simp only[jL,aq.lexLt,xB xs ys]
theorem xm:∀{a c:List S8}{xs ys:List Int}(i:Nat),TR a xs->TR c ys->Q (jL fin xs ys) s->KatLex prog w A J fin Q (a.zip c) i s
 |_,_,_,_,i,.nil,_,h=>by simpa[jL] using kat_nil (prog:=prog) (w:=w) (A:=A) (b:=J) (i:=i) h
 |_,_,_,_,i,.cons x t r,.nil,h=>by simpa[jL] using kat_nil (prog:=prog) (w:=w) (A:=A) (b:=J) (i:=i) h
 |_,_,_,_,i,.cons x t r,.cons y u q,h=>by
  refine kat_cons (wpAny_eqBool_int ?_);simp only[jL]at h
  by_cases e:x=y
  .subst e;rw[if_pos rfl]at h;rw[show(x==x)=J by simp];exact kat_yes (xm (i+1) r q h)
  .rw[if_neg e]at h;rw[show(x==y)=S6 by simpa using e];refine kat_no ?_;cases d:(J&&i==0) with
   |true=>exact oneLt_int h
   |false=>exact kat_one _ _ (lt_int (show W.BoolBack Q (UW (decide (x<y))) s from h))
def BC(g:ec s.heap d c)(i j)(C)(p:i<d.length)(q:j<d.length)(h:C (ltI aq.lexLt [] c i j) s):VR prog w A (WW J) d i j C s:=by
 obtain⟨a,o,xs,n,e1,r,v,l,e,_⟩:=g.get i p;obtain⟨b,z,ys,y,k,t,x,m,f,_⟩:=g.get j q;unfold VR;rw[e1,k];refine kat_lt r l t m (xm 0 e f ?_);have l1:(c.getD i []).length=xs.size:=by rw[sg e,Tt]
 have u:(c.getD j []).length=ys.size:=by rw[sg f,Tt]
 rw[<- l1,<- u,xB];exact h
def Ga(b:ec s.heap a f)(e:2<=a.length)(h:Q (WW J) s):Ta (Tc prog w) A (WV a.toArray) Q E s:=by
 obtain⟨d,k1,k2,k3⟩:=b.mP;refine kat_kind (T:=TM "int") k1 ⋯ (λv c=>?_) ∅ (by rw[show(TM "int" != TM "tuple")=J by decide];exact h);obtain⟨i,t,rfl⟩:=k3 v c;exact Looks.of_pure rfl
end
end dq
end
section
namespace aq
noncomputable def dT:List (List Int)->List (List Int)->Bool
 |[],[]=>S6
 |[],_::_=>J
 |_::_,[]=>S6
 |x::xs,y::ys=>if x=y then dT xs ys else lexLt x y
theorem xx:∀a,dT a a=S6
 |[]=>rfl
 |x::a=>by simp[dT,xx a]
theorem xw:∀a b,a≠b->dT a b=J\/dT b a=J
 |[],[],h=>absurd rfl h
 |[],_::_,_=>.inl rfl
 |_::_,[],_=>.inr rfl
 |x::a,y::b,h=>by
  simp only[dT]
  by_cases e:x=y
  .subst e;simp only[Pb];exact xw a b λz=>h (by rw[z])
  .rw[if_neg e,if_neg (Pd e)];exact sz x y e
theorem xy:∀{a b c},dT a b=J->dT b c=J->dT a c=J
 |[],[],_,h,_=>by simp[dT]at h
 |[],_::_,[],_,h=>by simp[dT]at h
 |[],_::_,_::_,_,_=>rfl
 |_::_,[],_,h,_=>by simp[dT]at h
 |_::_,_::_,[],_,h=>by simp[dT]at h
 |x::a,y::b,z::c,g,d=>by
  simp only[dT]at *
  by_cases e:x=y
  .subst e;rw[if_pos rfl]at g
   by_cases f:x=z
   .subst f;rw[if_pos rfl]at d ⊢;exact xy g d
   .rw[if_neg f]at d ⊢;exact d
  .rw[if_neg e]at g
   by_cases f:y=z
   .subst f;rw[if_neg e];exact g
   .rw[if_neg f]at d;have t:=sC g d
    by_cases i:x=z
    .subst i;rw[sA]at t;cases t
    .rw[if_neg i];exact t
def xD:eH dT:=⟨xx,xy,xw⟩
noncomputable def mi(c:List (List Int)):ζ.D:=.tup (c.map af)
theorem xQ:∀a b:List (List Int),ζ.hr (a.map af) (b.map af)=Z (dT a b)
 |[],[]=>rfl
 |[],_::_=>rfl
 |_::_,[]=>rfl
 |x::a,y::b=>by
  rw[show ζ.hr ((x::a).map af) ((y::b).map af)=if ζ.cU (af x) (af y)=J then ζ.hr (a.map af) (b.map af) else ζ.hq (af x) (af y) from rfl,xQ a b,h4,fV];simp only[dT]
  by_cases h:x=y<;>simp[h]
def GZ(a b):ζ.hq (mi a) (mi b)=Z (dT a b):=xQ a b
end aq
namespace dq
open PySem PySem.W PyProof.Rows PySem.Calls
noncomputable def fQ(h:TH):List S8->List (List (List Int))->Prop
 |[],[]=>True
 |v::c,k::b=>(∃a o xs n,v=.ref a/\h.get? a=Z o/\o.cls=.type "tuple"/\o.data=.seq xs n/\ec h xs.toList k/\k≠[])/\fQ h c b
 |_,_=>False
theorem fQ.kept(k:∀b o,h.get? b=Z o->h'.get? b=Z o):∀{d:List S8}{c:List (List (List Int))},fQ h d c->fQ h' d c
 |[],[],_=>trivial
 |v::d,x::c,⟨⟨a,o,xs,n,e,l,g,i,f,j⟩,t⟩=>⟨⟨a,o,xs,n,e,k _ _ l,g,i,f.kept k,j⟩,t.kept k⟩
 |[],_::_,h=>h.elim
 |_::_,[],h=>h.elim
theorem fQ.get:∀{c:List S8}{b:List (List (List Int))},fQ h c b->∀i,i<c.length->∃a o xs n,c.getD i Value.none=.ref a/\h.get? a=Z o/\o.cls=.type "tuple"/\o.data=.seq xs n/\ec h xs.toList (b.getD i [])/\b.getD i []≠[]
 |[],[],_,i,d=>by simp at d
 |v::c,x::b,⟨t,r⟩,0,_=>by simpa[Ui] using t
 |v::c,x::b,⟨t,r⟩,i+1,d=>by simpa[Ui] using fQ.get r i (by simpa using d)
 |[],_::_,h,_,_=>h.elim
 |_::_,[],h,_,_=>h.elim
theorem Au:∀{b:List S8}{xs ys:List (List Int)},ec h b xs->ec h b ys->xs=ys
 |[],[],[],_,_=>rfl
 |v::b,x::xs,y::ys,l,m=>by
  obtain⟨⟨a,o,w,n,e,k,q,j,g,_⟩,t⟩:=l;obtain⟨⟨p,u,z,s,f,d,r,c,i,_⟩,t'⟩:=m;subst e;cases f;rw[k]at d;cases d;rw[j]at c;cases c;rw[w8 g i,Au t t']
 |[],_::_,_,h,_=>h.elim
 |[],[],_::_,_,h=>h.elim
 |_::_,[],_,h,_=>h.elim
 |_::_,_::_,[],_,h=>h.elim
def F8(H:fQ h b c):∀i j,i<b.length->j<b.length->b.getD i Value.none=b.getD j Value.none->c.getD i []=c.getD j []:=λi j g k e=>by
 obtain⟨a,o,xs,n,m,l,_,q,r,_⟩:=H.get i g;obtain⟨t,v,w,u,p,d,_,f,s,_⟩:=H.get j k;rw[m,p]at e;cases e;rw[l]at d;cases d;rw[q]at f;cases f;exact Au r s
theorem fQ.mP:∀{g:List S8}{i:List (List (List Int))},fQ h g i->∃d:List S8,KatTups h g d/\d.length=g.length/\∀v∈d,∃a o,v=Th a/\h.get? a=Z o/\o.cls=.type "tuple"
 |[],[],_=>⟨[],XX,rfl,by simp⟩
 |v::g,x::i,E=>by
  obtain⟨⟨a,o,xs,n,e,D,w,A,f,C⟩,t⟩:=E;subst e;obtain⟨d,m,p,r⟩:=t.mP;obtain⟨b,c,B,s,u⟩:∃b c,xs[0]?=Z (Th b)/\h.get? b=Z c/\c.cls=.type "tuple":=by
   cases q:xs.toList with
   |nil =>
    rw[q]at f;cases x with
    |nil=>exact absurd rfl C
    |cons _ _=>exact f.elim
   |cons y ys =>
    rw[q]at f;cases x with
    |nil=>exact f.elim
    |cons k x =>
     obtain⟨⟨b,c,H,G,e1,j,l,_⟩,_⟩:=f;exact⟨b,c,(by have:xs.toList[0]?=Z (Th b):=(by rw[q,e1];rfl);simpa using this),j,l⟩
  refine⟨Th b::d,XT D w A B m,by simp[p],λz hz=>?_⟩;rcases Oq.mp hz with rfl|hz
  .exact⟨b,c,rfl,s,u⟩
  .exact r z hz
 |[],_::_,h=>h.elim
 |_::_,[],h=>h.elim
section
noncomputable def jM(fin:Bool):List (List Int)->List (List Int)->Bool
 |x::xs,y::ys=>if x=y then jM fin xs ys else aq.lexLt x y
 |_,_=>fin
theorem xA:∀(xs ys:List (List Int)),jM (decide (xs.length<ys.length)) xs ys=aq.dT xs ys
 |[],[]=>rfl
 |[],_::_=>rfl
 |_::_,[]=>rfl
 |x::xs,y::ys=>by
  have e:decide ((x::xs).length<(y::ys).length)=decide (xs.length<ys.length):=(by simp);rw[e];simp only[jM,aq.dT,xA xs ys]
theorem xC:∀a b:List Int,bL.lexLt a b=aq.lexLt a b
 |[],[]=>rfl
 |[],_::_=>rfl
 |_::_,[]=>rfl
 |x::a,y::b=>by simp only[bL.lexLt,aq.lexLt,xC a b]
noncomputable def nf(k:List Int):PyData:=.tuple (k.map .int)
theorem tf:∀{a:List S8}{k:List Int},TR a k->VD h a (k.map .int) []
 |_,_,.nil=>.nil
 |_,_,.cons n t r=>.cons (as:=[]) (.int n t) (tf r)
theorem vY:∀a b:List Int,Vv (a.map .int) (b.map .int)=decide (a=b)
 |[],[]=>rfl
 |[],_::_=>rfl
 |_::_,[]=>rfl
 |x::a,y::b=>by
  rw[Tb,Tb,Vv,vY a b,XF]
  by_cases h:x=y<;>simp[h]
theorem oX:∀a:List Int,Uv (a.map .int)=J/\Us (a.map .int)=0
 |[]=>⟨rfl,rfl⟩
 |x::a=>by
  obtain⟨b,c⟩:=oX a;exact⟨by rw[Tb,Uv,b];rfl,by rw[Tb];show max (XU (.int x)) (Us (a.map .int))=0;rw[c];rfl⟩
theorem xn(D:A.units+2<TS):∀{c d:List S8}{xs ys:List (List Int)}(i:Nat),ec s.heap c xs->ec s.heap d ys->Q (jM fin xs ys) s->KatLex prog w A S6 fin Q (c.zip d) i s
 |[],_,[],_,i,_,_,h=>by simpa[jM] using kat_nil (prog:=prog) (w:=w) (A:=A) (b:=S6) (i:=i) h
 |_::_,[],_::_,[],i,_,_,h=>by simpa[jM] using kat_nil (prog:=prog) (w:=w) (A:=A) (b:=S6) (i:=i) h
 |u::c,v::d,x::xs,y::ys,i,L,M,h=>by
  obtain⟨⟨a,o,as,n,e,z,m,q,j,_⟩,t⟩:=L;obtain⟨⟨b,G,bs,E,C,B,p,r,l,_⟩,t'⟩:=M;subst e C;have H:XG s.heap (.ref a) (nf x) []:=.tuple z m q (tf j);have I:XG s.heap (.ref b) (nf y) []:=.tuple B p r (tf l);have f:∀k:List Int,(nf k).depth=1:=λk=>by show Us (k.map .int)+1=1;rw[(oX k).2]
  have g:=Xa _ _ A s _ _ _ _ H I (show Uv (x.map .int)=J from(oX x).1) (show Uv (y.map .int)=J from(oX y).1) (by rw[f,f];show A.units+1<TS;lia);rw[show XF (nf x) (nf y)=decide (x=y) from vY x y]at g;refine kat_cons (g prog w _ _ ?_);simp only[jM]at h
  by_cases e:x=y
  .rw[if_pos e]at h;rw[decide_eq_true e];exact kat_yes (xn D (i+1) t t' h)
  .rw[if_neg e]at h;rw[decide_eq_false e];refine kat_no (kat_one _ _ ?_);have p1:s.heap.IsTuple a as:=⟨o,z,m,n,q⟩;have p2:s.heap.IsTuple b bs:=⟨G,B,p,E,r⟩;exact bL.xS p1 p2 j l ⋯ (by rw[xC];exact h)
 |[],_,_::_,_,_,h,_,_=>h.elim
 |_::_,_,[],_,_,h,_,_=>h.elim
 |_::_,[],_::_,_::_,_,_,h,_=>h.elim
 |_::_,_::_,_::_,[],_,_,h,_=>h.elim
def BD(u:A.units+2<TS)(g:fQ s.heap d c)(i j)(C)(p:i<d.length)(q:j<d.length)(h:C (ltI aq.dT [] c i j) s):VR prog w A (WW S6) d i j C s:=by
 obtain⟨a,o,xs,n,e1,r,x,l,e,_⟩:=g.get i p;obtain⟨b,B,ys,z,k,t,y,m,f,_⟩:=g.get j q;unfold VR;rw[e1,k];refine kat_lt r l t m (xn u 0 e f ?_);have l1:(c.getD i []).length=xs.size:=by rw[e.len,Tt]
 have v:(c.getD j []).length=ys.size:=by rw[f.len,Tt]
 rw[<- l1,<- v,xA];exact h
def Gb(c:fQ s.heap b j)(i:2<=b.length)(h:Q (WW S6) s):Ta (Tc prog w) A (WV b.toArray) Q E s:=by
 obtain⟨g,k1,k2,k3⟩:=c.mP;refine kat_kind (T:=TM "tuple") k1 ⋯ (λv f=>?_) ∅ (by rw[show(TM "tuple" != TM "tuple")=S6 by decide];exact h);obtain⟨a,o,rfl,e,d⟩:=k3 v f;rw[<- d];exact(Looks.ld e).andThen .now
end
end dq
end
section
namespace cJ
open ζ aq
variable{pg:cT}{Φ:dn}
section
variable{α:Type}{lt:α->α->Bool}
def pF(h:k<=n):aQ n d (Z (k:Int))=k:=by
 have a:¬((k:Int)<0):=by lia
 have b:¬((n:Int)<(k:Int)):=by lia
 simp only[aQ,if_neg a,if_neg b];lia
def zo(h:n<k):aQ n d (Z (k:Int))=n:=by
 have a:¬((k:Int)<0):=by lia
 have b:((n:Int)<(k:Int)):=by lia
 simp only[aQ,if_neg a,if_pos b]
def vu{β:Type}(xs:List β)(k:Nat):cut xs (Z (k:Int)) Y=xs.drop k:=by
 unfold cut
 by_cases h:k<=xs.length
 .rw[pF h];show List.take (xs.length-k) (xs.drop k)=_;rw[PB (by simp)]
 .rw[zo ⋯,VS (Ot _),VS ⋯];simp
def vv{β:Type}(xs:List β)(k:Nat):cut xs Y (Z (k:Int))=xs.take k:=by
 unfold cut
 by_cases h:k<=xs.length
 .rw[pF h];simp[aQ]
 .rw[zo ⋯];simp only[aQ,List.drop_zero,Nat.sub_zero];rw[PB (Ot _),PB ⋯]
end
def IsCell(m:Int)(c:List Int):Prop:=c≠[]/\(∀x∈c,0<=x/\x<m)/\bI ltI c
noncomputable instance (m:Int) (c:List Int):Decidable (IsCell m c):=by unfold IsCell bI;infer_instance
def wM{α:Type}(xs:List α)(k:Nat):hn xs (k:Int)=xs[k]?:=by
 unfold hn gv;rw[if_pos ⋯]
 by_cases h:k<xs.length
 .rw[if_pos ⋯];simp
 .rw[if_neg ⋯];simp;lia
noncomputable def lies(c o:List Int):Bool:=c.all λx=>decide (x∈o)
def sD:lies c o=J<->∀x∈c,x∈o:=by simp[lies]
def EB{α β:Type}(f:α->β)(xs:List α):xs.filterMap (λx=>Z (f x))=xs.map f:=by
 induction xs with
 |nil=>rfl
 |cons x xs a=>simp
def EA{α β:Type}(q:α->Bool)(f:α->β)(xs:List α):xs.filterMap (λx=>if q x then Z (f x) else Y)=(xs.filter q).map f:=by
 induction xs with
 |nil=>rfl
 |cons x xs a=>cases h:q x<;>simp[h,a]
noncomputable def bp(m:Int):List Int:=(Tp m.toNat).map λ(k:Nat)=>(k:Int)
def ng(m):c9 0 m=(bp m).map .int:=by
 unfold c9 bp;rw[Ti];have:(m-0).toNat=m.toNat:=by lia
 rw[this];apply PS;intro k _;simp
def k9:x∈bp m<->0<=x/\x<m:=by
 unfold bp;rw[Tf];constructor
 .rintro⟨k,a,rfl⟩;have:=Ts.mp a;lia
 .rintro⟨b,c⟩;exact⟨x.toNat,Ts.mpr ⋯,⋯⟩
noncomputable def eL(m:Int)(ts:List (List Int)):Bool:=(bp m).all λk=>ts.any (lies [k])
def rR:eL m ts=J<->∀x,0<=x->x<m->∃t∈ts,x∈t:=by
 unfold eL;simp only[OM,QW,sD,k9,OC,forall_eq];exact⟨λh x a b=>h x ⟨a,b⟩,λh x ab=>h x ab.1 ab.2⟩
def zg(h:-1000<=m)(h':m<=1000):jX m=true:=by unfold jX;simp;lia
def jY(a:-1000<=i)(b:i<=1000)(c:-1000<=j)(d:j<=1000):ic i j=.ok (c9 i j):=by
 have e:(j-i).toNat<=1000000:=by lia
 unfold ic;rw[zg a b,zg c d,decide_eq_true e];rfl
def Et{α:Type}{p:α->Bool}{c:α}(pre)(h:p c=J):(pre++[c]).filter p=pre.filter p++[c]:=by rw[QD];simp[h]
def Es{α:Type}{p:α->Bool}{c:α}(pre)(h:p c=S6):(pre++[c]).filter p=pre.filter p:=by rw[QD];simp[h]
noncomputable def fJ(cs:List (List Int)):List (List Int):=(bD lexLt (bF cs)).filter λc=>!((bD lexLt (bF cs)).filter λo=>decide (c.length<o.length)).any (lies c)
def et:SZ=16777216:=rfl
noncomputable def aT(m:Int)(ts:List (List Int)):D:=.tup [.int m,.tup (ts.map af)]
def kF(d:D):Prop:=∀m ts,d=aT m ts->(∀c∈ts,IsCell m c)->(bF ts).length<=63
end cJ
end
section
namespace b4
open ζ aq cJ
variable{pg:cT}{Φ:dn}
mutual
theorem KY:∀(n:Nat)(d:D),bB n d=J->bB (n+1) d=J
 |n,.bG,_=>rfl
 |n,.ah _,_=>rfl
 |n,.int _,_=>rfl
 |0,.str _,h=>h
 |n+1,.str _,h=>h
 |0,.tup _,h=>by cases h
 |n+1,.tup xs,h=>tx n xs h
 |0,.lst _,h=>by cases h
 |n+1,.lst xs,h=>tx n xs h
 |0,.aN _,h=>by cases h
 |0,.aM _,h=>by cases h
 |n+1,.aN _,h=>by cases h
 |n+1,.aM _,h=>by cases h
 |0,.dQ _,h=>by cases h
 |n+1,.dQ _,h=>by cases h
theorem tx:∀(n:Nat)(xs:List D),xs.all (bB n)=J->xs.all (bB (n+1))=J
 |_,[],_=>rfl
 |n,x::xs,h=>by
  simp only[Un,Oi]at h ⊢;exact⟨KY n x h.1,tx n xs h.2⟩
end
def Fd{c:List Int}{k:Nat}(h:c[k]?=Z x):fC (.tup (c.map .int)) (.int (k:Int))=.ok (.int x):=by
 rw[w1,wM,OG,h];rfl
end b4
end
section
namespace b4
open ζ aq cJ
def vp{α:Type}{p:α->Option D}{f:α->D}{a:List α}(h:∀k∈a,g (f k)=.ok (p k)):bN g (a.map f)=.ok (a.filterMap p):=by
 induction a with
 |nil=>rfl
 |cons c cs d =>
  simp only[Tb,bN,h c S7,R.i3,d λy b=>h y (S4 _ b),Um];cases p c<;>rfl
def hj{α:Type}{q:α->Bool}{h:α->D}{f:α->D}{a:List α}(e:∀k∈a,g (f k)=.ok (if q k then Z (h k) else Y)):bN g (a.map f)=.ok ((a.filter q).map h):=by
 rw[vp e,EA]
def eY{α:Type}{h:α->D}{f:α->D}{a:List α}(e:∀k∈a,g (f k)=.ok (Z (h k))):bN g (a.map f)=.ok (a.map h):=by
 rw[vp (p:=λk=>Z (h k)) e,EB]
def tq(c):cP (af c)=.ok (c.map .int):=rfl
def wy{α:Type}(q)(xs:List α):(xs.filter q).isEmpty=xs.all λx=>!q x:=by
 induction xs with
 |nil=>rfl
 |cons x xs a=>cases h:q x<;>simp[h,a]
def mY{α β:Type}(f:α->β)(xs:List α):(xs.map f).isEmpty=xs.isEmpty:=by cases xs<;>rfl
def Gw(c o):bg pg Φ ⟨2,0,ak.rb⟩ [af c,af o]=.ok (.ah (lies c o)):=by
 have e1:bN (elem pg Φ [Z (af c),Z (af o)] (.var 2) 0 (.some (.cmp .h8 (.var 2) (.var 1)))) (c.map .int)=.ok ((c.filter λx=>!decide (x∈o)).map .int):=hj λx _=>by
  simp!;unfold af;simp![Hj];cases decide (x∈o)<;>simp!
 simp![ak.rb,tq,e1,vX (ys:=(c.filter λx=>!decide (x∈o)).map .int) (by simp[Ql,pK]),mY,wy,lies,Bool.not_not]
noncomputable def jN(cs:List (List Int)):List (List Int):=(bD lexLt (bF cs)).filter λc=>cs.all λo=>!(!decide (c=o)&&lies c o)
def GC(h:∀c o:List Int,Φ f [af c,af o]=.ok (.ah (lies c o)))(b:cP d=.ok (cs.map af))(m:∀c∈cs,c≠[])(a:(bF cs).length<=63):
  bg pg Φ ⟨1,2,ak.rm f⟩ [d]=.ok (.tup ((jN cs).map af)):=by
 simp![ak.rm,b,tG m a];have u:(bD lexLt (bF cs)).length<=63:=by rw[mT];exact a
 unfold jN;generalize bD lexLt (bF cs)=ds at *;obtain⟨v,e,x,k⟩:=d0 (f:=af) (g:=turn pg Φ 0 [2] (.cons (.iff (.cmp .eq (.comp (.var 3) 0 (.seq (.var 0)) (.some (.and (.cmp .ne (.var 2) (.var 3)) (.call f (.cons (.var 2) (.cons (.var 3) (.nil))))))) (.lst (.nil))) (.cons (.app 1 (.var 2)) (.nil)) (.nil)) (.nil)))
  (λp i=>∃(x:Option D),i=[Z d,Z (.lst ((p.filter λc=>cs.all λo=>!(!decide (c=o)&&lies c o)).map af)),x])
  ds [Z d,Z (.lst []),Y] ⟨Y,rfl⟩ (λpre c post i n r=>by
   obtain⟨x,j⟩:=r;subst j;have e1:∀z,bN (elem pg Φ [Z d,z,Z (af c)] (.var 3) 0 (.some (.and (.cmp .ne (.var 2) (.var 3)) (.call f (.cons (.var 2) (.cons (.var 3) (.nil))))))) (cs.map af)=.ok ((cs.filter λo=>!decide (c=o)&&lies c o).map af):=λz=>hj λo _=>by
    simp![Dv,h];cases decide (c=o)<;>simp![h,QQ,Vr];cases lies c o<;>simp!
   have l:((pre.filter λc=>cs.all λo=>!(!decide (c=o)&&lies c o)).map af).length<SZ:=by
    have s:=Ro (λc=>cs.all λo=>!(!decide (c=o)&&lies c o)) pre;have t:pre.length<=ds.length:=(by rw[n];simp);rw[S5,et];lia
   simp![b,e1,vX (nr 58 _),mY,wy];cases q:(cs.all λo=>!(!decide (c=o)&&lies c o))
   .refine⟨_,by simp!;rfl,Z (af c),?_⟩;rw[Es pre (by rw[q])]
   .refine⟨_,by simp![n1,if_pos l];rfl,Z (af c),?_⟩;rw[Et pre (by rw[q]),Te];rfl)
 rw[e,k];simp!
def BA(a:bI ltI c)(d:bI ltI o)(h:∀x∈c,x∈o)(e:c≠o):c.length<o.length:=by
 have f:c.length<=o.length:=f6 (a.nodup hp) h;rcases RP c.length o.length with q|q
 .exact q
 .exfalso;apply e;refine hJ hp a d λz=>⟨h z,λhz=>?_⟩
  by_cases b:z∈c
  .exact b
  .exfalso;have:(z::c).length<=o.length:=f6 (OX.mpr ⟨b,a.nodup hp⟩) λw hw=>by
    rcases Oq.mp hw with rfl|hw
    .exact hz
    .exact h w hw
   simp at this;lia
def G1(h:∀c∈cs,bI ltI c):jN cs=fJ cs:=by
 unfold jN fJ;apply Se;intro c b;have d:∀z,z∈bD lexLt (bF cs)<->z∈cs:=λz=>by rw[fE,e6]
 have b:=(d c).mp b;rw[P2];simp only[OM,O6,Bool.and_eq_false_iff,Bool.not_eq_false',Oz,R6,OJ,d];constructor
 .rintro q o ⟨a,f⟩;rcases q o a with rfl|q
  .omega
  .rw[q];exact Pc
 .intro q o a
  by_cases e:c=o
  .exact .inl e
  .refine .inr ?_;cases z:lies c o with
   |false=>rfl
   |true=>exact absurd z (q o ⟨a,BA (h c b) (h o a) (sD.mp z) e⟩)
def jy(h:IsCell m c):c.length<=m.toNat:=by
 have:c.length<=(bp m).length:=f6 (h.2.2.nodup hp) λz hz=>k9.mpr (h.2.1 z hz)
 simpa[bp] using this
def oR(h:m<=6):(bp m).length<=6:=by unfold bp;simp;lia
noncomputable def bz:Nat->List Int->List (List Int)
 |0,_=>[[]]
 |_+1,[]=>[]
 |s+1,x::r=>(bz s r).map (x::·)++bz (s+1) r
theorem jP:∀(s:Nat)(c z:List Int),z∈bz s c<->z.length=s/\z.Sublist c
 |0,c,z=>by
  simp only[bz,OC,VB];exact⟨λh=>⟨h,by subst h;exact QX _⟩,λh=>h.1⟩
 |s+1,[],z=>by
  simp only[bz,Qw,Ry,false_iff];rintro⟨b,a⟩;subst a;simp at b
 |s+1,x::r,z=>by
  simp only[bz,Ox,Tf,jP s r,jP (s+1) r,List.sublist_cons_iff];constructor
  .rintro(⟨y,⟨b,a⟩,rfl⟩|⟨b,a⟩)
   .exact⟨by simp[b],.inr ⟨y,rfl,a⟩⟩
   .exact⟨b,.inl a⟩
  .rintro⟨b,a|⟨y,rfl,a⟩⟩
   .exact .inr ⟨b,a⟩
   .exact .inl ⟨y,⟨by simpa using b,a⟩,rfl⟩
theorem mS:∀(s:Nat)(c:List Int),(bz s c).length<=2 ^ c.length
 |0,c=>by simp only[bz,TB];exact Nat.one_le_two_pow
 |s+1,[]=>by simp[bz]
 |s+1,x::r=>by
  have a:=mS s r;have b:=mS (s+1) r;simp only[bz,Oo,S5,To,Ut];lia
noncomputable def b7:Nat->Nat->Nat
 |0,_=>1
 |_+1,0=>0
 |s+1,n+1=>b7 s n+b7 (s+1) n
theorem ta:∀(s:Nat)(c:List Int),(bz s c).length=b7 s c.length
 |0,c=>by simp[bz,b7]
 |s+1,[]=>by simp[bz,b7]
 |s+1,x::r=>by simp only[bz,Oo,S5,To,b7,ta s r,ta (s+1) r]
theorem s9:∀{s n:Nat},n<s->b7 s n=0
 |0,_,h=>by lia
 |s+1,0,_=>rfl
 |s+1,n+1,h=>by simp only[b7,s9 (s:=s) (n:=n) ⋯,s9 (s:=s+1) (n:=n) ⋯]
def IX(h:n<=6):b7 s n<=20:=by
 rcases RP n s with q|q
 .rw[s9 q];lia
 .have:∀n:Fin 7,∀s:Fin 7,b7 s.val n.val<=20:=∅;exact this ⟨n,⋯⟩ ⟨s,⋯⟩
theorem yJ:∀(s:Nat)(c:List Int),bz (s+1) c=(Tp c.length).flatMap λk=>(bz s (c.drop (k+1))).map (c.getD k 0::·)
 |s,[]=>rfl
 |s,x::r=>by
  rw[To,Sz,Sf,List.flatMap_map];show _=(bz s r).map (x::·)++(Tp r.length).flatMap λk=>(bz s (r.drop (k+1))).map (r.getD k 0::·)
  rw[<- yJ s r];rfl
def Fe{c:List Int}(h:k<c.length):fC (.tup (c.map .int)) (.int (k:Int))=.ok (.int (c.getD k 0)):=Fd (by rw[Ov h];simp[Ui,Ov h])
def td(n:Nat):c9 0 (n:Int)=(Tp n).map λ(k:Nat)=>D.int (k:Int):=by
 unfold c9;have:((n:Int)-0).toNat=n:=by lia
 rw[this];apply PS;intro k _;congr 1;lia
theorem oz{α β:Type}{f:α->List β}:∀{xs:List α},(∀x∈xs,(f x).length<=k)->(xs.flatMap f).length<=xs.length*k
 |[],_=>by simp
 |x::xs,h=>by
  have:=oz (f:=f) (xs:=xs) λc a=>h c (S4 _ a)
  have b:=h x S7;simp only[Sf,Oo,To,Nat.succ_mul];lia
def Il(c):bg pg Φ ⟨2,2,ak.kn f⟩ [af c,.int 0]=.ok (.lst ((bz 0 c).map af)):=by
 have e:dJ (.int 0) (.int 0)=.ok true:=rfl;simp![ak.kn,e,bz];rfl
def Im{s:Nat}(N:c.length<=8)(y:∀h:List Int,h.length<=8->Φ f [af h,.int (s:Int)]=.ok (.lst ((bz s h).map af))):bg pg Φ ⟨2,2,ak.kn f⟩ [af c,.int ((s:Int)+1)]=.ok (.lst ((bz (s+1) c).map af)):=by
 have h0:((s:Int)+1==0)=false:=by rw[beq_eq_false_iff_ne];lia
 have l:h2 (af c)=.ok (.int (c.length:Int)):=by unfold af;rw[sx,S5]
 simp![ak.kn,h0,l,jY (i:=0) (j:=(c.length:Int)) ⋯ ⋯ ⋯ ⋯,td];have q:∀d:List Nat,d.length<=8->(d.flatMap λk=>(bz s (c.drop (k+1))).map (c.getD k 0::·)).length<=2048:=λd n=>by
  have:=oz (f:=λk=>(bz s (c.drop (k+1))).map (c.getD k 0::·)) (k:=256) (xs:=d) λk _=>by
   have r:=mS s (c.drop (k+1));have t:(c.drop (k+1)).length<=8:=(by rw[P9];lia);have u:2 ^ (c.drop (k+1)).length<=2 ^ 8:=OO ∅ t;rw[S5];lia
  lia
 obtain⟨T,e,x,w⟩:=d0 (f:=λk:Nat=>D.int (k:Int)) (g:=turn pg Φ 0 [3] (.cons (.asg 2 (.bin .add (.var 2) (.comp (.bin .add (.tup (.cons (.idx (.var 0) (.var 3)) (.nil))) (.var 4)) 0 (.seq (.call f (.cons (.slice (.var 0) (.some (.bin .add (.var 3) (.lit (.int 1)))) (.none)) (.cons (.bin .sub (.var 1) (.lit (.int 1))) (.nil))))) (.none)))) (.nil)))
  (λL p=>∃(x:Option D),p=[Z (af c),Z (.int ((s:Int)+1)),Z (.lst ((L.flatMap λk=>(bz s (c.drop (k+1))).map (c.getD k 0::·)).map af)),x])
  (Tp c.length) [Z (af c),Z (.int ((s:Int)+1)),Z (.lst []),Y] ⟨Y,rfl⟩ (λpre k post p o M=>by
   obtain⟨x,v⟩:=M;subst v;have n:k<c.length:=by
    have:k∈Tp c.length:=(by rw[o];simp);exact Ts.mp this
   have P:pre.length+1<=c.length:=by
    have:(Tp c.length).length=(pre++k::post).length:=(by rw[o]);simp at this;lia
   have G:gB (af c) (Z ((k:Int)+1)) Y=.ok (af (c.drop (k+1))):=by
    unfold af;rw[nu];have:((k:Int)+1)=((k+1:Nat):Int):=⋯;rw[this,vu,List.map_drop]
   have H:(s:Int)+1-1=(s:Int):=⋯;have m:(c.drop (k+1)).length<=8:=(by rw[P9];lia);have e1:∀a b,bN (elem pg Φ [Z (af c),a,b,Z (D.int (k:Int))] (.bin .add (.tup (.cons (.idx (.var 0) (.var 3)) (.nil))) (.var 4)) 0 .none) ((bz s (c.drop (k+1))).map af)=.ok ((bz s (c.drop (k+1))).map λz=>af (c.getD k 0::z)):=λa b=>eY λz hz=>by
    have hz:=(jP _ _ _).mp hz;have Q:=hz.2.length_le;have K:=Fe n;have C:[D.int (c.getD k 0)].length+(z.map D.int).length<=SZ:=(by rw[S5,et];simp only[TB];lia);simp!;unfold af;simp![K,nY];rw[if_pos (by simpa using C)];rfl
   have F:((pre.flatMap λk=>(bz s (c.drop (k+1))).map (c.getD k 0::·)).map af).length+((bz s (c.drop (k+1))).map λz=>af (c.getD k 0::z)).length<=SZ:=by
    have l:=q pre ⋯;have r:=mS s (c.drop (k+1));have u:2 ^ (c.drop (k+1)).length<=2 ^ 8:=OO ∅ m;rw[S5,S5,et];lia
   refine⟨_,by simp![G,H,y _ m,e1,iz,if_pos F];rfl,Z (.int (k:Int)),?_⟩;simp[Q3])
 rw[e,w,<- yJ];simp!
theorem yr(a:fds[f]?=Z ⟨2,2,ak.kn f⟩):∀(s n:Nat)(c:List Int),s<n->c.length<=8->run pg fds n f [af c,.int (s:Int)]=.ok (.lst ((bz s c).map af))
 |0,0,c,h,_=>by lia
 |s+1,0,c,h,_=>by lia
 |0,n+1,c,_,_=>by rw[nj,a];exact Il c
 |s+1,n+1,c,h,d=>by
  rw[nj,a];have:((s+1:Nat):Int)=(s:Int)+1:=⋯;rw[this];exact Im d λb e=>yr a s n b ⋯ e
theorem n4:∀{o c:List Int},bI ltI c->bI ltI o->(∀x∈c,x∈o)->c.Sublist o
 |[],[],_,_,_=>QX _
 |[],x::c,_,_,h=>by have:=h x S7;simp at this
 |y::o,[],_,_,_=>QX _
 |y::o,x::c,b,g,h=>by
  obtain⟨a,f⟩:=ON.mp b;obtain⟨k,d⟩:=ON.mp g
  by_cases e:x=y
  .subst e;refine List.Sublist.cons_cons x (n4 f d λz hz=>?_);rcases Oq.mp (h z (S4 _ hz)) with q|q
   .have:=a z hz;subst q;simp[ltI]at this
   .exact q
  .have i:x∈o:=by
    rcases Oq.mp (h x S7) with q|q
    .exact absurd q e
    .exact q
   have j:=k x i;refine List.Sublist.cons y (n4 b d λz hz=>?_);rcases Oq.mp (h z hz) with q|q
   .exfalso;subst q;rcases Oq.mp hz with w|w
    .exact e w.symm
    .have:=a z w;simp[ltI]at this j;lia
   .exact q
noncomputable def iB(ts:List (List Int))(h:Nat):List (List Int):=bD lexLt (bF (ts.flatMap (bz (h+1))))
def Hk:z∈iB ts h<->z.length=h+1/\∃t∈ts,z.Sublist t:=by
 unfold iB;rw[fE,e6,Qa];simp only[jP];exact⟨λ⟨t,a,b,c⟩=>⟨b,t,a,c⟩,λ⟨b,t,a,c⟩=>⟨t,a,b,c⟩⟩
def By(ts)(h):bI lexLt (iB ts h):=gK e5 (gU _)
def uO(m):bI ltI (bp m):=by
 unfold bp bI;rw[PD];exact QM (λ{a b}(q:a<b)=>by simp[ltI];lia) Rg
def Cf(h:IsCell m c):c.Sublist (bp m):=n4 h.2.2 (uO m) λx a=>k9.mpr (h.2.1 x a)
def Gs(v:∀c:List Int,c.length<=8->Φ f [af c,.int ((h:Int)+1)]=.ok (.lst ((bz (h+1) c).map af)))(j:∀t∈ts,t.length<=8)(L:ts.length<=63)(b:(iB ts h).length<=63):
  bg pg Φ ⟨2,2,ak.q6 f⟩ [aT m ts,.int (h:Int)]=.ok (.lst ((iB ts h).map af)):=by
 have aw:fC (aT m ts) (.int 1)=.ok (.tup (ts.map af)):=rfl;simp![ak.q6,aw];have n:∀a:List (List Int),a.length<=63->(∀t∈a,t.length<=8)->(a.flatMap (bz (h+1))).length<=65280:=λa K r=>by
  have:=oz (f:=bz (h+1)) (k:=256) (xs:=a) λt l=>by
   have o:=mS (h+1) t;have H:2 ^ t.length<=2 ^ 8:=OO ∅ (r t l);lia
  lia
 obtain⟨N,e,x,u⟩:=d0 (f:=af) (g:=turn pg Φ 0 [3] (.cons (.asg 2 (.bin .add (.var 2) (.call f (.cons (.var 3) (.cons (.bin .add (.var 1) (.lit (.int 1))) (.nil)))))) (.nil)))
  (λC q=>∃(x:Option D),q=[Z (aT m ts),Z (.int (h:Int)),Z (.lst ((C.flatMap (bz (h+1))).map af)),x])
  ts [Z (aT m ts),Z (.int (h:Int)),Z (.lst []),Y] ⟨Y,rfl⟩ (λpre t post q i F=>by
   obtain⟨x,s⟩:=F;subst s;have p:t∈ts:=(by rw[i];simp);have M:pre.length+1<=ts.length:=(by rw[i];simp);have G:=n pre ⋯ λt l=>j t (by rw[i];simp[l])
   have o:=n [t] (by simp) λz hz=>by simp at hz;subst hz;exact j z p
   have w:((pre.flatMap (bz (h+1))).map af).length+((bz (h+1) t).map af).length<=SZ:=by
    simp at o;rw[S5,S5,et];lia
   refine⟨_,by simp![v t (j t p),iz,if_pos w];rfl,Z (af t),?_⟩;simp[Q3])
 rw[e,u];have y:∀c∈ts.flatMap (bz (h+1)),c≠[]:=λc d=>by
  obtain⟨t,_,d⟩:=Qa.mp d;intro z;subst z;have:=((jP _ _ _).mp d).1;simp at this
 have:(bF (ts.flatMap (bz (h+1)))).length<=63:=by unfold iB at b;rw[mT]at b;exact b
 simp![tG y this,iB]
noncomputable def Ay:D->Int
 |.int i=>i
 |_=>0
def gT(i j)(h:(-da<i/\i<da)\/(-da<j/\j<da)):bT .mul (.int i) (.int j)=.ok (.int (i*j)):=by rw[mul_int,if_pos h]
def eR(i j)(h:0<j):bT .mod (.int i) (.int j)=.ok (.int (i%j)):=by rw[mod_int,if_pos h]
def oy(i j)(h:0<j)(h':j<1073741824):bT .fdiv (.int i) (.int j)=.ok (.int (i / j)):=by rw[wo,if_pos ⟨h,h'⟩]
def gf:da=18446744073709551616:=rfl
noncomputable def hG:Int:=2147483629
def uw:hG=2147483629:=rfl
def hS(a){b:Int}(h:0<b):0<=a%b/\a%b<b:=⟨SF a ⋯,RW a h⟩
def Df(i k):∃r:Int,0<=r/\r<hG/\bg pg Φ ⟨2,1,ak.q8⟩ [.int i,.int k]=.ok (.int r):=by
 have b1:=hS ((i+104729*k+17)*69621) (b:=2147483647) ∅;refine⟨((i+104729*k+17)*69621%2147483647*((i+104729*k+17)*69621%2147483647)+3*((i+104729*k+17)*69621%2147483647)+k)%2147483629,?_,?_,by
  simp![ak.q8,gT 104729 k (.inl (by rw[gf];lia)),gT _ 69621 (.inr (by rw[gf];lia)),eR _ 2147483647 ∅,eR _ 2147483629 ∅,
   gT ((i+104729*k+17)*69621%2147483647) ((i+104729*k+17)*69621%2147483647) (.inl (by rw[gf];lia)),gT 3 ((i+104729*k+17)*69621%2147483647) (.inl (by rw[gf];lia))]⟩
 .exact(hS _ ∅).1
 .rw[uw];exact(hS _ ∅).2
def Ce(a:List Int)(k:Nat):bg pg Φ ⟨2,0,ak.q5⟩ [.lst (a.map .int),.int (k:Int)]=.ok (.int (a.getD k 0)):=by
 simp![ak.q5,S5]
 by_cases h:k<a.length
 .have h':(k:Int)<(a.length:Int):=⋯;have e:fC (.lst (a.map D.int)) (.int (k:Int))=.ok (.int (a.getD k 0)):=by
   rw[w0,wM,OG,Ov h];simp[Ui,Ov h]
  simp![decide_eq_true h',e]
 .have h':¬(k:Int)<(a.length:Int):=⋯;have e:a.getD k 0=0:=(by simp[Ui,OV (QS h)]);simp![decide_eq_false h',e]
def Hp{a:List Int}(c:∀k:Nat,Φ f [.lst (a.map .int),.int (k:Int)]=.ok (.int (a.getD k 0)))(k:Nat):∃r:Int,0<=r/\r<hG/\bg pg Φ ⟨2,1,ak.rd f⟩ [.lst (a.map .int),.int (k:Int)]=.ok (.int r):=by
 have b1:=hS ((a.getD k 0+7919*(k:Int)+1)*48271) (b:=2147483647) ∅;refine⟨((a.getD k 0+7919*(k:Int)+1)*48271%2147483647*((a.getD k 0+7919*(k:Int)+1)*48271%2147483647)+7*((a.getD k 0+7919*(k:Int)+1)*48271%2147483647)+(k:Int))%2147483629,?_,?_,by
  simp![ak.rd,c,gT 7919 (k:Int) (.inl (by rw[gf];lia)),gT _ 48271 (.inr (by rw[gf];lia)),eR _ 2147483647 ∅,eR _ 2147483629 ∅,
   gT ((a.getD k 0+7919*(k:Int)+1)*48271%2147483647) ((a.getD k 0+7919*(k:Int)+1)*48271%2147483647) (.inl (by rw[gf];lia)),gT 7 ((a.getD k 0+7919*(k:Int)+1)*48271%2147483647) (.inl (by rw[gf];lia))]⟩
 .exact(hS _ ∅).1
 .rw[uw];exact(hS _ ∅).2
def Lb(l:∀i k:Int,∃r:Int,0<=r/\r<hG/\Φ f [.int i,.int k]=.ok (.int r))(i m)(o:1<=m)(p:m<=6):
  ∃cs:List (List Int),bg pg Φ ⟨2,4,ak.rk f⟩ [.int i,.int m]=.ok (.lst (cs.map af))/\(∀c∈cs,IsCell m c)/\eL m cs=J/\cs.length<=16:=by
 have t:=jY (i:=0) (j:=m) ⋯ ⋯ ⋯ ⋯;have a2:=hS i (b:=9) ∅;have V:=jY (i:=0) (j:=i%9) ⋯ ⋯ ⋯ ⋯;have aj:c9 0 (i%9)=(bp (i%9)).map .int:=ng _;have e0:bN (elem pg Φ [Z (.int i),Z (.int m),Y,Y,Y,Y] (.tup (.cons (.var 6) (.nil))) 0 .none) ((bp m).map .int)=.ok ((bp m).map λk=>af [k]):=eY λk _=>by
  simp!;rfl
 simp![ak.rk,t,ng,e0,eR i 9 ∅,V];have h0:∀k∈bp m,IsCell m [k]:=λk n=>⟨by simp,by simpa using k9.mp n,PI _ _⟩
 obtain⟨ay,e,cs,x,y,z,H,d,L⟩:=d0 (f:=D.int) (g:=turn pg Φ 0 [3] (.cons (.asg 4 (.call f (.cons (.var 0) (.cons (.var 3) (.nil))))) (.cons (.asg 5 (.tupI (.seq (.comp (.var 6) 0 (.dz (.var 1)) (.some (.cmp .lt (.bin .mod (.call f (.cons (.var 4) (.cons (.var 6) (.nil)))) (.lit (.int 5))) (.bin .add (.lit (.int 2)) (.bin .mod (.var 4) (.lit (.int 2)))))))))) (.cons (.iff (.cmp .ne (.var 5) (.tup (.nil))) (.cons (.app 2 (.var 5)) (.nil)) (.nil)) (.nil)))))
  (λa0 v=>∃(cs:List (List Int))(x y z:Option D),v=[Z (.int i),Z (.int m),Z (.lst (((bp m).map λk=>[k]).map af++cs.map af)),x,y,z]/\(∀c∈cs,IsCell m c)/\cs.length<=a0.length)
  (bp (i%9)) [Z (.int i),Z (.int m),Z (.lst ((bp m).map λk=>af [k])),Y,Y,Y] ⟨[],Y,Y,Y,by simp[WL],by simp,by simp⟩ (λpre k post v Q a1=>by
   obtain⟨cs,x,y,z,F,d,L⟩:=a1;subst F;obtain⟨r,ao,ax,U⟩:=l i k;have ex:∃q:Int->Bool,∀x y z,bN (elem pg Φ [Z (.int i),Z (.int m),x,y,Z (.int r),z] (.var 6) 0 (.some (.cmp .lt (.bin .mod (.call f (.cons (.var 4) (.cons (.var 6) (.nil)))) (.lit (.int 5))) (.bin .add (.lit (.int 2)) (.bin .mod (.var 4) (.lit (.int 2))))))) ((bp m).map .int)=.ok (((bp m).filter q).map .int):=by
    obtain⟨g,K⟩:∃g:Int->Int,∀k,Φ f [.int r,.int k]=.ok (.int (g k)):=⟨λk=>Classical.choose (l r k),λk=>(Classical.choose_spec (l r k)).2.2⟩;refine⟨λk=>decide (g k%5<2+r%2),λx y z=>hj λk _=>?_⟩;have W:=K k;simp![W,eR _ 5 ∅,eR _ 2 ∅]
    split<;>rfl
   obtain⟨q,T⟩:=ex;have u:((bp m).filter q).Sublist (bp m):=Qt;simp![U,t,ng,T];have N:dJ (.tup (((bp m).filter q).map .int)) (.tup [])=.ok ((bp m).filter q).isEmpty:=by
    rw[rX (by simp[Ql,pK]),mY]
   simp![N];have ar:pre.length+1<=9:=by
    have o:(bp (i%9)).length=(pre++k::post).length:=(by rw[<- Q]);have C:(bp (i%9)).length<=9:=(by unfold bp;simp;lia);simp at o;lia
   cases s:((bp m).filter q).isEmpty
   .have P:(bp m).filter q≠[]:=(by intro z;rw[z]at s;cases s);have G:IsCell m ((bp m).filter q):=⟨P,λx X=>k9.mp (u.subset X),Pf u (uO m)⟩;have M:(((bp m).map λk=>[k]).map af++cs.map af).length<SZ:=by
     have:=oR p;simp only[Oo,S5,et];lia
    refine⟨_,by simp![n1,if_pos M];rfl,cs++[(bp m).filter q],_,_,_,by simp only[Te,Pk];rfl,λc h=>?_,by simp;lia⟩;rcases Ox.mp h with w|w
    .exact d c w
    .simp at w;subst w;exact G
   .exact⟨_,by simp!;rfl,cs,_,_,_,rfl,d,by simp;lia⟩)
 rw[e,H];simp!;refine⟨((bp m).map λk=>[k])++cs,by rw[Te],λc h=>?_,?_,?_⟩
 .rcases Ox.mp h with w|w
  .obtain⟨k,n,rfl⟩:=Tf.mp w;exact h0 k n
  .exact d c w
 .rw[rR];intro x a b;exact⟨[x],by simp[k9];exact .inl ⟨a,b⟩,by simp⟩
 .have:=oR p;have C:(bp (i%9)).length<=8:=(by unfold bp;simp;lia);simp only[Oo,S5];lia
def lb:c∈fJ cs<->c∈cs/\∀o∈cs,c.length<o.length->¬lies c o=true:=by
 unfold fJ;simp only[OJ,fE,e6,O6,R6,Oz,and_imp]
def uQ(cs):bI lexLt (fJ cs):=Pf Qt (gK e5 (gU _))
def M8(cs):fJ (fJ cs)=fJ cs:=by
 refine hJ e5 (uQ _) (uQ _) λz=>?_
 rw[lb];refine⟨λh=>h.1,λh=>⟨h,λo b a=>(lb.mp h).2 o (lb.mp b).1 a⟩⟩
theorem Az(h:∀c∈cs,IsCell m c):∀(n:Nat)(c:List Int),c∈cs->m.toNat<=c.length+n->∃t∈fJ cs,∀x∈c,x∈t
 |0,c,d,g=>⟨c,lb.mpr ⟨d,λo a e=>by have:=jy (h o a);lia⟩,λ_ b=>b⟩
 |n+1,c,d,g=>by
  by_cases q:∀o∈cs,c.length<o.length->¬lies c o=J
  .exact⟨c,lb.mpr ⟨d,q⟩,λ_ b=>b⟩
  .obtain⟨o,a,e,f⟩:∃o,o∈cs/\c.length<o.length/\lies c o=true:=by
    apply OY;intro z;exact q λo a e f=>z ⟨o,a,e,f⟩
   obtain⟨t,j,i⟩:=Az h n o a ⋯;exact⟨t,j,λx b=>i x (sD.mp f x b)⟩
structure Net(m:Int)(ts:List (List Int)):Prop where
 lo:1<=m
 aw:m<=6
 cell:∀c∈ts,IsCell m c
 top:ts=fJ ts
 eL:eL m ts=J
def HK(f:1<=m)(g:m<=6)(d:∀c∈cs,IsCell m c)(e:eL m cs=J):Net m (fJ cs) where
 lo:=f
 aw:=g
 cell:=λc h=>d c (lb.mp h).1
 top:=(M8 cs).symm
 eL:=by
  rw[rR]at e ⊢;intro x a b;obtain⟨c,h,k⟩:=e x a b;obtain⟨t,j,i⟩:=Az d m.toNat c h ⋯;exact⟨t,j,i x k⟩
def M7(cs):(fJ cs).length<=cs.length:=by
 unfold fJ;have a:=Ro (λc=>!((bD lexLt (bF cs)).filter λo=>decide (c.length<o.length)).any (lies c)) (bD lexLt (bF cs));have b:=rU cs;rw[mT]at a;lia
def sM{cs:List (List Int)}(n:∀cs:List (List Int),(∀c∈cs,c≠[])->(bF cs).length<=63->Φ g [.lst (cs.map af)]=.ok (.tup ((jN cs).map af)))(h:1<=m)(k:m<=6)(r:cs.length<=20)(i:∀c∈cs,c.length<=63)(l:∀c∈cs,IsCell m (bD ltI c))(q:eL m (cs.map (bD ltI))=J):
  ∃ts,iN (cV pg Φ [Z a,Z b,Z (.int m),Z c,Z (.lst (cs.map af))] (.cons (.ret (.tup (.cons (.var 2) (.cons (.call g (.cons (.comp (.tupI (.seq (.prim .sorted (.var 5)))) 0 (.seq (.var 4)) (.none)) (.nil))) (.nil))))) (.nil)))=.ok (aT m ts)/\Net m ts/\ts.length<=20:=by
 have e:∀c∈cs.map (bD ltI),IsCell m c:=λc d=>by obtain⟨o,p,rfl⟩:=Tf.mp d;exact l o p
 refine⟨fJ (cs.map (bD ltI)),?_,HK h k e q,by have:=M7 (cs.map (bD ltI));rw[S5]at this;lia⟩;have e1:bN (elem pg Φ [Z a,Z b,Z (.int m),Z c,Z (.lst (cs.map af))] (.tupI (.seq (.prim .sorted (.var 5)))) 0 .none) (cs.map af)=.ok (cs.map λc=>af (bD ltI c)):=eY λc d=>by
  simp![tq,Ld (i c d)];rfl
 have f:(cs.map λc=>af (bD ltI c))=(cs.map (bD ltI)).map af:=by rw[Ti];rfl
 have j:(bF (cs.map (bD ltI))).length<=63:=by have:=rU (cs.map (bD ltI));rw[S5]at this;lia
 simp![e1,f,n _ (λc d=>(e c d).1) j,G1 (λc d=>(e c d).2.2)];rfl
def tF(h:IsCell m c):bD ltI c=c:=Lj hp h.2.2
def zX{cs:List (List Int)}(h:∀c∈cs,IsCell m c):cs.map (bD ltI)=cs:=by
 conv=>rhs;rw[<- Q9 cs]
 exact PS λc a=>tF (h c a)
noncomputable def vb:Bool:=(Tp 7).all λm=>(Tp 7).all λs=>(decide (s=0)||decide (m<s))||((bz s (bp (m:Int))).all (λc=>decide (IsCell (m:Int) c))&&eL (m:Int) (bz s (bp (m:Int))))
def rB:vb=true:=by decide +kernel
def Bc{s:Nat}(d:1<=m)(f:m<=6)(g:1<=s)(i:(s:Int)<=m):(∀c∈bz s (bp m),IsCell m c)/\eL m (bz s (bp m))=true:=by
 have h:=rB;unfold vb at h;rw[OM]at h;have h:=h m.toNat (Ts.mpr ⋯);rw[OM]at h;have h:=h s (Ts.mpr ⋯);have e:((m.toNat:Nat):Int)=m:=by lia
 rw[e]at h;have a:¬s=0:=by lia
 have b:¬m.toNat<s:=by lia
 simp only[decide_eq_false a,decide_eq_false b,Bool.or_self,Bool.false_or,Oi,OM,Oz]at h;exact h
noncomputable def band:List (List Int):=(bp 5).map (λk=>[0,1+k,1+(k+1)%5])++(bp 5).map λk=>[1+k,1+(k+1)%5,1+(k+3)%5]
def BH:(band.map (bD ltI)).all (λc=>decide (IsCell 6 c))&&eL 6 (band.map (bD ltI))&&decide (band.length<=20)&&band.all (λc=>decide (c.length<=63))=true:=by decide +kernel
def HL(o:∀cs:List (List Int),(∀c∈cs,c≠[])->(bF cs).length<=63->Φ C [.lst (cs.map af)]=.ok (.tup ((jN cs).map af)))(P:∀(s:Nat)(c:List Int),s<=8->c.length<=8->Φ y [af c,.int (s:Int)]=.ok (.lst ((bz s c).map af)))(Q:∀i m:Int,1<=m->m<=6->∃cs:List (List Int),Φ z [.int i,.int m]=.ok (.lst (cs.map af))/\(∀c∈cs,IsCell m c)/\eL m cs=J/\cs.length<=16)(i)(h0:0<=i):
  ∃m ts,bg pg Φ ⟨2,3,ak.rf C y z⟩ [.int i,.int 6]=.ok (aT m ts)/\Net m ts/\m<=6/\ts.length<=20:=by
 have V:=hS i (b:=6) ∅;have v:decide ((5:Int)<6)=true:=rfl;have w:decide ((6:Int)<6)=false:=rfl;simp![ak.rf,eR i 6 ∅,oy i 12 ∅ ∅,eR _ 8 ∅];cases k0:(i / 12%8==0)
 .cases k1:(i / 12%8==1)
  .have a0:∀k2:Bool,(if k2=J then decide ((6:Int)<6) else S6)=false:=λk2=>by cases k2<;>rfl
   obtain⟨cs,e,g,p,X⟩:=Q (i / 96) (1+i%6) ⋯ ⋯;obtain⟨ts,h,n,l⟩:=sM (pg:=pg) (Φ:=Φ) (cs:=cs) (m:=1+i%6) (a:=.int i) (b:=.int 6) (c:=.int (i / 12%8)) o ⋯ ⋯ ⋯ (λc f=>by have:=jy (g c f);lia) (λc f=>by rw[tF (g c f)];exact g c f) (by rw[zX g];exact p);refine⟨1+i%6,ts,?_,n,⋯,l⟩;rw[<- h];cases k2:(i / 12%8==2)
   .simp![k1,k2,oy i 96 ∅ ∅,e]
   .simp![k1,k2,w,oy i 96 ∅ ∅,e]
  .have q:=BH;simp only[Oi,OM,Oz]at q;obtain⟨⟨⟨F,G⟩,H⟩,K⟩:=q;obtain⟨ts,h,n,l⟩:=sM (pg:=pg) (Φ:=Φ) (cs:=band) (m:=6) (a:=.int i) (b:=.int 6) (c:=.int (i / 12%8)) o ∅ ∅ H K (λc f=>F _ (List.mem_map_of_mem f)) G;refine⟨6,ts,?_,n,⋯,l⟩;rw[<- h];have U:=jY (i:=0) (j:=5) ⋯ ⋯ ⋯ ⋯;have t:∀a b c d e,bN (elem pg Φ [a,b,c,d,e] (.tup (.cons (.lit (.int 0)) (.cons (.bin .add (.lit (.int 1)) (.var 5)) (.cons (.bin .add (.lit (.int 1)) (.bin .mod (.bin .add (.var 5) (.lit (.int 1))) (.lit (.int 5)))) (.nil))))) 0 .none) ((bp 5).map .int)=.ok ((bp 5).map λk=>af [0,1+k,1+(k+1)%5]):=λa b c d e=>eY λk _=>by
    simp![eR _ 5 ∅];rfl
   have u:∀a b c d e,bN (elem pg Φ [a,b,c,d,e] (.tup (.cons (.bin .add (.lit (.int 1)) (.var 5)) (.cons (.bin .add (.lit (.int 1)) (.bin .mod (.bin .add (.var 5) (.lit (.int 1))) (.lit (.int 5)))) (.cons (.bin .add (.lit (.int 1)) (.bin .mod (.bin .add (.var 5) (.lit (.int 3))) (.lit (.int 5)))) (.nil))))) 0 .none) ((bp 5).map .int)=.ok ((bp 5).map λk=>af [1+k,1+(k+1)%5,1+(k+3)%5]):=λa b c d e=>eY λk _=>by
    simp![eR _ 5 ∅];rfl
   have x:band.map af=(bp 5).map (λk=>af [0,1+k,1+(k+1)%5])++(bp 5).map λk=>af [1+k,1+(k+1)%5,1+(k+3)%5]:=by
    unfold band;rw[Te,Ti,Ti];rfl
   have M:((bp 5).map (λk=>af [0,1+k,1+(k+1)%5])).length+((bp 5).map λk=>af [1+k,1+(k+1)%5,1+(k+3)%5]).length<=SZ:=by
    have:=oR (m:=5) ∅;rw[S5,S5,et];lia
   simp![k1,v,U,ng,t,u,iz,if_pos M,<- x]
 .have W:=hS (i / 96) (b:=1+i%6) ⋯;obtain⟨s,T⟩:∃s:Nat,(s:Int)=1+i / 96%(1+i%6):=⟨(1+i / 96%(1+i%6)).toNat,⋯⟩;obtain⟨g,p⟩:=Bc (m:=1+i%6) (s:=s) ⋯ ⋯ ⋯ ⋯;have L:(bp (1+i%6)).length<=6:=(by unfold bp;simp;lia);have N:(bz s (bp (1+i%6))).length<=20:=(by rw[ta];exact IX L);obtain⟨ts,h,n,l⟩:=sM (pg:=pg) (Φ:=Φ) (cs:=bz s (bp (1+i%6))) (m:=1+i%6) (a:=.int i) (b:=.int 6) (c:=.int (i / 12%8)) o ⋯ ⋯ N (λc f=>by have:=jy (g c f);lia) (λc f=>by rw[tF (g c f)];exact g c f) (by rw[zX g];exact p);refine⟨1+i%6,ts,?_,n,⋯,l⟩;rw[<- h];have r:=P s (bp (1+i%6)) ⋯ ⋯;unfold af at r;simp![oy i 96 ∅ ∅,eR (i / 96) (1+i%6) ⋯,<- T,jY (i:=0) (j:=1+i%6) ⋯ ⋯ ⋯ ⋯,ng,r];rfl
noncomputable def bC(c:List Int):List (List Int):=if 1<c.length then(Tp c.length).map λk=>c.take k++c.drop (k+1) else []
noncomputable def aS(a b:List (List Int)):List (List Int):=bD lexLt (bF (a.filter (λx=>!decide (x∈b))++b.filter λx=>!decide (x∈a)))
noncomputable def dF(cs:List (List Int)):List (List Int):=cs.foldl (λf c=>aS f (bC c)) []
def o6:e∈aS a b<->(e∈a/\e∉b)\/(e∈b/\e∉a):=by
 unfold aS;rw[fE,e6,Ox,OJ,OJ];simp
def n3(a b):bI lexLt (aS a b):=gK e5 (gU _)
def n2(h:bI lexLt xs):xs.Nodup:=QM (λ{a b} h e=>by subst e;rw[e5.dR]at h;cases h) h
def qP(h:bI ltI xs):xs.Nodup:=QM (λ{a b} h e=>by subst e;rw[hp.dR]at h;cases h) h
noncomputable def cnt(e:List Int)(cs:List (List Int)):Nat:=cs.countP λc=>decide (e∈bC c)
theorem pq{α:Type}(lt):∀xs:List α,(bD lt xs).Perm xs
 |[]=>.nil
 |x::xs=>(m7 lt x (bD lt xs)).trans ((pq lt xs).cons x)
 where m7 {α:Type} (lt:α->α->Bool) (x:α):∀ys:List α,(ins lt x ys).Perm (x::ys)
  |[]=>.refl _
  |y::ys=>by
   unfold ins
   split
   .exact((m7 lt x ys).cons y).trans (UR x y ys)
   .exact .refl _
def II{α:Type}[DecidableEq α]{xs ys:List α}(a:xs.Nodup)(b:ys.Nodup)(h:∀z,z∈xs<->z∈ys):xs.Perm ys:=(RX a b).mpr h
def j0(h:bI ltI c):e∈bC c<->1<c.length/\e.length+1=c.length/\e.Sublist c:=by
 unfold bC;constructor
 .intro f
  split at f
  .rename_i g;obtain⟨k,a,rfl⟩:=Tf.mp f;have a:=Ts.mp a;refine⟨g,by rw[Oo,P8,P9];lia,?_⟩
   conv=>rhs;rw[<- QI k c]
   refine Ws (Sg _) ?_;rw[PC a];exact VT _ _
  .cases f
 .rintro⟨g,j,b⟩;rw[if_pos g];refine Tf.mpr ?_;have l:∀{e c:List Int},e.Sublist c->e.length+1=c.length->∃k,k<c.length/\c.take k++c.drop (k+1)=e:=by
   intro e c b
   induction b with
   |slnil=>intro z;cases z
   |@cons e c x b i =>
    intro z;have:e.length=c.length:=(by simpa using z);exact⟨0,by simp,by simpa using (b.eq_of_length this).symm⟩
   |@cons_cons e c x b i =>
    intro z;obtain⟨k,a,d⟩:=i (by simpa using z);exact⟨k+1,by simpa using a,by simp[d]⟩
  obtain⟨k,a,d⟩:=l b j;exact⟨k,Ts.mpr a,d⟩
def tA(h:bI ltI c)(a:e∈bC c):bI ltI e:=Pf ((j0 h).mp a).2.2 h
def Dz(b:bI ltI c)(g:bI ltI e)(m:e.Sublist c)(i:k<c.length):e.Sublist (c.take k++c.drop (k+1))<->c[k]∉e:=by
 have d:=qP b;have a:(c.take k++c[k]::c.drop (k+1))=c:=by rw[<- PC i,QI]
 rw[<- a]at d;have j:∀x,x∈c<->x=c[k]\/x∈c.take k++c.drop (k+1):=λx=>by
  conv=>lhs;rw[<- a]
  simp only[Ox,Oq];constructor
  .rintro(h|h|h)
   .exact .inr (.inl h)
   .exact .inl h
   .exact .inr (.inr h)
  .rintro(h|h|h)
   .exact .inr (.inl h)
   .exact .inl h
   .exact .inr (.inr h)
 have l:c[k]∉c.take k++c.drop (k+1):=λz=>by
  have:=So.nodup_iff.mp d;exact(OX.mp this).1 z
 have n:(c.take k++c.drop (k+1)).Sublist c:=by
  conv=>rhs;rw[<- a]
  exact Ws (Sg _) (VT _ _)
 constructor
 .exact λz w=>l (z.subset w)
 .exact λz=>n4 g (Pf n b) λx f=>((j x).mp (m.subset f)).elim (λe=>absurd (e▸f) z) id
theorem xu{α:Type}(p):∀c:List α,c.length=c.countP p+c.countP (λx=>!p x)
 |[]=>rfl
 |x::c=>by
  rw[To,xu p c,Uc,Uc];cases p x<;>simp<;>lia
def CM{α:Type}[DecidableEq α]{c e:List α}(d:c.Nodup)(f:e.Nodup)(g:∀x∈e,x∈c):c.countP (λx=>!decide (x∈e))+e.length=c.length:=by
 have a:(c.filter λx=>decide (x∈e)).Perm e:=II (d.filter _) f λz=>by
  rw[OJ];simp only[Oz];exact⟨λh=>h.2,λh=>⟨g z h,h⟩⟩
 have b:c.length=(c.filter λx=>decide (x∈e)).length+(c.filter λx=>!decide (x∈e)).length:=by
  rw[<- QG,<- QG];exact xu (λx=>decide (x∈e)) c
 rw[a.length_eq]at b;rw[QG];lia
def CC(a:bI ltI c)(e):cnt e (bC c)=0\/cnt e (bC c)=2:=by
 by_cases g:1<c.length
 .by_cases b:e.Sublist c/\e.length+2=c.length/\2<c.length
  .obtain⟨b,o,s⟩:=b;have j:bI ltI e:=Pf b a;right;have e1:cnt e (bC c)=c.countP λx=>!decide (x∈e):=by
    unfold cnt;rw[show bC c=(Tp c.length).map (λk=>c.take k++c.drop (k+1)) from if_pos g,Qf];have:c=(Tp c.length).map λk=>c.getD k 0:=by
     apply List.ext_getElem
     .simp
     .intro i n o;simp[Ui,n]
    conv=>rhs;rw[this]
    rw[Qf];refine PO λk f=>?_
    have f:=Ts.mp f;have p:bI ltI (c.take k++c.drop (k+1)):=tA a (by unfold bC;rw[if_pos g];exact Tf.mpr ⟨k,Ts.mpr f,rfl⟩);have t:(c.take k++c.drop (k+1)).length+1=c.length:=(by rw[Oo,P8,P9];lia);simp only[UZ,Oz,O6,Sp];rw[j0 p,Dz a j b f];have:c.getD k 0=c[k]:=(by simp[Ui,f]);rw[this];exact⟨λz=>z.2.2,λz=>⟨⋯,⋯,z⟩⟩
   rw[e1];have:=CM (qP a) (qP j) λx q=>b.subset q
   lia
  .left;unfold cnt;rw[RK];intro d h;simp only[Oz];intro z;obtain⟨_,b2,m⟩:=(j0 a).mp h;obtain⟨a1,r,l⟩:=(j0 (tA a h)).mp z;exact b ⟨l.trans m,⋯,⋯⟩
 .left;unfold cnt bC;rw[if_neg g];rfl
def lC(f:bI ltI c):(bC c).Nodup:=by
 unfold bC
 split
 .rw[Qd,PD];refine PE (λ{i j} aw b (g:i<j) e=>?_) Rg;have b:=Ts.mp b;have aw:i<c.length:=Ts.mp aw;have a:(c.take i++c.drop (i+1))[i]?=c[i+1]?:=by
   rw[O7 (by simp;lia),List.getElem?_drop];congr 1;simp;lia
  have d:(c.take j++c.drop (j+1))[i]?=c[i]?:=by
   rw[OF (by simp;lia),Vq g]
  rw[e,d]at a;rw[Ov aw,Ov (by lia:i+1<c.length)]at a;have:=QZ.mp f i (i+1) aw ⋯ ⋯;injection a with a;rw[a,hp.dR]at this;cases this
 .exact PY
theorem zf(e):∀(cs:List (List Int))(f:List (List Int)),(∀c∈cs,bI ltI c)->(e∈cs.foldl (λf c=>aS f (bC c)) f<->((if e∈f then 1 else 0)+cnt e cs)%2=1)
 |[],f,_=>by
  by_cases h:e∈f<;>simp[h,cnt]
 |c::cs,f,h=>by
  rw[Ua,zf e cs _ λd j=>h d (S4 _ j)];have e1:cnt e (c::cs)=cnt e cs+if e∈bC c then 1 else 0:=(by unfold cnt;rw[Uc];simp);rw[e1];have k:=o6 (a:=f) (b:=bC c) (e:=e)
  by_cases g:e∈f<;>by_cases i:e∈bC c<;>simp[k,g,i]<;>lia
def o5(h:∀c∈cs,bI ltI c):e∈dF cs<->cnt e cs%2=1:=by
 unfold dF;rw[zf e cs [] h];simp
def Bz(cs):bI lexLt (dF cs):=by
 unfold dF;rcases Rl cs with rfl|⟨xs,x,rfl⟩
 .exact UQ
 .rw[Rm,Tv];exact n3 _ _
def tj(h:∀c∈cs,bI ltI c)(b:d∈dF cs):∃c∈cs,d∈bC c:=by
 have:=(o5 h).mp b;have h0:cnt d cs≠0:=λz=>by rw[z]at this;cases this
 unfold cnt at h0;rw[Ne,RK]at h0;exact OY λz=>h0 λc a w=>z ⟨c,a,by simpa using w⟩
end b4
end
section
namespace b4
open ζ aq cJ c6
def jF(i j):ev pg Φ a (.eN i j)=hk a[i]? a[j]?:=av rfl
def DM(i j):ev pg Φ a (.ks i j)=mv a[i]? a[j]?:=av rfl
def wa:ev pg Φ a .ku=.ok (.aM []):=av rfl
def wi(i):ex pg Φ a (.iJ i)=.ok (.aU (a.set i (Z (.aN [])))):=av rfl
def D8(i):ex pg Φ a (.jE i)=.ok (.aU (a.set i (Z (.aM [])))):=av rfl
def r0(i j)(e):ex pg Φ a (.gO i j e)=ev pg Φ a e>>=λd=>kv a[i]? a[j]? d>>=λx=>.ok (.aU (a.set i (Z x))):=av rfl
def D9(i)(e):ex pg Φ a (.ext i e)=iC a[i]?>>=λ_=>ev pg Φ a e>>=λd=>ow a[i]? d>>=λx=>.ok (.aU (a.set i (Z x))):=av rfl
def wk(i):ex pg Φ a (.ly i)=mq a[i]?>>=λd=>.ok (.bK d):=av rfl
def pv(up)(xs):gV up .sum (.lst xs)=hA xs:=av rfl
def I6(up)(xs):gV up .max (.lst xs)=ht xs:=av rfl
def mR(c):h2 (af c)=.ok (.int (c.length:Int)):=by unfold af;rw[sx,S5]
def zJ{c:List Int}(h:c.length<=1000)(k:Nat):bT .add (.tup (cut (c.map D.int) Y (Z (k:Int)))) (.tup (cut (c.map D.int) (Z ((k:Int)+1)) Y))=.ok (af (c.take k++c.drop (k+1))):=by
 have e:((k:Int)+1)=((k+1:Nat):Int):=by lia
 rw[e,vv,vu,nY,if_pos]
 .unfold af;rw[Te,List.map_take,List.map_drop]
 .rw[P8,P9,S5,et];lia
def K0(c)(h:c.length<=1000):bg pg Φ ⟨1,0,ak.ru⟩ [af c]=.ok (.lst ((bC c).map af)):=by
 have e1:bN (elem pg Φ [Z (af c)] (.bin .add (.slice (.var 0) (.none) (.some (.var 1))) (.slice (.var 0) (.some (.bin .add (.var 1) (.lit (.int 1)))) (.none))) 0 (.some (.cmp .gt (.prim .len (.var 0)) (.lit (.int 1))))) ((Tp c.length).map λ(k:Nat)=>D.int (k:Int))=.ok (((Tp c.length).filter λ_=>decide (1<c.length)).map λk=>af (c.take k++c.drop (k+1))):=hj λk _=>by
  have b:∀lo aw,gB (af c) lo aw=.ok (.tup (cut (c.map D.int) lo aw)):=λlo aw=>rfl
  simp![mR,b,zJ h]
  by_cases q:1<c.length
  .have a:(1:Int)<(c.length:Int):=⋯;simp only[decide_eq_true q,decide_eq_true a,Pb]
  .have a:¬(1:Int)<(c.length:Int):=⋯;simp only[decide_eq_false q,decide_eq_false a,Om,OH]
 simp![ak.ru,mR,jY (i:=0) (j:=(c.length:Int)) ⋯ ⋯ ⋯ ⋯,td,e1];congr 2;unfold bC
 by_cases q:1<c.length
 .rw[if_pos q,decide_eq_true q,List.filter_eq_self.mpr λ_ _=>rfl,Ti];rfl
 .rw[if_neg q,decide_eq_false q,List.filter_eq_nil_iff.mpr λ_ _=>∅];rfl
def vB{xs U:List (List Int)}(h:∀x∈xs,x∈U):(bF xs).length<=U.length:=f6 (gU xs) λz hz=>h z ((e6 z xs).mp hz)
def tB(h:bI ltI c)(d:e∈bC c):e≠[]:=λz=>by
 obtain⟨a,b,_⟩:=(j0 h).mp d;subst z;simp at b;lia
noncomputable def cZ(t:List Int):List (List Int):=t.foldl (λf x=>f++[[x]]++f.map (·++[x])) []
def cw_snoc(t)(x):cZ (t++[x])=cZ t++[[x]]++(cZ t).map (·++[x]):=by unfold cZ;rw[Tv];rfl
def zT{P:List Int->Prop}(h0:P [])(b:∀as a,P as->P (as++[a]))(as):P as:=by
 have d:∀n (as:List Int),as.length=n->P as:=by
  intro n
  induction n with
  |zero=>intro as h;rw[RD h];exact h0
  |succ n c =>
   intro as h;rcases Rl as with rfl|⟨l,a,rfl⟩
   .cases h
   .rw[Rm]at h ⊢;exact b l a (c l (by simpa using h))
 exact d _ as rfl
def sub_snoc{z t:List Int}:z.Sublist (t++[x])<->z.Sublist t\/∃y,z=y++[x]/\y.Sublist t:=by
 rw[List.sublist_append_iff];constructor
 .rintro⟨a,b,rfl,c,d⟩;have e:b=[]\/b=[x]:=by
   cases d with
   |cons _ h=>exact .inl (Ry.mp h)
   |cons_cons _ h=>exact .inr (by rw[Ry.mp h])
  rcases e with rfl|rfl
  .exact .inl (by simpa using c)
  .exact .inr ⟨a,rfl,c⟩
 .rintro(h|⟨y,rfl,h⟩)
  .exact⟨z,[],by simp,h,QX _⟩
  .exact⟨y,[x],rfl,h,Sg _⟩
def k8(t):∀z,z∈cZ t<->z≠[]/\z.Sublist t:=by
 refine zT (P:=λt=>∀z,z∈cZ t<->z≠[]/\z.Sublist t) (λz=>?_) (λt x d z=>?_) t
 .constructor
  .intro h;cases h
  .rintro⟨b,a⟩;exact absurd (Ry.mp a) b
 .rw[cw_snoc,Ox,Ox,OC,Tf,sub_snoc,d];constructor
  .rintro((⟨b,a⟩|rfl)|⟨y,c,rfl⟩)
   .exact⟨b,.inl a⟩
   .exact⟨by simp,.inr ⟨[],rfl,QX _⟩⟩
   .exact⟨by simp,.inr ⟨y,rfl,((d y).mp c).2⟩⟩
  .rintro⟨b,a|⟨y,rfl,a⟩⟩
   .exact .inl (.inl ⟨b,a⟩)
   .by_cases c:y=[]
    .subst c;exact .inl (.inr rfl)
    .exact .inr ⟨y,(d y).mpr ⟨c,a⟩,rfl⟩
def su(t):(cZ t).length+1=2 ^ t.length:=by
 refine zT (P:=λt=>(cZ t).length+1=2 ^ t.length) rfl (λt x a=>?_) t;rw[cw_snoc,Oo,Oo,Oo,S5,TB,TB,Ut];lia
noncomputable def fx(ts:List (List Int)):List (List Int):=bD lexLt (bF (ts.flatMap cZ))
def xX:z∈fx ts<->z≠[]/\∃t∈ts,z.Sublist t:=by
 unfold fx;rw[fE,e6,Qa];constructor
 .rintro⟨t,b,a⟩;exact⟨((k8 t z).mp a).1,t,b,((k8 t z).mp a).2⟩
 .rintro⟨h0,t,b,a⟩;exact⟨t,b,(k8 t z).mpr ⟨h0,a⟩⟩
def uM(ts):bI lexLt (fx ts):=gK e5 (gU _)
noncomputable def cl(ts:List (List Int))(n:Nat):List (List Int):=(fx ts).filter λc=>decide (c.length=n)
def hu:z∈cl ts n<->z.length=n/\z≠[]/\∃t∈ts,z.Sublist t:=by
 unfold cl;rw[OJ,xX];simp only[Oz];exact⟨λh=>⟨h.2,h.1⟩,λh=>⟨h.2,h.1⟩⟩
def qQ(ts)(n):bI lexLt (cl ts n):=Pf Qt (uM ts)
def ew(ts)(n):(cl ts n).Nodup:=n2 (qQ ts n)
def vg(ts)(h):iB ts h=cl ts (h+1):=hJ e5 (By ts h) (qQ ts _) λz=>by
 rw[Hk,hu];exact⟨λ⟨a,b⟩=>⟨a,by rintro rfl;simp at a,b⟩,λ⟨a,_,b⟩=>⟨a,b⟩⟩
def wg(d:m<=6)(e:∀t∈ts,IsCell m t):(fx ts).length<=63:=by
 have a:(fx ts).length<=(cZ (bp m)).length:=f6 (n2 (uM ts)) λz hz=>by
  obtain⟨h0,t,a,b⟩:=xX.mp hz;exact(k8 _ z).mpr ⟨h0,b.trans (Cf (e t a))⟩
 have b:=su (bp m);have c:=oR d;have f:2 ^ (bp m).length<=2 ^ 6:=OO ∅ c;lia
def fR(a:m<=6)(b:∀t∈ts,IsCell m t)(n):(cl ts n).length<=63:=O3 (Ro _ _) (wg a b)
def jA(c:∀t∈ts,IsCell m t)(hz:z∈cl ts n):bI ltI z:=by
 obtain⟨_,_,t,a,b⟩:=hu.mp hz;exact Pf b (c t a).2.2
def iF(g:∀t∈ts,IsCell m t)(hz:z∈cl ts n)(f:e∈bC z):e∈cl ts (n-1):=by
 obtain⟨h,a,b⟩:=(j0 (jA g hz)).mp f;obtain⟨i,j,t,c,d⟩:=hu.mp hz;exact hu.mpr ⟨⋯,by rintro rfl;simp at a;lia,t,c,b.trans d⟩
def NA(c)(o:c.length<=8):bg pg Φ ⟨1,2,ak.qW⟩ [af c]=.ok (.lst ((cZ c).map af)):=by
 simp![ak.qW,tq];obtain⟨q,e,x,h⟩:=d0 (f:=D.int) (g:=turn pg Φ 0 [2] (.cons (.asg 1 (.bin .add (.bin .add (.var 1) (.lst (.cons (.tup (.cons (.var 2) (.nil))) (.nil)))) (.comp (.bin .add (.var 3) (.tup (.cons (.var 2) (.nil)))) 0 (.seq (.var 1)) (.none)))) (.nil)))
  (λj a=>∃(x:Option D),a=[Z (af c),Z (.lst ((cZ j).map af)),x])
  c [Z (af c),Z (.lst []),Y] ⟨Y,rfl⟩ (λpre k post a i l=>by
   obtain⟨x,d⟩:=l;subst d;have p:pre.length+1<=c.length:=(by rw[i];simp);have m:=su pre;have n:2 ^ pre.length<=2 ^ 8:=OO ∅ ⋯;have e1:bN (elem pg Φ [Z (af c),Z (.lst ((cZ pre).map af)),Z (.int k)] (.bin .add (.var 3) (.tup (.cons (.var 2) (.nil)))) 0 .none) ((cZ pre).map af)=.ok ((cZ pre).map λz=>af (z++[k])):=eY λz hz=>by
    have hz:=((k8 pre z).mp hz).2.length_le;have:bT .add (af z) (.tup [.int k])=.ok (af (z++[k])):=by
     unfold af;rw[nY,if_pos (by rw[S5,et];simp;lia),Te];rfl
    simp![this]
   have a1:bT .add (.lst ((cZ pre).map af)) (.lst [.tup [.int k]])=.ok (.lst ((cZ pre++[[k]]).map af)):=by
    rw[iz,if_pos (by rw[S5,et];simp;lia),Te];rfl
   have b:bT .add (.lst ((cZ pre++[[k]]).map af)) (.lst ((cZ pre).map λz=>af (z++[k])))=.ok (.lst ((cZ (pre++[k])).map af)):=by
    rw[iz,if_pos (by rw[S5,S5,Oo,et];simp;lia),cw_snoc];simp only[Te,Ti];rfl
   refine⟨_,by simp![a1,e1,b],Z (.int k),rfl⟩)
 rw[e,h];simp!
def Ei(xs ys):ow (Z (Z (.lst xs))) (.lst ys)=if xs.length+ys.length<=SZ then .ok (.lst (xs++ys)) else .bad:=av rfl
def DZ(u:∀c:List Int,c.length<=8->Φ f [af c]=.ok (.lst ((cZ c).map af)))(i:∀t∈ts,t.length<=8)(K:ts.length<=63)(b:(fx ts).length<=63):
  bg pg Φ ⟨1,2,ak.qY f⟩ [aT m ts]=.ok (.lst ((fx ts).map af)):=by
 have aw:fC (aT m ts) (.int 1)=.ok (.tup (ts.map af)):=rfl;simp![ak.qY,aw];have l:∀a:List (List Int),a.length<=63->(∀t∈a,t.length<=8)->(a.flatMap cZ).length<=65280:=λa H q=>by
  have:=oz (f:=cZ) (k:=256) (xs:=a) λt j=>by
   have n:=su t;have G:2 ^ t.length<=2 ^ 8:=OO ∅ (q t j);lia
  lia
 obtain⟨M,e,x,s⟩:=d0 (f:=af) (g:=turn pg Φ 0 [2] (.cons (.ext 1 (.call f (.cons (.var 2) (.nil)))) (.nil)))
  (λy p=>∃(x:Option D),p=[Z (aT m ts),Z (.lst ((y.flatMap cZ).map af)),x])
  ts [Z (aT m ts),Z (.lst []),Y] ⟨Y,rfl⟩ (λpre t post p h C=>by
   obtain⟨x,r⟩:=C;subst r;have o:t∈ts:=(by rw[h];simp);have L:pre.length+1<=ts.length:=(by rw[h];simp);have F:=l pre ⋯ λt j=>i t (by rw[h];simp[j])
   have n:=l [t] (by simp) λz hz=>by simp at hz;subst hz;exact i z o
   have v:((pre.flatMap cZ).map af).length+((cZ t).map af).length<=SZ:=by
    simp at n;rw[S5,S5,et];lia
   refine⟨_,by simp![D9,u t (i t o),Ei,if_pos v];rfl,Z (af t),?_⟩;simp[Q3])
 rw[e,s];have w:∀c∈ts.flatMap cZ,c≠[]:=λc d=>by
  obtain⟨t,_,d⟩:=Qa.mp d;exact((k8 _ _).mp d).1
 have:(bF (ts.flatMap cZ)).length<=63:=by unfold fx at b;rw[mT]at b;exact b
 simp![tG w this,fx]
def CE(n:Nat)(a:Φ f [aT m ts]=.ok (.lst ((fx ts).map af))):bg pg Φ ⟨2,0,ak.qV f⟩ [aT m ts,.int ((n:Int)-1)]=.ok (.tup ((cl ts n).map af)):=by
 have e1:bN (elem pg Φ [Z (aT m ts),Z (.int ((n:Int)-1))] (.var 2) 0 (.some (.cmp .eq (.bin .sub (.prim .len (.var 2)) (.lit (.int 1))) (.var 1)))) ((fx ts).map af)=.ok (((fx ts).filter λc=>decide (c.length=n)).map af):=hj λc _=>by
  simp![mR]
  by_cases q:c.length=n
  .rw[decide_eq_true q,OL.mpr (show(c.length:Int)-1=(n:Int)-1 by lia)];rfl
  .rw[decide_eq_false q,beq_eq_false_iff_ne.mpr (show(c.length:Int)-1≠(n:Int)-1 by lia)];rfl
 simp![ak.qV,a,e1];rfl
noncomputable def mk(U:List (List Int)):List (List Int×Int):=U.zipIdx.map λp=>(p.1,((2 ^ p.2:Nat):Int))
def Hs(U)(c):mk (U++[c])=mk U++[(c,((2 ^ U.length:Nat):Int))]:=by unfold mk;rw[WG,Te];simp
def sL(U):(mk U).map (·.1)=U:=by
 unfold mk;rw[Ti];show U.zipIdx.map (λp=>p.1)=U;exact Wt 0 U
def Hr(U):(mk U).length=U.length:=by have:=Pw U3 (sL U);simpa using this
def idx_map{α β:Type}[DecidableEq α]{U:List α}(a:U.Nodup)(g:α->Nat->β):U.map (λc=>g c (bc U c))=U.zipIdx.map λp=>g p.1 p.2:=by
 apply Qo;intro i;rw[OG,OG,List.getElem?_zipIdx]
 by_cases h:i<U.length
 .rw[Ov h];simp only[Uj,a.idxOf_getElem i h,P6]
 .rw[OV ⋯];rfl
def Nn(a:U.Nodup)(b:c∈U):eh (mk U) c=Z ((2 ^ bc U c:Nat):Int):=by
 unfold mk;rw[<- idx_map a λc i=>(c,((2 ^ i:Nat):Int))];unfold eh;rw[List.find?_map];have:U.find? ((λp:List Int×Int=>decide (p.1=c)) ∘ λc=>(c,((2 ^ bc U c:Nat):Int)))=Z c:=by
  have e:∀V:List (List Int),c∈V->V.find? ((λp:List Int×Int=>decide (p.1=c)) ∘ λc=>(c,((2 ^ bc U c:Nat):Int)))=Z c:=λV=>by
   induction V with
   |nil=>intro h;cases h
   |cons v V d =>
    intro h;rw[TY]
    by_cases q:v=c
    .subst q;simp
    .rw[show((λp:List Int×Int=>decide (p.1=c)) ∘ λc=>(c,((2 ^ bc U c:Nat):Int))) v=S6 by simp[q]];exact d ((Oq.mp h).resolve_left (Pd q))
  exact e U b
 rw[this];rfl
def j8(c):d6 (af c)=Z c:=by
 show intsOf (c.map .int)=Z c
 induction c with
 |nil=>rfl
 |cons x c a=>rw[Tb,intsOf,a];rfl
def Dg(a)(c)(n)(h:a.length<1000)(b:c∉a.map (·.1)):kv (Z (Z (.aN a))) (Z (Z (af c))) (.int n)=.ok (.aN (a++[(c,n)])):=by
 have e:putN a c n=a++[(c,n)]:=by
  unfold putN;rw[if_neg];intro z;obtain⟨p,d,q⟩:=QW.mp z;exact b (Tf.mpr ⟨p,d,by simpa using q⟩)
 show(match Z a,d6 (af c),Z n with
  |some a,Z k,Z n=>if a.length<1000 then R.ok (D.aN (putN a k n)) else .bad
  |_,_,_=>_)=_
 rw[j8];dsimp only;rw[if_pos h,e]
def og(a:U.Nodup)(b:c∈U):hk (Z (Z (.aN (mk U)))) (Z (Z (af c)))=.ok (.int ((2 ^ bc U c:Nat):Int)):=by
 show(match Z (mk U),d6 (af c) with
  |some d,Z k=>(match eh d k with|some n=>R.ok (D.int n)|none=>.bad)
  |_,_=>_)=_
 rw[j8];dsimp only;rw[Nn a b]
def vD(U):kr (Z (Z (.aN (mk U))))=.ok (U.map af):=by
 show R.ok ((mk U).map λp=>D.tup (p.1.map .int))=_;have:((mk U).map λp=>D.tup (p.1.map .int))=((mk U).map (·.1)).map af:=by rw[Ti];rfl
 rw[this,sL]
def C7(a):mq (Z (Z (.aN a)))=.ok (.aN a):=av rfl
def C8(a):mq (Z (Z (.aM a)))=.ok (.aM a):=av rfl
def Hc(n)(l:Φ f [aT m ts,.int ((n:Int)-1)]=.ok (.tup ((cl ts n).map af)))(r:(cl ts n).length<=63):bg pg Φ ⟨2,3,ak.ro f⟩ [aT m ts,.int ((n:Int)-1)]=.ok (.aN (mk (cl ts n))):=by
 simp![ak.ro,wi,l];have a:=ew ts n;obtain⟨t,e,x,k⟩:=d0 (f:=af) (g:=turn pg Φ 0 [4] (.cons (.gO 2 4 (.var 3)) (.cons (.asg 3 (.bin .mul (.var 3) (.lit (.int 2)))) (.nil))))
  (λd h=>∃(x:Option D),h=[Z (aT m ts),Z (.int ((n:Int)-1)),Z (.aN (mk d)),Z (.int ((2 ^ d.length:Nat):Int)),x])
  (cl ts n) [Z (aT m ts),Z (.int ((n:Int)-1)),Z (.aN []),Z (.int 1),Y] ⟨Y,rfl⟩ (λpre c post h b q=>by
   obtain⟨x,i⟩:=q;subst i;have s:pre.length+1<=(cl ts n).length:=(by rw[b];simp);have j:c∉(mk pre).map (·.1):=by
    rw[sL];intro z;rw[b]at a;exact(PQ.mp a).2.2 c z c S7 rfl
   have p:=Dg (mk pre) c ((2 ^ pre.length:Nat):Int) (by rw[Hr];lia) j;have o:bT .mul (.int ((2 ^ pre.length:Nat):Int)) (.int 2)=.ok (.int ((2 ^ (pre++[c]).length:Nat):Int)):=by
    rw[gT _ _ (.inr ⟨by rw[gf];lia,by rw[gf];lia⟩),Oo,TB,Ut];rfl
   refine⟨_,by simp![r0,p,o];rfl,Z (af c),?_⟩;rw[Hs])
 rw[e,k];simp![wk,C7]
def w7(is):intsOf (is.map .int)=Z is:=j8 is
def pS{U xs:List (List Int)}(a:U.Nodup)(b:xs.Nodup)(h:∀x∈xs,x∈U):hA (xs.map λx=>D.int ((2 ^ bc U x:Nat):Int))=.ok (.int (bh U xs:Int)):=by
 have:=w7 (xs.map λx=>((2 ^ bc U x:Nat):Int));rw[Ti]at this;unfold hA;rw[show(xs.map λx=>D.int ((2 ^ bc U x:Nat):Int))=xs.map (D.int ∘ λx=>((2 ^ bc U x:Nat):Int)) from rfl,this];dsimp only;rw[xZ a b h]
def BR(b:U.Nodup)(a:xs.Nodup)(h:∀x∈xs,x∈U):bg pg Φ ⟨2,0,ak.mb⟩ [.lst (xs.map af),.aN (mk U)]=.ok (.int (bh U xs:Int)):=by
 have e1:bN (elem pg Φ [Z (.lst (xs.map af)),Z (.aN (mk U))] (.eN 1 2) 0 .none) (xs.map af)=.ok (xs.map λx=>D.int ((2 ^ bc U x:Nat):Int)):=eY λx a=>by
  simp![jF,og b (h x a)]
 simp![ak.mb,e1,pv,pS b a h]
def nZ(a b:Nat):bT .and (.int (a:Int)) (.int (b:Int))=.ok (.int ((a &&& b:Nat):Int)):=by
 show js (a:Int) (b:Int)=_;unfold js;rw[if_pos (Qb a),if_pos (Qb b)];rfl
def jl(a b:Nat):bT .xor (.int (a:Int)) (.int (b:Int))=.ok (.int ((a ^^^ b:Nat):Int)):=by
 show nG (a:Int) (b:Int)=_;unfold nG;rw[if_pos ⟨Qb a,Qb b⟩];rfl
def uF(a k):((a &&& 2 ^ k:Nat):Int)=0<->a.testBit k=false:=by
 have b:a &&& 2 ^ k=0<->a.testBit k=false:=by
  constructor
  .intro h;have:=Pw (λz=>z.testBit k) h;simpa[SE,Qq] using this
  .intro h;apply PJ;intro i;rw[SE,Q0,Qv]
   by_cases q:k=i
   .rw[<- q,h];rfl
   .simp[q]
 rw[<- b];lia
def x5(a k):dh .ne (.int ((a &&& 2 ^ k:Nat):Int)) (.int 0)=.ok (a.testBit k):=by
 show e8 (.ok (((a &&& 2 ^ k:Nat):Int)==0))=_;cases q:a.testBit k with
 |false=>rw[OL.mpr ((uF a k).mpr q)];rfl
 |true=>rw[beq_eq_false_iff_ne.mpr λz=>by rw[(uF a k).mp z]at q;cases q];rfl
def Ci(d:U.Nodup)(b:Nat):bg pg Φ ⟨2,0,ak.qX⟩ [.int (b:Int),.aN (mk U)]=.ok (.tup ((U.filter λc=>b.testBit (bc U c)).map af)):=by
 have e1:bN (elem pg Φ [Z (.int (b:Int)),Z (.aN (mk U))] (.var 2) 0 (.some (.cmp .ne (.bin .and (.var 0) (.eN 1 2)) (.lit (.int 0))))) (U.map af)=.ok ((U.filter λc=>b.testBit (bc U c)).map af):=hj λc e=>by
  have:=x5 b (bc U c);simp![jF,og d e,nZ];have a:e8 (.ok (((b &&& 2 ^ bc U c:Nat):Int)==0))=.ok (b.testBit (bc U c)):=this;rw[show e8 (.ok (((b &&& 2 ^ bc U c:Nat):Int)==0))=R.ok (!(((b &&& 2 ^ bc U c:Nat):Int)==0)) from rfl]at a;injection a with a;rw[a];cases b.testBit (bc U c)<;>rfl
 simp![ak.qX,ot,vD,e1]
noncomputable def aR(r:Row):D:=.tup [.int (r.1:Int),.int (r.2:Int)]
noncomputable def aP(ts:List (List Int))(n:Nat):List Nat:=(cl ts n).map λc=>bh (cl ts (n-1)) (bC c)
def JB(n:Nat)(b:∀t∈ts,IsCell m t)(y:m<=6)(j:∀n:Nat,Φ f [aT m ts,.int ((n:Int)-1)]=.ok (.aN (mk (cl ts n))))(u:∀c:List Int,c.length<=1000->Φ g [af c]=.ok (.lst ((bC c).map af)))(p:∀U xs:List (List Int),U.Nodup->xs.Nodup->(∀x∈xs,x∈U)->Φ d [.lst (xs.map af),.aN (mk U)]=.ok (.int (bh U xs:Int))):
  bg pg Φ ⟨2,2,ak.rr d g f⟩ [aT m ts,.int (n:Int)]=.ok (.lst ((bJ (aP ts (n+1))).map aR)):=by
 have h:=ew ts (n+1);have v:=j n;have w:Φ f [aT m ts,.int (n:Int)]=.ok (.aN (mk (cl ts (n+1)))):=by
  have:=j (n+1);rwa[show(((n+1:Nat):Int)-1)=(n:Int) by lia]at this
 have e1:bN (elem pg Φ [Z (aT m ts),Z (.int (n:Int)),Z (.aN (mk (cl ts n))),Z (.aN (mk (cl ts (n+1))))] (.tup (.cons (.call d (.cons (.call g (.cons (.var 4) (.nil))) (.cons (.var 2) (.nil)))) (.cons (.eN 3 4) (.nil)))) 0 .none) ((cl ts (n+1)).map af)=.ok ((cl ts (n+1)).map λc=>aR (bh (cl ts n) (bC c),2 ^ bc (cl ts (n+1)) c)):=eY λc a=>by
  have q:=jA b a;have s:c.length<=1000:=by
   obtain⟨_,_,t,l,o⟩:=hu.mp a;have:=o.length_le;have:=jy (b t l);lia
  simp![jF,u c s,p (cl ts n) (bC c) (ew ts n) (lC q) (λe r=>iF b a r),og h a];rfl
 have k:(bJ (aP ts (n+1))).map aR=(cl ts (n+1)).map λc=>aR (bh (cl ts n) (bC c),2 ^ bc (cl ts (n+1)) c):=by
  rw[idx_map h λc i=>aR (bh (cl ts n) (bC c),2 ^ i)];unfold bJ aP;rw[List.zipIdx_map,Ti,Ti];rfl
 simp![ak.rr,v,w,ot,vD,e1,k]
def gS(r):fC (aR r) (.int 0)=.ok (.int (r.1:Int)):=rfl
def oU(r):fC (aR r) (.int 1)=.ok (.int (r.2:Int)):=rfl
def Ly(r q):bg pg Φ ⟨2,0,ak.rv⟩ [aR r,aR q]=.ok (aR (r.1 ^^^ q.1,r.2 ^^^ q.2)):=by
 simp![ak.rv,gS,oU,jl];rfl
noncomputable def bM(B:bP):List (Int×Int×Int):=B.map λe=>(((2 ^ e.1:Nat):Int),(e.2.1:Int),(e.2.2:Int))
def yG(h:a≠b):((2 ^ a:Nat):Int)≠((2 ^ b:Nat):Int):=λz=>by
 have z:2 ^ a=2 ^ b:=Int.ofNat.inj z;rcases R8 a b with q|q|q
 .have:=Qn (show 1<2 by decide) q;lia
 .exact h q
 .have:=Qn (show 1<2 by decide) q;lia
theorem AJ : ∀ {B : bP}, (B.map (·.1)).Nodup -> ∀ e ∈ B, jj (bM B) ((2 ^ e.1 : Nat) : Int) = Z ((e.2.1 : Int), (e.2.2 : Int))
  | f :: B, h, e, a => by
    obtain ⟨b, c⟩ := OX.mp h
    unfold jj bM
    rw [Tb, TY]
    dsimp only
    by_cases q : f.1 = e.1
    · have : f = e := by
        rcases Oq.mp a with z | z
        · exact z.symm
        · exact absurd (Tf.mpr ⟨e, z, q.symm⟩) b
      subst this
      rw [decide_eq_true rfl]
      rfl
    · rw [decide_eq_false (yG q)]
      exact AJ c e ((Oq.mp a).resolve_left fun z => q (by rw [z]))
def vC{B:bP}(h:(B.map (·.1)).Nodup)(a:e∈B):hk (Z (Z (.aM (bM B)))) (Z (Z (.int ((2 ^ e.1:Nat):Int))))=.ok (aR e.2):=by
 show(match Z (bM B),Z ((2 ^ e.1:Nat):Int) with
  |some b,Z k=>(match jj b k with|some r=>R.ok (jZ r)|none=>.bad)
  |_,_=>R.bad)=_
 dsimp only;rw[AJ h e a];rfl
def vF(B):kr (Z (Z (.aM (bM B))))=.ok (B.map λe=>D.int ((2 ^ e.1:Nat):Int)):=by
 show R.ok ((bM B).map λp=>D.int p.1)=_;unfold bM;rw[Ti];rfl
def Jv(B)(e)(r):red (B++[e]) r=one (red B r) e:=by unfold red;rw[Tv];rfl
def Jw(j:∀r q:Row,Φ f [aR r,aR q]=.ok (aR (r.1 ^^^ q.1,r.2 ^^^ q.2))){B:bP}(h:(B.map (·.1)).Nodup)(r):bg pg Φ ⟨2,1,ak.rp f⟩ [aR r,.aM (bM B)]=.ok (aR (red B r)):=by
 simp![ak.rp,ot,vF];obtain⟨n,e,x,d⟩:=d0 (f:=λe:Nat×Row=>D.int ((2 ^ e.1:Nat):Int)) (g:=turn pg Φ 0 [2] (.cons (.iff (.cmp .ne (.bin .and (.idx (.var 0) (.lit (.int 0))) (.var 2)) (.lit (.int 0))) (.cons (.asg 0 (.call f (.cons (.var 0) (.cons (.eN 1 2) (.nil))))) (.nil)) (.nil)) (.nil)))
  (λl b=>∃(x:Option D),b=[Z (aR (red l r)),Z (.aM (bM B)),x])
  B [Z (aR r),Z (.aM (bM B)),Y] ⟨Y,rfl⟩ (λpre e post b k m=>by
   obtain⟨x,c⟩:=m;subst c;have i:e∈B:=(by rw[k];simp);have a:=x5 (red pre r).1 e.1;have a:e8 (.ok ((((red pre r).1 &&& 2 ^ e.1:Nat):Int)==0))=.ok ((red pre r).1.testBit e.1):=a;rw[Jv];unfold one;cases q:(red pre r).1.testBit e.1 with
   |true =>
    rw[q]at a;refine⟨_,by simp![gS,nZ,a,jF,vC h i,j],Z (.int ((2 ^ e.1:Nat):Int)),rfl⟩
   |false =>
    rw[q]at a;refine⟨_,by simp![gS,nZ,a],Z (.int ((2 ^ e.1:Nat):Int)),rfl⟩)
 rw[e,d];simp!
def GS(n:Nat)(h:0<n):bg pg Φ ⟨1,0,ak.rn⟩ [.int (n:Int)]=.ok (.int ((2 ^ lo n:Nat):Int)):=by
 have e:bT .and (.int (n:Int)) (.int (-(n:Int)))=.ok (.int ((2 ^ lo n:Nat):Int)):=by
  show js (n:Int) (-(n:Int))=_;unfold js;rw[if_pos (Qb n),if_neg ⋯];obtain⟨_,_,b,c⟩:=xJ n h;have a:(-(-(n:Int))-1).toNat=n-1:=⋯;rw[a,T9];congr 2;lia
 simp![ak.rn,DR,e]
def vM(a)(k)(r)(h:a.length<1000)(b:k∉a.map (·.1)):kv (Z (Z (.aM a))) (Z (Z (.int k))) (aR r)=.ok (.aM (a++[(k,(r.1:Int),(r.2:Int))])):=by
 have e:ib a k ((r.1:Int),(r.2:Int))=a++[(k,(r.1:Int),(r.2:Int))]:=by
  unfold ib;rw[if_neg];intro z;obtain⟨p,c,q⟩:=QW.mp z;exact b (Tf.mpr ⟨p,c,by simpa using q⟩)
 show(if a.length<1000 then R.ok (D.aM (ib a k ((r.1:Int),(r.2:Int)))) else .bad)=_;rw[if_pos h,e]
def De(k)(r):mv (Z (Z (.int ((2 ^ k:Nat):Int)))) (Z (Z (aR r)))=.ok (.aM (bM [(k,r)])):=rfl
def vw(B)(h:k∉B.map (·.1)):((2 ^ k:Nat):Int)∉(bM B).map (·.1):=λz=>by
 unfold bM at z;rw[Ti]at z;obtain⟨e,a,q⟩:=Tf.mp z;exact yG (λw=>h (Tf.mpr ⟨e,a,w⟩)) q
def ET(j:∀(B:bP)(r:Row),(B.map (·.1)).Nodup->Φ fr [aR r,.aM (bM B)]=.ok (aR (red B r)))(G:∀n:Nat,0<n->Φ s [.int (n:Int)]=.ok (.int ((2 ^ lo n:Nat):Int))){B:bP}(h:br B)(M:B.length<900)(r):
  bg pg Φ ⟨2,4,ak.n6 fr s⟩ [.aM (bM B),aR r]=.ok (.aM (bM (grow B r))):=by
 have a:=kz h;have o:=jH h r
 by_cases c:(red B r).1=0
 .have hz:(((red B r).1:Int)==0)=true:=(by rw[c];rfl);simp![ak.n6,j B r a,gS,hz];unfold grow;rw[if_pos c]
 .have hz:(((red B r).1:Int)==0)=false:=beq_eq_false_iff_ne.mpr ⋯;have C:=G (red B r).1 ⋯;have q:grow B r=B.map (λe=>(e.1,one e.2 (lo (red B r).1,red B r)))++[(lo (red B r).1,red B r)]:=(by unfold grow;rw[if_neg c]);rw[q]at o ⊢;have b:=kz o;simp![ak.n6,j B r a,gS,hz,C,D8,ot,vF];generalize red B r=l at b;generalize lo l.1=k at b;have m:((B.map λe=>(e.1,one e.2 (k,l))).map (·.1))=B.map (·.1):=(by rw[Ti];rfl);have F:k∉B.map (·.1):=by
   rw[Te,m]at b;exact λz=>(PQ.mp b).2.2 k z k (by simp) rfl
  obtain⟨P,e,x,w⟩:=d0 (f:=λe:Nat×Row=>D.int ((2 ^ e.1:Nat):Int)) (g:=turn pg Φ 0 [5] (.cons (.gO 4 5 (.call fr (.cons (.eN 0 5) (.cons (.ks 3 2) (.nil))))) (.nil)))
   (λK p=>∃(x:Option D),p=[Z (.aM (bM B)),Z (aR r),Z (aR l),Z (.int ((2 ^ k:Nat):Int)),Z (.aM (bM (K.map λe=>(e.1,one e.2 (k,l))))),x])
   B [Z (.aM (bM B)),Z (aR r),Z (aR l),Z (.int ((2 ^ k:Nat):Int)),Z (.aM []),Y] ⟨Y,rfl⟩ (λpre e post p i L=>by
    obtain⟨x,v⟩:=L;subst v;have y:e∈B:=(by rw[i];simp);have N:pre.length+1<=B.length:=(by rw[i];simp);have d:=j [(k,l)] e.2 (by simp);have d:Φ fr [aR e.2,.aM (bM [(k,l)])]=.ok (aR (one e.2 (k,l))):=d;have H:e.1∉(pre.map λe=>(e.1,one e.2 (k,l))).map (·.1):=by
     rw[Ti];intro z;have z:e.1∈pre.map (·.1):=z;rw[i,Te,Tb]at a;exact(PQ.mp a).2.2 e.1 z e.1 S7 rfl
    have t:=vM (bM (pre.map λe=>(e.1,one e.2 (k,l)))) ((2 ^ e.1:Nat):Int) (one e.2 (k,l)) (by unfold bM;simp;lia) (vw _ H);refine⟨_,by simp![r0,jF,DM,vC a y,De,d,t];rfl,Z (.int ((2 ^ e.1:Nat):Int)),?_⟩;unfold bM;simp only[Te,Tb,P5])
  rw[e,w];have u:=vM (bM (B.map λe=>(e.1,one e.2 (k,l)))) ((2 ^ k:Nat):Int) l (by unfold bM;simp;lia) (vw _ (by rw[m];exact F));simp![r0,u,wk,C8];unfold bM;simp only[Te,Tb,P5]
variable{pg:cT}{Φ:dn}
def ES(B)(rs)(r):bf B (rs++[r])=grow (bf B rs) r:=by unfold bf;rw[Tv];rfl
def wN(B)(r):(grow B r).length<=B.length+1:=by rw[kM];split<;>lia
theorem mH:∀(rs:List Row)(B:bP),(bf B rs).length<=B.length+rs.length
 |[],B=>Ot _
 |r::rs,B=>by
  have a:=mH rs (grow B r);have b:=wN B r;show(bf (grow B r) rs).length<=_;rw[To];lia
def sa(rs):(cB rs).1=bf [] rs:=by
 have b:∀(rs:List Row)(st:bP×List Nat),(rs.foldl step st).1=bf st.1 rs:=λrs=>by
  induction rs with
  |nil=>intro st;rfl
  |cons r rs a=>intro st;exact a (step st r)
 exact b rs ([],[])
def wY(rs):(cB rs).2.length<=rs.length:=by
 have b:∀(rs:List Row)(st:bP×List Nat),(rs.foldl step st).2.length<=st.2.length+rs.length:=λrs=>by
  induction rs with
  |nil=>intro st;exact Ot _
  |cons r rs a =>
   intro st;have c:=a (step st r);have d:(step st r).2.length<=st.2.length+1:=(by unfold step;dsimp only;split<;>simp);show(rs.foldl step (step st r)).2.length<=_;rw[To];lia
 have:=b rs ([],[]);simp only[TG,P6]at this;exact this
def BK(j:∀(B:bP)(r:Row),br B->B.length<900->Φ a [.aM (bM B),aR r]=.ok (.aM (bM (grow B r))))(n:rs.length<=63):bg pg Φ ⟨1,2,ak.qU a⟩ [.lst (rs.map aR)]=.ok (.aM (bM (bf [] rs))):=by
 simp![ak.qU,wa];obtain⟨p,e,x,i⟩:=d0 (f:=aR) (g:=turn pg Φ 0 [2] (.cons (.asg 1 (.call a (.cons (.var 1) (.cons (.var 2) (.nil))))) (.nil)))
  (λl b=>∃(x:Option D),b=[Z (.lst (rs.map aR)),Z (.aM (bM (bf [] l))),x])
  rs [Z (.lst (rs.map aR)),Z (.aM []),Y] ⟨Y,rfl⟩ (λpre r post b k m=>by
   obtain⟨x,h⟩:=m;subst h;have o:pre.length+1<=rs.length:=(by rw[k];simp);have c:=mH pre [];have d:=j (bf [] pre) r (eo br.nil) (by simp at c;lia);rw[ES];refine⟨_,by simp![d],Z (aR r),rfl⟩)
 rw[e,i];simp!
def l8(xs)(d)(h:xs.length<SZ):l7 (Z (Z (.lst xs))) d=.ok (.lst (xs++[d])):=by rw[n1,if_pos h]
def Fc(p:∀(B:bP)(r:Row),br B->B.length<900->Φ a [.aM (bM B),aR r]=.ok (.aM (bM (grow B r))))(s:∀(B:bP)(r:Row),(B.map (·.1)).Nodup->Φ fr [aR r,.aM (bM B)]=.ok (aR (red B r)))(v:rs.length<=63):
  bg pg Φ ⟨1,4,ak.qZ a fr⟩ [.lst (rs.map aR)]=.ok (.lst ((cB rs).2.map λb:Nat=>D.int (b:Int))):=by
 simp![ak.qZ,wa];obtain⟨z,e,x,y,o⟩:=d0 (f:=aR) (g:=turn pg Φ 0 [3] (.cons (.asg 4 (.call fr (.cons (.var 3) (.cons (.var 1) (.nil))))) (.cons (.iff (.cmp .eq (.idx (.var 4) (.lit (.int 0))) (.lit (.int 0))) (.cons (.app 2 (.idx (.var 4) (.lit (.int 1)))) (.nil)) (.nil)) (.cons (.asg 1 (.call a (.cons (.var 1) (.cons (.var 3) (.nil))))) (.nil)))))
  (λj k=>∃(x y:Option D),k=[Z (.lst (rs.map aR)),Z (.aM (bM (cB j).1)),Z (.lst ((cB j).2.map λb:Nat=>D.int (b:Int))),x,y])
  rs [Z (.lst (rs.map aR)),Z (.aM []),Z (.lst []),Y,Y] ⟨Y,Y,rfl⟩ (λpre r post k q t=>by
   obtain⟨x,y,n⟩:=t;subst n;have w:pre.length+1<=rs.length:=(by rw[q];simp);have l:=mH pre [];have u:=wY pre;have i:br (cB pre).1:=(by rw[sa];exact eo br.nil);have d:=p (cB pre).1 r i (by rw[sa];simp at l;lia);have h:=s (cB pre).1 r (kz i);rw[wZ];unfold step;dsimp only
   by_cases c:(red (cB pre).1 r).1=0
   .have hz:(((red (cB pre).1 r).1:Int)==0)=true:=(by rw[c];rfl);have m:=l8 ((cB pre).2.map λb:Nat=>D.int (b:Int)) (.int ((red (cB pre).1 r).2:Int)) (by rw[S5,et];lia);rw[if_pos c];refine⟨_,by simp![h,gS,oU,hz,m,d];rfl,Z (aR r),Z (aR (red (cB pre).1 r)),?_⟩;rw[Te];rfl
   .have hz:(((red (cB pre).1 r).1:Int)==0)=false:=beq_eq_false_iff_ne.mpr ⋯;rw[if_neg c];refine⟨_,by simp![h,gS,hz,d],Z (aR r),Z (aR (red (cB pre).1 r)),rfl⟩)
 rw[e,o];simp!
noncomputable def aZ(U:List (List Int))(b:Nat):D:=.tup ((U.filter λc=>b.testBit (bc U c)).map af)
theorem zU{α:Type}(f):∀xs:List α,∃ys:List α,ys.Perm xs/\eB (xs.map f)=ys.map f
 |[]=>⟨[],.nil,rfl⟩
 |x::xs=>by
  have ins:∀ys:List α,∃a:List α,a.Perm (x::ys)/\kT (f x) (ys.map f)=a.map f:=λys=>by
   induction ys with
   |nil=>exact⟨[x],.refl _,rfl⟩
   |cons y ys c =>
    rw[Tb,kT]
    split
    .obtain⟨a,p,e⟩:=c;exact⟨y::a,(p.cons y).trans (UR x y ys),by rw[e];rfl⟩
    .exact⟨x::y::ys,.refl _,rfl⟩
  obtain⟨ys,p,e⟩:=zU f xs;obtain⟨a,p2,b⟩:=ins ys;exact⟨a,p2.trans (p.cons x),by rw[Tb,eB,e,b]⟩
def Cg(f:U.Nodup)(j:∀c∈U,c≠[])(h0:b≠0)(g:b<2 ^ U.length):jJ (aZ U b)=true:=by
 obtain⟨i,aw⟩:∃i,b.testBit i=true:=Nat.exists_testBit_of_ne_zero h0;have d:i<U.length:=by
  rcases RP i U.length with q|q
  .exact q
  .rw[OS (OD g (OO ∅ q))]at aw;cases aw
 have e:U[i]∈U.filter λc=>b.testBit (bc U c):=OJ.mpr ⟨W4 d,by rw[sj f d];exact aw⟩
 have a:∀c∈U.filter λc=>b.testBit (bc U c),c≠[]:=λc h=>j c (OJ.mp h).1
 unfold aZ;generalize (U.filter λc=>b.testBit (bc U c))=cs at e a;cases cs with
 |nil=>cases e
 |cons c cs =>
  have:=jB a;exact this
def fG(ts)(n):(aP ts n).length=(cl ts n).length:=by unfold aP;rw[S5]
def sJ(as):(bJ as).length=as.length:=by unfold bJ;simp
def uR(n)(d:∀t∈ts,IsCell m t):∀r∈bJ (aP ts (n+2)),r.1<2 ^ (aP ts (n+1)).length/\bd (aP ts (n+1)) r.1=0:=by
 intro r j;obtain⟨p,h,rfl⟩:=Tf.mp j;have i:p.1∈aP ts (n+2):=List.fst_mem_of_mem_zipIdx h;obtain⟨c,f,e⟩:=Tf.mp i;dsimp only;rw[<- e,fG];have g:=jA d f;have b:∀x∈bC c,x∈cl ts (n+1):=λx a=>iF d f a
 refine⟨iW b,ze (ew ts n) b (λx a=>⟨lC (tA g a),λy k=>iF d (b x a) k⟩) λy=>?_⟩;have z:=CC g y;refine(Pw (· % 2) (?e:_=cnt y (bC c))).trans ?_
 case e=>exact PO λx _=>by simp only[Oz]
 lia
structure Told(ts:List (List Int))(n:Nat)(G:List Nat):Prop where
 len:G.length+(bf [] (bJ (aP ts (n+2)))).length+(bf [] (bJ (aP ts (n+1)))).length=(cl ts (n+1)).length
 lz:∀b∈G,b<2 ^ (cl ts (n+1)).length/\bd (aP ts (n+1)) b=0
 ind:(di (aP ts (n+2)++G)).length=(di (aP ts (n+2))).length+G.length
def o7(as):(bJ as).map (·.1)=as:=by
 unfold bJ;rw[Ti];exact Wt 0 as
def JJ(n:Nat)(v:∀t∈ts,IsCell m t)(T:m<=6)(aw:∀rs:List Row,rs.length<=63->Φ aB [.lst (rs.map aR)]=.ok (.lst ((cB rs).2.map λb:Nat=>D.int (b:Int))))(a1:∀n:Nat,Φ P [aT m ts,.int (n:Int)]=.ok (.lst ((bJ (aP ts (n+1))).map aR)))(cc:∀(B:bP)(r:Row),(B.map (·.1)).Nodup->Φ fr [aR r,.aM (bM B)]=.ok (aR (red B r)))(cx:∀(B:bP)(r:Row),br B->B.length<900->Φ M [.aM (bM B),aR r]=.ok (.aM (bM (grow B r))))(u:∀(U:List (List Int))(b:Nat),U.Nodup->Φ fc [.int (b:Int),.aN (mk U)]=.ok (aZ U b))(b9:Φ aC [aT m ts,.int (n:Int)]=.ok (.aN (mk (cl ts (n+1)))))(k:∀rs:List Row,rs.length<=63->Φ aA [.lst (rs.map aR)]=.ok (.aM (bM (bf [] rs)))):
  ∃G:List Nat,bg pg Φ ⟨2,5,ak.rt aB P fr M fc aC aA⟩ [aT m ts,.int (n:Int)]=.ok (.tup (G.map (aZ (cl ts (n+1)))))/\Told ts n G:=by
 have l1:(bJ (aP ts (n+1))).length<=63:=by rw[sJ,fG];exact fR T v _
 have cM:(bJ (aP ts (n+2))).length<=63:=by rw[sJ,fG];exact fR T v _
 have cz:=a1 n;have cA:Φ P [aT m ts,.int ((n:Int)+1)]=.ok (.lst ((bJ (aP ts (n+2))).map aR)):=a1 (n+1);have cq:=aw _ l1;have b1:=k _ cM;have W:=ew ts (n+1);have st:=tH (aP ts (n+1));have C:=JI (aP ts (n+1)) _ (uR n v);have a6:=wY (bJ (aP ts (n+1)));have a2:=st.len;rw[sa,fG]at a2;have H:=st.fX;rw[fG]at H;have sn:=st.nul;have o:=MM (bJ (aP ts (n+2))) (cB (bJ (aP ts (n+1)))).2;rw[o7]at o;obtain⟨-,N,l,aj,-⟩:=tS (cB (bJ (aP ts (n+1)))).2 (bf [] (bJ (aP ts (n+2)))) [] (eo br.nil);rw[RH]at l;have X:=mH (bJ (aP ts (n+2))) [];simp only[TG,P6]at X;have V:=eo (rs:=bJ (aP ts (n+2))) br.nil;simp![ak.rt,cz,cA,cq,b1,b9];generalize (cB (bJ (aP ts (n+1)))).2=F at C a2 H a6 sn o l aj;generalize a5:bf [] (bJ (aP ts (n+2)))=a at C X V o l;obtain⟨ao,e,x,y,i,s,q,d,cw⟩:=d0 (f:=λb:Nat=>D.int (b:Int)) (g:=turn pg Φ 0 [5] (.cons (.asg 6 (.tup (.cons (.var 5) (.cons (.lit (.int 0)) (.nil))))) (.cons (.iff (.cmp .ne (.idx (.call fr (.cons (.var 6) (.cons (.var 2) (.nil)))) (.lit (.int 0))) (.lit (.int 0))) (.cons (.app 4 (.call fc (.cons (.var 5) (.cons (.var 3) (.nil))))) (.cons (.asg 2 (.call M (.cons (.var 2) (.cons (.var 6) (.nil))))) (.nil))) (.nil)) (.nil))))
  (λj ar=>∃(x y:Option D),br (j.foldl tell (a,[])).1/\(j.foldl tell (a,[])).1.length<=a.length+j.length/\(j.foldl tell (a,[])).2.length<=j.length/\(∀b∈(j.foldl tell (a,[])).2,b≠0/\b<2 ^ (cl ts (n+1)).length) /\
   ar=[Z (aT m ts),Z (.int (n:Int)),Z (.aM (bM (j.foldl tell (a,[])).1)),Z (.aN (mk (cl ts (n+1)))),Z (.lst ((j.foldl tell (a,[])).2.map (aZ (cl ts (n+1))))),x,y])
  F [Z (aT m ts),Z (.int (n:Int)),Z (.aM (bM a)),Z (.aN (mk (cl ts (n+1)))),Z (.lst []),Y,Y] ⟨Y,Y,V,Ot _,Ot _,(λ_ h=>nomatch h),rfl⟩ (λpre b post ar a0 K=>by
   obtain⟨x,y,i,s,q,d,a8⟩:=K;subst a8;have bl:b∈F:=(by rw[a0];simp);have c0:pre.length+1<=F.length:=(by rw[a0];simp);rw[Tv];show ∃ao,_/\∃x y,br (tell (pre.foldl tell (a,[])) b).1/\(tell (pre.foldl tell (a,[])) b).1.length<=a.length+(pre++[b]).length/\(tell (pre.foldl tell (a,[])) b).2.length<=(pre++[b]).length/\(∀z∈(tell (pre.foldl tell (a,[])) b).2,z≠0/\z<2 ^ (cl ts (n+1)).length)/\ao=[Z (aT m ts),Z (.int (n:Int)),Z (.aM (bM (tell (pre.foldl tell (a,[])) b).1)),Z (.aN (mk (cl ts (n+1)))),Z (.lst ((tell (pre.foldl tell (a,[])) b).2.map (aZ (cl ts (n+1))))),x,y];generalize pre.foldl tell (a,[])=w at i s q d;obtain⟨B,G⟩:=w;dsimp only at i s q d;have b2:=jH i (bare b);have cN:=wN B (bare b);have Q:=cc B (bare b) (kz i);have aX:=cx B (bare b) i ⋯;have bb:=u (cl ts (n+1)) b W;have L:D.tup [.int (b:Int),.int 0]=aR (bare b):=rfl;have K:=jU (r:=bare b) i;unfold tell;dsimp only
   by_cases c:(red B (bare b)).1=0
   .have hz:(((red B (bare b)).1:Int)==0)=true:=(by rw[c];rfl);have ay:grow B (bare b)=B:=(by unfold grow;rw[if_pos c]);rw[if_pos c,ay];refine⟨_,by simp![L,Q,gS,hz],Z (.int (b:Int)),Z (aR (bare b)),i,by rw[Oo];lia,by rw[Oo];lia,d,rfl⟩
   .have hz:(((red B (bare b)).1:Int)==0)=false:=beq_eq_false_iff_ne.mpr ⋯;have a7:=l8 (G.map (aZ (cl ts (n+1)))) (aZ (cl ts (n+1)) b) (by rw[S5,et];lia);rw[if_neg c];refine⟨_,by simp![L,Q,gS,hz,bb,a7,aX];rfl,Z (.int (b:Int)),Z (aR (bare b)),b2,by rw[Oo,TB];lia,by rw[Oo,Oo];simp;lia,λz hz=>?_,?_⟩
    .rcases Ox.mp hz with hz|hz
     .exact d z hz
     .rw[OC.mp hz];exact⟨λe=>c (K.mpr (by rw[e];exact nv _)),H b bl⟩
    .rw[Te];rfl)
 rw[e,cw];rw[l]at C q d o;have bw:(N.map (aZ (cl ts (n+1)))).all jJ=true:=by
  rw[Ql,OM];exact λb k=>Cg W (λc u=>(hu.mp u).2.1) (d b k).1 (d b k).2
 obtain⟨G,p,ax⟩:=zU (aZ (cl ts (n+1))) N;have cf:ζ.sorted (N.map (aZ (cl ts (n+1))))=.ok (.lst (G.map (aZ (cl ts (n+1))))):=by
  unfold ζ.sorted;rw[bw,QY,Vr,if_pos,ax];rw[S5,Oz];lia
 refine⟨G,by simp![l,cf],?_,λb k=>⟨(d b (p.subset k)).2,sn b (aj b (p.subset k))⟩,o G p⟩;rw[p.length_eq,a5];lia
end b4
end
section
namespace b4
open ζ aq cJ c6
def wc(i j):ev pg Φ a (.h3 i j)=kZ a[i]? a[j]?:=av rfl
noncomputable def jR(m:Nat)(ns:List Nat):Nat:=ns.foldl (λm x=>if x>m then x else m) m
theorem x4:∀(ns:List Nat)(m:Nat),m<=jR m ns/\∀n∈ns,n<=jR m ns
 |[],m=>⟨Ot _,λ_ h=>nomatch h⟩
 |x::ns,m=>by
  show m<=jR (if x>m then x else m) ns/\_;obtain⟨b,c⟩:=x4 ns (if x>m then x else m);refine⟨by split at b<;>split<;>lia,λn a=>?_⟩;rcases Oq.mp a with rfl|a
  .show n<=jR (if n>m then n else m) ns
   split at b<;>split<;>lia
  .exact c n a
theorem x2:∀(ns:List Nat)(m:Nat),m<=k->(∀n∈ns,n<=k)->jR m ns<=k
 |[],m,h,_=>h
 |x::ns,m,h,a=>x2 ns _ (by dsimp only;split;exact a x S7;exact h) λn h'=>a n (S4 _ h')
theorem x3:∀(ns:List Nat)(m:Nat),(ns.map λn:Nat=>(n:Int)).foldl (λm x=>if x>m then x else m) (m:Int)=(jR m ns:Int)
 |[],m=>rfl
 |x::ns,m=>by
  rw[Tb,Ua];have:(if (x:Int)>(m:Int) then(x:Int) else(m:Int))=((if x>m then x else m:Nat):Int):=by
   by_cases q:x>m
   .rw[if_pos q,if_pos ⋯]
   .rw[if_neg q,if_neg ⋯]
  rw[this];exact x3 ns _
noncomputable def aw:List (List Int)->Nat
 |[]=>0
 |t::ts=>jR t.length (ts.map (·.length))
def E1:∀t∈ts,t.length<=aw ts:=by
 cases ts with
 |nil=>intro t h;cases h
 |cons a ts =>
  intro t h;obtain⟨b,c⟩:=x4 (ts.map (·.length)) a.length;rcases Oq.mp h with rfl|h
  .exact b
  .exact c _ (Tf.mpr ⟨t,h,rfl⟩)
def E0(h:∀t∈ts,t.length<=k):aw ts<=k:=by
 cases ts with
 |nil=>exact OQ _
 |cons a ts=>exact x2 _ _ (h a S7) λn b=>by obtain⟨t,c,rfl⟩:=Tf.mp b;exact h t (S4 _ c)
def He(h:ts≠[]):ht (ts.map λt=>D.int (t.length:Int))=.ok (.int (aw ts:Int)):=by
 cases ts with
 |nil=>exact absurd rfl h
 |cons a ts =>
  have e:((a::ts).map λt=>D.int (t.length:Int))=((a::ts).map λt=>(t.length:Int)).map D.int:=(by rw[Ti];rfl);unfold ht;rw[e,w7];show R.ok (D.int ((ts.map λt=>(t.length:Int)).foldl (λm x=>if x>m then x else m) (a.length:Int)))=_;have b:(ts.map λt=>(t.length:Int))=(ts.map (·.length)).map λn:Nat=>(n:Int):=by rw[Ti];rfl
  rw[b,x3];rfl
def E5(h:ts≠[]):bg pg Φ ⟨1,0,ak.ra⟩ [aT m ts]=.ok (.int (aw ts:Int)):=by
 have a:fC (aT m ts) (.int 1)=.ok (.tup (ts.map af)):=rfl;have e1:bN (elem pg Φ [Z (aT m ts)] (.prim .len (.var 1)) 0 .none) (ts.map af)=.ok (ts.map λt=>D.int (t.length:Int)):=eY λt _=>by simp![mR]
 simp![ak.ra,a,e1,I6,He h]
def x7(h:Net m ts):ts≠[]:=λe=>by
 subst e;obtain⟨t,a,_⟩:=rR.mp h.eL 0 (Int.le_refl 0) (by have:=h.lo;lia);cases a
noncomputable abbrev kd:=Int×List (List Int)
structure Good(N:kd):Prop where
 cu:Net N.1 N.2
 len:N.2.length<=63
def lA(k b)(x y z):bg pg Φ ⟨3,k,b⟩ [x,y,z]=iN (cV pg Φ (Z x::Z y::Z z::Tr k Y) b):=av rfl
def E2(h:Good N):1<=aw N.2:=by
 obtain⟨t,a⟩:=List.exists_mem_of_ne_nil _ (x7 h.cu);have c:=E1 t a;have b:=(h.cu.cell t a).1;have:=List.length_pos_iff.mpr b;lia
end b4
end
section
namespace b4
open ζ aq cJ
variable{pg:cT}{Φ:dn}
def qL(x)(b:List (List Int)):(b.map af).any (cU (af x))=decide (x∈b):=by
 induction b with
 |nil=>simp
 |cons y ys a=>rw[Tb,TZ,a,fV];by_cases q:x=y<;>simp[q]
def wx(a b:List (List Int)):(a.map af).filter (λx=>!(b.map af).any (cU x))=(a.filter λx=>!decide (x∈b)).map af:=by
 induction a with
 |nil=>rfl
 |cons x a c =>
  rw[Tb,Rz,Rz,qL,c];cases decide (x∈b)<;>rfl
def NI(d:∀c∈a,c≠[])(e:∀c∈b,c≠[])(h:(bF (a++b)).length<=63):nH (a.map af) (b.map af)=.ok (.lst ((aS a b).map af)):=by
 unfold nH ql aS;rw[jB d,jB e,<- Te,jC fV,wx,wx,<- Te,jC fV,hy (lt:=lexLt) h4,S5,decide_eq_true h];rfl
def zZ(f:cP x=.ok (a.map af))(g:cP y=.ok (b.map af))(d:∀c∈a,c≠[])(e:∀c∈b,c≠[])(h:(bF (a++b)).length<=63):
  bg pg Φ ⟨2,0,ak.n7⟩ [x,y]=.ok (.tup ((aS a b).map af)):=by
 simp![ak.n7,DV,ka,f,g,NI d e h]
def JC(pre)(c):dF (pre++[c])=aS (dF pre) (bC c):=by unfold dF;rw[Tv];rfl
def JA{cs U:List (List Int)}(C:cP d=.ok (cs.map af))(h:∀c∈cs,bI ltI c/\c.length<=1000)(n:∀c∈cs,∀e∈bC c,e∈U)(w:U.length<=63)(u:∀a b:List (List Int),(∀c∈a,c≠[])->(∀c∈b,c≠[])->(bF (a++b)).length<=63->Φ m [.tup (a.map af),.lst (b.map af)]=.ok (.tup ((aS a b).map af)))(v:∀c:List Int,c.length<=1000->Φ fd [af c]=.ok (.lst ((bC c).map af))):bg pg Φ ⟨1,2,ak.rq m fd⟩ [d]=.ok (.tup ((dF cs).map af)):=by
 simp![ak.rq,C];obtain⟨K,e,x,F⟩:=d0 (f:=af) (g:=turn pg Φ 0 [2] (.cons (.asg 1 (.call m (.cons (.var 1) (.cons (.call fd (.cons (.var 2) (.nil))) (.nil))))) (.nil)))
  (λG r=>∃(x:Option D),r=[Z d,Z (.tup ((dF G).map af)),x])
  cs [Z d,Z (.tup []),Y] ⟨Y,rfl⟩ (λpre c post r p H=>by
   obtain⟨x,y⟩:=H;subst y;have i:c∈cs:=(by rw[p];simp);have q:∀z∈pre,z∈cs:=λz hz=>by rw[p];simp[hz]
   have k:∀z∈pre,bI ltI z:=λz hz=>(h z (q z hz)).1
   have a1:∀z∈dF pre,z≠[]:=λz hz=>by obtain⟨o,j,l⟩:=tj k hz;exact tB (k o j) l
   have s:∀z∈bC c,z≠[]:=λz hz=>tB (h c i).1 hz
   have t:(bF (dF pre++bC c)).length<=63:=O3 (vB (U:=U) λz hz=>by
    rcases Ox.mp hz with hz|hz
    .obtain⟨o,j,l⟩:=tj k hz;exact n o (q o j) z l
    .exact n c i z hz) w
   refine⟨_,by simp![v c (h c i).2,u _ _ a1 s t];rfl,Z (af c),?_⟩;rw[JC])
 rw[e,F];simp!
def Fy{cs:List (List Int)}(h:Φ fr [d]=.ok (.tup (cs.map af))):bg pg Φ ⟨1,0,ak.q1 fr⟩ [d]=.ok (.ah cs.isEmpty):=by
 simp![ak.q1,h,rX (nr 58 _),mY]
end b4
end
section
namespace b4
open ζ aq cJ c6
noncomputable def eQ(W:List (Nat×Nat))(s:Nat×Nat):Nat×Nat:=W.foldl (λs w=>if s.1 ^^^ w.1<s.1 then(s.1 ^^^ w.1,s.2 ^^^ w.2) else s) s
noncomputable def fD(st:List (Nat×Nat)×List Nat)(p:Nat×Nat):List (Nat×Nat)×List Nat:=if 0<(eQ st.1 (p.1,2 ^ p.2)).1 then(st.1++[eQ st.1 (p.1,2 ^ p.2)],st.2) else(st.1,st.2++[(eQ st.1 (p.1,2 ^ p.2)).2])
noncomputable def k6(as:List Nat):List (Nat×Nat)×List Nat:=as.zipIdx.foldl fD ([],[])
abbrev lZ(as:List Nat)(p:Nat×Nat):Prop:=bd as p.2=p.1/\p.2<2 ^ as.length
theorem xN(as):∀(W:List (Nat×Nat))(s:Nat×Nat),(∀w∈W,lZ as w)->lZ as s->lZ as (eQ W s)
 |[],_,_,h=>h
 |w::W,s,a,h=>by
  refine xN as W _ (λv b=>a v (S4 _ b)) ?_;have hw:=a w S7;dsimp only
  split
  .exact⟨by rw[hM,h.1,hw.1],Pz h.2 hw.2⟩
  .exact h
def GU(as):∀b∈(k6 as).2,bd as b=0/\b<2 ^ as.length:=by
 have n:∀(c:List (Nat×Nat))(st:List (Nat×Nat)×List Nat),(∀p∈c,lZ as (p.1,2 ^ p.2))->(∀w∈st.1,lZ as w)->(∀b∈st.2,bd as b=0/\b<2 ^ as.length)->∀b∈(c.foldl fD st).2,bd as b=0/\b<2 ^ as.length:=λc=>by
  induction c with
  |nil=>exact λst _ _ h=>h
  |cons p c m =>
   intro st e f i;have r:=xN as st.1 (p.1,2 ^ p.2) f (e p S7);refine m (fD st p) (λq l=>e q (S4 _ l)) (λw hw=>?_) λb d=>?_
   .unfold fD at hw
    split at hw
    .rcases Ox.mp hw with q|q
     .exact f w q
     .rw[OC.mp q];exact r
    .exact f w hw
   .unfold fD at d
    split at d
    .exact i b d
    .rename_i q;rcases Ox.mp d with z|z
     .exact i b z
     .rw[OC.mp z];exact⟨by rw[r.1];lia,r.2⟩
 refine n as.zipIdx ([],[]) (λp e=>?_) (λ_ h=>nomatch h) λ_ h=>nomatch h
 obtain⟨a,k⟩:=p;have g:=Rj.mp e;have j:k<as.length:=by
  apply OY;intro q;rw[OV ⋯]at g;cases g
 refine⟨?_,Qn ∅ j⟩;show bd as (2 ^ k)=a;rw[rx,List.getD_eq_getElem?_getD,g];rfl
theorem vL(as)(q:Nat->Bool):∀(bs:List Nat)(k z:Nat),(∀b∈bs,bd as b=0/\b<2 ^ as.length)->bd as z=0/\z<2 ^ as.length->bd as ((bs.zipIdx k).foldl (λz p=>if q p.2=J then z ^^^ p.1 else z) z)=0/\(bs.zipIdx k).foldl (λz p=>if q p.2=J then z ^^^ p.1 else z) z<2 ^ as.length
 |[],_,_,_,h=>h
 |b::bs,k,z,d,h=>by
  rw[Xb,Ua];refine vL as q bs (k+1) _ (λc e=>d c (S4 _ e)) ?_;have a:=d b S7
  split
  .exact⟨by rw[hM,h.1,a.1];rfl,Pz h.2 a.2⟩
  .exact h
noncomputable abbrev cg(xs:List Nat):D:=.lst (xs.map λb:Nat=>D.int (b:Int))
def Ff{α:Type}(b1 b2)[a:@LawfulBEq α b1][b:@LawfulBEq α b2](c)(U):@XH α b1 c U=@XH α b2 c U:=by
 unfold XH;congr 1;funext x;rw[P2,@OL α b1,@OL α b2]
def xe{α:Type}[DecidableEq α]{U:List α}{c:α}(h:c∈U):bc U c<U.length:=PN h
def xH(d:U.length<=1000)(b:c∈U):kZ (Z (Z (.lst (U.map af)))) (Z (Z (af c)))=.ok (.int (bc U c:Int)):=by
 have e:∀V:List (List Int),jh (V.map af)=Z V:=λV=>by
  induction V with
  |nil=>rfl
  |cons v V f=>rw[Tb,jh,j8,f]
 show(match jh (U.map af),d6 (af c) with
  |some a,Z k=>if k∈a/\a.length<=1000 then R.ok (D.int (a.idxOf k:Nat)) else .bad
  |_,_=>.bad)=_
 rw[e,j8];dsimp only;rw[if_pos ⟨b,d⟩];exact Pw (λz:Nat=>R.ok (D.int (z:Int))) (Ff _ instBEqOfDecidableEq c U)
def pJ{n:Nat}(h:n<=1000):bT .shl (.int 1) (.int (n:Int))=.ok (.int ((2 ^ n:Nat):Int)):=by
 show(if 0<=(n:Int)/\(n:Int)<=1000/\-da<1/\1<da then R.ok (D.int (1*2 ^ (n:Int).toNat)) else .bad)=_;rw[if_pos ⟨⋯,⋯,∅,∅⟩,T9,Int.one_mul];congr 2
theorem pw:∀(s:Nat){c:List Int},bI ltI c->(bz s c).Nodup
 |0,_,_=>by simp[bz]
 |s+1,[],_=>PY
 |s+1,x::r,h=>by
  obtain⟨f,d⟩:=ON.mp h;refine PQ.mpr ⟨?_,pw (s+1) d,λa g b i e=>?_⟩
  .rw[Qd,PD];exact QM (λq z=>q (List.cons.inj z).2) (Qd.mp (pw s d))
  .subst e;obtain⟨y,_,rfl⟩:=Tf.mp g;have:=f x (((jP _ _ _).mp i).2.subset S7);rw[hp.dR]at this;cases this
def CI{n:Nat}(G:n<=7)(b:∀t∈ts,IsCell m t)(j:m<=6)(H:∀c:List Int,c.length<=8->Φ i [af c,.int (n:Int)]=.ok (.lst ((bz n c).map af)))(o:∀k:Nat,k<=7->Φ fc [aT m ts,.int (k:Int)]=.ok (.lst ((cl ts (k+1)).map af))):bg pg Φ ⟨2,2,ak.mc i fc⟩ [aT m ts,.int (n:Int)]=.ok (cg (aP ts (n+1))):=by
 have e:=o n G;have p:=fR j b (n+1);cases n with
 |zero =>
  have e:Φ fc [aT m ts,.int 0]=.ok (.lst ((cl ts 1).map af)):=e;have hz:((0:Int)==0)=true:=rfl;have F:bT .mul (.lst [.int 0]) (.int ((cl ts 1).length:Int))=.ok (cg (aP ts 1)):=by
   show(if 0<=((cl ts 1).length:Int)/\((cl ts 1).length:Int)<=1000/\[D.int 0].length<=1000 then R.ok (D.lst (Tr ((cl ts 1).length:Int).toNat [D.int 0]).flatten) else .bad)=_;have p:(cl ts 1).length<=63:=p;rw[if_pos ⟨⋯,⋯,by simp⟩,T9,List.flatten_replicate_singleton];unfold cg aP;rw[Ti];congr 2;symm;rw[List.eq_replicate_iff];refine⟨by simp,λd C=>?_⟩;obtain⟨c,a,rfl⟩:=Tf.mp C;have:bC c=[]:=(by unfold bC;rw[if_neg];rw[(hu.mp a).1];decide);show D.int ((bh (cl ts (1-1)) (bC c):Nat):Int)=_;rw[this];rfl
  show bg pg Φ ⟨2,2,ak.mc i fc⟩ [aT m ts,.int 0]=_;simp![ak.mc,e,hz,S5,F]
 |succ n =>
  have hz:(((n+1:Nat):Int)==0)=false:=beq_eq_false_iff_ne.mpr ⋯;have w:=o n ⋯;have K:bT .sub (.int ((n+1:Nat):Int)) (.int 1)=.ok (.int (n:Int)):=(by rw[sub_int];congr 2;lia);have l:=ew ts (n+1);have M:=fR j b (n+1);have e1:bN (elem pg Φ [Z (aT m ts),Z (.int ((n+1:Nat):Int)),Z (.lst ((cl ts (n+2)).map af)),Z (.lst ((cl ts (n+1)).map af))] (.prim .sum (.comp (.bin .shl (.lit (.int 1)) (.h3 3 5)) 0 (.seq (.call i (.cons (.var 4) (.cons (.var 1) (.nil))))) (.none))) 0 .none) ((cl ts (n+2)).map af)=.ok ((cl ts (n+2)).map λc=>D.int ((bh (cl ts (n+1)) (bC c):Nat):Int)):=eY λc a=>by
   have f:=jA b a;obtain⟨r,L,t,s,u⟩:=hu.mp a;have y:c.length<=8:=by
    have:=u.length_le;have:=jy (b t s);lia
   have q:∀z,z∈bz (n+1) c<->z∈bC c:=λz=>by
    rw[jP,j0 f,r];exact⟨λh=>⟨⋯,⋯,h.2⟩,λh=>⟨⋯,h.2.2⟩⟩
   have g:∀z∈bz (n+1) c,z∈cl ts (n+1):=λz hz=>iF b a ((q z).mp hz)
   have v:bN (elem pg Φ [Z (aT m ts),Z (.int ((n+1:Nat):Int)),Z (.lst ((cl ts (n+2)).map af)),Z (.lst ((cl ts (n+1)).map af)),Z (af c)] (.bin .shl (.lit (.int 1)) (.h3 3 5)) 0 .none) ((bz (n+1) c).map af)=.ok ((bz (n+1) c).map λx=>D.int ((2 ^ bc (cl ts (n+1)) x:Nat):Int)):=eY λz hz=>by
    have:=xe (g z hz);simp![wc,xH ⋯ (g z hz),pJ (n:=bc (cl ts (n+1)) z) ⋯]
   simp![H c y,v,pv,pS l (pw _ f) g];rw[Hu l (pw _ f) (lC f) q g]
  simp![ak.mc,e,hz,K,w,e1];unfold cg aP;rw[Ti];rfl
def lK(i j b)(x y):turn pg Φ 2 [i,j] b (.tup [x,y]) a=cV pg Φ ((a.set i (Z x)).set j (Z y)) b:=av rfl
def rW(e c)(x y):elem pg Φ a e 2 c (.tup [x,y])=hU pg Φ (a++[Z x,Z y]) c>>=λb=>if b then ev pg Φ (a++[Z x,Z y]) e>>=λy=>.ok (Z y) else .ok none:=av rfl
def oo(xs):om (.lst xs)=.ok (fw 0 xs):=av rfl
theorem oj{α:Type}(f):∀(xs:List α)(k:Nat),fw k (xs.map f)=(xs.zipIdx k).map λp=>.tup [.int (p.2:Nat),f p.1]
 |[],_=>rfl
 |x::xs,k=>by
  rw[Tb,Xb,Tb,<- oj f xs (k+1)];rfl
def vT{U:List (List Int)}(a:U.Nodup):fw 0 (U.map af)=U.map λc=>.tup [.int (bc U c:Nat),af c]:=by
 rw[oj];exact(idx_map a λc k=>D.tup [.int (k:Nat),af c]).symm
def GV(W w s):eQ (W++[w]) s=if (eQ W s).1 ^^^ w.1<(eQ W s).1 then((eQ W s).1 ^^^ w.1,(eQ W s).2 ^^^ w.2) else eQ W s:=by
 unfold eQ;rw[Tv];rfl
def Fl(W)(s)(c d h i j k):∃a b,forL (turn pg Φ 2 [8,9] (.cons (.iff (.cmp .lt (.bin .xor (.var 6) (.var 8)) (.var 6)) (.cons (.asg 6 (.bin .xor (.var 6) (.var 8))) (.cons (.asg 7 (.bin .xor (.var 7) (.var 9))) (.nil))) (.nil)) (.nil))) (W.map aR) [c,d,h,i,j,k,Z (.int (s.1:Int)),Z (.int (s.2:Int)),y8,y9]=.ok (.aU [c,d,h,i,j,k,Z (.int ((eQ W s).1:Int)),Z (.int ((eQ W s).2:Int)),a,b]):=by
 obtain⟨x,e,a,b,t⟩:=d0 (f:=aR) (g:=turn pg Φ 2 [8,9] (.cons (.iff (.cmp .lt (.bin .xor (.var 6) (.var 8)) (.var 6)) (.cons (.asg 6 (.bin .xor (.var 6) (.var 8))) (.cons (.asg 7 (.bin .xor (.var 7) (.var 9))) (.nil))) (.nil)) (.nil)))
  (λn o=>∃(a b:Option D),o=[c,d,h,i,j,k,Z (.int ((eQ n s).1:Int)),Z (.int ((eQ n s).2:Int)),a,b])
  W [c,d,h,i,j,k,Z (.int (s.1:Int)),Z (.int (s.2:Int)),y8,y9] ⟨y8,y9,rfl⟩ (λpre w post o v u=>by
   obtain⟨a,b,p⟩:=u;subst p;rw[GV];generalize eQ pre s=r;have m:aR w=.tup [.int (w.1:Int),.int (w.2:Int)]:=rfl
   by_cases q:r.1 ^^^ w.1<r.1
   .have l:((r.1 ^^^ w.1:Nat):Int)<(r.1:Int):=⋯;rw[if_pos q];refine⟨_,by simp![m,lK,jl,decide_eq_true l],Z (.int (w.1:Int)),Z (.int (w.2:Int)),rfl⟩
   .have l:¬((r.1 ^^^ w.1:Nat):Int)<(r.1:Int):=⋯;rw[if_neg q];refine⟨_,by simp![m,lK,jl,decide_eq_false l],Z (.int (w.1:Int)),Z (.int (w.2:Int)),rfl⟩)
 exact⟨a,b,by rw[e,t]⟩
def GX(a:List (Nat×Nat)):(a.foldl fD ([],[])).1.length+(a.foldl fD ([],[])).2.length=a.length:=by
 have c:∀(a:List (Nat×Nat))(st:List (Nat×Nat)×List Nat),(a.foldl fD st).1.length+(a.foldl fD st).2.length=st.1.length+st.2.length+a.length:=λa=>by
  induction a with
  |nil=>exact λ_=>rfl
  |cons p a b =>
   intro st;rw[Ua,b];unfold fD
   split<;>simp<;>lia
 rw[c];simp
def GA(z:Φ fc [d,e]=.ok (cg as))(L:as.length<=1000):bg pg Φ ⟨2,8,ak.rj fc⟩ [d,e]=.ok (cg (k6 as).2):=by
 simp![ak.rj,ou,z,cg,oo,oj];obtain⟨M,e,m,n,o,s,i,j,C⟩:=d0 (f:=λp:Nat×Nat=>D.tup [.int (p.2:Nat),.int (p.1:Int)]) (g:=turn pg Φ 2 [4,5] (.cons (.asg 6 (.var 5)) (.cons (.asg 7 (.bin .shl (.lit (.int 1)) (.var 4))) (.cons (.c1 2 [8,9] (.seq (.var 2)) (.cons (.iff (.cmp .lt (.bin .xor (.var 6) (.var 8)) (.var 6)) (.cons (.asg 6 (.bin .xor (.var 6) (.var 8))) (.cons (.asg 7 (.bin .xor (.var 7) (.var 9))) (.nil))) (.nil)) (.nil))) (.cons (.iff (.cmp .gt (.var 6) (.lit (.int 0))) (.cons (.app 2 (.tup (.cons (.var 6) (.cons (.var 7) (.nil))))) (.nil)) (.cons (.app 3 (.var 7)) (.nil))) (.nil))))))
  (λv w=>∃(m n o s i j:Option D),w=[Z d,Z e,Z (.lst ((v.foldl fD ([],[])).1.map aR)),Z (cg (v.foldl fD ([],[])).2),m,n,o,s,i,j])
  as.zipIdx [Z d,Z e,Z (.lst []),Z (.lst []),Y,Y,Y,Y,Y,Y] ⟨Y,Y,Y,Y,Y,Y,rfl⟩ (λpre p post w u K=>by
   obtain⟨m,n,o,s,i,j,y⟩:=K;subst y;have G:=Pw U3 u;rw[List.length_zipIdx,Oo,To]at G;have F:=GX pre;have t:p.2<=1000:=by
    have H:p∈as.zipIdx:=(by rw[u];simp);obtain⟨a,k⟩:=p;have:=Rj.mp H;have:=(OK.mp this).1;dsimp only;lia
   rw[Tv,Ua,Wf];generalize pre.foldl fD ([],[])=st at F;obtain⟨y8,y9,h⟩:=Fl (pg:=pg) (Φ:=Φ) (y8:=i) (y9:=j) st.1 (p.1,2 ^ p.2) (Z d) (Z e) (Z (.lst (st.1.map aR))) (Z (cg st.2)) (Z (.int (p.2:Nat))) (Z (.int (p.1:Int)));unfold fD;dsimp only at h;generalize eQ st.1 (p.1,2 ^ p.2)=r at h
   by_cases q:0<r.1
   .have l:(0:Int)<(r.1:Int):=⋯;have c:=l8 (st.1.map aR) (aR r) (by rw[S5,et];lia);have x:aR r=.tup [.int (r.1:Int),.int (r.2:Int)]:=rfl;rw[x]at c;rw[if_pos q];refine⟨_,by simp![lK,pJ t,h,decide_eq_true l,c];rfl,Z (.int (p.2:Nat)),Z (.int (p.1:Int)),Z (.int (r.1:Int)),Z (.int (r.2:Int)),y8,y9,?_⟩;rw[Te];rfl
   .have l:¬(0:Int)<(r.1:Int):=⋯;have c:=l8 (st.2.map λb:Nat=>D.int (b:Int)) (.int (r.2:Int)) (by rw[S5,et];lia);rw[if_neg q];refine⟨_,by simp![lK,cg,pJ t,h,decide_eq_false l,c];rfl,Z (.int (p.2:Nat)),Z (.int (p.1:Int)),Z (.int (r.1:Int)),Z (.int (r.2:Int)),y8,y9,?_⟩;simp only[cg,Te,Tb,P5])
 simp![e,C,cg];rfl
def Gu(f:U.Nodup)(b:Nat):bg pg Φ ⟨2,0,ak.q7⟩ [.int (b:Int),.lst (U.map af)]=.ok (aZ U b):=by
 have e1:bN (elem pg Φ [Z (.int (b:Int)),Z (.lst (U.map af))] (.var 3) 2 (.some (.cmp .eq (.bin .and (.bin .shr (.var 0) (.var 2)) (.lit (.int 1))) (.lit (.int 1))))) (U.map λc=>.tup [.int (bc U c:Nat),af c])=.ok ((U.filter λc=>b.testBit (bc U c)).map af):=hj λc _=>by
  have a:bT .shr (.int (b:Int)) (.int (bc U c:Nat))=.ok (.int ((b / 2 ^ bc U c:Nat):Int)):=by
   rw[KZ,if_pos ⋯,T9];congr 2
  have d:bT .and (.int ((b / 2 ^ bc U c:Nat):Int)) (.int 1)=.ok (.int ((b / 2 ^ bc U c &&& 1:Nat):Int)):=nZ _ 1;have e:(((b / 2 ^ bc U c &&& 1:Nat):Int)==1)=b.testBit (bc U c):=by
   rw[Nat.and_one_is_mod,Nat.testBit_eq_decide_div_mod_eq,P2,OL,Oz];lia
  simp![rW,a,d,e];cases b.testBit (bc U c)<;>rfl
 simp![ak.q7,ou,oo,vT f,e1];rfl
def Gz(z)(C:U.Nodup)(t:Φ fr [d,e]=.ok (cg (k6 as).2))(a:∀k:Int,∃r:Int,0<=r/\r<hG/\Φ fd [.int z,.int k]=.ok (.int r))(s:∀b:Nat,Φ fh [.int (b:Int),.lst (U.map af)]=.ok (aZ U b))(n:Φ fc [d,e]=.ok (.lst (U.map af))):
  ∃b:Nat,bg pg Φ ⟨3,3,ak.ri fh fc fr fd⟩ [d,e,.int z]=.ok (aZ U b)/\bd as b=0/\b<2 ^ as.length:=by
 have hz:bd as 0=0/\0<2 ^ as.length:=⟨me as,QF _⟩;have l:=vL as (λk=>decide ((a k).choose%2=1)) (k6 as).2 0 0 (GU as) hz;refine⟨_,?_,l⟩;simp![lA,ak.ri,ou,t,cg,oo,oj];obtain⟨G,e,x,y,o⟩:=d0 (f:=λp:Nat×Nat=>D.tup [.int (p.2:Nat),.int (p.1:Int)]) (g:=turn pg Φ 2 [4,5] (.cons (.iff (.cmp .eq (.bin .mod (.call fd (.cons (.var 2) (.cons (.var 4) (.nil)))) (.lit (.int 2))) (.lit (.int 1))) (.cons (.asg 3 (.bin .xor (.var 3) (.var 5))) (.nil)) (.nil)) (.nil)))
  (λu j=>∃(x y:Option D),j=[Z d,Z e,Z (.int z),Z (.int ((u.foldl (λz p=>if decide ((a p.2).choose%2=1)=J then z ^^^ p.1 else z) 0:Nat):Int)),x,y])
  ((k6 as).2.zipIdx 0) [Z d,Z e,Z (.int z),Z (.int 0),Y,Y] ⟨Y,Y,rfl⟩ (λpre p post j F v=>by
   obtain⟨x,y,m⟩:=v;subst m;rw[Tv,Ua,Wf];generalize pre.foldl (λz p=>if decide ((a p.2).choose%2=1)=J then z ^^^ p.1 else z) 0=w;have c:=(a p.2).choose_spec.2.2;generalize (a p.2).choose=r at c;have i:bT .mod (.int r) (.int 2)=.ok (.int (r%2)):=eR _ _ ∅
   by_cases q:r%2=1
   .have h:(r%2==1)=true:=OL.mpr q;rw[decide_eq_true q];refine⟨_,by simp![lK,c,i,h,jl];rfl,_,_,rfl⟩
   .have h:(r%2==1)=false:=beq_eq_false_iff_ne.mpr q;rw[decide_eq_false q];refine⟨_,by simp![lK,c,i,h];rfl,_,_,rfl⟩)
 simp![e,o,n,s]
def Fx{xs U:List (List Int)}(a:Φ fc [d,e]=.ok (.tup (U.map af)))(b:U.filter (λc=>decide (c∈xs))=xs):bg pg Φ ⟨3,0,ak.q0 fc⟩ [d,.tup (xs.map af),e]=.ok (.ah J):=by
 have e1:bN (elem pg Φ [Z d,Z (.tup (xs.map af)),Z e] (.var 3) 0 (.some (.cmp .mem (.var 3) (.var 1)))) (U.map af)=.ok ((U.filter λc=>decide (c∈xs)).map af):=hj λc _=>by
  simp![Hi];cases decide (c∈xs)<;>rfl
 rw[b]at e1;simp![lA,ak.q0,a,e1,Dy,S3]
def JH(h:∀t∈ts,IsCell m t)(i:xs.Nodup)(d:∀c∈xs,c∈cl ts (n+1))(q:bd (aP ts (n+1)) (bh (cl ts (n+1)) xs)=0):dF xs=[]:=by
 have a:∀c∈xs,bI ltI c:=λc b=>jA h (d c b)
 refine List.eq_nil_iff_forall_not_mem.mpr λe g=>?_
 obtain⟨c,b,l⟩:=tj a g;have p:e∈cl ts n:=iF h (d c b) l;have e1:bd (aP ts (n+1)) (bh (cl ts (n+1)) xs)=fK (xs.map λc=>bh (cl ts n) (bC c)):=uS d;rw[q]at e1;have o:=(o5 a).mp g;obtain⟨j,r,rfl⟩:=Wu p;have f:=AX (sd:=bC) (c:=xs) (ew ts n) (λx i=>lC (a x i)) r;rw[<- e1,Qv]at f;have k:=of_decide_eq_false f.symm;refine k ((Pw (· % 2) (?e:_=cnt (cl ts n)[j] xs)).trans o);exact PO λx _=>by simp only[Oz]
def BS(a:U.Nodup)(d:xs.Nodup)(h:∀x∈xs,x∈U):bg pg Φ ⟨2,0,ak.mb⟩ [.tup (xs.map af),.aN (mk U)]=.ok (.int (bh U xs:Int)):=by
 have e1:bN (elem pg Φ [Z (.tup (xs.map af)),Z (.aN (mk U))] (.eN 1 2) 0 .none) (xs.map af)=.ok (xs.map λx=>D.int ((2 ^ bc U x:Nat):Int)):=eY λc b=>by
  simp![jF,og a (h c b)]
 simp![ak.mb,e1,pv,pS a d h]
def Ju(as)(r):(red (bf [] (bJ as)) r).1=0<->sp as r.1:=by
 rw[jU (eo br.nil),jG br.nil,o7];show sp (as++[]) r.1<->_;rw[Pa]
structure uv(Φ:dn)(m:Int)(ts:List (List Int))(Ez fr b6 EI Eo fc:Nat):Prop where
 cell:∀t∈ts,IsCell m t
 six:m<=6
 hm:∀k:Nat,Φ Ez [aT m ts,.int (k:Int)]=.ok (.aN (mk (cl ts (k+1))))
 EY:∀U xs:List (List Int),U.Nodup->xs.Nodup->(∀x∈xs,x∈U)->Φ Eo [.tup (xs.map af),.aN (mk U)]=.ok (.int (bh U xs:Int))
 E9:∀k:Nat,Φ EI [aT m ts,.int (k:Int)]=.ok (.lst ((bJ (aP ts (k+1))).map aR))
 EX:∀rs:List Row,rs.length<=63->Φ b6 [.lst (rs.map aR)]=.ok (.aM (bM (bf [] rs)))
 E8:∀(B:bP)(r:Row),(B.map (·.1)).Nodup->Φ fr [aR r,.aM (bM B)]=.ok (aR (red B r))
 EZ:∀(U:List (List Int))(b:Nat),U.Nodup->Φ fc [.int (b:Int),.aN (mk U)]=.ok (aZ U b)
def Er(L:uv Φ m ts e fr o f p fc)(aw:Φ r [aT m ts,.tup (xs.map af),.int (n:Nat)]=.ok (.ah J))(u:xs.Nodup)(t:∀c∈xs,c∈cl ts (n+1)):
  ∃d,bg pg Φ ⟨3,2,ak.n5 fc e fr o f p r⟩ [aT m ts,.tup (xs.map af),.int (n:Nat)]=.ok d/\(jK d=J<->¬sp (aP ts (n+2)) (bh (cl ts (n+1)) xs)):=by
 have i:=L.hm n;have j:Φ e [aT m ts,.int ((n:Int)+1)]=.ok (.aN (mk (cl ts (n+2)))):=L.hm (n+1);have b1:=L.EY _ xs (ew ts (n+1)) u t;have k:Φ f [aT m ts,.int ((n:Int)+1)]=.ok (.lst ((bJ (aP ts (n+2))).map aR)):=L.E9 (n+1);have b2:=L.EX (bJ (aP ts (n+2))) (by rw[sJ,fG];exact fR L.six L.cell _);have s:=eo (rs:=bJ (aP ts (n+2))) br.nil;have a:=L.E8 _ (bh (cl ts (n+1)) xs,0) (kz s);have a:Φ fr [.tup [.int (bh (cl ts (n+1)) xs:Int),.int 0],.aM (bM (bf [] (bJ (aP ts (n+2)))))]=_:=a;have g:=Ju (aP ts (n+2)) (bh (cl ts (n+1)) xs,0);dsimp only at g;rw[<- g];generalize red (bf [] (bJ (aP ts (n+2)))) (bh (cl ts (n+1)) xs,0)=q at a;have l:=L.EZ (cl ts (n+2)) q.2 (ew ts (n+2))
 by_cases z:q.1=0
 .have b:((q.1:Int)==0)=true:=OL.mpr ⋯;refine⟨aZ (cl ts (n+2)) q.2,by simp![lA,ak.n5,aw,i,j,b1,k,b2,a,gS,oU,b,l],?_⟩;exact⟨λh=>(nomatch h),λh=>absurd z h⟩
 .have b:((q.1:Int)==0)=false:=beq_eq_false_iff_ne.mpr ⋯;refine⟨.bG,by simp![lA,ak.n5,aw,i,j,b1,k,b2,a,gS,oU,b],?_⟩;exact⟨λ_=>z,λ_=>rfl⟩
structure kj(fZ:List (List Int×Int))(aY:List (List Int)):Prop where
 dE:(fZ.map (·.1)).Nodup
 d8:∀p∈fZ,p.2=(aY.count p.1:Int)
 ms:∀k,k∈fZ.map (·.1)<->k∈aY
def Np(h:k∉b.map (·.1)):eh b k=none:=by
 unfold eh;rw[WJ.mpr]
 .rfl
 .intro p a z;exact h (Tf.mpr ⟨p,a,QO z⟩)
def AK(t:kj b a)(h:k∈a):eh b k=Z (a.count k:Int):=by
 unfold eh;cases q:b.find? λp=>decide (p.1=k) with
 |none =>
  obtain⟨p,c,e⟩:=Tf.mp ((t.ms k).mpr h);exact absurd (decide_eq_true e) (WJ.mp q p c)
 |some p =>
  have e:p.1=k:=(by have:=List.find?_some q;exact QO this);have:=t.d8 p (List.mem_of_find?_eq_some q);rw[e]at this;rw[Uj,this]
def MC(t:kj b aY)(k):kj (putN b k ((eh b k).getD 0+1)) (aY++[k]):=by
 unfold putN
 by_cases h:k∈aY
 .have c:=(t.ms k).mpr h;obtain⟨p,d,e⟩:=Tf.mp c;rw[if_pos (QW.mpr ⟨p,d,decide_eq_true e⟩),AK t h];have e1:((b.map λp=>if p.1=k then(p.1,(Z (aY.count k:Int)).getD 0+1) else p).map (·.1))=b.map (·.1):=by
   rw[Ti];refine PS λp _=>?_
   simp only[UZ]
   split<;>rfl
  refine⟨by rw[e1];exact t.dE,λq a=>?_,λz=>?_⟩
  .obtain⟨o,m,rfl⟩:=Tf.mp a;have:=t.d8 o m
   split
   .rename_i e;simp only[Xc,e,QP,Vo];lia
   .rename_i e;rw[this,QP,Wg];have g:¬k=o.1:=λz=>e z.symm
    simp[g]
  .rw[e1,t.ms,Ox,OC];exact⟨.inl,λw=>w.elim (λx=>x) λx=>x▸h⟩
 .have c:k∉b.map (·.1):=λz=>h ((t.ms k).mp z)
  have:¬(b.any λp=>decide (p.1=k))=true:=λz=>by
   obtain⟨p,d,e⟩:=QW.mp z;exact c (Tf.mpr ⟨p,d,QO e⟩)
  rw[if_neg this,Np c];refine⟨?_,λq a=>?_,λz=>?_⟩
  .rw[Te];refine PQ.mpr ⟨t.dE,OX.mpr ⟨by simp,PY⟩,λx n y f e=>?_⟩;rw[List.map_singleton,OC]at f;subst e;subst f;exact c n
  .rcases Ox.mp a with a|a
   .have i:=t.d8 q a;have j:q.1∈aY:=(t.ms _).mp (Tf.mpr ⟨q,a,rfl⟩);have l:k≠q.1:=λz=>h (z▸j)
    rw[i,QP,Wg];simp[l]
   .rw[OC]at a;subst a;rw[QP,Vo,R3.mpr h];rfl
  .rw[Te,Ox,t.ms,Ox];rfl
theorem rQ(e):∀cs:List (List Int),(∀c∈cs,bI ltI c)->(cs.flatMap bC).count e=cnt e cs
 |[],_=>rfl
 |c::cs,h=>by
  have a:=rQ e cs λd b=>h d (S4 _ b)
  rw[Sf,QP,a];unfold cnt;rw[Uc,S1];congr 1
  by_cases q:e∈bC c
  .rw[decide_eq_true q,if_pos rfl];have a:=List.nodup_iff_count.mp (lC (h c S7)) e;have f:=List.count_pos_iff.mpr q;lia
  .rw[decide_eq_false q,R3.mpr q];rfl
def Dc(h:a.length<1000)(o):mr (Z (Z (.aN a))) (Z (Z (af o)))=.ok (.aN (putN a o ((eh a o).getD 0+1))):=by
 show(match Z a,d6 (af o) with
  |some a,Z k=>if a.length<1000 then R.ok (D.aN (putN a k ((eh a k).getD 0+1))) else .bad
  |_,_=>.bad)=_
 rw[j8];exact if_pos h
def C6(h:eh a c=Z n):hk (Z (Z (.aN a))) (Z (Z (af c)))=.ok (.int n):=by
 show(match Z a,d6 (af c) with
  |some a,Z k=>(match eh a k with|some n=>R.ok (D.int n)|none=>.bad)
  |_,_=>_)=_
 rw[j8];dsimp only;rw[h]
def Gy{cs U:List (List Int)}(N:∀c∈cs,bI ltI c/\c.length<=1000)(G:∀c∈cs,∀e∈bC c,e∈U)(b1:U.length<=63):bg pg Φ ⟨1,4,ak.rh⟩ [.tup (cs.map af)]=.ok (.tup ((dF cs).map af)):=by
 simp![ak.rh,wi];have X:∀{a W},kj a W->(∀k∈W,k∈U)->a.length<=63:=λt h=>by
  have:=f6 t.dE λz hz=>h z ((t.ms z).mp hz)
  rw[S5]at this;lia
 generalize b2:D.tup (cs.map af)=d;obtain⟨aC,e,a,x,y,z,H,m⟩:=d0 (f:=af) (g:=turn pg Φ 0 [2] (.cons (.c1 0 [3] (.dz (.bin .mul (.prim .len (.var 2)) (.prim .int (.cmp .gt (.prim .len (.var 2)) (.lit (.int 1)))))) (.cons (.asg 4 (.bin .add (.slice (.var 2) (.none) (.some (.var 3))) (.slice (.var 2) (.some (.bin .add (.var 3) (.lit (.int 1)))) (.none)))) (.cons (.hP 1 4) (.nil)))) (.nil)))
  (λL v=>∃(a:List (List Int×Int))(x y z:Option D),v=[Z d,Z (.aN a),x,y,z]/\kj a (L.flatMap bC))
  cs [Z d,Z (.aN []),Y,Y,Y] ⟨[],Y,Y,Y,rfl,⟨PY,λ_ h=>by simp at h,λ_=>by simp⟩⟩ (λpre c post v C M=>by
   obtain⟨a,x,y,z,F,m⟩:=M;subst F;have Q:c∈cs:=(by rw[C];simp);have ao:∀z∈pre,z∈cs:=λz hz=>by rw[C];simp[hz]
   obtain⟨s,P⟩:=N c Q;have ar:∀k∈pre.flatMap bC,k∈U:=λk l=>by
    obtain⟨o,u,l⟩:=Qa.mp l;exact G o (ao o u) k l
   obtain⟨n,aX,a2,V⟩:∃n:Nat,n<=1000/\bT .mul (.int (c.length:Int)) (.int (if decide ((1:Int)<(c.length:Int))=J then 1 else 0))=.ok (.int (n:Int))/\bC c=(Tp n).map λk=>c.take k++c.drop (k+1):=by
    unfold bC
    by_cases q:1<c.length
    .have r:(1:Int)<(c.length:Int):=⋯;exact⟨c.length,P,by rw[decide_eq_true r,if_pos rfl,gT _ _ (.inr (by rw[gf];lia))];simp,if_pos q⟩
    .have r:¬(1:Int)<(c.length:Int):=⋯;exact⟨0,⋯,by rw[decide_eq_false r,if_neg ∅,gT _ _ (.inr (by rw[gf];lia))];simp,if_neg q⟩
   have ax:∀lo aw,gB (af c) lo aw=.ok (.tup (cut (c.map D.int) lo aw)):=λlo aw=>rfl
   obtain⟨aC,e,bb,a6,a8,H,aB⟩:=d0 (f:=λk:Nat=>D.int (k:Int)) (g:=turn pg Φ 0 [3] (.cons (.asg 4 (.bin .add (.slice (.var 2) (.none) (.some (.var 3))) (.slice (.var 2) (.some (.bin .add (.var 3) (.lit (.int 1)))) (.none)))) (.cons (.hP 1 4) (.nil))))
    (λL v=>∃(a:List (List Int×Int))(y z:Option D),v=[Z d,Z (.aN a),Z (af c),y,z]/\kj a (pre.flatMap bC++L.map λk=>c.take k++c.drop (k+1)))
    (Tp n) [Z d,Z (.aN a),Z (af c),y,z] ⟨a,y,z,rfl,by rw[P5,Pa];exact m⟩ (λa5 k a7 v C M=>by
     obtain⟨a,y,z,F,m⟩:=M;subst F;have K:a.length<1000:=by
      have:=X m λw hw=>by
       rcases Ox.mp hw with hw|hw
       .exact ar w hw
       .obtain⟨j,a1,rfl⟩:=Tf.mp hw;exact G c Q _ (by rw[V];exact Tf.mpr ⟨j,by rw[C];simp[a1],rfl⟩)
      lia
     refine⟨_,by simp![ax,zJ P,D7,Dc K];rfl,_,_,_,rfl,?_⟩;rw[Te,<- Pk];exact MC m _)
   have aA:∀b:Bool,gV pg.up .int (.ah b)=.ok (.int (if b=J then 1 else 0)):=λb=>rfl
   refine⟨_,by simp![aA,mR,a2,jY (i:=0) (j:=(n:Int)) ⋯ ⋯ ⋯ ⋯,td,e,H];rfl,_,_,_,_,rfl,?_⟩;rw[Q3,List.flatMap_singleton,V];exact aB)
 rw[e,H];have s:∀c∈cs,bI ltI c:=λc h=>(N c h).1
 have a0:∀k∈cs.flatMap bC,k∈U:=λk l=>by
  obtain⟨o,u,l⟩:=Qa.mp l;exact G o u k l
 have K:=X m a0;have aj:∀c∈a.map (·.1),c≠[]:=λk l=>by
  obtain⟨o,u,l⟩:=Qa.mp ((m.ms k).mp l);exact tB (s o u) l
 have ay:ky (Z (Z (.aN a)))=.ok (.lst ((bD lexLt (a.map (·.1))).map af)):=by
  simp only[ky,fl];have:(a.map λp=>D.tup (p.1.map .int))=(a.map (·.1)).map af:=(by rw[Ti];rfl);rw[this,Lc aj (by rw[S5];exact K)]
 have e1:bN (elem pg Φ [Z d,Z (.aN a),x,y,z] (.var 5) 0 (.some (.cmp .eq (.bin .mod (.eN 1 5) (.lit (.int 2))) (.lit (.int 1))))) ((bD lexLt (a.map (·.1))).map af)=.ok (((bD lexLt (a.map (·.1))).filter λk=>decide (cnt k cs%2=1)).map af):=hj λk l=>by
  have l:=(m.ms k).mp ((fE _ _).mp l);have T:=C6 (AK m l);rw[rQ k cs s]at T;simp![jF,T,eR _ 2 ∅]
  by_cases q:cnt k cs%2=1
  .have r:((cnt k cs:Int)%2==1)=true:=(by rw[OL];lia);rw[r,decide_eq_true q];rfl
  .have r:((cnt k cs:Int)%2==1)=false:=(by rw[beq_eq_false_iff_ne];lia);rw[r,decide_eq_false q];rfl
 simp![DN,ay,e1];congr 3;refine hJ e5 (Pf Qt (gK e5 m.dE)) (Bz _) λk=>?_
 rw[OJ,fE,m.ms,o5 s,Oz];refine⟨λh=>h.2,λh=>⟨?_,h⟩⟩;apply OY;intro z;have:=R3.mpr z;rw[rQ k cs s]at this;lia
def GW(cs)(c):di (cs++[c])=lst (di cs) c:=by unfold di;rw[Tv];rfl
def Js(v:xs.length<=1000):bg pg Φ ⟨1,4,ak.rg⟩ [cg xs]=.ok (.int ((di xs).length:Int)):=by
 simp![ak.rg];generalize u:cg xs=d;obtain⟨t,e,x,y,z,i⟩:=d0 (f:=λb:Nat=>D.int (b:Int)) (g:=turn pg Φ 0 [2] (.cons (.asg 3 (.var 2)) (.cons (.c1 0 [4] (.seq (.var 1)) (.cons (.asg 3 (.min2 (.var 3) (.bin .xor (.var 3) (.var 4)))) (.nil))) (.cons (.iff (.cmp .gt (.var 3) (.lit (.int 0))) (.cons (.app 1 (.var 3)) (.nil)) (.nil)) (.nil)))))
  (λk h=>∃(x y z:Option D),h=[Z d,Z (cg (di k)),x,y,z])
  xs [Z d,Z (.lst []),Y,Y,Y] ⟨Y,Y,Y,rfl⟩ (λpre c post h n m=>by
   obtain⟨x,y,z,j⟩:=m;subst j;have C:pre.length+1<=xs.length:=(by rw[n];simp);have s:(di pre).length<=pre.length:=by
    have:=mH (pre.map bare) [];rw[mU];simpa using this
   rw[GW];generalize di pre=W at s;obtain⟨t,e,o,i⟩:=d0 (f:=λb:Nat=>D.int (b:Int)) (g:=turn pg Φ 0 [4] (.cons (.asg 3 (.min2 (.var 3) (.bin .xor (.var 3) (.var 4)))) (.nil)))
    (λk h=>∃(z:Option D),h=[Z d,Z (cg W),Z (.int (c:Int)),Z (.int (dx k c:Int)),z])
    W [Z d,Z (cg W),Z (.int (c:Int)),Z (.int (c:Int)),z] ⟨z,rfl⟩ (λa w F h n m=>by
     obtain⟨z,j⟩:=m;subst j;have e1:dx (a++[w]) c=iV (dx a c) w:=(by unfold dx;rw[Tv];rfl);have p:(if ((dx a c ^^^ w:Nat):Int)<(dx a c:Int) then((dx a c ^^^ w:Nat):Int) else(dx a c:Int))=(iV (dx a c) w:Int):=by
      unfold iV
      by_cases q:dx a c ^^^ w<dx a c
      .rw[if_pos q,if_pos ⋯]
      .rw[if_neg q,if_neg ⋯]
     rw[e1];refine⟨_,by simp![DQ,jl,p],Z (.int (w:Int)),rfl⟩)
   unfold lst
   by_cases q:0<dx W c
   .have l:(0:Int)<(dx W c:Int):=⋯;have r:=l8 (W.map λb:Nat=>D.int (b:Int)) (.int (dx W c:Int)) (by rw[S5,et];lia);rw[if_pos q];refine⟨_,by simp![cg,e,i,decide_eq_true l,r];rfl,Z (.int (c:Int)),Z (.int (dx W c:Int)),o,?_⟩;simp only[cg,Te,Tb,P5]
   .have l:¬(0:Int)<(dx W c:Int):=⋯;rw[if_neg q];refine⟨_,by simp![cg,e,i,decide_eq_false l],Z (.int (c:Int)),Z (.int (dx W c:Int)),o,rfl⟩)
 rw[e,i];simp![cg,S5]
def Gq(d:U.Nodup)(j:U.length<=63)(h:b<2 ^ U.length):bg pg Φ ⟨2,0,ak.q4⟩ [aZ U b,.lst (U.map af)]=.ok (.int (b:Int)):=by
 have e:=o8 d h;have f:=d.filter λc=>b.testBit (bc U c)
 have a:∀c∈U.filter (λc=>b.testBit (bc U c)),c∈U:=λc i=>(OJ.mp i).1
 unfold aZ;generalize U.filter (λc=>b.testBit (bc U c))=cs at e f a;have g:bN (elem pg Φ [Z (.tup (cs.map af)),Z (.lst (U.map af))] (.bin .shl (.lit (.int 1)) (.h3 1 2)) 0 .none) (cs.map af)=.ok (cs.map λx=>D.int ((2 ^ bc U x:Nat):Int)):=eY λz hz=>by
  have:=xe (a z hz);simp![wc,xH ⋯ (a z hz),pJ (n:=bc U z) ⋯]
 simp![ak.q4,g,pv,pS d f a,e]
def Gv{U:List (List Int)}(z)(h:U.Nodup)(a:∀k:Int,∃r:Int,0<=r/\r<hG/\Φ fd [.int z,.int k]=.ok (.int r))(i:Φ fc [d,e]=.ok (.lst (U.map af))):
  ∃q:List Int->Bool,bg pg Φ ⟨3,1,ak.q9 fd fc⟩ [d,e,.int z]=.ok (.tup ((U.filter q).map af)):=by
 refine⟨λc=>decide ((a (bc U c:Nat)).choose%3=0),?_⟩;have e1:bN (elem pg Φ [Z d,Z e,Z (.int z),Z (.lst (U.map af))] (.var 5) 2 (.some (.cmp .eq (.bin .mod (.call fd (.cons (.var 2) (.cons (.var 4) (.nil)))) (.lit (.int 3))) (.lit (.int 0))))) (U.map λc=>.tup [.int (bc U c:Nat),af c])=.ok ((U.filter λc=>decide ((a (bc U c:Nat)).choose%3=0)).map af):=hj λc _=>by
  have b:=(a (bc U c:Nat)).choose_spec.2.2;generalize (a (bc U c:Nat)).choose=r at b;have g:bT .mod (.int r) (.int 3)=.ok (.int (r%3)):=eR _ _ ∅
  by_cases q:r%3=0
  .have f:(r%3==0)=true:=OL.mpr q;simp![rW,b,g,f,decide_eq_true q]
  .have f:(r%3==0)=false:=beq_eq_false_iff_ne.mpr q;simp![rW,b,g,f,decide_eq_false q]
 simp![lA,ak.q9,i,ou,oo,vT h,e1]
def ni(k b)(x y z w):bg pg Φ ⟨4,k,b⟩ [x,y,z,w]=iN (cV pg Φ (Z x::Z y::Z z::Z w::Tr k Y) b):=av rfl
def A8(c:Φ fr [d,x,e]=.ok (.ah J))(g:Φ fr [d,y,e]=.ok (.ah J))(h:Φ b [x,y]=.ok s)(i:Φ a [d,s,e]=.ok f):bg pg Φ ⟨4,0,ak.jw a b fr j⟩ [d,x,y,e]=.ok (.ah (!jK f)):=by
 simp![ni,ak.jw,mB,pf,c,g,h,i,Cx]
def A9(a:Φ fr [d,x,e]=.ok (.ah S6)):bg pg Φ ⟨4,0,ak.jw b c fr bw⟩ [d,x,y,e]=.exc bw:=by
 simp![ni,ak.jw,mB,Ig,a,wj,zD,vQ]
def Ba(a:Φ fr [d,x,e]=.ok (.ah J))(b:Φ fr [d,y,e]=.ok (.ah S6)):bg pg Φ ⟨4,0,ak.jw c f fr bw⟩ [d,x,y,e]=.exc bw:=by
 simp![ni,ak.jw,mB,pf,a,b,wj,zD,vQ]
def MK(h:Φ a [d,x,y,e]=.ok (.ah b)):bg pg Φ ⟨4,2,ak.md a k g⟩ [d,x,y,e]=.ok (.ah b):=by
 have c:iR pg.up (.ah b) .bool=.ok true:=rfl;have f:fC (.lst [.ah b,.str (PySem.Str.ofString "")]) (.int 0)=.ok (.ah b):=rfl;simp![ni,ak.md,r1,Ap,h,I3,c,I4,f]
def MN(h:Φ b [d,x,y,e]=.exc 1)(c:gr pg 1 k ⟨5,a,1000⟩=.ok (.bK (.str e7))):bg pg Φ ⟨4,2,ak.md b k a⟩ [d,x,y,e]=.ok (.str e7):=by
 simp![ni,ak.md,r1,Ao,h,c]
def Fz(c:Φ a [d,x,e]=.ok (.ah J))(f:Φ fr [x]=.ok (.ah b)):bg pg Φ ⟨3,0,ak.q2 fr a⟩ [d,x,e]=.ok (.ah b):=by
 simp![lA,ak.q2,c,f]
def Lx(d:∀c∈a,c≠[])(e:∀c∈b,c≠[])(h:(bF (a++b)).length<=63):bg pg Φ ⟨2,0,ak.n7⟩ [.tup (a.map af),.tup (b.map af)]=.ok (.tup ((aS a b).map af)):=zZ rfl rfl d e h
def Hv(d:U.Nodup)(i:a.Nodup)(k:b.Nodup)(f:∀c∈a,c∈U)(g:∀c∈b,c∈U):bh U (aS a b)=bh U a ^^^ bh U b:=by
 have m:∀c∈aS a b,c∈U:=λc l=>by
  rcases o6.mp l with q|q
  .exact f c q.1
  .exact g c q.1
 apply PJ;intro j;rw[O2]
 by_cases e:j<U.length
 .rw[h5 j e (n2 (n3 a b)) d,h5 j e i d,h5 j e k d]
  by_cases p:U[j]∈a<;>by_cases q:U[j]∈b<;>simp[o6,p,q]
 .have lt:∀{xs:List (List Int)},(∀c∈xs,c∈U)->(bh U xs).testBit j=false:=λh=>OS (OD (iW h) (OO ∅ ⋯))
  rw[lt m,lt f,lt g];rfl
def Lh(L g)(x):sp (L++[g]) x<->sp L x\/sp L (x ^^^ g):=by
 have e:sp (L++[g]) x<->sp (g::L) x:=⟨cG λa b=>cb (by rcases Ox.mp b with q|q;exact S4 _ q;rw[OC.mp q];exact S7),cG λa b=>cb (by rcases Oq.mp b with q|q;rw[q];simp;exact Tg _ q)⟩;rw[e];exact SP
def JF(B):∀G:List Nat,dA (B++G)<=dA B+G.length:=snoc_ind (by simp) λG g c=>by
 obtain⟨a,b⟩:=pC (B++G) g;rw[<- Pk,Oo]
 by_cases q:sp (B++G) g
 .rw[a q];simp;lia
 .rw[b q];simp;lia
noncomputable def sums(G:List Nat):List Nat:=G.foldl (λf g=>f++f.map (· ^^^ g)) [0]
def pT(G g):sums (G++[g])=sums G++(sums G).map (· ^^^ g):=by unfold sums;rw[Tv];rfl
def CD{B:List Nat}{p:Nat->Bool}(f:∀y,p y=J<->sp B y):∀G:List Nat,dA (B++G)=dA B+G.length->∀x,(sp (B++G) x->(sums G).countP (λs=>p (x ^^^ s))=1)/\(¬sp (B++G) x->(sums G).countP (λs=>p (x ^^^ s))=0):=snoc_ind (λ_ x=>by
  rw[Pa];have e:sums []=[0]:=rfl;rw[e,Uc,List.countP_nil,Qz];refine⟨λh=>by rw[(f x).mpr h];rfl,λh=>?_⟩;have:p x=false:=(by rw[<- Bool.not_eq_true,f];exact h);rw[this];rfl) λG g j a x=>by
 have h0:=JF B G;obtain⟨l,m⟩:=pC (B++G) g;rw[<- Pk,Oo]at a;have d:¬sp (B++G) g:=λq=>by rw[l q]at a;simp at a;lia
 have i:dA (B++G)=dA B+G.length:=by rw[m d]at a;simp at a;lia
 obtain⟨a1,b⟩:=j i x;obtain⟨b1,b2⟩:=j i (x ^^^ g);have k:(sums (G++[g])).countP (λs=>p (x ^^^ s))=(sums G).countP (λs=>p (x ^^^ s))+(sums G).countP (λs=>p ((x ^^^ g) ^^^ s)):=by
  rw[pT,List.countP_append,Qf];congr 1;refine PO λs _=>?_
  show p (x ^^^ (s ^^^ g))=J<->_;rw[RO s g,Pu]
 rw[k,<- Pk,Lh];have c:¬(sp (B++G) x/\sp (B++G) (x ^^^ g)):=λq=>d (by
  have:=fH q.1 q.2;rwa[<- Pu,Qm,QT]at this)
 refine⟨λh=>?_,λh=>?_⟩
 .rcases h with h|h
  .rw[a1 h,b2 λq=>c ⟨h,q⟩]
  .rw[b1 h,b λq=>c ⟨q,h⟩]
 .rw[b λq=>h (.inl q),b2 λq=>h (.inr q)]
def ML(h:∀t∈ts,IsCell m t)(T:Told ts n G){p:Nat->Bool}(f:∀y,p y=J<->sp (aP ts (n+2)) y)(i:x<2 ^ (cl ts (n+1)).length)(c:bd (aP ts (n+1)) x=0):(sums G).countP (λs=>p (x ^^^ s))=1:=by
 have e1:∀as:List Nat,(di as).length=dA as:=λas=>mU as
 have a:∀k,(bf [] (bJ (aP ts k))).length=dA (aP ts k):=λk=>by rw[zi,o7]
 have aw:=T.ind;have d:=T.len;rw[e1,e1]at aw;rw[a,a]at d;refine(CD f G aw x).1 (Ee (as:=aP ts (n+1)) (λr g=>?_) ?_ (by rw[fG];exact i) c)
 .rcases Ox.mp g with q|q
  .have:=uR n h;have e:r∈(bJ (aP ts (n+2))).map (·.1):=(by rw[o7];exact q);obtain⟨j,b,rfl⟩:=Tf.mp e;exact this j b
  .have:=T.lz r q;rw[fG];exact this
 .rw[fG];lia
def Lz:∀G:List Nat,(∀b∈G,bd as b=0/\b<2 ^ as.length)->∀s∈sums G,bd as s=0/\s<2 ^ as.length:=snoc_ind (λ_ s c=>by
  have:s=0:=(by simpa[sums] using c);rw[this];exact⟨me as,QF _⟩) λG g j h s c=>by
 have d:=j λb f=>h b (Tg _ f)
 have e:=h g (by simp);rw[pT]at c;rcases Ox.mp c with q|q
 .exact d s q
 .obtain⟨t,i,rfl⟩:=Tf.mp q;obtain⟨a,b⟩:=d t i;exact⟨by rw[hM,a,e.1];rfl,Pz b e.2⟩
def z0(G):(sums G).length=2 ^ G.length:=by
 refine snoc_ind (P:=λG=>(sums G).length=2 ^ G.length) rfl (λG g a=>?_) G;rw[pT,Oo,S5,a,Oo,TB,Ut];lia
def GB(n:G.length<=3)(p:∀b∈G,Φ a [aZ U b,.lst (U.map af)]=.ok (.int (b:Int)))(q:∀b:Nat,Φ fc [.int (b:Int),.lst (U.map af)]=.ok (aZ U b)):
  bg pg Φ ⟨2,2,ak.rl fc a⟩ [.tup (G.map (aZ U)),.lst (U.map af)]=.ok (.lst ((sums G).map (aZ U))):=by
 have j:cut (G.map (aZ U)) Y (Z 3)=G.map (aZ U):=by
  have:cut (G.map (aZ U)) Y (Z ((3:Nat):Int))=_:=vv _ 3;rw[show(3:Int)=((3:Nat):Int) from rfl,this,PB (by rw[S5];exact n)]
 generalize r:D.tup (G.map (aZ U))=d;have k:gB d Y (Z 3)=.ok (.tup (G.map (aZ U))):=by rw[<- r,nu,j]
 obtain⟨z,e,x,s⟩:=d0 (f:=aZ U) (g:=turn pg Φ 0 [3] (.cons (.asg 2 (.bin .add (.var 2) (.comp (.bin .xor (.var 4) (.call a (.cons (.var 3) (.cons (.var 1) (.nil))))) 0 (.seq (.var 2)) (.none)))) (.nil)))
  (λv h=>∃(x:Option D),h=[Z d,Z (.lst (U.map af)),Z (cg (sums v)),x])
  G [Z d,Z (.lst (U.map af)),Z (.lst [.int 0]),Y] ⟨Y,rfl⟩ (λpre g post h c w=>by
   obtain⟨x,o⟩:=w;subst o;have m:=p g (by rw[c];simp);have t:pre.length<=3:=(by have:=Pw U3 c;simp at this;lia);have u:=z0 pre;have y:(2:Nat) ^ pre.length<=2 ^ 3:=OO ∅ t;rw[pT];generalize sums pre=S at u;have e1:bN (elem pg Φ [Z d,Z (.lst (U.map af)),Z (cg S),Z (aZ U g)] (.bin .xor (.var 4) (.call a (.cons (.var 3) (.cons (.var 1) (.nil))))) 0 .none) (S.map λb:Nat=>D.int (b:Int))=.ok (S.map λb:Nat=>D.int ((b ^^^ g:Nat):Int)):=eY λb _=>by
    simp![m,jl]
   have i:bT .add (cg S) (.lst (S.map λb:Nat=>D.int ((b ^^^ g:Nat):Int)))=.ok (cg (S++S.map (· ^^^ g))):=by
    rw[iz,if_pos (by rw[S5,S5,et];lia)];unfold cg;rw[Te,Ti];rfl
   refine⟨_,by simp![e1,i],Z (aZ U g),rfl⟩)
 have l:bN (elem pg Φ [Z d,Z (.lst (U.map af)),Z (cg (sums G)),x] (.call fc (.cons (.var 4) (.cons (.var 1) (.nil)))) 0 .none) ((sums G).map λb:Nat=>D.int (b:Int))=.ok ((sums G).map (aZ U)):=eY λb _=>by
  simp![q]
 simp![ak.rl,k,e,s,l]
end b4
end
section
namespace b4
open PySem ζ aq cJ c6
def Ex(d:U.Nodup)(q):∃b:Nat,b<2 ^ U.length/\D.tup ((U.filter q).map af)=aZ U b:=by
 refine⟨bh U (U.filter q),iW λc a=>(OJ.mp a).1,?_⟩;unfold aZ;congr 2;refine Se λc a=>?_
 obtain⟨j,e,rfl⟩:=Wu a;rw[sj d e,h5 j e (d.filter q) d,P2];simp only[Oz,OJ];exact⟨λh=>⟨a,h⟩,λh=>h.2⟩
noncomputable abbrev cY(U:List (List Int))(b:Nat):List (List Int):=U.filter λc=>b.testBit (bc U c)
def jW(g:∀t∈ts,IsCell m t)(k:b<2 ^ (cl ts (n+1)).length):dF (cY (cl ts (n+1)) b)=[]<->bd (aP ts (n+1)) b=0:=by
 have i:=ew ts (n+1);have e:=o8 i k;have d:(cY (cl ts (n+1)) b).Nodup:=i.filter _;have a:∀c∈cY (cl ts (n+1)) b,c∈cl ts (n+1):=λc f=>(OJ.mp f).1
 have j:∀c∈cY (cl ts (n+1)) b,bI ltI c:=λc f=>jA g (a c f)
 constructor
 .intro h;rw[<- e];refine ze (ew ts n) a (λx d=>⟨lC (j x d),λy l=>iF g (a x d) l⟩) λy=>?_
  refine(Pw (· % 2) (?e:_=cnt y (cY (cl ts (n+1)) b))).trans ?_
  case e=>exact PO λx _=>by simp only[Oz]
  have:=o5 j (e:=y);rw[h]at this;have o:¬cnt y (cY (cl ts (n+1)) b)%2=1:=λq=>nomatch this.mpr q
  lia
 .intro h;rw[<- e]at h;exact JH g d a h
def Ey(d:U.Nodup)(b):U.filter (λc=>decide (c∈cY U b))=cY U b:=Se λc a=>by
 rw[P2,Oz,OJ];exact⟨λq=>q.2,λq=>⟨a,q⟩⟩
def GP:PySem.Str.ofString "none"=e7:=rfl
def Du:dJ (.str e7) (.str e7)=.ok true:=by
 have h:bB 60 (.str e7)=true:=by decide +kernel
 rw[Dx h h];show R.ok (e7==e7)=_;rw[Sn]
def vW(a b):dJ (.ah a) (.ah b)=.ok (a==b):=av rfl
def Dj(as)(x):((((di (as++[x])).length:Nat):Int)==(((di as).length:Nat):Int))=J<->sp as x:=by
 have e1:∀as:List Nat,(di as).length=dA as:=λas=>mU as
 rw[e1,e1,OL];obtain⟨a,b⟩:=pC as x;constructor
 .intro h;apply OY;intro q;have:=b q;lia
 .intro q;rw[a q]
def CB(S:List Nat)(p)(h:S.length<=1000):od (.lst (S.map λs=>D.ah (p s)))=.ok (.int (S.countP p:Nat)):=by
 have e1:(S.map λs=>D.ah (p s)).all (bB 60)=true:=by rw[Ql,OM];exact λ_ _=>rfl
 have a:(S.map λs=>D.ah (p s)).countP (λy=>cU y (.ah J))=S.countP p:=by
  rw[Qf];refine PO λs _=>?_
  show(p s==J)=J<->_;rw[OL]
 show(if (S.map λs=>D.ah (p s)).all (bB 60)&&decide ((S.map λs=>D.ah (p s)).length<=1000) then R.ok (D.int ((S.map λs=>D.ah (p s)).countP (λy=>cU y (.ah J)):Nat)) else .bad)=_;rw[e1,a,S5,decide_eq_true h];rfl
noncomputable def nh(a f g c b d e:Nat):B:=.cons (.iff (.cmp .ne (.call e (.cons (.var 5) (.nil))) (.tup (.nil))) (.cons (.ret (.and (.cmp .eq (.call a (.cons (.var 1) (.cons (.var 4) (.cons (.var 5) (.cons (.var 2) (.nil)))))) (.lit (.str (Ud "none")))) (.cmp .eq (.call a (.cons (.var 1) (.cons (.var 5) (.cons (.var 4) (.cons (.var 2) (.nil)))))) (.lit (.str (Ud "none")))))) (.nil)) (.nil)) (.cons (.asg 6 (.call d (.cons (.var 1) (.cons (.bin .add (.var 2) (.lit (.int 1))) (.nil))))) (.cons (.asg 7 (.bin .xor (.call b (.cons (.var 4) (.cons (.var 3) (.nil)))) (.call b (.cons (.var 5) (.cons (.var 3) (.nil)))))) (.cons (.asg 8 (.cmp .eq (.call c (.cons (.bin .add (.var 6) (.lst (.cons (.var 7) (.nil)))) (.nil))) (.call c (.cons (.var 6) (.nil))))) (.cons (.iff (.or (.cmp .ne (.call a (.cons (.var 1) (.cons (.var 4) (.cons (.var 5) (.cons (.var 2) (.nil)))))) (.var 8)) (.cmp .ne (.call a (.cons (.var 1) (.cons (.var 5) (.cons (.var 4) (.cons (.var 2) (.nil)))))) (.var 8))) (.cons (.ret (.lit (.ah S6))) (.nil)) (.nil)) (.cons (.asg 9 (.call g (.cons (.var 1) (.cons (.var 2) (.nil))))) (.cons (.iff (.cmp .lt (.prim .len (.var 9)) (.lit (.int 4))) (.cons (.asg 10 (.call f (.cons (.var 9) (.cons (.var 3) (.nil))))) (.cons (.iff (.cmp .ne (.cnt (.comp (.call a (.cons (.var 1) (.cons (.var 4) (.cons (.var 11) (.cons (.var 2) (.nil)))))) 0 (.seq (.var 10)) (.none))) (.lit (.int 1))) (.cons (.ret (.lit (.ah S6))) (.nil)) (.nil)) (.nil))) (.nil)) (.cons (.ret (.cmp .is (.call a (.cons (.var 1) (.cons (.var 4) (.cons (.var 4) (.cons (.var 2) (.nil)))))) (.lit (.ah J)))) (.nil))))))))
def Gn(l)(k)(m)(i)(c)(e)(j)(a)(f)(b)(d)(g)(h):ak.q3 l k m i c e j a f b d g h=.cons (.asg 1 (.call h (.cons (.call a (.cons (.var 0) (.cons (.lit (.int 0)) (.nil)))) (.cons (.lit (.int 6)) (.nil))))) (.cons (.asg 2 (.bin .mod (.call a (.cons (.var 0) (.cons (.lit (.int 1)) (.nil)))) (.call g (.cons (.var 1) (.nil))))) (.cons (.asg 3 (.call d (.cons (.var 1) (.cons (.var 2) (.nil))))) (.cons (.asg 4 (.call b (.cons (.var 1) (.cons (.var 2) (.cons (.call a (.cons (.var 0) (.cons (.lit (.int 2)) (.nil)))) (.nil)))))) (.cons (.asg 5 (.call b (.cons (.var 1) (.cons (.var 2) (.cons (.call a (.cons (.var 0) (.cons (.lit (.int 3)) (.nil)))) (.nil)))))) (.cons (.iff (.cmp .eq (.bin .mod (.call a (.cons (.var 0) (.cons (.lit (.int 4)) (.nil)))) (.lit (.int 5))) (.lit (.int 1))) (.cons (.asg 5 (.call f (.cons (.var 1) (.cons (.var 2) (.cons (.call a (.cons (.var 0) (.cons (.lit (.int 5)) (.nil)))) (.nil)))))) (.nil)) (.nil)) (nh l k m i c e j)))))):=rfl
structure qx(Φ:dn)(m:Int)(ts:List (List Int))(n:Nat)(wF bx EE EG b6 Ep EH:Nat):Prop where
 cell:∀t∈ts,IsCell m t
 len:(cl ts (n+1)).length<=63
 Jz:∀b:Nat,Φ EH [aZ (cl ts (n+1)) b]=.ok (.tup ((dF (cY (cl ts (n+1)) b)).map af))
 col:Φ Ep [aT m ts,.int ((n:Int)+1)]=.ok (cg (aP ts (n+2)))
 row:(aP ts (n+2)).length<=63
 bit:∀b:Nat,b<2 ^ (cl ts (n+1)).length->Φ b6 [aZ (cl ts (n+1)) b,.lst ((cl ts (n+1)).map af)]=.ok (.int (b:Int))
 dA:∀xs:List Nat,xs.length<=1000->Φ EG [cg xs]=.ok (.int ((di xs).length:Int))
 lz:∃G:List Nat,Φ EE [aT m ts,.int (n:Int)]=.ok (.tup (G.map (aZ (cl ts (n+1)))))/\Told ts n G
 sum:∀G:List Nat,G.length<=3->(∀b∈G,b<2 ^ (cl ts (n+1)).length)->Φ bx [.tup (G.map (aZ (cl ts (n+1)))),.lst ((cl ts (n+1)).map af)]=.ok (.lst ((sums G).map (aZ (cl ts (n+1)))))
 p8:∀b c:Nat,b<2 ^ (cl ts (n+1)).length->c<2 ^ (cl ts (n+1)).length->bd (aP ts (n+1)) b=0->bd (aP ts (n+1)) c=0->∃v:Bool,Φ wF [aT m ts,aZ (cl ts (n+1)) b,aZ (cl ts (n+1)) c,.int (n:Int)]=.ok (.ah v)/\(v=J<->sp (aP ts (n+2)) (b ^^^ c))
 Am:∀b c:Nat,b<2 ^ (cl ts (n+1)).length->c<2 ^ (cl ts (n+1)).length->¬(bd (aP ts (n+1)) b=0/\bd (aP ts (n+1)) c=0)->Φ wF [aT m ts,aZ (cl ts (n+1)) b,aZ (cl ts (n+1)) c,.int (n:Int)]=.ok (.str e7)
def zd(K:qx Φ m ts n Q b1 aB aC ay aA N)(a:b<2 ^ (cl ts (n+1)).length)(e:c<2 ^ (cl ts (n+1)).length)(hz:bd (aP ts (n+1)) b=0):
  cV pg Φ [Z L,Z (aT m ts),Z (.int (n:Int)),Z (.lst ((cl ts (n+1)).map af)),Z (aZ (cl ts (n+1)) b),Z (aZ (cl ts (n+1)) c),Y,Y,Y,Y,Y] (nh Q b1 aB aC ay aA N)=.ok (.bK (.ah J)):=by
 have e1:=K.Jz c;have d:=rX (ys:=(dF (cY (cl ts (n+1)) c)).map af) (nr 58 _);rw[mY]at d
 by_cases z:bd (aP ts (n+1)) c=0
 .rw[(jW K.cell e).mpr z]at e1 d;have h:=K.bit b a;have u:=K.bit c e;obtain⟨v1,i,aj⟩:=K.p8 b c a e hz z;obtain⟨g,j,ar⟩:=K.p8 c b e a z hz;obtain⟨l,a2,ao⟩:=K.p8 b b a a hz hz;rw[RO c b]at ar;rw[Qm]at ao;have l:l=true:=ao.mpr (nv _);subst l;have C:bT .add (cg (aP ts (n+2))) (.lst [.int ((b ^^^ c:Nat):Int)])=.ok (cg (aP ts (n+2)++[b ^^^ c])):=by
   have:=K.row;rw[iz,if_pos (by rw[S5,et];simp;lia)];unfold cg;rw[Te];rfl
  have H:=K.dA (aP ts (n+2)++[b ^^^ c]) (by have:=K.row;simp;lia);have M:=K.dA (aP ts (n+2)) (by have:=K.row;lia);have ax:=Dj (aP ts (n+2)) (b ^^^ c);have col:=K.col;have o:((((di (aP ts (n+2)++[b ^^^ c])).length:Nat):Int)==(((di (aP ts (n+2))).length:Nat):Int))=v1:=(by rw[P2,ax,aj]);have kS:g=v1:=(by rw[P2,aj,ar]);subst kS;have a1:(g==g)=true:=Sn g;obtain⟨G,U,T⟩:=K.lz;have a0:sh J (.ah J)=true:=rfl;have e0:dJ (.tup ([]:List D)) (.tup [])=.ok true:=d;have r:Φ N [aZ (cl ts (n+1)) c]=.ok (.tup []):=e1
  by_cases a6:G.length<4
  .have k:(G.length:Int)<4:=⋯;have a7:=K.sum G ⋯ λx f=>(T.lz x f).1
   have aX:=Lz (as:=aP ts (n+1)) G λx f=>⟨(T.lz x f).2,by rw[fG];exact(T.lz x f).1⟩
   have bb:(sums G).length<=1000:=by
    rw[z0];exact O3 (OO ∅ (by lia:G.length<=3)) ∅
   obtain⟨p,X⟩:∃p:Nat->Bool,∀y,p y=J<->sp (aP ts (n+2)) y:=⟨λy=>@decide (sp (aP ts (n+2)) y) (VE _),λy=>@decide_eq_true_iff _ (VE _)⟩;have one:=ML K.cell T X a hz;have s2:bN (elem pg Φ [Z L,Z (aT m ts),Z (.int (n:Int)),Z (.lst ((cl ts (n+1)).map af)),Z (aZ (cl ts (n+1)) b),Z (aZ (cl ts (n+1)) c),Z (cg (aP ts (n+2))),Z (.int ((b ^^^ c:Nat):Int)),Z (.ah g),Z (.tup (G.map (aZ (cl ts (n+1))))),Z (.lst ((sums G).map (aZ (cl ts (n+1)))))] (.call Q (.cons (.var 1) (.cons (.var 4) (.cons (.var 11) (.cons (.var 2) (.nil)))))) 0 .none) ((sums G).map (aZ (cl ts (n+1))))=.ok ((sums G).map λs=>D.ah (p (b ^^^ s))):=eY λx f=>by
    obtain⟨b2,V⟩:=aX x f;rw[fG]at V;obtain⟨v,t,w⟩:=K.p8 b x a V hz b2;have:v=p (b ^^^ x):=(by rw[P2,w,X]);rw[<- this];simp![t]
   have s3:=CB (sums G) (λs=>p (b ^^^ s)) bb;rw[one]at s3;have a5:(((1:Nat):Int)==1)=true:=rfl;simp![nh,r,e0,h,u,jl,col,C,H,M,o,i,j,a2,vW,a1,mB,pf,U,S5,decide_eq_true k,a7,DK,s2,s3,a5,vl,a0]
  .have k:¬(G.length:Int)<4:=⋯;simp![nh,r,e0,h,u,jl,col,C,H,M,o,i,j,a2,vW,a1,mB,pf,U,S5,decide_eq_false k,vl,a0]
 .have i:=K.Am b c a e λq=>z q.2
  have j:=K.Am c b e a λq=>z q.1
  have h:(dF (cY (cl ts (n+1)) c)).isEmpty=false:=by
   cases q:dF (cY (cl ts (n+1)) c) with
   |nil=>exact absurd ((jW K.cell e).mp q) z
   |cons _ _=>rfl
  rw[h]at d;have d:dJ (.tup ((dF (cY (cl ts (n+1)) c)).map af)) (.tup [])=.ok false:=d;simp![nh,e1,d,i,j,GP,Du]
def Gp{d:List Int}(h:∀k:Nat,∃r:Int,0<=r/\r<hG/\Φ e [.lst (d.map .int),.int (k:Int)]=.ok (.int r))(cx:∀i:Int,0<=i->∃m ts,Φ aC [.int i,.int 6]=.ok (aT m ts)/\Net m ts/\m<=6/\ts.length<=20)(bw:∀N:kd,Good N->Φ V [aT N.1 N.2]=.ok (.int (aw N.2:Int)))(a8:∀N:kd,Good N->∀n:Nat,n<=7->Φ fc [aT N.1 N.2,.int (n:Int)]=.ok (.lst ((cl N.2 (n+1)).map af)))(a0:∀N:kd,Good N->∀n:Nat,n<=7->∀z:Int,∃b:Nat,Φ b2 [aT N.1 N.2,.int (n:Int),.int z]=.ok (aZ (cl N.2 (n+1)) b)/\bd (aP N.2 (n+1)) b=0/\b<2 ^ (aP N.2 (n+1)).length)(bl:∀N:kd,Good N->∀n:Nat,n<=7->∀z:Int,∃b:Nat,Φ aB [aT N.1 N.2,.int (n:Int),.int z]=.ok (aZ (cl N.2 (n+1)) b)/\b<2 ^ (cl N.2 (n+1)).length)(a6:∀N:kd,Good N->∀n:Nat,n<=6->qx Φ N.1 N.2 n a5 a7 b1 aX ay aA bb):
  bg pg Φ ⟨1,10,ak.q3 a5 a7 b1 aX ay aA bb e aB b2 fc V aC⟩ [.lst (d.map .int)]=.ok (.ah J):=by
 obtain⟨a2,cq,-,e0⟩:=h 0;have e0:Φ e [.lst (d.map .int),.int 0]=.ok (.int a2):=e0;obtain⟨f,-,-,e1⟩:=h 1;have e1:Φ e [.lst (d.map .int),.int 1]=.ok (.int f):=e1;obtain⟨aj,-,-,o⟩:=h 2;have o:Φ e [.lst (d.map .int),.int 2]=.ok (.int aj):=o;obtain⟨ar,-,-,p⟩:=h 3;have p:Φ e [.lst (d.map .int),.int 3]=.ok (.int ar):=p;obtain⟨j,-,-,s⟩:=h 4;have s:Φ e [.lst (d.map .int),.int 4]=.ok (.int j):=s;obtain⟨ao,-,-,u⟩:=h 5;have u:Φ e [.lst (d.map .int),.int 5]=.ok (.int ao):=u;obtain⟨m,ts,U,X,cA,cz⟩:=cx a2 cq;have g:Good (m,ts):=⟨X,by show ts.length<=63;lia⟩;have cN:1<=aw ts:=E2 g;have cM:aw ts<=6:=E0 λt cf=>by have:=jy (X.cell t cf);lia
 have k1:Φ V [aT m ts]=.ok (.int (aw ts:Int)):=bw (m,ts) g;have k2:bT .mod (.int f) (.int (aw ts:Int))=.ok (.int (f%(aw ts:Int))):=eR _ _ ⋯;obtain⟨n,cc,b9⟩:∃n:Nat,f%(aw ts:Int)=(n:Int)/\n<=6:=by
  have a:=SF f (b:=(aw ts:Int)) ⋯;have b:=RW f (b:=(aw ts:Int)) ⋯;exact⟨(f%(aw ts:Int)).toNat,(Int.toNat_of_nonneg a).symm,⋯⟩
 rw[cc]at k2;have K:=a6 (m,ts) g n b9;have M:Φ fc [aT m ts,.int (n:Int)]=.ok (.lst ((cl ts (n+1)).map af)):=a8 (m,ts) g n ⋯;obtain⟨b,v,w,l⟩:=a0 (m,ts) g n ⋯ aj;obtain⟨c,x,-,y⟩:=a0 (m,ts) g n ⋯ ar;obtain⟨ax,Q,T⟩:=bl (m,ts) g n ⋯ ao;rw[fG]at l y;dsimp only at v w l x y Q T;have a1:bT .mod (.int j) (.int 5)=.ok (.int (j%5)):=eR _ _ ∅;have G:=λL=>zd (pg:=pg) (L:=L) K (b:=b) (c:=c) l y w
 have H:=λL=>zd (pg:=pg) (L:=L) K (b:=b) (c:=ax) l T w
 dsimp only at G H;rw[Gn]
 by_cases q:j%5=1
 .have C:(j%5==1)=true:=OL.mpr q;simp![e0,e1,o,p,s,u,U,k1,k2,M,v,x,Q,a1,C,H]
 .have C:(j%5==1)=false:=beq_eq_false_iff_ne.mpr q;simp![e0,e1,o,p,s,u,U,k1,k2,M,v,x,a1,C,G]
end b4
end
section
namespace cK
open PySem
noncomputable def fr(l:List XS):List Addr:=l.filterMap (·.frame)
def dZ(g:Nat->Option Td)(c:Nat)(e:S8)(l:List Td)(h:TH):Prop :=
 ∃a C d b,e=.ref a/\g c=Z C/\h.get? a=Z d/\d.cls=.ref C/\d.data=.fields b/\b[2]?=Z .none /\
  ((l=[a]/\b[1]?=Z .none)\/∃T f ts,l=[a,T]/\b[1]?=Z (.ref T)/\T≠a/\h.get? T=Z f/\f.data=.fields ts/\ts[3]?=Z .none)
def MG{s:S9}(d:s.heap.FunFrames base l)(c:s.heap.get? a=Z o)(b:o.data=.fields g):a∉fr l:=λe=>by
 obtain⟨_,h,q,f⟩:=d.mem e;rw[c]at q;cases q;exact f g b
def entry(p:A.frames=Z (env::outer))(h:s.heap.FunFrames base (env::outer))(n:env.frame=Z L)(g:s.heap.get? dw=Z sR)(e:sR.data=.fields v)(hz:1<v.size)(k:∀h' T j ts,h'.get? dw=Z (sR.mapFields (·.setIfInBounds 1 (.ref T)))->T≠dw->s.heap.get? T=Y->h'.get? T=Z j->j.data=.fields ts->3<ts.size ->
   (∀b o,s.heap.get? b=Z o->b≠dw->b∉fr (env::outer)->h'.get? b=Z o)->(∀b o,s.heap.get? b=Z o->b≠dw->∃f,h'.get? b=Z { o with slots:=f })->Q () { s with heap:=h' }):
  Ta M A (do let a <- frameOf env;let l <- entryPlaceOf L z;let b <- Wv y a .none (UO L) .none l;setField (.ref dw) 1 b) Q E s:=by
 refine Oh (wpAny_frameOf_fun p h n λc ⟨w,m,x⟩=>Oh (wpAny_entryPlaceOf λl t=>?_));unfold Wv newFields;have e1:c.get? dw=Z sR:=(m dw (MG h g e)).trans g;have i:c.objs.size≠dw:=RM (Ou e1);refine Oh (OZ (PZ (Ol _ e1) e hz (k _ c.objs.size _ _ (OW _ (Ol _ e1) (QK (PX e _))) i ?_ ((OR _ _ i.symm).trans (OA c rfl)) rfl ?_ (λb o q d r=>?_) λb o q d=>?_)) (t.sizeOk5 _ _ _ _ _))
 .cases q:s.heap.get? c.objs.size with
  |none=>rfl
  |some o=>exact absurd (Ou q) (by rw[w];exact Pq _)
 .simp
 .rw[OR _ _ (Pd d)];exact Ol _ ((m b r).trans q)
 .obtain⟨f,u⟩:=x b o q;exact⟨f,by rw[OR _ _ (Pd d)];exact Ol _ u⟩
def note(a0:A.frames=Z (env::outer))(S:s.heap.FunFrames base (env::outer))(R:env.frame=Z L)(b2:dZ ao c e l s.heap)(k:∀h' a1,dZ ao c e a1 h'->(∀a∈a1,a∈l\/s.heap.get? a=Y)->(∀b o,s.heap.get? b=Z o->b∉l->b∉fr (env::outer)->h'.get? b=Z o) ->
   (∀b o,s.heap.get? b=Z o->b∈fr (env::outer)->∃G,h'.get? b=Z { o with slots:=G })->Q () { s with heap:=h' }):
  Ta M A (noteFrame e env) (λ_ s2=>Ta M A (VF e Y) Q E s2) E s:=by
 obtain⟨dw,C,a7,H,rfl,aA,n,aB,j,V,b1⟩:=b2;have hz:1<H.size:=Nat.lt_trans ∅ (OP.mp V).1;have fin:∀{h0 g:TH}{T:Td}{K:Uq}{ts:Array S8},(∀b o,s.heap.get? b=Z o->b∉l->h0.get? b=Z o)->dw∈l->g.get? dw=Z (a7.mapFields (·.setIfInBounds 1 (.ref T)))->T≠dw->s.heap.get? T=Y->g.get? T=Z K->K.data=.fields ts->3<ts.size ->
   (∀b o,h0.get? b=Z o->b≠dw->b∉fr (env::outer)->g.get? b=Z o)->(∀b o,h0.get? b=Z o->b≠dw->∃G,g.get? b=Z { o with slots:=G })->(∀b,b∈l->∀o,s.heap.get? b=Z o->∃ws,o.data=.fields ws)->Ta M A (VF (.ref dw) Y) Q E { s with heap:=g }:=by
  intro h0 g T K ts k0 O p r t u m v B D a5;have U:=PX j (·.setIfInBounds 1 (Th T));have ar:(H.setIfInBounds 1 (Th T))[1]?=Z (Th T):=(by simp[hz]);have bl:(H.setIfInBounds 1 (Th T))[2]?=Z Value.none:=(by rw[Array.getElem?_setIfInBounds_ne ∅];exact V);have aX:∀b o,s.heap.get? b=Z o->b∈fr (env::outer)->b∉l:=λb o q d I=>by
   obtain⟨_,bw,aj,y⟩:=S.mem d;rw[q]at aj;cases aj;obtain⟨ws,hw⟩:=a5 b I o q;exact y ws hw
  have a2:∀b o,s.heap.get? b=Z o->b≠T:=λb o q z=>by rw[z,t]at q;cases q
  have i:∀b,b≠T->(g.update T (T1 (·.setIfInBounds 3 ((Y:Option Td).elim Value.none λf=>UO f)))).get? b=g.get? b:=λb d=>OR _ _ (Pd d)
  unfold VF;refine Oh (Qy p U ar ?_);rw[if_pos (show(Th T != Value.none)=J from by simp)];refine PZ u m v (k _ [dw,T] ⟨dw,C,_,_,rfl,aA,(i dw (Pd r)).trans p,(WR _ _).trans aB,U,bl,.inr ⟨T,_,_,rfl,ar,r,OW _ u (QK (PX m _)),PX m _,by simp[v]⟩⟩ (λa N=>?_) (λb o q d y=>?_) λb o q d=>?_)
  .rcases Oq.mp N with rfl|N
   .exact .inl O
   .obtain rfl:a=T:=(by simpa using N);exact .inr t
  .exact(i b (a2 b o q)).trans (B b o (k0 b o q d) (λz=>d (by rw[z];exact O)) y)
  .have I:=aX b o q d;obtain⟨G,z⟩:=D b o (k0 b o q I) λz=>I (by rw[z];exact O)
   exact⟨G,(i b (a2 b o q)).trans z⟩
 unfold noteFrame;simp only[R];rcases b1 with⟨rfl,g⟩|⟨T,K,ts,rfl,g,ax,w,x,X⟩
 .refine Oh (Qy n j g ?_);rw[if_neg ∅];refine entry a0 S R n j hz λh' h bb a8 p r t u m v B D=>fin (h0:=s.heap) (λb o q _=>q) (by simp) p r t u m v B D λb d o q=>?_
  obtain rfl:b=dw:=(by simpa using d);rw[n]at q;cases q;exact⟨H,j⟩
 .refine Oh (Qy n j g ?_);rw[if_pos (show(Th T != Value.none)=J from by simp)];refine Oh (Qy w x X ?_);rw[if_neg (show ¬((Value.none==UO L)=J) from by simp[UO])];refine Oh (PZ w x (OP.mp X).1 ?_);have i:∀b,b≠T->(s.heap.update T (T1 (·.setIfInBounds 3 Value.none))).get? b=s.heap.get? b:=λb d=>OR _ _ (Pd d)
  have a6:∀b,b∈[dw,T]->∀o,s.heap.get? b=Z o->∃ws,o.data=.fields ws:=λb d o q=>by
   rcases Oq.mp d with rfl|d
   .rw[n]at q;cases q;exact⟨H,j⟩
   .obtain rfl:b=T:=(by simpa using d);rw[w]at q;cases q;exact⟨ts,x⟩
  have aC:(s.heap.update T (T1 (·.setIfInBounds 3 Value.none))).FunFrames base (env::outer):=S.of_keeps λb o q y=>⟨o,(i b λz=>by rw[z,w]at q;cases q;exact y ts x).trans q,rfl⟩
  have ay:∀h,(s.heap.update T (T1 (·.setIfInBounds 3 Value.none))).get? h=Y->s.heap.get? h=none:=λh q=>by
   by_cases z:h=T
   .subst z;rw[OW _ w (QK (PX x _))]at q;cases q
   .rw[i h z]at q;exact q
  exact entry (s:={ s with heap:=s.heap.update T (T1 (·.setIfInBounds 3 Value.none)) }) a0 aC R ((i dw (Pd ax)).trans n) j hz λh' h bb a8 p r t u m v B D =>
   fin (h0:=s.heap.update T (T1 (·.setIfInBounds 3 Value.none))) (λb o q d=>(i b λz=>d (by simp[z])).trans q) (by simp) p r (ay h t) u m v B D a6
def leave(h:A.frames=Z (env::outer))(i:s.heap.FunFrames base (env::outer))(g:env.frame=Z L)(j:dZ f c e l s.heap)(k:∀h' d,dZ f c e d h'->(∀a∈d,a∈l\/s.heap.get? a=Y)->(∀b o,s.heap.get? b=Z o->b∉l->b∉fr (env::outer)->h'.get? b=Z o) ->
   (∀b o,s.heap.get? b=Z o->b∈fr (env::outer)->∃m,h'.get? b=Z { o with slots:=m })->Q () { s with heap:=h' }):
  Ta M A (leaving env e) Q E s:=by
 unfold leaving;exact Oh (note h i g j k)
def Eu(u:dZ v c e l s.heap)(k:∀(h':TH)(h:List Td),(∀a∈h,a∈l/\e≠.ref a)->(∀b o,s.heap.get? b=Z o->b∉h->h'.get? b=Z o)->Q () { s with heap:=h' }):Ta M A (VF e Y) Q E s:=by
 obtain⟨w,C,D,G,rfl,x,g,y,f,h0,t⟩:=u;rcases t with⟨rfl,d⟩|⟨T,B,ts,rfl,d,m,j,r,i⟩
 .unfold VF;refine Oh (Qy g f d ?_);rw[if_neg ∅];exact Oj (k s.heap [] (λ_ z=>nomatch z) λb o q _=>q)
 .unfold VF;refine Oh (Qy g f d ?_);rw[if_pos (show(Th T != Value.none)=J from by simp)];refine PZ j r (OP.mp i).1 (k _ [T] (λa n=>?_) λb o q p=>?_)
  .obtain rfl:a=T:=(by simpa using n);exact⟨by simp,λz=>m (Value.ref.inj z).symm⟩
  .rw[OR _ _ (λz=>p (by simp[z]))];exact q
def made(b:a c=Z C)(f:Heap.MadeExcOf h h' e (.ref C) args):dZ a c (.ref e) [e] h':=by
 obtain⟨t,d,_,_⟩:=f.there;exact⟨e,C,_,_,rfl,b,d,rfl,rfl,rfl,.inl ⟨rfl,rfl⟩⟩
section
def xb(p:s.heap.get? x=Z r)(l:r.cls=.ref C)(k:s.heap.get? C=Z (TL nm q C N bs bm hdct sn sub ab col dd k0 k1 k2 k3 k5 u))(o:∀{b:TO}{a:S8->S9->Prop}{e},a (.type "type") s->Ta (Tc prog w) b (VM c) a e s)(m:∀{b:TO}{a:Bool->S9->Prop}{e},a J s->Ta (Tc prog w) b (isType c) a e s)(n:(Th C::bm).contains c=J)(h:Q (.done (.ret (.bool J))) s):Ta (Tc prog w) A (Uh.«isinstance.nested» ⟨[.ref x,c,.int t tk],[]⟩) Q E s:=by
 obtain⟨h0,g,d,j,os⟩:=s;have f:∀{b:TO}{a:S8->S9->Prop}{e},a (.ref C) ⟨h0,g,d,j,os⟩->Ta (Tc prog w) b (VM (.ref x)) a e ⟨h0,g,d,j,os⟩:=λ{b a e} z=>by
  unfold VM
  repeat (first|(with_reducible refine Pm p ?_;rw[l])|wp_step)
  exact z
 unfold Uh.«isinstance.nested»;refine Oh (f ?_)
 by_cases i:(Th C==c)=J
 .rw[if_pos i];show Ta (Tc prog w) A (pure _) Q E _;exact Oj h
 .rw[if_neg i];refine Oh (o ?_);rw[if_pos ∅]
  k_delta "plainIsInstance"
  refine Oh (Oh (m ?_));simp only[Pl,Om,OH];refine Oh ?_;unfold isInstance;refine Oh (f ?_);refine PT k ?_;rw[n];simp only[Pb]
  first
   |exact Oj h
   |exact Oj (Oj h)
   |exact Oh (Oj (Oj h))
def FC(r:s.heap.get? x=Z f)(o:f.cls=.ref C)(l:s.heap.get? C=Z (TL nm q C N bs bm hdct sn sub ab col dd k0 k1 k2 k3 k5 t))(a:s.heap.get? D=Z c)(m:c.cls=.type "type")(n:∃e,c.data=.cls e)(p:(Th C::bm).contains (.ref D)=J)(h:Q (.bool J) s):Ta (Tc prog w) A (call (.builtin "isinstance") [.ref x,.ref D]) Q E s:=by
 refine SI (S:=λ_ R s=>(s.heap.get? x=Z f/\s.heap.get? C=Z (TL nm q C N bs bm hdct sn sub ab col dd k0 k1 k2 k3 k5 t)/\s.heap.get? D=Z c)/\R (.ok (.ret (.bool J))) s)
  (λ_ _ _ _ _ b=>Sq (xb b.1.1 o b.1.2.1 (λ{i k j} z=>?_) (λ{i k j} z=>?_) p b.2) (by intro q;cases q)) ⟨⟨r,l,a⟩,h⟩
 .have a:=b.1.2.2;rename_i s';obtain⟨h0,g,d,G,os⟩:=s';unfold VM
  repeat (first|(with_reducible refine Pm a ?_;rw[m])|wp_step)
  exact z
 .have a:=b.1.2.2;obtain⟨u,v,y,B⟩:=c;obtain⟨e,rfl⟩:=n;unfold isType loadHead;exact Oh (SO a (Oj z))
def FD(k:s.heap.get? x=Z b)(g:b.cls=.ref C)(f:s.heap.get? C=Z (TL nm q C N bs bm hdct sn sub ab col dd k0 k1 k2 k3 k5 l))(j:VM (.type T)=pure (.type "type"))(i:bm.contains (.type T)=J)(h:Q (.bool J) s):Ta (Tc prog w) A (call (.builtin "isinstance") [.ref x,.type T]) Q E s:=by
 refine SI (S:=λ_ R s=>(s.heap.get? x=Z b/\s.heap.get? C=Z (TL nm q C N bs bm hdct sn sub ab col dd k0 k1 k2 k3 k5 l))/\R (.ok (.ret (.bool J))) s)
  (λ_ _ _ _ _ a=>Sq (xb a.1.1 g a.1.2 (λ{c e d} z=>?_) (λ{c e d} z=>?_) (by rw[QE,i,QY]) a.2) (by intro q;cases q)) ⟨⟨k,f⟩,h⟩
 .rw[j];exact Oj z
 .exact Oj z
end
end cK
end
section
namespace cK
open PySem PySem.W
section
variable{prog:TK}{w:TU}{A:TO}{E:S8->S9->Prop}{h:TH}{g:Array GenState}{d:Drawn}{t:Nat}{os:OsState}{a:Td}{o:Uq}{K:Frag}{nm q:Tj}{C N:Td}{bs bm:List S8}{hdct:Bool}{sn:List Tj}{sub:List S8}{ab:Bool}{col:Option Bool}{dd:Option Td}{k0 k1 k2 k3 k5:Option S8}{newId:String}
def Hd(i:h.get? C=Z (TL nm q C N bs bm hdct sn sub ab col dd k0 k1 k2 k3 k5 newId))(c:h.get? D=Z (TL T U D s v b z V a0 u x y B G H I L O))(m:h.get? e=Z r)(l:r.cls=.ref C)(j:b.contains (.type "BaseException")=J)(n:(Th C::bm).contains (.ref D)=J)(p:Q J ⟨h,g,d,t,os⟩):Ta M A (excMatches (.ref e) (.ref D)) Q E ⟨h,g,d,t,os⟩:=by
 have k:(Th D::b).contains (.type "BaseException")=true:=by rw[QE,j,QY]
 have f:=tc_notTuple;unfold excMatches
 repeat (first|(with_reducible refine Pm m ?_;rw[l])|with_reducible refine Pm c ?_|(with_reducible refine PT c ?_;rw[k])|(with_reducible refine PT i ?_;rw[n])|wp_step)
 exact p
def Cv(e:h.get? C=Z (TL nm q C N bs bm hdct sn sub ab col dd k0 k1 k2 k3 k5 newId))(f:bm.contains (.type "object")=J)(c:h.get? a=Z o)(b:o.cls=.ref C)(k:R (.ok (.ret (.ref C))) ⟨h,g,d,t,os⟩):
  Vb (Tc prog w) A (.call (.builtin "getset_descriptor.__get__") ⟨[.builtin "object.__class__",.ref a,.ref C],[]⟩) R ⟨h,g,d,t,os⟩:=by
 have i:(⟨h,g,d,t,os⟩:S9).TypeIs (.builtin "object.__class__") "getset_descriptor":=Rp;have j:(Th C::bm).contains (.type (".".intercalate ("object.__class__".cutAt '.').dropLast))=true:=by
  rw[F.owner_object_class,QE,f,QY]
 refine RE SV.plain F.entry_gs_get (SV.check _ _ _ _ _ _ _ _ i (F.args_gs_get _ _ _) ?_)
 repeat (any_goals (first|assumption|(with_reducible refine Pm c ?_;rw[b])|(with_reducible refine PT e ?_;rw[j])|wp_step))
 refine⟨RY _ (by decide +kernel),PA F.entry_object_class ?_⟩
 repeat (any_goals (first|assumption|(with_reducible refine Pm c ?_;rw[b])|wp_step))
def Ct(c:h.get? C=Z (TL nm q C N bs bm hdct sn sub ab col dd k0 k1 k2 k3 k5 newId))(b:bm.contains (.type "BaseException")=J)(l:h.get? a=Z o)(e:o.cls=.ref C)(j:Q () ⟨h,g,d,t,os⟩):Ta M A (VA "BaseException.__getattribute__" ⟨[.ref a,m],[]⟩) Q E ⟨h,g,d,t,os⟩:=by
 have i:builtinKind "BaseException.__getattribute__"=Z .slot:=by decide +kernel
 have k:splitId "BaseException.__getattribute__"=Z ("BaseException","__getattribute__"):=by decide +kernel
 have f:(Th C::bm).contains (.type "BaseException")=true:=by rw[QE,b,QY]
 have n:=F.args_bexc_ga (.ref a) m;simp only[VA,i,k];refine Oh ?_
 .unfold isInstance
  repeat (first|(with_reducible refine Pm l ?_;rw[e])|(with_reducible refine PT c ?_;rw[f])|wp_step)
  exact j
def Cu(X:K.In h)(f:VU K (.ref C) "__class__"=Z (Z (.builtin "object.__class__")))(i:h.get? C=Z (TL nm q C N bs bm hdct sn sub ab col dd k0 k1 k2 k3 k5 newId))(j:bm.contains (.type "object")=J)(c:h.get? a=Z o)(b:o.cls=.ref C)(p:Q (.done (.ret (.ref C))) ⟨h,g,d,t,os⟩):
  Ta (Tc prog w) A (Uh.«object.__getattribute__» ⟨[.ref a,.str "__class__" tk],[]⟩) Q E ⟨h,g,d,t,os⟩:=by
 have n:(⟨h,g,d,t,os⟩:S9).TypeIs (.builtin "object.__class__") "getset_descriptor":=Rp;have k:=Rp;have l:=SV.lookup;have m:=F.slot_gs_set.lookup;have e:=WX (M:=Tc prog w) X f
 repeat (any_goals (first|assumption|(with_reducible refine Pm c ?_;rw[b])|with_reducible refine Looks.at e ?_|wp_step))
 refine Cv i j c b ?_
 repeat (any_goals (first|assumption|wp_step))
def Cs(X:K.In h)(j:VU K (.ref C) "__class__"=Z (Z (.builtin "object.__class__")))(k:VU K (.ref C) "__getattribute__"=Z (Z (.builtin "BaseException.__getattribute__")))(l:VU K (.ref C) "__getattr__"=Z Y)(e:h.get? C=Z (TL nm q C N bs bm hdct sn sub ab col dd k0 k1 k2 k3 k5 newId))(n:bm.contains (.type "object")=J)(m:bm.contains (.type "BaseException")=J)(c:h.get? a=Z o)(b:o.cls=.ref C)(s:Q (.ref C) ⟨h,g,d,t,os⟩):Ta (Tc prog w) A (getAttrBy (.ref a) (.str "__class__" tk) S6) Q E ⟨h,g,d,t,os⟩:=by
 have r:=Wh.ga.bind (.ref a);have p:(Vw "BaseException.__getattribute__"==Vw "object.__getattribute__")=false:=by decide +kernel
 have u:(onTheHeap (Th C)&&Vw "BaseException.__getattribute__"==Vw "object.__getattribute__")=false:=by rw[p];rfl
 have f:=WX (M:=Tc prog w) X k;have i:=WX (M:=Tc prog w) X l
 repeat (any_goals (first|assumption|(with_reducible refine Pm c ?_;rw[b])|with_reducible refine Looks.at f ?_|with_reducible refine Looks.at i ?_|wp_step))
 refine RE Wh.ga.plain F.entry_bexc_ga (Ct e m c b (Cu X j e n c b ?_))
 repeat (any_goals (first|assumption|wp_step))
def Cr(X:K.In h)(b:VU K (.ref C) "__class__"=Z (Z (.builtin "object.__class__")))(c:VU K (.ref C) "__getattribute__"=Z (Z (.builtin "BaseException.__getattribute__")))(e:VU K (.ref C) "__getattr__"=Z Y)(i:h.get? C=Z (TL nm q C N bs bm hdct sn sub ab col dd k0 k1 k2 k3 k5 newId))(j:bm.contains (.type "object")=J)(f:bm.contains (.type "BaseException")=J)(l:h.get? a=Z o)(k:o.cls=.ref C)(m:Q (Z (.ref C)) ⟨h,g,d,t+1,os⟩):Ta (Tc prog w) A (getAttr? (.ref a) "__class__") Q E ⟨h,g,d,t,os⟩:=by
 unfold getAttr? getAttrBy?
 repeat (any_goals (first|assumption|with_reducible apply Cs X b c e i j f l k|wp_step))
structure Plain(K:Frag)(C:Td)(bm:List S8):Prop where
 a1:VU K (.ref C) "__class__"=Z (Z (.builtin "object.__class__"))
 a2:VU K (.ref C) "__getattribute__"=Z (Z (.builtin "BaseException.__getattribute__"))
 aj:VU K (.ref C) "__getattr__"=Z Y
 EV:bm.contains (.type "object")=J
 wO:bm.contains (.type "BaseException")=J
def HJ(X:K.In h)(P:Plain K C bm)(i:h.get? C=Z (TL nm q C N bs bm hdct sn sub ab col dd k0 k1 k2 k3 k5 newId))(n:h.get? a=Z o)(m:o.cls=.ref C)(s:∀{e:TO}{b:S8->S9->Prop}{f},b (.type "type") ⟨h,g,d,t,os⟩->Ta (Tc prog w) e (VM c) b f ⟨h,g,d,t,os⟩)(r:∀{e:TO}{b:Bool->S9->Prop}{f},b J ⟨h,g,d,t,os⟩->Ta (Tc prog w) e (isType c) b f ⟨h,g,d,t,os⟩)(j:(Th C::bm).contains c=S6)(k:Q (.done (.ret (.bool S6))) ⟨h,g,d,t+1,os⟩):Ta (Tc prog w) A (Uh.«isinstance.nested» ⟨[.ref a,c,.int u tk],[]⟩) Q E ⟨h,g,d,t,os⟩:=by
 have l:∀{e:TO}{b:S8->S9->Prop}{f},b (.ref C) ⟨h,g,d,t,os⟩->Ta (Tc prog w) e (VM (.ref a)) b f ⟨h,g,d,t,os⟩:=λ{e b f} z=>by
  unfold VM
  repeat (first|(with_reducible refine Pm n ?_;rw[m])|wp_step)
  exact z
 have p:¬(Th C==c)=true:=λz=>by
  rw[QE]at j;have:=OL.mp z;subst this;simp at j
 unfold Uh.«isinstance.nested»;refine Oh (l ?_);rw[if_neg p];refine Oh (s ?_);rw[if_pos ∅]
 k_delta "plainIsInstance"
 refine Oh (Oh (r ?_));simp only[Pl,Om,OH];refine Oh ?_;unfold isInstance;refine Oh (l ?_);refine PT i ?_;rw[j];simp only[Om,OH];refine Oh (Cr X P.a1 P.a2 P.aj i P.EV P.wO n m ?_);refine Oh ?_;unfold isType loadHead;refine Oh (SO i (Oj ?_));simp only[TL,Pl,Om,OH];refine Oh (Sy ?_);refine PT i ?_;rw[j]
 first
  |exact Oj k
  |exact Oj (Oj k)
  |exact Oh (Oj (Oj k))
def FA(X:K.In s.heap)(P:Plain K C bm)(v:s.heap.get? x=Z i)(r:i.cls=.ref C)(m:s.heap.get? C=Z (TL nm q C N bs bm hdct sn sub ab col dd k0 k1 k2 k3 k5 newId))(c:s.heap.get? D=Z e)(n:e.cls=.type "type")(p:∃f,e.data=.cls f)(u:(Th C::bm).contains (.ref D)=S6)(h:Q (.bool S6) { s with toks:=s.toks+1 }):Ta (Tc prog w) A (call (.builtin "isinstance") [.ref x,.ref D]) Q E s:=by
 refine SI (S:=λ_ R s=>(K.In s.heap/\s.heap.get? x=Z i/\s.heap.get? C=Z (TL nm q C N bs bm hdct sn sub ab col dd k0 k1 k2 k3 k5 newId)/\s.heap.get? D=Z e)/\R (.ok (.ret (.bool S6))) { s with toks:=s.toks+1 })
  (λ_ _ _ _ s' b=>Sq ?_ (by intro q;cases q)) ⟨⟨X,v,m,c⟩,h⟩
 obtain⟨h0,g,d,I,os⟩:=s';refine HJ b.1.1 P b.1.2.2.1 b.1.2.1 r (λ{j l k} z=>?_) (λ{j l k} z=>?_) u b.2
 .have c:=b.1.2.2.2;unfold VM
  repeat (first|(with_reducible refine Pm c ?_;rw[n])|wp_step)
  exact z
 .have c:=b.1.2.2.2;obtain⟨y,B,G,H⟩:=e;obtain⟨f,rfl⟩:=p;unfold isType loadHead;exact Oh (SO c (Oj z))
end
end cK
end
section
namespace cK
open PySem
section
end
end cK
end
section
namespace aI
open PySem PySem.Spec PyProof.Rows aJ
noncomputable abbrev D:=ζ.D
noncomputable abbrev aF:=ζ.aF
noncomputable abbrev a9:=ζ.R
noncomputable abbrev bu:=List (Option V)
def a3{α:Type}(r:a9 α)(Q:α->Prop)(E:Nat->Prop):Prop:=match r with
 |.ok a=>Q a
 |.exc c=>E c
 |.bad=>False
def aL{α β:Type}{r:a9 α}{f:α->a9 β}{Q:β->Prop}:a3 (r>>=f) Q E<->a3 r (λa=>a3 (f a) Q E) E:=by
 cases r<;>exact SP
def aW{α:Type}{r:a9 α}{Q b:α->Prop}(h:a3 r Q E)(e:∀a,Q a->b a)(d:∀c,E c->uk c):a3 r b uk:=by
 cases r with
 |ok a=>exact e a h
 |exc c=>exact d c h
 |bad=>exact h
noncomputable def ef(a:List (List Int×Int)):List (List Key×V):=a.map λp=>(p.1.map TQ,V.int p.2)
noncomputable def cX(G:ag):List (Int×Int×Int)->List (Key×V)->Prop
 |[],ys=>ys=[]
 |p::a,ys=>∃b r,ys=(TQ p.1,.ref b)::r/\G b=Z (.tup [.int p.2.1,.int p.2.2])/\cX G a r
theorem cX.mono(s:aH G c):∀{a:List (Int×Int×Int)}{ys:List (Key×V)},cX G a ys->cX c a ys
 |[],_,h=>h
 |p::a,_,⟨b,r,e,d,f⟩=>⟨b,r,e,s _ _ d,f.mono s⟩
noncomputable def lS(G:ag):List (List Int)->List V->Prop
 |[],xs=>xs=[]
 |c::cs,xs=>∃b r,xs=.ref b::r/\G b=Z (.tup (c.map V.int))/\lS G cs r
mutual
noncomputable def Rep (K:W.Frag) (G:ag):D->V->Prop
 |.bG,v=>v=.bG
 |.ah b,v=>v=.ah b
 |.int i,v=>v=.int i
 |.str x,v=>v=.str x
 |.tup ds,v=>∃a xs,v=.ref a/\G a=Z (.tup xs)/\aO K G ds xs
 |.lst ds,v=>∃a xs,v=.ref a/\cp K G a xs/\aO K G ds xs
 |.aN c,v=>∃a e,v=.ref a/\G a=Z (.cy e (.cm (ef c)))
 |.aM c,v=>∃a e ys,v=.ref a/\G a=Z (.cy e (.b5 ys))/\cX G c ys
 |.dQ _,_=>False
noncomputable def aO (K:W.Frag) (G:ag):List D->List V->Prop
 |[],xs=>xs=[]
 |d::ds,xs=>∃v r,xs=v::r/\Rep K G d v/\aO K G ds r
end
section
variable{K:W.Frag}{G cv H aD:ag}
def zW(s:aH G cv)(h:dN K G a xs):dN K cv a xs:=by
 rcases h with(h|⟨o,h⟩)|h
 .exact .inl (.inl (s _ _ h))
 .exact .inl (.inr ⟨o,s _ _ h⟩)
 .exact .inr h
def e9(s:aH G cv)(h:G a=Z (.tup xs)):dN K cv a xs:=.inl (.inl (s _ _ h))
def gb(s:aH G cv)(h:cp K G a xs):cp K cv a xs:=by
 rcases h with(h|⟨o,h⟩)|h
 .exact .inl (.inl (s _ _ h))
 .exact .inl (.inr ⟨o,s _ _ h⟩)
 .exact .inr h
def yY(s:aH G cv)(h:eI G a u):eI cv a u:=by
 rcases h with h|⟨o,h⟩
 .exact .inl (s _ _ h)
 .exact .inr ⟨o,s _ _ h⟩
mutual
theorem Rep.mono (s:aH G cv):∀{d:D}{v:V},Rep K G d v->Rep K cv d v
 |.bG,_,h=>h
 |.ah _,_,h=>h
 |.int _,_,h=>h
 |.str _,_,h=>h
 |.tup ds,_,⟨a,xs,e,h,r⟩=>⟨a,xs,e,s _ _ h,aO.mono s r⟩
 |.lst ds,_,⟨a,xs,e,h,r⟩=>⟨a,xs,e,gb s h,aO.mono s r⟩
 |.aN _,_,⟨a,b,e,h⟩=>⟨a,b,e,s _ _ h⟩
 |.aM _,_,⟨a,b,ys,e,h,r⟩=>⟨a,b,ys,e,s _ _ h,r.mono s⟩
 |.dQ _,_,h=>h
theorem aO.mono (s:aH G cv):∀{ds:List D}{xs:List V},aO K G ds xs->aO K cv ds xs
 |[],_,h=>h
 |d::ds,_,⟨v,r,e,c,f⟩=>⟨v,r,e,Rep.mono s c,aO.mono s f⟩
end
theorem aO.length:∀{ds:List D}{xs:List V},aO K G ds xs->ds.length=xs.length
 |[],_,h=>by cases h;rfl
 |d::ds,_,⟨v,r,e,b,a⟩=>by subst e;simp[aO.length a]
theorem aO.append:∀{ds a:List D}{xs ys:List V},aO K G ds xs->aO K G a ys->aO K G (ds++a) (xs++ys)
 |[],_,_,_,h,q=>by cases h;exact q
 |d::ds,_,_,_,⟨v,r,e,b,c⟩,q=>by subst e;exact⟨v,r++_,rfl,b,aO.append c q⟩
theorem aO.get:∀{ds:List D}{xs:List V}{i:Nat}{d:D},aO K G ds xs->ds[i]?=Z d->∃v,xs[i]?=Z v/\Rep K G d v
 |[],_,_,_,h,e=>by simp at e
 |d::ds,_,0,_,⟨v,r,e,a,b⟩,q=>by subst e;simp at q;subst q;exact⟨v,rfl,a⟩
 |d::ds,_,i+1,_,⟨v,r,e,a,b⟩,q=>by subst e;simpa using aO.get b (by simpa using q)
theorem aO.drop:∀{ds:List D}{xs:List V}(n:Nat),aO K G ds xs->aO K G (ds.drop n) (xs.drop n)
 |_,_,0,h=>by simpa using h
 |[],_,n+1,h=>by cases h;simp[aO]
 |d::ds,_,n+1,⟨v,r,e,b,a⟩=>by subst e;simpa using aO.drop n a
theorem aO.take:∀{ds:List D}{xs:List V}(n:Nat),aO K G ds xs->aO K G (ds.take n) (xs.take n)
 |_,_,0,h=>by simp[aO]
 |[],_,n+1,h=>by cases h;simp[aO]
 |d::ds,_,n+1,⟨v,r,e,a,b⟩=>by subst e;exact⟨v,r.take n,by simp,a,aO.take n b⟩
def aO.snoc(h:aO K G ds xs)(q:Rep K G d v):aO K G (ds++[d]) (xs++[v]):=h.append ⟨v,[],rfl,q,rfl⟩
noncomputable def View(K:W.Frag)(G H:ag):D->V->Prop
 |.aN b,v=>∃a,v=.ref a/\eI H a (.cm (ef b))
 |.aM b,v=>∃a ys,v=.ref a/\eI H a (.b5 ys)/\cX G b ys
 |.lst ds,v=>∃a xs,v=.ref a/\cp K H a xs/\aO K G ds xs
 |d,v=>Rep K G d v
def Rep.view(s:aH G H):∀{d:D}{v:V},Rep K G d v->View K G H d v
 |.lst ds,_,⟨a,xs,e,h,r⟩=>⟨a,xs,e,gb s h,r⟩
 |.bG,_,h=>h
 |.ah _,_,h=>h
 |.int _,_,h=>h
 |.str _,_,h=>h
 |.tup _,_,h=>h
 |.aN _,_,⟨a,b,e,h⟩=>⟨a,e,.inr ⟨b,s _ _ h⟩⟩
 |.aM _,_,⟨a,b,ys,e,h,r⟩=>⟨a,ys,e,.inr ⟨b,s _ _ h⟩,r⟩
 |.dQ _,_,h=>h
structure Ext(G H cv aD:ag):Prop where
 g:aH G cv
 h:aH H aD
 sub:aH cv aD
 new:∀a,G a=Y->H a≠Y->cv a=Y
 c2:∀b xs,aD b=Z (.tup xs)->H b=Z (.tup xs)\/cv b=Z (.tup xs)
theorem Ext.refl(s:aH G H):Ext G H G H:=⟨aH.refl G,aH.refl H,s,λ_ h _=>h,λ_ _ h=>.inl h⟩
theorem Ext.trans(x:Ext G H d e)(y:Ext d e cv aD):Ext G H cv aD :=
 ⟨x.g.trans y.g,x.h.trans y.h,y.sub,λa f c=>y.new a (x.new a f c) (λz=>by
  cases q:H a with
  |none=>exact c q
  |some o=>rw[x.h a o q]at z;cases z),λb xs z=>(y.c2 b xs z).elim (λz=>(x.c2 b xs z).imp id λz=>y.g _ _ z) .inr⟩
def d3(h:H a=Y):aH H (upd H a o):=λb u e=>by rw[bj (f5 e h)];exact e
def View.ext(x:Ext G H b c):∀{d:D}{v:V},View K G H d v->View K b c d v
 |.lst ds,_,⟨a,xs,e,h,r⟩=>⟨a,xs,e,gb x.h h,r.mono x.g⟩
 |.bG,_,h=>h
 |.ah _,_,h=>h
 |.int _,_,h=>h
 |.str _,_,h=>h
 |.tup _,_,h=>Rep.mono (K:=K) x.g h
 |.aN _,_,⟨a,e,h⟩=>⟨a,e,yY x.h h⟩
 |.aM _,_,⟨a,ys,e,h,r⟩=>⟨a,ys,e,yY x.h h,r.mono x.g⟩
 |.dQ _,_,h=>h
def Ext.own(s:aH G H)(h:H a=Y)(d:∀xs,o≠.tup xs):Ext G H G (upd H a o):=⟨aH.refl G,d3 h,s.trans (d3 h),λ_ c _=>c,λb xs e=>by
 by_cases q:b=a
 .subst q;rw[cj]at e;cases e;exact absurd rfl (d xs)
 .rw[bj q]at e;exact .inl e⟩
def Ext.put(s:aH G H)(h:H a=Y):Ext G H (upd G a o) (upd H a o):=by
 have f:G a=none:=s.free h;refine⟨d3 f,d3 h,λb u e=>?_,λb c d=>?_,λb xs e=>?_⟩
 .by_cases q:b=a
  .subst q;rw[cj]at e ⊢;exact e
  .rw[bj q]at e ⊢;exact s b u e
 .rw[bj (λq=>d (by rw[q];exact h))];exact c
 .by_cases q:b=a
  .subst q;rw[cj]at e ⊢;exact .inr e
  .rw[bj q]at e;exact .inl e
end
inductive dc where
 |view|val|fresh
noncomputable def bq(K:W.Frag)(H b c:ag):dc->D->V->Prop
 |.view,d,v=>View K b c d v
 |.val,d,v=>Rep K b d v
 |.fresh,.lst ds,v=>∃a xs,v=.ref a/\c a=Z (.lst xs)/\H a=Y/\b a=Y/\aO K b ds xs
 |.fresh,.aN _,_=>False
 |.fresh,.aM _,_=>False
 |.fresh,d,v=>Rep K b d v
noncomputable def eP:D->Bool
 |.lst _=>J
 |.aN _=>J
 |.aM _=>J
 |_=>S6
noncomputable def gI(K:W.Frag)(G:ag):D->eG->Prop
 |.lst ds,o=>∃xs,o=.lst xs/\aO K G ds xs
 |.aN a,o=>o=.cm (ef a)
 |.aM a,o=>∃ys,o=.b5 ys/\cX G a ys
 |_,_=>False
theorem gI.mono{K:W.Frag}(s:aH G a):∀{d:D}{o:eG},gI K G d o->gI K a d o
 |.lst _,_,⟨xs,e,r⟩=>⟨xs,e,r.mono s⟩
 |.aN _,_,h=>h
 |.aM _,_,⟨ys,e,r⟩=>⟨ys,e,r.mono s⟩
 |.bG,_,h=>h
 |.ah _,_,h=>h
 |.int _,_,h=>h
 |.str _,_,h=>h
 |.tup _,_,h=>h
 |.dQ _,_,h=>h
structure cF(K:W.Frag)(ae:List Nat)(G H:ag)(aa:aF)(σ:bu):Prop where
 len:aa.length=σ.length
 sub:aH G H
 val:∀(i:Nat)(d:D),aa[i]?=Z (Z d)->i∉ae->∃v,σ[i]?=Z (Z v)/\Rep K G d v
 own:∀(i:Nat)(d:D),aa[i]?=Z (Z d)->i∈ae->eP d=S6->∃v,σ[i]?=Z (Z v)/\Rep K G d v
 lst:∀(i:Nat)(d:D),aa[i]?=Z (Z d)->i∈ae->eP d=J->∃a o,σ[i]?=Z (Z (V.ref a))/\H a=Z o/\G a=Y/\gI K G d o
 c2:∀b xs,H b=Z (.tup xs)->G b=Z (.tup xs)
 apart:∀(i j:Nat)(d e:D)(a b:Td),aa[i]?=Z (Z d)->aa[j]?=Z (Z e)->eP d=J->eP e=J->i∈ae->j∈ae->i≠j->σ[i]?=Z (Z (V.ref a))->σ[j]?=Z (Z (V.ref b))->a≠b
def cF.ext{K:W.Frag}(h:cF K p G H q r)(x:Ext G H j k):cF K p j k q r where
 len:=h.len
 sub:=x.sub
 val:=λi d e c=>let ⟨v,a,b⟩:=h.val i d e c;⟨v,a,b.mono x.g⟩
 own:=λi d e c f=>let ⟨v,a,b⟩:=h.own i d e c f;⟨v,a,b.mono x.g⟩
 lst:=λi d e c f=>let ⟨a,o,l,g,m,n⟩:=h.lst i d e c f;⟨a,o,l,x.h _ _ g,x.new a m (by rw[g];exact λz=>nomatch z),n.mono x.g⟩
 c2:=λb xs z=>(x.c2 b xs z).elim (λz=>x.g _ _ (h.c2 b xs z)) id
 apart:=h.apart
theorem cF.view{K:W.Frag}(h:cF K l G H m n){i:Nat}{d:D}(e:m[i]?=Z (Z d)):∃v,n[i]?=Z (Z v)/\View K G H d v:=by
 by_cases j:i∈l
 .cases g:eP d with
  |false=>obtain⟨v,b,c⟩:=h.own i _ e j g;exact⟨v,b,c.view h.sub⟩
  |true =>
   obtain⟨a,o,b,c,p,f⟩:=h.lst i d e j g;cases d with
   |lst ds=>obtain⟨xs,rfl,r⟩:=f;exact⟨_,b,a,xs,rfl,.inl (.inl c),r⟩
   |aN k=>cases f;exact⟨_,b,a,rfl,.inl c⟩
   |aM k=>obtain⟨ys,rfl,r⟩:=f;exact⟨_,b,a,ys,rfl,.inl c,r⟩
   |_=>cases g
 .obtain⟨v,b,c⟩:=h.val i d e j;exact⟨v,b,c.view h.sub⟩
noncomputable abbrev bS:=Nat->S8->List Td->TH->Prop
def eW(X:au)(b:List (Td×Uq))(H:ag)(a:Td):Prop :=
 H a=Y/\(a∈X.ex\/X.dG.heap.get? a=Y)/\a≠X.env.locals/\(∀x c,X.env.cells.lookup x=Z c->c≠a)/\∀p∈X.b7++b,p.1≠a
def eW.of{k:bu}(I:Inv X j k H s)(h:s.heap.get? a=Y)(h':i a=Y):eW X j i a:=by
 have f:∀{b:Td}{o:Uq},s.heap.get? b=Z o->b≠a:=λq z=>by rw[z,h]at q;cases q
 refine⟨h',?_,λz=>?_,λx c q=>?_,λp q=>f (I.pin p q).1⟩
 .by_cases g:a∈X.ex
  .exact .inl g
  .refine .inr ?_;cases q:X.dG.heap.get? a with
   |none=>rfl
   |some o=>obtain⟨l,e⟩:=I.base.there a o q g;rw[h]at e;cases e
 .obtain⟨m,⟨o,_,_,d,_⟩,_⟩:=I.loc;exact f d z.symm
 .obtain⟨v,o,d,_⟩:=I.cell x c q;exact f d
def dr(xp:bS)(X:au)(c:Nat)(H:ag):Prop:=∀(d:List (Td×Uq))(f:bu)(b:ag)(s':S9)(e:S8)(l:List Td),Inv X d f b s'->aH H b->(∀a∈l,eW X d b a)->xp c e l s'.heap->X.bk e s'
def dr.mono(h:dr xp X c H)(s:aH H aD):dr xp X c aD:=λb d a s' e l I q n x=>h b d a s' e l I (s.trans q) n x
noncomputable def aE(xp:bS)(X:au)(g:List Nat)(m:dc)(f:aF->a9 D):TE:=λh H Q =>
 ∃G e,cF X.K g G H e h/\a3 (f e) (λd=>∀v b a,Ext G H b a->bq X.K H b a m d v->Q v a) (λc=>dr xp X c H)
theorem bq.view{K:W.Frag}(s:aH b c):∀{m:dc}{d:D}{v:V},bq K H b c m d v->View K b c d v
 |.view,_,_,h=>h
 |.val,_,_,h=>Rep.view s h
 |.fresh,.lst ds,_,⟨a,xs,e,f,_,_,r⟩=>⟨a,xs,e,.inl (.inl f),r⟩
 |.fresh,.bG,_,h=>h
 |.fresh,.ah _,_,h=>h
 |.fresh,.int _,_,h=>h
 |.fresh,.str _,_,h=>h
 |.fresh,.tup _,_,h=>h
 |.fresh,.aN _,_,h=>h.elim
 |.fresh,.aM _,_,h=>h.elim
 |.fresh,.dQ _,_,h=>h
theorem ai.val(h:ai X e (aE xp X u .fresh f)):ai X e (aE xp X u .val f):=by
 rintro w s B H Q I ⟨G,A,t,hw⟩;refine h w s B H Q I ⟨G,A,t,aW hw (λd k v g i x r=>?_) λ_ q=>q⟩;cases d with
 |lst ds =>
  obtain⟨a,xs,rfl,m,n,c,p⟩:=r;refine k _ (upd g a (.lst xs)) i ⟨x.g.trans (d3 c),x.h,λb o q=>?_,λb y l=>?_,λb xs q=>(x.c2 b xs q).imp id λz=>d3 c _ _ z⟩ ⟨a,xs,rfl,.inl (.inl cj),p.mono (d3 c)⟩
  .by_cases j:b=a
   .subst j;rw[cj]at q;rw[m];exact q
   .rw[bj j]at q;exact x.sub b o q
  .rw[bj (λz=>l (by rw[z];exact n))];exact x.new b y l
 |aN _=>exact r.elim
 |aM _=>exact r.elim
 |_=>exact k v g i x r
theorem ai.view(h:ai X e (aE xp X g m f)):ai X e (aE xp X g .view f):=by
 rintro i s l H Q I ⟨G,j,c,hw⟩;exact h i s l H Q I ⟨G,j,c,aW hw (λd k v a b x r=>k v a b x (r.view x.sub)) λ_ q=>q⟩
section
def zB(j:X.N[i]?=Z x)(k:dB X.env.scope x)(g:(x==("__debug__":Tj))=S6)(h:(x==("__classdict__":Tj))=S6):ai X (.Name x p) (aE xp X n .view λc=>ζ.ev pg Φ c (.var i)):=by
 rintro l s m H Q I ⟨G,c,f,hw⟩;dsimp only at hw;cases e:c[i]? with
 |none=>rw[ζ.ov,e]at hw;exact hw.elim
 |some o =>
  cases o with
  |none=>rw[ζ.ov,e]at hw;exact hw.elim
  |some d =>
   rw[ζ.we i e]at hw;obtain⟨v,a,b⟩:=f.view e;exact d1 j k g h l s m H Q I ⟨v,a,hw v G H (Ext.refl f.sub) b⟩
def KG(k:i∉m)(j:X.N[i]?=Z x)(l:dB X.env.scope x)(g:(x==("__debug__":Tj))=S6)(h:(x==("__classdict__":Tj))=S6):ai X (.Name x p) (aE xp X m .val λc=>ζ.ev pg Φ c (.var i)):=by
 rintro n s q H Q I ⟨G,c,f,hw⟩;dsimp only at hw;cases e:c[i]? with
 |none=>rw[ζ.ov,e]at hw;exact hw.elim
 |some o =>
  cases o with
  |none=>rw[ζ.ov,e]at hw;exact hw.elim
  |some d =>
   rw[ζ.we i e]at hw;obtain⟨v,a,b⟩:=f.val i d e k;exact d1 j l g h n s q H Q I ⟨v,a,hw v G H (Ext.refl f.sub) b⟩
def zw{d:D}(h:ζ.litOk d c=J):ai X (.Constant c j p) (aE xp X k m λf=>ζ.ev pg Φ f (.lit d)):=by
 rintro a s e H Q I ⟨G,f,g,hw⟩;dsimp only at hw;rw[ζ.wb]at hw;have fin:∀v,bq X.K H G H m d v->Q v H:=λv r=>hw v G H (Ext.refl g.sub) r
 cases d with
 |bG=>cases c<;>simp[ζ.litOk]at h;exact IA a s e H Q I (fin _ (by cases m<;>rfl))
 |ah b =>
  cases c<;>simp[ζ.litOk]at h;subst h;exact yu a s e H Q I (fin _ (by cases m<;>rfl))
 |int i =>
  cases c<;>simp[ζ.litOk]at h;subst h;exact sZ a s e H Q I (fin _ (by cases m<;>rfl))
 |str x =>
  cases c<;>simp[ζ.litOk]at h;subst h;exact s8 a s e H Q I (fin _ (by cases m<;>rfl))
 |_=>cases c<;>simp[ζ.litOk]at h
noncomputable def gW(K:W.Frag)(g:D->D->a9 D):gi:=λx y H Q=>∃G c e,aH G H/\View K G H c x/\View K G H e y/\a3 (g c e) (λd=>∀v b a,Ext G H b a->bq K H b a .fresh d v->Q v a) (λ_=>False)
def bq.old{K:W.Frag}(s:aH H f):∀{m:dc}{d:D}{v:V},bq K f b c m d v->bq K H b c m d v
 |.view,_,_,h=>h
 |.val,_,_,h=>h
 |.fresh,.lst ds,_,⟨a,xs,e,g,i,j,r⟩=>⟨a,xs,e,g,s.free i,j,r⟩
 |.fresh,.bG,_,h=>h
 |.fresh,.ah _,_,h=>h
 |.fresh,.int _,_,h=>h
 |.fresh,.str _,_,h=>h
 |.fresh,.tup _,_,h=>h
 |.fresh,.aN _,_,h=>h
 |.fresh,.aM _,_,h=>h
 |.fresh,.dQ _,_,h=>h
def JT(A:∀x y c,g x y≠.exc c)(B:b0 X (TV op) (gW X.K g))(w:ai X a (aE xp X m .view t))(z:ai X b (aE xp X m .view u)):
  ai X (.BinOp a op b pos) (aE xp X m .fresh λe=>t e>>=λx=>u e>>=λy=>g x y):=by
 rintro C s R H Q I ⟨G,e,l,hw⟩;refine s7 B w z C s R H Q I ?_;refine⟨G,e,l,aW (aL.mp hw) (λi k v n S f E=>?_) λ_ q=>q⟩;refine⟨n,e,l.ext f,aW (aL.mp k) (λj k2 U o T h L=>?_) λ_ q=>q.mono f.h⟩;refine⟨o,i,j,h.sub,View.ext h E,L,?_⟩;cases q:g i j with
 |ok d =>
  rw[q]at k2;exact λN p r O M=>k2 N p r ((f.trans h).trans O) (M.old (f.h.trans h.h))
 |exc c=>exact absurd q (A _ _ _)
 |bad=>rw[q]at k2;exact k2
def hl{K:W.Frag}{Q:ck}(c:aH G H)(k:∀v b a,Ext G H b a->bq K H b a .fresh d v->Q v a)(r:bq K H G H .fresh d v):Q v H:=k v G H (Ext.refl c) r
def C3:b0 X (TV .Sub) (gW X.K (ζ.bT .sub)):=by
 rintro d s i H x y v u Q I e f ⟨G,a,b,c,g,h,hw⟩;cases a<;>cases b<;>first|exact hw.elim|skip
 exact Ic d s i H x y v u Q I e f ⟨_,_,g,h,hl c hw rfl⟩
def CY:b0 X (TV .Mod) (gW X.K (ζ.bT .mod)):=by
 rintro d s l H x y v u Q I e f ⟨G,a,b,c,g,k,hw⟩;cases a<;>cases b<;>first|exact hw.elim|skip
 rename_i i j;rw[ζ.mod_int]at hw
 by_cases h:0<j
 .rw[if_pos h]at hw;exact H7 d s l H x y v u Q I e f ⟨_,_,g,k,h,hl c hw rfl⟩
 .rw[if_neg h]at hw;exact hw.elim
def CU:b0 X (TV .FloorDiv) (gW X.K (ζ.bT .fdiv)):=by
 rintro d s l H x y v u Q I e f ⟨G,a,b,c,g,k,hw⟩;cases a<;>cases b<;>first|exact hw.elim|skip
 rename_i i j;rw[ζ.wo]at hw
 by_cases h:0<j/\j<1073741824
 .rw[if_pos h]at hw;exact H3 d s l H x y v u Q I e f ⟨_,_,g,k,h,hl c hw rfl⟩
 .rw[if_neg h]at hw;exact hw.elim
end
mutual
noncomputable def toPy:D->PyData
 |.bG=>.none
 |.ah b=>.bool b
 |.int i=>.int i
 |.str x=>.str x
 |.tup xs=>.tuple (eD xs)
 |.lst xs=>.list (eD xs)
 |.aN _=>.dict []
 |.aM _=>.dict []
 |.dQ _=>.dict []
noncomputable def eD:List D->List PyData
 |[]=>[]
 |d::ds=>toPy d::eD ds
end
mutual
theorem mz:∀a b:D,XF (toPy a) (toPy b)=ζ.cU a b
 |.bG,b=>by cases b<;>rfl
 |.ah _,b=>by cases b<;>rfl
 |.int _,b=>by cases b<;>rfl
 |.str _,b=>by cases b<;>rfl
 |.tup xs,b=>by
  cases b with
  |tup ys=>exact rY xs ys
  |_=>rfl
 |.lst xs,b=>by
  cases b with
  |lst ys=>exact rY xs ys
  |_=>rfl
 |.aN _,b=>by cases b<;>rfl
 |.aM _,b=>by cases b<;>rfl
 |.dQ _,b=>by cases b<;>rfl
theorem rY:∀a b:List D,Vv (eD a) (eD b)=ζ.hT a b
 |[],[]=>rfl
 |[],_::_=>rfl
 |_::_,[]=>rfl
 |x::xs,y::ys=>by simp only[eD,Vv,ζ.hT,mz x y,rY xs ys]
end
mutual
theorem lB:∀(n:Nat)(d:D),ζ.bB n d=J->(toPy d).canLay0=J/\(toPy d).depth<=n
 |n,.bG,_=>⟨rfl,OQ _⟩
 |n,.ah _,_=>⟨rfl,OQ _⟩
 |n,.int _,_=>⟨rfl,OQ _⟩
 |0,.str x,h=>⟨h,OQ _⟩
 |n+1,.str x,h=>⟨h,OQ _⟩
 |0,.tup _,h=>by cases h
 |n+1,.tup xs,h=>by
  obtain⟨a,b⟩:=tw n xs h;exact⟨a,by show Us (eD xs)+1<=n+1;lia⟩
 |0,.lst _,h=>by cases h
 |n+1,.lst xs,h=>by
  obtain⟨a,b⟩:=tw n xs h;exact⟨a,by show Us (eD xs)+1<=n+1;lia⟩
 |0,.aN _,h=>by cases h
 |n+1,.aN _,h=>by cases h
 |0,.aM _,h=>by cases h
 |n+1,.aM _,h=>by cases h
 |0,.dQ _,h=>by cases h
 |n+1,.dQ _,h=>by cases h
theorem tw:∀(n:Nat)(ds:List D),ds.all (ζ.bB n)=J->Uv (eD ds)=J/\Us (eD ds)<=n
 |n,[],_=>⟨rfl,OQ _⟩
 |n,d::ds,h=>by
  simp only[Un,Oi]at h;obtain⟨a,b⟩:=lB n d h.1;obtain⟨c,e⟩:=tw n ds h.2;refine⟨by simp only[eD,Uv,a,c,SS],?_⟩;show max (XU (toPy d)) (Us (eD ds))<=n;lia
end
def pL{d:D}(h:ζ.bB 60 d=J):SeqAt.shaped (toPy d)=true:=by
 obtain⟨a,b⟩:=lB 60 d h;unfold SeqAt.shaped;rw[a,Vr];exact decide_eq_true ⋯
section
variable{xp:bS}{X:au}{ae:List Nat}{pg:ζ.cT}{Φ:ζ.dn}{pins:List (Td×Uq)}{σ:bu}{G H:ag}{s:S9}
mutual
theorem y2 (I:Inv X pins σ H s) (c:aH G H):∀(n:Nat){d:D}{v:V}{u:S8},ζ.bB n d=J->Rep X.K G d v->RelV v u->∃as,XG s.heap u (toPy d) as
 |_,.bG,_,_,_,h,r=>by cases h;cases r;exact⟨_,.none⟩
 |_,.ah b,_,_,_,h,r=>by cases h;cases r;exact⟨_,.bool b⟩
 |_,.int i,_,_,_,h,r=>by cases h;obtain⟨t,rfl⟩:=r;exact⟨_,.int i t⟩
 |_,.str x,_,_,_,h,r=>by cases h;obtain⟨t,rfl⟩:=r;exact⟨_,.str x t⟩
 |0,.tup ds,_,_,z,_,_=>by cases z
 |n+1,.tup ds,_,_,z,g,r=>by
  obtain⟨a,xs,e,h,q⟩:=g;subst e;cases r;obtain⟨its,m,⟨o,l,j,A,k⟩,_⟩:=I.tuple (e9 c h);obtain⟨as,f⟩:=i9 I c n z q m;exact⟨as,.tuple l j k (by simpa using f)⟩
 |0,.lst ds,_,_,z,_,_=>by cases z
 |n+1,.lst ds,_,_,z,g,r=>by
  obtain⟨a,xs,e,h,q⟩:=g;subst e;cases r;obtain⟨its,m,⟨o,A,l,j,_,k⟩,_⟩:=I.list (gb c h);obtain⟨as,f⟩:=i9 I c n z q m;exact⟨a::as,.list l j k (by simpa using f)⟩
 |0,.aN _,_,_,z,_,_=>by cases z
 |n+1,.aN _,_,_,z,_,_=>by cases z
 |0,.aM _,_,_,z,_,_=>by cases z
 |n+1,.aM _,_,_,z,_,_=>by cases z
 |_,.dQ _,_,_,_,h,_=>h.elim
theorem i9 (I:Inv X pins σ H s) (c:aH G H):∀(n:Nat){ds:List D}{xs:List V}{p:List S8},ds.all (ζ.bB n)=J->aO X.K G ds xs->Vals xs p->∃as,VD s.heap p (eD ds) as
 |_,[],_,_,_,h,r=>by cases h;cases r;exact⟨_,.nil⟩
 |n,d::ds,_,_,z,g,r=>by
  obtain⟨v,t,e,w,y⟩:=g;subst e;simp only[Un,Oi]at z;cases r with
  |cons B C =>
   obtain⟨as,f⟩:=y2 I c n z.1 w B;obtain⟨bs,E⟩:=i9 I c n z.2 y C;exact⟨as++bs,.cons f E⟩
end
def i8(I:Inv X pins σ H s)(c:aH G H)(h:View X.K G H d v)(r:RelV v u)(b:ζ.bB 60 d=J):∃as,XG s.heap u (toPy d) as:=by
 cases d with
 |aN i=>cases b
 |aM i=>cases b
 |lst ds =>
  obtain⟨a,xs,rfl,h,q⟩:=h;cases r;obtain⟨its,k,⟨o,n,g,e,_,f⟩,_⟩:=I.list h;obtain⟨as,j⟩:=i9 I c 59 b q k;exact⟨a::as,.list g e f (by simpa using j)⟩
 |_=>exact y2 I c 60 b h r
noncomputable def gz(K:W.Frag)(g:D->D->a9 Bool):gi:=λx y H Q=>∃G a c,aH G H/\View K G H a x/\View K G H c y/\a3 (g a c) (λb=>Q (.ah b) H) (λ_=>False)
def ue{r:a9 Bool}:a3 (ζ.e8 r) Q E<->a3 r (λb=>Q (!b)) E:=by cases r<;>exact SP
def AS{x y:D}(h:a3 (ζ.dJ x y) Q E):ζ.bB 60 x=J/\ζ.bB 60 y=J/\Q (ζ.cU x y):=by
 unfold ζ.dJ at h;cases q:(ζ.bB 60 x&&ζ.bB 60 y) with
 |false=>rw[q]at h;exact h.elim
 |true =>
  rw[q]at h;simp only[Oi]at q;exact⟨q.1,q.2,h⟩
def B4(d:X.A.units+64<TS):b0 X (TP .Eq) (gz X.K (ζ.dh .eq)):=by
 rintro pins s σ H x y v u Q I g h ⟨G,k,l,c,i,j,hw⟩;rw[ζ.vk]at hw;obtain⟨a,b,q⟩:=AS hw;obtain⟨as,e⟩:=i8 I c i g a;obtain⟨bs,f⟩:=i8 I c j h b;refine eq_dataH e f (pL a) (pL b) d ?_;rw[mz];exact⟨.ah _,H,I,rfl,q⟩
def Ca(d:X.A.units+64<TS):b0 X (TP .NotEq) (gz X.K (ζ.dh .ne)):=by
 rintro pins s σ H x y v u Q I g h ⟨G,k,l,c,i,j,hw⟩;rw[ζ.vn]at hw;obtain⟨a,b,q⟩:=AS (ue.mp hw);obtain⟨as,e⟩:=i8 I c i g a;obtain⟨bs,f⟩:=i8 I c j h b;refine ne_dataH e f (pL a) (pL b) d ?_;rw[mz];exact⟨.ah _,H,I,rfl,q⟩
end
section
open Classical in
def fW (h:TH) (ey:D) (y:S8):Bool:=decide (∃(d:D)(as:List Td),XG h y (toPy d) as/\ζ.bB 60 d=J/\ζ.cU d ey=J)
open Classical in
theorem oq (r:XG h y (toPy d) as) (hd:ζ.bB 60 d=J):fW h ey y=ζ.cU d ey:=by
 unfold fW;cases q:ζ.cU d ey with
 |true=>exact decide_eq_true ⟨d,as,r,hd,q⟩
 |false =>
  refine decide_eq_false ?_;rintro⟨d',NU,Jh,N2,yS⟩;have e:=SeqAt.Reads.unique _ _ _ _ _ (lB 60 d hd).1 r Jh;rw[<- mz]at q yS;rw[e,yS]at q;cases q
theorem qM:∀{ds:List D}{b:List S8}{as:List Td},VD h b (eD ds) as->ds.all (ζ.bB 60)=J->b.any (fW h c)=ds.any λd=>ζ.cU d c
 |[],_,_,r,_=>by cases r;rfl
 |d::ds,_,_,r,a=>by
  cases r with
  |cons e f =>
   simp only[Un,Oi]at a;simp only[TZ,oq e a.1,qM f a.2]
theorem my{X:au}(j:X.A.units+64<TS)(g:XG s.heap v (toPy c) bs)(e:ζ.bB 60 c=J):∀{ds:List D}{h:List S8}{as:List Td},VD s.heap h (eD ds) as->ds.all (ζ.bB 60)=J->∀y,y∈h->WD X.A.in1 s y v (fW s.heap c y)
 |[],_,_,r,_,y,b=>by cases r;simp at b
 |d::ds,_,_,r,a,y,b=>by
  cases r with
  |cons f k =>
   simp only[Un,Oi]at a;rcases Oq.mp b with rfl|b
   .rw[oq f a.1,<- mz];refine Xa _ _ _ _ _ _ _ _ f g (lB 60 _ a.1).1 (lB 60 _ e).1 ?_;have i:=(lB 60 _ a.1).2;show X.A.units+1+_<TS;have:min (toPy d).depth (toPy c).depth<=60:=O3 (Nat.min_le_left _ _) i;lia
   .exact my j g e k a.2 y b
def AU{x:D}{ys:List D}(h:a3 (ζ.fq x ys) Q E):ζ.bB 60 x=J/\ys.all (ζ.bB 60)=J/\Q (ζ.memD x ys):=by
 unfold ζ.fq at h;cases q:(ζ.bB 60 x&&ys.all (ζ.bB 60)) with
 |false=>rw[q]at h;exact h.elim
 |true =>
  rw[q]at h;simp only[Oi]at q;exact⟨q.1,q.2,h⟩
def w2{j:bu}{ys:List D}(I:Inv X k j H s)(e:aH G H)(h:View X.K G H (.tup ys) y\/View X.K G H (.lst ys) y)(r:RelV y u)(i:ys.all (ζ.bB 60)=J):
  ∃(a:Td)(its:List S8)(as:List Td),u=.ref a/\VD s.heap its (eD ys) as/\(s.heap.IsTuple a its.toArray\/s.heap.IsList a its.toArray):=by
 rcases h with⟨a,xs,rfl,h,q⟩|⟨a,xs,rfl,h,q⟩
 .cases r;obtain⟨its,g,⟨o,d,b,n,c⟩,_⟩:=I.tuple (e9 e h);obtain⟨as,f⟩:=i9 I e 60 i q g;exact⟨a,its,as,rfl,f,.inl ⟨o,d,b,n,c⟩⟩
 .cases r;obtain⟨its,g,⟨o,n,d,b,_,c⟩,_⟩:=I.list h;obtain⟨as,f⟩:=i9 I e 60 i q g;exact⟨a,its,as,rfl,f,.inr ⟨o,d,b,n,c⟩⟩
def B6(n:X.A.units+64<TS):b0 X (TP .In) (gz X.K (ζ.dh .mem)):=by
 rintro p s B H x y v u Q I t w ⟨G,c,m,i,A,l,hw⟩;have j:∀ys,(View X.K G H (.tup ys) y\/View X.K G H (.lst ys) y)->a3 (ζ.fq c ys) (λb=>Q (.ah b) H) (λ_=>False)->Ta (Tc X.prog X.w) X.A (TP .In v u) (c3 X p B Q) X.bk s:=by
  intro ys o hw;obtain⟨g,f,q⟩:=AU hw;obtain⟨bs,r⟩:=i8 I i A t g;obtain⟨a,its,as,rfl,k,d⟩:=w2 I i o w f;have e:its.toArray.any (fW s.heap c)=ζ.memD c ys:=(by rw[Xd];exact qM k f);have h:∀z,z∈its.toArray->WD X.A.in1 s z v (fW s.heap c z):=λz hz=>my n r g k f z (by simpa using hz)
  rcases d with d|d
  .exact SeqAt.in_tupleAt _ d h (by rw[e];exact⟨.ah _,H,I,rfl,q⟩)
  .exact SeqAt.in_listAt _ d h (by rw[e];exact⟨.ah _,H,I,rfl,q⟩)
 cases m with
 |tup ys=>exact j ys (.inl l) hw
 |lst ys=>exact j ys (.inr l) hw
 |_=>cases c<;>exact hw.elim
def Cb(n:X.A.units+64<TS):b0 X (TP .NotIn) (gz X.K (ζ.dh .h8)):=by
 rintro p s B H x y v u Q I t w ⟨G,c,m,i,A,l,hw⟩;have j:∀ys,(View X.K G H (.tup ys) y\/View X.K G H (.lst ys) y)->a3 (ζ.e8 (ζ.fq c ys)) (λb=>Q (.ah b) H) (λ_=>False)->Ta (Tc X.prog X.w) X.A (TP .NotIn v u) (c3 X p B Q) X.bk s:=by
  intro ys o hw;obtain⟨g,f,q⟩:=AU (ue.mp hw);obtain⟨bs,r⟩:=i8 I i A t g;obtain⟨a,its,as,rfl,k,d⟩:=w2 I i o w f;have e:its.toArray.any (fW s.heap c)=ζ.memD c ys:=(by rw[Xd];exact qM k f);have h:∀z,z∈its.toArray->WD X.A.in1 s z v (fW s.heap c z):=λz hz=>my n r g k f z (by simpa using hz)
  rcases d with d|d
  .exact SeqAt.notIn_tupleAt _ d h (by rw[e];exact⟨.ah _,H,I,rfl,q⟩)
  .exact SeqAt.notIn_listAt _ d h (by rw[e];exact⟨.ah _,H,I,rfl,q⟩)
 cases m with
 |tup ys=>exact j ys (.inl l) hw
 |lst ys=>exact j ys (.inr l) hw
 |_=>cases c<;>exact hw.elim
def Fw(a:∀n,v≠.builtin n)(h:Q (.bool (v==.bool b)) s):Ta M A (TP .Is v (.bool b)) Q E s:=by
 cases v with
 |builtin n=>exact absurd rfl (a n)
 |_=>exact Oj h
def FE(a:∀n,v≠.builtin n)(h:Q (.bool (!(v==.bool b))) s):Ta M A (TP .IsNot v (.bool b)) Q E s:=by
 cases v with
 |builtin n=>exact absurd rfl (a n)
 |_=>exact Oj h
def y7(r:RelV x v):∀n,v≠.builtin n:=by
 intro n e;subst e;cases x<;>first|(cases r;done)|(obtain⟨t,h⟩:=r;cases h)
def w9{K:W.Frag}(c:View K G H f x)(j:View K G H g y)(d:RelV x v)(i:RelV y u)(h:a3 (ζ.mL f g) Q E):
  (u=.none/\Q (v==.none))\/∃b,u=.bool b/\Q (v==.bool b):=by
 cases g with
 |bG =>
  cases j;cases i;refine .inl ⟨rfl,?_⟩;cases f with
  |bG=>cases c;cases d;exact h
  |ah _=>cases c;cases d;exact h
  |int _=>cases c;obtain⟨t,rfl⟩:=d;exact h
  |str _=>cases c;obtain⟨t,rfl⟩:=d;exact h
  |tup _=>obtain⟨a,xs,rfl,_⟩:=c;cases d;exact h
  |lst _=>obtain⟨a,xs,rfl,_⟩:=c;cases d;exact h
  |aN _=>obtain⟨a,rfl,_⟩:=c;cases d;exact h
  |aM _=>obtain⟨a,_,rfl,_⟩:=c;cases d;exact h
  |dQ _=>exact c.elim
 |ah b =>
  cases j;cases i;refine .inr ⟨b,rfl,?_⟩;cases f with
  |bG=>cases c;cases d;exact h
  |ah a =>
   cases c;cases d;have e:(UW a==UW b)=(a==b):=(by cases a<;>cases b<;>rfl);rw[e];exact h
  |int _=>cases c;obtain⟨t,rfl⟩:=d;exact h
  |str _=>cases c;obtain⟨t,rfl⟩:=d;exact h
  |tup _=>obtain⟨a,xs,rfl,_⟩:=c;cases d;exact h
  |lst _=>obtain⟨a,xs,rfl,_⟩:=c;cases d;exact h
  |aN _=>obtain⟨a,rfl,_⟩:=c;cases d;exact h
  |aM _=>obtain⟨a,_,rfl,_⟩:=c;cases d;exact h
  |dQ _=>exact c.elim
 |_=>cases f<;>exact h.elim
def B7:b0 X (TP .Is) (gz X.K (ζ.dh .is)):=by
 rintro i s j H x y v u Q I a e ⟨G,c,d,h,f,g,hw⟩;have hw:a3 (ζ.mL c d) _ _:=hw;rcases w9 f g a e hw with⟨rfl,q⟩|⟨b,rfl,q⟩
 .exact is_none_gen ⟨.ah _,H,I,rfl,q⟩
 .exact Fw (y7 a) ⟨.ah _,H,I,rfl,q⟩
def B8:b0 X (TP .IsNot) (gz X.K (ζ.dh .kV)):=by
 rintro i s j H x y v u Q I a e ⟨G,c,d,h,f,g,hw⟩;have hw:a3 (ζ.e8 (ζ.mL c d)) _ _:=hw;rcases w9 f g a e (ue.mp hw) with⟨rfl,q⟩|⟨b,rfl,q⟩
 .exact isnot_none_gen ⟨.ah _,H,I,rfl,q⟩
 .exact FE (y7 a) ⟨.ah _,H,I,rfl,q⟩
theorem vo:∀{ds:List D}{b:List S8}{as:List Td},VD h b (eD ds) as->ds.all (ζ.bB 60)=J->b.countP (fW h c)=ds.countP λd=>ζ.cU d c
 |[],_,_,r,_=>by cases r;rfl
 |d::ds,_,_,r,a=>by
  cases r with
  |cons e f =>
   simp only[Un,Oi]at a;simp only[Uc,oq e a.1,vo f a.2]
end
section
variable{xp:bS}{X:au}{ae:List Nat}{m:dc}{bo b6 fc:aF->a9 D}{a b c:Tq}{pos:UN}
def sF{d:D}(h:ζ.dK 0 d=J):∃i,d=.int i:=by
 cases d with
 |int i=>exact⟨i,rfl⟩
 |_=>cases h
theorem o3:∀{ds:List D},ds.all (ζ.dK 0)=J->∃ns:List Int,ds=ns.map ζ.D.int
 |[],_=>⟨[],rfl⟩
 |d::ds,h=>by
  simp only[Un,Oi]at h;obtain⟨i,rfl⟩:=sF h.1;obtain⟨ns,rfl⟩:=o3 h.2;exact⟨i::ns,rfl⟩
def xT{d:D}(h:ζ.dK 1 d=J):∃ns:List Int,d=.tup (ns.map ζ.D.int):=by
 cases d with
 |tup ds=>obtain⟨ns,rfl⟩:=o3 h;exact⟨ns,rfl⟩
 |_=>cases h
theorem gA{K:W.Frag}:∀{ns:List Int}{xs:List V},aO K G (ns.map ζ.D.int) xs->xs=ns.map V.int
 |[],_,h=>h
 |n::ns,_,⟨v,r,e,d,f⟩=>by
  subst e;have d:v=.int n:=d;rw[d,gA f];rfl
theorem mV:∀a b:List Int,ζ.hr (a.map ζ.D.int) (b.map ζ.D.int)=Z (bL.lexLt a b)
 |[],[]=>rfl
 |[],_::_=>rfl
 |_::_,[]=>rfl
 |x::a,y::b=>by
  rw[show ζ.hr ((x::a).map ζ.D.int) ((y::b).map ζ.D.int)=if (x==y)=J then ζ.hr (a.map .int) (b.map .int) else Z (decide (x<y)) from rfl,mV a b];simp only[bL.lexLt]
  by_cases h:x=y<;>simp[h]
def B9(B:X.A.units+64<TS):b0 X (TP .Lt) (gz X.K (ζ.dh .lt)):=by
 rintro k s r H x y v u Q I l n ⟨G,f,g,h,o,p,hw⟩;rw[ζ.vm]at hw;unfold ζ.o2 at hw;cases q:((ζ.dK 0 f&&ζ.dK 0 g)||(ζ.dK 1 f&&ζ.dK 1 g)) with
 |false=>rw[q]at hw;exact hw.elim
 |true =>
  rw[q]at hw;simp only[Pb]at hw;simp only[PF,Oi]at q;rcases q with⟨d,e⟩|⟨d,e⟩
  .obtain⟨i,rfl⟩:=sF d;obtain⟨j,rfl⟩:=sF e;exact H5 k s r H x y v u Q I l n ⟨i,j,o,p,hw⟩
  .obtain⟨ns,rfl⟩:=xT d;obtain⟨w,rfl⟩:=xT e;obtain⟨a,xs,e1,k1,z⟩:=o;obtain⟨b,ys,t,k2,A⟩:=p;rw[gA z]at k1;rw[gA A]at k2;refine H6 ⋯ k s r H x y v u Q I l n ⟨a,b,ns,w,e1,t,e9 h k1,e9 h k2,?_⟩;simp only[ζ.hq,mV,ζ.sS]at hw;exact hw
def B5:b0 X (TP .Gt) (gz X.K (ζ.dh .gt)):=by
 rintro f s k H x y v u Q I g h ⟨G,d,e,l,i,j,hw⟩;cases d<;>cases e<;>first|exact hw.elim|skip
 exact H4 f s k H x y v u Q I g h ⟨_,_,i,j,hw⟩
theorem bq.ah{K:W.Frag}{b:Bool}:bq K H d e m (.ah b) (.ah b):=by cases m<;>rfl
theorem bq.int{K:W.Frag}:bq K H d e m (.int i) (.int i):=by cases m<;>rfl
def bq.pb{K:W.Frag}{b:Bool}(h:bq K H d e m (.ah b) v):v=.ah b:=by cases m<;>exact h
def bq.pd{K:W.Frag}(h:bq K H d e m (.int i) v):v=.int i:=by cases m<;>exact h
noncomputable def rP(o:ζ.lT)(bo b6:aF->a9 D):aF->a9 D:=λd=>bo d>>=λx=>b6 d>>=λy=>ζ.dh o x y>>=λk=>.ok (.ah k)
def jS{α:Type}:a9 α->Bool
 |.exc _=>S6
 |_=>J
def yb{α:Type}{r:a9 α}(h:jS r=J)(c):r≠.exc c:=λe=>by rw[e]at h;cases h
def iY{α:Type}{p:Prop}[Decidable p]{a b:a9 α}(d:jS a=J)(e:jS b=J):jS (if p then a else b)=true:=by by_cases h:p<;>simp[h,d,e]
def sN(h:jS r=J):jS (ζ.e8 r)=true:=by cases r<;>first|rfl|exact h
def HM(o):jS (ζ.sS o)=true:=by cases o<;>rfl
def Cw(o)(x y:D)(c):ζ.dh o x y≠.exc c:=by
 refine yb ?_ c;cases o with
 |eq=>exact iY rfl rfl
 |ne=>exact sN (iY rfl rfl)
 |lt=>exact iY (HM _) rfl
 |mem=>cases y<;>first|rfl|exact iY rfl rfl
 |h8=>cases y<;>first|rfl|exact sN (iY rfl rfl)
 |is=>cases y<;>rfl
 |kV=>exact sN (by cases y<;>rfl)
 |gt=>cases x<;>cases y<;>rfl
def lQ{α:Type}{r:a9 α}{Q:α->Prop}(h:a3 r Q E)(d:∀c,r≠.exc c):a3 r Q uk:=by
 cases r with
 |ok a=>exact h
 |exc c=>exact absurd rfl (d c)
 |bad=>exact h
def Aa{n:bu}(h:aE xp X ae m (rP o bo b6) n H Q):nz (gz X.K (ζ.dh o)) (aE xp X ae .view bo) (aE xp X ae .view b6) n H Q:=by
 obtain⟨G,l,j,hw⟩:=h;refine⟨G,l,j,aW (aL.mp hw) (λg k v p u d s=>?_) λ_ q=>q⟩;refine⟨p,l,j.ext d,aW (aL.mp k) (λi k2 w f r e t=>?_) λ_ q=>q.mono d.h⟩;refine⟨f,g,i,e.sub,View.ext e s,t,?_⟩;exact aW (lQ (aL.mp k2) (λc=>Cw o g i c)) (λk q=>q (.ah k) f r (d.trans e) bq.ah) λ_ q=>q
def JW(g:b0 X (TP op) (gz X.K (ζ.dh o)))(d:ai X a (aE xp X ae .view bo))(e:ai X b (aE xp X ae .view b6))(f:UX op b=S6):
  ai X (.Compare a [op] [b] pos) (aE xp X ae m (rP o bo b6)):=λi s j H Q I h=>Iq g d e f i s j H Q I (Aa h)
noncomputable def eT(xp:bS)(X:au)(ae:List Nat)(f:aF->a9 D):TT:=λh H Q =>
 ∃G e,cF X.K ae G H e h/\a3 (f e>>=ζ.ej) (λb=>∀g d,Ext G H g d->Q b d) (λc=>dr xp X c H)
def z7{g:bu}(h:eT xp X ae f g H Q):aE xp X ae .view f g H (λx e=>∃k,x=.ah k/\Q k e):=by
 obtain⟨G,l,j,hw⟩:=h;refine⟨G,l,j,aW (aL.mp hw) (λd k v i e x r=>?_) λ_ q=>q⟩;cases d with
 |ah b=>exact⟨b,bq.pb r,k i e x⟩
 |_=>exact k.elim
def JX(g:b0 X (TP op) (gz X.K (ζ.dh o)))(d:ai X a (aE xp X ae .view bo))(e:ai X b (aE xp X ae .view b6))(f:UX op b=S6):
  dY X (.Compare a [op] [b] pos) (eT xp X ae (rP o bo b6)):=λi s j H Q I h=>Ja g d e f i s j H Q I (Aa (z7 h))
def hx(h:ai X a (aE xp X ae .view f))(e:∀d,WB a X.env d=(do let v <- d;standAt a.pos;VI [v] (truthy v))):dY X a (eT xp X ae f):=λg s i H Q I hw=>Jc h e g s i H Q I (z7 hw)
noncomputable def uG(bo b6:aF->a9 D):aF->a9 D:=λd=>bo d>>=λx=>ζ.ej x>>=λk=>if k then b6 d else .ok (.ah S6)
noncomputable def yl(bo b6:aF->a9 D):aF->a9 D:=λd=>bo d>>=λx=>ζ.ej x>>=λk=>if k then .ok (.ah J) else b6 d
noncomputable def yf(bo:aF->a9 D):aF->a9 D:=λd=>bo d>>=λx=>ζ.ej x>>=λk=>.ok (.ah (!k))
def bq.back{K:W.Frag}(s:aH H g)(h:bq K g e f m d v):bq K H e f m d v:=bq.old s h
def zp{rest:List Tq}(o:ai X a (aE xp X ae .view bo))(p:ai X (.BoolOp .And (b::rest) pos) (aE xp X ae m b6)):ai X (.BoolOp .And (a::b::rest) pos) (aE xp X ae m (uG bo b6)):=by
 rintro r s y H Q I ⟨G,h,g,hw⟩;refine yt o p r s y H Q I ?_;refine⟨G,h,g,aW (aL.mp hw) (λn k v f j e t=>?_) λ_ q=>q⟩;cases n with
 |ah b =>
  refine⟨b,bq.pb t,?_⟩;cases b with
  |true =>
   simp only[Pb];exact⟨f,h,g.ext e,aW k (λd q w i l x u=>q w i l (e.trans x) (bq.back e.h u)) λ_ q=>q.mono e.h⟩
  |false =>
   simp only[Om,OH];exact k (.ah S6) f j e bq.ah
 |_=>exact k.elim
def zy{rest:List Tq}(o:ai X a (aE xp X ae .view bo))(p:ai X (.BoolOp .Or (b::rest) pos) (aE xp X ae m b6)):ai X (.BoolOp .Or (a::b::rest) pos) (aE xp X ae m (yl bo b6)):=by
 rintro r s y H Q I ⟨G,h,g,hw⟩;refine IC o p r s y H Q I ?_;refine⟨G,h,g,aW (aL.mp hw) (λn k v f j e t=>?_) λ_ q=>q⟩;cases n with
 |ah b =>
  refine⟨b,bq.pb t,?_⟩;cases b with
  |false =>
   simp only[Om,OH];exact⟨f,h,g.ext e,aW k (λd q w i l x u=>q w i l (e.trans x) (bq.back e.h u)) λ_ q=>q.mono e.h⟩
  |true =>
   simp only[Pb];exact k (.ah J) f j e bq.ah
 |_=>exact k.elim
def Km(g:ai X a (aE xp X ae .view bo)):ai X (.UnaryOp .Not a pos) (aE xp X ae m (yf bo)):=by
 rintro i s o H Q I ⟨G,n,h,hw⟩;refine IB g i s o H Q I ?_;refine⟨G,n,h,aW (aL.mp hw) (λf k v d e l j=>?_) λ_ q=>q⟩;cases f with
 |ah b=>exact⟨b,bq.pb j,k (.ah (!b)) d e l bq.ah⟩
 |_=>exact k.elim
def zq{rest:List Tq}(n:dY X a (eT xp X ae bo))(o:fN X (.BoolOp .And (b::rest) pos) (eT xp X ae b6)):fN X (.BoolOp .And (a::b::rest) pos) (eT xp X ae (uG bo b6)):=by
 rintro r p s u H Q I ⟨G,h,g,hw⟩;refine Jd n o r p s u H Q I ?_;refine⟨G,h,g,?_⟩;refine aL.mpr (aW (aL.mp (aL.mp hw)) (λv k=>aW (aL.mp k) (λb k2 f j e=>?_) λ_ q=>q) λ_ q=>q);cases b with
 |true =>
  simp only[Pb]at k2 ⊢;exact⟨f,h,g.ext e,aW (aL.mpr k2) (λd q i l t=>q i l (e.trans t)) λ_ q=>q.mono e.h⟩
 |false =>
  simp only[Om,OH]at k2 ⊢;exact k2 f j e
def zz{rest:List Tq}(n:dY X a (eT xp X ae bo))(o:fN X (.BoolOp .Or (b::rest) pos) (eT xp X ae b6)):fN X (.BoolOp .Or (a::b::rest) pos) (eT xp X ae (yl bo b6)):=by
 rintro r p s u H Q I ⟨G,h,g,hw⟩;refine Jf n o r p s u H Q I ?_;refine⟨G,h,g,?_⟩;refine aL.mpr (aW (aL.mp (aL.mp hw)) (λv k=>aW (aL.mp k) (λb k2 f j e=>?_) λ_ q=>q) λ_ q=>q);cases b with
 |false =>
  simp only[Om,OH]at k2 ⊢;exact⟨f,h,g.ext e,aW (aL.mpr k2) (λd q i l t=>q i l (e.trans t)) λ_ q=>q.mono e.h⟩
 |true =>
  simp only[Pb]at k2 ⊢;exact k2 f j e
def Kn(f:dY X a (eT xp X ae bo)):dY X (.UnaryOp .Not a pos) (eT xp X ae (yf bo)):=by
 rintro h s l H Q I ⟨G,j,g,hw⟩;refine Jb f h s l H Q I ?_;refine⟨G,j,g,?_⟩;exact aL.mpr (aW (aL.mp (aL.mp hw)) (λn k=>aW (aL.mp k) (λb k2 d e i=>k2 d e i) λ_ q=>q) λ_ q=>q)
end
section
variable{xp:bS}{X:au}{ae:List Nat}{m:dc}{bo b6 fc:aF->a9 D}{a b c:Tq}{pos:UN}{pins:List (Td×Uq)}{σ:bu}{G H:ag}{s:S9}
def x9(I:Inv X pins σ H s)(f:aH G H)(r:Vals xs its)(q:aO X.K G ds xs)(hz:xs.length<=Tx)(k:∀v d e,Ext G H d e->Rep X.K d (.tup ds) v->Q v e):c3 X pins σ Q (.ref s.heap.objs.size) { s with heap:=s.heap.push { cls:=.type "tuple",data:=.seq its.toArray } }:=by
 refine⟨.ref s.heap.objs.size,_,I.laid (t':=s.toks) (o:=.tup xs) (λb g q=>Ol _ q) (Ot _) ⟨hz,its,r,XO _ _⟩,rfl,?_⟩;exact k _ (upd G s.heap.objs.size (.tup xs)) _ (Ext.put f I.fresh) ⟨_,xs,rfl,cj,q.mono (d3 (f.free I.fresh))⟩
def x8(I:Inv X pins σ H s)(f:aH G H)(r:Vals xs its)(q:aO X.K G ds xs)(hz:xs.length<=Tx)(k:∀v e d,Ext G H e d->bq X.K H e d .fresh (.lst ds) v->Q v d):c3 X pins σ Q (.ref s.heap.objs.size) { s with heap:=s.heap.push { cls:=.type "list",data:=.seq its.toArray } }:=by
 refine⟨.ref s.heap.objs.size,_,I.xI (t':=s.toks) r hz,rfl,?_⟩;exact k _ G _ (Ext.own f I.fresh λ_ z=>nomatch z) ⟨_,xs,rfl,cj,I.fresh,f.free I.fresh,q⟩
def hD{ds:List D}(h:View X.K G H (.lst ds) v):∃a xs,v=.ref a/\cp X.K H a xs/\aO X.K G ds xs:=h
def jk(d:aH G H){ds:List D}(h:View X.K G H (.tup ds) v):∃a xs,v=.ref a/\dN X.K H a xs/\aO X.K G ds xs:=by
 obtain⟨a,xs,e,k,r⟩:=h;exact⟨a,xs,e,e9 d k,r⟩
def l4:ζ.SZ=sizeLine:=by rw[Tw];rfl
def CS:b0 X (TV .Add) (gW X.K (ζ.bT .add)):=by
 rintro pins s σ H x y v u Q I O R ⟨G,ar,B,e,E,L,hw⟩;cases ar with
 |int i =>
  cases B with
  |int j=>exact yi pins s σ H x y v u Q I O R ⟨_,_,E,L,hl e hw rfl⟩
  |_=>exact hw.elim
 |tup ds =>
  cases B with
  |tup C =>
   rw[ζ.nY]at hw
   by_cases h:ds.length+C.length<=ζ.SZ
   .rw[if_pos h]at hw;obtain⟨l,xs,rfl,k1,g⟩:=jk e E;obtain⟨b,ys,rfl,k2,k⟩:=jk e L;cases O;cases R;obtain⟨its,o,p1,_⟩:=I.tuple k1;obtain⟨A,p,p2,_⟩:=I.tuple k2;have hz:xs.length+ys.length<=sizeLine:=by rw[<- g.length,<- k.length,<- l4];exact h
    by_cases e0:its=[]
    .-- aX left b2 b1 aA
     subst e0;have:ds=[]:=by
      have d:=g.length;have f:=o.length;simp at f;rw[f]at d;simp at d;exact d
     subst this;obtain⟨⟨a2,dd,aj,S⟩,a0,q,n,t⟩:=id p1;obtain⟨⟨rO,M,data2,T⟩,a1,r,N,w⟩:=id p2;simp only at q t r w;subst q t r w;refine Sv ⟨_,a0,rfl⟩ ⟨_,a1,rfl⟩ Sj SR Rb Q8 (Q4 _ _)
      (tuple_addW0 l b _ A.toArray n N dd M S T rfl) ⟨a0,a1,?_⟩
     exact⟨.ref b,H,I,rfl,hw _ G H (Ext.refl e) L⟩
    .refine bL.Cd p1 p2 e0 (λz=>?_) (λz=>?_) (by rw[<- o.length,<- p.length];exact hz)
     .have:C=[]:=by
       have d:=k.length;have f:=p.length;rw[z]at f;simp at f;rw[f]at d;simp at d;exact d
      subst this;rw[Pa]at hw;exact⟨.ref l,H,I,rfl,hw _ G H (Ext.refl e) E⟩
     .exact x9 I e (o.append p) (g.append k) (by rw[Oo];exact hz) hw
   .rw[if_neg h]at hw;exact hw.elim
  |_=>exact hw.elim
 |lst ds =>
  cases B with
  |lst C =>
   rw[ζ.iz]at hw
   by_cases h:ds.length+C.length<=ζ.SZ
   .rw[if_pos h]at hw;obtain⟨l,xs,rfl,k1,g⟩:=hD E;obtain⟨b,ys,rfl,k2,k⟩:=hD L;cases O;cases R;obtain⟨its,o,⟨ax,n,e1,q,aB,t⟩,_⟩:=I.list k1;obtain⟨A,p,⟨ay,N,U,r,aC,w⟩,_⟩:=I.list k2;have hz:xs.length+ys.length<=sizeLine:=(by rw[<- g.length,<- k.length,<- l4];exact h);obtain⟨a2,dd,aj,S⟩:=ax;obtain⟨rO,M,data2,T⟩:=ay;simp only at q t r w;subst q t r w;refine Sv ⟨_,e1,rfl⟩ ⟨_,U,rfl⟩ noFill_list_add seq_list_add F.slot_list_add F.entry_list_add (F.args_list_add_2 _ _)
     (list_addW l b its.toArray A.toArray n N dd M S T (by rw[OE,OE,<- o.length,<- p.length];exact hz)) ⟨e1,U,?_⟩
    have ao:its.toArray++A.toArray=(its++A).toArray:=(by simp);rw[ao];exact x8 I e (o.append p) (g.append k) (by rw[Oo];exact hz) hw
   .rw[if_neg h]at hw;exact hw.elim
  |_=>exact hw.elim
 |_=>cases B<;>exact hw.elim
end
end aI
end
section
namespace aI
open PySem PySem.Spec PyProof.Rows aJ PySem.MeetsSeq
section
variable{xp:bS}{X:au}{ae:List Nat}{m:dc}{bo b6 fc:aF->a9 D}{a b c:Tq}{pos:UN}{pins:List (Td×Uq)}{σ:bu}{G H:ag}{s:S9}
theorem aO.rep{K:W.Frag}(h:aO K G ds xs):∀k:Nat,aO K G (Tr k ds).flatten (Tr k xs).flatten
 |0=>by simp[aO]
 |k+1=>by rw[PR,PR,Qk,Qk];exact h.append (aO.rep h k)
def CZ:b0 X (TV .Mult) (gW X.K (ζ.bT .mul)):=by
 rintro pins s σ H x y v u Q I A B ⟨G,L,f,w,E,e,hw⟩;cases L with
 |int i =>
  cases f with
  |int j =>
   rw[ζ.mul_int]at hw
   by_cases h:(-ζ.da<i/\i<ζ.da)\/(-ζ.da<j/\j<ζ.da)
   .rw[if_pos h]at hw;exact H8 pins s σ H x y v u Q I A B ⟨_,_,E,e,h,hl w hw rfl⟩
   .rw[if_neg h]at hw;exact hw.elim
  |_=>exact hw.elim
 |lst ds =>
  cases f with
  |int j =>
   have hw:a3 (if 0<=j/\j<=1000/\ds.length<=1000 then ζ.R.ok (ζ.D.lst (Tr j.toNat ds).flatten) else .bad) _ _:=hw
   by_cases h:0<=j/\j<=1000/\ds.length<=1000
   .rw[if_pos h]at hw;obtain⟨h0,ar,N⟩:=h;obtain⟨l,xs,rfl,k1,z⟩:=hD E;cases A;have e:y=.int j:=e;subst e;obtain⟨t,rfl⟩:=B;obtain⟨its,g,⟨⟨a2,dd,aj,C⟩,n,d,p,_,q⟩,_⟩:=I.list k1;simp only at p q;subst p q;have S:its.length=ds.length:=(by rw[<- g.length,<- z.length]);have r:its.toArray.size*j.toNat<=sizeLine:=by
     rw[OE,S,Tw];exact O3 (Nat.mul_le_mul N (show j.toNat<=1000 by lia)) ∅
    have O:¬its.toArray.size*j.toNat>(2 ^ 63-1) / 8:=by
     have:(Tx:Nat)<=(2 ^ 63-1) / 8:=∅;lia
    have R:¬(!Builtin.List.listFitsIndex j)=true:=by
     rw[fitsIndex_both ⋯ ⋯];exact Pc
    have a0:¬Uw (its.toArray.size*j.toNat)=true:=by
     rw[yd r];exact Pc
    have a1:Xx (λk o=>k++o) #[] (Tr (if its.toArray.isEmpty=J then 0 else j.toNat) its.toArray)=(Tr j.toNat its).flatten.toArray:=by
     have M:∀m:Nat,Xx (λk o=>k++o) #[] (Tr m its.toArray)=(Tr m its).flatten.toArray:=λm=>by
      have:=foldl_rep its m [];rw[RH]at this;exact this
     rw[M];cases its with
     |nil=>simp
     |cons _ _=>rfl
    refine wpAny_binaryOp_repeat_ref (T:="list") (U:="int") ∅ ⟨_,d,rfl⟩ (λs'=>typeIs_int s' j t) noFill_list_mul F.fills_int_mul F.slot_int_rmul repeat_list F.slot_int_index.lookup
     (RT F.slot_int_rmul (typeIs_int s j t) F.entry_int_rmul (F.args_int_rmul_2 _ _) (lm_int_rmul_list_any j t l its.toArray n dd C)
      ⟨d,rfl,⟨_,d,rfl⟩,RT F.slot_list_mul ⟨_,d,rfl⟩ F.entry_list_mul (F.args_list_mul_2 _ _) (lm_list_mul_any l its.toArray n dd C j t R O a0) ⟨d,?_⟩⟩)
    rw[a1];exact x8 I w (g.rep j.toNat) (z.rep j.toNat) (by rw[len_rep,Nat.mul_comm,g.length];simpa using r) hw
   .rw[if_neg h]at hw;exact hw.elim
  |_=>exact hw.elim
 |_=>cases f<;>exact hw.elim
end
end aI
end
section
namespace aI
open PySem PySem.Spec PyProof.Rows aJ
section
variable{xp:bS}{X:au}{ae:List Nat}{m:dc}{f bo b6 fc:aF->a9 D}{bx:aF->a9 (List D)}{a b c e:Tq}{az:List Tq}{pos:UN}{pins:List (Td×Uq)}{σ:bu}{G H:ag}{s:S9}
def zx(l:ai X a (aE xp X ae .view bo)):ai X (.UnaryOp .USub a pos) (aE xp X ae m λd=>bo d>>=λx=>ζ.ek x>>=λi=>.ok (.int (-i))):=by
 rintro pins s σ H Q I ⟨G,d,n,hw⟩;refine IF M4 l pins s σ H Q I ?_;refine⟨G,d,n,aW (aL.mp hw) (λj k v g h p o=>?_) λ_ q=>q⟩;cases j with
 |int i=>exact⟨i,bq.pd o,k (.int (-i)) g h p bq.int⟩
 |_=>exact k.elim
noncomputable def je(xp:bS)(X:au)(ae:List Nat)(f:aF->a9 (List D)):eK:=λσ H Q =>
 ∃G i,cF X.K ae G H i σ/\a3 (f i) (λds=>∀h d g,Ext G H d g->aO X.K d ds h->Q h g) (λc=>dr xp X c H)
def Kk:dX X [] (je xp X ae λ_=>.ok []):=by
 rintro p pins s σ H Q I ⟨G,g,d,hw⟩;exact lp p pins s σ H Q I (hw [] G H (Ext.refl d.sub) rfl)
def JZ(r:ai X e (aE xp X ae .val f))(t:dX X az (je xp X ae bx))(u:Tu (e::az) X.env=(S6,T4 e X.env)::Tu az X.env):dX X (e::az) (je xp X ae λd=>f d>>=λx=>bx d>>=λxs=>.ok (x::xs)):=by
 rintro p pins s σ H Q I ⟨G,d,h,hw⟩;refine ia r t u p pins s σ H Q I ?_;refine⟨G,d,h,aW (aL.mp hw) (λA k v l z g w=>?_) λ_ q=>q⟩;refine⟨l,d,h.ext g,aW (aL.mp k) (λds k2 i n o j y=>?_) λ_ q=>q.mono g.h⟩;exact k2 (v::i) n o (g.trans j) ⟨v,i,rfl,Rep.mono j.g w,y⟩
def KC(h:dX X az (je xp X ae bx))(o:∀d ds,bx d=.ok ds->ds.length<=Tx):ai X (.Tuple az j pos) (aE xp X ae .val λd=>bx d>>=λds=>.ok (.tup ds)):=by
 rintro pins s σ H Q I ⟨G,d,r,hw⟩;refine IE h pins s σ H Q I ?_;refine⟨G,d,r,?_⟩;have hw:=aL.mp hw;cases q:bx d with
 |ok ds =>
  rw[q]at hw;intro l n t g k;refine⟨by rw[<- k.length];exact o d ds q,λp i=>?_⟩;exact hw (.ref p) (upd n p (.tup l)) _ (g.trans (Ext.put g.sub i)) ⟨p,l,rfl,cj,k.mono (d3 (g.sub.free i))⟩
 |exc c=>rw[q]at hw;exact hw
 |bad=>rw[q]at hw;exact hw
def Ki(h:dX X az (je xp X ae bx))(l:∀d ds,bx d=.ok ds->ds.length<=Tx):ai X (.List az pos) (aE xp X ae .fresh λd=>bx d>>=λds=>.ok (.lst ds)):=by
 rintro pins s σ H Q I ⟨G,d,n,hw⟩;refine Iz h pins s σ H Q I ?_;refine⟨G,d,n,?_⟩;have hw:=aL.mp hw;cases q:bx d with
 |ok ds =>
  rw[q]at hw;intro o k r g j;refine⟨by rw[<- j.length];exact l d ds q,λp i=>?_⟩;exact hw (.ref p) k _ (g.trans (Ext.own g.sub i λ_ z=>nomatch z)) ⟨p,o,rfl,cj,g.h.free i,g.sub.free i,j⟩
 |exc c=>rw[q]at hw;exact hw
 |bad=>rw[q]at hw;exact hw
def FL(n)(i):ζ.gv n i=aJ.gv n i:=by
 unfold ζ.gv aJ.gv
 by_cases h:0<=i
 .rw[if_pos h,if_pos h]
 .rw[if_neg h,if_neg h]
  by_cases q:0<=i+(n:Int)
  .rw[if_pos q,if_pos ⋯]
  .rw[if_neg q,if_neg ⋯]
def wL{K:W.Frag}(r:aO K G ds xs)(h:ζ.hn ds i=Z d):∃v,ju xs i=Z v/\Rep K G d v:=by
 unfold ζ.hn at h;rw[FL,r.length]at h;unfold ju;cases q:aJ.gv xs.length i with
 |none=>rw[q]at h;cases h
 |some j =>
  rw[q]at h;obtain⟨v,e,z⟩:=r.get (i:=j) h;exact⟨v,e,z⟩
def Kc(L:ai X a (aE xp X ae .view bo))(M:ai X b (aE xp X ae .view b6))(N:qD b):ai X (.Subscript a b pos) (aE xp X ae .val λg=>bo g>>=λx=>b6 g>>=λy=>ζ.fC x y):=by
 rintro pins s σ H Q I ⟨G,g,A,hw⟩;refine Iy FQ L M N pins s σ H Q I ?_;refine⟨G,g,A,aW (aL.mp hw) (λE k v C O j h=>?_) λ_ q=>q⟩;refine⟨C,g,A.ext j,aW (aL.mp k) (λo k2 R u z n B=>?_) λ_ q=>q.mono j.h⟩;have h:=View.ext n h;cases E with
 |lst ds =>
  cases o with
  |int i =>
   simp only[ζ.w0]at k2;cases q:ζ.hn ds i with
   |none=>rw[q]at k2;exact k2.elim
   |some d =>
    rw[q]at k2;obtain⟨l,xs,rfl,e,r⟩:=hD h;obtain⟨w,p,t⟩:=wL r q;exact .inl ⟨l,xs,i,w,rfl,B,e,p,k2 w u z (j.trans n) t⟩
  |_=>exact k2.elim
 |tup ds =>
  cases o with
  |int i =>
   simp only[ζ.w1]at k2;cases q:ζ.hn ds i with
   |none=>rw[q]at k2;exact k2.elim
   |some d =>
    rw[q]at k2;obtain⟨l,xs,rfl,e,r⟩:=jk n.sub h;obtain⟨w,p,t⟩:=wL r q;exact .inr (.inl ⟨l,xs,i,w,rfl,B,e,p,k2 w u z (j.trans n) t⟩)
  |_=>exact k2.elim
 |_=>cases o<;>exact k2.elim
noncomputable def i6(K:W.Frag)(m:dc)(g:D->a9 D):List V->ag->ck->Prop:=λxs H Q=>∃G x d,xs=[x]/\aH G H/\View K G H d x/\a3 (g d) (λd'=>∀v i h,Ext G H i h->bq K H i h m d' v->Q v h) (λ_=>False)
def f7(d:ai X e h)(g:Tu [e] X.env=[(S6,T4 e X.env)]):dX X [e] (pW h tL):=ia d lp g
def pG{id:String}(y:∀d c,g d≠.exc c)(u:eV X (.builtin id) (i6 X.K m g))(z:cQ X x)(A:X.aG x=Y)(E:T2 x=Z (.builtin id))(t:ai X e (aE xp X ae .view f))(B:x≠"__name__")(w:(x==("__debug__":Tj))=S6)(l:Tu [e] X.env=[(S6,T4 e X.env)]):ai X (.Call (.Name x p) [e] [] pos) (aE xp X ae m λi=>f i>>=λd=>g d):=by
 rintro pins s σ H Q I ⟨G,i,C,hw⟩;refine pn u z A E (f7 t l) B w l rfl pins s σ H Q I ?_;refine⟨G,i,C,aW (aL.mp hw) (λj k v n R h L=>?_) λ_ q=>q⟩;refine⟨n,v,j,rfl,h.sub,L,?_⟩;exact aW (lQ k (y j)) (λd q N o r O M=>q N o r (h.trans O) (M.old h.h)) λ_ q=>q
def zu(y:∀d c,g d≠.exc c)(u:eV X (.type T) (i6 X.K m g))(z:cQ X x)(A:X.aG x=Y)(E:T2 x=Z (.type T))(t:ai X e (aE xp X ae .view f))(B:x≠"__name__")(w:(x==("__debug__":Tj))=S6)(l:Tu [e] X.env=[(S6,T4 e X.env)]):ai X (.Call (.Name x p) [e] [] pos) (aE xp X ae m λi=>f i>>=λd=>g d):=by
 rintro pins s σ H Q I ⟨G,i,C,hw⟩;refine yw u z A E (f7 t l) B w l rfl pins s σ H Q I ?_;refine⟨G,i,C,aW (aL.mp hw) (λj k v n R h L=>?_) λ_ q=>q⟩;refine⟨n,v,j,rfl,h.sub,L,?_⟩;exact aW (lQ k (y j)) (λd q N o r O M=>q N o r (h.trans O) (M.old h.h)) λ_ q=>q
def f_len:eV X (.builtin "len") (i6 X.K m ζ.h2):=by
 rintro pins s σ H xs h Q I r ⟨G,x,d,j,g,i,hw⟩;subst j;cases d with
 |tup ds =>
  obtain⟨a,ys,rfl,k,q⟩:=jk g i;refine u2 pins s σ H _ h Q I r ⟨a,ys,rfl,.inr k,?_⟩;rw[<- q.length];exact hw _ G H (Ext.refl g) bq.int
 |lst ds =>
  obtain⟨a,ys,rfl,k,q⟩:=hD i;refine u2 pins s σ H _ h Q I r ⟨a,ys,rfl,.inl k,?_⟩;rw[<- q.length];exact hw _ G H (Ext.refl g) bq.int
 |_=>exact hw.elim
def En:eV X (.type "tuple") (i6 X.K .val λd=>ζ.cP d>>=λds=>.ok (.tup ds)):=by
 rintro pins s σ H xs j Q I r ⟨G,x,d,n,g,h,hw⟩;subst n;cases d with
 |tup ds =>
  obtain⟨a,ys,rfl,k,q⟩:=jk g h;exact u4 pins s σ H _ j Q I r ⟨a,ys,rfl,.inr ⟨k,hw _ G H (Ext.refl g) h⟩⟩
 |lst ds =>
  obtain⟨a,ys,rfl,k,q⟩:=hD h;exact u4 pins s σ H _ j Q I r ⟨a,ys,rfl,.inl ⟨k,λl i=>hw _ (upd G l (.tup ys)) _ (Ext.put g i) ⟨l,ys,rfl,cj,q.mono (d3 (g.free i))⟩⟩⟩
 |_=>exact hw.elim
end
def te{c:bu}(I:Inv X d c H s)(h:(∃ys,eI H a (.b5 ys))\/∃ys,eI H a (.cm ys)):∃o,s.heap.get? a=Z o/\o.cls=.type "dict":=by
 rcases h with⟨ys,h|⟨b,h⟩⟩|⟨ys,h|⟨b,h⟩⟩
 .obtain⟨_,_,_,_,o,_,_,e,x,_⟩:=(show bZ X.prog X.w H s.heap a (.b5 ys) from I.aK a _ h);exact⟨o,e,x.1⟩
 .obtain⟨_,_,_,_,_,o,_,_,e,x,_⟩:=(show bZ X.prog X.w H s.heap a (.cy b (.b5 ys)) from I.aK a _ h);exact⟨o,e,x.1⟩
 .obtain⟨_,_,_,_,o,_,_,e,x,_⟩:=(show bZ X.prog X.w H s.heap a (.cm ys) from I.aK a _ h);exact⟨o,e,x.1⟩
 .obtain⟨_,_,_,_,_,o,_,_,e,x,_⟩:=(show bZ X.prog X.w H s.heap a (.cy b (.cm ys)) from I.aK a _ h);exact⟨o,e,x.1⟩
section
variable{xp:bS}{X:au}{ae:List Nat}{m:dc}{f bo b6 fc:aF->a9 D}{bx:aF->a9 (List D)}{a b c e:Tq}{az:List Tq}{pos:UN}{pins:List (Td×Uq)}{σ:bu}{G H:ag}{s:S9}
noncomputable def M1:D->String
 |.bG=>"NoneType"
 |.ah _=>"bool"
 |.int _=>"int"
 |.str _=>"str"
 |.tup _=>"tuple"
 |.lst _=>"list"
 |.aN _=>"dict"
 |.aM _=>"dict"
 |.dQ _=>""
noncomputable def lL:ζ.Ty->String
 |.int=>"int"|.bool=>"bool"|.str=>"str"|.tuple=>"tuple"|.cls _=>""
def Gd(K)(up)(d:D)(t)(h:∀c,t≠.cls c)(g:∀c,d≠.dQ c):∃b,ζ.iR up d t=.ok b/\PySem.W.kitOne K (.type (M1 d)) (.type (lL t))=Z b:=by
 cases t with
 |cls c=>exact absurd rfl (h c)
 |int=>cases d<;>first|exact absurd rfl (g _)|exact⟨_,rfl,by kernel_rfl⟩
 |bool=>cases d<;>first|exact absurd rfl (g _)|exact⟨_,rfl,by kernel_rfl⟩
 |str=>cases d<;>first|exact absurd rfl (g _)|exact⟨_,rfl,by kernel_rfl⟩
 |tuple=>cases d<;>first|exact absurd rfl (g _)|exact⟨_,rfl,by kernel_rfl⟩
def ND(I:Inv X pins σ H s)(w:aH G H)(A:∀c,t≠.cls c)(g:View X.K G H d x)(l:RelV x u)(hw:a3 (ζ.iR up d t) (λb=>Q (.ah b) H) (λ_=>False)):
  Ta (Tc X.prog X.w) X.A (call (.builtin "isinstance") [u,.type (lL t)]) (c3 X pins σ Q) X.bk s:=by
 have v:∀c,d≠.dQ c:=λc e=>by subst e;exact g.elim
 obtain⟨b,e1,j⟩:=Gd X.K up d t A v;rw[e1]at hw;have fin:∀tk,c3 X pins σ Q (.bool b) { s with toks:=tk }:=λtk=>⟨.ah b,H,I.tok tk,rfl,hw⟩
 cases d with
 |bG=>cases g;exact oT I l .bG j fin
 |ah y=>cases g;exact oT I l (.ah y) j fin
 |int i=>cases g;exact oT I l (.int i) j fin
 |str y=>cases g;exact oT I l (.str y) j fin
 |tup ds =>
  obtain⟨a,ys,rfl,k,q⟩:=jk w g;cases l;obtain⟨its,C,⟨o,p,r,_⟩,hz⟩:=I.tuple k;exact O5 SY I.dS ⟨o,p,r⟩ j (λz=>nomatch z) fin
 |lst ds =>
  obtain⟨a,ys,rfl,k,q⟩:=hD g;cases l;obtain⟨its,C,⟨o,n,p,r,_⟩,z⟩:=I.list k;exact O5 R7 I.dS ⟨o,p,r⟩ j (λz=>nomatch z) fin
 |aN B =>
  obtain⟨a,rfl,h⟩:=g;cases l;obtain⟨o,p,r⟩:=te I (.inr ⟨_,h⟩);exact O5 Ra I.dS ⟨o,p,r⟩ j (λz=>nomatch z) fin
 |aM B =>
  obtain⟨a,ys,rfl,h,_⟩:=g;cases l;obtain⟨o,p,r⟩:=te I (.inl ⟨_,h⟩);exact O5 Ra I.dS ⟨o,p,r⟩ j (λz=>nomatch z) fin
 |dQ c=>exact absurd rfl (v c)
def Fn{d:D}{c:Nat}:ζ.iR up d t≠.exc c:=by
 intro h;cases t<;>first|(cases h;done)|skip
 cases d<;>cases h
def Kf(U:∀c,t≠.cls c)(L:cQ X x)(N:X.aG x=Y)(a0:T2 x=Z (.builtin "isinstance"))(M:cQ X y)(O:X.aG y=Y)(a1:T2 y=Z (.type (lL t)))(A:ai X e (aE xp X ae .view f))(R:x≠"__name__")(C:(x==("__debug__":Tj))=S6)(S:y≠"__name__")(E:(y==("__debug__":Tj))=S6)(l:Tu [e,.Name y h] X.env=(S6,T4 e X.env)::Tu [.Name y h] X.env):
  ai X (.Call (.Name x p) [e,.Name y h] [] pos) (aE xp X ae m λi=>f i>>=λd=>ζ.iR up d t>>=λb=>.ok (.ah b)):=by
 rintro pins s σ H Q I ⟨G,i,g,hw⟩;have B:eV X (.builtin "isinstance") (λxs H Q=>∃G x d,xs=[x,.ty (lL t)]/\aH G H/\View X.K G H d x/\a3 (ζ.iR up d t) (λb=>Q (.ah b) H) (λ_=>False)):=by
  rintro pins s σ H xs ay Q I r ⟨G,x,d,z,g,ao,hw⟩;subst z;obtain⟨u,ax,rfl,aj,ar⟩:=vals2 r;cases ar;exact ND I g U ao aj hw
 have T:dX X [e,.Name y h] (pW (aE xp X ae .view f) (pW (jf (.ty (lL t))) tL)):=ia A (ia (yv M O a1 rfl S E) lp rfl) l;refine pn B L N a0 T R C l rfl pins s σ H Q I ?_;refine⟨G,i,g,aW (aL.mp hw) (λw k v j o n a2=>?_) λ_ q=>q⟩;refine⟨j,v,w,rfl,n.sub,a2,?_⟩;exact aW (lQ (aL.mp k) (λc=>Fn)) (λb q=>q (.ah b) j o n bq.ah) λ_ q=>q
end
noncomputable def gG(P:TK)(w:TU)(xp:bS):ij:=λouter H s E e s' =>
 ∃(c:Nat)(b:ag)(l:List Td),s'.os=s.os/\Va s'.gens/\dt (eg outer) [] H b s.heap s'.heap/\cD P w b s'.heap/\aH H b/\(∀a∈l,s.heap.get? a=Y/\b a=Y)/\xp c e l s'.heap/\E (.int c 0) Y b
noncomputable def j2(K:W.Frag)(f:List D->a9 D)(n:Nat):ff:=λd8 H Q E =>
 d8.length=n/\∃G ds,aH G H/\(∀b xs,H b=Z (.tup xs)->G b=Z (.tup xs))/\aO K G ds d8/\a3 (f ds) (λd=>∀v e a,Ext G H e a->Rep K e d v->Q v a) (λc=>∀a,aH H a->E (.int c 0) Y a)
section
variable{xp:bS}{X:au}{ae:List Nat}{m:dc}{f bo b6 fc:aF->a9 D}{bx:aF->a9 (List D)}{a b c e:Tq}{az:List Tq}{pos:UN}{pins:List (Td×Uq)}{σ:bu}{G H:ag}{s:S9}
noncomputable def vN(xp:bS)(X:au):gJ:=λu _ d=>∀c:Nat,u=.int c 0->dr xp X c d
def Io:Passes (gG X.prog X.w xp) X (vN xp X):=by
 rintro pins σ H s e s' I ⟨c,d,l,os,j,p,n,q,h,o,k⟩;have i:Inv X pins σ d s':=I.u0 os p n j (λb z=>absurd z (by simp));exact k c rfl pins σ d s' e l i (aH.refl _) (λa g=>.of I (h a g).1 (h a g).2) o
end
section
variable{prog:TK}{w:TU}{A:TO}{R:Result->S9->Prop}{s:S9}
def CJ{f d o:Tq}{g:List Tq}{p:U1}{pos:UN}{b e:S8}{env:XS}(I:Nat->S9->Prop)(turn:∀n s,I n s->Ta (Tc prog w) A (U4 b) (λr i=>match r with
   |none=>R (.ok .next) i
   |some v=>Ta (Tc prog w) A (U5 d b v) (λ_ u=>Ta (Tc prog w) A (WY d env v) (λ_ y =>
     Ta (Tc prog w) A (forIn g J λc r=>if r=J then do let a <- WB c env (T4 c env);pure (Uk a) else pure (Uk r)) (λa j =>
      if a=J then Ta (Tc prog w) A (T4 f env) (λx B =>
       Ta (Tc prog w) A (call (.builtin "list.append") [e,x]) (λ_ C=>∃m,m<n/\I m C) (λ_ _=>False) B) (λ_ _=>False) j
      else ∃m,m<n/\I m j) (λ_ _=>False) y) (λ_ _=>False) u) (λ_ _=>False) i) (λ_ _=>False) s)(n:Nat)(h:I n s):
  Vb (Tc prog w) A (.compLoop (.ListComp f [⟨d,o,g,0⟩] p pos) 0 b e env) R s:=by
 have up:∀{α:Type}{t:Sem α}{Q:α->S9->Prop}{E:S8->S9->Prop}{s:S9},Ta (Tc prog w) A t Q (λ_ _=>False) s->Ta (Tc prog w) A t Q E s:=λh=>Pj h (λ_ _ q=>q) λ_ _ z=>z.elim
 refine codeAny_loop rfl I (λn s G=>?_) n h;show Ta _ A ((compTurn (.ListComp f [⟨d,o,g,0⟩] p pos) 0 b e env).onRaise (λx=>do noteFrame x env;theTreesLotGoes x)) _ _ s;refine wpAny_noted ?_;rw[compTurn_list];refine Oh (wpAny_standAt (Oh (Pj (turn n s G) (λr i k=>?_) λ_ _ z=>z.elim)));cases r with
 |none=>exact Oj k
 |some v =>
  refine Oh (Pj k (λ_ u H=>?_) λ_ _ z=>z.elim);refine Oh (Pj H (λ_ y L=>Oh (Pj L (λa j l=>?_) λ_ _ z=>z.elim)) λ_ _ z=>z.elim);cases a with
  |false=>exact Oj ⟨rfl,l⟩
  |true =>
   refine Oh (Oh (Pj l (λx B M=>Oh (Pj M (λ_ C N=>?_) λ_ _ z=>z.elim)) λ_ _ z=>z.elim));exact Oj (Oj ⟨rfl,N⟩)
end
noncomputable def el(env:XS):List (Tj×Uy)->List (Tj×Td)->List (Tj×Td)
 |[],cs=>cs
 |(n,k)::r,cs=>if k==.free then el env r ((n,(env.cells.lookup n).getD 0)::cs) else el env r cs
def Cq(h:∀x∈f.names,x.2=.free->∃c,env.cells.lookup x.1=Z c):closureFor f env=pure (el env f.names []):=by
 have j:∀(l:List (Tj×Uy))(cs:List (Tj×Td)),(∀x∈l,x.2=.free->∃c,env.cells.lookup x.1=Z c) ->
   (forIn l cs λ(x:Tj×Uy)(r:List (Tj×Td))=>(match x with
    |(name,m)=>if (m==TC)=J then do let a <- cellOf env name;pure (Uk ((name,a)::r)) else pure (Uk r):Sem (ForInStep (List (Tj×Td)))))=(pure (el env l cs):Sem _):=by
  intro l
  induction l with
  |nil=>intro cs _;rfl
  |cons x l g =>
   intro cs b;obtain⟨n,k⟩:=x;simp only[List.forIn_cons,el];cases q:(k==TC) with
   |false =>
    simp only[Om,OH,pure_bind];exact g cs λy d=>b y (S4 _ d)
   |true =>
    have i:k=.free:=(by simpa using q);obtain⟨c,e⟩:=b (n,k) S7 i;simp only at e;simp only[Pb,cellOf,e,pure_bind,Xc];exact g _ λy d=>b y (S4 _ d)
 unfold closureFor;have:=j f.names [] h;simp only[bind_pure];exact this
theorem rN:∀(l:List (Tj×Uy))(cs:List (Tj×Td)),(el env l cs).lookup x=Z c->cs.lookup x=Z c\/(∃y∈l,y.1=x/\y.2=.free/\c=(env.cells.lookup x).getD 0)
 |[],cs,h=>.inl h
 |(n,k)::r,cs,h=>by
  unfold el at h;cases q:(k==TC) with
  |false =>
   rw[q]at h;rcases rN r cs h with a|⟨y,b,a⟩
   .exact .inl a
   .exact .inr ⟨y,S4 _ b,a⟩
  |true =>
   rw[q]at h;have d:k=.free:=(by simpa using q);rcases rN r _ h with a|⟨y,b,a⟩
   .rw[O0]at a;cases z:(x==n) with
    |false=>rw[z]at a;exact .inl a
    |true =>
     rw[z]at a;have e:x=n:=(by simpa using z);subst e;exact .inr ⟨(x,k),S7,rfl,d,(O1 a).symm⟩
   .exact .inr ⟨y,S4 _ b,a⟩
theorem rM:∀(l:List (Tj×Uy))(cs:List (Tj×Td)),((∃y∈l,y.1=x/\y.2=.free)\/(cs.lookup x).isSome=J)->((el env l cs).lookup x).isSome=J
 |[],cs,h=>by
  rcases h with⟨y,a,_⟩|h
  .simp at a
  .exact h
 |(n,k)::r,cs,h=>by
  unfold el;cases q:(k==TC) with
  |false =>
   refine rM r cs ?_;rcases h with⟨y,a,b,c⟩|h
   .rcases Oq.mp a with e|a
    .subst e;simp only at c;rw[c]at q;cases q
    .exact .inl ⟨y,a,b,c⟩
   .exact .inr h
  |true =>
   refine rM r _ ?_;rcases h with⟨y,a,b,c⟩|h
   .rcases Oq.mp a with e|a
    .subst e;simp only at b;subst b;exact .inr (by simp)
    .exact .inl ⟨y,a,b,c⟩
   .refine .inr ?_;rw[O0];cases z:(x==n)
    .exact h
    .rfl
theorem iU{env:XS}{x:Tj}:∀{names:List (Tj×Uy)}{k:Uy},(names.map λ(n,k)=>if (k==TC&&env.scope.kind==.function&&env.kindOf n==Z .cell) then(n,Uo) else(n,k)).lookup x=Z k ->
  names.lookup x=Z k\/(names.lookup x=Z .free/\k=.cell)
 |[],_,h=>by simp at h
 |(n,j)::r,k,h=>by
  have h:Wi x ((if (j==TC&&env.scope.kind==.function&&env.kindOf n==Z .cell)=J then(n,Uo) else(n,j))::(r.map λ(n,k)=>if (k==TC&&env.scope.kind==.function&&env.kindOf n==Z .cell) then(n,Uo) else(n,k)))=Z k:=h;rw[O0];cases b:x==n with
  |true =>
   by_cases a:(j==TC&&env.scope.kind==.function&&env.kindOf n==Z .cell)=J
   .rw[if_pos a,O0]at h;simp only[b]at h;have c:j=.free:=(by simp only[Oi,OL]at a;exact a.1.1);exact .inr ⟨by rw[c],(O1 h).symm⟩
   .rw[if_neg a,O0]at h;simp only[b]at h;exact .inl h
  |false =>
   by_cases a:(j==TC&&env.scope.kind==.function&&env.kindOf n==Z .cell)=J
   .rw[if_pos a,O0]at h;simp only[b]at h;exact iU h
   .rw[if_neg a,O0]at h;simp only[b]at h;exact iU h
theorem pB{env:XS}{x:Tj}{k:Uy}:∀{e:List (Tj×Uy)},e.lookup x=Z k->k≠.free->(e.map λ(n,k)=>if (k==TC&&env.scope.kind==.function&&env.kindOf n==Z .cell) then(n,Uo) else(n,k)).lookup x=Z k
 |[],h,_=>by simp at h
 |(n,j)::r,h,c=>by
  show Wi x ((if (j==TC&&env.scope.kind==.function&&env.kindOf n==Z .cell)=J then(n,Uo) else(n,j))::_)=_;rw[O0]at h;cases a:x==n with
  |true =>
   simp only[a]at h;have f:j=k:=O1 h;subst f;have b:¬(j==TC&&env.scope.kind==.function&&env.kindOf n==Z .cell)=true:=by
    intro z;simp only[Oi,OL]at z;exact c z.1.1
   rw[if_neg b,O0];simp only[a]
  |false =>
   simp only[a]at h;have d:=pB (env:=env) h c
   by_cases b:(j==TC&&env.scope.kind==.function&&env.kindOf n==Z .cell)=J
   .rw[if_pos b,O0];simp only[a];exact d
   .rw[if_neg b,O0];simp only[a];exact d
theorem tg{env:XS}{x:Tj}:∀{c:List (Tj×Uy)},c.lookup x=Z .free->(c.map λ(n,k)=>if (k==TC&&env.scope.kind==.function&&env.kindOf n==Z .cell) then(n,Uo) else(n,k)).lookup x=Z .cell\/(c.map λ(n,k)=>if (k==TC&&env.scope.kind==.function&&env.kindOf n==Z .cell) then(n,Uo) else(n,k)).lookup x=Z .free
 |[],h=>by simp at h
 |(n,j)::r,h=>by
  show Wi x ((if (j==TC&&env.scope.kind==.function&&env.kindOf n==Z .cell)=J then(n,Uo) else(n,j))::_)=_\/Wi x ((if (j==TC&&env.scope.kind==.function&&env.kindOf n==Z .cell)=J then(n,Uo) else(n,j))::_)=_;rw[O0]at h;cases a:x==n with
  |true =>
   simp only[a]at h
   by_cases b:(j==TC&&env.scope.kind==.function&&env.kindOf n==Z .cell)=J
   .rw[if_pos b,O0];simp[a]
   .rw[if_neg b,O0];simp only[a];exact .inr h
  |false =>
   simp only[a]at h;have d:=tg (env:=env) h
   by_cases b:(j==TC&&env.scope.kind==.function&&env.kindOf n==Z .cell)=J
   .rw[if_pos b,O0];simp only[a];exact d
   .rw[if_neg b,O0];simp only[a];exact d
noncomputable def jv(X:au)(c:XS)(b:List Tj)(s3:S9)(a:ag)(d:List Td)(e:List (Td×Uq)):au :=
 { X with N:=b,dG:=s3,lW:=a,env:=c,outer:=X.stack,ex:=d,fn:=λ_=>S6,b7:=X.b7++e,bk:=λ_ _=>False }
structure jm(X:au)(scope:U1)(xs:List Tj)(cS:List Tj):Prop where
 kind:scope.kind=.function
 iZ:∀y∈scope.names,y.2≠.cell
 names:∀y∈scope.names,y.2=.local->scope.names.lookup y.1=Z .local
 loc:∀y,scope.names.lookup y=Z .local->y∈xs\/y=(".0":Tj)
 dk:∀y∈xs,scope.names.lookup y=Z .local
 fr:∀y∈scope.names,y.2=.free->X.env.scope.names.lookup y.1=Z .cell\/X.env.scope.names.lookup y.1=Z .free
 len:cS.length=X.N.length+xs.length
 old:∀(i:Nat) y,i<X.N.length->cS[i]?=Z y->(scope.names.lookup y).isSome=J->X.N[i]?=Z y/\y∉xs/\y≠(".0":Tj)
 new:∀(j:Nat),cS[X.N.length+j]?=xs[j]?
 dE:cS.Nodup
section
def BW{G:bu}(I:Inv X pins G H s)(U:∀b∈ay,gh X pins H b)(a1:∀b∈ay,∃o,s.heap.get? b=Z o)(B:jm X a xs ar)(a7:aA.Ns s.heap.objs.size (λ_=>Y))(A:∀b o,s.heap.get? b=Z o->aA.get? b=Z o):
  Inv (jv X (VG a (el X.env a.names []) s.heap.objs.size X.env) ar s H ay pins) [] (G++Tr xs.length Y) H { s with heap:=aA,toks:=tk }:=by
 have t:∀y c,(el X.env a.names []).lookup y=Z c->X.env.cells.lookup y=Z c:=λy c e=>by
  rcases rN _ _ e with h|⟨z,hz,e1,g,j⟩
  .simp at h
  .have:=B.fr z hz g;rw[e1]at this;obtain⟨C,x⟩:=I.ok.has y (by rcases this with q|q;exact .inl q;exact .inr q);rw[x]at j;simp at j;rw[x,j]
 have T:∀y,a.names.lookup y=Z .free->∃c,(el X.env a.names []).lookup y=Z c:=λy e =>
  Vp.mp (rM _ _ (.inl ⟨(y,.free),O9 e,rfl,rfl⟩))
 have bw:∀y c,X.env.cells.lookup y=Z c->c<s.heap.objs.size:=λy c e=>by
  obtain⟨v,q⟩:=I.cell y c e;exact q.lt
 have aB:∀b,b<s.heap.objs.size->b≠s.heap.objs.size:=λb f=>OI f
 refine⟨⟨I.ok.mod,B.kind,I.ok.glob,I.ok.blt,Ot _,λy z c e1 g=>I.ok.inj y z c (t y c e1) (t z c g),λy aj=>?_,λy c q _=>Bool.noConfusion q,I.ok.hd,I.ok.frames,.inl rfl,λb f=>?_,I.bs,O3 I.ok.jx I.d5,λb o e f=>?_,λb f b2=>?_,I.stack,I.tI⟩,
  rfl,I.bare,dt.kept A,⟨_,a7,λi y v e1 g j=>?_⟩,λy c e=>?_,I.fresh,λy c e=>I.ez y c (t y c e),λp a2=>?_,I.aK.kept A,?_⟩
 .-- T
  have aj:(relabel a X.env).names.lookup y=Z .cell\/(relabel a X.env).names.lookup y=Z .free:=aj;have:a.names.lookup y=Z .free:=by
   rcases aj with q|q
   .rcases iU q with z|z
    .exact absurd rfl (B.iZ _ (O9 z))
    .exact z.1
   .rcases iU q with z|z
    .exact z
    .exact z.1
  exact T y this
 .-- cx
  obtain⟨ao,L,M,N,O,ax⟩:=U b f;obtain⟨o,a1⟩:=a1 b f;exact⟨aB b (Ou a1),λy c e=>O y c (t y c e)⟩
 .-- cq
  obtain⟨ao,L,M,N,O,ax⟩:=U b f;rcases N with q|q
  .exact I.ok.m1 b o e q
  .have:=Ou (I.ok.bs b o e).1;exact absurd (OD this q) (Pq _)
 .-- b9
  obtain⟨ao,L,M,N,O,ax⟩:=U b f;rcases Oq.mp (I.j4 b b2) with q|q
  .exact L q
  .exact M q
 .-- cM cf
  have E:i<G.length:=by
   by_cases E:i<G.length
   .exact E
   .rw[O7 ⋯,Qu]at g
    split at g<;>cases g
  rw[OF E]at g;have aX:i<X.N.length:=(by rw[<- I.len];exact E);have j:dB (relabel a X.env) y:=j;have a5:(a.names.lookup y).isSome=true:=by
   rcases j with q|q|q
   all_goals
    rcases iU q with z|z
    .rw[z];rfl
    .rw[z.1];rfl
  obtain⟨aC,a6,h0⟩:=B.old i y aX e1 a5;have a0:a.names.lookup y=Z .free:=by
   rcases j with q|q|q
   .rcases iU q with z|z
    .rcases B.loc y z with w|w
     .exact absurd w a6
     .exact absurd w h0
    .exact z.1
   .rcases iU q with z|z
    .exact absurd rfl (B.iZ _ (O9 z))
    .exact z.1
   .rcases iU q with z|z
    .exact z
    .exact z.1
  have S:=B.fr (y,.free) (O9 a0) rfl;obtain⟨m,cc,bb⟩:=I.loc;obtain⟨u,r,l⟩:=bb i y v aC g (by rcases S with q|q;exact .inr (.inl q);exact .inr (.inr q));refine⟨u,r,.inr ⟨?_,?_⟩⟩
  .exact tg a0
  .rcases l with⟨k,_⟩|⟨_,c,b1,z⟩
   .exfalso;have k:X.env.scope.names.lookup y=Z .local:=k;simp only at S;rcases S with q|q<;>rw[k]at q<;>cases q
   .obtain⟨C,x⟩:=T y a0;have e:C=c:=(by have:=t y C x;rw[b1]at this;exact(O1 this).symm);subst e;obtain⟨o,Q,R⟩:=z;exact⟨C,x,o,A _ _ Q,R⟩
 .-- cw
  obtain⟨v,o,Q,R⟩:=I.cell y c (t y c e);exact⟨v,o,A _ _ Q,R⟩
 .-- pins
  have a2:p∈X.b7++pins:=(by simpa[jv] using a2);obtain⟨e,n,a8,bl,d⟩:=I.pin p a2;refine⟨A _ _ e,n,aB _ (Ou e),λf=>?_,d⟩;rcases Oq.mp (I.j4 p.1 f) with q|q
  .exact a8 q
  .exact bl q
 .show _=ar.length;rw[Oo,QH,B.len,I.len]
end
noncomputable def jb:List Nat->List V->bu->bu
 |i::b,v::c,a=>jb b c (a.set i (Z v))
 |_,_,a=>a
noncomputable def r5:List Nat->iy
 |[]=>wJ
 |i::a=>wH (r4 i) (r5 a)
theorem wI:∀(ts:List Nat)(a:List V)(b:bu)(H:ag)(Q:bu->ag->Prop),a.length=ts.length->Q (jb ts a b) H->r5 ts a b H Q
 |[],[],b,H,Q,_,q=>⟨rfl,q⟩
 |[],_::_,_,_,_,h,_=>by simp at h
 |_::_,[],_,_,_,h,_=>by simp at h
 |i::c,v::a,b,H,Q,h,q=>⟨v,a,rfl,wI c a _ H Q (by simpa using h) q⟩
noncomputable def oA(K:W.Frag)(k:Nat)(ts:List Nat):hI:=λv c H Q=>∃G d,aH G H/\Rep K G d v/\a3 (ζ.dC k d) (λos=>∀(b:List D)(a:List V),os=b.map Z->aO K G b a->Q (jb ts a c) H) (λ_=>False)
section
theorem yD(g:X.N.Nodup):∀(ts:List Nat)(ys:List Tj)(d:List Tq),ζ.namesOf d=Z ys->ts.length=ys.length->(∀(j i:Nat) y,ts[j]?=Z i->ys[j]?=Z y->X.N[i]?=Z y/\Loc X.env.scope y/\(X.fn y=J\/X.env.scope.names.lookup y=Z .local)) ->
  l3 X d (r5 ts)/\(UC d X.env).length=ts.length/\(UC d X.env).findIdx? (·.1)=Y
 |ts,ys,[],h,f,_=>by
  simp only[ζ.namesOf,Px]at h;subst h;have:ts=[]:=(by simpa using f);subst this;exact⟨IM,rfl,rfl⟩
 |ts,ys,e::d,h,f,k=>by
  simp only[ζ.namesOf]at h;cases e with
  |Name x p =>
   cases q:ζ.namesOf d with
   |none=>simp only[ζ.nameOf,q]at h;cases h
   |some s =>
    simp only[ζ.nameOf,q,Px]at h;subst h;cases ts with
    |nil=>simp at f
    |cons i l =>
     obtain⟨a,b,c⟩:=k 0 i x rfl rfl;obtain⟨n,o,r⟩:=yD g l s d q (by simpa using f) λj i y e1 m=>k (j+1) i y (by simpa using e1) (by simpa using m)
     refine⟨IL (yB g a b c) n rfl,?_,?_⟩
     .show(UC d X.env).length+1=l.length+1;rw[o]
     .show((S6,WY (.Name x p) X.env)::UC d X.env).findIdx? (·.1)=Y;rw[List.findIdx?_cons];simp only[Om,OH];rw[r];rfl
  |_=>simp only[ζ.nameOf]at h;cases h
def yC(S:X.calm=J)(z:X.N.Nodup)(f:ζ.dk k t=Z ys)(l:ts.length=ys.length)(C:∀(j i:Nat) y,ts[j]?=Z i->ys[j]?=Z y->X.N[i]?=Z y/\Loc X.env.scope y/\(X.fn y=J\/X.env.scope.names.lookup y=Z .local)):ix X t (oA X.K k ts):=by
 cases k with
 |zero =>
  cases t with
  |Name x p =>
   simp only[ζ.dk,Px]at f;subst f;obtain⟨i,rfl⟩:∃i,ts=[i]:=by
    match ts,l with
    |[i],_=>exact⟨i,rfl⟩
   obtain⟨a,b,c⟩:=C 0 i x rfl rfl;rintro m s g H v u Q I r ⟨G,d,B,o,hw⟩;refine yB z a b c m s g H v u Q I r ?_;exact hw [d] [v] rfl ⟨v,[],rfl,o,rfl⟩
  |_=>simp only[ζ.dk]at f;cases f
 |succ k =>
  cases t with
  |Tuple w j p =>
   simp only[ζ.dk]at f;cases q:ζ.namesOf w with
   |none=>rw[q]at f;cases f
   |some L =>
    rw[q]at f;simp only at f
    by_cases hz:L.length=k+1
    .rw[if_pos hz]at f;simp only[Px]at f;subst f;obtain⟨M,N,O⟩:=yD z ts L w q l C;rintro m s g H v u Q I r ⟨G,d,B,o,hw⟩;refine IK (n:=ts.length) S M N O m s g H v u Q I r ?_;cases d with
     |tup ds =>
      obtain⟨a,xs,e,T,E⟩:=o;have R:ζ.dC (k+1) (.tup ds)=if ds.length=k+1 then .ok (ds.map Z) else .bad:=rfl;rw[R]at hw
      by_cases h:ds.length=k+1
      .rw[if_pos h]at hw;have A:xs.length=ts.length:=(by rw[<- E.length,h,l,hz]);exact⟨a,xs,e,e9 B T,A,wI ts xs g H Q A (hw ds xs rfl E)⟩
      .rw[if_neg h]at hw;exact hw.elim
     |_=>exact hw.elim
    .rw[if_neg hz]at f;cases f
  |_=>simp only[ζ.dk]at f;cases f
end
structure g8(K:W.Frag)(P:ag->ag->Prop)(jr:gH)(ds:List D):Prop where
 go:∀(i:Nat) bt H1,P bt H1->i<ds.length->jr.go i H1
 gF:∀(i:Nat) bt H1 x eF d,P bt H1->aH bt H1->ds[i]?=Z d->jr.gF i H1 x eF->∃nN,Ext bt H1 nN eF/\Rep K nN d x
 stop:∀bt H1,P bt H1->jr.stop ds.length H1
noncomputable def hH(m:dc)(G H:ag):ag->ag->Prop:=λa b=>aH G a/\(match m with|.view=>aH H b|_=>aH a b)
noncomputable def gC(xp:bS)(X:au)(g:List Nat)(m:dc)(f:aF->a9 (List D)):TI:=λh H R =>
 ∃G e,cF X.K g G H e h/\a3 (f e) (λds=>∀d b a,Ext G H b a->g8 X.K (hH m b a) d ds->ds.length<=16777216->R d a) (λc=>dr xp X c H)
def sO{α:Type}{r:a9 α}{Q:α->Prop}(h:a3 (ζ.h7 r) Q E):∃a,r=.ok a/\Q a:=by
 cases r with
 |ok a=>exact⟨a,rfl,h⟩
 |exc c=>exact h.elim
 |bad=>exact h.elim
def cF.more{K:W.Frag}(h:cF K x G H m I)(l:∀i∈x,i<m.length)(r:aO K G y E):cF K x G H (m++y.map Z) (I++E.map Z) where
 len:=by rw[Oo,Oo,h.len,S5,S5,r.length]
 sub:=h.sub
 val:=λi d e f=>by
  by_cases c:i<m.length
  .rw[OF c]at e;obtain⟨v,a,b⟩:=h.val i d e f;exact⟨v,by rw[OF (by rw[<- h.len];exact c)];exact a,b⟩
  .rw[O7 ⋯,OG]at e;cases q:y[i-m.length]? with
   |none=>rw[q]at e;cases e
   |some w =>
    rw[q]at e;simp only[Uj,Px]at e;subst e;obtain⟨v,a,b⟩:=r.get q;exact⟨v,by rw[O7 (by rw[<- h.len];lia),OG,<- h.len,a];rfl,b⟩
 own:=λi d e f n=>by
  have c:=l i f;rw[OF c]at e;obtain⟨v,a,b⟩:=h.own i d e f n;exact⟨v,by rw[OF (by rw[<- h.len];exact c)];exact a,b⟩
 lst:=λi d e f n=>by
  have c:=l i f;rw[OF c]at e;obtain⟨a,o,g,k⟩:=h.lst i d e f n;exact⟨a,o,by rw[OF (by rw[<- h.len];exact c)];exact g,k⟩
 c2:=h.c2
 apart:=λi j ds B a b e1 p z A c t C g k=>by
  have s:=l i c;have u:=l j t;rw[OF s]at e1;rw[OF u]at p;rw[OF (by rw[<- h.len];exact s)]at g;rw[OF (by rw[<- h.len];exact u)]at k;exact h.apart i j ds B a b e1 p z A c t C g k
theorem zG:∀(b:List V)(a:bu)(gd:bu)(n:Nat),n=a.length->gd.length=b.length->jb (List.range' n b.length) b (a++gd)=a++b.map Z
 |[],a,gd,n,d,c=>by
  have:gd=[]:=(by simpa using c);subst this;rfl
 |v::b,a,gd,n,d,c=>by
  cases gd with
  |nil=>simp at c
  |cons t gd =>
   rw[To,List.range'_succ,jb];have e:(a++t::gd).set n (Z v)=(a++[Z v])++gd:=by
    rw[List.set_append_right _ _ ⋯,d];simp
   rw[e,zG b (a++[Z v]) gd (n+1) (by simp[d]) (by simpa using c)];simp
section
noncomputable def fU(k:Nat)(fc:aF->a9 Bool)(e:aF->a9 D)(c:aF)(d:D):a9 (Option D):=ζ.dC k d>>=λa=>fc (c++a)>>=λb=>if b then e (c++a)>>=λy=>.ok (Z y) else .ok Y
noncomputable def es(X:au)(a:U1)(c:List Tj)(s3:S9)(b:ag)(d:List Td)(e:List (Td×Uq)):au:=jv X (VG a (el X.env a.names []) s3.heap.objs.size X.env) c s3 b d e
def BO{d:D}{os:List (Option D)}(h:ζ.dC k d=.ok os):∃c:List D,os=c.map some:=by
 cases k with
 |zero=>cases h;exact⟨[d],rfl⟩
 |succ k =>
  cases d with
  |tup ds =>
   have b:ζ.dC (k+1) (.tup ds)=if ds.length=k+1 then .ok (ds.map Z) else .bad:=rfl;rw[b]at h
   by_cases a:ds.length=k+1
   .rw[if_pos a]at h;cases h;exact⟨ds,rfl⟩
   .rw[if_neg a]at h;cases h
  |_=>cases h
end
section
variable{xp:bS}{X:au}{ae:List Nat}{ox:aF->a9 (List D)}{fy:aF->a9 D}{fc:aF->a9 Bool}{elt target iter:Tq}{ifs:List Tq}{scope:U1}{pos:UN}{xs cS:List Tj}{k:Nat}
def kk(xp:bS)(X:au)(ae:List Nat)(scope:U1)(cS:List Tj)(ifs:List Tq)(fc:aF->a9 Bool):Prop :=
 (ifs=[]/\fc=λ_=>.ok J)\/∃(c:Tq)(b:aF->a9 D),ifs=[c]/\(fc=λf=>b f>>=ζ.ej)/\∀s3 a d e,dY (es X scope cS s3 a d e) c (eT xp (es X scope cS s3 a d e) ae b)
def MF(v:kk xp X ae scope cS ifs fc){l:bu}(I:Inv (es X scope cS s3 f g j) q l H s)(p:cF X.K ae G H m l)(i:fc m=.ok b)(o:∀s' a d,Inv (es X scope cS s3 f g j) q l d s'->Ext G H a d->Q b s'):
  Ta (Tc X.prog X.w) X.A (forIn ifs J λc r=>if r=J then do let w <- WB c (es X scope cS s3 f g j).env (T4 c (es X scope cS s3 f g j).env);pure (Uk w) else pure (Uk r)) Q (λ_ _=>False) s:=by
 rcases v with⟨rfl,rfl⟩|⟨c,u,rfl,rfl,h⟩
 .cases i;exact wpAny_tests_nil (o s G H I (Ext.refl p.sub))
 .refine wpAny_tests_one (Pj (h s3 f g j q s l H (λn d=>n=b/\∃a,Ext G H a d) I ⟨G,m,p,?_⟩) (λn s' ⟨d,t,e,a,x⟩=>?_) λ_ _ z=>z)
  .have i:(u m>>=ζ.ej)=.ok b:=i;rw[i];exact λa d x=>⟨rfl,a,x⟩
  .subst e;exact o s' a d t x
def BP{d:D}{os:List (Option D)}(a:ζ.dk k target=Z xs)(h:ζ.dC k d=.ok os):os.length=xs.length:=by
 cases k with
 |zero =>
  cases h;cases target with
  |Name x p=>simp only[ζ.dk,Px]at a;subst a;rfl
  |_=>simp only[ζ.dk]at a;cases a
 |succ k =>
  have f:xs.length=k+1:=by
   cases target with
   |Tuple c j p =>
    simp only[ζ.dk]at a;cases q:ζ.namesOf c with
    |none=>rw[q]at a;cases a
    |some g =>
     rw[q]at a;simp only at a
     by_cases hz:g.length=k+1
     .rw[if_pos hz]at a;cases a;exact hz
     .rw[if_neg hz]at a;cases a
   |_=>simp only[ζ.dk]at a;cases a
  cases d with
  |tup ds =>
   have e:ζ.dC (k+1) (.tup ds)=if ds.length=k+1 then .ok (ds.map Z) else .bad:=rfl;rw[e]at h
   by_cases b:ds.length=k+1
   .rw[if_pos b]at h;cases h;rw[S5,b,f]
   .rw[if_neg b]at h;cases h
  |_=>cases h
def Ha{a b:List D}(h:a.map Z=b.map Z):a=b:=by
 induction a generalizing b with
 |nil=>cases b with|nil=>rfl|cons _ _=>simp at h
 |cons x a c=>cases b with
  |nil=>simp at h
  |cons y b=>simp only[Tb,List.cons.injEq,Px]at h;rw[h.1,c h.2]
def qq(X:au)(e:List (Td×Uq))(g:bu)(G H:ag)(use:Option (S8->Sem Unit))(Qc:S8->S9->Prop)(ys:List D):Prop :=
 ∀(b:S9)(a d:ag)(C c:Td)(f:Tj->Option S8),Ext G H d a->bq X.K H d a .fresh (.lst ys) (.ref c)->b.heap.Ns C f->gh X e a C->(∀h',TA C b.heap h'->Inv X e g a { b with heap:=h' }) ->
  compPost (Tc X.prog X.w) X.A X.bk use Qc (.ref c) C (.ok .next) b
structure A0(X Y:au)(f:D->a9 (Option D))(ig:Nat->TH->Prop)(fA:List Td)(ds ys:List D)(xs:List Tj)(σ:bu)(nN eF:ag)(uj:Td)(n:Nat)(s':S9)(i:Nat)(gd:bu)(aD cv:ag)(ug rest:List D)(fg:List V):Prop where
 bY:n=ds.length-i
 cO:i<=ds.length
 fB:gd.length=xs.length
 EU:Inv Y [] (σ++gd) aD s'
 kN:ig i s'.heap
 kO:∀b∈fA,aD b=none
 kP:Ext nN eF cv aD
 kQ:aD uj=Z (.lst fg)
 kR:cv uj=none
 NX:aO X.K cv ug fg
 NY:ug.length<=i
 NZ:ζ.bN f (ds.drop i)=.ok rest
 N0:ys=ug++rest
def Dm{d:D}{r rest:List D}(h:ζ.bN (fU k fc fy f) (d::r)=.ok rest):∃(e:List D)(b:Bool)(l:List D),ζ.dC k d=.ok (e.map Z)/\fc (f++e.map Z)=.ok b /\
  ζ.bN (fU k fc fy f) r=.ok l/\((b=S6/\rest=l)\/∃y,b=J/\fy (f++e.map Z)=.ok y/\rest=y::l):=by
 simp only[ζ.bN]at h;cases a:fU k fc fy f d with
 |exc c=>rw[a]at h;cases h
 |bad=>rw[a]at h;cases h
 |ok o =>
 rw[a]at h;simp only[ζ.R.i3]at h;cases m:ζ.bN (fU k fc fy f) r with
 |exc c=>rw[m]at h;cases h
 |bad=>rw[m]at h;cases h
 |ok l =>
 rw[m]at h;simp only[ζ.R.i3]at h;unfold fU at a;cases i:ζ.dC k d with
 |exc c=>rw[i]at a;cases a
 |bad=>rw[i]at a;cases a
 |ok os =>
 rw[i]at a;simp only[ζ.R.i3]at a;obtain⟨e,rfl⟩:=BO i;cases g:fc (f++e.map Z) with
 |exc c=>rw[g]at a;cases a
 |bad=>rw[g]at a;cases a
 |ok b =>
 rw[g]at a;simp only[ζ.R.i3]at a;cases b with
 |false=>cases a;cases h;exact⟨e,S6,_,rfl,g,rfl,.inl ⟨rfl,rfl⟩⟩
 |true =>
  simp only[Pb]at a;cases j:fy (f++e.map Z) with
  |exc c=>rw[j]at a;cases a
  |bad=>rw[j]at a;cases a
  |ok y =>
  rw[j]at a;cases a;cases h;exact⟨e,J,_,rfl,g,rfl,.inr ⟨y,rfl,j,rfl⟩⟩
def CL(kJ:X.calm=J)(Gh:∀i∈ae,i<X.N.length)(B:jm X scope xs cS)(kK:ζ.dk k target=Z xs)(FY:∀s3 fk h s,ai (es X scope cS s3 fk h s) elt (aE xp (es X scope cS s3 fk h s) ae .val fy))(G2:kk xp X ae scope cS ifs fc){σ:bu}(kP:σ.length=X.N.length)(kO:cF X.K ae G H Q σ)(T:Turn X.prog X.w X.K target xh h kR en){s2 s3:S9}(oM:en 0 s2.heap)(gp:∀b∈h,gh X s g b)(ax:Ext G H E g)(dI:g8 X.K (hH .view E g) xh ds)(hz:ds.length<=16777216)(G5:ζ.bN (fU k fc fy Q) ds=.ok ys)(fin:qq X s σ G H use Qc ys)(bw:Inv X s σ (upd g f (.lst [])) s3)(aX:g f=Y)(l0:∀b∈h,b≠f)(mC:∀b o,s2.heap.get? b=Z o->s3.heap.get? b=Z o)(Gk:oE.Ns s3.heap.objs.size (λ_=>Y))(kL:∀b o,s3.heap.get? b=Z o->oE.get? b=Z o):
  Vb (Tc X.prog X.w) X.A (Code.compStart (elt.ListComp [{ target:=target,iter:=iter,ifs:=ifs,is_async:=0 }] scope pos) 0 (Th kR) (Th f) (VG scope (el X.env scope.names []) s3.heap.objs.size X.env))
   (compPost (Tc X.prog X.w) X.A X.bk use Qc (Th f) s3.heap.objs.size) { s3 with heap:=oE,toks:=tk }:=by
 have bb:∀b∈h,gh X s (upd g f (.lst [])) b:=λb a=>⟨by rw[bj (l0 b a)];exact(gp b a).1,(gp b a).2⟩
 have Gl:∀b∈h,∃o,s3.heap.get? b=Z o:=λb a=>by
  obtain⟨o,e,_⟩:=T.obj _ _ oM b a;exact⟨o,mC b o e⟩
 have b2:=BW (tk:=tk) bw bb Gl B Gk kL;generalize l:jv X (VG scope (el X.env scope.names []) s3.heap.objs.size X.env) cS s3 (upd g f (.lst [])) h s=w at b2;have oN:en 0 oE:=T.keep _ _ _ oM λb a o e=>kL b o (mC b o e)
 have i0:cF X.K ae E g Q σ:=kO.ext ax;have Gi:∀i∈ae,i<Q.length:=λi Ge=>by rw[kO.len,kP];exact Gh i Ge
 have cc:∀{aD:ag},(∀b∈h,aD b=Y)->∀b∈h,gh w [] aD b:=λGj b a=>by
  obtain⟨FU,gn,k0,gq,gP,b9⟩:=bb b a;obtain⟨e1,a0⟩:=b2.ok.r2 b (by rw[<- l];exact a);refine⟨Gj b a,e1,b2.ok.kB b (by rw[<- l];exact a),.inl (by rw[<- l];exact a),a0,λp kN=>?_⟩;rw[<- l]at kN;exact b9 p (by simpa[jv] using kN)
 have oG:Vb (Tc X.prog X.w) X.A (.compLoop (.ListComp elt [⟨target,iter,ifs,0⟩] scope pos) 0 (.ref kR) (.ref f) (VG scope (el X.env scope.names []) s3.heap.objs.size X.env))
   (compPost (Tc X.prog X.w) X.A X.bk use Qc (Th f) s3.heap.objs.size) { s3 with heap:=oE,toks:=tk }:=by
  refine CJ (λn s'=>∃(i:Nat)(R:bu)(aD C:ag)(aB rest:List D)(fg:List V),A0 X w (fU k fc fy Q) en h ds ys xs σ E g f n s' i R aD C aB rest fg) ?_ ds.length
   ⟨0,Tr xs.length Y,_,E,[],ys,[],by simp,OQ _,by simp,b2,oN,λb a=>(bb b a).1,Ext.own ax.sub aX (λ_ z=>nomatch z),cj,ax.sub.free aX,rfl,Ot _,by simpa using G5,rfl⟩
  rintro n s' ⟨i,R,aD,C,aB,rest,fg,rfl,N7,G6,fT,oL,hV,ao,cf,hX,ee,N8,a2,a7⟩;have cM:hH .view E g C aD:=⟨ao.g,ao.h⟩;have kI:w.calm=true:=(by rw[<- l];exact kJ);have cz:w.prog=X.prog:=(by rw[<- l];rfl);have cA:w.w=X.w:=(by rw[<- l];rfl);have g3:w.K=X.K:=(by rw[<- l];rfl);have g2:w.A=X.A:=by rw[<- l];rfl
  by_cases h0:i<ds.length
  .have cN:ds[i]?=Z ds[i]:=Ov h0;generalize ds[i]=d at cN;have FX:ds.drop i=d::ds.drop (i+1):=by
    have:=OK.mp cN;obtain⟨k2,k3⟩:=this;rw[<- k3];exact PC k2
   rw[FX]at a2;have mI:=T.item w cz cA g3 kI i [] s' (σ++R) aD (λ_ _=>False) fT (cc hV) oL (dI.go i C aD cM h0);rw[g2]at mI;refine aV mI λr M t=>?_
   obtain⟨u,a1,FV⟩:=t;subst a1;refine aV FV λ_ HF t=>?_
   obtain⟨x,bl,sk,iX,HU,ar,k1⟩:=t;obtain⟨S,aA,HB⟩:=dI.gF i C aD x bl d cM ao.sub cN HU;have sl:=sk.pinned (cc k1) (T.obj _ _ ar);obtain⟨a8,b,HD,oI,h6,oH,a⟩:=Dm a2;have G3:a8.length=xs.length:=(by have:=BP kK oI;simpa using this);subst l;have l1:ix (jv X (VG scope (el X.env scope.names []) s3.heap.objs.size X.env) cS s3 (upd g f (.lst [])) h s) target (oA X.K k (List.range' X.N.length xs.length)):=by
    refine yC (X:=jv X (VG scope (el X.env scope.names []) s3.heap.objs.size X.env) cS s3 (upd g f (.lst [])) h s) kJ B.dE kK (by simp) λj N9 y e1 a0=>?_
    rw[List.getElem?_range' (OK.mp a0).1]at e1;have G4:y∈xs:=Pn a0;have mD:(relabel scope X.env).names.lookup y=Z .local:=pB (B.dk y G4) ∅;cases e1;refine⟨?_,.inl mD,.inr mD⟩;show cS[X.N.length+1*j]?=Z y;rw[Nat.one_mul,B.new j];exact a0
   refine aV (l1 _ HF (σ++R) bl x u (λoO lV=>∃m:List V,oO=σ++m.map Z/\m.length=xs.length/\lV=bl/\aO X.K S a8 m) sl iX ⟨S,d,aA.sub,HB,?_⟩) λ_ Oa t=>?_
   .rw[oI];intro Oc m e r;have e:=Ha e;subst e;have c0:m.length=xs.length:=(by rw[<- r.length,G3]);refine⟨m,?_,c0,rfl,r⟩;rw[<- c0];exact zG m σ R X.N.length (kP.symm) (by rw[G6,c0])
   obtain⟨oO,lV,sm,m,xi,kQ,xk,HE⟩:=t;subst xi;subst xk;have eM:Ext E g S lV:=ao.trans aA;have oK:cF X.K ae S lV (Q++a8.map Z) (σ++m.map Z):=(i0.ext eM).more Gi HE;have f8:lV f=Z (.lst fg):=aA.h _ _ cf;have mM:S f=none:=aA.new f hX (by rw[cf];exact λz=>nomatch z);refine MF G2 sm oK h6 λHG U aC b1 N=>?_
   have cq:aC f=Z (.lst fg):=N.h _ _ f8;have iP:U f=none:=N.new f mM (by rw[f8];exact λz=>nomatch z);have oJ:aO X.K U aB fg:=(ee.mono aA.g).mono N.g;rcases a with⟨rfl,rfl⟩|⟨y,rfl,HA,rfl⟩
   .simp only[Om,OH];refine⟨ds.length-(i+1),⋯,i+1,m.map Z,aC,U,aB,rest,fg,rfl,⋯,by rw[S5];exact kQ,b1.lM,T.keep _ _ _ ar λb a o e=>(b1.pin (b,o) (Ow _ (Ow _ (la a e)))).1,λb a=>?_,eM.trans N,cq,iP,oJ,⋯,oH,a7⟩;obtain⟨dP,e,_⟩:=T.obj _ _ ar b a;exact(b1.pin (b,dP) (Ow _ (Ow _ (la a e)))).2.1
   .simp only[Pb];refine aV (FY s3 (upd g f (.lst [])) h s _ HG (σ++m.map Z) aC (λv jo=>∃A,Ext U aC A jo/\Rep X.K A y v) b1 ⟨U,Q++a8.map Z,oK.ext N,by rw[HA];exact λv A jo O ed=>⟨A,O,ed⟩⟩) λHS HH t=>?_
    obtain⟨a6,jo,so,ed,A,O,HC⟩:=t;have k5:jo f=Z (.lst fg):=O.h _ _ cq;have g1:A f=none:=O.new f iP (by rw[cq];exact λz=>nomatch z);have Gg:fg.length<sizeLine:=(by rw[<- ee.length,Tw];lia);refine aV (x1 (X:=es X scope cS s3 (upd g f (.lst [])) h s) _ HH (σ++m.map Z) jo (.ref f) [a6] (.ref f) [HS] (λ_ e0=>e0=upd jo f (.lst (fg++[a6]))) so rfl (.cons ed .nil) ⟨f,fg,a6,rfl,rfl,k5,Gg,rfl⟩) λ_ Ob t=>?_
    obtain⟨_,e0,cw,_,xj⟩:=t;subst xj;have ay:Ext E g A jo:=(eM.trans N).trans O;refine⟨ds.length-(i+1),⋯,i+1,m.map Z,_,A,aB++[y],HD,fg++[a6],rfl,⋯,by rw[S5];exact kQ,cw.lM,T.keep _ _ _ ar λb a o e=>(cw.pin (b,o) (Ow _ (Ow _ (la a e)))).1,λb a=>?_,
     ⟨ay.g,λb o e=>?_,λb o e=>?_,ay.new,λb xs e=>ay.c2 b xs (by
      by_cases q:b=f
      .subst q;rw[cj]at e;cases e
      .rw[bj q]at e;exact e)⟩,cj,g1,(oJ.mono O.g).snoc HC,by rw[Oo,TB];lia,oH,by rw[a7,Pk];rfl⟩
    .obtain⟨dP,e,_⟩:=T.obj _ _ ar b a;exact(cw.pin (b,dP) (Ow _ (Ow _ (la a e)))).2.1
    .rw[bj (f5 e aX)];exact ay.h b o e
    .rw[bj (f5 e g1)];exact ay.sub b o e
  .have Gf:i=ds.length:=⋯;subst Gf;have a1:rest=[]:=by
    rw[Sr]at a2;simp only[ζ.bN]at a2;cases a2;rfl
   subst a1;rw[Pa]at a7;subst a7;have done:=T.done w cz cA g3 kI ds.length [] s' (σ++R) aD (λ_ _=>False) fT (cc hV) oL (dI.stop C aD cM);rw[g2]at done;refine aV done λr M t=>?_
   obtain⟨a1,I⟩:=t;subst a1;obtain⟨G7,fB,_⟩:=I.loc;have cx:w.env.locals=s3.heap.objs.size:=(by rw[<- l];rfl);rw[cx]at fB;refine fin M aD C s3.heap.objs.size f G7 (ax.trans ao) ⟨f,fg,rfl,cf,ax.h.free aX,hX,ee⟩ fB (bw.kG (Ot _) (by have:=I.free;rw[cx]at this;exact this)) λh' a5=>?_
   have hW:aD s3.heap.objs.size=none:=(by have:=I.free;rw[cx]at this;exact this);have L:dt (eg X.stack) h (upd g f (.lst [])) aD s3.heap M.heap:=(by have:=I.base;rw[<- l]at this;exact this);have dv:∀b o,s3.heap.get? b=Z o->b≠s3.heap.objs.size:=λb o e=>OI (Ou e)
   have HT:dt (eg X.stack) h (upd g f (.lst [])) aD s3.heap h' :=
    ⟨λb o e n a aj=>(a5.2 b (dv b o e)).trans (L.keep b o e n a aj),λb o e n a aj=>by obtain⟨o0,q⟩:=L.slot b o e n a aj;exact⟨o0,(a5.2 b (dv b o e)).trans q⟩,L.free,
     λb o e aj=>by obtain⟨G8,q⟩:=L.there b o e aj;exact⟨G8,(a5.2 b (dv b o e)).trans q⟩,L.g5,L.gs,L.g4⟩
   have m0:cD X.prog X.w aD h':=λb o e=>by
    have q:=I.aK b o e;rw[cz,cA]at q;refine q.g0 (λc v FW q=>(a5.2 c ?_).trans q) (λ_ q=>q) λ_ _ q=>q
    rcases FW with z|z
    .rw[z];rintro rfl;rw[hW]at e;cases e
    .rintro rfl;rw[hW]at z;cases z
   have G9:M.os=s3.os:=(by have:=I.os;rw[<- l]at this;exact this);have xg:Inv X s σ aD { M with heap:=h' }:=bw.u0 (s':={ M with heap:=h' }) G9 HT m0 I.bare λb a=>by
    obtain⟨FU,gn,k0,gq,gP,b9⟩:=bb b a;exact⟨gq,gn,gP,b9⟩
   exact xg
 refine codeAny_compStart_list oG (T.self _ _ _ _ _ oN oG)
def vq(E:X.calm=J)(Q:∀i∈ae,i<X.N.length)(B:jm X scope xs cS)(O:ζ.dk k target=Z xs)(U:∀x,T7 iter X.env x=pure x)(N:fb X target iter (gC xp X ae .view ox))(M:∀s3 n l a,ai (es X scope cS s3 n l a) elt (aE xp (es X scope cS s3 n l a) ae .val fy))(a0:kk xp X ae scope cS ifs fc){d:bu}(I:Inv X a d H s)(r:cF X.K ae G H g d)(hw:a3 (ox g>>=λds=>ζ.h7 (ζ.bN (fU k fc fy g) ds)) (qq X a d G H use Qc) (λc=>dr xp X c H)):
  Ta (Tc X.prog X.w) X.A (comprehension (.ListComp elt [⟨target,iter,ifs,0⟩] scope pos) scope X.env b1 (Xq []) S6 (T4 iter X.env) use) Qc X.bk s:=by
 have L:closureFor scope X.env=pure (el X.env scope.names []):=Cq λx a1 e=>by
  have:=B.fr x a1 e;exact I.ok.has x.1 (by rcases this with q|q;exact .inl q;exact .inr q)
 refine wpAny_comprehension_free (use:=use) rfl U L B.kind B.names ?_;refine aV (N a s d H (λj h=>∃f ds ys,Ext G H f h/\g8 X.K (hH .view f h) j ds/\ds.length<=16777216/\ζ.bN (fU k fc fy g) ds=.ok ys/\qq X a d G H use Qc ys) I
  ⟨G,g,r,aW (aL.mp hw) (λds ar j f h x m hz=>?_) λ_ q=>q⟩) λv b2 w=>aV w λaC s2 A=>?_
 .obtain⟨ys,e,q⟩:=sO ar;exact⟨f,ds,ys,x,m,hz,e,q⟩
 obtain⟨aB,l,aX,j,ay,rfl,p,T,t,u,ax,ds,ys,ao,m,hz,aj,fin⟩:=A;refine OZ (wpAny_newFunctionEnv B.iZ (by intro y a2;simp at a2) (λaA R S=>?_) B.kind);refine CL (s2:=s2) (s3:={ s2 with heap:=s2.heap.push { cls:=.type "list",data:=.seq ([]:List S8).toArray } }) (tk:=s2.toks) E Q B O M a0 I.len r T t u ao m hz aj fin (p.xI (t':=s2.toks) (ys:=[]) (its:=[]) .nil (OQ _)) p.fresh (λb C z=>?_) (λb o e=>Ol _ e) (by simpa using R) λb o e=>S.extBut b o (OI (Ou e)) (Ol _ e)
 obtain⟨o,e,_⟩:=T.obj _ _ t b C;have:=Ou e;rw[z]at this;exact absurd this (Pq _)
def tn(h:X.calm=J)(n:∀i∈ae,i<X.N.length)(B:jm X scope xs cS)(m:ζ.dk k target=Z xs)(t:∀x,T7 iter X.env x=pure x)(l:fb X target iter (gC xp X ae .view ox))(j:∀s3 d e a,ai (es X scope cS s3 d e a) elt (aE xp (es X scope cS s3 d e a) ae .val fy))(u:kk xp X ae scope cS ifs fc):
  ai X (.ListComp elt [⟨target,iter,ifs,0⟩] scope pos) (aE xp X ae .fresh λb=>ox b>>=λds=>ζ.h7 (ζ.bN (fU k fc fy b) ds)>>=λys=>.ok (.lst ys)):=by
 rintro a s z H Q I ⟨G,b,p,hw⟩;rw[eval_ListComp];refine vq h n B m t l j u I p (use:=Y) (Qc:=c3 X a z Q) ?_;have hw:=aL.mp hw;refine aL.mpr (aW hw (λds k1=>?_) λ_ q=>q);refine aW (aL.mp k1) (λys k2 E c g C f w x r o A v=>?_) λ_ q=>q
 exact⟨w,o,λh' y=>⟨.ref f,c,v h' y,rfl,k2 _ g c x r⟩⟩
end
section
def IQ(m:ai X l u):fb X y l (λj H R=>u j H λx f=>∃a xs,x=.ref a/\((cp X.K f a xs/\(xs.length<=Tx->R (qv X.K a) f))\/(dN X.K f a xs/\(xs.length<=Tx->R (qw X.K a) f)))):=by
 intro n s j H R I h;refine aV (m n s j H _ I h) λv c w=>?_
 obtain⟨x,f,d,k,r⟩:=w;obtain⟨a,xs,e,⟨i,q⟩|⟨i,q⟩⟩:=r
 .subst e;cases k;obtain⟨its,t,p,hz⟩:=d.list i;refine wpAny_pyIter_list p.isList ?_;refine⟨c.heap.objs.size,[c.heap.objs.size],_,_,f,rfl,d.kept (t':=c.toks) λb o e=>Ol _ e,MX a _,⟨_,OA _ rfl,rfl,rfl⟩,λb g=>?_,q hz⟩;have e:b=c.heap.objs.size:=(by simpa using g);subst e;exact d.kG (Ot _) (d.aK.fresh (Ot _))
 .subst e;cases k;obtain⟨its,t,p,hz⟩:=d.tuple i;refine wpAny_pyIter_tuple (show c.heap.IsTuple a its.toArray from p) ?_;refine⟨c.heap.objs.size,[c.heap.objs.size],_,_,f,rfl,d.kept (t':=c.toks) λb o e=>Ol _ e,MZ a _,⟨_,OA _ rfl,rfl,rfl⟩,λb g=>?_,q hz⟩;have e:b=c.heap.objs.size:=(by simpa using g);subst e;exact d.kG (Ot _) (d.aK.fresh (Ot _))
def xc{K:W.Frag}(f:∀b c,P b c->aH G b/\cp K c a xs)(r:aO K G ds xs):g8 K P (qv K a) ds where
 go:=λi b c h m=>by
  obtain⟨_,q⟩:=f b c h;have o:i<xs.length:=(by rw[<- r.length];exact m);exact⟨xs,xs[i],q,Ov o⟩
 gF:=λi b c x s d h n l p=>by
  obtain⟨e,y⟩:=p;obtain⟨g,q⟩:=f b c h;subst e;obtain⟨v,j,k⟩:=r.get l;have:=y xs q;rw[j]at this;cases this;exact⟨b,Ext.refl n,k.mono g⟩
 stop:=λb c h=>⟨xs,(f b c h).2,by rw[r.length];exact Ot _⟩
def FI{K:W.Frag}(f:∀b c,P b c->aH G b/\dN K c a xs)(r:aO K G ds xs):g8 K P (qw K a) ds where
 go:=λi b c h m=>by
  obtain⟨_,q⟩:=f b c h;have o:i<xs.length:=(by rw[<- r.length];exact m);exact⟨xs,xs[i],q,Ov o⟩
 gF:=λi b c x s d h n l p=>by
  obtain⟨e,y⟩:=p;obtain⟨g,q⟩:=f b c h;subst e;obtain⟨v,j,k⟩:=r.get l;have:=y xs q;rw[j]at this;cases this;exact⟨b,Ext.refl n,k.mono g⟩
 stop:=λb c h=>⟨xs,(f b c h).2,by rw[r.length];exact Ot _⟩
def sv{K:W.Frag}(r:aO K G ds xs)(h:xs.length<=Tx):ds.length<=16777216:=by rw[r.length,<- Tw];exact h
def Kg(n:m=.view\/m=.val)(u:ai X l (aE xp X x m f)):fb X B l (gC xp X x m λo=>f o>>=λd=>ζ.cP d):=by
 rintro y s A H R I ⟨G,o,w,hw⟩;refine IQ u y s A H R I ?_;refine⟨G,o,w,aW (aL.mp hw) (λd k v e j h i=>?_) λ_ q=>q⟩;cases d with
 |lst ds =>
  rcases n with rfl|rfl
  .obtain⟨a,xs,rfl,b,r⟩:=hD (X:=X) i;exact⟨a,xs,rfl,.inl ⟨b,λhz=>k _ e j h (xc (G:=e) (λp t ⟨c,g⟩=>⟨c,gb g b⟩) r) (sv r hz)⟩⟩
  .obtain⟨a,xs,rfl,b,r⟩:=i;exact⟨a,xs,rfl,.inl ⟨gb h.sub b,λhz=>k _ e j h (xc (G:=e) (λp t ⟨c,g⟩=>⟨c,gb g (gb c b)⟩) r) (sv r hz)⟩⟩
 |tup ds =>
  have i:Rep X.K e (.tup ds) v:=(by rcases n with rfl|rfl<;>exact i);obtain⟨a,xs,rfl,b,r⟩:=i;refine⟨a,xs,rfl,.inr ⟨e9 h.sub b,λhz=>k _ e j h (FI (G:=e) (λp t z=>?_) r) (sv r hz)⟩⟩;obtain⟨c,g⟩:=z;rcases n with rfl|rfl
  .exact⟨c,zW g (e9 h.sub b)⟩
  .exact⟨c,zW g (e9 c b)⟩
 |_=>exact k.elim
def FH{K:W.Frag}{lo b:Int}:g8 K P (lX lo (b-lo).toNat) (ζ.c9 lo b) where
 go:=λi c f _ g=>by
  show i<(b-lo).toNat;unfold ζ.c9 at g;simpa using g
 gF:=λi c f x m d _ j a l=>by
  obtain⟨e,y⟩:=l;subst e;unfold ζ.c9 at a;rw[OG]at a;cases q:(Tp (b-lo).toNat)[i]? with
  |none=>rw[q]at a;cases a
  |some k =>
   rw[q]at a;have h:k=i:=by
    have:=OK.mp q;obtain⟨_,e⟩:=this;rw[<- e];simp
   subst h;cases a;exact⟨c,Ext.refl j,y⟩
 stop:=λc f _=>by
  show(b-lo).toNat<=_;unfold ζ.c9;simp
def zh{Q:List D->Prop}(h:a3 (ζ.ic i j) Q E):(-(2 ^ 62)<=i/\i<2 ^ 62/\-(2 ^ 62)<=j/\j<2 ^ 62)/\(ζ.c9 i j).length<=16777216/\Q (ζ.c9 i j):=by
 unfold ζ.ic at h;cases q:(ζ.jX i&&ζ.jX j&&decide ((j-i).toNat<=1000000)) with
 |false=>rw[q]at h;exact h.elim
 |true =>
  rw[q]at h;simp only[Oi,ζ.jX,Oz]at q;obtain⟨⟨⟨a1,a⟩,b,c⟩,d⟩:=q;refine⟨⟨⋯,⋯,⋯,⋯⟩,?_,h⟩;unfold ζ.c9;rw[S5,Uu];lia
def Ku{x:Tj}(o:x="range")(j:cQ X x)(l:X.aG x=Y)(h:ai X a (aE xp X r .view g))(c:Tu [a] X.env=[(S6,T4 a X.env)]):
  fb X z (.Call (.Name x p) [a] [] pos) (gC xp X r m λb=>g b>>=λd=>ζ.ek d>>=λi=>ζ.ic 0 i):=by
 subst o;rintro t s y H R I ⟨G,b,n,hw⟩;refine IP j l (f7 h c) c t s y H R I ?_;refine⟨G,b,n,aW (aL.mp hw) (λd k v e f w u=>?_) λ_ q=>q⟩;have k:=aL.mp k;cases d with
 |int i =>
  obtain⟨⟨_,_,b1,b2⟩,hz,q⟩:=zh k;refine⟨i,by rw[bq.pd u],b1,b2,?_⟩;have:=q (lX 0 (i-0).toNat) e f w FH hz;rw[Int.sub_zero]at this;exact this
 |_=>exact k.elim
end
section
variable{xp:bS}{X:au}{ae:List Nat}{m:dc}{f bo b6:aF->a9 D}{l a b eC:Tq}{pos p:UN}{pins:List (Td×Uq)}{σ:bu}{G H:ag}{s:S9}
def tr(e:aH G H)(c:View X.K G H d x){Q:List D->Prop}(h:a3 (ζ.cP d) Q E):∃ds a xs,x=.ref a/\(cp X.K H a xs\/dN X.K H a xs)/\aO X.K G ds xs/\Q ds:=by
 cases d with
 |tup ds =>
  obtain⟨a,ys,rfl,k,q⟩:=jk e c;exact⟨ds,a,ys,rfl,.inr k,q,h⟩
 |lst ds =>
  obtain⟨a,ys,rfl,k,q⟩:=hD c;exact⟨ds,a,ys,rfl,.inl k,q,h⟩
 |_=>exact h.elim
end
section
def EO{lo c:Option Int}(b:Xs s.heap t a)(d:s.heap.IsSliceOf e m n .none)(k:VK m lo)(l:VK n c)(hw:bL.aQ a.size 0 lo=0/\bL.aQ a.size a.size c=a.size)(h:Q (.ref t) s):Ta (Tc prog w) A (Vd (.ref t) (.ref e)) Q E s:=by
 obtain⟨os,i,g,o⟩:=id d;have f:s.TypeIs (.ref e) "slice":=⟨os,i,g⟩;unfold Vd
 try with_reducible refine Pr ?_
 first|refine Oh (Oj ?_)|skip
 refine Oh (wpAny_sequenceKey b.typeIs ∅ ?_);refine Oh (PH (name:=Ud "__getitem__") b.typeIs Pe
  (Pt Pe b.typeIs Wr ?_ (args_tuple_getitem _ _)))
 show Ta _ _ (Vh (.ref t)>>=_) _ _ s;refine Oh (PyProof.Rows.tupleItemsOf_ b ?_);refine Oh (Qj f ?_);rw[if_pos ∅];refine Oh (bL.zL d k l ?_);have j:(((bL.aQ a.size 0 lo:Nat):Int)==0&&(1:Int)==1&&(bL.aQ a.size a.size c-bL.aQ a.size 0 lo)==a.size)=true:=by
  rw[hw.1,hw.2];simp
 show Ta _ _ (if (((bL.aQ a.size 0 lo:Nat):Int)==0&&(1:Int)==1&&(bL.aQ a.size a.size c-bL.aQ a.size 0 lo)==a.size)=J then _ else _) _ _ s;rw[if_pos j];unfold Builtin.Tuple.tupleIsExact;refine Oh (Oh (Qj b.typeIs (Oj ?_)));rw[if_pos ∅];refine Oh (Sy (Oj ⟨_,rfl,Oj h⟩))
end
section
variable{xp:bS}{X:au}{ae:List Nat}{m:dc}{f bo b6:aF->a9 D}{wu fh:aF->a9 (Option Int)}{a b eC:Tq}{lo aw:Option Tq}{pos p p2:UN}{pins:List (Td×Uq)}{σ:bu}{G H:ag}{s:S9}
def pE(n d)(o):ζ.aQ n d o=bL.aQ n d o:=by
 cases o with
 |none=>rfl
 |some i =>
  simp only[ζ.aQ,bL.aQ]
  by_cases h:i<0
  .rw[if_pos h,if_pos h];split<;>lia
  .rw[if_neg h,if_neg h];split<;>lia
def vt{K:W.Frag}(r:aO K G ds xs)(lo aw):aO K G (ζ.cut ds lo aw) (hN xs lo aw):=by
 unfold ζ.cut hN;rw[pE,pE,r.length];exact(r.drop _).take _
noncomputable def lI(xp:bS)(X:au)(ae:List Nat)(f:aF->a9 (Option Int)):ki:=λσ H Q =>
 ∃G e,cF X.K ae G H e σ/\a3 (f e) (λo=>∀g d,Ext G H g d->Q o d) (λc=>dr xp X c H)
def Kl:g9 X Y (lI xp X ae λ_=>.ok Y):=by
 rintro pins s σ H Q I ⟨G,d,c,hw⟩;exact IY pins s σ H Q I (hw G H (Ext.refl c.sub))
def Ko(h:ai X a (aE xp X ae .view bo)):g9 X (Z a) (lI xp X ae λc=>bo c>>=λx=>ζ.ek x>>=λi=>.ok (Z i)):=by
 rintro pins s σ H Q I ⟨G,c,j,hw⟩;refine IZ h pins s σ H Q I ?_;refine⟨G,c,j,aW (aL.mp hw) (λd k v e g n l=>?_) λ_ q=>q⟩;cases d with
 |int i=>exact⟨i,bq.pd l,k e g n⟩
 |_=>exact k.elim
noncomputable def Jm(K:W.Frag):V->Option Int->Option Int->ag->ck->Prop:=λx lo aw H Q =>
 ∃G d,aH G H/\View K G H d x/\a3 (ζ.gB d lo aw) (λd'=>∀v e c,Ext G H e c->bq K H e c .fresh d' v->Q v c) (λ_=>False)
def K3:l5 X (λx lo aw H Q=>∃a xs,x=.ref a/\dN X.K H a xs/\(bL.aQ xs.length 0 lo=0/\bL.aQ xs.length xs.length aw=xs.length)/\Q (.ref a) H):=by
 intro pins s σ H x v n o lo aw l Q I k e i j h;obtain⟨a,xs,rfl,g,hw,q⟩:=h;cases k;obtain⟨its,r,c,hz⟩:=I.tuple g;have d:its.toArray.size=xs.length:=by rw[OE];exact r.length.symm
 refine⟨"tuple",_,Pe.lookup,c.typeIs,?_⟩;exact EO c e i j (by rw[d];exact hw) ⟨.ref a,H,I,rfl,q⟩
def CQ{ds:List D}{lo aw:Option Int}(h:bL.aQ ds.length 0 lo=0/\bL.aQ ds.length ds.length aw=ds.length):ζ.cut ds lo aw=ds:=by
 unfold ζ.cut;rw[pE,pE,h.1,h.2];simp
def K2:l5 X (Jm X.K):=by
 rintro pins s σ H x v o q lo aw n Q I l h i j ⟨G,d,e,t,hw⟩;cases d with
 |tup ds =>
  obtain⟨a,xs,rfl,k,r⟩:=jk e t
  by_cases g:bL.aQ xs.length 0 lo=0/\bL.aQ xs.length xs.length aw=xs.length
  .refine K3 pins s σ H _ v o q lo aw n Q I l h i j ⟨a,xs,rfl,k,g,?_⟩;rw[ζ.nu,CQ (by rw[r.length];exact g)]at hw;exact hw _ G H (Ext.refl e) t
  .refine K6 pins s σ H _ v o q lo aw n Q I l h i j ⟨a,xs,rfl,k,g,λp c=>?_⟩;rw[ζ.nu]at hw;exact hw _ (upd G p (.tup (hN xs lo aw))) _ (Ext.put e c) ⟨p,_,rfl,cj,(vt r lo aw).mono (d3 (e.free c))⟩
 |lst ds =>
  obtain⟨a,xs,rfl,k,r⟩:=hD t;refine K4 pins s σ H _ v o q lo aw n Q I l h i j ⟨a,xs,rfl,k,λp c=>?_⟩;rw[ζ.zN]at hw;exact hw _ G _ (Ext.own e c λ_ z=>nomatch z) ⟨p,_,rfl,cj,c,e.free c,vt r lo aw⟩
 |_=>exact hw.elim
def K5{d:D}{lo aw:Option Int}:ζ.gB d lo aw≠.exc c:=by cases d<;>simp[ζ.gB]
def Kw(z:ai X a (aE xp X ae .view bo))(B:g9 X lo (lI xp X ae wu))(A:g9 X aw (lI xp X ae fh)):
  ai X (.Subscript a (.Slice lo aw Y p2) pos) (aE xp X ae .fresh λe=>bo e>>=λx=>wu e>>=λl=>fh e>>=λh=>ζ.gB x l h):=by
 rintro pins s σ H Q I ⟨G,e,n,hw⟩;refine ID K2 z B A pins s σ H Q I ?_;refine⟨G,e,n,aW (aL.mp hw) (λy C v o O g E=>?_) λ_ q=>q⟩;refine⟨o,e,n.ext g,aW (aL.mp C) (λl k r R i=>?_) λ_ q=>q.mono g.h⟩;refine⟨r,e,(n.ext g).ext i,aW (aL.mp k) (λh k2 t S j=>?_) λ_ q=>(q.mono g.h).mono i.h⟩;refine⟨t,y,j.sub,View.ext j (View.ext i E),?_⟩;exact aW (lQ k2 (λc=>K5)) (λd q M u w N L=>q M u w (((g.trans i).trans j).trans N) (((L.old j.h).old i.h).old g.h)) λ_ q=>q
end
section
def uz(prog:TK)(w:TU)(A:TO)(a:List S8)(d:S9)(Q:S8->S9->Prop):Prop :=
 ∃(κ:UT)(lt:Nat->Nat->Bool),Tm.Ord lt/\(∀i j,i<a.length->j<a.length->a.getD i Value.none=a.getD j Value.none->∀k,lt i k=lt j k/\lt k i=lt k j)/\a.length<64 /\
   (2<=a.length->∀(h':TH),(∀b o,d.heap.get? b=Z o->h'.get? b=Z o)->∀e:UT->S9->Prop,e κ { d with heap:=h' }->Ta (Tc prog w) A (WV a.toArray) e (λ_ _=>False) { d with heap:=h' }) /\
   (2<=a.length->∀(h':TH),(∀b o,d.heap.get? b=Z o->h'.get? b=Z o)->∀(i j:Nat)(C:Bool->S9->Prop),i<a.length->j<a.length->C (lt i j) { d with heap:=h' }->PySem.W.kas_ask prog w A κ a i j C { d with heap:=h' }) /\
   ∀p:List Nat,p.Perm (Tp a.length)->p.Pairwise (λi j=>lt j i=S6)->∀(h':TH)(c:Nat),(∀b o,d.heap.get? b=Z o->h'.get? b=Z o)->h'.get? d.heap.objs.size=Z (Ul "list" (p.map λi=>a.getD i Value.none).toArray c)->Q (.ref d.heap.objs.size) { d with heap:=h' }
def pO(l:Ta (Tc prog w) A.in1 (Wq B) (λd a=>uz prog w A.in1.in1 d a Q) (λ_ _=>False) s):Ta (Tc prog w) A (call (.builtin "sorted") [B]) Q E s:=by
 refine Calls.call_function_entry kind_sorted plain_sorted entry_sorted (args_sorted1 _) ?_;unfold Uh.«sorted»;refine Oh (m:=checkCount "sorted" 1 1 _) (Oj ?_);refine Oh (Pj l (λd a y=>?_) λ_ _ z=>z.elim);obtain⟨κ,lt,j,x,i,t,n,v⟩:=y;refine Oh (SU ?_ (by rw[Tw];lia));have g:(a.heap.push (Ul "list" d.toArray 0)).get? a.heap.objs.size=Z (Ul "list" d.toArray 0):=OA _ rfl;have f:∀{h':TH},(∀b o,b≠a.heap.objs.size->(a.heap.push (Ul "list" d.toArray 0)).get? b=Z o->h'.get? b=Z o)->∀b o,a.heap.get? b=Z o->h'.get? b=Z o:=λu b o q =>
  u b o (OI (Ou q)) (Ol _ q)
 show Ta _ _ _ _ _ { a with heap:=a.heap.push (Ul "list" d.toArray 0) };refine Oh (Pr (Pt slot_list_sort ⟨_,g,rfl⟩ entry_list_sort ?body (args_list_sort _)))
 case body =>
  refine Tm.GO (s:={ a with heap:=a.heap.push (Ul "list" d.toArray 0) }) (κ:=κ) (lt:=lt) j x g i (λe h' k h q=>?_) (λe h' k=>n e h' (f k)) λp p1 p2 h' c k r=>?_
  .exact Pj (t e h' (f k) h q) (λ_ _ z=>z) λ_ _ z=>z.elim
  .exact⟨_,rfl,Oj ⟨_,rfl,v p p1 p2 h' c (f k) r⟩⟩
end
noncomputable abbrev cn(c:List Int):D:=aq.af c
def ints_of{ds:List D}(h:ds.all (ζ.dK 0)=J):∃ns:List Int,ds=ns.map ζ.D.int:=o3 h
theorem lJ:∀{ds:List D},ds.all ζ.fY=J->∃a:List (List Int),ds=a.map cn/\∀k∈a,k≠[]
 |[],_=>⟨[],rfl,by simp⟩
 |d::ds,h=>by
  simp only[Un,Oi]at h;obtain⟨a,rfl,f⟩:=lJ h.2;cases d with
  |tup xs =>
   cases xs with
   |nil=>cases h.1
   |cons x xs =>
    have b:(ζ.dK 0 x&&xs.all (ζ.dK 0))=true:=h.1;have b:(x::xs).all (ζ.dK 0)=true:=b;obtain⟨ns,e⟩:=o3 b;refine⟨ns::a,by rw[e];rfl,λk c=>?_⟩;rcases Oq.mp c with rfl|c
    .rintro rfl;cases e
    .exact f k c
  |_=>cases h.1
section
theorem tU{A:bu}(I:Inv X B A H s)(d:aH G H):∀{b:List (List Int)}{xs:List V}{g:List S8},(∀k∈b,k≠[])->aO X.K G (b.map cn) xs->Vals xs g->dq.ec s.heap g b
 |[],_,_,_,r,v=>by cases r;cases v;exact trivial
 |k::b,_,_,c,y,v=>by
  obtain⟨x,t,e,m,p⟩:=y;subst e;cases v with
  |cons u w =>
   obtain⟨a,ys,rfl,h,q⟩:=m;cases u;obtain⟨its,f,⟨o,l,i,n,j⟩,_⟩:=I.tuple (e9 d h);rw[gA q]at f;exact⟨⟨a,o,its.toArray,n,rfl,l,i,j,by simpa using intsAre_of f,c k S7⟩,tU I d (λz hz=>c z (S4 _ hz)) p w⟩
theorem u7:∀{ds:List D},ds.all ζ.jJ=J->∃cs:List (List (List Int)),ds=cs.map aq.mi/\(∀c∈cs,c≠[])/\∀c∈cs,∀k∈c,k≠[]
 |[],_=>⟨[],rfl,by simp,by simp⟩
 |d::ds,h=>by
  simp only[Un,Oi]at h;obtain⟨cs,rfl,b,f⟩:=u7 h.2;cases d with
  |tup xs =>
   cases xs with
   |nil=>cases h.1
   |cons x xs =>
    have g:(x::xs).all ζ.fY=true:=h.1;obtain⟨c,e,i⟩:=lJ g;refine⟨c::cs,by rw[e];rfl,λk a=>?_,λk a=>?_⟩
    .rcases Oq.mp a with rfl|a
     .rintro rfl;cases e
     .exact b k a
    .rcases Oq.mp a with rfl|a
     .exact i
     .exact f k a
  |_=>cases h.1
theorem Ar{B:bu}(I:Inv X C B H s)(b:aH G H):∀{cs:List (List (List Int))}{xs:List V}{g:List S8},(∀c∈cs,c≠[])->(∀c∈cs,∀k∈c,k≠[])->aO X.K G (cs.map aq.mi) xs->Vals xs g->dq.fQ s.heap g cs
 |[],_,_,_,_,r,v=>by cases r;cases v;exact trivial
 |c::cs,_,_,f,d,A,v=>by
  obtain⟨x,t,e,m,p⟩:=A;subst e;cases v with
  |cons w y =>
   obtain⟨a,ys,rfl,h,q⟩:=m;cases w;obtain⟨its,u,⟨o,l,i,n,j⟩,_⟩:=I.tuple (e9 b h);exact⟨⟨a,o,its.toArray,n,rfl,l,i,j,by simpa using tU I b (d c S7) q u,f c S7⟩,Ar I b (λz hz=>f z (S4 _ hz)) (λz hz=>d z (S4 _ hz)) p y⟩
theorem zb{K:W.Frag}(r:aO K G ds xs)(v:Vals xs b):∀{p:List Nat},(∀i∈p,i<ds.length) ->
  ∃ys,aO K G (p.map λi=>ds.getD i .bG) ys/\Vals ys (p.map λi=>b.getD i Value.none)
 |[],_=>⟨[],rfl,.nil⟩
 |i::p,h=>by
  obtain⟨ys,d,f⟩:=zb r v (p:=p) λj g=>h j (S4 _ g)
  have a:=h i S7;have e:ds[i]?=Z (ds.getD i .bG):=(by rw[Ov a];simp[Ui,Ov a]);obtain⟨y,k1,k2⟩:=r.get e;obtain⟨u,k3,k⟩:=v.get k1;have c:b.getD i Value.none=u:=(by simp[Ui,k3]);exact⟨y::ys,⟨y,ys,rfl,k2,d⟩,by rw[Tb,c];exact .cons k f⟩
def ti{K:W.Frag}{κ:Type}{f:κ->D}{lt:κ->κ->Bool}(L:aq.eH lt)(l:∀a b,ζ.hq (f a) (f b)=Z (lt a b))(z){c:List κ}(r:aO K G (c.map f) xs)(v:Vals xs h){p:List Nat}(g:p.Perm (Tp h.length))(k:p.Pairwise (λi j=>dq.ltI lt z c j i=S6)):
  ∃ys,aO K G (ζ.eB (c.map f)) ys/\Vals ys (p.map λi=>h.getD i Value.none):=by
 have m:h.length=c.length:=by rw[<- v.length,<- r.length,S5]
 rw[m]at g;rw[aq.hy l,<- dq.Le L z c g k,Ti];obtain⟨ys,k1,k2⟩:=zb r v (p:=p) λi d=>by
  have:=g.mem_iff.mp d;rw[S5];simpa using this
 refine⟨ys,?_,k2⟩;have e:(p.map λi=>(c.map f).getD i .bG)=p.map (f ∘ λi=>c.getD i z):=by
  apply PS;intro i d;have d:i<c.length:=(by simpa using g.mem_iff.mp d);simp[Ui,OG,Ov d]
 rw[<- e];exact k1
def pN{M:bu}(aj:X.A.handled=Y)(ar:X.A.units+64<TS)(I:Inv X R M H s)(x:aH G H)(r:aO X.K G ds xs)(v:Vals xs m)(B:(ζ.hs ds||ds.all ζ.jJ)=J)(a2:ds.length<=63)(k:∀v N y,Ext G H N y->bq X.K H N y .fresh (.lst (ζ.eB ds)) v->Q v y):uz X.prog X.w X.A.in1.in1 m s (c3 X R M Q):=by
 have T:m.length=ds.length:=by rw[<- v.length,<- r.length]
 have fin:∀{w:List S8}{ys:List V}(h':TH)(c:Nat),aO X.K G (ζ.eB ds) ys->Vals ys w->w.length=m.length->(∀b o,s.heap.get? b=Z o->h'.get? b=Z o)->h'.get? s.heap.objs.size=Z (Ul "list" w.toArray c)->c3 X R M Q (.ref s.heap.objs.size) { s with heap:=h' }:=λ{w ys} h' c a1 S a0 l g=>by
  refine⟨.ref s.heap.objs.size,_,I.laid (t':=s.toks) (o:=.lst ys) l (Ot _) ⟨by rw[S.length,a0,T,Tw];lia,w,c,S,g⟩,rfl,?_⟩;exact k _ G _ (Ext.own x I.fresh λ_ z=>nomatch z) ⟨_,ys,rfl,cj,I.fresh,x.free I.fresh,a1⟩
 have L:∀{p:List Nat},p.Perm (Tp m.length)->(p.map λi=>m.getD i Value.none).length=m.length:=λh=>by rw[S5,h.length_eq,Uu]
 unfold ζ.hs at B;rw[PF,PF]at B;rcases B with(h|h)|h
 .obtain⟨ns,rfl⟩:=ints_of h;have A:TR m ns:=(by rw[gA r]at v;exact intsAre_of v);refine⟨oneType',dq.ltI aq.ltI 0 ns,dq.sW aq.hp 0 ns,dq.sU (dq.F2 A),⋯,λd h' _ O q=>dq.F9 A d q,λd h' _ i j C n t q=>dq.BB A i j C n t q,λp p1 p2 h' c l g=>?_⟩;obtain⟨ys,k1,k2⟩:=ti aq.hp (f:=ζ.D.int) (λ_ _=>rfl) 0 r v p1 p2;exact fin h' c k1 k2 (L p1) l g
 .obtain⟨u,rfl,E⟩:=lJ h;have e:=tU I x E r v;refine⟨WW J,dq.ltI aq.lexLt [] u,dq.sW aq.e5 [] u,dq.sU (dq.F7 e),⋯,λd h' k O q=>dq.Ga (s:={ s with heap:=h' }) (e.kept k) d q,λd h' k i j C n t q=>dq.BC (s:={ s with heap:=h' }) (e.kept k) i j C n t q,λp p1 p2 h' c l g=>?_⟩;obtain⟨ys,k1,k2⟩:=ti aq.e5 (f:=cn) (λa b=>aq.h4 a b) [] r v p1 p2;exact fin h' c k1 k2 (L p1) l g
 .obtain⟨u,rfl,E,U⟩:=u7 h;have e:=Ar I x E U r v;refine⟨WW S6,dq.ltI aq.dT [] u,dq.sW aq.xD [] u,dq.sU (dq.F8 e),⋯,λd h' k O q=>dq.Gb (s:={ s with heap:=h' }) (e.kept k) d q,λd h' k i j C n t q=>dq.BD (s:={ s with heap:=h' }) (by show X.A.units+1+1+2<TS;lia) (e.kept k) i j C n t q,λp p1 p2 h' c l g=>?_⟩;obtain⟨ys,k1,k2⟩:=ti aq.xD (f:=aq.mi) (λa b=>aq.GZ a b) [] r v p1 p2;exact fin h' c k1 k2 (L p1) l g
end
section
def AV{ds:List D}{Q:D->Prop}(h:a3 (ζ.sorted ds) Q E):(ζ.hs ds||ds.all ζ.jJ)=J/\ds.length<=63/\Q (.lst (ζ.eB ds)):=by
 unfold ζ.sorted at h;cases q:((ζ.hs ds||ds.all ζ.jJ)&&decide (ds.length<=63)) with
 |false=>rw[q]at h;exact h.elim
 |true =>
  rw[q]at h;rw[Oi,Oz]at q;exact⟨q.1,q.2,h⟩
def El(t:X.calm=J)(l:X.A.units+64<TS):eV X (.builtin "sorted") (i6 X.K .fresh λd=>ζ.cP d>>=λxs=>ζ.sorted xs):=by
 rintro m s n H xs y Q I r ⟨G,x,d,p,g,w,hw⟩;subst p;obtain⟨u,rfl,v⟩:=vals1 r;obtain⟨ds,a,ys,rfl,c,rs,hw⟩:=tr g w (aL.mp hw);obtain⟨k,i,hw⟩:=AV hw;have j:X.A.handled=none:=I.ok.hd t;cases v;rcases c with c|c
 .obtain⟨its,e,h,hz⟩:=I.list c;refine pO (collect_list h.isList ?_ (by rw[<- e.length];exact hz));have f:Inv X m n H { s with heap:=(s.heap.push (Ul "list" #[] 0)).update s.heap.objs.size (TX (·++its.toArray)) }:=I.kept (t':=s.toks) λb o q=>(OR _ _ (Pd (OI (Ou q)))).trans (Ol _ q)
  exact pN j l f g rs e k i hw
 .obtain⟨its,e,h,hz⟩:=I.tuple c;refine pO (Pv.CH (show s.heap.IsTuple a its.toArray from h) ?_ (by rw[<- e.length];exact hz));have f:Inv X m n H { s with heap:=(s.heap.push (Ul "list" #[] 0)).update s.heap.objs.size (TX (·++its.toArray)) }:=I.kept (t':=s.toks) λb o q=>(OR _ _ (Pd (OI (Ou q)))).trans (Ol _ q)
  exact pN j l f g rs e k i hw
end
structure b8(K:W.Frag)(ae:List Nat)(bE a4 G H:ag)(aa:aF)(σ:bu):Prop where
 aS:cF K ae G H aa σ
 ext:Ext bE a4 G H
 own:∀(i:Nat)(d:D)(a:Td),aa[i]?=Z (Z d)->eP d=J->i∈ae->σ[i]?=Z (Z (V.ref a))->a4 a=Y
noncomputable def fz(K:W.Frag)(e:List Nat)(a b:ag)(T:Ends):ζ.c4->Prop
 |.aU f=>∀c G H,b8 K e a b G H f c->T.aU c H
 |.bK d=>∀v G H,Ext a b G H->Rep K G d v->T.bK v H
noncomputable def b3(xp:bS)(X:au)(d:List Nat)(f:aF->a9 ζ.c4):eu:=λT g H =>
 ∃b a G e,b8 X.K d b a G H e g/\a3 (f e) (fz X.K d b a T) (λc=>dr xp X c a)
def c5{α:Type}{l:List α}{a:α}(h:i≠j):(l.set i a)[j]?=l[j]?:=Qh h
def get_eq{α:Type}{l:List α}{a b:α}(h:(l.set i a)[i]?=Z b):i<l.length/\b=a:=by
 rw[List.getElem?_set_self']at h;cases q:l[i]? with
 |none=>rw[q]at h;cases h
 |some c=>rw[q]at h;exact⟨(OK.mp q).1,(O1 h).symm⟩
def pI{α:Type}{l:List α}{a:α}(h:i<l.length):(l.set i a)[i]?=Z a:=by simp[h]
section
variable{K:W.Frag}{ae:List Nat}{bE a4 G H cv aD:ag}{aa:aF}{σ:bu}{i:Nat}{d:D}{v:V}
def cF.jc(h:cF K ae G H aa σ)(g:i∉ae)(r:Rep K G d v):cF K ae G H (aa.set i (Z d)) (σ.set i (Z v)) where
 len:=by rw[Qg,Qg];exact h.len
 sub:=h.sub
 val:=λj e q f=>by
  by_cases c:i=j
  .subst c;obtain⟨l,m⟩:=get_eq q;cases m;exact⟨v,pI (by rw[<- h.len];exact l),r⟩
  .rw[c5 c]at q ⊢;exact h.val j e q f
 own:=λj e q f n=>by
  have c:i≠j:=λz=>g (z▸f)
  rw[c5 c]at q ⊢;exact h.own j e q f n
 lst:=λj e q f n=>by
  have c:i≠j:=λz=>g (z▸f)
  rw[c5 c]at q;obtain⟨a,o,l,m⟩:=h.lst j e q f n;exact⟨a,o,by rw[c5 c];exact l,m⟩
 c2:=h.c2
 apart:=λj k d e a b t u x y f s A e1 p=>by
  have c:i≠j:=λz=>g (z▸f)
  have w:i≠k:=λz=>g (z▸s)
  rw[c5 c]at t e1;rw[c5 w]at u p;exact h.apart j k d e a b t u x y f s A e1 p
def cF.set_own(h:cF K ae G H aa σ)(A:i∈ae)(s:eP d=S6)(r:Rep K G d v):cF K ae G H (aa.set i (Z d)) (σ.set i (Z v)) where
 len:=by rw[Qg,Qg];exact h.len
 sub:=h.sub
 val:=λj e q g=>by
  have c:i≠j:=λz=>g (z▸A)
  rw[c5 c]at q ⊢;exact h.val j e q g
 own:=λj e q g m=>by
  by_cases c:i=j
  .subst c;obtain⟨l,f⟩:=get_eq q;cases f;exact⟨v,pI (by rw[<- h.len];exact l),r⟩
  .rw[c5 c]at q ⊢;exact h.own j e q g m
 lst:=λj e q g m=>by
  by_cases c:i=j
  .subst c;obtain⟨l,f⟩:=get_eq q;cases f;rw[s]at m;cases m
  .rw[c5 c]at q;obtain⟨a,o,l,f⟩:=h.lst j e q g m;exact⟨a,o,by rw[c5 c];exact l,f⟩
 c2:=h.c2
 apart:=λj k d e a b t u n p g y B e1 w=>by
  have c:i≠j:=λz=>by subst z;obtain⟨l,f⟩:=get_eq t;cases f;rw[s]at n;cases n
  have x:i≠k:=λz=>by subst z;obtain⟨l,f⟩:=get_eq u;cases f;rw[s]at p;cases p
  rw[c5 c]at t e1;rw[c5 x]at u w;exact h.apart j k d e a b t u n p g y B e1 w
def cF.KW(h:cF K ae G H aa σ)(M:i∈ae)(L:eP d=J)(I:H a=Z o)(E:G a=Y)(r:gI K G d o)(A:∀(j:Nat)(e:D),j≠i->j∈ae->eP e=J->aa[j]?=Z (Z e)->σ[j]?≠Z (Z (V.ref a))):cF K ae G H (aa.set i (Z d)) (σ.set i (Z (.ref a))) where
 len:=by rw[Qg,Qg];exact h.len
 sub:=h.sub
 val:=λj e q l=>by
  have c:i≠j:=λz=>l (z▸M)
  rw[c5 c]at q ⊢;exact h.val j e q l
 own:=λj e q l s=>by
  by_cases c:i=j
  .subst c;obtain⟨m,g⟩:=get_eq q;cases g;rw[L]at s;cases s
  .rw[c5 c]at q ⊢;exact h.own j e q l s
 lst:=λj e q l s=>by
  by_cases c:i=j
  .subst c;obtain⟨m,g⟩:=get_eq q;cases g;exact⟨a,o,pI (by rw[<- h.len];exact m),I,E,r⟩
  .rw[c5 c]at q;obtain⟨b,N,m,g⟩:=h.lst j e q l s;exact⟨b,N,by rw[c5 c];exact m,g⟩
 c2:=h.c2
 apart:=λj k e f b C t u w x l y B e1 p=>by
  by_cases c:i=j
  .subst c;have n:i≠k:=B;obtain⟨m,g⟩:=get_eq e1;cases g;rw[c5 n]at u p;intro z;exact A k f (Pd n) y x u (by rw[z];exact p)
  .by_cases n:i=k
   .subst n;obtain⟨m,g⟩:=get_eq p;cases g;rw[c5 c]at t e1;intro z;exact A j e (Pd c) l w t (by rw[<- z];exact e1)
   .rw[c5 c]at t e1;rw[c5 n]at u p;exact h.apart j k e f b C t u w x l y B e1 p
def gI.nt:∀{d:D},gI K G d o->∀xs,o≠.tup xs
 |.lst _,⟨_,e,_⟩,_,z=>by rw[e]at z;cases z
 |.aN _,e,_,z=>by rw[show o=_ from e]at z;cases z
 |.aM _,⟨_,e,_⟩,_,z=>by rw[e]at z;cases z
def b8.step(h:b8 K ae bE a4 G H aa σ)(x:Ext G H cv aD):b8 K ae bE a4 cv aD aa σ:=⟨h.aS.ext x,h.ext.trans x,h.own⟩
theorem b8.jc(h:b8 K ae bE a4 G H aa σ)(f:i∉ae)(r:Rep K G d v):b8 K ae bE a4 G H (aa.set i (Z d)) (σ.set i (Z v)) :=
 ⟨h.aS.jc f r,h.ext,λj e a q g b z=>by
  have c:i≠j:=λz=>f (z▸b)
  rw[c5 c]at q z;exact h.own j e a q g b z⟩
def b8.nk(h:b8 K ae bE a4 G H aa σ)(x:Ext G H cv aD)(s:i∈ae)(n:eP d=J)(l:aD a=Z o)(g:H a=Y)(m:cv a=Y)(r:gI K cv d o):b8 K ae bE a4 cv aD (aa.set i (Z d)) (σ.set i (Z (.ref a))):=by
 have h':=h.step x;refine⟨h'.aS.KW s n l m r λj e k p f q z=>?_,h'.ext,λj e b q f k z=>?_⟩
 .obtain⟨b,u,k1,k2,k3,t⟩:=h.aS.lst j e q p f;rw[k1]at z;cases z;rw[g]at k2;cases k2
 .by_cases c:i=j
  .subst c;obtain⟨_,w⟩:=get_eq z;cases w;exact h.ext.h.free g
  .rw[c5 c]at q z;exact h.own j e b q f k z
def b8.zH(h:b8 K ae bE a4 G H aa σ)(x:Ext G H cv aD)(k:i∈ae)(r:bq K H cv aD .fresh d v):b8 K ae bE a4 cv aD (aa.set i (Z d)) (σ.set i (Z v)):=by
 have l:eP d=S6->Rep K cv d v->b8 K ae bE a4 cv aD (aa.set i (Z d)) (σ.set i (Z v)):=λg r=>by
  refine⟨(h.step x).aS.set_own k g r,(h.step x).ext,λj e b q f s z=>?_⟩
  by_cases c:i=j
  .subst c;obtain⟨_,w⟩:=get_eq q;cases w;rw[g]at f;cases f
  .rw[c5 c]at q z;exact h.own j e b q f s z
 cases d with
 |lst ds =>
  obtain⟨a,xs,rfl,m,n,o,p⟩:=r;exact h.nk x k rfl m n o ⟨xs,rfl,p⟩
 |aN t=>exact r.elim
 |aM t=>exact r.elim
 |_=>exact l rfl r
def b8.write (h : b8 K ae bE a4 G H aa σ) (x : i ∈ ae) (q : aa[i]? = Z (Z d)) (t : eP d = J) (O : eP e = J) (z : σ[i]? = Z (Z (V.ref a))) (A : G a = Y) (r : gI K G e s) :
    b8 K ae bE a4 G (upd H a s) (aa.set i (Z e)) σ := by
  have h0 : a4 a = none := h.own i d a q t x z
  have aA : i < aa.length := (OK.mp q).1
  have a2 : ∀ (j : Nat) (f : D), j ≠ i -> j ∈ ae -> eP f = J -> aa[j]? = Z (Z f) -> σ[j]? ≠ Z (Z (V.ref a)) := fun j f m R u ay p => h.aS.apart j i f d a a ay q u t R x m p z rfl
  have C : aH G (upd H a s) := fun b o z => by
    have : b ≠ a := fun w => by rw [w, A] at z; cases z
    rw [bj this]; exact h.aS.sub b o z
  have B : cF K ae G (upd H a s) (aa.set i (Z e)) σ := by
    refine ⟨by rw [Qg]; exact h.aS.len, C, fun j f l m => ?_, fun j f l m n => ?_, fun j f l m n => ?_, fun b xs w => ?_, fun j k f g b E aj ao I L m S a0 e1 M => ?_⟩
    · have c : i ≠ j := fun z => m (z ▸ x)
      rw [c5 c] at l; exact h.aS.val j f l m
    · by_cases c : i = j
      · subst c
        obtain ⟨_, w⟩ := get_eq l
        cases w
        rw [O] at n; cases n
      · rw [c5 c] at l; exact h.aS.own j f l m n
    · by_cases c : i = j
      · subst c
        obtain ⟨_, w⟩ := get_eq l
        cases w
        exact ⟨a, s, z, cj, A, r⟩
      · rw [c5 c] at l
        obtain ⟨b, a1, k1, k2, k3, T⟩ := h.aS.lst j f l m n
        have : b ≠ a := fun w => a2 j f (Pd c) m n l (by rw [k1, w])
        exact ⟨b, a1, k1, by rw [bj this]; exact k2, k3, T⟩
    · by_cases c : b = a
      · subst c; rw [cj] at w; cases w; exact absurd rfl (r.nt xs)
      · rw [bj c] at w; exact h.aS.c2 b xs w
    · have y : ∀ (k : Nat) (g : D), eP g = J -> (aa.set i (Z e))[k]? = Z (Z g) -> ∃ g', eP g' = J /\ aa[k]? = Z (Z g') := fun k g Q z => by
        by_cases c : i = k
        · subst c; exact ⟨d, t, q⟩
        · rw [c5 c] at z; exact ⟨g, Q, z⟩
      obtain ⟨N, U, ar⟩ := y j f I aj
      obtain ⟨g', X, ax⟩ := y k g L ao
      exact h.aS.apart j k N g' b E ar ax U X m S a0 e1 M
  refine ⟨B, ⟨h.ext.g, fun b o z => ?_, C, h.ext.new, fun b xs w => .inr (B.c2 b xs w)⟩, fun j f b l u m p => ?_⟩
  · have : b ≠ a := fun w => by rw [w, h0] at z; cases z
    rw [bj this]; exact h.ext.h b o z
  · by_cases c : i = j
    · subst c; rw [z] at p; cases p; exact h0
    · rw [c5 c] at l; exact h.own j f b l u m p
end
section
variable{xp:bS}{X:au}{ae:List Nat}{m:dc}{f bo b6 fc:aF->a9 D}{g g1 g2:aF->a9 ζ.c4}{a b c e eC:Tq}{az:List Tq}{pos p1 p2 p3 p4:UN}{st:T3}{jd ja gZ:List T3}{i:Nat}{x:Tj}
def zr(u:i∉ae)(o:X.N.Nodup)(t:X.N[i]?=Z x)(y:Loc X.env.scope x)(p:ai X e (aE xp X ae .val f))(w:UK e (Z (.Name x p1)) pos.line X.env=pure S6)(r:X.fn x=J\/X.env.scope.names.lookup x=Z .local):
  bV X (.Assign [.Name x p1] e pos) (b3 xp X ae λh=>f h>>=λd=>.ok (.aU (h.set i (Z d)))):=by
 rintro z s C H T I ⟨E,L,G,h,j,hw⟩;refine nd o t y p w r z s C H T I ?_;refine⟨G,h,j.aS,aW (aL.mp hw) (λd k v l n B A=>?_) λ_ q=>q.mono j.ext.h⟩;exact k _ l n ((j.step B).jc u A)
def zt(u:i∈ae)(o:X.N.Nodup)(t:X.N[i]?=Z x)(y:Loc X.env.scope x)(p:ai X e (aE xp X ae .fresh f))(w:UK e (Z (.Name x p1)) pos.line X.env=pure S6)(r:X.fn x=J\/X.env.scope.names.lookup x=Z .local):
  bV X (.Assign [.Name x p1] e pos) (b3 xp X ae λh=>f h>>=λd=>.ok (.aU (h.set i (Z d)))):=by
 rintro z s C H T I ⟨E,L,G,h,j,hw⟩;refine nd o t y p w r z s C H T I ?_;refine⟨G,h,j.aS,aW (aL.mp hw) (λd k v l n B A=>?_) λ_ q=>q.mono j.ext.h⟩;exact k _ l n (j.zH B u A)
def Kr(o:ai X e (aE xp X ae .val f)):bV X (.Return (Z e) pos) (b3 xp X ae λj=>f j>>=λd=>.ok (.bK d)):=by
 rintro p s u H T I ⟨w,y,G,j,h,hw⟩;refine px o p s u H T I ?_;refine⟨G,j,h.aS,aW (aL.mp hw) (λd k v l n t r=>?_) λ_ q=>q.mono h.ext.h⟩;exact k v l n (h.ext.trans t) r
def Kt(l:i∈ae)(v:X.N[i]?=Z x)(y:dB X.env.scope x)(t:(x==("__debug__":Tj))=S6)(u:(x==("__classdict__":Tj))=S6):
  bV X (.Return (Z (.Name x p1)) pos) (b3 xp X ae λj=>ζ.o1 j[i]?>>=λd=>.ok (.bK d)):=by
 rintro C s p H T I ⟨r,k,G,j,h,hw⟩;refine px (d1 v y t u) C s p H T I ?_;dsimp only at hw;have B:∀ds,j[i]?=Z (Z (.lst ds))->fz X.K ae r k T (.bK (.lst ds))->j5 i p H T.bK:=λds q hw=>by
  obtain⟨a,o,k1,k2,k3,xs,rfl,A⟩:=h.aS.lst i (.lst ds) q l rfl;refine⟨_,k1,?_⟩;have h0:k a=none:=h.own i (.lst ds) a q rfl l k1;refine hw _ (upd G a (.lst xs)) H ⟨h.ext.g.trans (d3 k3),h.ext.h,λb o z=>?_,λb E n=>?_,λb xs z=>.inr (d3 k3 _ _ (h.aS.c2 b xs z))⟩ ⟨a,xs,rfl,.inl (.inl cj),A.mono (d3 k3)⟩
  .by_cases c:b=a
   .subst c;rw[cj]at z;rw[k2];exact z
   .rw[bj c]at z;exact h.aS.sub b o z
  .have:b≠a:=λw=>n (by rw[w];exact h0)
   rw[bj this];exact h.ext.new b E n
 cases q:j[i]? with
 |none=>rw[q]at hw;exact hw.elim
 |some o =>
  cases o with
  |none=>rw[q]at hw;exact hw.elim
  |some d =>
   rw[q]at hw;cases d with
   |lst ds=>exact B ds q hw
   |_=>exact hw.elim
noncomputable def zE(g1 g2:aF->a9 ζ.c4):aF->a9 ζ.c4:=λh=>g1 h>>=λr=>match r with
 |.aU j=>g2 j
 |.bK d=>.ok (.bK d)
def Kx:c8 X [] (b3 xp X ae λd=>.ok (.aU d)):=by
 rintro k s h H T I ⟨l,n,G,d,j,hw⟩;exact yP k s h H T I (hw h G H j)
def Kv(n:bV X st (b3 xp X ae g1))(o:c8 X jd (b3 xp X ae g2)):c8 X (st::jd) (b3 xp X ae (zE g1 g2)):=by
 rintro u s y H T I ⟨h,j,G,v,p,hw⟩;refine yO n o u s y H T I ?_;refine⟨h,j,G,v,p,aW (aL.mp hw) (λr k=>?_) λ_ q=>q⟩;cases r with
 |aU w=>exact λA l z t=>⟨h,j,l,w,t,k⟩
 |bK d=>exact k
def Ke(u:dY X c (eT xp X ae fc))(r:c8 X ja (b3 xp X ae g1))(t:c8 X gZ (b3 xp X ae g2)):bV X (.If c ja gZ pos) (b3 xp X ae λh=>fc h>>=λx=>ζ.ej x>>=λk=>if k then g1 h else g2 h):=by
 rintro w s y H T I ⟨l,o,G,h,j,hw⟩;refine yN u r t w s y H T I ?_;refine⟨G,h,j.aS,?_⟩;refine aL.mpr (aW (aL.mp hw) (λd k=>aW (aL.mp k) (λv q n z p=>?_) λ_ q=>q.mono j.ext.h) λ_ q=>q.mono j.ext.h);cases v with
 |true=>simp only[Pb]at q ⊢;exact⟨l,o,n,h,j.step p,q⟩
 |false=>simp only[Om,OH]at q ⊢;exact⟨l,o,n,h,j.step p,q⟩
end
theorem kW:∀{a:List S8}{k:List Int},TR a k->ItemsAre (Xp prog w) k a
 |_,_,.nil=>.nil
 |_,_,.cons n t r=>.cons (by show U0 n (.int n t)=J;simp[U0]) (kW r)
theorem qN:∀{k:List Int}{a:List S8},ItemsAre (Xp prog w) k a->TR a k
 |_,_,.nil=>.nil
 |_,_,.cons h r=>by
  obtain⟨t,rfl⟩:=R4 h;exact .cons _ t (qN r)
theorem sf:∀{c:List S8}{a b:List Int},TR c a->TR c b->a=b
 |_,_,_,.nil,.nil=>rfl
 |_,_,_,.cons n t r,.cons _ _ q=>by rw[sf r q]
def sI{κ:Type}[DecidableEq κ](a:List κ)(h:i<=a.length):(Pv.met a i).length<=(aq.bF a).length :=
 aq.f6 (Pv.mX a i) λz hz=>(aq.e6 z a).mpr (Wj ((Pv.lh a i h z).mp hz))
def KX{κ:Type}[DecidableEq κ]{lt:κ->κ->Bool}(L:aq.eH lt){b r a:List κ}(c:b.Perm r)(d:r.Perm (Pv.met a a.length)):aq.bD lt b=aq.bD lt (aq.bF a):=by
 have h:=c.trans d;have e:b.Nodup:=h.nodup_iff.mpr (Pv.mX a _);refine aq.hJ L (aq.gK L e) (aq.gK L (aq.gU a)) λz=>?_
 rw[aq.fE,aq.fE,aq.e6,h.mem_iff,Pv.lh a _ (Ot _),Ss]
def KV{κ:Type}[DecidableEq κ]{b r a:List κ}(c:b.Perm r)(d:r.Perm (Pv.met a a.length)):b.length<=(aq.bF a).length:=by
 rw[(c.trans d).length_eq];exact sI a (Ot _)
def xd(h:Xr P a l.length)(c:∀i v,P i v->l[i]?=Z v):a.toList=l:=by
 obtain⟨f,b⟩:=h;apply Qo;intro i
 by_cases g:i<l.length
 .have d:i<a.size:=⋯;have e:a[i]?=Z a[i]:=Oy d;have:=c i _ (b i _ e);rw[this];simpa using e
 .rw[OV (by simp;lia),OV ⋯]
section
variable{X:au}{pins:List (Td×Uq)}{σ:bu}{G H:ag}{s:S9}
def iv(K:W.Frag)(G:ag)(v:S8):Prop:=∃b k,v=.ref b/\Rep K G (cn k) (V.ref b)
theorem tl(I:Inv X pins σ H s)(c:aH G H):∀{b:List (List Int)}{xs:List V}{g:List S8},aO X.K G (b.map cn) xs->Vals xs g->Paired ((Pv.sq (iv X.K G) X.prog X.w).Row s.heap) g b
 |[],_,_,r,v=>by cases r;cases v;exact .nil
 |k::b,_,_,w,v=>by
  obtain⟨x,t,e,d,m⟩:=w;subst e;cases v with
  |cons p u =>
   obtain⟨a,ys,rfl,h,q⟩:=id d;cases p;obtain⟨its,f,⟨o,l,i,n,j⟩,_⟩:=I.tuple (e9 c h);rw[gA q]at f;exact .cons ⟨a,rfl,⟨o,its.toArray,n,l,i,j,kW (by simpa using intsAre_of f)⟩,a,k,rfl,d⟩ (tl I c m u)
theorem tv(I:Inv X pins σ H s)(l:aH G H):∀{d:List (Int×S8)}{f:List (List Int)},Paired (λe k=>Pv.ei X.prog X.w s.heap e k/\iv X.K G e.2) d f->∃xs,aO X.K G (f.map cn) xs/\Vals xs (d.map (·.2))
 |_,_,.nil=>⟨[],rfl,.nil⟩
 |e::d,k::f,.cons E t=>by
  obtain⟨⟨b,e1,_,o,N,n,z,M,w,x⟩,L,A,c,r⟩:=E;obtain⟨xs,B,C⟩:=tv I l t;rw[e1]at c;injection c with c;subst c;have y:A=k:=by
   obtain⟨a,ys,u,h,q⟩:=id r;cases u;obtain⟨its,m,⟨Q,j,_,O,i⟩,_⟩:=I.tuple (e9 l h);rw[z]at j;cases j;rw[w]at i;injection i with p _;rw[gA q]at m;have v:=intsAre_of m;have g:=qN x;rw[p]at g;exact sf (by simpa using v) (by simpa using g)
  subst y;exact⟨V.ref b::xs,⟨_,_,rfl,r,B⟩,by rw[Tb,e1];exact .cons rfl C⟩
end
section
variable{xp:bS}{X:au}{ae:List Nat}{m:dc}{f:aF->a9 D}{e:Tq}{pos pos' p yo:UN}{x y:Tj}{pins:List (Td×Uq)}{σ:bu}{G H:ag}{s:S9}
def NB{ds:List D}{Q:D->Prop}(h:a3 (ζ.d4 ds) Q E):ds.all ζ.fY=J/\(ζ.fS ds).length<=63/\Q (.lst (ζ.eB (ζ.fS ds))):=by
 unfold ζ.d4 at h;cases q:(ds.all ζ.fY&&decide ((ζ.fS ds).length<=63)) with
 |false=>rw[q]at h;exact h.elim
 |true =>
  rw[q]at h;simp only[Oi,Oz]at q;exact⟨q.1,q.2,h⟩
def Inv.grown(I:Inv X pins σ H s)(g:Pv.nO s s'):Inv X pins σ H s':=by
 obtain⟨h',g',d',d,c⟩:=s';obtain⟨k,e1,a,b⟩:=g;have e1:g'=s.gens:=e1;have a:d'=s.drawn:=a;have b:c=s.os:=b;subst e1 a b;exact I.kept k
def zV(q:X.A.handled=Y)(M:X.A.units+64<TS)(I:Inv X pins σ H s)(L:aH G H)(E:s.heap.get? a=Z o)(O:Pv.ha X.w o b c t)(r:aO X.K G ds xs)(v:Vals xs ((Pv.dj X.w a b c).toList.map (·.2)))(C:ζ.hs ds=J)(w:ds.length<=63)(k:∀v j d,Ext G H j d->bq X.K H j d .fresh (.lst (ζ.eB ds)) v->Q v d):Ta (Tc X.prog X.w) X.A (call (.builtin "sorted") [.ref a]) (c3 X pins σ Q) X.bk s:=by
 have hsz:(Pv.dj X.w a b c).size=b.size:=by have:=(Pv.jT X.w a b c).length_eq;simpa using this
 have R:b.size<=63:=by
  have h:=v.length;have n:=r.length;simp only[S5,Tt]at h;lia
 refine pO (Pv.CG (A:=X.A.in1) q E O (by rw[Tw];lia) λs' u g B=>?_);have e:u.toList=(Pv.dj X.w a b c).toList.map (·.2):=by
  refine xd (P:=λi v=>∃x,(Pv.dj X.w a b c)[i]?=Z x/\v=x.2) (l:=(Pv.dj X.w a b c).toList.map (·.2)) (by simpa[hsz] using B) λi v N=>?_
  obtain⟨z,h,n⟩:=N;rw[OG,OU,h,n];rfl
 rw[e];exact pN q M (Inv.grown I g) L r v (by rw[C];rfl) w k
def NG(C:X.calm=J)(a1:X.A.units+64<TS)(I:Inv X pins σ H s)(A:aH G H)(cf:View X.K G H d z)(b9:RelV z u)(hw:a3 (ζ.cP d>>=λxs=>ζ.d4 xs) (λd'=>∀v R B,Ext G H R B->bq X.K H R B .fresh d' v->Q v B) (λ_=>False)):
  Ta (Tc X.prog X.w) X.A (call (.type "set") [u]) (λw cc=>Ta (Tc X.prog X.w) X.A (call (.builtin "sorted") [w]) (c3 X pins σ Q) X.bk cc) X.bk s:=by
 obtain⟨ds,a,ys,rfl,k,rs,hw⟩:=tr A cf (aL.mp hw);obtain⟨aX,U,hw⟩:=NB hw;have a0:X.A.handled=none:=I.ok.hd C;cases b9;obtain⟨its,l,T,aj,ar,a2,aA,a7⟩:∃(its:List S8),Vals ys its/\∃T aj ar a2,(T="list"\/T="tuple")/\s.heap.get? a=Z { cls:=.type T,dict:=aj,data:=.seq its.toArray a2,slots:=ar }:=by
  rcases k with k|k
  .obtain⟨its,l,⟨⟨cls,dd,data,O⟩,n,j,g,_,h⟩,_⟩:=I.list k;simp only at g h;subst g h;exact⟨its,l,"list",dd,O,n,.inl rfl,j⟩
  .obtain⟨its,l,⟨⟨cls,dd,data,O⟩,j,g,n,h⟩,_⟩:=I.tuple k;simp only at g h;subst g h;exact⟨its,l,"tuple",dd,O,n,.inr rfl,j⟩
 have a8:∀{h':TH}{tk:Nat},(∀b o,b<s.heap.objs.size->s.heap.get? b=Z o->h'.get? b=Z o)->Inv X pins σ H { s with heap:=h',toks:=tk }:=λE=>I.kept λb o q=>E b o (Ou q) q
 .obtain⟨M,rfl,bb⟩:=lJ aX;rw[aq.jC (f:=cn) aq.fV]at U hw;rw[S5]at U;refine Pv.u3 (Pv.sq (iv X.K G) X.prog X.w) aA a0 a1 a7 (by simpa using tl I A rs l) (λi b1=>by have:=sI M (QR b1);lia) λh' tk r ay L E=>?_
  obtain⟨o,ax,ao,t,j,aC,aB,dO,_,_,a6,b2,a5,cq⟩:=ay;obtain⟨bl,N,bw⟩:=Pv.Paired.perm (Pv.jT X.w s.heap.objs.size ax ao) a5;have S:Inv X pins σ H { s with heap:=h',toks:=tk }:=a8 E;obtain⟨xs,cw,cx⟩:=tv S A bw;have e:ζ.eB (bl.map cn)=ζ.eB ((aq.bF M).map cn):=by
   rw[aq.hy (f:=cn) (lt:=aq.lexLt) aq.h4,aq.hy (f:=cn) (lt:=aq.lexLt) aq.h4,KX aq.e5 N L]
  refine zV (s:={ s with heap:=h',toks:=tk }) a0 a1 S A j ⟨aC,aB,dO,a6,b2⟩ cw cx ?_ ?_ (by rw[e];exact hw)
  .unfold ζ.hs;rw[aq.jB λc C=>bb c ?_,QY];have:=((N.trans L).mem_iff).mp C;exact Wj ((Pv.lh M _ (Ot _) c).mp this)
  .rw[S5];have:=KV N L;lia
def Ky(L:X.calm=J)(T:X.A.units+64<TS)(a0:x="sorted")(a1:y="set")(M:cQ X x)(O:X.aG x=Y)(N:cQ X y)(R:X.aG y=Y)(E:ai X e (aE xp X ae .view f))(o:Tu [e] X.env=[(S6,T4 e X.env)]):
  ai X (.Call (.Name x p) [.Call (.Name y yo) [e] [] pos'] [] pos) (aE xp X ae .fresh λl=>f l>>=λd=>ζ.cP d>>=λxs=>ζ.d4 xs):=by
 subst a0 a1;rintro pins s σ H Q I ⟨G,l,S,hw⟩;refine Po (f3 I M O (u:=.builtin "sorted") (by kernel_rfl) ?_);refine PV ?_ rfl rfl;show Ta _ _ (WK ((S6,T4 (.Call (.Name "set" yo) [e] [] pos') X.env)::[])) _ _ s;refine PU ?_;refine Po (f3 I N R (u:=.type "set") (by kernel_rfl) ?_);refine O4 (aV (f7 E o pos' pins s σ H (λr b=>∃v d a,r=[v]/\Ext G H a b/\View X.K a b d v/\a3 (ζ.cP d>>=λxs=>ζ.d4 xs) (λd'=>∀v n h,Ext a b n h->bq X.K b n h .fresh d' v->Q v h) (λ_=>False)) I
  ⟨G,l,S,aW (aL.mp hw) (λd k v a b g j=>?_) λ_ q=>q⟩) λb1 aC aA=>?_) o rfl
 .refine⟨v,d,a,rfl,g,j,?_⟩;refine aW (lQ k λc=>?_) (λd' q ao t A ay aj=>q ao t A (g.trans ay) (aj.old g.h)) λ_ q=>q
  intro z;cases i:ζ.cP d with
  |ok ds=>rw[i]at z;have z:ζ.d4 ds=.exc c:=z;unfold ζ.d4 at z;split at z<;>cases z
  |exc aB=>cases d<;>cases i
  |bad=>rw[i]at z;cases z
 .obtain⟨r,b,B,j,a2⟩:=aA;obtain⟨v,d,a,e1,g,ax,U⟩:=a2;subst e1;obtain⟨u,rfl,ar⟩:=vals1 j;refine aV (NG L T B g.sub ax ar U) λw s2 C=>?_
  exact Qi C
end
def qL(c)(cs:List (List Int)):(cs.map cn).any (ζ.cU (cn c))=decide (c∈cs):=by
 induction cs with
 |nil=>simp
 |cons a cs b =>
  rw[Tb,TZ,b,show ζ.cU (cn c) (cn a)=decide (c=a) from aq.fV c a]
  by_cases h:c=a<;>simp[h]
def wq(as bs:List (List Int)):(as.map cn).filter (λx=>!(bs.map cn).any (ζ.cU x))=(as.filter λa=>!decide (a∈bs)).map cn:=by
 induction as with
 |nil=>rfl
 |cons a as b =>
  rw[Tb,Rz,Rz,qL,b]
  by_cases h:a∈bs<;>simp[h]
def NC{x y:D}{Q:D->Prop}(h:a3 (ζ.ka x y) Q E):∃as bs:List (List Int),ζ.cP x=.ok (as.map cn)/\ζ.cP y=.ok (bs.map cn)/\(∀k∈as,k≠[])/\(∀k∈bs,k≠[])/\(aq.bF (as++bs)).length<=63
  /\ Q (.lst ((aq.bD aq.lexLt (aq.bF (as.filter (λa=>!decide (a∈bs))++bs.filter λb=>!decide (b∈as)))).map cn)):=by
 unfold ζ.ka at h;have h:=aL.mp h;cases e1:ζ.cP x with
 |bad=>rw[e1]at h;exact h.elim
 |exc c=>cases x<;>cases e1
 |ok xs =>
  rw[e1]at h;have h:=aL.mp h;cases d:ζ.cP y with
  |bad=>rw[d]at h;exact h.elim
  |exc c=>cases y<;>cases d
  |ok ys =>
   rw[d]at h;have h:a3 (ζ.nH xs ys) Q E:=h;unfold ζ.nH at h;cases q:(xs.all ζ.fY&&ys.all ζ.fY&&decide ((ζ.fS (xs++ys)).length<=63)) with
   |false=>rw[q]at h;exact h.elim
   |true =>
    rw[q]at h;have h:Q (.lst (ζ.eB (ζ.fS (ζ.ql xs ys)))):=h;simp only[Oi,Oz]at q;obtain⟨as,rfl,e⟩:=lJ q.1.1;obtain⟨bs,rfl,g⟩:=lJ q.1.2;refine⟨as,bs,rfl,rfl,e,g,?_,?_⟩
    .have:=q.2;rw[<- Te,aq.jC (f:=cn) aq.fV,S5]at this;exact this
    .unfold ζ.ql at h;rw[wq,wq,<- Te,aq.jC (f:=cn) aq.fV,aq.hy (f:=cn) (lt:=aq.lexLt) aq.h4]at h;exact h
section
variable{xp:bS}{X:au}{ae:List Nat}{f kC:aF->a9 D}{e eO:Tq}{p p1 p2 tb tc yT pos:UN}{x y:Tj}{pins:List (Td×Uq)}{σ:bu}{G H:ag}{s:S9}
def AW(L:X.calm=J)(a0:X.A.units+64<TS)(I:Inv X pins σ H s)(t:aH G H)(a2:View X.K G H d z)(a1:RelV z u)(M:ζ.cP d=.ok (k.map cn))(aj:(aq.bF k).length<=63)(h:∀(h':TH)(tk:Nat)(r:List (List Int)),Pv.fP (iv X.K G) X.prog X.w h' s.heap.objs.size r->r.Perm (Pv.met k k.length)->(∀b o,s.heap.get? b=Z o->h'.get? b=Z o)->Q (.ref s.heap.objs.size) { s with heap:=h',toks:=tk }):
  Ta (Tc X.prog X.w) X.A (call (.type "set") [u]) Q E s:=by
 obtain⟨ds,a,ys,rfl,j,rs,rfl⟩:=tr (Q:=λds=>k.map cn=ds) (E:=λ_=>False) t a2 (by rw[M];rfl);have N:X.A.handled=none:=I.ok.hd L;cases a1;obtain⟨its,l,T,w,A,v,C,S⟩:∃(its:List S8),Vals ys its/\∃T w A v,(T="list"\/T="tuple")/\s.heap.get? a=Z { cls:=.type T,dict:=w,data:=.seq its.toArray v,slots:=A }:=by
  rcases j with j|j
  .obtain⟨its,l,⟨⟨cls,dd,data,q⟩,n,m,c,_,g⟩,_⟩:=I.list j;simp only at c g;subst c g;exact⟨its,l,"list",dd,q,n,.inl rfl,m⟩
  .obtain⟨its,l,⟨⟨cls,dd,data,q⟩,m,c,n,g⟩,_⟩:=I.tuple j;simp only at c g;subst c g;exact⟨its,l,"tuple",dd,q,n,.inr rfl,m⟩
 exact Pv.u3 (Pv.sq (iv X.K G) X.prog X.w) C N a0 S (by simpa using tl I t rs l) (λi O=>by have:=sI k (QR O);lia) λh' tk r B U R=>h h' tk r B U λb o e=>R b o (Ou e) e
def Dk{U:bu}(I:Inv X pins σ H s)(S:aH G H)(B:Inv X aj U A s2)(T:aH t A)(g:aH G t)(h:Pv.ei X.prog X.w s.heap m k/\iv X.K G m.2):Pv.ei X.prog X.w s2.heap m k/\iv X.K t m.2:=by
 obtain⟨⟨b,e1,L,o,a2,n,R,a1,N,O⟩,a0,v,d,r⟩:=h;rw[e1]at d;injection d with d;subst d;obtain⟨a,ys,E,i,q⟩:=id r;cases E;have Q:v=k:=by
  obtain⟨its,c,⟨z,l,_,w,j⟩,_⟩:=I.tuple (e9 S i);rw[R]at l;cases l;rw[N]at j;injection j with C _;rw[gA q]at c;have i:=intsAre_of c;have u:=qN O;rw[C]at u;exact sf (by simpa using i) (by simpa using u)
 subst Q;obtain⟨its,c,⟨z,l,M,w,j⟩,_⟩:=B.tuple (e9 T (g _ _ i));rw[gA q]at c;exact⟨⟨b,e1,L,z,its.toArray,w,l,M,j,kW (by simpa using intsAre_of c)⟩,b,v,e1,Rep.mono g r⟩
def KA(L:X.calm=J)(aj:X.A.units+64<TS)(mC:x="sorted")(mD:y="set")(kD:cQ X x)(hW:X.aG x=Y)(a5:cQ X y)(bl:X.aG y=Y)(hQ:ai X e (aE xp X ae .view f))(gP:ai X eO (aE xp X ae .view kC))(cM:Tu [e] X.env=[(S6,T4 e X.env)])(cz:Tu [eO] X.env=[(S6,T4 eO X.env)])(hX:∀g c,kC g≠.exc c):
  ai X (.Call (.Name x p) [.BinOp (.Call (.Name y p1) [e] [] tb) .BitXor (.Call (.Name y p2) [eO] [] tc) yT] [] pos) (aE xp X ae .fresh λg=>f g>>=λd=>kC g>>=λd'=>ζ.ka d d'):=by
 subst mC mD;rintro pins s σ H Q I ⟨G,g,cq,hw⟩;have f4:X.A.handled=none:=I.ok.hd L;refine Po (f3 I kD hW (u:=.builtin "sorted") (by kernel_rfl) ?_);refine PV ?_ rfl rfl;show Ta _ _ (WK ((S6,T4 (.BinOp (.Call (.Name "set" p1) [e] [] tb) .BitXor (.Call (.Name "set" p2) [eO] [] tc) yT) X.env)::[])) _ _ s;refine PU ?_;refine wpAny_BinOp ?_;refine Po (f3 I a5 bl (u:=.type "set") (by kernel_rfl) ?_);refine O4 (aV (f7 hQ cM tb pins s σ H (λN i=>∃v d l,N=[v]/\Ext G H l i/\View X.K l i d v/\a3 (kC g>>=λd'=>ζ.ka d d') (λd'=>∀v O B,Ext G H O B->bq X.K H O B .fresh d' v->Q v B) (λc=>dr xp X c H)) I
  ⟨G,g,cq,aW (aL.mp hw) (λd k v l i r ax=>⟨v,d,l,rfl,r,ax,k⟩) λ_ q=>q⟩) λoI j so=>?_) cM rfl
 obtain⟨N,i,C,ax,ao⟩:=so;obtain⟨v,d,l,rfl,r,oJ,A⟩:=ao;obtain⟨u,rfl,kQ⟩:=vals1 ax;have A:=aL.mp A;obtain⟨d',E⟩:∃d',kC g=.ok d':=by
  cases E:kC g with
  |bad=>rw[E]at A;exact A.elim
  |exc c=>exact absurd E (hX g c)
  |ok d'=>exact⟨d',rfl⟩
 rw[E]at A;obtain⟨as,bs,mI,oG,kO,kP,U,n⟩:=NC A;have gq:(aq.bF as).length<=63:=O3 (aq.f6 (aq.gU as) λz hz=>by rw[aq.e6]at hz ⊢;exact Tg _ hz) U;have iL:(aq.bF bs).length<=63:=O3 (aq.f6 (aq.gU bs) λz hz=>by rw[aq.e6]at hz ⊢;exact Ow _ hz) U;refine AW L aj C r.sub oJ kQ mI gq λR c0 k1 gn g3 h0=>?_
 have a0:Inv X pins σ i { j with heap:=R,toks:=c0 }:=C.kept h0;obtain⟨i0,e1,eM,oH,g2,f2,a7,dI,dv,dP,ed,ee,kK,cf⟩:=gn;have b2:Inv X ((j.heap.objs.size,i0)::pins) σ i { j with heap:=R,toks:=c0 }:=a0.m8 λq n=>by
  rcases Oq.mp n with rfl|n
  .refine⟨g2,C.aK.fresh (Ot _),Pd (OI C.lt),C.m2 (Ot _),λv z=>?_⟩;dsimp only at z;rw[a7]at z;cases z
  .exact a0.pin q (Ow _ n)
 refine Po (f3 b2 a5 bl (u:=.type "set") (by kernel_rfl) ?_);refine O4 (aV (f7 gP cz tc _ _ σ i (λN m=>∃v w,N=[v]/\Ext l i w m/\View X.K w m d' v) b2
  ⟨l,g,cq.ext r,by rw[E];exact λv w m h ay=>⟨v,w,rfl,h,ay⟩⟩) λoI s2 ⟨N,m,a1,ay,ao⟩=>?_) cz rfl
 obtain⟨xk,w,rfl,h,oK⟩:=ao;obtain⟨xj,rfl,kR⟩:=vals1 ay;refine AW L aj a1 h.sub oK kR oG iL λS M k2 bb kI cA=>?_
 have aB:Inv X ((j.heap.objs.size,i0)::pins) σ m { s2 with heap:=S,toks:=M }:=a1.kept cA;have aX:s2.heap.get? j.heap.objs.size=Z i0:=(a1.pin (j.heap.objs.size,i0) (Ow _ S7)).1;have gp:Pv.fP (iv X.K w) X.prog X.w S j.heap.objs.size k1:=⟨i0,e1,eM,oH,cA _ _ aX,f2,a7,dI,dv,dP,ed,ee,Pv.Paired.mp (λxg k z=>Dk a0 r.sub aB h.sub h.g z) kK,cf⟩;have a6:∀k,k∈k1<->k∈as:=λk=>by rw[g3.mem_iff,Pv.lh as _ (Ot _),Ss]
 have a8:∀k,k∈k2<->k∈bs:=λk=>by rw[kI.mem_iff,Pv.lh bs _ (Ot _),Ss]
 have f8:k2.Nodup:=by obtain⟨_,_,_,_,_,_,_,_,_,_,_,_,_,z⟩:=bb;exact z
 have xh:k2.length+(k1.filter λk=>!decide (k∈k2)).length<=63:=by
  rw[<- Oo];refine O3 (aq.f6 (ys:=aq.bF (as++bs)) ?_ λz hz=>?_) U
  .refine PQ.mpr ⟨f8,cf.filter _,λa R b fT z=>?_⟩;subst z;have:=(OJ.mp fT).2;simp[R]at this
  .rw[aq.e6];rcases Ox.mp hz with z|z
   .exact Ow _ ((a8 _).mp z)
   .exact Tg _ ((a6 _).mp (OJ.mp z).1)
 refine Pv.NK (s:={ s2 with heap:=S,toks:=M }) ⋯ (OI (Ou aX)) gp bb ⋯ λT xi c sk sl sm=>?_
 have kN:∀b o,S.get? b=Z o->T.get? b=Z o:=λb o e=>(sk.2 b (OI (Ou e))).trans (Ol _ e)
 have aC:Inv X ((j.heap.objs.size,i0)::pins) σ m { s2 with heap:=T,toks:=M }:=aB.kept kN;have b1:Inv X pins σ m { s2 with heap:=T,toks:=M }:=aC.m8 λq n=>aC.pin q (Ow _ (S4 _ n))
 obtain⟨o,fk,en,t,iP,f1,f0,dO,_,_,kL,kE,kJ,bw⟩:=sl;obtain⟨ar,aA,oL⟩:=Pv.Paired.perm (Pv.jT X.w _ fk en) kJ;obtain⟨xs,oN,oO⟩:=tv b1 h.sub oL;have a2:∀k,k∈ar<->((k∈as/\k∉bs)\/(k∉as/\k∈bs)):=λk=>by rw[aA.mem_iff,sm,a6,a8]
 have hV:ar.length<=63:=by
  refine O3 (aq.f6 ((aA.nodup_iff).mpr bw) (ys:=aq.bF (as++bs)) λz hz=>?_) U;rw[aq.e6];rcases(a2 z).mp hz with y|y
  .exact Tg _ y.1
  .exact Ow _ y.2
 have e0:ζ.eB (ar.map cn)=(aq.bD aq.lexLt (aq.bF (as.filter (λa=>!decide (a∈bs))++bs.filter λb=>!decide (b∈as)))).map cn:=by
  rw[aq.hy (f:=cn) (lt:=aq.lexLt) aq.h4];congr 1;refine aq.hJ aq.e5 (aq.gK aq.e5 ((aA.nodup_iff).mpr bw)) (aq.gK aq.e5 (aq.gU _)) λz=>?_
  rw[aq.fE,aq.fE,aq.e6,a2,Ox,OJ,OJ];simp only[O6,Sp];exact or_congr SP and_comm
 refine Qi (zV (s:={ s2 with heap:=T,toks:=M }) f4 aj b1 h.sub iP ⟨f1,f0,dO,kL,kE⟩ oN oO ?_ (by rw[S5];exact hV) λv O B oM cN=>?_)
 .unfold ζ.hs;rw[aq.jB λc L=>?_,QY];rcases(a2 c).mp L with z|z
  .exact kO c z.1
  .exact kP c z.2
 .rw[e0]at cN;exact n v O B ((r.trans h).trans oM) (cN.old (r.h.trans h.h))
end
section
variable{xp:bS}{X:au}{ae:List Nat}{m:dc}{f bo b6:aF->a9 D}{a b e eC:Tq}{pos p p2 p3 p4:UN}{pins:List (Td×Uq)}{σ:bu}{G H:ag}{s:S9}{x:Tj}
def f_int:eV X (.type "int") (i6 X.K m λd=>match d with|.ah b=>.ok (.int (if b then 1 else 0))|_=>.bad):=by
 rintro pins s σ H xs i Q I r ⟨G,z,d,g,h,c,hw⟩;subst g;cases d with
 |ah b =>
  have c:z=.ah b:=c;subst c;exact u1 pins s σ H _ i Q I r (.inr ⟨b,rfl,hw _ G H (Ext.refl h) bq.int⟩)
 |_=>exact hw.elim
def Nq (lo) : ∀ {n : Nat} {l : List S8}, l.length = n -> (∀ (i : Nat) v, l[i]? = Z v -> ∃ t, v = .int (lo + i * 1) t) -> Vals ((Tp n).map fun (k : Nat) => V.int (lo + (k : Nat))) l := by
  intro n l d h
  subst d
  induction l generalizing lo with
  | nil => exact .nil
  | cons v l g =>
    rw [To, Sz, Tb, Ti]
    refine .cons ?_ ?_
    · obtain ⟨t, e⟩ := h 0 v rfl
      exact ⟨t, by rw [e]; simp⟩
    · have := g (lo + 1) fun i w hw => by
        obtain ⟨t, e⟩ := h (i + 1) w (by simpa using hw)
        exact ⟨t, by rw [e]; congr 1; push_cast; lia⟩
      have c : ((fun (k : Nat) => V.int (lo + (k : Nat))) ∘ Nat.succ) = fun (k : Nat) => V.int (lo + 1 + (k : Nat)) := by
        funext k; simp only [UZ]; congr 1; push_cast; lia
      rw [c]; exact this
theorem zc{K:W.Frag}(lo):∀(l:List Nat),aO K G (l.map λ(k:Nat)=>ζ.D.int (lo+(k:Nat))) (l.map λ(k:Nat)=>V.int (lo+(k:Nat)))
 |[]=>rfl
 |k::l=>⟨_,_,rfl,rfl,zc lo l⟩
def NF(L:cQ X "range")(M:X.aG "range"=Y)(C:ai X a (aE xp X ae .view bo))(z:Tu [a] X.env=[(S6,T4 a X.env)])(I:Inv X pins σ H s)(O:cF X.K ae G H B σ){Q:List D->Prop}(hw:a3 (bo B>>=λd=>ζ.ek d>>=λi=>ζ.ic 0 i) Q (λc=>dr xp X c H))(k:∀(j:S9)(h g:ag)(n:Int)(r:Td)(t u v:Tok)(h':TH)(tk:Nat),Inv X pins σ g j->Ext G H h g->Q (ζ.c9 0 n)->(-(2 ^ 62)<=n/\n<2 ^ 62/\(ζ.c9 0 n).length<=16777216)->Inv X pins σ g { j with heap:=h',toks:=tk }->IsRange h' r 0 n 1 t u v->R (.ref r) { j with heap:=h',toks:=tk }):
  Ta (Tc X.prog X.w) X.A (T4 (.Call (.Name "range" p) [a] [] pos) X.env) R X.bk s:=by
 refine Call_ (f3 I L M boot_range (O4 (aV (f7 C z pos pins s σ H (λA g=>∃n h,A=[.int n]/\Ext G H h g/\Q (ζ.c9 0 n)/\(-(2 ^ 62)<=n/\n<2 ^ 62/\(ζ.c9 0 n).length<=16777216)) I
  ⟨G,B,O,aW (aL.mp hw) (λd q v h g w l=>?_) λ_ q=>q⟩) λU j T=>?_) z rfl))
 .have q:=aL.mp q;cases d with
  |int i =>
   obtain⟨⟨_,_,b1,b2⟩,hz,q⟩:=zh q;exact⟨i,h,by rw[bq.pd l],w,q,b1,b2,hz⟩
  |_=>exact q.elim
 .obtain⟨A,g,y,l,n,h,e1,w,N,E⟩:=T;subst e1;obtain⟨u,rfl,S⟩:=vals1 l;obtain⟨t,rfl⟩:=S;refine call_range_1 ?_;exact k j h g n _ _ _ _ _ _ y w N E (y.kept λb o e=>Ol _ e) (XW ..)
def JD(n):UL 0 n 1=((ζ.c9 0 n).length:Int):=by
 unfold ζ.c9;rw[S5,Uu,rangeSize_one]
 split<;>lia
def Jp(n):(ζ.c9 0 n).length=n.toNat:=by unfold ζ.c9;rw[S5,Uu];congr 1;lia
def JE(h:Xr (λi v=>∃t,v=.int (0+i*1) t) c (ζ.c9 0 n).length):∃xs,aO X.K G (ζ.c9 0 n) xs/\Vals xs c.toList:=by
 have d:c.toList.length=n.toNat:=by rw[Tt,h.1,Jp]
 have v:=Nq 0 d λi v g=>h.2 i v (by simpa using g)
 have e:ζ.c9 0 n=(Tp n.toNat).map λ(k:Nat)=>ζ.D.int (0+(k:Nat)):=by
  unfold ζ.c9;rw[Int.sub_zero]
 exact⟨_,by rw[e];exact zc 0 _,v⟩
def KD{y:Tj}(T:X.calm=J)(aB:x="range")(aC:y="tuple")(U:cQ X x)(a2:X.aG x=Y)(a0:cQ X y)(aj:X.aG y=Y)(S:ai X a (aE xp X ae .view bo))(aA:Tu [a] X.env=[(S6,T4 a X.env)]):
  ai X (.Call (.Name y p2) [.Call (.Name x p) [a] [] pos] [] p3) (aE xp X ae .val λq=>(bo q>>=λd=>ζ.ek d>>=λi=>ζ.ic 0 i)>>=λds=>.ok (.tup ds)):=by
 subst aB aC;rintro pins s σ H Q I ⟨G,q,ay,hw⟩;refine Po (f3 I a0 aj (u:=.type "tuple") (by kernel_rfl) ?_);refine O4 ?_ rfl rfl;show Ta _ _ (WK ((S6,T4 (.Call (.Name "range" p) [a] [] pos) X.env)::[])) _ _ s;refine PU ?_;refine NF U a2 S aA I ay (aL.mp hw) λbw B a7 n r t u v h' tk a5 o ao j k ax=>Qi ?_
 have a1:X.A.handled=none:=k.ok.hd T;have ar:=JD n;have b1:Meets (Uh.«tuple.__new__» ⟨[.type "tuple",.ref r],[]⟩) (λA R s'=>A.handled=Y/\IsRange s'.heap r 0 n 1 t u v /\
   ∀(s2:S9)(acc:Array S8),Pv.nO s' s2->Xr (λi v=>∃t,v=.int (0+i*1) t) acc (ζ.c9 0 n).length->R (.ok (.ret (.ref s2.heap.objs.size))) { s2 with heap:=s2.heap.push { cls:=.type "tuple",data:=.seq acc } }) :=
  .of_wp λprog w A R s' h=>by
   obtain⟨L,l,M⟩:=h;have bl:=sub_tuple_self;have a6:=init_tuple_lookup;have a8:=madeHere_tuple;have O:s'.TypeIs (.ref r) "range":=⟨_,l,rfl⟩;have N:A.in1.handled=none:=L
   wp_walk using Qj O,Pv.CF (A:=A.in1) N l (small_one ⋯ ⋯ j.1 j.2.1) ar j.2.2
   intro s2 acc g c;have e:acc.toList.toArray=acc:=(by simp);refine Oh (m:=Ue acc.toList.toArray) (OZ (Oj ⟨_,rfl,?_⟩) (show acc.toList.toArray.size<=Tx by rw[e,c.1,Tw];exact j.2.2));rw[e];exact M s2 acc g c
 refine callType_new F.called_tuple ∅ (F.typeCall_tuple_1 _) (F.newCall_tuple_1 _) (λb2=>F.args_object_init_2 b2 _) F.entry_tuple_new b1 ⟨a1,ax,λs2 acc g c=>⟨⟨_,OA _ rfl,rfl⟩,?_⟩⟩;obtain⟨xs,k1,k2⟩:=JE (X:=X) (G:=B) c;have E:=Inv.grown k g;have e:acc=acc.toList.toArray:=by simp
 rw[e];exact x9 E o.sub k2 k1 (by rw[k2.length,Tt,c.1,Tw];exact j.2.2) λv z C bb aX=>ao v z C (o.trans bb) aX
end
section
variable{X:au}{pins:List (Td×Uq)}{σ:bu}{G H:ag}{s:S9}{h':TH}
def Av{fA:List Td}(I:Inv X pins σ H s)(k:∀b o,b∉fA->s.heap.get? b=Z o->h'.get? b=Z o)(d:∀b∈fA,gh X pins H b):Inv X pins σ H { s with heap:=h',toks:=t' }:=by
 have f:∀b u,H b=Z u->b∉fA:=λb u e z=>by rw[(d b z).1]at e;cases e
 have y:X.env.locals∉fA:=λz=>(d _ z).2.1 rfl
 refine I.step (g':=s.gens) (d':=s.drawn) (ch:=fA) (λb t=>?_) (λb o _ _ a e _=>k b o a e) (λb o _ _ a e _=>⟨o.slots,k b o a e⟩) (λ_ _ _ _ n=>n)
  (λb o a e=>⟨o,k b o a e⟩) (λ_ _ e=>e) (λ_ _ _ e=>e) (λb A e=>⟨#[],by rw[e];simp⟩) (λm w=>?_) (λb u e=>?_) I.bare
 .obtain⟨_,i,_,j,l,p⟩:=d b t;exact⟨j,i,l,p⟩
 .obtain⟨o,h,g,x,r⟩:=w;exact⟨o,h,g,k _ o y x,r⟩
 .refine(I.aK b u e).g0 (λc v a q=>k c v ?_ q) (λ_ q=>q) λ_ _ q=>q
  rcases a with z|z
  .rw[z];exact f b u e
  .exact f c _ z
def MP(I:Inv X pins σ H s)(d:H a=Y)(h0:X.dG.heap.objs.size<=a)(h:a≠X.env.locals)(i:∀x c,X.env.cells.lookup x=Z c->c≠a)(j:∀p∈X.b7++pins,p.1≠a)(m:bZ X.prog X.w (upd H a o) s.heap a o):Inv X pins σ (upd H a o) s where
 ok:=I.ok
 os:=I.os
 bare:=I.bare
 base:=⟨I.base.keep,I.base.slot,λb f e n k=>by
   have:b≠a:=λz=>absurd (Ou e) (Nat.not_lt.mpr (z▸h0))
   rw[bj this];exact I.base.free b f e n k,I.base.there,λb xs e=>by
   have q:=I.base.g5 b xs e;rw[bj (f5 q d)];exact q,λb f u e=>by
   have q:=I.base.gs b f u e;rw[bj (f5 q d)];exact q,λb r e=>by
   obtain⟨l,q⟩:=I.base.g4 b r e;exact⟨l,by rw[bj (f5 q d)];exact q⟩⟩
 loc:=I.loc
 cell:=I.cell
 free:=by rw[bj (Pd h)];exact I.free
 ez:=λx c e=>by rw[bj (i x c e)];exact I.ez x c e
 pin:=λp q=>by
  obtain⟨t,w,y⟩:=I.pin p q;exact⟨t,by rw[bj (j p q)];exact w,y⟩
 aK:=λb u e=>by
  by_cases g:b=a
  .subst g;rw[cj]at e;cases e;exact m
  .rw[bj g]at e;exact(I.aK b u e).g0 (λc v _ q=>q) (λc q=>by rw[bj (f5 q d)];exact q) λc xs q=>by rw[bj (f5 q d)];exact q
 len:=I.len
end
def uf:∀x y:Nat,(x ^^^ y)+2*(x &&& y)=x+y:=by
 intro x
 induction x using VW with
 |ind x i =>
  intro y
  by_cases h:x=0
  .subst h;simp
  .have f:=i (x / 2) ⋯ (y / 2);have e1:(x ^^^ y) / 2=x / 2 ^^^ y / 2:=SD;have g:(x &&& y) / 2=x / 2 &&& y / 2:=RI;have d:(x ^^^ y)%2=(x%2+y%2)%2:=by
    have:=@Rd x y;rcases OB x with a|a<;>rcases OB y with b|b<;>rcases OB (x ^^^ y) with c|c<;>simp[a,b,c]at this ⊢
   have e:(x &&& y)%2=(x%2)*(y%2):=by
    have:=@QA x y;rcases OB x with a|a<;>rcases OB y with b|b<;>rcases OB (x &&& y) with c|c<;>simp[a,b,c]at this ⊢
   rw[<- e1,<- g]at f;revert f d e;generalize x ^^^ y=p;generalize x &&& y=q;intro f d e;rcases OB x with a|a<;>rcases OB y with b|b<;>rw[a,b]at d e<;>lia
def uE(a:0<=i)(b:0<=j):UP i j=((i.toNat &&& j.toNat:Nat):Int):=by
 unfold UP;rw[decide_eq_true a,decide_eq_true b]
def Bf(a:0<=i)(b:¬0<=j):UP i j=i-((i.toNat &&& (-j-1).toNat:Nat):Int):=by
 unfold UP;rw[decide_eq_true a,decide_eq_false b];rfl
def NL(a:0<=i)(b:0<=j):Xt i j=((i.toNat ^^^ j.toNat:Nat):Int):=by
 rw[bitXor_and,uE a b];have:=uf i.toNat j.toNat;lia
section
variable{xp:bS}{X:au}{ae:List Nat}{m:dc}{f bo b6 fc:aF->a9 D}{a b c e:Tq}{pos:UN}{pins:List (Td×Uq)}{σ:bu}{G H:ag}{s:S9}
def CT:b0 X (TV .BitAnd) (gW X.K (ζ.bT .and)):=by
 rintro pins s σ H x y v u Q I k l ⟨G,p,q,g,n,o,hw⟩;cases p<;>cases q<;>first|exact hw.elim|skip
 rename_i i j;have hw:a3 (ζ.js i j) _ _:=hw;unfold ζ.js at hw
 by_cases h:0<=i
 .rw[if_pos h]at hw
  by_cases d:0<=j
  .rw[if_pos d]at hw;exact yj pins s σ H x y v u Q I k l ⟨_,_,n,o,by dsimp only;rw[uE h d];exact hl g hw rfl⟩
  .rw[if_neg d]at hw;exact yj pins s σ H x y v u Q I k l ⟨_,_,n,o,by dsimp only;rw[Bf h d];exact hl g hw rfl⟩
 .rw[if_neg h]at hw;exact hw.elim
def C4:b0 X (TV .BitXor) (gW X.K (ζ.bT .xor)):=by
 rintro pins s σ H x y v u Q I l n ⟨G,d,g,k,o,p,hw⟩;cases d<;>cases g<;>first|exact hw.elim|skip
 rename_i i j;have hw:a3 (ζ.nG i j) _ _:=hw;unfold ζ.nG at hw
 by_cases h:0<=i/\0<=j
 .rw[if_pos h]at hw;exact Ie pins s σ H x y v u Q I l n ⟨_,_,o,p,by dsimp only;rw[NL h.1 h.2];exact hl k hw rfl⟩
 .rw[if_neg h]at hw;exact hw.elim
def C1:b0 X (TV .LShift) (gW X.K (ζ.bT .shl)):=by
 rintro pins s σ H x y v u Q I p q ⟨G,d,g,o,r,t,hw⟩;cases d<;>cases g<;>first|exact hw.elim|skip
 rename_i i j;have hw:a3 (if 0<=j/\j<=1000/\-ζ.da<i/\i<ζ.da then ζ.R.ok (ζ.D.int (i*2 ^ j.toNat)) else .bad) _ _:=hw
 by_cases h:0<=j/\j<=1000/\-ζ.da<i/\i<ζ.da
 .rw[if_pos h]at hw;obtain⟨k,w,l,n⟩:=h;have e:ζ.da=18446744073709551616:=rfl;refine H9 pins s σ H x y v u Q I p q ⟨_,_,r,t,⟨k,⋯,?_⟩,hl o hw rfl⟩;rw[e]at l n;show i.natAbs<18446744073709551616;lia
 .rw[if_neg h]at hw;exact hw.elim
def C2:b0 X (TV .RShift) (gW X.K (ζ.bT .shr)):=by
 rintro pins s σ H x y v u Q I l n ⟨G,d,g,k,o,p,hw⟩;cases d<;>cases g<;>first|exact hw.elim|skip
 rename_i i j;have hw:a3 (if 0<=j then ζ.R.ok (ζ.D.int (i / 2 ^ j.toNat)) else .bad) _ _:=hw
 by_cases h:0<=j
 .rw[if_pos h]at hw;exact Ia pins s σ H x y v u Q I l n ⟨_,_,o,p,h,hl k hw rfl⟩
 .rw[if_neg h]at hw;exact hw.elim
def Kj{x:Tj}(R:X.calm=J)(a0:x="min")(S:cQ X x)(U:X.aG x=Y)(N:ai X a (aE xp X ae .view bo))(O:ai X b (aE xp X ae .view b6))(z:Tu [a,b] X.env=[(S6,T4 a X.env),(S6,T4 b X.env)])(l:Tu [b] X.env=[(S6,T4 b X.env)]):
  ai X (.Call (.Name x p) [a,b] [] pos) (aE xp X ae m λg=>bo g>>=λx=>ζ.ek x>>=λi=>b6 g>>=λy=>ζ.ek y>>=λj=>.ok (.int (if j<i then j else i))):=by
 subst a0;rintro pins s σ H Q I ⟨G,g,o,hw⟩;have M:eV X (.builtin "min") (λxs H Q=>∃i j,xs=[.int i,.int j]/\Q (.int (if j<i then j else i)) H):=by
  rintro pins s σ H xs ar Q I r ⟨i,j,e,q⟩;subst e;cases r with
  |cons h d =>
   cases d with
   |cons d a1 =>
    cases a1;obtain⟨t,rfl⟩:=h;obtain⟨u,rfl⟩:=d;refine min_two_ints (I.ok.hd R) λh' tk T=>?_
    refine⟨_,H,I.kept T,?_,q⟩
    by_cases c:j<i
    .rw[if_pos c,if_pos c];exact⟨u,rfl⟩
    .rw[if_neg c,if_neg c];exact⟨t,rfl⟩
 refine pn M S U (by kernel_rfl) (ia N (f7 O l) (by rw[z,l])) ∅ ∅ (by rw[z,l]) (by rw[l];rfl) pins s σ H Q I ?_;refine⟨G,g,o,aW (aL.mp hw) (λE k v A aj n h=>?_) λ_ q=>q⟩;cases E with
 |int i =>
  have k:a3 (b6 g>>=λy=>ζ.ek y>>=λj=>.ok (ζ.D.int (if j<i then j else i))) _ _:=k;refine⟨A,g,o.ext n,aW (aL.mp k) (λL k2 w B C a2 d=>?_) λ_ q=>q.mono n.h⟩;cases L with
  |int j =>
   have h:v=.int i:=h;have d:w=.int j:=d;subst h d;exact⟨i,j,rfl,k2 _ B C (n.trans a2) bq.int⟩
  |_=>exact k2.elim
 |_=>exact k.elim
theorem mK:∀{ds:List D}{k:List Int},ζ.intsOf ds=Z k->ds=k.map .int
 |[],_,h=>by cases h;rfl
 |.int i::ds,k,h=>by
  cases q:ζ.intsOf ds with
  |none=>simp[ζ.intsOf,q]at h
  |some d =>
   simp only[ζ.intsOf,q,Uj,Px]at h;subst h;rw[mK q];rfl
 |.bG::_,_,h=>by cases h
 |.ah _::_,_,h=>by cases h
 |.str _::_,_,h=>by cases h
 |.tup _::_,_,h=>by cases h
 |.lst _::_,_,h=>by cases h
 |.aN _::_,_,h=>by cases h
 |.aM _::_,_,h=>by cases h
 |.dQ _::_,_,h=>by cases h
def ints_list(I:Inv X pins σ H s){K:W.Frag}(n:aH G H)(l:View X.K G H (.lst (ns.map .int)) z)(k:RelV z u):∃(a:Td)(xs:Array (Int×Tok)),u=.ref a/\s.heap.IsList a (intItems xs)/\xs.toList.map (·.1)=ns:=by
 obtain⟨a,ys,rfl,h,rs⟩:=l;cases k;rw[gA rs]at h;obtain⟨its,j,i,hz⟩:=I.list h;have g:TR its ns:=intsAre_of j;obtain⟨xs,d⟩:=g.allInts.items;refine⟨a,xs,rfl,by rw[<- d];exact i.isList,?_⟩;rw[<- nums_intItems,<- d];exact g.numsOf
def Em(k:X.calm=J):eV X (.builtin "sum") (i6 X.K m λd=>ζ.k7 d>>=λxs=>ζ.hA xs):=by
 rintro pins s σ H xs t Q I r ⟨G,z,d,j,h,p,hw⟩;subst j;obtain⟨u,rfl,o⟩:=vals1 r;cases d with
 |lst ds =>
  have g:a3 (ζ.hA ds) _ _:=hw;clear hw;unfold ζ.hA at g;cases q:ζ.intsOf ds with
  |none=>rw[q]at g;exact g.elim
  |some ns =>
   rw[q]at g;cases mK q;obtain⟨a,xs,rfl,n,i⟩:=ints_list (K:=X.K) I h p o;refine sum_intListG (I.ok.hd k) n λh' tk t' l=>?_
   refine⟨.int ns.sum,H,I.kept l,⟨t',?_⟩,g _ G H (Ext.refl h) bq.int⟩;rw[preSum_eq,PB (by simp),i]
 |_=>exact hw.elim
theorem uH(g:Nat->Int):∀k,g (argBest (λi j=>decide (g i>g j)) k)=((Tp k).map λi=>g (i+1)).foldl (λm x=>if x>m then x else m) (g 0)
 |0=>rfl
 |k+1=>by
  rw[List.range_succ,Te,Tv,<- uH g k];show g (if decide (g (k+1)>g (argBest (λi j=>decide (g i>g j)) k))=J then k+1 else argBest (λi j=>decide (g i>g j)) k)=_;simp only[Tb,P5,Ua,Wf]
  by_cases h:g (k+1)>g (argBest (λi j=>decide (g i>g j)) k)
  .rw[if_pos (decide_eq_true h),if_pos h]
  .rw[if_neg (by simpa using h),if_neg h]
def HR(xs)(n)(ns)(h:xs.toList.map (·.1)=n::ns):numAt xs 0=n/\(Tp (xs.size-1)).map (λi=>numAt xs (i+1))=ns:=by
 have g:∀i,numAt xs i=((n::ns)[i]?).getD 0:=λi=>by
  unfold numAt;rw[<- h,OG,OU]
 have hz:xs.size=ns.length+1:=by
  have:=Pw U3 h;simpa using this
 refine⟨by rw[g];rfl,?_⟩;rw[hz,Nat.add_sub_cancel];apply Qo;intro i;rw[OG]
 by_cases d:i<ns.length
 .rw[Q1 d,Uj,g,Vz,Ov d];rfl
 .rw[OV (by simpa using d),OV (by simpa using d)];rfl
def Ek(k:X.calm=J):eV X (.builtin "max") (i6 X.K m λd=>ζ.k7 d>>=λxs=>ζ.ht xs):=by
 rintro pins s σ H xs A Q I r ⟨G,z,d,j,i,y,hw⟩;subst j;obtain⟨u,rfl,w⟩:=vals1 r;cases d with
 |lst ds =>
  have g:a3 (ζ.ht ds) _ _:=hw;clear hw;unfold ζ.ht at g;cases q:ζ.intsOf ds with
  |none=>rw[q]at g;exact g.elim
  |some ns =>
   rw[q]at g;cases ns with
   |nil=>exact g.elim
   |cons n ns =>
    cases mK q;obtain⟨a,xs,rfl,o,h⟩:=ints_list (K:=X.K) I i y w;obtain⟨e0,e1⟩:=HR xs n ns h;have hz:0<xs.size:=by
     have:=Pw U3 h;simp at this;lia
    refine max_intList (I.ok.hd k) o hz λv h' tk p l=>?_
    obtain⟨t,rfl⟩:=intItems_at p;refine⟨.int (ns.foldl (λm x=>if x>m then x else m) n),H,I.kept l,⟨t,?_⟩,g _ G H (Ext.refl i) bq.int⟩;rw[uH (numAt xs),e0,e1]
 |_=>exact hw.elim
end
def boot_enumerate:T2 "enumerate"=Z (.type "enumerate"):=by kernel_rfl
section
variable{xp:bS}{X:au}{ae:List Nat}{m:dc}{f bo b6:aF->a9 D}{a b:Tq}{elts:List Tq}{k:Nat}{pos p p4:UN}{x:Tj}
noncomputable def nR(K:W.Frag)(l:Td):gH :=
  ⟨λi H=>∃xs x,cp K H l xs/\xs[i]?=Z x,
   λi H v c=>∃T x,H T=Y/\v=.ref T/\c=upd H T (.tup [.int (i:Nat),x])/\∀xs,cp K H l xs->xs[i]?=Z x,
   λi H=>∃xs,cp K H l xs/\xs.length<=i⟩
def MH(e c l:Td)(n:Nat)(h:TH):Prop:=(∃d,IsEnum h e c (n:Nat) d)/\h.IsListIter c l n
def MV{K:W.Frag}(T:e≠t):Turn P w K (.Tuple elts k pos) (nR K l) [e,t] e (MH e t l) where
 mem:=by simp
 obj:=λn h st c j=>by
  obtain⟨⟨B,d⟩,⟨bb,ar,_,aj⟩⟩:=st;simp only[Oq,Qw,S2]at j;rcases j with rfl|rfl
  .exact⟨_,d,λv z=>by cases z⟩
  .exact⟨bb,ar,λv z=>by rw[aj]at z;cases z⟩
 keep:=λn h h' st k=>by
  obtain⟨⟨B,d⟩,i⟩:=st;exact⟨⟨B,k e (by simp) _ d⟩,i.at λo q=>k t (by simp) o q⟩
 item:=by
  intro X M hw L j n O s S H E I u st N;subst M hw L;obtain⟨xs,x,A,U⟩:=N;obtain⟨its,R,Q,_⟩:=I.list A;obtain⟨C,aX,a5⟩:=R.get U;obtain⟨⟨B,d⟩,i⟩:=st;refine wpAny_pyNext_enum_item d i Q.isList (x:=C) (by simpa using aX) T λg ao ax ay a8 aA=>⟨_,rfl,?_⟩
  refine wpAny_letOwnedTupleGo_enum (s:={ s with heap:=g,toks:=s.toks+1 }) ao λg' a6 G=>?_
  have lt:∀c∈[e,t],c<s.heap.objs.size:=λc r=>by
   simp only[Oq,Qw,S2]at r;rcases r with rfl|rfl
   .exact Ou d
   .obtain⟨o,q,_⟩:=i;exact Ou q
  have keep:∀c o,c∉[e,t]->s.heap.get? c=Z o->g'.get? c=Z o:=λc o y q=>by
   have a0:c≠e:=λw=>y (by simp[w])
   exact G.extBut _ _ a0 (aA c o a0 (λw=>y (by simp[w])) q)
  have a1:Inv X O S H { s with heap:=g',toks:=s.toks+1 }:=Av I keep u;have fr:H s.heap.objs.size=none:=I.fresh;have aB:g'.get? s.heap.objs.size=Z { cls:=.type "tuple",data:=.seq #[.int n s.toks,C] }:=G.extBut _ _ (RM (lt e (by simp))) ay;have a2:Inv X O S (upd H s.heap.objs.size (.tup [.int (n:Nat),x])) { s with heap:=g',toks:=s.toks+1 }:=by
   refine MP a1 fr I.d5 (RM I.lt) (λx c e w=>?_) (λa7 b1 w=>?_) ⟨by show 2<=_;rw[Tw];lia,[.int n s.toks,C],.cons ⟨_,rfl⟩ (.cons a5 .nil),⟨_,aB,rfl,_,rfl⟩⟩
   .obtain⟨v,o,aC,_⟩:=I.cell x c e;exact absurd (Ou aC) (by rw[w];exact Pq _)
   .exact absurd (Ou (I.pin a7 b1).1) (by rw[w];exact Pq _)
  refine⟨.ref s.heap.objs.size,upd H s.heap.objs.size (.tup [.int (n:Nat),x]),a2,rfl,⟨_,x,fr,rfl,rfl,λcw b2=>?_⟩,⟨⟨C,a6⟩,ax.extBut G.extBut (Pd T)⟩,λc r=>?_⟩
  .rw[I.xG b2 A];exact U
  .rw[bj (OI (lt c r))];exact(u c r).1
 done:=by
  intro X M hw L j n O s S H E I u st N;subst M hw L;obtain⟨xs,A,bl⟩:=N;obtain⟨its,R,Q,_⟩:=I.list A;obtain⟨⟨B,d⟩,i⟩:=st;have bw:=R.length;refine wpAny_pyNext_enum_end (I.ok.hd j) d i Q.isList (by simp;lia) λg k=>⟨rfl,?_⟩
  exact Av (t':=s.toks) I (λc o y q=>k c o (λw=>y (by simp[w])) q) u
 self:=λ_ _ _ _ _ st h=>let ⟨⟨_,q⟩,_⟩:=st;wpAny_pyIter_enum q h
theorem vS:∀(xs:List D)(j i:Nat){d:D},(ζ.fw j xs)[i]?=Z d->∃x,xs[i]?=Z x/\d=.tup [.int ((j+i:Nat):Int),x]
 |[],j,i,d,h=>by simp[ζ.fw]at h
 |x::xs,j,0,d,h=>by simp[ζ.fw]at h;exact⟨x,rfl,h.symm⟩
 |x::xs,j,i+1,d,h=>by
  obtain⟨y,c,e⟩:=vS xs (j+1) i (by simpa[ζ.fw] using h);exact⟨y,by simpa using c,by rw[e];congr 3;lia⟩
theorem oi:∀(xs:List D)(j:Nat),(ζ.fw j xs).length=xs.length
 |[],_=>rfl
 |x::xs,j=>by simp[ζ.fw,oi xs]
def FF{K:W.Frag}(q:∀c e,P c e->aH G c/\cp K e l xs)(r:aO K G ds xs):g8 K P (nR K l) (ζ.fw 0 ds) where
 go:=λi c e h t=>by
  obtain⟨_,n⟩:=q c e h;rw[oi,r.length]at t;exact⟨xs,xs[i]'t,n,Ov _⟩
 gF:=λi c e v H d h u A E=>by
  obtain⟨T,x,s,z,y,B⟩:=E;obtain⟨g,n⟩:=q c e h;obtain⟨I,e1,rfl⟩:=vS ds 0 i A;obtain⟨j,k1,k2⟩:=r.get e1;have w:=B xs n;rw[k1]at w;obtain rfl:j=x:=O1 w;subst z y;refine⟨upd c T (.tup [.int (i:Nat),j]),Ext.put u s,T,[.int (i:Nat),j],rfl,cj,?_⟩;have C:=d3 (o:=eG.tup [.int (i:Nat),j]) (u.free s);exact⟨.int (i:Nat),[j],rfl,by show V.int _=V.int _;congr 1;lia,j,[],rfl,(k2.mono g).mono C,rfl⟩
 stop:=λc e h=>by
  obtain⟨_,n⟩:=q c e h;exact⟨xs,n,by rw[oi,r.length];exact Ot _⟩
def Kd (aj : m = .view \/ m = .val) (ax : x = "enumerate") (a1 : cQ X x) (ar : X.aG x = Y) (a0 : ai X a (aE xp X ae m bo)) (N : Tu [a] X.env = [(S6, T4 a X.env)]) :
    fb X (.Tuple elts k p4) (.Call (.Name x p) [a] [] pos) (gC xp X ae m fun B => bo B >>= fun x => ζ.om x) := by
  subst ax
  rintro ay s b1 H R I ⟨G, B, ao, hw⟩
  refine Call_ (f3 I a1 ar boot_enumerate (O4 (aV (f7 a0 N pos ay s b1 H (fun S j => ∃ v i ds, S = [v] /\ Ext G H i j /\ bq X.K H i j m (.lst ds) v /\
      ∀ E C y, Ext G H C y -> g8 X.K (hH m C y) E (ζ.fw 0 ds) -> (ζ.fw 0 ds).length <= 16777216 -> R E y) I
    ⟨G, B, ao, aW (aL.mp hw) (fun T q v d o w A => ?_) fun _ q => q⟩) fun a7 r aC => ?_) N rfl))
  · cases T with
    | lst ds => exact ⟨v, d, ds, rfl, w, A, q⟩
    | _ => exact q.elim
  · obtain ⟨S, o, u, A, v, d, ds, e1, w, Q, hR⟩ := aC
    subst e1
    obtain ⟨bb, rfl, aA⟩ := vals1 A
    obtain ⟨l, xs, rfl, a2, O, U⟩ : ∃ l xs, v = V.ref l /\ cp X.K o l xs /\ aO X.K d ds xs /\ ∀ i j, hH m d o i j -> aH d i /\ cp X.K j l xs := by
      rcases aj with rfl | rfl
      · obtain ⟨l, xs, e, h, q⟩ := Q
        exact ⟨l, xs, e, h, q, fun i j ⟨n, t⟩ => ⟨n, gb t h⟩⟩
      · obtain ⟨l, xs, e, h, q⟩ := Q
        exact ⟨l, xs, e, gb w.sub h, q, fun i j ⟨n, t⟩ => ⟨n, gb t (gb n h)⟩⟩
    cases aA
    obtain ⟨its, aX, p1, b2⟩ := u.list a2
    refine call_enumerate_list p1.isList fun g n t a5 aB => ?_
    refine wpAny_pyIter_enum n ?_
    refine ⟨r.heap.objs.size + 1, [r.heap.objs.size + 1, r.heap.objs.size], _, nR X.K l, o, rfl, u.kept (t' := r.toks) aB, MV ?_, ⟨⟨_, n⟩, t⟩, fun c L => ?_, ?_⟩
    · intro z; have z : (_ : Nat) = _ := z; lia
    · have M : r.heap.objs.size <= c := by
        simp only [Oq, Qw, S2] at L
        rcases L with rfl | rfl
        · exact W7 _ _
        · exact Ot _
      exact u.kG M (u.aK.fresh M)
    · refine hR (nR X.K l) d o w (FF (G := d) U O) ?_
      rw [oi, O.length]
      have := Tw
      lia
end
section
variable{xp:bS}{X:au}{ae:List Nat}{m:dc}{f:aF->a9 D}{e eC iter:Tq}{pos p1 p4 ap du:UN}{i:Nat}{x n:Tj}{jd:List T3}
def vc{o:Option (Option D)}(h:a3 (ζ.iC o) Q E):∃ds,o=Z (Z (.lst ds))/\Q ():=by
 cases o with
 |none=>exact h.elim
 |some o =>
  cases o with
  |none=>exact h.elim
  |some d =>
   cases d with
   |lst ds=>exact⟨ds,rfl,h⟩
   |_=>exact h.elim
def oD(a:Tu [e] X.env=[(S6,T4 e X.env)]):((UJ du (Tu [e] X.env)).all (λx=>!x.1)&&(Xw du (V9 [] X.env)).all (λx=>x.1.isSome)&&decide ([e].length+([]:List Vc).length+(if ([]:List Vc).isEmpty then 0 else 1)<30))=true:=by
 rw[a];rfl
def JR(l:i∈ae)(N:n="append")(C:X.N[i]?=Z x)(O:dB X.env.scope x)(u:(x==("__debug__":Tj))=S6)(w:(x==("__classdict__":Tj))=S6)(M:(ap.endLine==du.line)=J)(L:ai X e (aE xp X ae .val f))(h:Tu [e] X.env=[(S6,T4 e X.env)]):
  bV X (.Expr (.Call (.Attribute (.Name x p1) n ap) [e] [] du) p4) (b3 xp X ae λb=>ζ.iC b[i]?>>=λ_=>f b>>=λd=>ζ.l7 b[i]? d>>=λy=>.ok (.aU (b.set i (Z y)))):=by
 subst N;rintro Q s r H T I ⟨S,U,G,b,c,hw⟩;refine yL (pl Qx PySem.F.slot_list_append PySem.F.type_list_append x1 (d1 C O u w) (f7 L h) rfl (oD h) M h rfl) rfl Q s r H T I ?_;obtain⟨ds,q,hw⟩:=vc (aL.mp hw);obtain⟨a,o,k1,k2,k3,xs,rfl,p⟩:=c.aS.lst i (.lst ds) q l rfl;refine⟨_,k1,.inl ⟨rfl,xs,cp.of k2⟩,?_⟩;refine⟨G,b,c.aS,aW (aL.mp hw) (λd k v j t g R=>?_) λ_ z=>z.mono c.ext.h⟩;have E:=c.step g;rw[q,ζ.n1]at k;have k:=aL.mp k
 by_cases hz:ds.length<ζ.SZ
 .rw[if_pos hz]at k;have B:t a=Z (.lst xs):=g.h _ _ k2;have A:j a=none:=g.new a k3 (by rw[k2];exact λz=>nomatch z);refine⟨a,xs,v,rfl,rfl,B,by rw[<- p.length,<- l4];exact hz,?_⟩;exact k r j _ (E.write (d:=.lst ds) (e:=.lst (ds++[d])) l q rfl rfl k1 A ⟨_,rfl,(p.mono g.g).snoc R⟩)
 .rw[if_neg hz]at k;exact k.elim
noncomputable def e3(b c:ag):ag:=λa=>match b a with
 |some o=>Z o
 |none=>c a
def iS(h:b a=Z o):e3 b c a=Z o:=by unfold e3;rw[h]
def gw(h:b a=Y):e3 b c a=c a:=by unfold e3;rw[h]
variable{K:W.Frag}{bE a4 bt H1 G H:ag}{aa:aF}{σ:bu}
def zC(x:Ext bE a4 bt H1):aH a4 (e3 bt a4):=λa o h=>by
 cases q:bt a with
 |none=>rw[gw q];exact h
 |some c =>
  rw[iS q];have e1:=x.sub a c q;have b:=x.h a o h;rw[e1]at b;exact b
def Ej(x:Ext bE a4 bt H1)(y:Ext bE a4 G H)(s:aH bt G):Ext bt (e3 bt a4) G H where
 g:=s
 h:=λa o e=>by
  cases q:bt a with
  |some d=>rw[iS q]at e;cases e;exact y.sub a o (s a o q)
  |none=>rw[gw q]at e;exact y.h a o e
 sub:=y.sub
 new:=λa e1 c=>by
  rw[gw e1]at c;refine y.new a ?_ c;cases q:bE a with
  |none=>rfl
  |some o=>rw[x.g a o q]at e1;cases e1
 c2:=λb xs z=>(y.c2 b xs z).elim (λw=>.inl (by
  cases q:bt b with
  |none=>rw[gw q];exact w
  |some o=>rw[iS q];rw[y.sub b o (s b o q)]at z;exact z)) .inr
def wm(x:Ext bE a4 bt H1)(y:Ext bt (e3 bt a4) G H):Ext bE a4 G H where
 g:=x.g.trans y.g
 h:=(zC x).trans y.h
 sub:=y.sub
 new:=λa e1 c=>by
  have q:=x.new a e1 c;exact y.new a q (by rw[gw q];exact c)
 c2:=λb xs z=>(y.c2 b xs z).elim (λw=>by
  cases q:bt b with
  |none=>rw[gw q]at w;exact .inl w
  |some o=>rw[iS q]at w;exact .inr (y.g _ _ (q.trans w))) .inr
def b8.re(x:Ext bE a4 bt H1)(h:b8 K ae bE a4 G H aa σ)(s:aH bt G):b8 K ae bt (e3 bt a4) G H aa σ:=by
 refine⟨h.aS,Ej x h.ext s,λi ds a q c d e=>?_⟩;obtain⟨b,xs,k1,k2,k3,g⟩:=h.aS.lst i ds q d c;rw[k1]at e;cases e;have:bt a=none:=by
  cases z:bt a with
  |none=>rfl
  |some o=>rw[s a o z]at k3;cases k3
 rw[gw this];exact h.own i ds a q c d k1
def b8.back(x:Ext bE a4 bt H1)(h:b8 K ae bt (e3 bt a4) G H aa σ):b8 K ae bE a4 G H aa σ:=by
 refine⟨h.aS,wm x h.ext,λi ds a q b c e=>?_⟩;have:=h.own i ds a q b c e;cases z:bt a with
 |some o=>rw[iS z]at this;cases this
 |none=>rw[gw z]at this;exact this
theorem b8.tu:∀{ts:List Nat}{b:List D}{a:List V}{aa:aF}{σ:bu},(∀t∈ts,t∉ae)->b8 K ae bE a4 G H aa σ->aO K G b a->b8 K ae bE a4 G H (ζ.f9 ts (b.map Z) aa) (jb ts a σ)
 |[],b,a,aa,σ,_,h,r=>by simpa[ζ.f9,jb] using h
 |t::ts,[],a,aa,σ,_,h,r=>by cases r;simpa[ζ.f9,jb] using h
 |t::ts,w::b,a,aa,σ,c,h,⟨v,r,e,d,g⟩=>by
  subst e;exact b8.tu (ts:=ts) (λz hz=>c z (S4 _ hz)) (h.jc (c t S7) d) g
def wB(g:D->aF->a9 ζ.c4)(d:D)(ds:List D)(aa:aF):ζ.forL g (d::ds) aa=g d aa>>=λr=>match r with
  |.aU a=>ζ.forL g ds a
  |.bK x=>.ok (.bK x):=rfl
def J9(b2:WZ (Tc X.prog X.w) X.A X.env X.bk)(aA:X.calm=J)(bb:∀t∈ts,t∉ae)(b1:fb X eC iter (gC xp X ae .val ar))(aC:ix X eC (oA X.K k ts))(ax:c8 X jd (b3 xp X ae B))(aX:∀z,T7 iter X.env z=pure z):bV X (.For eC iter jd [] pos) (b3 xp X ae λaa=>ar aa>>=λds=>ζ.forL (λd b=>ζ.dC k d>>=λh=>B (ζ.f9 ts h b)) ds aa):=by
 rintro a6 s σ H T I ⟨bE,a4,G,aa,u,hw⟩;refine yM b2 aA b1 aC ax aX a6 s σ H T I ?_;refine⟨G,aa,u.aS,aW (aL.mp hw) (λds a5 cq bt H1 S L hz=>?_) λ_ q=>q.mono u.ext.h⟩;have w:Ext bE a4 bt H1:=u.ext.trans S;have b9:=zC w;refine⟨λj m N aD=>j+m=ds.length/\∃g b,b8 X.K ae bt (e3 bt a4) g aD b N/\a3 (ζ.forL (λd b=>ζ.dC k d>>=λh=>B (ζ.f9 ts h b)) (ds.drop j) b) (fz X.K ae bE a4 T) (λc=>dr xp X c a4),
  ⟨ds.length,⋯,bt,aa,b8.re w (u.step S) (aH.refl _),by simpa using a5⟩,?_⟩
 rintro j m N aD ⟨cM,g,b,l,a⟩;have C:hH .val bt H1 g aD:=⟨l.ext.g,l.aS.sub⟩
 by_cases E:j<ds.length
 .refine .inr ⟨L.go j g aD C E,λa0 p=>(j+1)+(m-1)=ds.length/\∃o y,b8 X.K ae bt (e3 bt a4) o p y a0/\a3 (ζ.forL (λd b=>ζ.dC k d>>=λh=>B (ζ.f9 ts h b)) (ds.drop (j+1)) y) (fz X.K ae bE a4 T) (λc=>dr xp X c a4),
   λa0 p ao=>⟨m-1,⋯,ao⟩,λv p a7=>?_⟩
  have aB:ds[j]?=Z ds[j]:=Ov E;obtain⟨o,U,bl⟩:=L.gF j g aD v p ds[j] C l.aS.sub aB a7;have cw:=l.step U;have a1:ds.drop j=ds[j]::ds.drop (j+1):=PC E;rw[a1,wB]at a;have a:=aL.mp (aL.mp a);refine⟨o,ds[j],U.sub,bl,?_⟩;cases q:ζ.dC k ds[j] with
  |bad=>rw[q]at a;exact a
  |exc c =>
   exfalso;cases k with
   |zero=>cases q
   |succ k =>
    cases Q:ds[j] with
    |tup M =>
     rw[Q]at q;have ay:ζ.dC (k+1) (.tup M)=if M.length=k+1 then .ok (M.map Z) else .bad:=rfl;rw[ay]at q
     split at q<;>cases q
    |_=>rw[Q]at q;cases q
  |ok os =>
   rw[q]at a;intro cz h aj bw;subst aj;refine⟨bt,e3 bt a4,o,_,b8.tu bb cw bw,aW a (λr R=>?_) λc z=>z.mono b9⟩;cases r with
   |aU y=>exact λcA A O cx=>⟨⋯,A,y,cx,R⟩
   |bK d=>exact λcc A O cf a8=>R cc A O (wm w cf) a8
 .have a2:j=ds.length:=⋯;subst a2;refine .inl ⟨L.stop g aD C,?_⟩;rw[Sr]at a;exact a N g aD (b8.back w l)
end
def se(a k:List Int):decide (a.map (TQ (β:=Tj))=k.map TQ)=decide (a=k):=by
 by_cases h:a=k
 .simp[h]
 .have:a.map (TQ (β:=Tj))≠k.map Sum.inl:=λz=>h ((List.map_inj_right (λa b=>R5)).mp z)
  simp[h,this]
def vJ(a)(k):fu (ef a) (k.map TQ)=(ζ.eh a k).map V.int:=by
 induction a with
 |nil=>rfl
 |cons p a b =>
  unfold fu ζ.eh ef at b ⊢;rw[Tb,TY,TY];dsimp only;rw[se]
  by_cases h:p.1=k
  .simp[h]
  .simp only[decide_eq_false h];exact b
def vI(a)(k)(n):putK (ef a) (k.map TQ) (V.int n)=ef (ζ.putN a k n):=by
 have e1:((ef a).any λb=>decide (b.1=k.map TQ))=a.any λp=>decide (p.1=k):=by
  induction a with
  |nil=>rfl
  |cons p a c=>unfold ef at c ⊢;rw[Tb,TZ,TZ,c,se]
 have d:(ef a).map (λb=>if b.1=k.map TQ then(b.1,V.int n) else b)=ef (a.map λp=>if p.1=k then(p.1,n) else p):=by
  unfold ef;rw[Ti,Ti];refine PS λp _=>?_
  have:=se p.1 k
  by_cases h:p.1=k
  .simp[h]
  .have h':¬p.1.map (TQ (β:=Tj))=k.map Sum.inl:=(by simpa[h] using this);simp[h,h']
 unfold putK ζ.putN;rw[e1]
 split
 .exact d
 .unfold ef;rw[Te];rfl
def xl(k:List Int):(k.map (TQ (β:=Tj))).map bQ=k.map V.int:=by rw[Ti];rfl
def iH{o:Option (Option D)}(h:ζ.fl o=Z a):o=Z (Z (.aN a)):=by
 unfold ζ.fl at h
 split at h
 .cases h;rfl
 .cases h
def oe{o:Option (Option D)}(h:ζ.gm o=Z a):o=Z (Z (.aM a)):=by
 unfold ζ.gm at h
 split at h
 .cases h;rfl
 .cases h
def hK{α:Type}{f:D->Option α}{o:Option (Option D)}{a:α}(h:ζ.df f o=Z a):∃d,o=Z (Z d)/\f d=Z a:=by
 unfold ζ.df at h
 split at h
 .exact⟨_,rfl,h⟩
 .cases h
def oQ{d:D}(h:ζ.intD d=Z i):d=.int i:=by
 unfold ζ.intD at h
 split at h
 .cases h;rfl
 .cases h
def nA{d:D}(h:ζ.d6 d=Z k):d=.tup (k.map .int):=by
 unfold ζ.d6 at h
 split at h
 .rw[mK h]
 .cases h
def zk{d:D}(h:ζ.rowOf d=Z r):d=ζ.jZ r:=by
 unfold ζ.rowOf at h
 split at h
 .split at h
  .rename_i e;cases h;rw[mK e];rfl
  .cases h
 .cases h
theorem ints_rep{K:W.Frag}:∀ns:List Int,aO K G (ns.map ζ.D.int) (ns.map V.int)
 |[]=>rfl
 |n::ns=>⟨.int n,ns.map V.int,rfl,rfl,ints_rep ns⟩
section
variable{G:ag}
end
section
variable{G:ag}
theorem cX.val:∀{a:List (Int×Int×Int)}{ys:List (Key×V)},cX G a ys->∀{k:Int}{r:Int×Int},ζ.jj a k=Z r->∃b,fu ys (TQ k)=Z (.ref b)/\G b=Z (.tup [.int r.1,.int r.2])
 |[],_,_,k,r,e=>by cases e
 |p::a,_,⟨b,t,e,f,g⟩,k,r,q=>by
  subst e;unfold ζ.jj at q;unfold fu;rw[TY]at q ⊢
  by_cases c:p.1=k
  .simp only[c,S3,Uj,Px]at q ⊢;subst q;exact⟨b,rfl,f⟩
  .have d:¬(TQ p.1:Key)=TQ k:=λz=>c (R5 z)
   simp only[c,d,decide_false]at q ⊢;exact cX.val g q
theorem cX.any:∀{a:List (Int×Int×Int)}{ys:List (Key×V)},cX G a ys->∀k:Int,(ys.any λg=>decide (g.1=TQ k))=a.any λp=>decide (p.1=k)
 |[],_,h,k=>by cases h;rfl
 |p::a,_,⟨b,t,e,i,f⟩,k=>by
  subst e;rw[TZ,TZ,cX.any f k];congr 1
  by_cases c:p.1=k
  .simp[c]
  .have d:¬(TQ p.1:Key)=TQ k:=λz=>c (R5 z)
   simp[c,d]
theorem cX.map(a:G b=Z (.tup [.int r.1,.int r.2])):∀{f:List (Int×Int×Int)}{ys:List (Key×V)},cX G f ys->cX G (f.map λp=>if p.1=k then(p.1,r) else p) (ys.map λd=>if d.1=TQ k then(d.1,.ref b) else d)
 |[],_,h=>by cases h;rfl
 |p::f,_,⟨i,t,e,j,g⟩=>by
  subst e;rw[Tb,Tb]
  by_cases c:p.1=k
  .rw[if_pos c,if_pos (by rw[c])];exact⟨b,_,rfl,a,cX.map a g⟩
  .rw[if_neg c,if_neg λz=>c (R5 z)];exact⟨i,_,rfl,j,cX.map a g⟩
theorem cX.snoc(c:G b=Z (.tup [.int q.2.1,.int q.2.2])):∀{a:List (Int×Int×Int)}{ys:List (Key×V)},cX G a ys->cX G (a++[q]) (ys++[(TQ q.1,.ref b)])
 |[],_,h=>by cases h;exact⟨b,[],rfl,c,rfl⟩
 |p::a,_,⟨d,t,e,f,g⟩=>by subst e;exact⟨d,_,rfl,f,cX.snoc c g⟩
def cX.put(h:cX G c ys)(k)(a:G b=Z (.tup [.int r.1,.int r.2])):cX G (ζ.ib c k r) (putK ys (TQ k) (.ref b)):=by
 unfold ζ.ib putK;rw[h.any k]
 split
 .exact h.map a
 .exact h.snoc (q:=(k,r)) a
theorem cX.len:∀{a:List (Int×Int×Int)}{ys:List (Key×V)},cX G a ys->ys.length=a.length
 |[],_,h=>by cases h;rfl
 |p::a,_,⟨b,t,e,d,c⟩=>by subst e;rw[To,To,cX.len c]
def zl{K:W.Frag}(h:Rep K G (ζ.jZ r) v):∃b,v=.ref b/\G b=Z (.tup [.int r.1,.int r.2]):=by
 obtain⟨b,xs,e,a,c⟩:=h;rw[gA (ns:=[r.1,r.2]) c]at a;exact⟨b,e,a⟩
def JK{K:W.Frag}(h:G b=Z (.tup [.int r.1,.int r.2])):Rep K G (ζ.jZ r) (.ref b):=⟨b,_,rfl,h,.int r.1,_,rfl,rfl,.int r.2,_,rfl,rfl,rfl⟩
end
section
variable{X:au}{pins:List (Td×Uq)}{σ:bu}{G H:ag}{s:S9}
def freeze(I:Inv X pins σ H s)(d:H a=Z u)(h:(∃ys,u=.b5 ys)\/∃ys,u=.cm ys):∃g,Inv X pins σ (upd H a (.cy g u)) s:=by
 obtain⟨g,m,_⟩:=te I (a:=a) (by rcases h with⟨ys,rfl⟩|⟨ys,rfl⟩;exact .inl ⟨ys,.inl d⟩;exact .inr ⟨ys,.inl d⟩);have f:∀{b:Td},H b=Y->b≠a:=λq z=>by rw[z,d]at q;cases q
 have nt:∀{b:Td}{v:eG},H b=Z v->(∀ys,v≠.b5 ys)->(∀ys,v≠.cm ys)->b≠a:=λq k l z=>by
  rw[z,d]at q;cases q;rcases h with⟨ys,e⟩|⟨ys,e⟩
  .exact k ys e
  .exact l ys e
 have i:∀{b:Td}{v:eG},bZ X.prog X.w H s.heap b v->bZ X.prog X.w (upd H a (.cy g u)) s.heap b v:=λq=>q.g0 (λ_ _ _ z=>z)
  (λc z=>by rw[bj (nt z (λ_ w=>nomatch w) λ_ w=>nomatch w)];exact z) λc xs z=>by rw[bj (nt z (λ_ w=>nomatch w) λ_ w=>nomatch w)];exact z
 refine⟨g,I.ok,I.os,I.bare,⟨I.base.keep,I.base.slot,λb o e n t=>?_,I.base.there,λb xs e=>?_,λb o v e=>?_,λb A e=>?_⟩,I.loc,I.cell,?_,λx c e=>?_,λp r=>?_,λb v e=>?_,I.len⟩
 .have q:=I.base.free b o e n t;rw[bj (f q)];exact q
 .have q:=I.base.g5 b xs e;rw[bj (nt q (λ_ w=>nomatch w) λ_ w=>nomatch w)];exact q
 .have q:=I.base.gs b o v e;rw[bj (nt q (λ_ w=>nomatch w) λ_ w=>nomatch w)];exact q
 .obtain⟨y,q⟩:=I.base.g4 b A e;exact⟨y,by rw[bj (nt q (λ_ w=>nomatch w) λ_ w=>nomatch w)];exact q⟩
 .rw[bj (f I.free)];exact I.free
 .rw[bj (f (I.ez x c e))];exact I.ez x c e
 .obtain⟨B,j,C⟩:=I.pin p r;exact⟨B,by rw[bj (f j)];exact j,C⟩
 .by_cases c:b=a
  .subst c;rw[cj]at e;cases e;exact⟨m,i (I.aK b u d)⟩
  .rw[bj c]at e;exact i (I.aK b v e)
def sY(h:ai X e l):ai X e (λσ H Q=>l σ H λv b=>∃a u,v=.ref a/\b a=Z u/\((∃ys,u=.b5 ys)\/∃ys,u=.cm ys)/\∀c,Q v (upd b a (.cy c u))):=by
 intro pins s σ H Q I q;refine Pj (h pins s σ H _ I q) (λw n m=>?_) λ_ _ z=>z
 obtain⟨v,b,d,j,a,u,e,g,i,k⟩:=m;obtain⟨c,f⟩:=freeze d g i;exact⟨v,_,f,j,k c⟩
end
section
variable{xp:bS}{X:au}{ae:List Nat}{m:dc}{f:aF->a9 D}{val:Tq}{pos p1 p2 p3 p4 lq:UN}{i j:Nat}{x y:Tj}{pins:List (Td×Uq)}{σ:bu}{G H:ag}{s:S9}{aa:aF}
def Eg(d:aH G H)(c:H a=Y)(e:∀xs,b≠.tup xs):Ext G H (upd G a b) (upd (upd H a o) a b):=by rw[tW];exact Ext.put d c
def J3(g:i∈ae)(c:X.N.Nodup)(e:X.N[i]?=Z x)(h:Loc X.env.scope x)(d:X.fn x=J\/X.env.scope.names.lookup x=Z .local):bV X (.Assign [.Name x p1] (.Dict [] [] lq) pos) (b3 xp X ae λaa=>.ok (.aU (aa.set i (Z (.aN []))))):=by
 rintro pins s σ H T I ⟨k,l,G,aa,a,hw⟩;refine nd c e h Iv rfl d pins s σ H T I ?_;intro p b;exact hw _ G _ (a.nk (Ext.own a.aS.sub b λ_ z=>nomatch z) g rfl cj b (a.aS.sub.free b) rfl)
def J4(g:i∈ae)(c:X.N.Nodup)(e:X.N[i]?=Z x)(h:Loc X.env.scope x)(d:X.fn x=J\/X.env.scope.names.lookup x=Z .local):bV X (.Assign [.Name x p1] (.Dict [] [] lq) pos) (b3 xp X ae λaa=>.ok (.aU (aa.set i (Z (.aM []))))):=by
 rintro pins s σ H T I ⟨k,l,G,aa,a,hw⟩;refine nd c e h yx rfl d pins s σ H T I ?_;intro p b;exact hw _ G _ (a.nk (Ext.own a.aS.sub b λ_ z=>nomatch z) g rfl cj b (a.aS.sub.free b) ⟨[],rfl,rfl⟩)
def J5:ai X (.Dict [] [] lq) (aE xp X ae .val λ_=>.ok (.aM [])):=by
 rintro pins s σ H Q I ⟨G,aa,b,hw⟩;refine sY yx pins s σ H Q I λp a=>⟨p,_,rfl,cj,.inl ⟨_,rfl⟩,λc=>?_⟩
 exact hw (.ref p) _ _ (Eg b.sub a λ_ z=>nomatch z) ⟨p,c,[],rfl,cj,rfl⟩
def tC(c:cF X.K ae G H aa σ)(g:j∉ae){k:List Int}(h:aa[j]?=Z (Z (.tup (k.map .int)))):∃b,σ[j]?=Z (Z (V.ref b))/\H b=Z (.tup ((k.map (TQ (β:=Tj))).map bQ)):=by
 obtain⟨v,d,b,ys,rfl,a,e⟩:=c.val j _ h g;rw[gA e]at a;exact⟨b,d,by rw[xl];exact c.sub _ _ a⟩
def J2(w:i∉ae)(A:j∉ae)(t:X.N[i]?=Z x)(B:dB X.env.scope x)(h:(x==("__debug__":Tj))=S6)(n:(x==("__classdict__":Tj))=S6)(u:X.N[j]?=Z y)(C:dB X.env.scope y)(l:(y==("__debug__":Tj))=S6)(o:(y==("__classdict__":Tj))=S6):ai X (.Dict [Z (.Name x p1)] [.Name y p2] pos) (aE xp X ae .val λaa=>ζ.mv aa[i]? aa[j]?):=by
 rintro pins s σ H Q I ⟨G,aa,a,hw⟩;dsimp only at hw;unfold ζ.mv at hw;cases e1:ζ.df ζ.intD aa[i]? with
 |none=>rw[e1]at hw;exact hw.elim
 |some k =>
  cases c:ζ.df ζ.rowOf aa[j]? with
  |none=>rw[e1,c]at hw;exact hw.elim
  |some r =>
   rw[e1,c]at hw;obtain⟨S,E,L⟩:=hK e1;obtain⟨T,M,N⟩:=hK c;cases oQ L;cases zk N;obtain⟨O,k1,d⟩:=a.val i _ E w;have d:O=.int k:=d;subst d;obtain⟨U,k2,R⟩:=a.val j _ M A;obtain⟨b,rfl,v⟩:=zl R;refine sY (Iu (I1 (d1 t B h n) (d1 u C l o) I2) rfl rfl (λz=>nomatch z) (by simp)) pins s σ H Q I λp e=>?_
   refine⟨_,k1,_,k2,cj,[(TQ k,.ref b)],rfl,by simp,p,_,rfl,cj,.inl ⟨_,rfl⟩,λg=>?_⟩;have q:=a.sub.free e;refine hw (.ref p) (upd G p (.cy g (.b5 (lg [] [(TQ k,.ref b)])))) _ (by rw[tW,tW];exact Ext.put a.sub e) ⟨p,g,_,rfl,cj,b,[],rfl,d3 q _ _ v,rfl⟩
def J0(aj:X.A.units+64<TS)(A:j∉ae)(R:X.N[i]?=Z x)(T:dB X.env.scope x)(L:(x==("__debug__":Tj))=S6)(N:(x==("__classdict__":Tj))=S6)(S:X.N[j]?=Z y)(U:dB X.env.scope y)(M:(y==("__debug__":Tj))=S6)(O:(y==("__classdict__":Tj))=S6):ai X (.Subscript (.Name x p1) (.Name y p2) pos) (aE xp X ae m λaa=>ζ.hk aa[i]? aa[j]?):=by
 rintro pins s σ H Q I ⟨G,aa,l,hw⟩;refine Ir ⋯ (d1 R T L N) (d1 S U M O) (λ_ _=>rfl) pins s σ H Q I ?_;dsimp only at hw;have a1:∀g k,ζ.fl aa[i]?=Z g->ζ.df ζ.d6 aa[j]?=Z k->tK (j5 i) (j5 j) σ H Q:=λg k e1 h=>by
  rw[ζ.hk,e1,h]at hw;dsimp only at hw;obtain⟨v,k1,a,rfl,k2⟩:=l.view (iH e1);obtain⟨B,t,u⟩:=hK h;cases nA u;obtain⟨b,q,k5⟩:=tC l A t;cases e:ζ.eh g k with
  |none=>rw[e]at hw;exact hw.elim
  |some n =>
   rw[e]at hw;refine⟨_,k1,_,q,a,.int n,rfl,.inr ⟨_,_,b,k2,rfl,k5,by rw[vJ,e];rfl⟩,hw _ G H (Ext.refl l.sub) (by cases m<;>rfl)⟩
 have a0:∀g k,ζ.gm aa[i]?=Z g->ζ.df ζ.intD aa[j]?=Z k->a3 (match ζ.jj g k with|some r=>.ok (ζ.jZ r)|none=>.bad) (λd=>∀v z o,Ext G H z o->bq X.K H z o m d v->Q v o) (λc=>dr xp X c H)->tK (j5 i) (j5 j) σ H Q:=λg k e1 h hw=>by
  obtain⟨v,k1,a,ys,rfl,k2,k3⟩:=l.view (oe e1);obtain⟨B,t,u⟩:=hK h;cases oQ u;obtain⟨a2,q,w⟩:=l.val j _ t A;have w:a2=.int k:=w;subst w;cases e:ζ.jj g k with
  |none=>rw[e]at hw;exact hw.elim
  |some r =>
   rw[e]at hw;obtain⟨b,C,E⟩:=k3.val e;refine⟨_,k1,_,q,a,.ref b,rfl,.inl ⟨ys,TQ k,k2,rfl,C.symm⟩,hw _ G H (Ext.refl l.sub) ?_⟩;have:=JK (K:=X.K) E;cases m<;>exact this
 cases e1:ζ.fl aa[i]? with
 |some g =>
  cases h:ζ.df ζ.d6 aa[j]? with
  |some k=>exact a1 g k e1 h
  |none =>
   rw[ζ.hk,e1,h]at hw;have:ζ.gm aa[i]?=none:=(by rw[iH e1];rfl);rw[this]at hw;exact hw.elim
 |none =>
  rw[ζ.hk,e1]at hw;dsimp only at hw;cases e:ζ.gm aa[i]? with
  |none=>rw[e]at hw;exact hw.elim
  |some g =>
   cases p:ζ.df ζ.intD aa[j]? with
   |none=>rw[e,p]at hw;exact hw.elim
   |some k=>rw[e,p]at hw;exact a0 g k e p hw
def J6(a8:X.A.units+64<TS)(A:i∈ae)(a0:j∉ae)(aA:X.N[i]?=Z x)(aX:dB X.env.scope x)(ar:(x==("__debug__":Tj))=S6)(ax:(x==("__classdict__":Tj))=S6)(aB:X.N[j]?=Z y)(bb:dB X.env.scope y)(ao:(y==("__debug__":Tj))=S6)(ay:(y==("__classdict__":Tj))=S6)(b1:ai X val (aE xp X ae .val f))(b2:UK val (Z (.Subscript (.Name x p1) (.Name y p2) p3)) pos.line X.env=pure S6):
  bV X (.Assign [.Subscript (.Name x p1) (.Name y p2) p3] val pos) (b3 xp X ae λaa=>f aa>>=λd=>ζ.kv aa[i]? aa[j]? d>>=λz=>.ok (.aU (aa.set i (Z z)))):=by
 rintro pins s σ H T I ⟨E,t,G,aa,N,hw⟩;refine yK ⋯ (d1 aA aX ar ax) (d1 aB bb ao ay) b1 b2 pins s σ H T I ?_;refine⟨G,aa,N.aS,aW (aL.mp hw) (λd k v U L a6 C=>?_) λ_ z=>z.mono N.ext.h⟩;have p:=N.step a6;have k:=aL.mp k;have aj:∀g e4 n,ζ.fl aa[i]?=Z g->ζ.df ζ.d6 aa[j]?=Z e4->d=.int n->g.length<1000->fz X.K ae E t T (.aU (aa.set i (Z (.aN (ζ.putN g e4 n)))))->∃w,σ[i]?=Z (Z w)/\∃u,σ[j]?=Z (Z u)/\∃a iu,w=.ref a/\gg L a u v iu/\T.aU σ iu:=λg e4 n e1 h M hz q=>by
  subst M;have C:v=.int n:=C;subst C;obtain⟨a,o,k1,k2,k3,B⟩:=p.aS.lst i _ (iH e1) A rfl;cases B;obtain⟨a1,O,Q⟩:=hK h;cases nA Q;obtain⟨b,k5,a7⟩:=tC p.aS a0 O;refine⟨_,k1,_,k5,a,_,rfl,gg.t k2 a7 (by unfold ef;rw[S5,Tw];lia),?_⟩;rw[vI];exact q σ U _ (p.write (d:=.aN g) (e:=.aN (ζ.putN g e4 n)) A (iH e1) rfl rfl k1 k3 rfl)
 have a2:∀g e4 r,ζ.gm aa[i]?=Z g->ζ.df ζ.intD aa[j]?=Z e4->d=ζ.jZ r->g.length<1000->fz X.K ae E t T (.aU (aa.set i (Z (.aM (ζ.ib g e4 r)))))->∃w,σ[i]?=Z (Z w)/\∃u,σ[j]?=Z (Z u)/\∃a iu,w=.ref a/\gg L a u v iu/\T.aU σ iu:=λg e4 r e1 h M hz q=>by
  subst M;obtain⟨c,rfl,aC⟩:=zl C;obtain⟨a,o,k1,k2,k3,ys,rfl,B⟩:=p.aS.lst i _ (oe e1) A rfl;obtain⟨a1,O,Q⟩:=hK h;cases oQ Q;obtain⟨a5,k5,S⟩:=p.aS.val j _ O a0;have S:a5=.int e4:=S;subst S;refine⟨_,k1,_,k5,a,_,rfl,gg.k (k:=TQ e4) k2 (by rw[B.len,Tw];lia),?_⟩;exact q σ U _ (p.write (d:=.aM g) (e:=.aM (ζ.ib g e4 r)) A (oe e1) rfl rfl k1 k3 ⟨_,rfl,B.put e4 aC⟩)
 have R:a3 (match ζ.gm aa[i]?,ζ.df ζ.intD aa[j]?,ζ.rowOf d with|some g,Z k,Z r=>if g.length<1000 then .ok (ζ.D.aM (ζ.ib g k r)) else .bad|_,_,_=>.bad) (λz=>a3 (.ok (ζ.c4.aU (aa.set i (Z z)))) (fz X.K ae E t T) (λc=>dr xp X c t)) (λc=>dr xp X c t)->∃w,σ[i]?=Z (Z w)/\∃u,σ[j]?=Z (Z u)/\∃a iu,w=.ref a/\gg L a u v iu/\T.aU σ iu:=λk=>by
  cases e1:ζ.gm aa[i]? with
  |none=>rw[e1]at k;exact k.elim
  |some g =>
   cases h:ζ.df ζ.intD aa[j]? with
   |none=>rw[e1,h]at k;exact k.elim
   |some e4 =>
    cases l:ζ.rowOf d with
    |none=>rw[e1,h,l]at k;exact k.elim
    |some r =>
     rw[e1,h,l]at k;dsimp only at k
     by_cases hz:g.length<1000
     .rw[if_pos hz]at k;exact a2 g e4 r e1 h (zk l) hz k
     .rw[if_neg hz]at k;exact k.elim
 unfold ζ.kv at k;cases e1:ζ.fl aa[i]? with
 |none=>rw[e1]at k;exact R k
 |some g =>
  cases h:ζ.df ζ.d6 aa[j]? with
  |none=>rw[e1,h]at k;exact R k
  |some e4 =>
   cases l:ζ.intD d with
   |none=>rw[e1,h,l]at k;exact R k
   |some n =>
    rw[e1,h,l]at k;dsimp only at k
    by_cases hz:g.length<1000
    .rw[if_pos hz]at k;exact aj g e4 n e1 h (oQ l) hz k
    .rw[if_neg hz]at k;exact k.elim
def Ks(A:i∈ae)(O:X.N[i]?=Z x)(S:dB X.env.scope x)(M:(x==("__debug__":Tj))=S6)(N:(x==("__classdict__":Tj))=S6):
  bV X (.Return (Z (.Name x p1)) pos) (b3 xp X ae λaa=>ζ.mq aa[i]?>>=λd=>.ok (.bK d)):=by
 rintro pins s σ H T I ⟨L,l,G,aa,k,hw⟩;refine px (sY (d1 O S M N)) pins s σ H T I ?_;dsimp only at hw;have C:∀d,aa[i]?=Z (Z d)->eP d=J->(∀o,gI X.K G d o->(∃ys,o=.b5 ys)\/∃ys,o=.cm ys)->(∀a o h,gI X.K G d o->G a=Y->Rep X.K (upd G a (.cy h o)) d (.ref a))->fz X.K ae L l T (.bK d)->j5 i σ H (λv n=>∃a u,v=.ref a/\n a=Z u/\((∃ys,u=.b5 ys)\/∃ys,u=.cm ys)/\∀h,T.bK v (upd n a (.cy h u))):=λd q p Q R hw=>by
  obtain⟨a,o,k1,k2,k3,B⟩:=k.aS.lst i d q A p;have h0:l a=none:=k.own i d a q p A k1;have t:=Q o B;have nt:∀xs,o≠.tup xs:=λxs z=>by rcases t with⟨_,e⟩|⟨_,e⟩<;>rw[e]at z<;>cases z
  refine⟨_,k1,a,o,rfl,k2,t,λh=>?_⟩;refine hw _ (upd G a (.cy h o)) (upd H a (.cy h o)) ⟨k.ext.g.trans (d3 k3),λb v z=>?_,λb v z=>?_,λb a0 E=>?_,λb xs z=>.inr ?_⟩ (R a o h B k3)
  .have:b≠a:=λw=>by rw[w,h0]at z;cases z
   rw[bj this];exact k.ext.h b v z
  .by_cases c:b=a
   .subst c;rw[cj]at z ⊢;exact z
   .rw[bj c]at z ⊢;exact k.aS.sub b v z
  .have:b≠a:=λw=>E (by rw[w];exact h0)
   rw[bj this];exact k.ext.new b a0 E
  .have c:b≠a:=λw=>by rw[w,cj]at z;cases z
   rw[bj c]at z ⊢;exact k.aS.c2 b xs z
 cases q:aa[i]? with
 |none=>rw[q]at hw;exact hw.elim
 |some o =>
  cases o with
  |none=>rw[q]at hw;exact hw.elim
  |some d =>
   rw[q]at hw;cases d with
   |aN U=>exact C _ q rfl (λo e=>.inr ⟨_,e⟩) (λa o h e g=>by cases e;exact⟨a,h,rfl,cj⟩) hw
   |aM U=>exact C _ q rfl (λo ⟨ys,e,_⟩=>.inl ⟨ys,e⟩) (λa o h ⟨ys,e,r⟩ g=>by subst e;exact⟨a,h,ys,rfl,cj,r.mono (d3 g)⟩) hw
   |_=>exact hw.elim
end
noncomputable def uu(d:Td)(o:eG)(a:List V):gH :=
 ⟨λi H=>H d=Z o/\i<a.length,λi H v b=>b=H/\a[i]?=Z v,λi H=>H d=Z o/\a.length=i⟩
def MW{K:W.Frag}(d it)(L:ep.data=.dict f a1)(C:Vals g (f.toList.map (·.key))):
  Turn P w K ar (uu d (.cy ep u) g) [it] it (λi h=>h.IsKeyIter it d i f.size a1) where
 mem:=by simp
 obj:=λi h st b a=>by
  have e:b=it:=(by simpa using a);subst e;obtain⟨o,e,c,d⟩:=st;exact⟨o,e,λv z=>by rw[d]at z;cases z⟩
 keep:=λi h h' st k=>st.at λo e=>k it (by simp) o e
 item:=by
  intro X t hw r G i Q s S H E I j st x;subst t hw r;obtain⟨B,y⟩:=x;have A:s.heap.get? d=Z ep:=(show bZ X.prog X.w H s.heap d (.cy ep u) from I.aK d _ B).1;have M:g.length=f.size:=(by rw[C.length,S5,Tt]);have O:g[i]?=Z g[i]:=Ov y;obtain⟨v,k1,k2⟩:=C.get O;obtain⟨l,m,a2,n,p,q⟩:=j it (by simp);have N:i<f.size:=⋯;refine Pv.vz st A L N λh' R aj=>?_
  have T:Inv X Q S H { s with heap:=h' }:=I.turned (t':=s.toks) (λb o a e=>(aj.2 b a).trans e) l m n p q;have a0:f[i].key=v:=by
   rw[OG,OU,Oy N]at k1;exact O1 k1
  obtain⟨o,e,c,dd⟩:=id R;exact⟨_,rfl,oB (s:={ s with heap:=h' }) e c dd ∅ ⟨g[i],H,T,by rw[a0];exact k2,⟨rfl,O⟩,R,λb a=>(j b a).1⟩⟩
 done:=by
  intro X t hw r G i Q s S H E I j st x;subst t hw r;obtain⟨B,y⟩:=x;have A:s.heap.get? d=Z ep:=(show bZ X.prog X.w H s.heap d (.cy ep u) from I.aK d _ B).1;have M:g.length=f.size:=(by rw[C.length,S5,Tt]);obtain⟨l,m,a2,n,p,q⟩:=j it (by simp);subst y;rw[M]at st;exact Pv.vx (I.ok.hd G) st A L λh' U=>⟨rfl,I.turned (t':=s.toks) (λb o a e=>U b o a e) l m n p q⟩
 self:=λ_ _ _ _ _ st h=>We st h
def FG{K:W.Frag}(c:∀a b,P a b->aH G a/\b d=Z o)(r:aO K G ds n):g8 K P (uu d o n) ds where
 go:=λi a b h l=>⟨(c a b h).2,by rw[<- r.length];exact l⟩
 gF:=λi a b x s d h m k p=>by
  obtain⟨e,y⟩:=p;obtain⟨g,q⟩:=c a b h;subst e;obtain⟨v,f,j⟩:=r.get k;rw[f]at y;cases y;exact⟨a,Ext.refl m,j.mono g⟩
 stop:=λa b h=>⟨(c a b h).2,r.length.symm⟩
section
theorem rT{G H:ag}(c:∀b xs,H b=Z (.tup xs)->G b=Z (.tup xs)){K:W.Frag}:∀{a:List (List Int×Int)}{xs:List (List Key×Td×S8)},Paired (λ(p:List Key×V)(q:List Key×Td×S8)=>p.1=q.1/\H q.2.1=Z (.tup (p.1.map bQ))/\RelV p.2 q.2.2) (ef a) xs ->
  aO K G (a.map λp=>.tup (p.1.map .int)) (xs.map λq=>V.ref q.2.1)
 |[],_,h=>by cases h;rfl
 |p::a,_,h=>by
  cases h with
  |@cons _ q _ xs d e =>
   refine⟨V.ref q.2.1,_,rfl,⟨q.2.1,p.1.map V.int,rfl,c _ _ ?_,?_⟩,rT c e⟩
   .have:=d.2.1;dsimp only at this;rw[xl]at this;exact this
   .exact ints_rep p.1
theorem ud:∀xs:List (List Key×Td×S8),Vals (xs.map λq=>V.ref q.2.1) (xs.map λq=>Th q.2.1)
 |[]=>.nil
 |q::xs=>.cons (show RelV (V.ref q.2.1) (Th q.2.1) from rfl) (ud xs)
end
theorem vA{K:W.Frag}:∀{a:List (Int×Int×Int)}{ys:List (Key×V)}{j:List (Key×S8)}{h:List W2},cX G a ys->c7 ys j->Pairs (eA P w) h j ->
  aO K G (a.map λp=>.int p.1) (a.map λp=>V.int p.1)/\Vals (a.map λp=>V.int p.1) (h.map (·.key))
 |[],_,_,_,k,d,f=>by cases k;cases d;cases f;exact⟨rfl,.nil⟩
 |p::a,_,_,_,⟨b,t,e,s,l⟩,d,f=>by
  subst e;cases d with
  |@cons _ q _ u c o =>
   cases f with
   |@cons e0 _ r _ k1 k2 k3 =>
    obtain⟨m,n⟩:=vA (K:=K) l o k3;have c:=c.1;dsimp only at c;rw[<- c]at k1;refine⟨⟨.int p.1,_,rfl,rfl,m⟩,.cons ?_ n⟩;have k1:U0 p.1 e0.key=true:=k1;cases g:e0.key with
    |int i t=>rw[g]at k1;exact⟨t,by show e0.key=_;rw[g,(show i=p.1 by simpa[U0] using k1)]⟩
    |_=>rw[g]at k1;cases k1
section
def Kb(aA:m=.view\/m=.val)(T:i∉bb)(ao:X.N[i]?=Z x)(aC:dB X.env.scope x)(aj:(x==("__debug__":Tj))=S6)(ar:(x==("__classdict__":Tj))=S6):fb X a5 (.Name x p1) (gC xp X bb m λy=>ζ.kr y[i]?):=by
 rintro a0 s M H R I ⟨G,y,g,hw⟩;dsimp only at hw;have Q:∀{d:Td}{ep:Uq}{u:eG}{A:List V}{ds:List D}{n:Array W2}{t:Nat},M[i]?=Z (Z (.ref d))->G d=Z (.cy ep u)->(d==Ub)=S6->ep.ExactDict->ep.data=.dict n t->aO X.K G ds A->Vals A (n.toList.map (·.key))->ds.length<=16777216 ->
   (∀O N z,Ext G H N z->g8 X.K (hH m N z) O ds->ds.length<=16777216->R O z)->Ta (Tc X.prog X.w) X.A (T4 (.Name x p1) X.env) (λv f=>Ta (Tc X.prog X.w) X.A (V7 v) (qC X a0 M a5 R) X.bk f) X.bk s:=λ{d ep u A ds n t} k1 k2 k3 b1 k5 b2 aX ay k=>by
  refine aV (d1 ao aC aj ar a0 s M H (λv j=>v=.ref d/\j=H) I ⟨_,k1,rfl,rfl⟩) λv f a6=>?_
  obtain⟨w,j,r,B,e1,l⟩:=a6;subst e1 l;cases B;have S:=g.sub _ _ k2;have p:f.heap.get? d=Z ep:=(show bZ X.prog X.w j f.heap d (.cy ep u) from r.aK d _ S).1;refine Pv.vy k3 p b1 k5 ?_;refine⟨f.heap.objs.size,[f.heap.objs.size],_,_,j,rfl,r.kept (t':=f.toks) λb o e=>Ol _ e,MW (u:=u) d _ k5 aX,⟨_,OA _ rfl,rfl,rfl⟩,λb ax=>?_,k _ G j (Ext.refl g.sub) (FG (G:=G) (o:=.cy ep u) (λa8 bl ⟨c,h⟩=>⟨c,?_⟩) b2) ay⟩
  .have e:b=f.heap.objs.size:=(by simpa using ax);subst e;exact r.kG (Ot _) (r.aK.fresh (Ot _))
  .rcases aA with rfl|rfl
   .exact h _ _ S
   .exact h _ _ (c _ _ k2)
 unfold ζ.kr at hw;cases e1:ζ.fl y[i]? with
 |some U =>
  rw[e1]at hw;obtain⟨v,k1,a,ep,rfl,k2⟩:=g.val i _ (iH e1) T;obtain⟨p,c,h,xs,C,o,n,t,q,E,L,a1,a2⟩:=(show bZ X.prog X.w H s.heap a (.cy ep (.cm (ef U))) from I.aK a _ (g.sub _ _ k2));rw[p]at q;cases q;have aB:=rT (K:=X.K) g.c2 C;refine Q k1 k2 h E L aB (by rw[a1,Ti];exact ud xs) ?_ hw;rw[S5];unfold ef at c;rw[S5,Tw]at c;exact c
 |none =>
  rw[e1]at hw;dsimp only at hw;cases l:ζ.gm y[i]? with
  |none =>
   rw[l]at hw;exact hw.elim
  |some U =>
   rw[l]at hw;obtain⟨v,k1,a,ep,ys,rfl,k2,k3⟩:=g.val i _ (oe l) T;obtain⟨p,c,h,bw,C,o,n,t,q,E,L,a1,a2,cw⟩:=(show bZ X.prog X.w H s.heap a (.cy ep (.b5 ys)) from I.aK a _ (g.sub _ _ k2));rw[p]at q;cases q;obtain⟨B,a7⟩:=vA (K:=X.K) k3 C a2;refine Q k1 k2 h E L B a7 ?_ hw;rw[S5,<- k3.len];rw[Tw]at c;exact c
end
section
def GN(a:f.cls=.type "list"\/f.cls=.type "tuple")(k:f.data=.seq e C)(z:¬(!c.isEmpty&&Uw (c.size+e.size))=J)(hz:c.size<=Tx)(m:c.size+e.size<=Tx+1):
  Meets (Uh.«list.extend» ⟨[.ref l,.ref b],[]⟩) λ_ R s=>s.heap.get? l=Z { cls:=.type "list",dict:=Y,data:=.seq c n,slots:=#[] }/\s.heap.get? b=Z f /\
   R (.ok (.ret Value.none)) { s with heap:=s.heap.update l (TX λx=>x++e),toks:=s.toks }:=by
 refine .of_wp λprog w A R s h=>?_
 obtain⟨B,g,d,tk,os⟩:=s;obtain⟨o,p,q,E⟩:=f;cases k;obtain⟨e1,i,h⟩:=h;have r:=AutoSeq1.idx_int;have t:=AutoSeq1.sub_list_list;have u:=AutoSeq1.sub_list_tuple;have v:=Sh;have y:=AutoSeq1.sub_tuple_list;have j:(c++e).size<=Tx+1:=by rw[Rf];exact m
 rcases a with a|a
 .cases a
  wp_walk using (RJ e1 rfl (hz:=hz) (_hz':=j)),Qs e1,Qs i
  exact⟨_,rfl,h⟩
 .cases a
  wp_walk using (RJ e1 rfl (hz:=hz) (_hz':=j)),Qs e1,Qs i
  exact⟨_,rfl,h⟩
noncomputable def Jj(K:W.Frag):V->List V->ag->ck->Prop:=λx c H Q=>∃l b xs a,x=.ref l/\c=[.ref b]/\H l=Z (.lst xs)/\(cp K H b a\/dN K H b a)/\xs.length+a.length<=Tx/\Q .bG (upd H l (.lst (xs++a)))
def Hx:nU X "list.extend" (Jj X.K):=by
 intro A s E H x C v B Q I p o h;obtain⟨l,b,xs,t,rfl,rfl,k,j,hz,q⟩:=h;cases p;obtain⟨u,rfl,m⟩:=o.one;cases m;obtain⟨z,its,n,r,w,e⟩:=I.xP k;obtain⟨a,c,iX,d,i,f,g⟩:∃a c iX,Vals t a/\s.heap.get? b=Z c/\(c.cls=.type "list"\/c.cls=.type "tuple")/\c.data=.seq a.toArray iX:=by
  rcases j with j|j
  .obtain⟨a,d,⟨c,iX,i,f,_,g⟩,_⟩:=I.list j;exact⟨a,c,iX,d,i,.inl f,g⟩
  .obtain⟨a,d,⟨c,i,f,iX,g⟩,_⟩:=I.tuple j;exact⟨a,c,iX,d,i,.inr f,g⟩
 have y:=d.length;have hsz:its.toArray.size+a.toArray.size<=sizeLine:=by rw[OE,OE];lia
 refine RT F.slot_list_extend ⟨_,e,rfl⟩ F.entry_list_extend (F.args_list_extend_2 _ _) (GN f g (by rw[yd hsz,Ug];exact Pc) (by rw[OE];lia) ⋯) ⟨e,i,?_⟩;refine⟨.bG,_,I.xO (its':=its++a) k e (by simp) (r.append d) ?_,rfl,q⟩;rw[Oo];lia
def J8{x n:Tj}(u:i∈L)(a1:n="extend")(S:X.N[i]?=Z x)(a2:dB X.env.scope x)(Q:(x==("__debug__":Tj))=S6)(R:(x==("__classdict__":Tj))=S6)(a0:(N.endLine==O.line)=J)(U:ai X e (aE xp X L .val f))(w:Tu [e] X.env=[(S6,T4 e X.env)]):
  bV X (.Expr (.Call (.Attribute (.Name x p1) n N) [e] [] O) p4) (b3 xp X L λh=>ζ.iC h[i]?>>=λ_=>f h>>=λd=>ζ.ow h[i]? d>>=λy=>.ok (.aU (h.set i (Z y)))):=by
 subst a1;rintro aj s B H T I ⟨ar,ao,G,h,l,hw⟩;refine yL (pl Qx PySem.F.slot_list_extend PySem.F.type_list_extend Hx (d1 S a2 Q R) (f7 U w) rfl (oD w) a0 w rfl) rfl aj s B H T I ?_;obtain⟨ds,q,hw⟩:=vc (aL.mp hw);obtain⟨a,o,k1,k2,k3,xs,rfl,m⟩:=l.aS.lst i (.lst ds) q u rfl;refine⟨_,k1,.inl ⟨rfl,xs,cp.of k2⟩,?_⟩;refine⟨G,h,l.aS,aW (aL.mp hw) (λd k v j C g M=>?_) λ_ z=>z.mono l.ext.h⟩;have E:=l.step g;rw[q]at k;cases d with
 |lst c =>
  have k:a3 ((if ds.length+c.length<=ζ.SZ then ζ.R.ok (ζ.D.lst (ds++c)) else .bad)>>=λy=>.ok (ζ.c4.aU (h.set i (Z y)))) _ _:=k;have k:=aL.mp k
  by_cases hz:ds.length+c.length<=ζ.SZ
  .rw[if_pos hz]at k;obtain⟨b,A,rfl,t,hR⟩:=M;have r:C a=Z (.lst xs):=g.h _ _ k2;have p:j a=none:=g.new a k3 (by rw[k2];exact λz=>nomatch z);refine⟨a,b,xs,A,rfl,rfl,r,(.inl (gb g.sub t)),by rw[<- m.length,<- hR.length,<- l4];exact hz,?_⟩;exact k B j _ (E.write (d:=.lst ds) (e:=.lst (ds++c)) u q rfl rfl k1 p ⟨_,rfl,(m.mono g.g).append hR⟩)
  .rw[if_neg hz]at k;exact k.elim
 |tup c =>
  have k:a3 ((if ds.length+c.length<=ζ.SZ then ζ.R.ok (ζ.D.lst (ds++c)) else .bad)>>=λy=>.ok (ζ.c4.aU (h.set i (Z y)))) _ _:=k;have k:=aL.mp k
  by_cases hz:ds.length+c.length<=ζ.SZ
  .rw[if_pos hz]at k;obtain⟨b,A,rfl,t,hR⟩:=M;have r:C a=Z (.lst xs):=g.h _ _ k2;have p:j a=none:=g.new a k3 (by rw[k2];exact λz=>nomatch z);refine⟨a,b,xs,A,rfl,rfl,r,(.inr (e9 g.sub t)),by rw[<- m.length,<- hR.length,<- l4];exact hz,?_⟩;exact k B j _ (E.write (d:=.lst ds) (e:=.lst (ds++c)) u q rfl rfl k1 p ⟨_,rfl,(m.mono g.g).append hR⟩)
  .rw[if_neg hz]at k;exact k.elim
 |_=>exact k.elim
end
theorem As:∀{xs:List D}{a:List (List Int)},ζ.jh xs=Z a->xs=a.map cn
 |[],a,h=>by cases h;rfl
 |x::xs,a,h=>by
  unfold ζ.jh at h;cases e1:ζ.d6 x with
  |none=>rw[e1]at h;cases h
  |some k =>
   cases b:ζ.jh xs with
   |none=>rw[e1,b]at h;cases h
   |some c =>
    rw[e1,b]at h;cases h;rw[nA e1,As b];rfl
def MT{d:D}(h:ζ.qb d=Z a):d=.lst (a.map cn):=by
 unfold ζ.qb at h
 split at h
 .rw[As h]
 .cases h
theorem y1:∀{ds:List D}{b:List S8}{as:List Td},VD h b (eD ds) as->∀(m:Nat)(a:m<b.length),∃d bs,ds[m]?=Z d/\XG h b[m] (toPy d) bs
 |[],_,_,r,m,a=>by cases r;simp at a
 |d::ds,_,_,r,m,a=>by
  cases r with
  |cons e f =>
   cases m with
   |zero=>exact⟨d,_,rfl,e⟩
   |succ m =>
    obtain⟨d',bs,e1,c⟩:=y1 f m (by simpa using a);exact⟨d',bs,by simpa using e1,c⟩
def pM(k):ζ.bB 60 (cn k)=true:=aq.nq 59 k
section
variable{xp:bS}{X:au}{ae:List Nat}{m:dc}{pos p1 p2 ap du:UN}{i j:Nat}{x y n:Tj}
def Hy(a0:X.A.units+64<TS):nU X "list.index" (λx M H Q=>∃(G:ag)(l:Td)(v:V)(xs:List V)(a:List (List Int))(k:List Int),aH G H/\x=.ref l/\M=[v]/\cp X.K H l xs/\aO X.K G (a.map cn) xs/\View X.K G H (cn k) v/\k∈a/\a.length<=1000/\Q (.int (a.idxOf k:Nat)) H):=by
 intro aX s a7 H x M v bb Q I ax ao h;obtain⟨G,l,w,xs,a,k,C,rfl,rfl,U,B,a1,T,b2,q⟩:=h;cases ax;obtain⟨u,rfl,ar⟩:=ao.one;obtain⟨its,N,⟨⟨aB,dd,aC,ay⟩,c,A,r,_,t⟩,_⟩:=I.list U;simp only at r t;subst r t;have g:(a.map cn).all (ζ.bB 60)=true:=by rw[Ql,OM];exact λk _=>pM k
 obtain⟨as,L⟩:=i9 I C 60 g B N;obtain⟨bs,aj⟩:=i8 I C a1 ar (pM k);have b1:its.length=a.length:=by rw[<- N.length,<- B.length,S5]
 have E:∀m (f:m<its.length),fW s.heap (cn k) its[m]=decide (a[m]'⋯=k):=λm f=>by
  obtain⟨d,aA,e1,O⟩:=y1 L m f;rw[OG,Ov ⋯]at e1;cases e1;rw[oq O (pM _)];exact aq.fV _ _
 have S:=PN T;refine RT F.slot_list_index ⟨_,A,rfl⟩ F.entry_list_index (F.args_list_index_2 _ _) (SeqAt.list_indexAt l its.toArray c dd ay u (fW s.heap (cn k)) (a.idxOf k) (by rw[OE];lia) ⋯ ?_ ?_) ⟨A,λz hz=>my a0 aj (pM k) L g z (by simpa using hz),?_⟩
 .have:=E (a.idxOf k) ⋯;simp only[Wk];rw[this,Q7 S];simp
 .intro a2 f R;have:=E a2 (by simpa using f);simp only[Wk];rw[this];refine decide_eq_false λe=>?_
  have:=List.not_of_lt_findIdx (p:=(·==k)) (xs:=a) R;simp[e]at this
 .exact⟨.int _,H,I.kept (t':=_) λb o e=>e,⟨_,rfl⟩,q⟩
def Kh(t:X.A.units+64<TS)(r:n="index")(q:(ap.endLine==du.line)=J)(o:X.N[i]?=Z x)(u:dB X.env.scope x)(f:(x==("__debug__":Tj))=S6)(h:(x==("__classdict__":Tj))=S6)(p:X.N[j]?=Z y)(v:dB X.env.scope y)(g:(y==("__debug__":Tj))=S6)(l:(y==("__classdict__":Tj))=S6):ai X (.Call (.Attribute (.Name x p1) n ap) [.Name y p2] [] du) (aE xp X ae m λb=>ζ.kZ b[i]? b[j]?):=by
 subst r;rintro z s M H Q I ⟨G,b,c,hw⟩;dsimp only at hw;unfold ζ.kZ at hw;cases e1:ζ.df ζ.qb b[i]? with
 |none=>rw[e1]at hw;exact hw.elim
 |some e =>
  cases d:ζ.df ζ.d6 b[j]? with
  |none=>rw[e1,d]at hw;exact hw.elim
  |some k =>
   rw[e1,d]at hw;dsimp only at hw
   by_cases hz:k∈e/\e.length<=1000
   .rw[if_pos hz]at hw;obtain⟨N,A,B⟩:=hK e1;cases MT B;obtain⟨O,C,E⟩:=hK d;cases nA E;obtain⟨R,k1,a,xs,rfl,k2,k3⟩:=c.view A;obtain⟨L,w,k5⟩:=c.view C;refine pl Qx PySem.F.slot_list_index PySem.F.type_list_index (Hy t) (d1 o u f h) (f7 (d1 p v g l) rfl) rfl (oD rfl) q rfl rfl z s M H Q I ?_;exact⟨_,k1,.inl ⟨rfl,xs,k2⟩,_,w,G,a,L,xs,e,k,c.sub,rfl,rfl,k2,k3,k5,hz.1,hz.2,hw _ G H (Ext.refl c.sub) (by cases m<;>rfl)⟩
   .rw[if_neg hz]at hw;exact hw.elim
end
section
variable{xp:bS}{X:au}{ae:List Nat}{m:dc}{pos p1 p2 p3 p4 lq ap du:UN}{i j:Nat}{x y:Tj}{pins:List (Td×Uq)}{σ:bu}{G H:ag}{s:S9}{aa:aF}
def zS(g:cF X.K ae G H aa σ)(f:i∈ae)(h:aa[i]?=Z (Z (.aN k))):∃a,σ[i]?=Z (Z (V.ref a))/\H a=Z (.cm (ef k))/\G a=none:=by
 obtain⟨a,o,b,c,d,e⟩:=g.lst i _ h f rfl;cases e;exact⟨a,b,c,d⟩
def MQ{o:Option (Option D)}(h:ζ.df ζ.d6 o=Z k):o=Z (Z (.tup (k.map .int))):=by
 obtain⟨d,e1,a⟩:=hK h;rw[e1,nA a]
def J1(M:X.A.units+64<TS)(r:i∈ae)(z:j∉ae)(o:X.N[i]?=Z x)(t:dB X.env.scope x)(g:(x==("__debug__":Tj))=S6)(l:(x==("__classdict__":Tj))=S6)(p:X.N[j]?=Z y)(u:dB X.env.scope y)(h:(y==("__debug__":Tj))=S6)(n:(y==("__classdict__":Tj))=S6)(A:(ap.endLine==du.line)=J):
  bV X (.Assign [.Subscript (.Name x p1) (.Name y p2) p3] (.BinOp (.Call (.Attribute (.Name x N) "get" ap) [.Name y O,.Constant (.int 0) E Q] [] du) .Add (.Constant (.int 1) L R) S) pos) (b3 xp X ae λaa=>ζ.mr aa[i]? aa[j]?>>=λd=>.ok (.aU (aa.set i (Z d)))):=by
 rintro pins s σ H T I ⟨B,C,G,aa,f,hw⟩;refine yK ⋯ (d1 o t g l) (d1 p u h n) (s7 yi (It ⋯ (d1 o t g l) (d1 p u h n) sZ ⟨rfl,rfl,A,rfl⟩) sZ) rfl pins s σ H T I ?_;have hw:=aL.mp hw;unfold ζ.mr at hw;cases e1:ζ.fl aa[i]? with
 |none=>rw[e1]at hw;exact hw.elim
 |some c =>
  cases e:ζ.df ζ.d6 aa[j]? with
  |none=>rw[e1,e]at hw;exact hw.elim
  |some k =>
   rw[e1,e]at hw;dsimp only at hw;obtain⟨a,k1,k2,k3⟩:=zS f.aS r (iH e1);obtain⟨b,v,k5⟩:=tC f.aS z (MQ e)
   by_cases hz:c.length<1000
   .rw[if_pos hz]at hw;have q:=il.t k2 k5;rw[vJ]at q;have w:((ζ.eh c k).map V.int).getD (.int 0)=.int ((ζ.eh c k).getD 0):=(by cases ζ.eh c k<;>rfl);refine⟨_,k1,a,rfl,.inr ⟨_,.inl k2⟩,_,v,_,q,?_⟩;refine⟨_,_,w,rfl,_,k1,_,v,a,_,rfl,gg.t k2 k5 (by unfold ef;rw[S5,Tw];lia),?_⟩;rw[vI];exact hw σ G _ (f.write (d:=.aN c) r (iH e1) rfl rfl k1 k3 rfl)
   .rw[if_neg hz]at hw;exact hw.elim
def J7(a0:X.calm=J)(ax:X.A.units+64<TS)(ay:x="sorted")(a1:cQ X x)(ao:X.aG x=Y)(ar:i∈ae)(T:X.N[i]?=Z y)(f:dB X.env.scope y)(R:(y==("__debug__":Tj))=S6)(S:(y==("__classdict__":Tj))=S6):
  ai X (.Call (.Name x p1) [.Name y p2] [] pos) (aE xp X ae .fresh λaa=>ζ.ky aa[i]?):=by
 subst ay;rintro pins s σ H Q I ⟨G,aa,d,hw⟩;have n:X.A.handled=none:=I.ok.hd a0;dsimp only at hw;unfold ζ.ky at hw;cases e1:ζ.fl aa[i]? with
 |none=>rw[e1]at hw;exact hw.elim
 |some t =>
  rw[e1]at hw;dsimp only at hw;obtain⟨aj,k,hw⟩:=AV hw;obtain⟨a,k1,k2,k3⟩:=zS d ar (iH e1);refine Po (f3 I a1 ao (u:=.builtin "sorted") (by kernel_rfl) ?_);refine PV ?_ rfl rfl;show Ta _ _ (WK ((S6,T4 (.Name y p2) X.env)::[])) _ _ s;refine PU ?_;refine aV (d1 T f R S pins s σ H (λv c=>v=.ref a/\c=H) I ⟨_,k1,rfl,rfl⟩) λu w bb=>?_
  obtain⟨v,c,g,aA,M,N⟩:=bb;subst M N;cases aA;refine Qi ?_;obtain⟨a6,aB,xs,aC,o,h,a7,b1,b2,aX,z,a8⟩:=(show bZ X.prog X.w c w.heap a (.cm (ef t)) from g.aK a _ k2);have p:=rT (K:=X.K) d.c2 aC;have hsz:h.size=xs.length:=(by rw[<- Tt,z,S5]);have a5:t.length=xs.length:=(by have:=p.length;simpa using this);rw[S5]at k;refine pO (PySem.W.kdu_collect (A:=X.A.in1) (Pv.Li aB b2 aX) n b1 (by rw[hsz,Tw];lia) λh' tk L a2 U=>?_);have E:Inv X pins σ c { w with heap:=h',toks:=tk }:=g.kept a2;have O:L.toList=xs.map λq=>Th q.2.1:=by
   refine xd (P:=Pv.qy h) (l:=xs.map λq=>Th q.2.1) (by rw[S5,<- hsz];exact U) λj v f=>?_
   obtain⟨e,b,rfl⟩:=f;rw[<- OU,z,OG]at b;cases q:xs[j]? with
   |none=>rw[q]at b;cases b
   |some x=>rw[q]at b;cases b;rw[OG,q];rfl
  rw[O];refine pN n ax E d.sub p (ud xs) aj (by rw[S5];exact k) λv B C x r=>hw v B C x r
def Hw(A:X.A.units+64<TS):nU X "list.count" (λx r H Q=>∃(G:ag)(l:Td)(xs:List V)(ds:List D),aH G H/\x=.ref l/\r=[.ah J]/\cp X.K H l xs/\aO X.K G ds xs/\ds.all (ζ.bB 60)=J/\Q (.int (ds.countP λy=>ζ.cU y (.ah J):Nat)) H):=by
 intro pins s σ H x r v S Q I L E h;obtain⟨G,l,xs,ds,n,rfl,rfl,t,w,a,q⟩:=h;cases L;obtain⟨u,rfl,C⟩:=E.one;obtain⟨its,N,⟨⟨O,dd,R,M⟩,c,k,f,_,g⟩,_⟩:=I.list t;simp only at f g;subst f g;obtain⟨as,p⟩:=i9 I n 60 a w N;obtain⟨bs,B⟩:=i8 (d:=.ah J) I n rfl C rfl;refine RT F.slot_list_count ⟨_,k,rfl⟩ F.entry_list_count (F.args_list_count_2 _ _) (SeqAt.list_countAt l its.toArray c dd M u (fW s.heap (.ah J))) ⟨k,λz hz=>my A B rfl p a z (by simpa using hz),?_⟩;refine⟨.int _,H,I.kept (t':=_) λb o e=>e,⟨_,rfl⟩,?_⟩;have e:its.toArray.toList.countP (fW s.heap (.ah J))=_:=vo p a;rw[e];exact q
def JY{n:Tj}(t:X.A.units+64<TS)(l:n="count")(h:(ap.endLine==du.line)=J)(g:UY o n X.env (T4 o X.env)=T4 o X.env)(p:ai X o (aE xp X ae .view f)):
  ai X (.Call (.Attribute o n ap) [.Constant (.bool J) w p2] [] du) (aE xp X ae m λaa=>f aa>>=λd=>ζ.od d):=by
 subst l;rintro pins s σ H Q I ⟨G,aa,r,hw⟩;refine pl Qx PySem.F.slot_list_count PySem.F.type_list_count (Hw t) p (f7 yu rfl) g (oD rfl) h rfl rfl pins s σ H Q I ?_;refine⟨G,aa,r,aW (aL.mp hw) (λd k v b e c u=>?_) λ_ q=>q⟩;cases d with
 |lst ds =>
  have k:a3 (if ds.all (ζ.bB 60)&&decide (ds.length<=1000) then ζ.R.ok (ζ.D.int (ds.countP λy=>ζ.cU y (.ah J):Nat)) else .bad) _ _:=k;cases q:(ds.all (ζ.bB 60)&&decide (ds.length<=1000)) with
  |false=>rw[q]at k;exact k.elim
  |true =>
   rw[q,if_pos rfl]at k;rw[Oi]at q;obtain⟨a,xs,rfl,k1,k2⟩:=u;exact⟨.inl ⟨rfl,xs,k1⟩,b,a,xs,ds,c.sub,rfl,rfl,k1,k2,q.1,k _ b e c (by cases m<;>rfl)⟩
 |_=>exact k.elim
end
structure ff(K:W.Frag)(ae:List Nat)(bE a4:ag)(fL:aF)(fM:bu)(G H:ag)(aa:aF)(σ:bu):Prop where
 aS:cF K ae G H aa σ
 ext:Ext bE a4 G H
 keep:∀i∈ae,σ[i]?=fM[i]?/\aa[i]?=fL[i]?
noncomputable def IU(K:W.Frag)(e:List Nat)(a b:ag)(g:aF)(h:bu)(T:Ends):ζ.c4->Prop
 |.aU f=>∀c G H,ff K e a b g h G H f c->T.aU c H
 |.bK d=>∀v G H,Ext a b G H->Rep K G d v->T.bK v H
noncomputable def gD(xp:bS)(X:au)(d:List Nat)(f:aF->a9 ζ.c4):eu:=λT i H =>
 ∃b a g h G e,ff X.K d b a g h G H e i/\a3 (f e) (IU X.K d b a g h T) (λc=>dr xp X c a)
section
variable{xp:bS}{X:au}{ae:List Nat}{K:W.Frag}{bE a4 G H bt H1:ag}{fL aa:aF}{fM σ:bu}{i:Nat}{d:D}{v:V}{f fc:aF->a9 D}{g1 g2:aF->a9 ζ.c4}{e c:Tq}{st:T3}{jd ja gZ:List T3}{x:Tj}{p1 pos:UN}
def ff.step(h:ff K ae bE a4 fL fM G H aa σ)(x:Ext G H bt H1):ff K ae bE a4 fL fM bt H1 aa σ:=⟨h.aS.ext x,h.ext.trans x,h.keep⟩
theorem ff.jc(h:ff K ae bE a4 fL fM G H aa σ)(b:i∉ae)(r:Rep K G d v):ff K ae bE a4 fL fM G H (aa.set i (Z d)) (σ.set i (Z v)) :=
 ⟨h.aS.jc b r,h.ext,λj a=>by
  have g:i≠j:=λq=>b (q▸a)
  rw[Qh g,Qh g];exact h.keep j a⟩
def Ij(l:i∉ae)(b:X.N.Nodup)(j:X.N[i]?=Z x)(n:Loc X.env.scope x)(g:ai X e (aE xp X ae .val f))(m:UK e (Z (.Name x p1)) pos.line X.env=pure S6)(h:X.fn x=J\/X.env.scope.names.lookup x=Z .local):
  bV X (.Assign [.Name x p1] e pos) (gD xp X ae λaa=>f aa>>=λd=>.ok (.aU (aa.set i (Z d)))):=by
 rintro o s σ H T I ⟨bE,a4,fL,fM,G,aa,a,hw⟩;refine nd b j n g m h o s σ H T I ?_;refine⟨G,aa,a.aS,aW (aL.mp hw) (λd k v bt H1 r p=>?_) λ_ q=>q.mono a.ext.h⟩;exact k _ bt H1 ((a.step r).jc l p)
def sX:c8 X [] (gD xp X ae λaa=>.ok (.aU aa)):=by
 rintro b s σ H T I ⟨bE,a4,fL,fM,G,aa,a,hw⟩;exact yP b s σ H T I (hw σ G H a)
def yp(b:bV X st (gD xp X ae g1))(g:c8 X jd (gD xp X ae g2)):c8 X (st::jd) (gD xp X ae (zE g1 g2)):=by
 rintro l s σ H T I ⟨bE,a4,fL,fM,G,aa,h,hw⟩;refine yO b g l s σ H T I ?_;refine⟨bE,a4,fL,fM,G,aa,h,aW (aL.mp hw) (λr k=>?_) λ_ q=>q⟩;cases r with
 |aU m=>exact λo a n j=>⟨bE,a4,fL,fM,a,m,j,k⟩
 |bK d=>exact k
def Ik(j:dY X c (eT xp X ae fc))(g:c8 X ja (gD xp X ae g1))(h:c8 X gZ (gD xp X ae g2)):bV X (.If c ja gZ pos) (gD xp X ae λaa=>fc aa>>=λx=>ζ.ej x>>=λk=>if k then g1 aa else g2 aa):=by
 rintro m s σ H T I ⟨bE,a4,fL,fM,G,aa,a,hw⟩;refine yN j g h m s σ H T I ?_;refine⟨G,aa,a.aS,?_⟩;refine aL.mpr (aW (aL.mp hw) (λd k=>aW (aL.mp k) (λl q bt H1 b=>?_) λ_ q=>q.mono a.ext.h) λ_ q=>q.mono a.ext.h);cases l with
 |true=>simp only[Pb]at q ⊢;exact⟨bE,a4,fL,fM,bt,aa,a.step b,q⟩
 |false=>simp only[Om,OH]at q ⊢;exact⟨bE,a4,fL,fM,bt,aa,a.step b,q⟩
def Ka(bl:WZ (Tc X.prog X.w) X.A X.env X.bk)(a5:X.calm=J)(cw:∀t∈ts,t∉ae)(y:fb X aj a1 (gC xp X ae .view b1))(a8:ix X aj (oA X.K k ts))(bb:c8 X body (gD xp X ae A))(bw:∀z,T7 a1 X.env z=pure z):bV X (.For aj a1 body [] pos) (b3 xp X ae λaa=>b1 aa>>=λds=>ζ.forL (λd b=>ζ.dC k d>>=λu=>A (ζ.f9 ts u b)) ds aa):=by
 rintro cc s σ H T I ⟨bE,a4,G,aa,E,hw⟩;refine yM bl a5 y a8 bb bw cc s σ H T I ?_;refine⟨G,aa,E.aS,aW (aL.mp hw) (λds a2 dI bt H1 ar M hz=>?_) λ_ q=>q.mono E.ext.h⟩;generalize U:(λd b=>ζ.dC k d>>=λu=>A (ζ.f9 ts u b))=F at a2;refine⟨λj m R aD=>j+m=ds.length/\∃l b,b8 X.K ae bE a4 l aD b R/\Ext bt H1 l aD/\a3 (ζ.forL F (ds.drop j) b) (fz X.K ae bE a4 T) (λc=>dr xp X c a4),
  ⟨ds.length,⋯,bt,aa,E.step ar,Ext.refl ar.sub,by simpa using a2⟩,?_⟩
 rintro j m R aD ⟨dv,l,b,gZ,O,g⟩;have C:hH .view bt H1 l aD:=⟨O.g,O.h⟩
 by_cases L:j<ds.length
 .refine .inr ⟨M.go j l aD C L,λay w=>(j+1)+(m-1)=ds.length/\∃o ao,b8 X.K ae bE a4 o w ao ay/\Ext bt H1 o w/\a3 (ζ.forL F (ds.drop (j+1)) ao) (fz X.K ae bE a4 T) (λc=>dr xp X c a4),
   λay w b2=>⟨m-1,⋯,b2⟩,λv w b9=>?_⟩
  have a6:ds[j]?=Z ds[j]:=Ov L;obtain⟨o,N,cq⟩:=M.gF j l aD v w ds[j] C gZ.aS.sub a6 b9;have cz:=gZ.step N;have aA:ds.drop j=ds[j]::ds.drop (j+1):=PC L;rw[aA,wB,<- U]at g;have g:=aL.mp (aL.mp g);refine⟨o,ds[j],N.sub,cq,?_⟩;cases h:ζ.dC k ds[j] with
  |bad=>rw[h]at g;exact g
  |exc c =>
   exfalso;cases k with
   |zero=>cases h
   |succ k =>
    cases a0:ds[j] with
    |tup Q =>
     rw[a0]at h;have a7:ζ.dC (k+1) (.tup Q)=if Q.length=k+1 then .ok (Q.map Z) else .bad:=rfl;rw[a7]at h
     split at h<;>cases h
    |_=>rw[a0]at h;cases h
  |ok os =>
   rw[h]at g;intro cN u aC cM;subst aC;have p:=b8.tu cw cz cM;have cx:a3 (A (ζ.f9 ts (cN.map Z) b)) _ _:=g;refine⟨o,_,_,_,o,_,⟨p.aS,Ext.refl p.aS.sub,λ_ _=>⟨rfl,rfl⟩⟩,aW cx (λr n=>?_) λc z=>z.mono p.ext.h⟩;cases r with
   |aU ax =>
    intro dP B S sp;have n:a3 (ζ.forL (λd b=>ζ.dC k d>>=λu=>A (ζ.f9 ts u b)) (ds.drop (j+1)) ax) (fz X.K ae bE a4 T) (λc=>dr xp X c a4):=n;rw[U]at n;exact⟨⋯,B,ax,⟨sp.aS,p.ext.trans sp.ext,λi d a e aX y z=>p.own i d a (by rw[<- (sp.keep i y).2];exact e) aX y (by rw[<- (sp.keep i y).1];exact z)⟩,(O.trans N).trans sp.ext,n⟩
   |bK d =>
    intro cA B S c0 cf;have n:fz X.K ae bE a4 T (.bK d):=n;exact n cA B S (p.ext.trans c0) cf
 .have aB:j=ds.length:=⋯;subst aB;refine .inl ⟨M.stop l aD C,?_⟩;rw[Sr]at g;exact g R l aD gZ
def Kz:bV X st (b3 xp X ae λ_=>.bad):=λ_ _ _ _ _ _ ⟨_,_,_,_,_,hw⟩=>hw.elim
end
def EF{K:W.Frag}(x:Ext G H c g)(r:bq K H c g .fresh d v):∃f,Ext G H f g/\Rep K f d v:=by
 cases d with
 |lst ds =>
  obtain⟨a,xs,rfl,j,k,e,l⟩:=r;refine⟨upd c a (.lst xs),⟨x.g.trans (d3 e),x.h,λb o q=>?_,λb m i=>?_,λb xs q=>(x.c2 b xs q).imp id λz=>d3 e _ _ z⟩,a,xs,rfl,.inl (.inl cj),l.mono (d3 e)⟩
  .by_cases h:b=a
   .subst h;rw[cj]at q;rw[j];exact q
   .rw[bj h]at q;exact x.sub b o q
  .rw[bj (λz=>i (by rw[z];exact k))];exact x.new b m i
 |aN _=>exact r.elim
 |aM _=>exact r.elim
 |_=>exact⟨c,x,r⟩
section
def JS(L:X.calm=J)(R:∀i∈f,i<X.N.length)(B:jm X c xs w)(Q:ζ.dk k n=Z xs)(S:∀x,T7 m X.env x=pure x)(O:fb X n m (gC xp X f .view cw))(M:∀s3 ar aB g,ai (es X c w s3 ar aB g) A (aE xp (es X c w s3 ar aB g) f .val cx))(U:kk xp X f c w a2 fc)(E:X.N.Nodup)(a1:X.N[i]?=Z y)(a0:Loc X.env.scope y)(N:X.fn y=J\/X.env.scope.names.lookup y=Z .local):
  bV X (.Assign [.Name y p1] (.ListComp A [⟨n,m,a2,0⟩] c pos) p4) (b3 xp X f λt=>(cw t>>=λds=>ζ.h7 (ζ.bN (fU k fc cx t) ds)>>=λys=>.ok (.lst ys))>>=λd=>.ok (.aU (t.set i (Z d)))):=by
 have l:∃b:Bool,UK (.ListComp A [⟨n,m,a2,0⟩] c pos) (Z (.Name y p1)) p4.line X.env=pure b:=⟨_,rfl⟩;obtain⟨b,l⟩:=l;cases b with
 |false =>
  by_cases j:i∈f
  .exact zt j E a1 a0 (tn L R B Q S O M U) l N
  .exact zr j E a1 a0 (ai.val (tn L R B Q S O M U)) l N
 |true =>
  rintro g s aj H T I ⟨ed,ee,G,t,a,hw⟩;rw[exec_Assign_Name_used _ _ _ _ l];refine Oh (wpAny_standAt (Oh ?_));show Ta _ X.A (do let _ <- comprehension (.ListComp A [⟨n,m,a2,0⟩] c pos) c X.env _ (Xq []) S6 (T4 m X.env) (Z (WY (.Name y p1) X.env))) _ _ s;refine Oh (Pj (vq L R B Q S O M U I a.aS (use:=Z (WY (.Name y p1) X.env)) (Qc:=λ_ s'=>kg X g T .next s') ?_) (λ_ s' cA=>Oj (Oj cA)) λ_ _ e=>e);have hw:=aL.mp (aL.mp hw);refine aL.mpr (aW hw (λds k1=>?_) λ_ q=>q.mono a.ext.h);refine aW (aL.mp k1) (λys k2 s4 h b2 C u c0 x r cf cc cN=>?_) λ_ q=>q.mono a.ext.h
  have ao:Inv X g aj h s4:=cN s4.heap (Qp _ _);obtain⟨m4,a5,a7,cM,aC⟩:=id cf;have cq:∀v,m4.data≠.cell v:=λv z=>by
   have:=aC.1;rw[z]at this;cases this
  obtain⟨ay,aA,a6,a8,bl,bw⟩:=cc;have bb:Inv X (g++[(C,m4)]) aj h s4:=ao.m8 λp cz=>by
   rcases Ox.mp cz with z|z
   .exact ao.pin p (Ow _ z)
   .have z:=OC.mp z;subst z;exact⟨cM,ay,aA,a6,cq⟩
  show Ta _ X.A (WY (.Name y p1) X.env (.ref u)) _ _ s4;refine wpAny_assign_Name (pR bb E a1 a0 (v:=.ref u) rfl (λb1 ax=>?_) N);have b9:b1.heap.get? C=Z m4:=(ax.pin (C,m4) (Ow _ (Ow _ (OC.mpr rfl)))).1;refine⟨c0,⟨m4,a5,a7,b9,aC⟩,λh' dv=>⟨aj.set i (Z (.ref u)),h,?_,?_⟩⟩
  .exact(ax.lM).turned (t':=b1.toks) (λb o a e=>(dv.2 b a).trans e) ay aA a8 bl bw
  .by_cases j:i∈f
   .exact k2 _ b2 h (a.zH x j r)
   .obtain⟨aX,dP,dI⟩:=EF x r;exact k2 _ aX h ((a.step dP).jc j dI)
end
noncomputable def nice:Tq->Bool
 |.Starred ..=>S6
 |.Set ..=>S6
 |.SetComp ..=>S6
 |.DictComp ..=>S6
 |.Slice ..=>S6
 |_=>J
def nn{α:Type}{a:α}{p:Prop}(h:Y=Z a):p:=nomatch h
def dW(h:ζ.dm x=Z y):∃p,x=.Name y p:=by
 cases x with
 |Name z p=>cases h;exact⟨p,rfl⟩
 |_=>exact nn h
def lO(h:ζ.ji x=Z c):∃k p,x=.Constant c k p:=by
 cases x with
 |Constant z k p=>cases h;exact⟨k,p,rfl⟩
 |_=>exact nn h
def Nm(h:ζ.AH x=Z a):∃k p,x=.Tuple a k p:=by
 cases x with
 |Tuple z k p=>cases h;exact⟨k,p,rfl⟩
 |_=>exact nn h
def Ni(h:ζ.AF x=Z a):∃p,x=.List a p:=by
 cases x with
 |List z p=>cases h;exact⟨p,rfl⟩
 |_=>exact nn h
def qe(h:ζ.nB x=Z (a,o,b)):∃p,x=.BinOp a o b p:=by
 cases x with
 |BinOp l o r p=>cases h;exact⟨p,rfl⟩
 |_=>exact nn h
def AI(h:ζ.nE x=Z (o,a)):∃p,x=.UnaryOp o a p:=by
 cases x with
 |UnaryOp o r p=>cases h;exact⟨p,rfl⟩
 |_=>exact nn h
def Na{os:List CmpOp}(h:ζ.tZ x=Z (a,os,ys)):∃p,x=.Compare a os ys p:=by
 cases x with
 |Compare l o r p=>cases h;exact⟨p,rfl⟩
 |_=>exact nn h
def nC(h:ζ.vBool x=Z (o,a,p)):x=.BoolOp o a p:=by
 cases x with
 |BoolOp o a p=>cases h;rfl
 |_=>exact nn h
def t9(h:ζ.qg x=Z (a,b)):∃p,x=.Subscript a b p:=by
 cases x with
 |Subscript l r p=>cases h;exact⟨p,rfl⟩
 |_=>exact nn h
def Nj(h:ζ.AG x=Z (a,b,c)):∃p,x=.Slice a b c p:=by
 cases x with
 |Slice l r t p=>cases h;exact⟨p,rfl⟩
 |_=>exact nn h
def qf(h:ζ.lN x=Z (f,a,b)):∃p,x=.Call f a b p:=by
 cases x with
 |Call l r t p=>cases h;exact⟨p,rfl⟩
 |_=>exact nn h
def ft(h:ζ.d7 x=Z (y,b)):∃p q,x=.Call (.Name y p) b [] q:=by
 unfold ζ.d7 at h
 split at h
 .rename_i f c e1;obtain⟨q,rfl⟩:=qf e1
  split at h
  .rename_i z a;obtain⟨p,rfl⟩:=dW a;cases h;exact⟨p,q,rfl⟩
  .cases h
 .cases h
def AD(h:ζ.AB x=Z (a,b,c)):∃p,x=.ListComp a b c p:=by
 cases x with
 |ListComp l r t p=>cases h;exact⟨p,rfl⟩
 |_=>exact nn h
def dU(h:ζ.bH g ct v e x=J):nice x=true:=by
 cases a:nice x with
 |true=>rfl
 |false =>
  exfalso;cases x<;>first|(cases a;done)|skip
  all_goals (cases e<;>exact Pc h)
def lF(h:nice e=J):Tu (e::a) env=(S6,T4 e env)::Tu a env:=by
 cases e<;>first|rfl|cases h
def fa(h:nice e=J):Tu [e] env=[(S6,T4 e env)]:=lF h
def Ln(h:nice e=J)(h':nice a=J):Tu [e,a] env=[(S6,T4 e env),(S6,T4 a env)]:=by rw[lF h,fa h']
def IW(h:∀e∈a,nice e=J):(UJ pos (Tu a env)).any (·.1)=false:=by
 induction a with
 |nil=>rfl
 |cons e a b =>
  rw[lF (h e S7)];show(S6||(UJ pos (Tu a env)).any (·.1))=S6;rw[b λz hz=>h z (S4 _ hz)];rfl
def FP(h:nice b=J):qD b:=by
 intro o i;cases b<;>first|rfl|cases h
def set_plain(h:nice b=J):∀x,T7 b env x=pure x:=by
 intro x;cases b<;>first|rfl|cases h
def Hb(h:nice b=J):UX op b=false:=by
 cases b<;>first|rfl|cases h
def tJ(h:nice e=J)(a:ζ.o9 e=J):UK e t n env=pure false:=by
 cases e<;>first|rfl|(cases a;done)|(cases h;done)
noncomputable def kc:List Str:=["len","isinstance","int","bool","str","tuple","sorted","set","range","sum","max","min","enumerate"]
structure dO(P:TK)(w:TU)(K:W.Frag)(aG:Tj->Option S8)(base:TH)(xp:bS)(k:Nat)(g:ζ.Gt)(pg:ζ.cT)(Φ:ζ.dn):Prop where
 fn:∀(f:Nat)(x:Tj),g.fns[f]?=Z x->∃bo fd d2,aG x=Z (.ref bo)/\W.keepIn K (.ref bo)=J/\Binds K fd d2 []/\g7 P w K aG base (gG P w xp) k bo fd d2 (j2 K (Φ f) d2.length)/\∀ds,ds.length≠d2.length->Φ f ds=.bad
 blt:∀x:Tj,x∈kc->aG x=Y
 mF:∀(j:Nat)(x:Tj)(d:D),g.mF[j]?=Z x->pg.cs[j]?=Z d->∃v u,aG x=Z u/\RelV v u/\∀G,Rep K G d v
structure bX(xp:bS)(k:Nat)(g:ζ.Gt)(pg:ζ.cT)(Φ:ζ.dn)(X:au)(ct:ζ.bR):Prop where
 cI:dO X.prog X.w X.K X.aG X.base xp k g pg Φ
 room:ea k X.A
 units:X.A.units+64<TS
 calm:X.calm=J
 nm:X.N=ct.N
 dE:ct.N.Nodup
 ae:∀i∈ct.ae,i<ct.N.length
 lc:∀x,ct.sc.names.lookup x=Z .local->X.env.scope.names.lookup x=Z .local
 mj:∀x,(ct.sc.names.lookup x=Z .cell\/ct.sc.names.lookup x=Z .free)->(X.env.scope.names.lookup x=Z .cell\/X.env.scope.names.lookup x=Z .free)
 gl:∀x,ct.sc.names.lookup x=Z .globalImplicit->X.env.kindOf x=Z .globalImplicit
section
def bX.eU(h:bX xp k g pg Φ X ct)(q:ζ.gE ct.sc x=J):dB X.env.scope x:=by
 unfold ζ.gE at q;simp only[PF,OL]at q;rcases q with(q|q)|q
 .exact .inl (h.lc x q)
 .exact .inr (h.mj x (.inl q))
 .exact .inr (h.mj x (.inr q))
def bX.mG(h:bX xp k g pg Φ X ct)(q:ζ.ho ct.sc x=J):cQ X x:=by
 unfold ζ.ho at q;exact h.gl x (by simpa using q)
def dV(h:ζ.okN x=J):(x==("__debug__":Tj))=S6/\(x==("__classdict__":Tj))=S6/\x≠"__name__":=by
 unfold ζ.okN at h;simp only[Oi,O6]at h;exact⟨h.1.1,h.1.2,λz=>by rw[z]at h;exact absurd h.2 ∅⟩
theorem bX.blt(h:bX xp k g pg Φ X ct)(q:ζ.cL g ct.sc x=J)(a:x∈kc):cQ X x/\X.aG x=none:=by
 unfold ζ.cL at q;simp only[Oi,O6]at q;exact⟨h.mG q.1.1.1,h.cI.blt x a⟩
end
noncomputable def jO(v:Bool):dc:=if v then .view else .val
structure Res(xp:bS)(X:au)(ae:List Nat)(v fr:Bool)(x:Tq)(f:aF->a9 D):Prop where
 dy:ai X x (aE xp X ae (jO v) f)
 fresh:fr=J->ai X x (aE xp X ae .fresh f)
 pt:dY X x (eT xp X ae f)
 yR:(∃op az p,x=.BoolOp op az p)->fN X x (eT xp X ae f)
section
theorem Res.view(h:Res xp X a v fr x f):ai X x (aE xp X a .view f):=ai.view h.dy
theorem Res.val(h:Res xp X a S6 fr x f):ai X x (aE xp X a .val f):=h.dy
def yz(h:ai X x (aE xp X a .val f)):ai X x (aE xp X a (jO v) f):=by
 cases v with
 |true=>exact ai.view h
 |false=>exact h
def Res.ll(h:ai X x (aE xp X i .val f))(g:∀b,WB x X.env b=(do let v <- b;standAt x.pos;VI [v] (truthy v)))(c:∀op a p,x≠.BoolOp op a p)(d:fr=S6):Res xp X i v fr x f :=
 ⟨yz h,λz=>(by rw[d]at z;cases z),hx (ai.view h) g,λ⟨op,a,p,e⟩=>absurd e (c op a p)⟩
def Res.i1(h:ai X x (aE xp X g .fresh f))(d:∀b,WB x X.env b=(do let v <- b;standAt x.pos;VI [v] (truthy v)))(c:∀op a p,x≠.BoolOp op a p):Res xp X g v fr x f :=
 ⟨yz (ai.val h),λ_=>h,hx (ai.view h) d,λ⟨op,a,p,e⟩=>absurd e (c op a p)⟩
def Res.h9(h:∀m,ai X x (aE xp X b m f))(d:dY X x (eT xp X b f))(c:∀op a p,x≠.BoolOp op a p):Res xp X b v fr x f :=
 ⟨h _,λ_=>h _,d,λ⟨op,a,p,e⟩=>absurd e (c op a p)⟩
end
def mW(N xs):(ζ.mask N xs).length=N.length:=by unfold ζ.mask;rw[S5]
structure lR(ct:ζ.bR)(scope:U1)(xs:List Tj):Prop where
 kind:scope.kind=.function
 iZ:∀y∈scope.names,y.2≠.cell
 names:∀y∈scope.names,y.2=.local->scope.names.lookup y.1=Z .local
 dk:∀y∈xs,scope.names.lookup y=Z .local
 loc:∀y∈scope.names,y.2=.local->y.1∈xs\/y.1=(".0":Tj)
 fr:∀y∈scope.names,y.2=.free->ct.sc.names.lookup y.1=Z .cell\/ct.sc.names.lookup y.1=Z .free
 same:∀p∈(ζ.mask ct.N xs).zip ct.N,p.1=p.2\/scope.names.lookup p.1=Y
 dE:(ζ.mask ct.N xs++xs).Nodup
 dot:(".0":Tj)∉ζ.mask ct.N xs++xs
section
def lR.block(c:bX xp k g pg Φ X ct)(b:lR ct n xs):jm X n xs (ζ.mask ct.N xs++xs) where
 kind:=b.kind
 iZ:=b.iZ
 names:=b.names
 loc:=λy h=>b.loc (y,.local) (O9 h) rfl
 dk:=b.dk
 fr:=λy f e=>c.mj y.1 (b.fr y f e)
 len:=by rw[Oo,mW,c.nm]
 old:=λi y d e l=>by
  rw[c.nm]at d ⊢;rw[OF (by rw[mW];exact d)]at e;have hz:((ζ.mask ct.N xs).zip ct.N)[i]?=Z (y,ct.N[i]):=by
   rw[Vn];exact⟨e,Ov d⟩
  have a:=b.same _ (Pn hz);have f:y∈ζ.mask ct.N xs:=Pn e;rcases a with a|a
  .refine⟨by have a:y=ct.N[i]:=a;rw[Ov d,<- a],λm=>?_,λz=>b.dot (Tg _ (z▸f))⟩;exact(PQ.mp b.dE).2.2 y f y m rfl
  .simp only at a;rw[a]at l;cases l
 new:=λj=>by
  rw[c.nm,O7 (by rw[mW];lia),mW];congr 1;lia
 dE:=b.dE
def lR.ok(a:bX xp k g pg Φ X ct)(b:lR ct c xs)(s3)(d)(e)(j):bX xp k g pg Φ (es X c (ζ.mask ct.N xs++xs) s3 d e j) ⟨ζ.mask ct.N xs++xs,c,ct.ae⟩ where
 cI:=a.cI
 room:=a.room
 units:=a.units
 calm:=a.calm
 nm:=rfl
 dE:=b.dE
 ae:=λi f=>by
  have:=a.ae i f;show i<(ζ.mask ct.N xs++xs).length;rw[Oo,mW];lia
 lc:=λx h=>pB h ∅
 mj:=λx h=>by
  rcases h with h|h
  .exact absurd rfl (b.iZ _ (O9 h))
  .exact tg h
 gl:=λx h=>pB h ∅
end
def BU(h:ζ.mg ct n xs=J):lR ct n xs:=by
 unfold ζ.mg at h;rw[Oi,Oi,Oi,Oi,Oi,Oi,Oi,Oi,Oi]at h;obtain⟨⟨⟨⟨⟨⟨⟨⟨⟨b,c⟩,d⟩,f⟩,_⟩,g⟩,i⟩,j⟩,k⟩,l⟩:=h;exact {
  kind:=QO b
  iZ:=λy a=>by simpa using OM.mp c y a
  names:=λy a e=>by
   have:=OM.mp d y a;rw[e]at this;simpa using this
  dk:=λy a=>by
   have:=OM.mp f y a;simp only[Oi,OL]at this;exact this.1
  loc:=λy a e=>by
   have:=OM.mp g y a;rw[e]at this;simpa using this
  fr:=λy a e=>by
   have:=OM.mp i y a;rw[e]at this;simpa using this
  same:=λp m=>by
   have:=OM.mp j p m;simpa using this
  dE:=QO k
  dot:=by simpa using l }
section
def JV(F:g7 X.prog X.w X.K X.aG X.base (gG X.prog X.w xp) k l fd b (j2 X.K h b.length))(S:ea k X.A)(L:cQ X x)(O:X.aG x=Z (.ref l))(M:W.keepIn X.K (.ref l)=J)(A:Binds X.K fd b [])(y:dX X (e::a) (je xp X T m))(N:∀ds,ds.length≠b.length->h ds=.bad)(B:(x==("__debug__":Tj))=S6)(C:Tu (e::a) X.env=(S6,T4 e X.env)::Tu a X.env)(R:(UJ pos (Tu a X.env)).any (·.1)=S6):
  ai X (.Call (.Name x p) (e::a) [] pos) (aE xp X T .val λg=>m g>>=λds=>h ds):=by
 rintro U s a2 H Q I ⟨G,g,o,hw⟩;refine Ip (dvs:=[]) (ds:=[]) (E:=vN xp X) F S L O M A .nil Io y B C R U s a2 H Q I ?_;have hw:=aL.mp hw;refine⟨G,g,o,?_⟩;cases q:m g with
 |ok ds =>
  rw[q]at hw;intro ar t aj f r;rw[Pa]
  by_cases n:ds.length=b.length
  .refine⟨by rw[<- r.length];exact n,t,ds,f.sub,(o.ext f).c2,r,?_⟩;refine aW hw (λd k v u i a1 a0=>k v u i (f.trans a1) a0) λc z i w B3 j=>?_
   injection j with j _;have:c=B3:=⋯;subst this;exact(z.mono f.h).mono w
  .have hw:a3 (h ds) _ _:=hw;rw[N ds n]at hw;exact hw.elim
 |exc c=>rw[q]at hw;exact hw
 |bad=>rw[q]at hw;exact hw
end
section
variable{xp:bS}{k:Nat}{g:ζ.Gt}{pg:ζ.cT}{Φ:ζ.dn}
def BM(o)(x y:D)(c):ζ.bT o x y≠.exc c:=by
 refine yb ?_ c;cases o<;>cases x<;>first|rfl|(cases y<;>first|rfl|exact iY rfl rfl|exact iY (iY rfl rfl) rfl)
def GH(d:D)(c):ζ.h2 d≠.exc c:=by
 intro h;cases d<;>simp only[ζ.h2]at h<;>first|(cases h;done)|(split at h<;>cases h)
def Lf(d:D)(c):(ζ.cP d>>=λxs=>ζ.sorted xs)≠.exc c:=by
 intro h;have a:∀xs:List D,ζ.sorted xs≠.exc c:=λxs h=>by
  unfold ζ.sorted at h
  split at h<;>cases h
 cases d with
 |tup xs=>exact a xs h
 |lst xs=>exact a xs h
 |_=>cases h
def KP(d:D)(c):(ζ.cP d>>=λxs=>ζ.R.ok (ζ.D.tup xs))≠.exc c:=by
 intro h;cases d<;>cases h
def Lw(d:D)(c):(ζ.k7 d>>=λxs=>ζ.hA xs)≠.exc c:=by
 intro h;cases d with
 |lst xs =>
  have h:ζ.hA xs=.exc c:=h;unfold ζ.hA at h
  split at h<;>cases h
 |_=>cases h
def Hf(d:D)(c):(ζ.k7 d>>=λxs=>ζ.ht xs)≠.exc c:=by
 intro h;cases d with
 |lst xs =>
  have h:ζ.ht xs=.exc c:=h;unfold ζ.ht at h
  split at h<;>cases h
 |_=>cases h
def Fo(d:D)(c:Nat):(match d with|.ah b=>ζ.R.ok (ζ.D.int (if b then 1 else 0))|_=>(.bad:ζ.R D))≠.exc c:=by
 intro h;cases d<;>cases h
def dg{x y:Tj}(h:(x==y)=J):x=y:=by simpa using h
def Kp{m:dc}(c:bX xp k g pg Φ X ct)(n:ζ.nc p=J)(l:x=ζ.m9 p)(i:ζ.cL g ct.sc x=J)(h:ai X e (aE xp X o .view f))(j:nice e=J):
  ai X (.Call (.Name x q) [e] [] pos) (aE xp X o .fresh λr=>f r>>=λd=>ζ.gV pg.up p d):=by
 cases p with
 |len =>
  subst l;obtain⟨a,b⟩:=c.blt i ∅;exact pG (m:=.fresh) GH f_len a b (by kernel_rfl) h ∅ ∅ (fa j)
 |sorted =>
  subst l;obtain⟨a,b⟩:=c.blt i ∅;exact pG (m:=.fresh) Lf (El c.calm c.units) a b (by kernel_rfl) h ∅ ∅ (fa j)
 |sum =>
  subst l;obtain⟨a,b⟩:=c.blt i ∅;exact pG (m:=.fresh) Lw (Em c.calm) a b (by kernel_rfl) h ∅ ∅ (fa j)
 |max =>
  subst l;obtain⟨a,b⟩:=c.blt i ∅;exact pG (m:=.fresh) Hf (Ek c.calm) a b (by kernel_rfl) h ∅ ∅ (fa j)
 |int =>
  subst l;obtain⟨a,b⟩:=c.blt i ∅;exact zu (m:=.fresh) Fo f_int a b (by kernel_rfl) h ∅ ∅ (fa j)
 |inst t=>cases n
 |d4=>cases n
def zv(a:bX xp k g pg Φ X ct)(h:ζ.vj o op=J):b0 X (TP op) (gz X.K (ζ.dh o)):=by
 cases o<;>cases op<;>first|(cases h;done)|skip
 .exact B4 a.units
 .exact Ca a.units
 .exact B9 a.units
 .exact B5
 .exact B7
 .exact B8
 .exact B6 a.units
 .exact Cb a.units
def JU(h:ζ.yh o op=J):b0 X (TV op) (gW X.K (ζ.bT o)):=by
 cases o<;>cases op<;>first|(cases h;done)|skip
 .exact CS
 .exact C3
 .exact CZ
 .exact CU
 .exact CY
 .exact CT
 .exact C4
 .exact C1
 .exact C2
def boot_isinstance:T2 "isinstance"=Z (.builtin "isinstance"):=by kernel_rfl
def BY(t)(a:∀c,t≠.cls c):T2 (ζ.tyName t)=Z (.type (lL t))/\ζ.tyName t≠"__name__"/\(ζ.tyName t==("__debug__":Tj))=S6/\ζ.tyName t∈kc:=by
 cases t with
 |cls c=>exact absurd rfl (a c)
 |int=>exact⟨by kernel_rfl,∅,∅,∅⟩
 |bool=>exact⟨by kernel_rfl,∅,∅,∅⟩
 |str=>exact⟨by kernel_rfl,∅,∅,∅⟩
 |tuple=>exact⟨by kernel_rfl,∅,∅,∅⟩
end
section
variable{xp:bS}{k:Nat}{g:ζ.Gt}{pg:ζ.cT}{Φ:ζ.dn}
variable(xp k g pg Φ) in
structure g6 (n:Nat):Prop where
 e:∀(e:ζ.E)(x:Tq)(ct:ζ.bR)(v:Bool)(X:au),sizeOf e<n->bX xp k g pg Φ X ct->ζ.bH g ct v e x=J->Res xp X ct.ae v (ζ.gR e) x (λaa=>ζ.ev pg Φ aa e)
 a:∀(a:ζ.A)(az:List Tq)(ct:ζ.bR)(X:au),sizeOf a<n->bX xp k g pg Φ X ct->ζ.iD g ct a az=J->dX X az (je xp X ct.ae λaa=>ζ.fm pg Φ aa a)/\(∀e∈az,nice e=J)/\∀aa ds,ζ.fm pg Φ aa a=.ok ds->ds.length=az.length
 o:∀(o:ζ.O)(x:Option Tq)(ct:ζ.bR)(X:au),sizeOf o<n->bX xp k g pg Φ X ct->ζ.mm g ct o x=J->g9 X x (lI xp X ct.ae λaa=>ζ.iO pg Φ aa o)
 i:∀(s:ζ.I)(x:Tq)(ct:ζ.bR)(v:Bool)(X:au)(eC:Tq),sizeOf s<n->bX xp k g pg Φ X ct->ζ.hh g ct v s x=J->(ζ.i4 s=J->∃elts j p,eC=.Tuple elts j p)->fb X eC x (gC xp X ct.ae (jO v) λaa=>ζ.fo pg Φ aa s)/\nice x=J
def sH(v):jO v=.view\/jO v=.val:=by cases v<;>simp[jO]
def Bv(m:bX xp k g pg Φ X ct)(h:(ct.N[i]?==Z x&&ζ.gE ct.sc x&&ζ.okN x&&(v||!ct.ae.contains i))=J):Res xp X ct.ae v (ζ.gR (.var i)) (.Name x p) (λaa=>ζ.ev pg Φ aa (.var i)):=by
 simp only[Oi,OL,PF,O6]at h;obtain⟨⟨⟨q,r⟩,t⟩,b⟩:=h;obtain⟨c,d,u⟩:=dV t;have f:X.N[i]?=Z x:=by rw[m.nm];exact q
 have l:=m.eU r;refine⟨?_,λz=>(by cases z),hx (zB f l c d) λ_=>rfl,λ⟨_,_,_,z⟩=>(by cases z)⟩;cases v with
 |true=>exact zB f l c d
 |false =>
  rcases b with b|b
  .cases b
  .exact KG (λz=>by rw[Pg.mpr z]at b;cases b) f l c d
def Bk(C:g6 xp k g pg Φ n)(b:bX xp k g pg Φ X ct)(B:sizeOf a<n)(h:(g.fns[f]?==Z x&&ζ.ho ct.sc x&&ζ.okN x&&!az.isEmpty&&ζ.iD g ct a az)=J):
  Res xp X ct.ae v (ζ.gR (.call f a)) (.Call (.Name x p) az [] pos) (λaa=>ζ.ev pg Φ aa (.call f a)):=by
 simp only[Oi,OL,O6]at h;obtain⟨⟨⟨⟨r,t⟩,u⟩,w⟩,y⟩:=h;obtain⟨c,G,H⟩:=dV u;obtain⟨p1,p2,p3⟩:=C.a a az ct X B b y;obtain⟨L,fd,M,e1,d,l,m,q⟩:=b.cI.fn f x r;cases az with
 |nil=>cases w
 |cons e az =>
  exact Res.ll (JV m b.room (b.mG t) e1 d l p1 q c (lF (p2 e S7)) (IW λz hz=>p2 z (S4 _ hz))) (λ_=>rfl) (λ_ _ _ z=>by cases z) rfl
def Bq(S:g6 xp k g pg Φ n)(f:bX xp k g pg Φ X ct)(R:∀c,t=.cls c->False)(Q:sizeOf a<n)(h:(x==("isinstance":Tj)&&ζ.cL g ct.sc x&&y==ζ.tyName t&&ζ.cL g ct.sc y&&ζ.bH g ct J a e)=J):
  Res xp X ct.ae v (ζ.gR (.prim (.inst t) a)) (.Call (.Name x p) [e,.Name y T] [] pos) (λaa=>ζ.ev pg Φ aa (.prim (.inst t) a)):=by
 simp only[Oi]at h;obtain⟨⟨⟨⟨b,M⟩,d⟩,N⟩,l⟩:=h;have b:=dg b;have d:=dg d;subst b d;have q:∀c,t≠.cls c:=λc z=>R c z
 obtain⟨b1,b2,w,B⟩:=BY t q;obtain⟨C,G⟩:=f.blt M ∅;obtain⟨H,L⟩:=f.blt N B;have r:=S.e a e ct J X Q f l;have u:∀m,ai X (.Call (.Name "isinstance" p) [e,.Name (ζ.tyName t) T] [] pos) (aE xp X ct.ae m λaa=>ζ.ev pg Φ aa (.prim (.inst t) a)):=λm =>
  Kf (up:=pg.up) q C G boot_isinstance H L b1 r.view ∅ ∅ b2 w (lF (dU l))
 exact Res.h9 u (hx (u _) λ_=>rfl) λ_ _ _ z=>by cases z
def Cn(h:ζ.hh g ct v (.dz a) x=J):∃m p y pos,x=.Call (.Name m p) [y] [] pos/\m="range"/\ζ.cL g ct.sc m=J/\ζ.bH g ct J a y=true:=by
 conv at h=>lhs;whnf
 split at h
 .rename_i m y e1;obtain⟨p,pos,rfl⟩:=ft e1;simp only[Oi]at h;exact⟨m,p,y,pos,rfl,dg h.1.1,h.1.2,h.2⟩
 .cases h
def Br(u:g6 xp k g pg Φ n){v:Bool}(b:bX xp k g pg Φ X ct)(t:sizeOf s<=n)(h:(x==("tuple":Tj)&&ζ.cL g ct.sc x&&ζ.zK s&&ζ.hh g ct J s e)=J):
  ai X (.Call (.Name x p) [e] [] pos) (aE xp X ct.ae .val λaa=>ζ.ev pg Φ aa (.tupI s)):=by
 simp only[Oi]at h;obtain⟨⟨⟨f,B⟩,C⟩,c⟩:=h;have f:=dg f;subst f;obtain⟨l,q⟩:=b.blt B ∅;cases s with
 |seq a =>
  conv at c=>lhs;whnf
  have r:=u.e a e ct J X (by simp at t;lia) b c;have e1:(λaa=>ζ.ev pg Φ aa (.tupI (.seq a)))=λaa=>ζ.ev pg Φ aa a>>=λd=>ζ.cP d>>=λds=>.ok (.tup ds):=funext λaa=>by
   rw[ζ.wd,ζ.v9];cases ζ.ev pg Φ aa a<;>rfl
  rw[e1];exact zu (m:=.val) KP En l q (by kernel_rfl) r.view ∅ ∅ (fa (dU c))
 |dz a =>
  obtain⟨m,G,y,H,rfl,k1,k2,k3⟩:=Cn c;obtain⟨w,z⟩:=b.blt k2 (by rw[k1];decide);have r:=u.e a y ct J X (by simp at t;lia) b k3;exact KD b.calm k1 rfl w z l q r.view (fa (dU k3))
 |_=>cases C
def uK(y:g6 xp k g pg Φ n)(q:bX xp k g pg Φ X ct)(u:sizeOf e<n/\sizeOf s<n/\sizeOf c<n){pos:UN}(H:ζ.dk j t=Z xs)(h:((!ζ.i4 s||j==2)&&ζ.mg ct d xs&&ζ.hh g ct J s C&&ζ.bH g ⟨ζ.mask ct.N xs++xs,d,ct.ae⟩ S6 e x&&ζ.jz g ⟨ζ.mask ct.N xs++xs,d,ct.ae⟩ c w)=J):
  jm X d xs (ζ.mask ct.N xs++xs)/\(∀z,T7 C X.env z=pure z)/\fb X t C (gC xp X ct.ae .view λaa=>ζ.fo pg Φ aa s)/\(∀s3 f l m,ai (es X d (ζ.mask ct.N xs++xs) s3 f l m) x (aE xp (es X d (ζ.mask ct.N xs++xs) s3 f l m) ct.ae .val λaa=>ζ.ev pg Φ aa e)) /\
   kk xp X ct.ae d (ζ.mask ct.N xs++xs) w (λaa=>ζ.hU pg Φ aa c)/\(λaa=>ζ.ev pg Φ aa (.comp e j s c))=λaa=>ζ.fo pg Φ aa s>>=λds=>ζ.h7 (ζ.bN (fU j (λaa=>ζ.hU pg Φ aa c) (λaa=>ζ.ev pg Φ aa e) aa) ds)>>=λys=>.ok (.lst ys):=by
 simp only[Oi]at h;obtain⟨⟨⟨⟨h0,L⟩,M⟩,N⟩,b⟩:=h;have B:=BU L;have S:ζ.i4 s=J->∃elts j p,t=.Tuple elts j p:=λR=>by
  rw[R]at h0;have Q:j=2:=(by simpa using h0);subst Q;cases t with
  |Tuple elts j p=>exact⟨elts,j,p,rfl⟩
  |_=>simp only[ζ.dk]at H;cases H
 obtain⟨T,U⟩:=y.i s C ct J X t u.2.1 q M S;refine⟨B.block q,set_plain U,T,λs3 f l m=>(y.e e x _ S6 _ u.1 (B.ok q s3 f l m) N).dy,?_,rfl⟩;cases c with
 |none =>
  cases w with
  |nil=>exact .inl ⟨rfl,rfl⟩
  |cons _ _=>unfold ζ.jz at b;cases b
 |some r =>
  match w,b with
  |[],b=>unfold ζ.jz at b;cases b
  |[G],b =>
   refine .inr ⟨G,λaa=>ζ.ev pg Φ aa r,rfl,rfl,λs3 f l m=>?_⟩;have b:ζ.bH g ⟨ζ.mask ct.N xs++xs,d,ct.ae⟩ J r G=true:=(by unfold ζ.jz at b;exact b);exact(y.e r G _ J _ (by have:=u.2.2;simp at this;lia) (B.ok q s3 f l m) b).pt
  |_::_::_,b=>unfold ζ.jz at b;cases b
end
section
variable{xp:bS}{k:Nat}{g:ζ.Gt}{pg:ζ.cT}{Φ:ζ.dn}{n:Nat}
def xr{a:List Tq}(h:a.length<=1000):a.length<=sizeLine:=by rw[Tw];lia
def Nu(h:ζ.lP g ct x t a y=Z e):a=e/\∃m p,y=.Name m p/\(x==("isinstance":Tj))=J/\ζ.cL g ct.sc x=J/\((∀c,t≠.cls c)->(m==ζ.tyName t&&ζ.cL g ct.sc m)=J):=by
 unfold ζ.lP at h
 split at h
 .rename_i m d;obtain⟨p,rfl⟩:=dW d
  split at h
  .rename_i b;cases h;rw[Oi,Oi]at b;exact⟨rfl,m,p,rfl,b.1.1,b.1.2,λf=>by cases t<;>first|exact b.2|exact(f _ rfl).elim⟩
  .cases h
 .cases h
def Nt(h:ζ.lP g ct x (.cls c) a y=Z e):False:=by
 unfold ζ.lP at h
 split at h
 .rw[if_neg]at h
  .cases h
  .simp[ζ.tyP]
 .cases h
def Nv(h:ζ.qh g ct x a=Z e):∃y p q,a=.Call (.Name y p) [e] [] q/\(x==("sorted":Tj))=J/\ζ.cL g ct.sc x=J/\(y==("set":Tj))=J/\ζ.cL g ct.sc y=true:=by
 unfold ζ.qh at h
 split at h
 .rename_i y b d;obtain⟨f,p1,rfl⟩:=ft d
  split at h
  .rename_i c;cases h;simp only[Oi]at c;exact⟨y,f,p1,rfl,c.1.1.1,c.1.1.2,c.1.2,c.2⟩
  .cases h
 .cases h
def nF{ct:ζ.bR}{x:Tj}{q:ζ.cJ}{c:List Tq}{e:Tq}(h:(match c with|[e]=>if ζ.nc q&&x==ζ.m9 q&&ζ.cL g ct.sc x then Z e else Y|_=>Y)=Z e):c=[e]/\ζ.nc q=J/\(x==ζ.m9 q)=J/\ζ.cL g ct.sc x=true:=by
 match c,h with
 |[a],h =>
  simp only at h
  split at h
  .rename_i b;cases h;simp only[Oi]at b;exact⟨rfl,b.1.1,b.1.2,b.2⟩
  .cases h
def Bs(A:g6 xp k g pg Φ n)(f:bX xp k g pg Φ X ct)(u:sizeOf a<n)(b:ζ.AN g ct x B j=Z e)(h:ζ.bH g ct J a e=J):
  Res xp X ct.ae v (ζ.gR (.prim B a)) (.Call (.Name x p) j [] pos) (λE=>ζ.ev pg Φ E (.prim B a)):=by
 have o:∀{q:ζ.cJ},j=[e]/\ζ.nc q=J/\(x==ζ.m9 q)=J/\ζ.cL g ct.sc x=J->Res xp X ct.ae v (ζ.gR (.prim q a)) (.Call (.Name x p) j [] pos) (λE=>ζ.ev pg Φ E (.prim q a)):=λ{q} ⟨h0,i,l,d⟩=>by
  subst h0;have C:=A.e a e ct J X u f h;exact Res.i1 (Kp (m:=.fresh) f i (dg l) d C.view (dU h)) (λ_=>rfl) (λ_ _ _ z=>by cases z)
 cases B with
 |d4 =>
  match j,b with
  |[r],b =>
   have b:ζ.qh g ct x r=Z e:=b;obtain⟨y,p1,p2,rfl,i,l,d,M⟩:=Nv b;obtain⟨G,H⟩:=f.blt l (by rw[dg i];decide);obtain⟨I,L⟩:=f.blt M (by rw[dg d];decide);have C:=A.e a e ct J X u f h;exact Res.i1 (Ky f.calm f.units (dg i) (dg d) G H I L C.view (fa (dU h))) (λ_=>rfl) (λ_ _ _ z=>by cases z)
 |len=>exact o (nF b)
 |sorted=>exact o (nF b)
 |sum=>exact o (nF b)
 |max=>exact o (nF b)
 |int=>exact o (nF b)
 |inst t =>
  match j,b with
  |[r,y],b =>
   have b:ζ.lP g ct x t r y=Z e:=b;obtain⟨rfl,m,N,rfl,i,l,d⟩:=Nu b
   by_cases w:∃c,t=.cls c
   .obtain⟨c,rfl⟩:=w;exact(Nt b).elim
   .refine Bq A f (λc s=>w ⟨c,s⟩) u ?_;have d:=d λc s=>w ⟨c,s⟩
    rw[Oi]at d;simp only[Oi];exact⟨⟨⟨⟨i,l⟩,d.1⟩,d.2⟩,h⟩
def t7{n k:Tj}(h:ζ.nD z=Z (n,k)):∃p1 p2 pos,z=.Subscript (.Name n p1) (.Name k p2) pos:=by
 unfold ζ.nD at h
 split at h
 .rename_i x y e1;obtain⟨pos,rfl⟩:=t9 e1
  split at h
  .rename_i d c a b;cases h;obtain⟨p1,rfl⟩:=dW a;obtain⟨p2,rfl⟩:=dW b;exact⟨p1,p2,pos,rfl⟩
  .cases h
 .cases h
def Nd(h:ζ.t5 z=Z (a,b)):∃p,z=.Dict a b p:=by
 cases z with
 |Dict a b pos=>cases h;exact⟨_,rfl⟩
 |_=>exact nn h
def Nc{n k:Tj}(h:ζ.t4 z=Z (n,k)):∃p1 p2 pos,z=.Dict [Z (.Name n p1)] [.Name k p2] pos:=by
 unfold ζ.t4 at h;rcases e:ζ.t5 z with _|⟨_|⟨_|a,_|⟨_,_⟩⟩,_|⟨b,_|⟨_,_⟩⟩⟩<;>rw[e]at h<;>first|(cases h;done)|dsimp only at h
 rcases c:ζ.dm a with _|i<;>rcases d:ζ.dm b with _|f<;>rw[c,d]at h<;>first|(cases h;done)|skip
 cases h;obtain⟨p1,rfl⟩:=dW c;obtain⟨p2,rfl⟩:=dW d;obtain⟨p,rfl⟩:=Nd e;exact⟨_,_,_,rfl⟩
def si(h:ζ.oS z=J):∃lq,z=.Dict [] [] lq:=by
 unfold ζ.oS at h
 split at h
 .exact⟨_,rfl⟩
 .cases h
def mZ{n:Tj}(h:ζ.jQ ct i n=J):ct.N[i]?=Z n/\ζ.gE ct.sc n=J/\ζ.okN n=J/\i∈ct.ae:=by
 unfold ζ.jQ at h;simp only[Oi,OL]at h;exact⟨h.1.1.1,h.1.1.2,h.1.2,Pg.mp h.2⟩
def lr{n:Tj}(h:ζ.i5 ct i n=J):ct.N[i]?=Z n/\ζ.gE ct.sc n=J/\ζ.okN n=J/\i∉ct.ae:=by
 unfold ζ.i5 at h;simp only[Oi,OL,O6]at h;exact⟨h.1.1.1,h.1.1.2,h.1.2,λz=>by rw[Pg.mpr z]at h;cases h.2⟩
def qJ{n:Tj}(h:ζ.l6 ct i n=J):ct.N[i]?=Z n/\ζ.gE ct.sc n=J/\ζ.okN n=true:=by
 unfold ζ.l6 at h;simp only[Oi,OL]at h;exact⟨h.1.1,h.1.2,h.2⟩
def tY{n:Tj}(h:ζ.qd x=Z (o,n,p)):x=.Attribute o n p:=by
 cases x with
 |Attribute o n p=>cases h;rfl
 |_=>exact nn h
def AA{x n:Tj}(h:ζ.qc z=Z (x,n,a,y)):∃p du,z=.Call (.Attribute (.Name x p) n a) [y] [] du:=by
 unfold ζ.qc at h
 split at h
 .rename_i f j e1;obtain⟨du,rfl⟩:=qf e1
  split at h
  .rename_i o e d b;obtain rfl:=tY b
   split at h
   .rename_i i c;obtain⟨p,rfl⟩:=dW c;cases h;exact⟨p,du,rfl⟩
   .cases h
  .cases h
 .cases h
def Nl(h:ζ.ua z=Z (x,y,c,o,f)):∃p p1 p2 a b d pos,z=.Call (.Name x p) [.BinOp (.Call (.Name y p1) [c] [] a) .BitXor (.Call (.Name o p2) [f] [] b) d] [] pos:=by
 unfold ζ.ua at h
 split at h
 .rename_i q e e1;obtain⟨p,pos,rfl⟩:=ft e1
  split at h
  .rename_i l r i;obtain⟨d,rfl⟩:=qe i
   split at h
   .rename_i j m;cases h;obtain⟨p1,a,rfl⟩:=ft j;obtain⟨p2,b,rfl⟩:=ft m;exact⟨p,p1,p2,a,b,d,pos,rfl⟩
   .cases h
  .cases h
 .cases h
def Nr(h:ζ.isVar b=J)(a:aF)(c):ζ.ev pg Φ a b≠.exc c:=by
 cases b with
 |var j =>
  intro z;have z:ζ.mE a[j]?=.exc c:=z;unfold ζ.mE at z
  split at z<;>cases z
 |_=>cases h
def Nk{x n:Tj}(h:ζ.t8 z=Z (x,n)):∃p1 p2 pos,z=.Call (.Name x p1) [.Name n p2] [] pos:=by
 unfold ζ.t8 at h
 split at h
 .rename_i c e e1;obtain⟨p1,pos,rfl⟩:=ft e1
  split at h
  .rename_i b a;cases h;obtain⟨p2,rfl⟩:=dW a;exact⟨p1,p2,pos,rfl⟩
  .cases h
 .cases h
def Nb{n:Tj}(h:ζ.t2 z=Z (o,n,a)):∃c p du,z=.Call (.Attribute o n a) [.Constant (.bool J) c p] [] du:=by
 unfold ζ.t2 at h
 split at h
 .rename_i f y e1;obtain⟨du,rfl⟩:=qf e1
  split at h
  .rename_i j i e b d;cases h;obtain rfl:=tY b;obtain⟨c,p,rfl⟩:=lO d;exact⟨c,p,du,rfl⟩
  .cases h
 .cases h
def Lq(G:g6 xp k g pg Φ n)(e)(x)(ct)(v)(X)(E:sizeOf e<n+1)(A:bX xp k g pg Φ X ct)(h:ζ.bH g ct v e x=J):Res xp X ct.ae v (ζ.gR e) x (λI=>ζ.ev pg Φ I e):=by
 cases e with
 |var i =>
  conv at h=>lhs;whnf
  split at h
  .rename_i y e1;obtain⟨p,rfl⟩:=dW e1;exact Bv A h
  .cases h
 |lit d =>
  conv at h=>lhs;whnf
  split at h
  .rename_i c e1;obtain⟨f0,p,rfl⟩:=lO e1;exact Res.h9 (λm=>zw h) (hx (zw h) λ_=>rfl) λ_ _ _ z=>by cases z
  .cases h
 |tup a =>
  conv at h=>lhs;whnf
  split at h
  .rename_i aA e1;obtain⟨j,p,rfl⟩:=Nm e1;simp only[Oi,Oz]at h;obtain⟨p1,p2,p3⟩:=G.a a aA ct X (by simp at E;lia) A h.1;exact Res.ll (KC p1 λI ds q=>by rw[p3 I ds q];exact xr h.2) (λ_=>rfl) (λ_ _ _ z=>by cases z) rfl
  .cases h
 |lst a =>
  conv at h=>lhs;whnf
  split at h
  .rename_i aA e1;obtain⟨p,rfl⟩:=Ni e1;simp only[Oi,Oz]at h;obtain⟨p1,p2,p3⟩:=G.a a aA ct X (by simp at E;lia) A h.1;exact Res.i1 (Ki p1 λI ds q=>by rw[p3 I ds q];exact xr h.2) (λ_=>rfl) (λ_ _ _ z=>by cases z)
  .cases h
 |bin op a b =>
  conv at h=>lhs;whnf
  split at h
  .rename_i x o y e1;obtain⟨p,rfl⟩:=qe e1;simp only[Oi]at h;have C:=G.e a x ct J X (by simp at E;lia) A h.1.2;have H:=G.e b y ct J X (by simp at E;lia) A h.2;exact Res.i1 (JT (BM op) (JU h.1.1) C.view H.view) (λ_=>rfl) (λ_ _ _ z=>by cases z)
  .cases h
 |not a =>
  conv at h=>lhs;whnf
  rcases e1:ζ.nE x with _|⟨_|_|_|_,x⟩<;>rw[e1]at h<;>first|(cases h;done)|skip
  .obtain⟨p,rfl⟩:=AI e1;have C:=G.e a x ct J X (by simp at E;lia) A h;exact Res.h9 (λm=>Km C.view) (Kn C.pt) λ_ _ _ z=>by cases z
 |cmp op a b =>
  conv at h=>lhs;whnf
  rcases e1:ζ.tZ x with _|⟨x,_|⟨o,_|⟨_,_⟩⟩,_|⟨y,_|⟨_,_⟩⟩⟩<;>rw[e1]at h<;>first|(cases h;done)|skip
  .obtain⟨p,rfl⟩:=Na e1;simp only[Oi]at h;have C:=G.e a x ct J X (by simp at E;lia) A h.1.2;have H:=G.e b y ct J X (by simp at E;lia) A h.2;have cq:=Hb (op:=o) (dU h.2);exact Res.h9 (λm=>JW (zv A h.1.1) C.view H.view cq) (JX (zv A h.1.1) C.view H.view cq) λ_ _ _ z=>by cases z
 |and a b =>
  conv at h=>lhs;whnf
  rcases e1:ζ.vBool x with _|⟨_|_,_|⟨x,_|⟨y,_|⟨z,r⟩⟩⟩,p⟩<;>rw[e1]at h<;>first|(cases h;done)|skip
  .obtain rfl:=nC e1;simp only[Oi]at h;have C:=G.e a x ct J X (by simp at E;lia) A h.1;have H:=G.e b y ct v X (by simp at E;lia) A h.2;have O:=zq (pos:=p) C.pt (Je H.pt);exact⟨zp C.view (s6 H.dy),λz=>(by cases z),O.pt,λ_=>O⟩
  .obtain rfl:=nC e1;simp only[Oi]at h;have C:=G.e a x ct J X (by simp at E;lia) A h.1;have H:=G.e b _ ct v X (by simp at E;lia) A h.2;have O:=zq (pos:=p) C.pt (H.yR ⟨_,_,_,rfl⟩);exact⟨zp C.view H.dy,λz=>(by cases z),O.pt,λ_=>O⟩
 |or a b =>
  conv at h=>lhs;whnf
  rcases e1:ζ.vBool x with _|⟨_|_,_|⟨x,_|⟨y,_|⟨z,r⟩⟩⟩,p⟩<;>rw[e1]at h<;>first|(cases h;done)|skip
  .obtain rfl:=nC e1;simp only[Oi]at h;have C:=G.e a x ct J X (by simp at E;lia) A h.1;have H:=G.e b y ct v X (by simp at E;lia) A h.2;have O:=zz (pos:=p) C.pt (Jg H.pt);exact⟨zy C.view (s6 H.dy),λz=>(by cases z),O.pt,λ_=>O⟩
  .obtain rfl:=nC e1;simp only[Oi]at h;have C:=G.e a x ct J X (by simp at E;lia) A h.1;have H:=G.e b _ ct v X (by simp at E;lia) A h.2;have O:=zz (pos:=p) C.pt (H.yR ⟨_,_,_,rfl⟩);exact⟨zy C.view H.dy,λz=>(by cases z),O.pt,λ_=>O⟩
 |idx a b =>
  conv at h=>lhs;whnf
  split at h
  .rename_i x y e1;obtain⟨p,rfl⟩:=t9 e1;simp only[Oi]at h;have C:=G.e a x ct J X (by simp at E;lia) A h.1;have H:=G.e b y ct J X (by simp at E;lia) A h.2;exact Res.ll (Kc C.view H.view (FP (dU h.2))) (λ_=>rfl) (λ_ _ _ z=>by cases z) rfl
  .cases h
 |slice a lo en =>
  conv at h=>lhs;whnf
  split at h
  .rename_i x y e1;obtain⟨p,rfl⟩:=t9 e1
   split at h
   .rename_i l u ay;obtain⟨kD,rfl⟩:=Nj ay;simp only[Oi]at h;have C:=G.e a x ct J X (by simp at E;lia) A h.1.1;have hQ:=G.o lo l ct X (by simp at E;lia) A h.1.2;have gp:=G.o en u ct X (by simp at E;lia) A h.2;exact Res.i1 (Kw C.view hQ gp) (λ_=>rfl) (λ_ _ _ z=>by cases z)
   .cases h
  .cases h
 |call f a =>
  conv at h=>lhs;whnf
  split at h
  .rename_i x aA e1;obtain⟨p,q,rfl⟩:=ft e1;exact Bk G A (by simp at E;lia) h
  .cases h
 |prim kE a =>
  conv at h=>lhs;whnf
  split at h
  .rename_i x aA e1;obtain⟨p,q,rfl⟩:=ft e1
   split at h
   .rename_i e ay;exact Bs G A (by simp at E;lia) ay h
   .cases h
  .cases h
 |eN i j =>
  conv at h=>lhs;whnf
  split at h
  .rename_i S a6 e1;obtain⟨p1,p2,pos,rfl⟩:=t7 e1;rw[Oi]at h;obtain⟨a1,T,U⟩:=qJ h.1;obtain⟨b1,b2,ax,cw⟩:=lr h.2;obtain⟨a0,ao,_⟩:=dV U;obtain⟨aB,aC,_⟩:=dV ax;have N:∀m,ai X (.Subscript (.Name S p1) (.Name a6 p2) pos) (aE xp X ct.ae m λI=>ζ.hk I[i]? I[j]?):=λm=>J0 A.units cw (by rw[A.nm];exact a1) (A.eU T) a0 ao (by rw[A.nm];exact b1) (A.eU b2) aB aC
   exact Res.h9 N (hx (N .view) λ_=>rfl) λ_ _ _ z=>by cases z
  .cases h
 |h3 i j =>
  conv at h=>lhs;whnf
  split at h
  .rename_i x S bl y e1;obtain⟨p1,cx,rfl⟩:=AA e1
   split at h
   .rename_i a6 ay;obtain⟨p2,rfl⟩:=dW ay;simp only[Oi]at h;obtain⟨⟨⟨L,Q⟩,M⟩,R⟩:=h;obtain⟨a1,T,U⟩:=qJ M;obtain⟨b1,b2,ax⟩:=qJ R;obtain⟨a0,ao,_⟩:=dV U;obtain⟨aB,aC,_⟩:=dV ax;have N:∀m,ai X (.Call (.Attribute (.Name x p1) S bl) [.Name a6 p2] [] cx) (aE xp X ct.ae m λI=>ζ.kZ I[i]? I[j]?):=λm=>Kh A.units (dg L) Q (by rw[A.nm];exact a1) (A.eU T) a0 ao (by rw[A.nm];exact b1) (A.eU b2) aB aC
    exact Res.h9 N (hx (N .view) λ_=>rfl) λ_ _ _ z=>by cases z
   .cases h
  .cases h
 |kx i =>
  conv at h=>lhs;whnf
  split at h
  .rename_i x S e1;obtain⟨p1,p2,pos,rfl⟩:=Nk e1;simp only[Oi]at h;obtain⟨⟨L,Q⟩,M⟩:=h;obtain⟨a7,a5⟩:=A.blt Q (by rw[dg L];decide);obtain⟨a1,T,U,a8⟩:=mZ M;obtain⟨a0,ao,_⟩:=dV U;exact Res.i1 (J7 A.calm A.units (dg L) a7 a5 a8 (by rw[A.nm];exact a1) (A.eU T) a0 ao) (λ_=>rfl) (λ_ _ _ z=>by cases z)
  .cases h
 |min2 a b =>
  conv at h=>lhs;whnf
  rcases e1:ζ.d7 x with _|⟨x,_|⟨y,_|⟨w,_|⟨_,_⟩⟩⟩⟩<;>rw[e1]at h<;>first|(cases h;done)|skip
  .obtain⟨p,q,rfl⟩:=ft e1;simp only[Oi]at h;obtain⟨⟨⟨L,Q⟩,M⟩,R⟩:=h;obtain⟨a7,a5⟩:=A.blt Q (by rw[dg L];decide);have C:=G.e a y ct J X (by simp at E;lia) A M;have H:=G.e b w ct J X (by simp at E;lia) A R;have N:∀m,ai X (.Call (.Name x p) [y,w] [] q) (aE xp X ct.ae m λI=>ζ.ev pg Φ I (.min2 a b)):=λm=>Kj A.calm (dg L) a7 a5 C.view H.view (Ln (dU M) (dU R)) (fa (dU R))
   exact Res.h9 N (hx (N .view) λ_=>rfl) λ_ _ _ z=>by cases z
 |cnt a =>
  conv at h=>lhs;whnf
  split at h
  .rename_i o S bl e1;obtain⟨cz,p2,cx,rfl⟩:=Nb e1;simp only[Oi]at h;obtain⟨⟨⟨L,Q⟩,M⟩,R⟩:=h;have C:=G.e a o ct J X (by simp at E;lia) A R;have ee:UY o S X.env (T4 o X.env)=T4 o X.env:=by
    cases o with
    |ListComp _ _ _ _=>rfl
    |_=>cases M
   have N:∀m,ai X (.Call (.Attribute o S bl) [.Constant (.bool J) cz p2] [] cx) (aE xp X ct.ae m λI=>ζ.ev pg Φ I (.cnt a)):=λm=>JY A.units (dg L) Q ee C.view
   exact Res.h9 N (hx (N .view) λ_=>rfl) λ_ _ _ z=>by cases z
  .cases h
 |ks i j =>
  conv at h=>lhs;whnf
  split at h
  .rename_i S a6 e1;obtain⟨p1,p2,pos,rfl⟩:=Nc e1;rw[Oi]at h;obtain⟨a1,T,U,a8⟩:=lr h.1;obtain⟨b1,b2,ax,cw⟩:=lr h.2;obtain⟨a0,ao,_⟩:=dV U;obtain⟨aB,aC,_⟩:=dV ax;exact Res.ll (J2 a8 cw (by rw[A.nm];exact a1) (A.eU T) a0 ao (by rw[A.nm];exact b1) (A.eU b2) aB aC) (λ_=>rfl) (λ_ _ _ z=>by cases z) rfl
  .cases h
 |ku =>
  conv at h=>lhs;whnf
  obtain⟨f4,rfl⟩:=si h;exact Res.ll J5 (λ_=>rfl) (λ_ _ _ z=>by cases z) rfl
 |neg a =>
  conv at h=>lhs;whnf
  rcases e1:ζ.nE x with _|⟨_|_|_|_,x⟩<;>rw[e1]at h<;>first|(cases h;done)|skip
  .obtain⟨p,rfl⟩:=AI e1;have C:=G.e a x ct J X (by simp at E;lia) A h;exact Res.h9 (λm=>zx C.view) (hx (zx C.view) λ_=>rfl) λ_ _ _ z=>by cases z
 |lG a b =>
  conv at h=>lhs;whnf
  split at h
  .rename_i x y c gq cM e1;obtain⟨p,p1,p2,hV,hW,f8,pos,rfl⟩:=Nl e1;simp only[Oi]at h;obtain⟨⟨⟨⟨⟨⟨⟨L,Q⟩,M⟩,R⟩,dP⟩,ed⟩,b9⟩,cc⟩:=h;obtain⟨a7,a5⟩:=A.blt Q (by rw[dg L];decide);obtain⟨cN,dv⟩:=A.blt R (by rw[dg M];decide);have cA:gq=y:=(dg dP).trans (dg M).symm;subst cA;have C:=G.e a c ct J X (by simp at E;lia) A b9;have H:=G.e b cM ct J X (by simp at E;lia) A cc;exact Res.i1 (KA A.calm A.units (dg L) (dg M) a7 a5 cN dv C.view H.view (fa (dU b9)) (fa (dU cc)) (Nr ed)) (λ_=>rfl) (λ_ _ _ z=>by cases z)
  .cases h
 |tupI s =>
  conv at h=>lhs;whnf
  rcases e1:ζ.d7 x with _|⟨x,_|⟨e,_|⟨_,_⟩⟩⟩<;>rw[e1]at h<;>first|(cases h;done)|skip
  .obtain⟨p,q,rfl⟩:=ft e1;exact Res.ll (Br (v:=v) G A (by simp at E;lia) h) (λ_=>rfl) (λ_ _ _ z=>by cases z) rfl
 |comp e j s c =>
  conv at h=>lhs;whnf
  split at h
  .rename_i x t iL gP hX e1;obtain⟨p,rfl⟩:=AD e1
   split at h
   .rename_i xs cf;obtain⟨B,eM,fk,e0,fT,gn⟩:=uK (pos:=p) G A (by simp at E;lia) cf h;rw[gn];exact Res.i1 (tn A.calm (by rw[A.nm];exact A.ae) B cf eM fk e0 fT) (λ_=>rfl) (λ_ _ _ z=>by cases z)
   .cases h
  .cases h
def Lo(o:g6 xp k g pg Φ n)(a)(f)(ct)(X)(m:sizeOf a<n+1)(l:bX xp k g pg Φ X ct)(h:ζ.iD g ct a f=J):dX X f (je xp X ct.ae λb=>ζ.fm pg Φ b a)/\(∀e∈f,nice e=J)/\∀b ds,ζ.fm pg Φ b a=.ok ds->ds.length=f.length:=by
 unfold ζ.iD at h
 split at h
 .exact⟨Kk,by simp,λb ds q=>by rw[ζ.v8]at q;cases q;rfl⟩
 .rename_i e a x xs;simp only[Oi]at h;have r:=o.e e x ct S6 X (by simp at m;lia) l h.1;obtain⟨p1,p2,p3⟩:=o.a a xs ct X (by simp at m;lia) l h.2;refine⟨JZ r.val p1 (lF (dU h.1)),λz hz=>?_,λb ds q=>?_⟩
  .rcases Oq.mp hz with rfl|hz
   .exact dU h.1
   .exact p2 z hz
  .rw[ζ.v7]at q;cases j:ζ.ev pg Φ b e with
   |ok d =>
    rw[j]at q;simp only[ζ.R.i3]at q;cases i:ζ.fm pg Φ b a with
    |ok p=>rw[i]at q;cases q;simp[p3 b p i]
    |exc c=>rw[i]at q;cases q
    |bad=>rw[i]at q;cases q
   |exc c=>rw[j]at q;cases q
   |bad=>rw[j]at q;cases q
 .cases h
def Lr(c:g6 xp k g pg Φ n)(o)(x)(ct)(X)(b:sizeOf o<n+1)(a:bX xp k g pg Φ X ct)(h:ζ.mm g ct o x=J):g9 X x (lI xp X ct.ae λd=>ζ.iO pg Φ d o):=by
 unfold ζ.mm at h
 split at h
 .exact Kl
 .rename_i e x;exact Ko (c.e e x ct J X (by simp at b;lia) a h).view
 .cases h
def stepI(q:g6 xp k g pg Φ n)(s)(x)(ct)(v)(X)(u)(o:sizeOf s<n+1)(b:bX xp k g pg Φ X ct)(h:ζ.hh g ct v s x=J)(E:ζ.i4 s=J->∃t j p,u=.Tuple t j p):
  fb X u x (gC xp X ct.ae (jO v) λH=>ζ.fo pg Φ H s)/\nice x=true:=by
 cases s with
 |seq e =>
  conv at h=>lhs;whnf
  exact⟨Kg (sH v) (q.e e x ct v X (by simp at o;lia) b h).dy,dU h⟩
 |dz a =>
  conv at h=>lhs;whnf
  rcases e1:ζ.d7 x with _|⟨x,_|⟨y,_|⟨_,_⟩⟩⟩<;>rw[e1]at h<;>first|(cases h;done)|skip
  .obtain⟨G,p,rfl⟩:=ft e1;simp only[Oi]at h;obtain⟨⟨c,m⟩,d⟩:=h;obtain⟨f,l⟩:=b.blt m (by rw[dg c];decide);have r:=q.e a y ct J X (by simp at o;lia) b d;exact⟨Ku (dg c) f l r.view (fa (dU d)),rfl⟩
 |enum a =>
  conv at h=>lhs;whnf
  rcases e1:ζ.d7 x with _|⟨x,_|⟨y,_|⟨_,_⟩⟩⟩<;>rw[e1]at h<;>first|(cases h;done)|skip
  .obtain⟨G,p,rfl⟩:=ft e1;simp only[Oi]at h;obtain⟨⟨c,m⟩,d⟩:=h;obtain⟨f,l⟩:=b.blt m (by rw[dg c];decide);obtain⟨t,j,L,rfl⟩:=E rfl;have r:=q.e a y ct v X (by simp at o;lia) b d;exact⟨Kd (sH v) (dg c) f l r.dy (fa (dU d)),rfl⟩
 |iI i =>
  conv at h=>lhs;whnf
  split at h
  .rename_i I e1;obtain⟨p,rfl⟩:=dW e1;obtain⟨a1,w,z,A⟩:=lr h;obtain⟨B,C,_⟩:=dV z;exact⟨Kb (sH v) A (by rw[b.nm];exact a1) (b.eU w) B C,rfl⟩
  .cases h
theorem iA:∀n,g6 xp k g pg Φ n
 |0=>⟨λ_ _ _ _ _ h=>⋯,λ_ _ _ _ h=>⋯,λ_ _ _ _ h=>⋯,λ_ _ _ _ _ _ h=>⋯⟩
 |n+1=>⟨Lq (iA n),Lo (iA n),Lr (iA n),stepI (iA n)⟩
def i2(a:bX xp k g pg Φ X ct)(h:ζ.bH g ct v e x=J):Res xp X ct.ae v (ζ.gR e) x (λb=>ζ.ev pg Φ b e):=(iA (sizeOf e+1)).e e x ct v X (PW _) a h
end
def H2(x:bZ P w H h a o):∃u,h.get? a=Z u:=by
 cases o with
 |lst xs=>obtain⟨_,_,_,_,e⟩:=x;exact⟨_,e⟩
 |tup xs=>obtain⟨_,_,_,o,e,_⟩:=x;exact⟨_,e⟩
 |b5 c=>obtain⟨_,_,_,_,o,_,_,e,_⟩:=x;exact⟨_,e⟩
 |cm c=>obtain⟨_,_,_,_,o,_,_,e,_⟩:=x;exact⟨_,e⟩
 |set S n=>obtain⟨o,_,_,_,e,_⟩:=x;exact⟨_,e⟩
 |ins C d b=>obtain⟨_,_,_,e,_⟩:=x;exact⟨_,e⟩
 |own y=>exact x
 |qj b=>obtain⟨_,⟨_,_,_,e,_⟩,_⟩:=x;exact⟨_,e⟩
 |dz lo g=>obtain⟨_,_,_,e⟩:=x;exact⟨_,e⟩
 |cy i u=>obtain⟨e,_⟩:=x;exact⟨_,e⟩
 |jg j=>exact⟨_,x⟩
 |met f y=>exact⟨_,x⟩
 |ext k=>exact x.2.1
def sT(x:cD P w H h)(e:h.get? a=Y):H a=none:=by
 cases q:H a with
 |none=>rfl
 |some o=>obtain⟨u,z⟩:=H2 (x a o q);rw[e]at z;cases z
section
def sQ{R:bu}{l:List Td}(I:Inv X Q R H s)(t:∀a∈l,eW X Q H a)(A:∀b o,s.heap.get? b=Z o->b∉l->b∉eg X.stack->h'.get? b=Z o)(ar:∀b o,s.heap.get? b=Z o->b∈eg X.stack->∃h,h'.get? b=Z { o with slots:=h }):Inv X Q R H { s with heap:=h',toks:=t' }:=by
 have w:∀b o,s.heap.get? b=Z o->b∉l->∃h,h'.get? b=Z { o with slots:=h }:=λb o e n=>by
  by_cases f:b∈eg X.stack
  .exact ar b o e f
  .exact⟨o.slots,A b o e n f⟩
 have E:∀b o,X.dG.heap.get? b=Z o->b∉X.ex->b∉l:=λb o e g f=>by
  rcases(t b f).2.1 with z|z
  .exact g z
  .rw[e]at z;cases z
 have a1:∀b o,X.dG.heap.get? b=Z o->b∉X.bx->b∉eg X.stack:=λb o e f q=>by
  rcases Oq.mp (I.j4 b q) with z|z
  .exact absurd (OD (Ou e) I.ok.above) (by rw[z];exact Pq _)
  .exact f z
 have G:∀x c,X.env.cells.lookup x=Z c->∀v,s.heap.IsCell c v->h'.IsCell c v:=λx c e v ao=>by
  obtain⟨o,C,B⟩:=ao;obtain⟨h,q⟩:=w c o C λz=>(t c z).2.2.2.1 x c e rfl
  exact⟨_,q,B⟩
 refine⟨I.ok,I.os,I.bare,⟨λb o e n f g=>?_,λb o e n f g=>?_,I.base.free,λb o e g=>?_,I.base.g5,I.base.gs,I.base.g4⟩,?_,λx c e=>?_,I.free,I.ez,λp M=>?_,λa o e=>?_,I.len⟩
 .exact A b o (I.base.keep b o e n f g) (E b o e g) (a1 b o e f)
 .obtain⟨h,e1⟩:=I.base.slot b o e n f g;obtain⟨aj,j⟩:=w b _ e1 (E b o e g);exact⟨aj,j⟩
 .obtain⟨a2,e1⟩:=I.base.there b o e g;obtain⟨h,j⟩:=w b a2 e1 (E b o e g);exact⟨_,j⟩
 .obtain⟨m,⟨o,U,T,C,B,r⟩,a0⟩:=I.loc;obtain⟨h,e⟩:=w _ o C λz=>(t _ z).2.2.1 rfl
  refine⟨m,⟨_,U,T,e,B,r⟩,λi x v e1 j S=>?_⟩;obtain⟨u,r,q⟩:=a0 i x v e1 j S;refine⟨u,r,?_⟩;rcases q with q|⟨k,c,e,z⟩
  .exact .inl q
  .exact .inr ⟨k,c,e,G x c e _ z⟩
 .obtain⟨v,z⟩:=I.cell x c e;exact⟨v,G x c e v z⟩
 .obtain⟨e,n,N,O,d⟩:=I.pin p M;exact⟨A p.1 p.2 e (λz=>(t _ z).2.2.2.2 p M rfl) (λz=>(Oq.mp (I.j4 _ z)).elim N O),n,N,O,d⟩
 .refine(I.aK a o e).g0 (λb u f q=>?_) (λ_ q=>q) λ_ _ q=>q
  have L:H b≠none:=by
   rcases f with z|z
   .rw[z,e];exact λy=>nomatch y
   .rw[z];exact λy=>nomatch y
  exact A b u q (λz=>L (t b z).1) λz=>L (I.tI b z)
end
noncomputable def n8:List Value:=[.type "ValueError",.type "Exception",.type "BaseException",.type "object"]
structure ke(aG:Tj->Option S8)(base:TH)(cl:Nat->Option Td)(c:Nat)(x:Tj)(C:Td):Prop where
 at_:cl c=Z C
 aG:aG x=Z (.ref C)
 fs:∃(newId:String)(bm:List S8)(N:Td)(nm q:Tj)(bs:List S8)(hdct:Bool)(sn:List Tj)(sub:List S8)(ab:Bool)(col:Option Bool)(dd:Option Td)(k0 k1 k2 k3 k5:Option S8),
  base.get? C=Z (TL nm q C N bs bm hdct sn sub ab col dd k0 k1 k2 k3 k5 newId)/\bm.contains (.type "BaseException")=J
structure kf(K:W.Frag)(base:TH)(cl:Nat->Option Td)(up:Nat->List Nat)(C:Td):Prop where
 at_:cl 1=Z C
 j9:(up 1).contains 1000=J
 fs:∃(newId ui Fi:String)(BX bm:List S8)(N:Td)(nm q:Tj)(bs:List S8)(hdct:Bool)(sn:List Tj)(sub:List S8)(ab:Bool)(col:Option Bool)(dd:Option Td)(k0 k1 k2 k3 k5:Option S8)(mN:Tj->Option S8),
  ExcBaseFacts ui newId Fi BX/\n8.contains (.type ui)=J/\base.get? C=Z (TL nm q C N bs bm hdct sn sub ab col dd k0 k1 k2 k3 k5 newId)/\base.Ns N mN/\mN "__init__"=Y/\OwnTail base n8 bm/\cK.Plain K C bm /\
  ∀k D,cl k=Z D->(Th C::bm).contains (.ref D)=(up 1).contains k
section
variable{X:au}{pins:List (Td×Uq)}{σ:bu}{H:ag}{s:S9}{h':TH}{l:List Td}{cl:Nat->Option Td}{up:Nat->List Nat}{x n:Tj}{C:Td}{ae:List Nat}{np p dD pos:UN}
def Kq(k:ke X.aG X.base cl 1 x C)(O:kf X.K X.base cl up C)(w:X.calm=J)(z:cQ X x)(y:(x==("__debug__":Tj))=S6):
  bV X (.Raise (Z (.Call (.Name x np) [.Constant (.str t) j p] [] dD)) Y pos) (b3 (cK.dZ cl) X ae λ_=>.exc 1):=by
 rintro pins s σ H T I ⟨L,M,G,U,v,hw⟩;obtain⟨S,E,R,Q,bm,N,nm,q,bs,hdct,sn,sub,ab,col,dd,k0,k1,k2,k3,k5,mN,i,m,o,u,A,g,_⟩:=O.fs;refine wpAny_Raise_call_subU (C:=C) (nm:=nm) (q:=q) (N:=N) (bs:=bs) (bm:=bm) (hdct:=hdct) (sn:=sn) (sub:=sub) (ab:=ab) (col:=col) (dd:=dd) (k0:=k0) (k1:=k1) (k2:=k2) (k3:=k3) (k5:=k5)
  i m Wl (mN:=mN) (g.hasType rfl) (I.ok.hd w) rfl A (oY I z k.aG ⟨rfl,?_⟩ y)
 have f:=(ia s8 lp:dX X [.Constant (.str t) j p] _) dD pins s σ H (λh d=>h.length=1/\d=H) I ⟨rfl,rfl⟩;refine RC (aV f λB s2 ⟨h,d,b,r,e⟩=>⟨rfl,by show B.length<=Tx;rw[<- r.length,e.1];decide,b.fj _ _ o,u.keeps b.fj,g.keeps b.fj,λh' dw c=>?_⟩)
 .obtain⟨_,rfl⟩:=e;exact hw pins σ d { s2 with heap:=h' } (.ref dw) [dw] (b.kept (t':=s2.toks) c.keeps) v.ext.h (λa f=>by
   obtain rfl:a=dw:=(by simpa using f);exact .of b c.new (sT b.aK c.new)) (cK.made O.at_ c)
noncomputable def LN(j:Nat)(b:Td)(v:V):TE:=λσ H Q=>σ[j]?=Z (Z (.ref b))/\∀a,aH H a->Q v a
noncomputable def z4(j:Nat)(b:Td)(v:V):eu:=λT σ H=>σ[j]?=Z (Z (.ref b))/\∀a,aH H a->T.bK v a
def ur(a:Tj->Option S8)(base:TH)(cl:Nat->Option Td)(up:Nat->List Nat)(v:V)(b:Bool):Prop:=(v=.ty "ValueError"/\b=J)\/∃k y D,v=.ref D/\ke a base cl k y D/\b=(up 1).contains k
def Cc(O:kf X.K X.base cl up C)(z:(i,j)∈X.b7)(f:j.cls=.ref C):
  eV X (.builtin "isinstance") (λxs H Q=>∃v b,xs=[.ref i,v]/\ur X.aG X.base cl up v b/\Q (.ah b) H):=by
 rintro pins s σ H xs a2 Q I r ⟨v,b,t,A,q⟩;subst t;obtain⟨u,a1,rfl,B,m⟩:=vals2 r;cases B;have g:=(I.pin (i,j) (Tg _ z)).1;obtain⟨U,E,T,L,bm,N,nm,a0,bs,hdct,sn,sub,ab,col,dd,k0,k1,k2,k3,k5,mN,G,M,a,R,S,o,P,w⟩:=O.fs;have a:=I.fj _ _ a;rcases A with⟨rfl,rfl⟩|⟨k,y,D,rfl,h,rfl⟩
 .cases m;exact cK.FD g f a (by kernel_rfl) (o.hasType rfl) ⟨.ah J,H,I,rfl,q⟩
 .cases m;obtain⟨_,_,_,_,_,_,_,_,_,_,_,_,_,_,_,_,_,c,_⟩:=h.fs;have c:=I.fj _ _ c;have d:=w k D h.at_;cases e:(up 1).contains k with
  |true =>
   rw[e]at d q;exact cK.FC g f a c rfl ⟨_,rfl⟩ d ⟨.ah J,H,I,rfl,q⟩
  |false =>
   rw[e]at d q;exact cK.FA I.dS P g f a c rfl ⟨_,rfl⟩ d ⟨.ah S6,H,I.tok _,rfl,q⟩
variable{g:ζ.Gt}{ct:ζ.bR}
structure um(X:au)(g:ζ.Gt)(ct:ζ.bR)(cl:Nat->Option Td):Prop where
 gl:∀x,ζ.ho ct.sc x=J->cQ X x
 ah:∀x,ζ.cL g ct.sc x=J->x∈kc->cQ X x/\X.aG x=Y
 j9:X.aG "ValueError"=Y
 own:∀(c:Nat)(x:Tj),g.cls[c]?=Z x->∃C,ke X.aG X.base cl c x C
def yy(O:kf X.K X.base cl up C)(b:um X g ct cl)(N:(A,a0)∈X.b7)(G:a0.cls=.ref C)(L:X.N[j]?=Z n)(T:dB X.env.scope n)(M:ζ.okN n=J)(h:ζ.oa g ct n k z=J):ai X z (LN j A (.ah ((up 1).contains k)))/\nice z=true:=by
 unfold ζ.oa at h
 split at h
 .rename_i f e d e1;obtain⟨ay,ao,rfl⟩:=ft e1
  split at h
  .rename_i y t u w;obtain⟨p1,rfl⟩:=dW u;obtain⟨p2,rfl⟩:=dW w;simp only[Oi,OL]at h;obtain⟨⟨⟨⟨rfl,E⟩,rfl⟩,o⟩,aA⟩:=h;obtain⟨b1,b2⟩:=b.ah _ E ∅;obtain⟨q,r,ax⟩:=dV M;have S:∃v,ai X (.Name t p2) (jf v)/\ur X.aG X.base cl up v ((up 1).contains k):=by
    simp only[ζ.tyB,Oi]at o;obtain⟨⟨m,B⟩,a⟩:=o;obtain⟨aj,aB,aC⟩:=dV B
    by_cases c:k=1000
    .rw[if_pos c]at a;simp only[Oi,OL]at a;obtain⟨rfl,_⟩:=a;subst c;exact⟨.ty "ValueError",yv (b.gl _ m) b.j9 (by kernel_rfl) rfl,.inl ⟨rfl,O.j9⟩⟩
    .rw[if_neg c]at a;obtain⟨D,i⟩:=b.own k t (by simpa using a);exact⟨.ref D,Iw (b.gl _ m) i.aG rfl aj,.inr ⟨k,t,D,rfl,i,rfl⟩⟩
   obtain⟨v,R,U⟩:=S;refine⟨λpins s σ H Q I ar=>?_,rfl⟩;obtain⟨a1,a2⟩:=ar;refine pn (Cc O N G) b1 b2 boot_isinstance (ia (d1 L T q r) (ia R lp)) ∅ ∅ rfl rfl pins s σ H Q I ?_;exact⟨_,a1,v,_,rfl,U,a2 H (aH.refl H)⟩
  .cases h
 .cases h
end
section
variable{X:au}{pins:List (Td×Uq)}{σ:bu}{H:ag}{s:S9}{h':TH}{l:List Td}{cl:Nat->Option Td}{up:Nat->List Nat}{c:Nat}{x n:Tj}{C:Td}{ae:List Nat}{np p dD pos:UN}
def ED(I:Inv X pins σ H s)(B:h'.Ns X.env.locals m)(L:TA X.env.locals s.heap h'):Inv X pins (Tr X.N.length Y) H { s with heap:=h',toks:=t' }:=by
 have r:∀b o,X.dG.heap.get? b=Z o->b≠X.env.locals:=λb o e=>OI (OD (Ou e) I.ok.above)
 have f:∀b o,b≠X.env.locals->s.heap.get? b=Z o->h'.get? b=Z o:=λb o M e=>by rw[L.2 b M];exact e
 refine⟨I.ok,I.os,I.bare,⟨λb o e n g j=>?_,λb o e n g j=>?_,I.base.free,λb o e j=>?_,I.base.g5,I.base.gs,I.base.g4⟩,⟨m,B,λi x v e1 k Q=>?_⟩,λx c e=>?_,I.free,I.ez,λp G=>?_,λa o e=>?_,by simp⟩
 .exact f b o (r b o e) (I.base.keep b o e n g j)
 .obtain⟨O,e1⟩:=I.base.slot b o e n g j;exact⟨O,f b _ (r b o e) e1⟩
 .obtain⟨y,e1⟩:=I.base.there b o e j;exact⟨y,f b y (r b o e) e1⟩
 .rw[Qu]at k
  split at k<;>cases k
 .obtain⟨v,o,E,A⟩:=I.cell x c e;exact⟨v,o,f c o (I.oc x c e) E,A⟩
 .obtain⟨e,n,t,N,d⟩:=I.pin p G;exact⟨f _ _ t e,n,t,N,d⟩
 .refine(I.aK a o e).g0 (λb u g q=>f b u (λz=>?_) q) (λ_ q=>q) λ_ _ q=>q
  have h:=I.free;rw[<- z]at h;rcases g with w|w
  .rw[w,e]at h;cases h
  .rw[w]at h;cases h
noncomputable abbrev jI(X:au)(e:S8)(b7:List (Td×Uq)):au:={ X with A:=X.A.mark (Z e),calm:=S6,b7:=b7,bk:=λ_ _=>False }
noncomputable abbrev iQ(X:au)(b7:List (Td×Uq))(E:S8->S9->Prop):au:={ X with b7:=b7,bk:=E }
def MI(I:Inv X pins σ H s)(a:∀p∈b,s.heap.get? p.1=Z p.2/\H p.1=Y/\p.1≠X.env.locals/\p.1∉X.bx/\∀v,p.2.data≠.cell v):Inv (jI X e b) [] σ H s :=
 ⟨⟨I.ok.mod,I.ok.kind,I.ok.glob,I.ok.blt,I.ok.above,I.ok.inj,I.ok.has,I.ok.mh,(λz=>nomatch z),I.ok.frames,I.ok.j3,I.ok.r2,I.ok.bs,I.ok.jx,I.ok.m1,I.ok.kB,I.ok.gu,I.ok.kH⟩,I.os,I.bare,I.base,I.loc,I.cell,I.free,I.ez,λp q=>a p (by simpa using q),I.aK,I.len⟩
def HX(a:X.Ok)(I:Inv (jI X e d) f σ H s)(b:∀p∈X.b7++pins,p∈d):Inv X pins σ H s :=
 ⟨a,I.os,I.bare,I.base,I.loc,I.cell,I.free,I.ez,λp q=>I.pin p (Tg _ (b p q)),I.aK,I.len⟩
def MJ(I:Inv X pins σ H s)(a:∀p∈b,p∈X.b7++pins):Inv (iQ X b E) [] σ H s :=
 ⟨⟨I.ok.mod,I.ok.kind,I.ok.glob,I.ok.blt,I.ok.above,I.ok.inj,I.ok.has,I.ok.mh,I.ok.hd,I.ok.frames,I.ok.j3,I.ok.r2,I.ok.bs,I.ok.jx,I.ok.m1,I.ok.kB,I.ok.gu,I.ok.kH⟩,I.os,I.bare,I.base,I.loc,I.cell,I.free,I.ez,λp q=>I.pin p (a p (by simpa using q)),I.aK,I.len⟩
def m5(a:X.Ok)(I:Inv (iQ X d E) e σ H s)(b:∀p∈X.b7++pins,p∈d):Inv X pins σ H s :=
 ⟨a,I.os,I.bare,I.base,I.loc,I.cell,I.free,I.ez,λp q=>I.pin p (Tg _ (b p q)),I.aK,I.len⟩
def eW.m2(I:Inv X pins σ H s)(h:eW X pins H a):a∉X.bx:=λb=>by
 rcases h.2.1 with z|z
 .exact I.ok.kB a z b
 .obtain⟨_,o,d,_⟩:=I.ok.gu.mem b;rw[z]at d;cases d
def eW.HP(I:Inv X pins σ H s)(h:eW X pins H a):a∉eg X.stack:=λb=>by
 rcases Oq.mp (I.j4 a b) with z|z
 .exact h.2.2.1 z
 .exact eW.m2 I h z
def uo(X:au)(cl:Nat->Option Td)(e:List Wx)(bv:Tj):Prop:=∀(pins:List (Td×Uq))(s:S9)(σ:bu)(H:ag)(T:Ends)(d:S8)(l:List Td),Inv X pins σ H s->(∀a∈l,eW X pins H a)->cK.dZ cl 1 d l s.heap->(∀b,aH H b->T.bK (.str bv) b) ->
 Ta (Tc X.prog X.w) X.A (handleBy d X.env e) (kg X pins T) X.bk s
def yF(I:Inv X pins σ H s)(e:eW X pins H b)(f:d.data=.fields h)(g:s.heap.get? b=Z d):Inv (jI X (.ref b) (X.b7++pins++[(b,d)])) [] σ H s:=MI I λp a=>by
 rcases Ox.mp a with a|a
 .exact I.pin p a
 .obtain rfl:p=(b,d):=(by simpa using a);exact⟨g,e.1,e.2.2.1,eW.m2 I e,λv=>by show d.data≠_;rw[f];exact λz=>nomatch z⟩
section
variable{k:Nat}{D:Td}{aC:T3}{st:List T3}{r8:UN}{bv:Tj}(O:kf X.K X.base cl up C)(nV:ke X.aG X.base cl k x D)(wW:(up 1).contains k=J)(wV:cQ X x)(wU:(x==("__debug__":Tj))=S6)
include O nV wW wV wU
def EW(b1:X.N.Nodup)(Q:X.N[j]?=Z n)(A:X.env.scope.names.lookup n=Z .local)(aB:∀(d:Td)(e:Uq)(i:Array S8)(S:List (Td×Uq)),e.cls=.ref C->e.data=.fields i->i[2]?=Z .none->(d,e)∈S->c8 (jI X (.ref d) S) (aC::st) (z4 j d (.str bv))):uo X cl [.ExceptHandler (Z (.Name x np)) (Z n) (aC::st) r8] bv:=by
 intro pins s σ H T cM l I h R fin;have bl:=R;obtain⟨d,U,e,i,rfl,aX,t,L,r,ao,a6⟩:=R;have M:d∈l:=by rcases a6 with⟨rfl,_⟩|⟨T,_,_,rfl,_⟩<;>simp
 obtain rfl:U=C:=O1 (aX.symm.trans O.at_);obtain⟨ed,b9,dv,cq,bm,N,nm,q,bs,hdct,sn,sub,ab,col,dd,k0,k1,k2,k3,k5,mN,cc,cA,ay,cN,dI,cf,_,g⟩:=O.fs;obtain⟨_,_,_,_,_,_,_,_,_,_,_,_,_,_,_,_,_,aA,ax⟩:=nV.fs;refine wpAny_handleBy_cons (codeAny_handlers_test (oY (X:=jI X (.ref d) (X.b7++pins++[(d,e)])) (yF I (h d M) r t) wV nV.aG ?_ wU)) (by intro q;cases q);obtain⟨c0,aj,a2,tk,os⟩:=s;refine cK.Hd (I.fj _ _ ay) (I.fj _ _ aA) t L ax ((g k D nV.at_).trans wW) (codeAny_handlers_suite_as (cK.Eu bl λar l1 y w=>?_));have a0:Inv X pins σ H { heap:=ar,gens:=aj,drawn:=a2,toks:=tk,os:=os }:=sQ (t':=tk) I (l:=l1) (λa b2=>h a (y a b2).1) (λb o q g _=>w b o q g) λb o q g=>⟨o.slots,w b o q λz=>eW.HP I (h b (y b z).1) g⟩
 refine pR (X:=jI X (.ref d) (X.b7++pins++[(d,e)])) (yF a0 (h d M) r (w d e t λz=>(y d z).2 rfl)) b1 Q (.inl A) (v:=.ref d) rfl (λcw a1=>?_) (.inr A);refine Pj (aB d e i _ L r ao (by simp) [] cw _ H { aU:=λ_ _=>False,bK:=λv B=>v=.str bv/\aH H B } a1 ⟨?_,λB z=>⟨rfl,z⟩⟩) (λf ee q=>?_) λ_ _ z=>z.elim
 .have bb:j<σ.length:=(by rw[I.len];exact(OK.mp Q).1);exact pI bb
 .cases f with
  |ret u =>
   obtain⟨v,en,E,G,bw,rfl,cx⟩:=q;obtain⟨m,a7,_⟩:=id G.loc;refine wpAny_nameGoes (env:=X.env) (m:=m) A a7 (by rw[I.ok.kind];rfl) λcz dP a5 a8=>?_
   exact⟨.str bv,_,E,ED (HX I.ok G λp r8=>Tg _ r8) a5 a8,bw,fin E cx⟩
  |next=>obtain⟨_,_,_,z⟩:=q;exact z.elim
  |brk=>obtain⟨_,_,_,z⟩:=q;exact z.elim
  |cont=>obtain⟨_,_,_,z⟩:=q;exact z.elim
end
noncomputable def lj(a d e:ag):ag:=λb=>match a b with
 |some o=>Z o
 |none=>match d b,e b with
  |none,Z (.tup xs)=>Z (.tup xs)
  |_,_=>Y
def Eh(f:aH d qt)(g:aH a qt):Ext a d (lj a d qt) qt:=by
 refine⟨λb o e=>by unfold lj;rw[e],f,λb o e=>?_,λb j k=>?_,λb xs e=>?_⟩
 .unfold lj at e;cases q:a b with
  |some m=>rw[q]at e;cases e;exact g b _ q
  |none =>
   rw[q]at e;dsimp only at e
   split at e
   .rename_i xs _ i;cases e;exact i
   .cases e
 .unfold lj;rw[j];dsimp only
  split
  .rename_i q _;exact absurd q k
  .rfl
 .cases q:d b with
  |some o=>have:=f b o q;rw[e]at this;cases this;exact .inl rfl
  |none =>
   refine .inr ?_;unfold lj;cases h:a b with
   |some o=>have:=g b o h;rw[e]at this;cases this;rfl
   |none=>rw[q,e]
def zA(O:X.stack=X.env::X.outer/\X.env.frame=Z X.env.locals)(bw:∀(aA:List (Td×Uq))(E:S8->S9->Prop),bV (iQ X aA E) a (b3 (cK.dZ cl) (iQ X aA E) ae λk=>ζ.ex pg Φ k (.asg Q e)))(cx:∀c,c≠1->ζ.gr pg c k0 N=.bad)(R:ζ.gr pg 1 k0 N=.bad\/ζ.gr pg 1 k0 N=.ok (.bK (.str bv))/\uo X cl [h0] bv):
  bV X (.Try [a] [h0] [] [] pos) (b3 (cK.dZ cl) X ae λk=>ζ.ex pg Φ k (.j7 Q e k0 N)):=by
 rintro pins s σ H T I ⟨i,m,G,k,d,hw⟩;refine wpAny_Try_except ?_;have a2:∀(M w:ag)(L:S8->S9->Prop),b8 X.K ae M w G H k σ->a3 (ζ.ex pg Φ k (.asg Q e)) (fz X.K ae M w T) (λc=>dr (cK.dZ cl) (iQ X (X.b7++pins) L) c w) ->
   Ta (Tc X.prog X.w) X.A (execs [a] X.env) (λf a0=>match f with|.next=>Ta (Tc X.prog X.w) X.A (execs [] X.env) (kg X pins T) X.bk a0|f=>kg X pins T f a0) L s:=λM w L bl cc=>by
  refine Pj (yQ (bw (X.b7++pins) L) [] s σ H T (MJ I λ_ z=>z) ⟨M,w,G,k,bl,cc⟩) (λf a0 q=>?_) λ_ _ q=>q
  cases f with
  |next=>obtain⟨j,g,h,q⟩:=q;exact RG ⟨j,g,m5 I.ok h λ_ z=>z,q⟩
  |ret u=>obtain⟨v,j,g,h,r,q⟩:=q;exact⟨v,j,g,m5 I.ok h λ_ z=>z,r,q⟩
  |brk=>obtain⟨j,g,h,q⟩:=q;exact⟨j,g,m5 I.ok h λ_ z=>z,q⟩
  |cont=>obtain⟨j,g,h,q⟩:=q;exact⟨j,g,m5 I.ok h λ_ z=>z,q⟩
 dsimp only at hw;rw[ζ.r1]at hw;replace hw:a3 (ζ.qa pg (ζ.ex pg Φ k (.asg Q e)) k0 N) (fz X.K ae i m T) (λc=>dr (cK.dZ cl) X c m):=hw;cases q:ζ.ex pg Φ k (.asg Q e) with
 |ok r =>
  rw[q,ζ.Ap]at hw;exact a2 i m _ d (by rw[q];exact hw)
 |bad=>rw[q]at hw;exact hw.elim
 |exc c =>
  rw[q,ζ.Ao]at hw
  by_cases aj:c=1
  .subst aj;rcases R with S|⟨S,R⟩
   .rw[S]at hw;exact hw.elim
   rw[S]at hw;have a5:aH i (e3 i m):=λb o e=>iS e
   have a6:aH m (e3 i m):=λb o e=>by
    cases z:i b with
    |none=>rw[gw z];exact e
    |some U =>
     have e1:=d.ext.sub b U (d.ext.g b U z);rw[d.ext.h b o e]at e1;cases e1;exact iS z
   have a8:b8 X.K ae i (e3 i m) G H k σ:=by
    refine⟨d.aS,⟨d.ext.g,λb o e=>?_,d.ext.sub,λb A B=>?_,λb xs e=>.inr (d.aS.c2 b xs e)⟩,λax ds b A aC B b1=>?_⟩
    .cases z:i b with
     |none=>rw[gw z]at e;exact d.ext.h b o e
     |some U=>rw[iS z]at e;cases e;exact d.ext.sub b _ (d.ext.g b _ z)
    .rw[gw A]at B;exact d.ext.new b A B
    .obtain⟨cz,xs,k1,k2,k3,cA⟩:=d.aS.lst ax ds A B aC;rw[k1]at b1;cases b1;rw[gw (d.ext.g.free k3)];exact d.own ax ds _ A aC B k1
   refine a2 i (e3 i m) _ a8 ?_;rw[q];intro cN j g s' bb l b2 aB y cf;have h:Inv X pins j g s':=m5 I.ok b2 λ_ z=>z
   have ay:∀a∈l,eW X pins g a:=λa t=>⟨(y a t).1,(y a t).2.1,(y a t).2.2.1,(y a t).2.2.2.1,λp b9=>(y a t).2.2.2.2 p (Tg _ b9)⟩
   have e1:cK.fr (X.env::X.outer)=eg X.stack:=(by rw[O.1];rfl);refine cK.note (base:=X.base) (outer:=X.outer) (by rw[h.ok.frames,O.1]) (by rw[<- O.1];exact h.stack) O.2 cf λa7 l1 cq cw ar ao=>?_
   rw[e1]at ar ao;have aX:Inv X pins j g { s' with heap:=a7 }:=sQ (t':=s'.toks) h ay ar ao;have cM:∀a∈l1,eW X pins g a:=λa t=>(cw a t).elim (ay a) λz=>.of h z (sT h.aK z)
   exact R pins _ j g T bb l1 aX cM cq λa1 s3=>hw (.str bv) (lj i m a1) a1 (Eh ((a6.trans aB).trans s3) ((a5.trans aB).trans s3)) rfl
  .rw[cx c aj]at hw;exact hw.elim
end
def lH(h:ζ.fI x=Z (ts,y)):∃p,x=.Assign ts y p:=by
 cases x with
 |Assign a b p=>cases h;exact⟨p,rfl⟩
 |_=>exact nn h
def LL(h:ζ.z3 x=Z y):∃p,x=.Expr y p:=by
 cases x with
 |Expr a p=>cases h;exact⟨p,rfl⟩
 |_=>exact nn h
def pX(h:ζ.hC x=Z y):∃p,x=.Return y p:=by
 cases x with
 |Return a p=>cases h;exact⟨p,rfl⟩
 |_=>exact nn h
def z5(h:ζ.ny x=Z (t,a,b)):∃p,x=.If t a b p:=by
 cases x with
 |If t a b p=>cases h;exact⟨p,rfl⟩
 |_=>exact nn h
def LM(h:ζ.nx x=Z (t,c,a,b)):∃p,x=.For t c a b p:=by
 cases x with
 |For t c a b p=>cases h;exact⟨p,rfl⟩
 |_=>exact nn h
structure ik(xp:bS)(g:ζ.Gt)(pg:ζ.cT)(K:W.Frag)(aG:Tj->Option S8)(base:TH):Prop where
 ex:∃cl C,xp=cK.dZ cl/\(∀(c:Nat)(x:Tj),g.cls[c]?=Z x->∃C,ke aG base cl c x C)/\kf K base cl pg.up C
 lo:∀k,k<2->(pg.up 1).contains k=J
 j9:aG "ValueError"=Y
structure gj(xp:bS)(g:ζ.Gt)(pg:ζ.cT)(X:au)(ct:ζ.bR):Prop where
 cls:ik xp g pg X.K X.aG X.base
 j3:X.stack=X.env::X.outer/\X.env.frame=Z X.env.locals
 loc:∀x,ζ.gy ct.sc x=J->Loc X.env.scope x
 fn:∀x,X.fn x=J
 pass:WZ (Tc X.prog X.w) X.A X.env X.bk
section
variable{xp:bS}{k:Nat}{g:ζ.Gt}{pg:ζ.cT}{Φ:ζ.dn}
def Cm(h:ζ.bH g ct v e (.ListComp x l f pos)=J):∃a j s c t d b xs,e=.comp a j s c/\l=[⟨t,d,b,0⟩]/\ζ.dk j t=Z xs /\
  ((!ζ.i4 s||j==2)&&ζ.mg ct f xs&&ζ.hh g ct J s d&&ζ.bH g ⟨ζ.mask ct.N xs++xs,f,ct.ae⟩ S6 a x&&ζ.jz g ⟨ζ.mask ct.N xs++xs,f,ct.ae⟩ c b)=true:=by
 cases e with
 |comp a j s c =>
  conv at h=>lhs;whnf
  split at h
  .rename_i o t d b n e1;obtain⟨p,i⟩:=AD e1;cases i
   split at h
   .rename_i xs m;exact⟨a,j,s,c,t,d,b,xs,rfl,rfl,m,h⟩
   .cases h
  .cases h
 |_=>exact(Pc h).elim
def CK(x):(∃y a b pos,x=.ListComp y a b pos)\/ζ.o9 x=true:=by
 cases x<;>first|exact .inr rfl|exact .inl ⟨_,_,_,_,rfl⟩
def Bj (b : bX xp k g pg Φ X ct) (N : ∀ x, ζ.gy ct.sc x = J -> Loc X.env.scope x) (I : ∀ x, X.fn x = J) (h : (ct.N[i]? == Z x && ζ.gy ct.sc x && ζ.okN x && (!ct.ae.contains i || ζ.gR e) && ζ.bH g ct S6 e y) = J) :
    bV X (.Assign [.Name x p] y pos) (b3 xp X ct.ae fun a => ζ.ex pg Φ a (.asg i e)) := by
  simp only [Oi, OL, PF, O6] at h
  obtain ⟨⟨⟨⟨E, G⟩, a1⟩, f⟩, m⟩ := h
  have o : X.N.Nodup := by rw [b.nm]; exact b.dE
  have u : X.N[i]? = Z x := by rw [b.nm]; exact E
  have w := N x G
  have q : X.fn x = J \/ X.env.scope.names.lookup x = Z .local := .inl (I x)
  rcases CK y with ⟨z, a0, ar, U, rfl⟩ | H
  · obtain ⟨l, j, s, c, t, aj, a2, xs, rfl, rfl, A, M⟩ := Cm m
    obtain ⟨B, O, Q, R, S, T⟩ := uK (pos := U) (iA (xp := xp) (k := k) (pg := pg) (Φ := Φ) (sizeOf (ζ.E.comp l j s c))) b (by simp only [ζ.E.comp.sizeOf_spec]; lia) A M
    have e1 : (fun a => ζ.ex pg Φ a (.asg i (.comp l j s c))) = fun a => (ζ.fo pg Φ a s >>= fun ds => ζ.h7 (ζ.bN (fU j (fun a => ζ.hU pg Φ a c) (fun a => ζ.ev pg Φ a l) a) ds) >>= fun ys => .ok (.lst ys)) >>= fun d => .ok (.aU (a.set i (Z d))) := by
      funext a
      have := congrFun T a
      rw [ζ.wh]
      rw [this]
    rw [e1]
    exact JS b.calm (by rw [b.nm]; exact b.ae) B A O Q R S o u w q
  · have r := i2 b m
    have C := tJ (t := Z (.Name x p)) (n := pos.line) (env := X.env) (dU m) H
    by_cases v : i ∈ ct.ae
    · have L : ζ.gR e = true := by
        rcases f with f | f
        · rw [Pg.mpr v] at f; cases f
        · exact f
      exact zt v o u w (r.fresh L) C q
    · exact zr v o u w r.val C q
def uJ(b:bX xp k g pg Φ X ct)(d:∀x,ζ.gy ct.sc x=J->Loc X.env.scope x)(c:∀x,X.fn x=J){st:T3}(h:ζ.n9 g ct i e st=J):
  bV X st (b3 xp X ct.ae λf=>ζ.ex pg Φ f (.asg i e)):=by
 unfold ζ.n9 at h;rcases e1:ζ.fI st with _|⟨_|⟨t,_|⟨_,_⟩⟩,y⟩<;>rw[e1]at h<;>first|(cases h;done)|dsimp only at h
 .obtain⟨pos,rfl⟩:=lH e1
  split at h
  .rename_i x a;obtain⟨p,rfl⟩:=dW a;exact Bj b d c h
  .cases h
def uL{st:T3}(h:ζ.ob g ct i e nm st=J):∃x n a y p1 b p4,st=.Expr (.Call (.Attribute (.Name x p1) n a) [y] [] b) p4/\(a.endLine==b.line)=J/\ct.N[i]?=Z x/\ζ.gE ct.sc x=J/\ζ.okN x=J/\i∈ct.ae/\n=nm/\ζ.bH g ct S6 e y=true:=by
 unfold ζ.ob at h
 split at h
 .rename_i c e1;obtain⟨pos,rfl⟩:=LL e1
  split at h
  .rename_i x n a y d;obtain⟨p1,b,rfl⟩:=AA d;simp only[Oi,OL]at h;obtain⟨⟨⟨⟨⟨⟨h0,f⟩,j⟩,l⟩,m⟩,o⟩,p⟩:=h;have h0:a.endLine=b.line:=h0;exact⟨x,n,a,y,p1,b,pos,rfl,by simpa using h0,f,j,l,Pg.mp m,o,p⟩
  .cases h
 .cases h
def LY(h:ζ.z6 x=Z y):∃p,x=.Raise (Z y) Y p:=by
 cases x with
 |Raise e c p =>
  rcases e with _|e<;>rcases c with _|c<;>first|(cases h;done)|skip
  cases h;exact⟨_,rfl⟩
 |_=>exact nn h
def L2(q:ζ.tN x=Z (a,h,e,f)):∃p,x=.Try a h e f p:=by
 cases x with
 |Try a h e f p=>cases q;exact⟨p,rfl⟩
 |_=>exact nn q
def Bt(d:bX xp k g pg Φ X ct)(o:gj xp g pg X ct){st:T3}(h:ζ.rJ g ct c st=J):bV X st (b3 xp X ct.ae λr=>ζ.ex pg Φ r (.raise c)):=by
 unfold ζ.rJ at h
 split at h
 .rename_i y e1;obtain⟨pos,rfl⟩:=LY e1
  split at h
  .rename_i x a f;obtain⟨v,u,rfl⟩:=ft f
   split at h
   .rename_i t i;obtain⟨j,p,rfl⟩:=lO i;simp only[Oi,OL]at h;obtain⟨⟨⟨rfl,l⟩,m⟩,n⟩:=h;obtain⟨s,C,rfl,q,O⟩:=o.cls.ex;obtain⟨e,b⟩:=q 1 x l;obtain rfl:e=C:=O1 (b.at_.symm.trans O.at_);exact Kq b O d.calm (d.mG m) (dV n).1
   .cases h
  .cases h
 .cases h
def Ib:b0 X (TV .Mult) (λx y H Q=>∃z,x=.str z/\y=.int 1/\Q (.str z) H):=by
 rintro e s h H x y v u Q I c d ⟨z,a,b,q⟩;subst a b;obtain⟨t,rfl⟩:=c;obtain⟨f,rfl⟩:=d;refine P.mul_str ∅ (λ_ z=>nomatch z) (λ_ z=>nomatch z) ?_;exact⟨.str z,H,I,⟨_,rfl⟩,q⟩
def I9(O:kf X.K X.base G up C)(b:um X g ct G)(m:(Q,a2)∈X.b7)(f:a2.cls=.ref C)(i:X.N[j]?=Z n)(a0:X.env.scope.names.lookup n=Z .local)(l:ζ.okN n=J)(h:ζ.rH g ct n k5 a1 t=J)(c:ζ.kS up k5 a1=J):c8 X [t] (z4 j Q (.str ζ.e7)):=by
 unfold ζ.rH at h
 split at h
 .rename_i cx M;obtain⟨p4,rfl⟩:=pX M
  split at h
  .rename_i q v N;obtain⟨bw,rfl⟩:=qe N;rcases e:ζ.d7 v with _|⟨a5,_|⟨y,_|⟨_,_⟩⟩⟩<;>rw[e]at h<;>first|(cases h;done)|dsimp only at h
   .obtain⟨aj,ar,rfl⟩:=ft e;rcases d:ζ.vBool y with _|⟨_|_,_|⟨b9,_|⟨cc,_|⟨_,_⟩⟩⟩,z⟩<;>rw[d]at h<;>first|(cases h;done)|dsimp only at h
    .obtain rfl:=nC d;simp only[Oi,OL]at h;obtain⟨⟨⟨⟨S,U⟩,a⟩,rfl⟩,R⟩:=h;unfold ζ.xa at a
     split at a
     case h_2=>cases a
     rename_i A L;obtain⟨a6,cw,rfl⟩:=lO L;obtain rfl:A=ζ.e7:=(by simpa using a);have o:dB X.env.scope n:=.inl a0;obtain⟨w,x⟩:=b.ah _ R ∅;obtain⟨ay,a8⟩:=yy O b m f i o l S;obtain⟨aA,bl⟩:=yy O b m f i o l U;have aB:=yw (pos:=ar) (p:=aj) u1 w x (show T2 "int"=Z (.type "int") by kernel_rfl) (ia (yt (pos:=z) ay (s6 aA)) lp) ∅ ∅ rfl rfl;unfold ζ.kS at c;simp only[Oi]at c;obtain⟨B,E⟩:=c;rintro ao s b2 H T I ⟨r,ax⟩;refine yQ (px (s7 Ib s8 aB)) ao s b2 H T I ?_;refine⟨r,λa7 aC=>⟨_,rfl,?_⟩⟩;rw[B,if_pos rfl];refine⟨r,λu b1=>?_⟩;rw[E];exact .inr ⟨_,rfl,_,rfl,rfl,ax u (aC.trans b1)⟩
  .cases h
 .cases h
def Cj(h:ζ.rD g ct b t=J):∃x a,t=.Name x a/\g.cls[b]?=Z x/\ζ.ho ct.sc x=J/\ζ.okN x=true:=by
 unfold ζ.rD at h
 split at h
 .rename_i x e1;obtain⟨a,rfl⟩:=dW e1;simp only[Oi,OL]at h;exact⟨x,a,rfl,h.1.1,h.1.2,h.2⟩
 .cases h
def Bu(b:bX xp k g pg Φ X ct)(f:gj xp g pg X ct){st:T3}(h:ζ.rL g ct i e o j st=J):bV X st (b3 xp X ct.ae λv=>ζ.ex pg Φ v (.j7 i e o j)):=by
 unfold ζ.rL at h;rcases w:ζ.tN st with _|⟨_|⟨a,_|⟨_,_⟩⟩,_|⟨a0,_|⟨_,_⟩⟩,_|⟨_,_⟩,_|⟨_,_⟩⟩<;>rw[w]at h<;>first|(cases h;done)|dsimp only at h
 .obtain⟨pos,rfl⟩:=L2 w;simp only[Oi,Oz]at h;obtain⟨⟨M,N⟩,m⟩:=h;obtain⟨I,C,rfl,y,O⟩:=f.cls.ex;have z:=f.cls.lo o N;have B:∀(l:List (Td×Uq))(E:S8->S9->Prop),bV (iQ X l E) a (b3 (cK.dZ I) (iQ X l E) ct.ae λv=>ζ.ex pg Φ v (.asg i e)):=λl E=>uJ (X:=iQ X l E) ⟨b.cI,b.room,b.units,b.calm,b.nm,b.dE,b.ae,b.lc,b.mj,b.gl⟩ f.loc f.fn M
  have ao:X.N.Nodup:=(by rw[b.nm];exact b.dE);have G:∀c,c≠1->ζ.gr pg c o j=.bad:=λc U=>by unfold ζ.gr;rw[beq_false_of_ne U];rfl
  cases r:ζ.kS pg.up j.k5 j.mM with
  |false=>exact zA (bv:=ζ.e7) f.j3 B G (.inl (by unfold ζ.gr;rw[r,Ug,Ug];rfl))
  |true =>
   have a2:ζ.gr pg 1 o j=.ok (.bK (.str ζ.e7)):=(by unfold ζ.gr;rw[z,r];rfl);obtain⟨t,nm,body,aA⟩:=a0;unfold ζ.ve at m
   split at m
   .rename_i t' p;have p:t=Z t':=p;subst p;simp only[Oi]at m;obtain⟨Q,d⟩:=m;obtain⟨x,aB,rfl,R,S,T⟩:=Cj Q;obtain⟨D,H⟩:=y o x R;replace d:ζ.rI g ct j nm body=true:=d;unfold ζ.rI at d
    split at d
    .rename_i n;simp only[Oi,OL]at d;obtain⟨⟨⟨s,aj⟩,ar⟩,u⟩:=d
     split at u
     .rename_i t;have A:=b.lc n aj;rw[<- b.nm]at s;exact zA f.j3 B G (.inr ⟨a2,EW O H z (b.mG S) (dV T).1 ao s A λL aC aX l ax b1 b2 ay=>I9 (X:=jI X (.ref L) l) (g:=g) (ct:=ct) O ⟨λx q=>b.mG q,λx q a1=>b.blt q a1,f.cls.j9,y⟩ ay ax s A ar u r⟩)
     .cases u
    .cases d
   .cases m
theorem vf:∀{ts:List Nat}{xs:List Tj},ζ.kq ct ts xs=J->ts.length=xs.length/\(∀t∈ts,t∉ct.ae)/\∀(j i:Nat) y,ts[j]?=Z i->xs[j]?=Z y->ct.N[i]?=Z y/\ζ.gy ct.sc y=J
 |[],[],_=>⟨rfl,by simp,λj i y e=>by simp at e⟩
 |[],_::_,h=>by unfold ζ.kq at h;cases h
 |_::_,[],h=>by unfold ζ.kq at h;cases h
 |t::ts,x::xs,h=>by
  unfold ζ.kq at h;simp only[Oi,OL,O6]at h;obtain⟨⟨⟨⟨c,d⟩,o⟩,b⟩,f⟩:=h;obtain⟨l,m,n⟩:=vf f;refine⟨by simp[l],λz hz=>?_,λj i y e1 a=>?_⟩
  .rcases Oq.mp hz with rfl|hz
   .intro w;rw[Pg.mpr w]at b;cases b
   .exact m z hz
  .cases j with
   |zero=>simp at e1 a;subst e1 a;exact⟨c,d⟩
   |succ j=>exact n j i y (by simpa using e1) (by simpa using a)
variable(xp k g pg Φ) in
structure dM (n:Nat):Prop where
 s:∀(s:ζ.S)(st:T3)(ct:ζ.bR)(X:au),sizeOf s<n->bX xp k g pg Φ X ct->gj xp g pg X ct->ζ.rK g ct s st=J->bV X st (b3 xp X ct.ae λaa=>ζ.ex pg Φ aa s)
 b:∀(b:ζ.B)(st:List T3)(ct:ζ.bR)(X:au),sizeOf b<n->bX xp k g pg Φ X ct->gj xp g pg X ct->ζ.hg g ct b st=J->c8 X st (b3 xp X ct.ae λaa=>ζ.cV pg Φ aa b)
variable{n:Nat}
def Bm(a:bX xp k g pg Φ X ct)(c:gj xp g pg X ct){st:T3}(h:ζ.kp ct i st=J):bV X st (b3 xp X ct.ae λaa=>ζ.ex pg Φ aa (.iJ i)):=by
 unfold ζ.kp at h;rcases e1:ζ.fI st with _|⟨_|⟨t,_|⟨_,_⟩⟩,y⟩<;>rw[e1]at h<;>first|(cases h;done)|dsimp only at h
 .obtain⟨pos,rfl⟩:=lH e1
  split at h
  .rename_i x d;obtain⟨p1,rfl⟩:=dW d;simp only[Oi,OL]at h;obtain⟨⟨⟨⟨e,f⟩,m⟩,j⟩,l⟩:=h;obtain⟨o,rfl⟩:=si l;exact J3 (Pg.mp j) (by rw[a.nm];exact a.dE) (by rw[a.nm];exact e) (c.loc x f) (.inl (c.fn x))
  .cases h
def Bn(a:bX xp k g pg Φ X ct)(c:gj xp g pg X ct){st:T3}(h:ζ.kp ct i st=J):bV X st (b3 xp X ct.ae λaa=>ζ.ex pg Φ aa (.jE i)):=by
 unfold ζ.kp at h;rcases e1:ζ.fI st with _|⟨_|⟨t,_|⟨_,_⟩⟩,y⟩<;>rw[e1]at h<;>first|(cases h;done)|dsimp only at h
 .obtain⟨pos,rfl⟩:=lH e1
  split at h
  .rename_i x d;obtain⟨p1,rfl⟩:=dW d;simp only[Oi,OL]at h;obtain⟨⟨⟨⟨e,f⟩,m⟩,j⟩,l⟩:=h;obtain⟨o,rfl⟩:=si l;exact J4 (Pg.mp j) (by rw[a.nm];exact a.dE) (by rw[a.nm];exact e) (c.loc x f) (.inl (c.fn x))
  .cases h
def Bo(a:bX xp k g pg Φ X ct){st:T3}(h:ζ.rF g ct i j e st=J):bV X st (b3 xp X ct.ae λaa=>ζ.ex pg Φ aa (.gO i j e)):=by
 unfold ζ.rF at h;rcases e1:ζ.fI st with _|⟨_|⟨t,_|⟨_,_⟩⟩,v⟩<;>rw[e1]at h<;>first|(cases h;done)|dsimp only at h
 .obtain⟨pos,rfl⟩:=lH e1
  split at h
  .rename_i x y r;obtain⟨p1,p2,p3,rfl⟩:=t7 r;simp only[Oi]at h;obtain⟨⟨⟨z,A⟩,C⟩,c⟩:=h;obtain⟨a1,d,f,l⟩:=mZ z;obtain⟨b1,b2,m,o⟩:=lr A;obtain⟨p,q,_⟩:=dV f;obtain⟨u,w,_⟩:=dV m;exact J6 a.units l o (by rw[a.nm];exact a1) (a.eU d) p q (by rw[a.nm];exact b1) (a.eU b2) u w (i2 a c).val (tJ (dU c) C)
  .cases h
def M9(h:ζ.tX b=Z (i,e,BG)):b=.cons (.asg i e) BG:=by
 unfold ζ.tX at h
 split at h
 .cases h;rfl
 .cases h
def Nh(h:ζ.AE b=Z (c,a)):b=.cons (.iff c a .nil) .nil:=by
 rcases b with _|⟨s,b⟩
 .cases h
 cases s with
 |iff f e d =>
  rcases d with _|⟨_,_⟩<;>rcases b with _|⟨_,_⟩<;>first|(cases h;done)|skip
  cases h;rfl
 |_=>cases h
def Bi(a:bX xp k g pg Φ X ct)(j:gj xp g pg X ct){st:T3}(h:ζ.rC g ct i e st=J):bV X st (gD xp X ct.ae λaa=>ζ.ev pg Φ aa e>>=λd=>.ok (.aU (aa.set i (Z d)))):=by
 unfold ζ.rC at h;rcases e1:ζ.fI st with _|⟨_|⟨t,_|⟨_,_⟩⟩,y⟩<;>rw[e1]at h<;>first|(cases h;done)|dsimp only at h
 .obtain⟨pos,rfl⟩:=lH e1
  split at h
  .rename_i x l;obtain⟨p,rfl⟩:=dW l;simp only[Oi,OL,O6]at h;obtain⟨⟨⟨⟨m,o⟩,c⟩,q⟩,f⟩:=h;exact Ij (λz=>by rw[Pg.mpr z]at c;cases c) (by rw[a.nm];exact a.dE) (by rw[a.nm];exact m) (j.loc x o) (i2 a f).val (tJ (dU f) q) (.inl (j.fn x))
  .cases h
theorem qO(c:bX xp k g pg Φ X ct)(a:gj xp g pg X ct):∀(d:List T3)(b:ζ.B),ζ.ml g ct d b=J->c8 X d (gD xp X ct.ae λaa=>ζ.cV pg Φ aa b)
 |[],b,h=>by
  cases b with
  |nil=>exact sX
  |cons _ _=>cases h
 |z::j,b,h=>by
  unfold ζ.ml at h
  split at h
  .rename_i i e f e1;obtain rfl:=M9 e1;rw[Oi]at h;exact yp (Bi c a h.1) (qO c a j f h.2)
  .cases h
def Bp(e:bX xp k g pg Φ X ct)(j:gj xp g pg X ct)(h:ζ.rG g ct b f=J):c8 X f (gD xp X ct.ae λaa=>ζ.cV pg Φ aa b):=by
 unfold ζ.rG at h;rw[PF]at h;rcases h with h|h
 .exact qO e j f b h
 split at h
 .rename_i c a z e1 d;obtain rfl:=Nh e1;have l:f=[z]:=by
   unfold ζ.v1 at d
   split at d
   .cases d;rfl
   .cases d
  subst l;rcases i:ζ.ny z with _|⟨t,x,_|⟨_,_⟩⟩<;>rw[i]at h<;>first|(cases h;done)|dsimp only at h
  .obtain⟨pos,rfl⟩:=z5 i;rw[Oi]at h;exact yp (Ik (i2 e h.1).pt (qO e j x a h.2) sX) sX
 .cases h
def Ng(h:ζ.t6 z=Z (x,y,l)):∃p1 p2 c p3 du,z=.Call (.Attribute (.Name x p1) "get" l) [.Name y p2,.Constant (.int 0) c p3] [] du:=by
 unfold ζ.t6 at h;rcases e1:ζ.lN z with _|⟨f,_|⟨k,_|⟨o,_|⟨_,_⟩⟩⟩,_|⟨_,_⟩⟩<;>rw[e1]at h<;>first|(cases h;done)|dsimp only at h
 .obtain⟨du,rfl⟩:=qf e1
  split at h
  .rename_i d n r p;obtain rfl:=tY p;rcases e:ζ.dm d with _|t<;>rcases i:ζ.dm k with _|u<;>rcases j:ζ.ji o with _|m<;>rw[e,i,j]at h<;>first|(cases h;done)|skip
   cases m with
   |int q =>
    dsimp only at h
    split at h
    .rename_i a;cases h;simp only[Oi]at a;obtain⟨p1,rfl⟩:=dW e;obtain⟨p2,rfl⟩:=dW i;obtain⟨c,p3,rfl⟩:=lO j;obtain rfl:=dg a.1;obtain rfl:q=0:=(by simpa using a.2);exact⟨p1,p2,c,p3,du,rfl⟩
    .cases h
   |_=>cases h
  .cases h
def Bl(a:bX xp k g pg Φ X ct){st:T3}(h:ζ.rE ct i j st=J):bV X st (b3 xp X ct.ae λaa=>ζ.ex pg Φ aa (.hP i j)):=by
 unfold ζ.rE at h;rcases e1:ζ.fI st with _|⟨_|⟨t,_|⟨_,_⟩⟩,v⟩<;>rw[e1]at h<;>first|(cases h;done)|dsimp only at h
 .obtain⟨pos,rfl⟩:=lH e1
  split at h
  .rename_i x y w;obtain⟨p1,p2,p3,rfl⟩:=t7 w
   split at h
   .rename_i c R z;obtain⟨ax,rfl⟩:=qe z
    split at h
    .rename_i ay aA m n A C;simp only[Oi,OL]at h;obtain⟨⟨⟨⟨⟨H,I⟩,L⟩,M⟩,N⟩,d⟩:=h;subst H;subst I;subst L;obtain⟨T,U,O,a0,q,rfl⟩:=Ng A;obtain⟨Q,ao,rfl⟩:=lO C;obtain⟨a1,e,f,l⟩:=mZ M;obtain⟨b1,b2,o,p⟩:=lr N;obtain⟨r,u,_⟩:=dV f;obtain⟨E,G,_⟩:=dV o;have d:m.endLine=q.line:=d;exact J1 a.units l p (by rw[a.nm];exact a1) (a.eU e) r u (by rw[a.nm];exact b1) (a.eU b2) E G (by simpa using d)
    .cases h
   .cases h
  .cases h
def Ls(Q:dM xp k g pg Φ n)(s)(st)(ct)(X)(M:sizeOf s<n+1)(d:bX xp k g pg Φ X ct)(f:gj xp g pg X ct)(h:ζ.rK g ct s st=J):bV X st (b3 xp X ct.ae λaa=>ζ.ex pg Φ aa s):=by
 cases s with
 |asg i e=>exact uJ d f.loc f.fn h
 |app i e =>
  obtain⟨x,n,ax,y,p1,aB,p4,rfl,u,E,o,q,H,I,v⟩:=uL (nm:="append") h;obtain⟨l,m,aC⟩:=dV q;exact JR H I (by rw[d.nm];exact E) (d.eU o) l m u (i2 d v).val (fa (dU v))
 |ret e =>
  conv at h=>lhs;whnf
  rcases e1:ζ.hC st with _|_|y<;>rw[e1]at h<;>first|(cases h;done)|dsimp only at h
  .obtain⟨pos,rfl⟩:=pX e1;exact Kr (i2 d h).val
 |jV i =>
  conv at h=>lhs;whnf
  rcases e1:ζ.hC st with _|_|y<;>rw[e1]at h<;>first|(cases h;done)|dsimp only at h
  .obtain⟨pos,rfl⟩:=pX e1
   split at h
   .rename_i x r;obtain⟨p1,rfl⟩:=dW r;obtain⟨a1,w,z,A⟩:=mZ h;obtain⟨l,m,_⟩:=dV z;exact Kt A (by rw[d.nm];exact a1) (d.eU w) l m
   .cases h
 |ly i =>
  conv at h=>lhs;whnf
  rcases e1:ζ.hC st with _|_|y<;>rw[e1]at h<;>first|(cases h;done)|dsimp only at h
  .obtain⟨pos,rfl⟩:=pX e1
   split at h
   .rename_i x r;obtain⟨p1,rfl⟩:=dW r;obtain⟨a1,w,z,A⟩:=mZ h;obtain⟨l,m,_⟩:=dV z;exact Ks A (by rw[d.nm];exact a1) (d.eU w) l m
   .cases h
 |iJ i=>exact Bm d f h
 |jE i=>exact Bn d f h
 |gO i j e=>exact Bo d h
 |stop=>exact Kz
 |hP i j=>exact Bl d h
 |raise c=>exact Bt d f h
 |j7 i e a8 a6=>exact Bu d f h
 |ext i e =>
  obtain⟨x,n,ax,y,p1,aB,p4,rfl,u,E,o,q,H,I,v⟩:=uL (nm:="extend") h;obtain⟨l,m,aC⟩:=dV q;exact J8 H I (by rw[d.nm];exact E) (d.eU o) l m u (i2 d v).val (fa (dU v))
 |iff c a b =>
  conv at h=>lhs;whnf
  split at h
  .rename_i t x y e1;obtain⟨pos,rfl⟩:=z5 e1;simp only[Oi]at h;have bb:=Q.b a x ct X (by simp at M;lia) d f h.1.2;have R:=Q.b b y ct X (by simp at M;lia) d f h.2;exact Ke (i2 d h.1.1).pt bb R
  .cases h
 |c1 j ts s b =>
  conv at h=>lhs;whnf
  rcases e1:ζ.nx st with _|⟨t,ao,x,_|⟨_,_⟩⟩<;>rw[e1]at h<;>first|(cases h;done)|dsimp only at h
  .obtain⟨pos,rfl⟩:=LM e1
   split at h
   .rename_i xs L;simp only[Oi]at h;obtain⟨⟨⟨h0,u⟩,_⟩,G⟩:=h;obtain⟨ay,T,aA⟩:=vf u;have b1:X.N.Nodup:=(by rw[d.nm];exact d.dE);have a0:ζ.i4 s=J->∃C j p,t=.Tuple C j p:=λaX=>by
     rw[aX]at h0;have b2:j=2:=(by simpa using h0);subst b2;cases t with
     |Tuple C j p=>exact⟨C,j,p,rfl⟩
     |_=>simp only[ζ.dk]at L;cases L
    have U:=yC d.calm b1 L ay λj i y e1 r=>by
     obtain⟨a7,a5⟩:=aA j i y e1 r;exact⟨by rw[d.nm];exact a7,f.loc y a5,.inl (f.fn y)⟩
    rw[PF]at G;simp only[Oi]at G;rcases G with⟨o,q⟩|⟨o,q⟩
    .obtain⟨N,O⟩:=(iA (xp:=xp) (k:=k) (g:=g) (pg:=pg) (Φ:=Φ) (sizeOf s+1)).i s ao ct S6 X t (PW _) d o a0;have R:=Q.b b x ct X (by simp at M;lia) d f q;exact J9 f.pass d.calm T N U R (set_plain O)
    .obtain⟨N,O⟩:=(iA (xp:=xp) (k:=k) (g:=g) (pg:=pg) (Φ:=Φ) (sizeOf s+1)).i s ao ct J X t (PW _) d o a0;exact Ka f.pass d.calm T N U (Bp d f q) (set_plain O)
   .cases h
def Lp(e:dM xp k g pg Φ n)(b)(st)(ct)(X)(d:sizeOf b<n+1)(c:bX xp k g pg Φ X ct)(a:gj xp g pg X ct)(h:ζ.hg g ct b st=J):c8 X st (b3 xp X ct.ae λaa=>ζ.cV pg Φ aa b):=by
 unfold ζ.hg at h
 split at h
 .exact Kx
 .rename_i s b x xs;simp only[Oi]at h;have f:=e.s s x ct X (by simp at d;lia) c a h.1;have i:=e.b b xs ct X (by simp at d;lia) c a h.2;exact Kv f i
 .cases h
theorem qI:∀n,dM xp k g pg Φ n
 |0=>⟨λ_ _ _ _ h=>⋯,λ_ _ _ _ h=>⋯⟩
 |n+1=>⟨Ls (qI n),Lp (qI n)⟩
def H0{st:List T3}(c:bX xp k g pg Φ X ct)(a:gj xp g pg X ct)(h:ζ.hg g ct b st=J):c8 X st (b3 xp X ct.ae λaa=>ζ.cV pg Φ aa b):=(qI (sizeOf b+1)).b b st ct X (PW _) c a h
end
def zY{ds:List D}{i:Nat}{d:D}(h:(ζ.start fd ds)[i]?=Z (Z d)):ds[i]?=Z d/\i<ds.length:=by
 unfold ζ.start at h
 by_cases b:i<ds.length
 .rw[OF (by simpa using b),OG]at h;refine⟨?_,b⟩;cases e:ds[i]? with
  |none=>rw[e]at h;cases h
  |some a=>rw[e]at h;cases h;rfl
 .rw[O7 (by simpa using b),Qu]at h
  split at h<;>cases h
def Lm{i:Nat}(h:b[i]?=Z v):(aJ.start N b)[i]?=Z (Z v):=by
 have a:=(OK.mp h).1;unfold aJ.start;rw[OF (by simpa using a),OG,h];rfl
def La{K:W.Frag}(f:aH G H)(n:∀b xs,H b=Z (.tup xs)->G b=Z (.tup xs))(r:aO K G ds o)(s:N.length=fd.np+fd.nl)(p:ds.length=fd.np)(m:∀i∈g,fd.np<=i):
  b8 K g G H G H (ζ.start fd ds) (aJ.start N o):=by
 have c:∀{i:Nat}{d:D},(ζ.start fd ds)[i]?=Z (Z d)->i∈g->False:=λh q=>by
  have:=(zY h).2;have:=m _ q;lia
 refine⟨⟨?_,f,λi d h _=>?_,λi d h q=>(c h q).elim,λi d h q=>(c h q).elim,n,λi j d e a b h _ _ _ q=>(c h q).elim⟩,Ext.refl f,λi d a h _ q=>(c h q).elim⟩
 .unfold ζ.start aJ.start;rw[Oo,Oo,S5,S5,QH,QH,<- r.length];lia
 .obtain⟨v,k,l⟩:=r.get (zY h).1;exact⟨v,Lm k,l⟩
def nK(K:W.Frag)(c:Tj->Option S8)(g:ζ.Gt)(fds:List ζ.ir)(f:Nat)(x:Tj):Prop :=
 ∃fd N st a b,fds[f]?=Z fd/\ζ.iE g N fd st=J/\c x=Z (.ref a)/\aJ.lU K x x st a b/\Binds K b ((eZ st).args.map (·.arg)) []
section
variable{P:TK}{w:TU}{K:W.Frag}{aG:Tj->Option S8}{base:TH}{xp:bS}{g:ζ.Gt}{pg:ζ.cT}{fds:List ζ.ir}
def vd{st:T3}(h:ζ.iE g N fd st=J):((eZ st).args.map (·.arg)).length=fd.np/\qr N ((eZ st).args.map (·.arg)) (e2 st)/\N.length=fd.np+fd.nl/\(∀i∈ζ.hv fd.body,fd.np<=i/\i<N.length) /\
  ζ.hg g ⟨N,e2 st,ζ.hv fd.body⟩ fd.body (hO st)=true:=by
 unfold ζ.iE at h
 split at h
 .rename_i name args body d bind pos;simp only[Oi,OL,O6,OM,bne_iff_ne,ne_eq,Oz]at h;obtain⟨⟨⟨⟨⟨⟨⟨⟨⟨⟨⟨⟨⟨⟨⟨e,j⟩,k⟩,l⟩,m⟩,b⟩,_⟩,_⟩,_⟩,_⟩,_⟩,_⟩,n⟩,o⟩,p⟩,f⟩:=h;have c:(args.args.map (·.arg)).length=fd.np:=(by rw[b,P8];lia);refine⟨c,⟨e,j,k,l,?_,λx a=>?_,o⟩,m,p,f⟩
  .show N.take (args.args.map (·.arg)).length=args.args.map (·.arg);rw[c,b]
  .have a:x∈args.args.map (·.arg):=a;rw[b]at a;have:=n x a;unfold ζ.gy at this;have this:d.names.lookup x=Z .local\/d.names.lookup x=Z .cell:=(by simpa using this);exact this
 .cases h
def wA(t:ik xp g pg K aG base)(T:dO P w K aG base xp n g pg (ζ.run pg fds n)){st:T3}(e:fds[f]?=Z fd)(X:ζ.iE g N fd st=J)(F:aJ.lU K x x st j a1):
  g7 P w K aG base (gG P w xp) (n+1) j a1 ((eZ st).args.map (·.arg)) (j2 K (ζ.run pg fds (n+1) f) ((eZ st).args.map (·.arg)).length):=by
 obtain⟨aC,S,ax,y,ar⟩:=vd X;have b2:∀ds,ζ.run pg fds (n+1) f ds=ζ.bg pg (ζ.run pg fds n) fd ds:=λds=>by rw[ζ.nj,e]
 obtain⟨cq,cM,bQ,cf,cA,cc,o,ct,cz,rfl,lk,aA⟩:=F.ex;refine EC lk aA S (λcx H Q E h=>h.1) λA outer s H cx Q E B b9=>?_
 obtain⟨a7,G,ds,aX,cw,r,hw⟩:=b9;have u:ds.length=fd.np:=by rw[r.length,a7,aC]
 rw[b2]at hw;unfold ζ.bg at hw;rw[if_pos u]at hw;refine⟨b3 xp (iG (gG P w xp) P w K aG base N x (e2 st) j o A outer s H E) (ζ.hv fd.body) λR=>ζ.cV pg (ζ.run pg fds n) R fd.body,?_,?_⟩
 .refine H0 (ct:=⟨N,e2 st,ζ.hv fd.body⟩) (k:=n) (g:=g) (Φ:=ζ.run pg fds n) ⟨T,B,B.units,rfl,rfl,S.dE,λi p=>(y i p).2,λx h=>h,λx h=>h,λx h=>h⟩ ⟨t,⟨rfl,rfl⟩,λx h=>?_,λ_=>rfl,PassesOwn.leaving⟩ ar;unfold ζ.gy at h;have h:(e2 st).names.lookup x=Z .local\/(e2 st).names.lookup x=Z .cell:=(by simpa using h);exact h
 .refine⟨G,H,G,ζ.start fd ds,La aX cw r ax u λi p=>(y i p).1,?_⟩;show a3 (ζ.cV pg (ζ.run pg fds n) (ζ.start fd ds) fd.body) _ _;generalize ζ.cV pg (ζ.run pg fds n) (ζ.start fd ds) fd.body=bl at hw ⊢;have hR:∀c:Nat,(∀b,aH H b->E (.int c 0) Y b)->dr xp (iG (gG P w xp) P w K aG base N x (e2 st) j o A outer s H E) c H:=λc ao M U b s' e l I O L a5=>by
   obtain⟨a0,_,rfl,_⟩:=t.ex;refine cK.leave (base:=base) (outer:=outer) I.ok.frames I.stack rfl a5 λaj l1 a6 b1 aB bb=>?_
   have q:Inv _ M U b { s' with heap:=aj }:=sQ (t':=s'.toks) I L aB bb;refine⟨c,b,l1,I.os,I.bare,q.base,q.aK,O,λa ay=>?_,a6,ao b O⟩;have C:eW (iG (gG P w (cK.dZ a0)) P w K aG base N x (e2 st) j o A outer s H E) M b a:=(b1 a ay).elim (L a) λz=>.of I z (sT I.aK z)
   exact⟨C.2.1.elim (λz=>nomatch z) id,C.1⟩
  cases bl with
  |bad=>exact hw.elim
  |exc c=>exact hR c hw
  |ok a2 =>
   cases a2 with
   |aU R=>exact λU m b bw=>hw .bG m b bw.ext rfl
   |bK d=>exact λv m b ext a8=>hw v m b ext a8
def MD(h:ik xp g pg K aG base)(T:dO P w K aG base xp n g pg (ζ.run pg fds n))(i:∀f x,g.fns[f]?=Z x->nK K aG g fds f x):dO P w K aG base xp (n+1) g pg (ζ.run pg fds (n+1)):=by
 refine⟨λf x m=>?_,T.blt,T.mF⟩;obtain⟨fd,N,st,b,c,e,a,l,F,d⟩:=i f x m;obtain⟨k,_⟩:=vd a;exact⟨b,c,_,l,F.oW,d,wA h T e a F,λds j=>by rw[ζ.nj,e];unfold ζ.bg;exact if_neg (by rw[<- k];exact j)⟩
theorem Ak(c:ik xp g pg K aG base)(b:∀f x,g.fns[f]?=Z x->nK K aG g fds f x)(a:∀x:Tj,x∈kc->aG x=Y)(i:∀(j:Nat)(x:Tj)(d:D),g.mF[j]?=Z x->pg.cs[j]?=Z d->∃v u,aG x=Z u/\RelV v u/\∀G,Rep K G d v):
  ∀n,dO P w K aG base xp n g pg (ζ.run pg fds n)
 |0=>⟨λf x o=>by
   obtain⟨fd,N,st,k,l,e,q,m,F,a⟩:=b f x o;exact⟨k,l,_,m,F.oW,a,⟨λp H Q E h=>h.1,λA outer s H args r p Q E _ _ _ _ ⟨_,_,_,_,_,_,h⟩=>h.elim⟩,λ_ _=>rfl⟩,a,i⟩
 |n+1=>MD c (Ak c b a i n) b
end
noncomputable def kb(Q:Nat->Tj->Prop):Nat->List Tj->Prop
 |_,[]=>True
 |n,x::xs=>Q n x/\kb Q (n+1) xs
theorem kb.get:∀{xs:List Tj}{n f:Nat}{x:Tj},kb Q n xs->xs[f]?=Z x->Q (n+f) x
 |[],_,_,_,_,h=>by simp at h
 |y::xs,n,0,x,q,h=>by simp at h;subst h;exact q.1
 |y::xs,n,f+1,x,q,h=>by
  have:=kb.get (n:=n+1) (f:=f) q.2 (by simpa using h);rwa[Nat.add_right_comm,Nat.add_assoc]at this
def D0{b:List S8}(h:b.length=1):∃a,b=[a]:=List.length_eq_one_iff.mp h
def D1{d:List S8}(h:d.length=2):∃a b,d=[a,b]:=by
 rcases d with _|⟨a,_|⟨b,_|⟨c,r⟩⟩⟩<;>first|exact⟨_,_,rfl⟩|(simp at h)
def D3{f:List S8}(h:f.length=4):∃a b c d,f=[a,b,c,d]:=by
 rcases f with _|⟨a,_|⟨b,_|⟨c,_|⟨d,_|⟨e,r⟩⟩⟩⟩⟩<;>first|exact⟨_,_,_,_,rfl⟩|(simp at h)
def D2{e:List S8}(h:e.length=3):∃a b c,e=[a,b,c]:=by
 rcases e with _|⟨a,_|⟨b,_|⟨c,_|⟨d,r⟩⟩⟩⟩<;>first|exact⟨_,_,_,rfl⟩|(simp at h)
noncomputable def AllB(K:W.Frag):List Tj->Prop
 |[]=>True
 |x::xs=>W.nsIn K Tz x=Z Y/\AllB K xs
theorem AllB.get{K:W.Frag}(X:K.In h)(G:h.Ns Tz b):∀{xs:List Tj},AllB K xs->∀x∈xs,b x=Y
 |[],_,x,a=>by simp at a
 |y::ys,q,x,a=>by
  rcases Oq.mp a with rfl|a
  .exact S0 X G q.1
  .exact AllB.get X G q.2 x a
def nL(K:W.Frag)(x:Tj)(st:T3):Prop :=
 ∃(f:Td)(d:S8)(e:Option Td)(bQ c h:S8)(b:Option Td)(a ct:S8)(g:Array (Option S8)),W.nsIn K Tz x=Z (Z (.ref f)) /\
  K.lookup f=Z ⟨d,e,.func (W.fnOf x x (eZ st) (hO st) (e2 st) .none bQ c h b a ct),g⟩/\W.codeIn K a x=J/\W.keepIn K (.ref f)=J
def C5{K:W.Frag}{st:T3}{bQ d e:S8}(a:W.nsIn K Tz x=Z (Z (.ref f)))(l:K.lookup f=Z ⟨h,i,.func (W.fnOf x x (eZ st) (hO st) (e2 st) .none bQ d e g b ct),j⟩)(c:W.codeIn K b x=J)(k:W.keepIn K (.ref f)=J):nL K x st:=⟨f,h,i,bQ,d,e,g,b,ct,j,a,l,c,k⟩
def bW{K:W.Frag}{st:T3}(X:K.In h)(G:h.Ns Tz r)(d:nL K x st)(q:fds[j]?=Z fd)(o:ζ.iE g N fd st=J)(p:∀(bQ m n:S8)(e:Option Td)(i ct:S8)(b:List S8),b.length=((eZ st).args.map (·.arg)).length->bindArgs (W.fnOf x x (eZ st) (hO st) (e2 st) .none bQ m n e i ct) ⟨b,[]⟩=pure (((eZ st).args.map (·.arg)).zip b)):nK K r g fds j x:=by
 obtain⟨f,s,t,bQ,m,n,e,i,ct,u,a,l,c,k⟩:=d;have F:=wG l c k;exact⟨fd,N,st,f,_,q,o,SW X G a,F,F.binds p⟩
theorem za{K:W.Frag}:∀ns:List Int,aO K G (ns.map ζ.D.int) (ns.map V.int)
 |[]=>rfl
 |n::ns=>⟨.int n,ns.map V.int,rfl,rfl,za ns⟩
def Lg{K:W.Frag}{ns:List Int}(b:cp K H a (ns.map V.int))(c:d [.lst (ns.map .int)]=.ok (.ah J)):j2 K d 1 [.ref a] H (λv _=>v=.ah J) λ_ _ _=>False:=by
 refine⟨rfl,H,[.lst (ns.map .int)],aH.refl H,λ_ _ z=>z,⟨.ref a,[],rfl,⟨a,_,rfl,b,za ns⟩,rfl⟩,?_⟩;rw[c];exact λv e f _ r=>r
def CR:gG P w xp outer H s (λ_ _ _=>False) e s'->False:=by rintro⟨_,_,_,_,_,_,_,_,_,_,h⟩;exact h
noncomputable def hi(K:W.Frag)(g:ζ.Gt)(c:Nat):Option Addr:=match g.cls[c]? with
 |some x=>(match W.nsIn K Tz x with|some (Z (.ref C))=>Z C|_=>Y)
 |none=>Y
def Cp{K:W.Frag}(h:g.cls[c]?=Z x)(e:W.nsIn K Tz x=Z (Z (.ref C))):hi K g c=Z C:=by
 unfold hi;rw[h];dsimp only;rw[e]
def nQ(o:Uq)(C N:Td)(bm:List S8)(a:String):Prop:=∃(nm q:Tj)(bs:List S8)(hdct:Bool)(sn:List Tj)(sub:List S8)(ab:Bool)(col:Option Bool)(dd:Option Td)(k0 k1 k2 k3 k5:Option S8),o=TL nm q C N bs bm hdct sn sub ab col dd k0 k1 k2 k3 k5 a
def qp(K:W.Frag)(x:Tj)(C:Td)(bm:List S8):Prop:=∃o N i,W.nsIn K Tz x=Z (Z (.ref C))/\K.lookup C=Z o/\nQ o C N bm i/\bm.contains (.type "BaseException")=J
def qo(K:W.Frag)(x:Tj)(C:Td)(bm:List S8):Prop:=∃o N,W.nsIn K Tz x=Z (Z (.ref C))/\K.lookup C=Z o/\nQ o C N bm "ValueError.__new__"/\PySem.W.nsOkIn K N=J/\W.nsIn K N "__init__"=Z Y/\PySem.W.tailIn K n8 bm=J/\cK.Plain K C bm
def nJ(K:W.Frag)(d e:Tj):Prop:=∃a b c b1,(qp K d a c/\qo K e b b1)/\(Th b::b1).contains (.ref a)=J
def Co{K:W.Frag}(a0:W.nsIn K Tz g=Z (Z (.ref b)))(l0:K.lookup b=Z e)(e0:nQ e b h d j)(h0:d.contains (.type "BaseException")=J)(a1:W.nsIn K Tz NH=Z (Z (.ref a)))(l1:K.lookup a=Z f)(e1:nQ f a c b1 "ValueError.__new__")(n:PySem.W.nsOkIn K c=J)(i:W.nsIn K c "__init__"=Z Y)(t:PySem.W.tailIn K n8 b1=J)(p1:PySem.W.findIn K (.ref a) "__class__"=Z (Z (.builtin "object.__class__")))(p2:PySem.W.findIn K (.ref a) "__getattribute__"=Z (Z (.builtin "BaseException.__getattribute__")))(p3:PySem.W.findIn K (.ref a) "__getattr__"=Z Y)(p4:b1.contains (.type "object")=J)(p5:b1.contains (.type "BaseException")=J)(m0:(Th a::b1).contains (.ref b)=J):nJ K g NH :=
 ⟨b,a,d,b1,⟨⟨_,_,_,a0,l0,e0,h0⟩,⟨_,_,a1,l1,e1,n,i,t,⟨p1,p2,p3,p4,p5⟩⟩⟩,m0⟩
section
variable{K:W.Frag}{h:TH}{aG:Tj->Option S8}{g:ζ.Gt}{pg:ζ.cT}{c:Nat}{x:Tj}{C:Td}{bm:List S8}
def ym(X:K.In h)(G:h.Ns Tz aG)(d:g.cls[c]?=Z x)(q:qp K x C bm):ke aG h (hi K g) c x C:=by
 obtain⟨o,N,i,a,l,⟨nm,q,bs,hdct,sn,sub,ab,col,dd,k0,k1,k2,k3,k5,rfl⟩,b⟩:=q;exact⟨Cp d a,SW X G a,_,_,_,_,_,_,_,_,_,_,_,_,_,_,_,_,_,X _ _ l,b⟩
def qo.s(q:qo K x C bm):qp K x C bm:=by
 obtain⟨o,N,a,l,e,n,i,t,P⟩:=q;exact⟨o,N,_,a,l,e,P.wO⟩
def rO(X:K.In h)(G:h.Ns Tz aG)(b:g.cls=[v,w])(s:W.nsIn K Tz "ValueError"=Z Y)(q:nJ K v w)(d:pg.up 1=[1,0,1000]):ik (cK.dZ (hi K g)) g pg K aG h:=by
 obtain⟨y,p,A,b1,⟨u,m⟩,m0⟩:=q;have j:=ym (c:=0) X G (by rw[b];rfl) u;have f:=ym (c:=1) X G (by rw[b];rfl) m.s;refine⟨⟨_,p,rfl,λc z e=>?_,f.at_,by rw[d];rfl,?_⟩,λk r=>?_,S0 X G s⟩
 .rw[b]at e
  match c,e with
  |0,e=>cases e;exact⟨_,j⟩
  |1,e=>cases e;exact⟨_,f⟩
  |n+2,e=>cases e
 .obtain⟨o,N,a,l,⟨nm,q,bs,hdct,sn,sub,ab,col,dd,k0,k1,k2,k3,k5,rfl⟩,n,i,t,P⟩:=m;refine⟨_,_,_,_,b1,N,nm,q,bs,hdct,sn,sub,ab,col,dd,k0,k1,k2,k3,k5,_,Wl,rfl,X _ _ l,.of_isNs (PySem.W.isNs_of_in X n),PySem.W.nsMap_none_of_in X n i,PySem.W.tail_of_in X t,P,λk D e=>?_⟩;rw[d]
  match k,e with
  |0,e=>cases j.at_.symm.trans e;exact m0
  |1,e=>cases f.at_.symm.trans e;simp
  |n+2,e=>unfold hi at e;rw[b]at e;cases e
 .rw[d]
  match k,r with
  |0,_=>rfl
  |1,_=>rfl
end
def Gx{l:PySem.W.OpenLaw}{K:W.Frag}{st:T3}(X:K.In h)(G:h.Ns Tz b)(y:b "law"=Z (.ref r))(dl:nL K "law" st)(v:fds[f]?=Z fd)(q:ζ.iE g N fd st=J)(z:(eZ st).args.map (·.arg)=[x])(t:∀(bQ j m:S8)(d:Option Td)(i ct:S8)(s:S9)(u:S8),VJ s (W.fnOf "law" "law" (eZ st) (hO st) (e2 st) .none bQ j m d i ct) ⟨[u],[]⟩ [(x,u)])(T:∀base:TH,K.In base->base.Ns Tz b->ik xp g pg K b base/\dO l.prog w K b base xp n g pg (ζ.run pg fds n)):
  ∃fd:U2,(∀(s:S9)(u:S8),VJ s fd ⟨[u],[]⟩ [(x,u)])/\∀base:TH,K.In base->base.Ns Tz b->g7 l.prog w K b base (gG l.prog w xp) (n+1) r fd [x] (j2 K (ζ.run pg fds (n+1) f) 1):=by
 obtain⟨B,C,E,bQ,j,m,d,i,ct,H,a,A,c,k⟩:=dl;have e:=y.symm.trans (SW X G a);cases e;refine⟨_,t bQ j m d i ct,λbase o p=>?_⟩;have F:=wG A c k;have:=wA (T base o p).1 (T base o p).2 (f:=f) v q F;rw[z]at this;exact this
def walk{l:PySem.W.OpenLaw}{bS:(Tj->Option S8)->TH->Prop}{K:Params->W.Frag}(o:l.most=Z 63)(m:d.params.defaults=[])(p:n<=40)(r:∀ns:List Int,ζ.run pg fds n f [.lst (ns.map .int)]=.ok (.ah J))(j:∀(w:TU)(h:TH),e w h->(K w.params).In h)(F:∀(w:TU)(b:Tj->Option S8)(c:Td)(h:TH),(K w.params).In h->h.Ns Tz b->b d.name=Z (.ref c) ->
   ∃fd:U2,(∀(s:S9)(u:S8),VJ s fd ⟨[u],[]⟩ [(x,u)])/\∀base:TH,(K w.params).In base->base.Ns Tz b->g7 l.prog w (K w.params) b base (gG l.prog w (cK.dZ (hi (K w.params) g))) n c fd [x] (j2 (K w.params) (ζ.run pg fds n f) 1)):
  PySem.W.WalkO q v bS e l.row.toRowW d [] (λf t=>PySem.call f t) :=
 aJ.Nw (n:=63) (k:=n) (x:=x) (CX:=λw=>gG l.prog w (cK.dZ (hi (K w.params) g))) (sp:=λw=>j2 (K w.params) (ζ.run pg fds n f) 1) o ∅ m (ea.mono (⟨rfl,∅,∅⟩:ea 40 VO) p) j F (λw H a ns _ _ i=>Lg i (r ns)) λ_ _ _ _ _ z=>CR z
end aI
end
section
namespace uy
open ζ aq cJ b4 c6 de
def bO(h:fds[f]?=Z fd)(n)(ds):run pg fds (n+1) f ds=bg pg (run pg fds n) fd ds:=by rw[nj,h]
noncomputable abbrev bA(n:Nat):dn:=run pg fds n
def Mv(n)(a b)(d:∀c∈a,c≠[])(e:∀c∈b,c≠[])(h:(bF (a++b)).length<=63):bA (n+1) 0 [.tup (a.map af),.lst (b.map af)]=.ok (.tup ((aS a b).map af)):=(bO (f:=0) rfl n _).trans (zZ rfl rfl d e h)
def Mw(n)(a b)(d:∀c∈a,c≠[])(e:∀c∈b,c≠[])(h:(bF (a++b)).length<=63):bA (n+1) 0 [.tup (a.map af),.tup (b.map af)]=.ok (.tup ((aS a b).map af)):=(bO (f:=0) rfl n _).trans (Lx d e h)
def Aj(n)(c)(h:c.length<=1000):bA (n+1) 1 [af c]=.ok (.lst ((bC c).map af)):=(bO (f:=1) rfl n _).trans (K0 c h)
def Mr(n){cs U:List (List Int)}(d:∀c∈cs,bI ltI c/\c.length<=1000)(b:∀c∈cs,∀e∈bC c,e∈U)(a:U.length<=63):bA (n+2) 2 [.tup (cs.map af)]=.ok (.tup ((dF cs).map af)):=(bO (f:=2) rfl _ _).trans (JA rfl d b a (Mv n) (Aj n))
def MA(n)(c)(h:c.length<=8):bA (n+1) 4 [af c]=.ok (.lst ((cZ c).map af)):=(bO (f:=4) rfl n _).trans (NA c h)
def tT(a:Good N):∀t∈N.2,t.length<=8:=λt b=>by have:=jy (a.cu.cell t b);have:=a.cu.aw;lia
def Ma(n)(N)(a:Good N):bA (n+2) 5 [aT N.1 N.2]=.ok (.lst ((fx N.2).map af)):=(bO (f:=5) rfl _ _).trans (DZ (MA n) (tT a) a.len (wg a.cu.aw a.cu.cell))
def Ab(n)(N)(a:Good N)(k:Nat):bA (n+3) 6 [aT N.1 N.2,.int ((k:Int)-1)]=.ok (.tup ((cl N.2 k).map af)):=(bO (f:=6) rfl _ _).trans (CE k (Ma n N a))
def L9(n)(N)(a:Good N)(k:Nat):bA (n+3) 6 [aT N.1 N.2,.int (k:Int)]=.ok (.tup ((cl N.2 (k+1)).map af)):=by
 have:=Ab n N a (k+1);rwa[show(((k+1:Nat):Int)-1)=(k:Int) by lia]at this
def Ag(n)(N)(a:Good N)(k:Nat):bA (n+4) 7 [aT N.1 N.2,.int ((k:Int)-1)]=.ok (.aN (mk (cl N.2 k))):=(bO (f:=7) rfl _ _).trans (Hc k (Ab n N a k) (fR a.cu.aw a.cu.cell k))
def Ah(n)(N)(a:Good N)(k:Nat):bA (n+4) 7 [aT N.1 N.2,.int (k:Int)]=.ok (.aN (mk (cl N.2 (k+1)))):=by
 have:=Ag n N a (k+1);rwa[show(((k+1:Nat):Int)-1)=(k:Int) by lia]at this
def L7(n)(U xs)(a:U.Nodup)(b:xs.Nodup)(h:∀x∈xs,x∈U):bA (n+1) 8 [.lst (xs.map af),.aN (mk U)]=.ok (.int (bh U xs:Int)):=(bO (f:=8) rfl _ _).trans (BR a b h)
def L8(n)(U xs)(a:U.Nodup)(b:xs.Nodup)(h:∀x∈xs,x∈U):bA (n+1) 8 [.tup (xs.map af),.aN (mk U)]=.ok (.int (bh U xs:Int)):=(bO (f:=8) rfl _ _).trans (BS a b h)
def z9(n)(U)(b:Nat)(a:U.Nodup):bA (n+1) 9 [.int (b:Int),.aN (mk U)]=.ok (aZ U b):=(bO (f:=9) rfl _ _).trans (Ci a b)
def Ai(n)(N)(a:Good N)(k:Nat):bA (n+5) 10 [aT N.1 N.2,.int (k:Int)]=.ok (.lst ((bJ (aP N.2 (k+1))).map aR)):=(bO (f:=10) rfl _ _).trans (JB k a.cu.cell a.cu.aw (Ag n N a) (Aj (n+3)) (L7 (n+3)))
def Mu(n)(r q):bA (n+1) 11 [aR r,aR q]=.ok (aR (r.1 ^^^ q.1,r.2 ^^^ q.2)):=(bO (f:=11) rfl _ _).trans (Ly r q)
def p0(n)(B)(r)(h:(B.map (·.1)).Nodup):bA (n+2) 12 [aR r,.aM (bM B)]=.ok (aR (red B r)):=(bO (f:=12) rfl _ _).trans (Jw (Mu n) h r)
def Mk(n k:Nat)(h:0<k):bA (n+1) 13 [.int (k:Int)]=.ok (.int ((2 ^ lo k:Nat):Int)):=(bO (f:=13) rfl _ _).trans (GS k h)
def tP(n)(B)(r)(h:br B)(a:B.length<900):bA (n+3) 14 [.aM (bM B),aR r]=.ok (.aM (bM (grow B r))):=(bO (f:=14) rfl _ _).trans (ET (p0 n) (Mk (n+1)) h a r)
def z8(n)(rs)(h:rs.length<=63):bA (n+4) 15 [.lst (rs.map aR)]=.ok (.aM (bM (bf [] rs))):=(bO (f:=15) rfl _ _).trans (BK (tP n) h)
def Md(n)(rs)(h:rs.length<=63):bA (n+4) 16 [.lst (rs.map aR)]=.ok (.lst ((cB rs).2.map λb:Nat=>D.int (b:Int))):=(bO (f:=16) rfl _ _).trans (Fc (tP n) (p0 (n+1)) h)
def Ad(n)(N)(a:Good N)(k)(xs)(b:(cl N.2 (k+1)).filter (λc=>decide (c∈xs))=xs):bA (n+4) 17 [aT N.1 N.2,.tup (xs.map af),.int (k:Int)]=.ok (.ah J):=(bO (f:=17) rfl _ _).trans (Fx (L9 n N a k) b)
def gM(hz:z∈cY (cl ts n) b):z∈cl ts n:=(OJ.mp hz).1
def kF(a:Good N):∀c∈cY (cl N.2 (k+1)) b,bI ltI c/\c.length<=1000:=λc d=>⟨jA a.cu.cell (gM d),by
 obtain⟨_,_,t,f,e⟩:=hu.mp (gM d);have:=e.length_le;have:=tT a t f;lia⟩
def Me(n)(N)(a:Good N)(k b):bA (n+3) 3 [aZ (cl N.2 (k+1)) b]=.ok (.ah (dF (cY (cl N.2 (k+1)) b)).isEmpty) :=
 (bO (f:=3) rfl _ _).trans (Fy (Mr n (U:=cl N.2 k) (kF a) (λc d e g=>iF a.cu.cell (gM d) g) (fR a.cu.aw a.cu.cell k)))
def pY(n)(N)(a:Good N)(k b):bA (n+5) 18 [aT N.1 N.2,aZ (cl N.2 (k+1)) b,.int (k:Int)]=.ok (.ah (dF (cY (cl N.2 (k+1)) b)).isEmpty) :=
 (bO (f:=18) rfl _ _).trans (Fz (Ad n N a k _ (Ey (ew N.2 (k+1)) b)) (Me (n+1) N a k b))
def Mh(n)(N)(a:Good N):uv (bA (n+5)) N.1 N.2 7 12 15 10 8 9:=⟨a.cu.cell,a.cu.aw,Ah (n+1) N a,L8 (n+4),Ai n N a,z8 (n+1),p0 (n+3),z9 (n+4)⟩
def Mb(n)(N)(e:Good N)(k)(xs)(i:(cl N.2 (k+1)).filter (λc=>decide (c∈xs))=xs)(g:xs.Nodup)(h:∀c∈xs,c∈cl N.2 (k+1)):∃d,bA (n+6) 19 [aT N.1 N.2,.tup (xs.map af),.int (k:Int)]=.ok d/\(jK d=J<->¬sp (aP N.2 (k+2)) (bh (cl N.2 (k+1)) xs)):=by
 obtain⟨d,a,b⟩:=Er (pg:=pg) (Mh n N e) (Ad (n+1) N e k xs i) g h;exact⟨d,(bO (f:=19) rfl _ _).trans a,b⟩
def Ms(n)(N)(k:Nat)(c:Good N):∃G:List Nat,bA (n+6) 20 [aT N.1 N.2,.int (k:Int)]=.ok (.tup (G.map (aZ (cl N.2 (k+1)))))/\Told N.2 k G:=by
 obtain⟨ds,a,b⟩:=JJ (pg:=pg) (Φ:=bA (n+5)) k c.cu.cell c.cu.aw (Md (n+1)) (Ai n N c) (p0 (n+3)) (tP (n+2)) (z9 (n+4)) (Ah (n+1) N c k) (z8 (n+1));exact⟨ds,(bO (f:=20) rfl _ _).trans a,b⟩
def emp{xs:List (List Int)}(h:xs=[]):xs.isEmpty=true:=by rw[h];rfl
def x6{xs:List (List Int)}(h:¬xs=[]):xs.isEmpty=false:=by
 cases xs with
 |nil=>exact absurd rfl h
 |cons _ _=>rfl
def Mx(n)(N)(a:Good N)(k b c)(i:b<2 ^ (cl N.2 (k+1)).length)(j:c<2 ^ (cl N.2 (k+1)).length)(w:bd (aP N.2 (k+1)) b=0)(y:bd (aP N.2 (k+1)) c=0):∃v:Bool,bA (n+8) 40 [aT N.1 N.2,aZ (cl N.2 (k+1)) b,aZ (cl N.2 (k+1)) c,.int (k:Int)]=.ok (.ah v)/\(v=J<->sp (aP N.2 (k+2)) (b ^^^ c)):=by
 have d:=ew N.2 (k+1);have g:=a.cu.cell;have o:=pY (n+1) N a k b;have p:=pY (n+1) N a k c;rw[emp ((jW g i).mpr w)]at o;rw[emp ((jW g j).mpr y)]at p;have m:∀{x:Nat},∀z∈cY (cl N.2 (k+1)) x,z≠[]:=λz hz=>(hu.mp (gM hz)).2.1
 have t:∀z∈cY (cl N.2 (k+1)) b++cY (cl N.2 (k+1)) c,z∈cl N.2 (k+1):=λz hz=>(Ox.mp hz).elim gM gM
 have u:=Mw (n+5) (cY (cl N.2 (k+1)) b) (cY (cl N.2 (k+1)) c) m m (O3 (vB t) (fR a.cu.aw g _));have l:∀z∈aS (cY (cl N.2 (k+1)) b) (cY (cl N.2 (k+1)) c),z∈cl N.2 (k+1):=λz hz=>by
  rcases o6.mp hz with q|q
  .exact gM q.1
  .exact gM q.1
 have s:(cl N.2 (k+1)).filter (λz=>decide (z∈aS (cY (cl N.2 (k+1)) b) (cY (cl N.2 (k+1)) c)))=aS (cY (cl N.2 (k+1)) b) (cY (cl N.2 (k+1)) c):=hJ e5 (Pf Qt (qQ _ _)) (n3 _ _) λz=>by
  rw[OJ,Oz];exact⟨λq=>q.2,λq=>⟨l z q,q⟩⟩
 obtain⟨f,r,e⟩:=Mb n N a k _ s (n2 (n3 _ _)) l;rw[Hv d (d.filter _) (d.filter _) (λz hz=>gM hz) (λz hz=>gM hz),o8 d i,o8 d j]at e;refine⟨!jK f,(bO (f:=40) rfl _ _).trans (MK ((bO (f:=21) rfl _ _).trans (A8 o p u r))),?_⟩;cases q:jK f with
 |true=>exact⟨λh=>(nomatch h),λh=>absurd h (e.mp q)⟩
 |false =>
  refine⟨λ_=>OY λh=>?_,λ_=>rfl⟩;rw[e.mpr h]at q;cases q
def My(n)(N)(d:Good N)(k b c)(g:b<2 ^ (cl N.2 (k+1)).length)(i:c<2 ^ (cl N.2 (k+1)).length)(z:¬(bd (aP N.2 (k+1)) b=0/\bd (aP N.2 (k+1)) c=0)):bA (n+8) 40 [aT N.1 N.2,aZ (cl N.2 (k+1)) b,aZ (cl N.2 (k+1)) c,.int (k:Int)]=.ok (.str e7):=by
 have e:=d.cu.cell;have a:=pY (n+1) N d k b;have h:=pY (n+1) N d k c;refine(bO (f:=40) rfl _ _).trans (MN ((bO (f:=21) rfl _ _).trans ?_) rfl)
 by_cases q:bd (aP N.2 (k+1)) b=0
 .rw[emp ((jW e g).mpr q)]at a;rw[x6 λw=>z ⟨q,(jW e i).mp w⟩]at h;exact Ba a h
 .rw[x6 λw=>q ((jW e g).mp w)]at a;exact A9 a
def L6(n)(a:List Int)(k:Nat):bA (n+1) 22 [.lst (a.map .int),.int (k:Int)]=.ok (.int (a.getD k 0)):=(bO (f:=22) rfl _ _).trans (Ce a k)
def Mp(n)(c:List Int)(k:Nat):∃r:Int,0<=r/\r<hG/\bA (n+2) 23 [.lst (c.map .int),.int (k:Int)]=.ok (.int r):=by
 obtain⟨r,a,b,e⟩:=Hp (pg:=pg) (L6 n c) k;exact⟨r,a,b,(bO (f:=23) rfl _ _).trans e⟩
def tO(n)(i k):∃r:Int,0<=r/\r<hG/\bA (n+1) 24 [.int i,.int k]=.ok (.int r):=by
 obtain⟨r,a,b,e⟩:=Df (pg:=pg) (Φ:=bA n) i k;exact⟨r,a,b,(bO (f:=24) rfl _ _).trans e⟩
def Mi(n)(c o):bA (n+1) 25 [af c,af o]=.ok (.ah (lies c o)):=(bO (f:=25) rfl n _).trans (Gw c o)
def Mz(n)(ts)(a:∀c∈ts,c≠[])(h:(bF ts).length<=63):bA (n+2) 26 [.lst (ts.map af)]=.ok (.tup ((jN ts).map af)):=(bO (f:=26) rfl _ _).trans (GC (Mi n) rfl a h)
def tQ(n s:Nat)(c)(b:s<=8)(a:c.length<=8):bA (n+9) 27 [af c,.int (s:Int)]=.ok (.lst ((bz s c).map af)):=yr (fds:=fds) (f:=27) rfl s (n+9) c ⋯ a
def Mt(n)(i m)(a:1<=m)(b:m<=6):∃cs:List (List Int),bA (n+2) 28 [.int i,.int m]=.ok (.lst (cs.map af))/\(∀c∈cs,IsCell m c)/\eL m cs=J/\cs.length<=16:=by
 obtain⟨cs,e,r⟩:=Lb (pg:=pg) (tO n) i m a b;exact⟨cs,(bO (f:=28) rfl _ _).trans e,r⟩
def Mj(n)(i)(h0:0<=i):∃m ts,bA (n+10) 29 [.int i,.int 6]=.ok (aT m ts)/\Net m ts/\m<=6/\ts.length<=20:=by
 obtain⟨m,ts,e,r⟩:=HL (pg:=pg) (Φ:=bA (n+9)) (Mz (n+7)) (tQ n) (Mt (n+7)) i h0;exact⟨m,ts,(bO (f:=29) rfl _ _).trans e,r⟩
def pZ(n)(N)(a:Good N)(h:Nat)(d:h<=7):bA (n+10) 30 [aT N.1 N.2,.int (h:Int)]=.ok (.lst ((cl N.2 (h+1)).map af)):=by
 rw[<- vg];exact(bO (f:=30) rfl _ _).trans (Gs (λc b=>tQ n (h+1) c ⋯ b) (tT a) a.len (by rw[vg];exact fR a.cu.aw a.cu.cell _))
def Mc(n)(N)(a:Good N):bA (n+1) 31 [aT N.1 N.2]=.ok (.int (aw N.2:Int)):=(bO (f:=31) rfl _ _).trans (E5 (x7 a.cu))
def Ac(n)(N)(a:Good N)(k:Nat)(e:k<=7):bA (n+11) 33 [aT N.1 N.2,.int (k:Int)]=.ok (cg (aP N.2 (k+1))):=(bO (f:=33) rfl _ _).trans (CI e a.cu.cell a.cu.aw (λc b=>tQ (n+1) k c ⋯ b) λj d=>pZ n N a j d)
def Mn(n)(N)(a:Good N)(k:Nat)(b:k<=7):bA (n+12) 35 [aT N.1 N.2,.int (k:Int)]=.ok (cg (k6 (aP N.2 (k+1))).2):=(bO (f:=35) rfl _ _).trans (GA (Ac n N a k b) (by rw[fG];have:=fR a.cu.aw a.cu.cell (k+1);lia))
def Af(n)(U)(a:U.Nodup)(b:Nat):bA (n+1) 36 [.int (b:Int),.lst (U.map af)]=.ok (aZ U b):=(bO (f:=36) rfl _ _).trans (Gu a b)
def Mm(n)(N)(a:Good N)(k:Nat)(c:k<=7)(z):∃b:Nat,bA (n+13) 37 [aT N.1 N.2,.int (k:Int),.int z]=.ok (aZ (cl N.2 (k+1)) b)/\bd (aP N.2 (k+1)) b=0/\b<2 ^ (aP N.2 (k+1)).length:=by
 obtain⟨b,e,r⟩:=Gz (pg:=pg) (Φ:=bA (n+12)) (fh:=36) (fc:=30) (fr:=35) (fd:=24) z (ew N.2 (k+1)) (Mn n N a k c) (tO (n+11) z) (Af (n+11) _ (ew N.2 (k+1))) (pZ (n+2) N a k c);exact⟨b,(bO (f:=37) rfl _ _).trans e,r⟩
def Mg(n)(N)(d:Good N)(k:Nat)(g:k<=7)(z):∃b:Nat,bA (n+11) 38 [aT N.1 N.2,.int (k:Int),.int z]=.ok (aZ (cl N.2 (k+1)) b)/\b<2 ^ (cl N.2 (k+1)).length:=by
 obtain⟨q,e⟩:=Gv (pg:=pg) (Φ:=bA (n+10)) (fd:=24) (fc:=30) z (ew N.2 (k+1)) (tO (n+9) z) (pZ n N d k g);obtain⟨b,a,c⟩:=Ex (ew N.2 (k+1)) q;exact⟨b,by rw[<- c];exact(bO (f:=38) rfl _ _).trans e,a⟩
def Ml(n)(N)(a:Good N)(k b):bA (n+1) 32 [aZ (cl N.2 (k+1)) b]=.ok (.tup ((dF (cY (cl N.2 (k+1)) b)).map af)):=(bO (f:=32) rfl _ _).trans (Gy (U:=cl N.2 k) (kF a) (λc d e g=>iF a.cu.cell (gM d) g) (fR a.cu.aw a.cu.cell k))
def Mq(n)(xs)(h:xs.length<=1000):bA (n+1) 34 [cg xs]=.ok (.int ((di xs).length:Int)):=(bO (f:=34) rfl _ _).trans (Js h)
def Ae(n)(a:U.Nodup)(d:U.length<=63)(c:b<2 ^ U.length):bA (n+1) 39 [aZ U b,.lst (U.map af)]=.ok (.int (b:Int)):=(bO (f:=39) rfl _ _).trans (Gq a d c)
def Mo(n)(a:U.Nodup)(e:U.length<=63)(G)(c:G.length<=3)(h:∀b∈G,b<2 ^ U.length):bA (n+2) 41 [.tup (G.map (aZ U)),.lst (U.map af)]=.ok (.lst ((sums G).map (aZ U))):=(bO (f:=41) rfl _ _).trans (GB c (λb d=>Ae n a e (h b d)) (Af n U a))
def L5(n)(N)(a:Good N)(k)(f:k<=6):qx (bA (n+12)) N.1 N.2 k 40 41 20 34 39 33 32 :=
 have c:=fR a.cu.aw a.cu.cell (k+1);have d:=ew N.2 (k+1)
 ⟨a.cu.cell,c,Ml (n+11) N a k,Ac (n+1) N a (k+1) ⋯,by rw[fG];exact fR a.cu.aw a.cu.cell _,λb e=>Ae (n+11) d c e,Mq (n+11),Ms (n+6) N k a,Mo (n+10) d c,Mx (n+4) N a k,My (n+4) N a k⟩
def Mf(a:List Int):run pg fds 21 42 [.lst (a.map .int)]=.ok (.ah J) :=
 (bO (f:=42) rfl _ _).trans (Gp (Mp 18 a) (Mj 10) (Mc 19) (pZ 10) (Mm 7) (Mg 9) (L5 8))
end uy
end
section
set_option Elab.async false
namespace nP
open PySem PySem.Spec PyProof.Rows aJ aI
noncomputable def bc:List Nat:=[1,2,3,4,9,10,11,13,14,15,16,17,18,19,20,21,22,24,25,26,28,29,31,32,33,34,35,36,37,38,39,40,41,42,43,44,45,46,47,48,49,50,51]
noncomputable def st(j:Nat):Stmt:=PySem.Challenge.pw_holeyard_k22_whole_alike.main.body.getD (bc.getD j 0) (.Pass ⟨0,0,0,0⟩)
def Ck:((Tp 43).all λj=>ζ.iE de.gt (de.ya.getD j []) (de.fds.getD j ⟨0,0,.nil⟩) (st j))=true:=by decide +kernel
def bU(j:Nat)(h:j<43):ζ.iE de.gt (de.ya.getD j []) (de.fds.getD j ⟨0,0,.nil⟩) (st j)=true:=OM.mp Ck j (Ts.mpr h)
structure Txt(K:W.Frag):Prop where
 ds:kb (λj x=>nL K x (st j)) 0 de.gt.fns
 ah:AllB K kc
 j9:W.nsIn K Tz "ValueError"=Z Y
 cl:nJ K "HoleError" "NoRound"
section
variable{K:W.Frag}{h:TH}{aG:Tj->Option S8}
theorem fns(X:K.In h)(G:h.Ns Tz aG)(t:Txt K):kb (nK K aG de.gt de.fds) 0 de.gt.fns:=by
 obtain⟨b,c,o,A,R,a0,a1,a2,aj,ar,d,e,f,g,i,j,k,l,m,n,p,q,r,s,u,v,w,x,y,z,B,C,E,H,I,L,M,N,O,Q,S,T,U,-⟩:=t.ds;refine⟨bW X G b rfl (bU 0 ∅) ?_,bW X G c rfl (bU 1 ∅) ?_,bW X G o rfl (bU 2 ∅) ?_,bW X G A rfl (bU 3 ∅) ?_,bW X G R rfl (bU 4 ∅) ?_,bW X G a0 rfl (bU 5 ∅) ?_,bW X G a1 rfl (bU 6 ∅) ?_,bW X G a2 rfl (bU 7 ∅) ?_,bW X G aj rfl (bU 8 ∅) ?_,bW X G ar rfl (bU 9 ∅) ?_,bW X G d rfl (bU 10 ∅) ?_,bW X G e rfl (bU 11 ∅) ?_,bW X G f rfl (bU 12 ∅) ?_,bW X G g rfl (bU 13 ∅) ?_,bW X G i rfl (bU 14 ∅) ?_,bW X G j rfl (bU 15 ∅) ?_,bW X G k rfl (bU 16 ∅) ?_,bW X G l rfl (bU 17 ∅) ?_,bW X G m rfl (bU 18 ∅) ?_,bW X G n rfl (bU 19 ∅) ?_,bW X G p rfl (bU 20 ∅) ?_,bW X G q rfl (bU 21 ∅) ?_,bW X G r rfl (bU 22 ∅) ?_,bW X G s rfl (bU 23 ∅) ?_,bW X G u rfl (bU 24 ∅) ?_,bW X G v rfl (bU 25 ∅) ?_,bW X G w rfl (bU 26 ∅) ?_,bW X G x rfl (bU 27 ∅) ?_,bW X G y rfl (bU 28 ∅) ?_,bW X G z rfl (bU 29 ∅) ?_,bW X G B rfl (bU 30 ∅) ?_,bW X G C rfl (bU 31 ∅) ?_,bW X G E rfl (bU 32 ∅) ?_,bW X G H rfl (bU 33 ∅) ?_,bW X G I rfl (bU 34 ∅) ?_,bW X G L rfl (bU 35 ∅) ?_,bW X G M rfl (bU 36 ∅) ?_,bW X G N rfl (bU 37 ∅) ?_,bW X G O rfl (bU 38 ∅) ?_,bW X G Q rfl (bU 39 ∅) ?_,bW X G S rfl (bU 40 ∅) ?_,bW X G T rfl (bU 41 ∅) ?_,bW X G U rfl (bU 42 ∅) ?_,trivial⟩<;>intro _ _ _ _ _ _ ao a<;>first|(obtain⟨_,rfl⟩:=D0 a;rfl)|(obtain⟨_,_,rfl⟩:=D1 a;rfl)|(obtain⟨_,_,_,rfl⟩:=D2 a;rfl)|(obtain⟨_,_,_,_,rfl⟩:=D3 a;rfl)
def cI{P:TK}{w:TU}(X:K.In h)(G:h.Ns Tz aG)(t:Txt K)(base:TH)(b:K.In base)(c:base.Ns Tz aG):ik (cK.dZ (hi K de.gt)) de.gt de.pg K aG base/\dO P w K aG base (cK.dZ (hi K de.gt)) 20 de.gt de.pg (ζ.run de.pg de.fds 20):=by
 have a:ik (cK.dZ (hi K de.gt)) de.gt de.pg K aG base:=rO b c rfl t.j9 t.cl rfl;exact⟨a,Ak a (λf x e=>by have:=(fns X G t).get e;rwa[P6]at this) (AllB.get X G t.ah) (λj x d e1 g=>by cases e1) _⟩
end
end nP
noncomputable def PySem.W.Fast.tw18292557497793231515:=PySem.Challenge.pw_holeyard_k22_whole_alike
theorem PySem.W.Fast.te18292557497793231515:PySem.Challenge.pw_holeyard_k22_whole_alike=PySem.W.Fast.tw18292557497793231515:=rfl
namespace PySem.W.Fast
noncomputable def tw10545340734551406720:=()
noncomputable def tw3220608764545043780:=()
noncomputable def tw10085614570835920168:=()
noncomputable def tw4297274442792726935:=()
noncomputable def tw17071203892542379259:=()
noncomputable def tw10022889785771364514:=()
noncomputable def tw17137501433301947202:=()
noncomputable def tw3841965288737595411:=()
noncomputable def tw5277834422867595945:=()
noncomputable def tw9567319373874263076:=()
noncomputable def tw16200637936379239293:=()
noncomputable def tw2232127986366331576:=()
noncomputable def tw3204203135861420699:=()
noncomputable def tw10902992860104893496:=()
noncomputable def tw12166095868238411270:=()
noncomputable def tw9245995177951510736:=()
noncomputable def tw901377941769964019:=()
noncomputable def tw3708272370484532255:=()
noncomputable def tw3040660898604013906:=()
noncomputable def tw516085356046706947:=()
noncomputable def tw1381648701039172602:=()
noncomputable def tw3315050086834612359:=()
noncomputable def tw7084096792487476140:=()
noncomputable def tw13524402488261851623:=()
noncomputable def tw16776042526386233734:=()
noncomputable def tw14174921216697301273:=()
noncomputable def tw9721795473337149942:=()
noncomputable def tw18236323891489563261:=()
noncomputable def tw7427656563573269873:=()
noncomputable def tw3201725149944508409:=()
noncomputable def tw3712316589832477440:=()
noncomputable def tw4367529590918902391:=()
noncomputable def tw14276938575837420929:=()
noncomputable def tw13966554843224064474:=()
noncomputable def tw15094637113742180354:=()
noncomputable def tw11521380236589124104:=()
noncomputable def tw3278447577234304015:=()
noncomputable def tw18310537327059922762:=()
noncomputable def tw12160927162217899568:=()
noncomputable def tw8961701401911992250:=()
noncomputable def tw4045452095670982898:=()
noncomputable def tw7427465545878888083:=()
noncomputable def tw11842077802588230389:=()
noncomputable def tw9192460868844961641:=()
noncomputable def tw15455818026015416730:=()
noncomputable def tw399909541170200819:=()
noncomputable def tw1014948837135613963:=()
noncomputable def tw11801948303865848359:=()
noncomputable def tw5303108276056649744:=()
noncomputable def tw882324910927255083:=()
noncomputable def tw14569443753308872575:=()
noncomputable def tw12192954474090647462:=()
noncomputable def tw13780514964884598576:=()
noncomputable def tw12835461008683731853:=()
noncomputable def tw2421159902005073458:=()
noncomputable def tw17151872976464919475:=()
noncomputable def tw9642624845954223017:=()
noncomputable def tw9301998444143942835:=()
noncomputable def tw17792334645598064325:=()
noncomputable def tw3869354433175753131:=()
noncomputable def tw6047895183420987223:=()
noncomputable def tw2056080414688448977:=()
noncomputable def tw17591251928101747552:=()
noncomputable def tw10940414803216727810:=()
noncomputable def tw4661224061336410674:=()
noncomputable def tw2403253128989878014:=()
noncomputable def tw2007107114456645421:=()
noncomputable def tw18305472964809824945:=()
noncomputable def tw14096233472459517715:=()
noncomputable def tw17438318155759521899:=()
noncomputable def tw11460194944490774758:=()
noncomputable def tw7519457023138139273:=()
noncomputable def tw5602412280315607119:=()
noncomputable def tw5957148794321599931:=()
noncomputable def tw18434067507454241100:=()
noncomputable def tw11675613785821180018:=()
noncomputable def tw5531886301682470924:=()
noncomputable def tw7659542173597060300:=()
noncomputable def tw11528374173506658640:=()
noncomputable def tw1489147143466307205:=()
noncomputable def tw5967144375211476123:=()
noncomputable def tw4427260214885059843:=()
noncomputable def tw5742391630773891573:=()
noncomputable def tw17797039017223944876:=()
noncomputable def tw8387732352434541097:=()
noncomputable def tw9939227375947012044:=()
noncomputable def tw3359894767019959677:=()
noncomputable def tw13164492857967686490:=()
noncomputable def tw1197211325282729554:=()
noncomputable def tw5948567536233898663:=()
noncomputable def tw16274655047612547814:=()
noncomputable def tw9327180962364906456:=()
noncomputable def tw17559488816214351100:=()
noncomputable def tw13322871083635347273:=()
noncomputable def tw9421343682343554984:=()
noncomputable def tw9154597651425455491:=()
noncomputable def tw12469195712755356993:=()
noncomputable def tw1451039224483638035:=()
noncomputable def tw12939447239164132146:=()
noncomputable def tw9845865726081081888:=()
noncomputable def tw5750239442620686268:=()
noncomputable def tw196584867378217231:=()
noncomputable def tw5400222545650799883:=()
noncomputable def tw10159884765144045053:=()
noncomputable def tw3380392573752319035:=()
noncomputable def tw4788287241597947283:=()
noncomputable def tw15679193942181472965:=()
noncomputable def tw5246318689047229964:=()
noncomputable def tw14020907330285761013:=()
noncomputable def tw11915175473369173665:=()
noncomputable def tw12852922930087648998:=()
noncomputable def tw13113819781775244253:=()
noncomputable def tw6538635810572113654:=()
noncomputable def tw9283129093997340498:=()
noncomputable def tw7961525745805961140:=()
noncomputable def tw10868449396983945681:=()
noncomputable def tw8978757704928781356:=()
noncomputable def tw4025213114171161347:=()
noncomputable def tw15620254561074745924:=()
noncomputable def tw16860223278359805078:=()
noncomputable def tw6722986164883921681:=()
end PySem.W.Fast
open PySem PySem.W PyProof.Rows
set_option maxRecDepth 100000 in
set_option maxHeartbeats 0 in
theorem PySem.Challenge.cw_holeyard_k22_whole_alike_holds : PySem.Challenge.rw_holeyard_k22_whole_alike.Holds := by
 w_on;o_law;k_head;(case hw=>w_witness2)
 k_fill
 refine aI.walk (g:=de.gt) (l:=PySem.Challenge.rw_holeyard_k22_whole_alike) (pg:=de.pg) (fds:=de.fds) (n:=21) (f:=42) (x:="_law_script") rfl rfl ∅ uy.Mf (λw h Y=>PySem.W.kIn_of Y) ?F
 case F =>
  intro w aG bo h nT G E7;have cl:aI.nJ (aJ.nS nT) "HoleError" "NoRound":=by
   dsimp only[aJ.nS];refine' aI.Co ?a0 ?l0 ?e0 ?h0 ?a1 ?l1 ?e1 ?n ?i ?t ?p1 ?p2 ?p3 ?p4 ?p5 ?m0
   (case a0=>k_is);(case l0=>k_is);(case e0=>exact⟨_,_,_,_,_,_,_,_,_,_,_,_,_,_,rfl⟩);(case h0=>rfl);(case a1=>k_is);(case l1=>k_is);(case e1=>exact⟨_,_,_,_,_,_,_,_,_,_,_,_,_,_,rfl⟩);(case n=>kernel_rfl);(case i=>k_is);(case t=>kernel_rfl);(case p1=>k_is);(case p2=>k_is);(case p3=>k_is);(case p4=>rfl);(case p5=>rfl);(case m0=>rfl)
  have t:nP.Txt (aJ.nS nT):=by
   refine⟨⟨?_,?_,?_,?_,?_,?_,?_,?_,?_,?_,?_,?_,?_,?_,?_,?_,?_,?_,?_,?_,?_,?_,?_,?_,?_,?_,?_,?_,?_,?_,?_,?_,?_,?_,?_,?_,?_,?_,?_,?_,?_,?_,?_,trivial⟩,⟨?_,?_,?_,?_,?_,?_,?_,?_,?_,?_,?_,?_,?_,trivial⟩,?_,cl⟩<;>dsimp only[aJ.nS]<;>first|(refine' aI.C5 ?a ?l ?c ?k;(case a=>k_is);(case l=>k_is);(case c=>k_is);(case k=>k_is))|k_is
  exact aI.Gx nT G E7 (t.ds.get (f:=42) rfl) rfl (nP.bU 42 ∅) rfl (λ_ _ _ _ _ _ s u=>.of_eq rfl) (nP.cI nT G t)
end
end
