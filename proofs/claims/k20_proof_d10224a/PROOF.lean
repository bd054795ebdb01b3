import PyProof.Rows.All
import Wide.All
import OpenK.AllK
import PySem.Challenge.RW_holeyard_k20_whole_filled_or_not
set_option Elab.async false
set_option linter.all false
set_option maxRecDepth 100000
def PA:=@PySem.wpAny_bind
def PB:=@Bool.and_eq_true
def PC:=@PySem.Heap.get?_push_of_some
def PD:=@Bool.false_eq_true
def PE:=@Nat.le_refl
def PF.{u}:=@List.mem_cons.{u}
def PG.{u}:=@List.getElem?_eq_getElem.{u}
def PH:=@Nat.lt_of_lt_of_le
def PI.{u}:=@List.length_append.{u}
def PJ:=@PySem.Heap.lt_size
def PK.{u}:=@Array.getElem?_eq_getElem.{u}
def PL:=@PyProof.Rows.wpS_bind
def PM:=@decide_eq_true_eq
def PN:=@Nat.zero_le
def PO.{u}:=@List.mem_append_right.{u}
def PQ:=@PySem.Heap.get?_push_size
def PR.{u}:=@List.append_assoc.{u}
def PS.{u}:=@List.mem_append.{u}
def PT.{u}:=@List.size_toArray.{u}
def PU:=@PyProof.Rows.wpS_pure
def PV:=@Nat.mod_two_eq_zero_or_one
def PW:=@Nat.le_trans
def PX.{u,v}:=@List.getElem?_map.{u,v}
def PY:=@Nat.ne_of_lt
def PZ.{u}:=@if_false.{u}
def P0.{u}:=@List.pairwise_append.{u}
def P1.{u}:=@List.getElem?_append_left.{u}
def P2.{u}:=@Array.getElem?_toList.{u}
def P4.{u}:=@List.mem_filter.{u}
def P5.{u}:=@List.getElem?_eq_some_iff.{u}
def P6.{u}:=@List.mem_singleton.{u}
def P7.{u}:=@List.pairwise_cons.{u}
def P8.{u}:=@beq_iff_eq.{u}
def P9.{u}:=@Array.getElem?_eq_some_iff.{u}
def Qa:=@PySem.Heap.get?_update_other
def Qb.{u}:=@List.getElem?_eq_none.{u}
def Qd.{u}:=@List.all_eq_true.{u}
def Qe.{u}:=@Array.toList_append.{u}
def Qf:=@PySem.Heap.get?_update_self
def Qg:=@Nat.le_add_right
def Qh.{u}:=@Array.size_push.{u}
def Qi:=@PySem.wpAny_newObj_type
def Qj:=@PySem.wpAny_setState_of
def Qk.{u}:=@List.nodup_cons.{u}
def Ql.{u}:=@Option.some.inj.{u}
def Qm:=@PyProof.Rows.callWith_type1
def Qn:=@Bool.not_eq_true'
def Qo:=@Nat.lt_of_le_of_lt
def Qp.{u,v}:=@List.lookup_cons.{u,v}
def Qq.{u}:=@List.getElem?_append_right.{u}
def Qr:=@Nat.pow_le_pow_right
def Qs:=@Nat.le_of_lt
def Qt.{u}:=@List.length_take.{u}
def Qu.{u}:=@Array.size_extract.{u}
def Qv:=@Classical.byContradiction
def Qw.{u}:=@List.drop_eq_getElem_cons.{u}
def Qx:=@Nat.testBit_lt_two_pow
def Qy:=@Nat.le_sub_one_of_lt
def Qz:=@Nat.max_eq_right
def QA:=@PySem.W.kia_one
def QB.{u}:=@List.append_nil.{u}
def QC.{u}:=@List.nodup_iff_pairwise_ne.{u}
def QD.{u}:=@List.Pairwise.sublist.{u}
def QE:=@PySem.mem_of_lookup
def QF:=@PySem.Heap.SameBut.update
def QG.{u}:=@Ne.symm.{u}
def QH:=@Nat.min_eq_left
def QI.{u}:=@if_true.{u}
def QJ:=@Nat.add_sub_of_le
def QK.{u}:=@List.take_of_length_le.{u}
def QL:=@Bool.false_ne_true
def QM:=@PyProof.Rows.slot_tuple_getitem
def QN.{u}:=@List.take_append_drop.{u}
def QO.{u}:=@List.contains_iff_mem.{u}
def QP:=@PySem.wpAny_mono
def QQ:=@PySem.wpAny_call_entry
def QR:=@Nat.add_sub_cancel_left
def QS:=@PySem.wpAny_holding
def QT:=@Bool.not_true
def QU.{u,v}:=@List.pairwise_map.{u,v}
def QV:=@Nat.le_of_lt_succ
def QW:=@PySem.wpAny_loadPart_at
def QX.{u}:=@List.mem_of_getElem?.{u}
def QY:=@PySem.wpAny_Call_Name_kw
def QZ:=@Nat.lt_trans
def Q0:=@Nat.xor_lt_two_pow
def Q1:=@PyProof.Rows.wpS_forRange
def Q2.{u}:=@Array.getElem?_setIfInBounds.{u}
def Q3:=@PySem.codeAny_builtin
def Q4.{u}:=@Array.getInternal_eq_getElem.{u}
def Q5:=@Nat.lt_irrefl
def Q6.{u}:=@List.length_drop.{u}
def Q7.{u}:=@List.Pairwise.imp_of_mem.{u}
def Q8.{u,v}:=@List.map_congr_left.{u,v}
def Q9.{u,v}:=@congrArg.{u,v}
def Ra.{u}:=@Option.some.injEq.{u}
def Rb.{u}:=@Array.getD_eq_getD_getElem?.{u}
def Rc:=@PySem.wpAny_callSpecial?_slot
def Rd:=@Nat.lt_of_le_of_ne
def Rf:=@Nat.xor_assoc
def Rg:=@Nat.lt_succ_self
def Rh:=@PySem.wpAny_truthy_bool
def Ri:=@PySem.wpAny_setField
def Rj:=@Nat.testBit_xor
def Rk:=@Bool.or_eq_true
def Rl:=@PySem.F.slot_dict_keyiterator_next
def Rm:=@Int.natCast_nonneg
def Rn.{u}:=@List.pairwise_singleton.{u}
def Ro.{u}:=@List.mem_iff_getElem.{u}
def Rp:=@PySem.Around.under_plainId
def Rq:=@PySem.wpAny_askSetting
def Rr.{u}:=@List.idxOf_lt_length_of_mem.{u}
def Rt.{u,v}:=@List.map_nil.{u,v}
def Ru.{u}:=@Array.size_append.{u}
def Rv.{u}:=@List.nodup_append.{u}
def Rw:=@PyProof.Rows.wpS_mono
def Rx.{u}:=@List.replicate_succ.{u}
def Ry:=@Nat.add_lt_add_left
def Rz:=@PySem.wpAny_isSubtype_exc
def RA:=@PySem.Calls.spliced_cons
def RB:=@PyProof.Rows.callWith_builtin1
def RC:=@PySem.Obj.data_mapFields
def RD:=@Nat.add_assoc
def RE:=@PySem.wpAny_field
def RF.{u}:=@List.nodup_nil.{u}
def RG:=@PySem.wpAny_typeNameOfWhole_keyiter
def RH.{u}:=@List.countP_congr.{u}
def RI.{u}:=@List.ext_getElem?.{u}
def RJ.{u}:=@bne_self_eq_false.{u}
def RK:=@of_decide_eq_true
def RL.{u,v}:=@List.countP_map.{u,v}
def RM:=@PyProof.Rows.wpS_modify
def RN.{u}:=@List.countP_eq_length_filter.{u}
def RO.{u}:=@List.filter_sublist.{u}
def RP:=@PyProof.Rows.F.plain_set_update_loop
def RQ:=@Nat.add_le_add_left
def RR:=@Nat.xor_zero
def RS.{u}:=@Array.getElem?_eq_none.{u}
def RT.{u}:=@List.filter_eq_nil_iff.{u}
def RU:=@Nat.min_le_right
def RV.{u,v}:=@List.mem_flatMap.{u,v}
def RW:=@Nat.add_sub_cancel
def RX:=@Nat.add_right_comm
def RY.{u}:=@List.eq_nil_or_concat.{u}
def RZ.{u}:=@List.concat_eq_append.{u}
def R0.{u}:=@List.Perm.append_left.{u}
def R1.{u}:=@List.pairwise_iff_getElem.{u}
def R2:=@Nat.sub_lt_left_of_lt_add
def R3:=@Nat.min_le_left
def R4:=@Bool.eq_iff_iff
def R5.{u}:=@List.length_set.{u}
def R6.{u}:=@List.getElem?_set_ne.{u}
def R7:=@PySem.Calls.spliced_nil
def R8:=@PySem.wpAny_typeOf
def R9.{u}:=@List.flatten_cons.{u}
def Sa:=@Nat.zero_xor
def Sb:=@Nat.pow_lt_pow_right
def Sd:=@Nat.eq_of_testBit_eq
def Se:=@PySem.Heap.SameBut.refl
def Sf.{u}:=@Array.toList_reverse.{u}
def Sg:=@Nat.testBit_two_pow_self
def Sh:=@Nat.not_lt
def Si:=@PySem.wpAny_typeNameOf_keyiter
def Sj:=@PySem.AutoSeq1.wpAny_loadPart'
def Sk:=@Nat.testBit_two_pow
def Sl:=@List.getElem?_range
def Sm.{u}:=@List.getElem?_replicate.{u}
def Sn:=@Nat.zero_testBit
def So.{u}:=@List.getElem_mem.{u}
def Sp.{u}:=@List.not_mem_nil.{u}
def Sq:=@PySem.wpAny_isInstance
def Sr:=@Nat.sub_le
def Ss.{u,v}:=@List.all_map.{u,v}
def Su:=@Nat.xor_self
def Sv:=@Nat.and_mod_two_eq_one
def Sw.{u}:=@Array.getElem?_extract.{u}
def Sx:=@PySem.F.called_set
def Sy.{u}:=@List.filter_append.{u}
def Sz:=@PySem.wpAny_rule
def SA.{u}:=@List.Perm.append_right.{u}
def SD.{u}:=@List.drop_eq_nil_of_le.{u}
def SE.{u}:=@List.contains_cons.{u}
def SF:=@Nat.two_pow_pos
def SG.{u}:=@List.length_replicate.{u}
def SH.{u}:=@List.getElem?_toArray.{u}
def SI:=@PySem.Obj.isFreed_of_fields
def SJ:=@Nat.add_le_of_le_sub'
def SK.{u}:=@List.perm_append_comm.{u}
def SM:=@Nat.add_lt_of_lt_sub'
def SN.{u}:=@List.Pairwise.imp.{u}
def SO:=@PySem.wpAny_storeSet_of
def SP.{u}:=@Array.toList_push.{u}
def SQ.{u}:=@List.count_append.{u}
def SR:=@Bool.false_and
def SS:=@Nat.sub_lt_sub_right
def SU.{u}:=@List.getD_eq_getElem?_getD.{u}
def SV:=@Nat.le_of_not_lt
def SW:=@Nat.zero_add
def SX:=@PySem.putSet_of
def SY.{u}:=@List.drop_length.{u}
def S0.{u}:=@List.any_eq_true.{u}
def S1.{u}:=@List.nil_sublist.{u}
def S2.{u}:=@List.countP_eq_zero.{u}
def S3:=@PyProof.Rows.F.entry_set_update_loop
def S4.{u}:=@List.reverse_append.{u}
def S5.{u,v}:=@List.flatMap_append.{u,v}
def S6:=@PySem.F.args_tuple_add_2
def S7.{u}:=@List.length_erase_of_mem.{u}
def S8:=@PySem.wpAny_attempt
def S9:=@PySem.wpAny_passesOwn
def Ta:=@Nat.le_add_left
def Tb.{u,v}:=@List.mem_filterMap.{u,v}
def Tc.{u}:=@List.getElem_idxOf.{u}
def Td.{u}:=@List.count_eq_zero.{u}
def Te:=@PySem.F.entry_tuple_add
def Tf:=@Nat.exists_eq_add_of_le
def Tg.{u}:=@List.length_eq_zero_iff.{u}
def Th:=@PySem.F.plainAttrs_list
def Ti:=@PySem.W.kitx_dict
def Tj:=@PySem.F.slot_tuple_add
def Tn:=@Nat.xor_mod_two_eq_one
def To:=@List.pairwise_lt_range
def Tp:=@PySem.wpAny_runValue
def Tq:=@PySem.F.plain_list_iadd
def Tr.{u}:=@List.getElem_take.{u}
def Ts:=@List.range_succ_eq_map
def Tt:=@Bool.or_true
def Tu.{u}:=@List.mk_mem_zipIdx_iff_getElem?.{u}
def Tv:=@PySem.F.slot_dict_get
def Tw:=@PySem.builtinLookup_eq_fast
def Tx:=@Nat.le_sub_of_add_le'
def Tz:=@Nat.add_sub_add_right
def TA.{u}:=@List.set_append_right.{u}
def TB.{u}:=@List.length_filter_le.{u}
def TC:=@PySem.F.typeOf_object_class
def TF:=@PySem.wpAny_forIn_list
def TG:=@Nat.testBit_zero
def TH:=@Nat.testBit_succ
def TJ:=@PySem.F.args_dict_keyiterator_next_1
def TK.{u}:=@Array.toList_inj.{u}
def TL:=@PyProof.Rows.reverseSlice'_eq
def TM.{u}:=@List.sublist_nil.{u}
def TN.{u}:=@List.filter_cons.{u}
def TO:=@PySem.plainId_quiet
def TP:=@PySem.Calls.evalArgs_plain
def TQ.{u}:=@List.eq_nil_of_length_eq_zero.{u}
def TR:=@Nat.add_sub_add_left
def TS:=@PySem.codeAny_call_builtin
def TU:=@PySem.F.entry_dict_keyiterator_next
def TV.{u}:=@Array.toList_extract.{u}
def TX.{u}:=@List.mem_of_mem_take.{u}
def TY:=@PySem.wpAny_execs_nil
def TZ:=@Nat.div_add_mod
def T1:=@Nat.and_div_two
def T2:=@PySem.wpAny_updateSeq
def T3:=@Nat.sub_lt_sub_left
def T4:=@PySem.wpAny_setEntries_of
def T5:=@Nat.sub_le_sub_left
def T6.{u}:=@List.getElem_of_mem.{u}
def T7:=@Nat.ne_of_gt
def T8:=@PySem.codeAny_mono
def T9:=@PyProof.Rows.wpS_get
def Ua:=@PySem.Calls.Name_function_global
def Ub:=@Int.fdiv_eq_ediv_of_nonneg
def Uc:=@PySem.tupleKind_room_in1
def Ud:=@Bool.not_false
def Ue.{u}:=@List.Perm.refl.{u}
def Ug:=@Int.emod_lt_of_pos
def Uh.{u}:=@List.perm_ext_iff_of_nodup.{u}
def Ui:=@PySem.Code.quiet_builtin
def Uj:=@PySem.isSubtype_type
def Uk:=@PySem.wpAny_fieldsOf
def Ul.{u}:=@List.take_zero.{u}
def Um:=@Nat.sub_add_cancel
def Un.{u}:=@Array.toList_setIfInBounds.{u}
def Uo.{u}:=@List.getElem?_drop.{u}
def Up.{u}:=@Array.perm_iff_toList_perm.{u}
def Uq:=@Nat.lt_of_add_lt_add_left
def Ur:=@PySem.Value.isInt_shape
def Us.{u,v}:=@Sum.inl.inj.{u,v}
def Ut.{u}:=@List.any_eq_false.{u}
def Uu:=@PySem.W.kitx_list
def Uv:=@Nat.lt_succ_of_le
def Uw:=@Nat.sub_pos_of_lt
def Ux:=@PySem.wpAny_pyIter_list
def Uy:=@PySem.wpAny_pyIter_slot
def Uz.{u}:=@Array.isEmpty_iff.{u}
def UA:=@PySem.wpAny_setEpoch_of
def UB:=@PySem.wpAny_dictEntries
def UC.{u}:=@dif_pos.{u}
def UD.{u}:=@List.getElem_drop.{u}
def UE.{u}:=@List.filter_congr.{u}
def UG.{u,v}:=@List.flatMap_cons.{u,v}
def UH.{u}:=@List.Sublist.refl.{u}
def UI:=@PySem.AutoSeq1.sub_tuple_tuple
def UJ.{u}:=@List.sum_cons.{u}
def UK:=@PyProof.Rows.listUpdate_at
def UL:=@PySem.noFill_tuple_add
def UM:=@Nat.min_eq_right
def UN:=@PySem.F.args_dict_get_3
def UO:=@Nat.exists_eq_add_of_lt
def UP.{u}:=@List.perm_middle.{u}
def UQ:=@PyProof.Rows.wpS_lift
def UR.{u}:=@List.zipIdx_cons.{u}
def US:=@decide_eq_false_iff_not
def UT:=@PySem.isinstance_outer
def UU.{u}:=@List.take_length.{u}
def UW:=@PySem.W.cellsFrom_some
def UX:=@PySem.concat_meets
def UY:=@PySem.call_meets
def UZ:=@Nat.le_of_eq
def U0:=@PySem.F.entry_dict_get
def U1:=@Nat.add_zero
def U2:=@Nat.min_self
def U3:=@Nat.sub_self
def U4:=@PySem.wpAny_specialOf
def U5:=@Nat.xor_div_two
def U6:=@Nat.testBit_and
def U7:=@Int.emod_nonneg
def U8:=@PySem.typeLookup_type
def U9:=@PySem.wpAny_dictEpoch
def Va:=@Nat.le_antisymm
def Vb:=@PySem.call_isinstance
def Vc:=@Bool.xor_false
def Vd:=@PySem.wpAny_seqItems
def Ve:=@decide_true
def Vf:=@PySem.wpAny_of_eq
def Vg:=@PySem.Heap.size_push
def Vh:=@PySem.entryFor_alias
def Vi:=@PySem.isSubtype_stop
def Vj:=@Nat.add_le_add_right
def Vk:=@Nat.le_sub_of_add_le
def Vl:=@PySem.wpAny_loadPart
def Vm:=@PySem.Paired.length
def Vn:=@PySem.seq_tuple_add
def Vo:=@PySem.wpAny_handled
def Vp:=@PySem.wpAny_newList
def Vq:=@PySem.F.slot_gs_get
def Vr:=@PySem.W.mg_of
def Vs:=@PySem.wpAny_load
def Vt:=@PySem.W.kitx_tuple
def Vu:=@Nat.mod_lt
def Vv:=@Bool.not_eq_false'
def Vw:=@Nat.sub_lt
def Vx:=@PySem.W.mg_none_of
def Vy:=@Nat.lt_or_ge
def Vz:=@or_false
def VA:=@Iff.rfl
noncomputable section
local macro_rules|`(abbrev $i:declId $s:optDeclSig $v:declVal)=>`(noncomputable def $i:declId $s:optDeclSig $v:declVal)
local macro_rules|`(⇑$x)=>`(by simpa using $x)
open Array renaming length_toList->VH,getD->WJ,replicate->Xf,size_setIfInBounds->XT,getElem?_append->Yr,getElem?_map->Zd,forIn_toList->Ze,size_reverse->Zf,toList_map->ZK
open Bool renaming false->VC,and_false->WM,true_and->Y3,true->J
open False renaming elim->W7
open ForInStep renaming yield->WQ
open Function renaming comp->Xq
open Int renaming toNat_natCast->Wk,max_eq_right->ZE,min_eq_left->ZR
open List renaming length_map->VD,mem_cons_self->VF,mem_cons_of_mem->VG,map_cons->VK,mem_map->VP,range->VR,length_cons->VS,map_map->VU,mem_append_left->VV,map_append->VW,mem_range->VZ,replicate->V0,length_singleton->V8,foldl_append->Wf,length_nil->Wq,find?_cons->Wr,any_cons->Ws,filterMap_cons->Ww,foldl_cons->Wx,countP_cons->Wz,getD->WG,extract_eq_drop_take->WH,all_cons->WS,length_range->WZ,nil_append->W4,getElem?_zip_eq_some->XN,count_singleton_self->XO,length->XP,getElem?_take_of_lt->XS,cons_append->X0,getElem?_cons_succ->X2,getElem?_set_self->X7,length_pos_of_mem->Yg,getElem_cons_drop->Yi,drop_of_length_le->Yj,sublist_cons_self->Yk,of_mem_zip->Ym,mem_iff_getElem?->Yu,mem_erase_of_ne->YD,nodup_iff_count->YF,reverse_reverse->YI,getElem?_append->YJ,foldl_nil->YK,count_singleton->YL,lookup->YN,getElem_toArray->YO,mem_map_of_mem->YW,zipIdx_map_fst->YY,zip_cons_cons->Za,zipIdx_append->Zb,count_pos_iff->Zc,getElem?_take->Zg,find?_eq_none->Zh,nodup_range->ZH,any_toArray->ZM,foldl->Z6,idxOf->aac
open List.Pairwise renaming nil->Xn
open List.Perm renaming trans->Xx,swap->XJ,cons->YE,of_eq->ZU
open List.Sublist renaming append->YX
open Nat renaming not_lt_zero->WY,pow_succ->W3,strongRecOn->Yn,lt_trichotomy->Zl,sub_zero->Zm,lt_succ_of_lt->Zp,lt_of_succ_lt->Zv,add_sub_assoc->Zw,le_of_not_le->ZJ,and_le_left->ZS,mul_add_div->ZT,zero_lt_one->ZX
open Option renaming map_some->WO,bind_eq_bind->XA,isSome_iff_exists->XR,bind_some->X1,getD_none->ZF,getD_some->ZL,pure_def->ZV,some->Z,none->Y
open Prod renaming fst->aab
open PyProof.Rows renaming arrOf->VL,Keyed->VN,SortSt->V5,IntsAre->Wh,pendingOf->Wn,failedOf->WA,seqObj->WR,elem'->WV,SortKind->W9,mirror->Xy,AllBare->XB,reverseSlice'->XX,subscriptTail_builtinR->Yc,get?_update_seq->Yp,wpS->Yz,entry_tuple_getitem->YV,subscriptTail->Y0,envOfC->Y8,listItems_at->Zt,seqEpoch_at->ZQ,IsTup->Z1
open PyProof.Rows.SortSt renaming mk'->aaa
open PySem renaming wpAny_pure->VB,Value->VE,Shared->VI,wpAny->VJ,model->VM,Addr->VO,Str->VT,starEach->VX,Expr->VY,mainGlobals->V1,sizeLine->V2,sizeLine_eq->V3,compareOp->V4,Heap->V9,Program->Wa,Around->Wc,excClassObj->Wd,Stmt->Wl,World->Wm,bootBuiltins->Wt,eval->Wu,binaryOp->Wv,cLine->Wy,foldedSetIterable->WD,sysModules->WI,Builtin->WK,Obj->WW,NameKind->W2,assignEach->W6,firstArgMember->W8,swapsWith->Xa,SetTable->Xd,backTo->Xg,sliceBounds->Xi,Pos->Xj,pyNext->Xk,rawInt->Xl,ofAClassStatement->Xo,behindInMarks->Xp,Scope->Xs,FuncData->Xt,letOwnedTupleGo->Xu,codeAny->XC,Keyword->XD,getItem->XE,setsByText->XK,unsupported->XQ,setSearchFrom->XU,tupleKind->XZ,checkBuiltinCall->X3,setFlight->X5,compEnvC->X6,holding->X8,wpAny_pyNext_list_item->X9,BindsTo->Ya,IsPart->Yb,typeOf->Yd,callerA->Yf,setAddHashed->Yh,wpAny_pyIter_listiter->Yq,wpAny_eqIsQuiet_tuple->Ys,wpAny_isSame_ref_self->Yt,wpAny_isOneOf_keyiter->Yw,pyIter->YA,subscripted->YB,keywordEach->YC,hashByValue->YG,wpAny_pyIter_keyiter->YH,lastMarks->YR,valueAt->YS,pickOrder->YT,collect->YU,attributeBase->Y1,ExceptHandler->Y2,signature?_of->Y5,setWalkUnseen->Y6,isTrue->Y7,Model->Zi,spliced->Zj,rule->Zk,sub_set_self->Zo,entryFor->Zq,ReadsAll->ZA,assign->ZC,PassesOwn->ZD,DictEntry->ZG,Sem->ZN,atKey->ZO,wpAny_throw->ZP,intKind->ZY,newList->ZZ,ItemsOf->Z0,bindL->Z3,bindC->Z4,backToKw->Z5,stored->Z7
open PySem.Builtin renaming bitAnd->Xm,bitXor->Z2
open PySem.Builtin.Dict renaming showsAll->Yv
open PySem.Builtin.Dict_items renaming ownsTuple->Xw
open PySem.Builtin.Frozenset renaming addrOf->Wb,symmetricDifferenceUpdate->WC,isAnySet->WU,baseOf->Xe,updateFrom->Xv,unchanged->XG,newFrom->XM,slot1->X4
open PySem.Builtin.List renaming listExtendWith->WB,listTooLong->W0,listLengthHint->XF,listSameRef->XW
open PySem.Builtin.Range renaming rangeSize->Xh
open PySem.Builtin.Slice renaming slicePlaces->WX,sliceAdjust->Xc,sliceApplied->XH
open PySem.Builtin.Tuple renaming tupleExact->WL,tupleItemsOf->XI
open PySem.Calls renaming callWith_builtin->Ye
open PySem.EntryCells renaming newEntry->YZ
open PySem.F renaming entry_proto_collect->Yx,plain_proto_collect->Yy,excAttr_ValueError->YM,excBase_ValueError->YP,entry_list_iadd->Zu
open PySem.Heap renaming SameBut->V6
open PySem.IsTupleKey renaming typeIs->Zn,inj->Z9
open PySem.NameKind renaming free->V7,cell->WT
open PySem.Obj renaming mapFields->Wi,mapSeq->Wo,putSet->WE,cls_mapFields->Zs
open PySem.PyData renaming depthAll->Xz,canLayAll0->Zz
open PySem.SeqAt renaming EqAt->Y9
open PySem.SetFound renaming there->Z8
open PySem.SetTable renaming fresh->We,relaid->Yo,laid->Y4,tooFull->ZI,fill->aad
open PySem.Str renaming ofString->Xb
open PySem.Value renaming ref->VQ,type->Wj,bool->WN,int->W5,isInt->Xr,builtin->XY,scannable->ZW
open PySem.W renaming findIn->Yl,kas_ask->Zx,looks_findIn->Zy
open PySem.pickOrder renaming go->Zr
open Sum renaming inl->Wg,inr->YQ
set_option tactic.hygienic false
set_option bootstrap.genMatcherCode false
set_option compiler.extract_closed false
namespace Nat
def Zq0{a b c:Nat}(h:a<b):a<c+b:=Nat.lt_of_lt_of_le h (Nat.le_add_left ..)
def Zq1{a b c:Nat}(h:a<b):a<b+c:=Nat.lt_of_lt_of_le h (Nat.le_add_right ..)
def Zq2{a b c:Nat}(h:c+a<=b):a<=b:=Nat.le_trans (Nat.le_add_left ..) h
def Zq3{a b c:Nat}(h:a+c<=b):a<=b:=Nat.le_trans (Nat.le_add_right ..) h
def Zq4{a b c:Nat}(h:a<b):a-c<b:=Nat.lt_of_le_of_lt (Nat.sub_le ..) h
def Zq5{a b c:Nat}(h:a<=b):a-c<=b:=Nat.le_trans (Nat.sub_le ..) h
def Zq6{a b c:Nat}(h:a<=b):c+a<=c+b:=Nat.add_le_add_left h _
def Zq7{a b c:Nat}(h:a<b):c+a<c+b:=Nat.add_lt_add_left h _
def Zq8{a:Nat}(h:0<a):a-1<a:=Nat.sub_lt h (by decide)
def ZqA{a b:Nat}(h:0<a)(i:a<=b):a-1<b:=Nat.lt_of_lt_of_le (Zq8 h) i
def ZqB{a b:Nat}(h:1<a)(i:a<=b):a-1<b:=ZqA (Nat.lt_of_succ_lt h) i
def ZqC{a b:Nat}(h:a<=b):0+a<=b:=by rwa [Nat.zero_add]
def ZqD{a b:Nat}:min a b<=a:=Nat.min_le_left ..
def ZqE{a b:Nat}(h:¬a<=b):b<a:=Nat.not_le.mp h
def ZqF{a b:Nat}(h:¬a<b):b<=a:=Nat.not_lt.mp h
def Zq9{a b:Nat}{C:Prop}(h:a<b)(i:b<=a):C:=absurd h (Nat.not_lt.mpr i)
end Nat
local macro_rules|`(tactic|lia)=>do
 let t<-("le_trans lt_of_lt_of_le lt_of_le_of_lt lt_trans le_antisymm Zq9 ZqA ZqB pos_of_ne_zero min_eq_left add_sub_of_le Zq0 Zq1 Zq2 Zq3 Zq4 Zq5 Zq6 Zq7 Zq8 ZqC ZqD le_sub_one_of_lt sub_succ_lt_self lt_succ_of_le le_of_succ_le_succ le_succ_of_le le_of_lt ZqE ZqF".splitOn " ").foldlM (λt n=>`(tactic|first|(with_reducible apply $(Lean.mkIdent (.str `Nat n))<;>assumption)|$t:tactic)) (<-`(tactic|first|lia -verbose|omega))
 `(tactic|first|decide|assumption|exact Nat.le_trans ‹_› (by decide)|exact Int.le_trans ‹_› (by decide)|(simp +arith only;done)|$t:tactic)
local macro_rules|`(↥$x)=>`(by simp at $x:term;lia)
local macro_rules|`(⋯)=>`(by lia)
local macro_rules|`(∅)=>`(by decide)
section
namespace aH
open PySem PySem.Spec PyProof.Rows
noncomputable abbrev Key:=Sum Int VT
abbrev lF:Key->VE->Bool
 |.inl k,v=>Xr k v
 |.inr x,v=>Value.isStrOf x v
abbrev Hm(w:Wm):Key->Int
 |.inl k=>hashInt k
 |.inr x=>hashStr w x
def iE:∀{k:Key}{v:VE},lF k v=J->(∃i t,k=Wg i/\v=W5 i t)\/(∃x t,k=YQ x/\v=Value.str x t)
 |.inl i,v,h=>by
  obtain⟨t,e⟩:=Ur (k:=i) (v:=v) h;exact .inl ⟨i,t,rfl,e⟩
 |.inr x,v,h=>by
  obtain⟨t,e⟩:=Value.isStrOf_shape (x:=x) (v:=v) h;exact .inr ⟨x,t,rfl,e⟩
def Hn(i)(t):lF (.inl i) (.int i t)=true:=by simp[lF,Xr]
def Ho(x)(t):lF (.inr x) (.str x t)=true:=by simp[lF,Value.isStrOf]
def Hq(a b):decide ((Wg a:Key)=Wg b)=(a==b):=by
 by_cases e:a=b
 .subst e;simp
 .have h:¬(Wg a:Key)=Wg b:=λq=>e (Us q)
  rw[decide_eq_false h];exact(beq_eq_false_iff_ne.mpr e).symm
def Ht(a b):decide ((YQ a:Key)=YQ b)=decide (a=b):=by
 by_cases e:a=b
 .subst e;simp
 .have h:¬(YQ a:Key)=YQ b:=λq=>e (Sum.inr.inj q)
  rw[decide_eq_false h,decide_eq_false e]
def Hr(a)(b):decide ((Wg a:Key)=YQ b)=false:=decide_eq_false (λq=>nomatch q)
def Hs(a)(b):decide ((YQ a:Key)=Wg b)=false:=decide_eq_false (λq=>nomatch q)
def eL(prog)(w):PySem.KeyKind prog w Key where
 is:=lF
 hash:=Hm w
 inj:=λv a b f d=>by
  rcases iE f with⟨i,t,rfl,rfl⟩|⟨x,t,rfl,rfl⟩
  .rcases iE d with⟨j,u,rfl,e⟩|⟨y,u,rfl,e⟩
   .injection e with e1 _;rw[e1]
   .exact nomatch e
  .rcases iE d with⟨j,u,rfl,e⟩|⟨y,u,rfl,e⟩
   .exact nomatch e
   .injection e with e1 _;rw[e1]
 byValue:=λk v h=>by
  rcases iE h with⟨i,t,rfl,rfl⟩|⟨x,t,rfl,rfl⟩<;>rfl
 pyHash:=λc h=>by
  rcases iE c with⟨i,t,rfl,rfl⟩|⟨x,t,rfl,rfl⟩
  .exact wpAny_pyHash_int h
  .exact wpAny_pyHash_str h
 eqBool:=λg c h=>by
  rcases iE g with⟨i,t,rfl,rfl⟩|⟨x,t,rfl,rfl⟩
  .rcases iE c with⟨j,u,rfl,rfl⟩|⟨y,u,rfl,rfl⟩
   .rw[Hq]at h;exact wpAny_eqBool_int h
   .rw[Hr]at h;exact SeqAt.EqAt.int_str i t y u _ _ _ _ h
  .rcases iE c with⟨j,u,rfl,rfl⟩|⟨y,u,rfl,rfl⟩
   .rw[Hs]at h;exact SeqAt.EqAt.str_int x t j u _ _ _ _ h
   .rw[Ht]at h;exact wpAny_eqBool_str h
 «strs»:=λk x t v h=>by
  rcases iE h with⟨i,u,rfl,e⟩|⟨y,u,rfl,e⟩
  .exact nomatch e
  .injection e with e1 _;subst e1;cases v<;>rfl
def IE(prog)(w)(i)(t):(eL prog w).is (.inl i) (.int i t)=true:=Hn i t
def IF(prog)(w)(x)(t):(eL prog w).is (.inr x) (.str x t)=true:=Ho x t
end aH
namespace aH
open PySem PySem.Spec PyProof.Rows
inductive V where
 |aW|ag (b:Bool)|int (i:Int)|str (x:VT)|r8 (b:Array UInt8)|gD (b:UInt64)|ref (a:VO)|ty (n:String)
 deriving DecidableEq
abbrev RelV:V->VE->Prop
 |.aW,u=>u=Value.none
 |.ag b,u=>u=WN b
 |.int i,u=>∃t,u=W5 i t
 |.str x,u=>∃t,u=Value.str x t
 |.r8 b,u=>∃t,u=Value.bytes b t
 |.gD b,u=>∃t,u=Value.float b t
 |.ref a,u=>u=VQ a
 |.ty n,u=>u=Wj n
noncomputable abbrev Vals:List V->List VE->Prop:=Paired RelV
theorem Vals.length(r:Vals xs a):xs.length=a.length:=Vm r
theorem Vals.get:∀{xs:List V}{a:List VE}{i:Nat}{x:V},Vals xs a->xs[i]?=Z x->∃u,a[i]?=Z u/\RelV x u
 |_,_,_,_,.nil,e=>by simp at e
 |_,_,0,_,.cons r _,e=>by simp at e;subst e;exact⟨_,rfl,r⟩
 |_,_,i+1,x,.cons _ t,e=>by
  obtain⟨u,b,h2⟩:=Vals.get (i:=i) (x:=x) t ⇑e;exact⟨u,⇑b,h2⟩
theorem Vals.append:∀{xs ys:List V}{a b:List VE},Vals xs a->Vals ys b->Vals (xs++ys) (a++b)
 |_,_,_,_,.nil,s=>s
 |_,_,_,_,.cons r t,s=>.cons r (Vals.append t s)
theorem Vals.take:∀{xs:List V}{a:List VE}(n:Nat),Vals xs a->Vals (xs.take n) (a.take n)
 |_,_,0,_=>.nil
 |_,_,_+1,.nil=>.nil
 |_,_,n+1,.cons r t=>.cons r (Vals.take n t)
theorem Vals.drop:∀{xs:List V}{a:List VE}(n:Nat),Vals xs a->Vals (xs.drop n) (a.drop n)
 |_,_,0,r=>r
 |_,_,_+1,.nil=>.nil
 |_,_,n+1,.cons _ t=>Vals.drop n t
def gc:Option V->Option VE->Prop
 |some v,Z u=>RelV v u
 |none,Y=>True
 |_,_=>False
def dg{κ:Type}:List (κ×V)->List (κ×VE)->Prop:=Paired λ(p:κ×V)(q:κ×VE)=>p.1=q.1/\RelV p.2 q.2
abbrev bO:Key->V
 |.inl i=>.int i
 |.inr x=>.str x
inductive eP where
  |lst (xs:List V)
  |tup (xs:List V)
  |b5 (gj:List (Key×V))|ck (gj:List (List Key×V))
  |set (S:Int->Bool) (n:Nat)
  |ins (C cU:VO) (bD:List (VT×V))
  |own (x:VO)
  |qM (bD:List (VT×V))
  |met (f x:VO)
  |dG (lo hi:Int)
  |cv (o:WW) (u:eP)
  |jF (ec:Array VE)
  |ext (Pz:V9->Prop)
noncomputable abbrev ah:=VO->Option eP
abbrev upd(H:ah)(a:VO)(o:eP):ah:=λb=>if b=a then Z o else H b
def b4:upd H a o a=Z o:=by unfold upd;rw[if_pos rfl]
def bk(h:b≠a):upd H a o b=H b:=by unfold upd;rw[if_neg h]
def u4:upd (upd H a o) a u=upd H a u:=by
 funext b;unfold upd;split<;>rfl
def I2{H:ah}(h:H a=Z o)(h':H b=Z u)(d:o≠u):a≠b:=by
 intro e;subst e;rw[h]at h';exact d (Ql h')
def gk{H:ah}(h:H a=Z o)(h':H b=Y):a≠b:=by
 intro e;subst e;rw[h]at h';cases h'
section
variable(P:Wa)(w:Wm)
def bX(H:ah)(h:V9)(a:VO):eP->Prop
 |.lst xs=>xs.length<=V2/\∃(its:List VE)(n:Nat),Vals xs its/\h.get? a=Z { cls:=.type "list",data:=.seq its.toArray n }
 |.tup xs=>xs.length<=V2/\∃its:List VE,Vals xs its/\Z1 h a its.toArray
 |.b5 d=>d.length<=V2/\(a==WI)=VC/\∃k,dg d k/\h.DictOf (eL P w) a k
 |.ck d=>d.length<=V2/\(a==WI)=VC/\∃xs:List (List Key×VO×VE),
   Paired (λ(p:List Key×V)(q:List Key×VO×VE)=>p.1=q.1/\H q.2.1=Z (.tup (p.1.map bO))/\RelV p.2 q.2.2) d xs /\
   ∃o i l,h.get? a=Z o/\o.ExactDict/\o.data=.dict i l/\i.toList=xs.map (entryOfKey (XZ (eL P w)))/\(xs.map (·.1)).Nodup
 |.set S n=>h.SetOf (ZY P w) a S n
 |.ins C e c=>H e=Z (.own a)/\c.length<=1000/\e≠a/\h.get? a=Z (PySem.W.instObj C e) /\
   ∃b,h.Ns1 e b/\(∀f,gc (c.lookup f) (b f))/\PySem.Within b (c.map (·.1))
 |.own _=>∃o,h.get? a=Z o
 |.qM c=>∃b,h.Ns1 a b/\∀f,gc (c.lookup f) (b f)
 |.dG lo hi=>∃t u v,h.get? a=Z { cls:=.type "range",data:=.fields #[.int lo t,.int hi u,.int 1 v] }
 |.cv o u=>h.get? a=Z o/\bX H h a u
 |.jF m=>h.get? a=Z { cls:=.none,data:=.fields m }
 |.met f x=>h.get? a=Z (PySem.W.methodObj (.ref f) (.ref x))
 |.ext g=>g h/\(∃o,h.get? a=Z o)/\∀j h2:V9,g j->(∀o,j.get? a=Z o->h2.get? a=Z o)->g h2
def cF(H:ah)(h:V9):Prop:=∀a o,H a=Z o->bX P w H h a o
end
section
variable{P:Wa}{w:Wm}{H aC:ah}{h h':V9}{a:VO}{o:eP}
theorem bX.lt(x:bX P w H h a o):a<h.objs.size:=by
 cases o with
 |lst xs=>obtain⟨_,_,_,_,e⟩:=x;exact PJ e
 |tup xs=>obtain⟨_,_,_,p⟩:=x;exact p.lt
 |b5 c=>obtain⟨_,_,_,_,o,_,_,e,_⟩:=x;exact PJ e
 |ck c=>obtain⟨_,_,_,_,o,_,_,e,_⟩:=x;exact PJ e
 |set S n=>obtain⟨o,_,_,_,e,_⟩:=x;exact PJ e
 |ins C d b=>obtain⟨_,_,_,e,_⟩:=x;exact PJ e
 |own y=>obtain⟨_,e⟩:=x;exact PJ e
 |qM b=>obtain⟨_,⟨_,_,_,e,_⟩,_⟩:=x;exact PJ e
 |dG lo hi=>obtain⟨_,_,_,e⟩:=x;exact PJ e
 |cv g u=>obtain⟨e,_⟩:=x;exact PJ e
 |jF i=>exact PJ (show h.get? a=Z _ from x)
 |met f y=>exact PJ (show h.get? a=Z _ from x)
 |ext j=>obtain⟨_,⟨_,e⟩,_⟩:=x;exact PJ e
theorem Paired.tI{α β:Type}{F G:α->β->Prop}:∀{c:List α}{d:List β},Paired F c d->(∀a b,F a b->G a b)->Paired G c d
 |_,_,.nil,_=>.nil
 |_,_,.cons r t,f=>.cons (f _ _ r) (Paired.tI t f)
def bX.hB(x:bX P w H h a o)(k:∀b u,(b=a\/H b=Z (.own a))->h.get? b=Z u->h'.get? b=Z u)(B:∀b,H b=Z (.own a)->aC b=Z (.own a))(D:∀b xs,H b=Z (.tup xs)->aC b=Z (.tup xs)):bX P w aC h' a o:=by
 induction o with
 |lst xs=>obtain⟨z,its,n,r,e⟩:=x;exact⟨z,its,n,r,k _ _ (.inl rfl) e⟩
 |tup xs=>obtain⟨z,its,r,g,e,c⟩:=x;exact⟨z,its,r,g,k _ _ (.inl rfl) e,c⟩
 |b5 G=>obtain⟨z,y,L,r,g,j,i,e,c⟩:=x;exact⟨z,y,L,r,g,j,i,k _ _ (.inl rfl) e,c⟩
 |ck G =>
  obtain⟨z,y,xs,r,g,j,i,e,c⟩:=x;exact⟨z,y,xs,Paired.tI r λp q z=>⟨z.1,D _ _ z.2.1,z.2.2⟩,g,j,i,k _ _ (.inl rfl) e,c⟩
 |set S n=>obtain⟨g,j,i,t,e,c⟩:=x;exact⟨g,j,i,t,k _ _ (.inl rfl) e,c⟩
 |ins C M A =>
  obtain⟨d,z,I,e,l,⟨m,j,i,e2,c⟩,r⟩:=x;exact⟨B _ d,z,I,k _ _ (.inl rfl) e,l,⟨m,j,i,k _ _ (.inr d) e2,c⟩,r⟩
 |own y=>obtain⟨g,e⟩:=x;exact⟨g,k _ _ (.inl rfl) e⟩
 |qM A=>obtain⟨l,⟨m,j,i,e,c⟩,r⟩:=x;exact⟨l,⟨m,j,i,k _ _ (.inl rfl) e,c⟩,r⟩
 |dG lo hi=>obtain⟨t,u,v,e⟩:=x;exact⟨t,u,v,k _ _ (.inl rfl) e⟩
 |cv g u E=>obtain⟨e,q⟩:=x;exact⟨k _ _ (.inl rfl) e,E q⟩
 |jF s =>
  have e:h.get? a=Z { cls:=.none,data:=.fields s }:=x;show h'.get? a=Z { cls:=.none,data:=.fields s };exact k a _ (.inl rfl) e
 |met f y =>
  have e:h.get? a=Z (PySem.W.methodObj (.ref f) (.ref y)):=x;show h'.get? a=Z (PySem.W.methodObj (.ref f) (.ref y));exact k a _ (.inl rfl) e
 |ext N=>obtain⟨p,⟨o,e⟩,st⟩:=x;exact⟨st _ _ p λo q=>k _ _ (.inl rfl) q,⟨o,k _ _ (.inl rfl) e⟩,st⟩
theorem cF.lt(x:cF P w H h)(e:H a=Z o):a<h.objs.size:=(x a o e).lt
def cF.fresh(x:cF P w H h)(e:h.objs.size<=a):H a=none:=by
 cases q:H a with
 |none=>rfl
 |some u=>exact absurd (PH (x.lt q) e) (Q5 _)
def cF.kept(x:cF P w H h)(k:∀b u,h.get? b=Z u->h'.get? b=Z u):cF P w H h':=λa o e =>
 (x a o e).hB (λb u _ q=>k b u q) (λ_ q=>q) λ_ _ q=>q
def cF.laid(x:cF P w H h)(k:∀b u,h.get? b=Z u->h'.get? b=Z u)(g:h.objs.size<=a)(i:bX P w (upd H a o) h' a o):cF P w (upd H a o) h':=λb u e=>by
 have f:=x.fresh g
 by_cases d:b=a
 .subst d;rw[b4]at e;cases e;exact i
 .rw[bk d]at e;exact(x b u e).hB (λc v _ q=>k c v q) (λc q=>by rw[bk (gk q f)];exact q) λc xs q=>by rw[bk (gk q f)];exact q
end
def eS(H:ah)(a:VO)(u:eP):Prop:=H a=Z u\/∃o,H a=Z (.cv o u)
def eS.ok(r:eS H a u)(x:cF P w H h):bX P w H h a u:=by
 rcases r with r|⟨o,r⟩
 .exact x a u r
 .obtain⟨_,q⟩:=x a _ r;exact q
def mB:Option eP->Prop
 |some (.lst _)=>True
 |some (.b5 _)=>True
 |some (.ck _)=>True
 |some (.set _ _)=>True
 |some (.ins _ _ _)=>True
 |some (.ext _)=>True
 |_=>False
section
variable{P:Wa}{w:Wm}{H:ah}{h h':V9}{x e:VO}{nM:eP}
def cF.write (s : cF P w H h) (g : mB (H x)) (i : e = x \/ H e = Z (.own x)) (k : ∀ b u, b ≠ e -> h.get? b = Z u -> h'.get? b = Z u) (m : ∃ u, h'.get? e = Z u)
    (o : bX P w (upd H x nM) h' x nM) : cF P w (upd H x nM) h' := fun b u q => by
  have j : ∀ c y, H c = Z (.own y) -> c ≠ x := fun c y r z => by subst z; rw [r] at g; exact g
  have p : ∀ c xs, H c = Z (.tup xs) -> c ≠ x := fun c xs r z => by subst z; rw [r] at g; exact g
  by_cases a : b = x
  · subst a; rw [b4] at q; cases q; exact o
  · rw [bk a] at q
    by_cases d : b = e
    · have l : H b = Z (.own x) := by
        rcases i with z | z
        · exact absurd (d.trans z) a
        · rw [d]; exact z
      rw [q] at l; cases l
      obtain ⟨v, n⟩ := m
      exact ⟨v, by rw [d]; exact n⟩
    · refine (s b u q).hB (fun c v f r => k c v ?_ r) (fun c r => by rw [bk (j c b r)]; exact r) fun c xs r => by rw [bk (p c xs r)]; exact r
      rcases f with rfl | f
      · exact d
      · rintro rfl
        rcases i with z | z
        · exact j c b f z
        · rw [f] at z; cases z; exact a rfl
end
structure dz(bD ex:List VO)(H aC:ah)(h h':V9):Prop where
 keep:∀b o,h.get? b=Z o->H b=Y->b∉bD->b∉ex->h'.get? b=Z o
 slot:∀b o,h.get? b=Z o->H b=Y->b∈bD->b∉ex->∃Mk,h'.get? b=Z { o with slots:=Mk }
 free:∀b o,h.get? b=Z o->H b=Y->b∉ex->aC b=Y
 there:∀b o,h.get? b=Z o->b∉ex->∃nM,h'.get? b=Z nM
 hD:∀b xs,H b=Z (.tup xs)->aC b=Z (.tup xs)
 gE:∀b o u,H b=Z (.cv o u)->aC b=Z (.cv o u)
 hC:∀b ec,H b=Z (.jF ec)->∃more,aC b=Z (.jF (ec++more))
section
variable{bD F4 ex Pg:List VO}{H H1 eO:ah}{h aJ h2 h':V9}{a x e:VO}{o:eP}
def dz.any(u:dz bD ex H H1 h aJ)(q:h.get? b=Z c)(n:H b=Y)(f:b∉ex):∃g,aJ.get? b=Z { c with slots:=g }:=by
 by_cases d:b∈bD
 .exact u.slot b c q n d f
 .exact⟨c.slots,u.keep b c q n d f⟩
def dz.kept(k:∀b u,h.get? b=Z u->h'.get? b=Z u):dz bD ex H H h h' :=
 ⟨λb c q _ _ _=>k b c q,λb c q _ _ _=>⟨c.slots,k b c q⟩,λ_ _ _ n _=>n,λb c q _=>⟨c,k b c q⟩,λ_ _ q=>q,λ_ _ _ q=>q,λ_ d q=>⟨#[],by rw[q];simp⟩⟩
def dz.refl:dz bD ex H H h h:=dz.kept λ_ _ q=>q
def dz.laid(k:∀b u,h.get? b=Z u->h'.get? b=Z u)(d:h.objs.size<=a)(c:H a=Y):dz bD ex H (upd H a o) h h' where
 keep:=λb u q _ _ _=>k b u q
 slot:=λb u q _ _ _=>⟨u.slots,k b u q⟩
 free:=λb u q n _=>by rw[bk (PY (PH (PJ q) d))];exact n
 there:=λb u q _=>⟨u,k b u q⟩
 hD:=λb xs q=>by rw[bk (gk q c)];exact q
 gE:=λb u xs q=>by rw[bk (gk q c)];exact q
 hC:=λb f q=>⟨#[],by rw[bk (gk q c),q];simp⟩
def dz.write(c:mB (H x))(j:e=x\/H e=Z (.own x))(k:∀b u,b≠e->h.get? b=Z u->h'.get? b=Z u)(l:∃u,h'.get? e=Z u):dz bD ex H (upd H x o) h h':=by
 have i:∀b,H b=Y->b≠x:=λb n z=>by subst z;rw[n]at c;exact c
 have f:∀b,H b=Y->b≠e:=λb n z=>by
  subst z;rcases j with r|r
  .exact i b n r
  .rw[n]at r;cases r
 have d:∀b u,H b=Z u->¬mB (Z u)->b≠x:=λb u q nm z=>by subst z;rw[q]at c;exact nm c
 refine⟨λb u q n _ _=>k b u (f b n) q,λb u q n _ _=>⟨u.slots,k b u (f b n) q⟩,λb u q n _=>by rw[bk (i b n)];exact n,λb u q _=>?_,
  λb xs q=>by rw[bk (d b _ q λz=>z)];exact q,λb u xs q=>by rw[bk (d b _ q λz=>z)];exact q,λb m q=>⟨#[],by rw[bk (d b _ q λz=>z),q];simp⟩⟩
 by_cases g:b=e
 .subst g;exact l
 .exact⟨u,k b u g q⟩
end
abbrev qD(h:V9)(H:ah):List Addr:=(VR h.objs.size).filter λa=>(H a).isSome
def iB(h:V9)(H:ah):Heap:=PySem.W.hideAll h (qD h H)
def Gp(h)(H):(iB h H).objs.size=h.objs.size:=PySem.W.hideAll_size _ _
def Gn(e:h.get? b=Z o)(n:H b=Y):(iB h H).get? b=Z o :=
 PySem.W.hideAll_get _ e λa=>by
  have q:(H b).isSome=true:=(P4.mp a).2;rw[n]at q;simp at q
def Jh(e:(iB h H).get? b=Z o):h.get? b=Z o/\H b=none:=by
 have a:h.get? b=Z o:=PySem.W.of_hideAll (qD h H) e;refine⟨a,?_⟩;cases q:H b with
 |none=>rfl
 |some x =>
  have c:b∈qD h H:=P4.mpr ⟨VZ.mpr (PJ a),by simp[q]⟩;have z:(iB h H).get? b=none:=PySem.W.hideAll_none (qD h H) c;rw[z]at e;cases e
abbrev B8(g h:V9)(L:VO):List (VO×WW):=(VR h.objs.size).filterMap λa=>if a=L\/(g.get? a).isSome=J then Y else(h.get? a).map λo=>(a,o)
def rest(g h:V9)(L d:VO):List (VO×WW):=(B8 g h L).filter λp=>decide (p.1≠d)
end aH
namespace aH
open PySem PySem.Spec PyProof.Rows
structure Mod(K:W.Frag)(ak:VT->Option VE)(base:V9):Prop where
 tA:K.In base
 glob:base.Ns V1 ak
 blt:∃yT,base.Ns builtinsNs yT/\∀x:VT,x≠"__name__"->yT x=Wt x
 nolimit:base.NoLimit
structure aq where
 prog:Wa
 w:Wm
 K:W.Frag
 ak:VT->Option VE
 base:V9
 A:Wc
 N:List VT
 dN:VI
 mz:ah
 env:Env
 outer:List Env
 stack:List Env
 ex:List VO
 fn:VT->Bool
 calm:Bool
 bV:List (VO×WW)
 bl:VE->VI->Prop
abbrev er(l:List Env):List Addr:=l.filterMap (·.frame)
noncomputable abbrev aq.bD(X:aq):List Addr:=er X.outer
def dA(a:Xs)(x:VT):Prop:=a.names.lookup x=Z .local\/a.names.lookup x=Z .cell\/a.names.lookup x=Z .free
def Loc(a:Xs)(x:VT):Prop:=a.names.lookup x=Z .local\/a.names.lookup x=Z .cell
def Look(env:Env)(h:V9)(m:VT->Option VE)(x:VT)(u:VE):Prop :=
 (env.kindOf x=Z .local/\m x=Z u)\/((env.kindOf x=Z .cell\/env.kindOf x=Z .free)/\∃c,env.cells.lookup x=Z c/\h.IsCell c (Z u))
structure aq.Ok(X:aq):Prop where
 mod:Mod X.K X.ak X.base
 kind:X.env.scope.kind=.function
 glob:X.env.globals=V1
 blt:X.env.builtins=builtinsNs
 above:X.dN.heap.objs.size<=X.env.locals
 inj:∀x y c,X.env.cells.lookup x=Z c->X.env.cells.lookup y=Z c->x=y
 has:∀x,(X.env.kindOf x=Z .cell\/X.env.kindOf x=Z .free)->∃c,X.env.cells.lookup x=Z c
 mS:∀x c,X.fn x=J->X.env.cells.lookup x=Z c->X.dN.heap.objs.size<=c
 hd:X.calm=J->X.A.handled=Y
 frames:X.A.frames=Z X.stack
 kE:X.stack=X.outer\/(X.stack=X.env::X.outer/\X.env.frame=Z X.env.locals)
 sW:∀b∈X.ex,b≠X.env.locals/\∀x c,X.env.cells.lookup x=Z c->c≠b
 bs:∀b o,X.base.get? b=Z o->X.dN.heap.get? b=Z o/\X.mz b=Y
 j4:X.base.objs.size<=X.dN.heap.objs.size
 nK:∀b o,X.base.get? b=Z o->b∉X.ex
 lq:∀b∈X.ex,b∉X.bD
 gF:X.dN.heap.FunFrames X.base X.outer
 lz:∀b∈X.bD,X.mz b=Y
structure Inv(X:aq)(pins:List (VO×WW))(σ:List (Option V))(H:ah)(s:VI):Prop where
 ok:X.Ok
 os:s.os=X.dN.os
 bare:XB s.gens
 base:dz X.bD X.ex X.mz H X.dN.heap s.heap
 loc:∃m,s.heap.Ns X.env.locals m/\∀(i:Nat)(x:VT)(v:V),X.N[i]?=Z x->σ[i]?=Z (Z v)->dA X.env.scope x->∃u,RelV v u/\Look X.env s.heap m x u
 cell:∀x c,X.env.cells.lookup x=Z c->∃v,s.heap.IsCell c v
 free:H X.env.locals=Y
 eJ:∀x c,X.env.cells.lookup x=Z c->H c=Y
 pin:∀p∈X.bV++pins,s.heap.get? p.1=Z p.2/\H p.1=Y/\p.1≠X.env.locals/\p.1∉X.bD/\∀v,p.2.data≠.cell v
 aG:cF X.prog X.w H s.heap
 len:σ.length=X.N.length
section
variable{X:aq}{pins:List (VO×WW)}{σ:List (Option V)}{H aC:ah}{s:VI}{h':V9}
def aq.Ok.I8(c:X.Ok)(e:X.base.get? b=Z o):b∉X.bD:=λa=>by
 have:=(c.gF.mem a).1;rw[e]at this;cases this
theorem Inv.bs(I:Inv X pins σ H s):∀b o,X.base.get? b=Z o->s.heap.get? b=Z o/\H b=none:=λb o e =>
 ⟨I.base.keep b o (I.ok.bs b o e).1 (I.ok.bs b o e).2 (I.ok.I8 e) (I.ok.nK b o e),I.base.free b o (I.ok.bs b o e).1 (I.ok.bs b o e).2 (I.ok.nK b o e)⟩
def Inv.fB(I:Inv X pins σ H s):∀b o,X.base.get? b=Z o->s.heap.get? b=Z o:=λb o e=>(I.bs b o e).1
theorem Inv.mod(I:Inv X pins σ H s):Mod X.K X.ak X.base:=I.ok.mod
def Inv.d5(I:Inv X pins σ H s):X.K.In s.heap:=I.ok.mod.tA.keeps I.fB
theorem Inv.lt(I:Inv X pins σ H s):X.env.locals<s.heap.objs.size:=let ⟨_,a,_⟩:=I.loc;a.lt
def Inv.ef(I:Inv X pins σ H s):X.dN.heap.objs.size<=s.heap.objs.size:=PW I.ok.above (Qs I.lt)
def Inv.nL(I:Inv X pins σ H s){a:VO}(h:s.heap.objs.size<=a):a∉X.bD:=λb=>by
 obtain⟨_,o,c,_⟩:=I.ok.gF.mem b;exact absurd (PH (PJ c) (PW I.ef h)) (Q5 _)
def Inv.oS(I:Inv X pins σ H s):∀x c,X.env.cells.lookup x=Z c->c≠X.env.locals:=λx c e z=>by
 obtain⟨v,o,b,a⟩:=I.cell x c e;obtain⟨m,⟨i,h,g,f,d,_⟩,_⟩:=I.loc;rw[z,f]at b;cases b;rw[d]at a;cases a
theorem Inv.gF(I:Inv X pins σ H s):s.heap.FunFrames X.base X.outer:=by
 have all:∀(l:List Env),(∀b∈er l,b∈X.bD)->X.dN.heap.FunFrames X.base l->s.heap.FunFrames X.base l:=by
  intro l
  induction l with
  |nil=>intro _ _;trivial
  |cons env r n =>
   intro f i;obtain⟨h,⟨L,o,d,j,k,g⟩,m⟩:=i;have a:L∈X.bD:=f L (by unfold er;rw[Ww,d];exact VF);obtain⟨p,e⟩:=I.base.slot L o k (I.ok.lz L a) a λz=>I.ok.lq L z a
   exact⟨h,⟨L,_,d,j,e,g⟩,n (λb c=>f b (by unfold er;rw[Ww,d];exact VG _ c)) m⟩
 exact all X.outer (λ_ c=>c) I.ok.gF
theorem Inv.stack(I:Inv X pins σ H s):s.heap.FunFrames X.base X.stack:=by
 rcases I.ok.kE with e|⟨e,a⟩
 .rw[e];exact I.gF
 .rw[e];obtain⟨m,b,_⟩:=I.loc;refine .cons (by rw[I.ok.kind];decide) a b ?_ I.gF;exact Heap.get?_none_of_le (PW I.ok.j4 I.ok.above)
def Inv.kF(I:Inv X pins σ H s):∀b∈er X.stack,b∈X.env.locals::X.bD:=λb a=>by
 rcases I.ok.kE with e|⟨e,c⟩
 .rw[e]at a;exact VG _ a
 .rw[e]at a;unfold er at a;rw[Ww,c]at a;exact a
def Inv.uQ(I:Inv X pins σ H s):∀b∈er X.stack,H b=none:=λb a=>by
 rcases PF.mp (I.kF b a) with e|a
 .rw[e];exact I.free
 .obtain⟨_,o,c,_⟩:=I.ok.gF.mem a;exact I.base.free b o c (I.ok.lz b a) λz=>I.ok.lq b z a
def Inv.step{ch:List VO}(I:Inv X pins σ H s)(h:∀b∈ch,(b∈X.ex\/X.dN.heap.objs.size<=b)/\b≠X.env.locals/\(∀x c,X.env.cells.lookup x=Z c->c≠b)/\∀p∈X.bV++pins,p.1≠b)(B:∀b o,b≠X.env.locals->b∉X.bD->b∉ch->s.heap.get? b=Z o->H b=Y->h'.get? b=Z o)(O:∀b o,b≠X.env.locals->b∈X.bD->b∉ch->s.heap.get? b=Z o->H b=Y->∃C,h'.get? b=Z { o with slots:=C })(free:∀b o,b∉ch->s.heap.get? b=Z o->H b=Y->aC b=Y)(a3:∀b o,b∉ch->s.heap.get? b=Z o->∃t,h'.get? b=Z t)(a4:∀b xs,H b=Z (.tup xs)->aC b=Z (.tup xs))(Q:∀b o u,H b=Z (.cv o u)->aC b=Z (.cv o u))(a2:∀b y,H b=Z (.jF y)->∃a0,aC b=Z (.jF (y++a0)))(ns:∀m,s.heap.Ns X.env.locals m->h'.Ns X.env.locals m)(aG:cF X.prog X.w aC h')(R:XB g'):
  Inv X pins σ aC { s with heap:=h',gens:=g',drawn:=d',toks:=t' }:=by
 have M:∀b o,X.dN.heap.get? b=Z o->b≠X.env.locals:=λb o e=>PY (PH (PJ e) I.ok.above)
 have w:∀b o,X.dN.heap.get? b=Z o->b∉X.ex->b∉ch:=λb o e a f=>by
  rcases(h b f).1 with z|z
  .exact a z
  .exact absurd (PH (PJ e) z) (Q5 _)
 have D:∀x c,X.env.cells.lookup x=Z c->∀v,s.heap.IsCell c v->h'.IsCell c v:=λx c e v a5=>by
  obtain⟨o,g,A⟩:=a5;have j:c∉ch:=λz=>(h c z).2.2.1 x c e rfl
  by_cases E:c∈X.bD
  .obtain⟨C,q⟩:=O c o (I.oS x c e) E j g (I.eJ x c e);exact⟨_,q,A⟩
  .exact⟨o,B c o (I.oS x c e) E j g (I.eJ x c e),A⟩
 refine⟨I.ok,I.os,R,⟨λb o e n f a=>?_,λb o e n f a=>?_,λb o e n a=>?_,λb o e a=>?_,λb xs e=>a4 b xs (I.base.hD b xs e),λb o xs e=>Q b o xs (I.base.gE b o xs e),λb y e=>?_⟩,?_,λx c e=>?_,?_,λx c e=>?_,λp G=>?_,aG,I.len⟩
 .exact B b o (M b o e) f (w b o e a) (I.base.keep b o e n f a) (I.base.free b o e n a)
 .obtain⟨C,e1⟩:=I.base.slot b o e n f a;obtain⟨a1,e2⟩:=O b _ (M b o e) f (w b o e a) e1 (I.base.free b o e n a);exact⟨a1,e2⟩
 .obtain⟨t,e1⟩:=I.base.there b o e a;exact free b t (w b o e a) e1 (I.base.free b o e n a)
 .obtain⟨t,e1⟩:=I.base.there b o e a;exact a3 b t (w b o e a) e1
 .obtain⟨U,e1⟩:=I.base.hC b y e;obtain⟨m2,e2⟩:=a2 b _ e1;exact⟨U++m2,by rw[e2,Array.append_assoc]⟩
 .obtain⟨m,T,S⟩:=I.loc;refine⟨m,ns m T,λi x v e1 e2 e3=>?_⟩;obtain⟨u,r,l⟩:=S i x v e1 e2 e3;refine⟨u,r,?_⟩;rcases l with l|⟨k,c,e,z⟩
  .exact .inl l
  .exact .inr ⟨k,c,e,D x c e _ z⟩
 .obtain⟨v,z⟩:=I.cell x c e;exact⟨v,D x c e v z⟩
 .obtain⟨m,⟨o,_,_,g,_⟩,_⟩:=I.loc;exact free _ o (λz=>(h _ z).2.1 rfl) g I.free
 .obtain⟨v,o,g,A⟩:=I.cell x c e;exact free c o (λz=>(h c z).2.2.1 x c e rfl) g (I.eJ x c e)
 .obtain⟨e,n,L,N,d⟩:=I.pin p G;have j:p.1∉ch:=λz=>(h p.1 z).2.2.2 p G rfl
  exact⟨B p.1 p.2 L N j e n,free p.1 p.2 j e n,L,N,d⟩
def Inv.un(I:Inv X pins σ H s)(u:dz X.bD [] H aC s.heap h')(aG:cF X.prog X.w aC h'):Inv X pins σ aC { s with heap:=h',toks:=t' }:=by
 obtain⟨m,⟨o,l,k,c,r⟩,_⟩:=id I.loc;obtain⟨t,h⟩:=u.any c I.free (by simp);exact I.step (g':=s.gens) (d':=s.drawn) (ch:=[]) (λ_ z=>nomatch z) (λb o _ a _ e n=>u.keep b o e n a (by simp)) (λb o _ a _ e n=>u.slot b o e n a (by simp)) (λb o _ e n=>u.free b o e n (by simp)) (λb o _ e=>u.there b o e (by simp)) u.hD u.gE u.hC (λp i=>by
  obtain⟨q,g,f,d,j⟩:=i;rw[c]at d;cases d;exact⟨_,g,f,h,j⟩) aG I.bare
def Inv.call(I:Inv X pins σ H s)(u:dz (er X.stack) ch H aC s.heap h')(aG:cF X.prog X.w aC h')(l:XB g')(f:∀b∈ch,(b∈X.ex\/X.dN.heap.objs.size<=b)/\b≠X.env.locals/\(∀x c,X.env.cells.lookup x=Z c->c≠b)/\∀p∈X.bV++pins,p.1≠b):
  Inv X pins σ aC { s with heap:=h',gens:=g',drawn:=d',toks:=t' }:=by
 obtain⟨m,⟨o,w,v,g,r⟩,_⟩:=id I.loc;obtain⟨B,d⟩:=u.any g I.free λz=>(f _ z).2.1 rfl
 exact I.step (ch:=ch) f (λb o d k a e n=>u.keep b o e n (λz=>(PF.mp (I.kF b z)).elim d k) a) (λb o _ _ a e n=>u.any e n a) (λb o a e n=>u.free b o e n a) (λb o a e=>u.there b o e a) u.hD u.gE u.hC (λy q=>by
  obtain⟨A,j,i,h,t⟩:=q;rw[g]at h;cases h;exact⟨_,j,i,d,t⟩) aG l
def Inv.turned(I:Inv X pins σ H s)(k:∀b o,b≠it->s.heap.get? b=Z o->h'.get? b=Z o)(t:H it=Y)(d:it≠X.env.locals)(i:it∈X.ex\/X.dN.heap.objs.size<=it)(h2:∀x c,X.env.cells.lookup x=Z c->c≠it)(h3:∀p∈X.bV++pins,p.1≠it):Inv X pins σ H { s with heap:=h',toks:=t' }:=by
 have f:∀b u,H b=Z u->b≠it:=λb u e z=>by rw[z,t]at e;cases e
 refine I.step (g':=s.gens) (d':=s.drawn) (ch:=[it]) (λb j=>?_) (λb o _ _ a e _=>k b o (λz=>a (by simp[z])) e) (λb o _ _ a e _=>⟨o.slots,k b o (λz=>a (by simp[z])) e⟩) (λ_ _ _ _ n=>n)
  (λb o a e=>⟨o,k b o (λz=>a (by simp[z])) e⟩) (λ_ _ e=>e) (λ_ _ _ e=>e) (λb y e=>⟨#[],by rw[e];simp⟩) (λm l=>?_) (λb u e=>?_) I.bare
 .have e:b=it:=⇑j;subst e;exact⟨i,d,h2,h3⟩
 .obtain⟨o,h,g,w,r⟩:=l;exact⟨o,h,g,k _ o (QG d) w,r⟩
 .refine(I.aG b u e).hB (λc v a q=>k c v ?_ q) (λ_ q=>q) λ_ _ q=>q
  rcases a with z|z
  .rw[z];exact f b u e
  .exact f c _ z
def Inv.tok(I:Inv X pins σ H s)(t):Inv X pins σ H { s with toks:=t }:=I.un (h':=s.heap) (t':=t) dz.refl I.aG
theorem Inv.kept(I:Inv X pins σ H s)(k:∀b u,s.heap.get? b=Z u->h'.get? b=Z u):Inv X pins σ H { s with heap:=h',toks:=t' }:=I.un (dz.kept k) (I.aG.kept k)
theorem Inv.laid{a:VO}(I:Inv X pins σ H s)(k:∀b u,s.heap.get? b=Z u->h'.get? b=Z u)(c:s.heap.objs.size<=a)(d:bX X.prog X.w (upd H a o) h' a o):
  Inv X pins σ (upd H a o) { s with heap:=h',toks:=t' }:=I.un (dz.laid k c (I.aG.fresh c)) (I.aG.laid k c d)
theorem Inv.write(I:Inv X pins σ H s)(d:mB (H x))(a:e=x\/H e=Z (.own x))(k:∀b u,b≠e->s.heap.get? b=Z u->h'.get? b=Z u)(c:∃u,h'.get? e=Z u)(f:bX X.prog X.w (upd H x o) h' x o):Inv X pins σ (upd H x o) { s with heap:=h',toks:=t' }:=I.un (dz.write d a k c) (I.aG.write d a k c f)
def Inv.nT(I:Inv X pins σ H s)(h:∀p∈b,s.heap.get? p.1=Z p.2/\H p.1=Y/\p.1≠X.env.locals/\p.1∉X.bD/\∀v,p.2.data≠.cell v):Inv X b σ H s :=
 ⟨I.ok,I.os,I.bare,I.base,I.loc,I.cell,I.free,I.eJ,λp a=>(PS.mp a).elim (λz=>I.pin p (VV _ z)) (h p),I.aG,I.len⟩
def y7{N:List VT}(c:N.Nodup){i j:Nat}(a:N[i]?=Z x)(b:N[j]?=Z x):i=j:=by
 obtain⟨d,e1⟩:=P5.mp a;obtain⟨h2,e2⟩:=P5.mp b;exact(List.getElem_inj c).mp (e1.trans e2.symm)
def MM(I:Inv X pins σ H s)(a3:X.N.Nodup)(hi:X.N[i]?=Z x)(l:Loc X.env.scope x)(r:RelV v u)(h:∀s',Inv X pins (σ.set i (Z v)) H s'->(∃a,V6 a s.heap s'.heap/\(a=X.env.locals\/X.env.cells.lookup x=Z a))->Q () s')(a8:X.fn x=J\/X.env.scope.names.lookup x=Z .local):VJ M A (storeName X.env x u) Q E s:=by
 obtain⟨m,O,ay⟩:=id I.loc;have bc:(X.env.scope.kind==.class||(X.env.scope.kind==.module&&X.env.locals != X.env.globals))=false:=by rw[I.ok.kind];rfl
 have av:i<σ.length:=by rw[I.len];exact(P5.mp hi).1
 have L:=I.oS;have b1:∀{a:VO}{h':V9},(∃o,s.heap.get? a=Z o/\H a=Y)->V6 a s.heap h'->cF X.prog X.w H h':=λ{a h'} b2 f b bz e=>by
  obtain⟨_,_,au⟩:=b2;refine(I.aG b bz e).hB (λc G g q=>(f.2 c ?_).trans q) (λ_ q=>q) λ_ _ q=>q
  rintro rfl;rcases g with rfl|g
  .rw[au]at e;cases e
  .rw[au]at g;cases g
 rcases l with t|t
 .refine wpAny_storeName_local t O (λh' a9 f=>?_) bc;obtain⟨bp,_,_,bg,_⟩:=id O;refine h _ ⟨I.ok,I.os,I.bare,⟨λb o e n w l=>?_,λb o e n w l=>?_,I.base.free,λb o e l=>?_,I.base.hD,I.base.gE,I.base.hC⟩,⟨_,a9,λj y a2 e1 e2 e3=>?_⟩,λy c e=>?_,I.free,I.eJ,λp R=>?_,b1 ⟨bp,bg,I.free⟩ f,⇑I.len⟩ ⟨_,f,.inl rfl⟩
  .exact(f.2 b (PY (PH (PJ e) I.ok.above))).trans (I.base.keep b o e n w l)
  .obtain⟨a0,e1⟩:=I.base.slot b o e n w l;exact⟨a0,(f.2 b (PY (PH (PJ e) I.ok.above))).trans e1⟩
  .obtain⟨T,e1⟩:=I.base.there b o e l;exact⟨T,(f.2 b (PY (PH (PJ e) I.ok.above))).trans e1⟩
  .by_cases B:j=i
   .subst B;rw[hi]at e1;cases e1;rw[X7 av]at e2;cases e2;exact⟨u,r,.inl ⟨t,by simp⟩⟩
   .rw[R6 (QG B)]at e2;obtain⟨a1,U,q⟩:=ay j y a2 e1 e2 e3;refine⟨a1,U,?_⟩;rcases q with⟨k,e⟩|⟨k,c,e,z⟩
    .refine .inl ⟨k,?_⟩;have:y≠x:=λe=>B (y7 a3 e1 (e▸hi))
     simp[this,e]
    .exact .inr ⟨k,c,e,z.sameBut f (L y c e)⟩
  .obtain⟨G,z⟩:=I.cell y c e;exact⟨G,z.sameBut f (L y c e)⟩
  .obtain⟨e,n,D,S,d⟩:=I.pin p R;exact⟨(f.2 p.1 D).trans e,n,D,S,d⟩
 .have N:X.fn x=true:=by
   rcases a8 with z|z
   .exact z
   .rw[z]at t;cases t
  obtain⟨c,g⟩:=I.ok.has x (.inl t);obtain⟨G,z⟩:=I.cell x c g;refine wpAny_storeName_cell I.ok.kind t g z (λh' a4 f=>?_);obtain⟨aA,az,bf⟩:=id z;refine h { s with heap:=h' } ⟨I.ok,I.os,I.bare,⟨λb o e n w l=>?_,λb o e n w l=>?_,I.base.free,λb o e l=>?_,I.base.hD,I.base.gE,I.base.hC⟩,⟨m,O.sameBut f (QG (L x c g)),λj y a2 e1 e2 e3=>?_⟩,λy C e=>?_,I.free,I.eJ,λp R=>?_,b1 ⟨aA,az,I.eJ x c g⟩ f,⇑I.len⟩ ⟨c,f,.inr g⟩
  .exact(f.2 b (PY (PH (PJ e) (I.ok.mS x c N g)))).trans (I.base.keep b o e n w l)
  .obtain⟨a0,e1⟩:=I.base.slot b o e n w l;exact⟨a0,(f.2 b (PY (PH (PJ e) (I.ok.mS x c N g)))).trans e1⟩
  .obtain⟨T,e1⟩:=I.base.there b o e l;exact⟨T,(f.2 b (PY (PH (PJ e) (I.ok.mS x c N g)))).trans e1⟩
  .by_cases B:j=i
   .subst B;rw[hi]at e1;cases e1;rw[X7 av]at e2;cases e2;exact⟨u,r,.inr ⟨.inl t,c,g,a4⟩⟩
   .rw[R6 (QG B)]at e2;obtain⟨a1,U,q⟩:=ay j y a2 e1 e2 e3;refine⟨a1,U,?_⟩;rcases q with q|⟨k,C,e,da⟩
    .exact .inl q
    .refine .inr ⟨k,C,e,da.sameBut f ?_⟩;rintro rfl;exact B (y7 a3 e1 (I.ok.inj _ _ _ e g▸hi))
  .by_cases a5:C=c
   .subst a5;exact⟨_,a4⟩
   .obtain⟨cy,b9⟩:=I.cell y C e;exact⟨cy,b9.sameBut f a5⟩
  .obtain⟨e,n,D,S,d⟩:=I.pin p R;refine⟨(f.2 p.1 ?_).trans e,n,D,S,d⟩;intro q;rw[q,az]at e;have c0:aA=p.2:=Ql e;exact d G (by rw[<- c0];exact bf)
def qu{M:Zi}{A:Wc}{E:VE->VI->Prop}{i:Nat}{x:VT}{v:V}{u:VE}{Q:Unit->VI->Prop}(I:Inv X pins σ H s)(b:X.N.Nodup)(hi:X.N[i]?=Z x)(d:Loc X.env.scope x)(r:RelV v u)(h:∀s',Inv X pins (σ.set i (Z v)) H s'->Q () s')(c:X.fn x=J\/X.env.scope.names.lookup x=Z .local:=by first|exact .inl rfl|exact .inr rfl|assumption):VJ M A (storeName X.env x u) Q E s :=
 MM I b hi d r (λs' a _=>h s' a) c
def Inv.wd(I:Inv X pins σ H s)(f:s'.os=s.os)(u:dz (er X.stack) ch H aC s.heap s'.heap)(aG:cF X.prog X.w aC s'.heap)(d:XB s'.gens)(a:∀b∈ch,(b∈X.ex\/X.dN.heap.objs.size<=b)/\b≠X.env.locals/\(∀x c,X.env.cells.lookup x=Z c->c≠b)/\∀p∈X.bV++pins,p.1≠b):Inv X pins σ aC s':=by
 obtain⟨h',g',d',t',g⟩:=s';have e:g=s.os:=f;subst e;exact I.call (g':=g') (t':=t') (d':=d') u aG d a
end
noncomputable abbrev g4:=VE->Option VO->ah->Prop
noncomputable abbrev St:=List (Option V)
noncomputable abbrev cj:=V->ah->Prop
noncomputable abbrev TE:=St->ah->cj->Prop
noncomputable abbrev TT:=St->ah->(Bool->ah->Prop)->Prop
noncomputable abbrev dU:=St->ah->(List V->ah->Prop)->Prop
structure Ends where
 aR:St->ah->Prop
 bH:cj
 fB:St->ah->Prop:=λ_ _=>False
 ct:St->ah->Prop:=λ_ _=>False
noncomputable abbrev eG:=Ends->St->ah->Prop
def cX(X:aq)(b:List (VO×WW))(c:St)(Q:cj)(u:VE)(s':VI):Prop:=∃v a,Inv X b c a s'/\RelV v u/\Q v a
def mH(X:aq)(c:List (VO×WW))(d:St)(Q:Bool->ah->Prop)(b:Bool)(s':VI):Prop:=∃a,Inv X c d a s'/\Q b a
def BY(X:aq)(c:List (VO×WW))(e:St)(Q:List V->ah->Prop)(d:List VE)(s':VI):Prop:=∃b a,Inv X c e a s'/\Vals b d/\Q b a
def kT(X:aq)(c:List (VO×WW))(D:Ends)(f:Flow)(s':VI):Prop :=
 match f with
 |.next=>∃b a,Inv X c b a s'/\D.aR b a
 |.brk=>∃b a,Inv X c b a s'/\D.fB b a
 |.cont=>∃b a,Inv X c b a s'/\D.ct b a
 |.ret u=>∃v b a,Inv X c b a s'/\RelV v u/\D.bH v a
def ai(X:aq)(e:VY)(t:TE):Prop :=
 ∀(b:List (VO×WW))(s:VI)(a:St)(H:ah)(Q:cj),Inv X b a H s->t a H Q->VJ (VM X.prog X.w) X.A (Wu e X.env) (cX X b a Q) X.bl s
def cG(X:aq)(e:VY)(t:TT):Prop :=
 ∀(b:List (VO×WW))(s:VI)(a:St)(H:ah)(Q:Bool->ah->Prop),Inv X b a H s->t a H Q->VJ (VM X.prog X.w) X.A (Y7 e X.env (Wu e X.env)) (mH X b a Q) X.bl s
def gb(X:aq)(e:VY)(t:TT):Prop :=
 ∀(c:ZN VE)(b:List (VO×WW))(s:VI)(a:St)(H:ah)(Q:Bool->ah->Prop),Inv X b a H s->t a H Q->VJ (VM X.prog X.w) X.A (Y7 e X.env c) (mH X b a Q) X.bl s
def gb.pt(h:gb X e t):cG X e t:=h _
def dS(X:aq)(c:List VY)(t:dU):Prop :=
 ∀(pos:Xj)(b:List (VO×WW))(s:VI)(a:St)(H:ah)(Q:List V->ah->Prop),Inv X b a H s->t a H Q->VJ (VM X.prog X.w) X.A (Zj (Xg pos (VX c X.env))) (BY X b a Q) X.bl s
def bJ(X:aq)(st:Wl)(t:eG):Prop :=
 ∀(a:List (VO×WW))(s:VI)(b:St)(H:ah)(D:Ends),Inv X a b H s->t D b H->VJ (VM X.prog X.w) X.A (exec st X.env) (kT X a D) X.bl s
def dh(X:aq)(st:List Wl)(t:eG):Prop :=
 ∀(a:List (VO×WW))(s:VI)(b:St)(H:ah)(D:Ends),Inv X a b H s->t D b H->VJ (VM X.prog X.w) X.A (execs st X.env) (kT X a D) X.bl s
def aM{α:Type}{t:ZN α}{Q b:α->VI->Prop}(h:VJ M A t Q E s)(c:∀a s,Q a s->b a s):VJ M A t b E s:=QP h c λ_ _ x=>x
end aH
namespace aH
open PySem PySem.Spec PyProof.Rows
section
variable{X:aq}
def bin(l:ai X a A)(m:ai X b B){d:St}{R:V->V->ah->Prop}(I:Inv X g d H s)(h:A d H λx e=>B d e λy c=>R x y c){α:Type}{Q:α->VI->Prop}{f:VE->VE->ZN α}(n:∀v u s2 x y c,Inv X g d c s2->RelV x v->RelV y u->R x y c->VJ (VM X.prog X.w) X.A (f v u) Q X.bl s2):
  VJ (VM X.prog X.w) X.A (Wu a X.env) (λv w=>VJ (VM X.prog X.w) X.A (Wu b X.env) (λu z=>VJ (VM X.prog X.w) X.A (f v u) Q X.bl z) X.bl w) X.bl s:=by
 refine aM (l g s d H _ I h) λv t i=>?_
 obtain⟨x,e,j,q,o⟩:=i;refine aM (m g t d e _ j o) λu s2 i=>?_
 obtain⟨y,c,k,r,p⟩:=i;exact n v u s2 x y c k q r p
abbrev kH(i:Nat):TE:=λa H Q=>∃v,a[i]?=Z (Z v)/\Q v H
abbrev jE(v:V):TE:=λ_ H Q=>Q v H
def d7{i:Nat}{x:VT}{pos:Xj}(g:X.N[i]?=Z x)(p:dA X.env.scope x)(b:(x==("__debug__":VT))=false:=by decide)(j:(x==("__classdict__":VT))=false:=by decide):ai X (.Name x pos) (kH i):=by
 intro q s t H Q I h;obtain⟨v,e,h⟩:=h;obtain⟨m,o,k⟩:=I.loc;obtain⟨u,r,l⟩:=k i x v g e p;have fin:cX X q t Q u s:=⟨v,H,I,r,h⟩;rcases l with⟨a,n⟩|⟨a,c,d,f⟩
 .exact wpAny_Name (wpAny_loadName_local I.ok.kind a o n fin) b
 .rcases a with a|a
  .exact wpAny_Name (wpAny_loadName_cell I.ok.kind a d f fin) b
  .exact wpAny_Name (wpAny_loadName_free I.ok.kind a d f fin j) b
def t9{i j pos}:ai X (.Constant (.int i) j pos) (jE (.int i)):=λ_ _ _ H _ I h=>wpAny_Constant_int ⟨.int i,H,I.tok _,⟨_,rfl⟩,h⟩
def JF{b j pos}:ai X (.Constant (.bool b) j pos) (jE (.ag b)):=λ_ _ _ H _ I h=>Constant_bool ⟨.ag b,H,I,rfl,h⟩
def JQ{j pos}:ai X (.Constant .none j pos) (jE .aW):=λ_ _ _ H _ I h=>Constant_none ⟨.aW,H,I,rfl,h⟩
def zC{x j pos}:ai X (.Constant (.str x) j pos) (jE (.str x)):=λ_ _ _ H _ I h=>Calls.Constant_str ⟨.str x,H,I.tok _,⟨_,rfl⟩,h⟩
def cn(X:aq)(x:VT):Prop:=X.env.kindOf x=Z .globalImplicit
def pJ{E:VE->VI->Prop}{d:List (VO×WW)}{s:VI}{e:St}{H:ah}{x:VT}{u:VE}{pos:Xj}{Q:VE->VI->Prop}(I:Inv X d e H s)(b:cn X x)(c:X.ak x=Z u)(h:Q u s)(a:(x==("__debug__":VT))=false:=by decide):VJ (VM X.prog X.w) X.A (Wu (.Name x pos) X.env) Q E s :=
 Ua I.ok.kind b (Calls.loadGlobal_global (by rw[I.ok.glob];exact I.mod.glob.keeps I.fB) c h) a
def fV{E:VE->VI->Prop}{g:List (VO×WW)}{s:VI}{i:St}{H:ah}{x:VT}{u:VE}{pos:Xj}{Q:VE->VI->Prop}(I:Inv X g i H s)(c:cn X x)(d:X.ak x=Y)(f:Wt x=Z u)(h:Q u s)(e:x≠"__name__":=by decide)(b:(x==("__debug__":VT))=false:=by decide):VJ (VM X.prog X.w) X.A (Wu (.Name x pos) X.env) Q E s:=by
 obtain⟨j,a,h2⟩:=I.mod.blt;exact Ua I.ok.kind c (Calls.loadGlobal_builtin (by rw[I.ok.glob];exact I.mod.glob.keeps I.fB) d (by rw[I.ok.blt];exact a.keeps I.fB) ((h2 x e).trans f) h) b
def JO{x:VT}{v:V}{u:VE}{pos:Xj}(b:cn X x)(c:X.ak x=Z u)(r:RelV v u)(a:(x==("__debug__":VT))=false:=by decide):ai X (.Name x pos) (jE v) :=
 λ_ _ _ H _ I h=>pJ I b c ⟨v,H,I,r,h⟩ a
def zw{x:VT}{v:V}{u:VE}{pos:Xj}(b:cn X x)(c:X.ak x=Y)(e:Wt x=Z u)(r:RelV v u)(d:x≠"__name__":=by decide)(a:(x==("__debug__":VT))=false:=by decide):ai X (.Name x pos) (jE v) :=
 λ_ _ _ H _ I h=>fV I b c e ⟨v,H,I,r,h⟩ d a
variable{a b:VY}{bT bW:TE}{pos:Xj}
def oE(X:aq)(op:CmpOp)(a b:VY)(t:TE):Prop :=
 ∀(d:List (VO×WW))(s:VI)(c:St)(H:ah)(Q:cj),Inv X d c H s->t c H Q ->
  VJ (VM X.prog X.w) X.A (Wu a X.env) (λv e=>VJ (VM X.prog X.w) X.A (Wu b X.env) (λu f=>VJ (VM X.prog X.w) X.A (V4 op v u) (cX X d c Q) X.bl f) X.bl e) X.bl s
abbrev MU(t:TE):TT:=λe H Q=>t e H λx d=>∃c,x=.ag c/\Q c d
def Ko{e:VY}{t:TE}(h:ai X e t)(i:∀c,Y7 e X.env c=(do let v <- c;standAt e.pos;X8 [v] (truthy v)):=by intro _;rfl):cG X e (MU t):=by
 intro j s n H Q I hw;refine isTrue_plain (aM (h j s n H _ I hw) λv o m=>?_) (i _);obtain⟨x,f,g,l,k⟩:=m;obtain⟨d,rfl,q⟩:=k;cases l;exact Rh ⟨f,g,q⟩
variable{h8 qx:TT}{rest:List VY}
abbrev MS(t u:TT):TT:=λe H Q=>t e H λc d=>if c=J then u e d Q else Q VC d
abbrev Nc(t u:TT):TT:=λe H Q=>t e H λc d=>if c=J then Q J d else u e d Q
abbrev Na(t:TT):TT:=λe H Q=>t e H λc d=>Q (!c) d
def Kq(d:cG X a h8):gb X (.BoolOp .And [a] pos) h8:=by
 intro j f s g H Q I h;refine isTrue_and (aM (d f s g H Q I h) λc i e=>?_);cases c with
 |true=>exact isTrue_and_nil e
 |false=>exact e
def Kt(d:cG X a h8):gb X (.BoolOp .Or [a] pos) h8:=by
 intro j f s g H Q I h;refine isTrue_or (aM (d f s g H Q I h) λc i e=>?_);cases c with
 |false=>exact isTrue_or_nil e
 |true=>exact e
def Kp(j:cG X a h8)(k:gb X (.BoolOp .And (b::rest) pos) qx):gb X (.BoolOp .And (a::b::rest) pos) (MS h8 qx):=by
 intro m f s i H Q I h;refine isTrue_and (aM (j f s i H _ I h) λc l n=>?_);obtain⟨d,e,g⟩:=n;cases c with
 |true=>exact k m f l i d Q e g
 |false=>exact⟨d,e,g⟩
def Ks(j:cG X a h8)(k:gb X (.BoolOp .Or (b::rest) pos) qx):gb X (.BoolOp .Or (a::b::rest) pos) (Nc h8 qx):=by
 intro m f s i H Q I h;refine isTrue_or (aM (j f s i H _ I h) λc l n=>?_);obtain⟨d,e,g⟩:=n;cases c with
 |true=>exact⟨d,e,g⟩
 |false=>exact k m f l i d Q e g
def Kn(e:cG X a h8):cG X (.UnaryOp .Not a pos) (Na h8):=by
 intro f s g H Q I h;exact isTrue_not (e f s g H (λc d=>Q (!c) d) I h)
abbrev MT(bT bW:TE):TE:=λe H Q=>bT e H λx d=>∃c,x=.ag c/\if c=J then bW e d Q else Q (.ag VC) d
abbrev Nd(bT bW:TE):TE:=λe H Q=>bT e H λx d=>∃c,x=.ag c/\if c=J then Q (.ag J) d else bW e d Q
abbrev Nb(bT:TE):TE:=λe H Q=>bT e H λx d=>∃c,x=.ag c/\Q (.ag (!c)) d
def ub{op}(h:ai X a t):ai X (.BoolOp op [a] pos) t:=λc s d H Q I hw=>BoolOp_one (h c s d H Q I hw)
def t6(j:ai X a bT)(k:ai X (.BoolOp .And (b::rest) pos) bW):ai X (.BoolOp .And (a::b::rest) pos) (MT bT bW):=by
 intro g s i H Q I h;refine BoolOp_and (aM (j g s i H _ I h) λv m n=>?_);obtain⟨x,e,f,l,d⟩:=n;obtain⟨c,rfl,d⟩:=d;cases l;refine Rh ?_;cases c with
 |true=>exact k g m i e Q f d
 |false=>exact⟨.ag VC,e,f,rfl,d⟩
def JR(j:ai X a bT)(k:ai X (.BoolOp .Or (b::rest) pos) bW):ai X (.BoolOp .Or (a::b::rest) pos) (Nd bT bW):=by
 intro g s i H Q I h;refine BoolOp_or (aM (j g s i H _ I h) λv m n=>?_);obtain⟨x,e,f,l,d⟩:=n;obtain⟨c,rfl,d⟩:=d;cases l;refine Rh ?_;cases c with
 |false=>exact k g m i e Q f d
 |true=>exact⟨.ag J,e,f,rfl,d⟩
def zA(g:ai X a bT):ai X (.UnaryOp .Not a pos) (Nb bT):=by
 intro i s l H Q I h;refine UnaryOp_ (aM (g i s l H _ I h) λv m k=>?_);obtain⟨x,e,f,j,d⟩:=k;obtain⟨c,rfl,d⟩:=d;cases j;exact not_of (Rh ⟨.ag (!c),e,f,rfl,d⟩)
abbrev n7(t:TT)(bT bW:TE):TE:=λd H Q=>t d H λc e=>if c=J then bT d e Q else bW d e Q
end
end aH
namespace aH
open PySem PySem.Spec PyProof.Rows
def b8(K:W.Frag)(H:ah)(a:VO)(xs:List V):Prop :=
 eS H a (.lst xs) \/
  ∃(o:WW)(its:Array VE)(n:Nat),K.lookup a=Z o/\o.cls=.type "list"/\o.dict=Y/\o.data=.seq its n/\its.size<=V2/\Vals xs its.toList
def dT(K:W.Frag)(H:ah)(a:VO)(xs:List V):Prop :=
 eS H a (.tup xs) \/
  ∃(o:WW)(its:Array VE)(n:Nat),K.lookup a=Z o/\o.cls=.type "tuple"/\o.data=.seq its n/\its.size<=V2/\Vals xs its.toList
abbrev B4:VE->Option V
 |.none=>Z .aW
 |.bool b=>Z (.ag b)
 |.int i _=>Z (.int i)
 |.str x _=>Z (.str x)
 |.bytes b _=>Z (.r8 b)
 |.float b _=>Z (.gD b)
 |.ref a=>Z (.ref a)
 |.type n=>Z (.ty n)
 |_=>Y
def RelV.abs(r:RelV x u):B4 u=Z x:=by
 cases x with
 |aW=>cases r;rfl
 |ag _=>cases r;rfl
 |int _=>obtain⟨t,rfl⟩:=r;rfl
 |str _=>obtain⟨t,rfl⟩:=r;rfl
 |r8 _=>obtain⟨t,rfl⟩:=r;rfl
 |gD _=>obtain⟨t,rfl⟩:=r;rfl
 |ref _=>cases r;rfl
 |ty _=>cases r;rfl
def RelV.inj(r:RelV x u)(q:RelV y u):x=y:=Ql (r.abs.symm.trans q.abs)
theorem Vals.inj:∀{xs ys:List V}{a:List VE},Vals xs a->Vals ys a->xs=ys:=by
 intro xs ys a h
 induction h generalizing ys with
 |nil=>intro q;cases q;rfl
 |cons r t b=>intro q;cases q with
  |cons c t'=>rw[r.inj c,b t']
section
variable{X:aq}{pins:List (VO×WW)}{σ:St}{H:ah}{s:VI}{a:VO}{xs ys:List V}
def b8.of{K:W.Frag}(h:H a=Z (.lst xs)):b8 K H a xs:=.inl (.inl h)
def Inv.list(I:Inv X pins σ H s)(h:b8 X.K H a xs):∃its:List VE,Vals xs its/\PlainL s.heap a its.toArray/\xs.length<=sizeLine:=by
 rcases h with h|⟨o,its,n,d,b,c,f,hz,r⟩
 .obtain⟨z,its,n,r,e⟩:=h.ok I.aG;exact⟨its,r,⟨_,n,e,rfl,rfl,rfl⟩,z⟩
 .refine⟨its.toList,r,⟨o,n,I.d5 a o d,b,c,⇑f⟩,?_⟩;have e:=r.length;simp only[VH]at e;lia
def Inv.tuple(I:Inv X pins σ H s)(h:dT X.K H a xs):∃its:List VE,Vals xs its/\Z1 s.heap a its.toArray/\xs.length<=sizeLine:=by
 rcases h with h|⟨o,its,n,c,b,d,hz,r⟩
 .obtain⟨z,its,r,p⟩:=h.ok I.aG;exact⟨its,r,p,z⟩
 .refine⟨its.toList,r,⟨o,I.d5 a o c,b,n,⇑d⟩,?_⟩;have e:=r.length;simp only[VH]at e;lia
def Inv.yJ(I:Inv X pins σ H s)(h:b8 X.K H a xs)(h':b8 X.K H a ys):xs=ys:=by
 obtain⟨its,r,⟨o,n,e,_,_,d⟩,_⟩:=I.list h;obtain⟨its',f,⟨i,g,b,_,_,d'⟩,_⟩:=I.list h';rw[e]at b;cases b;rw[d]at d';injection d' with c _;have:its=its':=by simpa using Q9 Array.toList c
 subst this;exact r.inj f
def Inv.Oa(I:Inv X pins σ H s)(h:dT X.K H a xs)(h':dT X.K H a ys):xs=ys:=by
 obtain⟨its,r,⟨o,e,_,n,d⟩,_⟩:=I.tuple h;obtain⟨its',f,⟨i,b,_,g,d'⟩,_⟩:=I.tuple h';rw[e]at b;cases b;rw[d]at d';injection d' with c _;have:its=its':=by simpa using Q9 Array.toList c
 subst this;exact r.inj f
end
section
variable{X:aq}{st:Wl}{rest:List Wl}{t u:eG}{e:VY}{eD:TE}{pos:Xj}
abbrev M8:eG:=λD a H=>D.aR a H
abbrev Nh(t u:eG):eG:=λD a H=>t { D with aR:=u D } a H
def zT:dh X [] M8:=λ_ _ a H _ I h=>TY ⟨a,H,I,h⟩
def uf(d:bJ X st t)(h2:dh X rest u):dh X (st::rest) (Nh t u):=by
 intro a s i H D I h;refine wpAny_execs_cons (aM (d a s i H { D with aR:=u D } I h) λf g q=>?_);cases f with
 |next =>
  obtain⟨j,b,c,q⟩:=q;exact h2 a g j b D c q
 |ret v=>exact q
 |brk=>exact q
 |cont=>exact q
def zU(a:bJ X st t):dh X [st] t:=by
 intro b s c H D I h;refine wpAny_execs_cons (aM (a b s c H D I h) λf d q=>?_);cases f with
 |next=>exact TY q
 |ret v=>exact q
 |brk=>exact q
 |cont=>exact q
def Inv.quiet{a:St}(I:Inv X b a H s):interactive X.env=false:=by simp[interactive,I.ok.kind]
abbrev M1(eD:TE):eG:=λD a H=>eD a H λ_ b=>D.aR a b
def ue(d:ai X e eD)(f:Xa e Y pos.line X.env=pure false:=by rfl):bJ X (.Expr e pos) (M1 eD):=by
 intro g s a H D I h;exact wpAny_Expr_any (aM (d g s a H _ I h) λv k ⟨x,b,c,j,i⟩=>⟨a,b,c,i⟩) I.quiet f
abbrev h9(eD:TE):eG:=λD a H=>eD a H D.bH
def qc(d:ai X e eD):bJ X (.Return (Z e) pos) (h9 eD):=by
 intro f s a H D I h;exact wpAny_Return_some (aM (d f s a H _ I h) λv j ⟨x,b,c,i,g⟩=>⟨x,a,b,c,i,g⟩)
abbrev M6(c:TT)(t u:eG):eG:=λD a H=>c a H λb d=>if b=J then t D a d else u D a d
def zS(o:cG X c p)(m:dh X a t)(n:dh X b u):bJ X (.If c a b pos) (M6 p t u):=by
 intro f s g H D I h;refine wpAny_If (aM (o f s g H _ I h) λd l q=>?_);obtain⟨i,j,k⟩:=q;cases d with
 |true=>exact m f l g i D j k
 |false=>exact n f l g i D j k
end
noncomputable abbrev ig:=V->St->ah->(St->ah->Prop)->Prop
noncomputable abbrev i5:=List V->St->ah->(St->ah->Prop)->Prop
def f9(X:aq)(e:VY)(t:ig):Prop :=
 ∀(b:List (VO×WW))(s:VI)(c:St)(H:ah)(v:V)(u:VE)(Q:St->ah->Prop),Inv X b c H s->RelV v u->t v c H Q ->
  VJ (VM X.prog X.w) X.A (ZC e X.env u) (λ_ s'=>∃d a,Inv X b d a s'/\Q d a) X.bl s
def mD(X:aq)(ts:List VY)(t:i5):Prop :=
 ∀(b:List (VO×WW))(s:VI)(e:St)(H:ah)(d:List V)(c:List VE)(Q:St->ah->Prop),Inv X b e H s->Vals d c->t d e H Q ->
  VJ (VM X.prog X.w) X.A (assignInOrder ((W6 ts X.env).map (·.2)) c) (λ_ s'=>∃f a,Inv X b f a s'/\Q f a) X.bl s
section
variable{X:aq}{pos:Xj}
abbrev ta(i:Nat):ig:=λv a H Q=>Q (a.set i (Z v)) H
def zF{i:Nat}{x:VT}(b:X.N.Nodup)(hi:X.N[i]?=Z x)(d:Loc X.env.scope x)(c:X.fn x=J\/X.env.scope.names.lookup x=Z .local:=by first|exact .inl rfl|exact .inr rfl|assumption):f9 X (.Name x pos) (ta i):=by
 intro e s f H v u Q I r h;exact wpAny_assign_Name (qu I b hi d r (λs' a=>⟨_,H,a,h⟩) c)
abbrev xQ:i5:=λa b H Q=>a=[]/\Q b H
abbrev xO(t:ig)(u:i5):i5:=λb c H Q=>∃v r,b=v::r/\t v c H λd a=>u r d a Q
def J2:mD X [] xQ:=by
 intro b s a H d c Q I r h;obtain⟨e,h⟩:=h;subst e;cases r;exact assignInOrder_nil ⟨a,H,I,h⟩
def J1{e:VY}{a:List VY}{t:ig}{u:i5}(f:f9 X e t)(h2:mD X a u)(g:(W6 (e::a) X.env).map (·.2)=ZC e X.env::(W6 a X.env).map (·.2):=by rfl):mD X (e::a) (xO t u):=by
 intro b s m H q o Q I r h;obtain⟨v,p,e1,h⟩:=h;subst e1;cases r with
 |cons r j =>
  rw[g];refine assignInOrder_cons (aM (f b s m H _ _ _ I r h) λ_ k l=>?_);obtain⟨n,c,d,i⟩:=l;exact h2 b k n c _ _ Q d j i
abbrev F5(K:W.Frag)(n:Nat)(t:i5):ig:=λv b H Q=>∃a xs,v=.ref a/\dT K H a xs/\xs.length=n/\t xs b H Q
def J0{c:List VY}{k:Nat}{t:i5}{n:Nat}(j:X.calm=J)(h:mD X c t)(m:(W6 c X.env).length=n:=by rfl)(q:(W6 c X.env).findIdx? (·.1)=none:=by rfl):f9 X (.Tuple c k pos) (F5 X.K n t):=by
 intro d s g H v u Q I r hw;obtain⟨a,xs,e1,p,l,hw⟩:=hw;subst e1;cases r;obtain⟨its,f,w,hz⟩:=I.tuple p;refine assign_Tuple_tuple (I.ok.hd j) w (by simp[m,<- l,f.length]) q λh' x=>?_
 have i:Inv X d g H { s with heap:=h' }:=I.kept (t':=s.toks) λb o e=>x b o (PY (PJ e)) e
 exact h d _ g H xs _ Q i ⇑f hw
abbrev fJ(c:TE)(g:ig):eG:=λD a H=>c a H λx b=>g x a b D.aR
def lX{i:Nat}{x:VT}{e:VY}{b:TE}{a:Xj}(g:X.N.Nodup)(hi:X.N[i]?=Z x)(m:Loc X.env.scope x)(j:ai X e b)(l:Xa e (Z (.Name x a)) pos.line X.env=pure false:=by rfl)(k:X.fn x=J\/X.env.scope.names.lookup x=Z .local:=by first|exact .inl rfl|exact .inr rfl|assumption):
  bJ X (.Assign [.Name x a] e pos) (fJ b (ta i)):=by
 intro n s r H D I h;refine wpAny_Assign_Name (aM (j n s r H _ I h) λv t q=>?_) l;obtain⟨y,c,d,p,o⟩:=q;exact qu d g hi m p (λs2 f=>⟨_,c,f,o⟩) k
end
structure gZ where
 go:Nat->ah->Prop
 gW:Nat->ah->V->ah->Prop
 stop:Nat->ah->Prop
def gv(X:aq)(a:List (VO×WW))(H:ah)(b:VO):Prop :=
 H b=Y/\b≠X.env.locals/\b∉X.bD/\(b∈X.ex\/X.dN.heap.objs.size<=b)/\(∀x c,X.env.cells.lookup x=Z c->c≠b)/\∀p∈X.bV++a,p.1≠b
def Inv.ly{i:St}{b:VO}(I:Inv X h i H s)(a:s.heap.objs.size<=b)(f:d b=Y):gv X h d b:=by
 refine⟨f,T7 (PH I.lt a),I.nL a,.inr (PW I.ef a),λx c e z=>?_,λp g z=>?_⟩
 .obtain⟨v,q⟩:=I.cell x c e;exact absurd (PH q.lt (by rw[z];exact a)) (Q5 _)
 .exact absurd (PH (PJ (I.pin p g).1) (by rw[z];exact a)) (Q5 _)
structure Turn(P:Wa)(w:Wm)(K:W.Frag)(eE:VY)(jS:gZ)(fS:List VO)(it:VO)(iT:Nat->V9->Prop):Prop where
 mem:it∈fS
 obj:∀i h,iT i h->∀b∈fS,∃o,h.get? b=Z o/\∀v,o.data≠.cell v
 keep:∀i h h',iT i h->(∀b∈fS,∀o,h.get? b=Z o->h'.get? b=Z o)->iT i h'
 item:∀(X:aq),X.prog=P->X.w=w->X.K=K->X.calm=J->∀(i:Nat)(pins:List (VO×WW))(s:VI)(σ:St)(H:ah)(E:VE->VI->Prop),Inv X pins σ H s->(∀b∈fS,gv X pins H b)->iT i s.heap->jS.go i H ->
  VJ (VM P w) X.A (Xk (.ref it)) (λr s1=>∃u,r=Z u /\
   VJ (VM P w) X.A (Xu eE (.ref it) u) (λ_ s2=>∃x aC,Inv X pins σ aC s2/\RelV x u/\jS.gW i H x aC/\iT (i+1) s2.heap/\∀b∈fS,aC b=Y) E s1) E s
 done:∀(X:aq),X.prog=P->X.w=w->X.K=K->X.calm=J->∀(i:Nat)(pins:List (VO×WW))(s:VI)(σ:St)(H:ah)(E:VE->VI->Prop),Inv X pins σ H s->(∀b∈fS,gv X pins H b)->iT i s.heap->jS.stop i H ->
  VJ (VM P w) X.A (Xk (.ref it)) (λr s1=>r=Y/\Inv X pins σ H s1) E s
 self:∀(A:Wc)(i:Nat)(s:VI)(Q:VE->VI->Prop)(E:VE->VI->Prop),iT i s.heap->Q (.ref it) s->VJ (VM P w) A (YA (.ref it)) Q E s
noncomputable abbrev TI:=St->ah->(gZ->ah->Prop)->Prop
def q7(X:aq)(f:List (VO×WW))(j:St)(i:VY)(R:gZ->ah->Prop)(h:VE)(s2:VI):Prop :=
 ∃(e:VO)(d:List VO)(g:Nat->V9->Prop)(c:gZ)(a:ah),h=.ref e/\Inv X f j a s2/\Turn X.prog X.w X.K i c d e g/\g 0 s2.heap/\(∀b∈d,gv X f a b)/\R c a
def eR(X:aq)(e c:VY)(f:TI):Prop :=
 ∀(b:List (VO×WW))(s:VI)(a:St)(H:ah)(R:gZ->ah->Prop),Inv X b a H s->f a H R ->
  VJ (VM X.prog X.w) X.A (Wu c X.env) (λv d=>VJ (VM X.prog X.w) X.A (YA v) (q7 X b a e R) X.bl d) X.bl s
def pd (e : s.heap.get? f = Z o) (b : o.cls = .type n) (c : o.data = .fields i)
    (d : ["enumerate", "zip", "dict_itemiterator", "dict_reverseitemiterator", "odict_iterator", "itertools.zip_longest", "itertools.pairwise"].contains n = VC) (a : Q () s) : VJ M A (Xu g (.ref f) u) Q E s := by
  unfold Xu
  cases g <;> first
    | exact VB a
    | (cases u <;> first
        | exact VB a
        | (refine PA (Vs e ?_)
           rw [b, c]
           show VJ M A (if (["enumerate", "zip", "dict_itemiterator", "dict_reverseitemiterator", "odict_iterator", "itertools.zip_longest", "itertools.pairwise"].contains n && i[0]? == Z (Xl _)) = J then _ else _) Q E s
           rw [if_neg (by intro h; rw [d, SR] at h; cases h)]
           exact VB a))
abbrev qY(K:W.Frag)(a:VO):gZ :=
 ⟨λi H=>∃xs x,b8 K H a xs/\xs[i]?=Z x,λi H x b=>b=H/\∀xs,b8 K H a xs->xs[i]?=Z x,λi H=>∃xs,b8 K H a xs/\xs.length<=i⟩
abbrev qZ(K:W.Frag)(a:VO):gZ :=
 ⟨λi H=>∃xs x,dT K H a xs/\xs[i]?=Z x,λi H x b=>b=H/\∀xs,dT K H a xs->xs[i]?=Z x,λi H=>∃xs,dT K H a xs/\xs.length<=i⟩
def kR(lo:Int)(n:Nat):gZ:=⟨λi _=>i<n,λi H x a=>a=H/\x=.int (lo+i),λi _=>n<=i⟩
def Og{K:W.Frag}(a it):Turn P w K a1 (qY K a) [it] it (λi h=>h.IsListIter it a i) where
 mem:=by simp
 obj:=λi h st b f=>by
  have e:b=it:=⇑f;subst e;obtain⟨o,e,c,d⟩:=st;exact⟨o,e,λv z=>by rw[d]at z;cases z⟩
 keep:=λi h h' st k=>st.at λo e=>k it (by simp) o e
 item:=by
  intro X y hw t D i G s M H E I g st A;subst y hw t;obtain⟨xs,x,j,B⟩:=A;obtain⟨its,C,p,hz⟩:=I.list j;obtain⟨u,R,T⟩:=C.get B;obtain⟨l,m,Q,n,q,r⟩:=g it (by simp);refine X9 st p.isList (x:=u) ⇑R λh' L U=>?_
  have N:Inv X G M H { s with heap:=h' }:=I.turned (t':=s.toks) (λb o f e=>(U.2 b f).trans e) l m n q r;obtain⟨o,e,c,d⟩:=id L;exact⟨u,rfl,pd (s:={ s with heap:=h' }) e c d ∅ ⟨x,H,N,T,⟨rfl,λys S=>by rw[I.yJ S j];exact B⟩,L,λb f=>(g b f).1⟩⟩
 done:=by
  intro X y hw t D i G s M H E I g st A;subst y hw t;obtain⟨xs,j,B⟩:=A;obtain⟨its,C,p,hz⟩:=I.list j;obtain⟨l,m,Q,n,q,r⟩:=g it (by simp);have a0:=C.length;exact wpAny_pyNext_list_end (I.ok.hd D) st p.isList (by simp;lia) λh' O=>⟨rfl,I.turned (t':=s.toks) (λb o f e=>O b o f e) l m n q r⟩
 self:=λ_ _ _ _ _ st h=>Yq st h
def Oi{K:W.Frag}(a it):Turn P w K a1 (qZ K a) [it] it (λi h=>h.IsTupleIter it a i) where
 mem:=by simp
 obj:=λi h st b f=>by
  have e:b=it:=⇑f;subst e;obtain⟨o,e,c,d⟩:=st;exact⟨o,e,λv z=>by rw[d]at z;cases z⟩
 keep:=λi h h' st k=>st.at λo e=>k it (by simp) o e
 item:=by
  intro X y hw t D i G s M H E I g st A;subst y hw t;obtain⟨xs,x,j,B⟩:=A;obtain⟨its,C,p,hz⟩:=I.tuple j;obtain⟨u,R,T⟩:=C.get B;obtain⟨l,m,Q,n,q,r⟩:=g it (by simp);refine wpAny_pyNext_tuple_item st (show s.heap.IsTuple a its.toArray from p) (x:=u) ⇑R λh' L U=>?_
  have N:Inv X G M H { s with heap:=h' }:=I.turned (t':=s.toks) (λb o f e=>(U.2 b f).trans e) l m n q r;obtain⟨o,e,c,d⟩:=id L;exact⟨u,rfl,pd (s:={ s with heap:=h' }) e c d ∅ ⟨x,H,N,T,⟨rfl,λys S=>by rw[I.Oa S j];exact B⟩,L,λb f=>(g b f).1⟩⟩
 done:=by
  intro X y hw t D i G s M H E I g st A;subst y hw t;obtain⟨xs,j,B⟩:=A;obtain⟨its,C,p,hz⟩:=I.tuple j;obtain⟨l,m,Q,n,q,r⟩:=g it (by simp);have a0:=C.length;exact wpAny_pyNext_tuple_end (I.ok.hd D) st (show s.heap.IsTuple a its.toArray from p) (by simp;lia) λh' O=>⟨rfl,I.turned (t':=s.toks) (λb o f e=>O b o f e) l m n q r⟩
 self:=λ_ _ _ _ _ st h=>wpAny_pyIter_tupleiter st h
def Oh{K:W.Frag}(it)(lo)(n):Turn P w K M (kR lo n) [it] it (λi h=>IsRangeIter h it (lo+(i:Nat)*1) ((n:Int)-(i:Nat)) 1) where
 mem:=by simp
 obj:=λi h st b a=>by
  have e:b=it:=⇑a;subst e;exact⟨_,st,λv z=>by
   have L:Data.fields _=Data.cell v:=z;cases L⟩
 keep:=λi h h' st k=>k it (by simp) _ st
 item:=by
  intro X p hw m q i u s y H E I c st r;subst p hw m;obtain⟨d,f,C,g,j,l⟩:=c it (by simp);have W:=Walks.range (prog:=X.prog) (w:=X.w) (I.ok.hd q) it lo 1 n;refine W.item i s _ _ r st λv h' tk D x G=>?_
  obtain⟨t,rfl⟩:=D;have A:Inv X u y H { s with heap:=h',toks:=tk }:=I.turned (λb o a e=>G b o ⇑a e) d f g j l;refine⟨_,rfl,pd (s:={ s with heap:=h',toks:=tk }) (n:="range_iterator") x rfl rfl ∅ ⟨.int (lo+i),H,A,⟨t,?_⟩,⟨rfl,rfl⟩,x,λb a=>(c b a).1⟩⟩;rw[Int.mul_one]
 done:=by
  intro X p hw m q i u s y H E I c st r;subst p hw m;obtain⟨d,f,C,g,j,l⟩:=c it (by simp);exact wpAny_pyNext_range_end (I.ok.hd q) st (by have:n<=i:=r;lia) λh' B=>⟨rfl,I.turned (t':=s.toks) (λb o a e=>B b o a e) d f g j l⟩
 self:=λ_ _ _ _ _ st h=>wpAny_pyIter_rangeiter st h
end aH
namespace aH
open PySem PySem.Spec PyProof.Rows
section
variable{X:aq}{eE:VY}
def z2{c:St}{lo hi:Int}(I:Inv X d c H s)(f:-(2 ^ 62)<=lo)(h2:lo<2 ^ 62)(h3:-(2 ^ 62)<=hi)(h4:hi<2 ^ 62)(q:R (kR lo (hi-lo).toNat) H):VJ (VM X.prog X.w) X.A (YA (.ref s.heap.objs.size)) (q7 X d c eE R) E { s with heap:=s.heap.push { cls:=.type "range",data:=.fields #[.int lo t,.int hi u,.int 1 v] },toks:=tk }:=by
 refine wpAny_pyIter_range (IsRange.new ..) (small_one f h2 h3 h4) ?_;have a:Inv X d c H { s with heap:=s.heap.push { cls:=.type "range",data:=.fields #[.int lo t,.int hi u,.int 1 v] },toks:=tk }:=I.kept λb o e=>PC _ e
 refine⟨(s.heap.push { cls:=.type "range",data:=.fields #[.int lo t,.int hi u,.int 1 v] }).objs.size,[(s.heap.push { cls:=.type "range",data:=.fields #[.int lo t,.int hi u,.int 1 v] }).objs.size],_,_,H,rfl,
  a.kept (t':=tk) λb o e=>PC _ e,Oh _ lo (hi-lo).toNat,?_,λb g=>?_,q⟩
 .have e1:lo+((0:Nat):Int)*1=lo:=(by simp);have e2:(((hi-lo).toNat:Nat):Int)-((0:Nat):Int)=Xh lo hi 1:=(by rw[rangeSize_one];split<;>lia);show IsRangeIter _ _ (lo+((0:Nat):Int)*1) ((((hi-lo).toNat:Nat):Int)-((0:Nat):Int)) 1;rw[e1,e2];exact PQ _ rfl
 .have e:b=(s.heap.push { cls:=.type "range",data:=.fields #[.int lo t,.int hi u,.int 1 v] }).objs.size:=⇑g;subst e;exact a.ly (PE _) (a.aG.fresh (PE _))
def Gu(b:dU):TI:=λd H R=>b d H λc a=>∃j:Int,c=[.int j]/\-(2 ^ 62)<=j/\j<2 ^ 62/\R (kR 0 j.toNat) a
def Gv(b:dU):TI:=λd H R=>b d H λc a=>∃i j:Int,c=[.int i,.int j]/\(-(2 ^ 62)<=i/\i<2 ^ 62/\-(2 ^ 62)<=j/\j<2 ^ 62)/\R (kR i (j-i).toNat) a
def J3{a:VY}{c:dU}{p pos:Xj}(g:cn X "range")(i:X.ak "range"=Y)(f:dS X [a] c)(k:VX [a] X.env=[(VC,Wu a X.env)]:=by rfl):eR X eE (.Call (.Name "range" p) [a] [] pos) (Gu c):=by
 intro l s v H R I h;refine Call_ (fV I g i boot_range (Qm (aM (f pos l s v H _ I h) λy x u=>?_) k rfl));obtain⟨z,w,d,n,b⟩:=u;obtain⟨j,e,b,m,q⟩:=b;subst e;cases n with
 |cons r o =>
  cases o;obtain⟨t,rfl⟩:=r;exact call_range_1 (z2 d ⋯ ⋯ b m ⇑q)
def J4{a b:VY}{g:dU}{p pos:Xj}(m:cn X "range")(n:X.ak "range"=Y)(l:dS X [a,b] g)(o:VX [a,b] X.env=[(VC,Wu a X.env),(VC,Wu b X.env)]:=by rfl)(f:VX [b] X.env=[(VC,Wu b X.env)]:=by rfl):
  eR X eE (.Call (.Name "range" p) [a,b] [] pos) (Gv g):=by
 intro u s B H R I h;refine Call_ (fV I m n boot_range (Qm (aM (l pos u s B H _ I h) λE D A=>?_) (by rw[o,f]) (by rw[f];rfl)));obtain⟨G,C,k,z,c⟩:=A;obtain⟨i,j,e,⟨c,v,w,x⟩,q⟩:=c;subst e;cases z with
 |cons r d =>
  cases d with
  |cons y d =>
   cases d;obtain⟨t,rfl⟩:=r;obtain⟨t',rfl⟩:=y;exact call_range_2 (z2 k c v w x q)
abbrev n6(k:TI)(g:ig)(j:eG):eG:=λD a H=>k a H λc f=>∃W:Nat->Nat->St->ah->Prop,(∃m,W 0 m a f)/\∀i m a H,W i m a H ->
 (c.stop i H/\D.aR a H)\/(c.go i H/\∃N:St->ah->Prop,(∀e b,N e b->∃d,d<m/\W (i+1) d e b)/\∀x b,c.gW i H x b->g x a b λl h=>j { D with aR:=N,ct:=N,fB:=D.aR } l h)
abbrev p7(a:List VO)(h:V9):List (VO×WW):=a.filterMap λb=>(h.get? b).map λo=>(b,o)
def lM(c:b∈a)(e:h.get? b=Z o):(b,o)∈p7 a h:=Tb.mpr ⟨b,c,by rw[e];rfl⟩
def Ji(f:p∈p7 c h):p.1∈c/\h.get? p.1=Z p.2:=by
 obtain⟨b,d,e⟩:=Tb.mp f;cases q:h.get? b with
 |none=>rw[q]at e;cases e
 |some o =>
  rw[q]at e;have a:(b,o)=p:=Ql e;subst a;exact⟨d,q⟩
def Inv.pinned{h:St}(I:Inv X g h H s)(l:∀b∈c,gv X g H b)(m:∀b∈c,∃o,s.heap.get? b=Z o/\∀v,o.data≠.cell v):Inv X (g++p7 c s.heap) h H s :=
 I.nT λp n=>(PS.mp n).elim (λz=>I.pin p (PO _ z)) λz=>by
  obtain⟨f,e⟩:=Ji z;obtain⟨i,j,k,_⟩:=l p.1 f;obtain⟨o,a,d⟩:=m p.1 f;rw[e]at a;cases a;exact⟨e,i,j,k,d⟩
def Inv.mn{a:St}(I:Inv X (c++d) a H s):Inv X c a H s:=I.nT λp b=>I.pin p (PO _ (VV _ b))
def zR{E:VY}{body:List Wl}{a4:TI}{g:ig}{a2:eG}{pos:Xj}(w:ZD (VM X.prog X.w) X.A X.env X.bl)(U:X.calm=J)(hi:eR X eE E a4)(bf:f9 X eE g)(j:dh X body a2)(c0:∀x,WD E X.env x=pure x:=by intro _;rfl):bJ X (.For eE E body [] pos) (n6 a4 g a2):=by
 intro p s a5 H D I h;refine wpAny_For (aM (hi p s a5 H _ I h) λv ea a9=>aM a9 λd2 s2 h2=>?_) c0;obtain⟨dV,t,a3,dD,au,e,ay,T,cp,R,W,⟨m0,cB⟩,turn⟩:=h2;subst e;have M:∀{aC:ah},(∀b∈t,aC b=Y)->∀b∈t,gv X p aC b:=λbz b j=>⟨bz b j,(R b j).2⟩
 refine codeAny_forLoop_any (λn s'=>∃i z aC,Inv X p z aC s'/\a3 i s'.heap/\(∀b∈t,aC b=Y)/\W i n z aC) ?_ m0 ⟨0,a5,au,ay,cp,λb j=>(R b j).1,cB⟩;rintro n s3 ⟨i,A,B,Q,a1,S,cP⟩;rcases turn i n A B cP with⟨stop,b9⟩|⟨a8,N,bg,step⟩
 .refine S9 w (aM (T.done X rfl rfl rfl U i p s3 A B X.bl Q (M S) a1 stop) λr cN q=>?_);obtain⟨C,az⟩:=q;subst C;exact TY ⟨A,B,az,b9⟩
 .refine S9 w (aM (T.item X rfl rfl rfl U i p s3 A B X.bl Q (M S) a1 a8) λr cN q=>?_);obtain⟨u,C,h4⟩:=q;subst C;refine S9 w (aM h4 λ_ a0 q=>?_);obtain⟨x,O,aA,cz,dC,L,bc⟩:=q;have b1:=aA.pinned (M bc) (T.obj _ _ L);refine S9 w (aM (bf _ a0 A O x u _ b1 cz (step x O dC)) λ_ cO q=>?_);obtain⟨dr,av,b2,da⟩:=q;refine S9 w (aM (j _ cO dr av _ b2 da) λf G l=>?_);have again:∀{k:St}{a:ah},Inv X (p++p7 t a0.heap) k a G->N k a->∃m,m<n/\∃i z aC,Inv X p z aC G/\a3 i G.heap/\(∀b∈t,aC b=Y)/\W i m z aC:=λ{k a} c y=>by
   obtain⟨cy,bp,c2⟩:=bg k a y;refine⟨cy,bp,i+1,k,a,c.mn,T.keep _ _ _ L λb j o e=>(c.pin (b,o) (PO _ (PO _ (lM j e)))).1,λb j=>?_,c2⟩;obtain⟨o,e,d⟩:=T.obj _ _ L b j;exact(c.pin (b,o) (PO _ (PO _ (lM j e)))).2.1
  cases f with
  |next=>obtain⟨k,a,c,y⟩:=l;exact again c y
  |cont=>obtain⟨k,a,c,y⟩:=l;exact again c y
  |brk=>obtain⟨k,a,c,l⟩:=l;exact⟨k,a,c.mn,l⟩
  |ret v=>obtain⟨dJ,k,a,c,cA,l⟩:=l;exact⟨dJ,k,a,c.mn,cA,l⟩
end
end aH
namespace aH
open PySem PySem.Spec PyProof.Rows
noncomputable abbrev fu:=V->V->ah->cj->Prop
def bC(X:aq)(f:VE->VE->ZN VE)(r:fu):Prop :=
 ∀(a:List (VO×WW))(s:VI)(b:St)(H:ah)(x y:V)(v u:VE)(Q:cj),Inv X a b H s->RelV x v->RelV y u->r x y H Q ->
  VJ (VM X.prog X.w) X.A (f v u) (cX X a b Q) X.bl s
def ra(X:aq)(f:VE->ZN VE)(r:V->ah->cj->Prop):Prop :=
 ∀(a:List (VO×WW))(s:VI)(b:St)(H:ah)(x:V)(v:VE)(Q:cj),Inv X a b H s->RelV x v->r x H Q ->
  VJ (VM X.prog X.w) X.A (f v) (cX X a b Q) X.bl s
def eu(X:aq)(f:VE)(r:List V->ah->cj->Prop):Prop :=
 ∀(a:List (VO×WW))(s:VI)(c:St)(H:ah)(xs:List V)(b:List VE)(Q:cj),Inv X a c H s->Vals xs b->r xs H Q ->
  VJ (VM X.prog X.w) X.A (call f b) (cX X a c Q) X.bl s
abbrev n8(r:fu)(d e:TE):TE:=λa H Q=>d a H λx b=>e a b λy c=>r x y c Q
abbrev Nl(r:V->ah->cj->Prop)(b:TE):TE:=λc H Q=>b c H λx a=>r x a Q
abbrev l6(C:Int->Int->Prop)(g:Int->Int->V):fu:=λx y H Q=>∃i j,x=.int i/\y=.int j/\C i j/\Q (g i j) H
abbrev h6(g:Int->Int->V):fu:=λx y H Q=>∃i j,x=.int i/\y=.int j/\Q (g i j) H
abbrev z1(g:Int->V):V->ah->cj->Prop:=λx H Q=>∃i,x=.int i/\Q (g i) H
section
variable{X:aq}{a b c:VY}{bT bW kI:TE}{pos:Xj}
def r6(m:ai X a bT)(n:ai X b bW){e:St}{R:V->V->ah->Prop}(I:Inv X i e H s)(h:bT e H λx g=>bW e g λy d=>R x y d){f:VE->VE->ZN VE}(o:∀v u s2 x y d,Inv X i e d s2->RelV x v->RelV y u->R x y d->VJ (VM X.prog X.w) X.A (f v u) Q X.bl s2):
  VJ (VM X.prog X.w) X.A (Wu a X.env) (λv z=>VJ (VM X.prog X.w) X.A (Wu b X.env) (λu A=>VJ (VM X.prog X.w) X.A (f v u) Q X.bl A) X.bl z) X.bl s:=by
 refine aM (m i s e H _ I h) λv w j=>?_
 obtain⟨x,g,k,r,p⟩:=j;refine aM (n i w e g _ k p) λu s2 j=>?_
 obtain⟨y,d,l,t,q⟩:=j;exact o v u s2 x y d l r t q
def zB(i:bC X (Wv op) r)(f:ai X a bT)(g:ai X b bW):ai X (.BinOp a op b pos) (n8 r bT bW):=by
 intro j s m H Q I h;exact wpAny_BinOp (r6 f g I h λv u s2 x y d e k l q=>i j s2 m d x y v u Q e k l q)
def JU(j:ra X (unaryOp op) r)(i:ai X a bT):ai X (.UnaryOp op a pos) (Nl r bT):=by
 intro d s e H Q I h;exact UnaryOp_ (aM (i d s e H _ I h) λv m ⟨x,f,g,l,k⟩=>j d m e f x v Q g l k)
def nP{g:Int->Int->Int}(Zk:∀(i j:Int)(t u:Tok)(s:VI)(Q E:VE->VI->Prop),C i j->Q (.int (g i j) s.toks) { s with toks:=s.toks+1 }->VJ (VM X.prog X.w) X.A (f (.int i t) (.int j u)) Q E s):
  bC X f (l6 C λi j=>.int (g i j)):=by
 intro l s m H x y v u Q I e k h;obtain⟨i,j,rfl,rfl,d,q⟩:=h;obtain⟨t,rfl⟩:=e;obtain⟨t',rfl⟩:=k;exact Zk i j t t' s _ _ d ⟨.int (g i j),H,I.tok _,⟨_,rfl⟩,q⟩
def pY{g:Int->Int->Int}(Zk:∀(i j:Int)(t u:Tok)(s:VI)(Q E:VE->VI->Prop),Q (.int (g i j) s.toks) { s with toks:=s.toks+1 }->VJ (VM X.prog X.w) X.A (f (.int i t) (.int j u)) Q E s):
  bC X f (h6 λi j=>.int (g i j)):=by
 intro k s l H x y v u Q I d e h;obtain⟨i,j,rfl,rfl,q⟩:=h;obtain⟨t,rfl⟩:=d;obtain⟨t',rfl⟩:=e;exact Zk i j t t' s _ _ ⟨.int (g i j),H,I.tok _,⟨_,rfl⟩,q⟩
def pX{g:Int->Int->Bool}(Zk:∀(i j:Int)(t u:Tok)(s:VI)(Q E:VE->VI->Prop),Q (.bool (g i j)) s->VJ (VM X.prog X.w) X.A (f (.int i t) (.int j u)) Q E s):
  bC X f (h6 λi j=>.ag (g i j)):=by
 intro k s l H x y v u Q I d e h;obtain⟨i,j,rfl,rfl,q⟩:=h;obtain⟨t,rfl⟩:=d;obtain⟨t',rfl⟩:=e;exact Zk i j t t' s _ _ ⟨.ag (g i j),H,I,rfl,q⟩
def BZ(i j:Int):Prop:=0<j/\j<1073741824
def B1(i j:Int):Prop:=0<=j/\j<=1000000/\i.natAbs<2 ^ 64
def qR(i j:Int):Prop:=(-(2 ^ 64)<i/\i<2 ^ 64)\/(-(2 ^ 64)<j/\j<2 ^ 64)
def qR.ok(h:qR i j):IntMulOk i j:=by
 rcases h with⟨d,h2⟩|⟨d,h2⟩
 .exact .of_left (intBits_le_64 d h2)
 .exact .of_right (intBits_le_64 d h2)
def Oj(k):(0:Int)<=2 ^ k:=by
 rw[two_pow_cast];exact Rm _
def zg:bC X (Wv .Add) (h6 λi j=>.int (i+j)):=pY λ_ _ _ _ _ _ _ q=>add_int q
def Jv:bC X (Wv .Sub) (h6 λi j=>.int (i-j)):=pY λ_ _ _ _ _ _ _ q=>sub_int q
def Js:bC X (Wv .Mult) (l6 qR λi j=>.int (i*j)):=nP λ_ _ _ _ _ _ _ d q=>mul_int q d.ok
def Jl:bC X (Wv .FloorDiv) (l6 BZ λi j=>.int (i / j)):=nP λi j _ _ _ _ _ d q=>by
 have e:(0:Int)<j:=d.1;have h2:j<1073741824:=d.2;exact floordiv_int ⋯ (by rw[Ub i ⋯];exact q) (.inl (PyProof.noPylong_small ⋯))
def Jr:bC X (Wv .Mod) (l6 (λ_ j=>0<j) λi j=>.int (i%j)):=nP λi j _ _ _ _ _ d q=>by
 have e:(0:Int)<j:=d;exact mod_int' ⋯ (by rw[Int.fmod_eq_emod_of_nonneg i ⋯];exact q)
def Jt:bC X (Wv .LShift) (l6 B1 λi j=>.int (i*2 ^ j.toNat)):=nP λ_ _ _ _ _ _ _ d q=>lshift_int_small d.1 d.2.1 d.2.2 q
def Ju:bC X (Wv .RShift) (l6 (λ_ j=>0<=j) λi j=>.int (i / 2 ^ j.toNat)):=nP λi j _ _ _ _ _ d q =>
 rshift_int d (by rw[Ub i (Oj _)];exact q)
def zh:bC X (Wv .BitAnd) (h6 λi j=>.int (Xm i j)):=pY λ_ _ _ _ _ _ _ q=>and_int q
def Jw:bC X (Wv .BitXor) (h6 λi j=>.int (Z2 i j)):=pY λ_ _ _ _ _ _ _ q=>xor_int q
def Bw{g:Int->Int}(Zk:∀(i:Int)(t:Tok)(s:VI)(Q E:VE->VI->Prop),Q (.int (g i) s.toks) { s with toks:=s.toks+1 }->VJ (VM X.prog X.w) X.A (f (.int i t)) Q E s):
  ra X f (z1 λi=>.int (g i)):=by
 intro e s j H x v Q I d h;obtain⟨i,rfl,q⟩:=h;obtain⟨t,rfl⟩:=d;exact Zk i t s _ _ ⟨.int (g i),H,I.tok _,⟨_,rfl⟩,q⟩
def Oq:ra X (unaryOp .USub) (z1 λi=>.int (-i)):=Bw λ_ _ _ _ _ q=>neg_int q
end
section
variable{X:aq}{a b c:VY}{bT bW kI:TE}{pos:Xj}
def Jp:bC X (V4 .Lt) (h6 λi j=>.ag (decide (i<j))):=pX λ_ _ _ _ _ _ _ q=>lt_int q
def Jo:bC X (V4 .LtE) (h6 λi j=>.ag (decide (i<=j))):=pX λ_ _ _ _ _ _ _ q=>le_int q
def Jn:bC X (V4 .Gt) (h6 λi j=>.ag (decide (j<i))):=pX λ_ _ _ _ _ _ _ q=>gt_int q
def Jm:bC X (V4 .GtE) (h6 λi j=>.ag (decide (j<=i))):=pX λ_ _ _ _ _ _ _ q=>ge_int q
def JJ(j:bC X (V4 op) r)(f:ai X a bT)(g:ai X b bW)(i:Xp op b=VC):ai X (.Compare a [op] [b] pos) (n8 r bT bW):=by
 intro k s n H Q I h;exact wpAny_Compare1 (r6 f g I h λv u s2 x y d e l m q=>j k s2 n d x y v u Q e l m q) i
abbrev Bb(t:TE):TT:=λe H Q=>t e H λx d=>∃k,x=.ag k/\Q k d
def Km(t:bC X (V4 op) r)(o:ai X a bT)(p:ai X b bW)(q:Xp op b=VC):cG X (.Compare a [op] [b] pos) (Bb (n8 r bT bW)):=by
 intro d s f H Q I h;refine wpAny_isTrue_Compare1 (aM (o d s f H _ I h) λv G ⟨x,g,l,C,w⟩=>aM (p d G f g _ l w) λu s2 ⟨y,i,m,D,A⟩ =>
  aM (t d s2 f i x y v u _ m C D A) λc s3 ⟨z,j,n,E,k,e,B⟩=>?_) q
 subst e;cases E;exact Rh ⟨j,n,B⟩
abbrev uS(r i:fu)(bT bW kI:TE):TE:=λd H Q=>bT d H λx f=>bW d f λy g=>r x y g λz e=>∃k,z=.ag k /\
 (if k=J then kI d e λj h=>i y j h Q else Q (.ag VC) e)
def JI{op op':CmpOp}{r m:fu}(G:bC X (V4 op) r)(L:bC X (V4 op') m)(B:ai X a bT)(C:ai X b bW)(D:ai X c kI)(E:YR [op,op'] [b,c]=false:=by with_unfolding_all rfl):ai X (.Compare a [op,op'] [b,c] pos) (uS r m bT bW kI):=by
 intro f s g H Q I h;refine Compare_chain (aM (B f s g H _ I h) λv U ⟨x,o,t,R,M⟩=>chain_link (aM (C f U g o _ t M) λu s2 ⟨y,p,w,n,N⟩ =>
  aM (G f s2 g p x y v u _ w R n N) λd s3 ⟨z,i,j,S,k,e,l⟩=>?_)) E
 subst e;cases S;refine Rh ?_;cases k with
 |false=>exact ite_ff ⟨.ag VC,i,j,rfl,l⟩
 |true=>exact ite_tt (chain_last (aM (D f s3 g i _ j l) λa1 a0 ⟨a2,q,A,T,O⟩=>L f a0 g q y a2 u a1 Q A n T O))
def Kl{op op':CmpOp}{r m:fu}(N:bC X (V4 op) r)(O:bC X (V4 op') m)(E:ai X a bT)(G:ai X b bW)(L:ai X c kI)(M:YR [op,op'] [b,c]=false:=by with_unfolding_all rfl):cG X (.Compare a [op,op'] [b,c] pos) (Bb (uS r m bT bW kI)):=by
 intro f s g H Q I h;refine isTrue_chain (aM (E f s g H _ I h) λv a5 ⟨x,o,w,a1,S⟩=>test_link (aM (G f a5 g o _ w S) λu s2 ⟨y,p,A,n,T⟩ =>
  aM (N f s2 g p x y v u _ A a1 n T) λd s3 ⟨z,i,j,a2,k,e,l⟩=>?_)) M
 subst e;cases a2;refine Rh ?_;cases k with
 |false =>
  obtain⟨az,D,R⟩:=l;cases D;exact ite_ff ⟨i,j,R⟩
 |true =>
  refine ite_tt (test_last (aM (L f s3 g i _ j l) λav au ⟨ay,q,B,a3,U⟩=>aM (O f au g q y ay u av _ B n a3 U) λd' aA ⟨b1,t,C,a4,k2,e2,a0⟩=>?_));subst e2;cases a4;exact Rh ⟨t,C,a0⟩
def pK:(V2:Nat)<2 ^ 63:=by rw[V3];decide
def vals1(r:Vals [x] f):∃u,f=[u]/\RelV x u:=by
 cases r with
 |cons d e=>cases e;exact⟨_,rfl,d⟩
def vals2(r:Vals [x,y] h):∃u BN,h=[u,BN]/\RelV x u/\RelV y BN:=by
 cases r with
 |cons d e =>
  cases e with
  |cons f g=>cases g;exact⟨_,_,rfl,d,f⟩
def Dl:eu X (.type "int") (λxs H Q=>(∃i,xs=[.int i]/\Q (.int i) H)\/∃k,xs=[.ag k]/\Q (.int (if k then 1 else 0)) H):=by
 intro e s g H xs f Q I r h;rcases h with⟨i,rfl,q⟩|⟨k,rfl,q⟩
 .obtain⟨u,rfl,t,rfl⟩:=vals1 r;exact call_int_int ⟨.int i,H,I,⟨_,rfl⟩,q⟩
 .obtain⟨u,rfl,d⟩:=vals1 r;cases d;exact call_int_bool ⟨.int (if k then 1 else 0),H,I.tok _,⟨_,rfl⟩,q⟩
end
end aH
namespace aH
open PySem PySem.Spec PyProof.Rows
structure q5(h:V9)(x cU C:VO)(yR:VT->Option VE):Prop where
 obj:h.get? x=Z (PySem.W.instObj C cU)
 ns:h.Ns1 cU yR
 ne:cU≠x
set_option tactic.hygienic true in
theorem H5 {h:V9} (n:h.Ns1 f p):∃c,h.get? f=Z c/\∀name,PySem.W.lookIn name c=Z (p name):=by
 obtain⟨o,b,r,l,g,i,_,k⟩:=n;refine⟨o,l,λname=>?_⟩;have e:=k name;unfold nsFind findBy at e;rw[<- Array.find?_toList]at e;unfold PySem.W.lookIn;rw[g];dsimp only
 split
 .rename_i y q;rw[q]at e;exact Q9 Z e
 .rename_i q;rw[q]at e;have a:b.toList.any (·.refKey)=false:=by
   rw[Ut];intro y m;obtain⟨z,t,j⟩:=i y (Array.mem_toList_iff.mp m);simp[DictEntry.refKey,j]
  have d:¬b.toList.any (·.refKey)=true:=(by rw[a];exact QL);rw[if_neg d];exact Q9 Z e
def q5.look(I:q5 h x b C e):∃a,PySem.W.InstAt h x (PySem.W.instObj C b) C (Z a)/\∀name,PySem.W.lookIn name a=Z (e name) :=
 let ⟨a,d,c⟩:=H5 I.ns
 ⟨a,⟨I.obj,rfl,rfl,d⟩,c⟩
def gc.some_of(r:gc (Z v) o):∃u,o=Z u/\RelV v u:=by
 cases o with
 |none=>exact(show False from r).elim
 |some u=>exact⟨u,rfl,r⟩
section
variable{P:Wa}{w:Wm}{H aC:ah}{h h':V9}{a C cU:VO}{bD F4:List (VT×V)}
def iD(c:cF P w H h)(e:H a=Z (.ins C cU bD)):∃b,q5 h a cU C b/\(∀f,gc (bD.lookup f) (b f))/\PySem.Within b (bD.map (·.1))/\bD.length<=1000/\H cU=Z (.own a):=by
 obtain⟨d,z,g,i,b,n,r,q⟩:=(show bX P w H h a (.ins C cU bD) from c a _ e);exact⟨b,⟨i,n,g⟩,r,q,z,d⟩
end
structure mw(K:W.Frag)(C:VO):Prop where
 pg:PySem.W.plainGet K C Str.empty=J
 hd:PySem.W.hasDictIn K C=J
 po:PySem.W.plainOver K C=J
 cQ:PySem.W.findIn K (.ref C) "__setattr__"=Z (Z (.builtin "object.__setattr__"))
def mw.get{K:W.Frag}(c:mw K C)(f):PySem.W.plainGet K C f=true:=c.pg
structure Pb(K:W.Frag)(C:VO)(f:VT)(v:V)(u:VE):Prop where
 at_:PySem.W.findIn K (.ref C) f=Z (Z u)
 rel:RelV v u
 get:PySem.W.specialIn K u "__get__"=Z Y
 eB:PySem.W.copiedNames.contains f=VC
structure Meth(K:W.Frag)(C:VO)(m:VT)(f:VO):Prop where
 at_:PySem.W.findIn K (.ref C) m=Z (Z (.ref f))
 fn:PySem.W.isFn K (.ref f)=J
 pH:W.keepIn K (.ref f)=J
section
variable{X:aq}{pins:List (VO×WW)}{σ:St}{H:ah}{s:VI}{A:Wc}{E Q:VE->VI->Prop}{c:VE}{b:Bool}
inductive gy(K:W.Frag)(H:ah):V->VE->Prop where
 |aW:gy K H .aW (.type "NoneType")
 |ag (x:Bool):gy K H (.ag x) (.type "bool")
 |int (i:Int):gy K H (.int i) (.type "int")
 |str (x:VT):gy K H (.str x) (.type "str")
 |gD (x:UInt64):gy K H (.gD x) (.type "float")
 |lst {a:VO} {xs:List V} (e:H a=Z (.lst xs)):gy K H (.ref a) (.type "list")
 |cv {a:VO} {o:WW} {xs:List V} (e:H a=Z (.cv o (.lst xs))):gy K H (.ref a) (.type "list")
 |tup {a:VO} {xs:List V} (e:H a=Z (.tup xs)):gy K H (.ref a) (.type "tuple")
 |b5 {a:VO} {gj:List (Key×V)} (e:H a=Z (.b5 gj)):gy K H (.ref a) (.type "dict")
 |ck {a:VO} {gj:List (List Key×V)} (e:H a=Z (.ck gj)):gy K H (.ref a) (.type "dict")
 |ins {a C cU:VO} {bD:List (VT×V)} (e:H a=Z (.ins C cU bD)) (cl:mw K C) (Pm:PySem.W.findIn K (.ref C) "__class__"=Z (Z (.builtin "object.__class__")))
   (Po:PySem.W.specialIn K (.builtin "object.__class__") "__get__"=Z (Z (.builtin "getset_descriptor.__get__"))) (Pp:PySem.W.takesIn K (.builtin "object.__class__")=Z J)
   (hm:PySem.W.mroIn K C (.type "object")=Z J):gy K H (.ref a) (.ref C)
def pF(I:Inv X pins σ H s)(f:RelV x u)(L:gy X.K H x t)(e:PySem.W.kitOne X.K t c=Z b)(h:∀tk,Q (.bool b) { s with toks:=tk }):
  VJ (VM X.prog X.w) A (call (.builtin "isinstance") [u,c]) Q E s:=by
 cases L with
 |aW=>cases (show u=Value.none from f);exact QA PySem.W.kitx_none I.d5 True.intro e (λz=>nomatch z) h
 |ag y=>cases (show u=WN y from f);exact QA PySem.W.kitx_bool I.d5 True.intro e (λz=>nomatch z) h
 |int i=>obtain⟨t,q⟩:=(show ∃t,u=W5 i t from f);cases q;exact QA PySem.W.kitx_int I.d5 True.intro e (λz=>nomatch z) h
 |str y=>obtain⟨t,q⟩:=(show ∃t,u=Value.str y t from f);cases q;exact QA PySem.W.kitx_str I.d5 True.intro e (λz=>nomatch z) h
 |gD y=>obtain⟨t,q⟩:=(show ∃t,u=Value.float y t from f);cases q;exact QA PySem.W.kitx_float I.d5 True.intro e (λz=>nomatch z) h
 |@lst a xs d =>
  cases (show u=VQ a from f);obtain⟨_,_,n,_,g⟩:=(show bX X.prog X.w H s.heap a (.lst xs) from I.aG a _ d);exact QA Uu I.d5 ⟨_,g,rfl⟩ e (λz=>nomatch z) h
 |@cv a G xs d =>
  cases (show u=VQ a from f);obtain⟨_,_,_,n,_,g⟩:=(show bX X.prog X.w H s.heap a (.cv G (.lst xs)) from I.aG a _ d);exact QA Uu I.d5 ⟨_,g,rfl⟩ e (λz=>nomatch z) h
 |@tup a xs d =>
  cases (show u=VQ a from f);obtain⟨_,_,_,p⟩:=(show bX X.prog X.w H s.heap a (.tup xs) from I.aG a _ d);obtain⟨o,g,h2,_⟩:=p;exact QA Vt I.d5 ⟨o,g,h2⟩ e (λz=>nomatch z) h
 |@b5 a j d =>
  cases (show u=VQ a from f);obtain⟨_,_,T,_,p⟩:=(show bX X.prog X.w H s.heap a (.b5 j) from I.aG a _ d);obtain⟨o,r,m,g,h2,_⟩:=p;exact QA Ti I.d5 ⟨o,g,h2.1⟩ e (λz=>nomatch z) h
 |@ck a j d =>
  cases (show u=VQ a from f);obtain⟨_,_,xs,_,o,r,m,g,h2,_⟩:=(show bX X.prog X.w H s.heap a (.ck j) from I.aG a _ d);exact QA Ti I.d5 ⟨o,g,h2.1⟩ e (λz=>nomatch z) h
 |@ins a C M N d k v B D w =>
  cases (show u=VQ a from f);obtain⟨R,O,_⟩:=iD I.aG d;obtain⟨S,l,_⟩:=O.look;exact QA (PySem.W.kitx_own (k.get _) k.hd v B D w) I.d5 l e (λz=>nomatch z) h
end
end aH
namespace aH
open PySem PySem.Spec PyProof.Rows
structure ek(k:Nat)(A:Wc):Prop where
 hd:A.handled=Y
 je:A.depth+3*k+5<recursionLimit
 un:A.units+16*k+200<Wy
def ek.mono(r:ek k A)(h:j<=k):ek j A:=⟨r.hd,by have:=r.je;lia,by have:=r.un;lia⟩
theorem ek.deeper(r:ek (k+1) A)(env):ek k (A.deeper env) :=
 ⟨r.hd,by have:=r.je;show A.depth+1+3*k+5<_;lia,by have:=r.un;show A.units+3+16*k+200<_;lia⟩
theorem ek.depth(r:ek k A):A.depth<recursionLimit:=by have:=r.je;lia
theorem ek.units(r:ek k A):A.units+64<cLine:=by have:=r.un;lia
abbrev uV:dU:=λ_ H Q=>Q [] H
abbrev qy(d:TE)(e:dU):dU:=λa H Q=>d a H λx b=>e a b λxs c=>Q (x::xs) c
section
variable{X:aq}{e:VY}{aw:List VY}{eD:TE}{t:dU}{pos:Xj}
def ku:dS X [] uV:=λ_ _ _ _ H Q I h=>R7 ⟨[],H,I,.nil,h⟩
def hs(i:ai X e eD)(j:dS X aw t)(k:VX (e::aw) X.env=(VC,Wu e X.env)::VX aw X.env:=by rfl):dS X (e::aw) (qy eD t):=by
 intro pos a s b H Q I h;rw[k];show VJ _ _ (Zj ((VC,Wu e X.env)::Xg pos (VX aw X.env))) _ _ s;refine RA (aM (i a s b H _ I h) λu p q=>?_);obtain⟨x,c,f,n,l⟩:=q;exact aM (j pos a p b c _ f l) λr s2 ⟨xs,d,g,o,m⟩=>⟨x::xs,d,g,.cons n o,m⟩
def Nk(t:dU):TE:=λb H Q=>t b H λxs a=>xs.length<=V2/\∀p,a p=Y->Q (.ref p) (upd a p (.tup xs))
def M7(t:dU):TE:=λb H Q=>t b H λxs a=>xs.length<=V2/\∀p,a p=Y->Q (.ref p) (upd a p (.lst xs))
def JT{k}(h:dS X aw t):ai X (.Tuple aw k pos) (Nk t):=by
 intro i s l H Q I g;refine wpAny_Tuple_spliced (aM (h pos i s l H _ I g) λj a ⟨xs,c,d,r,z,q⟩=>⟨by rw[<- r.length];exact z,?_⟩);have f:c a.heap.objs.size=none:=d.aG.fresh (PE _);refine⟨.ref a.heap.objs.size,upd c a.heap.objs.size (.tup xs),d.laid (t':=a.toks) (λb u e=>PC _ e) (PE _) ?_,rfl,q _ f⟩;exact⟨z,j,r,⟨_,PQ _ rfl,rfl,_,rfl⟩⟩
def zy(h:dS X aw t):ai X (.List aw pos) (M7 t):=by
 intro i s k H Q I g;refine wpAny_List_spliced (aM (h pos i s k H _ I g) λj a ⟨xs,c,d,r,z,q⟩=>⟨by rw[<- r.length];exact z,?_⟩);have f:c a.heap.objs.size=none:=d.aG.fresh (PE _);refine⟨.ref a.heap.objs.size,upd c a.heap.objs.size (.lst xs),d.laid (t':=a.toks) (λb u e=>PC _ e) (PE _) ?_,rfl,q _ f⟩;exact⟨z,j,0,r,PQ _ rfl⟩
end
noncomputable abbrev fw:=List V->ah->cj->g4->Prop
noncomputable abbrev iV:=List Env->ah->VI->g4->VE->VI->Prop
structure ow(P:Wa)(w:Wm)(K:W.Frag)(ak:VT->Option VE)(base:V9)(A:Wc)(outer:List Env)(s:VI)(H:ah):Prop where
 frames:A.frames=Z outer
 mod:Mod K ak base
 bs:∀b o,base.get? b=Z o->s.heap.get? b=Z o/\H b=Y
 j4:base.objs.size<=s.heap.objs.size
 gF:s.heap.FunFrames base outer
 lz:∀b∈er outer,H b=Y
 aG:cF P w H s.heap
 bare:XB s.gens
def qQ(outer:List Env)(P:Wa)(w:Wm)(H:ah)(s:VI)(Q:cj)(u:VE)(s':VI):Prop :=
 ∃v a,s'.os=s.os/\XB s'.gens/\dz (er outer) [] H a s.heap s'.heap/\cF P w a s'.heap/\RelV v u/\Q v a
def B2(CX:iV)(outer:List Env)(P:Wa)(w:Wm)(H:ah)(s:VI)(Q:cj)(E:g4)(r:Result)(s':VI):Prop :=
 match r with
 |.ok (.ret u)=>qQ outer P w H s Q u s'
 |.ok _=>False
 |.error e=>CX outer H s E e s'
structure hF(P:Wa)(w:Wm)(K:W.Frag)(ak:VT->Option VE)(base:V9)(CX:iV)(k:Nat)(f:VO)(fd:Xt)(ec:List VT)(sp:fw):Prop where
 len:∀eh H Q E,sp eh H Q E->eh.length=ec.length
 run:∀(A:Wc)(outer:List Env)(s:VI)(H:ah)(args:Args)(us:List VE)(eh:List V)(Q:cj)(E:g4),ek k A->ow P w K ak base A outer s H->Ya s fd args (ec.zip us)->Vals eh us->sp eh H Q E ->
  XC (VM P w) A (.call (.ref f) args) (B2 CX outer P w H s Q E) s
section
variable{X:aq}{pins:List (VO×WW)}{σ:St}{H:ah}{s s':VI}
def Inv.EI(I:Inv X pins σ H s):ow X.prog X.w X.K X.ak X.base X.A X.stack s H :=
 ⟨I.ok.frames,I.ok.mod,I.bs,PW I.ok.j4 I.ef,I.stack,I.uQ,I.aG,I.bare⟩
def Inv.after(I:Inv X pins σ H s)(h:qQ X.stack X.prog X.w H s Q u s'):cX X pins σ Q u s':=by
 obtain⟨v,a,os,bare,un,aG,r,q⟩:=h;obtain⟨c,g,d,t,e⟩:=s';obtain rfl:e=s.os:=os;exact⟨v,a,I.call (h':=c) (g':=g) (d':=d) (t':=t) (ch:=[]) un aG bare (λb z=>absurd z (by simp)),r,q⟩
end
def MW(sp:fw)(dvs:List V)(E:g4)(t:dU):TE:=λc H Q=>t c H λb a=>sp (b++dvs) a Q E
def Binds(K:W.Frag)(fd:Xt)(b:List VT)(ds:List VE):Prop :=
 ∀(s:VI)(a:List VE),K.In s.heap->(a++ds).length=b.length->Ya s fd ⟨a,[]⟩ (b.zip (a++ds))
def Binds.all{K:W.Frag}(h:∀a:List VE,a.length=c.length->bindArgs fd ⟨a,[]⟩=pure (c.zip a)):Binds K fd c []:=λs a _ b=>by
 rw[QB]at b ⊢;exact .of_eq (h a b)
def Passes(CX:iV)(X:aq)(E:g4):Prop:=∀(a:List (VO×WW))(b:St)(H:ah)(s:VI)(e:VE)(s':VI),Inv X a b H s->CX X.stack H s E e s'->X.bl e s'
section
variable{X:aq}{CX:iV}{k:Nat}{f C:VO}{fd:Xt}{ec:List VT}{sp:fw}{dvs:List V}{ds:List VE}{E:g4}{x m:VT}{p pos apos:Xj}{e o:VY}{aw:List VY}{bT:TE}{t:dU}
def K5{d:St}(F:hF X.prog X.w X.K X.ak X.base CX k f fd ec sp)(v:ek k X.A)(l:Binds X.K fd ec ds)(n:Vals dvs ds)(w:Passes CX X E)(I:Inv X g d H s)(r:Vals c a)(h:sp (c++dvs) H Q E):VJ (VM X.prog X.w) X.A (call (.ref f) a) (cX X g d Q) X.bl s:=by
 have i:Vals (c++dvs) (a++ds):=r.append n;have q:(a++ds).length=ec.length:=by rw[<- i.length];exact F.len _ _ _ _ h
 refine wpAny_call (T8 (F.run X.A X.stack s H ⟨a,[]⟩ (a++ds) (c++dvs) Q E v I.EI (l s a I.d5 q) i h) λr s' b=>?_);cases r with
 |error e=>exact w g d H s e s' I b
 |ok j =>
  cases j with
  |ret u=>exact I.after b
  |next=>exact W7 b
  |brk=>exact W7 b
  |cont=>exact W7 b
def JG(F:hF X.prog X.w X.K X.ak X.base CX k f fd ec sp)(v:ek k X.A)(j:cn X x)(n:X.ak x=Z (.ref f))(l:W.keepIn X.K (.ref f)=J)(c:Binds X.K fd ec ds)(d:Vals dvs ds)(w:Passes CX X E)(b:dS X (e::aw) t)(g:(x==("__debug__":VT))=false:=by decide)(i:VX (e::aw) X.env=(VC,Wu e X.env)::VX aw X.env:=by rfl)(u:(Xg pos (VX aw X.env)).any (·.1)=false:=by rfl):
  ai X (.Call (.Name x p) (e::aw) [] pos) (MW sp dvs E t):=by
 intro y s z H Q I h;refine QY (pJ I j n ?_ g);refine PySem.W.callWith_K (h₀:=X.base) I.ok.mod.tA l (aM (b pos y s z H _ I h) λD B ⟨G,A,a,r,q⟩=>⟨a.d5,?_⟩) i u;exact K5 F v c d w a r q
structure cR(K:W.Frag)(C f:VO):Prop where
 makes:PySem.W.makesIn K C=J
 init:PySem.W.findIn K (.ref C) "__init__"=Z (Z (.ref f))
 fn:PySem.W.isFn K (.ref f)=J
 pH:W.keepIn K (.ref C)=J
end
section
variable{X:aq}{CX:iV}{k:Nat}{f C:VO}{fd:Xt}{ec aS:List VT}{sp:fw}{E:g4}{x m:VT}{p pos apos Pq:Xj}{e o:VY}{aw:List VY}{Pr:List XD}{eD bT:TE}{t tk:dU}{nm:Option VT}
structure Pc(K:W.Frag)(fd:Xt)(ec aS:List VT)(g:List VE->List VE->List VE)(xR:List V->List V->List V):Prop where
 to:∀(s:VI)(us ws:List VE),K.In s.heap->(g us ws).length=ec.length->Ya s fd ⟨us,aS.zip ws⟩ (ec.zip (g us ws))
 rel:∀{eh:List V}{us:List VE}{zs:List V}{ws:List VE},Vals eh us->Vals zs ws->Vals (xR eh zs) (g us ws)
variable{g:List VE->List VE->List VE}{xR:List V->List V->List V}
end
structure qU(N P:List VT)(sc:Xs):Prop where
 kind:sc.kind=.function
 co:sc.isCoroutine=VC
 gen:sc.isGenerator=VC
 di:N.Nodup
 pre:N.take P.length=P
 par:∀x∈P,sc.names.lookup x=Z .local\/sc.names.lookup x=Z .cell
 I9:∀y∈sc.names,y.2≠.free
theorem wb{kindOf:VT->Option W2}:∀{a:List (VT×VE)}{m:VT->Option VE},(∀v,(x,v)∉a)->Z3 kindOf a m x=m x
 |[],_,_=>rfl
 |(n,v)::r,m,h=>by
  unfold Z3;rw[wb λw hw=>h w (VG _ hw)]
  split
  .have:x≠n:=(by rintro rfl;exact h v VF);simp[this]
  .rfl
theorem v9{kindOf:VT->Option W2}:∀{a:List (VT×VE)}{m:VT->Option VE},(∀v,(x,v)∉a)->Z4 kindOf a m x=m x
 |[],_,_=>rfl
 |(n,v)::r,m,h=>by
  unfold Z4;rw[v9 λw hw=>h w (VG _ hw)]
  split
  .rfl
  .have:x≠n:=(by rintro rfl;exact h v VF);simp[this]
theorem wa{kindOf:VT->Option W2}:∀{P:List VT}{a:List VE}{i:Nat}{m:VT->Option VE},P.Nodup->P[i]?=Z x->a[i]?=Z v->kindOf x=Z .local ->
  Z3 kindOf (P.zip a) m x=Z v
 |[],_,_,_,_,h,_,_=>by simp at h
 |_::_,[],_,_,_,_,h,_=>by simp at h
 |p::P,w::a,0,m,d,b,h2,c=>by
  simp at b h2;subst b;subst h2;show Z3 kindOf ((p,w)::P.zip a) m p=_;unfold Z3;rw[wb λv e=>(Qk.mp d).1 (Ym e).1,if_pos c];simp
 |p::P,w::a,i+1,m,d,b,h2,c=>by
  show Z3 kindOf ((p,w)::P.zip a) m x=_;unfold Z3;exact wa (i:=i) (Qk.mp d).2 ⇑b ⇑h2 c
theorem v8{kindOf:VT->Option W2}:∀{P:List VT}{a:List VE}{i:Nat}{m:VT->Option VE},P.Nodup->P[i]?=Z x->a[i]?=Z v->kindOf x≠Z .local ->
  Z4 kindOf (P.zip a) m x=Z v
 |[],_,_,_,_,h,_,_=>by simp at h
 |_::_,[],_,_,_,_,h,_=>by simp at h
 |p::P,w::a,0,m,d,b,h2,c=>by
  simp at b h2;subst b;subst h2;show Z4 kindOf ((p,w)::P.zip a) m p=_;unfold Z4;rw[v9 λv e=>(Qk.mp d).1 (Ym e).1,if_neg c];simp
 |p::P,w::a,i+1,m,d,b,h2,c=>by
  show Z4 kindOf ((p,w)::P.zip a) m x=_;unfold Z4;exact v8 (i:=i) (Qk.mp d).2 ⇑b ⇑h2 c
abbrev start(N:List VT)(a:List V):St:=a.map Z++V0 (N.length-a.length) Y
def jb(CX:iV)(P:Wa)(w:Wm)(K:W.Frag)(ak:VT->Option VE)(base:V9)(N:List VT)(b:VT)(c:Xs)(f:VO)(a:VE)(A:Wc)(outer:List Env)(s:VI)(H:ah)(E:g4):aq where
 prog:=P
 w:=w
 K:=K
 ak:=ak
 base:=base
 A:=A.deeper (Y8 b c s.heap.objs.size f a)
 N:=N
 dN:=s
 mz:=H
 env:=Y8 b c s.heap.objs.size f a
 outer:=outer
 stack:=Y8 b c s.heap.objs.size f a::outer
 ex:=[]
 calm:=J
 fn:=λ_=>J
 bV:=[]
 bl:=λe s'=>VJ (VM P w) (A.deeper (Y8 b c s.heap.objs.size f a)) (leaving (Y8 b c s.heap.objs.size f a) e) (λ_ d=>CX outer H s E e d) (λg d=>CX outer H s E g d) s'
def wm{a:Xs}(h:a.names.lookup x=Z .cell):∃c,(cellsFrom n a.names []).lookup x=Z c:=by
 have q:=UW a.names n [] (.inl h);exact XR.mp q
def GL{K:W.Frag}(S:qU N j d)(Q:A.handled=Y)(e0:ow P w K I base A outer s H)(T:l.length=j.length)(r:Vals l M)(x:InCallC s s.heap.objs.size (Z3 (Y8 C d s.heap.objs.size f t).kindOf (j.zip M) λ_=>Y) (cellsFrom (s.heap.objs.size+1) d.names []) (Z4 (Y8 C d s.heap.objs.size f t).kindOf (j.zip M) λ_=>Y) s1):
  Inv (jb CX P w K I base N C d f t A outer s H E) [] (start N l) H s1:=by
 have U:j.length<=N.length:=by have:=Q9 XP S.pre;rw[Qt]at this;lia
 obtain⟨o,tk,rfl,D⟩:=x.done;have B:∀b:VO,b∉(jb CX P w K I base N C d f t A outer s H E).ex:=λb z=>absurd (show b∈([]:List VO) from z) (by simp)
 refine⟨⟨e0.mod,S.kind,rfl,rfl,PE _,λy z c o h2=>?_,λy g=>?_,λy c _ h=>?_,λ_=>Q,Around.frames_deeper e0.frames,.inr ⟨rfl,rfl⟩,λb z=>absurd z (B b),e0.bs,e0.j4,λb _ _=>B b,λb z=>absurd z (B b),e0.gF,e0.lz⟩,
  rfl,e0.bare,dz.kept D,⟨_,x.toInCall.ns,λi y v o h2 h3=>?_⟩,λy c h=>⟨_,x.cell y c h⟩,e0.aG.fresh (PE _),λy c h=>?_,λp m=>absurd (show p∈([]:List (VO×WW)) from m) (by simp),e0.aG.kept D,?_⟩
 .exact name_of_addr x.apart (QE o) (QE h2)
 .have g:d.names.lookup y=Z .cell\/d.names.lookup y=Z .free:=g;rcases g with g|g
  .exact wm g
  .exact absurd rfl (S.I9 _ (QE g))
 .exact Qs (x.above y c (QE h))
 .have hi:i<l.length:=by
   unfold start at h2
   by_cases hi:i<l.length
   .exact hi
   .rw[Qq ⇑hi]at h2;rw[Sm]at h2
    split at h2<;>cases h2
  have O:l[i]?=Z v:=by
   unfold start at h2;rw[P1 ⇑hi,PX]at h2;cases e:l[i]? with
   |none=>rw[e]at h2;cases h2
   |some a=>rw[e]at h2;cases h2;rfl
  obtain⟨u,G,R⟩:=r.get O;have m:j[i]?=Z y:=by
   rw[<- S.pre,XS ⋯];exact o
  have L:j.Nodup:=(by rw[<- S.pre];exact S.di.sublist (List.take_sublist _ _));refine⟨u,R,?_⟩;rcases S.par y (QX m) with k|k
  .exact .inl ⟨k,wa L m G k⟩
  .obtain⟨c,e⟩:=wm (n:=s.heap.objs.size+1) k;refine .inr ⟨.inl k,c,e,?_⟩;have q:=x.cell y c e;rw[v8 L m G (by show d.names.lookup y≠_;rw[k];decide)]at q;exact q
 .exact e0.aG.fresh (Qs (x.above y c (QE h)))
 .unfold start;show _=N.length;rw[PI,VD,SG];lia
def FX{K:W.Frag}{D bO G O h ct ay:VE}(lk:K.lookup f=Z ⟨ay,b1,.func (W.fnOf name j az body a D bO G O R h ct),b2⟩)(a0:W.codeIn K h j=J)(S:qU N z a)(M:∀c H Q E,sp c H Q E->c.length=z.length)(X:∀(A:Wc)(outer:List Env)(s:VI)(H:ah)(c:List V)(Q:cj)(E:g4),ek k (A.deeper (Y8 j a s.heap.objs.size f h))->sp c H Q E ->
   ∃t,dh (jb CX P w K p base N j a f h A outer s H E) body t/\t { aR:=λ_ d=>Q .aW d,bH:=Q } (start N c) H):
  hF P w K p base CX (k+1) f (W.fnOf name j az body a D bO G O R h ct) z sp:=by
 refine⟨M,λA outer s H args aA c Q E m e0 U r L=>?_⟩;have a3:=M _ _ _ _ L;have C:K.In s.heap:=e0.mod.tA.keeps λb o e=>(e0.bs b o e).1
 have av:s.heap.NoLimit:=e0.mod.nolimit.keeps λb o e=>(e0.bs b o e).1
 have a2:∀y∈z.zip aA,a.names.lookup y.1=Z .local\/(a.names.lookup y.1=Z .cell/\((cellsFrom (s.heap.objs.size+1) a.names []).lookup y.1).isSome=J):=λ⟨n,v⟩ au=>by
  rcases S.par n (Ym au).1 with q|q
  .exact .inl q
  .exact .inr ⟨q,UW _ _ _ (.inl q)⟩
 refine codeAny_call_function m.depth (C _ _ lk) rfl S.co S.gen rfl (PySem.W.codeRec_of C a0) (U _ _ _ _ ?_);refine wpAny_newFunctionEnv_cells S.kind a2 λenv a1 s1 x=>?_
 subst a1;refine⟨av.keeps x.toInCall.keep,codeAny_func ?_⟩;obtain⟨t,a5,a4⟩:=X A outer s H c Q E (m.deeper _) L;have I:Inv (jb CX P w K p base N j a f h A outer s H E) [] (start N c) H s1:=GL S m.hd e0 a3 r x;refine QP (a5 [] s1 (start N c) H _ I a4) (λT s' i=>?_) λe s' i=>i
 have fin:∀{l:St}{d:ah}{v:V}{u:VE},Inv (jb CX P w K p base N j a f h A outer s H E) [] l d s'->RelV v u->Q v d->qQ outer P w H s Q u s' :=
  λ{l d v u} g B q=>⟨v,d,g.os,g.bare,g.base,g.aG,B,q⟩
 cases T with
 |ret u =>
  obtain⟨v,l,d,g,B,q⟩:=i;exact fin g B q
 |next =>
  obtain⟨l,d,g,q⟩:=i;exact fin (v:=V.aW) (u:=Value.none) g rfl q
 |brk =>
  obtain⟨_,_,_,q⟩:=i;exact W7 q
 |cont =>
  obtain⟨_,_,_,q⟩:=i;exact W7 q
end aH
namespace aH
open PySem PySem.Spec PyProof.Rows
section
variable{X:aq}{x:VT}{p pos:Xj}{e:VY}{aw:List VY}{t:dU}{id T:String}{r:List V->ah->cj->Prop}
abbrev A6(r:List V->ah->cj->Prop)(t:dU):TE:=λc H Q=>t c H λb a=>r b a Q
def nR(g:eu X (.builtin id) r)(k:cn X x)(l:X.ak x=Y)(o:Wt x=Z (.builtin id))(f:dS X (e::aw) t)(m:x≠"__name__":=by decide)(i:(x==("__debug__":VT))=false:=by decide)(j:VX (e::aw) X.env=(VC,Wu e X.env)::VX aw X.env:=by rfl)(n:(Xg pos (VX aw X.env)).any (·.1)=false:=by rfl):ai X (.Call (.Name x p) (e::aw) [] pos) (A6 r t):=by
 intro a s b H Q I h;refine QY (fV I k l o ?_ m i);exact RB (aM (f pos a s b H _ I h) λw v ⟨y,c,d,u,q⟩=>g a v b c y w Q d u q) j n
def JH(g:eu X (.type T) r)(k:cn X x)(l:X.ak x=Y)(o:Wt x=Z (.type T))(f:dS X (e::aw) t)(m:x≠"__name__":=by decide)(i:(x==("__debug__":VT))=false:=by decide)(j:VX (e::aw) X.env=(VC,Wu e X.env)::VX aw X.env:=by rfl)(n:(Xg pos (VX aw X.env)).any (·.1)=false:=by rfl):ai X (.Call (.Name x p) (e::aw) [] pos) (A6 r t):=by
 intro a s b H Q I h;refine QY (fV I k l o ?_ m i);exact Qm (aM (f pos a s b H _ I h) λw v ⟨y,c,d,u,q⟩=>g a v b c y w Q d u q) j n
end
end aH
namespace bM
open PySem PyProof.Rows
abbrev lexLt:List Int->List Int->Bool
 |[],[]=>VC
 |[],_::_=>J
 |_::_,[]=>VC
 |x::xs,y::ys=>if x=y then lexLt xs ys else decide (x<y)
def HX(x y)(xs ys):lexLt (x::xs) (y::ys)=if x=y then lexLt xs ys else decide (x<y):=rfl
def H0:lexLt [] []=false:=rfl
def HZ(y)(ys):lexLt [] (y::ys)=true:=rfl
def HY(x)(xs):lexLt (x::xs) []=false:=rfl
def EJ(A)(s)(a)(t)(c)(u):∃e,Y9 A s (.int a t) (.int c u) e/\(e=J<->a=c) :=
 ⟨(a==c),SeqAt.EqAt.int_int a t c u,by simp⟩
def KH(A)(s)(a)(t)(c)(u)(prog)(w)(E)(Q)(h:Q (.bool (decide (a<c))) s):
  VJ (VM prog w) A (richCompare .Lt (.int a t) (.int c u)) Q E s :=
 (PyProof.Rows.lt_int h:VJ (VM prog w) A (V4 .Lt (.int a t) (.int c u)) Q E s)
section
open PySem.SeqAt
open PySem.AutoSeq1 (wpAny_loadPart')
open PySem.MeetsSeq PySem.MeetsSeq2 PySem.MeetsSeq3
def Ob(l b)(f i)(n a0)(dd I)(a1 a2)(ns r)(hi:Wh f.toList ns)(E:Wh i.toList r):
  Meets (WK.«tuple.__lt__» ⟨[.ref l,.ref b],[]⟩)
   (λ_ R s=>s.heap.get? l=Z { cls:=.type "tuple",dict:=dd,data:=.seq f n,slots:=a1 }/\s.heap.get? b=Z { cls:=.type "tuple",dict:=I,data:=.seq i a0,slots:=a2 } /\
    R (.ok (.ret (.bool (lexLt ns r)))) s) :=
 .of_wp λprog w A R s h=>by
  obtain⟨o,g,d,tk,os⟩:=s;obtain⟨N,L,h⟩:=h;have a3:=UI;have a4:f.size=ns.length:=(by rw[<- hi.length];simp);have a5:i.size=r.length:=by rw[<- E.length];simp
  wp_walk using wpAny_loadPart' N,wpAny_loadPart' L,TF _ (λH b s'=>b.1=Y/\s'=⟨o,g,d,tk,os⟩/\∃(v z:List VE)(k j:List Int),H=v.zip z /\
   Wh v k/\Wh z j/\k.length+i.size=j.length+f.size/\R (.ok (.ret (.bool (lexLt k j)))) ⟨o,g,d,tk,os⟩) _
  case turn =>
   rintro⟨y,x⟩ H b s' ⟨B,rfl,v,z,k,j,hz,C,p,m,hR⟩;cases C with
   |nil=>rw[List.zip_nil_left]at hz;cases hz
   |cons a t S =>
    cases p with
    |nil=>rw[List.zip_nil_right]at hz;cases hz
    |cons c u T =>
     rw[Za]at hz;injection hz with X O;injection X with V U;subst V U;rw[HX]at hR;simp only[VS]at m;obtain⟨e,M,D⟩:=EJ A.in1 ⟨o,g,d,tk,os⟩ a t c u;refine PA (M prog w _ _ ?_);cases e with
     |true =>
      rw[if_pos (D.mp rfl)]at hR
      wp_walk
      exact⟨rfl,rfl,_,_,_,_,O,S,T,⋯,hR⟩
     |false =>
      rw[if_neg (λq=>absurd (D.mpr q) QL)]at hR;have Q:=KH A.in1 ⟨o,g,d,tk,os⟩ a t c u prog w
      wp_walk using Q
      exact⟨_,rfl,⇑hR⟩
  case fin =>
   rintro⟨b1,b2⟩ s' ⟨B,rfl,v,z,k,j,hz,C,p,m,hR⟩;simp only at B;subst B;have G:lexLt k j=decide (f.size<i.size):=by
    cases C with
    |nil =>
     cases p with
     |nil =>
      simp only[Wq]at m;rw[H0];exact(decide_eq_false ⋯).symm
     |cons c u hw =>
      simp only[Wq,VS]at m;rw[HZ];exact(decide_eq_true ⋯).symm
    |cons a t G =>
     cases p with
     |nil =>
      simp only[Wq,VS]at m;rw[HY];exact(decide_eq_false ⋯).symm
     |cons c u hw =>
      rw[Za]at hz;cases hz
   rw[G]at hR
   wp_walk
   exact⟨_,rfl,by simpa[Builtin.Tuple.tupleCompareSizes] using hR⟩
  case h =>
   exact⟨rfl,rfl,f.toList,i.toList,ns,r,rfl,hi,E,⋯,h⟩
end
section
variable{prog:Wa}{w:Wm}{A:Wc}{E:VE->VI->Prop}{s:VI}
def Ic(q:Z1 s.heap l j)(o:Z1 s.heap b k)(hi:Wh j.toList ns)(p:Wh k.toList a)(r:A.units<Wy)(h:Q (.bool (lexLt ns a)) s):VJ (VM prog w) A (V4 .Lt (.ref l) (.ref b)) Q E s:=by
 obtain⟨⟨y,dd,B,u⟩,g,c,n,e⟩:=id q;obtain⟨⟨z,m,data2,v⟩,i,d,t,f⟩:=id o;simp only at c e d f;subst c e d f;exact richCompare_meets_room (op:=.Lt) ⟨_,g,rfl⟩ ⟨_,i,rfl⟩ PySem.F.slot_tuple_lt PySem.F.entry_tuple_lt (PySem.F.args_tuple_lt_2 _ _) (Ob l b j k n t dd m u v ns a hi p)
  ⟨g,i,show WN (lexLt ns a)≠Value.notImplemented/\Q (.bool (lexLt ns a)) s from⟨(λx=>nomatch x),h⟩⟩ r
def Dn(u:Z1 s.heap t c.toArray)(r:Z1 s.heap b a.toArray)(l:c≠[])(q:a=[]->Q (.ref t) s)(h2:a≠[]->Q (.ref s.heap.objs.size) { s with heap:=s.heap.push { cls:=.type "tuple",data:=.seq (c++a).toArray } })(hsz:c.length+a.length<=V2):VJ (VM prog w) A (Wv .Add (.ref t) (.ref b)) Q E s:=by
 obtain⟨⟨cls,dd,data,o⟩,d,h,n,j⟩:=id u;obtain⟨⟨v,g,data2,p⟩,f,i,m,k⟩:=id r;simp only at h j i k;subst h j i k;have e:c.toArray++a.toArray=(c++a).toArray:=by simp
 by_cases hw:a=[]
 .exact UX ⟨_,d,rfl⟩ ⟨_,f,rfl⟩ UL Vn Tj Te (S6 _ _)
   (tuple_addW1 t b c.toArray a.toArray n m dd g o p ⇑l (by simp[hw])) ⟨d,f,q hw⟩
 .refine UX ⟨_,d,rfl⟩ ⟨_,f,rfl⟩ UL Vn Tj Te (S6 _ _)
   (tuple_addW2 t b c.toArray a.toArray n m dd g o p ⇑l ⇑hw (by rw[PT,PT];exact hsz)) ⟨d,f,?_⟩
  rw[e];exact h2 hw
abbrev aP(n d:Nat):Option Int->Nat
 |none=>d
 |some v=>if v<0 then(v+(n:Int)).toNat else min v.toNat n
def qi(n d)(b:d<=n)(o):aP n d o<=n:=by
 cases o with
 |none=>exact b
 |some v =>
  show(if v<0 then(v+(n:Int)).toNat else min v.toNat n)<=n
  by_cases a:v<0
  .rw[if_pos a];lia
  .rw[if_neg a];exact RU _ _
def wA(v)(n d:Nat):(if v<0 then max (v+(n:Int)) 0 else min v (n:Int))=((aP n d (Z v):Nat):Int):=by
 show(if v<0 then max (v+(n:Int)) 0 else min v (n:Int))=(((if v<0 then(v+(n:Int)).toNat else min v.toNat n):Nat):Int)
 by_cases a:v<0
 .simp only[if_pos a];lia
 .simp only[if_neg a];lia
def B6(lo hi)(n:Nat):Xc lo hi 1 (n:Int)=(((aP n 0 lo:Nat):Int),((aP n n hi:Nat):Int)):=by
 have a:¬((1:Int)<0):=by lia
 unfold Xc;simp only[a,PZ];refine Prod.ext ?_ ?_
 .cases lo with
  |none=>rfl
  |some v=>exact wA v n 0
 .cases hi with
  |none=>rfl
  |some v=>exact wA v n n
def J9(i j:Nat):WX (i:Int) (j:Int) 1=j-i:=by
 unfold WX;have a:(1:Int)>0:=by lia
 simp only[a,QI,Int.ediv_one]
 split<;>lia
def AO(p:Yb v o)(h:Q o s):VJ (VM prog w) A (Builtin.Slice.slicePartIndex v) Q E s:=by
 cases p with
 |none=>exact slicePart_none h
 |int i t=>exact slicePart_int h
def AN{lo hi:Option Int}{n:Nat}(e:s.heap.IsSliceOf i c d .none)(f:Yb c lo)(g:Yb d hi)(h:Q (((aP n 0 lo:Nat):Int),1,aP n n hi-aP n 0 lo) s):VJ (VM prog w) A (XH (.ref i) (pure (n:Int))) Q E s:=by
 obtain⟨os,b,j,a⟩:=id e;unfold XH Builtin.Slice.sliceFields;refine PA (PA (RE b a (x:=c) rfl (PA (RE b a (x:=d) rfl (PA (RE b a (x:=.none) rfl (VB ?_)))))));refine PA (slicePart_none ?_);show VJ _ _ (if ((1:Int)==0)=J then _ else _) _ _ s;rw[if_neg ∅];refine PA (AO f (PA (AO g (PA (VB ?_)))));show VJ _ _ (match Xc lo hi 1 (n:Int) with|(lo,hi)=>pure (lo,(1:Int),WX lo hi 1)) _ _ s;rw[B6 lo hi n];show VJ _ _ (pure (((aP n 0 lo:Nat):Int),(1:Int),WX ((aP n 0 lo:Nat):Int) ((aP n n hi:Nat):Int) 1)) _ _ s;rw[J9];exact VB h
def J6(xs:Array VE)(i k:Nat):((VR k).filterMap λ(m:Nat)=>xs[((i:Int)+(m:Int)*1).toNat]?).toArray=((xs.toList.drop i).take k).toArray:=by
 have e:(λ(m:Nat)=>xs[((i:Int)+(m:Int)*1).toNat]?)=λm=>xs[i+m]?:=by
  funext m;have:((i:Int)+(m:Int)*1).toNat=i+m:=⋯;rw[this]
 rw[e];have:=pick_run xs i k;rw[List.filterMap_map]at this;have e2:((λx=>xs[x]?) ∘ λx=>i+x)=λm=>xs[i+m]?:=rfl
 rw[e2]at this;rw[this]
def Gb{lo hi:Option Int}(b:Z1 s.heap t a)(d:s.heap.IsSliceOf e n o .none)(k:Yb n lo)(l:Yb o hi)(hw:¬(aP a.size 0 lo=0/\aP a.size a.size hi=a.size))(h:Q (.ref s.heap.objs.size) { s with heap:=s.heap.push { cls:=.type "tuple",data:=.seq ((a.toList.drop (aP a.size 0 lo)).take (aP a.size a.size hi-aP a.size 0 lo)).toArray } })(hsz:a.size<=V2):VJ (VM prog w) A (XE (.ref t) (.ref e)) Q E s:=by
 have c:sizeOk (.seq ((a.toList.drop (aP a.size 0 lo)).take (aP a.size a.size hi-aP a.size 0 lo)).toArray):=by
  show((a.toList.drop (aP a.size 0 lo)).take (aP a.size a.size hi-aP a.size 0 lo)).toArray.size<=V2;rw[PT,Qt,Q6,VH];exact PW (RU ..) (PW (Sr ..) hsz)
 have r:aP a.size a.size hi<=a.size:=qi _ _ (PE _) hi;obtain⟨os,j,g,p⟩:=id d;have f:s.TypeIs (.ref e) "slice":=⟨os,j,g⟩;unfold XE
 try with_reducible refine QS ?_
 first|refine PA (VB ?_)|skip
 refine PA (wpAny_sequenceKey b.typeIs ∅ ?_);refine PA (Rc (name:=Xb "__getitem__") b.typeIs QM
  (QQ QM b.typeIs YV ?_ (args_tuple_getitem _ _)))
 show VJ _ _ (XI (.ref t)>>=_) _ _ s;refine PA (tupleItemsOf_ b ?_);refine PA (R8 f ?_);rw[if_pos ∅];refine PA (AN d k l ?_);have i:¬((((aP a.size 0 lo:Nat):Int)==0&&(1:Int)==1&&(aP a.size a.size hi-aP a.size 0 lo)==a.size)=J):=by
  intro q;rw[PB,PB]at q;have u:((aP a.size 0 lo:Nat):Int)=0:=eq_of_beq q.1.1;have v:aP a.size a.size hi-aP a.size 0 lo=a.size:=eq_of_beq q.2;exact hw ⟨⋯,⋯⟩
 show VJ _ _ (if (((aP a.size 0 lo:Nat):Int)==0&&(1:Int)==1&&(aP a.size a.size hi-aP a.size 0 lo)==a.size)=J then _ else _) _ _ s;rw[if_neg i,J6]
 first
  |exact PA (m:=WL _) (Qi (VB ⟨_,rfl,VB h⟩) c)
  |exact PA (m:=WL _) (Qi (PA (VB (VB ⟨_,rfl,VB h⟩))) c)
  |exact PA (PA (m:=WL _) (Qi (VB (VB ⟨_,rfl,VB h⟩)) c))
  |exact PA (PA (m:=WL _) (Qi (VB ⟨_,rfl,VB h⟩) c))
end
end bM
namespace aH
open PySem PySem.Spec PyProof.Rows
noncomputable abbrev ih:=St->ah->(Option Int->ah->Prop)->Prop
def hH(X:aq)(e:Option VY)(t:ih):Prop :=
 ∀(c:List (VO×WW))(s:VI)(a:St)(H:ah)(Q:Option Int->ah->Prop),Inv X c a H s->t a H Q ->
  VJ (VM X.prog X.w) X.A (evalPart e X.env) (λu s'=>∃o b,Inv X c a b s'/\Yb u o/\Q o b) X.bl s
abbrev M9:ih:=λ_ H Q=>Q Y H
abbrev Nf(t:TE):ih:=λb H Q=>t b H λx a=>∃i,x=.int i/\Q (Z i) a
def intsAre_of:∀{a:List VE},Vals (ns.map V.int) a->Wh a ns:=by
 induction ns with
 |nil=>intro a r;rw[Rt]at r;cases r;exact .nil
 |cons n ns b =>
  intro a r;rw[VK]at r;cases r with
  |cons c d =>
   obtain⟨t,e⟩:=c;subst e;exact .cons n t (b d)
section
variable{X:aq}{e:VY}{eD:TE}{lo hi:Option VY}{iS qC:ih}{pos p2:Xj}
def Kb:hH X Y M9:=by
 intro a s b H Q I h;rw[evalPart_none];exact VB ⟨Y,H,I,.none,h⟩
def Kc(h:ai X e eD):hH X (Z e) (Nf eD):=by
 intro c s j H Q I hw;rw[evalPart_some];refine aM (h c s j H _ I hw) λu k g=>?_
 obtain⟨x,a,b,f,d⟩:=g;obtain⟨i,rfl,q⟩:=d;obtain⟨t,rfl⟩:=f;exact⟨Z i,a,b,.int i t,q⟩
def mG(X:aq)(r:V->Option Int->Option Int->ah->cj->Prop):Prop :=
 ∀(a:List (VO×WW))(s:VI)(f:St)(H:ah)(x:V)(v c d:VE)(lo hi:Option Int)(b:VO)(Q:cj),Inv X a f H s->RelV x v->s.heap.IsSliceOf b c d .none->Yb c lo->Yb d hi->r x lo hi H Q ->
  ∃T id,typeLookup (.type T) "__getitem__"=pure (Z (.builtin id))/\s.TypeIs v T/\VJ (VM X.prog X.w) X.A (XE v (.ref b)) (cX X a f Q) X.bl s
def Ni(r:V->Option Int->Option Int->ah->cj->Prop)(eD:TE)(iS qC:ih):TE:=λa H Q=>eD a H λx b=>iS a b λl c=>qC a c λu d=>r x l u d Q
def JS(z:mG X r)(t:ai X e eD)(y:hH X lo iS)(B:hH X hi qC):ai X (.Subscript e (.Slice lo hi Y p2) pos) (Ni r eD iS qC):=by
 intro a s c H Q I h;refine Subscript_ (aM (t a s c H _ I h) λv N O=>?_);obtain⟨x,i,k,M,E⟩:=O;refine wpAny_Slice (aM (y a N c i _ k E) λd s2 ⟨l,j,m,C,G⟩=>aM (B a s2 c j _ m G) λf s3 ⟨u,g,n,D,L⟩=>?_);rw[evalPart_none];refine VB ?_;have o:Inv X a c g { s3 with heap:=s3.heap.push { cls:=.type "slice",data:=.fields #[d,f,.none] } }:=n.kept (t':=s3.toks) λb R q=>PC _ q
 obtain⟨T,id,p,A,w⟩:=z a { s3 with heap:=s3.heap.push { cls:=.type "slice",data:=.fields #[d,f,.none] } } c g x v d f l u s3.heap.objs.size Q o M (Heap.IsSliceOf.new ..) C D L;show VJ (VM X.prog X.w) X.A (Y0 e (.Slice lo hi Y p2) v (.ref s3.heap.objs.size)) (cX X a c Q) X.bl { s3 with heap:=s3.heap.push { cls:=.type "slice",data:=.fields #[d,f,.none] } };exact tail_any (ops:=[.ref s3.heap.objs.size,v]) A p w (by with_unfolding_all rfl)
def ir(xs:List V)(lo hi:Option Int):List V:=(xs.drop (bM.aP xs.length 0 lo)).take (bM.aP xs.length xs.length hi-bM.aP xs.length 0 lo)
def wJ(xs)(lo hi):(ir xs lo hi).length<=xs.length:=by
 unfold ir;rw[Qt,Q6];lia
def KC(K:W.Frag):V->Option Int->Option Int->ah->cj->Prop:=λx lo hi H Q=>∃a xs,x=.ref a/\dT K H a xs /\
 ¬(bM.aP xs.length 0 lo=0/\bM.aP xs.length xs.length hi=xs.length)/\∀p,H p=Y->Q (.ref p) (upd H p (.tup (ir xs lo hi)))
def Mp:mG X (KC X.K):=by
 intro m s u H x v p t lo hi n Q I k f i j h;obtain⟨a,xs,rfl,g,hw,q⟩:=h;cases k;obtain⟨its,r,d,hz⟩:=I.tuple g;have c:its.toArray.size=xs.length:=by rw[PT];exact r.length.symm
 refine⟨"tuple",_,QM.lookup,d.typeIs,?_⟩;refine bM.Gb d f i j (by rw[c];exact hw) ?_ (by rw[c];exact hz);rw[c];refine⟨.ref s.heap.objs.size,_,I.laid (t':=s.toks) (o:=.tup (ir xs lo hi)) (λb l q=>PC _ q) (PE _) ?_,rfl,q _ (I.aG.fresh (PE _))⟩;exact⟨PW (wJ xs lo hi) hz,_,(r.drop (bM.aP xs.length 0 lo)).take (bM.aP xs.length xs.length hi-bM.aP xs.length 0 lo),IsTup.new _ _⟩
def Ky(K:W.Frag):fu:=λx y H Q=>∃a b ns c,x=.ref a/\y=.ref b/\dT K H a (ns.map V.int)/\dT K H b (c.map V.int)/\Q (.ag (bM.lexLt ns c)) H
def Jq(f:X.A.units<Wy):bC X (V4 .Lt) (Ky X.K):=by
 intro o s p H x y v u Q I m n h;obtain⟨a,b,ns,ms,rfl,rfl,c,d,q⟩:=h;cases m;cases n;obtain⟨its,k,p1,_⟩:=I.tuple c;obtain⟨j,l,p2,_⟩:=I.tuple d;have g:Wh its.toArray.toList ns:=intsAre_of k;have i:Wh j.toArray.toList ms:=intsAre_of l;exact bM.Ic p1 p2 g i f ⟨.ag (bM.lexLt ns ms),H,I,rfl,q⟩
end
end aH
namespace aH
open PySem PySem.Spec PyProof.Rows
abbrev gG(n:Nat)(i:Int):Option Nat:=if 0<=i then(if i<n then Z i.toNat else Y) else if -(n:Int)<=i then Z (i+n).toNat else Y
def jY{α:Type}(xs:List α)(i:Int):Option α:=(gG xs.length i).bind λj=>xs[j]?
def G6(h:gG n i=Z j):seqIndex? i n=Z j/\j<n/\-(n:Int)<=i/\i<n:=by
 unfold gG at h
 by_cases h0:0<=i
 .rw[if_pos h0]at h
  by_cases a:i<n
  .rw[if_pos a]at h;have e:i.toNat=j:=Ql h;exact⟨by rw[seqIndex_of h0 a,e],⋯,⋯,a⟩
  .rw[if_neg a]at h;cases h
 .rw[if_neg h0]at h
  by_cases a:-(n:Int)<=i
  .rw[if_pos a]at h;have e:(i+n).toNat=j:=Ql h;exact⟨by rw[seqIndex_neg ⋯ a,e],⋯,a,⋯⟩
  .rw[if_neg a]at h;cases h
def rp{α:Type}{xs:List α}{v:α}(h:jY xs i=Z v):∃j,seqIndex? i xs.length=Z j/\xs[j]?=Z v/\j<xs.length/\-(xs.length:Int)<=i/\i<xs.length:=by
 unfold jY at h;cases e:gG xs.length i with
 |none=>rw[e]at h;cases h
 |some j =>
  rw[e]at h;obtain⟨a,h2,h3,h4⟩:=G6 e;exact⟨j,a,h,h2,h3,h4⟩
def q8(b:VY):Prop:=∀o i,YB b VC o i=operate [o,i] (XE o i)
def ia(X:aq)(r:fu):Prop :=
 ∀(d b:VY)(a:List (VO×WW))(s:VI)(c:St)(H:ah)(x y:V)(v u:VE)(Q:cj),Inv X a c H s->RelV x v->RelV y u->r x y H Q ->
  YB b VC v u=operate [v,u] (XE v u)->VJ (VM X.prog X.w) X.A (Y0 d b v u) (cX X a c Q) X.bl s
def B3(X:aq)(id:String)(r:V->List V->ah->cj->Prop):Prop :=
 ∀(a:List (VO×WW))(s:VI)(c:St)(H:ah)(x:V)(xs:List V)(v:VE)(b:List VE)(Q:cj),Inv X a c H s->RelV x v->Vals xs b->r x xs H Q ->
  VJ (VM X.prog X.w) X.A (call (.builtin id) (v::b)) (cX X a c Q) X.bl s
section
variable{X:aq}{a b:VY}{bT bW:TE}{pos:Xj}
def ia.or(h:ia X r)(h':ia X k):ia X (λx y H Q=>r x y H Q\/k x y H Q):=by
 intro i g d s j H x y v u Q I e f q c;rcases q with q|q
 .exact h i g d s j H x y v u Q I e f q c
 .exact h' i g d s j H x y v u Q I e f q c
def JP(g:ia X r)(e:ai X a bT)(f:ai X b bW)(i:q8 b):ai X (.Subscript a b pos) (n8 r bT bW):=by
 intro j s m H Q I h;exact Subscript_ (r6 e f I h λv u s2 x y c d k l q=>g a b j s2 m c x y v u Q d k l q (i _ _))
abbrev zY(K:W.Frag):fu:=λx y H Q=>∃p xs i v,x=.ref p/\y=.int i/\b8 K H p xs/\jY xs i=Z v/\Q v H
abbrev z0(K:W.Frag):fu:=λx y H Q=>∃p xs i v,x=.ref p/\y=.int i/\dT K H p xs/\jY xs i=Z v/\Q v H
abbrev zZ:fu:=λx y H Q=>∃z i c,x=.str z/\y=.int i/\z.length<=V2/\jY z.cps.toList i=Z c/\Q (.str ⟨#[c]⟩) H
def G7:ia X (zY X.K):=by
 intro G E k s l H x y v u Q I B C h g;obtain⟨p,xs,i,z,rfl,rfl,o,m,q⟩:=h;cases B;obtain⟨t,rfl⟩:=C;obtain⟨its,r,e,hz⟩:=I.list o;obtain⟨j,c,h2,h3,h4,h5⟩:=rp m;obtain⟨w,f,A⟩:=r.get h2;have n:=r.length;have D:=pK;have fin:cX X k l Q w s:=⟨z,H,I,A,q⟩
 by_cases h0:0<=i
 .have d:i.toNat=j:=by
   rw[seqIndex_of h0 h5]at c;exact Ql c
  exact item_listR e.isList h0 ⋯ (by rw[d];simpa using f) fin g
 .have d:(i+(its.toArray.size:Int)).toNat=j:=by
   rw[seqIndex_neg ⋯ h4]at c;rw[PT,<- n];exact Ql c
  exact Yc (x:=w) e.isList.typeIs slot_list_getitem.lookup
   (wpAny_getItem_list_neg (Q:=λr s'=>r=w/\cX X k l Q r s') e.isList ⋯ (by rw[PT]<;>lia) ⋯ (by rw[d];simpa using f) ⟨rfl,fin⟩) g
def Hc:ia X (z0 X.K):=by
 intro E D c s e H x y v u Q I A B h n;obtain⟨p,xs,i,z,rfl,rfl,m,k,q⟩:=h;cases A;obtain⟨t,rfl⟩:=B;obtain⟨its,r,d,hz⟩:=I.tuple m;obtain⟨j,g,h2,h3,h4,h5⟩:=rp k;obtain⟨w,f,o⟩:=r.get h2;have l:=r.length;have C:=pK;have fin:cX X c e Q w s:=⟨z,H,I,o,q⟩;exact Yc (x:=w) d.typeIs slot_tuple_getitem.lookup
  (getItem_tuple (j:=j) (Q:=λr s'=>r=w/\cX X c e Q r s') d ⋯ ⋯ (by rw[PT,<- l];exact g) ⇑f ⟨rfl,fin⟩) n
def Hb:ia X zZ:=by
 intro p o n s r H x y v u Q I k l h g;obtain⟨z,i,c,rfl,rfl,hz,e,q⟩:=h;obtain⟨t,rfl⟩:=k;obtain⟨t',rfl⟩:=l;obtain⟨j,d,h2,h3,h4,h5⟩:=rp e;have f:z.cps.toList.length=z.length:=by simp[Str.length]
 rw[f]at d h4 h5;have m:=pK;exact tail_any (typeIs_str s z t) slot_str_getitem.lookup (getItem_str (c:=c) (by
  have e1:decide (i < -(2 ^ 63:Int))=false:=decide_eq_false ⋯;have e2:decide (i>=2 ^ 63)=false:=decide_eq_false ⋯;rw[e1,e2,Bool.or_false]) (by rw[d];simpa using h2) ⟨.str ⟨#[c]⟩,H,I.tok _,⟨_,rfl⟩,q⟩) g
def Kx(K:W.Frag):fu:=λx y H Q=>zY K x y H Q\/z0 K x y H Q\/zZ x y H Q
def Ha:ia X (Kx X.K):=G7.or (Hc.or Hb)
def AL{i:Int}{n:Nat}(h:i<0):max 0 (min (i+↑n) ↑n)=((i+↑n).toNat:Int):=by
 rw[ZR ⋯,Int.max_comm,Int.toNat_eq_max]
def AM{i:Int}{n:Nat}(h:¬i<0):max 0 (min i ↑n)=((min i.toNat n:Nat):Int):=by
 obtain⟨k,rfl⟩:=Int.eq_ofNat_of_zero_le (Int.not_lt.mp h);rw[Wk];rcases Nat.le_total k n with q|q
 .rw[QH q,ZR (Int.ofNat_le.mpr q)];exact ZE (Rm _)
 .rw[UM q,Int.min_eq_right (Int.ofNat_le.mpr q)];exact ZE (Rm _)
def Mr(lo hi)(n):(Xi lo hi Y n).1=((bM.aP n 0 lo:Nat):Int)/\(Xi lo hi Y n).2.1=((bM.aP n n hi:Nat):Int)/\(Xi lo hi Y n).2.2=1:=by
 refine⟨?_,?_,rfl⟩
 .cases lo with
  |none=>simp[Xi,bM.aP]
  |some i =>
   simp only[Xi,bM.aP,ZF,show(1:Int)>0 by decide,QI]
   by_cases h:i<0
   .simp only[h,QI]<;>first|exact AL h|lia
   .simp only[h,PZ]<;>first|exact AM h|lia
 .cases hi with
  |none=>simp[Xi,bM.aP]
  |some i =>
   simp only[Xi,bM.aP,ZF,show(1:Int)>0 by decide,QI]
   by_cases h:i<0
   .simp only[h,QI]<;>first|exact AL h|lia
   .simp only[h,PZ]<;>first|exact AM h|lia
def Mq(its:List VE)(lo hi):slicePick its.toArray lo hi Y=((its.drop (bM.aP its.length 0 lo)).take (bM.aP its.length its.length hi-bM.aP its.length 0 lo)).toArray:=by
 obtain⟨c,h2,h3⟩:=Mr lo hi its.toArray.size;unfold slicePick;rw[c,h2,h3];simp only[sliceRange_one,pick_run,PT]<;>rfl
def KA(K:W.Frag):V->Option Int->Option Int->ah->cj->Prop:=λx lo hi H Q=>∃a xs,x=.ref a/\b8 K H a xs/\∀p,H p=Y->Q (.ref p) (upd H p (.lst (ir xs lo hi)))
def Mn:mG X (KA X.K):=by
 intro l s t H x v n p lo hi m Q I j e g i h;obtain⟨a,xs,rfl,f,q⟩:=h;cases j;obtain⟨its,r,c,hz⟩:=I.list f;have d:=r.length;refine⟨"list",_,slot_list_getitem.lookup,c.isList.typeIs,?_⟩;refine wpAny_getItem_list_slice c.isList e g i .none (by simp) ?_ (by rw[PT]<;>lia);rw[Mq,<- d];refine⟨.ref s.heap.objs.size,_,I.laid (t':=s.toks) (o:=.lst (ir xs lo hi)) (λb k q=>PC _ q) (PE _) ?_,rfl,q _ (I.aG.fresh (PE _))⟩;exact⟨PW (wJ xs lo hi) hz,_,0,(r.drop (bM.aP xs.length 0 lo)).take (bM.aP xs.length xs.length hi-bM.aP xs.length 0 lo),PQ _ rfl⟩
def we:eu X (.builtin "len") (λxs H Q=>∃p ys,xs=[.ref p]/\(b8 X.K H p ys\/dT X.K H p ys)/\Q (.int ys.length) H):=by
 intro j s l H xs k Q I r h;obtain⟨p,ys,rfl,c,q⟩:=h;obtain⟨u,rfl,g⟩:=vals1 r;cases g;have i:=pK;rcases c with c|c
 .obtain⟨its,f,e,hz⟩:=I.list c;have d:=f.length;exact Calls.call_len_list e.isList (by simp only[PT]<;>lia) ⟨.int ys.length,H,I.tok _,⟨s.toks+1,by rw[PT,d]⟩,q⟩
 .obtain⟨its,f,e,hz⟩:=I.tuple c;have d:=f.length;exact len_tuple e (by simp only[PT]<;>lia) ⟨.int ys.length,H,I.tok _,⟨s.toks+1,by rw[PT,d]⟩,q⟩
def wg:eu X (.type "list") (λxs H Q=>∃p ys,xs=[.ref p]/\(b8 X.K H p ys\/dT X.K H p ys)/\∀l,H l=Y->Q (.ref l) (upd H l (.lst ys))):=by
 intro w s y H xs z Q I r h;obtain⟨p,ys,rfl,f,q⟩:=h;obtain⟨u,rfl,x⟩:=vals1 r;cases x;have fin:∀(its:List VE),Vals ys its->ys.length<=V2->∀(h':V9)(c:Nat),(∀b t,s.heap.get? b=Z t->h'.get? b=Z t) ->
   h'.get? s.heap.objs.size=Z { cls:=.type "list",dict:=Y,data:=.seq its.toArray c,slots:=#[] }->cX X w y Q (.ref s.heap.objs.size) { s with heap:=h' }:=λits d hz h' c g e =>
  ⟨.ref s.heap.objs.size,_,I.laid (t':=s.toks) g (PE _) (show bX X.prog X.w _ h' _ (.lst ys) from⟨hz,its,c,d,e⟩),rfl,q _ (I.aG.fresh (PE _))⟩
 rcases f with f|f
 .obtain⟨its,d,m,hz⟩:=I.list f;have v:=d.length;obtain⟨o,k,i,n,j⟩:=m.isList;exact call_list_seq p (.inl rfl) k i j (λh' c g e=>fin its d hz h' c g e) (by simp only[PT]<;>lia)
 .obtain⟨its,d,m,hz⟩:=I.tuple f;have v:=d.length;obtain⟨o,k,i,n,j⟩:=m;exact call_list_seq p (.inr rfl) k i j (λh' c g e=>fin its d hz h' c g e) (by simp only[PT]<;>lia)
def wi:eu X (.type "tuple") (λxs H Q=>∃p ys,xs=[.ref p]/\((b8 X.K H p ys/\∀l,H l=Y->Q (.ref l) (upd H l (.tup ys)))\/(dT X.K H p ys/\Q (.ref p) H))):=by
 intro i s j H xs v Q I r h;obtain⟨p,ys,rfl,h⟩:=h;obtain⟨u,rfl,n⟩:=vals1 r;cases n;rcases h with⟨c,q⟩|⟨c,q⟩
 .obtain⟨its,f,d,hz⟩:=I.list c;have t:=f.length;refine call_tuple_list d.isList (λh' m=>?_) (by simp only[PT]<;>lia);have g:Inv X i j H { s with heap:=h' }:=I.kept (t':=s.toks) m;have k:Inv X i j (upd H h'.objs.size (.tup ys)) { s with heap:=h'.push { cls:=.type "tuple",data:=.seq its.toArray } } :=
   g.laid (t':=s.toks) (λb o e=>PC _ e) (PE _) (show bX X.prog X.w _ _ _ (.tup ys) from⟨hz,its,f,IsTup.new _ _⟩)
  exact⟨.ref h'.objs.size,_,k,rfl,q _ (g.aG.fresh (PE _))⟩
 .obtain⟨its,f,d,hz⟩:=I.tuple c;exact call_tuple_same d ⟨.ref p,H,I,rfl,q⟩
def Bv(K:W.Frag)(T:String)(x:V)(H:ah):Prop:=match x with
 |.str _=>T="str"
 |.int _=>T="int"
 |.ref p=>(T="list"/\∃xs,b8 K H p xs)\/(T="tuple"/\∃o,K.lookup p=Z o/\o.cls=.type "tuple"/\o.dict=Y) \/
   (T="dict"/\((∃c,H p=Z (.b5 c))\/∃c,H p=Z (.ck c)))\/(T="set"/\∃S n,H p=Z (.set S n))
 |_=>False
def Om{u:St}(I:Inv X w u H s)(r:RelV x v)(g:Bv X.K T x H):
  s.TypeIs v T/\∀a,v=.ref a->∃j,s.heap.get? a=Z j/\j.dict=none:=by
 cases x with
 |str z =>
  obtain⟨t,rfl⟩:=r;cases (show T="str" from g);exact⟨typeIs_str s z t,λ_ e=>nomatch e⟩
 |int i =>
  obtain⟨t,rfl⟩:=r;cases (show T="int" from g);exact⟨typeIs_int s i t,λ_ e=>nomatch e⟩
 |ref p =>
  cases r;rcases g with⟨rfl,xs,m⟩|⟨rfl,o,d,l,h⟩|⟨rfl,d⟩|⟨rfl,S,n,d⟩
  .obtain⟨its,_,k,_⟩:=I.list m;refine⟨k.isList.typeIs,λa e=>?_⟩;cases e;obtain⟨o,n,e,c,h,_⟩:=k;exact⟨o,e,h⟩
  .refine⟨⟨o,I.d5 p o d,l⟩,λa e=>?_⟩;cases e;exact⟨o,I.d5 _ o d,h⟩
  .have z:∃o,s.heap.get? p=Z o/\o.ExactDict:=by
    rcases d with⟨q,d⟩|⟨q,d⟩
    .obtain⟨_,_,_,_,o,_,_,e,f,_⟩:=I.aG p _ d;exact⟨o,e,f⟩
    .obtain⟨_,_,_,_,o,_,_,e,f,_⟩:=I.aG p _ d;exact⟨o,e,f⟩
   obtain⟨o,e,f⟩:=z;refine⟨⟨o,e,f.1⟩,λa e2=>?_⟩;cases e2;exact⟨o,e,f.2.1⟩
  .obtain⟨o,_,_,_,e,f,_⟩:=I.aG p _ d;refine⟨⟨o,e,f.1⟩,λa e2=>?_⟩;cases e2;exact⟨o,e,f.2.1⟩
 |_=>exact W7 g
abbrev MV(K:W.Frag)(T:String)(r:V->List V->ah->cj->Prop)(f:TE)(t:dU):TE:=λd H Q=>f d H λx c=>Bv K T x c/\t d c λxs e=>r x xs e Q
variable{o e:VY}{aw:List VY}{to:TE}{t:dU}{name:VT}{apos dI:Xj}{T id:String}{r:V->List V->ah->cj->Prop}
def t7(C:PlainAttrs T)(M:Slot T name id)(B:Yd (.builtin id)=pure (.type "method_descriptor"))(w:B3 X id r)(y:ai X o to)(n:dS X (e::aw) t)(p:Y1 o name X.env (Wu o X.env)=Wu o X.env:=by rfl)(q:((Xg dI (VX (e::aw) X.env)).all (λx=>!x.1)&&(Z5 dI (YC [] X.env)).all (λx=>x.1.isSome)
   && decide ((e::aw).length+([]:List XD).length+(if ([]:List XD).isEmpty then 0 else 1)<30))=true:=by rfl)(u:(apos.endLine==dI.line)=true:=by rfl)(A:VX (e::aw) X.env=(VC,Wu e X.env)::VX aw X.env:=by rfl)(z:(Xg dI (VX aw X.env)).any (·.1)=false:=by rfl):
  ai X (.Call (.Attribute o name apos) (e::aw) [] dI) (MV X.K T r to t):=by
 intro c s d H Q I h;refine wpAny_Call_method_late p q u rfl (aM (y c s d H _ I h) λv L S=>?_);obtain⟨x,j,f,i,N,D⟩:=S;obtain⟨m,h2⟩:=Om f i N;refine⟨T,id,C,M,B,m,h2,?_⟩;have g:=n dI c L d j _ f D;rw[A]at g ⊢;refine Ye (by show(VC||(Xg dI (VX aw X.env)).any (·.1))=VC;rw[z]<;>rfl) (TP ?_);exact aM g λO s2 ⟨R,k,l,G,E⟩=>w c s2 d k x R v O Q l i G E
end
end aH
namespace aH
open PySem PySem.Spec PyProof.Rows
def q4(X:aq)(id:String)(r:V->List V->ah->cj->Prop):Prop :=
 ∀(a:List (VO×WW))(s:VI)(c:St)(H:ah)(x:V)(xs:List V)(v:VE)(b:List VE)(Q:cj),Inv X a c H s->RelV x v->Vals xs b->r x xs H Q ->
  VJ (VM X.prog X.w) X.A (call (.builtin id) (v::b)) (cX X a c Q) X.bl s
def Vals.one:∀{x:V}{a:List VE},Vals [x] a->∃u,a=[u]/\RelV x u:=by
 intro x a h;cases h with
 |cons r h=>cases h;exact⟨_,rfl,r⟩
theorem Vals.rep(h:Vals xs a):∀k:Nat,Vals (V0 k xs).flatten (V0 k a).flatten
 |0=>.nil
 |k+1=>by
  rw[Rx,Rx,R9,R9];exact Vals.append h (Vals.rep h k)
theorem foldl_rep(its):∀(k:Nat)(a:List VE),
  Z6 (λb c=>b++c) a.toArray (V0 k its.toArray)=(a++(V0 k its).flatten).toArray
 |0,a=>by simp
 |k+1,a=>by
  have e:a.toArray++its.toArray=(a++its).toArray:=(by simp);have e2:(a++its)++(V0 k its).flatten=a++(V0 (k+1) its).flatten:=by
   rw[Rx,R9,PR]
  rw[<- e2,<- foldl_rep its k (a++its),<- e,Rx,Wx]
section
variable{X:aq}{pins:List (VO×WW)}{σ:St}{H:ah}{s:VI}{l b:VO}{xs ys zs:List V}
def Inv.yN{its its':List VE}(I:Inv X pins σ H s)(a:H l=Z (.lst xs))(e:s.heap.get? l=Z { cls:=.type "list",data:=.seq its.toArray n })(d:f its.toArray=its'.toArray)(h:Vals ys its')(hz:ys.length<=V2):
  Inv X pins σ (upd H l (.lst ys)) { s with heap:=s.heap.update l (Wo f),toks:=t' }:=by
 have q:=PySem.IsL.update e f;rw[d]at q;refine I.write (x:=l) (e:=l) (by rw[a];exact trivial) (.inl rfl) (λi u c g=>(Qa s.heap (Wo f) (QG c)).trans g) ⟨_,q⟩ ?_;exact⟨hz,its',_,h,q⟩
def Inv.yK(I:Inv X pins σ H s)(a:Vals ys its)(hz:ys.length<=V2):
  Inv X pins σ (upd H s.heap.objs.size (.lst ys)) { s with heap:=s.heap.push { cls:=.type "list",data:=.seq its.toArray },toks:=t' } :=
 I.laid (λ_ _ q=>PC _ q) (PE _) ⟨hz,its,0,a,PQ _ rfl⟩
theorem Inv.fresh(I:Inv X pins σ H s):H s.heap.objs.size=none:=I.aG.fresh (PE _)
def Inv.yO(I:Inv X pins σ H s)(a:H l=Z (.lst xs)):xs.length<=V2/\∃(its:List VE)(n:Nat),Vals xs its/\xs.length=its.length/\s.heap.get? l=Z { cls:=.type "list",data:=.seq its.toArray n }:=by
 obtain⟨z,its,n,r,e⟩:=I.aG l _ a;exact⟨z,its,n,r,r.length,e⟩
def za(h:n<=V2):W0 n=false:=by
 unfold W0;exact decide_eq_false ⋯
end
section
variable{X:aq}
def Kv:V->List V->ah->cj->Prop:=λx a H Q=>∃l xs y,x=.ref l/\a=[y]/\H l=Z (.lst xs)/\xs.length<V2/\Q .aW (upd H l (.lst (xs++[y])))
def yZ:q4 X "list.append" Kv:=by
 intro g s k H x j v i Q I d c h;obtain⟨l,xs,y,rfl,rfl,a,hz,q⟩:=h;cases d;obtain⟨u,rfl,b⟩:=c.one;obtain⟨z,its,n,r,f,e⟩:=I.yO a;refine UY F.slot_list_append ⟨_,e,rfl⟩ F.entry_list_append (F.args_list_append_2 _ _) (PySem.list_append l its.toArray n u (by rw[PT];lia)) ⟨e,?_⟩;refine⟨.aW,_,I.yN (its':=its++[u]) a e (by simp) (r.append (.cons b .nil)) ?_,rfl,q⟩;rw[PI,V8];lia
def len_rep{α:Type}(xs:List α)(k):(V0 k xs).flatten.length=k*xs.length:=by
 induction k with
 |zero=>simp
 |succ k a=>rw[Rx,R9,PI,a,Nat.succ_mul,Nat.add_comm]
end
end aH
namespace vp
open PySem PySem.W PySem.Calls PyProof.Rows
def GJ:∀(ns:List Int)(c:List VE),WellAll P h c (ns.map WData.int)->Wh c ns:=by
 intro ns
 induction ns with
 |nil =>
  intro c w;rw[Rt]at w;cases w;exact .nil
 |cons n ns d =>
  intro c w;rw[VK]at w;cases w with
  |cons a b =>
   cases a;exact .cons _ _ (d _ b)
def L1{l:OpenLaw}(j:l.most=Z n)(c:l.row.toRowW.claim.pre args=J)(o:WellAll P h s args):
  ∃a e ns,s=[VQ a]/\args=[WData.list (ns.map WData.int)]/\h.get? a=Z { cls:=.type "list",data:=.seq e.toArray }/\Wh e ns/\ns.length<=n:=by
 have m:WShape.hasAll [] args [.list .int]=true:=(pre_splitW c).1;have b:l.pre.holds [] { args:=args }=true:=(pre_splitW c).2;obtain⟨d,r,rfl,f,h2⟩:=hasAllW_cons m;obtain rfl:=hasAllW_nil h2;obtain⟨xs,rfl,h3⟩:=hasW_list f;obtain⟨ns,rfl⟩:=items_int h3;have i:ns.length<=n:=by
  unfold OpenLaw.pre at b;have h4:(WTm.not (.lt (.lit (.int (n:Int))) (.len (.arg 0)))).holds [] { args:=[.list (ns.map .int)] }=true:=by
   have h4:=(holds_andW b).1;rw[j]at h4;exact h4
  have h5:=condW_of h4 (w_not (w_lt w_lit (w_len_list (w_arg rfl))));rw[VD]at h5;refine SV λq=>?_
  have p:(n:Int)<((ns.length:Nat):Int):=by lia
  first
   |(rw[decide_eq_true p]at h5;exact absurd h5 ∅)
   |(simp at h5;lia)
 cases o with
 |cons t u =>
  cases u;cases t with
  |list k g=>exact⟨_,_,ns,rfl,rfl,k,GJ ns _ g,i⟩
def Kd(l:OpenLaw)(args):l.row.toRowW.claim.post args (.bool J) args=true :=
 postW_of (r:=l.row.toRowW) (X:=(J==J))
  (show WShape.has [] (.bool J) .bool=J by first|rfl|decide|simp[WShape.has,WShape.arms,WShape.armsAll])
  (show(WTm.eq .res (.lit (.bool J))).value [] { args:=args,res:=Z (.bool J),after:=args }=Z (.bool (J==J)) from w_eq_bool (w_res rfl) w_lit) rfl
def CH{l:OpenLaw}(H:l.most=Z n)(z:d.params.defaults=[])(call:∀(w:Wm)(m b:VI)(h j:VT->Option VE)(e:VO)(o:WW)(k g i:VE)(a:VO)(c:List VE)(ns:List Int),
   Ground q T [] s w m h j b.heap->u w b.heap ->
   b.heap.get? e=Z o->o.data=.func (docDef d.name d.params d.body d.scope k g i)->b.heap.CodeRec g d.name->h d.name=Z (.ref e) ->
   b.heap.get? a=Z { cls:=.type "list",data:=.seq c.toArray }->Wh c ns->ns.length<=n->b.gens=#[] ->
   XC (VM l.prog w) Yf (.call (.ref e) ⟨[.ref a],[]⟩) (λr s'=>r=.ok (.ret (.bool J))/\OldK b.heap s'.heap/\s'.os=b.os/\XB s'.gens) b):
  WalkO q T s u l.row.toRowW d [] (λf c=>PySem.call f c):=by
 intro w m b h j G t e o k g i v Q I y x p E A args a2 U M V a1 O a0;obtain rfl:v=.none:=Dflts.none p z;obtain rfl:Q=.none:=Dflts.noKw p;obtain⟨a,c,ns,rfl,rfl,L,B,C⟩:=L1 H M O;refine enter_call (T8 (call w m b h j e o k g i a c ns G t I (fd_plain y) x E L B C A) λr s' N=>?_);obtain⟨rfl,h2,h3,h4⟩:=N;exact⟨.inl ⟨.bool J,.bool J,[],rfl,λ_=>rfl,.bool J,Kd l _,λ_=>⟨Xn,λ_ D=>(nomatch D)⟩⟩,h2,h3,h4⟩
end vp
namespace aH
open PySem PySem.Spec PyProof.Rows
theorem BL:∀{a:List VE}{ns:List Int},Wh a ns->Vals (ns.map V.int) a
 |_,_,.nil=>.nil
 |_,_,.cons n t h=>.cons ⟨t,rfl⟩ (BL h)
def q6(H:ah):Prop:=∀b,H b=Y\/∃o xs,H b=Z (.cv o (.lst xs))
def HH{K:W.Frag}(A:K.In dO.heap)(M:dO.heap.Ns V1 l)(c:dO.heap.Ns builtinsNs O)(a3:∀x:VT,x≠"__name__"->O x=Wt x)(au:dO.heap.NoLimit)(a5:dO.gens=#[])(j:dO.heap.get? a=Z { cls:=.type "list",data:=.seq f.toArray })(hi:Wh f ns)(L:ns.length<=V2)(ay:ek k Yf)(F:∀base:V9,K.In base->base.Ns V1 l->hF P w K l base CX k D fd [x] sp)(a4:∀(s:VI)(u:VE),Ya s fd ⟨[u],[]⟩ [(x,u)])(az:∀H:ah,q6 H->b8 K H a (ns.map V.int)->sp [.ref a] H (λv _=>v=.ag J) λ_ _ _=>False)(X:∀H e s',CX [] H dO (λ_ _ _=>False) e s'->False):
  XC (VM P w) Yf (.call (.ref D) ⟨[.ref a],[]⟩) (λr s'=>r=.ok (.ret (.bool J))/\OldK dO.heap s'.heap/\s'.os=dO.os/\XB s'.gens) dO:=by
 have Q:=BL hi;have aA:=hi.length;have C:∀H:ah,q6 H->b8 K H a (ns.map V.int)->cF P w H dO.heap->(∀b,H b≠Y->b=a)->(H a≠Y->K.lookup a=Y) ->
   XC (VM P w) Yf (.call (.ref D) ⟨[.ref a],[]⟩) (λr s'=>r=.ok (.ret (.bool J))/\OldK dO.heap s'.heap/\s'.os=dO.os/\XB s'.gens) dO:=by
  intro H I a2 N E a0;have B:∀{b:VO}{o:WW},dO.heap.get? b=Z o->H b=Y->(iB dO.heap H).get? b=Z o:=λe n=>Gn e n
  have b2:∀{b:VO}{o:WW}{g:Array ZG}{hc:Nat},dO.heap.get? b=Z o->o.data=.dict g hc->H b=none:=λ{b o g hc} e d=>by
   cases q:H b with
   |none=>rfl
   |some u =>
    have t:b=a:=E b (by rw[q];simp);subst t;rw[j]at e;cases e;have d':Data.seq f.toArray _=Data.dict g hc:=d;cases d'
  have p:∀{b:VO}{m:VT->Option VE},dO.heap.Ns b m->(iB dO.heap H).Ns b m:=λ{b m} ⟨o,g,hc,e,d,r⟩=>⟨o,g,hc,B e (b2 e d),d,r⟩;have G:K.In (iB dO.heap H):=λb o e=>B (A b o e) (by
   cases q:H b with
   |none=>rfl
   |some u =>
    have t:b=a:=E b (by rw[q];simp);subst t;rw[a0 (by rw[q];simp)]at e;cases e)
  have a1:Mod K l (iB dO.heap H):=⟨G,p M,⟨O,p c,a3⟩,let ⟨b1,U,h2⟩:=au;⟨b1,p U,h2⟩⟩;have e0:ow P w K l (iB dO.heap H) Yf [] dO H:=⟨rfl,a1,λb o e=>Jh e,UZ (Gp _ _),trivial,λb c=>absurd (show b∈([]:List VO) from c) (by simp),N,.of_eq a5⟩;refine T8 ((F _ G (p M)).run Yf [] dO H ⟨[.ref a],[]⟩ [.ref a] [.ref a] _ _ ay e0 (a4 dO (.ref a)) (.cons rfl .nil) (az H I a2)) λr s' h=>?_
  cases r with
  |error e=>exact(X H e s' h).elim
  |ok T =>
   cases T with
   |next=>exact W7 h
   |brk=>exact W7 h
   |cont=>exact W7 h
   |ret u =>
    obtain⟨v,bf,os,S,R,av,a9,q⟩:=h;have a8:v=.ag true:=q;subst a8;obtain rfl:u=WN true:=a9;refine⟨rfl,OldK.of_keep λb o e=>?_,os,S⟩;cases q:H b with
    |none=>exact R.keep b o e q (by intro z;exact absurd (show b∈([]:List VO) from z) (by simp)) (by simp)
    |some u =>
     rcases I b with z|⟨bc,xs,z⟩
     .rw[q]at z;cases z
     .have bg:=R.gE b bc _ z;obtain⟨e1,_⟩:=N b _ z;obtain⟨e2,_⟩:=av b _ bg;rw[e]at e1;cases e1;exact e2
 cases y:K.lookup a with
 |some o =>
  have e:=A a o y;rw[j]at e;cases e;refine C (λ_=>Y) (λ_=>.inl rfl) (.inr ⟨_,f.toArray,_,y,rfl,rfl,rfl,by rw[PT,aA];exact L,⇑Q⟩) (λb u z=>by have i:(Y:Option eP)=Z u:=z;cases i) (λb z=>absurd rfl z) λz=>absurd rfl z
 |none =>
  refine C (λb=>if b=a then Z (.cv { cls:=.type "list",data:=.seq f.toArray } (.lst (ns.map V.int))) else Y) (λb=>?_) (.inl (.inr ⟨{ cls:=.type "list",data:=.seq f.toArray },if_pos rfl⟩)) (λb u z=>?_) (λb z=>?_) λ_=>y
  .by_cases c:b=a
   .exact .inr ⟨_,_,if_pos c⟩
   .exact .inl (if_neg c)
  .by_cases c:b=a
   .have i:=(if_pos c).symm.trans z;cases i;subst c;exact⟨j,by rw[VD];exact L,f,_,Q,j⟩
   .have i:=(if_neg c).symm.trans z;cases i
  .by_cases c:b=a
   .exact c
   .exact absurd (if_neg c) z
end aH
namespace aH
open PySem PySem.Spec PyProof.Rows
noncomputable abbrev oB{K:W.Frag}(_:K.In h):W.Frag:=K
def OO{l:PySem.W.OpenLaw}{K:Params->W.Frag}{CX:Wm->iV}{sp:Wm->fw}(L:l.most=Z n)(M:n<=V2)(C:d.params.defaults=[])(O:ek k Yf)(A:∀(w:Wm)(h:V9),p w h->(K w.params).In h)(F:∀(w:Wm)(b:VT->Option VE)(c:VO)(h:V9),(K w.params).In h->h.Ns V1 b->b d.name=Z (.ref c) ->
   ∃fd:Xt,(∀(s:VI)(u:VE),Ya s fd ⟨[u],[]⟩ [(x,u)]) /\
    ∀base:V9,(K w.params).In base->base.Ns V1 b->hF l.prog w (K w.params) b base (CX w) k c fd [x] (sp w))(Q:∀(w:Wm)(H:ah)(a:VO)(ns:List Int),ns.length<=n->q6 H->b8 (K w.params) H a (ns.map V.int)->sp w [.ref a] H (λv _=>v=.ag J) λ_ _ _=>False)(r:∀(w:Wm)(H:ah)(s:VI)(e:VE)(s':VI),CX w [] H s (λ_ _ _=>False) e s'->False):
  PySem.W.WalkO q a2 S p l.row.toRowW d [] (λf j=>PySem.call f j):=by
 refine vp.CH L C λw a5 R b a3 c o a4 T U a j ns G m a1 a0 X I N E i D=>?_
 have g:=A w _ m;obtain⟨fd,B,t⟩:=F w b c _ g G.T.g I;exact HH g G.T.g G.T.b G.T.builtins G.T.nolimit D N E (PW i M) O t B (λH y z=>Q w H a ns i y z) λH e s'=>r w H R e s'
end aH
namespace aH
open PySem PySem.Spec PyProof.Rows
abbrev fg(s:Wl):Arguments:=match s with
 |.FunctionDef _ a _ _ _ _ _ _ _ _=>a
 |_=>{ posonlyargs:=[],args:=[],vararg:=Y,kwonlyargs:=[],kw_defaults:=[],kwarg:=Y,defaults:=[] }
abbrev iu(s:Wl):List Stmt:=match s with
 |.FunctionDef _ _ b _ _ _ _ _ _ _=>b
 |_=>[]
abbrev fi(s:Wl):Scope:=match s with
 |.FunctionDef _ _ _ _ _ _ a _ _ _=>a
 |_=>{ kind:=.function,names:=[],isGenerator:=VC,isCoroutine:=VC }
structure mx(K:W.Frag)(x qual:VT)(st:Wl)(f:VO)(fd:Xt):Prop where
 ex:∃(Jd:VE)(d6:Option VO)(bO doc pm:VE)(an:Option VO)(wk ct:VE)(Jx:Array (Option VE)),
  fd=W.fnOf x qual (fg st) (iu st) (fi st) .none bO doc pm an wk ct/\K.lookup f=Z ⟨Jd,d6,.func fd,Jx⟩/\W.codeIn K wk qual=J
 pH:W.keepIn K (.ref f)=J
section
variable{P:Wa}{w:Wm}{K:W.Frag}{ak:VT->Option VE}{base:V9}
def mx.binds{st:Wl}(F:mx K x i st f fd)(h:∀(bO c d:VE)(a:Option VO)(b ct:VE)(e:List VE),e.length=g.length->bindArgs (W.fnOf x i (fg st) (iu st) (fi st) .none bO c d a b ct) ⟨e,[]⟩=pure (g.zip e)):Binds K fd g []:=by
 obtain⟨k,l,bO,c,d,a,b,ct,m,rfl,lk,j⟩:=F.ex;exact .all (h bO c d a b ct)
def xM{st:Wl}{bO b d a ct:VE}(l:K.lookup f=Z ⟨h,i,.func (W.fnOf x e (fg st) (iu st) (fi st) .none bO b d g a ct),j⟩)(c:W.codeIn K a e=J)(k:W.keepIn K (.ref f)=J):mx K x e st f (W.fnOf x e (fg st) (iu st) (fi st) .none bO b d g a ct):=⟨⟨h,i,bO,b,d,g,a,ct,j,rfl,l,c⟩,k⟩
end
def aE(H a:ah):Prop:=∀b o,H b=Z o->a b=Z o
def aE.refl(H):aE H H:=λ_ _ h=>h
def aE.trans(a:aE H d)(b:aE d eO):aE H eO:=λc o h=>b c o (a c o h)
def aE.free(e:aE H a)(h:a l=Option.none):H l=Option.none:=by
 cases q:H l with
 |none=>rfl
 |some o =>
  rw[e l o q]at h;cases h
end aH
end
section
namespace aH
open PySem PySem.Spec PyProof.Rows
section
variable{κ:Type}[DecidableEq κ]
abbrev fK(b:List (κ×V))(k:κ):Option V:=(b.find? λa=>decide (a.1=k)).map (·.2)
abbrev putK(b:List (κ×V))(k:κ)(v:V):List (κ×V) :=
 if (b.any λa=>decide (a.1=k))=J then b.map (λa=>if a.1=k then(a.1,v) else a) else b++[(k,v)]
def vk{k:κ}(e:p.1=k):fK (p::r) k=Z p.2:=by simp[fK,Wr,e]
def vj{k:κ}(e:¬p.1=k):fK (p::r) k=fK r k:=by simp[fK,Wr,e]
theorem BJ(k):∀a:List (κ×V),(a.any λb=>decide (b.1=k))=(fK a k).isSome
 |[]=>rfl
 |p::r=>by
  rw[Ws]
  by_cases e:p.1=k
  .simp only[vk e,decide_eq_true e,Bool.true_or,Option.isSome_some]
  .rw[vj e,decide_eq_false e,Bool.false_or];exact BJ k r
def tE(a)(k:κ)(v):(putK a k v).length<=a.length+1:=by
 unfold putK
 split
 .rw[VD];lia
 .rw[PI,VS,Wq];lia
def gc.GQ(r:gc o u):o.isSome=u.isSome:=by
 cases o with
 |none=>cases u with
  |none=>rfl
  |some _=>exact(show False from r).elim
 |some _=>cases u with
  |none=>exact(show False from r).elim
  |some _=>rfl
theorem gc.getD(r:gc o u)(a:RelV d d'):RelV (o.getD d) (u.getD d'):=by
 cases o with
 |none=>cases u with
  |none=>exact a
  |some _=>exact(show False from r).elim
 |some _=>cases u with
  |none=>exact(show False from r).elim
  |some _=>exact r
def dg.val(r:dg g i)(k:κ):gc (fK g k) (YS i k):=by
 unfold dg at r
 induction r with
 |nil=>exact True.intro
 |@cons p q j c h t f =>
  obtain⟨d,h2⟩:=h
  by_cases e:p.1=k
  .have a:q.1=k:=d.symm.trans e;have b:YS (q::c) k=Z q.2:=(by simp[YS,Wr,a]);rw[vk e,b];exact h2
  .have a:¬q.1=k:=λz=>e (d.trans z)
   have b:YS (q::c) k=YS c k:=(by simp[YS,Wr,a]);rw[vj e,b];exact f
theorem dg.any(r:dg c d)(k:κ):(c.any λa=>decide (a.1=k))=d.any λa=>decide (a.1=k):=by
 unfold dg at r
 induction r with
 |nil=>rfl
 |cons h t b=>rw[Ws,Ws,b,h.1]
def dg.uq(r:dg d g)(k:κ)(f:RelV y u):
  dg (d.map λa=>if a.1=k then(a.1,y) else a) (g.map λa=>if a.1=k then(a.1,u) else a):=by
 unfold dg at r ⊢
 induction r with
 |nil=>exact .nil
 |@cons p q i j h t c =>
  rw[VK,VK];refine .cons ?_ c;obtain⟨b,h2⟩:=h
  by_cases e:p.1=k
  .rw[if_pos e,if_pos (b.symm.trans e)];exact⟨b,f⟩
  .rw[if_neg e,if_neg (λz=>e (b.trans z))];exact⟨b,h2⟩
def dg.put(r:dg d b)(k:κ)(a:RelV y u):dg (putK d k y) (Z7 b k u):=by
 unfold putK Z7;rw[r.any k]
 by_cases e:(b.any λc=>decide (c.1=k))=J
 .rw[if_pos e,if_pos e];exact r.uq k a
 .rw[if_neg e,if_neg e];exact Paired.snoc r ⟨rfl,a⟩
theorem dg.length{a:List (κ×V)}(r:dg a b):a.length=b.length:=Vm r
end
def nz(r:RelV (bO k) u):(eL P w).is k u=true:=by
 cases k with
 |inl i=>obtain⟨t,e⟩:=(show ∃t,u=W5 i t from r);subst e;exact IE P w i t
 |inr x=>obtain⟨t,e⟩:=(show ∃t,u=Value.str x t from r);subst e;exact IF P w x t
theorem lD:∀{a:List Key}{b:List VE},Vals (a.map bO) b->ItemsAre (eL P w) a b
 |[],_,r=>by rw[Rt]at r;cases r;exact .nil
 |k::a,_,r=>by
  rw[VK]at r;cases r with
  |cons h t=>exact .cons (nz h) (lD t)
noncomputable abbrev KT(H:ah):List (List Key×V)->List (List Key×VO×VE)->Prop:=Paired λp q=>p.1=q.1/\H q.2.1=Z (.tup (p.1.map bO))/\RelV p.2 q.2.2
def KT.val(r:KT H g xs)(k):gc (fK g k) ((ZO xs k).map (·.2)):=by
 induction r with
 |nil=>exact True.intro
 |@cons p q i c h t f =>
  obtain⟨d,_,h2⟩:=h
  by_cases e:p.1=k
  .have a:q.1=k:=d.symm.trans e;have b:ZO (q::c) k=Z q.2:=(by simp[ZO,Wr,a]);rw[vk e,b];exact h2
  .have a:¬q.1=k:=λz=>e (d.trans z)
   have b:ZO (q::c) k=ZO c k:=(by simp[ZO,Wr,a]);rw[vj e,b];exact f
def KT.uq(r:KT H d xs)(k)(f:RelV y u):
  KT H (d.map λb=>if b.1=k then(b.1,y) else b) (xs.map (putAt k u)):=by
 induction r with
 |nil=>exact .nil
 |@cons p q g i h t c =>
  rw[VK,VK];refine .cons ?_ c;obtain⟨a,h2,h3⟩:=h;unfold putAt
  by_cases e:p.1=k
  .rw[if_pos e,if_pos (a.symm.trans e)];exact⟨a,h2,f⟩
  .rw[if_neg e,if_neg (λz=>e (a.trans z))];exact⟨a,h2,h3⟩
def KT.put(r:KT H a xs)(k)(d:H b=Z (.tup (k.map bO)))(c:RelV y u):
  KT H (putK a k y) (storedH xs k b u):=by
 have e:(a.any λf=>decide (f.1=k))=(ZO xs k).isSome:=by
  rw[BJ,(r.val k).GQ,Option.isSome_map]
 unfold putK storedH;rw[e]
 by_cases q:(ZO xs k).isSome=J
 .rw[if_pos q,if_pos q];exact r.uq k c
 .rw[if_neg q,if_neg q];exact Paired.snoc r ⟨rfl,d,c⟩
def KT.keeps(r:KT H d xs)(c:∀b ys,H b=Z (.tup ys)->a b=Z (.tup ys)):KT a d xs :=
 Paired.tI r λ_ _ z=>⟨z.1,c _ _ z.2.1,z.2.2⟩
section
variable{P:Wa}{w:Wm}{H:ah}{h:V9}{a:VO}
def z4(b:cF P w H h)(e:eS H a u):bX P w H h a u:=e.ok b
def m1(c:cF P w H h)(e:eS H a (.b5 b)):b.length<=V2/\(a==WI)=VC/\∃eh,dg b eh/\h.DictOf (eL P w) a eh :=
 show bX P w H h a (.b5 b) from z4 c e
def wX(c:cF P w H h)(e:H a=Z (.b5 b)):b.length<=V2/\(a==WI)=VC/\∃eh,dg b eh/\h.DictOf (eL P w) a eh:=m1 c (.inl e)
def pG(d:cF P w H h)(e:H a=Z (.tup (b.map bO))):(XZ (eL P w)).is h b a:=by
 obtain⟨_,its,r,o,c,h2,n,h3⟩:=(show bX P w H h a (.tup (b.map bO)) from d a _ e);exact⟨o,its.toArray,n,c,h2,h3,by simpa using lD r⟩
def m8(f:cF P w H h)(e:eS H a (.ck c)):c.length<=V2/\(a==WI)=VC /\
  ∃xs,KT H c xs/\h.DictOfH (XZ (eL P w)) a xs:=by
 obtain⟨z,y,xs,r,o,i,g,j,h2,h3,h4,h5⟩:=(show bX P w H h a (.ck c) from z4 f e);refine⟨z,y,xs,r,o,i,g,j,h2,h3,h4,λx b=>?_,h5⟩;have all:∀{l:List (List Key×V)}{m:List (List Key×VO×VE)},KT H l m->∀x∈m,(XZ (eL P w)).is h x.1 x.2.1:=by
  intro l m q
  induction q with
  |nil=>intro x b;exact nomatch b
  |@cons p q n s d t k =>
   intro x b;rcases PF.mp b with e|b
   .subst e;exact pG f (by rw[<- d.1];exact d.2.1)
   .exact k x b
 exact all r x b
def Ex(c:cF P w H h)(e:H a=Z (.ck b)):b.length<=V2/\(a==WI)=VC /\
  ∃xs,KT H b xs/\h.DictOfH (XZ (eL P w)) a xs:=m8 c (.inl e)
end
def iY(H:ah)(a:VO)(y:V)(r:Option V):Prop :=
 (∃c k,eS H a (.b5 c)/\y=bO k/\r=fK c k)\/∃c k b,eS H a (.ck c)/\y=.ref b/\H b=Z (.tup (k.map bO))/\r=fK c k
def gu(H:ah)(a:VO)(y v:V)(d:ah):Prop :=
 (∃c k,H a=Z (.b5 c)/\y=bO k/\c.length<V2/\d=upd H a (.b5 (putK c k v))) \/
 ∃c k b,H a=Z (.ck c)/\y=.ref b/\H b=Z (.tup (k.map bO))/\c.length<V2/\d=upd H a (.ck (putK c k v))
def iY.t{k:List Key}(e:H a=Z (.ck c))(d:H b=Z (.tup (k.map bO))):iY H a (.ref b) (fK c k):=.inr ⟨c,k,b,.inl e,rfl,d,rfl⟩
theorem gu.k{k:Key}(e:H a=Z (.b5 b))(c:b.length<V2):gu H a (bO k) v (upd H a (.b5 (putK b k v))):=.inl ⟨b,k,e,rfl,c,rfl⟩
def gu.t{k:List Key}(e:H a=Z (.ck c))(d:H b=Z (.tup (k.map bO)))(f:c.length<V2):
  gu H a (.ref b) v (upd H a (.ck (putK c k v))):=.inr ⟨c,k,b,e,rfl,d,f,rfl⟩
section
variable{X:aq}{pins:List (VO×WW)}{σ:St}{H:ah}{s:VI}{a:VO}{y v:V}{u r:VE}{o:Option V}{A:Wc}{E:VE->VI->Prop}
def Inv.big(I:Inv X pins σ H s):WI<s.heap.objs.size:=by
 have h:V1<s.heap.objs.size:=(I.mod.glob.keeps I.fB).lt;exact QZ ∅ h
def Eb(w:A.units+1<Wy)(I:Inv X pins σ H s)(g:iY H a y (Z v))(j:RelV y u)(h:∀c s',Inv X pins σ H s'->RelV v c->Q c s'):
  VJ (VM X.prog X.w) A (XE (.ref a) u) Q E s:=by
 rcases g with⟨x,k,e,d,l⟩|⟨x,k,b,e,d,m,l⟩
 .subst d;obtain⟨z,n,B,f,dd⟩:=m1 I.aG e;obtain⟨c,hw,i⟩:=gc.some_of (v:=v) (o:=YS B k) (by rw[l];exact f.val k);exact wpAny_getItem_of (nz j) dd.mapOf hw (h c _ (I.tok _) i)
 .subst d;cases (show u=VQ b from j);obtain⟨z,n,xs,f,dd⟩:=m8 I.aG e;obtain⟨c,hw,i⟩:=gc.some_of (v:=v) (o:=(ZO xs k).map (·.2)) (by rw[l];exact f.val k);obtain⟨p,q,t⟩:=Option.map_eq_some_iff.mp hw;refine wpAny_getItem_heap (Uc w) (pG I.aG m) dd q ?_;rw[t];exact h c _ (I.tok _) i
def sH(I:Inv X pins σ H s)(h:mB (H a))(g:V6 a s.heap h')(f:∃q,h'.get? a=Z q)(i:bX X.prog X.w (upd H a c) h' a c):
  Inv X pins σ (upd H a c) { s with heap:=h',toks:=t' } :=
 I.write (x:=a) (e:=a) h (.inl rfl) (λb q d z=>(g.2 b d).trans z) f i
def wW(z:b.length<=V2)(d:(a==WI)=VC)(e:dg b c)(dd:h'.DictOf (eL P w) a c):
  bX P w f h' a (.b5 b):=⟨z,d,c,e,dd⟩
def Ee(O:A.units+1<Wy)(I:Inv X pins σ H s)(g:gu H a y v G)(D:RelV y u)(C:RelV v r)(h:∀s',Inv X pins σ G s'->Q () s'):
  VJ (VM X.prog X.w) A (setItem (.ref a) u r) Q E s:=by
 rcases g with⟨d,k,e,n,l,m⟩|⟨d,k,b,e,n,x,l,m⟩
 .subst n m;obtain⟨z,p,R,f,dd⟩:=wX I.aG e;have hz:R.length<=sizeLine:=(by rw[<- f.length];exact z);have t:(putK d k v).length<=sizeLine:=(by have:=tE d k v;lia);refine wpAny_setItem_pairs (hsz:=hz) (nz D) dd λh' i w=>h _ ?_
  have N:∃q,h'.get? a=Z q:=let ⟨q,_,_,j,_⟩:=i;⟨q,j⟩
  exact sH I (by rw[e];exact True.intro) w N (wW t p (f.put k C) i)
 .subst n m;cases (show u=VQ b from D);obtain⟨z,p,xs,f,dd⟩:=Ex I.aG e;have hz:xs.length<=sizeLine:=(by rw[<- Vm f];exact z);have t:(putK d k v).length<=sizeLine:=(by have:=tE d k v;lia);refine wpAny_setItem_heap (hsz:=hz) (Uc O) (pG I.aG x) dd λh' i w=>h _ ?_
  obtain⟨q,M,L,j,h2,h3,h4,_,h5⟩:=i;refine sH I (by rw[e];exact True.intro) w ⟨q,j⟩ ⟨t,p,_,(f.put k x C).keeps λc ys B=>?_,q,M,L,j,h2,h3,h4,h5⟩;rw[bk (I2 B e (λz=>nomatch z))];exact B
end
def vy(i:VY):Prop:=∀b a,YB i VC b a=operate [b,a] (XE b a)
def MN{T id:String}(g:typeLookup (.type T) "__getitem__"=pure (Z (.builtin id)))(j:vy b)(h:VJ (VM prog w) A (Wu f env) (λo d=>VJ (VM prog w) A (Wu b env) (λi qw=>qw.TypeIs o T/\VJ (VM prog w) A (XE o i) Q E qw) E d) E s):
  VJ (VM prog w) A (Wu (.Subscript f b pos) env) Q E s:=by
 refine Subscript_ (QP h (λo d k=>QP k (λi qw a=>?_) λ_ _ x=>x) λ_ _ x=>x);obtain⟨c,a⟩:=a;unfold Y0;refine PA ?_;rw[getitemInPython_of_ne c.not_modules];refine PA (U4 c g ?_);have fin:VJ (VM prog w) A (YB b VC o i) (λr e=>VJ (VM prog w) A (letTemporaryGo f o r>>=λ_=>pure r) Q E e) E qw:=by
  rw[j o i];exact wpAny_operating (QP a (λr e l=>PA (wpAny_letTemporaryGo (VB l))) λ_ _ x=>x)
 first
  |exact VB (PA fin)
  |exact PA (VB (PA fin))
  |exact PA fin
def Eo{d:St}(I:Inv X f d H s)(g:iY H a y o):s.TypeIs (.ref a) "dict":=by
 rcases g with⟨c,k,e,_,_⟩|⟨c,k,b,e,_,_,_⟩
 .obtain⟨_,_,h,_,dd⟩:=m1 I.aG e;exact dd.typeIs
 .obtain⟨_,_,xs,_,dd⟩:=m8 I.aG e;exact dd.typeIs
abbrev uT(e f:TE):TE:=λc H Q=>e c H λx d=>f c d λy b=>∃a v,x=.ref a/\iY b a y (Z v)/\Q v b
abbrev K7(g i h:TE):eG:=λD b H=>h b H λv d=>g b d λx e=>i b e λy f=>∃a c,x=.ref a/\gu f a y v c/\D.aR b c
section
variable{X:aq}{o i e value:VY}{pos pos' N5:Xj}{kJ ty u3:TE}
def JK(q:X.A.units+1<Wy)(n:ai X o kJ)(hi:ai X i ty)(p:vy i):ai X (.Subscript o i pos) (uT kJ ty):=by
 intro c s d H Q I h;refine MN PySem.F.slot_dict_getitem.lookup p (aM (n c s d H _ I h) λu B ⟨x,f,k,z,r⟩=>aM (hi c B d f _ k r) λC s2 ⟨y,j,b,A,a,v,m,g,t⟩=>?_);subst m;obtain rfl:u=VQ a:=z;exact⟨Eo b g,Eb q b g A λD s3 l w=>⟨v,j,l,w,t⟩⟩
def zQ(w:X.A.units+1<Wy)(q:ai X o kJ)(hi:ai X i ty)(z:ai X value u3)(t:Xa value (Z (.Subscript o i pos')) pos.line X.env=pure VC):
  bJ X (.Assign [.Subscript o i pos'] value pos) (K7 kJ ty u3):=by
 intro c s b H D I h;refine wpAny_Assign_Subscript (aM (z c s b H _ I h) λr M ⟨v,d,k,E,A⟩=>aM (q c M b d _ k A) λu s2 ⟨x,f,l,G,B⟩=>aM (hi c s2 b f _ l B) λO s3 ⟨y,N,m,L,a,j,p,g,C⟩=>?_) t;subst p;obtain rfl:u=VQ a:=G;exact Ee w m g L E λQ n=>⟨b,j,n,C⟩
end
def wV(h:V9)(a:WI<h.objs.size):bX P w H (h.push { cls:=.type "dict",data:=.dict #[] }) h.objs.size (.b5 []) :=
 ⟨PN _,beq_eq_false_iff_ne.mpr (QG (PY a)),[],.nil,Heap.DictOf.new h⟩
def Ew(h:V9)(a:WI<h.objs.size):bX P w H (h.push { cls:=.type "dict",data:=.dict #[] }) h.objs.size (.ck []) :=
 ⟨PN _,beq_eq_false_iff_ne.mpr (QG (PY a)),[],.nil,_,#[],0,PQ _ rfl,⟨rfl,rfl,rfl⟩,rfl,rfl,RF⟩
def MY:TE:=λ_ H Q=>∀p,H p=Y->Q (.ref p) (upd H p (.b5 []))
def MZ:TE:=λ_ H Q=>∀p,H p=Y->Q (.ref p) (upd H p (.ck []))
section
variable{X:aq}{pos:Xj}
def zx:ai X (.Dict [] [] pos) MY:=λb s c H Q I h =>
 wpAny_Dict_empty ⟨.ref s.heap.objs.size,_,I.laid (a:=s.heap.objs.size) (o:=.b5 []) (t':=s.toks) (λ_ _ q=>PC _ q) (PE _) (wV s.heap I.big),rfl,h _ (I.aG.fresh (PE _))⟩
def JN:ai X (.Dict [] [] pos) MZ:=λb s c H Q I h =>
 wpAny_Dict_empty ⟨.ref s.heap.objs.size,_,I.laid (a:=s.heap.objs.size) (o:=.ck []) (t':=s.toks) (λ_ _ q=>PC _ q) (PE _) (Ew s.heap I.big),rfl,h _ (I.aG.fresh (PE _))⟩
end
abbrev uW:List (TE×TE)->St->ah->(List (V×V)->ah->Prop)->Prop
 |[],_,H,Q=>Q [] H
 |(tk,f)::r,a,H,Q=>tk a H λx b=>f a b λy c=>uW r a c λe d=>Q ((x,y)::e) d
noncomputable abbrev vE:List (V×V)->List (VE×VE)->Prop:=Paired λp q=>RelV p.1 q.1/\RelV p.2 q.2
def oG(X:aq)(pos:Xj)(e:List (Option VY))(g:List VY)(f:List (TE×TE)):Prop :=
 ∀(c:List (VO×WW))(s:VI)(a:St)(H:ah)(Q:List (V×V)->ah->Prop),Inv X c a H s->uW f a H Q ->
  VJ (VM X.prog X.w) X.A (evalPairs (pairTrees e g X.env pos)) (λh s'=>∃d b,Inv X c a b s'/\vE d h/\Q d b) X.bl s
def Kf:oG X pos [] [] []:=λa s b H Q I h=>pairTrees_nil_walk ⟨[],H,I,.nil,h⟩
def Ke(j:ai X k tk)(m:ai X v C)(l:oG X pos n D B):
  oG X pos (Z k::n) (v::D) ((tk,C)::B):=λa s b H Q I h =>
 pairTrees_cons_walk (aM (j a s b H _ I h) λu A ⟨x,c,f,w,p⟩=>aM (m a A b c _ f p) λE s2 ⟨y,d,g,z,q⟩ =>
  aM (l a s2 b d _ g q) λG s3 ⟨o,e,i,t,r⟩=>⟨(x,y)::o,e,i,.cons ⟨w,z⟩ t,r⟩)
def lO(c d:List (Key×V)):List (Key×V):=d.foldl (λb a=>putK b a.1 a.2) c
def dg.merge:∀{c:List (Key×V)}{rs:List (Key×VE)}{a:List (Key×V)}{b:List (Key×VE)},dg c rs->dg a b->dg (lO a c) (merged b rs):=by
 intro c rs a b r;unfold dg at r
 induction r generalizing a b with
 |nil=>intro q;exact q
 |@cons p q g i h t d =>
  intro f;have e:dg (putK a p.1 p.2) (Z7 b q.1 q.2):=by
   have:=f.put p.1 h.2;rw[<- h.1];exact this
  exact d e
theorem yC:∀(b a:List (Key×V)),(lO a b).length<=a.length+b.length
 |[],a=>by show a.length<=a.length+0;lia
 |p::r,a=>by
  have c:=yC r (putK a p.1 p.2);have h2:=tE a p.1 p.2;show(lO (putK a p.1 p.2) r).length<=_;rw[VS];lia
theorem wj:∀{d:List (Key×V)}{f:List (VE×VE)},vE (d.map λe=>(bO e.1,e.2)) f->∃rs,Carries (eL P w) f rs/\dg d rs
 |[],_,r=>by rw[Rt]at r;cases r;exact⟨[],True.intro,.nil⟩
 |p::d,_,r=>by
  rw[VK]at r;cases r with
  |@cons a b g bs h t =>
   obtain⟨rs,c,q⟩:=wj (P:=P) (w:=w) t;obtain⟨b1,b2⟩:=b;exact⟨(p.1,b2)::rs,⟨nz h.1,rfl,c⟩,.cons ⟨rfl,h.2⟩ q⟩
def M0(e:List (TE×TE)):TE:=λf H Q=>∀p,H p=Y->uW e f (upd H p (.b5 [])) λd b=>b p=Z (.b5 [])/\∃a:List (Key×V),d=a.map (λc=>(bO c.1,c.2))/\a.length<=15/\Q (.ref p) (upd b p (.b5 (lO [] a)))
def JM(h:oG X pos b i E)(n:b.all (·.isSome)=J)(t:b.length=i.length)(h0:b≠[])(m:b.length<=15):ai X (.Dict b i pos) (M0 E):=by
 intro y s L H Q I q;have u:=I.aG.fresh (PE s.heap.objs.size);have j:=I.laid (a:=s.heap.objs.size) (o:=.b5 []) (h':=s.heap.push { cls:=.type "dict",data:=.dict #[] }) (t':=s.toks) (λ_ _ q=>PC _ q) (PE _) (wV s.heap I.big);refine wpAny_Dict_walk (knd:=eL X.prog X.w) n t h0 m (aM (h y _ L _ _ j (q _ u)) λR s2 G=>?_);obtain⟨N,M,d,C,e,g,k,lk,A⟩:=G;subst k;obtain⟨rs,c,D⟩:=wj (P:=X.prog) (w:=X.w) C;obtain⟨z,p,O,B,dd⟩:=wX d.aG e;cases B;refine⟨rs,c,dd,λh' f x=>⟨.ref s.heap.objs.size,_,?_,rfl,A⟩⟩;have hz:(lO [] g).length<=sizeLine:=by
  have l:=yC g [];rw[Wq]at l;rw[V3];lia
 have r:∃q,h'.get? s.heap.objs.size=Z q:=let ⟨q,_,_,v,_⟩:=f;⟨q,v⟩
 exact sH d (by rw[e];exact True.intro) x r (wW hz p (D.merge .nil) f)
structure Pd(X:aq)(o:VY)(m:VT)(apos:Xj)(e:VY)(dI:Xj):Prop where
 base:Y1 o m X.env (Wu o X.env)=Wu o X.env
 kc:((Xg dI (VX [e] X.env)).all (λx=>!x.1)&&(Z5 dI (YC [] X.env)).all (λx=>x.1.isSome)
  && decide (([e]:List VY).length+([]:List XD).length+(if ([]:List XD).isEmpty then 0 else 1)<30))=J
 line:(apos.endLine==dI.line)=J
 trees:Xg dI (VX [e] X.env)=[(VC,Wu e X.env)]
structure M2(X:aq)(o:VY)(m:VT)(apos:Xj)(e f:VY)(dI:Xj):Prop where
 base:Y1 o m X.env (Wu o X.env)=Wu o X.env
 kc:((Xg dI (VX [e,f] X.env)).all (λx=>!x.1)&&(Z5 dI (YC [] X.env)).all (λx=>x.1.isSome)
  && decide (([e,f]:List VY).length+([]:List XD).length+(if ([]:List XD).isEmpty then 0 else 1)<30))=J
 line:(apos.endLine==dI.line)=J
 trees:Xg dI (VX [e,f] X.env)=[(VC,Wu e X.env),(VC,Wu f X.env)]
def vu(H:ah)(a:VO):Prop:=(∃b,eS H a (.b5 b))\/∃b,eS H a (.ck b)
def GO{i:St}(I:Inv X j i H s)(d:vu H a):
  s.TypeIs (.ref a) "dict"/\(∀b,VQ a=.ref b->∃c,s.heap.get? b=Z c/\c.dict=Y)/\(a==WI)=false:=by
 rcases d with⟨h,e⟩|⟨h,e⟩
 .obtain⟨_,g,k,_,dd⟩:=m1 I.aG e;refine⟨dd.typeIs,λb q=>?_,g⟩;cases q;obtain⟨c,_,_,f,h2,_⟩:=dd;exact⟨c,f,h2.2.1⟩
 .obtain⟨_,g,xs,_,dd⟩:=m8 I.aG e;refine⟨dd.typeIs,λb q=>?_,g⟩;cases q;obtain⟨c,_,_,f,h2,_⟩:=dd;exact⟨c,f,h2.2.1⟩
section
variable{X:aq}{pins:List (VO×WW)}{σ:St}{H:ah}{s:VI}{a:VO}{y d:V}{u r:VE}{o:Option V}{A:Wc}{E:VE->VI->Prop}
def Ea(q:A.units+1<Wy)(I:Inv X pins σ H s)(g:iY H a y o)(m:RelV y u)(j:RelV d r)(h:∀n s',Inv X pins σ H s'->RelV (o.getD d) n->Q n s'):
  VJ (VM X.prog X.w) A (call (.builtin "dict.get") [.ref a,u,r]) Q E s:=by
 rcases g with⟨t,k,e,c,l⟩|⟨t,k,b,e,c,p,l⟩
 .subst c;obtain⟨z,f,v,i,dd⟩:=m1 I.aG e;refine call_meetsIn Tv dd.typeIs U0 (UN _ _ _) (meets_dict_get_default (eL X.prog X.w) a (nz m) f r) ⟨_,dd.mapOf,h _ _ (I.tok _) ?_⟩;rw[l];exact(i.val k).getD j
 .subst c;cases (show u=VQ b from m);obtain⟨z,f,xs,i,dd⟩:=m8 I.aG e;refine call_meetsIn Tv dd.typeIs U0 (UN _ _ _) (meetsH_dict_get_default (XZ (eL X.prog X.w)) a b f r) ⟨Uc q,k,xs,pG I.aG p,dd,h _ _ (I.tok _) ?_⟩;rw[l];exact(i.val k).getD j
end
abbrev MX(f h g:TE):TE:=λb H Q=>f b H λx c=>∃a,x=.ref a/\vu c a/\h b c λy e=>g b e λz d=>∃o,iY d a y o/\Q (o.getD z) d
section
variable{X:aq}{o e f:VY}{apos dI:Xj}{kJ ty Bu:TE}
def JL(A:X.A.units+1<Wy)(w:ai X o kJ)(t:ai X e ty)(v:ai X f Bu)(m:M2 X o "get" apos e f dI):ai X (.Call (.Attribute o "get" apos) [e,f] [] dI) (MX kJ ty Bu):=by
 intro b s c H Q I h;refine wpAny_Call_method m.base m.kc m.line PySem.F.plainAttrs_dict Tv PySem.F.type_dict_get (aM (w b s c H _ I h) λu N S=>?_);obtain⟨x,j,i,G,a,r,d,B⟩:=S;subst r;obtain rfl:u=VQ a:=G;obtain⟨O,R,_⟩:=GO i d;refine⟨O,R,?_⟩;rw[m.trees];refine Ye rfl (TP (RA (aM (t b N c j _ i B) λU s2 ⟨y,k,n,L,C⟩ =>
  RA (aM (v b s2 c k _ n C) λT s3 ⟨z,l,p,M,a0,g,D⟩=>R7 ?_))))
 exact Ea A p g L M λa2 a1 q E=>⟨_,l,q,E,D⟩
end
end aH
end
set_option genInjectivity false
set_option autoImplicit true
set_option maxHeartbeats 8000000
section
namespace ζ
open PySem
inductive R(α:Type) where
 |ok (a:α)
 |exc (c:Nat)
 |bad
def R.bind{α β:Type}:R α->(α->R β)->R β
 |.ok a,f=>f a
 |.exc c,_=>.exc c
 |.bad,_=>.bad
noncomputable instance:Monad R where
 pure:=R.ok
 bind:=R.bind
def ao{α:Type}{a b:α}(h:a=b):a=b:=h
@[simp] theorem R.iN {α β:Type} (a) (f:α->R β):(R.ok a>>=f)=f a:=ao rfl
@[simp] theorem R.Fy {α β:Type} (c) (f:α->R β):(R.exc c>>=f)=R.exc c:=ao rfl
@[simp] theorem R.Pf {α β:Type} (f:α->R β):(R.bad>>=f)=R.bad:=ao rfl
@[simp] theorem R.Py {α:Type} (a):(pure a:R α)=R.ok a:=rfl
set_option genInjectivity true in
inductive D where
 |aW
 |ag (b:Bool)
 |int (i:Int)
 |str (x:VT)
 |tup (xs:List D)
 |lst (xs:List D)
 |aI (gj:List (List Int×Int))
 |aO (gj:List (Int×Int×Int))
 |d4 (c:Nat)
mutual
noncomputable def d3:D->D->Bool
 |.aW,.aW=>J
 |.ag a,.ag b=>a==b
 |.ag a,.int j=>(if a then 1 else 0)==j
 |.int i,.ag b=>i==(if b then 1 else 0)
 |.int i,.int j=>i==j
 |.str x,.str y=>x==y
 |.tup xs,.tup ys=>iy xs ys
 |.lst xs,.lst ys=>iy xs ys
 |_,_=>VC
noncomputable def iy:List D->List D->Bool
 |[],[]=>J
 |x::xs,y::ys=>d3 x y&&iy xs ys
 |_,_=>VC
end
mutual
noncomputable def js:D->D->Option Bool
 |.int i,.int j=>Z (decide (i<j))
 |.tup xs,.tup ys=>kl xs ys
 |_,_=>Y
noncomputable def kl:List D->List D->Option Bool
 |[],[]=>Z VC
 |[],_::_=>Z J
 |_::_,[]=>Z VC
 |x::xs,y::ys=>if d3 x y then kl xs ys else js x y
end
abbrev dY:Nat->D->Bool
 |0,.int _=>J
 |n+1,.tup xs=>xs.all (dY n)
 |_,_=>VC
def pB(x:D):List D->List D
 |[]=>[x]
 |y::ys=>if js y x=Z J then y::pB x ys else x::y::ys
def fs:List D->List D
 |[]=>[]
 |x::xs=>pB x (fs xs)
def gf:List D->List D
 |[]=>[]
 |x::xs=>if xs.any (d3 x) then gf xs else x::gf xs
def hV:D->Bool
 |.tup (x::xs)=>dY 0 x&&xs.all (dY 0)
 |_=>VC
def hX(xs:List D):Bool:=xs.all (dY 0)||xs.all hV
abbrev SZ:Nat:=16777216
abbrev dk:Int:=18446744073709551616
def sorted(xs:List D):R D:=if hX xs&&xs.length<=255 then .ok (.lst (fs xs)) else .bad
def ee(xs:List D):R D:=if xs.all hV&&(gf xs).length<=255 then .ok (.lst (fs (gf xs))) else .bad
inductive Op where
 |add|sub|mul|fdiv|mod|and|xor|shl|shr
inductive iX where
 |eq|ne|lt|le|gt|ge|is|ki|mem|iI
abbrev jX(i j:Int):R D:=if 0<=i then(if 0<=j then .ok (.int (i.toNat &&& j.toNat:Nat)) else .ok (.int (i-(i.toNat &&& (-j-1).toNat:Nat)))) else .bad
abbrev om(i j:Int):R D:=if 0<=i/\0<=j then .ok (.int (i.toNat ^^^ j.toNat:Nat)) else .bad
def bK:Op->D->D->R D
 |.and,.int i,.int j=>jX i j
 |.xor,.int i,.int j=>om i j
 |.add,.int i,.int j=>.ok (.int (i+j))
 |.add,.tup xs,.tup ys=>if xs.length+ys.length<=SZ then .ok (.tup (xs++ys)) else .bad
 |.add,.lst xs,.lst ys=>if xs.length+ys.length<=SZ then .ok (.lst (xs++ys)) else .bad
 |.sub,.int i,.int j=>.ok (.int (i-j))
 |.shl,.int i,.int j=>if 0<=j/\j<=1000/\-dk<i/\i<dk then .ok (.int (i*2 ^ j.toNat)) else .bad
 |.shr,.int i,.int j=>if 0<=j then .ok (.int (i / 2 ^ j.toNat)) else .bad
 |.mul,.lst xs,.int j=>if 0<=j/\j<=1000/\xs.length<=1000 then .ok (.lst (V0 j.toNat xs).flatten) else .bad
 |.mul,.int i,.int j=>if (-dk<i/\i<dk)\/(-dk<j/\j<dk) then .ok (.int (i*j)) else .bad
 |.fdiv,.int i,.int j=>if 0<j/\j<1073741824 then .ok (.int (i / j)) else .bad
 |.mod,.int i,.int j=>if 0<j then .ok (.int (i%j)) else .bad
 |_,_,_=>.bad
abbrev fq:R Bool->R Bool
 |.ok b=>.ok (!b)
 |.exc c=>.exc c
 |.bad=>.bad
abbrev bR:Nat->D->Bool
 |_,.aW=>J
 |_,.ag _=>J
 |_,.int _=>J
 |_,.str x=>x.cps.all (· < 0x110000)
 |n+1,.tup xs=>xs.all (bR n)
 |n+1,.lst xs=>xs.all (bR n)
 |_,_=>VC
def dt(x y:D):R Bool:=if bR 60 x&&bR 60 y then .ok (d3 x y) else .bad
def memD(x:D)(xs:List D):Bool:=xs.any λy=>d3 y x
def fH(x:D)(ys:List D):R Bool:=if bR 60 x&&ys.all (bR 60) then .ok (memD x ys) else .bad
abbrev tZ:Option Bool->R Bool
 |some b=>.ok b
 |none=>.bad
def pM(x y:D):R Bool:=if (dY 0 x&&dY 0 y)||(dY 1 x&&dY 1 y) then tZ (js x y) else .bad
abbrev nx:D->Bool
 |.aW=>J
 |_=>VC
abbrev GN(b:Bool):D->Bool
 |.ag a=>a==b
 |_=>VC
def nv(x:D):D->R Bool
 |.aW=>.ok (nx x)
 |.ag b=>.ok (GN b x)
 |_=>.bad
def bZ:iX->D->D->R Bool
 |.eq,x,y=>dt x y
 |.ne,x,y=>fq (dt x y)
 |.lt,x,y=>pM x y
 |.le,.int i,.int j=>.ok (decide (i<=j))
 |.ge,.int i,.int j=>.ok (decide (j<=i))
 |.gt,.int i,.int j=>.ok (decide (j<i))
 |.is,x,y=>nv x y
 |.ki,x,y=>fq (nv x y)
 |.mem,x,.tup ys=>fH x ys
 |.mem,x,.lst ys=>fH x ys
 |.iI,x,.tup ys=>fq (fH x ys)
 |.iI,x,.lst ys=>fq (fH x ys)
 |_,_,_=>.bad
abbrev gG(n:Nat)(i:Int):Option Nat:=if 0<=i then(if i<n then Z i.toNat else Y) else(if 0<=i+n then Z (i+n).toNat else Y)
def hS{α:Type}(xs:List α)(i:Int):Option α:=(gG xs.length i).bind (xs[·]?)
abbrev fU:D->D->R D
 |.tup xs,.int i=>match hS xs i with|some d=>.ok d|none=>.bad
 |.lst xs,.int i=>match hS xs i with|some d=>.ok d|none=>.bad
 |_,_=>.bad
abbrev aP(n d:Nat):Option Int->Nat
 |none=>d
 |some i=>if i<0 then(if i+n<0 then 0 else(i+n).toNat) else(if (n:Int)<i then n else i.toNat)
def cut{α:Type}(xs:List α)(lo hi:Option Int):List α:=(xs.drop (aP xs.length 0 lo)).take (aP xs.length xs.length hi-aP xs.length 0 lo)
def hy(d:D)(lo hi:Option Int):R D:=match d with
 |.tup xs=>.ok (.tup (cut xs lo hi))
 |.lst xs=>.ok (.lst (cut xs lo hi))
 |_=>.bad
abbrev iF:D->R D
 |.tup xs=>.ok (.int xs.length)
 |.lst xs=>.ok (.int xs.length)
 |_=>.bad
inductive Ty where
 |int|bool|str|tuple|cls (c:Nat)
noncomputable abbrev hK:=Nat->List Nat
def hn(up:hK)(d:D):Ty->R Bool
 |.int=>.ok (match d with|.int _=>J|.ag _=>J|_=>VC)
 |.bool=>.ok (match d with|.ag _=>J|_=>VC)
 |.str=>.ok (match d with|.str _=>J|_=>VC)
 |.tuple=>.ok (match d with|.tup _=>J|_=>VC)
 |.cls c=>match d with|.d4 k=>.ok ((up k).contains c)|_=>.bad
abbrev cD:D->R (List D)
 |.tup xs=>.ok xs
 |.lst xs=>.ok xs
 |_=>.bad
def c6(lo hi:Int):List D:=(VR (hi-lo).toNat).map λk=>.int (lo+(k:Nat))
abbrev ky(i:Int):Bool:=decide (-4611686018427387904<=i/\i<4611686018427387904)
def gL(i j:Int):R (List D):=if ky i&&ky j&&decide ((j-i).toNat<=1000000) then .ok (c6 i j) else .bad
abbrev fO:Nat->List D->List D
 |_,[]=>[]
 |k,x::xs=>.tup [.int (k:Nat),x]::fO (k+1) xs
def oY:D->R (List D)
 |.lst xs=>.ok (fO 0 xs)
 |_=>.bad
def qO(xs ys:List D):List D:=xs.filter (λx=>!ys.any (d3 x))++ys.filter (λy=>!xs.any (d3 y))
def oo(xs ys:List D):R D:=if xs.all hV&&ys.all hV&&decide ((gf (xs++ys)).length<=75) then .ok (.lst (fs (gf (qO xs ys)))) else .bad
def kO(x y:D):R D:=cD x>>=λxs=>cD y>>=λys=>oo xs ys
inductive cL where
 |len|inst (t:Ty)|int|sorted|ee|sum|max
mutual
inductive E where
 |var (i:Nat)
 |lit (d:D)
 |tup (a:A)
 |lst (a:A)
 |bin (op:Op) (a b:E)
 |not (a:E)
 |neg (a:E)
 |cmp (op:iX) (a b:E)
 |mX (op op':iX) (a b c:E)
 |and (a b:E)
 |or (a b:E)
 |idx (a b:E)
 |slice (a:E) (lo hi:O)
 |call (f:Nat) (a:A)
 |prim (p:cL) (a:E)
 |tupI (s:I)
 |jr (s:I)
 |comp (elt:E) (k:Nat) (s:I) (c:O)
 |mi (a b:E)
 |lg (i:Nat)
 |min2 (a b:E)
 |eC (i j:Nat)
 |kk (i j:Nat)
 |la (i j:Nat)
 |m7
inductive A where
 |nil
 |cons (e:E) (a:A)
inductive O where
 |none
 |some (e:E)
inductive I where
 |seq (e:E)
 |dG (a:E)
 |mc (a b:E)
 |enum (a:E)
 |iw (i:Nat)
end
noncomputable abbrev aD:=List (Option D)
noncomputable abbrev dw:=Nat->List D->R D
abbrev dH:Nat->D->R (List (Option D))
 |0,d=>.ok [Z d]
 |k,.tup xs=>if xs.length=k then .ok (xs.map Z) else .bad
 |_,_=>.bad
abbrev bA(f:D->R (Option D)):List D->R (List D)
 |[]=>.ok []
 |d::ds=>f d>>=λo=>bA f ds>>=λr=>match o with|some x=>.ok (x::r)|none=>.ok r
def iH{α:Type}:R α->R α
 |.exc _=>.bad
 |r=>r
abbrev intsOf:List D->Option (List Int)
 |[]=>Z []
 |.int i::xs=>(intsOf xs).map (i::·)
 |_=>Y
abbrev lJ:D->R (List D)
 |.lst xs=>.ok xs
 |_=>.bad
def gR(xs:List D):R D:=match intsOf xs with
 |some ns=>.ok (.int ns.sum)
 |none=>.bad
def hY(xs:List D):R D:=match intsOf xs with
 |some (n::ns)=>.ok (.int (ns.foldl (λm x=>if x>m then x else m) n))
 |_=>.bad
def ht(up:hK):cL->D->R D
 |.len,d=>iF d
 |.sorted,d=>cD d>>=λxs=>sorted xs
 |.ee,d=>cD d>>=λxs=>ee xs
 |.sum,d=>lJ d>>=λxs=>gR xs
 |.max,d=>lJ d>>=λxs=>hY xs
 |.inst t,d=>hn up d t>>=λb=>.ok (.ag b)
 |.int,d=>(match d with|.ag b=>.ok (.int (if b then 1 else 0))|_=>.bad)
abbrev et(a:List (List Int×Int))(k:List Int):Option Int:=(a.find? λp=>decide (p.1=k)).map (·.2)
abbrev putN(a:List (List Int×Int))(k:List Int)(n:Int):List (List Int×Int):=if (a.any λp=>decide (p.1=k))=J then a.map (λp=>if p.1=k then(p.1,n) else p) else a++[(k,n)]
abbrev kz(r:Int×Int):D:=.tup [.int r.1,.int r.2]
abbrev jH(a:List (Int×Int×Int))(k:Int):Option (Int×Int):=(a.find? λp=>decide (p.1=k)).map (·.2)
abbrev iO(a:List (Int×Int×Int))(k:Int)(r:Int×Int):List (Int×Int×Int):=if (a.any λp=>decide (p.1=k))=J then a.map (λp=>if p.1=k then(p.1,r) else p) else a++[(k,r)]
abbrev fC:Option (Option D)->Option (List (List Int×Int))
 |some (Z (.aI a))=>Z a
 |_=>Y
abbrev gA:Option (Option D)->Option (List (Int×Int×Int))
 |some (Z (.aO a))=>Z a
 |_=>Y
def rowOf:D->Option (Int×Int)
 |.tup ds=>(match intsOf ds with|some [a,b]=>Z (a,b)|_=>Y)
 |_=>Y
abbrev intD:D->Option Int
 |.int i=>Z i
 |_=>Y
def eg:D->Option (List Int)
 |.tup ds=>intsOf ds
 |_=>Y
def dq{α:Type}(f:D->Option α):Option (Option D)->Option α
 |some (Z d)=>f d
 |_=>Y
def hO(o p:Option (Option D)):R D:=match fC o,dq eg p with
 |some a,Z k=>(match et a k with|some n=>.ok (.int n)|none=>.bad)
 |_,_=>(match gA o,dq intD p with|some a,Z k=>(match jH a k with|some r=>.ok (kz r)|none=>.bad)|_,_=>.bad)
def lb(o p:Option (Option D))(d:D):R D:=match fC o,dq eg p,intD d with
 |some a,Z k,Z n=>if a.length<1000 then .ok (.aI (putN a k n)) else .bad
 |_,_,_=>(match gA o,dq intD p,rowOf d with|some a,Z k,Z r=>if a.length<1000 then .ok (.aO (iO a k r)) else .bad|_,_,_=>.bad)
def m6(p q:Option (Option D)):R D:=match dq intD p,dq rowOf q with
 |some k,Z r=>.ok (.aO [(k,r)])
 |_,_=>.bad
def lh(o:Option (Option D)):R D:=match fC o with
 |some a=>sorted (a.map λp=>.tup (p.1.map .int))
 |none=>.bad
def mZ(o p:Option (Option D)):R D:=match fC o,dq eg p with
 |some a,Z k=>if a.length<1000 then .ok (.aI (putN a k ((et a k).getD 0+1))) else .bad
 |_,_=>.bad
def k9(o:Option (Option D)):R (List D):=match fC o with
 |some a=>.ok (a.map λp=>.tup (p.1.map .int))
 |none=>(match gA o with|some a=>.ok (a.map λp=>.int p.1)|none=>.bad)
def jG:List D->Option (List (List Int))
 |[]=>Z []
 |x::xs=>(match eg x,jG xs with|some k,Z a=>Z (k::a)|_,_=>Y)
def qF:D->Option (List (List Int))
 |.lst xs=>jG xs
 |_=>Y
def lG(o p:Option (Option D)):R D:=match dq qF o,dq eg p with
 |some a,Z k=>if k∈a/\a.length<=1000 then .ok (.int (a.idxOf k:Nat)) else .bad
 |_,_=>.bad
abbrev pL:Option (Option D)->R D
 |some (Z (.lst ds))=>.ok (.lst ds)
 |_=>.bad
abbrev mY:Option (Option D)->R D
 |some (Z (.aI a))=>.ok (.aI a)
 |some (Z (.aO a))=>.ok (.aO a)
 |_=>.bad
abbrev ez:D->R Bool
 |.ag b=>.ok b
 |_=>.bad
abbrev dB:D->R Int
 |.int i=>.ok i
 |_=>.bad
abbrev nh:Option (Option D)->R D
 |some (Z d)=>.ok d
 |_=>.bad
structure cT where
 up:hK
 cs:List D
section
variable(pg:cT)(Φ:dw)
mutual
noncomputable def ev (g:aD):E->R D
 |.var i=>nh g[i]?
 |.lit d=>.ok d
 |.tup a=>fE g a>>=λds=>.ok (.tup ds)
 |.lst a=>fE g a>>=λds=>.ok (.lst ds)
 |.bin op a b=>ev g a>>=λx=>ev g b>>=λy=>bK op x y
 |.neg a=>ev g a>>=λx=>dB x>>=λi=>.ok (.int (-i))
 |.not a=>ev g a>>=λx=>ez x>>=λb=>.ok (.ag (!b))
 |.cmp op a b=>ev g a>>=λx=>ev g b>>=λy=>bZ op x y>>=λc=>.ok (.ag c)
 |.mX op op' a b c=>ev g a>>=λx=>ev g b>>=λy=>bZ op x y>>=λk=>if k then ev g c>>=λz=>bZ op' y z>>=λn=>.ok (.ag n) else .ok (.ag VC)
 |.and a b=>ev g a>>=λx=>ez x>>=λk=>if k then ev g b else .ok (.ag VC)
 |.or a b=>ev g a>>=λx=>ez x>>=λk=>if k then .ok (.ag J) else ev g b
 |.lg i=>lh g[i]?
 |.min2 a b=>ev g a>>=λx=>dB x>>=λi=>ev g b>>=λy=>dB y>>=λj=>.ok (.int (if j<i then j else i))
 |.mi a b=>ev g a>>=λx=>ev g b>>=λy=>kO x y
 |.idx a b=>ev g a>>=λx=>ev g b>>=λy=>fU x y
 |.slice a lo hi=>ev g a>>=λx=>jf g lo>>=λl=>jf g hi>>=λh=>hy x l h
 |.call f a=>fE g a>>=λds=>Φ f ds
 |.prim p a=>ev g a>>=λx=>ht pg.up p x
 |.jr s=>eI g s>>=λds=>.ok (.lst ds)
 |.tupI s=>eI g s>>=λds=>.ok (.tup ds)
 |.eC i j=>hO g[i]? g[j]?
 |.kk i j=>lG g[i]? g[j]?
 |.la i j=>m6 g[i]? g[j]?
 |.m7=>.ok (.aO [])
 |.comp e k s c=>eI g s>>=λds=>iH (bA (λd=>dH k d>>=λm=>iz (g++m) c>>=λb=>if b then ev (g++m) e>>=λy=>.ok (Z y) else .ok Y) ds)>>=λys=>.ok (.lst ys)
noncomputable def fE (g:aD):A->R (List D)
 |.nil=>.ok []
 |.cons e a=>ev g e>>=λx=>fE g a>>=λxs=>.ok (x::xs)
noncomputable def jf (g:aD):O->R (Option Int)
 |.none=>.ok Y
 |.some e=>ev g e>>=λx=>dB x>>=λi=>.ok (Z i)
noncomputable def iz (g:aD):O->R Bool
 |.none=>.ok J
 |.some e=>ev g e>>=λx=>ez x
noncomputable def eI (g:aD):I->R (List D)
 |.seq e=>ev g e>>=λx=>cD x
 |.dG a=>ev g a>>=λx=>dB x>>=λi=>gL 0 i
 |.mc a b=>ev g a>>=λx=>dB x>>=λi=>ev g b>>=λy=>dB y>>=λj=>gL i j
 |.enum a=>ev g a>>=λx=>oY x
 |.iw i=>k9 g[i]?
end
end
structure eO where
 j:Nat
 i:Nat
 aS:List Nat
 k5:Nat
 ny:Nat
def pj(up:hK)(b:List Nat)(k5 a:Nat):Bool:=(up 1).contains k5&&((up 1).contains a&&!(b.map λk=>(up 1).contains k).any id)
mutual
inductive S where
 |asg (i:Nat) (e:E)
 |app (i:Nat) (e:E)
 |jd (i:Nat)
 |mb (i:Nat)
 |ma (i:Nat)
 |j8 (i:Nat)
 |ha (i j:Nat) (e:E)
 |stop
 |iv (i j:Nat)
 |raise (c:Nat)
 |expr (e:E)
 |kK (s:S) (k:Nat) (h:eO)
 |ext (i:Nat) (e:E)
 |ret (e:E)
 |iff (c:E) (a b:B)
 |dW (k:Nat) (ts:List Nat) (s:I) (b:B)
inductive B where
 |nil
 |cons (s:S) (b:B)
end
inductive cK where
 |aR (aa:aD)
 |bH (d:D)
abbrev gp:List Nat->List (Option D)->aD->aD
 |i::b,v::c,a=>gp b c (a.set i v)
 |_,_,a=>a
abbrev forL(f:D->aD->R cK):List D->aD->R cK
 |[],a=>.ok (.aR a)
 |d::ds,a=>f d a>>=λr=>match r with
  |.aR b=>forL f ds b
  |.bH x=>.ok (.bH x)
def gC(pg:cT)(c k:Nat)(h:eO):R cK:=if c==1&&((pg.up c).contains k&&pj pg.up h.aS h.k5 h.ny) then .ok (.bH (.ag J)) else .bad
abbrev Bq:R cK->(Nat->R cK)->R cK
 |.ok r,_=>.ok r
 |.exc c,f=>f c
 |.bad,_=>.bad
def mK:Option (Option D)->D->R D
 |some (Z (.lst xs)),d=>if xs.length<SZ then .ok (.lst (xs++[d])) else .bad
 |_,_=>.bad
def o4:Option (Option D)->D->R D
 |some (Z (.lst xs)),.lst ys=>if xs.length+ys.length<=SZ then .ok (.lst (xs++ys)) else .bad
 |some (Z (.lst xs)),.tup ys=>if xs.length+ys.length<=SZ then .ok (.lst (xs++ys)) else .bad
 |_,_=>.bad
abbrev i7:Option (Option D)->R Unit
 |some (Z (.lst _))=>.ok ()
 |_=>.bad
section
variable(pg:cT)(Φ:dw)
mutual
noncomputable def ex (f:aD):S->R cK
 |.asg i e=>ev pg Φ f e>>=λd=>.ok (.aR (f.set i (Z d)))
 |.app i e=>i7 f[i]?>>=λ_=>ev pg Φ f e>>=λd=>mK f[i]? d>>=λx=>.ok (.aR (f.set i (Z x)))
 |.ret e=>ev pg Φ f e>>=λd=>.ok (.bH d)
 |.mb i=>pL f[i]?>>=λd=>.ok (.bH d)
 |.ma i=>mY f[i]?>>=λd=>.ok (.bH d)
 |.jd i=>.ok (.aR (f.set i (Z (.aI []))))
 |.j8 i=>.ok (.aR (f.set i (Z (.aO []))))
 |.ha i j e=>ev pg Φ f e>>=λd=>lb f[i]? f[j]? d>>=λx=>.ok (.aR (f.set i (Z x)))
 |.stop=>.bad
 |.iv i j=>mZ f[i]? f[j]?>>=λx=>.ok (.aR (f.set i (Z x)))
 |.raise c=>.exc c
 |.expr e=>ev pg Φ f e>>=λ_=>.ok (.aR f)
 |.kK s k h=>Bq (ex f s) λc=>gC pg c k h
 |.ext i e=>i7 f[i]?>>=λ_=>ev pg Φ f e>>=λd=>o4 f[i]? d>>=λx=>.ok (.aR (f.set i (Z x)))
 |.iff c a b=>ev pg Φ f c>>=λx=>ez x>>=λk=>if k then c3 f a else c3 f b
 |.dW k ts s b=>eI pg Φ f s>>=λds=>forL (λd g=>dH k d>>=λl=>c3 (gp ts l g) b) ds f
noncomputable def c3 (f:aD):B->R cK
 |.nil=>.ok (.aR f)
 |.cons s b=>ex f s>>=λr=>match r with
  |.aR g=>c3 g b
  |.bH d=>.ok (.bH d)
end
end
structure i0 where
 np:Nat
 nl:Nat
 body:B
abbrev start(fd:i0)(ds:List D):aD:=ds.map Z++V0 fd.nl Y
abbrev j9:R cK->R D
 |.ok (.bH d)=>.ok d
 |.ok (.aR _)=>.ok .aW
 |.exc c=>.exc c
 |.bad=>.bad
def bq(pg:cT)(Φ:dw)(fd:i0)(ds:List D):R D:=if ds.length=fd.np then j9 (c3 pg Φ (start fd ds) fd.body) else .bad
def run(pg:cT)(fds:List i0):Nat->dw
 |0=>λ_ _=>.bad
 |n+1=>λf ds=>match fds[f]? with
  |some fd=>bq pg (run pg fds n) fd ds
  |none=>.bad
def nZ(pg:cT)(fds:List i0)(n f:Nat)(ds:List D):run pg fds (n+1) f ds=(match fds[f]? with|some fd=>bq pg (run pg fds n) fd ds|none=>.bad):=rfl
structure Gt where
 fns:List VT
 cls:List VT
 ni:List VT
structure bI where
 N:List VT
 sc:Xs
 ae:List Nat
abbrev gT(a:Xs)(x:VT):Bool:=a.names.lookup x==Z .local||a.names.lookup x==Z .cell||a.names.lookup x==Z .free
abbrev gJ(a:Xs)(x:VT):Bool:=a.names.lookup x==Z .local||a.names.lookup x==Z .cell
abbrev hU(a:Xs)(x:VT):Bool:=a.names.lookup x==Z .globalImplicit
abbrev okN(x:VT):Bool:=!(x==("__debug__":VT))&&!(x==("__classdict__":VT))&&!(x==("__name__":VT))
abbrev zf:Op->Operator->Bool
 |.add,.Add=>J|.sub,.Sub=>J|.mul,.Mult=>J|.fdiv,.FloorDiv=>J|.mod,.Mod=>J|.and,.BitAnd=>J|.xor,.BitXor=>J|.shl,.LShift=>J|.shr,.RShift=>J
 |_,_=>VC
def oR:iX->CmpOp->Bool
 |.mem,.In=>J|.iI,.NotIn=>J|.eq,.Eq=>J|.ne,.NotEq=>J|.lt,.Lt=>J|.le,.LtE=>J|.ge,.GtE=>J|.is,.Is=>J|.ki,.IsNot=>J|.gt,.Gt=>J 
 |_,_=>VC
abbrev litOk:D->Const->Bool
 |.aW,.none=>J
 |.ag a,.bool b=>a==b
 |.int i,.int j=>i==j
 |.str x,.str y=>x==y
 |_,_=>VC
abbrev tyName:Ty->VT
 |.int=>"int"|.bool=>"bool"|.str=>"str"|.tuple=>"tuple"|.cls _=>""
def nU:cL->VT
 |.len=>"len"|.sorted=>"sorted"|.sum=>"sum"|.max=>"max"|.int=>"int"|_=>""
def nV:cL->Bool
 |.len=>J|.sorted=>J|.sum=>J|.max=>J|.int=>J|_=>VC
abbrev nameOf:VY->Option VT
 |.Name x _=>Z x
 |_=>Y
def namesOf:List VY->Option (List VT)
 |[]=>Z []
 |e::a=>match nameOf e,namesOf a with|some x,Z xs=>Z (x::xs)|_,_=>Y
def dv:Nat->VY->Option (List VT)
 |0,.Name x _=>Z [x]
 |k+1,.Tuple a _ _=>match namesOf a with|some xs=>if xs.length=k+1 then Z xs else Y|none=>Y
 |_,_=>Y
abbrev mask(N xs:List VT):List Str:=N.map λn=>if xs.contains n then(((".":VT))++n) else n
abbrev jy:I->Bool
 |.enum _=>J
 |_=>VC
abbrev AE:I->Bool
 |.seq _=>J
 |_=>VC
abbrev AK:I->Bool
 |.seq _=>J
 |.dG _=>J
 |_=>VC
abbrev nJ:VY->Bool
 |.ListComp ..=>VC
 |_=>J
def cx(g:Gt)(a:Xs)(x:VT):Bool:=hU a x&&!(g.fns.contains x)&&!(g.cls.contains x)&&!(g.ni.contains x)
abbrev df:VY->Option VT
 |.Name x _=>Z x
 |_=>Y
abbrev mq:VY->Option Const
 |.Constant c _ _=>Z c
 |_=>Y
abbrev BG:VY->Option (List VY)
 |.Tuple a _ _=>Z a
 |_=>Y
abbrev vd:VY->Option (List VY)
 |.List a _=>Z a
 |_=>Y
abbrev qH:VY->Option (VY×Operator×VY)
 |.BinOp x o y _=>Z (x,o,y)
 |_=>Y
abbrev mr:VY->Option (UnaryOp×VY)
 |.UnaryOp o x _=>Z (o,x)
 |_=>Y
abbrev oh:VY->Option (VY×List CmpOp×List VY)
 |.Compare x os ys _=>Z (x,os,ys)
 |_=>Y
abbrev vBool:VY->Option (BoolOp×List VY×Xj)
 |.BoolOp o a p=>Z (o,a,p)
 |_=>Y
abbrev qJ:VY->Option (VY×VY)
 |.Subscript x y _=>Z (x,y)
 |_=>Y
abbrev BF:VY->Option (Option VY×Option VY×Option VY)
 |.Slice l h t _=>Z (l,h,t)
 |_=>Y
abbrev og:VY->Option (VY×List VY×List XD)
 |.Call f a b _=>Z (f,a,b)
 |_=>Y
def dP(x:VY):Option (VT×List VY):=match og x with
 |some (f,a,[])=>(match df f with|some y=>Z (y,a)|none=>Y)
 |_=>Y
abbrev u6:VY->Option (VY×VT×Xj)
 |.Attribute o n p=>Z (o,n,p)
 |_=>Y
abbrev BB:VY->Option (VY×List Comprehension×Xs)
 |.ListComp x a b _=>Z (x,a,b)
 |_=>Y
def tyB(g:Gt)(ct:bI)(n:VT):Ty->Bool
 |.cls c=>hU ct.sc n&&okN n&&(if c=1000 then n==("ValueError":VT)&&cx g ct.sc n else g.cls[c]?==Z n)
 |t=>n==tyName t&&cx g ct.sc n
def tyP(g:Gt)(ct:bI)(n:VT):Ty->Bool
 |.cls _=>VC
 |t=>n==tyName t&&cx g ct.sc n
def mu(g:Gt)(ct:bI)(x:VT)(t:Ty)(e y:VY):Option Expr:=match df y with
 |some n=>if x==("isinstance":VT)&&cx g ct.sc x&&tyP g ct n t then Z e else Y
 |none=>Y
def qK(g:Gt)(ct:bI)(x:VT)(e:VY):Option Expr:=match dP e with
 |some (y,[a])=>if x==("sorted":VT)&&cx g ct.sc x&&y==("set":VT)&&cx g ct.sc y then Z a else Y
 |_=>Y
def BM(g:Gt)(ct:bI)(x:VT)(p:cL)(a:List VY):Option Expr:=match p with
 |.ee=>(match a with|[e]=>qK g ct x e|_=>Y)
 |.inst t=>(match a with|[e,y]=>mu g ct x t e y|_=>Y)
 |p=>(match a with|[e]=>if nV p&&x==nU p&&cx g ct.sc x then Z e else Y|_=>Y)
def mR(ct:bI)(a:Xs)(xs:List VT):Bool:=decide (a.kind=.function)&&a.names.all (λy=>y.2 != .cell)&&a.names.all (λy=>y.2 != .local||a.names.lookup y.1==Z .local)
 && xs.all (λy=>a.names.lookup y==Z .local&&okN y)&&decide xs.Nodup&&a.names.all (λy=>y.2 != .local||xs.contains y.1||y.1==(".0":VT))
 && a.names.all (λy=>y.2 != .free||(ct.sc.names.lookup y.1==Z .cell||ct.sc.names.lookup y.1==Z .free))&&((mask ct.N xs).zip ct.N).all (λp=>p.1==p.2||a.names.lookup p.1==Y)&&decide (mask ct.N xs++xs).Nodup&&!((mask ct.N xs++xs).contains (".0":VT))
abbrev pE:VY->Bool
 |.Dict [] [] _=>J
 |_=>VC
abbrev vb:VY->Option (List (Option VY)×List VY)
 |.Dict a b _=>Z (a,b)
 |_=>Y
def va(z:VY):Option (VT×VT):=match vb z with
 |some ([Z a],[b])=>(match df a,df b with|some n,Z k=>Z (n,k)|_,_=>Y)
 |_=>Y
def mI(ct:bI)(i:Nat)(n:VT):Bool:=ct.N[i]?==Z n&&gT ct.sc n&&okN n
def vc(z:VY):Option (VT×VT×Xj):=match og z with
 |some (f,[k,o],[])=>(match u6 f with
  |some (d,n,a)=>(match df d,df k,mq o with|some x,Z y,Z (.int i)=>if n==("get":VT)&&i==0 then Z (x,y,a) else Y|_,_,_=>Y)
  |none=>Y)
 |_=>Y
def vf(z:VY):Option (VT×VT):=match dP z with
 |some (x,[e])=>(match df e with|some n=>Z (x,n)|none=>Y)
 |_=>Y
def kp(ct:bI)(i:Nat)(n:VT):Bool:=ct.N[i]?==Z n&&gT ct.sc n&&okN n&&ct.ae.contains i
def jz(ct:bI)(i:Nat)(n:VT):Bool:=ct.N[i]?==Z n&&gT ct.sc n&&okN n&&!ct.ae.contains i
def oi(z:VY):Option (VT×VT):=match qJ z with
 |some (x,y)=>(match df x,df y with|some n,Z k=>Z (n,k)|_,_=>Y)
 |none=>Y
def qG(z:VY):Option (VT×VT×Xj×VY):=match og z with
 |some (f,[y],[])=>(match u6 f with
  |some (o,n,a)=>(match df o with|some x=>Z (x,n,a,y)|none=>Y)
  |none=>Y)
 |_=>Y
abbrev isVar:E->Bool
 |.var _=>J
 |_=>VC
def vh(z:VY):Option (VT×VT×VY×VT×VY):=match dP z with
 |some (x,[e])=>(match qH e with
  |some (l,.BitXor,r)=>(match dP l,dP r with|some (y,[c]),Z (b,[a])=>Z (x,y,c,b,a)|_,_=>Y)
  |_=>Y)
 |_=>Y
section
variable(g:Gt)
mutual
noncomputable def bt (ct:bI) (v:Bool):E->VY->Bool
 |.var i,z=>(match df z with|some x=>ct.N[i]?==Z x&&gT ct.sc x&&okN x&&(v||!ct.ae.contains i)|none=>VC)
 |.lit d,z=>(match mq z with|some c=>litOk d c|none=>VC)
 |.tup a,z=>(match BG z with|some m=>i8 ct a m&&decide (m.length<=1000)|none=>VC)
 |.lst a,z=>(match vd z with|some m=>i8 ct a m&&decide (m.length<=1000)|none=>VC)
 |.bin op a b,z=>(match qH z with|some (x,o,y)=>zf op o&&bt ct J a x&&bt ct J b y|none=>VC)
 |.neg a,z=>(match mr z with|some (.USub,x)=>bt ct J a x|_=>VC)
 |.not a,z=>(match mr z with|some (.Not,x)=>bt ct J a x|_=>VC)
 |.cmp op a b,z=>(match oh z with|some (x,[o],[y])=>oR op o&&bt ct J a x&&bt ct J b y|_=>VC)
 |.mX op op' a b c,z=>(match oh z with|some (x,[o,K],[y,w])=>oR op o&&oR op' K&&bt ct J a x&&bt ct J b y&&bt ct J c w|_=>VC)
 |.and a b,z=>(match vBool z with|some (.And,[x,y],_)=>bt ct J a x&&bt ct v b y|some (.And,x::y::w::r,p)=>bt ct J a x&&bt ct v b (.BoolOp .And (y::w::r) p)|_=>VC)
 |.or a b,z=>(match vBool z with|some (.Or,[x,y],_)=>bt ct J a x&&bt ct v b y|some (.Or,x::y::w::r,p)=>bt ct J a x&&bt ct v b (.BoolOp .Or (y::w::r) p)|_=>VC)
 |.mi a b,z=>(match vh z with|some (x,y,c,L,C)=>x==("sorted":VT)&&cx g ct.sc x&&y==("set":VT)&&cx g ct.sc y&&L==("set":VT)&&isVar b&&bt ct J a c&&bt ct J b C|none=>VC)
 |.idx a b,z=>(match qJ z with|some (x,y)=>bt ct J a x&&bt ct J b y|none=>VC)
 |.slice a lo hi,z=>(match qJ z with|some (x,y)=>(match BF y with|some (l,h,Y)=>bt ct J a x&&mW ct lo l&&mW ct hi h|_=>VC)|none=>VC)
 |.call f a,z=>(match dP z with|some (x,m)=>g.fns[f]?==Z x&&hU ct.sc x&&okN x&&!m.isEmpty&&i8 ct a m|none=>VC)
 |.prim p a,z=>(match dP z with|some (x,m)=>(match BM g ct x p m with|some e=>bt ct J a e|none=>VC)|none=>VC)
 |.jr s,z=>(match dP z with|some (x,[e])=>x==("list":VT)&&cx g ct.sc x&&AE s&&gz ct J s e|_=>VC)
 |.tupI s,z=>(match dP z with|some (x,[e])=>x==("tuple":VT)&&cx g ct.sc x&&AK s&&gz ct J s e|_=>VC)
 |.comp e k s c,z=>(match BB z with
   |some (x,[⟨t,H,G,0⟩],q)=>(match dv k t with
    |some xs=>(!jy s||k==2)&&mR ct q xs&&gz ct J s H&&bt ⟨mask ct.N xs++xs,q,ct.ae⟩ VC e x&&j5 ⟨mask ct.N xs++xs,q,ct.ae⟩ c G
    |none=>VC)
   |_=>VC)
 |.eC i j,z=>(match oi z with|some (n,k)=>mI ct i n&&jz ct j k|none=>VC)
 |.kk i j,z=>(match qG z with|some (x,n,u,y)=>(match df y with|some k=>n==("index":VT)&&(u.endLine==z.pos.line)&&mI ct i x&&mI ct j k|none=>VC)|none=>VC)
 |.lg i,z=>(match vf z with|some (x,n)=>x==("sorted":VT)&&cx g ct.sc x&&kp ct i n|none=>VC)
 |.min2 a b,z=>(match dP z with|some (x,[y,w])=>x==("min":VT)&&cx g ct.sc x&&bt ct J a y&&bt ct J b w|_=>VC)
 |.la i j,z=>(match va z with|some (n,k)=>jz ct i n&&jz ct j k|none=>VC)
 |.m7,z=>pE z
noncomputable def i8 (ct:bI):A->List VY->Bool
 |.nil,[]=>J
 |.cons e a,x::xs=>bt ct VC e x&&i8 ct a xs
 |_,_=>VC
noncomputable def mW (ct:bI):O->Option VY->Bool
 |.none,Y=>J
 |.some e,Z x=>bt ct J e x
 |_,_=>VC
noncomputable def j5 (ct:bI):O->List VY->Bool
 |.none,[]=>J
 |.some e,[x]=>bt ct J e x
 |_,_=>VC
noncomputable def gz (ct:bI) (v:Bool):I->VY->Bool
 |.seq e,z=>bt ct v e z
 |.dG a,z=>(match dP z with|some (x,[y])=>x==("range":VT)&&cx g ct.sc x&&bt ct J a y|_=>VC)
 |.mc a b,z=>(match dP z with|some (x,[y,w])=>x==("range":VT)&&cx g ct.sc x&&bt ct J a y&&bt ct J b w|_=>VC)
 |.enum a,z=>(match dP z with|some (x,[y])=>x==("enumerate":VT)&&cx g ct.sc x&&bt ct v a y|_=>VC)
 |.iw i,z=>(match df z with|some n=>jz ct i n|none=>VC)
end
def hk:E->Bool
 |.lst _=>J
 |.comp ..=>J
 |.bin .add _ _=>J
 |.prim .sorted _=>J
 |.prim .ee _=>J
 |.mi _ _=>J
 |.jr _=>J
 |.lg _=>J
 |_=>VC
def k6(ct:bI):List Nat->List VT->Bool
 |[],[]=>J
 |i::a,x::xs=>ct.N[i]?==Z x&&gJ ct.sc x&&okN x&&!ct.ae.contains i&&k6 ct a xs
 |_,_=>VC
abbrev fJ:Wl->Option (List VY×VY)
 |.Assign ts y _=>Z (ts,y)
 |_=>Y
abbrev uU:Wl->Option VY
 |.Expr y _=>Z y
 |_=>Y
abbrev h9:Wl->Option (Option VY)
 |.Return y _=>Z y
 |_=>Y
abbrev n7:Wl->Option (VY×List Wl×List Wl)
 |.If t x y _=>Z (t,x,y)
 |_=>Y
abbrev n6:Wl->Option (VY×VY×List Wl×List Wl)
 |.For t a x y _=>Z (t,a,x,y)
 |_=>Y
abbrev Ba:Wl->Option VY
 |.Raise (Z y) Y _=>Z y
 |_=>Y
abbrev uY:Wl->Option (List Wl×List Y2×List Wl×List Wl)
 |.Try a h e f _=>Z (a,h,e,f)
 |_=>Y
abbrev OA:Y2->Option VY×Option VT×List Wl
 |.ExceptHandler t n b _=>(t,n,b)
def sb(ct:bI)(i:Nat)(e:E)(z:Wl):Bool:=match fJ z with
 |some ([t],y)=>(match df t with|some x=>ct.N[i]?==Z x&&gJ ct.sc x&&okN x&&(!ct.ae.contains i||hk e)&&bt g ct VC e y|none=>VC)
 |_=>VC
def oQ(ct:bI)(i:Nat)(e:E)(nm:VT)(z:Wl):Bool:=match uU z with
 |some c=>(match qG c with|some (x,n,a,y)=>(a.endLine==c.pos.line)&&ct.N[i]?==Z x&&gT ct.sc x&&okN x&&ct.ae.contains i&&n==nm&&bt g ct VC e y|none=>VC)
 |none=>VC
def k4(ct:bI)(i:Nat)(z:Wl):Bool:=match fJ z with
 |some ([t],y)=>(match df t with|some x=>ct.N[i]?==Z x&&gJ ct.sc x&&okN x&&ct.ae.contains i&&pE y|none=>VC)
 |_=>VC
def sf(ct:bI)(i j:Nat)(z:Wl):Bool:=match fJ z with
 |some ([t],v)=>(match oi t with
  |some (x,y)=>(match qH v with
   |some (c,.Add,b)=>(match vc c,mq b with|some (d,e,a),Z (.int n)=>n==1&&d==x&&e==y&&kp ct i x&&jz ct j y&&(a.endLine==c.pos.line)|_,_=>VC)
   |_=>VC)
  |none=>VC)
 |_=>VC
def sg(ct:bI)(i j:Nat)(e:E)(z:Wl):Bool:=match fJ z with
 |some ([t],v)=>(match oi t with|some (x,y)=>kp ct i x&&jz ct j y&&nJ v&&bt g ct VC e v|none=>VC)
 |_=>VC
def sk(ct:bI)(c:Nat)(z:Wl):Bool:=match Ba z with
 |some y=>(match dP y with
  |some (x,[a])=>(match mq a with|some (.str _)=>c==1&&g.cls[c]?==Z x&&hU ct.sc x&&okN x|_=>VC)
  |_=>VC)
 |none=>VC
def mV(ct:bI)(n:VT)(k:Nat)(z:VY):Bool:=match dP z with
 |some (x,[e,d])=>(match df e,df d with|some y,Z t=>x==("isinstance":VT)&&cx g ct.sc x&&y==n&&tyB g ct t (.cls k)&&(k==1000||decide (k<g.cls.length))|_,_=>VC)
 |_=>VC
def se(ct:bI)(k:Nat)(t:VY):Bool:=match df t with
 |some x=>g.cls[k]?==Z x&&hU ct.sc x&&okN x
 |none=>VC
def oP(ct:bI)(n:VT):List Nat->List VY->Bool
 |[],[]=>J
 |k::a,z::b=>mV g ct n k z&&oP ct n a b
 |_,_=>VC
def si(ct:bI)(j i:Nat)(n:VT)(a:List Nat)(k5 b:Nat)(d e:Wl):Bool:=match fJ d with
 |some ([h],l)=>(match df h with
  |some x=>(match vd l with
   |some p=>(match h9 e with
    |some (Z y)=>(match vBool y with
     |some (.And,[k,m,o],_)=>(match mr o with
      |some (.Not,w)=>(match dP w with
       |some (f,[c])=>ct.N[i]?==Z x&&ct.sc.names.lookup x==Z .local&&okN x&&i != j&&oP g ct n a p&&mV g ct n k5 k&&mV g ct n b m&&f==("any":VT)&&cx g ct.sc f&&df c==Z x&&decide (a.length<=1000)
       |_=>VC)
      |_=>VC)
     |_=>VC)
    |_=>VC)
   |none=>VC)
  |none=>VC)
 |_=>VC
def sj(ct:bI)(h:eO)(n:Option VT)(st:List Wl):Bool:=match n with
 |some n=>ct.N[h.j]?==Z n&&ct.sc.names.lookup n==Z .local&&okN n&&(match st with|[a,b]=>si g ct h.j h.i n h.aS h.k5 h.ny a b|_=>VC)
 |none=>VC
def wx(ct:bI)(k:Nat)(h:eO)(q:Option VY×Option VT×List Wl):Bool:=match q.1 with
 |some t=>se g ct k t&&sj g ct h q.2.1 q.2.2
 |none=>VC
def oO(ct:bI)(e:E)(z:Wl):Bool:=match uU z with
 |some y=>nJ y&&bt g ct J e y
 |none=>VC
def sm(ct:bI)(s:S)(z:Wl):Bool:=match s with
 |.expr e=>oO g ct e z
 |_=>VC
def so(ct:bI)(s:S)(k:Nat)(h:eO)(z:Wl):Bool:=match uY z with
 |some ([a],[b],[],[])=>sm g ct s a&&decide (k<2)&&wx g ct k h (OA b)
 |_=>VC
abbrev u5:B->Option (Nat×E×B)
 |.cons (.asg i e) b=>Z (i,e,b)
 |_=>Y
abbrev GP:B->Bool
 |.nil=>J
 |_=>VC
abbrev BD:B->Option (E×B)
 |.cons (.iff c a .nil) .nil=>Z (c,a)
 |_=>Y
def v1:List Wl->Option Wl
 |[st]=>Z st
 |_=>Y
def sa(ct:bI)(i:Nat)(e:E)(z:Wl):Bool:=match fJ z with
 |some ([t],y)=>(match df t with|some x=>ct.N[i]?==Z x&&gJ ct.sc x&&!ct.ae.contains i&&nJ y&&bt g ct VC e y|none=>VC)
 |_=>VC
def mU(ct:bI):List Wl->B->Bool
 |[],b=>GP b
 |z::c,b=>(match u5 b with|some (i,e,a)=>sa g ct i e z&&mU ct c a|none=>VC)
def sh(ct:bI)(b:B)(d:List Wl):Bool:=mU g ct d b||(match BD b,v1 d with
 |some (c,a),Z z=>(match n7 z with|some (t,x,[])=>bt g ct J c t&&mU g ct x a|_=>VC)
 |_,_=>VC)
mutual
noncomputable def sl (ct:bI):S->Wl->Bool
 |.asg i e,z=>sb g ct i e z
 |.app i e,z=>oQ g ct i e "append" z
 |.ret e,z=>(match h9 z with|some (Z y)=>bt g ct VC e y|_=>VC)
 |.mb i,z=>(match h9 z with|some (Z y)=>(match df y with|some x=>kp ct i x|none=>VC)|_=>VC)
 |.ma i,z=>(match h9 z with|some (Z y)=>(match df y with|some x=>kp ct i x|none=>VC)|_=>VC)
 |.iff c a b,z=>(match n7 z with|some (t,x,y)=>bt g ct J c t&&hM ct a x&&hM ct b y|none=>VC)
 |.dW k ts s b,z=>(match n6 z with|some (t,d,x,[])=>(match dv k t with|some xs=>(!jy s||k==2)&&k6 ct ts xs&&decide ts.Nodup&&((gz g ct VC s d&&hM ct b x)||(gz g ct J s d&&sh g ct b x))|none=>VC)|_=>VC)
 |.jd i,z=>k4 ct i z
 |.j8 i,z=>k4 ct i z
 |.ha i j e,z=>sg g ct i j e z
 |.stop,_=>J
 |.iv i j,z=>sf ct i j z
 |.raise c,z=>sk g ct c z
 |.expr e,z=>oO g ct e z
 |.kK s k h,z=>so g ct s k h z
 |.ext i e,z=>oQ g ct i e "extend" z
noncomputable def hM (ct:bI):B->List Wl->Bool
 |.nil,[]=>J
 |.cons s b,x::xs=>sl ct s x&&hM ct b xs
 |_,_=>VC
end
mutual
noncomputable def IT:S->List Nat
 |.app j _=>[j]
 |.jd j=>[j]
 |.j8 j=>[j]
 |.iv j _=>[j]
 |.ha j _ _=>[j]
 |.ext j _=>[j]
 |.iff _ a b=>h1 a++h1 b
 |.dW _ _ _ b=>h1 b
 |_=>[]
noncomputable def h1:B->List Nat
 |.nil=>[]
 |.cons s b=>IT s++h1 b
end
def i9(N:List VT)(fd:i0):Wl->Bool
 |.FunctionDef name args body [] Y [] a Y bind _ =>
   decide (a.kind=.function)&&!a.isCoroutine&&!a.isGenerator&&decide N.Nodup&&N.length==fd.np+fd.nl
   && (args.args.map (·.arg))==N.take fd.np&&args.posonlyargs.isEmpty&&args.vararg.isNone&&args.kwonlyargs.isEmpty&&args.kwarg.isNone&&args.defaults.isEmpty&&args.kw_defaults.isEmpty
   && (N.take fd.np).all (λx=>gJ a x)&&a.names.all (λy=>y.2 != .free)
   && (h1 fd.body).all (λi=>decide (fd.np<=i)&&decide (i<N.length))&&hM g ⟨N,a,h1 fd.body⟩ fd.body body
 |_=>VC
end
end ζ
end
local macro_rules|`({$x:term})=>`(.cons $x .nil)|`({$x:term,$y:term,*})=>`(.cons $x ({$y:term,*}))
local macro_rules(kind:=scientific)|`($n:scientific)=>match n.getScientific with|(m,_,0)=>`(.var $(Lean.quote m))|(m,_,_)=>`(.lit (.int $(Lean.quote m)))
section
namespace aj
open PySem ζ
abbrev r2 :B:={.ret (.tupI (.seq (.mi 0e0 1e0)))}
def r1 :B:={.ret (.comp (.bin .add (.slice 0e0 .none (.some 1e0)) (.slice 0e0 (.some (.bin .add 1e0 1e1)) .none)) 0 (.dG (.prim .len 0e0)) (.some (.cmp .gt (.prim .len 0e0) 1e1)))}
abbrev rZ(b a:Nat):B:={.asg 1 (.tup .nil),.dW 0 [2] (.seq 0e0) {.asg 1 (.call b {1e0,.call a {2e0}})},.ret 1e0}
abbrev rA(a:Nat):B:={.ret (.cmp .eq (.call a {0e0}) (.tup .nil))}
abbrev rv :B:={.asg 1 (.lst .nil),.dW 0 [2] (.seq 0e0) {.asg 1 (.bin .add (.bin .add 1e0 (.lst {.tup {2e0}})) (.comp (.bin .add 3e0 (.tup {2e0})) 0 (.seq 1e0) .none))},.ret 1e0}
def ry(a:Nat):B:={.asg 1 (.lst .nil),.dW 0 [2] (.seq (.idx 0e0 1e1)) {.ext 1 (.call a {2e0})},.ret (.prim .ee 1e0)}
def ru(a:Nat):B:={.ret (.tupI (.seq (.comp 2e0 0 (.seq (.call a {0e0})) (.some (.cmp .eq (.bin .sub (.prim .len 2e0) 1e1) 1e0)))))}
abbrev rX(a:Nat):B:={.jd 2,.asg 3 1e1,.dW 0 [4] (.seq (.call a {0e0,1e0})) {.ha 2 4 3e0,.asg 3 (.bin .mul 3e0 2e1)},.ma 2}
abbrev mM :B:={.ret (.prim .sum (.comp (.eC 1 2) 0 (.seq 0e0) .none))}
abbrev rx :B:={.ret (.tupI (.seq (.comp 2e0 0 (.iw 1) (.some (.cmp .ne (.bin .and 0e0 (.eC 1 2)) 0e1)))))}
abbrev r0(b c a:Nat):B:={.asg 2 (.call a {0e0,.bin .sub 1e0 1e1}),.asg 3 (.call a {0e0,1e0}),.ret (.comp (.tup {.call b {.call c {4e0},2e0},.eC 3 4}) 0 (.iw 3) .none)}
abbrev r3 :B:={.ret (.tup {.bin .xor (.idx 0e0 0e1) (.idx 1e0 0e1),.bin .xor (.idx 0e0 1e1) (.idx 1e0 1e1)})}
abbrev rY(a:Nat):B:={.dW 0 [2] (.iw 1) {.iff (.cmp .ne (.bin .and (.idx 0e0 0e1) 2e0) 0e1) {.asg 0 (.call a {0e0,.eC 1 2})} .nil},.ret 0e0}
abbrev rW :B:={.ret (.bin .and 0e0 (.neg 0e0))}
abbrev oL(a b:Nat):B:={.asg 2 (.call a {1e0,0e0}),.iff (.cmp .eq (.idx 2e0 0e1) 0e1) {.ret 0e0} .nil,.asg 3 (.call b {.idx 2e0 0e1}),.j8 4,.dW 0 [5] (.iw 0) {.ha 4 5 (.call a {.eC 0 5,.la 3 2})},.ha 4 3 2e0,.ma 4}
abbrev rt(a:Nat):B:={.asg 1 .m7,.dW 0 [2] (.seq 0e0) {.asg 1 (.call a {1e0,2e0})},.ret 1e0}
abbrev rz(a:Nat):B:={.ret (.cmp .eq 1e0 (.tupI (.seq (.comp 3e0 0 (.seq (.call a {0e0,2e0})) (.some (.cmp .mem 3e0 1e0))))))}
abbrev rB(b a:Nat):B:={.ret (.and (.call a {0e0,1e0,2e0}) (.call b {1e0}))}
abbrev mO(d a f b g c e:Nat):B:={.iff (.not (.call e {0e0,1e0,2e0})) {.ret (.lit .aW)} .nil,.asg 3 (.call c {1e0,.call a {0e0,2e0}}),.asg 4 (.call f {.tup {3e0,0e1},.call b {.call g {0e0,.bin .add 2e0 1e1}}}),.iff (.cmp .ne (.idx 4e0 0e1) 0e1) {.ret (.lit .aW)} .nil,.ret (.call d {.idx 4e0 1e1,.call a {0e0,.bin .add 2e0 1e1}})}
abbrev j2(d f h c b i g e a:Nat):B:={.iff (.not (.call e {0e0,1e0,2e0})) {.raise a} .nil,.asg 3 (.call g {0e0,2e0}),.asg 4 (.call b {.call i {0e0,.bin .add 2e0 1e1}}),.asg 5 (.call h {.tup {.call c {1e0,3e0},0e1},4e0}),.iff (.cmp .eq (.idx 5e0 0e1) 0e1) {.ret (.lit .aW)} .nil,.asg 6 (.call f {.idx 5e0 0e1}),.ret (.call d {.bin .add 6e0 (.prim .sum (.comp 7e0 0 (.iw 4) (.some (.cmp .ne (.bin .and (.idx (.eC 4 7) 0e1) 6e0) 0e1)))),3e0})}
def rD :B:={.iff (.cmp .lt 1e0 (.prim .len 0e0)) {.ret (.idx 0e0 1e0)} .nil,.ret 0e1}
abbrev rM(a:Nat):B:={.asg 2 (.bin .mod (.bin .mul (.bin .add (.bin .add (.call a {0e0,1e0}) (.bin .mul 7919e1 1e0)) 1e1) 48271e1) 2147483647e1),.ret (.bin .mod (.bin .add (.bin .add (.bin .mul 2e0 2e0) (.bin .mul 7e1 2e0)) 1e0) 2147483629e1)}
abbrev rG :B:={.asg 2 (.bin .mod (.bin .mul (.bin .add (.bin .add 0e0 (.bin .mul 104729e1 1e0)) 17e1) 69621e1) 2147483647e1),.ret (.bin .mod (.bin .add (.bin .add (.bin .mul 2e0 2e0) (.bin .mul 3e1 2e0)) 1e0) 2147483629e1)}
abbrev rL :B:={.ret (.cmp .eq (.comp 2e0 0 (.seq 0e0) (.some (.cmp .iI 2e0 1e0))) (.lst .nil))}
def rV(a:Nat):B:={.asg 1 (.lst .nil),.dW 0 [2] (.seq (.prim .ee 0e0)) {.iff (.cmp .eq (.comp 3e0 0 (.seq 0e0) (.some (.and (.cmp .ne 2e0 3e0) (.call a {2e0,3e0})))) (.lst .nil)) {.app 1 2e0} .nil},.ret (.tupI (.seq 1e0))}
abbrev kX(a:Nat):B:={.iff (.cmp .eq 1e0 0e1) {.ret (.lst {.tup .nil})} .nil,.asg 2 (.lst .nil),.dW 0 [3] (.dG (.prim .len 0e0)) {.asg 2 (.bin .add 2e0 (.comp (.bin .add (.tup {.idx 0e0 3e0}) 4e0) 0 (.seq (.call a {.slice 0e0 (.some (.bin .add 3e0 1e1)) .none,.bin .sub 1e0 1e1})) .none))},.ret 2e0}
abbrev rU(a:Nat):B:={.asg 2 (.comp (.tup {6e0}) 0 (.dG 1e0) .none),.dW 0 [3] (.dG (.bin .mod 0e0 9e1)) {.asg 4 (.call a {0e0,3e0}),.asg 5 (.tupI (.seq (.comp 6e0 0 (.dG 1e0) (.some (.cmp .lt (.bin .mod (.call a {4e0,6e0}) 5e1) (.bin .add 2e1 (.bin .mod 4e0 2e1))))))),.iff (.cmp .ne 5e0 (.tup .nil)) {.app 2 5e0} .nil},.mb 2}
abbrev rN(c a b:Nat):B:={.asg 2 (.bin .add 1e1 (.bin .mod 0e0 1e0)),.asg 3 (.bin .mod (.bin .fdiv 0e0 12e1) 8e1),.iff (.cmp .eq 3e0 0e1) {.asg 4 (.call a {.tupI (.dG 2e0),.bin .add 1e1 (.bin .mod (.bin .fdiv 0e0 96e1) 2e0)})} {.iff (.and (.cmp .eq 3e0 1e1) (.cmp .gt 1e0 5e1)) {.asg 2 6e1,.asg 4 (.comp (.tup {0e1,.bin .add 1e1 5e0,.bin .add 1e1 (.bin .mod (.bin .add 5e0 1e1) 5e1)}) 0 (.dG 5e1) .none),.asg 4 (.bin .add 4e0 (.comp (.tup {.bin .add 1e1 5e0,.bin .add 1e1 (.bin .mod (.bin .add 5e0 1e1) 5e1),.bin .add 1e1 (.bin .mod (.bin .add 5e0 3e1) 5e1)}) 0 (.dG 5e1) .none))} {.iff (.and (.cmp .eq 3e0 2e1) (.cmp .gt 1e0 6e1)) {.asg 2 7e1,.asg 4 (.comp (.tup {5e0,.bin .mod (.bin .add 5e0 1e1) 7e1,.bin .mod (.bin .add 5e0 3e1) 7e1}) 0 (.dG 7e1) .none),.asg 4 (.bin .add 4e0 (.comp (.tup {5e0,.bin .mod (.bin .add 5e0 2e1) 7e1,.bin .mod (.bin .add 5e0 3e1) 7e1}) 0 (.dG 7e1) .none))} {.asg 4 (.call b {.bin .fdiv 0e0 96e1,2e0})}}},.ret (.tup {2e0,.call c {.comp (.tupI (.seq (.prim .sorted 5e0))) 0 (.seq 4e0) .none}})}
def rE(a:Nat):B:={.asg 2 (.lst .nil),.dW 0 [3] (.seq (.idx 0e0 1e1)) {.asg 2 (.bin .add 2e0 (.call a {3e0,.bin .add 1e0 1e1}))},.ret (.prim .ee 2e0)}
def rI :B:={.ret (.prim .max (.comp (.prim .len 1e0) 0 (.seq (.idx 0e0 1e1)) .none))}
abbrev rO :B:={.ret (.and (.prim (.inst .int) 0e0) (.and (.not (.prim (.inst .bool) 0e0)) (.mX .le .le 1e0 0e0 2e0)))}
abbrev rJ(a:Nat):B:={.iff (.or (.not (.prim (.inst .tuple) 0e0)) (.cmp .eq 0e0 (.tup .nil))) {.ret (.lit (.ag VC))} .nil,.iff (.cmp .ne (.comp 2e0 0 (.seq 0e0) (.some (.not (.call a {2e0,0e1,.bin .sub 1e0 1e1})))) (.lst .nil)) {.ret (.lit (.ag VC))} .nil,.ret (.cmp .eq (.comp 2e0 0 (.mc 1e1 (.prim .len 0e0)) (.some (.cmp .ge (.idx 0e0 (.bin .sub 2e0 1e1)) (.idx 0e0 2e0)))) (.lst .nil))}
abbrev rK(a b:Nat):B:={.iff (.or (.not (.prim (.inst .tuple) 0e0)) (.cmp .ne (.comp 3e0 0 (.seq 0e0) (.some (.not (.call b {3e0,.idx 1e0 0e1})))) (.lst .nil))) {.ret (.lit (.ag VC))} .nil,.ret (.cmp .eq (.jr (.seq 0e0)) (.comp 3e0 0 (.seq (.call a {1e0,2e0})) (.some (.cmp .mem 3e0 0e0))))}
abbrev rR :B:={.jd 1,.dW 0 [2] (.seq 0e0) {.dW 0 [3] (.dG (.bin .mul (.prim .len 2e0) (.prim .int (.cmp .gt (.prim .len 2e0) 1e1)))) {.asg 4 (.bin .add (.slice 2e0 .none (.some 3e0)) (.slice 2e0 (.some (.bin .add 3e0 1e1)) .none)),.iv 1 4}},.ret (.tupI (.seq (.comp 5e0 0 (.seq (.lg 1)) (.some (.cmp .eq (.bin .mod (.eC 1 5) 2e1) 1e1)))))}
abbrev mP(b a:Nat):B:={.asg 2 (.call a {0e0,1e0}),.iff (.cmp .eq 1e0 0e1) {.ret (.bin .mul (.lst {0e1}) (.prim .len 2e0))} .nil,.asg 3 (.call a {0e0,.bin .sub 1e0 1e1}),.ret (.comp (.prim .sum (.comp (.bin .shl 1e1 (.kk 3 5)) 0 (.seq (.call b {4e0,1e0})) .none)) 0 (.seq 2e0) .none)}
abbrev rT(a:Nat):B:={.asg 2 (.lst .nil),.asg 3 (.lst .nil),.dW 2 [4,5] (.enum (.call a {0e0,1e0})) {.asg 6 5e0,.asg 7 (.bin .shl 1e1 4e0),.dW 2 [8,9] (.seq 2e0) {.iff (.cmp .lt (.bin .xor 6e0 8e0) 6e0) {.asg 6 (.bin .xor 6e0 8e0),.asg 7 (.bin .xor 7e0 9e0)} .nil},.iff (.cmp .gt 6e0 0e1) {.app 2 (.tup {6e0,7e0})} {.app 3 7e0}},.mb 3}
abbrev rF :B:={.ret (.tupI (.seq (.comp 3e0 2 (.enum 1e0) (.some (.cmp .eq (.bin .and (.bin .shr 0e0 2e0) 1e1) 1e1)))))}
abbrev rS(b a d c:Nat):B:={.asg 3 0e1,.dW 2 [4,5] (.enum (.call d {0e0,1e0})) {.iff (.cmp .eq (.bin .mod (.call c {2e0,4e0}) 2e1) 1e1) {.asg 3 (.bin .xor 3e0 5e0)} .nil},.ret (.call b {3e0,.call a {0e0,1e0}})}
abbrev rH(b a:Nat):B:={.asg 3 (.call a {0e0,1e0}),.ret (.tupI (.seq (.comp 5e0 2 (.enum 3e0) (.some (.cmp .eq (.bin .mod (.call b {2e0,4e0}) 3e1) 0e1)))))}
abbrev rQ(g d e b f c a:Nat):B:={.kK (.expr (.call g {0e0,1e0,2e0})) d ⟨3,4,[e,b,f,c],a,1000⟩,.ret (.lit (.ag VC))}
def rP :B:={.ret (.cmp .eq (.bin .mod (.prim .len (.comp 2e0 0 (.seq 0e0) (.some (.cmp .mem 2e0 1e0)))) 2e1) 1e1)}
abbrev rC(g d b c f k e a h l i j:Nat):B:={.asg 1 (.call j {.call a {0e0,0e1},.bin .add 6e1 (.bin .mul 2e1 (.prim .int (.cmp .eq (.bin .mod (.bin .fdiv (.call a {0e0,0e1}) 5e1) 4e1) 1e1)))}),.asg 2 (.bin .mod (.call a {0e0,1e1}) (.min2 8e1 (.bin .add (.call i {1e0}) 1e1))),.asg 3 (.call l {1e0,2e0,.call a {0e0,2e1}}),.iff (.cmp .eq (.bin .mod (.call a {0e0,3e1}) 5e1) 1e1) {.asg 3 (.call h {1e0,2e0,.call a {0e0,4e1}})} .nil,.asg 4 (.call e {1e0,3e0,2e0}),.iff (.cmp .ne (.call b {3e0}) (.tup .nil)) {.ret (.and (.cmp .is 4e0 (.lit .aW)) (.call k {1e0,3e0,2e0}))} .nil,.asg 5 (.call f {1e0,3e0,2e0}),.iff (.cmp .ki 4e0 (.lit .aW)) {.ret (.and (.cmp .is 5e0 (.lit .aW)) (.and (.call c {4e0,1e0,.bin .add 2e0 1e1}) (.cmp .eq (.call b {4e0}) 3e0)))} .nil,.iff (.or (.cmp .is 5e0 (.lit .aW)) (.or (.not (.call c {5e0,1e0,2e0})) (.not (.call d {5e0,3e0})))) {.ret (.lit (.ag VC))} .nil,.ret (.cmp .eq (.comp 6e0 0 (.seq (.call g {1e0,.bin .add 2e0 1e1})) (.some (.call d {5e0,.call b {.tup {6e0}}}))) (.lst .nil))}
end aj
end
section
namespace dp
open PySem ζ
abbrev fds:List i0:=[
 ⟨2,0,aj.r2⟩,
 ⟨1,0,aj.r1⟩,
 ⟨1,2,aj.rZ 0 1⟩,
 ⟨1,0,aj.rA 2⟩,
 ⟨1,2,aj.rv⟩,
 ⟨1,2,aj.ry 4⟩,
 ⟨2,0,aj.ru 5⟩,
 ⟨2,3,aj.rX 6⟩,
 ⟨2,0,aj.mM⟩,
 ⟨2,0,aj.rx⟩,
 ⟨2,2,aj.r0 8 1 7⟩,
 ⟨2,0,aj.r3⟩,
 ⟨2,1,aj.rY 11⟩,
 ⟨1,0,aj.rW⟩,
 ⟨2,4,aj.oL 12 13⟩,
 ⟨1,2,aj.rt 14⟩,
 ⟨3,0,aj.rz 6⟩,
 ⟨3,0,aj.rB 3 16⟩,
 ⟨3,2,aj.mO 9 7 12 15 10 8 16⟩,
 ⟨3,4,aj.j2 9 13 12 8 15 10 7 17 1⟩,
 ⟨2,0,aj.rD⟩,
 ⟨2,1,aj.rM 20⟩,
 ⟨2,1,aj.rG⟩,
 ⟨2,0,aj.rL⟩,
 ⟨1,2,aj.rV 23⟩,
 ⟨2,2,aj.kX 25⟩,
 ⟨2,4,aj.rU 22⟩,
 ⟨2,3,aj.rN 24 25 26⟩,
 ⟨2,2,aj.rE 25⟩,
 ⟨1,0,aj.rI⟩,
 ⟨3,0,aj.rO⟩,
 ⟨2,0,aj.rJ 30⟩,
 ⟨3,0,aj.rK 28 31⟩,
 ⟨1,4,aj.rR⟩,
 ⟨2,2,aj.mP 25 28⟩,
 ⟨2,8,aj.rT 34⟩,
 ⟨2,0,aj.rF⟩,
 ⟨3,3,aj.rS 36 28 35 22⟩,
 ⟨3,1,aj.rH 22 28⟩,
 ⟨3,2,aj.rQ 19 1 3 2 4 5 0⟩,
 ⟨2,0,aj.rP⟩,
 ⟨1,5,aj.rC 28 40 33 32 19 39 18 21 38 37 29 27⟩]
abbrev cs:List D:=[]
abbrev up:hK:=λc=>match c with|0=>[0,1000]|1=>[1,0,1000]|2=>[2,0,1000]|3=>[3,0,1000]|4=>[4,0,1000]|5=>[5,0,1000]|_=>[]
def pg:cT:=⟨up,cs⟩
abbrev y5:List (List VT):=[
 (["one","other"]:List VT),
 (["cell"]:List VT),
 (["chain","found","cell"]:List VT),
 (["chain"]:List VT),
 (["top","found","corner"]:List VT),
 (["net","found","top"]:List VT),
 (["net","height"]:List VT),
 (["net","height","found","bit","cell"]:List VT),
 (["chain","marked"]:List VT),
 (["bits","marked"]:List VT),
 (["net","height","lower","own"]:List VT),
 (["one","other"]:List VT),
 (["row","basis","pivot"]:List VT),
 (["bits"]:List VT),
 (["basis","row","left","pivot","wider","other"]:List VT),
 (["rows","basis","row"]:List VT),
 (["net","chain","height"]:List VT),
 (["net","chain","height"]:List VT),
 (["net","chain","height","bits","left"]:List VT),
 (["net","chain","height","marked","basis","left","odd"]:List VT),
 (["_law_script","_law_k"]:List VT),
 (["_law_script","_law_k","_law_drawn_here"]:List VT),
 (["_law_number_here","_law_k","_law_drawn_here"]:List VT),
 (["_law_cell","_law_other"]:List VT),
 (["_law_some_here","_law_found","_law_cell"]:List VT),
 (["_law_cell","_law_size","_law_found","_law_at"]:List VT),
 (["_law_number_here","_law_many","_law_found","_law_k","_law_drawn_here","_law_cell"]:List VT),
 (["_law_number_here","_law_most","_law_many","_law_kind","_law_some_here"]:List VT),
 (["_law_net_here","_law_height","_law_found","_law_top"]:List VT),
 (["_law_net_here"]:List VT),
 (["_law_thing","_law_low","_law_high_here"]:List VT),
 (["_law_thing","_law_many"]:List VT),
 (["_law_thing","_law_net_here","_law_height"]:List VT),
 (["_law_chain_here","_law_counts","_law_cell","_law_at","_law_part"]:List VT),
 (["_law_net_here","_law_height","_law_some_here","_law_lower"]:List VT),
 (["_law_net_here","_law_height","_law_basis","_law_found","_law_at","_law_one","_law_left","_law_made","_law_other","_law_its"]:List VT),
 (["_law_bits","_law_every"]:List VT),
 (["_law_net_here","_law_height","_law_number_here","_law_bits","_law_k","_law_one"]:List VT),
 (["_law_net_here","_law_height","_law_number_here","_law_some_here"]:List VT),
 (["_law_net_here","_law_chain_here","_law_height","e","_law_some_here"]:List VT),
 (["_law_one","_law_other"]:List VT),
 (["_law_script","_law_net_here","_law_height","_law_chain_here","_law_found","_law_other"]:List VT)]
abbrev gt:Gt:=⟨[("sum_of":VT),("sides":VT),("rim":VT),("is_round":VT),("cells_within":VT),("every_cell":VT),("cells_of_height":VT),("marks":VT),("bits_of":VT),("chain_of":VT),("rim_rows":VT),("sum_of_rows":VT),("reduced":VT),("lowest_bit":VT),("grown":VT),("basis_of":VT),("is_chain_of":VT),("is_round_of":VT),("filling":VT),("witness":VT),("_law_cell_at":VT),("_law_mixed":VT),("_law_drawn":VT),("_law_lies":VT),("_law_tops":VT),("_law_parts":VT),("_law_some":VT),("_law_net":VT),("_law_cells":VT),("_law_high":VT),("_law_number":VT),("_law_is_cell":VT),("_law_is_chain":VT),("_law_rim":VT),("_law_columns":VT),("_law_rounds":VT),("_law_chain":VT),("_law_round":VT),("_law_drawn_chain":VT),("_law_refused":VT),("_law_odd_in":VT),("law":VT)],["HoleError","NoRound","NoNet","NoText","NotFree","NoRoom"],[]⟩
end dp
end
section
namespace ζ
section
variable{pg:cT}{Φ:dw}{aa:aD}
def ri(pg:cT)(Φ:dw)(aa:aD)(r:R D)(b:E):R D:=r>>=λx=>ez x>>=λk=>if k then ev pg Φ aa b else .ok (.ag VC)
def qk(pg:cT)(Φ:dw)(r:R cK)(b:B):R cK:=r>>=λx=>match x with
 |.aR a=>c3 pg Φ a b
 |.bH d=>.ok (.bH d)
def tm(pg:cT)(Φ:dw)(aa:aD)(r:R D)(a b:B):R cK:=r>>=λx=>ez x>>=λk=>if k then c3 pg Φ aa a else c3 pg Φ aa b
def turn(pg:cT)(Φ:dw)(k:Nat)(ts:List Nat)(b:B)(d:D)(aa:aD):R cK:=dH k d>>=λa=>c3 pg Φ (gp ts a aa) b
def elem(pg:cT)(Φ:dw)(aa:aD)(e:E)(k:Nat)(c:O)(d:D):R (Option D):=dH k d>>=λa=>iz pg Φ (aa++a) c>>=λb=>if b then ev pg Φ (aa++a) e>>=λy=>.ok (Z y) else .ok Y
def xl(i:Nat){d:D}(h:aa[i]?=Z (Z d)):ev pg Φ aa (.var i)=.ok d:=Q9 nh h
def o3(i:Nat):ev pg Φ aa (.var i)=nh aa[i]?:=ao rfl
def Fe{d:D}{r:aD}:ev pg Φ (Z d::r) (.var 0)=.ok d:=ao rfl
def Ff{o:Option D}{r:aD}{i:Nat}:ev pg Φ (o::r) (.var (i+1))=ev pg Φ r (.var i):=ao rfl
def xh(d:D):ev pg Φ aa (.lit d)=.ok d:=ao rfl
def Fd(a:A):ev pg Φ aa (.tup a)=fE pg Φ aa a>>=λds=>.ok (.tup ds):=ao rfl
def E6(a:A):ev pg Φ aa (.lst a)=fE pg Φ aa a>>=λds=>.ok (.lst ds):=ao rfl
def EW(op:Op)(a b:E):ev pg Φ aa (.bin op a b)=ev pg Φ aa a>>=λx=>ev pg Φ aa b>>=λy=>bK op x y:=ao rfl
def E7(a:E):ev pg Φ aa (.neg a)=ev pg Φ aa a>>=λx=>dB x>>=λi=>.ok (.int (-i)):=ao rfl
def nf(i:Nat):eI pg Φ aa (.iw i)=k9 aa[i]?:=ao rfl
def E8(a:E):ev pg Φ aa (.not a)=ev pg Φ aa a>>=λx=>ez x>>=λb=>.ok (.ag (!b)):=ao rfl
def EY(op:iX)(a b:E):ev pg Φ aa (.cmp op a b)=ev pg Φ aa a>>=λx=>ev pg Φ aa b>>=λy=>bZ op x y>>=λc=>.ok (.ag c):=ao rfl
def EV(a b:E):ev pg Φ aa (.and a b)=ri pg Φ aa (ev pg Φ aa a) b:=ao rfl
def E4(a b:E):ev pg Φ aa (.idx a b)=ev pg Φ aa a>>=λx=>ev pg Φ aa b>>=λy=>fU x y:=ao rfl
def Fb(a:E)(lo hi:O):ev pg Φ aa (.slice a lo hi)=ev pg Φ aa a>>=λx=>jf pg Φ aa lo>>=λl=>jf pg Φ aa hi>>=λh=>hy x l h:=ao rfl
def EX(f:Nat)(a:A):ev pg Φ aa (.call f a)=fE pg Φ aa a>>=λds=>Φ f ds:=ao rfl
def E9(p:cL)(a:E):ev pg Φ aa (.prim p a)=ev pg Φ aa a>>=λx=>ht pg.up p x:=ao rfl
def xk(s:I):ev pg Φ aa (.tupI s)=eI pg Φ aa s>>=λds=>.ok (.tup ds):=ao rfl
def E0(e:E)(k:Nat)(s:I)(c:O):ev pg Φ aa (.comp e k s c)=eI pg Φ aa s>>=λds=>iH (bA (elem pg Φ aa e k c) ds)>>=λys=>.ok (.lst ys):=ao rfl
def tV{α:Type}(a:α):iH (.ok a)=.ok a:=ao rfl
def xg:fE pg Φ aa .nil=.ok []:=ao rfl
def xf(e:E)(a:A):fE pg Φ aa (.cons e a)=ev pg Φ aa e>>=λx=>fE pg Φ aa a>>=λxs=>.ok (x::xs):=ao rfl
def ET:jf pg Φ aa .none=.ok none:=ao rfl
def EU(e:E):jf pg Φ aa (.some e)=ev pg Φ aa e>>=λx=>dB x>>=λi=>.ok (Z i):=ao rfl
def EO:iz pg Φ aa .none=.ok true:=ao rfl
def EP(e:E):iz pg Φ aa (.some e)=ev pg Φ aa e>>=λx=>ez x:=ao rfl
def sT(e:E):eI pg Φ aa (.seq e)=ev pg Φ aa e>>=λx=>cD x:=ao rfl
def ER(a:E):eI pg Φ aa (.dG a)=ev pg Φ aa a>>=λx=>dB x>>=λi=>gL 0 i:=ao rfl
def Cz(b:Bool):ez (.ag b)=.ok b:=ao rfl
def CA(i:Int):dB (.int i)=.ok i:=ao rfl
def L8(xs:List D):cD (.tup xs)=.ok xs:=ao rfl
def L7(xs:List D):cD (.lst xs)=.ok xs:=ao rfl
def CR(d:D):dH 0 d=.ok [Z d]:=ao rfl
def Cb(b:E):ri pg Φ aa (.ok (.ag J)) b=ev pg Φ aa b:=ao rfl
def Ca(b:E):ri pg Φ aa (.ok (.ag VC)) b=.ok (.ag VC):=ao rfl
def Fm:c3 pg Φ aa .nil=.ok (.aR aa):=ao rfl
def Fl(s:S)(b:B):c3 pg Φ aa (.cons s b)=qk pg Φ (ex pg Φ aa s) b:=ao rfl
def L4(b:B):qk pg Φ (.ok (.aR aa)) b=c3 pg Φ aa b:=ao rfl
def L5(d:D)(b:B):qk pg Φ (.ok (.bH d)) b=.ok (.bH d):=ao rfl
def xn(i:Nat)(e:E):ex pg Φ aa (.asg i e)=ev pg Φ aa e>>=λd=>.ok (.aR (aa.set i (Z d))):=ao rfl
def zi(pg:cT)(Φ:dw)(aa:aD)(r:R D)(b:E):R D:=r>>=λx=>ez x>>=λk=>if k then .ok (.ag J) else ev pg Φ aa b
def sU(a b:E):ev pg Φ aa (.or a b)=zi pg Φ aa (ev pg Φ aa a) b:=ao rfl
def t4(b:E):zi pg Φ aa (.ok (.ag VC)) b=ev pg Φ aa b:=ao rfl
def Fc(a b:E):ev pg Φ aa (.mi a b)=ev pg Φ aa a>>=λx=>ev pg Φ aa b>>=λy=>kO x y:=ao rfl
def o2(a:E):eI pg Φ aa (.enum a)=ev pg Φ aa a>>=λx=>oY x:=ao rfl
def Fv(c:Nat):ex pg Φ aa (.raise c)=.exc c:=ao rfl
def qE(pg:cT)(r:R cK)(k:Nat)(h:eO):R cK:=Bq r λc=>gC pg c k h
def xr(s:S)(k:Nat)(h:eO):ex pg Φ aa (.kK s k h)=qE pg (ex pg Φ aa s) k h:=ao rfl
def Fq(e:E):ex pg Φ aa (.expr e)=ev pg Φ aa e>>=λ_=>.ok (.aR aa):=ao rfl
def N8(x:cK)(k:Nat)(h:eO):qE pg (.ok x) k h=.ok x:=ao rfl
def Bp(c k:Nat)(h:eO):qE pg (.exc c) k h=gC pg c k h:=ao rfl
def xi(s:I):ev pg Φ aa (.jr s)=eI pg Φ aa s>>=λds=>.ok (.lst ds):=ao rfl
def EZ(op op':iX)(a b c:E):ev pg Φ aa (.mX op op' a b c)=ev pg Φ aa a>>=λx=>ev pg Φ aa b>>=λy=>bZ op x y>>=λk=>if k then ev pg Φ aa c>>=λz=>bZ op' y z>>=λd=>.ok (.ag d) else .ok (.ag VC):=ao rfl
def ES(a b:E):eI pg Φ aa (.mc a b)=ev pg Φ aa a>>=λx=>dB x>>=λi=>ev pg Φ aa b>>=λy=>dB y>>=λj=>gL i j:=ao rfl
def DM(i j:Int):bZ .le (.int i) (.int j)=.ok (decide (i<=j)):=ao rfl
def wC(i j:Int):bZ .ge (.int i) (.int j)=.ok (decide (j<=i)):=ao rfl
def E3(i:Nat):ev pg Φ aa (.lg i)=lh aa[i]?:=ao rfl
def Fo(i j:Nat):ex pg Φ aa (.iv i j)=mZ aa[i]? aa[j]?>>=λx=>.ok (.aR (aa.set i (Z x))):=ao rfl
def xj(a b:E):ev pg Φ aa (.min2 a b)=ev pg Φ aa a>>=λx=>dB x>>=λi=>ev pg Φ aa b>>=λy=>dB y>>=λj=>.ok (.int (if j<i then j else i)):=ao rfl
def zN(up:hK)(b:Bool):ht up .int (.ag b)=.ok (.int (if b then 1 else 0)):=ao rfl
def ud(up:hK)(t:Ty)(d:D):ht up (.inst t) d=hn up d t>>=λb=>.ok (.ag b):=ao rfl
def L3(c:Nat)(b:B):qk pg Φ (.exc c) b=.exc c:=ao rfl
def EB(c:Nat):j9 (.exc c)=.exc c:=ao rfl
def Fn(i:Nat)(e:E):ex pg Φ aa (.app i e)=i7 aa[i]?>>=λ_=>ev pg Φ aa e>>=λd=>mK aa[i]? d>>=λx=>.ok (.aR (aa.set i (Z x))):=ao rfl
def Fx(i:Nat):ex pg Φ aa (.mb i)=pL aa[i]?>>=λd=>.ok (.bH d):=ao rfl
def Ia(ds:List D):pL (Z (Z (.lst ds)))=.ok (.lst ds):=ao rfl
def Fw(e:E):ex pg Φ aa (.ret e)=ev pg Φ aa e>>=λd=>.ok (.bH d):=ao rfl
def Fu(c:E)(a b:B):ex pg Φ aa (.iff c a b)=tm pg Φ aa (ev pg Φ aa c) a b:=ao rfl
def GB(a b:B):tm pg Φ aa (.ok (.ag J)) a b=c3 pg Φ aa a:=ao rfl
def GA(a b:B):tm pg Φ aa (.ok (.ag VC)) a b=c3 pg Φ aa b:=ao rfl
def Ft(k:Nat)(ts:List Nat)(s:I)(b:B):ex pg Φ aa (.dW k ts s b)=eI pg Φ aa s>>=λds=>forL (turn pg Φ k ts b) ds aa:=ao rfl
def K3{a:Nat}{b:B}(x:D):bq pg Φ ⟨1,a,b⟩ [x]=j9 (c3 pg Φ (Z x::V0 a Y) b):=ao rfl
def K4{a:Nat}{b:B}(x y:D):bq pg Φ ⟨2,a,b⟩ [x,y]=j9 (c3 pg Φ (Z x::Z y::V0 a Y) b):=ao rfl
def EC(d:D):j9 (.ok (.bH d))=.ok d:=ao rfl
def Kg(up:hK)(d:D):ht up .len d=iF d:=ao rfl
def Ki(up:hK)(d:D):ht up .sorted d=cD d>>=λxs=>sorted xs:=ao rfl
def Kj(up:hK)(d:D):ht up .ee d=cD d>>=λxs=>ee xs:=ao rfl
def tD(xs:List D):iF (.tup xs)=.ok (.int xs.length):=ao rfl
def HV(xs:List D):iF (.lst xs)=.ok (.int xs.length):=ao rfl
def wB(x y:D):bZ .eq x y=dt x y:=ao rfl
def sz(x y:D):bZ .ne x y=fq (dt x y):=ao rfl
def wF(x y:D):bZ .lt x y=pM x y:=ao rfl
def cmp_gt(i j:Int):bZ .gt (.int i) (.int j)=.ok (decide (j<i)):=ao rfl
def sy(x:D):bZ .is x .aW=.ok (nx x):=ao rfl
def wD(x:D):bZ .ki x .aW=.ok (!nx x):=ao rfl
def Mi(i j:Int):bK .shr (.int i) (.int j)=if 0<=j then .ok (.int (i / 2 ^ j.toNat)) else .bad:=ao rfl
def DN(x:D)(ys:List D):bZ .mem x (.tup ys)=fH x ys:=ao rfl
def DP(x:D)(ys:List D):bZ .iI x (.tup ys)=fq (fH x ys):=ao rfl
def DO(x:D)(ys:List D):bZ .iI x (.lst ys)=fq (fH x ys):=ao rfl
def Ib(i j:Int):pM (.int i) (.int j)=.ok (decide (i<j)):=ao rfl
def zb(b:Bool):fq (.ok b)=.ok (!b):=ao rfl
def xa(i j:Int):dt (.int i) (.int j)=.ok (i==j):=ao rfl
def add_int(i j:Int):bK .add (.int i) (.int j)=.ok (.int (i+j)):=ao rfl
def sub_int(i j:Int):bK .sub (.int i) (.int j)=.ok (.int (i-j)):=ao rfl
def oH(xs ys:List D):bK .add (.tup xs) (.tup ys)=if xs.length+ys.length<=SZ then .ok (.tup (xs++ys)) else .bad:=ao rfl
def jV(xs ys:List D):bK .add (.lst xs) (.lst ys)=if xs.length+ys.length<=SZ then .ok (.lst (xs++ys)) else .bad:=ao rfl
def mul_int(i j:Int):bK .mul (.int i) (.int j)=if (-dk<i/\i<dk)\/(-dk<j/\j<dk) then .ok (.int (i*j)) else .bad:=ao rfl
def xw(i j:Int):bK .fdiv (.int i) (.int j)=if 0<j/\j<1073741824 then .ok (.int (i / j)) else .bad:=ao rfl
def mod_int(i j:Int):bK .mod (.int i) (.int j)=if 0<j then .ok (.int (i%j)) else .bad:=ao rfl
def yc(xs:List D)(i:Int):fU (.tup xs) (.int i)=(match hS xs i with|some d=>.ok d|none=>.bad):=ao rfl
def yb(xs:List D)(i:Int):fU (.lst xs) (.int i)=(match hS xs i with|some d=>.ok d|none=>.bad):=ao rfl
def qo(xs:List D)(lo hi:Option Int):hy (.tup xs) lo hi=.ok (.tup (cut xs lo hi)):=ao rfl
def AP(xs:List D)(lo hi:Option Int):hy (.lst xs) lo hi=.ok (.lst (cut xs lo hi)):=ao rfl
def r9(xs:List D):i7 (Z (Z (.lst xs)))=.ok ():=ao rfl
def oJ(xs:List D)(d:D):mK (Z (Z (.lst xs))) d=if xs.length<SZ then .ok (.lst (xs++[d])) else .bad:=ao rfl
def Ma{o v:Option D}{r:aD}:(o::r:aD).set 0 v=v::r:=ao rfl
def Mc{o v:Option D}{r:aD}{i:Nat}:(o::r:aD).set (i+1) v=o::r.set i v:=ao rfl
def F8{o:Option D}{r:aD}:(o::r:aD)[0]?=Z o:=ao rfl
def Gd{o:Option D}{r:aD}{i:Nat}:(o::r:aD)[i+1]?=r[i]?:=ao rfl
def KO{α:Type}(x:α):V0 0 x=[]:=ao rfl
def KP{α:Type}(n:Nat)(x:α):V0 (n+1) x=x::V0 n x:=ao rfl
def Od(i:Nat)(b:B)(d:D):turn pg Φ 0 [i] b d aa=c3 pg Φ (aa.set i (Z d)) b:=ao rfl
def Ez(e:E)(c:O)(d:D):elem pg Φ aa e 0 c d=iz pg Φ (aa++[Z d]) c>>=λb=>if b then ev pg Φ (aa++[Z d]) e>>=λy=>.ok (Z y) else .ok none:=ao rfl
end
end ζ
end
section
def ζ.DNA:=And.intro (And.intro (And.intro (And.intro (And.intro (And.intro (@ζ.Fe) (@ζ.Ff)) (And.intro (@ζ.xh) (And.intro (@ζ.Fd) (@ζ.E6)))) (And.intro (And.intro (@ζ.EW) (@ζ.E8)) (And.intro (@ζ.EY) (And.intro (@ζ.EV) (@ζ.E4))))) (And.intro (And.intro (And.intro (@ζ.Fb) (@ζ.EX)) (And.intro (@ζ.E9) (And.intro (@ζ.xk) (@ζ.E0)))) (And.intro (And.intro (@ζ.tV) (And.intro (@ζ.xg) (@ζ.xf))) (And.intro (@ζ.ET) (And.intro (@ζ.EU) (@ζ.EO)))))) (And.intro (And.intro (And.intro (And.intro (@ζ.EP) (@ζ.sT)) (And.intro (@ζ.ER) (And.intro (@ζ.Cz) (@ζ.CA)))) (And.intro (And.intro (@ζ.L8) (And.intro (@ζ.L7) (@ζ.CR))) (And.intro (@ζ.Cb) (And.intro (@ζ.Ca) (@ζ.Fm))))) (And.intro (And.intro (And.intro (@ζ.Fl) (@ζ.L4)) (And.intro (@ζ.L5) (And.intro (@ζ.xn) (@ζ.Fn)))) (And.intro (And.intro (@ζ.r9) (And.intro (@ζ.Fw) (@ζ.Fx))) (And.intro (@ζ.Ia) (And.intro (@ζ.Fu) (@ζ.GB))))))) (And.intro (And.intro (And.intro (And.intro (And.intro (@ζ.GA) (@ζ.Ft)) (And.intro (@ζ.K3) (And.intro (@ζ.K4) (@ζ.EC)))) (And.intro (And.intro (@ζ.Kg) (And.intro (@ζ.Ki) (@ζ.Kj))) (And.intro (@ζ.tD) (And.intro (@ζ.HV) (@ζ.wB))))) (And.intro (And.intro (And.intro (@ζ.sz) (@ζ.wF)) (And.intro (@ζ.cmp_gt) (And.intro (@ζ.DN) (@ζ.DP)))) (And.intro (And.intro (@ζ.DO) (And.intro (@ζ.Ib) (@ζ.zb))) (And.intro (@ζ.xa) (And.intro (@ζ.add_int) (@ζ.sub_int)))))) (And.intro (And.intro (And.intro (And.intro (@ζ.qo) (@ζ.AP)) (And.intro (@ζ.Ma) (And.intro (@ζ.Mc) (@ζ.F8)))) (And.intro (And.intro (@ζ.Gd) (And.intro (@ζ.KO) (@ζ.KP))) (And.intro (@ζ.Od) (And.intro (@ζ.Ez) (@ζ.R.iN))))) (And.intro (And.intro (And.intro (@ζ.R.Fy) (@X0.{0})) (And.intro (@W4.{0}) (And.intro (@VS.{0}) (@Wq.{0})))) (And.intro (And.intro (@SW) (And.intro (@QI.{1}) (@QT))) (And.intro (@Ud) (And.intro (@PD) (@PZ.{1})))))))
end
local macro_rules | `(tactic| simp![$xs,*] $[$l]?) => `(tactic| simp only [ζ.DNA, Nat.reduceAdd, $xs,*] $[$l]?)
local macro_rules | `(tactic| simp! $[$l:location]?) => `(tactic| simp only [ζ.DNA, Nat.reduceAdd] $[$l]?)
section
namespace ar
open ζ
theorem xJ{α:Type}{f:α->D}(I:List α->aD->Prop)(all):∀(xs pre:List α)(a:aD),all=pre++xs->I pre a ->
  (∀pre x post a,all=pre++x::post->I pre a->∃b,g (f x) a=.ok (.aR b)/\I (pre++[x]) b)->∃b,forL g (xs.map f) a=.ok (.aR b)/\I all b
 |[],pre,a,e,h,_=>⟨a,rfl,by rw[e];simpa using h⟩
 |x::xs,pre,a,e,h,c=>by
  obtain⟨j,e1,d⟩:=c pre x xs a e h;obtain⟨k,e2,i⟩:=xJ I all xs (pre++[x]) j (by rw[e];simp) d c;refine⟨k,?_,i⟩;simp only[VK,forL,e1,R.iN];exact e2
def fk{α:Type}{f:α->D}(I:List α->aD->Prop)(xs)(a)(h:I [] a)(b:∀pre x post a,xs=pre++x::post->I pre a->∃oq,g (f x) a=.ok (.aR oq)/\I (pre++[x]) oq):∃oq,forL g (xs.map f) a=.ok (.aR oq)/\I xs oq :=
 xJ I xs xs [] a rfl h b
abbrev af(c:List Int):D:=.tup (c.map .int)
theorem w9:∀a b:List Int,iy (a.map .int) (b.map .int)=decide (a=b)
 |[],[]=>rfl
 |[],_::_=>rfl
 |_::_,[]=>rfl
 |x::a,y::b=>by
  show(x==y&&iy (a.map .int) (b.map .int))=_;rw[w9 a b]
  by_cases c:x=y
  .subst c;by_cases h2:a=b<;>simp[h2]
  .simp[c]
def gB(a b):d3 (af a) (af b)=decide (a=b):=w9 a b
theorem sP:∀a b:List (List Int),iy (a.map af) (b.map af)=decide (a=b)
 |[],[]=>rfl
 |[],_::_=>rfl
 |_::_,[]=>rfl
 |x::a,y::b=>by
  show(d3 (af x) (af y)&&iy (a.map af) (b.map af))=_;rw[gB,sP a b]
  by_cases c:x=y
  .subst c;by_cases h2:a=b<;>simp[h2]
  .simp[c]
abbrev lexLt:List Int->List Int->Bool
 |[],[]=>VC
 |[],_::_=>J
 |_::_,[]=>VC
 |x::xs,y::ys=>if x=y then lexLt xs ys else decide (x<y)
theorem nE:∀a b:List Int,kl (a.map .int) (b.map .int)=Z (lexLt a b)
 |[],[]=>rfl
 |[],_::_=>rfl
 |_::_,[]=>rfl
 |x::a,y::b=>by
  show(if (x==y)=J then kl (a.map .int) (b.map .int) else Z (decide (x<y)))=Z (if x=y then lexLt a b else decide (x<y));rw[nE a b]
  by_cases h:x=y<;>simp[h]
def jt(a b):js (af a) (af b)=Z (lexLt a b):=nE a b
def Iv(x)(xs:List Int):memD (.int x) (xs.map .int)=decide (x∈xs):=by
 unfold memD
 induction xs with
 |nil=>simp
 |cons y ys a =>
  rw[VK,Ws,a];show(y==x||_)=_
  by_cases h:y=x
  .subst h;simp
  .have:¬x=y:=λe=>h e.symm
   simp[h,this]
def Iu(c)(cs:List (List Int)):memD (af c) (cs.map af)=decide (c∈cs):=by
 unfold memD
 induction cs with
 |nil=>simp
 |cons y ys a =>
  simp only[VK,Ws,a,gB,PF]
  by_cases h:y=c
  .subst h;simp
  .have:¬c=y:=λe=>h e.symm
   simp[h,this]
theorem yF:∀a:List Int,lexLt a a=VC
 |[]=>rfl
 |x::a=>by simp[lexLt,yF a]
theorem yG:∀{a b c:List Int},lexLt a b=J->lexLt b c=J->lexLt a c=J
 |[],[],_,h,_=>by simp[lexLt]at h
 |[],_::_,[],_,h=>by simp[lexLt]at h
 |[],_::_,_::_,_,_=>rfl
 |_::_,[],_,h,_=>by simp[lexLt]at h
 |_::_,_::_,[],_,h=>by simp[lexLt]at h
 |x::a,y::b,z::c,d,h2=>by
  simp only[lexLt]at *
  split at d<;>split at h2
  .rename_i e1 e2;subst e1;subst e2;rw[if_pos rfl];exact yG d h2
  .rename_i e1 e2;subst e1;rw[if_neg e2];exact h2
  .rename_i e1 e2;subst e2;rw[if_neg e1];exact d
  .rename_i e1 e2;simp only[PM]at d h2;rw[if_neg ⋯];simp;lia
theorem yE:∀a b:List Int,a≠b->lexLt a b=J\/lexLt b a=J
 |[],[],h=>absurd rfl h
 |[],_::_,_=>.inl rfl
 |_::_,[],_=>.inr rfl
 |x::a,y::b,h=>by
  simp only[lexLt]
  by_cases e:x=y
  .subst e;have h':a≠b:=λe=>h (by rw[e])
   simpa using yE a b h'
  .have c:¬y=x:=λz=>e z.symm
   rw[if_neg e,if_neg c];simp only[PM];lia
section
variable{α:Type}
abbrev ins(lt:α->α->Bool)(x:α):List α->List α
 |[]=>[x]
 |y::ys=>if lt y x=J then y::ins lt x ys else x::y::ys
def br(lt:α->α->Bool):List α->List α
 |[]=>[]
 |x::xs=>ins lt x (br lt xs)
abbrev bF[DecidableEq α]:List α->List α
 |[]=>[]
 |x::xs=>if x∈xs then bF xs else x::bF xs
variable{lt:α->α->Bool}
theorem ye(h:∀a b,js (f a) (f b)=Z (lt a b))(x):∀ys:List α,pB (f x) (ys.map f)=(ins lt x ys).map f
 |[]=>rfl
 |y::ys=>by
  simp only[VK,pB,ins,h,Ra]
  split
  .simp[ye h x ys]
  .rfl
theorem h7(h:∀a b,js (f a) (f b)=Z (lt a b)):∀xs:List α,fs (xs.map f)=(br lt xs).map f
 |[]=>rfl
 |x::xs=>by simp only[VK,fs,br,h7 h xs,ye h]
theorem j6[DecidableEq α](h:∀a b,d3 (f a) (f b)=decide (a=b)):∀xs:List α,gf (xs.map f)=(bF xs).map f
 |[]=>rfl
 |x::xs=>by
  have e:(xs.map f).any (d3 (f x))=decide (x∈xs):=by
   rw[List.any_map]
   induction xs with
   |nil=>simp
   |cons y ys c=>simp only[Ws,c,Xq,h,PF];by_cases q:x=y<;>simp[q]
  simp only[VK,gf,bF,e,j6 h xs,PM]
  split<;>rfl
theorem pP(x z):∀ys:List α,z∈ins lt x ys<->z=x\/z∈ys
 |[]=>by simp[ins]
 |y::ys=>by
  unfold ins
  split
  .simp only[PF,pP x z ys];constructor
   .rintro(h|h|h)
    .exact .inr (.inl h)
    .exact .inl h
    .exact .inr (.inr h)
   .rintro(h|h|h)
    .exact .inr (.inl h)
    .exact .inl h
    .exact .inr (.inr h)
  .simp
theorem fX(z):∀xs:List α,z∈br lt xs<->z∈xs
 |[]=>by simp[br]
 |x::xs=>by unfold br;rw[pP,fX z xs];simp
theorem yA(x):∀ys:List α,(ins lt x ys).length=ys.length+1
 |[]=>rfl
 |y::ys=>by unfold ins;split<;>simp[yA x ys]
theorem nD:∀xs:List α,(br lt xs).length=xs.length
 |[]=>rfl
 |x::xs=>by unfold br;rw[yA,nD xs];simp
theorem fo[DecidableEq α](z):∀xs:List α,z∈bF xs<->z∈xs
 |[]=>by simp[bF]
 |x::xs=>by
  unfold bF
  split
  .rename_i h;rw[fo z xs,PF];exact⟨.inr,λq=>q.elim (λe=>e▸h) id⟩
  .simp[fo z xs]
theorem hr[DecidableEq α]:∀xs:List α,(bF xs).Nodup
 |[]=>RF
 |x::xs=>by
  unfold bF
  split
  .exact hr xs
  .rename_i h;exact Qk.mpr ⟨λq=>h ((fo x xs).mp q),hr xs⟩
structure eQ(lt:α->α->Bool):Prop where
 dX:∀a,lt a a=VC
 cJ:∀{a b c},lt a b=J->lt b c=J->lt a c=J
 conn:∀a b,a≠b->lt a b=J\/lt b a=J
def bG(lt:α->α->Bool)(xs:List α):Prop:=xs.Pairwise λa b=>lt a b=J
theorem vU(L:eQ lt)(x):∀{ys:List α},bG lt ys->x∉ys->bG lt (ins lt x ys)
 |[],_,_=>Rn _ _
 |y::ys,h,b=>by
  obtain⟨a,h2⟩:=P7.mp h;have d:x≠y:=λe=>b (by simp[e])
  unfold ins
  split
  .rename_i q;refine P7.mpr ⟨λz hz=>?_,vU L x h2 λq=>b (VG _ q)⟩;rcases(pP x z ys).mp hz with e|e
   .subst e;exact q
   .exact a z e
  .rename_i q;have c:lt x y=true:=(L.conn x y d).resolve_right q;refine P7.mpr ⟨λz hz=>?_,h⟩;rcases PF.mp hz with e|e
   .subst e;exact c
   .exact L.cJ c (a z e)
theorem g5(L:eQ lt):∀{xs:List α},xs.Nodup->bG lt (br lt xs)
 |[],_=>Xn
 |x::xs,h=>vU L x (g5 L (Qk.mp h).2) λq=>(Qk.mp h).1 ((fX x xs).mp q)
def bG.nodup(L:eQ lt)(h:bG lt xs):xs.Nodup:=SN (λ{a b} q e=>by subst e;rw[L.dX]at q;cases q) h
theorem ij(L:eQ lt):∀{xs ys:List α},bG lt xs->bG lt ys->(∀z,z∈xs<->z∈ys)->xs=ys
 |[],[],_,_,_=>rfl
 |[],y::_,_,_,h=>absurd ((h y).mpr VF) (by simp)
 |x::_,[],_,_,h=>absurd ((h x).mp VF) (by simp)
 |x::xs,y::ys,g,i,h=>by
  obtain⟨d,l⟩:=P7.mp g;obtain⟨f,m⟩:=P7.mp i;have e:x=y:=by
   rcases PF.mp ((h x).mp VF) with e|e
   .exact e
   .rcases PF.mp ((h y).mpr VF) with c|c
    .exact c.symm
    .have a:=f x e;have b:=d y c;have:=L.cJ a b;rw[L.dX]at this;cases this
  subst e;have j:x∉xs:=λq=>by have:=d x q;rw[L.dX]at this;cases this
  have k:x∉ys:=λq=>by have:=f x q;rw[L.dX]at this;cases this
  rw[ij L l m λz=>?_];constructor
  .intro hz;rcases PF.mp ((h z).mp (VG _ hz)) with e|e
   .subst e;exact absurd hz j
   .exact e
  .intro hz;rcases PF.mp ((h z).mpr (VG _ hz)) with e|e
   .subst e;exact absurd hz k
   .exact e
def MD(L:eQ lt)(h:bG lt xs):br lt xs=xs:=ij L (g5 L (h.nodup L)) h λz=>fX z xs
theorem sJ[DecidableEq α]:∀xs:List α,(bF xs).length<=xs.length
 |[]=>PE _
 |x::xs=>by unfold bF;have:=sJ xs;split<;>simp<;>lia
theorem gm[DecidableEq α]:∀{xs ys:List α},xs.Nodup->(∀z∈xs,z∈ys)->xs.length<=ys.length
 |[],_,_,_=>PN _
 |x::xs,ys,h,a=>by
  obtain⟨c,h2⟩:=Qk.mp h;have b:=a x VF;have:=gm (xs:=xs) (ys:=ys.erase x) h2 λz hz=>by
   have d:z≠x:=λe=>c (e▸hz)
   exact(YD d).mpr (a z (VG _ hz))
  rw[S7 b]at this;have f:0<ys.length:=Yg b;simp only[VS];lia
end
def eW:eQ lexLt:=⟨yF,yG,yE⟩
abbrev ltI(a b:Int):Bool:=decide (a<b)
def ho:eQ ltI:=⟨λa=>by simp[ltI],λc h2=>by simp[ltI]at *;lia,λa b h=>by simp[ltI];lia⟩
def yQ(a:List Int):(a.map D.int).all (dY 0)=true:=by simp[Ss,dY]
def k8{cs:List (List Int)}(b:∀c∈cs,c≠[]):(cs.map af).all hV=true:=by
 rw[Ss,Qd];intro c a;cases c with
 |nil=>exact absurd rfl (b [] a)
 |cons x c=>show(dY 0 (.int x)&&(c.map D.int).all (dY 0))=J;rw[yQ];rfl
def Mv(a:∀c∈cs,c≠[])(h:cs.length<=255):sorted (cs.map af)=.ok (.lst ((br lexLt cs).map af)):=by
 unfold sorted hX;rw[k8 a];simp[h7 (lt:=lexLt) jt,h]
def Mw(h:cs.length<=255):sorted (cs.map .int)=.ok (.lst ((br ltI cs).map .int)):=by
 unfold sorted hX;rw[yQ];simp[h7 (f:=D.int) (lt:=ltI) λa b=>rfl,h]
def uP(a:∀c∈cs,c≠[])(h:(bF cs).length<=255):ee (cs.map af)=.ok (.lst ((br lexLt (bF cs)).map af)):=by
 unfold ee;rw[k8 a,j6 gB,h7 (lt:=lexLt) jt];simp[h]
def n3(n)(i):bR n (.int i)=true:=by cases n<;>rfl
def uE(n)(c:List Int):(c.map D.int).all (bR n)=true:=by simp[Ss,n3]
def n2(n)(c):bR (n+1) (af c)=true:=uE n c
def mf(n)(cs:List (List Int)):(cs.map af).all (bR (n+1))=true:=by simp[Ss,n2]
def Iw(x)(c:List Int):fH (.int x) (c.map .int)=.ok (decide (x∈c)):=by
 unfold fH;rw[n3,uE,Iv];rfl
def tK(c)(cs:List (List Int)):fH (af c) (cs.map af)=.ok (decide (c∈cs)):=by
 unfold fH;rw[n2,mf,Iu];rfl
def EK(a b):dt (af a) (af b)=.ok (decide (a=b)):=by unfold dt;rw[n2,n2,gB];rfl
def xb(a b:List (List Int)):dt (.tup (a.map af)) (.tup (b.map af))=.ok (decide (a=b)):=by
 have h:∀a:List (List Int),bR 60 (.tup (a.map af))=true:=λa=>mf 58 a
 unfold dt;rw[h,h];exact Q9 R.ok (sP a b)
def EL(a b:List (List Int)):dt (.lst (a.map af)) (.lst (b.map af))=.ok (decide (a=b)):=by
 have h:∀a:List (List Int),bR 60 (.lst (a.map af))=true:=λa=>mf 58 a
 unfold dt;rw[h,h];exact Q9 R.ok (sP a b)
def ll(h:ys.all (bR 59)=J):dt (.lst ys) (.lst [])=.ok ys.isEmpty:=by
 have a:bR 60 (.lst ys)=true:=h;have h2:bR 60 (.lst [])=true:=rfl;unfold dt;rw[a,h2];cases ys<;>rfl
def m9(h:ys.all (bR 59)=J):dt (.tup ys) (.tup [])=.ok ys.isEmpty:=by
 have a:bR 60 (.tup ys)=true:=h;have h2:bR 60 (.tup [])=true:=rfl;unfold dt;rw[a,h2];cases ys<;>rfl
section
variable{α:Type}{lt:α->α->Bool}
def kW(lt:α->α->Bool)(xs:List α):Prop:=xs.Pairwise λa b=>lt b a=VC
theorem nS(x):∀ys:List α,(ins lt x ys).Perm (x::ys)
 |[]=>Ue _
 |y::ys=>by
  unfold ins
  split
  .exact(YE y (nS x ys)).trans (XJ x y ys)
  .exact Ue _
theorem p6:∀xs:List α,(br lt xs).Perm xs
 |[]=>Ue _
 |x::xs=>(nS x (br lt xs)).trans (YE x (p6 xs))
def yI(L:eQ lt){a b:α}(h:lt a b=J):lt b a=false:=by
 cases q:lt b a with
 |false=>rfl
 |true=>have:=L.cJ h q;rw[L.dX]at this;cases this
def yH(L:eQ lt){a b c:α}(d:lt b a=VC)(h2:lt c b=VC):lt c a=false:=by
 cases q:lt c a with
 |false=>rfl
 |true =>
  by_cases e:a=b
  .subst e;rw[h2]at q;cases q
  .rcases L.conn a b e with w|w
   .have:=L.cJ q w;rw[h2]at this;cases this
   .rw[d]at w;cases w
theorem BO(L:eQ lt)(x):∀{ys:List α},kW lt ys->kW lt (ins lt x ys)
 |[],_=>Rn _ _
 |y::ys,h=>by
  obtain⟨a,h2⟩:=P7.mp h;unfold ins
  split
  .rename_i c;refine P7.mpr ⟨λz hz=>?_,BO L x h2⟩;rcases(pP x z ys).mp hz with rfl|hz
   .exact yI L c
   .exact a z hz
  .rename_i c;refine P7.mpr ⟨λz hz=>?_,h⟩;have c:lt y x=false:=⇑c;rcases PF.mp hz with rfl|hz
   .exact c
   .exact yH L c (a z hz)
theorem BP(L:eQ lt):∀xs:List α,kW lt (br lt xs)
 |[]=>.nil
 |x::xs=>BO L x (BP L xs)
theorem BQ(L:eQ lt):∀{xs ys:List α},kW lt xs->kW lt ys->xs.Perm ys->xs=ys
 |[],ys,_,_,p=>(List.Perm.nil_eq p)
 |x::xs,[],_,_,p=>by have:=p.length_eq;simp at this
 |x::xs,y::ys,b,d,p=>by
  obtain⟨g,h⟩:=P7.mp b;obtain⟨i,j⟩:=P7.mp d;have e:x=y:=by
   apply Qv;intro a;have c:y∈xs:=by
    rcases PF.mp (p.mem_iff.mpr VF) with q|q
    .exact absurd q.symm a
    .exact q
   have f:x∈ys:=by
    rcases PF.mp (p.mem_iff.mp VF) with q|q
    .exact absurd q a
    .exact q
   rcases L.conn x y a with w|w
   .rw[i x f]at w;cases w
   .rw[g y c]at w;cases w
  subst e;rw[BQ L h j (List.Perm.cons_inv p)]
end
end ar
end
section
namespace ei
def xor_swap(x y a:Nat):(x ^^^ a) ^^^ y=(x ^^^ y) ^^^ a:=by rw[Rf,Nat.xor_comm a y,<- Rf]
def BX(x y a:Nat):(x ^^^ a) ^^^ (y ^^^ a)=x ^^^ y:=by rw[xor_swap,<- Rf,Rf,Su,RR]
def jJ(x a:Nat):(x ^^^ a) ^^^ a=x:=by rw[Rf,Su,RR]
abbrev sp:List Nat->Nat->Prop
 |[],x=>x=0
 |a::L,x=>sp L x\/sp L (x ^^^ a)
theorem uM:∀L,sp L 0
 |[]=>rfl
 |_::L=>.inl (uM L)
theorem gQ:∀{L:List Nat}{x y:Nat},sp L x->sp L y->sp L (x ^^^ y)
 |[],x,y,b,h2=>by cases b;cases h2;rfl
 |a::L,x,y,b,h2=>by
  rcases b with b|b<;>rcases h2 with h2|h2
  .exact .inl (gQ b h2)
  .exact .inr (by rw[Rf];exact gQ b h2)
  .exact .inr (by rw[<- xor_swap];exact gQ b h2)
  .exact .inl (by rw[<- BX x y a];exact gQ b h2)
theorem eZ:∀{L:List Nat}{a:Nat},a∈L->sp L a
 |b::L,a,h=>by
  rcases PF.mp h with rfl|h
  .exact .inr (by rw[Su];exact uM L)
  .exact .inl (eZ h)
theorem gP:∀{L:List Nat}{x:Nat},(∀a∈L,sp M a)->sp L x->sp M x
 |[],x,_,h=>by cases h;exact uM M
 |a::L,x,d,h=>by
  have c:∀b∈L,sp M b:=λb e=>d b (VG _ e)
  rcases h with h|h
  .exact gP c h
  .have:=gQ (gP c h) (d a VF);rwa[jJ]at this
theorem uL:∀{L:List Nat}{x:Nat},(∀a∈L,a.testBit k=VC)->sp L x->x.testBit k=VC
 |[],x,_,h=>by cases h;exact Sn k
 |a::L,x,d,h=>by
  have c:∀b∈L,b.testBit k=false:=λb e=>d b (VG _ e)
  rcases h with h|h
  .exact uL c h
  .have:=uL c h;rwa[Rj,d a VF,Vc]at this
theorem qs:∀{L:List Nat}{x:Nat},(∀a∈L,a<2 ^ n)->sp L x->x<2 ^ n
 |[],x,_,h=>by cases h;exact SF n
 |a::L,x,d,h=>by
  have c:∀b∈L,b<2 ^ n:=λb e=>d b (VG _ e)
  rcases h with h|h
  .exact qs c h
  .have:=Q0 (qs c h) (d a VF);rwa[jJ]at this
noncomputable abbrev Row:=Nat×Nat
noncomputable abbrev cc:=List (Nat×Row)
abbrev rws(B:cc):List Nat:=B.map λe=>e.2.1
abbrev one(r:Row)(e:Nat×Row):Row:=if r.1.testBit e.1=J then(r.1 ^^^ e.2.1,r.2 ^^^ e.2.2) else r
def red(B:cc)(r:Row):Row:=B.foldl one r
def l9(e)(B:cc)(r):red (e::B) r=red B (one r e):=rfl
structure cE(B:cc):Prop where
 ap:B.Pairwise λe f=>e.2.1.testBit f.1=VC/\f.2.1.testBit e.1=VC
 lo:∀e∈B,e.2.1.testBit e.1=J/\∀j,j<e.1->e.2.1.testBit j=VC
structure jN(B:cc):Prop where
 ap:B.Pairwise λe f=>f.2.1.testBit e.1=VC
 lo:∀e∈B,e.2.1.testBit e.1=J
def jN.tail{B:cc}(h:jN (e::B)):jN B:=⟨(P7.mp h.ap).2,λf a=>h.lo f (VG _ a)⟩
def cE.e1(h:cE B):jN B:=⟨h.ap.imp λq=>q.2,λe a=>(h.lo e a).1⟩
theorem cE.nil:cE []:=⟨.nil,λ_ h=>nomatch h⟩
def cE.tail{B:cc}(h:cE (e::B)):cE B:=⟨(P7.mp h.ap).2,λf a=>h.lo f (VG _ a)⟩
theorem Ab:∀{B:cc}{r:Row},(∀f∈B,f.2.1.testBit k=VC)->(red B r).1.testBit k=r.1.testBit k
 |[],r,_=>rfl
 |e::B,r,h=>by
  rw[l9,Ab λf a=>h f (VG _ a)];unfold one
  split
  .rw[Rj,h e VF,Vc]
  .rfl
theorem qd:∀{B:cc}{r:Row},jN B->∀e∈B,(red B r).1.testBit e.1=VC
 |f::B,r,h,e,a=>by
  obtain⟨b,h2⟩:=P7.mp h.ap;rw[l9];rcases PF.mp a with rfl|a
  .rw[Ab λg c=>b g c];unfold one
   split
   .rename_i q;rw[Rj,q,h.lo e VF];rfl
   .rename_i q;simpa using q
  .exact qd h.tail e a
theorem nX:∀{B:cc}{r:Row},sp (rws B) (r.1 ^^^ (red B r).1)
 |[],r=>Su _
 |e::B,r=>by
  have a:=nX (B:=B) (r:=one r e);rw[l9];unfold one at a ⊢
  split
  .rename_i q;rw[if_pos q]at a;exact .inr (by rw[<- xor_swap];exact a)
  .rename_i q;rw[if_neg q]at a;exact .inl a
theorem w5:∀{B:cc}{x:Nat},jN B->sp (rws B) x->(∀e∈B,x.testBit e.1=VC)->x=0
 |[],x,_,h,_=>h
 |e::B,x,h,b,d=>by
  obtain⟨g,h2⟩:=P7.mp h.ap;rcases b with b|b
  .exact w5 h.tail b λf c=>d f (VG _ c)
  .exfalso;have:=uL (k:=e.1) (λa i=>by obtain⟨f,c,rfl⟩:=VP.mp i;exact g f c) b;rw[Rj,d e VF,h.lo e VF]at this;cases this
def KJ(h:jN B):(red B r).1=0<->sp (rws B) r.1:=by
 have a:=nX (B:=B) (r:=r);constructor
 .intro z;rwa[z,RR]at a
 .intro z;have h2:=gQ a z;rw[xor_swap,Su,Sa]at h2;exact w5 h h2 (qd h)
def um(h:cE B):(red B r).1=0<->sp (rws B) r.1:=KJ h.e1
def lj(h:cE B):(B.map (·.1)).Nodup:=by
 rw[QC,QU];refine Q7 (λ{e f} b a q z=>?_) h.ap;have:=(h.lo f a).1;rw[<- z,q.2]at this;cases this
abbrev lH:Nat->Nat->Nat
 |0,_=>0
 |f+1,n=>if n%2=1 then 0 else lH f (n / 2)+1
def lo(n:Nat):Nat:=lH n n
theorem yL : ∀ (f n : Nat), 0 < n -> n <= f -> n.testBit (lH f n) = J /\ (∀ j, j < lH f n -> n.testBit j = VC) /\ n - (n &&& (n - 1)) = 2 ^ lH f n /\ (n &&& (n - 1)) <= n
  | 0, n, h, h2 => by lia
  | f + 1, n, h, h2 => by
    rw [lH]
    by_cases c : n % 2 = 1
    · rw [if_pos c]
      refine ⟨by rw [TG]; simp [c], fun j b => absurd b (WY j), ?_, ZS⟩
      have e2 : (n &&& (n - 1)) % 2 = 0 := by
        rcases PV (n &&& (n - 1)) with q | q
        · exact q
        · have := (Sv.mp q).2; lia
      have a := TZ n 2
      rw [c] at a
      generalize n / 2 = q at a
      subst a
      rw [RW] at e2 ⊢
      have e1 : ((2 * q + 1) &&& 2 * q) / 2 = q := by rw [T1, Nat.mul_div_cancel_left q ∅, ZT ∅, U1, Nat.and_self]
      have hw := TZ ((2 * q + 1) &&& 2 * q) 2
      rw [e1, e2] at hw
      rw [<- hw]
      exact QR ..
    · rw [if_neg c]
      have c0 : n % 2 = 0 := by lia
      have a := TZ n 2
      rw [c0, U1] at a
      obtain ⟨d, e, g, i⟩ := yL f (n / 2) ⋯ ⋯
      refine ⟨by rw [TH]; exact d, fun j b => ?_, ?_, ZS⟩
      · cases j with
        | zero => rw [TG]; simp [c]
        | succ j => rw [TH]; exact e j (Nat.lt_of_succ_lt_succ b)
      · have e2 : (n &&& (n - 1)) % 2 = 0 := by
          rcases PV (n &&& (n - 1)) with q | q
          · exact q
          · exact absurd (Sv.mp q).1 c
        have e1 : (n &&& (n - 1)) / 2 = n / 2 &&& (n / 2 - 1) := by
          rw [T1]
          congr 1
          generalize n / 2 = q at a
          subst a
          cases q with
          | zero => exact absurd h ∅
          | succ p => rw [show 2 * (p + 1) - 1 = 2 * p + 1 from rfl, ZT ∅]; rfl
        have hw := TZ (n &&& (n - 1)) 2
        rw [e1, e2, U1] at hw
        rw [W3, <- hw]
        conv => lhs; lhs; rw [<- a]
        rw [<- Nat.mul_sub, g, Nat.mul_comm]
def tG(n)(h:0<n):n.testBit (lo n)=J/\(∀j,j<lo n->n.testBit j=VC)/\n-(n &&& (n-1))=2 ^ lo n/\(n &&& (n-1))<=n:=yL n n h (PE _)
def grow(B:cc)(r:Row):cc:=if (red B r).1=0 then B else B.map (λe=>(e.1,one e.2 (lo (red B r).1,red B r)))++[(lo (red B r).1,red B r)]
def ph (h : cE B) (r) : cE (grow B r) := by
  unfold grow
  split
  · exact h
  · rename_i o
    have c := qd (r := r) h.e1
    generalize red B r = l at o c
    obtain ⟨l1, l2, -, -⟩ := tG l.1 ⋯
    generalize lo l.1 = k at l1 l2
    have g : ∀ (e : Nat × Row) j, (one e.2 (k, l)).1.testBit j = (e.2.1.testBit j ^^ (e.2.1.testBit k && l.1.testBit j)) := fun e j => by
      unfold one
      by_cases q : e.2.1.testBit k = J
      · rw [if_pos q, Rj, q, Y3]
      · rw [if_neg q]
        have q : e.2.1.testBit k = false := by simpa using q
        rw [q, SR, Vc]
    refine ⟨P0.mpr ⟨?_, Rn _ _, fun e b f i => ?_⟩, fun e b => ?_⟩
    · rw [QU]
      refine Q7 (fun {e f} b i q => ?_) h.ap
      dsimp only
      rw [g, g, q.1, q.2, c e b, c f i, WM, WM]
      exact ⟨rfl, rfl⟩
    · obtain ⟨a, d, rfl⟩ := VP.mp b
      obtain rfl := P6.mp i
      dsimp only
      rw [g, l1, c a d, Bool.and_true, Bool.xor_self]
      exact ⟨rfl, rfl⟩
    · rcases PS.mp b with b | b
      · obtain ⟨a, d, rfl⟩ := VP.mp b
        dsimp only
        obtain ⟨p, m⟩ := h.lo a d
        refine ⟨by rw [g, p, c a d, WM]; rfl, fun j n => ?_⟩
        rw [g, m j n]
        by_cases q : a.2.1.testBit k = J
        · have : a.1 < k := by
            rcases Zl a.1 k with w | w | w
            · exact w
            · have := c a d; rw [w, l1] at this; cases this
            · rw [m k w] at q; cases q
          rw [l2 j ⋯, WM]; rfl
        · have q : a.2.1.testBit k = false := by simpa using q
          rw [q]; rfl
      · obtain rfl := P6.mp b
        exact ⟨l1, l2⟩
def xW(h:cE B)(r)(x):sp (rws (grow B r)) x<->sp (r.1::rws B) x:=by
 have h0:=nX (B:=B) (r:=r);unfold grow
 split
 .rename_i z;rw[z,RR]at h0;exact⟨.inl,gP λa b=>by rcases PF.mp b with rfl|b;exact h0;exact eZ b⟩
 .generalize red B r=l at h0;generalize lo l.1=k;have j:∀{M:List Nat},sp M l.1->(∀e∈B,sp M (one e.2 (k,l)).1)->∀a∈rws B,sp M a:=λ{M} f h2 a b=>by
   obtain⟨e,c,rfl⟩:=VP.mp b;have:=h2 e c;unfold one at this
   split at this
   .have:=gQ this f;rwa[jJ]at this
   .exact this
  constructor
  .refine gP λa b=>?_
   have d:sp (r.1::rws B) l.1:=by
    have f:sp (r.1::rws B) (r.1 ^^^ l.1):=.inl h0;have:=gQ f (eZ (L:=r.1::rws B) VF);rwa[xor_swap,Su,Sa]at this
   unfold rws at b;rw[VW,VU]at b;rcases PS.mp b with b|b
   .obtain⟨e,c,rfl⟩:=VP.mp b;have i:sp (r.1::rws B) e.2.1:=.inl (eZ (VP.mpr ⟨e,c,rfl⟩));show sp _ (one e.2 (k,l)).1;unfold one
    split
    .exact gQ i d
    .exact i
   .obtain rfl:a=l.1:=⇑b;exact d
  .have d:sp (rws (B.map (λe=>(e.1,one e.2 (k,l)))++[(k,l)])) l.1:=eZ (by unfold rws;simp);have g:=j d λe c=>eZ (by unfold rws;rw[VW,VU];exact VV _ (VP.mpr ⟨e,c,rfl⟩))
   refine gP λa b=>?_
   rcases PF.mp b with rfl|b
   .have:=gQ (gP g h0) d;rwa[jJ]at this
   .exact g a b
def tf(B)(r):(grow B r).length=B.length+if (red B r).1=0 then 0 else 1:=by
 unfold grow
 split<;>simp
def c5(B:cc)(rs:List Row):cc:=rs.foldl grow B
theorem lB:∀{rs:List Row}{B:cc},cE B->cE (c5 B rs)
 |[],_,h=>h
 |r::rs,_,h=>lB (rs:=rs) (ph h r)
theorem pe:∀{rs:List Row}{B:cc},cE B->∀x,sp (rws (c5 B rs)) x<->sp (rs.map (·.1)++rws B) x
 |[],_,h,x=>VA
 |r::rs,B,h,x=>by
  show sp (rws (c5 (grow B r) rs)) x<->_;rw[pe (ph h r) x];have g:=xW h r;constructor
  .refine gP λa d=>?_
   rcases PS.mp d with d|d
   .exact eZ (by rw[VK];exact VG _ (VV _ d))
   .refine gP (λb e=>?_) ((g a).mp (eZ d));refine eZ ?_;rw[VK];rcases PF.mp e with rfl|e
    .exact VF
    .exact VG _ (PO _ e)
  .refine gP λa d=>?_
   have f:∀b,b∈r.1::rws B->sp (rs.map (·.1)++rws (grow B r)) b:=λb e=>gP (λc i=>eZ (PO _ i)) ((g b).mpr (eZ e))
   rw[VK,X0]at d;rcases PF.mp d with rfl|d
   .exact f _ VF
   .rcases PS.mp d with d|d
    .exact eZ (VV _ d)
    .exact f a (VG _ d)
end ei
end
section
namespace ei
abbrev bd:List Nat->Nat->Nat
 |[],_=>0
 |a::b,z=>(if z%2=1 then a else 0) ^^^ bd b (z / 2)
def O7(a b c d:Nat):(a ^^^ b) ^^^ (c ^^^ d)=(a ^^^ c) ^^^ (b ^^^ d):=by rw[Rf,<- Rf b c d,Nat.xor_comm b c,Rf c b d,<- Rf]
theorem hL:∀(b:List Nat)(x y:Nat),bd b (x ^^^ y)=bd b x ^^^ bd b y
 |[],_,_=>(Su 0).symm
 |a::b,x,y=>by
  show(if (x ^^^ y)%2=1 then a else 0) ^^^ bd b ((x ^^^ y) / 2)=((if x%2=1 then a else 0) ^^^ bd b (x / 2)) ^^^ ((if y%2=1 then a else 0) ^^^ bd b (y / 2));rw[U5,hL b,O7];congr 1;have:=@Tn x y
  by_cases c:x%2=1<;>by_cases h2:y%2=1<;>simp[c,h2,this]
theorem oM:∀(c:List Nat)(a z:Nat),bd (c++[a]) z=bd c z ^^^ (if z.testBit c.length=J then a else 0)
 |[],a,z=>by
  show(if z%2=1 then a else 0) ^^^ 0=0 ^^^ _;rw[RR,Sa,Wq,TG];simp
 |b::c,a,z=>by
  show(if z%2=1 then b else 0) ^^^ bd (c++[a]) (z / 2)=((if z%2=1 then b else 0) ^^^ bd c (z / 2)) ^^^ _;rw[oM c a,VS,TH,Rf]
theorem v3:∀(b:List Nat)(z:Nat),(∀j,j<b.length->z.testBit j=VC)->bd b z=0
 |[],_,_=>rfl
 |a::b,z,h=>by
  have h0:=h 0 (by simp);rw[TG]at h0;show(if z%2=1 then a else 0) ^^^ bd b (z / 2)=0;rw[if_neg ⇑h0,v3 b (z / 2) λj c=>by rw[<- TH];exact h (j+1) ⇑c];rfl
def v5(b)(a):bd (b++[a]) (2 ^ b.length)=a:=by
 rw[oM,v3 b _ λj c=>by rw[Sk];simp;lia,Sg,if_pos rfl,Sa]
def il(b)(a)(h:z<2 ^ b.length):bd (b++[a]) z=bd b z:=by
 rw[oM,Qx h];simp
def sG(h:z<2 ^ (n+1)):(z.testBit n=VC/\z<2 ^ n)\/(z.testBit n=J/\∀u,u<2 ^ (n+1)->u.testBit n=J->z ^^^ u<2 ^ n):=by
 have a:∀y,y<2 ^ (n+1)->y.testBit n=VC->y<2 ^ n:=λy e c=>by
  refine Nat.lt_pow_two_of_testBit y λi hi=>?_
  rcases Vy n i with q|q
  .exact Qx (PH e (Qr ∅ q))
  .rw[show i=n by lia];exact c
 cases q:z.testBit n with
 |false=>exact .inl ⟨rfl,a z h q⟩
 |true=>exact .inr ⟨rfl,λu d b=>a _ (Q0 h d) (by rw[Rj,q,b];rfl)⟩
theorem z9:∀{B:cc}{r:Row},(∀e∈B,bd a e.2.2=e.2.1)->bd a r.2=r.1->bd a (red B r).2=(red B r).1
 |[],r,_,h=>h
 |e::B,r,b,h=>by
  rw[l9];refine z9 (λf c=>b f (VG _ c)) ?_;unfold one
  split
  .show bd a (r.2 ^^^ e.2.2)=r.1 ^^^ e.2.1;rw[hL,h,b e VF]
  .exact h
theorem uk:∀{B:cc}{r:Row},(∀e∈B,e.2.2<2 ^ n)->∃u,u<2 ^ n/\(red B r).2=r.2 ^^^ u
 |[],r,_=>⟨0,SF n,(RR _).symm⟩
 |e::B,r,b=>by
  obtain⟨u,a,h2⟩:=uk (B:=B) (r:=one r e) λf c=>b f (VG _ c)
  rw[l9,h2];unfold one
  split
  .exact⟨e.2.2 ^^^ u,Q0 (b e VF) a,by rw[<- Rf]⟩
  .exact⟨u,a,rfl⟩
def step(st:cc×List Nat)(r:Row):cc×List Nat:=(grow st.1 r,if (red st.1 r).1=0 then st.2++[(red st.1 r).2] else st.2)
def iC(rs:List Row):cc×List Nat:=rs.foldl step ([],[])
abbrev cC(a:List Nat):List Row:=a.zipIdx.map λp=>(p.1,2 ^ p.2)
def IH(b)(a):cC (b++[a])=cC b++[(a,2 ^ b.length)]:=by
 unfold cC;rw[Zb,VW];simp
def Gx(rs)(r):iC (rs++[r])=step (iC rs) r:=by unfold iC;rw[Wf];rfl
abbrev bare(b:Nat):Row:=(b,0)
structure St(as:List Nat)(B:cc)(F:List Nat):Prop where
 oV:cE B
 j3:∀e∈B,bd as e.2.2=e.2.1/\e.2.2<2 ^ as.length
 len:B.length+F.length=as.length
 gD:∀b∈F,b<2 ^ as.length
 nul:∀b∈F,bd as b=0
 fin:(c5 [] (F.map bare)).length=F.length
 tx:∀z,z<2 ^ as.length->bd as z=0->sp F z
 nq:∀z,z<2 ^ as.length->sp (rws B) (bd as z)
def MA:sp (rws (c5 [] (F.map bare))) x<->sp F x:=by
 rw[pe cE.nil,VU];have e:F.map ((λx:Row=>x.1) ∘ bare)=F:=by
  have:((λx:Row=>x.1) ∘ bare)=id:=rfl;rw[this,List.map_id]
 rw[e];show sp (F++[]) x<->_;rw[QB]
def snoc_ind{P:List Nat->Prop}(h0:P [])(b:∀as a,P as->P (as++[a]))(as):P as:=by
 have d:∀n (as:List Nat),as.length=n->P as:=by
  intro n
  induction n with
  |zero=>intro as h;rw[TQ h];exact h0
  |succ n c =>
   intro as h;rcases RY as with rfl|⟨l,a,rfl⟩
   .cases h
   .rw[RZ]at h ⊢;exact b l a (c l ⇑h)
 exact d _ as rfl
def MF (d) : St d (iC (cC d)).1 (iC (cC d)).2 := by
  refine snoc_ind (P := fun d => St d (iC (cC d)).1 (iC (cC d)).2) ?_ ?_ d
  · show St [] [] []
    refine ⟨cE.nil, (fun _ h => nomatch h), rfl, (fun _ h => nomatch h), (fun _ h => nomatch h), rfl, fun z h _ => ?_, fun _ _ => rfl⟩
    have h : z < 1 := h
    show z = 0
    lia
  · intro d a g
    rw [IH, Gx]
    generalize (iC (cC d)) = st at g
    obtain ⟨B, F⟩ := st
    dsimp only at g
    unfold step
    dsimp only
    have k : ∀ e ∈ B, bd (d ++ [a]) e.2.2 = e.2.1 := fun e i => by rw [il d a (g.j3 e i).2]; exact (g.j3 e i).1
    have l1 := z9 (r := (a, 2 ^ d.length)) k (v5 d a)
    obtain ⟨u, D, l2⟩ := uk (B := B) (r := (a, 2 ^ d.length)) fun e i => (g.j3 e i).2
    have hz := um (r := (a, 2 ^ d.length)) g.oV
    have v := tf B (a, 2 ^ d.length)
    have j : (d ++ [a]).length = d.length + 1 := by simp
    have up : ∀ {z}, z < 2 ^ d.length -> z < 2 ^ (d ++ [a]).length := fun {z} h => by rw [j, W3]; lia
    have E : (2 : Nat) ^ d.length < 2 ^ (d ++ [a]).length := by rw [j]; exact Sb ∅ (Rg _)
    have l3 : (red B (a, 2 ^ d.length)).2 < 2 ^ (d ++ [a]).length := by rw [l2]; exact Q0 E (up D)
    have l4 : (red B (a, 2 ^ d.length)).2.testBit d.length = true := by
      rw [l2, Rj]
      show ((2 ^ d.length).testBit d.length ^^ u.testBit d.length) = J
      rw [Sg, Qx D]; rfl
    have y : ∀ {z}, z < 2 ^ (d ++ [a]).length -> z.testBit d.length = J -> bd (d ++ [a]) z = bd d (z ^^^ 2 ^ d.length) ^^^ a /\ z ^^^ 2 ^ d.length < 2 ^ d.length := fun {z} h q => by
      have C : z ^^^ 2 ^ d.length < 2 ^ d.length := by
        rcases sG (n := d.length) (by rw [<- j]; exact h) with ⟨w, _⟩ | ⟨_, w⟩
        · rw [q] at w; cases w
        · exact w _ (by rw [<- j]; exact E) (Sg)
      refine ⟨?_, C⟩
      rw [<- il d a C, hL, v5, jJ]
    have low : ∀ {z}, z < 2 ^ (d ++ [a]).length -> z.testBit d.length = VC -> z < 2 ^ d.length := fun {z} h q => by
      rcases sG (n := d.length) (by rw [<- j]; exact h) with ⟨_, w⟩ | ⟨w, _⟩
      · exact w
      · rw [q] at w; cases w
    generalize A : red B (a, 2 ^ d.length) = l at l1 l2 l3 l4 hz v
    by_cases c : l.1 = 0
    · have x : grow B (a, 2 ^ d.length) = B := by unfold grow; rw [A, if_pos c]
      rw [if_pos c, x]
      refine ⟨g.oV, fun e i => ⟨k e i, up (g.j3 e i).2⟩, by rw [PI, j]; have := g.len; simp; lia, fun b m => ?_, fun b m => ?_, ?_, fun z h0 p => ?_, fun z h0 => ?_⟩
      · rcases PS.mp m with h | h
        · exact up (g.gD b h)
        · rw [P6.mp h]; exact l3
      · rcases PS.mp m with h | h
        · rw [il d a (g.gD b h)]; exact g.nul b h
        · rw [P6.mp h, l1, c]
      · rw [VW]
        show (c5 [] (F.map bare ++ [bare l.2])).length = _
        unfold c5
        rw [Wf]
        show (grow (c5 [] (F.map bare)) (bare l.2)).length = _
        rw [tf, g.fin, PI, if_neg]
        · rfl
        · intro w
          have := qs g.gD (MA.mp ((um (lB cE.nil)).mp w))
          have this : l.2 < 2 ^ d.length := this
          rw [Qx this] at l4; cases l4
      · cases q : z.testBit d.length with
        | false =>
          have := g.tx z (low h0 q) (by rw [<- il d a (low h0 q)]; exact p)
          exact gP (fun b k => eZ (VV _ k)) this
        | true =>
          have h2 : z ^^^ l.2 < 2 ^ d.length := by
            rcases sG (n := d.length) (by rw [<- j]; exact h0) with ⟨w, _⟩ | ⟨_, w⟩
            · rw [q] at w; cases w
            · exact w _ (by rw [<- j]; exact l3) l4
          have h3 := g.tx _ h2 (by rw [<- il d a h2, hL, p, l1, c]; rfl)
          have h4 : sp (F ++ [l.2]) (z ^^^ l.2) := gP (fun b k => eZ (VV _ k)) h3
          have := gQ h4 (eZ (PO F VF))
          rwa [jJ] at this
      · cases q : z.testBit d.length with
        | false => rw [il d a (low h0 q)]; exact g.nq z (low h0 q)
        | true =>
          obtain ⟨o, s⟩ := y h0 q
          rw [o]
          exact gQ (g.nq _ s) (hz.mp c)
    · have x : ∀ e ∈ grow B (a, 2 ^ d.length), bd (d ++ [a]) e.2.2 = e.2.1 /\ e.2.2 < 2 ^ (d ++ [a]).length := fun e i => by
        unfold grow at i
        rw [A, if_neg c] at i
        rcases PS.mp i with i | i
        · obtain ⟨f, t, rfl⟩ := VP.mp i
          dsimp only
          unfold one
          split
          · exact ⟨by rw [hL, k f t, l1], Q0 (up (g.j3 f t).2) l3⟩
          · exact ⟨k f t, up (g.j3 f t).2⟩
        · rw [P6.mp i]; exact ⟨l1, l3⟩
      rw [if_neg c]
      rw [if_neg c] at v
      refine ⟨ph g.oV _, x, by rw [v, j]; have := g.len; lia, fun b m => up (g.gD b m), fun b m => by rw [il d a (g.gD b m)]; exact g.nul b m, g.fin, fun z h0 p => ?_, fun z h0 => ?_⟩
      · cases q : z.testBit d.length with
        | false => exact g.tx z (low h0 q) (by rw [<- il d a (low h0 q)]; exact p)
        | true =>
          exfalso
          obtain ⟨o, s⟩ := y h0 q
          rw [p] at o
          have : bd d (z ^^^ 2 ^ d.length) = a := by
            have w : 0 ^^^ a = (bd d (z ^^^ 2 ^ d.length) ^^^ a) ^^^ a := Q9 (· ^^^ a) o
            rw [jJ, Sa] at w
            exact w.symm
          exact c (hz.mpr (by have h5 := g.nq _ s; rw [this] at h5; exact h5))
      · rw [xW g.oV]
        cases q : z.testBit d.length with
        | false => rw [il d a (low h0 q)]; exact .inl (g.nq z (low h0 q))
        | true =>
          obtain ⟨o, s⟩ := y h0 q
          rw [o]
          exact .inr (by rw [jJ]; exact g.nq _ s)
end ei
end
section
namespace ei
def vn:∀x y:Nat,(x ^^^ y)+2*(x &&& y)=x+y:=by
 intro x
 induction x using Yn with
 |ind x e =>
  intro y
  by_cases h:x=0
  .subst h;simp
  .have d:=e (x / 2) ⋯ (y / 2);have e1:(x ^^^ y) / 2=x / 2 ^^^ y / 2:=U5;have e2:(x &&& y) / 2=x / 2 &&& y / 2:=T1;have e3:(x ^^^ y)%2=(x%2+y%2)%2:=by
    have:=@Tn x y;rcases PV x with a|a<;>rcases PV y with b|b<;>rcases PV (x ^^^ y) with c|c<;>simp[a,b,c]at this ⊢
   have e4:(x &&& y)%2=(x%2)*(y%2):=by
    have:=@Sv x y;rcases PV x with a|a<;>rcases PV y with b|b<;>rcases PV (x &&& y) with c|c<;>simp[a,b,c]at this ⊢
   rw[<- e1,<- e2]at d;revert d e3 e4;generalize x ^^^ y=p;generalize x &&& y=q;intro d e3 e4;rcases PV x with a|a<;>rcases PV y with b|b<;>rw[a,b]at e3 e4<;>lia
abbrev ft:List Nat->Nat
 |[]=>0
 |a::b=>a ^^^ ft b
theorem qN(j):∀L:List Nat,(ft L).testBit j=decide ((L.countP λa=>a.testBit j)%2=1)
 |[]=>by simp[ft]
 |a::L=>by
  rw[ft,Rj,qN j L,Wz];cases a.testBit j with
  |false=>simp
  |true =>
   simp only[QI,Bool.true_xor];rcases PV (L.countP λa=>a.testBit j) with h|h
   .rw[h,show(List.countP (λa=>a.testBit j) L+1)%2=1 by lia];rfl
   .rw[h,show(List.countP (λa=>a.testBit j) L+1)%2=0 by lia];rfl
theorem kY:∀b:List Nat,bd b 0=0
 |[]=>rfl
 |a::b=>by show(if 0%2=1 then a else 0) ^^^ bd b (0 / 2)=0;rw[if_neg ∅,Nat.zero_div,kY b];rfl
theorem r5:∀(b:List Nat)(j:Nat),bd b (2 ^ j)=b.getD j 0
 |[],j=>by simp[bd]
 |a::b,0=>by
  show(if 1%2=1 then a else 0) ^^^ bd b (1 / 2)=a;rw[if_pos ∅,show 1 / 2=0 by decide,kY,RR]
 |a::b,j+1=>by
  show(if 2 ^ (j+1)%2=1 then a else 0) ^^^ bd b (2 ^ (j+1) / 2)=(a::b).getD (j+1) 0;have c:2 ^ (j+1)%2=0:=(by rw[W3];lia);have h2:2 ^ (j+1) / 2=2 ^ j:=(by rw[W3];lia);rw[if_neg ⋯,h2,r5 b j,Sa];rfl
theorem v7(b):∀L:List Nat,bd b (ft L)=ft (L.map (bd b))
 |[]=>kY b
 |a::L=>by rw[ft,hL,v7 b L,VK,ft]
section
variable{α:Type}[DecidableEq α]
noncomputable abbrev ba(U:List α)(x:α):Nat:=U.idxOf x
def lE{U:List α}(a:U.Nodup)(h:i<U.length):ba U U[i]=i:=a.idxOf_getElem i h
def bh(U xs:List α):Nat:=ft (xs.map λx=>2 ^ ba U x)
def ko{U:List α}(j)(f:j<U.length)(b:xs.Nodup)(d:U.Nodup):(bh U xs).testBit j=decide (U[j]∈xs):=by
 unfold bh;rw[qN,RL];have e:xs.countP ((λa=>a.testBit j) ∘ λx=>2 ^ U.idxOf x)=xs.countP λx=>x==U[j]:=by
  refine RH λx b=>?_
  simp only[Xq,Sk,PM,P8];constructor
  .intro h;have:U[U.idxOf x]'⋯=x:=Tc ⋯;rw[<- this];congr 1
  .intro h;rw[h];exact d.idxOf_getElem j f
 have c:∀{xs:List α}(y:α),xs.Nodup->xs.countP (λx=>x==y)=if y∈xs then 1 else 0:=λ{xs} y=>by
  induction xs with
  |nil=>intro _;rfl
  |cons x xs i =>
   intro g;obtain⟨k,l⟩:=Qk.mp g;rw[Wz,i l]
   by_cases q:x=y
   .subst q;simp[k]
   .simp[q,QG q]
 rw[e,c _ b]
 by_cases h:U[j]∈xs
 .rw[if_pos h,decide_eq_true h];rfl
 .rw[if_neg h,decide_eq_false h];rfl
theorem iG:∀{xs:List α},(∀x∈xs,x∈U)->bh U xs<2 ^ U.length
 |[],_=>SF _
 |x::xs,h=>by
  show 2 ^ U.idxOf x ^^^ bh U xs<2 ^ U.length;refine Q0 (Sb ∅ (Rr (h x VF))) (iG λy a=>h y (VG _ a))
theorem tS(a:U.Nodup):∀{xs:List α},xs.Nodup->(∀x∈xs,x∈U)->(xs.map λx=>((2 ^ ba U x:Nat):Int)).sum=(bh U xs:Int)
 |[],_,_=>rfl
 |x::xs,f,h=>by
  obtain⟨c,h2⟩:=Qk.mp f;have g:=h x VF;have b:=Rr g;rw[VK,UJ,tS a h2 λy j=>h y (VG _ j)];show _=((2 ^ ba U x ^^^ bh U xs:Nat):Int);have e:(bh U xs).testBit (ba U x)=false:=(by rw[ko _ b h2 a,Tc b,decide_eq_false c]);have d:2 ^ ba U x &&& bh U xs=0:=by
   apply Sd;intro i;rw[U6,Sk,Sn]
   by_cases q:ba U x=i
   .rw[<- q,e];simp
   .simp[q]
  have:=vn (2 ^ ba U x) (bh U xs);rw[d]at this;lia
def r4{c:List α}(b:∀x∈c,x∈U):bd (U.map h) (bh U c)=ft (c.map h):=by
 show bd _ (ft (c.map λx=>2 ^ ba U x))=_;rw[v7,VU];refine Q9 ft (Q8 λx d=>?_);have a:=Rr (b x d);show bd _ (2 ^ U.idxOf x)=_;rw[r5,WG,PX,PG a,Tc a];rfl
def BW{sd:α->List α}{c:List α}(b:V.Nodup)(e:∀x∈c,(sd x).Nodup)(d:j<V.length):(ft (c.map λx=>bh V (sd x))).testBit j=decide ((c.countP λx=>decide (V[j]∈sd x))%2=1):=by
 rw[qN,RL];have e2:c.countP ((λa=>a.testBit j) ∘ λx=>bh V (sd x))=c.countP λx=>decide (V[j]∈sd x):=by
  refine RH λx f=>?_
  show(bh V (sd x)).testBit j=J<->_;rw[ko j d (e x f) b]
 rw[e2]
def KW{sd:α->List α}(f:V.Nodup)(g:∀x∈c,x∈U)(e:∀x∈c,(sd x).Nodup/\∀y∈sd x,y∈V)(h2:∀y,(c.countP λx=>decide (y∈sd x))%2=0):
  bd (U.map λx=>bh V (sd x)) (bh U c)=0:=by
 rw[r4 g];apply Sd;intro j;rw[Sn]
 by_cases d:j<V.length
 .rw[BW f (λx b=>(e x b).1) d,h2];rfl
 .rw[qN,RL];have e2:c.countP ((λa=>a.testBit j) ∘ λx=>bh V (sd x))=0:=by
   rw[S2];intro x b;show ¬(bh V (sd x)).testBit j=J;rw[Qx (PH (iG (e x b).2) (Qr ∅ (SV d)))];simp
  rw[e2];rfl
def IP{U xs ys:List α}(c:U.Nodup)(e:xs.Nodup)(b:ys.Nodup)(h:∀x,x∈xs<->x∈ys)(d:∀x∈xs,x∈U):bh U xs=bh U ys:=by
 apply Sd;intro j
 by_cases a:j<U.length
 .rw[ko j a e c,ko j a b c];exact decide_eq_decide.mpr (h _)
 .have p:=Qr (n:=2) ∅ (SV a);rw[Qx (PH (iG d) p),Qx (PH (iG λy b=>d y ((h y).mpr b)) p)]
def pT{U:List α}(d:U.Nodup)(f:b<2 ^ U.length):bh U (U.filter λc=>b.testBit (ba U c))=b:=by
 apply Sd;intro j
 by_cases a:j<U.length
 .rw[ko j a (d.filter _) d];have e:(U[j]∈U.filter λc=>b.testBit (ba U c))<->b.testBit j=true:=(by rw[P4,lE d a];exact⟨λh=>h.2,λh=>⟨So a,h⟩⟩);cases q:b.testBit j with
  |true=>exact decide_eq_true (e.mpr q)
  |false=>exact decide_eq_false λz=>by rw[e.mp z]at q;cases q
 .have p:=Qr (n:=2) ∅ (SV a);rw[Qx (PH (iG λx g=>(P4.mp g).1) p),Qx (PH f p)]
end
end ei
end
section
namespace ei
theorem Aa:∀{B:cc}(r:Row),(∀e∈B,bd a e.2.2=e.2.1)->bd a (red B r).2 ^^^ (red B r).1=bd a r.2 ^^^ r.1
 |[],_,_=>rfl
 |e::B,r,h=>by
  rw[l9,Aa (one r e) λf b=>h f (VG _ b)];unfold one
  split
  .show bd a (r.2 ^^^ e.2.2) ^^^ (r.1 ^^^ e.2.1)=_;rw[hL,h e VF,BX]
  .rfl
theorem sF(x y:Nat):∀xs:List Nat,(xs.countP λj=>(x ^^^ y).testBit j)%2=((xs.countP λj=>x.testBit j)+xs.countP λj=>y.testBit j)%2
 |[]=>rfl
 |j::xs=>by
  have a:=sF x y xs;simp only[Rj]at a;simp only[Wz,Rj];cases x.testBit j<;>cases y.testBit j<;>simp<;>lia
theorem sE{xs:List Nat}:∀{L:List Nat}{x:Nat},(∀a∈L,(xs.countP λj=>a.testBit j)%2=0)->sp L x->(xs.countP λj=>x.testBit j)%2=0
 |[],x,_,h=>by
  have h:x=0:=h;subst h;simp
 |a::L,x,c,h=>by
  have h:sp L x\/sp L (x ^^^ a):=h;have d:=λb f=>c b (VG _ f)
  rcases h with h|h
  .exact sE d h
  .have e:=sE d h;have h2:=c a VF;rw[sF]at e;lia
theorem w4:∀{B:cc},cE B->∀e∈B,∀f∈B,e≠f->e.2.1.testBit f.1=VC
 |[],_,_,h,_,_,_=>nomatch h
 |g::B,c,e,b,f,a,n=>by
  have d:=(P7.mp c.ap).1;rcases PF.mp b with rfl|b
  .rcases PF.mp a with rfl|a
   .exact absurd rfl n
   .exact(d f a).1
  .rcases PF.mp a with z|a
   .rw[z];exact(d e b).2
   .exact w4 c.tail e b f a n
abbrev f5(B:cc)(l:Nat):List Nat:=l::(B.filter λe=>e.2.1.testBit l).map (·.1)
def nodup_keys(h:cE B):B.Nodup:=by
 have:=lj h;rw[QC,QU]at this;exact QC.mpr (this.imp λq z=>q (by rw[z]))
def O2{q:Nat}(h:cE B)(c:∀e∈B,q.testBit e.1=VC)(a:q.testBit l=J):(f5 B l).Nodup:=by
 refine Qk.mpr ⟨λz=>?_,(lj h).sublist (RO.map _)⟩;obtain⟨e,b,rfl⟩:=VP.mp z;rw[c e (P4.mp b).1]at a;cases a
def O4(h:cE B)(a:e∈B):((f5 B l).countP λj=>e.2.1.testBit j)%2=0:=by
 unfold f5;rw[Wz,RL];have k:(B.filter λf=>f.2.1.testBit l).countP ((λj=>e.2.1.testBit j) ∘ λf=>f.1)=if e.2.1.testBit l=J then 1 else 0:=by
  have k1:(B.filter λf=>f.2.1.testBit l).countP ((λj=>e.2.1.testBit j) ∘ λf=>f.1)=(B.filter λf=>f.2.1.testBit l).count e:=by
   refine RH λf b=>?_
   show e.2.1.testBit f.1=J<->(f==e)=J;rw[P8];constructor
   .intro z;apply Qv;intro w;rw[w4 h e a f (P4.mp b).1 λx=>w x.symm]at z;cases z
   .rintro rfl;exact(h.lo f a).1
  rw[k1];have c:=(nodup_keys h).filter λf:Nat×Row=>f.2.1.testBit l
  split
  .rename_i q;have d:=YF.mp c e;have h2:=Zc.mpr (show e∈B.filter λf=>f.2.1.testBit l from P4.mpr ⟨a,q⟩);lia
  .rename_i q;exact Td.mpr λz=>q (P4.mp z).2
 rw[k]
 split<;>rfl
def O1{q:Nat}(c:∀e∈B,q.testBit e.1=VC)(b:q.testBit l=J):(f5 B l).countP (λj=>q.testBit j)=1:=by
 unfold f5;rw[Wz,b,RL,S2.mpr]
 .rfl
 .intro e a;show ¬q.testBit e.1=J;rw[c e (P4.mp a).1]
  decide
def O3(h:cE B)(b:Nat)(i:(red B (b,c)).1.testBit l=J):(∀x,sp (rws B) x->((f5 B l).countP λj=>x.testBit j)%2=0)/\((f5 B l).countP λj=>b.testBit j)%2=1/\(f5 B l).Nodup:=by
 have k:=λe d=>qd (r:=(b,c)) h.e1 e d
 have f:∀x,sp (rws B) x->((f5 B l).countP λj=>x.testBit j)%2=0:=λx n=>sE (λa m=>by
  obtain⟨e,d,rfl⟩:=VP.mp m;exact O4 h d) n
 refine⟨f,?_,O2 h k i⟩;have g:=f _ (nX (B:=B) (r:=(b,c)));have h2:=O1 k i;rw[sF]at g;dsimp only at g h2;lia
end ei
end
section
namespace d1
open PySem PySem.SetTable
def fv(xs:Array Nat):Prop:=∀(i j a b:Nat),i<j->xs[i]?=Z a->xs[j]?=Z b->a<b
def q3(xs:Array Nat)(j p:Nat):Prop:=∀(q a:Nat),q<p->xs[q]?=Z a->a<j
def qX(xs:Array Nat)(j p:Nat):Prop:=∀(q a:Nat),p<=q->xs[q]?=Z a->j<=a
theorem te(g:fv xs)(j):∀(fuel lo hi:Nat),hi-lo<=fuel->lo<=hi->hi<=xs.size->q3 xs j lo->qX xs j hi ->
  below.go xs j fuel lo hi<=xs.size/\q3 xs j (below.go xs j fuel lo hi)/\qX xs j (below.go xs j fuel lo hi)
 |0,lo,hi,h,h2,h3,f,d=>by
  have e:lo=hi:=⋯;subst e;exact⟨h3,f,d⟩
 |fuel+1,lo,hi,h,h2,h3,f,d=>by
  unfold below.go
  by_cases k:lo<hi
  .rw[if_pos k];have l:lo<=(lo+hi) / 2:=⋯;have m2:(lo+hi) / 2<hi:=⋯;generalize (lo+hi) / 2=m at l m2 ⊢;have n:m<xs.size:=⋯;have c:xs[m]?=Z xs[m]:=PK n;have o:xs.getD m j=xs[m]:=(by simp[WJ,n]);simp only[o]
   by_cases i:xs[m]<j
   .rw[if_pos i];refine te g j fuel _ _ (QV (PH (T3 k (Uv l)) h)) ⋯ h3 ?_ d;intro q a p b
    by_cases e:q=m
    .subst e;rw[c]at b;cases b;exact i
    .have:=g q m a _ ⋯ b c;lia
   .rw[if_neg i];refine te g j fuel _ _ (QV (PH (SS l m2) h)) ⋯ ⋯ f ?_;intro q a p b
    by_cases e:q=m
    .subst e;rw[c]at b;cases b;lia
    .have:=g m q _ a ⋯ c b;lia
  .rw[if_neg k];have e:lo=hi:=⋯;subst e;exact⟨h3,f,d⟩
def mQ(d:fv xs)(j):below xs j<=xs.size/\q3 xs j (below xs j)/\qX xs j (below xs j):=by
 unfold below;refine te d j _ _ _ ⋯ ⋯ ⋯ (λq a c _=>⋯) (λq a c b=>?_);have:=(P9.mp b).1;lia
def below_at(d:fv xs)(h:xs[i]?=Z j):below xs j=i:=by
 obtain⟨g,h2,h3⟩:=mQ d j
 by_cases e:i<below xs j
 .exact absurd (h2 i j e h) (Q5 _)
 .by_cases f:below xs j=i
  .exact f
  .have hi:=(P9.mp h).1;have c:xs[below xs j]?=Z (xs[below xs j]'⋯):=PK ⋯;have a:=h3 _ _ (PE _) c;have b:=d (below xs j) i _ _ ⋯ c h;lia
def kB{t:Xd}(a:fv t.place)(h:t.place[i]?=Z j):t.slot j=.live i:=by
 unfold slot;rw[below_at a h];simp[h]
def ej(t:Xd)(j:Nat):Prop:=(∃i:Nat,t.place[i]?=Z j)\/∃i:Nat,t.dummies[i]?=Z j
def AR{t:Xd}(h:∀i:Nat,t.place[i]?≠Z j):t.slot j=if has t.dummies j then .dummy else .empty:=by
 unfold slot;have h0:(t.place[below t.place j]?==Z j)=false:=by rw[beq_eq_false_iff_ne];exact h _
 simp only[h0,PD,PZ]
def x1(a:fv xs){i j:Nat}(h:xs[i]?=Z j):has xs j=true:=by
 unfold has;rw[below_at a h,h];simp
def x2(h:∀i:Nat,xs[i]?≠Z j):has xs j=false:=by
 unfold has;rw[beq_eq_false_iff_ne];exact h _
def Ms(h:¬ej t j):t.slot j=.empty:=by
 rw[AR λi e=>h (.inl ⟨i,e⟩),x2 λi e=>h (.inr ⟨i,e⟩)];rfl
def AQ{t:Xd}(a:fv t.dummies){i j:Nat}(b:∀i:Nat,t.place[i]?≠Z j)(h:t.dummies[i]?=Z j):t.slot j=.dummy:=by
 rw[AR b,x1 a h];rfl
abbrev fz(m:Nat)(p:Probe):Probe :=
 if p.more>0 then { p with j:=p.j+1,more:=p.more-1 } else
 { p with j:=(leap m p.i p.perturb).1,more:=runEnd m (leap m p.i p.perturb).1-(leap m p.i p.perturb).1,i:=(leap m p.i p.perturb).1,perturb:=(leap m p.i p.perturb).2 }
def rd(t:Xd)(p):t.advance p=fz t.mask p:=rfl
abbrev GD(m:Nat)(h:Int):Probe:={ j:=bits h%(m+1),more:=runEnd m (bits h%(m+1))-bits h%(m+1),i:=bits h%(m+1),perturb:=bits h,dummy:=Y }
def pr(m:Nat)(h:Int):Nat->Probe
 |0=>GD m h
 |n+1=>fz m (pr m h n)
def a7(m:Nat)(h:Int)(n:Nat):Nat:=(pr m h n).j
def qg(h:i<=m):runEnd m i<=m/\i<=runEnd m i/\runEnd m i<=i+9:=by
 unfold runEnd;split<;>lia
def yy(m i p):(leap m i p).1<=m:=by
 unfold leap;have:(i*5+1+p / 32)%(m+1)<m+1:=Vu _ ⋯;show(i*5+1+p / 32)%(m+1)<=m;lia
theorem zM(m)(h):∀n,(pr m h n).j+(pr m h n).more<=m
 |0=>by
  have:bits h%(m+1)<m+1:=Vu _ ⋯;have:=qg (m:=m) (i:=bits h%(m+1)) ⋯;show bits h%(m+1)+(runEnd m (bits h%(m+1))-bits h%(m+1))<=m;lia
 |n+1=>by
  have a:=zM m h n;show(fz m (pr m h n)).j+(fz m (pr m h n)).more<=m;unfold fz
  split
  .show(pr m h n).j+1+((pr m h n).more-1)<=m;lia
  .have:=yy m (pr m h n).i (pr m h n).perturb;have:=qg this;show(leap m (pr m h n).i (pr m h n).perturb).1+(runEnd m (leap m (pr m h n).i (pr m h n).perturb).1-(leap m (pr m h n).i (pr m h n).perturb).1)<=m;lia
def uN(m)(h)(n):a7 m h n<=m:=by have:=zM m h n;unfold a7;lia
abbrev run(m:Nat)(h:Int):Nat->Nat×Nat
 |0=>(bits h%(m+1),bits h)
 |r+1=>leap m (run m h r).1 (run m h r).2
def uw(m)(h):∀r,(run m h r).1<=m
 |0=>by have:bits h%(m+1)<m+1:=Vu _ ⋯;show bits h%(m+1)<=m;lia
 |r+1=>yy _ _ _
def st(m:Nat)(h:Int)(r d:Nat):Probe:={ j:=(run m h r).1+d,more:=runEnd m (run m h r).1-(run m h r).1-d,i:=(run m h r).1,perturb:=(run m h r).2,dummy:=Y }
def len(m:Nat)(h:Int)(r:Nat):Nat:=runEnd m (run m h r).1-(run m h r).1
def HU(m)(h)(r):len m h r<=9:=by have:=qg (uw m h r);unfold len;lia
def vI(a:d<len m h r):fz m (st m h r d)=st m h r (d+1):=by
 unfold fz;have:(st m h r d).more>0:=by exact Uw a
 rw[if_pos this];show Probe.mk _ _ _ _ _=Probe.mk _ _ _ _ _;congr 1
def B7:fz m (st m h r (len m h r))=st m h (r+1) 0:=by
 unfold fz;have:¬(st m h r (len m h r)).more>0:=by show ¬(runEnd m (run m h r).1-(run m h r).1-len m h r>0);unfold len;lia
 rw[if_neg this];rfl
theorem rr(m)(h):∀r:Nat,∃n,n<=10*r/\pr m h n=st m h r 0/\∀k,k<n->∃f d',f<r/\d'<=len m h f/\pr m h k=st m h f d'
 |0=>⟨0,PE _,rfl,λk g=>absurd g (WY k)⟩
 |r+1=>by
  obtain⟨n,p,e,g⟩:=rr m h r;have walk:∀d,d<=len m h r->pr m h (n+d)=st m h r d:=by
   intro d
   induction d with
   |zero=>intro _;exact e
   |succ d i =>
    intro j;show fz m (pr m h (n+d))=_;rw[i ⋯];exact vI ⋯
  have o:=HU m h r;refine⟨n+len m h r+1,⋯,?_,λk l=>?_⟩
  .show fz m (pr m h (n+len m h r))=_;rw[walk _ (PE _)];exact B7
  .by_cases c:k<n
   .obtain⟨f,d',a,b,c⟩:=g k c;exact⟨f,d',⋯,b,c⟩
   .refine⟨r,k-n,⋯,⋯,?_⟩;have:=walk (k-n) ⋯;rw[show n+(k-n)=k by lia]at this;exact this
def CG(m)(h)(r d)(g:d<=len m h r):∃n,n<=10*r+d/\pr m h n=st m h r d/\∀k,k<n->∃f d',d'<=len m h f/\(f<r\/(f=r/\d'<d))/\pr m h k=st m h f d':=by
 obtain⟨n,o,e,i⟩:=rr m h r;have walk:∀d,d<=len m h r->pr m h (n+d)=st m h r d:=by
  intro d
  induction d with
  |zero=>intro _;exact e
  |succ d j =>
   intro g;show fz m (pr m h (n+d))=_;rw[j ⋯];exact vI ⋯
 refine⟨n+d,⋯,walk d g,λk l=>?_⟩
 by_cases c:k<n
 .obtain⟨f,d',a,b,c⟩:=i k c;exact⟨f,d',b,.inl a,c⟩
 .refine⟨r,k-n,⋯,.inr ⟨rfl,⋯⟩,?_⟩;have:=walk (k-n) ⋯;rw[show n+(k-n)=k by lia]at this;exact this
def CV(h):bits h<2 ^ 64:=by
 unfold bits;have a:=U7 h (show(2 ^ 64:Int)≠0 by decide);have h2:=Ug h (show(0:Int)<2 ^ 64 by decide);have e:((2:Int) ^ 64)=18446744073709551616:=by decide
 rw[e]at a h2 ⊢;lia
theorem zE(m)(h):∀r,(run m h r).2=bits h / 32 ^ r
 |0=>by simp[run]
 |r+1=>by
  show(run m h r).2 / 32=_;rw[zE m h r,Nat.div_div_eq_div_mul,W3]
def JZ(m)(h)(r)(a:13<=r):(run m h r).2=0:=by
 rw[zE];refine Nat.div_eq_of_lt (PH (CV h) (PW (show 2 ^ 64<=32 ^ 13 by decide) (Qr ∅ a)))
abbrev fY(m:Nat):Nat->Nat->Nat
 |0,i=>i
 |n+1,i=>(fY m n i*5+1)%(m+1)
theorem Ap(m)(h):∀n,(run m h (13+n)).1=fY m n (run m h 13).1
 |0=>rfl
 |n+1=>by
  show(leap m (run m h (13+n)).1 (run m h (13+n)).2).1=_;rw[Ap m h n,JZ m h (13+n) ⋯];rfl
abbrev nQ(m:Nat):Nat->Nat->List Nat
 |0,_=>[]
 |n+1,i=>i::nQ m n ((i*5+1)%(m+1))
theorem zj(m):∀n i,fY m n ((i*5+1)%(m+1))=fY m (n+1) i
 |0,i=>rfl
 |n+1,i=>by
  show(fY m n ((i*5+1)%(m+1))*5+1)%(m+1)=(fY m (n+1) i*5+1)%(m+1);rw[zj m n i]
theorem pZ(m):∀a b i,fY m (a+b) i=fY m b (fY m a i)
 |a,0,i=>rfl
 |a,b+1,i=>by
  show(fY m (a+b) i*5+1)%(m+1)=_;rw[pZ m a b i];rfl
theorem yW(m):∀n i j,j∈nQ m n i->∃k,k<n/\fY m k i=j
 |0,i,j,h=>by simp[nQ]at h
 |n+1,i,j,h=>by
  rcases PF.mp h with e|h
  .exact⟨0,⋯,e.symm⟩
  .obtain⟨k,a,e⟩:=yW m n _ j h;exact⟨k+1,⋯,by rw[<- zj];exact e⟩
def cR(m:Nat):Prop:=m=7\/m=15\/m=31\/m=63\/m=127\/m=255\/m=511\/m=1023\/m=2047
abbrev r7(l:List Nat):Nat:=l.foldl (λa j=>a ||| 2 ^ j) 0
def CU(l:List Nat)(j)(h:(r7 l).testBit j=J):j∈l:=by
 have c:∀(l:List Nat)(a:Nat),(l.foldl (λa j=>a ||| 2 ^ j) a).testBit j=J->a.testBit j=J\/j∈l:=λl=>by
  induction l with
  |nil=>exact λa h=>.inl h
  |cons x l b =>
   intro a h;rcases b _ h with q|q
   .rw[Nat.testBit_or,Rk]at q;rcases q with q|q
    .exact .inl q
    .rw[Sk,PM]at q;exact .inr (q▸VF)
   .exact .inr (VG _ q)
 rcases c l 0 h with q|q
 .rw[Sn]at q;cases q
 .exact q
def D1(m:Nat):Bool:=r7 (nQ m (m+1) 0)==2 ^ (m+1)-1
def cR.eH(h:cR m):D1 m=J/\fY m (m+1) 0=0:=by
 rcases h with rfl|rfl|rfl|rfl|rfl|rfl|rfl|rfl|rfl<;>exact⟨by decide +kernel,by decide +kernel⟩
def cR.z5(h:cR m)(a:j<=m):∃k,k<m+1/\fY m k 0=j:=by
 have e:r7 (nQ m (m+1) 0)=2 ^ (m+1)-1:=P8.mp h.eH.1;refine yW m (m+1) 0 j (CU _ _ ?_);rw[e,Nat.testBit_two_pow_sub_one];exact decide_eq_true ⋯
def cR.reach(h:cR m)(hi:i<=m)(f:j<=m):∃k,k<m+1/\fY m k i=j:=by
 obtain⟨a,g,d⟩:=h.z5 hi;obtain⟨b,l,e⟩:=h.z5 f
 by_cases c:a<=b
 .refine⟨b-a,⋯,?_⟩;rw[<- d,<- pZ,show a+(b-a)=b by lia];exact e
 .refine⟨m+1-a+b,⋯,?_⟩;rw[<- d,<- pZ,show a+(m+1-a+b)=(m+1)+b by lia,pZ,h.eH.2];exact e
def cR.met(b:cR m)(h)(a:j<=m):∃r,r<m+14/\(run m h r).1=j:=by
 obtain⟨k,c,e⟩:=b.reach (uw m h 13) a;exact⟨13+k,⋯,by rw[Ap];exact e⟩
def cR.IA(c:cR m)(h)(b:j<=m):∃n,n<10*turns m/\a7 m h n=j:=by
 obtain⟨r,f,e⟩:=c.met h b;obtain⟨n,d,a,_⟩:=rr m h r;refine⟨n,by unfold turns;lia,?_⟩;unfold a7;rw[a];show(run m h r).1+0=j;lia
def least{P:Nat->Prop}(n)(h:P n):∃k,k<=n/\P k/\∀q,q<k->¬P q:=by
 induction n using Yn with
 |ind n g =>
  by_cases c:∃q,q<n/\P q
  .obtain⟨q,f,e⟩:=c;obtain⟨k,a,b,d⟩:=g q f e;exact⟨k,⋯,b,d⟩
  .exact⟨n,PE _,h,λq f e=>c ⟨q,f,e⟩⟩
theorem wI:∀(k:Nat)(l:List Nat),(∀j,j<k->j∈l)->k<=l.length
 |0,_,_=>PN _
 |k+1,l,h=>by
  have a:=h k (Rg k);have b:=wI k (l.erase k) λj c=>(YD ⋯).mpr (h j ⋯)
  rw[S7 a]at b;have:=Yg a;lia
def hole(d:t.place.size+t.dummies.size<=t.mask):∃j,j<=t.mask/\¬ej t j:=by
 by_cases c:∃j,j<=t.mask/\¬ej t j
 .exact c
 .exfalso;have a:=wI (t.mask+1) (t.place.toList++t.dummies.toList) λj b=>by
   have o:ej t j:=Qv λn=>c ⟨j,⋯,n⟩
   rcases o with⟨i,e⟩|⟨i,e⟩
   .exact VV _ (QX (by rw[P2];exact e))
   .exact PO _ (QX (by rw[P2];exact e))
  rw[PI,VH,VH]at a;lia
def xA(c:cR t.mask)(f:t.place.size+t.dummies.size<=t.mask)(h):
  ∃N,N<10*turns t.mask/\¬ej t (a7 t.mask h N)/\∀k,k<N->ej t (a7 t.mask h k):=by
 obtain⟨j,a,d⟩:=hole f;obtain⟨n,i,e⟩:=c.IA h a;obtain⟨N,g,h2,h3⟩:=least (P:=λn=>¬ej t (a7 t.mask h n)) n (by rw[e];exact d);exact⟨N,⋯,h2,λk b=>Qv (h3 k b)⟩
abbrev fL(p:Probe)(d:Option Nat):Probe:={ p with dummy:=d }
def rf(m)(p)(d):fz m (fL p d)=fL (fz m p) d:=by
 unfold fz fL
 by_cases c:p.more>0
 .rw[if_pos c];simp only[c,QI]
 .rw[if_neg c];simp only[c,PZ]
def jM(t:Xd)(h:Int)(N:Nat)(d:Option Nat):Prop:=∀j,d=Z j->∃k,k<N/\j=a7 t.mask h k/\∃i:Nat,t.dummies[i]?=Z j
theorem zO (r : fv t.place) (y : fv t.dummies) (x : ∀ i l j : Nat, t.place[i]? = Z j -> t.dummies[l]? = Z j -> False) (z : ¬ ej t (a7 t.mask h N)) (A : ∀ k, k < N -> ej t (a7 t.mask h k)) :
    ∀ (fuel n : Nat) (d : Option Nat), n <= N -> N - n < fuel -> jM t h N d ->
      (∃ k i d', n <= k /\ k < N /\ t.place[i]? = Z (a7 t.mask h k) /\ hashAt i = h /\ (∀ m, n <= m -> m < k -> ∀ l : Nat, t.place[l]? = Z (a7 t.mask h m) -> hashAt l ≠ h) /\ jM t h N d' /\ probe.go t hashAt h fuel (fL (pr t.mask h n) d) = Z (.candidate (a7 t.mask h k) i (fL (pr t.mask h (k + 1)) d')))
      \/ ((∀ m, n <= m -> m < N -> ∀ l : Nat, t.place[l]? = Z (a7 t.mask h m) -> hashAt l ≠ h) /\ ∃ d', jM t h N d' /\ probe.go t hashAt h fuel (fL (pr t.mask h n) d) = Z (.empty (a7 t.mask h N) d'))
  | 0, n, d, E, h2, _ => by lia
  | fuel + 1, n, d, E, h2, w => by
    unfold probe.go
    by_cases c : n = N
    · subst c
      have e : t.slot (fL (pr t.mask h n) d).j = .empty := Ms z
      rw [e]
      exact .inr ⟨fun m a b => by lia, d, w, rfl⟩
    · have next : ∀ o, jM t h N o -> (∀ l : Nat, t.place[l]? = Z (a7 t.mask h n) -> hashAt l ≠ h) -> ∀ R, R = probe.go t hashAt h fuel (fL (pr t.mask h (n + 1)) o) ->
          (∃ k i d', n <= k /\ k < N /\ t.place[i]? = Z (a7 t.mask h k) /\ hashAt i = h /\ (∀ m, n <= m -> m < k -> ∀ l : Nat, t.place[l]? = Z (a7 t.mask h m) -> hashAt l ≠ h) /\ jM t h N d' /\ R = Z (.candidate (a7 t.mask h k) i (fL (pr t.mask h (k + 1)) d')))
          \/ ((∀ m, n <= m -> m < N -> ∀ l : Nat, t.place[l]? = Z (a7 t.mask h m) -> hashAt l ≠ h) /\ ∃ d', jM t h N d' /\ R = Z (.empty (a7 t.mask h N) d')) := fun o G B R hR => by
        rcases zO r y x z A fuel (n + 1) o ⋯ ⋯ G with ⟨k, H, d', a, b, e0, e1, f, u, g⟩ | ⟨f, d', u, g⟩
        · refine .inl ⟨k, H, d', by lia, b, e0, e1, fun m p1 p2 l p3 => ?_, u, hR.trans g⟩
          by_cases s : m = n
          · subst s; exact B l p3
          · exact f m ⋯ p2 l p3
        · refine .inr ⟨fun m p1 p2 l p3 => ?_, d', u, hR.trans g⟩
          by_cases s : m = n
          · subst s; exact B l p3
          · exact f m ⋯ p2 l p3
      rcases A n ⋯ with ⟨i, hi⟩ | ⟨i, hi⟩
      · have e : t.slot (fL (pr t.mask h n) d).j = .live i := kB r hi
        rw [e]
        by_cases q : hashAt i = h
        · refine .inl ⟨n, i, d, PE _, by lia, hi, q, fun m a b => by lia, w, ?_⟩
          simp only [q, beq_self_eq_true, QI]
          rw [rd, rf]; rfl
        · have I : (hashAt i == h) = false := by rw [beq_eq_false_iff_ne]; exact q
          simp only [I, PD, PZ]
          refine next d w (fun l v => ?_) _ (by rw [rd, rf]; rfl)
          have p := kB r v
          rw [kB r hi] at p
          injection p with p
          rw [<- p]; exact q
      · have C : ∀ i : Nat, t.place[i]? ≠ Z (a7 t.mask h n) := fun l e => x l i _ e hi
        have e : t.slot (fL (pr t.mask h n) d).j = .dummy := AQ y C hi
        rw [e]
        refine next (Z (a7 t.mask h n)) (fun j D => ?_) (fun l v => absurd v (C l)) _ ?_
        · cases D; exact ⟨n, by lia, rfl, i, hi⟩
        · show probe.go t hashAt h fuel (t.advance (fL (pr t.mask h n) (Z (a7 t.mask h n)))) = _
          rw [rd, rf]; rfl
def iD{α:Type}(xs)(p)(x:α)(f:p<=xs.size)(i):
  (insertAt xs p x)[i]?=if i<p then xs[i]? else if i=p then Z x else xs[i-1]?:=by
 unfold insertAt;rw[Yr,Array.getElem?_push,Sw,Sw,Qh,Qu];have e:min p xs.size-0=p:=by lia
 rw[e,SW]
 by_cases a:i<p
 .simp only[if_pos (show i<p+1 by lia),if_neg (show ¬i=p by lia),if_pos a]
 .by_cases b:i=p
  .simp only[if_pos (show i<p+1 by lia),if_neg a,if_pos b]
  .simp only[if_neg (show ¬i<p+1 by lia),if_neg a,if_neg b,U2];obtain⟨d,rfl⟩:=UO (Rd (Sh.mp a) (QG b));rw[RD p d 1,TR,RW,<- RD p d 1,RW]
   by_cases c:d<xs.size-p
   .rw[if_pos c]
   .rw[if_neg c];rw[RS (Nat.sub_le_iff_le_add'.mp (Sh.mp c))]
def lC{α:Type}(xs)(p)(x:α)(a:p<=xs.size):(insertAt xs p x).size=xs.size+1:=by
 unfold insertAt;rw[Ru,Qh,Qu,Qu,QH a,U2,Zm,RX,QJ a]
def GG{α:Type}(xs)(p)(x:α)(a:p<=xs.size):(insertAt xs p x).toList.Perm (x::xs.toList):=by
 have e:(insertAt xs p x).toList=xs.toList.take p++x::xs.toList.drop p:=by
  unfold insertAt;simp[WH];rw[QK (by simp)]
 rw[e];refine(UP).trans (YE x ?_);rw[QN]
def lp{α:Type}(xs:Array α)(p)(c:p<xs.size)(i):(eraseAt xs p)[i]?=if i<p then xs[i]? else xs[i+1]?:=by
 unfold eraseAt;rw[Yr,Sw,Sw,Qu];have e:min p xs.size-0=p:=by lia
 rw[e,SW]
 by_cases a:i<p
 .simp only[if_pos a]
 .simp only[if_neg a,U2];obtain⟨d,rfl⟩:=Tf (Sh.mp a);rw[QR]
  by_cases b:d<xs.size-(p+1)
  .rw[if_pos b,RX]
  .rw[if_neg b];rw[RS ⋯]
def nd{α:Type}(xs:Array α)(p)(a:p<xs.size):(eraseAt xs p).size+1=xs.size:=by
 unfold eraseAt;rw[Ru,Qu,Qu,QH (Qs a),U2,Zm,RX,QJ a]
def EN{α:Type}(xs:Array α)(p)(a:p<xs.size):(xs[p]::(eraseAt xs p).toList).Perm xs.toList:=by
 have e:(eraseAt xs p).toList=xs.toList.take p++xs.toList.drop (p+1):=by
  unfold eraseAt;simp[WH];rw[QK (by simp)]
 rw[e];refine(UP).symm.trans (ZU ?_);have:xs[p]=xs.toList[p]'⇑a:=rfl;rw[this,<- Qw,QN]
def yh(h:fv xs)(r:∀i:Nat,xs[i]?≠Z j):fv (insertAt xs (below xs j) j):=by
 obtain⟨b1,b2,l⟩:=mQ h j;generalize below xs j=p at b1 b2 l;have pg:=iD xs p j b1;have n:∀(q a:Nat),p<=q->xs[q]?=Z a->j<a:=λq a s c=>by
  have:=l q a s c;have:j≠a:=λe=>r q (by rw[e];exact c)
  lia
 intro i f a b o c d;rw[pg]at c d
 by_cases k:i<p
 .rw[if_pos k]at c
  by_cases m:f<p
  .rw[if_pos m]at d;exact h i f a b o c d
  .rw[if_neg m]at d
   by_cases g:f=p
   .rw[if_pos g]at d;injection d with d;subst d;exact b2 i a k c
   .rw[if_neg g]at d;exact h i (f-1) a b ⋯ c d
 .rw[if_neg k]at c;rw[if_neg (show ¬f<p by lia),if_neg (show ¬f=p by lia)]at d
  by_cases g:i=p
  .rw[if_pos g]at c;injection c with c;subst c;exact n (f-1) b ⋯ d
  .rw[if_neg g]at c;exact h (i-1) (f-1) a b ⋯ c d
def yf{α:Type}{xs:Array α}{x:α}(a:p<=xs.size){v:α}{i:Nat}(h:xs[i]?=Z v):∃b:Nat,(insertAt xs p x)[b]?=Z v:=by
 by_cases c:i<p
 .exact⟨i,by rw[iD _ _ _ a,if_pos c];exact h⟩
 .exact⟨i+1,by rw[iD _ _ _ a,if_neg (show ¬i+1<p by lia),if_neg (show ¬i+1=p by lia)];exact h⟩
def yg{α:Type}{xs:Array α}{x:α}(a:p<=xs.size):(insertAt xs p x)[p]?=Z x:=by
 rw[iD _ _ _ a,if_neg (Q5 p),if_pos rfl]
def pC{α:Type}{xs:Array α}{x:α}(a:p<=xs.size){v:α}{i:Nat}(h:(insertAt xs p x)[i]?=Z v):v=x\/∃b:Nat,xs[b]?=Z v:=by
 rw[iD _ _ _ a]at h
 split at h
 .exact .inr ⟨_,h⟩
 .split at h
  .injection h with h;exact .inl h.symm
  .exact .inr ⟨_,h⟩
def xd(f:fv xs)(k:p<xs.size):fv (eraseAt xs p):=by
 intro i e a b j d c;rw[lp _ _ k]at d c
 by_cases g:i<p
 .rw[if_pos g]at d
  by_cases h:e<p
  .rw[if_pos h]at c;exact f i e a b j d c
  .rw[if_neg h]at c;exact f i (e+1) a b ⋯ d c
 .rw[if_neg g]at d;rw[if_neg (show ¬e<p by lia)]at c;exact f (i+1) (e+1) a b ⋯ d c
def sS{α:Type}{xs:Array α}(b:p<xs.size){v:α}{i:Nat}(h:(eraseAt xs p)[i]?=Z v):∃a:Nat,a≠p/\xs[a]?=Z v:=by
 rw[lp _ _ b]at h
 split at h
 .exact⟨i,⋯,h⟩
 .exact⟨i+1,⋯,h⟩
def xc{α:Type}{xs:Array α}(a:p<xs.size){v:α}(hi:i≠p)(h:xs[i]?=Z v):∃b:Nat,(eraseAt xs p)[b]?=Z v:=by
 by_cases c:i<p
 .exact⟨i,by rw[lp _ _ a,if_pos c];exact h⟩
 .exact⟨i-1,by rw[lp _ _ a,if_neg (show ¬i-1<p by lia),show i-1+1=i by lia];exact h⟩
structure Tab{α:Type}(aw:Array (Int×α))(t:Xd):Prop where
 hx:fv t.place
 hv:fv t.dummies
 le:∀i j:Nat,t.place[i]?=Z j->j<=t.mask
 sN:∀i j:Nat,t.dummies[i]?=Z j->j<=t.mask
 j7:∀i pl j:Nat,t.place[i]?=Z j->t.dummies[pl]?=Z j->False
 ef:t.place.size=aw.size
 bh:cR t.mask
 full:t.place.size+t.dummies.size<=t.mask
 path:∀(i j:Nat)(e:Int×α),t.place[i]?=Z j->aw[i]?=Z e->∃n,a7 t.mask e.1 n=j/\∀k,k<n->ej t (a7 t.mask e.1 k)
section
variable{α:Type}{aw:Array (Int×α)}{t:Xd}
def Tab.flags(T:Tab aw t)(a:t'.mask=t.mask)(h2:t'.place=t.place)(h3:t'.dummies=t.dummies):Tab aw t':=by
 obtain⟨m,p,d,f,l,v,q⟩:=t;obtain⟨e,g,d',b,c,i,h⟩:=t';cases a;cases h2;cases h3;exact⟨T.hx,T.hv,T.le,T.sN,T.j7,T.ef,T.bh,T.full,T.path⟩
theorem Tab.fill(T:Tab aw t):t.fill=aw.size+t.dummies.size:=by unfold aad;rw[T.ef]
def Tab.inj(T:Tab aw t){i pl j:Nat}(h:t.place[i]?=Z j)(h':t.place[pl]?=Z j):i=pl:=by
 have e:=kB T.hx h;rw[kB T.hx h']at e;injection e with e;exact e.symm
def Tab.met(T:Tab aw t)(b:¬ej t (a7 t.mask h N)){i:Nat}(hi:aw[i]?=Z e)(j:e.1=h):∃k,k<N/\t.place[i]?=Z (a7 t.mask h k):=by
 have f:=(P9.mp hi).1;rw[<- T.ef]at f;have a:t.place[i]?=Z t.place[i]:=PK f;obtain⟨n,d,l⟩:=T.path i _ e a hi;subst j;refine⟨n,?_,by rw[d];exact a⟩
 by_cases c:n<N
 .exact c
 .exfalso
  by_cases g:n=N
  .subst g;exact b (.inl ⟨i,by rw[d];exact a⟩)
  .exact b (l N ⋯)
theorem Tab.put(T:Tab aw t)(A:∀i:Nat,t.place[i]?≠Z (a7 t.mask h N))(R:∀k,k<N->ej t (a7 t.mask h k))(B:(∃i:Nat,t.dummies[i]?=Z (a7 t.mask h N))\/t.place.size+t.dummies.size+1<=t.mask):
  Tab (insertAt aw (t.put (a7 t.mask h N)).2 (h,x)) (t.put (a7 t.mask h N)).1/\(t.put (a7 t.mask h N)).2<=aw.size/\(t.put (a7 t.mask h N)).1.mask=t.mask/\(t.put (a7 t.mask h N)).1.plain=t.plain/\(t.put (a7 t.mask h N)).1.led=t.led
   /\ (t.put (a7 t.mask h N)).1.dummies.size<=t.dummies.size/\((∃i:Nat,t.dummies[i]?=Z (a7 t.mask h N))->(t.put (a7 t.mask h N)).1.dummies.size+1=t.dummies.size):=by
 obtain⟨b1,b2,u⟩:=mQ T.hx (a7 t.mask h N);have C:=uN t.mask h N;generalize Q:a7 t.mask h N=j at A b1 b2 u B C ⊢;obtain⟨D,O,H,r,I,K,s⟩:∃D,(if has t.dummies j then eraseAt t.dummies (below t.dummies j) else t.dummies)=D/\fv D/\(∀i v:Nat,D[i]?=Z v->v≠j/\∃g:Nat,t.dummies[g]?=Z v)/\(∀i v:Nat,t.dummies[i]?=Z v->v≠j->∃g:Nat,D[g]?=Z v)/\D.size<=t.dummies.size/\((∃i:Nat,t.dummies[i]?=Z j)->D.size+1=t.dummies.size):=by
  by_cases c:∃i:Nat,t.dummies[i]?=Z j
  .obtain⟨i,hi⟩:=c;have l:=(P9.mp hi).1;refine⟨eraseAt t.dummies i,by rw[x1 T.hv hi,below_at T.hv hi];rfl,xd T.hv l,λk v d=>?_,λk v d U=>?_,by have:=nd t.dummies i l;lia,λ_=>nd t.dummies i l⟩
   .obtain⟨g,M,h2⟩:=sS l d;refine⟨λe=>M ?_,g,h2⟩;subst e;exact(below_at T.hv h2).symm.trans (below_at T.hv hi)
   .exact xc l (λe=>U (by subst e;rw[hi]at d;injection d with d;exact d.symm)) d
  .exact⟨t.dummies,by rw[x2 λi e=>c ⟨i,e⟩];rfl,T.hv,λi v d=>⟨λe=>c ⟨i,e▸d⟩,i,d⟩,λi v d _=>⟨i,d⟩,PE _,λz=>absurd z c⟩
 have e1:t.put j=({ t with place:=insertAt t.place (below t.place j) j,dummies:=D },below t.place j):=by
  unfold SetTable.put;rw[<- O]
 rw[e1];have rs:=yh T.hx A;generalize below t.place j=p at b1 b2 u rs;have o:p<=aw.size:=by rw[<- T.ef];exact b1
 have pg:=iD t.place p j b1;have L:=iD aw p (h,x) o;have E:∀v,ej t v->ej { t with place:=insertAt t.place p j,dummies:=D } v:=λv d=>by
  rcases d with⟨i,hi⟩|⟨i,hi⟩
  .exact .inl (yf b1 hi)
  .by_cases c:v=j
   .subst c;exact .inl ⟨p,yg b1⟩
   .exact .inr (I i v hi c)
 refine⟨⟨rs,H,?_,?_,?_,?_,T.bh,?_,?_⟩,o,rfl,rfl,rfl,K,s⟩
 .intro i v d;rcases pC b1 d with rfl|⟨g,h'⟩
  .exact C
  .exact T.le _ _ h'
 .intro i v d;obtain⟨_,g,h'⟩:=r i v d;exact T.sN _ _ h'
 .intro i g v d X;obtain⟨a0,a1,h2⟩:=r g v X;rcases pC b1 d with rfl|⟨a2,h3⟩
  .exact a0 rfl
  .exact T.j7 _ _ _ h3 h2
 .show(insertAt t.place p j).size=(insertAt aw p (h,x)).size;rw[lC _ _ _ b1,lC _ _ _ o,T.ef]
 .show(insertAt t.place p j).size+D.size<=t.mask;rw[lC _ _ _ b1];have:=T.full;rcases B with z|z
  .have:=s z;lia
  .omega
 .intro i v e d f;dsimp only at d ⊢;rw[pg]at d;rw[L]at f;have G:∀m:Nat,t.place[m]?=Z v->aw[m]?=Z e->∃n,a7 t.mask e.1 n=v/\∀k,k<n->ej { t with place:=insertAt t.place p j,dummies:=D } (a7 t.mask e.1 k):=λm a b=>by
   obtain⟨n,S,V⟩:=T.path m v e a b;exact⟨n,S,λk q=>E _ (V k q)⟩
  by_cases w:i<p
  .rw[if_pos w]at d f;exact G i d f
  .rw[if_neg w]at d f
   by_cases y:i=p
   .rw[if_pos y]at d f;injection d with d;injection f with f;subst f;exact⟨N,by rw[Q];exact d,λk q=>E _ (R k q)⟩
   .rw[if_neg y]at d f;exact G _ d f
theorem Tab.drop(T:Tab aw t)(hi:i<aw.size):Tab (eraseAt aw i) (t.drop i)/\(t.drop i).mask=t.mask/\(t.drop i).plain=t.plain/\(t.drop i).led=t.led/\(t.drop i).dummies.size=t.dummies.size+1:=by
 have g:i<t.place.size:=by rw[T.ef];exact hi
 have h:t.place[i]?=Z t.place[i]:=PK g;generalize t.place[i]=j at h;have o:∀k:Nat,t.dummies[k]?≠Z j:=λk e=>T.j7 _ _ _ h e
 have b1:=(mQ T.hv j).1;have rs:=yh T.hv o;have e1:t.drop i={ t with place:=eraseAt t.place i,dummies:=insertAt t.dummies (below t.dummies j) j }:=by unfold SetTable.drop;rw[h]
 rw[e1];generalize below t.dummies j=p at b1 rs;have x:∀v,ej t v->ej { t with place:=eraseAt t.place i,dummies:=insertAt t.dummies p j } v:=λv d=>by
  rcases d with⟨k,f⟩|⟨k,f⟩
  .by_cases c:k=i
   .subst c;rw[h]at f;injection f with f;subst f;exact .inr ⟨p,yg b1⟩
   .exact .inl (xc g c f)
  .exact .inr (yf b1 f)
 have hz:=nd t.place i g;have y:=nd aw i hi;refine⟨⟨xd T.hx g,rs,λk v d=>?_,λk v d=>?_,λk q v d u=>?_,?_,T.bh,?_,?_⟩,rfl,rfl,rfl,lC _ _ _ b1⟩
 .obtain⟨q,_,h'⟩:=sS g d;exact T.le _ _ h'
 .rcases pC b1 d with rfl|⟨q,h'⟩
  .exact T.le _ _ h
  .exact T.sN _ _ h'
 .obtain⟨k2,w,h2⟩:=sS g d;rcases pC b1 u with rfl|⟨k3,h3⟩
  .exact w (T.inj h2 h)
  .exact T.j7 _ _ _ h2 h3
 .have:=T.ef;show(eraseAt t.place i).size=(eraseAt aw i).size;lia
 .have:=T.full;show(eraseAt t.place i).size+(insertAt t.dummies p j).size<=t.mask;rw[lC _ _ _ b1];lia
 .intro k v e d l;dsimp only at d ⊢;rw[lp _ _ g]at d;rw[lp _ _ hi]at l;have r:∀m:Nat,t.place[m]?=Z v->aw[m]?=Z e->∃n,a7 t.mask e.1 n=v/\∀k,k<n->ej { t with place:=eraseAt t.place i,dummies:=insertAt t.dummies p j } (a7 t.mask e.1 k):=λm a b=>by
   obtain⟨n,o,s⟩:=T.path m v e a b;exact⟨n,o,λk f=>x _ (s k f)⟩
  by_cases c:k<i
  .rw[if_pos c]at d l;exact r _ d l
  .rw[if_neg c]at d l;exact r _ d l
end
theorem tW:∀(k:Nat)(l:List Nat),l.Nodup->(∀x∈l,x<k)->l.length<=k
 |0,l,_,h=>by
  cases l with
  |nil=>simp
  |cons a r=>exact absurd (h a VF) (WY a)
 |k+1,l,d,h=>by
  by_cases c:k∈l
  .have f:=tW k (l.erase k) (d.erase k) λx b=>by
    have:=(d.mem_erase_iff).mp b;have:=h x this.2;lia
   rw[S7 c]at f;lia
  .have:=tW k l d λx b=>by
    have:=h x b;have:x≠k:=λe=>c (e▸b)
    lia
   lia
def i4(a:Array (Option Nat))(j:Nat):Prop:=∃q,a[j]?=Z (Z q)
theorem xK(hz:g.size=m+1):∀(fuel r:Nat),(∃l,r<=l/\l<r+fuel/\g[(run m h l).1]?=Z Y) ->
  (∀f d,d<=len m h f->f<r->i4 g ((run m h f).1+d)) ->
  ∃n p,p<=len m h n/\layClean.free m g fuel (run m h r).1 (run m h r).2=Z ((run m h n).1+p)/\g[(run m h n).1+p]?=Z Y/\∀f d,d<=len m h f->(f<n\/(f=n/\d<p))->i4 g ((run m h f).1+d)
 |0,r,⟨l,a,b,_⟩,_=>by lia
 |fuel+1,r,⟨l,a,b,c⟩,u=>by
  unfold layClean.free;have z:=qg (uw m h r);have get:∀d,d<=len m h r->∃o,g[(run m h r).1+d]?=Z o/\g.getD ((run m h r).1+d) (Z 0)=o:=λd i=>by
   unfold len at i;have j:(run m h r).1+d<g.size:=(by rw[hz];lia);exact⟨g[(run m h r).1+d],PK j,by simp[WJ,j]⟩
  cases v:(VR (runEnd m (run m h r).1+1-(run m h r).1)).find? λk=>(g.getD ((run m h r).1+k) (Z 0)).isNone with
  |some k =>
   obtain⟨t,h2,h3⟩:=List.find?_range_eq_some.mp v;have w:k<=len m h r:=(by have:=VZ.mp h2;unfold len;lia);refine⟨r,k,w,rfl,?_,λf d i j=>?_⟩
   .obtain⟨o,e1,e2⟩:=get k w;rw[e2]at t;rw[e1];cases o with
    |none=>rfl
    |some _=>simp at t
   .rcases j with j|⟨rfl,j⟩
    .exact u f d i j
    .obtain⟨o,e1,e2⟩:=get d i;have:=h3 d j;rw[e2]at this;cases o with
     |none=>simp at this
     |some q=>exact⟨q,e1⟩
  |none =>
   have y:=List.find?_range_eq_none.mp v;have s:∀d,d<=len m h r->i4 g ((run m h r).1+d):=λd i=>by
    obtain⟨o,e1,e2⟩:=get d i;have:=y d (by unfold len at i;lia);rw[e2]at this;cases o with
    |none=>simp at this
    |some q=>exact⟨q,e1⟩
   have A:l≠r:=λe=>by
    subst e;obtain⟨q,x⟩:=s 0 (PN _);rw[U1,c]at x;cases x
   show ∃n p,_/\layClean.free m g fuel (run m h (r+1)).1 (run m h (r+1)).2=_/\_;refine xK hz fuel (r+1) ⟨l,⋯,⋯,c⟩ λf d i j=>?_
   by_cases e:f=r
   .subst e;exact s d i
   .exact u f d i ⋯
structure Own(m:Nat)(fF:List Int)(eY:Array (Option Nat)):Prop where
 size:eY.size=m+1
 lt:∀j q:Nat,eY[j]?=Z (Z q)->q<fF.length
 inj:∀j yn q:Nat,eY[j]?=Z (Z q)->eY[yn]?=Z (Z q)->j=yn
 all:∀(q:Nat)(h:Int),fF[q]?=Z h->∃n,eY[a7 m h n]?=Z (Z q)/\∀k,k<n->i4 eY (a7 m h k)
def Own.hole(O:Own m i d)(y:i.length<=m):∃j,j<=m/\d[j]?=Z none:=by
 by_cases c:∃j,j<=m/\d[j]?=Z Y
 .exact c
 .exfalso;have o:∀j,j<=m->i4 d j:=λj f=>by
   have h:d[j]?=Z (d[j]'(by rw[O.size];lia)):=PK (by rw[O.size];lia);cases e:d[j]'(by rw[O.size];lia) with
   |none=>exact absurd ⟨j,f,by rw[h,e]⟩ c
   |some q=>exact⟨q,by rw[h,e]⟩
  have r:=tW i.length ((VR (m+1)).map λj=>(d.getD j Y).getD 0) ?_ ?_
  .simp at r;lia
  .have l:∀j,j<=m->d[j]?=Z (Z ((d.getD j Y).getD 0)):=λj f=>by
    obtain⟨q,g⟩:=o j f;have:d.getD j Y=Z q:=(by rw[Rb,g];rfl);rw[this];exact g
   rw[List.Nodup,QU];refine Q7 ?_ (ZH (n:=m+1));intro a b s u t e;have w:=l a (by have:=VZ.mp s;lia);have k:=l b (by have:=VZ.mp u;lia);rw[<- e]at k;exact t (O.inj a b _ w k)
  .intro x v;obtain⟨j,f,e⟩:=VP.mp v;obtain⟨q,g⟩:=o j (by have:=VZ.mp f;lia);have:d.getD j Y=Z q:=(by rw[Rb,g];rfl);rw[this]at e;have p:q=x:=e;rw[<- p];exact O.lt j q g
def Own.step(D:cR m)(O:Own m g l)(B:g.length<=m)(h):
  ∃j,layClean.free m l (turns m) (bits h%(m+1)) (bits h)=Z j/\Own m (g++[h]) (l.setIfInBounds j (Z g.length)):=by
 obtain⟨Q,z,e0⟩:=O.hole B;obtain⟨L,N,w⟩:=D.met h z;obtain⟨v,c2,y,p,r,G⟩:=xK (h:=h) O.size (turns m) 0 ⟨L,PN _,by unfold turns;lia,by rw[w];exact e0⟩ (λu d _ C=>absurd C (WY _));obtain⟨n,_,E,A⟩:=CG m h v c2 y;have x:a7 m h n=(run m h v).1+c2:=by unfold a7;rw[E];rfl
 rw[<- x]at p r;have I:∀k,k<n->i4 l (a7 m h k):=λk i=>by
  obtain⟨u,d',a,b,c⟩:=A k i;unfold a7;rw[c];exact G u d' a b
 refine⟨a7 m h n,p,?_,?_,?_,?_⟩
 .rw[XT];exact O.size
 .intro j q f;rw[Q2]at f;rw[PI,V8]
  split at f
  .split at f
   .injection f with f;injection f with f;lia
   .cases f
  .have:=O.lt j q f;lia
 .intro j s q a b;rw[Q2]at a b
  split at a
  .rename_i e1
   split at b
   .rename_i e2;rw[<- e1,<- e2]
   .split at a
    .injection a with a;injection a with a;have:=O.lt s q b;lia
    .cases a
  .split at b
   .split at b
    .injection b with b;injection b with b;have:=O.lt j q a;lia
    .cases b
   .exact O.inj j s q a b
 .intro q h' f;have t:∀j,i4 l j->i4 (l.setIfInBounds (a7 m h n) (Z g.length)) j:=λj M=>by
   obtain⟨K,o⟩:=M
   by_cases c:a7 m h n=j
   .refine⟨g.length,?_⟩;rw[Q2,if_pos c,if_pos (by rw[O.size];have:=uN m h n;lia)]
   .exact⟨K,by rw[Q2,if_neg c];exact o⟩
  by_cases c:q<g.length
  .rw[P1 c]at f;obtain⟨H,a,b⟩:=O.all q h' f;refine⟨H,?_,λk i=>t _ (b k i)⟩;rw[Q2,if_neg]
   .exact a
   .intro e;rw[<- e,r]at a;cases a
  .have o:=(P5.mp f).1;rw[PI,V8]at o;have e:q=g.length:=⋯;subst e;rw[Qq (PE _),U3]at f;simp at f;subst f;refine⟨n,?_,λk i=>t _ (I k i)⟩;rw[Q2,if_pos rfl,if_pos (by rw[O.size];have:=uN m h n;lia)]
def Jy(m):Own m [] (Xf (m+1) Y):=by
 have b:∀j q:Nat,(Xf (m+1) (Y:Option Nat))[j]?≠Z (Z q):=λj q a=>by
  rw[Array.getElem?_replicate]at a
  split at a<;>cases a
 exact⟨by simp,λj q a=>absurd a (b j q),λj c q a=>absurd a (b j q),λq h a=>by simp at a⟩
def HT (n : cR m) (b) (i : b.size <= m) : ∃ eY, layClean m b = Z eY /\ Own m b.toList eY := by
  unfold layClean
  rw [<- Array.foldl_toList]
  have main : ∀ (a done : List Int) (eY : Array (Option Nat)), Own m done eY -> (done ++ a).length <= m ->
      ∃ p0, a.foldl (fun (f : Option (Array (Option Nat) × Nat)) h => do
        let (owner, k) <- f
        let j <- layClean.free m owner (turns m) (bits h % (m + 1)) (bits h)
        pure (owner.setIfInBounds j (Z k), k + 1)) (Z (eY, done.length)) = Z (p0, (done ++ a).length) /\ Own m (done ++ a) p0 := by
    intro a
    induction a with
    | nil => intro done eY O _; exact ⟨eY, by simp, by simpa using O⟩
    | cons h r o =>
      intro done eY O l
      rw [PI, VS] at l
      obtain ⟨j, g, c⟩ := O.step n ⋯ h
      have := o (done ++ [h]) _ c (by simp; lia)
      rw [PR] at this
      simp only [List.singleton_append, PI, VS, Wq, SW] at this
      obtain ⟨p0, e, d⟩ := this
      refine ⟨p0, ?_, d⟩
      rw [Wx]
      simp only [XA, X1, g, ZV] at e ⊢
      rw [e]
      simp only [PI, VS]
  obtain ⟨eY, e, O⟩ := main b.toList [] (Xf (m + 1) Y) (Jy m) ⇑i
  refine ⟨eY, ?_, by simpa using O⟩
  simp only [Wq] at e
  rw [e]; rfl
theorem s8{α β:Type}(f:α->Option β):∀(l:List α),(∀x∈l,(f x).isSome=J)->∀i:Nat,(l.filterMap f)[i]?=l[i]?.bind f
 |[],_,i=>by simp
 |x::r,h,i=>by
  have a:=h x VF;cases e:f x with
  |none=>rw[e]at a;cases a
  |some y =>
   rw[Ww,e];cases i with
   |zero=>simp[e]
   |succ i =>
    simp only[X2];exact s8 f r (λz hz=>h z (VG _ hz)) i
theorem xF{α β:Type}(f:α->Option β):∀(l:List α),(∀x∈l,(f x).isSome=J)->(l.filterMap f).length=l.length
 |[],_=>rfl
 |x::r,h=>by
  have a:=h x VF;cases e:f x with
  |none=>rw[e]at a;cases a
  |some y=>rw[Ww,e,VS,VS,xF f r λz hz=>h z (VG _ hz)]
def yx{α:Type}(M:cR m)(d:Array (Int×α))(K:d.size<=m)(f Q)(led I):
  ∃t' x,laid m f Q led I (d.map (·.1))=Z (t',x)/\t'.mask=m/\t'.led=led/\t'.plain=I/\(x.filterMap (d[·]?)).size=d.size/\Tab (x.filterMap (d[·]?)) t'/\(x.filterMap (d[·]?)).toList.Perm d.toList/\x.toList.Perm (VR d.size):=by
 obtain⟨v,e,O⟩:=HT M (d.map (·.1)) ⇑K;have a5:(d.map (·.1)).toList.length=d.size:=by simp
 generalize C:(VR (m+1)).filterMap (λj=>(v.getD j Y).map (j,·))=L;have u:∀j q,(j,q)∈L<->v[j]?=Z (Z q):=λj q=>by
  rw[<- C,Tb];constructor
  .rintro⟨N,bc,eU⟩;cases h0:v.getD N Y with
   |none=>rw[h0]at eU;cases eU
   |some S =>
    rw[h0]at eU;injection eU with eU;injection eU with e1 e2;subst e1;subst e2;rw[Rb]at h0;cases r:v[N]? with
    |none=>rw[r]at h0;cases h0
    |some o=>rw[r]at h0;exact Q9 Z h0
  .intro h;refine⟨j,VZ.mpr ?_,?_⟩
   .have:=(P9.mp h).1;rw[O.size]at this;exact this
   .rw[Rb,h];rfl
 have T:L.Pairwise (λa b=>a.1<b.1):=by
  rw[<- C];refine List.Pairwise.filterMap _ ?_ (To (n:=m+1));intro a V au b g b1 y;cases h0:v.getD a Y with
  |none=>rw[h0]at g;cases g
  |some q =>
   cases r:v.getD V Y with
   |none=>rw[r]at y;cases y
   |some S =>
    rw[h0]at g;rw[r]at y;cases g;cases y;exact au
 have lt:∀p∈L,p.2<d.size:=λp t=>by
  have:=O.lt p.1 p.2 ((u p.1 p.2).mp t);rw[a5]at this;exact this
 have ay:(L.map (·.2)).Nodup:=by
  rw[List.Nodup,QU];refine Q7 ?_ T;intro a b s g b2 eU;have:=O.inj a.1 b.1 a.2 ((u _ _).mp s) (by rw[eU];exact(u _ _).mp g);lia
 have H:(L.map (·.2)).Perm (VR d.size):=by
  refine(Uh ay ZH).mpr λq=>?_
  rw[VZ,VP];constructor
  .rintro⟨p,t,rfl⟩;exact lt p t
  .intro w;obtain⟨n,a,_⟩:=O.all q (d[q].1) (by rw[P2,Zd,PK w];rfl);exact⟨(_,q),(u _ _).mpr a,rfl⟩
 have G:L.length=d.size:=by have:=H.length_eq;simpa using this
 have R:∀q∈L.map (·.2),(d[q]?).isSome=true:=λq w=>by
  obtain⟨p,t,rfl⟩:=VP.mp w;rw[PK (lt p t)];rfl
 have az:∀q∈VR d.size,(d[q]?).isSome=true:=λq w=>by
  rw[PK (VZ.mp w)];rfl
 have B:((L.map (·.2)).toArray.filterMap (d[·]?)).toList=(L.map (·.2)).filterMap (d[·]?):=by simp
 have a0:∀(i:Nat),((L.map (·.2)).toArray.filterMap (d[·]?))[i]?=(L[i]?).bind λp=>d[p.2]?:=by
  intro i;rw[<- P2,B,s8 _ _ R,PX];cases L[i]?<;>rfl
 have U:((L.map (·.2)).toArray.filterMap (d[·]?)).size=d.size:=by
  rw[<- VH,B,xF _ _ R,VD,G]
 have aA:((L.map (·.2)).toArray.filterMap (d[·]?)).toList.Perm d.toList:=by
  rw[B];refine(H.filterMap (d[·]?)).trans (ZU ?_);refine RI λi=>?_
  rw[s8 _ _ az]
  by_cases c:i<d.size
  .rw[Sl c];simp
  .rw[Qb ⇑c,Qb ⇑c];rfl
 refine⟨{ mask:=m,place:=(L.map (·.1)).toArray,dummies:=#[],finger:=f,led,moves:=Q,plain:=I },(L.map (·.2)).toArray,?_,rfl,rfl,rfl,U,⟨?_,λi j a b _ h=>by simp at h,?_,λi j h=>by simp at h,λi E j _ h=>by simp at h,?_,M,?_,?_⟩,aA,⇑H⟩
 .unfold laid;rw[e];simp only[XA,X1,ZV,C]
 .intro i j a b a3 s g;simp only[SH,PX]at s g;cases z:L[i]? with
  |none=>rw[z]at s;cases s
  |some a8 =>
   cases A:L[j]? with
   |none=>rw[A]at g;cases g
   |some a9 =>
    rw[z]at s;rw[A]at g;cases s;cases g;obtain⟨r,e1⟩:=P5.mp z;obtain⟨h2,e2⟩:=P5.mp A;have:=R1.mp T i j r h2 a3;rw[e1,e2]at this;exact this
 .intro i j hi;simp only[SH,PX]at hi;cases l:L[i]? with
  |none=>rw[l]at hi;cases hi
  |some p =>
   rw[l]at hi;cases hi;have:=(u p.1 p.2).mp (QX l);have:=(P9.mp this).1;rw[O.size]at this;show p.1<=m;lia
 .show(L.map (·.1)).toArray.size=_;rw[U];simp[G]
 .show(L.map (·.1)).toArray.size+0<=m;simp[G];exact K
 .intro i j eU hi D;simp only[SH,PX]at hi;rw[a0]at D;cases l:L[i]? with
  |none=>rw[l]at hi;cases hi
  |some p =>
   rw[l]at hi D;cases hi;have t:=(u p.1 p.2).mp (QX l);have a1:d[p.2]?=Z eU:=D;obtain⟨n,a,b⟩:=O.all p.2 eU.1 (by rw[P2,Zd,a1];rfl);refine⟨n,O.inj _ _ _ a t,λk a4=>?_⟩;obtain⟨S,av⟩:=b k a4;obtain⟨E,a2,X⟩:=Ro.mp ((u _ _).mpr av);refine .inl ⟨E,?_⟩;show(L.map (·.1)).toArray[E]?=_;simp only[SH,PX];rw[PG a2,X];rfl
end d1
end
section
namespace Pv
open PySem d1 PySem.SetTable
section
variable{prog:Wa}{w:Wm}{A:Wc}{E:VE->VI->Prop}{s:VI}
def el(prog:Wa)(w:Wm)(h:V9)(a:List Int)(b:VO):Prop:=IsTupleKey (ZY prog w) h a b
abbrev cV(prog:Wa)(w:Wm)(a:List Int):Int:=tupleKeyHash (ZY prog w) a
def ew(prog:Wa)(w:Wm)(h:V9)(e:Int×VE)(a:List Int):Prop:=∃b,e.2=.ref b/\e.1=cV prog w a/\el prog w h a b
def el.kept(x:el prog w h d b)(k:∀o,h.get? b=Z o->h'.get? b=Z o):el prog w h' d b :=
 let ⟨o,c,n,a,r⟩:=x;⟨o,c,n,k o a,r⟩
def el.ne{f e t}(x:el prog w h k b)(i:h.get? a=Z o)(g:o.data=.set f e t):b≠a:=by
 rintro rfl;obtain⟨l,j,n,d,_,c,_⟩:=x;rw[i]at d;cases d;rw[g]at c;cases c
def wz(f:el prog w s.heap q a)(h:Q VC s):VJ M A (Xo 8 (.ref a)) Q E s:=by
 have i:s.TypeIs (.ref a) "tuple":=Zn f;obtain⟨o,p,n,k,_,j,hi⟩:=f;unfold Xo;refine PA (R8 i ?_);dsimp only;rw[if_pos (by rfl)];refine PA (VB ?_);simp only[QT,PD,PZ];refine PA (Vd k j ?_);dsimp only;refine PA ?_;rw[<- Ze];refine TF _ (λg r s'=>r.1=Y/\s'=s/\∀v∈g,carriedByValue v=J) _ ?_ ?_ _ _ ⟨rfl,rfl,hi.byValue⟩
 .rintro v g r s' ⟨c,rfl,d⟩;have m:=d v VF;have e:Xo 7 v=pure false:=by
   cases v with
   |ref b=>simp[carriedByValue]at m
   |_=>unfold Xo;rfl
  rw[e];refine PA (VB ?_);simp only[PD,PZ];exact VB ⟨rfl,rfl,λu l=>d u (VG _ l)⟩
 .rintro⟨t,x⟩ s' ⟨c,rfl,_⟩;simp only at c;subst c;exact VB h
def L2{Z7:List VE}(i:el prog w s.heap m b)(k:∀v∈Z7,∃c a,v=.ref c/\el prog w s.heap a c)(h:Q VC s):
  VJ (VM prog w) A (searchCouldBeSeen (.ref b) Z7) Q E s:=by
 unfold searchCouldBeSeen;refine PA ?_;refine TF _ (λe r s'=>r.1=Y/\s'=s/\∀v∈e,∃c a,v=.ref c/\el prog w s.heap a c) _ ?_ ?_ _ _ ⟨rfl,rfl,k⟩
 .rintro v e r s' ⟨d,rfl,f⟩;obtain⟨c,a,rfl,g⟩:=f v VF;have j:∀v∈e,∃c a,v=.ref c/\el prog w s'.heap a c:=λu l=>f u (VG _ l)
  dsimp only
  split
  .exact VB ⟨rfl,rfl,j⟩
  .refine PA (Ys i ?_);simp only[QT,PD,PZ];refine PA (Ys g ?_);simp only[QT,PD,PZ];refine PA (wz i ?_);simp only[PD,PZ];refine PA (wz g ?_);simp only[PD,PZ];exact VB ⟨rfl,rfl,j⟩
 .rintro⟨n,o⟩ s' ⟨d,rfl,_⟩;simp only at d;subst d;exact VB h
def C7(j:el prog w s.heap B a)(h:Q J s):VJ (VM prog w) A (YG 8 (.ref a)) Q E s:=by
 have x:s.TypeIs (.ref a) "tuple":=Zn j;obtain⟨o,f,n,m,_,g,hi⟩:=j;unfold YG;refine PA (U4 x F.slot_tuple_hash.lookup ?_);dsimp only;refine PA (Vd m g ?_);refine PA ?_;show VJ _ _ (forIn f _ _) _ _ s;rw[<- Ze];have c:∀v∈f.toList,∃i t,v=W5 i t:=by
  clear g m;generalize f.toList=l at hi
  induction hi with
  |nil=>intro v b;simp at b
  |@cons k H C I q _ z =>
   intro v b;rcases PF.mp b with rfl|b
   .obtain⟨t,e⟩:=Ur q;exact⟨_,t,e⟩
   .exact z v b
 refine TF _ (λp r s'=>r.1=Y/\s'=s/\∀v∈p,∃i t,v=W5 i t) _ ?_ ?_ _ _ ⟨rfl,rfl,c⟩
 .rintro v p r s' ⟨d,rfl,c⟩;obtain⟨i,t,rfl⟩:=c v VF;have e:YG 7 (W5 i t)=pure true:=(by unfold YG;rfl);rw[e];refine PA (VB ?_);simp only[QT,PD,PZ];exact VB ⟨rfl,rfl,λu y=>c u (VG _ y)⟩
 .rintro⟨D,G⟩ s' ⟨d,rfl,_⟩;simp only at d;subst d;exact VB h
theorem Tab.fits{a:Array (Int×VE)}(T:Tab a t):t.fits a.size=true:=by
 unfold SetTable.fits;have b:=T.ef;have h2:=T.fill;have h3:=T.full;simp only[PB,P8,PM];exact⟨b,by rw[h2,<- b];exact h3⟩
def Tab.F7{a:Array (Int×VE)}(T:Tab a t):t.gaveWay=false:=by
 unfold SetTable.gaveWay;rcases T.bh with e|e|e|e|e|e|e|e|e<;>rw[e]<;>rfl
theorem cR.turns{m:Nat}(h:cR m):turns m<=2100:=by unfold SetTable.turns;rcases h with e|e|e|e|e|e|e|e|e<;>rw[e]<;>lia
def cR.grow(h:cR m)(e:1<=n)(h2:n<=f)(d:f<=256)(g:f*5>=m*3):∃a,cR a/\sizeAbove (grown n)-1=a/\n*5<a*3/\n<=a/\sizeAbove (grown n)<=2048:=by
 have c:((VR 257).all λn=>decide (n=0)||(decide (sizeAbove (grown n)-1∈[7,15,31,63,127,255,511,1023,2047])&&decide (n*5<(sizeAbove (grown n)-1)*3)&&decide (n<=sizeAbove (grown n)-1)&&decide (sizeAbove (grown n)<=2048)))=true:=by decide +kernel
 have k:=Qd.mp c n (VZ.mpr ⋯);simp only[Rk,PB,PM]at k;rcases k with k|⟨⟨⟨k1,k2⟩,k3⟩,b⟩
 .omega
 .refine⟨_,?_,rfl,k2,k3,b⟩;simpa[cR] using k1
theorem uz (dr : A.units < Wy)
    (cO : s.heap.get? a = Z o) (b9 : o.data = .set f kb t) (T : Tab f t) (M : Paired (ew prog w s.heap) f.toList jo) (cz : el prog w s.heap aS b)
    (e3 : N < 10 * turns t.mask) (K : ¬ ej t (a7 t.mask (cV prog w aS) N)) (av : ∀ k, k < N -> ej t (a7 t.mask (cV prog w aS) k))
    (L : aS ∉ jo -> ∀ k b, (b = VC /\ k = N \/ b = J /\ k < N /\ ∃ i : Nat, t.dummies[i]? = Z (a7 t.mask (cV prog w aS) k)) -> R (.free (a7 t.mask (cV prog w aS) k) b) s)
    (H : aS ∈ jo -> ∀ r, (u = VC -> ∃ i e, r = Z i /\ f[i]? = Z e /\ ew prog w s.heap e aS) -> R (.there r) s) :
    ∀ (fuel n : Nat) (aA : Option Probe) (C : Option Nat), n <= N -> N - n < fuel -> jM t (cV prog w aS) N C -> aA.getD (t.probeStart (cV prog w aS)) = fL (pr t.mask (cV prog w aS) n) C ->
      (∀ k, k < n -> ∀ (i : Nat) (e : Int × VE), t.place[i]? = Z (a7 t.mask (cV prog w aS) k) -> f[i]? = Z e -> ¬ ew prog w s.heap e aS) ->
      VJ (VM prog w) A (XU a (.ref b) (cV prog w aS) u fuel aA) R E s
  | 0, n, aA, C, D, h2, _, _, _ => by lia
  | fuel + 1, n, aA, C, D, h2, e5, fD, ay => by
    unfold XU
    refine PA (Qj cO b9 (Tab.fits T) ?_)
    dsimp only
    rw [Tab.F7 T]
    simp only [PD, PZ]
    rw [fD]
    have a3 : ∀ (i : Nat) (e : Int × VE), f[i]? = Z e -> (fun i => (f[i]?.map (·.1)).getD 0) i = e.1 := fun i e h => by simp [h]
    generalize dJ : t.probe _ (cV prog w aS) (fL (pr t.mask (cV prog w aS) n) C) = X
    have cP : ∀ (i : Nat) (e : Int × VE), f[i]? = Z e -> ∃ fG, fG ∈ jo /\ ew prog w s.heap e fG := fun i e h => by
      have m : e ∈ f.toList := by rw [<- P2] at h; exact QX h
      clear a3 ay K av H L
      generalize f.toList = l at M m
      induction M with
      | nil => simp at m
      | cons D _ cB =>
        rcases PF.mp m with rfl | m
        · exact ⟨_, VF, D⟩
        · obtain ⟨fG, a1, a2⟩ := cB m
          exact ⟨fG, VG _ a1, a2⟩
    rcases zO (h := cV prog w aS) (hashAt := fun i => (f[i]?.map (·.1)).getD 0) T.hx T.hv T.j7 K av (10 * turns t.mask) n C D ⋯ e5 with ⟨k, i, V, b1, b2, O, f2, Q, bp, S⟩ | ⟨Q, V, bp, S⟩
    · have U : X = _ := dJ.symm.trans S
      rw [U]
      dsimp only
      have hi : i < f.size := by rw [<- T.ef]; exact (P9.mp O).1
      have p : f[i]? = Z f[i] := PK hi
      obtain ⟨fG, cN, c, c0, x, a4⟩ := cP i _ p
      have dD : VJ (VM prog w) A (do
          let Z (_, y) := f[i]? | unsupported "internal:set-entry"
          let c2 <- X8 [y] (eqBool y (.ref b))
          let (eo, _, t') <- setState a
          if u && c2 then return Z8 Y
          let Z same := t'.sameMemory t.moves t.mask | unsupported "set.changed-during-lookup:is-the-new-block-at-the-old-address"
          let f0 <- match (if same then t'.slot (a7 t.mask (cV prog w aS) k) else .empty) with
            | .live g => match eo[g]? with
              | some (_, f1) => do pure (if <- isSame f1 y then Z g else Y)
              | none => pure Y
            | _ => pure Y
          match f0 with
          | none => Zk "set.search.anew"; XU a (.ref b) (cV prog w aS) u fuel Y
          | some g => if c2 then return Z8 (Z g) else XU a (.ref b) (cV prog w aS) u fuel (Z (fL (pr t.mask (cV prog w aS) (k + 1)) V))) R E s := by
        rw [p]
        generalize hh : f[i] = e0 at c0 x p
        obtain ⟨f4, hg⟩ := e0
        dsimp only at c0 x ⊢
        subst c0
        refine PA (QS (wpAny_eqBool_tuple dr a4 cz ?_))
        refine PA (Qj cO b9 (Tab.fits T) ?_)
        dsimp only
        have same : t.sameMemory t.moves t.mask = Z true := by unfold SetTable.sameMemory; simp
        by_cases q : fG = aS
        · subst q
          simp only [Ve, Bool.and_true]
          cases u
          · simp only [PD, PZ]
            rw [same]
            dsimp only
            rw [if_pos rfl, kB T.hx O]
            dsimp only
            rw [p]
            dsimp only
            refine PA (Yt (PA (VB ?_)))
            rw [if_pos rfl]
            dsimp only
            first | exact VB (H cN _ fun _ => ⟨i, _, rfl, p, c, rfl, x, a4⟩) | (rw [if_pos trivial]; exact VB (H cN _ fun _ => ⟨i, _, rfl, p, c, rfl, x, a4⟩))
          · simp only [QI]
            exact VB (H cN _ fun z => by cases z)
        · simp only [decide_eq_false q, WM, PD, PZ]
          rw [same]
          dsimp only
          rw [if_pos rfl, kB T.hx O]
          dsimp only
          rw [p]
          dsimp only
          refine PA (Yt (PA (VB ?_)))
          rw [if_pos rfl]
          dsimp only
          refine uz dr cO b9 T M cz e3 K av L H fuel (k + 1) _ V ⋯ ⋯ bp rfl fun az f8 g a0 cp B I => ?_
          by_cases dV : az < n
          · exact ay az dV g a0 cp B I
          · by_cases bz : az = k
            · subst bz
              have e1 : g = i := T.inj cp O
              subst e1
              rw [p] at B
              cases B
              obtain ⟨jh, d2, _, e4⟩ := I
              cases d2
              exact q (Z9 a4 e4)
            · obtain ⟨_, _, ea, _⟩ := I
              exact Q az ⋯ ⋯ g cp ((a3 g a0 B).trans ea)
      cases hj : t.led
      · simp only [Ud, QI]
        refine PA (L2 cz (fun v fj => ?_) ?_)
        · obtain ⟨e, B, rfl⟩ := VP.mp fj
          have m : e ∈ f.toList := by
            rw [Array.toList_filter] at B
            exact (P4.mp B).1
          obtain ⟨j, G⟩ := Yu.mp m
          obtain ⟨gh, _, bz, e2, _, h2⟩ := cP j e (by rw [<- P2]; exact G)
          exact ⟨bz, gh, e2, h2⟩
        · simp only [PD, PZ]
          exact dD
      · simp only [QT, PD, PZ]
        exact dD
    · have U : X = _ := dJ.symm.trans S
      rw [U]
      dsimp only
      have dC : aS ∉ jo := fun a5 => by
        obtain ⟨e, m, I⟩ : ∃ e ∈ f.toList, ew prog w s.heap e aS := by
          clear a3 ay K av H L cP Q S U
          generalize f.toList = l at M
          induction M with
          | nil => simp at a5
          | @cons a0 fG _ _ D _ cB =>
            rcases PF.mp a5 with rfl | a5
            · exact ⟨a0, VF, D⟩
            · obtain ⟨e, a1, a2⟩ := cB a5
              exact ⟨e, VG _ a1, a2⟩
        obtain ⟨j, G⟩ := Yu.mp m
        rw [P2] at G
        obtain ⟨_, _, x, _⟩ := id I
        obtain ⟨k, cA, au⟩ := T.met K G x
        by_cases c : k < n
        · exact ay k c j e au G I
        · exact Q k ⋯ cA j au ((a3 j e G).trans x)
      cases V with
      | none => exact VB (L dC N VC (.inl ⟨rfl, rfl⟩))
      | some d =>
        dsimp only
        obtain ⟨k, cA, au, i, hi⟩ := bp d rfl
        subst au
        have gg : t.slot (a7 t.mask (cV prog w aS) k) = .dummy := AQ T.hv (fun g e => T.j7 _ _ _ e hi) hi
        have hz : (u && t.slot (a7 t.mask (cV prog w aS) k) != .dummy) = false := by rw [gg]; cases u <;> rfl
        rw [hz]
        simp only [PD, PZ]
        exact VB (L dC k J (.inr ⟨rfl, cA, i, hi⟩))
def eT(M:VE->Prop)(prog:Wa)(w:Wm)(h:V9)(a:VO)(c:Nat)(d:List (List Int)):Prop :=
 ∃o b f t,h.get? a=Z o/\o.ExactSet/\o.data=.set b f t/\Tab b t/\t.fill*5<t.mask*3/\t.fill<=c/\t.plain=J/\(t.led=J<->w.params.followText "set-order"=VC)/\Paired (λe g=>ew prog w h e g/\M e.2) b.toList d/\d.Nodup
def gd(M:VE->Prop)(prog:Wa)(w:Wm)(h:V9)(a:VO)(b:List (List Int)):Prop:=eT M prog w h a b.length b
def Paired.perm{α β:Type}{F:α->β->Prop}{l1 l2:List α}(p:l1.Perm l2):∀{a:List β},Paired F l2 a->∃fG,fG.Perm a/\Paired F l1 fG:=by
 induction p with
 |nil=>intro a h;cases h;exact⟨[],.refl _,.nil⟩
 |cons x _ c =>
  intro a h;cases h with
  |cons b t =>
   obtain⟨fG,f,h'⟩:=c t;exact⟨_::fG,f.cons _,.cons b h'⟩
 |swap x y l =>
  intro a h;cases h with
  |cons b t =>
   cases t with
   |cons h2 t=>exact⟨_::_::_,XJ _ _ _,.cons h2 (.cons b t)⟩
 |trans _ _ d e =>
  intro a h;obtain⟨k1,p1,b⟩:=e h;obtain⟨k2,p2,h2⟩:=d b;exact⟨k2,p2.trans p1,h2⟩
theorem Paired.len{α β:Type}{F:α->β->Prop}:∀{l:List α}{a:List β},Paired F l a->l.length=a.length
 |_,_,.nil=>rfl
 |_,_,.cons _ t=>by simp[Paired.len t]
theorem Paired.mp{α β:Type}{F G:α->β->Prop}(f:∀a b,F a b->G a b):∀{l:List α}{c:List β},Paired F l c->Paired G l c
 |_,_,.nil=>.nil
 |_,_,.cons h t=>.cons (f _ _ h) (Paired.mp f t)
theorem eT.kept(x:eT M prog w h a c jo)(k:∀b o,h.get? b=Z o->h'.get? b=Z o):eT M prog w h' a c jo:=by
 obtain⟨o,f,d,t,g,i,j,l,m,u,n,p,q,r⟩:=x;exact⟨o,f,d,t,k _ _ g,i,j,l,m,u,n,p,Paired.mp (λe v ⟨⟨b,e1,e2,e3⟩,e4⟩=>⟨⟨b,e1,e2,e3.kept (k b)⟩,e4⟩) q,r⟩
theorem gd.kept(x:gd M prog w h a jo)(k:∀b o,h.get? b=Z o->h'.get? b=Z o):gd M prog w h' a jo:=eT.kept x k
def ew.move{d b t}(g:h.get? a=Z o)(f:o.data=.set d b t)(j:V6 a h h')(x:ew prog w h e aS):ew prog w h' e aS :=
 let ⟨c,e1,e2,e3⟩:=x;⟨c,e1,e2,e3.kept λk i=>(j.2 c (e3.ne g f)).trans i⟩
def vF(g3:A.units<Wy)(fj:eT M prog w s.heap a c q)(X:el prog w s.heap g b)(gg:M (.ref b))(h5:c<256)(h:∀h' y r,V6 a s.heap h'->eT M prog w h' a (if g∈q then c else c+1) y->y.Perm (if g∈q then q else g::q)->Q r { s with heap:=h' }):
  VJ (VM prog w) A (Yh a (.ref b) (cV prog w g)) Q E s:=by
 obtain⟨o,l,U,t,v,V,p,T,a2,f0,L,a1,K,dC⟩:=fj;obtain⟨N,fD,cp,dJ⟩:=xA T.bh T.full (cV prog w g);have h3:l.size=q.length:=by have:=Paired.len K;simpa using this
 unfold Yh setAddHashedIn;refine QS (PA (Qj v p (Tab.fits T) ?_));dsimp only;have gh:byScan (.ref b) l=false:=by unfold byScan;simp[ZW]
 rw[gh];simp only[PD,PZ];refine PA ?_;unfold setSearch;refine uz g3 v p T (Paired.mp (λ_ _ x=>x.1) K) X fD cp dJ (λa3 k kd a0=>?_) (λcP r _=>?_) 100000 0 Y Y (PN _) ?_ (λ_ z=>by cases z) rfl (λk c2=>absurd c2 (WY k))
 .-- kg kf hl
  dsimp only;have kb:=T.fill;have hsz:=T.ef;have f4:t.place.size+t.dummies.size+1<=t.mask:=by
   rw[kb]at a2;rw[hsz];rcases T.bh with e|e|e|e|e|e|e|e|e<;>rw[e]at a2 ⊢<;>lia
  have h2:k<=N:=(by rcases a0 with⟨_,z⟩|⟨_,z,_⟩<;>lia);have g1:∀i:Nat,t.place[i]?≠Z (a7 t.mask (cV prog w g) k):=λi e=>by
   rcases a0 with⟨_,z⟩|⟨_,_,jl,z⟩
   .subst z;exact cp (.inl ⟨i,e⟩)
   .exact T.j7 _ _ _ e z
  obtain⟨u,b1,b2,D,H,bp,R⟩:=T.put (x:=VQ b) g1 (λlA c2=>dJ lA ⋯) (.inr f4);refine PA (Qj v p (Tab.fits T) ?_);dsimp only;generalize ke:t.put (a7 t.mask (cV prog w g) k)=P at u b1 b2 D H bp R;obtain⟨f,p1⟩:=P;dsimp only at u b1 b2 D H bp R ⊢;rw[D,L];simp only[QI];refine PA (C7 X ?_);simp only[QI];have dD:=GG l p1 (cV prog w g,VQ b) b1;have au:(insertAt l p1 (cV prog w g,VQ b)).size=l.size+1:=lC _ _ _ b1;have f1:Paired (λe g=>ew prog w s.heap e g/\M e.2) ((cV prog w g,VQ b)::l.toList) (g::q):=.cons ⟨⟨b,rfl,rfl,X⟩,gg⟩ K;obtain⟨d2,ay,az⟩:=Paired.perm dD f1;have dr:d2.Nodup:=(ay.nodup_iff).mpr (Qk.mpr ⟨a3,dC⟩);generalize h0:insertAt l p1 (cV prog w g,VQ b)=d at u dD au az;have aJ:f.fill=d.size+f.dummies.size:=u.fill;have a5:d.size<=sizeLine:=(by rw[au,V3];lia);refine PA (SO v p ?_ a5);have I:(s.heap.update a (WE d f)).get? a=Z { o with data:=.set d (U+1) f }:=by
   have:=Qf (WE d f) v (by rw[SX d f p];rfl);rw[SX d f p]at this;exact this
  have a4:=QF s.heap a (WE d f);have ea:∀{h':V9},V6 a s.heap h'->∀(e:Int×VE)(av:List Int),(ew prog w s.heap e av/\M e.2)->(ew prog w h' e av/\M e.2):=λ{h'} g2 e av x=>⟨x.1.move v p g2,x.2⟩;have c0:∀h' y,V6 a s.heap h'->eT M prog w h' a (c+1) y->y.Perm (g::q)->Q J { s with heap:=h' }:=λh' y aA bf jk=>h h' y J aA (by rw[if_neg a3];exact bf) (by rw[if_neg a3];exact jk)
  have e0:f.fill*5<f.mask*3->f.fill<=c+1->Q J { s with heap:=s.heap.update a (WE d f) }:=λaA bf =>
   c0 _ d2 a4 ⟨_,_,_,f,I,V,rfl,u,aA,bf,by rw[D];exact L,by rw[H];exact a1,Paired.mp (ea a4) az,dr⟩ ay
  rcases a0 with⟨rfl,_⟩|⟨rfl,_,jh⟩
  .by_cases O:f.tooFull=J
   .simp only[O,Ud,Bool.and_self,QI];have G:f.fill*5>=f.mask*3:=(by unfold ZI at O;simpa using O);obtain⟨m,hh,f8,hj,iA,h4⟩:=cR.grow (n:=d.size) u.bh ⋯ (show d.size<=f.fill by lia) ⋯ G;refine PA ?_;unfold setRelay;refine PA (Qj I rfl (Tab.fits u) ?_);dsimp only;rw[<- au];have a5:¬sizeAbove (grown d.size)>sizeLine:=(by rw[V3];lia);rw[if_neg a5];obtain⟨j,B,e1,e2,e3,e4,S,bz,e5,_⟩:=yx (α:=VE) hh d iA f.finger (f.movedTo m) f.led f.plain;have C:f.relaid (d.map (·.1)) (grown d.size)=Z (j,B):=by
     unfold Yo;rw[f8];exact e1
    have f2:j.dummies=#[]:=by
     unfold Yo Y4 at C;cases z:layClean (sizeAbove (grown d.size)-1) (d.map (·.1)) with
     |none=>rw[z]at C;cases C
     |some nk=>rw[z]at C;cases C;rfl
    have cB:j.fill=d.size:=(by rw[bz.fill,f2,S];rfl);refine PA ?_;rw[C];show VJ (VM prog w) A (if ((B.filterMap (d[·]?)).size != d.size)=J then _ else pure (B.filterMap (d[·]?),j)) _ E _;rw[if_neg (by rw[S];simp)];refine VB ?_;dsimp only;refine SO I rfl ?_ (by rw[S,V3];lia);obtain⟨ji,eo,jj⟩:=Paired.perm e5 az;have hg:((s.heap.update a (WE d f)).update a (WE (B.filterMap (d[·]?)) j)).get? a=Z { o with data:=.set (B.filterMap (d[·]?)) (U+1+1) j }:=by
     have:=Qf (WE (B.filterMap (d[·]?)) j) I (by rw[SX _ j rfl];rfl);rw[SX _ j rfl]at this;exact this
    have dV:=a4.trans (QF _ a (WE (B.filterMap (d[·]?)) j));refine VB (c0 _ ji dV ⟨_,_,_,j,hg,V,rfl,bz,by rw[cB,e2];exact hj,by rw[cB];lia,by rw[e4,D];exact L,by rw[e3,H];exact a1,Paired.mp (ea dV) jj,(eo.nodup_iff).mpr dr⟩ (eo.trans ay))
   .have G:f.tooFull=false:=⇑O;simp only[G,WM,PD,PZ];refine VB (e0 ?_ ⋯);unfold ZI at G;have:¬f.fill*5>=f.mask*3:=⇑G;lia
  .simp only[QT,SR,PD,PZ];have:=R jh;refine VB (e0 ?_ ⋯);rw[b2];lia
 .dsimp only;exact VB (h s.heap q VC (Se a s.heap) (by rw[if_pos cP];exact⟨o,l,U,t,v,V,p,T,a2,f0,L,a1,K,dC⟩) (by rw[if_pos cP]))
 .have:=cR.turns T.bh;lia
def B5(m:A.units<Wy)(j:gd M prog w s.heap a c)(k:el prog w s.heap f b)(i:M (.ref b))(l:c.length<256)(h:∀h' d r,V6 a s.heap h'->gd M prog w h' a d->d.Perm (if f∈c then c else f::c)->Q r { s with heap:=h' }):
  VJ (VM prog w) A (Yh a (.ref b) (cV prog w f)) Q E s :=
 vF m j k i l λh' d r n o g=>h h' d r n (by
  have e:d.length=if f∈c then c.length else c.length+1:=(by rw[g.length_eq];split<;>rfl);unfold gd;rw[e];exact o) g
def Er(az:A.units<Wy)(S:eT M prog w s.heap a c j)(a3:el prog w s.heap aS b)(h:∀h' n,V6 a s.heap h'->eT M prog w h' a c n->(if aS∈j then(aS::n).Perm j else n=j)->Q (decide (aS∈j)) { s with heap:=h' }):
  VJ (VM prog w) A (setDiscardHashed a (.ref b) (cV prog w aS)) Q E s:=by
 obtain⟨o,d,q,t,g,u,f,T,C,V,G,y,m,B⟩:=S;obtain⟨N,R,a0,a5⟩:=xA T.bh T.full (cV prog w aS);have cO:d.size=j.length:=by have:=Paired.len m;simpa using this
 unfold setDiscardHashed setFind setFindIn;refine PA (PA (Qj g f (Tab.fits T) ?_));dsimp only;have U:byScan (.ref b) d=false:=by unfold byScan;simp[ZW]
 rw[U];simp only[PD,PZ];refine PA ?_;unfold setSearch;refine uz az g f T (Paired.mp (λ_ _ x=>x.1) m) a3 R a0 a5 (λD k c0 cN=>?_) (λv r ay=>?_) 100000 0 Y Y (PN _) ?_ (λ_ z=>by cases z) rfl (λk a4=>absurd a4 (WY k))
 .dsimp only;refine VB ?_;dsimp only;have:=h s.heap j (Se a s.heap) ⟨o,d,q,t,g,u,f,T,C,V,G,y,m,B⟩ (by rw[if_neg D]);rw[decide_eq_false D]at this;exact VB this
 .obtain⟨i,e,rfl,hi,aA⟩:=ay rfl;dsimp only;refine VB ?_;dsimp only;refine PA (Qj g f (Tab.fits T) ?_);dsimp only;have l:=(P9.mp hi).1;obtain⟨p,b2,K,L,bz⟩:=T.drop l;have hz:=nd d i l;have cA:=T.fill;have a1:=p.fill;refine PA (SO g f ?_ (by rw[V3];have:t.fill*5<t.mask*3:=C;rcases T.bh with e|e|e|e|e|e|e|e|e<;>rw[e]at this<;>lia));refine PA (wpAny_point ?_);have a2:(s.heap.update a (WE (eraseAt d i) (t.drop i))).get? a=Z { o with data:=.set (eraseAt d i) (q+1) (t.drop i) }:=by
   have:=Qf (WE (eraseAt d i) (t.drop i)) g (by rw[SX _ _ f];rfl);rw[SX _ _ f]at this;exact this
  have H:=QF s.heap a (WE (eraseAt d i) (t.drop i));have av:=EN d i l;obtain⟨cB,I,bg⟩:=Paired.perm av m;cases bg with
  |@cons _ k1 _ b1 bf bp =>
   have O:k1=aS:=by
    obtain⟨⟨b9,e1,_,e3⟩,_⟩:=bf;obtain⟨cz,e4,_,e5⟩:=aA;have X:d[i]=e:=(by rw[PK l]at hi;injection hi);rw[X,e4]at e1;cases e1;exact Z9 e3 e5
   subst O;have au:=(I.nodup_iff).mpr B;have:=h _ b1 H ⟨_,_,_,t.drop i,a2,u,rfl,p,by rw[a1,b2];lia,⋯,by rw[K];exact G,by rw[L];exact y,Paired.mp (λe cp x=>⟨x.1.move g f H,x.2⟩) bp,(Qk.mp au).2⟩ (by rw[if_pos v];exact I);rw[decide_eq_true v]at this;exact VB this
 .have:=cR.turns T.bh;lia
def Mb(f:A.units<Wy)(j:gd M prog w s.heap a c)(e:el prog w s.heap g b)(i:M (.ref b))(k:c.length<256)(h:∀h' tk d r,s.toks<=tk->V6 a s.heap h'->gd M prog w h' a d->d.Perm (if g∈c then c else g::c)->Q r { s with heap:=h',toks:=tk }):
  VJ (VM prog w) A (setAdd a (.ref b)) Q E s:=by
 unfold setAdd;refine QS (PA (wpAny_pyHash_tuple f e ?_));exact B5 (s:={ s with toks:=_ }) f j e i k λh' d r l m n=>h h' _ d r (Qg _ _) l m n
end
end Pv
end
section
namespace Pv
open PySem PySem.Spec PyProof.Rows d1 PySem.SetTable
section
variable{prog:Wa}{w:Wm}
structure q9(prog:Wa)(w:Wm)(κ:Type)[DecidableEq κ] where
 Row:V9->VE->κ->Prop
 Set:V9->VO->List κ->Prop
 fresh:∀(h:V9)(a:VO),h.get? a=Z { cls:=.type "set",dict:=Y,data:=.set #[] 0 (.fresh 0 0 (!w.params.followText "set-order")) }->Set h a []
 moved:∀{h h':V9}{a:VO}{aS:List κ},Set h a aS->(∀o,h.get? a=Z o->h'.get? a=Z o)->(∀b o,h.get? b=Z o->o.cls=.type "tuple"->h'.get? b=Z o)->Set h' a aS
 Am:∀{h h':V9}{v:VE}{k:κ},Row h v k->(∀b o,h.get? b=Z o->o.cls=.type "tuple"->h'.get? b=Z o)->Row h' v k
 zc:∀{h:V9}{a:VO}{aS:List κ},Set h a aS->∀o,h.get? a=Z o->o.cls≠.type "tuple"
 add:∀{A:Wc}{E:VE->VI->Prop}{s:VI}{a:VO}{v:VE}{k:κ}{aS:List κ}{Q:Bool->VI->Prop},A.units<Wy->Set s.heap a aS->Row s.heap v k->aS.length<256 ->
  (∀h' tk fG r,s.toks<=tk->V6 a s.heap h'->Set h' a fG->fG.Perm (if k∈aS then aS else k::aS)->Q r { s with heap:=h',toks:=tk })->VJ (VM prog w) A (setAdd a v) Q E s
section
variable{κ:Type}[DecidableEq κ]
abbrev met(a:List κ):Nat->List κ
 |0=>[]
 |i+1=>match a[i]? with
  |some k=>if k∈met a i then met a i else k::met a i
  |none=>met a i
theorem lP(a:List κ):∀(i:Nat),i<=a.length->∀k,k∈met a i<->k∈a.take i
 |0,_,k=>by simp[met]
 |i+1,hi,k=>by
  have d:=lP a i ⋯ k;have b:a[i]?=Z a[i]:=PG ⋯;have e:a.take (i+1)=a.take i++[a[i]]:=(by rw[List.take_succ,b];rfl);unfold met;rw[b,e,PS,<- d,P6];dsimp only
  split
  .rename_i c;constructor
   .exact .inl
   .rintro(h|h)
    .exact h
    .rw[h];exact c
  .rw[PF];exact⟨λh=>h.symm,λh=>h.symm⟩
theorem nH(a:List κ):∀i,(met a i).Nodup
 |0=>RF
 |i+1=>by
  unfold met
  split
  .split
   .exact nH a i
   .rename_i c;exact Qk.mpr ⟨c,nH a i⟩
  .exact nH a i
def JX{a:List κ}(h:l.Perm m)(h':a.Perm (if k∈l then l else k::l)):a.Perm (if k∈m then m else k::m):=by
 by_cases c:k∈l
 .rw[if_pos c]at h';rw[if_pos (h.mem_iff.mp c)];exact h'.trans h
 .rw[if_neg c]at h';rw[if_neg (λz=>c (h.mem_iff.mpr z))];exact h'.trans (h.cons k)
def Ou(K:q9 prog w κ){A:Wc}{R:Result->VI->Prop}{I:VO}{x wr:List VO}{n:Nat}{P:Nat->VE->Prop}{St:Nat->VI->Prop}{G:Array GenState->Array GenState->Prop}(W:WalksS prog w A.in1 I x wr G n P St)(S:VO)(z:S∉x)(a3:A.in1.units<Wy)(j:List κ)(h0:V9)(H:∀i s,St i s->∀b∈wr,∀o,s.heap.get? b=Z o->o.cls≠.type "tuple")(a4:∀i v,P i v->∃k,j[i]?=Z k/\K.Row h0 v k)(c:∀i,i<n->(met j i).length<256):
  ∀(k i:Nat)(s:VI),n-i=k->i<=n->St i s->(∀b o,h0.get? b=Z o->o.cls=.type "tuple"->s.heap.get? b=Z o)->(∃l,K.Set s.heap S l/\l.Perm (met j i)) ->
   (∀s' l,Moved (S::wr) G s s'->K.Set s'.heap S l->l.Perm (met j n)->R (.ok (.ret .none)) s') ->
   XC (VM prog w) A (.builtin "set.update.loop" ⟨[.ref S,.ref I],[]⟩) R s:=by
 have B:S∉wr:=λh=>z (W.sub _ h)
 have E:∀b∈wr,b∈S::wr:=λb c=>VG _ c
 intro k
 induction k with
 |zero =>
  rintro i s T hi f C ⟨l,m,g⟩ hR;have Q:i=n:=⋯;subst Q;refine Q3 S3 ?_;rw[Rp RP _];show VJ _ A.in1 (Xk (.ref I)>>=_) _ _ s;refine PA (W.done s _ _ f λs' d=>?_);show VJ _ A.in1 (ret Value.none) _ _ s';exact VB (hR s' l (d.mono E) (K.moved m (λo e=>d.heap S o B e) λb o e a=>d.heap b o (λp=>H _ s f b p o e a) e) g)
 |succ k a5 =>
  rintro i s T hi f C ⟨l,m,g⟩ hR;have q:i<n:=⋯;refine Q3 S3 ?_;rw[Rp RP _];show VJ _ A.in1 (Xk (.ref I)>>=_) _ _ s;refine PA (W.item i s _ _ q f λv s' M a2 d=>?_);obtain⟨key,V,O⟩:=a4 i v M;have tk:∀b o,s.heap.get? b=Z o->o.cls=.type "tuple"->s'.heap.get? b=Z o:=λb o e a=>d.heap b o (λp=>H _ s f b p o e a) e
  have y:K.Set s'.heap S l:=K.moved m (λo e=>d.heap S o B e) tk;have D:∀b o,h0.get? b=Z o->o.cls=.type "tuple"->s'.heap.get? b=Z o:=λb o e a=>tk b o (C b o e a) a
  have U:K.Row s'.heap v key:=K.Am O D;show VJ _ A.in1 (X8 [v] (setAdd S v)>>=_) _ _ s';refine PA (QS (K.add a3 y U (by rw[g.length_eq];exact c i q) λh' b1 au r L t az aA=>?_));have a1:∀b o,s'.heap.get? b=Z o->o.cls=.type "tuple"->b≠S:=λb o e a=>by
   rintro rfl;exact K.zc y o e a
  refine VB ⟨TO RP _,a5 (i+1) _ ⋯ q (W.frame _ s' _ _ a2 L λb c o e=>?_) (λb o e a=>?_) ⟨au,az,?_⟩ λay av a0 N X=>?_⟩
  .rw[t.2 b (λh:b=S=>z (by rw[<- h];exact c))];exact e
  .have u:=D b o e a;show h'.get? b=Z o;rw[t.2 b (a1 b o u a)];exact u
  .unfold met;rw[V];exact JX g aA
  .refine hR ay av (Moved.trans W.gtrans ((d.mono E).then_heap L λb o c e=>?_) a0) N X;rw[t.2 b (λh:b=S=>c (by rw[h];exact VF))];exact e
end
def n1(a)(h:Q₁ (.ref s.heap.objs.size) { s with heap:=s.heap.push { cls:=.type "set",dict:=Y,data:=.set #[] 0 (.fresh 0 0 (!w.params.followText "set-order")) } }):
  XC (VM prog w) A (.call (.builtin "set.__new__") ⟨[.type "set",a],[]⟩) (wants Q₁ E) s:=by
 refine codeAny_of_tree ?_;show VJ _ A.in1 (do X3 "set.__new__" ⟨[.type "set",a],[]⟩;again (.builtin "set.__new__" ⟨[.type "set",a],[]⟩)) _ _ s;refine PA (Vf (F.newCall_set_1 a) (VB ⟨TO F.plain_set_new _,Q3 F.entry_set_new ?_⟩));rw[Rp F.plain_set_new _];unfold WK.«set.__new__» Builtin.Frozenset.newClass;have c:=Zo;obtain⟨b,g,d,tk,os⟩:=s;dsimp only
 wp_walk
 refine Rq (VB ?_);dsimp only;simp only[newObj];refine PA (wpAny_alloc (VB ?_));exact VB h
def qA(led):Tab (α:=VE) #[] (We 0 0 led):=by
 refine⟨λi j a b _ h=>?_,λi j a b _ h=>?_,λi j h=>?_,λi j h=>?_,λi c j h=>?_,rfl,.inl rfl,PN _,λi j e h=>?_⟩<;>simp[We]at h
theorem zu{α β:Type}{F:α->β->Prop}:∀{l:List α}{b:List β},Paired F l b->∀(i:Nat)(v:α),l[i]?=Z v->∃k,b[i]?=Z k/\F v k
 |_,_,.nil,i,v,h=>by simp at h
 |_,_,.cons a t,0,v,h=>by simp at h;subst h;exact⟨_,rfl,a⟩
 |_,_,.cons a t,i+1,v,h=>by
  have:=zu t i v ⇑h;simpa using this
def OP(k:A.handled=Y)(n:T="list"\/T="tuple")(d:h.get? l=Z { cls:=.type T,dict:=r,data:=.seq items g,slots:=t }):
  ∃(j:WW)(St:Nat->V9->Prop),j.cls≠.type "tuple"/\(∀(f:Wc)(E:VE->VI->Prop)(s:VI)(Q:VE->VI->Prop),s.heap=h->Q (.ref h.objs.size) { s with heap:=h.push j }->VJ (VM prog w) f (YA (.ref l)) Q E s) /\
   Walks prog w A h.objs.size [h.objs.size,l] [h.objs.size] items.size (λi v=>items[i]?=Z v) St/\St 0 (h.push j)/\∀i h',St i h'->∀o,h'.get? h.objs.size=Z o->o.cls≠.type "tuple":=by
 have m:l<h.objs.size:=PJ d;rcases n with rfl|rfl
 .have b:h.IsList l items:=⟨_,d,rfl,g,rfl⟩;refine⟨{ cls:=.type "list_iterator",data:=.fields #[.ref l,.int 0 0] },_,by show Wj _≠Wj _;decide,λf E s Q e q=>?_,Walks.list k h.objs.size l (PY m) items,⟨⟨_,PQ _ rfl,rfl,rfl⟩,b.push _⟩,λi h' st o e=>?_⟩
  .subst e;exact Ux b q
  .obtain⟨⟨p,a,c,_⟩,_⟩:=st;rw[e]at a;cases a;rw[c];decide
 .have b:h.IsTuple l items:=⟨_,d,rfl,g,rfl⟩;refine⟨{ cls:=.type "tuple_iterator",data:=.fields #[.ref l,.int 0 0] },_,by show Wj _≠Wj _;decide,λf E s Q e q=>?_,Walks.tuple k h.objs.size l (PY m) items,⟨⟨_,PQ _ rfl,rfl,rfl⟩,⟨_,PC _ d,rfl,g,rfl⟩⟩,λi h' st o e=>?_⟩
  .subst e;exact wpAny_pyIter_tuple b q
  .obtain⟨⟨p,a,c,_⟩,_⟩:=st;rw[e]at a;cases a;rw[c];decide
def wh {κ : Type} [DecidableEq κ] (K : q9 prog w κ) {s : VI} {a : List κ} (g : T = "list" \/ T = "tuple")
    (O : A.handled = Y) (cN : A.units + 64 < Wy) (t : s.heap.get? l = Z { cls := .type T, dict := ay, data := .seq k av, slots := aA }) (hi : Paired (K.Row s.heap) k.toList a) (d : ∀ i, i < a.length -> (met a i).length < 256)
    (h : ∀ (h' : V9) (tk : Nat) (r : List κ), K.Set h' s.heap.objs.size r -> r.Perm (met a a.length) ->
      (∀ b o, b < s.heap.objs.size -> s.heap.get? b = Z o -> h'.get? b = Z o) -> Q (.ref s.heap.objs.size) { s with heap := h', toks := tk }) :
    VJ (VM prog w) A (call (.type "set") [.ref l]) Q E s := by
  obtain ⟨c, cp, c0⟩ := Sx.mro
  have bz := Sx.made
  have cA := Sx.sub
  refine wpAny_call (codeAny_of_tree ?_)
  show VJ _ _ (callAny (.type "set") _) _ _ _
  refine VB ⟨Ui _ (by decide +kernel), Q3 F.entry_type_call ?_⟩
  rw [Around.under_plain (weight_type_call_type "set" [.ref l] []) rfl]
  have a8 := Sx.notType
  have h2 := Sx.canCreate
  have bg := F.typeCall_set_1 (.ref l)
  repeat (any_goals (first | assumption | wp_step))
  refine T8 (n1 (.ref l) (E := E) (Q₁ := fun u x => ∃ led : Bool, led = (!w.params.followText "set-order") /\ u = .ref s.heap.objs.size /\ x = { s with heap := s.heap.push { cls := .type "set", dict := Y, data := .set #[] 0 (.fresh 0 0 led) } }) ⟨_, rfl, rfl, rfl⟩) fun r x n => ?_
  cases r with
  | error e => exact n
  | ok D =>
    cases D with
    | ret u =>
      obtain ⟨led, a0, rfl, rfl⟩ := n
      have q : (s.heap.push { cls := .type "set", dict := Y, data := .set #[] 0 (.fresh 0 0 led) }).get? s.heap.objs.size = Z { cls := .type "set", dict := Y, data := .set #[] 0 (.fresh 0 0 led) } := PQ _ rfl
      have L : Shared.TypeIs { s with heap := s.heap.push { cls := .type "set", dict := Y, data := .set #[] 0 (.fresh 0 0 led) } } (.ref s.heap.objs.size) "set" := ⟨_, q, rfl⟩
      have bp := Sx.init.lookup
      have a9 := Sx.init.bind (.ref s.heap.objs.size)
      repeat (any_goals (first | assumption | wp_step))
      refine T8 (TS (R := wants (fun r y => r = .none /\ ∃ h' tk f, y = { s with heap := h', toks := tk } /\ K.Set h' s.heap.objs.size f /\ f.Perm (met a a.length) /\
          (∀ b o, b < s.heap.objs.size -> s.heap.get? b = Z o -> h'.get? b = Z o)) E) Sx.init.plain F.entry_set_init (check_set_init_1 L ?_)) fun b1 y p => ?_
      · have a3 : (s.heap.push { cls := .type "set", dict := Y, data := .set #[] 0 (.fresh 0 0 led) }).get? l = Z { cls := .type T, dict := ay, data := .seq k av, slots := aA } := PC _ t
        have cz : isSubtype (.type T) (.type "set") = pure false := by rcases g with rfl | rfl; exact F.sub_list_set; exact F.sub_tuple_set
        have b9 : isSubtype (.type T) (.type "frozenset") = pure false := by rcases g with rfl | rfl; exact F.sub_list_frozenset; exact F.sub_tuple_frozenset
        have cy : (Wj T == Wj "dict") = false := by rcases g with rfl | rfl <;> decide
        have S : A.in1.in1.in1.handled = none := by simp [O]
        obtain ⟨cO, St, da, U, W, st0, a2⟩ := OP (prog := prog) (w := w) S g a3
        unfold WK.«set.__init__» noKeywords Xv
        generalize H : YA = bc
        wp_walk
        subst H
        refine U _ _ _ _ rfl ?_
        refine PA (Tp ?_)
        have X : l < s.heap.objs.size := PJ t
        have I : s.heap.objs.size ∉ [(s.heap.push { cls := .type "set", dict := Y, data := .set #[] 0 (.fresh 0 0 led) }).objs.size, l] := by
          rw [Vg]; simp only [PF, P6, Sp, Vz, not_or]
          exact ⟨PY (Rg _), T7 X⟩
        have a1 : k.size = a.length := by have := Paired.len hi; simpa using this
        refine Ou K (W.toS) s.heap.objs.size I ?hu2 a s.heap (fun i s' st b d o e => ?nt) (fun i v au => ?val) (fun i bf => d i ⋯) (k.size - 0) 0 _ ⋯ (PN _)
          st0 (fun b o e _ => PC _ (PC _ e)) ⟨[], ?hS0, .refl _⟩ ?hR
        case hu2 => first | (show A.units + 1 + 1 + 1 + 1 < Wy; lia) | (show A.units + 1 + 1 + 1 < Wy; lia) | (simp [Around.in1]; lia)
        case nt =>
          rw [P6] at d
          subst d
          exact a2 i _ st o e
        case val => exact zu hi i v (by rw [P2]; exact au)
        case hS0 =>
          refine K.fresh _ _ ?_
          rw [<- a0]
          exact PC _ q
        case hR =>
          intro s' f j m a4
          obtain ⟨h', g', d', b2, az⟩ := s'
          have B : g' = s.gens := j.gens
          have z : d' = s.drawn := j.drawn
          have C : az = s.os := j.os
          subst B; subst z; subst C
          show VJ _ _ _ _ _ _
          refine VB ?_
          show VJ _ _ (ret Value.none) _ _ _
          refine VB ⟨rfl, h', b2, f, rfl, m, by rw [<- a1]; exact a4, fun b o d e => ?_⟩
          have M : b ≠ s.heap.objs.size := PY d
          have N : b ≠ (s.heap.push { cls := .type "set", dict := Y, data := .set #[] 0 (.fresh 0 0 led) }).objs.size := by
            rw [Vg]; exact PY (Zp d)
          exact j.heap b o (by simp only [PF, P6, Sp, Vz, not_or]; exact ⟨M, N⟩) (PC _ (PC _ e))
      · cases b1 with
        | error e => exact p
        | ok G =>
          cases G with
          | ret r =>
            obtain ⟨rfl, h', tk, f, rfl, m, a5, V⟩ := p
            repeat (any_goals (first | assumption | wp_step))
            exact h _ _ f m a5 V
          | _ => exact p.elim
    | _ => exact n.elim
end
section
variable{prog:Wa}{w:Wm}
def tw(M:VE->Prop)(prog)(w):q9 prog w (List Int) where
 Row:=λh v g=>∃b,v=.ref b/\el prog w h g b/\M v
 Set:=gd M prog w
 fresh:=λh a e=>⟨_,#[],0,_,e,⟨rfl,rfl,rfl⟩,rfl,qA _,by show 0*5<7*3;decide,PE 0,rfl,by show(!w.params.followText "set-order")=J<->_;simp,.nil,RF⟩
 moved:=λ{h h' a a5} x N k=>by
  obtain⟨o,u,q,t,H,R,S,T,U,a2,V,X,a0,a1⟩:=x;refine⟨o,u,q,t,N _ H,R,S,T,U,a2,V,X,Paired.mp (λe g ⟨⟨b,e1,e2,e3⟩,e4⟩=>⟨⟨b,e1,e2,?_⟩,e4⟩) a0,a1⟩;obtain⟨f,j,n,y,h2,h3⟩:=e3;exact⟨f,j,n,k b f y h2,h2,h3⟩
 Am:=λx k=>by
  obtain⟨b,e,⟨f,j,m,l,i,d⟩,a4⟩:=x;exact⟨b,e,⟨f,j,m,k b f l i,i,d⟩,a4⟩
 zc:=λx o e=>by
  obtain⟨au,_,_,_,p,C,_⟩:=x;rw[e]at p;cases p;rw[C.1];decide
 add:=λ{A E s a v k g Q} L B I G h=>by
  obtain⟨b,rfl,D,z⟩:=I;refine Mb L B D z G λh' tk O r a3 l i d=>h h' tk O r a3 l i ?_
  by_cases c:k∈g
  .rw[if_pos c]at d ⊢;exact d
  .rw[if_neg c]at d ⊢;exact d
end
def mh:Slot "set_iterator" "__next__" "set_iterator.__next__" :=
 .of (owner:="set_iterator") (n:="__next__") (by rw[U8,Tw];kernel_rfl) (by decide +kernel) (by decide +kernel) (by decide +kernel)
  (by first|exact .inl (by decide +kernel)|exact .inr (by decide +kernel)) (by rw[Uj];kernel_rfl)
def w6:Zq table "set_iterator.__next__"=Z WK.«set_iterator.__next__»:=entryFor_of_tree (by kernel_rfl)
def zm:Manifest.owners.lookup (String.ofList ['r','o','t','a','r','e','t','i','_','t','e','s'].reverse)=Z Manifest.sig_set_iterator:=by kernel_rfl
def vO(a):argsOk "set_iterator.__next__" ⟨[a],[]⟩:=by
 unfold argsOk;rw[Y5 (id:="set_iterator.__next__") (n:=['_','_','t','x','e','n','_','_']) (o:=['r','o','t','a','r','e','t','i','_','t','e','s']) (by kernel_rfl) zm];kernel_rfl
def AU:Slot "set_iterator" "__iter__" "set_iterator.__iter__" :=
 .of (owner:="set_iterator") (n:="__iter__") (by rw[U8,Tw];kernel_rfl) (by decide +kernel) (by decide +kernel) (by decide +kernel)
  (by first|exact .inl (by decide +kernel)|exact .inr (by decide +kernel)) (by rw[Uj];kernel_rfl)
def Cf(a):argsOk "set_iterator.__iter__" ⟨[a],[]⟩:=by
 unfold argsOk;rw[Y5 (id:="set_iterator.__iter__") (n:=['_','_','r','e','t','i','_','_']) (o:=['r','o','t','a','r','e','t','i','_','t','e','s']) (by kernel_rfl) zm];kernel_rfl
def AS:Slot "set" "__iter__" "set.__iter__" :=
 .of (owner:="set") (n:="__iter__") (by rw[U8,Tw];kernel_rfl) (by decide +kernel) (by decide +kernel) (by decide +kernel)
  (by first|exact .inl (by decide +kernel)|exact .inr (by decide +kernel)) (by rw[Uj];kernel_rfl)
def Ce(a):argsOk "set.__iter__" ⟨[a],[]⟩:=by
 unfold argsOk;rw[Y5 (id:="set.__iter__") (n:=['_','_','r','e','t','i','_','_']) (o:=['t','e','s']) (by kernel_rfl) PySem.F.owner_set];kernel_rfl
def EE:Zq table "set.__iter__"=Z WK.«frozenset.__iter__»:=Vh (id':="frozenset.__iter__") (by kernel_rfl) rfl (by decide +kernel) (by kernel_rfl)
def EF:Zq table "set_iterator.__iter__"=Z WK.«dict_keyiterator.__iter__»:=Vh (id':="dict_keyiterator.__iter__") (by kernel_rfl) rfl (by decide +kernel) (by kernel_rfl)
theorem xe{α:Type}:∀(l:List α)(i:Nat)(h:i<l.length),(l[i]::l.eraseIdx i).Perm l
 |x::r,0,_=>by simp
 |x::r,i+1,h=>by
  simp only[List.getElem_cons_succ,List.eraseIdx_cons_succ];exact(XJ _ _ _).trans ((xe r i ⇑h).cons x)
theorem zI{α:Type}(next):∀(fuel k:Nat)(left:List α)(a:Array α),left.length<=fuel->(Zr next fuel k left a).toList.Perm (a.toList++left)
 |0,k,left,a,h=>by
  have:left=[]:=Tg.mp ⋯;subst this;simp[Zr]
 |fuel+1,k,left,a,h=>by
  unfold Zr;cases left with
  |nil=>simp
  |cons x r =>
   have b:next k%(x::r).length<(x::r).length:=Vu _ (by simp)
   have c:(x::r)[next k%(x::r).length]?=Z (x::r)[next k%(x::r).length]:=PG b;rw[c];refine(zI next fuel (k+1) _ _ (by rw[List.length_eraseIdx_of_lt b];simp only[VS]at h ⊢;lia)).trans ?_;rw[SP,PR];exact R0 _ (xe _ _ b)
def J7{α:Type}(next)(xs:Array α):(YT next xs).toList.Perm xs.toList:=by
 unfold YT;have:=zI next xs.size 0 xs.toList #[] (by simp)
 simpa using this
section
variable{prog:Wa}{w:Wm}
structure hI(w:Wm)(o:WW)(aw:Array (Int×VE))(hc:Nat)(t:Xd):Prop where
 ex:o.ExactSet
 data:o.data=.set aw hc t
 tab:Tab aw t
 plain:t.plain=J
 led:t.led=J<->w.params.followText "set-order"=VC
abbrev du(w:Wm)(a:VO)(b:Array (Int×VE))(c:Nat):Array (Int×VE):=if w.params.followText "set-order"=J then YT (w.params.setOrder a c) b else b
def ks(w)(a)(b)(c):(du w a b c).toList.Perm b.toList:=by
 unfold du;split
 .exact J7 _ _
 .exact .refl _
abbrev slotAt(w:Wm)(t:Xd)(i:Nat):Nat:=if w.params.followText "set-order"=J then 0 else match i with
 |0=>0
 |j+1=>t.place.getD j 0+1
def jR(h:V9)(c a:VO)(slot i n b:Nat):Prop:=∃o,h.get? c=Z o/\o.cls=.type "set_iterator"/\o.data=.fields #[.int slot 0,.int i 0,.ref a,.int n 0,.int b 0]
def jR.typeIs{s:VI}{slot i n b:Nat}(h:jR s.heap e a slot i n b):s.TypeIs (.ref e) "set_iterator":=let ⟨o,d,c,_⟩:=h;⟨o,d,c⟩
def CN{b:Array (Int×VE)}(T:Tab b t)(hw:w.params.followText "set-order"=VC)(hi:i<=b.size):below t.place (slotAt w t i)=i:=by
 unfold slotAt;rw[if_neg (by rw[hw];decide)];obtain⟨a,h2,h3⟩:=mQ T.hx (match i with|0=>0|j+1=>t.place.getD j 0+1);rw[T.ef]at a;cases i with
 |zero =>
  dsimp only at a h2 h3
  by_cases c:below t.place 0=0
  .exact c
  .exfalso;have m:0<t.place.size:=(by rw[T.ef];lia);have:=h2 0 _ ⋯ (PK m);lia
 |succ j =>
  have f:j<t.place.size:=(by rw[T.ef];lia);have d:t.place[j]?=Z t.place[j]:=PK f;have k:t.place.getD j 0=t.place[j]:=(by simp[WJ,f]);dsimp only at a h2 h3 ⊢;rw[k]at a h2 h3 ⊢
  by_cases g:below t.place (t.place[j]+1)<=j
  .exfalso;have:=h3 j _ g d;lia
  .by_cases h:j+1<below t.place (t.place[j]+1)
   .exfalso;have l:j+1<t.place.size:=(by rw[T.ef];lia);have e:t.place[j+1]?=Z t.place[j+1]:=PK l;have a1:=h2 (j+1) _ h e;have a2:=T.hx j (j+1) _ _ ⋯ d e;lia
   .omega
def AG(g:s.heap.get? a=Z o)(O:hI w o aw b t)(hi:i<=aw.size)(h:Q ((du w a aw b)[i]?.map λe=>(e.2,slotAt w t (i+1))) s):VJ (VM prog w) A (setNext a (slotAt w t i) i b) Q E s:=by
 unfold setNext;refine PA (Qj g O.data (Tab.fits O.tab) ?_);dsimp only;unfold XK;refine PA (PA (Rq (VB ?_)));cases hw:w.params.followText "set-order" with
 |true =>
  have d:(VM prog w).w.params.followText "set-order"=true:=hw;simp only[d,QI];simp only[RJ,PD,PZ];refine PA ?_;unfold setWalk;refine PA (Qj g O.data (Tab.fits O.tab) ?_);unfold XK;refine PA (PA (Rq (VB ?_)));simp only[d,QI];refine PA (Rq (VB ?_));have e1:du w a aw b=YT (w.params.setOrder a b) aw:=(by unfold du;rw[if_pos hw]);have e2:∀i,slotAt w t i=0:=λi=>by unfold slotAt;rw[if_pos hw]
  rw[e1]at h;refine VB ?_;simp only[e2]at h ⊢;exact h
 |false =>
  have d:(VM prog w).w.params.followText "set-order"=false:=hw;simp only[d,PD,PZ];have l:(!t.plain&&decide (aw.size>1))=false:=(by rw[O.plain];rfl);show VJ (VM prog w) A (if (!t.plain&&decide (aw.size>1))=J then _ else _) Q E s;rw[l];simp only[PD,PZ];have m:t.led=true:=O.led.mpr hw;refine PA ?_;show VJ (VM prog w) A (if (!t.led&&!aw.isEmpty)=J then _ else pure ()) _ E s;rw[m];simp only[QT,SR,PD,PZ];refine VB ?_;rw[CN O.tab hw hi];have e1:du w a aw b=aw:=(by unfold du;rw[if_neg (by rw[hw];decide)]);rw[e1]at h;refine VB ?_
  by_cases c:i<aw.size
  .have f:aw[i]?=Z aw[i]:=PK c;have j:i<t.place.size:=(by rw[O.tab.ef];exact c);have k:t.place[i]?=Z t.place[i]:=PK j;rw[f]at h ⊢;rw[k];have e3:slotAt w t (i+1)=t.place[i]+1:=(by unfold slotAt;rw[if_neg (by rw[hw];decide)];simp[WJ,j]);rw[e3]at h;exact h
  .have f:aw[i]?=none:=RS ⋯;rw[f]at h ⊢;exact h
def next_item(u:s.heap.get? a=Z o)(O:hI w o e g t)(r:jR s.heap p a (slotAt w t i) i e.size g)(z:(du w a e g)[i]?=Z x)(B:∀h',jR h' p a (slotAt w t (i+1)) (i+1) e.size g->V6 p s.heap h'->Q (Z x.2) { s with heap:=h' }):VJ (VM prog w) A (Xk (.ref p)) Q E s:=by
 obtain⟨h,k,y,b⟩:=id r;have hsz:(du w a e g).size=e.size:=by have:=(ks w a e g).length_eq;simpa using this
 have hi:i<=e.size:=by rw[<- hsz];exact Qs (P9.mp z).1
 have D:p≠a:=by
  rintro rfl;rw[u]at k;cases k;rw[O.data]at b;cases b
 unfold Xk;refine PA (S8 (Rc (name:=Xb "__next__") r.typeIs mh
  (QQ mh r.typeIs w6 ?_ (vO _))))
 unfold WK.«set_iterator.__next__»;refine PA (m:=slotArgs _ _ _) (VB ?_);refine PA (Uk k b ?_);dsimp only;refine PA (T4 u O.data (Tab.fits O.tab) ?_);simp only[RJ,PD,PZ];simp only[Wk];refine PA (AG u O hi ?_);rw[z];simp only[WO];have q:=Qf (Wi (·.setIfInBounds 0 (Xl (slotAt w t (i+1):Nat)))) k (by obtain⟨c,d,j,l⟩:=h;simp only at b;subst b;rfl);refine PA (Ri k b (by simp) ?_);have f:(Wi (·.setIfInBounds 0 (Xl (slotAt w t (i+1):Nat))) h).data=.fields #[.int (slotAt w t (i+1):Nat) 0,.int i 0,.ref a,.int e.size 0,.int g 0]:=by
  obtain⟨c,d,j,l⟩:=h;simp only at b;subst b;rfl
 have n:(Wi (·.setIfInBounds 0 (Xl (slotAt w t (i+1):Nat))) h).cls=.type "set_iterator":=by
  obtain⟨c,d,j,l⟩:=h;simp only at b y;subst b;exact y
 generalize Wi (·.setIfInBounds 0 (Xl (slotAt w t (i+1):Nat))) h=v at q f n;refine PA (Ri q f (by simp) ?_);have C:=Qf (Wi (·.setIfInBounds 1 (Xl ((i:Int)+1)))) q (by obtain⟨c,d,j,l⟩:=v;simp only at f;subst f;rfl);refine VB ?_;refine⟨_,rfl,VB ?_⟩;refine B _ ⟨_,C,?_,?_⟩ ((QF ..).trans (QF ..))
 .obtain⟨c,d,j,l⟩:=v;simp only at f n;subst f;exact n
 .obtain⟨c,d,j,l⟩:=v;simp only at f n;subst f;rfl
def next_end(k:A.handled=Y)(g:s.heap.get? a=Z o)(O:hI w o c d t)(e:jR s.heap i a (slotAt w t c.size) c.size c.size d)(j:∀h',Heap.ExtBut i s.heap h'->Q Y { s with heap:=h' }):VJ (VM prog w) A (Xk (.ref i)) Q E s:=by
 obtain⟨n,h,l,f⟩:=id e;have hsz:(du w a c d).size=c.size:=by have:=(ks w a c d).length_eq;simpa using this
 unfold Xk;refine PA (S8 (Rc (name:=Xb "__next__") e.typeIs mh
  (QQ mh e.typeIs w6 ?_ (vO _))))
 unfold WK.«set_iterator.__next__»;refine PA (m:=slotArgs _ _ _) (VB ?_);refine PA (Uk h f ?_);dsimp only;refine PA (T4 g O.data (Tab.fits O.tab) ?_);simp only[RJ,PD,PZ];simp only[Wk];refine PA (AG g O (PE _) ?_);rw[RS ⋯];simp only[Option.map_none];refine PA (Ri h f (by simp) ?_);show VJ _ _ (newExc (.type "StopIteration") []>>=_) _ _ _;refine PA ?_;simp only[newExc,newTuple];refine PA (Qi ?_ (by size_fits));refine PA (m:=W8 _ _) (Vf (a:=Value.none) (by first|rfl|(simp only[W8];rfl)) ?_);refine Qi ?_ (by size_fits);simp only[raiseNew];refine PA (Vo ?_);rw[show A.in1.handled=Y from k];refine PA (VB (ZP ?_));refine PA (Sq (T:="StopIteration") (b:=J) ⟨_,PQ _ rfl,rfl⟩ Vi ?_);exact VB (j _ (((QF ..).extBut.push _).push _))
def G3{slot i n d:Nat}(b:jR s.heap c a slot i n d)(h:Q (.ref c) s):VJ (VM prog w) A (YA (.ref c)) Q E s:=by
 refine Uy b.typeIs AU (QQ AU b.typeIs EF ?_ (Cf _));show VJ _ _ (ret (.ref c)) _ _ s;exact VB ⟨_,rfl,"set_iterator",_,b.typeIs,mh.lookup,h⟩
def G4(c:s.heap.get? a=Z o)(O:hI w o d f t)(g:Q (.ref s.heap.objs.size) { s with heap:=s.heap.push { cls:=.type "set_iterator",data:=.fields #[.int 0 0,.int 0 0,.ref a,.int d.size 0,.int f 0] } }):VJ (VM prog w) A (YA (.ref a)) Q E s:=by
 have e:s.TypeIs (.ref a) "set":=⟨o,c,O.ex.1⟩;refine Uy e AS (QQ AS e EE ?_ (Ce _));unfold WK.«frozenset.__iter__» Builtin.Frozenset.slot0 slotArgs;simp only[List.isEmpty_nil,QT,PD,↓reduceIte,bind_assoc,Wq,RJ];unfold Wb Builtin.Frozenset.sizeOf;simp only[pure_bind,bind_assoc];refine PA (T4 c O.data (Tab.fits O.tab) ?_);unfold setDrawn;simp only[bind_assoc];refine PA (Qj c O.data (Tab.fits O.tab) ?_);unfold XK;simp only[bind_assoc];refine PA (Rq ?_);simp only[pure_bind];have h:∀b:Bool,(!b&&(!t.plain&&decide (d.size>1)))=false:=λb=>by rw[O.plain];simp
 show VJ (VM prog w) A.in1 (if (!(VM prog w).w.params.followText "set-order"&&(!t.plain&&decide (d.size>1)))=J then _ else _) _ _ s;rw[h];simp only[PD,PZ,pure_bind];unfold setEpoch;simp only[bind_assoc,pure_bind];refine PA (Qj c O.data (Tab.fits O.tab) ?_);dsimp only;refine PA (Qi (VB ⟨_,rfl,"set_iterator",_,⟨_,PQ _ rfl,rfl⟩,mh.lookup,?_⟩));exact g
def OS(p:A.handled=Y)(q:a≠I)(O:hI w o c d t):
  Walks prog w A I [I,a] [I] c.size (λi v=>∃x,(du w a c d)[i]?=Z x/\v=x.2) (λi h=>jR h I a (slotAt w t i) i c.size d/\h.get? a=Z o) where
 sub:=λb f=>by simp at f;simp[f]
 frame:=λi h h' st k=>⟨let ⟨g,e,r⟩:=st.1;⟨g,k I (by simp) g e,r⟩,k a (by simp) o st.2⟩
 item:=λi s Q E hi st j=>by
  have hsz:(du w a c d).size=c.size:=(by have:=(ks w a c d).length_eq;simpa using this);have l:(du w a c d)[i]?=Z (du w a c d)[i]:=PK ⋯;exact next_item st.2 O st.1 l λh' u m=>j _ h' s.toks ⟨_,l,rfl⟩ ⟨u,(m.2 a q).trans st.2⟩ λb g f e=>m.extBut b g (λh=>f (by simp[h])) e
 done:=λs Q E st j=>next_end p st.2 O st.1 λh' n=>j h' s.toks λb g f e=>n b g (λh=>f (by simp[h])) e
 self:=λi s Q E st j=>G3 st.1 j
def Gr(a:s.TypeIs (.ref r) "set")(h:Q VC s):VJ (VM prog w) A (XF (.ref r)) Q E s:=by
 unfold XF;refine PA (U4 a PySem.F.slot_set_len.lookup ?_);generalize d:("set.__len__":String)=e
 wp_delta
 rw[show splitId e=Z ("set","__len__") from by subst d;decide +kernel];subst d;refine PA (Sq (T:="set") (b:=J) a (by rw[Uj];kernel_rfl) ?_);refine wpAny_ite_split (λc=>absurd c ∅) (λ_=>?_);refine wpAny_ite_split (λ_=>?_) (λc=>absurd (by decide +kernel) c);refine PA (R8 a ?_);exact VB h
end
def EH:Zq table "set.__xor__"=Z WK.«frozenset.__xor__»:=Vh (id':="frozenset.__xor__") (by kernel_rfl) rfl (by decide +kernel) (by kernel_rfl)
abbrev A5(id:String)(l:VO)(r:VE):ZN Value:=do
 let a <- XM id (<- Xe l) r
 X8 [a] (WC id (<- Wb a) (.ref l))
 return a
def xor_eq(args:Args):WK.«frozenset.__xor__» args=(do
 let (self,a) <- X4 "__xor__" args
 let (l,r):=if VC then(a,self) else(self,a)
 if !(<- WU l <&&> WU r) then Zk s!"frozenset.{"__xor__"}.declined";return <- ret .notImplemented
 ret (<- A5 s!"frozenset.{"__xor__"}" (<- Wb l) r)):=rfl
section
variable{prog:Wa}{w:Wm}{A:Wc}{E:VE->VI->Prop}{s:VI}
def oI(a:s.TypeIs v "set")(h:Q J s):VJ (VM prog w) A (WU v) Q E s:=by
 unfold WU;refine PA (Sq a Zo ?_);exact VB h
def CL(b:s.TypeIs (.ref a) "set")(h:Q (.type "set") s):VJ (VM prog w) A (Xe a) Q E s:=by
 unfold Xe;refine PA (Sq b Zo ?_);exact VB h
def cR.room{n:Nat}(d:1<=n)(h:n<=76):∃m,cR m/\(match (We 0 0 J).roomFor n with|some a=>sizeAbove a-1|none=>7)=m/\n*5<m*3/\n<=m/\m<=511:=by
 have c:((VR 77).all λn=>decide (n=0)||(decide ((match (We 0 0 J).roomFor n with|some a=>sizeAbove a-1|none=>7)∈[7,15,31,63,127,255,511,1023,2047])&&decide (n*5<(match (We 0 0 J).roomFor n with|some a=>sizeAbove a-1|none=>7)*3)&&decide (n<=(match (We 0 0 J).roomFor n with|some a=>sizeAbove a-1|none=>7))&&decide ((match (We 0 0 J).roomFor n with|some a=>sizeAbove a-1|none=>7)<=511)))=true:=by decide +kernel
 have k:=Qd.mp c n (VZ.mpr ⋯);simp only[Rk,PB,PM]at k;rcases k with k|⟨⟨⟨k1,k2⟩,k3⟩,b⟩
 .omega
 .refine⟨_,?_,rfl,k2,k3,b⟩;simpa[cR] using k1
def HC(m f a)(led b):laid m f a led b #[]=Z ({ mask:=m,place:=#[],dummies:=#[],finger:=f,led,moves:=a,plain:=b },#[]):=by
 have e:(VR (m+1)).filterMap (λj=>((Xf (m+1) (Y:Option Nat)).getD j Y).map (j,·))=[]:=by
  rw[List.filterMap_eq_nil_iff];intro j c;have:(Xf (m+1) (Y:Option Nat)).getD j Y=none:=by
   have:=VZ.mp c;simp[WJ,this]
  rw[this];rfl
 unfold laid layClean;simp only[Array.foldl_empty,WO,XA,X1,e];rfl
def NX{led d:Bool}(c:cR m):Tab (α:=VE) #[] { mask:=m,place:=#[],dummies:=#[],finger:=f,led,moves:=k,plain:=d }:=by
 refine⟨λi j a b _ h=>?_,λi j a b _ h=>?_,λi j h=>?_,λi j h=>?_,λi g j h=>?_,rfl,c,PN _,λi j e h=>?_⟩<;>simp at h
def Iz {led : Bool} (e1 : a ≠ b) (n : s.heap.get? a = Z p) (a1 : p.ExactSet) (j : p.data = .set #[] y (.fresh 0 0 led))
    (a2 : led = J <-> w.params.followText "set-order" = VC) (bz : eT M prog w s.heap b c r) (hj : r.length <= 76) (h : ∀ h' ay, V6 a s.heap h' -> eT M prog w h' a r.length ay -> ay.Perm r -> Q () { s with heap := h' }) :
    VJ (VM prog w) A (setMerge a b bc) Q E s := by
  obtain ⟨o, d, a8, t, e2, hh, c0, T, a4, hg, a5, dD, G, eo⟩ := bz
  have dC : d.size = r.length := by have := Paired.len G; simpa using this
  have gh : ∀ {h' : V9}, V6 a s.heap h' -> ∀ (e : Int × VE) (I : List Int), (ew prog w s.heap e I /\ M e.2) -> (ew prog w h' e I /\ M e.2) := fun {h'} e5 e I x => ⟨x.1.move n j e5, x.2⟩
  unfold setMerge
  have e0 : (a == b) = false := by rw [beq_eq_false_iff_ne]; exact e1
  rw [e0]
  simp only [PD, PZ]
  refine PA (Qj e2 c0 (Tab.fits T) ?_)
  dsimp only
  by_cases q : d.isEmpty = J
  · rw [if_pos q]
    have cP : d = #[] := Uz.mp q
    subst cP
    cases G
    refine VB (h s.heap [] (Se a s.heap) ⟨p, #[], y, _, n, a1, j, qA led, by show 0 * 5 < 7 * 3; decide, PE 0, rfl, a2, .nil, RF⟩ (.refl _))
  · rw [if_neg q]
    have ea : 1 <= d.size := by
      rcases Nat.eq_zero_or_pos d.size with z | z
      · exact absurd (Uz.mpr (Array.eq_empty_of_size_eq_zero z)) q
      · exact z
    obtain ⟨m, a3, k, dV, d2, f8⟩ := cR.room ea ⋯
    have aA : ∀ (l : V9) (B u : Nat), V6 a s.heap l -> l.get? a = Z { p with data := .set #[] B { mask := m, place := #[], dummies := #[], finger := 0, led := led, moves := u, plain := J } } ->
        VJ (VM prog w) A (do
          let (_, _, ts) <- setState a
          match ts.road t with
          | .slotForSlot => storeSet a d { t with finger := ts.finger, led := ts.led && t.led, moves := ts.moves, plain := ts.plain && t.plain }
          | .clean =>
            let (d, t) <- (do
              let Z (t, v) := Y4 ts.mask ts.finger ts.moves (led := ts.led && t.led) (plain := ts.plain && t.plain) (d.map (·.1)) | unsupported "internal:set-table-without-room"
              let V := v.filterMap (d[·]?)
              if V.size != d.size then XQ "internal:set-table-lost-an-element"
              pure (V, t))
            storeSet a d t
          | .oneByOne =>
            for (h, x) in <- Y6 b [a] (Z a) do
              let _ <- X8 [x] (Yh a x h)
              bc
              if (<- setState b).2.1 != a8 then XQ "set.changed-during-merge") Q E { s with heap := l } := fun l B u gg D => by
      refine PA (Qj D rfl (Tab.fits (NX a3)) ?_)
      dsimp only
      have dr : (led && t.led) = J <-> w.params.followText "set-order" = false := by
        rw [PB, a2, dD]; exact ⟨fun z => z.1, fun z => ⟨z, z⟩⟩
      have fin : ∀ (g : Array (Int × VE)) (f : Xd), Tab g f -> f.fill = d.size -> d.size * 5 < f.mask * 3 -> f.plain = J -> f.led = (led && t.led) -> g.toList.Perm d.toList ->
          VJ (VM prog w) A (storeSet a g f) Q E { s with heap := l } := fun g f b1 X bg bf bp a0 => by
        have hz : g.size = d.size := by have := a0.length_eq; simpa using this
        refine SO D rfl ?_ (by rw [hz, V3]; lia)
        have dJ : (l.update a (WE g f)).get? a = Z { p with data := .set g (B + 1) f } := by
          have := Qf (WE g f) D (by rw [SX g f rfl]; rfl)
          rw [SX g f rfl] at this; exact this
        have au := gg.trans (QF l a (WE g f))
        obtain ⟨fj, az, f0⟩ := Paired.perm a0 G
        exact h _ fj au ⟨_, g, _, f, dJ, a1, rfl, b1, by rw [X]; exact bg, by rw [X, dC]; exact PE _, bf, by rw [bp]; exact dr, Paired.mp (gh au) f0, (az.nodup_iff).mpr eo⟩ az
      unfold SetTable.road
      have c2 : ((aad { mask := m, place := #[], dummies := #[], finger := 0, led := led, moves := u, plain := J }) != 0) = false := rfl
      rw [c2]
      simp only [PD, PZ]
      by_cases H : (m == t.mask && t.dummies.isEmpty) = J
      · simp only [H, QI]
        have cp : t.dummies = #[] := Uz.mp (Bool.and_eq_true_iff.mp H).2
        have C := T.fill
        rw [cp] at C
        exact fin d _ (T.flags rfl rfl rfl) C (by rw [C] at a4; exact a4) (by show (J && t.plain) = J; rw [a5]; rfl) rfl (.refl _)
      · have e3 : (m == t.mask && t.dummies.isEmpty) = false := by simpa using H
        simp only [e3, PD, PZ]
        obtain ⟨f, v, i, N, O, R, S, U, b2, _⟩ := yx (α := VE) a3 d d2 0 u (led && t.led) (J && t.plain)
        have cB : f.dummies = #[] := by
          have i := i
          unfold Y4 at i
          cases z : layClean m (d.map (·.1)) with
          | none => rw [z] at i; cases i
          | some iA => rw [z] at i; cases i; rfl
        refine PA ?_
        rw [i]
        show VJ (VM prog w) A (if ((v.filterMap (d[·]?)).size != d.size) = J then _ else pure (v.filterMap (d[·]?), f)) _ E _
        rw [if_neg (by rw [S]; simp)]
        refine VB ?_
        exact fin _ f U (by rw [U.fill, cB, S]; rfl) (by rw [N]; exact dV) (by rw [R, a5]; rfl) O b2
    refine PA ?_
    unfold setRoomFor
    refine PA (Qj n j (Tab.fits (qA led)) ?_)
    dsimp only
    have a9 : (We 0 0 led).roomFor d.size = (We 0 0 J).roomFor d.size := rfl
    rw [a9]
    cases av : (We 0 0 J).roomFor d.size with
    | none =>
      rw [av] at k
      have k : 7 = m := k
      subst k
      dsimp only
      refine VB (aA s.heap y 0 (Se a s.heap) ?_)
      rw [n]
      obtain ⟨i, N, O, R⟩ := p
      cases j
      rfl
    | some L =>
      rw [av] at k
      have k : sizeAbove L - 1 = m := k
      dsimp only
      unfold setRelay
      refine PA (Qj n j (Tab.fits (qA led)) ?_)
      dsimp only
      have fD : ¬ sizeAbove L > sizeLine := by rw [V3]; lia
      rw [if_neg fD]
      have e4 : (We 0 0 led).relaid ((#[] : Array (Int × VE)).map (·.1)) L = Z ({ mask := m, place := #[], dummies := #[], finger := 0, led := led, moves := (We 0 0 led).movedTo m, plain := J }, #[]) := by
        unfold Yo
        rw [k, show (#[] : Array (Int × VE)).map (·.1) = #[] by simp]
        exact HC m 0 _ led J
      refine PA ?_
      rw [e4]
      refine VB ?_
      dsimp only
      refine SO n j ?_ (by rw [V3]; show 0 <= _; lia)
      refine aA _ (y + 1) ((We 0 0 led).movedTo m) (QF s.heap a _) ?_
      have := Qf (WE ((#[] : Array Nat).filterMap ((#[] : Array (Int × VE))[·]?)) { mask := m, place := #[], dummies := #[], finger := 0, led := led, moves := (We 0 0 led).movedTo m, plain := J }) n (by rw [SX _ _ j]; rfl)
      rw [SX _ _ j] at this
      exact this
def Md(e:s.heap.get? a=Z o)(O:hI w o aw b t)(h:Q (du w a aw b) s):VJ (VM prog w) A (setWalk a) Q E s:=by
 unfold setWalk;refine PA (Qj e O.data (Tab.fits O.tab) ?_);dsimp only;unfold XK;refine PA (PA (Rq (VB ?_)));cases hw:w.params.followText "set-order" with
 |true =>
  have c:(VM prog w).w.params.followText "set-order"=true:=hw;simp only[c,QI];have e1:du w a aw b=YT (w.params.setOrder a b) aw:=(by unfold du;rw[if_pos hw]);rw[e1]at h;exact PA (Rq (VB h))
 |false =>
  have c:(VM prog w).w.params.followText "set-order"=false:=hw;simp only[c,PD,PZ];have d:(!t.plain&&decide (aw.size>1))=false:=(by rw[O.plain];rfl);show VJ (VM prog w) A (if (!t.plain&&decide (aw.size>1))=J then _ else _) Q E s;rw[d];simp only[PD,PZ];refine PA ?_;show VJ (VM prog w) A (if (!t.led&&decide (aw.size>1))=J then _ else pure ()) _ E s;rw[O.led.mpr hw];simp only[QT,SR,PD,PZ];have e1:du w a aw b=aw:=(by unfold du;rw[if_neg (by rw[hw];decide)]);rw[e1]at h;exact VB (VB h)
def Ot(c:s.heap.get? a=Z o)(O:hI w o b d t)(h:Q (du w a b d) s):VJ (VM prog w) A (Y6 a l f) Q E s:=by
 unfold Y6;refine PA (Qj c O.data (Tab.fits O.tab) ?_);dsimp only;unfold XK;refine PA (PA (Rq (VB ?_)));have e:((VM prog w).w.params.followText "set-order"||t.led&&t.plain||decide (b.size<=1))=true:=by
  cases hw:w.params.followText "set-order" with
  |true =>
   have g:(VM prog w).w.params.followText "set-order"=true:=hw;rw[g];rfl
  |false=>rw[O.led.mpr hw,O.plain];simp
 show VJ (VM prog w) A (if ((VM prog w).w.params.followText "set-order"||t.led&&t.plain||decide (b.size<=1))=J then _ else _) Q E s;rw[e];simp only[QI];exact Md c O h
def FQ(au:A.units<Wy)(a1:a≠b)(v:s.heap.get? b=Z o)(O:hI w o S N t)(b9:Paired (λe d=>ew prog w s.heap e d/\M e.2) S.toList k1)(bp:k1.Nodup)(V:eT M prog w s.heap a k2.length av)(bg:av.Perm k2)(dV:k2.length+(k1.filter λk=>!decide (k∈k2)).length<=76)(h:∀h' gI c,V6 a s.heap h'->eT M prog w h' a c gI->(∀k,k∈gI<->((k∈k1/\k∉k2)\/(k∉k1/\k∈k2)))->Q () { s with heap:=h' }):
  VJ (VM prog w) A (WC nm a (.ref b)) Q E s:=by
 obtain⟨ea,dJ,dC,eo,a3,dr,a0,_⟩:=id V;have X:s.TypeIs (.ref b) "set":=⟨o,v,O.ex.1⟩;unfold WC;have e0:(VQ b==VQ a)=false:=by
  rw[beq_eq_false_iff_ne];intro e;cases e;exact a1 rfl
 rw[e0];simp only[PD,PZ];refine PA (R8 X ?_);have e1:(Wj "set"==Wj "dict")=false:=by decide
 rw[e1];simp only[PD,PZ];refine PA (oI X ?_);simp only[QI];refine PA (VB ?_);refine PA (m:=Wb _) (VB ?_);refine PA (UA v O.data (Tab.fits O.tab) ?_);refine QS ?_;refine PA (Ot v O ?_);obtain⟨cN,cp,cB⟩:=Paired.perm (ks w b S N) b9;refine PA (wpAny_forIn_array' _ (λaz _ s'=>∃g9 f h' gI,s'={ s with heap:=h' }/\V6 a s.heap h'/\eT M prog w h' a (k2.length+(g9.filter λk=>!decide (k∈k2)).length) gI
  /\ (∀k,k∈gI<->((k∈g9/\k∉k2)\/(k∉g9/\k∈k2)))/\Paired (λe d=>ew prog w s.heap e d/\M e.2) az f/\(g9++f).Perm k1) _ ?_ ?_ _ _ ⟨[],cN,s.heap,av,rfl,Se a s.heap,V,λk=>?_,cB,cp⟩)
 .rintro⟨d2,x⟩ az bc s' ⟨g9,f,h',gI,rfl,B,q,n,l,j⟩;cases l with
  |@cons _ d _ f cA l =>
  obtain⟨⟨c,T,L,u⟩,U⟩:=cA;dsimp only at T L U ⊢;subst T;subst L;have c0:=(j.nodup_iff).mpr bp;have a2:d∉g9:=λz=>(Rv.mp c0).2.2 d z d VF rfl
  have a8:el prog w h' d c:=u.kept λcO I=>(B.2 c (u.ne a3 a0)).trans I
  have D:d∈gI<->d∈k2:=by
   rw[n];exact⟨λz=>z.elim (λy=>absurd y.1 a2) (·.2),λz=>.inr ⟨a2,z⟩⟩
  have a4:(g9++[d]++f).Perm k1:=(by rw[PR];exact j);have same:∀(h2:V9),V6 a s.heap h2->∀{R:ForInStep PUnit->VI->Prop},R (.yield ⟨⟩) { s with heap:=h2 }->VJ (VM prog w) A (do XG nm b N;pure (WQ PUnit.unit)) R E { s with heap:=h2 }:=λh2 cz R hR=>by
   have da:h2.get? b=Z o:=(cz.2 b (QG a1)).trans v;refine PA ?_;unfold XG;refine PA (UA (s:={ s with heap:=h2 }) da O.data (Tab.fits O.tab) ?_);simp only[RJ,PD,PZ];exact VB (VB hR)
  refine PA (QS (PA (Er (s:={ s with heap:=h' }) au q a8 λh2 nA c2 b2 p=>?_)));have C:=B.trans c2
  by_cases g:d∈k2
  .rw[if_pos (D.mpr g)]at p;rw[decide_eq_true (D.mpr g)];simp only[QT,PD,PZ];refine VB (same h2 C ⟨g9++[d],f,h2,nA,rfl,C,?_,λk=>?_,l,a4⟩)
   .rw[Sy,show [d].filter (λk=>!decide (k∈k2))=[] by simp[g],QB];exact b2
   .obtain⟨_,_,_,_,_,_,_,_,_,_,_,_,_,bz⟩:=q;have bf:=(p.nodup_iff).mpr bz;have G:k∈gI<->k=d\/k∈nA:=(by rw[<- p.mem_iff,PF]);have cy:d∉nA:=(Qk.mp bf).1
    by_cases i:k=d
    .subst i;simp[g,cy]
    .have:k∈nA<->k∈gI:=(by rw[G];simp[i]);rw[this,n];simp[i]
  .have H:d∉gI:=λz=>g (D.mp z)
   rw[if_neg H]at p;subst p;rw[decide_eq_false H];simp only[Ud,QI];have dD:(g9.filter λk=>!decide (k∈k2)).length+1+(f.filter λk=>!decide (k∈k2)).length=(k1.filter λk=>!decide (k∈k2)).length:=by
    have:=(j.filter λk=>!decide (k∈k2)).length_eq;rw[Sy,List.filter_cons_of_pos (by simp[g]),PI,VS]at this;lia
   have a9:el prog w h2 d c:=u.kept λcO I=>(C.2 c (u.ne a3 a0)).trans I
   refine PA (vF (s:={ s with heap:=h2 }) au b2 a9 U ⋯ λh3 ay r cP aA b1=>?_);have a5:=C.trans cP;rw[if_neg H]at aA b1;refine VB (same h3 a5 ⟨g9++[d],f,h3,ay,rfl,a5,?_,λk=>?_,l,a4⟩)
   .rw[Sy,show [d].filter (λk=>!decide (k∈k2))=[d] by simp[g],PI];exact aA
   .have G:k∈ay<->k=d\/k∈nA:=(by rw[b1.mem_iff,PF]);rw[G,n]
    by_cases i:k=d
    .subst i;simp[g]
    .simp[i]
 .rintro bc s' ⟨g9,f,h',gI,rfl,B,q,n,l,j⟩;cases l;rw[QB]at j;refine VB (h h' gI _ B q λk=>?_);rw[n,j.mem_iff]
 .rw[bg.mem_iff];simp
def O8(R:A.units+1<Wy)(az:a≠b)(p:gd M prog w s.heap a k1)(h2:gd M prog w s.heap b k2)(O:k2.length+(k1.filter λk=>!decide (k∈k2)).length<=76)(h:∀h' v c,V6 s.heap.objs.size (s.heap.push { cls:=.type "set",dict:=Y,data:=.set #[] 0 (.fresh 0 0 (!w.params.followText "set-order")) }) h'->eT M prog w h' s.heap.objs.size c v->(∀k,k∈v<->((k∈k1/\k∉k2)\/(k∉k1/\k∈k2)))->Q (.ref s.heap.objs.size) { s with heap:=h' }):
  VJ (VM prog w) A (Wv .BitXor (.ref a) (.ref b)) Q E s:=by
 obtain⟨T,a5,av,a9,g,t,r,D,b1,b2,U,V,bc,X⟩:=id p;obtain⟨x,au,ay,bg,i,u,I,G,a8⟩:=id h2;have f:s.TypeIs (.ref a) "set":=⟨T,g,t.1⟩;have q:s.TypeIs (.ref b) "set":=⟨x,i,u.1⟩;refine wpAny_binaryOp_same (op:=.BitXor) f q F.fills_set_xor F.slot_set_xor (QQ F.slot_set_xor f EH ?_ (F.args_set_xor_2 _ _));rw[xor_eq];refine PA (m:=X4 _ _) (VB ?_);dsimp only;simp only[PD,PZ];refine PA (PA (oI f ?_));refine oI q ?_;simp only[QT,PD,PZ];refine PA (m:=Wb _) (VB ?_);refine PA ?_;unfold A5;refine PA (CL f ?_);unfold XM;refine PA (PA ?_);unfold newSet XK;refine PA (PA (Rq (VB ?_)));dsimp only;simp only[newObj];refine PA (wpAny_alloc (VB ?_));change VJ (VM prog w) A.in1 _ _ E { s with heap:=s.heap.push { cls:=.type "set",dict:=Y,data:=.set #[] 0 (.fresh 0 0 (!w.params.followText "set-order")) } };have n:=PQ (o:=({ cls:=.type "set",dict:=Y,data:=.set #[] 0 (.fresh 0 0 (!w.params.followText "set-order")) }:WW)) s.heap rfl;have d:∀c o,s.heap.get? c=Z o->(s.heap.push { cls:=.type "set",dict:=Y,data:=.set #[] 0 (.fresh 0 0 (!w.params.followText "set-order")) }).get? c=Z o:=λc o e=>PC _ e
 generalize s.heap.push { cls:=.type "set",dict:=Y,data:=.set #[] 0 (.fresh 0 0 (!w.params.followText "set-order")) }=H at h n d ⊢;have j:∀c o,s.heap.get? c=Z o->c≠s.heap.objs.size:=λc o e z=>PY (PJ e) z
 have L:s.heap.objs.size≠a:=QG (j a _ g);have N:s.heap.objs.size≠b:=QG (j b _ i);refine PA (m:=Wb _) (VB ?_);refine PA (QS ?_);unfold Xv;refine PA (oI ⟨x,d _ _ i,u.1⟩ ?_);simp only[QI];refine PA (m:=Wb _) (VB ?_);unfold Builtin.Frozenset.merge;refine PA (UA (d _ _ i) I (Tab.fits G) ?_);refine Iz (s:={ s with heap:=H }) N n ⟨rfl,rfl,rfl⟩ rfl (by simp) (h2.kept d) ⋯ λh' aA C a3 a4=>?_
 refine VB ?_;refine PA (m:=Wb _) (VB ?_);refine PA (QS ?_);have l:∀c o,s.heap.get? c=Z o->h'.get? c=Z o:=λc o e=>(C.2 c (j c o e)).trans (d c o e)
 obtain⟨_,_,_,_,y,bf,B,bp,bz,c0,cy,da,y8,y9⟩:=eT.kept p l;rw[l _ _ g]at y;cases y;rw[r]at B;cases B;refine FQ (s:={ s with heap:=h' }) (k1:=k1) (k2:=k2) (show A.units+1<Wy from R) L (l _ _ g) ⟨t,r,D,U,V⟩ y8 X a3 a4 O λh3 S c a0 a1 a2=>?_
 refine VB (VB ⟨_,rfl,(λz=>by cases z),?_⟩);exact h h3 S c (C.trans a0) a1 a2
end
end Pv
end
section
namespace Pv
open PySem PySem.Spec PyProof.Rows PySem.W
section
def wO(i:(d==WI)=VC)(b:s.heap.get? d=Z c)(j:c.ExactDict)(e:c.data=.dict g f)(h:Q (.ref s.heap.objs.size) { s with heap:=s.heap.push { cls:=.type "dict_keyiterator",data:=.fields #[.ref d,.int 0 0,.int g.size 0,.int f 0] } }):VJ (VM prog w) A (YA (.ref d)) Q E s:=by
 have a:s.TypeIs (.ref d) "dict":=⟨c,b,j.1⟩;refine Uy a F.slot_dict_iter (QQ F.slot_dict_iter a F.entry_dict_iter ?_ (F.args_dict_iter_1 _));unfold WK.«dict.__iter__»;refine PA ?_;unfold Builtin.Dict.dictSlotNone;refine PA (wpAny_notOrdered_dict a ?_);show VJ _ _ (pure (VQ d)) _ _ s;refine VB ?_;show VJ _ _ (Yv d>>=_) _ _ s;unfold Yv;rw[if_neg (by rw[i];exact QL)];refine PA (VB ?_);refine PA (UB b e ?_);refine PA (U9 b e ?_);refine PA (Qi (VB ⟨_,rfl,"dict_keyiterator",_,⟨_,PQ _ rfl,rfl⟩,Rl.lookup,?_⟩));simpa[Xl] using h
def wQ(a:s.heap.IsKeyIter b d i c.size hc)(j:s.heap.get? d=Z n)(g:n.data=.dict c hc)(m:i<c.size)(k:∀h',h'.IsKeyIter b d (i+1) c.size hc->V6 b s.heap h'->Q (Z c[i].key) { s with heap:=h' }):VJ (VM prog w) A (Xk (.ref b)) Q E s:=by
 obtain⟨o,f,l,e⟩:=id a;unfold Xk;refine PA (S8 (Rc (name:=Xb "__next__") a.typeIs Rl
  (QQ Rl a.typeIs TU ?_ (TJ _))))
 refine PA (VB ?_);refine PA ?_;refine PA ?_
 first|refine PA (RG a.typeIs (VB ?_))|refine PA (Si a.typeIs (VB ?_))
 refine PA (Uk f e ?_);simp only[show Xw "dict_keyiterator"=VC by decide,PD,PZ];show VJ _ _ (if (VQ d==Value.none)=J then _ else _) _ _ s;rw[if_neg (show ¬((VQ d==Value.none)=J) from QL)];refine PA (VB ?_);refine PA (UB j g ?_);rw[if_neg (by simp)];refine PA (VB ?_);refine PA (U9 j g ?_);rw[if_neg (by simp)];refine VB ?_;simp only[show ¬((i:Int)<0) from by lia,PZ,Wk,PK m];refine PA ?_
 first|refine PA (RG a.typeIs (VB ?_))|refine PA (Si a.typeIs (VB ?_))
 refine PA (Yw a.typeIs ?_);show VJ _ _ (setField (.ref b) 1 (Xl ((i:Int)+1))>>=_) _ _ s;refine PA (Ri f e (by simp) ?_);have h:(s.heap.update b (Wi (·.setIfInBounds 1 (Xl ((i:Int)+1))))).IsKeyIter b d (i+1) c.size hc :=
  ⟨_,Qf _ f (SI (RC e _)),(Zs ..).trans l,by rw[RC e];simp[Xl]⟩
 refine PA (QS ?_);refine PA (Yw (s:={ s with heap:=s.heap.update b (Wi (·.setIfInBounds 1 (Xl ((i:Int)+1)))) }) h.typeIs ?_);show VJ _ _ (pure c[i].key) _ _ _;exact VB (VB ⟨_,rfl,VB (k _ h (QF ..))⟩)
def wN(n:A.handled=Y)(c:s.heap.IsKeyIter f d e.size e.size k)(j:s.heap.get? d=Z p)(h:p.data=.dict e k)(l:∀h',Heap.ExtBut f s.heap h'->Q Y { s with heap:=h' }):VJ (VM prog w) A (Xk (.ref f)) Q E s:=by
 obtain⟨o,i,q,g⟩:=id c;unfold Xk;refine PA (S8 (Rc (name:=Xb "__next__") c.typeIs Rl
  (QQ Rl c.typeIs TU ?_ (TJ _))))
 refine PA (VB ?_);refine PA ?_;refine PA ?_
 first|refine PA (RG c.typeIs (VB ?_))|refine PA (Si c.typeIs (VB ?_))
 refine PA (Uk i g ?_);simp only[show Xw "dict_keyiterator"=VC by decide,PD,PZ];show VJ _ _ (if (VQ d==Value.none)=J then _ else _) _ _ s;rw[if_neg (show ¬((VQ d==Value.none)=J) from QL)];refine PA (VB ?_);refine PA (UB j h ?_);rw[if_neg (by simp)];refine PA (VB ?_);refine PA (U9 j h ?_);rw[if_neg (by simp)];refine VB ?_;simp only[show ¬((e.size:Int)<0) from by lia,PZ,Wk,RS (PE e.size)];refine PA ?_
 first|refine PA (RG c.typeIs (VB ?_))|refine PA (Si c.typeIs (VB ?_))
 show VJ _ _ (setField (.ref f) 0 .none>>=_) _ _ s;refine PA (Ri i g (by simp) ?_);show VJ _ _ (newExc (.type "StopIteration") []>>=_) _ _ _;refine PA ?_;simp only[newExc,newTuple];refine PA (Qi ?_ (by size_fits));refine PA (m:=W8 _ _) (Vf (a:=Value.none) (by first|rfl|(simp only[W8];rfl)) ?_);refine Qi ?_ (by size_fits);simp only[raiseNew];refine PA (Vo ?_);rw[show A.in1.handled=Y from n];refine PA (VB (ZP ?_));refine PA (Sq (T:="StopIteration") (b:=J) ⟨_,PQ _ rfl,rfl⟩ Vi ?_);exact VB (l _ (((QF ..).extBut.push _).push _))
end
section
def q1(a:Array ZG)(i:Nat)(v:VE):Prop:=∃e,a[i]?=Z e/\v=e.key
def OQ(p:A.handled=Y)(I)(r:d≠I)(j:g.data=.dict f m):Walks prog w A I [I,d] [I] f.size (q1 f) (λi h=>h.IsKeyIter I d i f.size m/\h.get? d=Z g) where
 sub:=λb a=>by simp at a;simp[a]
 frame:=λ_ _ _ st k=>⟨st.1.at λo e=>k I (by simp) o e,k d (by simp) g st.2⟩
 item:=λi s Q E hi st c=>by
  refine wQ st.1 st.2 j hi λh' q l=>?_
  exact c _ h' s.toks ⟨f[i],PK hi,rfl⟩ ⟨q,l.extBut d g r st.2⟩ λb o a e=>l.extBut b o (λh=>a (by simp[h])) e
 done:=λs Q E st c=>wN p st.1 st.2 j λh' n=>c h' s.toks λb o a e=>n b o (λh=>a (by simp[h])) e
 self:=λ_ _ _ _ st c=>YH st.1 c
def MC(k:(d==WI)=VC)(e:b.ExactDict)(g:b.data=.dict f l):KdlSrc prog w "dict" d d f.size (q1 f) (λh=>h.get? d=Z b) where
 type:=λ_ a=>⟨b,a,e.1⟩
 there:=λ_ a=>⟨PJ a,PJ a⟩
 keep:=λ_ _ a j=>j d (.inl rfl) b a
 notList:=by decide
 notTuple:=by decide
 hint:=λ_ _ _ _ a c=>kdl_hint_dict ⟨b,a,e.1⟩ c
 iter:=λ_ s i a=>⟨_,_,(λ_ _ c=>wO k a e g c),OQ i _ (PY (PJ a)) g,⟨⟨_,PQ _ rfl,rfl,rfl⟩,PC _ a⟩⟩
end
end Pv
end
section
namespace Pv
open PySem PySem.Spec PyProof.Rows d1 PySem.SetTable
section
def DU (e : s.heap.IsTuple l a.toArray)
    (h : Q a { s with heap := (s.heap.push (WR "list" #[] 0)).update s.heap.objs.size (Wo (· ++ a.toArray)) }) (hsz : a.length <= V2) :
    VJ (VM prog w) A (YU (.ref l)) Q E s := by
  obtain ⟨o, f, c, n, d⟩ := id e
  unfold YU
  refine PA (Tp (Q3 entry_proto_collect' ?_))
  show VJ _ _ (do again (.builtin "list.__iadd__" ⟨[<- ZZ [], .ref l], []⟩)) _ _ s
  refine PA (Vp (VB ⟨Ui _ (by decide +kernel), Q3 entry_list_iadd' ?_⟩))
  show VJ _ _ (WB (.ref s.heap.objs.size) (.ref l) (.ref s.heap.objs.size)) _ _ { s with heap := s.heap.push (WR "list" #[] 0) }
  unfold WB
  have b : (s.heap.push (WR "list" #[] 0)).get? l = Z o := PC _ f
  refine PA (R8 (T := "tuple") ⟨o, b, c⟩ ?_)
  have g : (Wj "tuple" == Wj "tuple") = true := by rfl
  rw [if_pos (by rw [g]; simp)]
  refine PA (Zt b d ?_)
  refine PA (Zt (xs := #[]) (n := 0) (PQ _ rfl) rfl ?_)
  rw [if_neg (by simp)]
  refine PA (UK (xs := #[]) (n := 0) (PQ _ rfl) rfl ?_ (PN _) (by show (#[] ++ a.toArray).size <= V2 + 1; simp only [Ru, PT, Wq]; lia))
  refine VB ?_
  show VJ (VM prog w) A (do
      let o <- load s.heap.objs.size
      match o.data with
      | .seq xs _ => pure xs.toList
      | _ => XQ "internal:collect") Q E { s with heap := (s.heap.push (WR "list" #[] 0)).update s.heap.objs.size (Wo (· ++ a.toArray)) }
  refine PA (Vs (Yp (PQ _ rfl) _) ?_)
  show VJ _ _ (pure ((#[] : Array VE) ++ a.toArray).toList) Q E _
  rw [show ((#[] : Array VE) ++ a.toArray).toList = a by simp]
  exact VB h
def oy(s s':VI):Prop:=(∀b o,s.heap.get? b=Z o->s'.heap.get? b=Z o)/\s'.gens=s.gens/\s'.drawn=s.drawn/\s'.os=s.os
def DS{n:Nat}(m:A.handled=Y)(y:IsRange s.heap r a b c t u v)(z:Builtin.Range.small a b c=J)(x:Xh a b c=n)(q:n<=2 ^ 24)(g:∀s' d,oy s s'->Z0 (λi v=>∃t,v=.int (a+i*c) t) d n->Q d.toList s'):VJ (VM prog w) A (YU (.ref r)) Q E s:=by
 unfold YU;refine PA (Tp (Q3 Yx ?_));rw[Rp Yy _];show VJ _ A.in1 (ZZ []>>=λl=>again (.builtin "list.__iadd__" ⟨[l,.ref r],[]⟩)) _ _ s;refine PA (Qi ?_);refine VB ⟨TO Tq _,Q3 Zu ?_⟩;rw[Rp Tq _];show VJ _ A.in1 (WB (.ref s.heap.objs.size) (.ref r) (.ref s.heap.objs.size)) _ _ _;have h:(s.heap.push { cls:=.type "list",data:=.seq ([]:List VE).toArray }).get? s.heap.objs.size=Z { cls:=.type "list",data:=.seq ([]:List VE).toArray }:=PQ _ rfl;refine wpAny_extend_range (A:=A) (R:=wants _ E) (s:={ s with heap:=s.heap.push { cls:=.type "list",data:=.seq ([]:List VE).toArray } }) m (PC _ y) z x q s.heap.objs.size (.ref s.heap.objs.size) 0 h λh' tk f B p j k=>?_
 show VJ _ A (load s.heap.objs.size>>=_) _ _ _;refine PA (Vs j ?_);exact VB (g _ f ⟨λb o e=>p b o (PY (PJ e)) (PC _ e),rfl,rfl,rfl⟩ k)
def DT(X:A.handled=Y)(I:s.heap.get? a=Z o)(O:hI w o c n t)(a3:c.size<=V2)(N:∀s' z,oy s s'->Z0 (λi v=>∃x,(du w a c n)[i]?=Z x/\v=x.2) z c.size->Q z.toList s'):VJ (VM prog w) A (YU (.ref a)) Q E s:=by
 have r:a<s.heap.objs.size:=PJ I;unfold YU;refine PA (Tp (Q3 Yx ?_));rw[Rp Yy _];show VJ _ A.in1 (ZZ []>>=λl=>again (.builtin "list.__iadd__" ⟨[l,.ref a],[]⟩)) _ _ s;refine PA (Qi ?_);refine VB ⟨TO Tq _,Q3 Zu ?_⟩;rw[Rp Tq _];show VJ _ A.in1 (WB (.ref s.heap.objs.size) (.ref a) (.ref s.heap.objs.size)) _ _ _;unfold WB;have m:(s.heap.push { cls:=.type "list",data:=.seq ([]:List VE).toArray }).get? a=Z o:=PC _ I;refine PA (R8 (T:="set") ⟨o,m,O.ex.1⟩ ?_);have M:XW (.ref s.heap.objs.size) (.ref a)=false:=by
  have u:s.heap.objs.size≠a:=QG (PY r);simp[XW,u]
 have h2:(Wj "set"==Wj "list")=false:=by decide
 have h3:(Wj "set"==Wj "tuple")=false:=by decide
 simp only[M,h2,h3,Bool.or_false,PD,PZ];refine PA (G4 (s:={ s with heap:=s.heap.push { cls:=.type "list",data:=.seq ([]:List VE).toArray } }) m O ?_);generalize p:s.heap.push { cls:=.type "list",data:=.seq ([]:List VE).toArray }=H at *;have q:H.objs.size=s.heap.objs.size+1:=by rw[<- p,Vg]
 have a2:a<H.objs.size:=by rw[q];exact Zp r
 refine PA (QS (Gr ⟨o,PC _ m,O.ex.1⟩ ?_));rw[if_pos ∅];have u:a≠H.objs.size:=PY a2;have C:s.heap.objs.size≠H.objs.size:=by rw[q];exact PY (Rg _)
 have D:s.heap.objs.size≠a:=QG (PY r);have S:s.heap.objs.size∉[H.objs.size,a]:=λd=>by
  rcases PF.mp d with e|e
  .exact C e
  .exact D (P6.mp e)
 generalize g:H.push { cls:=.type "set_iterator",data:=.fields #[.int 0 0,.int 0 0,.ref a,.int c.size 0,.int n 0] }=f;have B:f.get? s.heap.objs.size=Z { cls:=.type "list",data:=.seq ([]:List VE).toArray }:=g▸PC _ (p▸PQ _ rfl);have a4:f.get? a=Z o:=g▸PC _ m;have a1:f.get? H.objs.size=Z { cls:=.type "set_iterator",data:=.fields #[.int 0 0,.int 0 0,.ref a,.int c.size 0,.int n 0] }:=g▸PQ _ rfl;have a0:A.in1.handled=none:=X;have st0:slotAt w t 0=0:=by unfold slotAt;split<;>rfl
 refine PA (Sz ?_);refine PA ?_;show VJ _ A.in1 (updateSeq s.heap.objs.size (·.push .none)>>=λ_=>updateSeq s.heap.objs.size (·.pop)) _ _ _;refine PA (T2 B rfl ?_);have G:=Qf (Wo (·.push Value.none)) B rfl;refine T2 G rfl ?_;have U:=Qf (Wo (·.pop)) G rfl;have y:∀b dZ,b≠s.heap.objs.size->f.get? b=Z dZ->((f.update s.heap.objs.size (Wo (·.push Value.none))).update s.heap.objs.size (Wo (·.pop))).get? b=Z dZ :=
  λb dZ j e=>(Qa _ _ (QG j)).trans ((Qa _ _ (QG j)).trans e)
 refine VB ⟨TO F.plain_extend_loop _,codeAny_extend_loopS (OS (prog:=prog) (A:=A.in1) a0 u O).toS a3 _ S _ c.size 0 _ _ _ rfl (PN _) ⟨⟨_,y _ _ (QG C) a1,rfl,by rw[st0];rfl⟩,y _ _ (QG D) a4⟩ U (ItemsOf.nil _) λs' L a5 d R V=>?_⟩;show VJ _ A (load s.heap.objs.size>>=_) _ _ s';refine PA (Vs R ?_);refine VB (N s' L ⟨λb dZ e=>d.heap b dZ (λj=>?_) (y b dZ (PY (PJ e)) (g▸PC _ (p▸PC _ e))),d.gens,d.drawn,d.os⟩ V);have k:=PJ e;rcases PF.mp j with h|h
 .rw[h]at k;exact Q5 _ k
 .rw[P6.mp h,q]at k;exact absurd k (Sh.mpr (Nat.le_succ _))
end
end Pv
end
section
namespace Tm
open PySem PyProof.Rows
abbrev fT:Bool->VN->Array VN->Nat->Nat->Nat->StateT V5 ZN (Option Nat):=sortPriv% PySem.Builtin.gallop
abbrev CD(left:Bool)(a x:VN):StateT V5 ZN (Option Bool):=if left then lt' x a else do return (<- lt' a x).map (!·)
def g7(left:Bool)(b:VN)(a:Array VN)(j:Nat):StateT V5 ZN (Option Bool):=do
 let x <- WV a j
 CD left b x
def F6(left:Bool)(c:VN)(a:Array VN)(b n h:Nat):fT left c a b n h=(do
 let mut u:=0
 let mut v:=1
 let mut lo:=0
 let mut hi:=0
 let Z r <- g7 left c a (b+h)|return Y
 if r then
  let d:=n-h
  for _ in [0:n] do
   if v>=d then break
   let Z q <- g7 left c a (b+(h+v))|return Y
   if !q then break
   u:=v
   v:=2*v+1
  lo:=h+u+1
  hi:=h+min v d
 else
  let d:=h+1
  for _ in [0:n] do
   if v>=d then break
   let Z q <- g7 left c a (b+(h-v))|return Y
   if q then break
   u:=v
   v:=2*v+1
  lo:=h+1-min v d
  hi:=h-u
 for _ in [0:n] do
  if lo>=hi then break
  let m:=lo+(hi-lo) / 2
  let Z q <- g7 left c a (b+m)|return Y
  if q then lo:=m+1 else hi:=m
 return Z hi):=rfl
def bs(left:Bool)(c:VN)(a:Array VN)(b n lo hi:Nat):StateT V5 ZN (Option Nat):=do
 let mut lo:=lo
 let mut hi:=hi
 for _ in [0:n] do
  if lo>=hi then break
  let m:=lo+(hi-lo) / 2
  let Z q <- g7 left c a (b+m)|return Y
  if q then lo:=m+1 else hi:=m
 return Z hi
section
variable{M:Zi}{A:Wc}{E:VE->VI->Prop}{s:VI}{left:Bool}{key:VN}{arr:Array VN}{b n h:Nat}{p:Nat->Bool}{st:V5}{Q:Option Nat->V5->Prop}
def wc(v:∀j,j<n->∀Q:Option Bool->V5->Prop,Q (Z (p j)) st->Yz M A E s (g7 left key arr (b+j)) Q st)(r:∀i j,i<=j->j<n->p j=J->p i=J)(w:∀k,k<=n->(∀i,i<k->p i=J)->(∀i,k<=i->i<n->p i=VC)->Q (Z k) st){lo hi:Nat}(aJ:lo<=hi)(h2:hi<=n)(u:∀i,i<lo->p i=J)(y:∀i,hi<=i->i<n->p i=VC):Yz M A E s (bs left key arr b n lo hi) Q st:=by
 unfold bs;refine PL (Rw (Q1 (I:=λx (c:Option (Option Nat)×Nat×Nat) f=>f=st/\c.1=Y/\c.2.1<=c.2.2/\c.2.2<=n/\(∀i,i<c.2.1->p i=J)/\(∀i,c.2.2<=i->i<n->p i=VC)/\c.2.2-c.2.1+x<=n)
  (Q:=λ(c:Option (Option Nat)×Nat×Nat) f=>f=st/\c.1=Y/\c.2.2<=n/\(∀i,i<c.2.2->p i=J)/\∀i,c.2.2<=i->i<n->p i=VC) ?step ?fin ⟨rfl,rfl,aJ,h2,u,y,by show hi-lo+0<=n;lia⟩) ?post)
 case step =>
  rintro x ⟨o,lo,hi⟩ f _ z ⟨rfl,rfl,k1,k2,k3,d,k5⟩;dsimp only at k1 k2 k3 d k5 ⊢
  by_cases c:lo>=hi
  .rw[if_pos c];have e:lo=hi:=⋯;subst e;exact PU ⟨rfl,rfl,k2,k3,d⟩
  .rw[if_neg c];have g:lo+(hi-lo) / 2<hi:=⋯;have m:∀a,a<hi-lo->a+(x+1)<=n:=λa h=>PW (by rw[<- RD,RX];exact Vj h x) k5
   refine PL (v _ (PH g k2) _ ?_);dsimp only;cases e:p (lo+(hi-lo) / 2) with
   |true =>
    rw[if_pos rfl];refine PU ⟨rfl,rfl,g,k2,λi l=>?_,d,m _ (T3 (Nat.not_le.mp c) (Uv (Qg ..)))⟩;exact r i _ (QV l) (PH g k2) e
   |false =>
    rw[if_neg (by simp)];refine PU ⟨rfl,rfl,Qg ..,PW (Qs g) k2,k3,λi l t=>?_,m _ (SS (Qg ..) g)⟩;cases q:p i with
    |false=>rfl
    |true=>rw[r _ i l t q]at e;cases e
 case fin =>
  rintro⟨o,lo,hi⟩ f ⟨rfl,rfl,k1,k2,k3,d,k5⟩;dsimp only at k1 k2 k3 d k5 ⊢;have e:lo=hi:=(by rw[Qz (PN n)]at k5;lia);subst e;exact⟨rfl,rfl,k2,k3,d⟩
 case post =>
  rintro⟨o,lo,hi⟩ f ⟨rfl,rfl,k2,k3,d⟩;exact PU (w hi k2 k3 d)
def xS(m:∀j,j<n->∀Q:Option Bool->V5->Prop,Q (Z (p j)) st->Yz M A E s (g7 left key arr (b+j)) Q st)(f:h<n)(r:∀i j,i<=j->j<n->p j=J->p i=J)(y:∀k,k<=n->(∀i,i<k->p i=J)->(∀i,k<=i->i<n->p i=VC)->Q (Z k) st):Yz M A E s (fT left key arr b n h) Q st:=by
 have w:∀i j,i<=j->j<n->p i=VC->p j=false:=λi j z B hi=>by
  cases q:p j with
  |false=>rfl
  |true=>rw[r i j z B q]at hi;cases hi
 rw[F6];refine PL (m h f _ ?_);cases e:p h with
 |true =>
  dsimp only;rw[if_pos rfl];refine PL (Rw (Q1 (I:=λx (c:Option (Option Nat)×Nat×Nat) d=>d=st/\c.1=Y/\c.2.1<c.2.2/\h+c.2.1<n/\p (h+c.2.1)=J/\x+1<=c.2.2)
   (Q:=λ(c:Option (Option Nat)×Nat×Nat) d=>d=st/\c.1=Y/\c.2.1<c.2.2/\h+c.2.1<n/\p (h+c.2.1)=J/\(n-h<=c.2.2\/p (h+c.2.2)=VC)) ?step ?fin ⟨rfl,rfl,ZX,f,e,PE _⟩) ?post)
  case step =>
   rintro x ⟨o,u,v⟩ d _ C ⟨rfl,rfl,k1,k2,k3,a⟩;dsimp only at k1 k2 k3 a ⊢
   by_cases c:v>=n-h
   .rw[if_pos c];exact PU ⟨rfl,rfl,k1,k2,k3,.inl c⟩
   .rw[if_neg c];refine PL (m _ ⋯ _ ?_);dsimp only;cases l:p (h+v) with
    |true=>rw[if_neg (by simp)];exact PU ⟨rfl,rfl,by dsimp only;lia,by dsimp only;lia,l,by dsimp only;lia⟩
    |false=>rw[if_pos (by simp)];exact PU ⟨rfl,rfl,k1,k2,k3,.inr l⟩
  case fin =>
   rintro⟨o,u,v⟩ d ⟨rfl,rfl,k1,k2,k3,a⟩;rw[Qz (PN n)]at a;exact⟨rfl,rfl,k1,k2,k3,.inl (by dsimp only at a ⊢;lia)⟩
  case post =>
   rintro⟨o,u,v⟩ d ⟨rfl,rfl,k1,k2,k3,a⟩;dsimp only at k1 k2 k3 a;refine wc (p:=p) m r y (lo:=h+u+1) (hi:=h+min v (n-h)) (by rw[RD];exact RQ (Nat.le_min.mpr ⟨k1,Tx k2⟩) h) (SJ (Qs f) (RU ..)) (λi hi=>r i _ (QV hi) k2 k3) λi hi t=>?_
   have g:n-h<=v->p i=false:=λk=>by rw[UM k,QJ (Qs f)]at hi;exact absurd t (Sh.mpr hi)
   rcases a with a|a
   .exact g a
   .by_cases c:v<=n-h
    .rw[QH c]at hi;exact w _ i hi t a
    .exact g (ZJ c)
 |false =>
  dsimp only;rw[if_neg (by simp)];refine PL (Rw (Q1 (I:=λx (c:Option (Option Nat)×Nat×Nat) d=>d=st/\c.1=Y/\c.2.1<c.2.2/\c.2.1<=h/\p (h-c.2.1)=VC/\x+1<=c.2.2)
   (Q:=λ(c:Option (Option Nat)×Nat×Nat) d=>d=st/\c.1=Y/\c.2.1<c.2.2/\c.2.1<=h/\p (h-c.2.1)=VC/\(h+1<=c.2.2\/p (h-c.2.2)=J)) ?step ?fin ⟨rfl,rfl,ZX,PN _,e,PE _⟩) ?post)
  case step =>
   rintro x ⟨o,u,v⟩ d _ C ⟨rfl,rfl,k1,k2,k3,a⟩;dsimp only at k1 k2 k3 a ⊢
   by_cases c:v>=h+1
   .rw[if_pos c];exact PU ⟨rfl,rfl,k1,k2,k3,.inl c⟩
   .rw[if_neg c];refine PL (m _ ⋯ _ ?_);dsimp only;cases l:p (h-v) with
    |true=>rw[if_pos rfl];exact PU ⟨rfl,rfl,k1,k2,k3,.inr l⟩
    |false=>rw[if_neg (by simp)];exact PU ⟨rfl,rfl,by dsimp only;lia,by dsimp only;lia,l,by dsimp only;lia⟩
  case fin =>
   rintro⟨o,u,v⟩ d ⟨rfl,rfl,k1,k2,k3,a⟩;rw[Qz (PN n)]at a;exact⟨rfl,rfl,k1,k2,k3,.inl (by dsimp only at a ⊢;lia)⟩
  case post =>
   rintro⟨o,u,v⟩ d ⟨rfl,rfl,k1,k2,k3,a⟩;dsimp only at k1 k2 k3 a;refine wc (p:=p) m r y (lo:=h+1-min v (h+1)) (hi:=h-u) (by rw[<- Tz h 1 u];exact T5 (Nat.le_min.mpr ⟨k1,Nat.succ_le_succ k2⟩) _) (PW (Sr ..) (Qs f)) (λi hi=>?_) λi hi t=>w _ i hi t k3
   have g:h+1<=v->p i=true:=λk=>by rw[UM k,U3]at hi;cases hi
   rcases a with a|a
   .exact g a
   .by_cases c:v<=h+1
    .rw[QH c]at hi;exact r i _ (Vk (QV (Nat.add_lt_of_lt_sub hi))) (Qo (Sr ..) f) a
    .exact g (ZJ c)
end
abbrev tQ:Array VN->Array VN->StateT V5 ZN (Array VN):=sortPriv% PySem.Builtin.mergeLo
noncomputable abbrev setG(st:V5)(g:Nat):SortSt:=aaa (kindOf st) (VL st) (Wn st) g (WA st)
def IK(a b:Array VN):tQ a b=(do
 Zk "list.sort.merge-lo"
 let d:=a.size+b.size
 let fin (r:Array VN) (i j:Nat):=r++a.extract i a.size++b.extract j b.size
 let c (r:Array VN) (i j:Nat):=r++b.extract j b.size++a.extract i a.size
 let mut r:Array Keyed:=#[<- WV b 0]
 let mut i:=0
 let mut j:=1
 if j==b.size then return fin r i j
 if i+1==a.size then return c r i j
 let mut ak:=gallopOf (<- get)
 for _ in [0:d] do
  let mut ca:=0
  let mut cZ:=0
  for _ in [0:d] do
   let Z w <- lt' (<- WV b j) (<- WV a i)|return fin r i j
   if w then
    r:=r.push (<- WV b j);j:=j+1;cZ:=cZ+1;ca:=0
    if j==b.size then return fin r i j
    if cZ>=ak then break
   else
    r:=r.push (<- WV a i);i:=i+1;ca:=ca+1;cZ:=0
    if i+1==a.size then return c r i j
    if ca>=ak then break
  Zk "list.sort.gallop"
  ak:=ak+1
  for _ in [0:d] do
   if ak>1 then ak:=ak-1
   modify λs=>setG s ak
   let Z k <- fT VC (<- WV b j) a i (a.size-i) 0|return fin r i j
   ca:=k
   if k>0 then
    r:=r++a.extract i (i+k);i:=i+k
    if i+1==a.size then return c r i j
    if i==a.size then return fin r i j
   r:=r.push (<- WV b j);j:=j+1
   if j==b.size then return fin r i j
   let Z k <- fT J (<- WV a i) b j (b.size-j) 0|return fin r i j
   cZ:=k
   if k>0 then
    r:=r++b.extract j (j+k);j:=j+k
    if j==b.size then return fin r i j
   r:=r.push (<- WV a i);i:=i+1
   if i+1==a.size then return c r i j
   if ca<7&&cZ<7 then break
  ak:=ak+1
  modify λs=>setG s ak
 XQ "internal:list.sort.merge-bound"):=rfl
structure c8(M:Zi)(A:Wc)(E:VE->VI->Prop)(s:VI)(κ:W9)(S:VN->Prop)(lt:VN->VN->Bool):Prop where
 ask:∀(x y:VN)(st:V5)(Q:Option Bool->V5->Prop),S x->S y->kindOf st=κ->Q (Z (lt x y)) st->Yz M A E s (lt' x y) Q st
 fA:∀x y,S x->S y->lt x y=J->lt y x=VC
 cJ:∀x y z,S x->S y->S z->lt y x=VC->lt z y=VC->lt z x=VC
@[reducible]def le(lt:VN->VN->Bool)(x y:VN):Prop:=lt y x=VC
def aN(st a:V5):Prop:=kindOf a=kindOf st/\VL a=VL st/\Wn a=Wn st/\WA a=WA st
def aN.refl(st):aN st st:=⟨rfl,rfl,rfl,rfl⟩
def aN.set{st a:V5}(h:aN st a)(g):aN st (setG a g):=h
section
variable{M:Zi}{A:Wc}{E:VE->VI->Prop}{s:VI}{κ:W9}{S:VN->Prop}{lt:VN->VN->Bool}{a b:Array VN}{st ME:V5}
def dK(h:i<a.size)(q:Q a[i] st):Yz M A E s (WV a i) Q st:=by
 rw[elem'_eq,PK h];exact PU q
def CO(O:c8 M A E s κ S lt)(e:kindOf st=κ)(h:j<a.size)(f:S c)(d:S a[j])(q:Q (Z (!lt c a[j])) st):Yz M A E s (g7 VC c a j) Q st:=by
 unfold g7;refine PL (dK h ?_);show Yz M A E s (do return (<- lt' c a[j]).map (!·)) Q st;exact PL (O.ask _ _ _ _ f d e (PU q))
def CP(O:c8 M A E s κ S lt)(e:kindOf st=κ)(h:j<a.size)(f:S c)(d:S a[j])(q:Q (Z (lt a[j] c)) st):Yz M A E s (g7 J c a j) Q st:=by
 unfold g7;refine PL (dK h ?_);show Yz M A E s (lt' a[j] c) Q st;exact O.ask _ _ _ _ d f e q
def fx(lt:VN->VN->Bool)(a:Array VN)(i n:Nat):Prop:=∀x y (c:x<a.size) (d:y<a.size),i<=x->x<=y->y<i+n->le lt a[x] a[y]
def tc(O:c8 M A E s κ S lt)(l:kindOf st=κ)(f:∀x (c:x<a.size),S a[x])(r:S d)(z:i+n<=a.size)(t:h<n)(v:fx lt a i n)(u:∀k,k<=n->(∀x (c:x<a.size),i<=x->x<i+k->le lt a[x] d)->(∀x (c:x<a.size),i+k<=x->x<i+n->lt d a[x]=J)->Q (Z k) st):Yz M A E s (fT VC d a i n h) Q st:=by
 refine xS (p:=λx=>!lt d (a.getD (i+x) d)) (λj w Q q=>?_) t (λx y B C q=>?_) λk l aJ h2=>?_
 .have g:i+j<a.size:=⋯;refine CO O l g r (f _ g) ?_;simp only[WJ,g,UC]at q;exact q
 .have m:i+x<a.size:=⋯;have o:i+y<a.size:=⋯;simp only[WJ,m,o,UC,Qn,Q4]at q ⊢;exact O.cJ _ _ _ (f _ m) (f _ o) r (v _ _ m o ⋯ ⋯ ⋯) q
 .refine u k l (λx c l1 l2=>?_) λx c l1 l2=>?_
  .have:=aJ (x-i) (R2 l1 l2);have e:=QJ l1;simp only[e,WJ,c,UC,Qn,Q4]at this;exact this
  .have l0:=PW (Qg ..) l1;have:=h2 (x-i) (Tx l1) (R2 l0 l2);have e:=QJ l0;simp only[e,WJ,c,UC,Vv,Q4]at this;exact this
def td(O:c8 M A E s κ S lt)(l:kindOf st=κ)(f:∀x (c:x<a.size),S a[x])(r:S d)(z:i+n<=a.size)(t:h<n)(v:fx lt a i n)(u:∀k,k<=n->(∀x (c:x<a.size),i<=x->x<i+k->lt a[x] d=J)->(∀x (c:x<a.size),i+k<=x->x<i+n->le lt d a[x])->Q (Z k) st):Yz M A E s (fT J d a i n h) Q st:=by
 refine xS (p:=λx=>lt (a.getD (i+x) d) d) (λj w Q q=>?_) t (λx y B C q=>?_) λk l aJ h2=>?_
 .have g:i+j<a.size:=⋯;refine CP O l g r (f _ g) ?_;simp only[WJ,g,UC]at q;exact q
 .have m:i+x<a.size:=⋯;have o:i+y<a.size:=⋯;simp only[WJ,m,o,UC,Q4]at q ⊢;cases e:lt a[i+x] d with
  |true=>rfl
  |false=>rw[O.cJ _ _ _ r (f _ m) (f _ o) e (v _ _ m o ⋯ ⋯ ⋯)]at q;cases q
 .refine u k l (λx c l1 l2=>?_) λx c l1 l2=>?_
  .have:=aJ (x-i) (R2 l1 l2);have e:=QJ l1;simp only[e,WJ,c,UC,Q4]at this;exact this
  .have l0:=PW (Qg ..) l1;have:=h2 (x-i) (Tx l1) (R2 l0 l2);have e:=QJ l0;simp only[e,WJ,c,UC,Q4]at this;exact this
end
structure cg(lt:VN->VN->Bool)(a b r:List VN)(i j:Nat):Prop where
 perm:(r++(a.drop i++b.drop j)).Perm (a++b)
 nW:(r++a.drop i).Pairwise (le lt)
 l8:(r++b.drop j).Pairwise (le lt)
def dx(lt:VN->VN->Bool)(a b r:List VN):Prop:=r.Perm (a++b)/\r.Pairwise (le lt)
section
def cg.oa(h:cg lt a b r i j)(k)(m:∀x∈(a.drop i).take k,∀y∈b.drop j,le lt x y):cg lt a b (r++(a.drop i).take k) (i+k) j:=by
 have e:a.drop i=(a.drop i).take k++a.drop (i+k):=by rw[<- List.drop_drop,QN]
 refine⟨?_,?_,?_⟩
 .rw[PR,<- PR ((a.drop i).take k),<- e];exact h.perm
 .rw[PR,<- e];exact h.nW
 .have f:=P0.mp h.l8;have d:=P0.mp h.nW;rw[e]at d;have l:=P0.mp d.2.1;rw[PR];refine P0.mpr ⟨f.1,P0.mpr ⟨l.1,f.2.1,m⟩,λx g y c=>?_⟩;rcases PS.mp c with c|c
  .exact d.2.2 x g y (VV _ c)
  .exact f.2.2 x g y c
def cg.ob(h:cg lt a b r i j)(k)(m:∀x∈(b.drop j).take k,∀y∈a.drop i,le lt x y):cg lt a b (r++(b.drop j).take k) i (j+k):=by
 have e:b.drop j=(b.drop j).take k++b.drop (j+k):=by rw[<- List.drop_drop,QN]
 refine⟨?_,?_,?_⟩
 .have p1:(r++(b.drop j).take k++(a.drop i++b.drop (j+k))).Perm (r++(a.drop i++b.drop j)):=by
   rw[PR];refine R0 r ?_;rw[<- PR]
   conv=>rhs;rw[e,<- PR]
   exact SA _ SK
  exact p1.trans h.perm
 .have d:=P0.mp h.nW;have f:=P0.mp h.l8;rw[e]at f;have l:=P0.mp f.2.1;rw[PR];refine P0.mpr ⟨d.1,P0.mpr ⟨l.1,d.2.1,m⟩,λx g y c=>?_⟩;rcases PS.mp c with c|c
  .exact f.2.2 x g y (VV _ c)
  .exact d.2.2 x g y c
 .rw[PR,<- e];exact h.l8
def cg.s6(h:cg lt a b r i b.length):dx lt a b (r++a.drop i):=by
 have:=h.perm;rw[SY,QB]at this;exact⟨this,h.nW⟩
def cg.s7(h:cg lt a b r a.length j):dx lt a b (r++b.drop j):=by
 have:=h.perm;rw[SY,W4]at this;exact⟨this,h.l8⟩
def cg.last(h:cg lt a b r i j)(hi:i+1=a.length)(k:∀y∈b,∀x,a[a.length-1]?=Z x->le lt y x):dx lt a b (r++b.drop j++a.drop i):=by
 have e:∃x,a.drop i=[x]/\a[a.length-1]?=Z x:=by
  have c:i<a.length:=⋯;refine⟨a[i],?_,?_⟩
  .rw[Qw c,SD ⋯]
  .rw[show a.length-1=i by lia];exact PG c
 obtain⟨x,e,f⟩:=e;have g:=P0.mp h.nW;have l:=P0.mp h.l8;refine⟨?_,?_⟩
 .refine Xx ?_ h.perm;rw[PR];exact R0 r SK
 .refine P0.mpr ⟨h.l8,by rw[e];simp,λz hz y d=>?_⟩;rw[e]at d;have:y=x:=⇑d;subst this;rcases PS.mp hz with hz|hz
  .exact g.2.2 z hz y (by rw[e];simp)
  .exact k z (List.mem_of_mem_drop hz) y f
end
def xu(a:Array VN)(i k):(a.extract i (i+k)).toList=(a.toList.drop i).take k:=by
 rw[TV,WH,QR]
def lu(a:Array VN)(i):(a.extract i a.size).toList=a.toList.drop i:=by
 rw[TV,WH,<- VH,QK (by rw[Q6];exact PE _)]
def yU{l:List VN}(h:x∈(l.drop i).take k):∃n,∃(a:n<l.length),i<=n/\n<i+k/\x=l[n]:=by
 obtain⟨n,a,rfl⟩:=Ro.mp h;rw[Qt,Q6]at a;exact⟨i+n,SM (PH a (RU ..)),Qg ..,Ry (PH a (R3 ..)) i,by rw[Tr,UD]⟩
def pO{l:List VN}(h:x∈l.drop i):∃n,∃(a:n<l.length),i<=n/\x=l[n]:=by
 obtain⟨n,a,rfl⟩:=Ro.mp h;rw[Q6]at a;exact⟨i+n,SM a,Qg ..,by rw[UD]⟩
def take1{l:List VN}(h:i<l.length):(l.drop i).take 1=[l[i]]:=by
 rw[Qw h];rfl
noncomputable abbrev jO(a b r:Array VN)(i j:Nat):Array Keyed:=r++a.extract i a.size++b.extract j b.size
noncomputable abbrev cK(a b r:Array VN)(i j:Nat):Array Keyed:=r++b.extract j b.size++a.extract i a.size
@[reducible]def TT:Type:=Option (Array VN)×Array VN×Nat×Nat×Nat×Nat×Nat
abbrev p3(a b r:Array VN)(i j e c d:Nat):StateT V5 ZN (ForInStep TT):=do
 let x <- WV a i
 if i+1+1==a.size then pure (.done (Z (cK a b (r.push x) (i+1) j),r.push x,i+1,j,e,c,d))
 else if c<7&&d<7 then pure (.done (Y,r.push x,i+1,j,e,c,d)) else pure (.yield (Y,r.push x,i+1,j,e,c,d))
def p2(a b r:Array VN)(i j d c e:Nat):StateT V5 ZN (ForInStep TT):=do
 let y <- WV b j
 if j+1==b.size then pure (.done (Z (jO a b (r.push y) i (j+1)),r.push y,i,j+1,d,c,e))
 else do
  let x <- WV a i
  let q <- fT J x b (j+1) (b.size-(j+1)) 0
  match q with
  |some k =>
   if k>0 then
    if j+1+k==b.size then pure (.done (Z (jO a b (r.push y++b.extract (j+1) (j+1+k)) i (j+1+k)),r.push y++b.extract (j+1) (j+1+k),i,j+1+k,d,c,k))
    else p3 a b (r.push y++b.extract (j+1) (j+1+k)) i (j+1+k) d c k
   else p3 a b (r.push y) i (j+1) d c k
  |_=>pure (.done (Z (jO a b (r.push y) i (j+1)),r.push y,i,j+1,d,c,e))
def p1(a b r:Array VN)(i j c e d:Nat):StateT V5 ZN (ForInStep TT):=do
 modify λs=>setG s c
 let y <- WV b j
 let q <- fT VC y a i (a.size-i) 0
 match q with
 |some k =>
  if k>0 then
   if i+k+1==a.size then pure (.done (Z (cK a b (r++a.extract i (i+k)) (i+k) j),r++a.extract i (i+k),i+k,j,c,k,d))
   else if i+k==a.size then pure (.done (Z (jO a b (r++a.extract i (i+k)) (i+k) j),r++a.extract i (i+k),i+k,j,c,k,d))
   else p2 a b (r++a.extract i (i+k)) (i+k) j c k d
  else p2 a b r i j c k d
 |_=>pure (.done (Z (jO a b r i j),r,i,j,c,e,d))
section
variable{M:Zi}{A:Wc}{E:VE->VI->Prop}{s:VI}{κ:W9}{S:VN->Prop}{lt:VN->VN->Bool}{a b r:Array VN}{st0 st:V5}{i j ak ca cZ N:Nat}
structure Pre(S:VN->Prop)(lt:VN->VN->Bool)(a b:Array VN):Prop where
 cQ:∀x (ti:x<a.size),S a[x]
 cw:∀x (ti:x<b.size),S b[x]
 iJ:fx lt a 0 a.size
 dZ:fx lt b 0 b.size
 last:∀y∈b.toList,∀x,a.toList[a.toList.length-1]?=Z x->le lt y x
def fa(lt:VN->VN->Bool)(a b:Array VN)(N:Nat)(r:Array VN)(i j:Nat):Prop:=cg lt a.toList b.toList r.toList i j/\i+1<a.size/\j<b.size/\r.size=i+j/\N<=r.size
def cG(lt:VN->VN->Bool)(a b:Array VN)(N:Nat)(t:TT):Prop:=match t.1 with
 |some c=>dx lt a.toList b.toList c.toList
 |none=>fa lt a b N t.2.1 t.2.2.1 t.2.2.2.1
def oF(lt:VN->VN->Bool)(a b:Array VN)(N:Nat)(st0:V5)(f:ForInStep TT)(st:V5):Prop:=aN st0 st/\match f with
 |.done t=>cG lt a b N t
 |.yield t=>t.1=Y/\cG lt a b N t
def o7(P:Pre S lt a b)(h:cg lt a.toList b.toList r.toList i j)(hi:i+1=a.size):dx lt a.toList b.toList (cK a b r i j).toList:=by
 show dx _ _ _ (r++b.extract j b.size++a.extract i a.size).toList;rw[Qe,Qe,lu,lu];exact h.last (by rw[VH];exact hi) P.last
def o6(h:cg lt a.toList b.toList r.toList i j)(c:j=b.size):dx lt a.toList b.toList (jO a b r i j).toList:=by
 show dx _ _ _ (r++a.extract i a.size++b.extract j b.size).toList;subst c;have e:b.toList.drop b.size=[]:=SD (by rw[VH];exact PE _);rw[Qe,Qe,lu,lu,e,QB];exact cg.s6 (by rw[VH];exact h)
def FK(h:cg lt a.toList b.toList r.toList i j)(hi:i=a.size):dx lt a.toList b.toList (jO a b r i j).toList:=by
 show dx _ _ _ (r++a.extract i a.size++b.extract j b.size).toList;subst hi;have e:a.toList.drop a.size=[]:=SD (by rw[VH];exact PE _);rw[Qe,Qe,lu,lu,e,QB];exact cg.s7 (by rw[VH];exact h)
def cg.lY(h:cg lt a.toList b.toList r.toList i j)(hi:i<a.size)(g:∀y (f:y<b.size),j<=y->le lt a[i] b[y]):cg lt a.toList b.toList (r.push a[i]).toList (i+1) j:=by
 have c:i<a.toList.length:=by rw[VH];exact hi
 have:=h.oa 1 (λx e y f=>by
  rw[take1 c]at e;obtain rfl:x=a.toList[i]:=⇑e;obtain⟨n,d,l1,rfl⟩:=pO f;exact g n (by rw[VH]at d;exact d) l1)
 rw[take1 c]at this;rw[SP];exact this
def cg.lZ(h:cg lt a.toList b.toList r.toList i j)(g:j<b.size)(k:∀y (f:y<a.size),i<=y->le lt b[j] a[y]):cg lt a.toList b.toList (r.push b[j]).toList i (j+1):=by
 have c:j<b.toList.length:=by rw[VH];exact g
 have:=h.ob 1 (λx e y f=>by
  rw[take1 c]at e;obtain rfl:x=b.toList[j]:=⇑e;obtain⟨n,d,l1,rfl⟩:=pO f;exact k n (by rw[VH]at d;exact d) l1)
 rw[take1 c]at this;rw[SP];exact this
def cg.sX(h:cg lt a.toList b.toList r.toList i j)(g:∀x (e:x<a.size) y (f:y<b.size),i<=x->x<i+k->j<=y->le lt a[x] b[y]):cg lt a.toList b.toList (r++a.extract i (i+k)).toList (i+k) j:=by
 rw[Qe,xu];refine h.oa k λx e y f=>?_
 obtain⟨n,d,l1,l2,rfl⟩:=yU e;obtain⟨m,c,l3,rfl⟩:=pO f;rw[VH]at d c;exact g n d m c l1 l2 l3
def cg.sY(h:cg lt a.toList b.toList r.toList i j)(g:∀x (e:x<b.size) y (f:y<a.size),j<=x->x<j+k->i<=y->le lt b[x] a[y]):cg lt a.toList b.toList (r++b.extract j (j+k)).toList i (j+k):=by
 rw[Qe,xu];refine h.ob k λx e y f=>?_
 obtain⟨n,d,l1,l2,rfl⟩:=yU e;obtain⟨m,c,l3,rfl⟩:=pO f;rw[VH]at d c;exact g n d m c l1 l2 l3
def zq(P:Pre S lt a b)(g:aN st0 st)(h:cg lt a.toList b.toList r.toList i j)(hi:i+1<a.size)(k:j<b.size)(m:r.size=i+j)(f:N<=r.size+1)(l:∀y (n:y<b.size),j<=y->le lt a[i] b[y]):
  Yz M A E s (p3 a b r i j ak ca cZ) (oF lt a b N st0) st:=by
 unfold p3;have e:i<a.size:=by lia
 refine PL (dK e ?_);have h':=h.lY e l
 split
 .rename_i c;have c:i+1+1=a.size:=⇑c;exact PU ⟨g,o7 P h' c⟩
 .rename_i c;have c:¬i+1+1=a.size:=⇑c;have d:fa lt a b N (r.push a[i]) (i+1) j:=⟨h',⋯,k,by rw[Qh];lia,by rw[Qh];exact f⟩
  split
  .exact PU ⟨g,d⟩
  .exact PU ⟨g,rfl,d⟩
def zp(O:c8 M A E s κ S lt)(v:kindOf st0=κ)(P:Pre S lt a b)(g:aN st0 st)(h:cg lt a.toList b.toList r.toList i j)(hi:i+1<a.size)(l:j<b.size)(B:r.size=i+j)(z:N<=r.size+2)(w:∀y (d:y<a.size),i<=y->le lt b[j] a[y]):
  Yz M A E s (p2 a b r i j ak ca cZ) (oF lt a b N st0) st:=by
 unfold p2;have f:i<a.size:=by lia
 refine PL (dK l ?_);have h':=h.lZ l w
 split
 .rename_i c;have c:j+1=b.size:=⇑c;exact PU ⟨g,o6 h' c⟩
 .rename_i c;have c:¬j+1=b.size:=⇑c;have n:=QJ l;refine PL (dK f ?_);refine PL (td O (g.1.trans v) P.cw (P.cQ _ f) (UZ n) (Uw (Rd l c)) (λx y m d l1 l2 l3=>P.dZ x y m d (PN _) l2 ⋯) λk u t o=>?_);dsimp only;have p:=SJ l u;have h2:cg lt a.toList b.toList (r.push b[j]++b.extract (j+1) (j+1+k)).toList i (j+1+k):=h'.sY λx m y d l1 l2 l3 =>
   O.cJ _ _ _ (P.cw _ m) (P.cQ _ f) (P.cQ _ d) (O.fA _ _ (P.cw _ m) (P.cQ _ f) (t x m l1 l2)) (P.iJ i y f d (PN _) l3 ⋯)
  have q:(r.push b[j]++b.extract (j+1) (j+1+k)).size=i+(j+1+k):=by
   rw[Ru,Qh,Qu,QH p,QR];lia
  split
  .split
   .rename_i e;have e:j+1+k=b.size:=⇑e;exact PU ⟨g,o6 h2 e⟩
   .rename_i e;have e:¬j+1+k=b.size:=⇑e;exact zq P g h2 hi (Rd p e) q (by rw[q];lia) λy d l1=>o y d l1 (by rw[n];exact d)
  .have k0:k=0:=⋯;subst k0;exact zq P g h' hi ⋯ (by rw[Qh];lia) (by rw[Qh];lia) λy d l1=>o y d l1 (by rw[n];exact d)
def Jz(O:c8 M A E s κ S lt)(n:kindOf st0=κ)(P:Pre S lt a b)(g:aN st0 st)(h:cg lt a.toList b.toList r.toList i j)(hi:i+1<a.size)(f:j<b.size)(B:r.size=i+j)(w:N<=r.size+2):
  Yz M A E s (p1 a b r i j ak ca cZ) (oF lt a b N st0) st:=by
 unfold p1;refine PL (RM ?_);have g:=g.set ak;have m:=Zv hi;have o:=QJ (Qs m);refine PL (dK f ?_);refine PL (tc O (g.1.trans n) P.cQ (P.cw _ f) (UZ o) (Uw m) (λx y l d l1 l2 l3=>P.iJ x y l d (PN _) l2 ⋯) λk z u v=>?_);dsimp only;have p:=SJ (Qs m) z;have h2:cg lt a.toList b.toList (r++a.extract i (i+k)).toList (i+k) j:=h.sX λx l y d l1 l2 l3 =>
  O.cJ _ _ _ (P.cQ _ l) (P.cw _ f) (P.cw _ d) (u x l l1 l2) (P.dZ j y f d (PN _) l3 ⋯)
 have t:(r++a.extract i (i+k)).size=i+k+j:=by
  rw[Ru,Qu,QH p,QR];lia
 have q:∀y (d:y<a.size),i+k<=y->le lt b[j] a[y]:=λy d l1=>O.fA _ _ (P.cw _ f) (P.cQ _ d) (v y d l1 (by rw[o];exact d))
 split
 .split
  .rename_i c;have c:i+k+1=a.size:=⇑c;exact PU ⟨g,o7 P h2 c⟩
  .rename_i c;have c:¬i+k+1=a.size:=⇑c
   split
   .rename_i e;have e:i+k=a.size:=⇑e;exact PU ⟨g,FK h2 e⟩
   .rename_i e;have e:¬i+k=a.size:=⇑e;exact zp O n P g h2 (Rd (Rd p e) c) f t (by rw[t];lia) q
 .have k0:k=0:=⋯;subst k0;exact zp O n P g h hi f B w q
end
@[reducible]def dU:Type:=Option (Array VN)×Array VN×Nat×Nat×Nat×Nat
@[reducible]def ih:Type:=Option (Array VN)×Array VN×Nat×Nat×Nat
def AY{A B C D E:Type}{P:A×B×C×D×E->Prop}(h:∀a b c d e,P (a,b,c,d,e)):∀c,P c:=λ_=>h _ _ _ _ _
def qr{A B C D E F:Type}{P:A×B×C×D×E×F->Prop}(h:∀a b c d e f,P (a,b,c,d,e,f)):∀c,P c:=λ_=>h _ _ _ _ _ _
def AZ{A B C D E F G:Type}{P:A×B×C×D×E×F×G->Prop}(h:∀a b c d e f g,P (a,b,c,d,e,f,g)):∀c,P c:=λ_=>h _ _ _ _ _ _ _
section
def cf{st:V5}{α:Type}{c:Prop}[Decidable c]{t e:StateT V5 ZN α}{Q:α->V5->Prop}(aJ:c->Yz M A E s t Q st)(h2:¬c->Yz M A E s e Q st):Yz M A E s (if c then t else e) Q st:=by
 by_cases h:c
 .rw[if_pos h];exact aJ h
 .rw[if_neg h];exact h2 h
def fa.less(h:fa lt a b N r i j)(d:c<=N):fa lt a b c r i j:=⟨h.1,h.2.1,h.2.2.1,h.2.2.2.1,PW d h.2.2.2.2⟩
def fa.no(h:fa lt a b N r i j)(c:a.size+b.size<=N):False:=by
 obtain⟨_,aJ,h2,h3,h4⟩:=h;lia
theorem cG.less(h:cG lt a b N t)(d:c<=N):cG lt a b c t:=by
 obtain⟨o,t⟩:=t;cases o with
 |some e=>exact h
 |none=>exact fa.less h d
def n5(h:fx lt a 0 a.size):a.toList.Pairwise (le lt):=by
 rw[R1];intro x y b c d;rw[VH]at b c;exact h x y b c (PN _) (Qs d) ⋯
def IL{st:V5}(O:c8 M A E s κ S lt)(a4:kindOf st=κ)(P:Pre S lt a b)(az:0<a.size)(a3:0<b.size)(h0:∀y (w:y<a.size),le lt b[0] a[y])(V:∀u d,aN st d->dx lt a.toList b.toList u.toList->Q u d):
  Yz M A E s (tQ a b) Q st:=by
 rw[IK];refine PL (UQ (Sz ⟨rfl,?_⟩));refine PL (dK a3 ?_);have m0:cg lt a.toList b.toList (#[]:Array VN).toList 0 0:=⟨Ue _,n5 P.iJ,n5 P.dZ⟩;have X:cg lt a.toList b.toList (#[b[0]]:Array VN).toList 0 1:=m0.lZ a3 λy w _=>h0 y w
 refine cf (λk=>?_) λk=>?_
 .have c:=k;have c:1=b.size:=⇑c;exact PU (V _ _ (.refl st) (o6 X c))
 .have c:=k;have c:¬1=b.size:=⇑c;refine cf (λk=>?_) λk=>?_
  .have G:=k;have G:0+1=a.size:=⇑G;exact PU (V _ _ (.refl st) (o7 P X G))
  .have G:=k;have G:¬0+1=a.size:=⇑G;refine PL (T9 ?_);refine PL (Rw (Q1 (I:=λx (c:ih) d=>aN st d/\c.1=Y/\fa lt a b (x+1) c.2.1 c.2.2.1 c.2.2.2.1) (Q:=λ(c:ih) d=>aN st d/\∃u,c.1=Z u/\dx lt a.toList b.toList u.toList)
    ?step ?fin ⟨.refl st,rfl,X,by show 0+1<a.size;lia,by show 1<b.size;lia,rfl,PE _⟩) ?post)
   case fin =>
    rintro⟨o,r,i,j,D⟩ d ⟨g,_,N⟩;exact(N.no (by rw[Qz (PN _)];lia)).elim
   case post =>
    rintro⟨o,r,i,j,D⟩ d ⟨g,u,rfl,m⟩;exact PU (V u d g m)
   case step =>
    refine λx=>AY λo r i j D b1 _ aA h=>?_
    have av:=h.1;have a1:=h.2.2;dsimp only at a1;refine PL (Rw (Q1 (I:=λy (c:dU) d=>aN st d/\c.1=Y/\fa lt a b (x+1+y) c.2.1 c.2.2.1 c.2.2.2.1)
     (Q:=λ(c:dU) d=>aN st d/\cG lt a b (x+2) (c.1,c.2.1,c.2.2.1,c.2.2.2.1,0,0,0)) ?step2 ?fin2 ⟨av,rfl,a1⟩) ?post2)
    case fin2 =>
     rintro⟨o,r,i,j,H,L⟩ d ⟨g,_,N⟩;exact(N.no (by rw[Qz (PN _)];lia)).elim
    case step2 =>
     refine λy=>qr λo r i j H L ay _ w h=>?_
     have v:=h.1;have B:=h.2.2;dsimp only at B;have m2:=B.1;have U:=B.2.1;have n:=B.2.2.1;have a0:=B.2.2.2.1;have au:=B.2.2.2.2;have C:i<a.size:=⋯;refine PL (dK n (PL (dK C ?_)));refine PL (O.ask _ _ _ _ (P.cw _ n) (P.cQ _ C) (v.1.trans a4) ?_);cases e:lt b[j] a[i] with
     |true =>
      refine cf (λ_=>?_) λh=>absurd rfl h
      refine PL (dK n ?_);have m3:=m2.lZ n λy w l1=>O.cJ _ _ _ (P.cw _ n) (P.cQ _ C) (P.cQ _ w) (O.fA _ _ (P.cw _ n) (P.cQ _ C) e) (P.iJ i y C w (PN _) l1 ⋯)
      refine cf (λk=>?_) λk=>?_
      .have l:=k;have l:j+1=b.size:=⇑l;exact PU ⟨v,o6 m3 l⟩
      .have l:=k;have l:¬j+1=b.size:=⇑l;have R:fa lt a b (x+1+(y+1)) (r.push b[j]) i (j+1):=⟨m3,U,⋯,by rw[Qh];lia,by rw[Qh];lia⟩;refine cf (λk=>?_) λk=>?_
       .exact PU ⟨v,fa.less R ⋯⟩
       .exact PU ⟨v,rfl,R⟩
     |false =>
      refine cf (λh=>nomatch h) λ_=>?_
      refine PL (dK C ?_);have m3:=m2.lY C λy w l1=>O.cJ _ _ _ (P.cQ _ C) (P.cw _ n) (P.cw _ w) e (P.dZ j y n w (PN _) l1 ⋯)
      refine cf (λk=>?_) λk=>?_
      .have l:=k;have l:i+1+1=a.size:=⇑l;exact PU ⟨v,o7 P m3 l⟩
      .have l:=k;have l:¬i+1+1=a.size:=⇑l;have R:fa lt a b (x+1+(y+1)) (r.push a[i]) (i+1) j:=⟨m3,⋯,n,by rw[Qh];lia,by rw[Qh];lia⟩;refine cf (λk=>?_) λk=>?_
       .exact PU ⟨v,fa.less R ⋯⟩
       .exact PU ⟨v,rfl,R⟩
    case post2 =>
     refine qr λo r i j H L ay h=>?_
     have v:=h.1;have p:=h.2;cases o with
     |some u=>exact PU ⟨v,u,rfl,p⟩
     |none =>
      have B:fa lt a b (x+2) r i j:=p;refine PL (UQ (Sz ⟨rfl,?_⟩));refine PL (Rw (Q1 (I:=λz (c:TT) d=>aN st d/\c.1=Y/\fa lt a b (x+2+z) c.2.1 c.2.2.1 c.2.2.2.1) (Q:=λ(c:TT) d=>aN st d/\cG lt a b (x+2) c)
       ?step3 ?fin3 ⟨v,rfl,B⟩) ?post3)
      case fin3 =>
       rintro⟨o,r,i,j,D,H,L⟩ d ⟨g,_,N⟩;exact(N.no (by rw[Qz (PN _)];lia)).elim
      case step3 =>
       refine λz=>AZ λo r i j D H L dM _ hz h=>?_
       have T:=h.1;have h:=h.2.2;have m3:=h.1;have U:=h.2.1;have n:=h.2.2.1;have a0:=h.2.2.2.1;have au:=h.2.2.2.2;dsimp only at m3 U n a0 au;have a2:∀a5,Yz M A E s (p1 a b r i j a5 H L) (oF lt a b (x+2+(z+1)) st) dM:=λa5=>Jz O a4 P T m3 U n a0 ⋯
       refine cf (λ_=>?_) λ_=>?_
       .refine Rw (a2 (D-1)) λf d q=>?_
        cases f with
        |done t=>exact⟨q.1,cG.less q.2 ⋯⟩
        |yield t =>
         obtain⟨o,t⟩:=t;obtain⟨g',rfl,q⟩:=q;exact⟨g',rfl,q⟩
       .refine Rw (a2 D) λf d q=>?_
        cases f with
        |done t=>exact⟨q.1,cG.less q.2 ⋯⟩
        |yield t =>
         obtain⟨o,t⟩:=t;obtain⟨g',rfl,q⟩:=q;exact⟨g',rfl,q⟩
      case post3 =>
       rintro⟨o,r,i,j,D,H,L⟩ dM ⟨T,p⟩;cases o with
       |some u=>exact PU ⟨T,u,rfl,p⟩
       |none=>exact PL (RM (PU ⟨T.set _,rfl,p⟩))
end
abbrev tN:Array VN->Array VN->StateT V5 ZN (Array VN):=sortPriv% PySem.Builtin.mergeHi
def IB(a b:Array VN):tN a b=(do
 Zk "list.sort.merge-hi"
 let d:=a.size+b.size
 let fin (r:Array VN) (i j:Nat):=a.extract 0 i++b.extract 0 j++r.reverse
 let c (r:Array VN) (i j:Nat):=b.extract 0 j++a.extract 0 i++r.reverse
 let mut i:=a.size-1
 let mut j:=b.size
 let mut r:Array Keyed:=#[<- WV a i]
 if i==0 then return fin r i j
 if j==1 then return c r i j
 let mut ak:=gallopOf (<- get)
 for _ in [0:d] do
  let mut ca:=0
  let mut cZ:=0
  for _ in [0:d] do
   let Z w <- lt' (<- WV b (j-1)) (<- WV a (i-1))|return fin r i j
   if w then
    i:=i-1;r:=r.push (<- WV a i);ca:=ca+1;cZ:=0
    if i==0 then return fin r i j
    if ca>=ak then break
   else
    j:=j-1;r:=r.push (<- WV b j);cZ:=cZ+1;ca:=0
    if j==1 then return c r i j
    if cZ>=ak then break
  Zk "list.sort.gallop"
  ak:=ak+1
  for _ in [0:d] do
   if ak>1 then ak:=ak-1
   modify λs=>setG s ak
   let Z q <- fT VC (<- WV b (j-1)) a 0 i (i-1)|return fin r i j
   let k:=i-q
   ca:=k
   if k>0 then
    r:=r++(a.extract q i).reverse;i:=q
    if i==0 then return fin r i j
   j:=j-1;r:=r.push (<- WV b j)
   if j==1 then return c r i j
   let Z q <- fT J (<- WV a (i-1)) b 0 j (j-1)|return fin r i j
   let k:=j-q
   cZ:=k
   if k>0 then
    r:=r++(b.extract q j).reverse;j:=q
    if j==1 then return c r i j
    if j==0 then return fin r i j
   i:=i-1;r:=r.push (<- WV a i)
   if i==0 then return fin r i j
   if ca<7&&cZ<7 then break
  ak:=ak+1
  modify λs=>setG s ak
 XQ "internal:list.sort.merge-bound"):=rfl
structure cu(lt:VN->VN->Bool)(a b t:List VN)(i j:Nat):Prop where
 perm:(a.take i++b.take j++t).Perm (a++b)
 bT:(a.take i++t).Pairwise (le lt)
 bW:(b.take j++t).Pairwise (le lt)
section
def qB(l:List VN)(h:q<=i):l.take i=l.take q++(l.take i).drop q:=by
 conv=>lhs;rw[<- QN q (l.take i)]
 rw[List.take_take,QH h]
def cu.oa(h:cu lt a b t i j)(m:q<=i)(l:∀x∈b.take j,∀y∈(a.take i).drop q,le lt x y):cu lt a b ((a.take i).drop q++t) q j:=by
 have e:=qB a m;refine⟨?_,?_,?_⟩
 .refine Xx ?_ h.perm
  conv=>rhs;rw[e]
  rw[PR,PR,PR];refine R0 _ ?_;rw[<- PR,<- PR];exact SA t SK
 .rw[<- PR,<- e];exact h.bT
 .have f:=P0.mp h.bW;have d:=h.bT;rw[e,PR]at d;have k:=(P0.mp d).2.1;refine P0.mpr ⟨f.1,k,λx g y c=>?_⟩;rcases PS.mp c with c|c
  .exact l x g y c
  .exact f.2.2 x g y c
def cu.ob(h:cu lt a b t i j)(m:q<=j)(l:∀x∈a.take i,∀y∈(b.take j).drop q,le lt x y):cu lt a b ((b.take j).drop q++t) i q:=by
 have e:=qB b m;refine⟨?_,?_,?_⟩
 .refine Xx ?_ h.perm
  conv=>rhs;rw[e]
  rw[PR,PR,PR]
 .have d:=P0.mp h.bT;have f:=h.bW;rw[e,PR]at f;have k:=(P0.mp f).2.1;refine P0.mpr ⟨d.1,k,λx g y c=>?_⟩;rcases PS.mp c with c|c
  .exact l x g y c
  .exact d.2.2 x g y c
 .rw[<- PR,<- e];exact h.bW
def cu.s6(h:cu lt a b t 0 j):dx lt a b (b.take j++t):=by
 have:=h.perm;rw[Ul,W4]at this;exact⟨this,h.bW⟩
def cu.s7(h:cu lt a b t i 0):dx lt a b (a.take i++t):=by
 have:=h.perm;rw[Ul,QB]at this;exact⟨this,h.bT⟩
def cu.first(h:cu lt a b t i 1)(f:∀x∈b.take 1,∀y∈a,le lt x y):dx lt a b (b.take 1++a.take i++t):=by
 have d:=P0.mp h.bW;refine⟨?_,?_⟩
 .refine Xx ?_ h.perm;exact SA t SK
 .rw[PR];refine P0.mpr ⟨d.1,h.bT,λx e y c=>?_⟩;rcases PS.mp c with c|c
  .exact f x e y (TX c)
  .exact d.2.2 x e y c
end
def ka(a:Array VN)(q i):(a.extract q i).toList=(a.toList.take i).drop q:=by
 rw[TV,WH,List.drop_take]
def lr(a:Array VN)(i):(a.extract 0 i).toList=a.toList.take i:=by rw[ka,List.drop_zero]
def pR{l:List VN}(h:x∈(l.take i).drop q):∃n,∃(a:n<l.length),q<=n/\n<i/\x=l[n]:=by
 obtain⟨n,a,rfl⟩:=Ro.mp h;rw[Q6,Qt]at a;have a:=SM a;exact⟨q+n,PH a (RU ..),Qg ..,PH a (R3 ..),by rw[UD,Tr]⟩
def nG{l:List VN}(h:x∈l.take i):∃n,∃(a:n<l.length),n<i/\x=l[n]:=by
 obtain⟨n,a,rfl⟩:=Ro.mp h;rw[Qt]at a;exact⟨n,PH a (RU ..),PH a (R3 ..),by rw[Tr]⟩
def pI{l:List VN}{i:Nat}(h0:0<i)(h:i<=l.length):(l.take i).drop (i-1)=[l[i-1]'⋯]:=by
 have a:(l.take i).length=i:=by rw[Qt];lia
 rw[Qw (by rw[a];lia),SD (by rw[a];lia),Tr]
noncomputable abbrev jP(a b r:Array VN)(i j:Nat):Array Keyed:=a.extract 0 i++b.extract 0 j++r.reverse
noncomputable abbrev cn(a b r:Array VN)(i j:Nat):Array Keyed:=b.extract 0 j++a.extract 0 i++r.reverse
@[reducible]def jU:Type:=Option (Array VN)×Nat×Nat×Array VN×Nat×Nat×Nat
abbrev h3(a b r:Array VN)(i j e c d:Nat):StateT V5 ZN (ForInStep jU):=do
 let x <- WV a (i-1)
 if i-1==0 then pure (.done (Z (jP a b (r.push x) (i-1) j),i-1,j,r.push x,e,c,d))
 else if c<7&&d<7 then pure (.done (Y,i-1,j,r.push x,e,c,d)) else pure (.yield (Y,i-1,j,r.push x,e,c,d))
def h2(a b r:Array VN)(i j d c e:Nat):StateT V5 ZN (ForInStep jU):=do
 let y <- WV b (j-1)
 if j-1==1 then pure (.done (Z (cn a b (r.push y) i (j-1)),i,j-1,r.push y,d,c,e))
 else do
  let x <- WV a (i-1)
  let o <- fT J x b 0 (j-1) (j-1-1)
  match o with
  |some q =>
   if j-1-q>0 then
    if q==1 then pure (.done (Z (cn a b (r.push y++(b.extract q (j-1)).reverse) i q),i,q,r.push y++(b.extract q (j-1)).reverse,d,c,j-1-q))
    else if q==0 then pure (.done (Z (jP a b (r.push y++(b.extract q (j-1)).reverse) i q),i,q,r.push y++(b.extract q (j-1)).reverse,d,c,j-1-q))
    else h3 a b (r.push y++(b.extract q (j-1)).reverse) i q d c (j-1-q)
   else h3 a b (r.push y) i (j-1) d c (j-1-q)
  |_=>pure (.done (Z (jP a b (r.push y) i (j-1)),i,j-1,r.push y,d,c,e))
def aJ(a b r:Array VN)(i j c e d:Nat):StateT V5 ZN (ForInStep jU):=do
 modify λs=>setG s c
 let y <- WV b (j-1)
 let o <- fT VC y a 0 i (i-1)
 match o with
 |some q =>
  if i-q>0 then
   if q==0 then pure (.done (Z (jP a b (r++(a.extract q i).reverse) q j),q,j,r++(a.extract q i).reverse,c,i-q,d))
   else h2 a b (r++(a.extract q i).reverse) q j c (i-q) d
  else h2 a b r i j c (i-q) d
 |_=>pure (.done (Z (jP a b r i j),i,j,r,c,e,d))
section
variable{M:Zi}{A:Wc}{E:VE->VI->Prop}{s:VI}{κ:W9}{S:VN->Prop}{lt:VN->VN->Bool}{a b r:Array VN}{st0 st:V5}{i j ak ca cZ N:Nat}
structure mE(S:VN->Prop)(lt:VN->VN->Bool)(a b:Array VN):Prop where
 cQ:∀x (ti:x<a.size),S a[x]
 cw:∀x (ti:x<b.size),S b[x]
 iJ:fx lt a 0 a.size
 dZ:fx lt b 0 b.size
 first:∀x∈b.toList.take 1,∀y∈a.toList,le lt x y
@[reducible]def ey(lt:VN->VN->Bool)(a b r:Array VN)(i j:Nat):Prop:=cu lt a.toList b.toList r.toList.reverse i j
def e9(lt:VN->VN->Bool)(a b:Array VN)(N:Nat)(r:Array VN)(i j:Nat):Prop:=ey lt a b r i j/\0<i/\i<=a.size/\1<j/\j<=b.size/\r.size+i+j=a.size+b.size/\N<=r.size
def ic(lt:VN->VN->Bool)(a b:Array VN)(N:Nat)(t:jU):Prop:=match t.1 with
 |some c=>dx lt a.toList b.toList c.toList
 |none=>e9 lt a b N t.2.2.2.1 t.2.1 t.2.2.1
def f9(lt:VN->VN->Bool)(a b:Array VN)(N:Nat)(st0:V5)(f:ForInStep jU)(st:V5):Prop:=aN st0 st/\match f with
 |.done t=>ic lt a b N t
 |.yield t=>t.1=Y/\ic lt a b N t
def pb(P:mE S lt a b)(h:ey lt a b r i j)(c:j=1):dx lt a.toList b.toList (cn a b r i j).toList:=by
 subst c;show dx _ _ _ (b.extract 0 1++a.extract 0 i++r.reverse).toList;rw[Qe,Qe,lr,lr,Sf];exact cu.first h P.first
def pa(h:ey lt a b r i j)(hi:i=0):dx lt a.toList b.toList (jP a b r i j).toList:=by
 subst hi;show dx _ _ _ (a.extract 0 0++b.extract 0 j++r.reverse).toList;rw[Qe,Qe,lr,lr,Sf,Ul,W4];exact cu.s6 h
def Ge(h:ey lt a b r i j)(c:j=0):dx lt a.toList b.toList (jP a b r i j).toList:=by
 subst c;show dx _ _ _ (a.extract 0 i++b.extract 0 0++r.reverse).toList;rw[Qe,Qe,lr,lr,Sf,Ul,QB];exact cu.s7 h
def cu.sX(h:ey lt a b r i j)(k:q<=i)(g:∀x (e:x<b.size) y (f:y<a.size),x<j->q<=y->y<i->le lt b[x] a[y]):ey lt a b (r++(a.extract q i).reverse) q j:=by
 show cu lt a.toList b.toList (r++(a.extract q i).reverse).toList.reverse q j;rw[Qe,Sf,S4,YI,ka];refine cu.oa h k λx e y f=>?_
 obtain⟨n,d,l1,rfl⟩:=nG e;obtain⟨m,c,l2,l3,rfl⟩:=pR f;rw[VH]at d c;exact g n d m c l1 l2 l3
def cu.sY(h:ey lt a b r i j)(k:q<=j)(g:∀x (e:x<a.size) y (f:y<b.size),x<i->q<=y->y<j->le lt a[x] b[y]):ey lt a b (r++(b.extract q j).reverse) i q:=by
 show cu lt a.toList b.toList (r++(b.extract q j).reverse).toList.reverse i q;rw[Qe,Sf,S4,YI,ka];refine cu.ob h k λx e y f=>?_
 obtain⟨n,d,l1,rfl⟩:=nG e;obtain⟨m,c,l2,l3,rfl⟩:=pR f;rw[VH]at d c;exact g n d m c l1 l2 l3
def cu.lY(h:ey lt a b r i j)(h0:0<i)(hi:i<=a.size)(f:∀x (d:x<b.size),x<j->le lt b[x] (a[i-1]'⋯)):ey lt a b (r.push (a[i-1]'⋯)) (i-1) j:=by
 have hl:i-1<a.toList.length:=by rw[VH];lia
 have:=cu.oa (q:=i-1) h ⋯ (λx d y e=>by
  rw[pI h0 (by rw[VH];exact hi)]at e;obtain rfl:y=a.toList[i-1]'hl:=⇑e;obtain⟨n,c,l1,rfl⟩:=nG d;exact f n (by rw[VH]at c;exact c) l1)
 rw[pI h0 (by rw[VH];exact hi)]at this;show cu lt a.toList b.toList (r.push (a[i-1]'⋯)).toList.reverse (i-1) j;rw[SP,S4];exact this
def cu.lZ(h:ey lt a b r i j)(h0:0<j)(c:j<=b.size)(g:∀x (e:x<a.size),x<i->le lt a[x] (b[j-1]'⋯)):ey lt a b (r.push (b[j-1]'⋯)) i (j-1):=by
 have hl:j-1<b.toList.length:=by rw[VH];lia
 have:=cu.ob (q:=j-1) h ⋯ (λx e y f=>by
  rw[pI h0 (by rw[VH];exact c)]at f;obtain rfl:y=b.toList[j-1]'hl:=⇑f;obtain⟨n,d,l1,rfl⟩:=nG e;exact g n (by rw[VH]at d;exact d) l1)
 rw[pI h0 (by rw[VH];exact c)]at this;show cu lt a.toList b.toList (r.push (b[j-1]'⋯)).toList.reverse i (j-1);rw[SP,S4];exact this
def xY(P:mE S lt a b)(g:aN st0 st)(h:ey lt a b r i j)(f:0<i)(hi:i<=a.size)(k:1<j)(l:j<=b.size)(n:r.size+i+j=a.size+b.size)(e:N<=r.size+1)(m:∀x (o:x<b.size),x<j->le lt b[x] (a[i-1]'⋯)):
  Yz M A E s (h3 a b r i j ak ca cZ) (f9 lt a b N st0) st:=by
 unfold h3;refine PL (dK ⋯ ?_);have h':=cu.lY h f hi m;refine cf (λc=>?_) λc=>?_
 .have c:i-1=0:=⇑c;exact PU ⟨g,pa h' c⟩
 .have c:¬i-1=0:=⇑c;have d:e9 lt a b N (r.push (a[i-1]'⋯)) (i-1) j:=⟨h',⋯,⋯,k,l,by rw[Qh];lia,by rw[Qh];exact e⟩;refine cf (λ_=>?_) λ_=>?_
  .exact PU ⟨g,d⟩
  .exact PU ⟨g,rfl,d⟩
def xX(O:c8 M A E s κ S lt)(B:kindOf st0=κ)(P:mE S lt a b)(g:aN st0 st)(h:ey lt a b r i j)(o:0<i)(hi:i<=a.size)(p:1<j)(t:j<=b.size)(H:r.size+i+j=a.size+b.size)(G:N<=r.size+2)(C:∀x (d:x<a.size),x<i->le lt a[x] (b[j-1]'⋯)):Yz M A E s (h2 a b r i j ak ca cZ) (f9 lt a b N st0) st:=by
 unfold h2;refine PL (dK ⋯ ?_);have h':=cu.lZ h ⋯ t C;refine cf (λc=>?_) λc=>?_
 .have c:j-1=1:=⇑c;exact PU ⟨g,pb P h' c⟩
 .have c:¬j-1=1:=⇑c;refine PL (dK ⋯ ?_);refine PL (td O (g.1.trans B) P.cw (P.cQ _ ⋯) ⋯ ⋯ (λx y d m l1 l2 l3=>P.dZ x y d m (PN _) l2 ⋯) λq l w z=>?_);have I:=Um (Qs p);have u:=PW (Sr j 1) t;have L:q<j:=Qo l (Vw (Zv p) ∅);have h4:ey lt a b (r.push (b[j-1]'⋯)++(b.extract q (j-1)).reverse) i q:=cu.sY h' l λx d y m l1 l2 l3 =>
   O.cJ _ _ _ (P.cQ _ d) (P.cQ _ ⋯) (P.cw _ m) (P.iJ x (i-1) d ⋯ (PN _) ⋯ ⋯) (z y m ⋯ ⋯)
  have D:(r.push (b[j-1]'⋯)++(b.extract q (j-1)).reverse).size+i+q=a.size+b.size:=by
   have:=Um l;rw[Ru,Qh,Zf,Qu,QH u];lia
  have v:∀x (d:x<b.size),x<q->le lt b[x] (a[i-1]'⋯):=λx d l1=>O.fA _ _ (P.cw _ d) (P.cQ _ ⋯) (w x d (PN _) ⋯)
  refine cf (λn=>?_) λn=>?_
  .refine cf (λf=>?_) λf=>?_
   .have f:q=1:=⇑f;exact PU ⟨g,pb P h4 f⟩
   .have f:¬q=1:=⇑f;refine cf (λk=>?_) λk=>?_
    .have k:q=0:=⇑k;exact PU ⟨g,Ge h4 k⟩
    .have k:¬q=0:=⇑k;exact xY P g h4 o hi ⋯ (PW l u) D (by clear l;lia) v
  .have e:=Va l (Nat.sub_eq_zero_iff_le.mp (Nat.eq_zero_of_not_pos n));subst e;exact xY P g h' o hi ⋯ ⋯ (by rw[Qh];lia) (by rw[Qh];lia) v
def Gi(O:c8 M A E s κ S lt)(l:kindOf st0=κ)(P:mE S lt a b)(g:aN st0 st)(h:ey lt a b r i j)(w:0<i)(hi:i<=a.size)(m:1<j)(n:j<=b.size)(z:r.size+i+j=a.size+b.size)(v:N<=r.size+2):
  Yz M A E s (aJ a b r i j ak ca cZ) (f9 lt a b N st0) st:=by
 unfold aJ;refine PL (RM ?_);have g:=g.set ak;refine PL (dK ⋯ ?_);refine PL (tc O (g.1.trans l) P.cQ (P.cw _ ⋯) ⋯ ⋯ (λx y d k l1 l2 l3=>P.iJ x y d k (PN _) l2 ⋯) λq o t u=>?_);have h4:ey lt a b (r++(a.extract q i).reverse) q j:=cu.sX h o λx d y k l1 l2 l3 =>
  O.cJ _ _ _ (P.cw _ d) (P.cw _ ⋯) (P.cQ _ k) (P.dZ x (j-1) d ⋯ (PN _) ⋯ ⋯) (O.fA _ _ (P.cw _ ⋯) (P.cQ _ k) (u y k ⋯ ⋯))
 have B:(r++(a.extract q i).reverse).size+q+j=a.size+b.size:=by
  have:=Um o;rw[Ru,Zf,Qu,QH hi];lia
 have p:∀x (d:x<a.size),x<q->le lt a[x] (b[j-1]'⋯):=λx d l1=>t x d (PN _) ⋯
 refine cf (λc=>?_) λc=>?_
 .refine cf (λf=>?_) λf=>?_
  .have f:q=0:=⇑f;exact PU ⟨g,pa h4 f⟩
  .have f:¬q=0:=⇑f;exact xX O l P g h4 ⋯ ⋯ m n B ⋯ p
 .have e:q=i:=⋯;subst e;exact xX O l P g h w hi m n z v p
end
@[reducible]def vD:Type:=Option (Array VN)×Nat×Nat×Array VN×Nat×Nat
@[reducible]def mH:Type:=Option (Array VN)×Nat×Nat×Array VN×Nat
section
variable{M:Zi}{A:Wc}{E:VE->VI->Prop}{s:VI}{κ:W9}{S:VN->Prop}{lt:VN->VN->Bool}{a b r:Array VN}{st0 st:V5}{i j ak ca cZ N:Nat}
def e9.less(h:e9 lt a b N r i j)(d:c<=N):e9 lt a b c r i j:=⟨h.1,h.2.1,h.2.2.1,h.2.2.2.1,h.2.2.2.2.1,h.2.2.2.2.2.1,PW d h.2.2.2.2.2.2⟩
def e9.no(h:e9 lt a b N r i j)(d:a.size+b.size<=N):False:=by
 obtain⟨_,aJ,h2,h3,h4,h5,c⟩:=h;lia
theorem ic.less(h:ic lt a b N t)(d:c<=N):ic lt a b c t:=by
 obtain⟨o,t⟩:=t;cases o with
 |some e=>exact h
 |none=>exact e9.less h d
def IC{Q:Array VN->V5->Prop}(O:c8 M A E s κ S lt)(a5:kindOf st=κ)(P:mE S lt a b)(az:0<a.size)(b1:0<b.size)(h0:∀x (B:x<b.size),le lt b[x] (a[a.size-1]'⋯))(V:∀n d,aN st d->dx lt a.toList b.toList n.toList->Q n d):
  Yz M A E s (tN a b) Q st:=by
 rw[IB];refine PL (UQ (Sz ⟨rfl,?_⟩));refine PL (dK ⋯ ?_);have a2:a.toList.take a.size=a.toList:=QK (by rw[VH];exact PE _);have a3:b.toList.take b.size=b.toList:=QK (by rw[VH];exact PE _);have m0:ey lt a b #[] a.size b.size:=by
  refine⟨?_,?_,?_⟩
  .rw[a2,a3];simp
  .rw[a2];simpa using n5 P.iJ
  .rw[a3];simpa using n5 P.dZ
 have X:ey lt a b #[a[a.size-1]'⋯] (a.size-1) b.size:=cu.lY m0 az (PE _) λx B _=>h0 x B
 refine cf (λc=>?_) λc=>?_
 .have c:a.size-1=0:=⇑c;exact PU (V _ _ (.refl st) (pa X c))
 .have c:¬a.size-1=0:=⇑c;refine cf (λC=>?_) λC=>?_
  .have C:b.size=1:=⇑C;exact PU (V _ _ (.refl st) (pb P X C))
  .have C:¬b.size=1:=⇑C;refine PL (T9 ?_);refine PL (Rw (Q1 (I:=λx (c:mH) d=>aN st d/\c.1=Y/\e9 lt a b (x+1) c.2.2.2.1 c.2.1 c.2.2.1) (Q:=λ(c:mH) d=>aN st d/\∃n,c.1=Z n/\dx lt a.toList b.toList n.toList)
    ?step ?fin ⟨.refl st,rfl,X,by show 0<a.size-1;lia,by show a.size-1<=a.size;lia,by show 1<b.size;lia,PE _,by show 1+(a.size-1)+b.size=a.size+b.size;lia,PE _⟩) ?post)
   case fin =>
    rintro⟨o,i,j,r,ak⟩ d ⟨g,_,D⟩;exact(D.no (by rw[Qz (PN _)];lia)).elim
   case post =>
    rintro⟨o,i,j,r,ak⟩ d ⟨g,n,rfl,m⟩;exact PU (V n d g m)
   case step =>
    refine λx=>AY λo i j r ak bc _ B h=>?_
    have ay:=h.1;have a1:=h.2.2;dsimp only at a1;refine PL (Rw (Q1 (I:=λy (c:vD) d=>aN st d/\c.1=Y/\e9 lt a b (x+1+y) c.2.2.2.1 c.2.1 c.2.2.1)
     (Q:=λ(c:vD) d=>aN st d/\ic lt a b (x+2) (c.1,c.2.1,c.2.2.1,c.2.2.2.1,0,0,0)) ?step2 ?fin2 ⟨ay,rfl,a1⟩) ?post2)
    case fin2 =>
     rintro⟨o,i,j,r,ca,cZ⟩ d ⟨g,_,D⟩;exact(D.no (by rw[Qz (PN _)];lia)).elim
    case step2 =>
     refine λy=>qr λo i j r ca cZ aA _ b2 h=>?_
     have u:=h.1;have q:=h.2.2;dsimp only at q;have m2:=q.1;have H:=q.2.1;have L:=q.2.2.1;have U:=q.2.2.2.1;have R:=q.2.2.2.2.1;have a0:=q.2.2.2.2.2.1;have av:=q.2.2.2.2.2.2;have v:i-1<a.size:=⋯;have w:j-1<b.size:=⋯;refine PL (dK w (PL (dK v ?_)));refine PL (O.ask _ _ _ _ (P.cw _ w) (P.cQ _ v) (u.1.trans a5) ?_);cases e:lt (b[j-1]'w) (a[i-1]'v) with
     |true =>
      refine cf (λ_=>?_) λh=>absurd rfl h
      refine PL (dK v ?_);have m3:=cu.lY m2 H L λx B l1=>O.cJ _ _ _ (P.cw _ B) (P.cw _ w) (P.cQ _ v) (P.dZ x (j-1) B w (PN _) ⋯ ⋯) (O.fA _ _ (P.cw _ w) (P.cQ _ v) e)
      refine cf (λk=>?_) λk=>?_
      .have k:i-1=0:=⇑k;exact PU ⟨u,pa m3 k⟩
      .have k:¬i-1=0:=⇑k;have G:e9 lt a b (x+1+(y+1)) (r.push (a[i-1]'v)) (i-1) j:=⟨m3,⋯,⋯,U,R,by rw[Qh];lia,by rw[Qh];lia⟩;refine cf (λ_=>?_) λ_=>?_
       .exact PU ⟨u,e9.less G ⋯⟩
       .exact PU ⟨u,rfl,G⟩
     |false =>
      refine cf (λh=>nomatch h) λ_=>?_
      refine PL (dK w ?_);have m3:=cu.lZ m2 ⋯ R λx B l1=>O.cJ _ _ _ (P.cQ _ B) (P.cQ _ v) (P.cw _ w) (P.iJ x (i-1) B v (PN _) ⋯ ⋯) e
      refine cf (λk=>?_) λk=>?_
      .have k:j-1=1:=⇑k;exact PU ⟨u,pb P m3 k⟩
      .have k:¬j-1=1:=⇑k;have G:e9 lt a b (x+1+(y+1)) (r.push (b[j-1]'w)) i (j-1):=⟨m3,H,L,⋯,⋯,by rw[Qh];lia,by rw[Qh];lia⟩;refine cf (λ_=>?_) λ_=>?_
       .exact PU ⟨u,e9.less G ⋯⟩
       .exact PU ⟨u,rfl,G⟩
    case post2 =>
     refine qr λo i j r ca cZ aA h=>?_
     have u:=h.1;have p:=h.2;cases o with
     |some n=>exact PU ⟨u,n,rfl,p⟩
     |none =>
      have q:e9 lt a b (x+2) r i j:=p;refine PL (UQ (Sz ⟨rfl,?_⟩));refine PL (Rw (Q1 (I:=λz (c:jU) d=>aN st d/\c.1=Y/\e9 lt a b (x+2+z) c.2.2.2.1 c.2.1 c.2.2.1) (Q:=λ(c:jU) d=>aN st d/\ic lt a b (x+2) c)
       ?step3 ?fin3 ⟨u,rfl,q⟩) ?post3)
      case fin3 =>
       rintro⟨o,i,j,r,ak,ca,cZ⟩ d ⟨g,_,D⟩;exact(D.no (by rw[Qz (PN _)];lia)).elim
      case step3 =>
       refine λz=>AZ λo i j r ak ca cZ dM _ hz h=>?_
       have T:=h.1;have h:=h.2.2;have m3:=h.1;have H:=h.2.1;have L:=h.2.2.1;have U:=h.2.2.2.1;have R:=h.2.2.2.2.1;have a0:=h.2.2.2.2.2.1;have av:=h.2.2.2.2.2.2;dsimp only at m3 H L U R a0 av;have a4:∀au,Yz M A E s (aJ a b r i j au ca cZ) (f9 lt a b (x+2+(z+1)) st) dM:=λau=>Gi O a5 P T m3 H L U R a0 ⋯
       refine cf (λ_=>?_) λ_=>?_
       .refine Rw (a4 (ak-1)) λf d l=>?_
        cases f with
        |done t=>exact⟨l.1,ic.less l.2 ⋯⟩
        |yield t =>
         obtain⟨o,t⟩:=t;obtain⟨g',rfl,l⟩:=l;exact⟨g',rfl,l⟩
       .refine Rw (a4 ak) λf d l=>?_
        cases f with
        |done t=>exact⟨l.1,ic.less l.2 ⋯⟩
        |yield t =>
         obtain⟨o,t⟩:=t;obtain⟨g',rfl,l⟩:=l;exact⟨g',rfl,l⟩
      case post3 =>
       rintro⟨o,i,j,r,ak,ca,cZ⟩ dM ⟨T,p⟩;cases o with
       |some n=>exact PU ⟨T,n,rfl,p⟩
       |none=>exact PL (RM (PU ⟨T.set _,rfl,p⟩))
end
def Io(i:Nat):mergeAt' i=(do
 let s <- get
 let (Z (u,n,c),Z (v,m,_)):=((Wn s)[i]?,(Wn s)[i+1]?)|unsupported "internal:list.sort.pending"
 set (setPending s (((Wn s).setIfInBounds i (u,n+m,c)).eraseIdxIfInBounds (i+1)))
 let Z k <- fT VC (<- WV (VL s) v) (VL s) u n 0|return VC
 let (u,n):=(u+k,n-k)
 if n==0 then return J
 let Z m <- fT J (<- WV (VL s) (u+n-1)) (VL s) v m (m-1)|return VC
 if m==0 then return J
 let x:=(VL s).extract u v
 let y:=(VL s).extract v (v+m)
 let b <- if n<=m then tQ x y else tN x y
 modify λs=>setArr s (b.toList.zipIdx.foldl (λa (p,j)=>a.setIfInBounds (u+j) p) (VL s))
 return (WA (<- get)).isNone):=rfl
theorem xH:∀(m:List VN)(b:Array VN)(k o:Nat),k+o+m.length<=b.size->((m.zipIdx o).foldl (λa (p:VN×Nat)=>a.setIfInBounds (k+p.2) p.1) b).toList=b.toList.take (k+o)++m++b.toList.drop (k+o+m.length)
 |[],b,k,o,h=>by simp
 |x::m,b,k,o,h=>by
  rw[UR,Wx];rw[VS]at h;rw[xH m _ k (o+1) (by rw[XT];lia)];rw[Un];dsimp only;have c:k+o<b.toList.length:=(by rw[VH];lia);rw[show k+(o+1)=k+o+1 by lia,List.take_set,List.drop_set_of_lt ⋯,VS];have e:(b.toList.take (k+o+1)).set (k+o) x=b.toList.take (k+o)++[x]:=by
   rw[List.take_succ_eq_append_getElem c];rw[TA _ _ (by rw[Qt];lia)];congr 1;rw[Qt,QH ⋯,U3];rfl
  rw[e,show k+o+1+m.length=k+o+(m.length+1) by lia];simp only[PR,X0,W4]
def FZ(m)(b:Array VN)(k)(h:k+m.length<=b.size):(m.zipIdx.foldl (λa (p:VN×Nat)=>a.setIfInBounds (k+p.2) p.1) b).toList=b.toList.take k++m++b.toList.drop (k+m.length):=xH m b k 0 h
section
def hT{a:Array VN}(h:x<(a.extract p q).size):∃(h':p+x<a.size),(a.extract p q)[x]=a[p+x]:=by
 rw[Qu]at h;exact⟨PH (SM h) (RU ..),Array.getElem_extract ..⟩
def c8.dX(O:c8 M A E s κ S lt)(h:S x):lt x x=false:=by
 cases e:lt x x with
 |false=>rfl
 |true=>exact(O.fA x x h h e▸e).symm▸rfl
def get3{α:Type}(A R a:List α)(x):(A++R++a)[x]?=if x<A.length then A[x]? else if x<A.length+R.length then R[x-A.length]? else a[x-(A.length+R.length)]?:=by
 rw[YJ,PI,YJ]
 by_cases aJ:x<A.length
 .rw[if_pos ⋯,if_pos aJ,if_pos aJ]
 .rw[if_neg aJ,if_neg aJ]
def JV{α:Type}(p q)(x y:α):(p++x::y::q).toArray[p.length]?=Z x/\(p++x::y::q).toArray[p.length+1]?=Z y:=by
 constructor<;>simp[Qq]
def JW{α:Type}(p q)(x y z:α):((p++x::y::q).toArray.setIfInBounds p.length z).eraseIdxIfInBounds (p.length+1)=(p++z::q).toArray:=by
 apply TK.mp;rw[Array.toList_eraseIdxIfInBounds,Un];show((p++x::y::q).set p.length z).eraseIdx (p.length+1)=p++z::q;rw[TA _ _ (PE _),U3,List.eraseIdx_append_of_length_le (Qg _ _),QR];rfl
def Ip{st:V5}(O:c8 M A E s κ S lt)(ay:kindOf st=κ)(hg:WA st=Y)(f8:Wn st=(p++(u,n,b9)::(u+n,m,hl)::q).toArray)(eo:0<n)(kg:0<m)(hz:u+n+m<=(VL st).size)(o:∀x (f:x<(VL st).size),S (VL st)[x])(aJ:fx lt (VL st) u n)(h2:fx lt (VL st) (u+n) m)(bc:∀U,kindOf U=κ->WA U=Y->Wn U=(p++(u,n+m,b9)::q).toArray->(VL U).toList.Perm (VL st).toList->(∀k,(k<u\/u+n+m<=k)->(VL U)[k]?=(VL st)[k]?)->fx lt (VL U) u (n+m)->Q J U):Yz M A E s (mergeAt' p.length) Q st:=by
 rw[Io];refine PL (T9 ?_);simp only[f8,JV,JW];have kd:∀{Q:PUnit->V5->Prop}{x:V5},Q ⟨⟩ x->Yz M A E s (set x:StateT V5 ZN PUnit) Q st:=λ{Q x} h=>by
  unfold Yz;rw[StateT.run_set];exact VB ⟨rfl,h⟩
 refine PL (kd ?_);generalize e1:setPending st (p++(u,n+m,b9)::q).toArray=V;have k1:kindOf V=κ:=by rw[<- e1];exact ay
 have bp:WA V=none:=by rw[<- e1];exact hg
 have p1:Wn V=(p++(u,n+m,b9)::q).toArray:=by rw[<- e1]
 have a1:VL V=VL st:=by rw[<- e1]
 generalize VL st=c at hz o aJ h2 bc a1 ⊢;generalize a8:u+n=v at *;have B:v<c.size:=by lia
 refine PL (dK B ?_);refine PL (tc O k1 o (o _ B) ⋯ eo aJ λk ay dV f4=>?_);have all:(∀x (f:x<c.size),u<=x->x<v->le lt c[x] c[v])->fx lt c u (n+m):=λkb x y f r h0 L az=>by
  by_cases av:y<v
  .exact aJ x y f r h0 L ⋯
  .by_cases a3:x<v
   .exact O.cJ _ _ _ (o _ f) (o _ B) (o _ r) (kb x f h0 a3) (h2 v y B r (PE _) ⋯ ⋯)
   .exact h2 x y f r ⋯ L ⋯
 refine cf (λR=>?_) λR=>?_
 .have R:n-k=0:=⇑R;refine PU (bc V k1 bp p1 (by rw[a1]) (λ_ _=>by rw[a1]) (by rw[a1];exact all λx f l0 l=>dV x f l0 ⋯))
 .have R:¬n-k=0:=⇑R;have az:u+k+(n-k)-1=v-1:=(by rw[RD,QJ ay,a8]);have jk:0<v:=PH eo (a8▸Ta ..);have fD:v-1<u+n:=(by rw[a8];exact Vw jk ∅);rw[az];have T:v-1<c.size:=Qo (Sr ..) B;refine PL (dK T ?_);refine PL (td O k1 o (o _ T) ⋯ ⋯ h2 λcI hh H d2=>?_);refine cf (λa0=>?_) λa0=>?_
  .have a0:cI=0:=⇑a0;have hw:=all λx f l0 l=>O.cJ _ _ _ (o _ f) (o _ T) (o _ B) (aJ x (v-1) f T l0 (Qy l) fD) (d2 v B (by rw[a0];exact PE v) ⋯)
   exact PU (bc V k1 bp p1 (by rw[a1]) (λ_ _=>by rw[a1]) (by rw[a1];exact hw))
  .have a0:¬cI=0:=⇑a0;generalize ea:u+k=b at *;have b1:u<=b:=⋯;have b2:b<v:=(by rw[<- ea,<- a8];exact Ry (Nat.lt_of_sub_ne_zero R) u);obtain⟨d,bz⟩:=UO b2;have au:b+(d+1+cI)=v+cI:=(by rw[bz];simp only[RD]);have gg:v+cI<=v+m:=RQ hh v;clear az R ea ay;have I:(c.extract b v).size=d+1:=(by rw[Qu,QH (Qs B),bz,RD,QR]);have X:(c.extract v (v+cI)).size=cI:=(by rw[Qu,QH (PW gg hz),QR]);have cp:∀x (f:x<(c.extract b v).size),S (c.extract b v)[x]:=λx f=>by obtain⟨h',e⟩:=hT f;rw[e];exact o _ h'
   have cB:∀x (f:x<(c.extract v (v+cI)).size),S (c.extract v (v+cI))[x]:=λx f=>by obtain⟨h',e⟩:=hT f;rw[e];exact o _ h'
   have cN:fx lt (c.extract b v) 0 (c.extract b v).size:=λx y f r _ L _=>by
    obtain⟨G,e1⟩:=hT f;obtain⟨cz,e2⟩:=hT r;rw[e1,e2];exact aJ _ _ G cz ⋯ ⋯ (by rw[I]at r;lia)
   have cO:fx lt (c.extract v (v+cI)) 0 (c.extract v (v+cI)).size:=λx y f r _ L _=>by
    obtain⟨G,e1⟩:=hT f;obtain⟨cz,e2⟩:=hT r;rw[e1,e2];exact h2 _ _ G cz ⋯ ⋯ (by rw[X]at r;lia)
   have c2:∀y (r:y<(c.extract v (v+cI)).size),le lt (c.extract v (v+cI))[y] c[v-1]:=λy r=>by
    obtain⟨G,e1⟩:=hT r;rw[e1];exact O.fA _ _ (o _ G) (o _ T) (H _ G ⋯ (by rw[X]at r;lia))
   have e4:∀z,(c.extract b v).toList[(c.extract b v).toList.length-1]?=Z z->z=c[v-1]:=λz hz=>by
    rw[VH,I,RW,P2,PK (by rw[I];exact Rg d)]at hz;obtain⟨G,e1⟩:=hT (a:=c) (p:=b) (q:=v) (x:=d) (by rw[I];exact Rg d);rw[e1]at hz;cases hz;congr 1;rw[bz];rfl
   have dD:∀x (f:x<(c.extract b v).size),le lt c[v] (c.extract b v)[x]:=λx f=>by
    obtain⟨G,e1⟩:=hT f;rw[e1];exact O.fA _ _ (o _ B) (o _ G) (f4 _ G ⋯ (by rw[I]at f;lia))
   have fj:(c.extract v (v+cI))[0]'(by rw[X];lia)=c[v]:=by
    obtain⟨G,e1⟩:=hT (a:=c) (p:=v) (q:=v+cI) (x:=0) (by rw[X];lia);rw[e1];rfl
   have fin:∀(w:Array VN)(hA:V5),aN V hA->dx lt (c.extract b v).toList (c.extract v (v+cI)).toList w.toList->Yz M A E s (do
     modify λs=>setArr s (w.toList.zipIdx.foldl (λa (p,j)=>a.setIfInBounds (b+j) p) (VL s))
     return (WA (<- get)).isNone) Q hA:=λw hA g a9=>by
    refine PL (RM (PL (T9 (PU ?_))));have dr:WA hA=none:=g.2.2.2.trans bp;have f0:VL hA=c:=g.2.1.trans a1;have aA:w.toList.length=d+1+cI:=(by rw[a9.1.length_eq,PI,VH,VH,I,X]);have a4:(w.toList.zipIdx.foldl (λa (p:VN×Nat)=>a.setIfInBounds (b+p.2) p.1) (VL hA)).toList=c.toList.take b++w.toList++c.toList.drop (v+cI):=by
     rw[f0,FZ _ _ _ (by rw[aA,au];exact PW gg hz),aA,au]
    have e0:c.toList=c.toList.take b++((c.extract b v).toList++(c.extract v (v+cI)).toList)++c.toList.drop (v+cI):=by
     rw[ka,ka];have ji:c.toList.take v=c.toList.take b++(c.toList.take v).drop b:=qB _ (Qs b2);have jj:c.toList.take (v+cI)=c.toList.take v++(c.toList.take (v+cI)).drop v:=qB _ (Qg ..);rw[<- PR,<- ji,<- jj,QN]
    show Q (WA hA).isNone _;rw[dr];have e3:(c.toList.take b).length=b:=(by rw[Qt,VH];exact QH (Qs (QZ b2 B)));refine bc _ (g.1.trans k1) dr (g.2.2.1.trans p1) ?_ ?_ ?_
    .show(w.toList.zipIdx.foldl (λa (p:VN×Nat)=>a.setIfInBounds (b+p.2) p.1) (VL hA)).toList.Perm _;rw[a4]
     conv=>rhs;rw[e0]
     exact SA _ (R0 _ a9.1)
    .intro x f;show(w.toList.zipIdx.foldl (λa (p:VN×Nat)=>a.setIfInBounds (b+p.2) p.1) (VL hA))[x]?=_;rw[<- P2,<- P2,a4,get3,e3,aA,au]
     by_cases bg:x<b
     .rw[if_pos bg,Zg,if_pos bg]
     .have dJ:v+cI<=x:=⋯;rw[if_neg bg,if_neg (Sh.mpr dJ),Uo,QJ dJ]
    .show fx lt (w.toList.zipIdx.foldl (λa (p:VN×Nat)=>a.setIfInBounds (b+p.2) p.1) (VL hA)) u (n+m);generalize w.toList.zipIdx.foldl (λa (p:VN×Nat)=>a.setIfInBounds (b+p.2) p.1) (VL hA)=a2 at a4;have c0:∀x∈w.toList,∃i,∃(hi:i<c.size),b<=i/\i<v+cI/\x=c[i]:=λx f=>by
      rcases PS.mp (a9.1.mem_iff.mp f) with f|f
      .rw[ka]at f;obtain⟨i,hi,l1,l2,rfl⟩:=pR f;rw[VH]at hi;exact⟨i,hi,l1,PH l2 (Qg ..),rfl⟩
      .rw[ka]at f;obtain⟨i,hi,l1,l2,rfl⟩:=pR f;rw[VH]at hi;exact⟨i,hi,PW (Qs b2) l1,l2,rfl⟩
     have iA:∀i j (hi:i<c.size) (t:j<c.size),u<=i->i<b->b<=j->j<v+m->le lt c[i] c[j]:=λi j hi t l0 l1 l2 l3=>by
      by_cases kf:j<v
      .exact aJ i j hi t l0 ⋯ ⋯
      .exact O.cJ _ _ _ (o _ hi) (o _ B) (o _ t) (dV i hi l0 ⋯) (h2 v j B t (PE _) ⋯ ⋯)
     have e5:∀i j (hi:i<c.size) (t:j<c.size),u<=i->i<v+cI->v+cI<=j->j<v+m->le lt c[i] c[j]:=λi j hi t l0 l1 l2 l3=>by
      by_cases f2:i<v
      .exact O.cJ _ _ _ (o _ hi) (o _ T) (o _ t) (aJ i (v-1) hi T l0 (Qy f2) fD) (d2 j t l2 l3)
      .exact h2 i j hi t ⋯ ⋯ ⋯
     have cP:∀x (f:x<a2.size),c.toList.take b++w.toList++c.toList.drop (v+cI)=a2.toList->(x<b->∃(h:x<c.size),a2[x]=c[x])/\(v+cI<=x->∃(h:x<c.size),a2[x]=c[x])/\(b<=x->x<v+cI->∃(h:x-b<w.toList.length),a2[x]=w.toList[x-b]):=λx f jh=>by
      have H:=get3 (c.toList.take b) w.toList (c.toList.drop (v+cI)) x;rw[jh,e3,aA,au,P2,PK f]at H;refine⟨λl=>?_,λl=>?_,λl hj=>?_⟩
      .rw[if_pos l,Zg,if_pos l,P2,PK (QZ l (QZ b2 B))]at H;exact⟨_,Ql H⟩
      .rw[if_neg ⋯,if_neg (Sh.mpr l),Uo,QJ l,P2]at H;obtain⟨h,e⟩:=P9.mp H.symm;exact⟨h,e.symm⟩
      .rw[if_neg (Sh.mpr l),if_pos hj]at H;obtain⟨h,e⟩:=P5.mp H.symm;exact⟨h,e.symm⟩
     intro x y f r h0 L az;obtain⟨ke,h4,h5⟩:=cP x f a4.symm;obtain⟨jl,cA,gh⟩:=cP y r a4.symm
     by_cases av:x<b
     .obtain⟨N,a5⟩:=ke av;rw[a5]
      by_cases a3:y<b
      .obtain⟨C,D⟩:=jl a3;rw[D];exact aJ x y N C h0 L ⋯
      .by_cases bf:y<v+cI
       .obtain⟨C,D⟩:=gh ⋯ bf;rw[D];obtain⟨j,t,l1,l2,e⟩:=c0 _ (So C);rw[e];exact iA x j N t h0 av l1 ⋯
       .obtain⟨C,D⟩:=cA ⋯;rw[D];exact e5 x y N C h0 ⋯ ⋯ ⋯
     .by_cases bf:x<v+cI
      .obtain⟨N,a5⟩:=h5 ⋯ bf;rw[a5]
       by_cases a3:y<v+cI
       .obtain⟨C,D⟩:=gh ⋯ a3;rw[D]
        by_cases dC:x=y
        .subst dC;obtain⟨j,t,l1,l2,e⟩:=c0 _ (So C);rw[e];exact O.dX (o _ t)
        .exact R1.mp a9.2 _ _ N C (SS (Sh.mp av) (Rd L dC))
       .obtain⟨C,D⟩:=cA ⋯;rw[D];obtain⟨j,t,l1,l2,e⟩:=c0 _ (So N);rw[e];exact e5 j y t C ⋯ l2 ⋯ ⋯
      .obtain⟨N,a5⟩:=h4 ⋯;obtain⟨C,D⟩:=cA ⋯;rw[a5,D];exact h2 x y N C ⋯ L ⋯
   refine cf (λ_=>?_) λ_=>?_
   .refine PL (IL O k1 ⟨cp,cB,cN,cO,λy r z hz=>?_⟩ (by rw[I];lia) (by rw[X];lia) (λx f=>by rw[fj];exact dD x f) fin);rw[e4 z hz];obtain⟨i,hi,rfl⟩:=Ro.mp r;rw[VH]at hi;exact c2 i hi
   .refine PL (IC O k1 ⟨cp,cB,cN,cO,λz hz y r=>?_⟩ (by rw[I];lia) (by rw[X];lia) (λx f=>?_) fin)
    .obtain⟨i,hi,l1,rfl⟩:=nG hz;obtain rfl:i=0:=⋯;obtain⟨j,t,rfl⟩:=Ro.mp r;rw[VH]at t;have:=dD j t;rw[<- fj]at this;exact this
    .have:=c2 x f;have e:=e4 ((c.extract b v)[(c.extract b v).size-1]'(by rw[I];lia)) (by rw[VH,P2];exact PK _);rw[e];exact this
end
def eK{i j x:Nat}(h:i<=x)(h':x<j):i<=i+j-1-x/\i+j-1-x<j:=by lia
def ID{i j x y:Nat}(h:x<=y):i+j-1-y<=i+j-1-x:=T5 h _
def p8{l n:Nat}(h:0<n):l+n-1<l+n:=Vw (PH h (Ta ..)) ∅
noncomputable abbrev at_(c:Array VN)(x:Nat):Keyed:=c.getD x (Value.none,Value.none)
def jZ(h:x<c.size):at_ c x=c[x]:=by
 show c.getD x _=_;unfold WJ;rw[UC h];rfl
def j0(h:c[x]?=d[y]?):at_ c x=at_ d y:=by
 show c.getD x _=d.getD y _;rw[Rb,Rb,h]
def g6(d:j<=c.size)(k):at_ (Xy c i j ((j-i) / 2)) k=if i<=k/\k<j then at_ c (i+j-1-k) else at_ c k:=by
 have h:=getElem?_mirror (i:=i) d ((j-i) / 2) ⋯ k
 by_cases a:(i<=k/\k<i+(j-i) / 2)\/(j-(j-i) / 2<=k/\k<j)
 .rw[if_pos a]at h;rw[if_pos ⋯];exact j0 h
 .rw[if_neg a]at h
  by_cases b:i<=k/\k<j
  .rw[if_pos b];have:i+j-1-k=k:=⋯;rw[this];exact j0 h
  .rw[if_neg b];exact j0 h
def rq(f:k<c.size)(e:d<=k)(x):at_ (bubble c k d) x=if x=k-d then at_ c k else if k-d<x/\x<=k then at_ c (x-1) else at_ c x:=by
 have h:=getElem?_bubble f d e x
 by_cases a:x=k-d
 .rw[if_pos a]at h ⊢;exact j0 h
 .rw[if_neg a]at h ⊢
  by_cases b:k-d<x/\x<=k
  .rw[if_pos b]at h ⊢;exact j0 h
  .rw[if_neg b]at h ⊢;exact j0 h
def dm(lt:VN->VN->Bool)(c:Array VN)(l n:Nat):Prop:=∀x y,l<=x->x<=y->y<l+n->le lt (at_ c x) (at_ c y)
def Dec(lt:VN->VN->Bool)(c:Array VN)(l n:Nat):Prop:=∀x y,l<=x->x<=y->y<l+n->le lt (at_ c y) (at_ c x)
structure b6(c d:Array VN)(l h:Nat):Prop where
 size:d.size=c.size
 perm:d.toList.Perm c.toList
 out:∀k,(k<l\/h<=k)->at_ d k=at_ c k
theorem b6.refl(c)(l h):b6 c c l h:=⟨rfl,.refl _,λ_ _=>rfl⟩
theorem b6.trans(x:b6 c d l h)(y:b6 d e l h):b6 c e l h:=⟨y.size.trans x.size,y.perm.trans x.perm,λk q=>(y.out k q).trans (x.out k q)⟩
def b6.mono(x:b6 c d l h)(a:e<=l)(b:h<=h'):b6 c d e h':=⟨x.size,x.perm,λk q=>x.out k ⋯⟩
def b6.rev(a:j<=c.size):b6 c (Xy c i j ((j-i) / 2)) i j :=
 ⟨mirror_size ..,Up.mp (mirror_perm ..),λk q=>by rw[g6 a,if_neg ⋯]⟩
def b6.C5(b:k<c.size)(a:d<=k):b6 c (bubble c k d) (k-d) (k+1) :=
 ⟨bubble_size ..,Up.mp (bubble_perm ..),λx q=>by rw[rq b a,if_neg ⋯,if_neg ⋯]⟩
section
variable{M:Zi}{A:Wc}{E:VE->VI->Prop}{s:VI}{κ:W9}{S:VN->Prop}{lt:VN->VN->Bool}{st ME:V5}{c d:Array VN}{l h n:Nat}
@[reducible]def dR(S:VN->Prop)(c:Array VN):Prop:=∀x∈c.toList,S x
theorem dR.at_(h:dR S c){x:Nat}(a:x<c.size):S (at_ c x):=by rw[jZ a];exact h _ (by simp)
def dR.perm(h:dR S c)(p:d.toList.Perm c.toList):dR S d:=λx a=>h x (p.mem_iff.mp a)
def mL(O:c8 M A E s κ S lt)(e:kindOf st=κ)(a:dR S (VL st))(hi:i<(VL st).size)(b:j<(VL st).size)(q:Q (Z (lt (at_ (VL st) i) (at_ (VL st) j))) st):Yz M A E s (ltAt' i j) Q st:=by
 rw[ltAt'_eq];refine PL (T9 ?_);show Yz _ _ _ _ (do let x <- WV (VL st) i;let y <- WV (VL st) j;lt' x y) Q st;refine PL (dK hi (PL (dK b ?_)));rw[jZ hi,jZ b]at q;exact O.ask _ _ _ _ (a _ (by simp)) (a _ (by simp)) e q
def dm.snoc(O:c8 M A E s κ S lt)(a:dR S c)(b:l+n<c.size)(h0:0<n)(h:dm lt c l n)(q:le lt (at_ c (l+n-1)) (at_ c (l+n))):dm lt c l (n+1):=by
 intro x y aJ h2 h3
 by_cases e:y=l+n
 .subst e
  by_cases e2:x=l+n
  .subst e2;exact O.dX (a.at_ b)
  .have w:=p8 (l:=l) h0;have f:=Qy (Rd h2 e2);have g:=QZ w b;have i:=Qo h2 b;exact O.cJ _ _ _ (a.at_ ⋯) (a.at_ ⋯) (a.at_ b) (h x (l+n-1) aJ ⋯ ⋯) q
 .exact h x y aJ h2 ⋯
def Dec.snoc(O:c8 M A E s κ S lt)(a:dR S c)(b:l+n<c.size)(h0:0<n)(h:Dec lt c l n)(q:le lt (at_ c (l+n)) (at_ c (l+n-1))):Dec lt c l (n+1):=by
 intro x y aJ h2 h3
 by_cases e:y=l+n
 .subst e
  by_cases e2:x=l+n
  .subst e2;exact O.dX (a.at_ b)
  .have w:=p8 (l:=l) h0;have f:=Qy (Rd h2 e2);have g:=QZ w b;have i:=Qo h2 b;exact O.cJ _ _ _ (a.at_ b) (a.at_ ⋯) (a.at_ ⋯) q (h x (l+n-1) aJ ⋯ ⋯)
 .exact h x y aJ h2 ⋯
def dm.one(O:c8 M A E s κ S lt)(a:dR S c)(b:l<c.size):dm lt c l 1:=λx y aJ h2 h3=>by
 obtain rfl:x=l:=by lia
 obtain rfl:y=x:=by lia
 exact O.dX (a.at_ b)
def Dec.rev(h:Dec lt c l n)(a:l+n<=c.size):dm lt (Xy c l (l+n) ((l+n-l) / 2)) l n:=by
 intro x y aJ h2 h3;have k1:=Qo h2 h3;have k2:=PW aJ h2;rw[g6 a,g6 a,if_pos ⟨aJ,k1⟩,if_pos ⟨k2,h3⟩];exact h _ _ (eK k2 h3).1 (ID h2) (eK aJ k1).2
def dm.Jg(h:dm lt c l n)(p:b6 c d a b)(q:l+n<=a\/b<=l):dm lt d l n:=λx y aJ h2 h3=>by
 rw[p.out x ⋯,p.out y ⋯];exact h x y aJ h2 h3
def dm.br(h:dm lt c l n):fx lt c l n:=λx y a b aJ h2 h3=>by
 have:=h x y aJ h2 h3;rw[jZ a,jZ b]at this;exact this
end
abbrev iS(l z a:Nat):StateT V5 ZN (Option Nat):=do
 XX l (l+a)
 let mut n:=a
 for _ in [n:z] do
  let Z q <- ltAt' (l+n) (l+n-1)|return Y
  if q then break
  n:=n+1
 return Z n
def je(l z a:Nat):StateT V5 ZN (Option Nat):=do
 Zk "list.sort.descending-run"
 let mut n:=a+1
 let mut e:=0
 for _ in [n:z] do
  let Z q <- ltAt' (l+n) (l+n-1)|return Y
  if q then
   if e>0 then XX (l+n-(e+1)) (l+n)
   e:=0
  else
   let Z g <- ltAt' (l+n-1) (l+n)|return Y
   if g then break
   e:=e+1
  n:=n+1
 if e>0 then XX (l+n-(e+1)) (l+n)
 iS l z n
def D2(l z:Nat):countRun' l z=(do
 let mut n:=1
 for _ in [1:z] do
  let Z q <- ltAt' (l+n) (l+n-1)|return Y
  if q then break
  n:=n+1
 if n==z then return Z n
 if n>1 then
  let Z g <- ltAt' l (l+n-1)|return Y
  if g then return Z n
  XX l (l+n)
 je l z n):=by
 rw[countRun'_eq];unfold je iS;rfl
def hJ(st a:V5):Prop:=kindOf a=kindOf st/\Wn a=Wn st/\WA a=WA st
section
variable{M:Zi}{A:Wc}{E:VE->VI->Prop}{s:VI}{κ:W9}{S:VN->Prop}{lt:VN->VN->Bool}{st st0:V5}{l z n hq:Nat}
def oE(lt:VN->VN->Bool)(l z:Nat)(st0:V5)(o:Option Nat)(a:V5):Prop:=∃m,o=Z m/\1<=m/\m<=z/\hJ st0 a/\b6 (VL st0) (VL a) l (l+z)/\dm lt (VL a) l m
def vX(O:c8 M A E s κ S lt)(i:kindOf st=κ)(d:dR S (VL st))(hz:l+z<=(VL st).size)(aJ:1<=hq)(b:hq<=z)(h:dm lt (VL st) l hq){Q:Option (Option Nat)×Nat->V5->Prop}(f:∀n,hq<=n->n<=z->dm lt (VL st) l n->(n=z\/lt (at_ (VL st) (l+n)) (at_ (VL st) (l+n-1))=J)->Q (Y,n) st):Yz M A E s (forIn [hq:z] ((Y:Option (Option Nat)),hq) λx __s=>do
   let __x <- ltAt' (l+__s.snd) (l+__s.snd-1)
   match __x with
    |some q=>if q=J then pure (ForInStep.done (Y,__s.snd)) else pure (WQ (Y,__s.snd+1))
    |x=>pure (ForInStep.done (Z Y,__s.snd))) Q st:=by
 refine Q1 (I:=λx (c:Option (Option Nat)×Nat) a=>a=st/\c.1=Y/\c.2=x/\hq<=x/\x<=z/\dm lt (VL st) l x) ?step ?fin ⟨rfl,rfl,rfl,PE _,b,h⟩
 case fin =>
  rintro⟨o,n⟩ a ⟨rfl,rfl,rfl,k1,k2,k3⟩;rw[Qz b]at k3 ⊢;exact f z b (PE _) k3 (.inl rfl)
 case step =>
  rintro x ⟨o,n⟩ a _ j ⟨rfl,rfl,e,k1,k2,k3⟩;dsimp only at e ⊢;subst e;have g:l+n<(VL a).size:=⋯;refine PL (mL O i d g (Qo (Sr ..) g) ?_);cases e:lt (at_ (VL a) (l+n)) (at_ (VL a) (l+n-1)) with
  |true=>dsimp only;rw[if_pos rfl];exact PU (f n k1 k2 k3 (.inr e))
  |false=>dsimp only;rw[if_neg (by simp)];exact PU ⟨rfl,rfl,rfl,⋯,⋯,k3.snoc O d ⋯ ⋯ e⟩
def Bo(O:c8 M A E s κ S lt)(c:kindOf st0=κ)(hS0:dR S (VL st0))(e:hJ st0 st)(a:b6 (VL st0) (VL st) l (l+z))(hz:l+z<=(VL st0).size)(aJ:1<=n)(d:n<=z)(h:Dec lt (VL st) l n):Yz M A E s (iS l z n) (oE lt l z st0) st:=by
 unfold iS;rw[TL];refine PL (RM ?_);have g:l+z<=(VL st).size:=by rw[a.size];exact hz
 generalize e1:setArr st (Xy (VL st) l (l+n) ((l+n-l) / 2))=qt;have a1:VL qt=Xy (VL st) l (l+n) ((l+n-l) / 2):=by rw[<- e1]
 have b:hJ st0 qt:=by rw[<- e1];exact e
 have p1:b6 (VL st0) (VL qt) l (l+z):=by rw[a1];exact a.trans ((b6.rev ⋯).mono (PE _) ⋯)
 have f:dm lt (VL qt) l n:=by rw[a1];exact h.rev ⋯
 refine PL (vX O (b.1.trans c) (hS0.perm p1.perm) (by rw[p1.size];exact hz) aJ d f λm k1 k2 k3 _=>?_);exact PU ⟨m,rfl,⋯,k2,b,p1,k3⟩
def C0(O:c8 M A E s κ S lt)(g:dR S c)(d:l+n<=c.size)(i:e+1<=n)(h:Dec lt c l n)(f:∀x y,l+n-(e+1)<=x->x<l+n->l+n-(e+1)<=y->y<l+n->le lt (at_ c x) (at_ c y)):
  Dec lt (Xy c (l+n-(e+1)) (l+n) ((l+n-(l+n-(e+1))) / 2)) l n:=by
 intro x y aJ h2 h3;rw[g6 d,g6 d]
 by_cases a:l+n-(e+1)<=x
 .have k1:=Qo h2 h3;have k2:=PW a h2;rw[if_pos ⟨k2,h3⟩,if_pos ⟨a,k1⟩];exact f _ _ (eK k2 h3).1 (eK k2 h3).2 (eK a k1).1 (eK a k1).2
 .rw[if_neg (show ¬(l+n-(e+1)<=x/\x<l+n) from λz=>a z.1)]
  by_cases b:l+n-(e+1)<=y
  .rw[if_pos ⟨b,h3⟩];exact h _ _ aJ (PW (Qs (Nat.not_le.mp a)) (eK b h3).1) (eK b h3).2
  .rw[if_neg λz=>b z.1];exact h _ _ aJ h2 h3
structure iZ(lt:VN->VN->Bool)(S:VN->Prop)(l z:Nat)(st0 st:V5)(n e:Nat):Prop where
 ss:hJ st0 st
 dF:b6 (VL st0) (VL st) l (l+z)
 dec:Dec lt (VL st) l n
 len:e+1<=n
 pV:n<=z
 eq:∀x y,l+n-(e+1)<=x->x<l+n->l+n-(e+1)<=y->y<l+n->le lt (at_ (VL st) x) (at_ (VL st) y)
def iZ.turn(O:c8 M A E s κ S lt)(hS0:dR S (VL st0))(hz:l+z<=(VL st0).size)(h:iZ lt S l z st0 st n e):iZ lt S l z st0 (setArr st (Xy (VL st) (l+n-(e+1)) (l+n) ((l+n-(l+n-(e+1))) / 2))) n 0:=by
 have aJ:=h.len;have h2:=h.pV;have a:l+n<=(VL st).size:=by rw[h.dF.size];lia
 have w:l<=l+n-(e+1):=Vk (RQ aJ l);refine⟨h.ss,h.dF.trans ((b6.rev a).mono ⋯ ⋯),C0 O (hS0.perm h.dF.perm) a aJ h.dec h.eq,⋯,h.pV,λx y k1 k2 k3 d=>?_⟩;have b:=Va (Qy k2) k1;have c:=Va (Qy d) k3;subst b c;have dF:b6 (VL st0) (Xy (VL st) (l+n-(e+1)) (l+n) ((l+n-(l+n-(e+1))) / 2)) l (l+z):=h.dF.trans ((b6.rev a).mono ⋯ ⋯);exact O.dX ((hS0.perm dF.perm).at_ (by rw[dF.size];lia))
def w0(O:c8 M A E s κ S lt)(t:kindOf st0=κ)(hS0:dR S (VL st0))(V:hJ st0 st)(v:b6 (VL st0) (VL st) l (l+z))(hz:l+z<=(VL st0).size)(U:n<z)(h:Dec lt (VL st) l (n+1)):Yz M A E s (je l z n) (oE lt l z st0) st:=by
 unfold je;refine PL (UQ (Sz ⟨rfl,?_⟩));have T:iZ lt S l z st0 st (n+1) 0:=by
  refine⟨V,v,h,⋯,U,λx y k1 k2 k3 H=>?_⟩;have p:x=l+n:=⋯;have r:y=l+n:=⋯;subst p r;exact O.dX ((hS0.perm v.perm).at_ (by rw[v.size];lia))
 refine PL (Rw (Q1 (I:=λx (c:Option (Option Nat)×Nat×Nat) i=>c.1=Y/\c.2.1=x/\iZ lt S l z st0 i x c.2.2) (Q:=λ(c:Option (Option Nat)×Nat×Nat) i=>c.1=Y/\iZ lt S l z st0 i c.2.1 c.2.2) ?step ?fin ⟨rfl,rfl,T⟩) ?post)
 case fin =>
  rintro⟨o,b3,e⟩ i ⟨rfl,rfl,D⟩;exact⟨rfl,D⟩
 case post =>
  rintro⟨o,b3,e⟩ i ⟨rfl,D⟩;dsimp only at D ⊢;refine cf (λ_=>?_) λ_=>?_
  .rw[TL];have d:=D.turn O hS0 hz;exact PL (RM (Bo O t hS0 d.ss d.dF hz (by have:=d.len;lia) d.pV d.dec))
  .exact Bo O t hS0 D.ss D.dF hz (by have:=D.len;lia) D.pV D.dec
 case step =>
  rintro x ⟨o,b3,e⟩ b a1 a0 ⟨rfl,e1,D⟩;dsimp only at e1 D ⊢;subst e1;have aJ:=D.len;have a2:l+z<=(VL b).size:=(by rw[D.dF.size];exact hz);have a:=hS0.perm D.dF.perm;have G:=D.ss.1.trans t;have hq:0<b3:=PH (Nat.succ_pos e) aJ;have k:l+b3<(VL b).size:=⋯;have g:=p8 (l:=l) hq;have X:=QZ g k;have j:l+b3-(e+1)<=l+b3-1:=T5 (Ta ..) _;refine PL (mL O G a ⋯ ⋯ ?_);cases e2:lt (at_ (VL b) (l+b3)) (at_ (VL b) (l+b3-1)) with
  |true =>
   dsimp only;rw[if_pos rfl];have next:∀f,iZ lt S l z st0 f b3 0->le lt (at_ (VL f) (l+b3)) (at_ (VL f) (l+b3-1))->iZ lt S l z st0 f (b3+1) 0:=λf d q=>by
    have a3:l+z<=(VL f).size:=(by rw[d.dF.size];exact hz);have C:=hS0.perm d.dF.perm;have a5:l+b3<(VL f).size:=⋯;refine⟨d.ss,d.dF,d.dec.snoc O C ⋯ ⋯ q,⋯,⋯,λx y k1 k2 k3 H=>?_⟩;have p:x=l+b3:=⋯;have r:y=l+b3:=⋯;subst p r;exact O.dX (C.at_ ⋯)
   have L:=O.fA _ _ (a.at_ ⋯) (a.at_ ⋯) e2;refine cf (λc=>?_) λc=>?_
   .rw[TL];refine PL (RM (PU ⟨rfl,rfl,next _ (D.turn O hS0 hz) ?_⟩));show le lt (at_ (Xy (VL b) (l+b3-(e+1)) (l+b3) ((l+b3-(l+b3-(e+1))) / 2)) (l+b3)) (at_ (Xy (VL b) (l+b3-(e+1)) (l+b3) ((l+b3-(l+b3-(e+1))) / 2)) (l+b3-1));rw[g6 ⋯,g6 ⋯,if_neg ⋯,if_pos ⟨j,g⟩];exact O.cJ _ _ _ (a.at_ k) (a.at_ X) (a.at_ (QZ (eK j g).2 k)) L (D.eq _ _ j g (eK j g).1 (eK j g).2)
   .have e0:e=0:=⋯;subst e0;exact PU ⟨rfl,rfl,next b D L⟩
  |false =>
   dsimp only;rw[if_neg (by simp)];refine PL (mL O G a ⋯ ⋯ ?_);cases e3:lt (at_ (VL b) (l+b3-1)) (at_ (VL b) (l+b3)) with
   |true=>dsimp only;rw[if_pos rfl];exact PU ⟨rfl,D⟩
   |false =>
    dsimp only;rw[if_neg (by simp)];refine PU ⟨rfl,rfl,D.ss,D.dF,D.dec.snoc O a ⋯ ⋯ e3,by show e+1+1<=b3+1;lia,⋯,λx y k1 k2 k3 H=>?_⟩;have k1:l+b3-(e+1)<=x:=(by rw[<- Tz (l+b3) 1];exact k1);have k3:l+b3-(e+1)<=y:=(by rw[<- Tz (l+b3) 1];exact k3);have N:∀u,l+b3-(e+1)<=u->u<l+b3->le lt (at_ (VL b) u) (at_ (VL b) (l+b3))/\le lt (at_ (VL b) (l+b3)) (at_ (VL b) u):=λu R w =>
     have a4:=QZ w k;⟨O.cJ _ _ _ (a.at_ ⋯) (a.at_ ⋯) (a.at_ ⋯) (D.eq u (l+b3-1) R w ⋯ ⋯) e2,O.cJ _ _ _ (a.at_ ⋯) (a.at_ ⋯) (a.at_ ⋯) e3 (D.eq (l+b3-1) u ⋯ ⋯ R w)⟩
    by_cases B:x=l+b3
    .by_cases m:y=l+b3
     .subst B m;exact O.dX (a.at_ ⋯)
     .subst B;exact(N y ⋯ ⋯).2
    .by_cases m:y=l+b3
     .subst m;exact(N x ⋯ ⋯).1
     .exact D.eq x y ⋯ ⋯ ⋯ ⋯
def D3(O:c8 M A E s κ S lt)(k:kindOf st=κ)(a:dR S (VL st))(hz:l+z<=(VL st).size)(aJ:1<=z):Yz M A E s (countRun' l z) (oE lt l z st) st:=by
 rw[D2];refine PL (vX O k a hz (PE 1) aJ (dm.one O a ⋯) λn k1 k2 k3 u=>?_);dsimp only;refine cf (λc=>?_) λc=>?_
 .exact PU ⟨n,rfl,k1,k2,⟨rfl,rfl,rfl⟩,.refl ..,k3⟩
 .have c:¬n=z:=⇑c;have w:n<z:=Rd k2 c;have h:l+n<(VL st).size:=PH (Ry w l) hz;have f:=p8 (l:=l) k1;have B:=QZ f h;have C:l<(VL st).size:=Qo (Qg ..) h;have j:l<=l+n-1:=Qy (Nat.lt_add_of_pos_right k1);have q:=O.fA _ _ (a.at_ ⋯) (a.at_ ⋯) (u.resolve_left c);refine cf (λt=>?_) λt=>?_
  .refine PL (mL O k a ⋯ ⋯ ?_);cases e:lt (at_ (VL st) l) (at_ (VL st) (l+n-1)) with
   |true=>dsimp only;rw[if_pos rfl];exact PU ⟨n,rfl,k1,k2,⟨rfl,rfl,rfl⟩,.refl ..,k3⟩
   |false =>
    dsimp only;rw[if_neg (by simp),TL];refine PL (RM ?_);have i:l+n<=(VL st).size:=⋯;have o:b6 (VL st) (Xy (VL st) l (l+n) ((l+n-l) / 2)) l (l+z):=(b6.rev i).mono (PE _) ⋯;have p:∀x y,l<=x->x<l+n->l<=y->y<l+n->le lt (at_ (VL st) x) (at_ (VL st) y):=λx y b g d r =>
     have D:=QZ g h;have G:=QZ r h;O.cJ _ _ _ (a.at_ ⋯) (a.at_ ⋯) (a.at_ ⋯) (k3 x (l+n-1) b (Qy g) f)
      (O.cJ _ _ _ (a.at_ ⋯) (a.at_ ⋯) (a.at_ ⋯) e (k3 l y (PE _) d r))
    refine w0 (st0:=st) O k a ⟨rfl,rfl,rfl⟩ o hz ⋯ ?_;show Dec lt (Xy (VL st) l (l+n) ((l+n-l) / 2)) l (n+1);have m:Dec lt (Xy (VL st) l (l+n) ((l+n-l) / 2)) l n:=λx y b g d=>by
     have k1:=Qo g d;have k2:=PW b g;rw[g6 i,g6 i,if_pos ⟨k2,d⟩,if_pos ⟨b,k1⟩];exact p _ _ (eK k2 d).1 (eK k2 d).2 (eK b k1).1 (eK b k1).2
    refine m.snoc O (a.perm o.perm) (by rw[o.size];lia) ⋯ ?_;rw[g6 i,g6 i,if_neg ⋯,if_pos ⟨j,f⟩];exact O.cJ _ _ _ (a.at_ h) (a.at_ B) (a.at_ (QZ (eK j f).2 h)) q (p _ _ j f (eK j f).1 (eK j f).2)
  .have v:n=1:=⋯;subst v;refine w0 (st0:=st) O k a ⟨rfl,rfl,rfl⟩ (.refl ..) hz ⋯ ?_;have m:Dec lt (VL st) l 1:=λx y b g d=>by
    obtain rfl:x=l:=⋯;obtain rfl:y=x:=⋯;exact O.dX (a.at_ ⋯)
   exact m.snoc O a ⋯ ⋯ q
end
section
def C6(O:c8 M A E s κ S lt)(q:dR S c)(g:l+k<c.size)(r:p<=k)(h:dm lt c l k)(aJ:∀x,x<p->le lt (at_ c (l+x)) (at_ c (l+k)))(h2:∀x,p<=x->x<k->le lt (at_ c (l+k)) (at_ c (l+x))):dm lt (bubble c (l+k) (k-p)) l (k+1):=by
 intro x y i f e;have m:k-p<=l+k:=PW (Sr ..) (Ta ..);rw[rq g m,rq g m,Zw (Sr ..),Nat.sub_sub_self r];have n:∀u,l<=u->u<l+p->le lt (at_ c u) (at_ c (l+k)):=λu a b=>by
  obtain⟨w,rfl⟩:=Tf a;exact aJ w (Uq b)
 have o:∀u,l+p<=u->u<l+k->le lt (at_ c (l+k)) (at_ c u):=λu a b=>by
  obtain⟨w,rfl⟩:=Tf (PW (Qg ..) a);exact h2 w (Nat.le_of_add_le_add_left a) (Uq b)
 have j:l+p<y->y-1<l+k:=λz=>PH (Vw (Nat.zero_lt_of_lt z) ∅) (QV e)
 by_cases a:x=l+p
 .rw[if_pos a]
  by_cases b:y=l+p
  .rw[if_pos b];exact O.dX (q.at_ g)
  .have d:l+p<y:=⋯;rw[if_neg b,if_pos ⟨d,QV e⟩];exact o _ (Qy d) (j d)
 .rw[if_neg a]
  by_cases a2:l+p<x
  .have d:=PH a2 f;rw[if_pos ⟨a2,PW f (QV e)⟩,if_neg ⋯,if_pos ⟨d,QV e⟩];exact h _ _ (Qy (Qo (Qg ..) a2)) (Nat.sub_le_sub_right f 1) (j d)
  .rw[if_neg λz=>a2 z.1]
   by_cases b:y=l+p
   .rw[if_pos b];exact n _ i ⋯
   .rw[if_neg b]
    by_cases b2:l+p<y
    .rw[if_pos ⟨b2,QV e⟩];exact h _ _ i (Qy (Qo (Sh.mp a2) b2)) (j b2)
    .rw[if_neg λz=>b2 z.1];exact h _ _ i f ⋯
def C4{st:V5}(O:c8 M A E s κ S lt)(a0:kindOf st=κ)(hS0:dR S (VL st))(hz:l+n<=(VL st).size)(aJ:1<=H)(T:H<=n)(h:dm lt (VL st) l H)(a1:∀d,hJ st d->b6 (VL st) (VL d) l (l+n)->dm lt (VL d) l n->Q J d):Yz M A E s (binarySort' l n H) Q st:=by
 rw[binarySort'_eq];rw[Nat.max_eq_left aJ];refine PL (Rw (Q1 (I:=λk (c:Option Bool×Unit) d=>c=(Y,())/\k<=n/\hJ st d/\b6 (VL st) (VL d) l (l+n)/\dm lt (VL d) l k)
  (Q:=λ(c:Option Bool×Unit) d=>c=(Y,())/\hJ st d/\b6 (VL st) (VL d) l (l+n)/\dm lt (VL d) l n) ?step ?fin ⟨rfl,T,⟨rfl,rfl,rfl⟩,.refl ..,h⟩) ?post)
 case fin =>
  rintro c d ⟨rfl,k1,k2,k3,B⟩;rw[Qz T]at B;exact⟨rfl,k2,k3,B⟩
 case post =>
  rintro c d ⟨rfl,k2,k3,B⟩;exact PU (a1 d k2 k3 B)
 case step =>
  rintro k c f a3 a4 ⟨rfl,au,X,L,N⟩;have a5:l+n<=(VL f).size:=(by rw[L.size];exact hz);have g:=hS0.perm L.perm;have a2:=X.1.trans a0;refine PL (Rw (Q1 (I:=λx (c:Option Bool×Nat×Nat) d=>d=f/\c.1=Y/\c.2.1<=c.2.2/\c.2.2<=k/\(∀x,x<c.2.1->le lt (at_ (VL f) (l+x)) (at_ (VL f) (l+k)))/\(∀x,c.2.2<=x->x<k->le lt (at_ (VL f) (l+k)) (at_ (VL f) (l+x)))/\c.2.2-c.2.1+x<=k)
   (Q:=λ(c:Option Bool×Nat×Nat) d=>d=f/\c.1=Y/\c.2.1<=k/\(∀x,x<c.2.1->le lt (at_ (VL f) (l+x)) (at_ (VL f) (l+k)))/\∀x,c.2.1<=x->x<k->le lt (at_ (VL f) (l+k)) (at_ (VL f) (l+x))) ?step2 ?fin2
   ⟨rfl,rfl,PN _,PE _,λx U=>absurd U (WY _),λx r C=>absurd C (by dsimp only at r;lia),by show k-0+0<=k;lia⟩) ?post2)
  case fin2 =>
   rintro⟨o,a,b⟩ d ⟨rfl,rfl,R,i,j,q,v⟩;dsimp only at R i j q v;rw[Qz (PN _)]at v;have e:a=b:=⋯;subst e;exact⟨rfl,rfl,i,j,q⟩
  case step2 =>
   rintro x ⟨o,a,b⟩ d _ U ⟨rfl,rfl,R,i,j,q,v⟩;dsimp only at R i j q v ⊢;refine cf (λc=>?_) λc=>?_
   .have e:a=b:=⋯;subst e;exact PU ⟨rfl,rfl,i,j,q⟩
   .have w:(a+b) / 2<b:=⋯;have z:a<=(a+b) / 2:=⋯;generalize (a+b) / 2=m at *;have G:=PH w i;have V:∀u,u<b-a->u+(x+1)<=k:=λa h=>PW (by rw[<- RD,RX];exact Vj h x) v
    have t:l+k<(VL d).size:=⋯;have D:=QZ (Ry G l) t;refine PL (mL O a2 g ⋯ ⋯ ?_);cases e:lt (at_ (VL d) (l+k)) (at_ (VL d) (l+m)) with
    |true =>
     dsimp only;rw[if_pos rfl];refine PU ⟨rfl,rfl,z,Qs G,j,λy r C=>?_,V _ (SS z w)⟩;exact O.cJ _ _ _ (g.at_ t) (g.at_ D) (g.at_ (QZ (Ry C l) t)) (O.fA _ _ (g.at_ t) (g.at_ D) e) (N _ _ (Qg ..) (RQ r l) (Ry C l))
    |false =>
     dsimp only;rw[if_neg (by simp)];refine PU ⟨rfl,rfl,w,i,λy r=>?_,q,V _ (T3 (Qo z w) (Uv z))⟩;have r:=RQ (QV r) l;exact O.cJ _ _ _ (g.at_ (Qo r D)) (g.at_ D) (g.at_ t) (N _ _ (Qg ..) r (Ry G l)) e
  case post2 =>
   rintro⟨o,p,b⟩ d ⟨rfl,rfl,i,j,q⟩;dsimp only at i j q ⊢;rw[moveDown'_eq];have t:l+k<(VL d).size:=⋯;refine PL (RM (PU ⟨rfl,⋯,X,?_,?_⟩))
   .show b6 (VL st) (bubble (VL d) (l+k) (l+k-(l+p))) l (l+n);rw[TR];exact L.trans ((b6.C5 t (PW (Sr ..) (Ta ..))).mono (by rw[Zw (Sr ..)];exact Qg ..) ⋯)
   .show dm lt (bubble (VL d) (l+k) (l+k-(l+p))) l (k+1);rw[TR];exact C6 O g t i N j q
end
abbrev Runs(lt:VN->VN->Bool)(c:Array VN):Nat->List (Nat×Nat×Nat)->Nat->Prop
 |a,[],b=>a=b
 |a,r::P,b=>r.1=a/\0<r.2.1/\dm lt c a r.2.1/\Runs lt c (a+r.2.1) P b
def IM{α:Type}(P:List α)(r:α)(g:α->α):(P++[r]).toArray.modify ((P++[r]).toArray.size-1) g=(P++[g r]).toArray:=by
 apply TK.mp;rw[Array.toList_modify];show(P++[r]).modify ((P++[r]).length-1) g=P++[g r];rw[PI,V8,RW]
 induction P with
 |nil=>rfl
 |cons x P a=>exact Q9 (x::·) a
section
variable{lt:VN->VN->Bool}{c d:Array VN}
theorem Runs.len:∀{P:List (Nat×Nat×Nat)}{a b:Nat},Runs lt c a P b->a+P.length<=b
 |[],_,_,h=>UZ h
 |r::P,a,b,⟨_,aJ,_,h⟩=>by have:=Runs.len h;rw[VS];lia
theorem Runs.app:∀{P Q:List (Nat×Nat×Nat)}{a b:Nat},Runs lt c a (P++Q) b<->∃m,Runs lt c a P m/\Runs lt c m Q b
 |[],_,a,b=>⟨λh=>⟨a,rfl,h⟩,λ⟨m,aJ,h2⟩=>by cases (show a=m from aJ);exact h2⟩
 |r::P,_,a,b=>⟨λ⟨aJ,h2,h3,h⟩=>let ⟨m,e,f⟩:=Runs.app.mp h;⟨m,⟨aJ,h2,h3,e⟩,f⟩,λ⟨m,⟨aJ,h2,h3,e⟩,f⟩=>⟨aJ,h2,h3,Runs.app.mpr ⟨m,e,f⟩⟩⟩
theorem Runs.same:∀{P:List (Nat×Nat×Nat)}{a b:Nat},Runs lt c a P b->(∀k,a<=k->k<b->at_ d k=at_ c k)->Runs lt d a P b
 |[],_,_,h,_=>h
 |r::P,a,b,⟨aJ,h2,h3,h⟩,e=>by
  have:=h.len;exact⟨aJ,h2,λx y g f i=>by rw[e x ⋯ ⋯,e y ⋯ ⋯];exact h3 x y g f i,h.same λk g f=>e k ⋯ f⟩
end
section
variable{M:Zi}{A:Wc}{E:VE->VI->Prop}{s:VI}{κ:W9}{S:VN->Prop}{lt:VN->VN->Bool}{st st0:V5}
def yY{Q:Bool->V5->Prop}{i b:Nat}{P:List (Nat×Nat×Nat)}(O:c8 M A E s κ S lt)(f:kindOf st=κ)(D:WA st=Y)(H:Wn st=P.toArray)(hi:i+1<P.length)(R:Runs lt (VL st) 0 P b)(a2:b<=(VL st).size)(C:dR S (VL st))(I:∀a c,kindOf a=κ->WA a=Y->Wn a=c.toArray->c.length+1=P.length->b6 (VL st) (VL a) 0 b->Runs lt (VL a) 0 c b->Q J a):Yz M A E s (mergeAt' i) Q st:=by
 obtain⟨p,x,y,q,e,G⟩:∃p x y q,P=p++x::y::q/\p.length=i:=⟨P.take i,P[i],P[i+1],P.drop (i+2),by
  rw[Yi,Yi,QN],by rw[Qt];lia⟩
 subst e G;obtain⟨u,n,N⟩:=x;obtain⟨v,m,a4⟩:=y;obtain⟨m0,B,j,l,o,r,t,w,d⟩:=Runs.app.mp R;dsimp only at j l o r t w d;subst j r;have L:=d.len;refine Ip O f D H l t ⋯ (λx a3=>C _ (by simp)) o.br w.br λa U V X z a0 a1=>?_
 have T:(VL a).size=(VL st).size:=by rw[<- VH,<- VH];exact z.length_eq
 have g:b6 (VL st) (VL a) u (u+n+m):=⟨T,z,λk f=>j0 (a0 k f)⟩;refine I a (p++(u,n+m,N)::q) U V X (by simp only[PI,VS];lia) (g.mono (PN _) ⋯) (Runs.app.mpr ⟨u,B.same λk _ h=>g.out k (.inl h),rfl,by dsimp only;lia,λx y aJ h2 h3=>?_,?_⟩)
 .dsimp only at h3;rw[jZ ⋯,jZ ⋯];exact a1 x y _ _ aJ h2 h3
 .dsimp only;rw[<- RD];exact d.same λk h _=>g.out k (.inr h)
def vA(lt:VN->VN->Bool)(st0:V5)(N x:Nat)(c:Option Unit×Nat)(st:V5):Prop:=c.1=Y/\kindOf st=kindOf st0/\WA st=Y/\b6 (VL st0) (VL st) 0 N/\(x<=c.2\/c.2=N)/\c.2<=N/\∃P,Wn st=P.toArray/\Runs lt (VL st) 0 P c.2
def vB(lt:VN->VN->Bool)(st0:V5)(b:Nat)(st:V5):Prop:=kindOf st=kindOf st0/\WA st=Y/\b6 (VL st0) (VL st) 0 b/\∃P,P≠[]/\Wn st=P.toArray/\Runs lt (VL st) 0 P b
def Mz{A B:Type}{P:A×B->Prop}(h:∀a b,P (a,b)):∀c,P c:=λ_=>h _ _
def K6 {Q : Unit -> V5 -> Prop} (O : c8 M A E s κ S lt) (cy : kindOf st = κ) (cB : WA st = Y) (cP : Wn st = #[]) (a8 : dR S (VL st)) (h2 : 2 <= (VL st).size)
    (c2 : ∀ a, WA a = Y -> (VL a).toList.Perm (VL st).toList -> (VL a).toList.Pairwise (le lt) -> Q () a) : Yz M A E s sortRuns' Q st := by
  rw [sortRuns'_eq]
  refine PL (T9 ?_)
  dsimp only
  generalize fj : minRun' (VL st).size (VL st).size 0 = tR
  generalize a0 : (VL st).size = N at h2 ⊢
  refine PL (Rw (Q1 (I := vA lt st N) (Q := fun (c : Option Unit × Nat) a => vA lt st N 0 c a /\ c.2 = N) ?step ?fin ⟨rfl, rfl, cB, .refl .., .inl (PE _), PN _, [], cP, rfl⟩) ?post)
  case fin =>
    rintro c a ⟨G, j, i, H, X, L, dD⟩
    rw [Qz (PN _)] at X
    exact ⟨⟨G, j, i, H, .inl (PN _), L, dD⟩, by lia⟩
  case step =>
    refine fun x => Mz fun o lo n _ gh h => ?_
    have k1 := h.2.1
    have k2 := h.2.2.1
    have k3 := h.2.2.2.1
    have dJ := h.2.2.2.2.1
    have k5 := h.2.2.2.2.2.1
    obtain ⟨P, h⟩ := h.2.2.2.2.2.2
    have V := h.1
    have B := h.2
    dsimp only at dJ k5 V B ⊢
    have C : kindOf n = κ := k1.trans cy
    have a4 := a8.perm k3.perm
    have hsz : (VL n).size = N := k3.size.trans a0
    refine cf (fun c => PU ⟨⟨rfl, k1, k2, k3, .inl (PN _), k5, P, V, B⟩, by dsimp only; lia⟩) fun c => ?_
    refine' (fun (cz : ∀ (dM : V5) (d : Nat), hJ n dM -> b6 (VL n) (VL dM) lo (lo + (N - lo)) -> dm lt (VL dM) lo d -> 1 <= d -> d <= N - lo -> (_ : V5 -> Nat -> Prop) dM d) => ?main) ?pf
    case main =>
      refine PL (Rw (D3 (l := lo) (z := N - lo) O C a4 (by rw [hsz]; lia) ⋯) ?_)
      rintro o cA ⟨m, rfl, av, m2, s2, p2, a5⟩
      refine cf (fun aA => ?b1) fun aA => ?b2
      case b1 =>
        refine PL (UQ (Sz ⟨rfl, ?_⟩))
        refine PL (C4 O (s2.1.trans C) (a4.perm p2.perm) (by rw [p2.size, hsz]; exact SJ k5 (R3 ..)) av ⋯ a5 fun dM s3 p3 p => ?_)
        rw [if_neg (by simp)]
        have g : hJ n dM := ⟨s3.1.trans s2.1, s3.2.1.trans s2.2.1, s3.2.2.trans s2.2.2⟩
        have u : b6 (VL n) (VL dM) lo (lo + (N - lo)) := p2.trans (p3.mono (PE _) (RQ (R3 ..) _))
        have t : 1 <= min (N - lo) tR := by lia
        have D : min (N - lo) tR <= N - lo := R3 ..
        clear s2 p2 a5 s3 p3 av m2 aA
        clear cA
        revert t D p
        generalize min (N - lo) tR = d
        intro p t D
        exact cz dM d g u p t D
      case b2 =>
        clear aA
        have h := And.intro s2 (And.intro p2 (And.intro a5 (And.intro av m2)))
        clear s2 p2 a5 av m2
        revert h
        generalize m = d
        generalize cA = dM
        rintro ⟨g, u, p, t, D⟩
        exact cz dM d g u p t D
    case pf =>
      intro dM d g u p t D
      refine PL (T9 ?_)
      have R : Wn dM = P.toArray := g.2.1.trans V
      have gg : (VL dM).size = N := u.size.trans hsz
      have az : Runs lt (VL dM) 0 P lo := B.same fun k _ h => u.out k (.inl h)
      have P3 : b6 (VL st) (VL dM) 0 N := k3.trans (u.mono (PN _) ⋯)
      rcases RY P with rfl | ⟨cN, ⟨a1, a2, a3⟩, rfl⟩
      · rw [R]
        cases (show 0 = lo from az)
        refine PL (RM (PU ⟨rfl, g.1.trans k1, g.2.2.trans k2, P3, by dsimp only; lia, by dsimp only; lia, [(0, d, 0)], ?_, rfl, t, p, rfl⟩))
        show (Wn dM).push _ = _
        rw [R]
        rfl
      · rw [RZ] at R az
        rw [R, show (cN ++ [(a1, a2, a3)]).toArray.back? = Z (a1, a2, a3) by simp]
        dsimp only
        generalize power' N (2 * a1 + a2) (2 * a1 + a2 + a2 + d) N = dr
        refine PL (Rw (Q1 (I := fun x (c : Option Unit × Unit) a => c = (Y, ()) /\ vB lt dM lo a) (Q := fun (c : Option Unit × Unit) a => c = (Y, ()) /\ vB lt dM lo a) ?a1 ?a2 ⟨rfl, rfl, g.2.2.trans k2, .refl .., _, by simp, R, az⟩) ?a3)
        case a2 => exact fun c a h => h
        case a1 =>
          intro x c a _ _ h
          have T := h.2.1
          have U := h.2.2.1
          have q := h.2.2.2.1
          obtain ⟨f, h⟩ := h.2.2.2.2
          have au := h.1
          have v := h.2.1
          have w := h.2.2
          refine PL (T9 ?_)
          rw [v]
          rcases b9 : (if f.toArray.size > 1 then f.toArray[f.toArray.size - 2]? else Y) with _ | ⟨f1, f2, jh⟩
          · exact PU ⟨rfl, T, U, q, f, au, v, w⟩
          · have h2 : 1 < f.length := by
              by_cases h : f.toArray.size > 1
              · exact h
              · rw [if_neg h] at b9; cases b9
            refine cf (fun _ => PU ⟨rfl, T, U, q, f, au, v, w⟩) fun _ => ?_
            refine PL (yY O (T.trans (g.1.trans C)) U v (show f.length - 2 + 1 < f.length by lia) w (by rw [q.size, gg]; lia) ((a4.perm u.perm).perm q.perm) fun e5 ay a9 bg bf bp bz c0 => ?_)
            rw [if_neg (by simp)]
            exact PU ⟨rfl, a9.trans (g.1.trans C).symm, bg, q.trans bz, ay, fun e => by rw [e] at bp; rw [<- bp] at h2; exact absurd h2 ∅, bf, c0⟩
        case a3 =>
          rintro c a ⟨rfl, T, U, q, f, au, v, w⟩
          rcases RY f with rfl | ⟨cO, ⟨b1, b2, fD⟩, rfl⟩
          · exact absurd rfl au
          rw [RZ] at v w
          obtain ⟨dC, dV, d2, ea, eo, e0⟩ := Runs.app.mp w
          refine PL (RM (PL (RM (PU ⟨rfl, T.trans (g.1.trans k1), U, P3.trans (q.mono (PE _) k5), by dsimp only; lia, by dsimp only; lia, (cO ++ [(b1, b2, dr)]) ++ [(lo, d, 0)], ?_, Runs.app.mpr ⟨lo, Runs.app.mpr ⟨dC, dV, d2, ea, eo, e0⟩, rfl, t, ?_, rfl⟩⟩))))
          · show ((Wn a).modify ((Wn a).size - 1) _).push _ = _
            rw [v, IM]
            exact List.push_toArray _ _
          · exact p.Jg q (.inr (PE _))
  case post =>
    rintro ⟨o, lo⟩ n ⟨⟨rfl, k1, k2, k3, -, -, P, V, B⟩, rfl⟩
    have C : kindOf n = κ := k1.trans cy
    have a4 := a8.perm k3.perm
    have hsz : (VL n).size = lo := k3.size.trans a0
    refine PL (Rw (Q1 (I := fun x (c : Option Unit × Unit) a => c = (Y, ()) /\ kindOf a = κ /\ WA a = Y /\ b6 (VL st) (VL a) 0 lo /\ ∃ P, (P.length <= 1 \/ P.length + x <= lo) /\ Wn a = P.toArray /\ Runs lt (VL a) 0 P lo)
      (Q := fun (c : Option Unit × Unit) a => c = (Y, ()) /\ WA a = Y /\ b6 (VL st) (VL a) 0 lo /\ ∃ P, P.length <= 1 /\ Runs lt (VL a) 0 P lo) ?step2 ?fin2 ⟨rfl, C, k2, k3, P, .inr (by have := B.len; lia), V, B⟩) ?post2)
    case fin2 =>
      rintro c a ⟨rfl, G, j, i, P, H, X, L⟩
      rw [Qz (PN _)] at H
      exact ⟨rfl, j, i, P, by lia, L⟩
    case post2 =>
      rintro c a ⟨rfl, G, j, P, i, H⟩
      refine PU (c2 a G j.perm ?_)
      have hz : (VL a).size = lo := j.size.trans a0
      match P, i, H with
      | [], _, e => cases (show 0 = lo from e); lia
      | [r], _, ⟨e1, e2, e3, e4⟩ =>
        have e4 : 0 + r.2.1 = lo := e4
        refine n5 ?_
        rw [hz, <- e4, SW]
        exact e3.br
    case step2 =>
      intro y c a _ f0 h
      have G := h.2.1
      have j := h.2.2.1
      have i := h.2.2.2.1
      obtain ⟨P, h⟩ := h.2.2.2.2
      have H := h.1
      have X := h.2.1
      have L := h.2.2
      refine PL (T9 ?_)
      rw [X]
      refine cf (fun h => PU ⟨rfl, j, i, P, h, L⟩) fun h => ?_
      have h : ¬ P.length <= 1 := h
      refine PL (yY O G j X ?_ L (by rw [i.size, a0]; lia) (a8.perm i.perm) fun e5 ay a9 bg bf bp bz c0 => ?_)
      · have cp : ∀ b : Bool, (if b = J then P.length - 2 - 1 else P.length - 2) + 1 < P.length := fun b => by cases b <;> simp only [QI, PD, PZ] <;> lia
        exact cp _
      · rw [if_neg (by simp)]
        exact PU ⟨rfl, a9, bg, i.trans bz, ay, by lia, bf, c0⟩
end
end Tm
end
section
namespace Tm
open PySem PySem.W PyProof.Rows PySem.Calls
def JY{α β:Type}(f:α->β){a m:List β}(h:a.Perm m):∀l:List α,m=l.map f->∃p:List α,p.Perm l/\a=p.map f:=by
 induction h with
 |nil=>intro l e;cases l with
  |nil=>exact⟨[],.refl _,rfl⟩
  |cons=>cases e
 |cons x _ b =>
  intro l e;cases l with
  |nil=>cases e
  |cons y l =>
   rw[VK]at e;injection e with e1 e2;obtain⟨p,aJ,h2⟩:=b l e2;exact⟨y::p,aJ.cons y,by rw[VK,e1,h2]⟩
 |swap x y m =>
  intro l e
  match l,e with
  |u::v::l,e =>
   rw[VK,VK]at e;injection e with e1 e2;injection e2 with e2 e3;exact⟨v::u::l,.swap u v l,by rw[VK,VK,e1,e2,e3]⟩
 |trans _ _ c d =>
  intro l e;obtain⟨p,aJ,h2⟩:=d l e;obtain⟨q,h3,h4⟩:=c p h2;exact⟨q,h3.trans aJ,h4⟩
structure Ord(lt:Nat->Nat->Bool):Prop where
 dX:∀x,lt x x=VC
 cJ:∀x y z,lt y x=VC->lt z y=VC->lt z x=VC
 fA:∀x y,lt x y=J->lt y x=VC
section
variable{prog:Wa}{w:Wm}{A:Wc}{E:VE->VI->Prop}{s:VI}
noncomputable abbrev pr(a:List VE)(i:Nat):Keyed:=(a.getD i Value.none,a.getD i Value.none)
def Pa(a:List VE):(a.toArray.zip a.toArray).toList=(VR a.length).map (pr a):=by
 apply RI;intro i;rw[PX]
 by_cases h:i<a.length
 .rw[Sl h];simp[XN,WG,PG h]
 .rw[Qb ⇑h,Qb ⇑h];rfl
def H3{a:VO}{d:List VE}{n:Nat}{κ:W9}{lt:Nat->Nat->Bool}{P:PySem.Fin->VI->Prop}(O:Ord lt)(T:∀i j,i<d.length->j<d.length->d.getD i Value.none=d.getD j Value.none->∀k,lt i k=lt j k/\lt k i=lt k j)(B:s.heap.get? a=Z (WR "list" d.toArray n))(a9:d.length<1000)(av:2<=d.length->∀(h':V9),(∀b o,b≠a->s.heap.get? b=Z o->h'.get? b=Z o)->∀Q:W9->VI->Prop,Q κ { s with heap:=h' }->VJ (VM prog w) A (keyKind' d.toArray) Q E { s with heap:=h' })(a4:2<=d.length->∀(h':V9),(∀b o,b≠a->s.heap.get? b=Z o->h'.get? b=Z o)->∀(i j:Nat)(C:Bool->VI->Prop),i<d.length->j<d.length->C (lt i j) { s with heap:=h' }->Zx prog w A κ d i j C { s with heap:=h' })(h:∀p:List Nat,p.Perm (VR d.length)->p.Pairwise (λi j=>lt j i=VC)->∀(h':V9)(c:Nat),(∀b o,b≠a->s.heap.get? b=Z o->h'.get? b=Z o)->h'.get? a=Z (WR "list" (p.map λi=>d.getD i Value.none).toArray c)->P (.done (.ret .none)) { s with heap:=h' }):
  VJ (VM prog w) A (WK.«list.sort» ⟨[.ref a],[]⟩) P E s:=by
 rw[list_sort_plain];have bg:a<s.heap.objs.size:=PJ B;refine PA (Zt B rfl ?_);refine PA (UK B rfl ?_ (by rw[PT,V3];lia) (PN _));obtain⟨e1,N⟩:∃e1,(s.heap.update a (Wo λ_=>(#[]:Array VE))).get? a=Z (WR "list" #[] e1):=⟨_,Yp B λ_=>#[]⟩;refine PA (ZQ N rfl ?_);refine PA (wpAny_newTuple ?_ (by show d.length<=_;rw[V3];lia));refine PA (Vp ?_ (PN _));refine QS ?_;have l:(((s.heap.update a (Wo λ_=>(#[]:Array VE))).push (WR "tuple" d.toArray 0)).push (WR "list" #[] 0)).get? a=Z (WR "list" #[] e1):=PC _ (PC _ N);have D:∀b o,b≠a->s.heap.get? b=Z o->(((s.heap.update a (Wo λ_=>(#[]:Array VE))).push (WR "tuple" d.toArray 0)).push (WR "list" #[] 0)).get? b=Z o:=λb o g q =>
  PC _ (PC _ ((Qa _ _ (QG g)).trans q))
 show VJ (VM prog w) A _ P E { s with heap:=((s.heap.update a (Wo λ_=>(#[]:Array VE))).push (WR "tuple" d.toArray 0)).push (WR "list" #[] 0) };generalize ((s.heap.update a (Wo λ_=>(#[]:Array VE))).push (WR "tuple" d.toArray 0)).push (WR "list" #[] 0)=aJ at l D;dsimp only;have fin:∀p:List Nat,p.Perm (VR d.length)->p.Pairwise (λi j=>lt j i=VC)->P (.done (.ret .none)) { s with heap:=aJ.update a (Wo λ_=>(p.map λi=>d.getD i Value.none).toArray) }:=λp aA I=>by
  obtain⟨H,a5⟩:∃H,(aJ.update a (Wo λ_=>(p.map λi=>d.getD i Value.none).toArray)).get? a=Z (WR "list" (p.map λi=>d.getD i Value.none).toArray H):=⟨_,Yp l λ_=>(p.map λi=>d.getD i Value.none).toArray⟩;exact h p aA I _ H (λb o g q=>(Qa _ _ (QG g)).trans (D b o g q)) a5
 have hz:=Pa d
 by_cases h2:d.toArray.size<2
 .rw[if_pos h2,if_pos h2];refine PA (VB ?_);rw[StateT.run_pure];refine PA (VB ?_);dsimp only;refine PA (ZQ l rfl ?_);have e3:(VL (aaa general' (d.toArray.zip d.toArray) #[] 7 Y)).map (·.2)=((VR d.length).map λi=>d.getD i Value.none).toArray:=by
   show(d.toArray.zip d.toArray).map (·.2)=_;apply TK.mp;rw[ZK,hz,VU];rfl
  rw[e3];refine PA (UK l rfl ?_ (PN _) (by rw[PT,VD,WZ,V3];lia));simp only[RJ,PD,PZ];refine VB (fin _ (.refl _) ?_);have t:d.length<2:=⇑h2;rcases(show d.length=0\/d.length=1 by lia) with e|e
  .rw[e];exact Xn
  .rw[e];exact Rn _ _
 .rw[if_neg h2,if_neg h2];have t:2<=d.length:=(by simp at h2;exact h2);refine PA (av t aJ D _ ?_);have U:∀x:VN,∃i,(∃i,i<d.length/\x=pr d i)->i<d.length/\x=pr d i:=λx=>by
   by_cases c:∃i,i<d.length/\x=pr d i
   .obtain⟨i,hi⟩:=c;exact⟨i,λ_=>hi⟩
   .exact⟨0,λq=>absurd q c⟩
  obtain⟨f,u⟩:∃f:VN->Nat,∀x,(∃i,i<d.length/\x=pr d i)->f x<d.length/\x=pr d (f x):=⟨λx=>(U x).choose,λx=>(U x).choose_spec⟩;have Or:c8 (VM prog w) A E { s with heap:=aJ } κ (λx=>∃i,i<d.length/\x=pr d i) (λx y=>lt (f x) (f y)):=by
   refine⟨λx y st Q m b1 ay q=>?_,λx y _ _ q=>O.fA _ _ q,λx y z _ _ _ b2 bc=>O.cJ _ _ _ b2 bc⟩;obtain⟨L,a2⟩:=u x m;obtain⟨M,a3⟩:=u y b1;rw[lt'_eq];refine PL (T9 ?_);refine PL (UQ (S8 ?_));have:=a4 t aJ D (f x) (f y) (λb s'=>s'={ s with heap:=aJ }/\b=lt (f x) (f y)) L M ⟨rfl,rfl⟩;unfold Zx at this;have e1:d.getD (f x) Value.none=x.1:=(Q9 aab a2).symm;have e2:d.getD (f y) Value.none=y.1:=(Q9 aab a3).symm;rw[e1,e2]at this;rw[ay];refine QP this (λb s' ⟨I,g⟩=>⟨I,?_⟩) λ_ _ z=>z.elim
   subst g;exact PU q
  have run:=K6 (st:=aaa κ (d.toArray.zip d.toArray) #[] 7 Y) (Q:=λ_ r=>WA r=Y/\∃p:List Nat,p.Perm (VR d.length)/\p.Pairwise (λi j=>lt j i=VC)/\(VL r).toList=p.map (pr d)) Or rfl rfl rfl
   (λx m=>by
    have m:x∈(d.toArray.zip d.toArray).toList:=m;rw[hz]at m;obtain⟨i,hi,rfl⟩:=VP.mp m;exact⟨i,VZ.mp hi,rfl⟩) (by show 2<=(d.toArray.zip d.toArray).size;rw[<- VH,hz];simpa using t) λr a8 G V=>by
     have G:(VL r).toList.Perm (d.toArray.zip d.toArray).toList:=G;rw[hz]at G;obtain⟨p,p1,p2⟩:=JY (pr d) G _ rfl;refine⟨a8,p,p1,?_,p2⟩;rw[p2,QU]at V;refine Q7 (λ{i j} hi v q=>?_) V;have hi:=VZ.mp (p1.mem_iff.mp hi);have v:=VZ.mp (p1.mem_iff.mp v);obtain⟨L,a0⟩:=u (pr d i) ⟨i,hi,rfl⟩;obtain⟨M,a1⟩:=u (pr d j) ⟨j,v,rfl⟩;have q:lt (f (pr d j)) (f (pr d i))=false:=q;rw[(T j (f (pr d j)) v M (Q9 aab a1) i).1,(T i (f (pr d i)) hi L (Q9 aab a0) _).2];exact q
  refine PA (QP run ?_ λ_ _ e=>e);rintro⟨⟨⟩,r⟩ s' ⟨rfl,au,p,p1,p2,p3⟩;have az:(VL r).map (·.2)=(p.map λi=>d.getD i Value.none).toArray:=by
   apply TK.mp;rw[ZK,p3,VU];rfl
  rw[az];refine PA (ZQ l rfl ?_);refine PA (UK l rfl ?_ (PN _) (by rw[PT,VD,p1.length_eq,WZ,V3];lia));rw[au];simp only[RJ,PD,PZ];exact VB (fin p p1 p2)
end
end Tm
end
section
namespace fb
open PySem PySem.W PyProof.Rows PySem.Calls
section
def ltI{κ:Type}(lt:κ->κ->Bool)(z:κ)(a:List κ)(i j:Nat):Bool:=lt (a.getD i z) (a.getD j z)
def zk{κ:Type}{lt:κ->κ->Bool}(L:ar.eQ lt)(z)(b):Tm.Ord (ltI lt z b) where
 dX:=λx=>L.dX _
 cJ:=λx y z a h2=>ar.yH L a h2
 fA:=λx y h=>ar.yI L h
def F9{κ:Type}(z:κ)(aS):(VR aS.length).map (λi=>aS.getD i z)=aS:=by
 apply RI;intro i;rw[PX]
 by_cases h:i<aS.length
 .rw[Sl h];simp[WG,h]
 .rw[Qb ⇑h,Qb ⇑h];rfl
def Mx{κ:Type}{lt:κ->κ->Bool}(L:ar.eQ lt)(z)(aS){p:List Nat}(a:p.Perm (VR aS.length))(h2:p.Pairwise (λi j=>ltI lt z aS j i=VC)):(p.map λi=>aS.getD i z)=ar.br lt aS:=by
 refine ar.BQ L ?_ (ar.BP L aS) ?_
 .unfold ar.kW;rw[QU];exact h2
 .refine((a.map λi=>aS.getD i z).trans ?_).trans (ar.p6 aS).symm;rw[F9]
def ze{κ:Type}{lt:κ->κ->Bool}{z:κ}{b:List κ}{a:List VE}(h:∀i j,i<a.length->j<a.length->a.getD i Value.none=a.getD j Value.none->b.getD i z=b.getD j z):
  ∀i j,i<a.length->j<a.length->a.getD i Value.none=a.getD j Value.none->∀k,ltI lt z b i k=ltI lt z b j k/\ltI lt z b k i=ltI lt z b k j:=λi j hi c e k=>by
 unfold ltI;rw[h i j hi c e];exact⟨rfl,rfl⟩
theorem ints_get:∀{a:List VE}{ns:List Int}(h:Wh a ns)(i:Nat),i<a.length->∃t,a.getD i Value.none=.int (ns.getD i 0) t
 |_,_,.nil,i,h=>by simp at h
 |_,_,.cons n t _,0,_=>⟨t,rfl⟩
 |_,_,.cons n t r,i+1,h=>by
  obtain⟨u,e⟩:=ints_get r i ⇑h;exact⟨u,by simpa[WG] using e⟩
theorem tr:∀{a:List VE}{ns:List Int}(h:Wh a ns),ns.length=a.length
 |_,_,.nil=>rfl
 |_,_,.cons n t r=>by simp[tr r]
def Hp(h:Wh a ns):∀i j,i<a.length->j<a.length->a.getD i Value.none=a.getD j Value.none->ns.getD i 0=ns.getD j 0:=λi j hi b e=>by
 obtain⟨t,e1⟩:=ints_get h i hi;obtain⟨u,e2⟩:=ints_get h j b;rw[e1,e2]at e;injection e
def CE(b:Wh a ns)(i j)(C)(hi:i<a.length)(c:j<a.length)(h:C (ltI ar.ltI 0 ns i j) s):Zx prog w A oneType' a i j C s:=by
 obtain⟨t,e1⟩:=ints_get b i hi;obtain⟨u,e2⟩:=ints_get b j c;unfold Zx;rw[e1,e2];exact kat_lt_int h
def Hv(c:Wh a ns)(h2:2<=a.length)(h:Q oneType' s):VJ (VM prog w) A (keyKind' a.toArray) Q E s:=by
 obtain⟨qL,b,rest,rfl⟩:∃qL b rest,a=qL::b::rest:=by
  match a,h2 with
  |qL::b::rest,_=>exact⟨qL,b,rest,rfl⟩
 rw[keyKind_ints c];exact VB h
abbrev gx(h:V9):List VE->List (List Int)->Prop
 |[],[]=>True
 |v::c,k::b=>(∃a o xs n,v=.ref a/\h.get? a=Z o/\o.cls=.type "tuple"/\o.data=.seq xs n/\Wh xs.toList k/\k≠[])/\gx h c b
 |_,_=>False
theorem gx.kept(k:∀b o,h.get? b=Z o->h'.get? b=Z o):∀{d:List VE}{c:List (List Int)},gx h d c->gx h' d c
 |[],[],_=>trivial
 |v::d,x::c,⟨⟨a,o,xs,n,e,f,r⟩,t⟩=>⟨⟨a,o,xs,n,e,k a o f,r⟩,t.kept k⟩
theorem gx.get:∀{c:List VE}{b:List (List Int)},gx h c b->∀i,i<c.length->∃a o xs n,c.getD i Value.none=.ref a/\h.get? a=Z o/\o.cls=.type "tuple"/\o.data=.seq xs n/\Wh xs.toList (b.getD i [])/\b.getD i []≠[]
 |[],[],_,i,hi=>by simp at hi
 |v::c,x::b,⟨q,t⟩,0,_=>q
 |v::c,x::b,d,i+1,hi=>by
  obtain⟨q,t⟩:=d;have:=t.get i ⇑hi;simpa[WG] using this
def GK(h:Wh b xs):∀{ys:List Int},Wh b ys->xs=ys:=by
 induction h with
 |nil=>intro ys q;cases q;rfl
 |cons n t _ a =>
  intro ys q;cases q with
  |cons _ _ q=>rw[a q]
def Hu(H:gx h b c):∀i j,i<b.length->j<b.length->b.getD i Value.none=b.getD j Value.none->c.getD i []=c.getD j []:=λi j hi g e=>by
 obtain⟨a,o,xs,n,e1,k,_,l,m,_⟩:=H.get i hi;obtain⟨q,s,t,r,e2,d,_,f,p,_⟩:=H.get j g;rw[e1,e2]at e;injection e with e;subst e;rw[k]at d;cases d;rw[l]at f;cases f;exact GK m p
theorem gx.yv:∀{d:List VE}{f:List (List Int)},gx h d f->∃b:List VE,KatTups h d b/\b.length=d.length/\∀v∈b,∃i t,v=W5 i t
 |[],[],_=>⟨[],KatTups.nil,rfl,by simp⟩
 |v::d,x::f,s=>by
  obtain⟨⟨a,o,xs,n,e,p,j,k,c,m⟩,t⟩:=s;subst e;obtain⟨b,g,h2,h3⟩:=t.yv;obtain⟨i,u,l⟩:∃i u,xs[0]?=Z (W5 i u):=by
   cases q:xs.toList with
   |nil=>rw[q]at c;cases c;exact absurd rfl m
   |cons y ys =>
    rw[q]at c;cases c with
    |cons n t r=>exact⟨n,t,(by have:xs.toList[0]?=Z (W5 n t):=(by rw[q];rfl);simpa using this)⟩
  refine⟨W5 i u::b,KatTups.cons p j k l g,by simp[h2],λz hz=>?_⟩;rcases PF.mp hz with rfl|hz
  .exact⟨i,u,rfl⟩
  .exact h3 z hz
abbrev kj(fin:Bool):List Int->List Int->Bool
 |x::xs,y::ys=>if x=y then kj fin xs ys else decide (x<y)
 |_,_=>fin
theorem yD:∀(xs ys:List Int),kj (decide (xs.length<ys.length)) xs ys=ar.lexLt xs ys
 |[],[]=>rfl
 |[],_::_=>rfl
 |_::_,[]=>rfl
 |x::xs,y::ys=>by
  have e:decide ((x::xs).length<(y::ys).length)=decide (xs.length<ys.length):=(by simp);rw[e];simp only[kj,ar.lexLt,yD xs ys]
theorem yw:∀{a c:List VE}{xs ys:List Int}(i:Nat),Wh a xs->Wh c ys->Q (kj fin xs ys) s->KatLex prog w A J fin Q (a.zip c) i s
 |_,_,_,_,i,.nil,_,h=>by simpa[kj] using kat_nil (prog:=prog) (w:=w) (A:=A) (b:=J) (i:=i) h
 |_,_,_,_,i,.cons x t r,.nil,h=>by simpa[kj] using kat_nil (prog:=prog) (w:=w) (A:=A) (b:=J) (i:=i) h
 |_,_,_,_,i,.cons x t r,.cons y u q,h=>by
  refine kat_cons (wpAny_eqBool_int ?_);simp only[kj]at h
  by_cases e:x=y
  .subst e;rw[if_pos rfl]at h;rw[show(x==x)=J by simp];exact kat_yes (yw (i+1) r q h)
  .rw[if_neg e]at h;rw[show(x==y)=VC by simpa using e];refine kat_no ?_;cases d:(J&&i==0) with
   |true=>exact oneLt_int h
   |false=>exact kat_one _ _ (lt_int (show W.BoolBack Q (WN (decide (x<y))) s from h))
def CF(g:gx s.heap d c)(i j)(C)(hi:i<d.length)(m:j<d.length)(h:C (ltI ar.lexLt [] c i j) s):Zx prog w A (tuples' J) d i j C s:=by
 obtain⟨a,o,xs,n,e1,p,r,k,e,_⟩:=g.get i hi;obtain⟨b,v,ys,u,e2,q,t,l,f,_⟩:=g.get j m;unfold Zx;rw[e1,e2];refine kat_lt p k q l (yw 0 e f ?_);have l1:(c.getD i []).length=xs.size:=by rw[tr e,VH]
 have l2:(c.getD j []).length=ys.size:=by rw[tr f,VH]
 rw[<- l1,<- l2,yD];exact h
def Hw(b:gx s.heap a e)(h2:2<=a.length)(h:Q (tuples' J) s):VJ (VM prog w) A (keyKind' a.toArray) Q E s:=by
 obtain⟨d,k1,k2,k3⟩:=b.yv;refine kat_kind (T:=Wj "int") k1 ⋯ (λv c=>?_) ∅ (by rw[show(Wj "int" != Wj "tuple")=J by decide];exact h);obtain⟨i,t,rfl⟩:=k3 v c;exact Looks.of_pure rfl
end
end fb
end
section
namespace cL
open ζ ar
variable{pg:cT}{Φ:dw}
section
variable{α:Type}{lt:α->α->Bool}
abbrev jW(lt:α->α->Bool):List α->Bool
 |a::b::r=>lt a b&&jW lt (b::r)
 |_=>J
theorem vG(L:eQ lt):∀xs:List α,jW lt xs=J<->bG lt xs
 |[]=>⟨λ_=>.nil,λ_=>rfl⟩
 |[a]=>⟨λ_=>Rn _ _,λ_=>rfl⟩
 |a::b::r=>by
  simp only[jW,PB,vG L (b::r)];constructor
  .rintro⟨c,h2⟩;refine P7.mpr ⟨λz hz=>?_,h2⟩;rcases PF.mp hz with e|e
   .subst e;exact c
   .exact L.cJ c ((P7.mp h2).1 z e)
  .intro h;exact⟨(P7.mp h).1 b VF,(P7.mp h).2⟩
def qi(h:k<=n):aP n d (Z (k:Int))=k:=by
 have a:¬((k:Int)<0):=by lia
 have h2:¬((n:Int)<(k:Int)):=by lia
 simp only[aP,if_neg a,if_neg h2];lia
def Aq(h:n<k):aP n d (Z (k:Int))=n:=by
 have a:¬((k:Int)<0):=by lia
 have h2:((n:Int)<(k:Int)):=by lia
 simp only[aP,if_neg a,if_pos h2]
def wL{β:Type}(xs:List β)(k:Nat):cut xs (Z (k:Int)) Y=xs.drop k:=by
 unfold cut
 by_cases h:k<=xs.length
 .rw[qi h];show List.take (xs.length-k) (xs.drop k)=_;rw[QK (by simp)]
 .rw[Aq ⋯,Yj (PE _),Yj ⋯];simp
def D5{β:Type}(xs:List β)(k:Nat):cut xs Y (Z (k:Int))=xs.take k:=by
 unfold cut
 by_cases h:k<=xs.length
 .rw[qi h];simp[aP]
 .rw[Aq ⋯];simp only[aP,List.drop_zero,Zm];rw[QK (PE _),QK ⋯]
end
def IsCell(m:Int)(c:List Int):Prop:=c≠[]/\(∀x∈c,0<=x/\x<m)/\bG ltI c
noncomputable instance (m:Int) (c:List Int):Decidable (IsCell m c):=by unfold IsCell bG;infer_instance
def xU{α:Type}(xs:List α)(k:Nat):hS xs (k:Int)=xs[k]?:=by
 unfold hS gG;rw[if_pos ⋯]
 by_cases h:k<xs.length
 .rw[if_pos ⋯];simp
 .rw[if_neg ⋯];simp;lia
abbrev lies(c o:List Int):Bool:=c.all λx=>decide (x∈o)
def tF:lies c o=J<->∀x∈c,x∈o:=by simp[lies]
def FW{α β:Type}(f:α->β)(xs:List α):xs.filterMap (λx=>Z (f x))=xs.map f:=by
 induction xs with
 |nil=>rfl
 |cons x xs a=>simp
def FV{α β:Type}(q:α->Bool)(f:α->β)(xs:List α):xs.filterMap (λx=>if q x then Z (f x) else Y)=(xs.filter q).map f:=by
 induction xs with
 |nil=>rfl
 |cons x xs a=>cases h:q x<;>simp[h,a]
abbrev aT(m:Int):List Int:=(VR m.toNat).map λ(k:Nat)=>(k:Int)
def l7(m):c6 0 m=(aT m).map .int:=by
 unfold c6 aT;rw[VU];have:(m-0).toNat=m.toNat:=by lia
 rw[this];apply Q8;intro k _;simp
def lL:x∈aT m<->0<=x/\x<m:=by
 unfold aT;rw[VP];constructor
 .rintro⟨k,a,rfl⟩;have:=VZ.mp a;lia
 .rintro⟨b,h2⟩;exact⟨x.toNat,VZ.mpr ⋯,⋯⟩
def eH(m:Int)(ts:List (List Int)):Bool:=(aT m).all λk=>ts.any (lies [k])
def sD:eH m ts=J<->∀x,0<=x->x<m->∃t∈ts,x∈t:=by
 unfold eH;simp only[Qd,S0,tF,lL,P6,forall_eq];exact⟨λh x a b=>h x ⟨a,b⟩,λh x ab=>h x ab.1 ab.2⟩
def Al(h:-1000<=m)(h':m<=1000):ky m=true:=by unfold ky;simp;lia
def iQ(a:-1000<=i)(h2:i<=1000)(h3:-1000<=j)(h4:j<=1000):gL i j=.ok (c6 i j):=by
 have h5:(j-i).toNat<=1000000:=by lia
 unfold gL;rw[Al a h2,Al h3 h4,decide_eq_true h5];rfl
def FO{α:Type}{p:α->Bool}{c:α}(pre)(h:p c=J):(pre++[c]).filter p=pre.filter p++[c]:=by rw[Sy];simp[h]
def FN{α:Type}{p:α->Bool}{c:α}(pre)(h:p c=VC):(pre++[c]).filter p=pre.filter p:=by rw[Sy];simp[h]
def f3(cs:List (List Int)):List (List Int):=(br lexLt (bF cs)).filter λc=>!((br lexLt (bF cs)).filter λo=>decide (c.length<o.length)).any (lies c)
def fM:SZ=16777216:=rfl
def aL(m:Int)(ts:List (List Int)):D:=.tup [.int m,.tup (ts.map af)]
def kc(d:D):Prop:=∀m ts,d=aL m ts->(∀c∈ts,IsCell m c)->(bF ts).length<=63
end cL
end
section
namespace bY
open ζ ar cL
variable{pg:cT}{Φ:dw}
mutual
theorem Mh:∀(n:Nat)(d:D),bR n d=J->bR (n+1) d=J
 |n,.aW,_=>rfl
 |n,.ag _,_=>rfl
 |n,.int _,_=>rfl
 |0,.str _,h=>h
 |n+1,.str _,h=>h
 |0,.tup _,h=>by cases h
 |n+1,.tup xs,h=>uG n xs h
 |0,.lst _,h=>by cases h
 |n+1,.lst xs,h=>uG n xs h
 |0,.aI _,h=>by cases h
 |0,.aO _,h=>by cases h
 |n+1,.aI _,h=>by cases h
 |n+1,.aO _,h=>by cases h
 |0,.d4 _,h=>by cases h
 |n+1,.d4 _,h=>by cases h
theorem uG:∀(n:Nat)(xs:List D),xs.all (bR n)=J->xs.all (bR (n+1))=J
 |_,[],_=>rfl
 |n,x::xs,h=>by
  simp only[WS,PB]at h ⊢;exact⟨Mh n x h.1,uG n xs h.2⟩
end
def FU{α β:Type}(p:α->Option β)(xs:List α):(xs.filterMap p).isEmpty=xs.all λx=>(p x).isNone:=by
 induction xs with
 |nil=>rfl
 |cons x xs a=>simp only[Ww,WS];cases p x<;>simp[a]
def tl{c:List Int}{k:Nat}(h:c[k]?=Z x):fU (.tup (c.map .int)) (.int (k:Int))=.ok (.int x):=by
 rw[yc,xU,PX,h];rfl
def KD(n:Nat):c6 1 (n:Int)=(VR (n-1)).map λ(k:Nat)=>D.int ((k:Int)+1):=by
 unfold c6;have:((n:Int)-1).toNat=n-1:=by lia
 rw[this];apply Q8;intro k _;congr 1;lia
def DW{a:List Nat}(h:∀k∈a,g (f k)=.ok (p k)):bA g (a.map f)=.ok (a.filterMap p):=by
 induction a with
 |nil=>rfl
 |cons c cs d =>
  simp only[VK,bA,h c VF,R.iN,d λy b=>h y (VG _ b),Ww];cases p c<;>rfl
theorem vH:∀(c:List Int),jW ltI c=(VR (c.length-1)).all λk=>decide (c.getD k 0<c.getD (k+1) 0)
 |[]=>rfl
 |[_]=>rfl
 |a::b::r=>by
  have e:(a::b::r).length-1=(b::r).length-1+1:=(by simp);rw[e,Ts,WS,Ss];simp only[jW,vH (b::r)];rfl
end bY
end
section
namespace bY
open ζ ar cL
def wG{α:Type}{p:α->Option D}{f:α->D}{a:List α}(h:∀k∈a,g (f k)=.ok (p k)):bA g (a.map f)=.ok (a.filterMap p):=by
 induction a with
 |nil=>rfl
 |cons c cs d =>
  simp only[VK,bA,h c VF,R.iN,d λy b=>h y (VG _ b),Ww];cases p c<;>rfl
def ff{α:Type}{q:α->Bool}{h f:α->D}{a:List α}(e:∀k∈a,g (f k)=.ok (if q k then Z (h k) else Y)):bA g (a.map f)=.ok ((a.filter q).map h):=by
 rw[wG e,FV]
def fN{α:Type}{h f:α->D}{a:List α}(e:∀k∈a,g (f k)=.ok (Z (h k))):bA g (a.map f)=.ok (a.map h):=by
 rw[wG (p:=λk=>Z (h k)) e,FW]
def ql(c):cD (af c)=.ok (c.map .int):=rfl
def xD{α:Type}(q)(xs:List α):(xs.filter q).isEmpty=xs.all λx=>!q x:=by
 induction xs with
 |nil=>rfl
 |cons x xs a=>cases h:q x<;>simp[h,a]
def pS{α β:Type}(f:α->β)(xs:List α):(xs.map f).isEmpty=xs.isEmpty:=by cases xs<;>rfl
def HN(c o):bq pg Φ ⟨2,0,aj.rL⟩ [af c,af o]=.ok (.ag (lies c o)):=by
 have e1:bA (elem pg Φ [Z (af c),Z (af o)] 2e0 0 (.some (.cmp .iI 2e0 1e0))) (c.map .int)=.ok ((c.filter λx=>!decide (x∈o)).map .int):=ff λx _=>by
  simp!;unfold af;simp![Iw];cases decide (x∈o)<;>simp!
 simp![aj.rL,ql,e1,ll (ys:=(c.filter λx=>!decide (x∈o)).map .int) (by simp[Ss,n3]),pS,xD,lies,Bool.not_not]
def km(cs:List (List Int)):List (List Int):=(br lexLt (bF cs)).filter λc=>cs.all λo=>!(!decide (c=o)&&lies c o)
def HS(h:∀c o:List Int,Φ f [af c,af o]=.ok (.ag (lies c o)))(b:cD d=.ok (cs.map af))(m:∀c∈cs,c≠[])(a:(bF cs).length<=255):
  bq pg Φ ⟨1,2,aj.rV f⟩ [d]=.ok (.tup ((km cs).map af)):=by
 simp![aj.rV,b,uP m a];have t:(br lexLt (bF cs)).length<=255:=by rw[nD];exact a
 unfold km;generalize br lexLt (bF cs)=ds at *;obtain⟨u,e,x,k⟩:=fk (f:=af) (g:=turn pg Φ 0 [2] {.iff (.cmp .eq (.comp 3e0 0 (.seq 0e0) (.some (.and (.cmp .ne 2e0 3e0) (.call f {2e0,3e0})))) (.lst .nil)) {.app 1 2e0} .nil})
  (λp i=>∃(x:Option D),i=[Z d,Z (.lst ((p.filter λc=>cs.all λo=>!(!decide (c=o)&&lies c o)).map af)),x])
  ds [Z d,Z (.lst []),Y] ⟨Y,rfl⟩ (λpre c post i n r=>by
   obtain⟨x,j⟩:=r;subst j;have e1:∀z,bA (elem pg Φ [Z d,z,Z (af c)] 3e0 0 (.some (.and (.cmp .ne 2e0 3e0) (.call f {2e0,3e0})))) (cs.map af)=.ok ((cs.filter λo=>!decide (c=o)&&lies c o).map af):=λz=>ff λo _=>by
    simp![EK,h];cases decide (c=o)<;>simp![h,SR,Y3];cases lies c o<;>simp!
   have l:((pre.filter λc=>cs.all λo=>!(!decide (c=o)&&lies c o)).map af).length<SZ:=by
    have s:=TB (λc=>cs.all λo=>!(!decide (c=o)&&lies c o)) pre;have h2:pre.length<=ds.length:=(by rw[n];simp);rw[VD,fM];lia
   simp![b,e1,ll (mf 58 _),pS,xD];cases q:(cs.all λo=>!(!decide (c=o)&&lies c o))
   .refine⟨_,by simp!;rfl,Z (af c),?_⟩;rw[FN pre (by rw[q])]
   .refine⟨_,by simp![oJ,if_pos l];rfl,Z (af c),?_⟩;rw[FO pre (by rw[q]),VW];rfl)
 rw[e,k];simp!
def CC(a:bG ltI c)(d:bG ltI o)(h:∀x∈c,x∈o)(e:c≠o):c.length<o.length:=by
 have f:c.length<=o.length:=gm (a.nodup ho) h;rcases Vy c.length o.length with q|q
 .exact q
 .exfalso;apply e;refine ij ho a d λz=>⟨h z,λhz=>?_⟩
  by_cases b:z∈c
  .exact b
  .exfalso;have:(z::c).length<=o.length:=gm (Qk.mpr ⟨b,a.nodup ho⟩) λw hw=>by
    rcases PF.mp hw with rfl|hw
    .exact hz
    .exact h w hw
   simp at this;lia
def Ie(h:∀c∈cs,bG ltI c):km cs=f3 cs:=by
 unfold km f3;apply UE;intro c b;have d:∀z,z∈br lexLt (bF cs)<->z∈cs:=λz=>by rw[fX,fo]
 have b:=(d c).mp b;rw[R4];simp only[Qd,Qn,Bool.and_eq_false_iff,Vv,PM,Ut,P4,d];constructor
 .rintro q o ⟨a,f⟩;rcases q o a with rfl|q
  .omega
  .rw[q];exact QL
 .intro q o a
  by_cases e:c=o
  .exact .inl e
  .refine .inr ?_;cases z:lies c o with
   |false=>rfl
   |true=>exact absurd z (q o ⟨a,CC (h c b) (h o a) (tF.mp z) e⟩)
def kZ(h:IsCell m c):c.length<=m.toNat:=by
 have:c.length<=(aT m).length:=gm (h.2.2.nodup ho) λz hz=>lL.mpr (h.2.1 z hz)
 simpa[aT] using this
def nu(h:m<=8):(aT m).length<=8:=by unfold aT;simp;lia
abbrev bu:Nat->List Int->List (List Int)
 |0,_=>[[]]
 |_+1,[]=>[]
 |s+1,x::r=>(bu s r).map (x::·)++bu (s+1) r
theorem ju:∀(s:Nat)(c z:List Int),z∈bu s c<->z.length=s/\z.Sublist c
 |0,c,z=>by
  simp only[bu,P6,Tg];exact⟨λh=>⟨h,by subst h;exact S1 _⟩,λh=>h.1⟩
 |s+1,[],z=>by
  simp only[bu,Sp,TM,false_iff];rintro⟨a,h2⟩;subst h2;simp at a
 |s+1,x::r,z=>by
  simp only[bu,PS,VP,ju s r,ju (s+1) r,List.sublist_cons_iff];constructor
  .rintro(⟨y,⟨a,h2⟩,rfl⟩|⟨a,h2⟩)
   .exact⟨by simp[a],.inr ⟨y,rfl,h2⟩⟩
   .exact⟨a,.inl h2⟩
  .rintro⟨a,h2|⟨y,rfl,h2⟩⟩
   .exact .inr ⟨a,h2⟩
   .exact .inl ⟨y,⟨⇑a,h2⟩,rfl⟩
theorem nC:∀(s:Nat)(c:List Int),(bu s c).length<=2 ^ c.length
 |0,c=>by simp only[bu,V8];exact Nat.one_le_two_pow
 |s+1,[]=>by simp[bu]
 |s+1,x::r=>by
  have a:=nC s r;have h2:=nC (s+1) r;simp only[bu,PI,VD,VS,W3];lia
abbrev bV:Nat->Nat->Nat
 |0,_=>1
 |_+1,0=>0
 |s+1,n+1=>bV s n+bV (s+1) n
theorem qa:∀(s:Nat)(c:List Int),(bu s c).length=bV s c.length
 |0,c=>by simp[bu,bV]
 |s+1,[]=>by simp[bu,bV]
 |s+1,x::r=>by simp only[bu,PI,VD,VS,bV,qa s r,qa (s+1) r]
theorem uc:∀{s n:Nat},n<s->bV s n=0
 |0,_,h=>by lia
 |s+1,0,_=>rfl
 |s+1,n+1,h=>by simp only[bV,uc (s:=s) (n:=n) ⋯,uc (s:=s+1) (n:=n) ⋯]
def zK{s n:Nat}(h:n<=8):bV s n<=70:=by
 rcases Vy n s with q|q
 .rw[uc q];lia
 .have:∀n:Fin 9,∀s:Fin 9,bV s.val n.val<=70:=∅;exact this ⟨n,⋯⟩ ⟨s,⋯⟩
theorem zP:∀(s:Nat)(c:List Int),bu (s+1) c=(VR c.length).flatMap λk=>(bu s (c.drop (k+1))).map (c.getD k 0::·)
 |s,[]=>rfl
 |s,x::r=>by
  rw[VS,Ts,UG,List.flatMap_map];show _=(bu s r).map (x::·)++(VR r.length).flatMap λk=>(bu s (r.drop (k+1))).map (r.getD k 0::·)
  rw[<- zP s r];rfl
def Gy{c:List Int}(h:k<c.length):fU (.tup (c.map .int)) (.int (k:Int))=.ok (.int (c.getD k 0)):=tl (by rw[PG h];simp[WG,PG h])
def ui(n:Nat):c6 0 (n:Int)=(VR n).map λ(k:Nat)=>D.int (k:Int):=by
 unfold c6;have:((n:Int)-0).toNat=n:=by lia
 rw[this];apply Q8;intro k _;congr 1;lia
theorem o8{α β:Type}{f:α->List β}:∀{xs:List α},(∀x∈xs,(f x).length<=k)->(xs.flatMap f).length<=xs.length*k
 |[],_=>by simp
 |x::xs,h=>by
  have:=o8 (f:=f) (xs:=xs) λc a=>h c (VG _ a)
  have b:=h x VF;simp only[UG,PI,VS,Nat.succ_mul];lia
def JC(c):bq pg Φ ⟨2,2,aj.kX f⟩ [af c,.int 0]=.ok (.lst ((bu 0 c).map af)):=by
 have e:dt (.int 0) (.int 0)=.ok true:=rfl;simp![aj.kX,e,bu];rfl
def JD{s:Nat}(K:c.length<=8)(u:∀h:List Int,h.length<=8->Φ f [af h,.int (s:Int)]=.ok (.lst ((bu s h).map af))):bq pg Φ ⟨2,2,aj.kX f⟩ [af c,.int ((s:Int)+1)]=.ok (.lst ((bu (s+1) c).map af)):=by
 have h0:((s:Int)+1==0)=false:=by rw[beq_eq_false_iff_ne];lia
 have l:iF (af c)=.ok (.int (c.length:Int)):=by unfold af;rw[tD,VD]
 simp![aj.kX,h0,l,iQ (i:=0) (j:=(c.length:Int)) ⋯ ⋯ ⋯ ⋯,ui];have q:∀d:List Nat,d.length<=8->(d.flatMap λk=>(bu s (c.drop (k+1))).map (c.getD k 0::·)).length<=2048:=λd n=>by
  have:=o8 (f:=λk=>(bu s (c.drop (k+1))).map (c.getD k 0::·)) (k:=256) (xs:=d) λk _=>by
   have h2:=nC s (c.drop (k+1));have h3:(c.drop (k+1)).length<=8:=(by rw[Q6];lia);have h4:2 ^ (c.drop (k+1)).length<=2 ^ 8:=Qr ∅ h3;rw[VD];lia
  lia
 obtain⟨N,e,x,t⟩:=fk (f:=λk:Nat=>D.int (k:Int)) (g:=turn pg Φ 0 [3] {.asg 2 (.bin .add 2e0 (.comp (.bin .add (.tup {.idx 0e0 3e0}) 4e0) 0 (.seq (.call f {.slice 0e0 (.some (.bin .add 3e0 1e1)) .none,.bin .sub 1e0 1e1})) .none))})
  (λG p=>∃(x:Option D),p=[Z (af c),Z (.int ((s:Int)+1)),Z (.lst ((G.flatMap λk=>(bu s (c.drop (k+1))).map (c.getD k 0::·)).map af)),x])
  (VR c.length) [Z (af c),Z (.int ((s:Int)+1)),Z (.lst []),Y] ⟨Y,rfl⟩ (λpre k post p o H=>by
   obtain⟨x,r⟩:=H;subst r;have n:k<c.length:=by
    have:k∈VR c.length:=(by rw[o];simp);exact VZ.mp this
   have L:pre.length+1<=c.length:=by
    have:(VR c.length).length=(pre++k::post).length:=(by rw[o]);simp at this;lia
   have y:hy (af c) (Z ((k:Int)+1)) Y=.ok (af (c.drop (k+1))):=by
    unfold af;rw[qo];have:((k:Int)+1)=((k+1:Nat):Int):=⋯;rw[this,wL,List.map_drop]
   have C:(s:Int)+1-1=(s:Int):=⋯;have m:(c.drop (k+1)).length<=8:=(by rw[Q6];lia);have e1:∀a b,bA (elem pg Φ [Z (af c),a,b,Z (D.int (k:Int))] (.bin .add (.tup {.idx 0e0 3e0}) 4e0) 0 .none) ((bu s (c.drop (k+1))).map af)=.ok ((bu s (c.drop (k+1))).map λz=>af (c.getD k 0::z)):=λa b=>fN λz hz=>by
    have hz:=(ju _ _ _).mp hz;have M:=hz.2.length_le;have F:=Gy n;have v:[D.int (c.getD k 0)].length+(z.map D.int).length<=SZ:=(by rw[VD,fM];simp only[V8];lia);simp!;unfold af;simp![F,oH];rw[if_pos ⇑v];rfl
   have w:((pre.flatMap λk=>(bu s (c.drop (k+1))).map (c.getD k 0::·)).map af).length+((bu s (c.drop (k+1))).map λz=>af (c.getD k 0::z)).length<=SZ:=by
    have l:=q pre ⋯;have h2:=nC s (c.drop (k+1));have h4:2 ^ (c.drop (k+1)).length<=2 ^ 8:=Qr ∅ m;rw[VD,VD,fM];lia
   refine⟨_,by simp![y,C,u _ m,e1,jV,if_pos w];rfl,Z (.int (k:Int)),?_⟩;simp[S5])
 rw[e,t,<- zP];simp!
theorem zv(a:fds[f]?=Z ⟨2,2,aj.kX f⟩):∀(s n:Nat)(c:List Int),s<n->c.length<=8->run pg fds n f [af c,.int (s:Int)]=.ok (.lst ((bu s c).map af))
 |0,0,c,h,_=>by lia
 |s+1,0,c,h,_=>by lia
 |0,n+1,c,_,_=>by rw[nZ,a];exact JC c
 |s+1,n+1,c,h,d=>by
  rw[nZ,a];have:((s+1:Nat):Int)=(s:Int)+1:=⋯;rw[this];exact JD d λb e=>zv a s n b ⋯ e
theorem oK:∀{o c:List Int},bG ltI c->bG ltI o->(∀x∈c,x∈o)->c.Sublist o
 |[],[],_,_,_=>S1 _
 |[],x::c,_,_,h=>by have:=h x VF;simp at this
 |y::o,[],_,_,_=>S1 _
 |y::o,x::c,b,g,h=>by
  obtain⟨a,f⟩:=P7.mp b;obtain⟨k,d⟩:=P7.mp g
  by_cases e:x=y
  .subst e;refine List.Sublist.cons_cons x (oK f d λz hz=>?_);rcases PF.mp (h z (VG _ hz)) with q|q
   .have:=a z hz;subst q;simp[ltI]at this
   .exact q
  .have i:x∈o:=by
    rcases PF.mp (h x VF) with q|q
    .exact absurd q e
    .exact q
   have j:=k x i;refine List.Sublist.cons y (oK b d λz hz=>?_);rcases PF.mp (h z hz) with q|q
   .exfalso;subst q;rcases PF.mp hz with w|w
    .exact e w.symm
    .have:=a z w;simp[ltI]at this j;lia
   .exact q
def g8(ts:List (List Int))(h:Nat):List (List Int):=br lexLt (bF (ts.flatMap (bu (h+1))))
def tL:z∈g8 ts h<->z.length=h+1/\∃t∈ts,z.Sublist t:=by
 unfold g8;rw[fX,fo,RV];simp only[ju];exact⟨λ⟨t,a,b,c⟩=>⟨b,t,a,c⟩,λ⟨b,t,a,c⟩=>⟨t,a,b,c⟩⟩
def vS(ts)(h):bG lexLt (g8 ts h):=g5 eW (hr _)
def vV(m):bG ltI (aT m):=by
 unfold aT bG;rw[QU];exact SN (λ{a b}(q:a<b)=>by simp[ltI];lia) To
def wo(h:IsCell m c):c.Sublist (aT m):=oK h.2.2 (vV m) λx a=>lL.mpr (h.2.1 x a)
def A4(h:IsCell m t)(s:z.Sublist t)(hz:z≠[]):IsCell m z:=⟨hz,λx a=>h.2.1 x (s.subset a),QD s h.2.2⟩
def Dr(d:∀t∈ts,IsCell m t)(hz:z∈g8 ts h):IsCell m z:=by
 obtain⟨a,t,b,c⟩:=tL.mp hz;exact A4 (d t b) c (by intro e;subst e;simp at a)
def Ds(b:m<=8)(a:∀t∈ts,IsCell m t):(g8 ts h).length<=70:=by
 have:(g8 ts h).length<=(bu (h+1) (aT m)).length:=gm ((vS ts h).nodup eW) λz hz=>by
  have:=wo (Dr a hz);exact(ju _ _ _).mpr ⟨(tL.mp hz).1,this⟩
 have e:=qa (h+1) (aT m);have:bV (h+1) (aT m).length<=70:=zK (by unfold aT;simp;lia);lia
def HJ(u:∀c:List Int,c.length<=8->Φ f [af c,.int ((h:Int)+1)]=.ok (.lst ((bu (h+1) c).map af)))(j:∀t∈ts,t.length<=8)(H:ts.length<=255)(b:(g8 ts h).length<=255):
  bq pg Φ ⟨2,2,aj.rE f⟩ [aL m ts,.int (h:Int)]=.ok (.lst ((g8 ts h).map af)):=by
 have hi:fU (aL m ts) (.int 1)=.ok (.tup (ts.map af)):=rfl;simp![aj.rE,hi];have n:∀a:List (List Int),a.length<=255->(∀t∈a,t.length<=8)->(a.flatMap (bu (h+1))).length<=65280:=λa G q=>by
  have:=o8 (f:=bu (h+1)) (k:=256) (xs:=a) λt l=>by
   have h2:=nC (h+1) t;have h4:2 ^ t.length<=2 ^ 8:=Qr ∅ (q t l);lia
  lia
 obtain⟨L,e,x,s⟩:=fk (f:=af) (g:=turn pg Φ 0 [3] {.asg 2 (.bin .add 2e0 (.call f {3e0,.bin .add 1e0 1e1}))})
  (λy p=>∃(x:Option D),p=[Z (aL m ts),Z (.int (h:Int)),Z (.lst ((y.flatMap (bu (h+1))).map af)),x])
  ts [Z (aL m ts),Z (.int (h:Int)),Z (.lst []),Y] ⟨Y,rfl⟩ (λpre t post p i C=>by
   obtain⟨x,r⟩:=C;subst r;have o:t∈ts:=(by rw[i];simp);have K:pre.length+1<=ts.length:=(by rw[i];simp);have F:=n pre ⋯ λt l=>j t (by rw[i];simp[l])
   have h2:=n [t] (by simp) λz hz=>by simp at hz;subst hz;exact j z o
   have v:((pre.flatMap (bu (h+1))).map af).length+((bu (h+1) t).map af).length<=SZ:=by
    simp at h2;rw[VD,VD,fM];lia
   refine⟨_,by simp![u t (j t o),jV,if_pos v];rfl,Z (af t),?_⟩;simp[S5])
 rw[e,s];have w:∀c∈ts.flatMap (bu (h+1)),c≠[]:=λc d=>by
  obtain⟨t,_,d⟩:=RV.mp d;intro z;subst z;have:=((ju _ _ _).mp d).1;simp at this
 have:(bF (ts.flatMap (bu (h+1)))).length<=255:=by unfold g8 at b;rw[nD]at b;exact b
 simp![uP w this,g8]
abbrev Bw:D->Int
 |.int i=>i
 |_=>0
def hp(i j)(h:(-dk<i/\i<dk)\/(-dk<j/\j<dk)):bK .mul (.int i) (.int j)=.ok (.int (i*j)):=by rw[mul_int,if_pos h]
def eb(i j)(h:0<j):bK .mod (.int i) (.int j)=.ok (.int (i%j)):=by rw[mod_int,if_pos h]
def ng(i j)(h:0<j)(h':j<1073741824):bK .fdiv (.int i) (.int j)=.ok (.int (i / j)):=by rw[xw,if_pos ⟨h,h'⟩]
def gs:dk=18446744073709551616:=rfl
abbrev ib:Int:=2147483629
def vx:ib=2147483629:=rfl
def ix(a){b:Int}(h:0<b):0<=a%b/\a%b<b:=⟨U7 a ⋯,Ug a h⟩
def Et(i k):∃r:Int,0<=r/\r<ib/\bq pg Φ ⟨2,1,aj.rG⟩ [.int i,.int k]=.ok (.int r):=by
 have b1:=ix ((i+104729*k+17)*69621) (b:=2147483647) ∅;refine⟨((i+104729*k+17)*69621%2147483647*((i+104729*k+17)*69621%2147483647)+3*((i+104729*k+17)*69621%2147483647)+k)%2147483629,?_,?_,by
  simp![aj.rG,hp 104729 k (.inl (by rw[gs];lia)),hp _ 69621 (.inr (by rw[gs];lia)),eb _ 2147483647 ∅,eb _ 2147483629 ∅,
   hp ((i+104729*k+17)*69621%2147483647) ((i+104729*k+17)*69621%2147483647) (.inl (by rw[gs];lia)),hp 3 ((i+104729*k+17)*69621%2147483647) (.inl (by rw[gs];lia))]⟩
 .exact(ix _ ∅).1
 .rw[vx];exact(ix _ ∅).2
def Dq(a:List Int)(k:Nat):bq pg Φ ⟨2,0,aj.rD⟩ [.lst (a.map .int),.int (k:Int)]=.ok (.int (a.getD k 0)):=by
 simp![aj.rD,VD]
 by_cases h:k<a.length
 .have h':(k:Int)<(a.length:Int):=⋯;have e:fU (.lst (a.map D.int)) (.int (k:Int))=.ok (.int (a.getD k 0)):=by
   rw[yb,xU,PX,PG h];simp[WG,PG h]
  simp![decide_eq_true h',e]
 .have h':¬(k:Int)<(a.length:Int):=⋯;have e:a.getD k 0=0:=(by simp[WG,Qb (SV h)]);simp![decide_eq_false h',e]
def IG{a:List Int}(c:∀k:Nat,Φ f [.lst (a.map .int),.int (k:Int)]=.ok (.int (a.getD k 0)))(k:Nat):∃r:Int,0<=r/\r<ib/\bq pg Φ ⟨2,1,aj.rM f⟩ [.lst (a.map .int),.int (k:Int)]=.ok (.int r):=by
 have b1:=ix ((a.getD k 0+7919*(k:Int)+1)*48271) (b:=2147483647) ∅;refine⟨((a.getD k 0+7919*(k:Int)+1)*48271%2147483647*((a.getD k 0+7919*(k:Int)+1)*48271%2147483647)+7*((a.getD k 0+7919*(k:Int)+1)*48271%2147483647)+(k:Int))%2147483629,?_,?_,by
  simp![aj.rM,c,hp 7919 (k:Int) (.inl (by rw[gs];lia)),hp _ 48271 (.inr (by rw[gs];lia)),eb _ 2147483647 ∅,eb _ 2147483629 ∅,
   hp ((a.getD k 0+7919*(k:Int)+1)*48271%2147483647) ((a.getD k 0+7919*(k:Int)+1)*48271%2147483647) (.inl (by rw[gs];lia)),hp 7 ((a.getD k 0+7919*(k:Int)+1)*48271%2147483647) (.inl (by rw[gs];lia))]⟩
 .exact(ix _ ∅).1
 .rw[vx];exact(ix _ ∅).2
def Mu(l:∀i k:Int,∃r:Int,0<=r/\r<ib/\Φ f [.int i,.int k]=.ok (.int r))(i m)(o:1<=m)(p:m<=8):
  ∃cs:List (List Int),bq pg Φ ⟨2,4,aj.rU f⟩ [.int i,.int m]=.ok (.lst (cs.map af))/\(∀c∈cs,IsCell m c)/\eH m cs=J/\cs.length<=16:=by
 have t:=iQ (i:=0) (j:=m) ⋯ ⋯ ⋯ ⋯;have a1:=ix i (b:=9) ∅;have U:=iQ (i:=0) (j:=i%9) ⋯ ⋯ ⋯ ⋯;have a2:c6 0 (i%9)=(aT (i%9)).map .int:=l7 _;have e0:bA (elem pg Φ [Z (.int i),Z (.int m),Y,Y,Y,Y] (.tup {6e0}) 0 .none) ((aT m).map .int)=.ok ((aT m).map λk=>af [k]):=fN λk _=>by
  simp!;rfl
 simp![aj.rU,t,l7,e0,eb i 9 ∅,U];have h0:∀k∈aT m,IsCell m [k]:=λk n=>⟨by simp,by simpa using lL.mp n,Rn _ _⟩
 obtain⟨au,e,cs,x,y,z,G,d,K⟩:=fk (f:=D.int) (g:=turn pg Φ 0 [3] {.asg 4 (.call f {0e0,3e0}),.asg 5 (.tupI (.seq (.comp 6e0 0 (.dG 1e0) (.some (.cmp .lt (.bin .mod (.call f {4e0,6e0}) 5e1) (.bin .add 2e1 (.bin .mod 4e0 2e1))))))),.iff (.cmp .ne 5e0 (.tup .nil)) {.app 2 5e0} .nil})
  (λX v=>∃(cs:List (List Int))(x y z:Option D),v=[Z (.int i),Z (.int m),Z (.lst (((aT m).map λk=>[k]).map af++cs.map af)),x,y,z]/\(∀c∈cs,IsCell m c)/\cs.length<=X.length)
  (aT (i%9)) [Z (.int i),Z (.int m),Z (.lst ((aT m).map λk=>af [k])),Y,Y,Y] ⟨[],Y,Y,Y,by simp[Function.comp_def],by simp,by simp⟩ (λpre k post v P a0=>by
   obtain⟨cs,x,y,z,C,d,K⟩:=a0;subst C;obtain⟨r,a4,a5,T⟩:=l i k;have ex:∃q:Int->Bool,∀x y z,bA (elem pg Φ [Z (.int i),Z (.int m),x,y,Z (.int r),z] 6e0 0 (.some (.cmp .lt (.bin .mod (.call f {4e0,6e0}) 5e1) (.bin .add 2e1 (.bin .mod 4e0 2e1))))) ((aT m).map .int)=.ok (((aT m).filter q).map .int):=by
    obtain⟨g,H⟩:∃g:Int->Int,∀k,Φ f [.int r,.int k]=.ok (.int (g k)):=⟨λk=>Classical.choose (l r k),λk=>(Classical.choose_spec (l r k)).2.2⟩;refine⟨λk=>decide (g k%5<2+r%2),λx y z=>ff λk _=>?_⟩;have V:=H k;simp![V,eb _ 5 ∅,eb _ 2 ∅]
    split<;>rfl
   obtain⟨q,Q⟩:=ex;have u:((aT m).filter q).Sublist (aT m):=RO;simp![T,t,l7,Q];have M:dt (.tup (((aT m).filter q).map .int)) (.tup [])=.ok ((aT m).filter q).isEmpty:=by
    rw[m9 (by simp[Ss,n3]),pS]
   simp![M];have a3:pre.length+1<=9:=by
    have o:(aT (i%9)).length=(pre++k::post).length:=(by rw[<- P]);have h2:(aT (i%9)).length<=9:=(by unfold aT;simp;lia);simp at o;lia
   cases s:((aT m).filter q).isEmpty
   .have N:(aT m).filter q≠[]:=(by intro z;rw[z]at s;cases s);have F:IsCell m ((aT m).filter q):=⟨N,λx W=>lL.mp (u.subset W),QD u (vV m)⟩;have L:(((aT m).map λk=>[k]).map af++cs.map af).length<SZ:=by
     have:=nu p;simp only[PI,VD,fM];lia
    refine⟨_,by simp![oJ,if_pos L];rfl,cs++[(aT m).filter q],_,_,_,by simp only[VW,PR];rfl,λc h=>?_,by simp;lia⟩;rcases PS.mp h with w|w
    .exact d c w
    .simp at w;subst w;exact F
   .exact⟨_,by simp!;rfl,cs,_,_,_,rfl,d,by simp;lia⟩)
 rw[e,G];simp!;refine⟨((aT m).map λk=>[k])++cs,by rw[VW],λc h=>?_,?_,?_⟩
 .rcases PS.mp h with w|w
  .obtain⟨k,n,rfl⟩:=VP.mp w;exact h0 k n
  .exact d c w
 .rw[sD];intro x a b;exact⟨[x],by simp[lL];exact .inl ⟨a,b⟩,by simp⟩
 .have:=nu p;have h2:(aT (i%9)).length<=8:=(by unfold aT;simp;lia);simp only[PI,VD];lia
def lN:c∈f3 cs<->c∈cs/\∀o∈cs,c.length<o.length->¬lies c o=true:=by
 unfold f3;simp only[P4,fX,fo,Qn,Ut,PM,and_imp]
def vZ(cs):bG lexLt (f3 cs):=QD RO (g5 eW (hr _))
def Ow(cs):f3 (f3 cs)=f3 cs:=by
 refine ij eW (vZ _) (vZ _) λz=>?_
 rw[lN];refine⟨λh=>h.1,λh=>⟨h,λo b a=>(lN.mp h).2 o (lN.mp b).1 a⟩⟩
theorem Bx(h:∀c∈cs,IsCell m c):∀(n:Nat)(c:List Int),c∈cs->m.toNat<=c.length+n->∃t∈f3 cs,∀x∈c,x∈t
 |0,c,d,g=>⟨c,lN.mpr ⟨d,λo a e=>by have:=kZ (h o a);lia⟩,λ_ b=>b⟩
 |n+1,c,d,g=>by
  by_cases q:∀o∈cs,c.length<o.length->¬lies c o=J
  .exact⟨c,lN.mpr ⟨d,q⟩,λ_ b=>b⟩
  .obtain⟨o,a,e,f⟩:∃o,o∈cs/\c.length<o.length/\lies c o=true:=by
    apply Qv;intro z;exact q λo a e f=>z ⟨o,a,e,f⟩
   obtain⟨t,j,i⟩:=Bx h n o a ⋯;exact⟨t,j,λx b=>i x (tF.mp f x b)⟩
structure Net(m:Int)(ts:List (List Int)):Prop where
 lo:1<=m
 hi:m<=8
 cell:∀c∈ts,IsCell m c
 top:ts=f3 ts
 eH:eH m ts=J
def I5(f:1<=m)(g:m<=8)(d:∀c∈cs,IsCell m c)(e:eH m cs=J):Net m (f3 cs) where
 lo:=f
 hi:=g
 cell:=λc h=>d c (lN.mp h).1
 top:=(Ow cs).symm
 eH:=by
  rw[sD]at e ⊢;intro x a b;obtain⟨c,h,k⟩:=e x a b;obtain⟨t,j,i⟩:=Bx d m.toNat c h ⋯;exact⟨t,j,i x k⟩
def Ov(cs):(f3 cs).length<=cs.length:=by
 unfold f3;have a:=TB (λc=>!((br lexLt (bF cs)).filter λo=>decide (c.length<o.length)).any (lies c)) (br lexLt (bF cs));have h2:=sJ cs;rw[nD]at a;lia
def pU{cs:List (List Int)}(l:∀cs:List (List Int),(∀c∈cs,c≠[])->(bF cs).length<=255->Φ f [.lst (cs.map af)]=.ok (.tup ((km cs).map af)))(g:1<=m)(j:m<=8)(q:cs.length<=70)(h:∀c∈cs,c.length<=255)(k:∀c∈cs,IsCell m (br ltI c))(p:eH m (cs.map (br ltI))=J):
  ∃ts,j9 (c3 pg Φ [Z a,Z b,Z (.int m),Z c,Z (.lst (cs.map af))] {.ret (.tup {2e0,.call f {.comp (.tupI (.seq (.prim .sorted 5e0))) 0 (.seq 4e0) .none}})})=.ok (aL m ts)/\Net m ts/\ts.length<=70:=by
 have e:∀c∈cs.map (br ltI),IsCell m c:=λc d=>by obtain⟨o,n,rfl⟩:=VP.mp d;exact k o n
 refine⟨f3 (cs.map (br ltI)),?_,I5 g j e p,by have:=Ov (cs.map (br ltI));rw[VD]at this;lia⟩;have e1:bA (elem pg Φ [Z a,Z b,Z (.int m),Z c,Z (.lst (cs.map af))] (.tupI (.seq (.prim .sorted 5e0))) 0 .none) (cs.map af)=.ok (cs.map λc=>af (br ltI c)):=fN λc d=>by
  simp![ql,Mw (h c d)];rfl
 have e2:(cs.map λc=>af (br ltI c))=(cs.map (br ltI)).map af:=by rw[VU];rfl
 have i:(bF (cs.map (br ltI))).length<=255:=by have:=sJ (cs.map (br ltI));rw[VD]at this;lia
 simp![e1,e2,l _ (λc d=>(e c d).1) i,Ie (λc d=>(e c d).2.2)];rfl
def uO(h:IsCell m c):br ltI c=c:=MD ho h.2.2
def A1{cs:List (List Int)}(h:∀c∈cs,IsCell m c):cs.map (br ltI)=cs:=by
 conv=>rhs;rw[<- List.map_id cs]
 exact Q8 λc a=>uO (h c a)
def wq:Bool:=(VR 9).all λm=>(VR 9).all λs=>(decide (s=0)||decide (m<s))||((bu s (aT (m:Int))).all (λc=>decide (IsCell (m:Int) c))&&eH (m:Int) (bu s (aT (m:Int))))
def r9:wq=true:=by decide +kernel
def B9{s:Nat}(d:1<=m)(f:m<=8)(g:1<=s)(i:(s:Int)<=m):(∀c∈bu s (aT m),IsCell m c)/\eH m (bu s (aT m))=true:=by
 have h:=r9;unfold wq at h;rw[Qd]at h;have h:=h m.toNat (VZ.mpr ⋯);rw[Qd]at h;have h:=h s (VZ.mpr ⋯);have e:((m.toNat:Nat):Int)=m:=by lia
 rw[e]at h;have a:¬s=0:=by lia
 have b:¬m.toNat<s:=by lia
 simp only[decide_eq_false a,decide_eq_false b,Bool.or_self,Bool.false_or,PB,Qd,PM]at h;exact h
def band:List (List Int):=(aT 5).map (λk=>[0,1+k,1+(k+1)%5])++(aT 5).map λk=>[1+k,1+(k+1)%5,1+(k+3)%5]
def CJ:(band.map (br ltI)).all (λc=>decide (IsCell 6 c))&&eH 6 (band.map (br ltI))&&decide (band.length<=70)&&band.all (λc=>decide (c.length<=255))=true:=by decide +kernel
def kM:List (List Int):=(aT 7).map (λk=>[k,(k+1)%7,(k+3)%7])++(aT 7).map λk=>[k,(k+2)%7,(k+3)%7]
def Oo:(kM.map (br ltI)).all (λc=>decide (IsCell 7 c))&&eH 7 (kM.map (br ltI))&&decide (kM.length<=70)&&kM.all (λc=>decide (c.length<=255))=true:=by decide +kernel
def I6(M:Int)(a0:6<=M)(a1:M<=8)(o:∀cs:List (List Int),(∀c∈cs,c≠[])->(bF cs).length<=255->Φ N [.lst (cs.map af)]=.ok (.tup ((km cs).map af)))(T:∀(s:Nat)(c:List Int),s<=8->c.length<=8->Φ K [af c,.int (s:Int)]=.ok (.lst ((bu s c).map af)))(U:∀i m:Int,1<=m->m<=8->∃cs:List (List Int),Φ L [.int i,.int m]=.ok (.lst (cs.map af))/\(∀c∈cs,IsCell m c)/\eH m cs=J/\cs.length<=16)(i:Int)(h0:0<=i):
  ∃m ts,bq pg Φ ⟨2,3,aj.rN N K L⟩ [.int i,.int M]=.ok (aL m ts)/\Net m ts/\ts.length<=70:=by
 have W:=ix i (b:=M) ⋯;have H:decide ((5:Int)<M)=true:=decide_eq_true ⋯;simp![aj.rN,eb i M ⋯,ng i 12 ∅ ∅,eb _ 8 ∅];cases k0:(i / 12%8==0)
 .cases k1:(i / 12%8==1)
  .by_cases k2:(i / 12%8==2)=J/\(6:Int)<M
   .have r:decide ((6:Int)<M)=true:=decide_eq_true k2.2;replace k2:=k2.1;have n:=Oo;simp only[PB,Qd,PM]at n;obtain⟨⟨⟨u,v⟩,F⟩,w⟩:=n;obtain⟨ts,e2,l,h⟩:=pU (pg:=pg) (Φ:=Φ) (cs:=kM) (m:=7) (a:=.int i) (b:=.int M) (c:=.int (i / 12%8)) o ∅ ∅ F w (λc f=>u _ (YW f)) v;refine⟨7,ts,?_,l,h⟩;rw[<- e2];have C:=iQ (i:=0) (j:=7) ⋯ ⋯ ⋯ ⋯;have p:∀a b c d e,bA (elem pg Φ [a,b,c,d,e] (.tup {5e0,.bin .mod (.bin .add 5e0 1e1) 7e1,.bin .mod (.bin .add 5e0 3e1) 7e1}) 0 .none) ((aT 7).map .int)=.ok ((aT 7).map λk=>af [k,(k+1)%7,(k+3)%7]):=λa b c d e=>fN λk _=>by
     simp![eb _ 7 ∅];rfl
    have q:∀a b c d e,bA (elem pg Φ [a,b,c,d,e] (.tup {5e0,.bin .mod (.bin .add 5e0 2e1) 7e1,.bin .mod (.bin .add 5e0 3e1) 7e1}) 0 .none) ((aT 7).map .int)=.ok ((aT 7).map λk=>af [k,(k+2)%7,(k+3)%7]):=λa b c d e=>fN λk _=>by
     simp![eb _ 7 ∅];rfl
    have t:kM.map af=(aT 7).map (λk=>af [k,(k+1)%7,(k+3)%7])++(aT 7).map λk=>af [k,(k+2)%7,(k+3)%7]:=by
     unfold kM;rw[VW,VU,VU];rfl
    have x:((aT 7).map (λk=>af [k,(k+1)%7,(k+3)%7])).length+((aT 7).map λk=>af [k,(k+2)%7,(k+3)%7]).length<=SZ:=by
     have:=nu (m:=7) ∅;rw[VD,VD,fM];lia
    simp![k1,k2,r,C,l7,p,q,jV,if_pos x,<- t]
   .obtain⟨cs,e,g,y,a2⟩:=U (i / 96) (1+i%M) ⋯ ⋯;obtain⟨ts,e2,l,h⟩:=pU (pg:=pg) (Φ:=Φ) (cs:=cs) (m:=1+i%M) (a:=.int i) (b:=.int M) (c:=.int (i / 12%8)) o ⋯ ⋯ ⋯ (λc f=>by have:=kZ (g c f);lia) (λc f=>by rw[uO (g c f)];exact g c f) (by rw[A1 g];exact y);refine⟨1+i%M,ts,?_,l,h⟩;rw[<- e2];cases k3:(i / 12%8==2)
    .simp![k1,k3,ng i 96 ∅ ∅,e]
    .have r:decide ((6:Int)<M)=false:=decide_eq_false λz=>k2 ⟨k3,z⟩
     simp![k1,k3,r,ng i 96 ∅ ∅,e]
  .have n:=CJ;simp only[PB,Qd,PM]at n;obtain⟨⟨⟨u,v⟩,F⟩,w⟩:=n;obtain⟨ts,e2,l,h⟩:=pU (pg:=pg) (Φ:=Φ) (cs:=band) (m:=6) (a:=.int i) (b:=.int M) (c:=.int (i / 12%8)) o ∅ ∅ ⋯ w (λc f=>u _ (YW f)) v;refine⟨6,ts,?_,l,h⟩;rw[<- e2];have C:=iQ (i:=0) (j:=5) ⋯ ⋯ ⋯ ⋯;have p:∀a b c d e,bA (elem pg Φ [a,b,c,d,e] (.tup {0e1,.bin .add 1e1 5e0,.bin .add 1e1 (.bin .mod (.bin .add 5e0 1e1) 5e1)}) 0 .none) ((aT 5).map .int)=.ok ((aT 5).map λk=>af [0,1+k,1+(k+1)%5]):=λa b c d e=>fN λk _=>by
    simp![eb _ 5 ∅];rfl
   have q:∀a b c d e,bA (elem pg Φ [a,b,c,d,e] (.tup {.bin .add 1e1 5e0,.bin .add 1e1 (.bin .mod (.bin .add 5e0 1e1) 5e1),.bin .add 1e1 (.bin .mod (.bin .add 5e0 3e1) 5e1)}) 0 .none) ((aT 5).map .int)=.ok ((aT 5).map λk=>af [1+k,1+(k+1)%5,1+(k+3)%5]):=λa b c d e=>fN λk _=>by
    simp![eb _ 5 ∅];rfl
   have t:band.map af=(aT 5).map (λk=>af [0,1+k,1+(k+1)%5])++(aT 5).map λk=>af [1+k,1+(k+1)%5,1+(k+3)%5]:=by
    unfold band;rw[VW,VU,VU];rfl
   have x:((aT 5).map (λk=>af [0,1+k,1+(k+1)%5])).length+((aT 5).map λk=>af [1+k,1+(k+1)%5,1+(k+3)%5]).length<=SZ:=by
    have:=nu (m:=5) ∅;rw[VD,VD,fM];lia
   simp![k1,H,C,l7,p,q,jV,if_pos x,<- t]
 .have X:=ix (i / 96) (b:=1+i%M) ⋯;obtain⟨s,V⟩:∃s:Nat,(s:Int)=1+i / 96%(1+i%M):=⟨(1+i / 96%(1+i%M)).toNat,⋯⟩;obtain⟨g,y⟩:=B9 (m:=1+i%M) (s:=s) ⋯ ⋯ ⋯ ⋯;have P:(aT (1+i%M)).length<=8:=(by unfold aT;simp;lia);have Q:(bu s (aT (1+i%M))).length<=70:=(by rw[qa];exact zK P);obtain⟨ts,e2,l,h⟩:=pU (pg:=pg) (Φ:=Φ) (cs:=bu s (aT (1+i%M))) (m:=1+i%M) (a:=.int i) (b:=.int M) (c:=.int (i / 12%8)) o ⋯ ⋯ Q (λc f=>by have:=kZ (g c f);lia) (λc f=>by rw[uO (g c f)];exact g c f) (by rw[A1 g];exact y);refine⟨1+i%M,ts,?_,l,h⟩;rw[<- e2];have G:=T s (aT (1+i%M)) ⋯ ⋯;unfold af at G;simp![ng i 96 ∅ ∅,eb (i / 96) (1+i%M) ⋯,<- V,iQ (i:=0) (j:=1+i%M) ⋯ ⋯ ⋯ ⋯,l7,G];rfl
abbrev bj(c:List Int):List (List Int):=if 1<c.length then(VR c.length).map λk=>c.take k++c.drop (k+1) else []
def aV(a b:List (List Int)):List (List Int):=br lexLt (bF (a.filter (λx=>!decide (x∈b))++b.filter λx=>!decide (x∈a)))
def dj(cs:List (List Int)):List (List Int):=cs.foldl (λf c=>aV f (bj c)) []
def Iy:e∈aV a b<->(e∈a/\e∉b)\/(e∈b/\e∉a):=by
 unfold aV;rw[fX,fo,PS,P4,P4];simp
def CB(a b):bG lexLt (aV a b):=g5 eW (hr _)
def vW(h:bG lexLt xs):xs.Nodup:=SN (λ{a b} h e=>by subst e;rw[eW.dX]at h;cases h) h
def rn(h:bG ltI xs):xs.Nodup:=SN (λ{a b} h e=>by subst e;rw[ho.dX]at h;cases h) h
def cnt(e:List Int)(cs:List (List Int)):Nat:=cs.countP λc=>decide (e∈bj c)
theorem p6{α:Type}(lt):∀xs:List α,(br lt xs).Perm xs
 |[]=>.nil
 |x::xs=>(nS lt x (br lt xs)).trans ((p6 lt xs).cons x)
 where nS {α:Type} (lt:α->α->Bool) (x:α):∀ys:List α,(ins lt x ys).Perm (x::ys)
  |[]=>.refl _
  |y::ys=>by
   unfold ins
   split
   .exact((nS lt x ys).cons y).trans (XJ x y ys)
   .exact .refl _
def zD{α:Type}[DecidableEq α]{xs ys:List α}(a:xs.Nodup)(b:ys.Nodup)(h:∀z,z∈xs<->z∈ys):xs.Perm ys:=(Uh a b).mpr h
def kA(h:bG ltI c):e∈bj c<->1<c.length/\e.length+1=c.length/\e.Sublist c:=by
 unfold bj;constructor
 .intro f
  split at f
  .rename_i g;obtain⟨k,a,rfl⟩:=VP.mp f;have a:=VZ.mp a;refine⟨g,by rw[PI,Qt,Q6];lia,?_⟩
   conv=>rhs;rw[<- QN k c]
   refine YX (UH _) ?_;rw[Qw a];exact Yk _ _
  .cases f
 .rintro⟨g,j,b⟩;rw[if_pos g];refine VP.mpr ?_;have l:∀{e c:List Int},e.Sublist c->e.length+1=c.length->∃k,k<c.length/\c.take k++c.drop (k+1)=e:=by
   intro e c b
   induction b with
   |slnil=>intro z;cases z
   |@cons e c x b i =>
    intro z;have:e.length=c.length:=⇑z;exact⟨0,by simp,by simpa using (b.eq_of_length this).symm⟩
   |@cons_cons e c x b i =>
    intro z;obtain⟨k,a,d⟩:=i ⇑z;exact⟨k+1,⇑a,by simp[d]⟩
  obtain⟨k,a,d⟩:=l b j;exact⟨k,VZ.mpr a,d⟩
def uH(h:bG ltI c)(a:e∈bj c):bG ltI e:=QD ((kA h).mp a).2.2 h
def EM(b:bG ltI c)(g:bG ltI e)(m:e.Sublist c)(i:k<c.length):e.Sublist (c.take k++c.drop (k+1))<->c[k]∉e:=by
 have d:=rn b;have a:(c.take k++c[k]::c.drop (k+1))=c:=by rw[<- Qw i,QN]
 rw[<- a]at d;have j:∀x,x∈c<->x=c[k]\/x∈c.take k++c.drop (k+1):=λx=>by
  conv=>lhs;rw[<- a]
  simp only[PS,PF];constructor
  .rintro(h|h|h)
   .exact .inr (.inl h)
   .exact .inl h
   .exact .inr (.inr h)
  .rintro(h|h|h)
   .exact .inr (.inl h)
   .exact .inl h
   .exact .inr (.inr h)
 have l:c[k]∉c.take k++c.drop (k+1):=λz=>by
  have:=UP.nodup_iff.mp d;exact(Qk.mp this).1 z
 have n:(c.take k++c.drop (k+1)).Sublist c:=by
  conv=>rhs;rw[<- a]
  exact YX (UH _) (Yk _ _)
 constructor
 .exact λz w=>l (z.subset w)
 .exact λz=>oK g (QD n b) λx f=>((j x).mp (m.subset f)).elim (λe=>absurd (e▸f) z) id
theorem yB{α:Type}(p):∀c:List α,c.length=c.countP p+c.countP (λx=>!p x)
 |[]=>rfl
 |x::c=>by
  rw[VS,yB p c,Wz,Wz];cases p x<;>simp<;>lia
def D0{α:Type}[DecidableEq α]{c e:List α}(b:c.Nodup)(d:e.Nodup)(f:∀x∈e,x∈c):c.countP (λx=>!decide (x∈e))+e.length=c.length:=by
 have a:(c.filter λx=>decide (x∈e)).Perm e:=zD (b.filter _) d λz=>by
  rw[P4];simp only[PM];exact⟨λh=>h.2,λh=>⟨f z h,h⟩⟩
 have h2:c.length=(c.filter λx=>decide (x∈e)).length+(c.filter λx=>!decide (x∈e)).length:=by
  rw[<- RN,<- RN];exact yB (λx=>decide (x∈e)) c
 rw[a.length_eq]at h2;rw[RN];lia
def DQ(a:bG ltI c)(e):cnt e (bj c)=0\/cnt e (bj c)=2:=by
 by_cases g:1<c.length
 .by_cases b:e.Sublist c/\e.length+2=c.length/\2<c.length
  .obtain⟨b,h2,h3⟩:=b;have j:bG ltI e:=QD b a;right;have e1:cnt e (bj c)=c.countP λx=>!decide (x∈e):=by
    unfold cnt;rw[show bj c=(VR c.length).map (λk=>c.take k++c.drop (k+1)) from if_pos g,RL];have:c=(VR c.length).map λk=>c.getD k 0:=by
     apply List.ext_getElem
     .simp
     .intro i m h2;simp[WG,m]
    conv=>rhs;rw[this]
    rw[RL];refine RH λk f=>?_
    have f:=VZ.mp f;have n:bG ltI (c.take k++c.drop (k+1)):=uH a (by unfold bj;rw[if_pos g];exact VP.mpr ⟨k,VZ.mpr f,rfl⟩);have p:(c.take k++c.drop (k+1)).length+1=c.length:=(by rw[PI,Qt,Q6];lia);simp only[Xq,PM,Qn,US];rw[kA n,EM a j b f];have:c.getD k 0=c[k]:=(by simp[WG,f]);rw[this];exact⟨λz=>z.2.2,λz=>⟨⋯,⋯,z⟩⟩
   rw[e1];have:=D0 (rn a) (rn j) λx o=>b.subset o
   lia
  .left;unfold cnt;rw[S2];intro d h;simp only[PM];intro z;obtain⟨_,b2,l⟩:=(kA a).mp h;obtain⟨a1,a2,a3⟩:=(kA (uH a h)).mp z;exact b ⟨a3.trans l,⋯,⋯⟩
 .left;unfold cnt bj;rw[if_neg g];rfl
def n4(d:bG ltI c):(bj c).Nodup:=by
 unfold bj
 split
 .rw[QC,QU];refine Q7 (λ{i j} hi b (f:i<j) e=>?_) To;have b:=VZ.mp b;have hi:i<c.length:=VZ.mp hi;have a:(c.take i++c.drop (i+1))[i]?=c[i+1]?:=by
   rw[Qq (by simp;lia),Uo];congr 1;simp;lia
  have h2:(c.take j++c.drop (j+1))[i]?=c[i]?:=by
   rw[P1 (by simp;lia),XS f]
  rw[e,h2]at a;rw[PG hi,PG (by lia:i+1<c.length)]at a;have:=R1.mp d i (i+1) hi ⋯ ⋯;injection a with a;rw[a,ho.dX]at this;cases this
 .exact RF
theorem Ak(e):∀(cs:List (List Int))(f:List (List Int)),(∀c∈cs,bG ltI c)->(e∈cs.foldl (λf c=>aV f (bj c)) f<->((if e∈f then 1 else 0)+cnt e cs)%2=1)
 |[],f,_=>by
  by_cases h:e∈f<;>simp[h,cnt]
 |c::cs,f,h=>by
  rw[Wx,Ak e cs _ λd i=>h d (VG _ i)];have e1:cnt e (c::cs)=cnt e cs+if e∈bj c then 1 else 0:=(by unfold cnt;rw[Wz];simp);rw[e1];have j:=Iy (a:=f) (b:=bj c) (e:=e)
  by_cases g:e∈f<;>by_cases h2:e∈bj c<;>simp[j,g,h2]<;>lia
def pQ(h:∀c∈cs,bG ltI c):e∈dj cs<->cnt e cs%2=1:=by
 unfold dj;rw[Ak e cs [] h];simp
def vY(cs):bG lexLt (dj cs):=by
 unfold dj;rcases RY cs with rfl|⟨xs,x,rfl⟩
 .exact Xn
 .rw[RZ,Wf];exact CB _ _
def ur(h:∀c∈cs,bG ltI c)(b:d∈dj cs):∃c∈cs,d∈bj c:=by
 have:=(pQ h).mp b;have h0:cnt d cs≠0:=λz=>by rw[z]at this;cases this
 unfold cnt at h0;rw[Ne,S2]at h0;exact Qv λz=>h0 λc a w=>z ⟨c,a,⇑w⟩
end bY
end
section
namespace bY
open ζ ar cL ei
def jg(i j):ev pg Φ a (.eC i j)=hO a[i]? a[j]?:=ao rfl
def E1(i j):ev pg Φ a (.la i j)=m6 a[i]? a[j]?:=ao rfl
def E2:ev pg Φ a .m7=.ok (.aO []):=ao rfl
def xo(i):ex pg Φ a (.jd i)=.ok (.aR (a.set i (Z (.aI [])))):=ao rfl
def Fp(i):ex pg Φ a (.j8 i)=.ok (.aR (a.set i (Z (.aO [])))):=ao rfl
def sV(i j)(e):ex pg Φ a (.ha i j e)=ev pg Φ a e>>=λd=>lb a[i]? a[j]? d>>=λx=>.ok (.aR (a.set i (Z x))):=ao rfl
def Fs(i)(e):ex pg Φ a (.ext i e)=i7 a[i]?>>=λ_=>ev pg Φ a e>>=λd=>o4 a[i]? d>>=λx=>.ok (.aR (a.set i (Z x))):=ao rfl
def xq(i):ex pg Φ a (.ma i)=mY a[i]?>>=λd=>.ok (.bH d):=ao rfl
def p9(up)(xs):ht up .sum (.lst xs)=gR xs:=ao rfl
def Kh(up)(xs):ht up .max (.lst xs)=hY xs:=ao rfl
def nB(c):iF (af c)=.ok (.int (c.length:Int)):=by unfold af;rw[tD,VD]
def AJ{c:List Int}(h:c.length<=1000)(k:Nat):bK .add (.tup (cut (c.map D.int) Y (Z (k:Int)))) (.tup (cut (c.map D.int) (Z ((k:Int)+1)) Y))=.ok (af (c.take k++c.drop (k+1))):=by
 have e:((k:Int)+1)=((k+1:Nat):Int):=by lia
 rw[e,D5,wL,oH,if_pos]
 .unfold af;rw[VW,List.map_take,List.map_drop]
 .rw[Qt,Q6,VD,fM];lia
def Mj(c)(h:c.length<=1000):bq pg Φ ⟨1,0,aj.r1⟩ [af c]=.ok (.lst ((bj c).map af)):=by
 have e1:bA (elem pg Φ [Z (af c)] (.bin .add (.slice 0e0 .none (.some 1e0)) (.slice 0e0 (.some (.bin .add 1e0 1e1)) .none)) 0 (.some (.cmp .gt (.prim .len 0e0) 1e1))) ((VR c.length).map λ(k:Nat)=>D.int (k:Int))=.ok (((VR c.length).filter λ_=>decide (1<c.length)).map λk=>af (c.take k++c.drop (k+1))):=ff λk _=>by
  have b:∀lo hi,hy (af c) lo hi=.ok (.tup (cut (c.map D.int) lo hi)):=λlo hi=>rfl
  simp![nB,b,AJ h]
  by_cases q:1<c.length
  .have a:(1:Int)<(c.length:Int):=⋯;simp only[decide_eq_true q,decide_eq_true a,QI]
  .have a:¬(1:Int)<(c.length:Int):=⋯;simp only[decide_eq_false q,decide_eq_false a,PD,PZ]
 simp![aj.r1,nB,iQ (i:=0) (j:=(c.length:Int)) ⋯ ⋯ ⋯ ⋯,ui,e1];congr 2;unfold bj
 by_cases q:1<c.length
 .rw[if_pos q,decide_eq_true q,List.filter_eq_self.mpr λ_ _=>rfl,VU];rfl
 .rw[if_neg q,decide_eq_false q,RT.mpr λ_ _=>∅];rfl
def Ej{xs U:List (List Int)}(h:∀x∈xs,x∈U):(bF xs).length<=U.length:=gm (hr xs) λz hz=>h z ((fo z xs).mp hz)
def uI(h:bG ltI c)(d:e∈bj c):e≠[]:=λz=>by
 obtain⟨a,b,_⟩:=(kA h).mp d;subst z;simp at b;lia
abbrev c1(t:List Int):List (List Int):=t.foldl (λf x=>f++[[x]]++f.map (·++[x])) []
def cw_snoc(t)(x):c1 (t++[x])=c1 t++[[x]]++(c1 t).map (·++[x]):=by unfold c1;rw[Wf];rfl
def AW{P:List Int->Prop}(h0:P [])(b:∀as a,P as->P (as++[a]))(as):P as:=by
 have d:∀n (as:List Int),as.length=n->P as:=by
  intro n
  induction n with
  |zero=>intro as h;rw[TQ h];exact h0
  |succ n c =>
   intro as h;rcases RY as with rfl|⟨l,a,rfl⟩
   .cases h
   .rw[RZ]at h ⊢;exact b l a (c l ⇑h)
 exact d _ as rfl
def sub_snoc{z t:List Int}:z.Sublist (t++[x])<->z.Sublist t\/∃y,z=y++[x]/\y.Sublist t:=by
 rw[List.sublist_append_iff];constructor
 .rintro⟨a,b,rfl,c,h2⟩;have d:b=[]\/b=[x]:=by
   cases h2 with
   |cons _ h=>exact .inl (TM.mp h)
   |cons_cons _ h=>exact .inr (by rw[TM.mp h])
  rcases d with rfl|rfl
  .exact .inl ⇑c
  .exact .inr ⟨a,rfl,c⟩
 .rintro(h|⟨y,rfl,h⟩)
  .exact⟨z,[],by simp,h,S1 _⟩
  .exact⟨y,[x],rfl,h,UH _⟩
def lK(t):∀z,z∈c1 t<->z≠[]/\z.Sublist t:=by
 refine AW (P:=λt=>∀z,z∈c1 t<->z≠[]/\z.Sublist t) (λz=>?_) (λt x c z=>?_) t
 .constructor
  .intro h;cases h
  .rintro⟨a,h2⟩;exact absurd (TM.mp h2) a
 .rw[cw_snoc,PS,PS,P6,VP,sub_snoc,c];constructor
  .rintro((⟨a,h2⟩|rfl)|⟨y,b,rfl⟩)
   .exact⟨a,.inl h2⟩
   .exact⟨by simp,.inr ⟨[],rfl,S1 _⟩⟩
   .exact⟨by simp,.inr ⟨y,rfl,((c y).mp b).2⟩⟩
  .rintro⟨a,h2|⟨y,rfl,h2⟩⟩
   .exact .inl (.inl ⟨a,h2⟩)
   .by_cases b:y=[]
    .subst b;exact .inl (.inr rfl)
    .exact .inr ⟨y,(c y).mpr ⟨b,h2⟩,rfl⟩
def tB(t):(c1 t).length+1=2 ^ t.length:=by
 refine AW (P:=λt=>(c1 t).length+1=2 ^ t.length) rfl (λt x a=>?_) t;rw[cw_snoc,PI,PI,PI,VD,V8,V8,W3];lia
def fP(ts:List (List Int)):List (List Int):=br lexLt (bF (ts.flatMap c1))
def yV:z∈fP ts<->z≠[]/\∃t∈ts,z.Sublist t:=by
 unfold fP;rw[fX,fo,RV];constructor
 .rintro⟨t,a,h2⟩;exact⟨((lK t z).mp h2).1,t,a,((lK t z).mp h2).2⟩
 .rintro⟨h0,t,a,h2⟩;exact⟨t,a,(lK t z).mpr ⟨h0,h2⟩⟩
def vT(ts):bG lexLt (fP ts):=g5 eW (hr _)
def cl(ts:List (List Int))(n:Nat):List (List Int):=(fP ts).filter λc=>decide (c.length=n)
def hZ:z∈cl ts n<->z.length=n/\z≠[]/\∃t∈ts,z.Sublist t:=by
 unfold cl;rw[P4,yV];simp only[PM];exact⟨λh=>⟨h.2,h.1⟩,λh=>⟨h.2,h.1⟩⟩
def ro(ts)(n):bG lexLt (cl ts n):=QD RO (vT ts)
def en(ts)(n):(cl ts n).Nodup:=vW (ro ts n)
def sq(ts)(h):g8 ts h=cl ts (h+1):=ij eW (vS ts h) (ro ts _) λz=>by
 rw[tL,hZ];exact⟨λ⟨a,h2⟩=>⟨a,by rintro rfl;simp at a,h2⟩,λ⟨a,_,h2⟩=>⟨a,h2⟩⟩
def xm(b:m<=8)(c:∀t∈ts,IsCell m t):(fP ts).length<=255:=by
 have a:(fP ts).length<=(c1 (aT m)).length:=gm (vW (vT ts)) λz hz=>by
  obtain⟨h0,t,a,h2⟩:=yV.mp hz;exact(lK _ z).mpr ⟨h0,h2.trans (wo (c t a))⟩
 have h2:=tB (aT m);have h3:=nu b;have h4:2 ^ (aT m).length<=2 ^ 8:=Qr ∅ h3;lia
def ja(a:m<=8)(b:∀t∈ts,IsCell m t)(n):(cl ts n).length<=255:=PW (TB _ _) (xm a b)
def k7(b:∀t∈ts,IsCell m t)(hz:z∈cl ts n):bG ltI z:=by
 obtain⟨_,_,t,a,h2⟩:=hZ.mp hz;exact QD h2 (b t a).2.2
def iq(d:∀t∈ts,IsCell m t)(hz:z∈cl ts n)(c:e∈bj z):e∈cl ts (n-1):=by
 obtain⟨f,h2,h3⟩:=(kA (k7 d hz)).mp c;obtain⟨h4,h5,t,a,b⟩:=hZ.mp hz;exact hZ.mpr ⟨⋯,by rintro rfl;simp at h2;lia,t,a,h3.trans b⟩
def OT(c)(m:c.length<=8):bq pg Φ ⟨1,2,aj.rv⟩ [af c]=.ok (.lst ((c1 c).map af)):=by
 simp![aj.rv,ql];obtain⟨o,e,x,d⟩:=fk (f:=D.int) (g:=turn pg Φ 0 [2] {.asg 1 (.bin .add (.bin .add 1e0 (.lst {.tup {2e0}})) (.comp (.bin .add 3e0 (.tup {2e0})) 0 (.seq 1e0) .none))})
  (λi a=>∃(x:Option D),a=[Z (af c),Z (.lst ((c1 i).map af)),x])
  c [Z (af c),Z (.lst []),Y] ⟨Y,rfl⟩ (λpre k post a h j=>by
   obtain⟨x,b⟩:=j;subst b;have n:pre.length+1<=c.length:=(by rw[h];simp);have l:=tB pre;have h2:2 ^ pre.length<=2 ^ 8:=Qr ∅ ⋯;have e1:bA (elem pg Φ [Z (af c),Z (.lst ((c1 pre).map af)),Z (.int k)] (.bin .add 3e0 (.tup {2e0})) 0 .none) ((c1 pre).map af)=.ok ((c1 pre).map λz=>af (z++[k])):=fN λz hz=>by
    have hz:=((lK pre z).mp hz).2.length_le;have:bK .add (af z) (.tup [.int k])=.ok (af (z++[k])):=by
     unfold af;rw[oH,if_pos (by rw[VD,fM];simp;lia),VW];rfl
    simp![this]
   have a1:bK .add (.lst ((c1 pre).map af)) (.lst [.tup [.int k]])=.ok (.lst ((c1 pre++[[k]]).map af)):=by
    rw[jV,if_pos (by rw[VD,fM];simp;lia),VW];rfl
   have a2:bK .add (.lst ((c1 pre++[[k]]).map af)) (.lst ((c1 pre).map λz=>af (z++[k])))=.ok (.lst ((c1 (pre++[k])).map af)):=by
    rw[jV,if_pos (by rw[VD,VD,PI,fM];simp;lia),cw_snoc];simp only[VW,VU];rfl
   refine⟨_,by simp![a1,e1,a2],Z (.int k),rfl⟩)
 rw[e,d];simp!
def FC(xs ys):o4 (Z (Z (.lst xs))) (.lst ys)=if xs.length+ys.length<=SZ then .ok (.lst (xs++ys)) else .bad:=ao rfl
def Fg(s:∀c:List Int,c.length<=8->Φ f [af c]=.ok (.lst ((c1 c).map af)))(i:∀t∈ts,t.length<=8)(G:ts.length<=255)(b:(fP ts).length<=255):
  bq pg Φ ⟨1,2,aj.ry f⟩ [aL m ts]=.ok (.lst ((fP ts).map af)):=by
 have hi:fU (aL m ts) (.int 1)=.ok (.tup (ts.map af)):=rfl;simp![aj.ry,hi];have l:∀a:List (List Int),a.length<=255->(∀t∈a,t.length<=8)->(a.flatMap c1).length<=65280:=λa F p=>by
  have:=o8 (f:=c1) (k:=256) (xs:=a) λt j=>by
   have h2:=tB t;have h4:2 ^ t.length<=2 ^ 8:=Qr ∅ (p t j);lia
  lia
 obtain⟨K,e,x,r⟩:=fk (f:=af) (g:=turn pg Φ 0 [2] {.ext 1 (.call f {2e0})})
  (λw o=>∃(x:Option D),o=[Z (aL m ts),Z (.lst ((w.flatMap c1).map af)),x])
  ts [Z (aL m ts),Z (.lst []),Y] ⟨Y,rfl⟩ (λpre t post o h y=>by
   obtain⟨x,q⟩:=y;subst q;have n:t∈ts:=(by rw[h];simp);have H:pre.length+1<=ts.length:=(by rw[h];simp);have C:=l pre ⋯ λt j=>i t (by rw[h];simp[j])
   have h2:=l [t] (by simp) λz hz=>by simp at hz;subst hz;exact i z n
   have u:((pre.flatMap c1).map af).length+((c1 t).map af).length<=SZ:=by
    simp at h2;rw[VD,VD,fM];lia
   refine⟨_,by simp![Fs,s t (i t n),FC,if_pos u];rfl,Z (af t),?_⟩;simp[S5])
 rw[e,r];have v:∀c∈ts.flatMap c1,c≠[]:=λc d=>by
  obtain⟨t,_,d⟩:=RV.mp d;exact((lK _ _).mp d).1
 have:(bF (ts.flatMap c1)).length<=255:=by unfold fP at b;rw[nD]at b;exact b
 simp![uP v this,fP]
def DR(n:Nat)(a:Φ f [aL m ts]=.ok (.lst ((fP ts).map af))):bq pg Φ ⟨2,0,aj.ru f⟩ [aL m ts,.int ((n:Int)-1)]=.ok (.tup ((cl ts n).map af)):=by
 have e1:bA (elem pg Φ [Z (aL m ts),Z (.int ((n:Int)-1))] 2e0 0 (.some (.cmp .eq (.bin .sub (.prim .len 2e0) 1e1) 1e0))) ((fP ts).map af)=.ok (((fP ts).filter λc=>decide (c.length=n)).map af):=ff λc _=>by
  simp![nB]
  by_cases q:c.length=n
  .rw[decide_eq_true q,P8.mpr (show(c.length:Int)-1=(n:Int)-1 by lia)];rfl
  .rw[decide_eq_false q,beq_eq_false_iff_ne.mpr (show(c.length:Int)-1≠(n:Int)-1 by lia)];rfl
 simp![aj.ru,a,e1];rfl
abbrev mk(U:List (List Int)):List (List Int×Int):=U.zipIdx.map λp=>(p.1,((2 ^ p.2:Nat):Int))
def IJ(U)(c):mk (U++[c])=mk U++[(c,((2 ^ U.length:Nat):Int))]:=by unfold mk;rw[Zb,VW];simp
def tP(U):(mk U).map (·.1)=U:=by
 unfold mk;rw[VU];show U.zipIdx.map (λp=>p.1)=U;exact YY 0 U
def II(U):(mk U).length=U.length:=by have:=Q9 XP (tP U);simpa using this
def idx_map{α β:Type}[DecidableEq α]{U:List α}(a:U.Nodup)(g:α->Nat->β):U.map (λc=>g c (ba U c))=U.zipIdx.map λp=>g p.1 p.2:=by
 apply RI;intro i;rw[PX,PX,List.getElem?_zipIdx]
 by_cases h:i<U.length
 .rw[PG h];simp only[WO,a.idxOf_getElem i h,SW]
 .rw[Qb ⋯];rfl
def OH(a:U.Nodup)(b:c∈U):et (mk U) c=Z ((2 ^ ba U c:Nat):Int):=by
 unfold mk;rw[<- idx_map a λc i=>(c,((2 ^ i:Nat):Int))];unfold et;rw[List.find?_map];have:U.find? ((λp:List Int×Int=>decide (p.1=c)) ∘ λc=>(c,((2 ^ ba U c:Nat):Int)))=Z c:=by
  have e:∀V:List (List Int),c∈V->V.find? ((λp:List Int×Int=>decide (p.1=c)) ∘ λc=>(c,((2 ^ ba U c:Nat):Int)))=Z c:=λV=>by
   induction V with
   |nil=>intro h;cases h
   |cons v V d =>
    intro h;rw[Wr]
    by_cases q:v=c
    .subst q;simp
    .rw[show((λp:List Int×Int=>decide (p.1=c)) ∘ λc=>(c,((2 ^ ba U c:Nat):Int))) v=VC by simp[q]];exact d ((PF.mp h).resolve_left (QG q))
  exact e U b
 rw[this];rfl
def kL(c):eg (af c)=Z c:=by
 show intsOf (c.map .int)=Z c
 induction c with
 |nil=>rfl
 |cons x c a=>rw[VK,intsOf,a];rfl
def Eu(a)(c)(n)(h:a.length<1000)(b:c∉a.map (·.1)):lb (Z (Z (.aI a))) (Z (Z (af c))) (.int n)=.ok (.aI (a++[(c,n)])):=by
 have e:putN a c n=a++[(c,n)]:=by
  unfold putN;rw[if_neg];intro z;obtain⟨p,d,q⟩:=S0.mp z;exact b (VP.mpr ⟨p,d,⇑q⟩)
 show(match Z a,eg (af c),Z n with
  |some a,Z k,Z n=>if a.length<1000 then R.ok (D.aI (putN a k n)) else .bad
  |_,_,_=>_)=_
 rw[kL];dsimp only;rw[if_pos h,e]
def oU(a:U.Nodup)(b:c∈U):hO (Z (Z (.aI (mk U)))) (Z (Z (af c)))=.ok (.int ((2 ^ ba U c:Nat):Int)):=by
 show(match Z (mk U),eg (af c) with
  |some d,Z k=>(match et d k with|some n=>R.ok (D.int n)|none=>.bad)
  |_,_=>_)=_
 rw[kL];dsimp only;rw[OH a b]
def wU(U):k9 (Z (Z (.aI (mk U))))=.ok (U.map af):=by
 show R.ok ((mk U).map λp=>D.tup (p.1.map .int))=_;have:((mk U).map λp=>D.tup (p.1.map .int))=((mk U).map (·.1)).map af:=by rw[VU];rfl
 rw[this,tP]
def Em(a):mY (Z (Z (.aI a)))=.ok (.aI a):=ao rfl
def En(a):mY (Z (Z (.aO a)))=.ok (.aO a):=ao rfl
def Im(n)(l:Φ f [aL m ts,.int ((n:Int)-1)]=.ok (.tup ((cl ts n).map af)))(r:(cl ts n).length<=255):bq pg Φ ⟨2,3,aj.rX f⟩ [aL m ts,.int ((n:Int)-1)]=.ok (.aI (mk (cl ts n))):=by
 simp![aj.rX,xo,l];have a:=en ts n;obtain⟨t,e,x,k⟩:=fk (f:=af) (g:=turn pg Φ 0 [4] {.ha 2 4 3e0,.asg 3 (.bin .mul 3e0 2e1)})
  (λd h=>∃(x:Option D),h=[Z (aL m ts),Z (.int ((n:Int)-1)),Z (.aI (mk d)),Z (.int ((2 ^ d.length:Nat):Int)),x])
  (cl ts n) [Z (aL m ts),Z (.int ((n:Int)-1)),Z (.aI []),Z (.int 1),Y] ⟨Y,rfl⟩ (λpre c post h b q=>by
   obtain⟨x,i⟩:=q;subst i;have s:pre.length+1<=(cl ts n).length:=(by rw[b];simp);have j:c∉(mk pre).map (·.1):=by
    rw[tP];intro z;rw[b]at a;exact(Rv.mp a).2.2 c z c VF rfl
   have p:=Eu (mk pre) c ((2 ^ pre.length:Nat):Int) (by rw[II];lia) j;have o:bK .mul (.int ((2 ^ pre.length:Nat):Int)) (.int 2)=.ok (.int ((2 ^ (pre++[c]).length:Nat):Int)):=by
    rw[hp _ _ (.inr ⟨by rw[gs];lia,by rw[gs];lia⟩),PI,V8,W3];rfl
   refine⟨_,by simp![sV,p,o];rfl,Z (af c),?_⟩;rw[IJ])
 rw[e,k];simp![xq,Em]
def tp(is):intsOf (is.map .int)=Z is:=kL is
def uR{U xs:List (List Int)}(a:U.Nodup)(b:xs.Nodup)(h:∀x∈xs,x∈U):gR (xs.map λx=>D.int ((2 ^ ba U x:Nat):Int))=.ok (.int (bh U xs:Int)):=by
 have:=tp (xs.map λx=>((2 ^ ba U x:Nat):Int));rw[VU]at this;unfold gR;rw[show(xs.map λx=>D.int ((2 ^ ba U x:Nat):Int))=xs.map (D.int ∘ λx=>((2 ^ ba U x:Nat):Int)) from rfl,this];dsimp only;rw[tS a b h]
def CW(b:U.Nodup)(a:xs.Nodup)(h:∀x∈xs,x∈U):bq pg Φ ⟨2,0,aj.mM⟩ [.lst (xs.map af),.aI (mk U)]=.ok (.int (bh U xs:Int)):=by
 have e1:bA (elem pg Φ [Z (.lst (xs.map af)),Z (.aI (mk U))] (.eC 1 2) 0 .none) (xs.map af)=.ok (xs.map λx=>D.int ((2 ^ ba U x:Nat):Int)):=fN λx a=>by
  simp![jg,oU b (h x a)]
 simp![aj.mM,e1,p9,uR b a h]
def mJ(a b:Nat):bK .and (.int (a:Int)) (.int (b:Int))=.ok (.int ((a &&& b:Nat):Int)):=by
 show jX (a:Int) (b:Int)=_;unfold jX;rw[if_pos (Rm a),if_pos (Rm b)];rfl
def qP(a b:Nat):bK .xor (.int (a:Int)) (.int (b:Int))=.ok (.int ((a ^^^ b:Nat):Int)):=by
 show om (a:Int) (b:Int)=_;unfold om;rw[if_pos ⟨Rm a,Rm b⟩];rfl
def vK(a k):((a &&& 2 ^ k:Nat):Int)=0<->a.testBit k=false:=by
 have b:a &&& 2 ^ k=0<->a.testBit k=false:=by
  constructor
  .intro h;have:=Q9 (λz=>z.testBit k) h;simpa[U6,Sg] using this
  .intro h;apply Sd;intro i;rw[U6,Sk,Sn]
   by_cases q:k=i
   .rw[<- q,h];rfl
   .simp[q]
 rw[<- b];lia
def tT(a k):bZ .ne (.int ((a &&& 2 ^ k:Nat):Int)) (.int 0)=.ok (a.testBit k):=by
 show fq (.ok (((a &&& 2 ^ k:Nat):Int)==0))=_;cases q:a.testBit k with
 |false=>rw[P8.mpr ((vK a k).mpr q)];rfl
 |true=>rw[beq_eq_false_iff_ne.mpr λz=>by rw[(vK a k).mp z]at q;cases q];rfl
def Dv(a:U.Nodup)(b:Nat):bq pg Φ ⟨2,0,aj.rx⟩ [.int (b:Int),.aI (mk U)]=.ok (.tup ((U.filter λc=>b.testBit (ba U c)).map af)):=by
 have e1:bA (elem pg Φ [Z (.int (b:Int)),Z (.aI (mk U))] 2e0 0 (.some (.cmp .ne (.bin .and 0e0 (.eC 1 2)) 0e1))) (U.map af)=.ok ((U.filter λc=>b.testBit (ba U c)).map af):=ff λc d=>by
  have:=tT b (ba U c);simp![jg,oU a d,mJ];have h2:fq (.ok (((b &&& 2 ^ ba U c:Nat):Int)==0))=.ok (b.testBit (ba U c)):=this;rw[show fq (.ok (((b &&& 2 ^ ba U c:Nat):Int)==0))=R.ok (!(((b &&& 2 ^ ba U c:Nat):Int)==0)) from rfl]at h2;injection h2 with h2;rw[h2];cases b.testBit (ba U c)<;>rfl
 simp![aj.rx,nf,wU,e1]
abbrev bo(r:Row):D:=.tup [.int (r.1:Int),.int (r.2:Int)]
def aU(ts:List (List Int))(n:Nat):List Nat:=(cl ts n).map λc=>bh (cl ts (n-1)) (bj c)
def KX(n:Nat)(b:∀t∈ts,IsCell m t)(u:m<=8)(j:∀n:Nat,Φ f [aL m ts,.int ((n:Int)-1)]=.ok (.aI (mk (cl ts n))))(r:∀c:List Int,c.length<=1000->Φ g [af c]=.ok (.lst ((bj c).map af)))(l:∀U xs:List (List Int),U.Nodup->xs.Nodup->(∀x∈xs,x∈U)->Φ d [.lst (xs.map af),.aI (mk U)]=.ok (.int (bh U xs:Int))):
  bq pg Φ ⟨2,2,aj.r0 d g f⟩ [aL m ts,.int (n:Int)]=.ok (.lst ((cC (aU ts (n+1))).map bo)):=by
 have h:=en ts (n+1);have s:=j n;have m2:Φ f [aL m ts,.int (n:Int)]=.ok (.aI (mk (cl ts (n+1)))):=by
  have:=j (n+1);rwa[show(((n+1:Nat):Int)-1)=(n:Int) by lia]at this
 have e1:bA (elem pg Φ [Z (aL m ts),Z (.int (n:Int)),Z (.aI (mk (cl ts n))),Z (.aI (mk (cl ts (n+1))))] (.tup {.call d {.call g {4e0},2e0},.eC 3 4}) 0 .none) ((cl ts (n+1)).map af)=.ok ((cl ts (n+1)).map λc=>bo (bh (cl ts n) (bj c),2 ^ ba (cl ts (n+1)) c)):=fN λc a=>by
  have o:=k7 b a;have q:c.length<=1000:=by
   obtain⟨_,_,t,k,h2⟩:=hZ.mp a;have:=h2.length_le;have:=kZ (b t k);lia
  simp![jg,r c q,l (cl ts n) (bj c) (en ts n) (n4 o) (λe p=>iq b a p),oU h a];rfl
 have e2:(cC (aU ts (n+1))).map bo=(cl ts (n+1)).map λc=>bo (bh (cl ts n) (bj c),2 ^ ba (cl ts (n+1)) c):=by
  rw[idx_map h λc i=>bo (bh (cl ts n) (bj c),2 ^ i)];unfold cC aU;rw[List.zipIdx_map,VU,VU];rfl
 simp![aj.r0,s,m2,nf,wU,e1,e2]
def hW(r):fU (bo r) (.int 0)=.ok (.int (r.1:Int)):=rfl
def tv(r):fU (bo r) (.int 1)=.ok (.int (r.2:Int)):=rfl
def MR(r q):bq pg Φ ⟨2,0,aj.r3⟩ [bo r,bo q]=.ok (bo (r.1 ^^^ q.1,r.2 ^^^ q.2)):=by
 simp![aj.r3,hW,tv,qP];rfl
abbrev cb(B:cc):List (Int×Int×Int):=B.map λe=>(((2 ^ e.1:Nat):Int),(e.2.1:Int),(e.2.2:Int))
def zL(h:a≠b):((2 ^ a:Nat):Int)≠((2 ^ b:Nat):Int):=λz=>by
 have z:2 ^ a=2 ^ b:=Int.ofNat.inj z;rcases Zl a b with q|q|q
 .have:=Sb (show 1<2 by decide) q;lia
 .exact h q
 .have:=Sb (show 1<2 by decide) q;lia
theorem BH : ∀ {B : cc}, (B.map (·.1)).Nodup -> ∀ e ∈ B, jH (cb B) ((2 ^ e.1 : Nat) : Int) = Z ((e.2.1 : Int), (e.2.2 : Int))
  | f :: B, h, e, a => by
    obtain ⟨b, h2⟩ := Qk.mp h
    unfold jH cb
    rw [VK, Wr]
    dsimp only
    by_cases q : f.1 = e.1
    · have : f = e := by
        rcases PF.mp a with z | z
        · exact z.symm
        · exact absurd (VP.mpr ⟨e, z, q.symm⟩) b
      subst this
      rw [decide_eq_true rfl]
      rfl
    · rw [decide_eq_false (zL q)]
      exact BH h2 e ((PF.mp a).resolve_left fun z => q (by rw [z]))
def sL{B:cc}(h:(B.map (·.1)).Nodup)(a:e∈B):hO (Z (Z (.aO (cb B)))) (Z (Z (.int ((2 ^ e.1:Nat):Int))))=.ok (bo e.2):=by
 show(match Z (cb B),Z ((2 ^ e.1:Nat):Int) with
  |some b,Z k=>(match jH b k with|some r=>R.ok (kz r)|none=>.bad)
  |_,_=>R.bad)=_
 dsimp only;rw[BH h e a];rfl
def sM(B):k9 (Z (Z (.aO (cb B))))=.ok (B.map λe=>D.int ((2 ^ e.1:Nat):Int)):=by
 show R.ok ((cb B).map λp=>D.int p.1)=_;unfold cb;rw[VU];rfl
def KI(B)(e)(r):red (B++[e]) r=one (red B r) e:=by unfold red;rw[Wf];rfl
def KL(j:∀r q:Row,Φ f [bo r,bo q]=.ok (bo (r.1 ^^^ q.1,r.2 ^^^ q.2))){B:cc}(h:(B.map (·.1)).Nodup)(r):bq pg Φ ⟨2,1,aj.rY f⟩ [bo r,.aO (cb B)]=.ok (bo (red B r)):=by
 simp![aj.rY,nf,sM];obtain⟨n,e,x,d⟩:=fk (f:=λe:Nat×Row=>D.int ((2 ^ e.1:Nat):Int)) (g:=turn pg Φ 0 [2] {.iff (.cmp .ne (.bin .and (.idx 0e0 0e1) 2e0) 0e1) {.asg 0 (.call f {0e0,.eC 1 2})} .nil})
  (λl b=>∃(x:Option D),b=[Z (bo (red l r)),Z (.aO (cb B)),x])
  B [Z (bo r),Z (.aO (cb B)),Y] ⟨Y,rfl⟩ (λpre e post b k m=>by
   obtain⟨x,c⟩:=m;subst c;have i:e∈B:=(by rw[k];simp);have a:=tT (red pre r).1 e.1;have a:fq (.ok ((((red pre r).1 &&& 2 ^ e.1:Nat):Int)==0))=.ok ((red pre r).1.testBit e.1):=a;rw[KI];unfold one;cases q:(red pre r).1.testBit e.1 with
   |true =>
    rw[q]at a;refine⟨_,by simp![hW,mJ,a,jg,sL h i,j],Z (.int ((2 ^ e.1:Nat):Int)),rfl⟩
   |false =>
    rw[q]at a;refine⟨_,by simp![hW,mJ,a],Z (.int ((2 ^ e.1:Nat):Int)),rfl⟩)
 rw[e,d];simp!
def H6(n:Nat)(h:0<n):bq pg Φ ⟨1,0,aj.rW⟩ [.int (n:Int)]=.ok (.int ((2 ^ lo n:Nat):Int)):=by
 have e:bK .and (.int (n:Int)) (.int (-(n:Int)))=.ok (.int ((2 ^ lo n:Nat):Int)):=by
  show jX (n:Int) (-(n:Int))=_;unfold jX;rw[if_pos (Rm n),if_neg ⋯];obtain⟨_,_,h3,h4⟩:=tG n h;have h5:(-(-(n:Int))-1).toNat=n-1:=⋯;rw[h5,Wk];congr 2;lia
 simp![aj.rW,E7,e]
def w2(a)(k)(r)(h:a.length<1000)(b:k∉a.map (·.1)):lb (Z (Z (.aO a))) (Z (Z (.int k))) (bo r)=.ok (.aO (a++[(k,(r.1:Int),(r.2:Int))])):=by
 have e:iO a k ((r.1:Int),(r.2:Int))=a++[(k,(r.1:Int),(r.2:Int))]:=by
  unfold iO;rw[if_neg];intro z;obtain⟨p,c,q⟩:=S0.mp z;exact b (VP.mpr ⟨p,c,⇑q⟩)
 show(if a.length<1000 then R.ok (D.aO (iO a k ((r.1:Int),(r.2:Int)))) else .bad)=_;rw[if_pos h,e]
def Es(k)(r):m6 (Z (Z (.int ((2 ^ k:Nat):Int)))) (Z (Z (bo r)))=.ok (.aO (cb [(k,r)])):=rfl
def wM(B)(h:k∉B.map (·.1)):((2 ^ k:Nat):Int)∉(cb B).map (·.1):=λz=>by
 unfold cb at z;rw[VU]at z;obtain⟨e,a,q⟩:=VP.mp z;exact zL (λw=>h (VP.mpr ⟨e,a,w⟩)) q
def Gh(j:∀(B:cc)(r:Row),(B.map (·.1)).Nodup->Φ fr [bo r,.aO (cb B)]=.ok (bo (red B r)))(C:∀n:Nat,0<n->Φ s [.int (n:Int)]=.ok (.int ((2 ^ lo n:Nat):Int))){B:cc}(h:cE B)(K:B.length<900)(r):
  bq pg Φ ⟨2,4,aj.oL fr s⟩ [.aO (cb B),bo r]=.ok (.aO (cb (grow B r))):=by
 have a:=lj h;have o:=ph h r
 by_cases c:(red B r).1=0
 .have hz:(((red B r).1:Int)==0)=true:=(by rw[c];rfl);simp![aj.oL,j B r a,hW,hz];unfold grow;rw[if_pos c]
 .have hz:(((red B r).1:Int)==0)=false:=beq_eq_false_iff_ne.mpr ⋯;have w:=C (red B r).1 ⋯;have q:grow B r=B.map (λe=>(e.1,one e.2 (lo (red B r).1,red B r)))++[(lo (red B r).1,red B r)]:=(by unfold grow;rw[if_neg c]);rw[q]at o ⊢;have b:=lj o;simp![aj.oL,j B r a,hW,hz,w,Fp,nf,sM];generalize red B r=l at b;generalize lo l.1=k at b;have m:((B.map λe=>(e.1,one e.2 (k,l))).map (·.1))=B.map (·.1):=(by rw[VU];rfl);have y:k∉B.map (·.1):=by
   rw[VW,m]at b;exact λz=>(Rv.mp b).2.2 k z k (by simp) rfl
  obtain⟨M,e,x,u⟩:=fk (f:=λe:Nat×Row=>D.int ((2 ^ e.1:Nat):Int)) (g:=turn pg Φ 0 [5] {.ha 4 5 (.call fr {.eC 0 5,.la 3 2})})
   (λG p=>∃(x:Option D),p=[Z (.aO (cb B)),Z (bo r),Z (bo l),Z (.int ((2 ^ k:Nat):Int)),Z (.aO (cb (G.map λe=>(e.1,one e.2 (k,l))))),x])
   B [Z (.aO (cb B)),Z (bo r),Z (bo l),Z (.int ((2 ^ k:Nat):Int)),Z (.aO []),Y] ⟨Y,rfl⟩ (λpre e post p i H=>by
    obtain⟨x,t⟩:=H;subst t;have v:e∈B:=(by rw[i];simp);have L:pre.length+1<=B.length:=(by rw[i];simp);have d:=j [(k,l)] e.2 (by simp);have d:Φ fr [bo e.2,.aO (cb [(k,l)])]=.ok (bo (one e.2 (k,l))):=d;have F:e.1∉(pre.map λe=>(e.1,one e.2 (k,l))).map (·.1):=by
     rw[VU];intro z;have z:e.1∈pre.map (·.1):=z;rw[i,VW,VK]at a;exact(Rv.mp a).2.2 e.1 z e.1 VF rfl
    have h2:=w2 (cb (pre.map λe=>(e.1,one e.2 (k,l)))) ((2 ^ e.1:Nat):Int) (one e.2 (k,l)) (by unfold cb;simp;lia) (wM _ F);refine⟨_,by simp![sV,jg,E1,sL a v,Es,d,h2];rfl,Z (.int ((2 ^ e.1:Nat):Int)),?_⟩;unfold cb;simp only[VW,VK,Rt])
  rw[e,u];have h3:=w2 (cb (B.map λe=>(e.1,one e.2 (k,l)))) ((2 ^ k:Nat):Int) l (by unfold cb;simp;lia) (wM _ (by rw[m];exact y));simp![sV,h3,xq,En];unfold cb;simp only[VW,VK,Rt]
variable{pg:cT}{Φ:dw}
def Gf(B)(rs)(r):c5 B (rs++[r])=grow (c5 B rs) r:=by unfold c5;rw[Wf];rfl
def Gg(B)(r):(grow B r).length<=B.length+1:=by rw[tf];split<;>lia
theorem xV:∀(rs:List Row)(B:cc),(c5 B rs).length<=B.length+rs.length
 |[],B=>PE _
 |r::rs,B=>by
  have a:=xV rs (grow B r);have h2:=Gg B r;show(c5 (grow B r) rs).length<=_;rw[VS];lia
def CM(i:∀(B:cc)(r:Row),cE B->B.length<900->Φ a [.aO (cb B),bo r]=.ok (.aO (cb (grow B r))))(m:rs.length<=255):bq pg Φ ⟨1,2,aj.rt a⟩ [.lst (rs.map bo)]=.ok (.aO (cb (c5 [] rs))):=by
 simp![aj.rt,E2];obtain⟨o,e,x,h⟩:=fk (f:=bo) (g:=turn pg Φ 0 [2] {.asg 1 (.call a {1e0,2e0})})
  (λk b=>∃(x:Option D),b=[Z (.lst (rs.map bo)),Z (.aO (cb (c5 [] k))),x])
  rs [Z (.lst (rs.map bo)),Z (.aO []),Y] ⟨Y,rfl⟩ (λpre r post b j l=>by
   obtain⟨x,d⟩:=l;subst d;have n:pre.length+1<=rs.length:=(by rw[j];simp);have c:=xV pre [];have h2:=i (c5 [] pre) r (lB cE.nil) ↥c;rw[Gf];refine⟨_,by simp![h2],Z (bo r),rfl⟩)
 rw[e,h];simp!
def vM(xs)(d)(h:xs.length<SZ):mK (Z (Z (.lst xs))) d=.ok (.lst (xs++[d])):=by rw[oJ,if_pos h]
def bx(U:List (List Int))(b:Nat):D:=.tup ((U.filter λc=>b.testBit (ba U c)).map af)
def md(ts)(n):(aU ts n).length=(cl ts n).length:=by unfold aU;rw[VD]
def yX(a):(cC a).length=a.length:=by unfold cC;simp
def CK(n)(d:∀t∈ts,IsCell m t):∀r∈cC (aU ts (n+2)),r.1<2 ^ (aU ts (n+1)).length/\bd (aU ts (n+1)) r.1=0:=by
 intro r j;obtain⟨p,h,rfl⟩:=VP.mp j;have i:p.1∈aU ts (n+2):=List.fst_mem_of_mem_zipIdx h;obtain⟨c,f,e⟩:=VP.mp i;dsimp only;rw[<- e,md];have g:=k7 d f;have b:∀x∈bj c,x∈cl ts (n+1):=λx a=>iq d f a
 refine⟨iG b,KW (en ts n) b (λx a=>⟨n4 (uH g a),λy k=>iq d (b x a) k⟩) λy=>?_⟩;have z:=DQ g y;refine(Q9 (· % 2) (?e:_=cnt y (bj c))).trans ?_
 case e=>exact RH λx _=>by simp only[PM]
 lia
def tO(as):(cC as).map (·.1)=as:=by
 unfold cC;rw[VU];exact YY 0 as
end bY
end
section
namespace bY
open ζ ar cL ei
def E5(i j):ev pg Φ a (.kk i j)=lG a[i]? a[j]?:=ao rfl
abbrev lQ(m:Nat)(ns:List Nat):Nat:=ns.foldl (λm x=>if x>m then x else m) m
theorem y1:∀(ns:List Nat)(m:Nat),m<=lQ m ns/\∀n∈ns,n<=lQ m ns
 |[],m=>⟨PE _,λ_ h=>nomatch h⟩
 |x::ns,m=>by
  show m<=lQ (if x>m then x else m) ns/\_;obtain⟨b,h2⟩:=y1 ns (if x>m then x else m);refine⟨by split at b<;>split<;>lia,λn a=>?_⟩;rcases PF.mp a with rfl|a
  .show n<=lQ (if n>m then n else m) ns
   split at b<;>split<;>lia
  .exact h2 n a
theorem y0:∀(ns:List Nat)(m:Nat),(ns.map λn:Nat=>(n:Int)).foldl (λm x=>if x>m then x else m) (m:Int)=(lQ m ns:Int)
 |[],m=>rfl
 |x::ns,m=>by
  rw[VK,Wx];have:(if (x:Int)>(m:Int) then(x:Int) else(m:Int))=((if x>m then x else m:Nat):Int):=by
   by_cases q:x>m
   .rw[if_pos q,if_pos ⋯]
   .rw[if_neg q,if_neg ⋯]
  rw[this];exact y0 ns _
def hi:List (List Int)->Nat
 |[]=>0
 |t::ts=>lQ t.length (ts.map (·.length))
def Gl:∀t∈ts,t.length<=hi ts:=by
 cases ts with
 |nil=>intro t h;cases h
 |cons a ts =>
  intro t h;obtain⟨b,h2⟩:=y1 (ts.map (·.length)) a.length;rcases PF.mp h with rfl|h
  .exact b
  .exact h2 _ (VP.mpr ⟨t,h,rfl⟩)
def Ir(h:ts≠[]):hY (ts.map λt=>D.int (t.length:Int))=.ok (.int (hi ts:Int)):=by
 cases ts with
 |nil=>exact absurd rfl h
 |cons a ts =>
  have e:((a::ts).map λt=>D.int (t.length:Int))=((a::ts).map λt=>(t.length:Int)).map D.int:=(by rw[VU];rfl);unfold hY;rw[e,tp];show R.ok (D.int ((ts.map λt=>(t.length:Int)).foldl (λm x=>if x>m then x else m) (a.length:Int)))=_;have e2:(ts.map λt=>(t.length:Int))=(ts.map (·.length)).map λn:Nat=>(n:Int):=by rw[VU];rfl
  rw[e2,y0];rfl
def Gq(h:ts≠[]):bq pg Φ ⟨1,0,aj.rI⟩ [aL m ts]=.ok (.int (hi ts:Int)):=by
 have a:fU (aL m ts) (.int 1)=.ok (.tup (ts.map af)):=rfl;have e1:bA (elem pg Φ [Z (aL m ts)] (.prim .len 1e0) 0 .none) (ts.map af)=.ok (ts.map λt=>D.int (t.length:Int)):=fN λt _=>by simp![nB]
 simp![aj.rI,a,e1,Kh,Ir h]
def y2(h:Net m ts):ts≠[]:=λe=>by
 subst e;obtain⟨t,a,_⟩:=sD.mp h.eH 0 (Int.le_refl 0) (by have:=h.lo;lia);cases a
noncomputable abbrev mC:=Int×List (List Int)
structure Good(N:mC):Prop where
 cW:Net N.1 N.2
 len:N.2.length<=255
def gM(k b)(x y z):bq pg Φ ⟨3,k,b⟩ [x,y,z]=j9 (c3 pg Φ (Z x::Z y::Z z::V0 k Y) b):=ao rfl
def Gm(h:Good N):1<=hi N.2:=by
 obtain⟨t,a⟩:=List.exists_mem_of_ne_nil _ (y2 h.cW);have b:=Gl t a;have h2:=(h.cW.cell t a).1;have:=List.length_pos_iff.mpr h2;lia
end bY
end
section
namespace bY
open ζ ar cL
variable{pg:cT}{Φ:dw}
def rj(x)(b:List (List Int)):(b.map af).any (d3 (af x))=decide (x∈b):=by
 induction b with
 |nil=>simp
 |cons y ys a=>rw[VK,Ws,a,gB];by_cases q:x=y<;>simp[q]
def xC(a b:List (List Int)):(a.map af).filter (λx=>!(b.map af).any (d3 x))=(a.filter λx=>!decide (x∈b)).map af:=by
 induction a with
 |nil=>rfl
 |cons x a c =>
  rw[VK,TN,TN,rj,c];cases decide (x∈b)<;>rfl
def O6(d:∀c∈a,c≠[])(e:∀c∈b,c≠[])(h:(bF (a++b)).length<=75):oo (a.map af) (b.map af)=.ok (.lst ((aV a b).map af)):=by
 unfold oo qO aV;rw[k8 d,k8 e,<- VW,j6 gB,xC,xC,<- VW,j6 gB,h7 (lt:=lexLt) jt,VD,decide_eq_true h];rfl
def MP(f:cD x=.ok (a.map af))(g:cD y=.ok (b.map af))(d:∀c∈a,c≠[])(e:∀c∈b,c≠[])(h:(bF (a++b)).length<=75):
  bq pg Φ ⟨2,0,aj.r2⟩ [x,y]=.ok (.tup ((aV a b).map af)):=by
 simp![aj.r2,Fc,kO,f,g,O6 d e h]
def KZ(pre)(c):dj (pre++[c])=aV (dj pre) (bj c):=by unfold dj;rw[Wf];rfl
def KV{cs U:List (List Int)}(v:cD d=.ok (cs.map af))(h:∀c∈cs,bG ltI c/\c.length<=1000)(n:∀c∈cs,∀e∈bj c,e∈U)(t:U.length<=75)(s:∀a b:List (List Int),(∀c∈a,c≠[])->(∀c∈b,c≠[])->(bF (a++b)).length<=75->Φ m [.tup (a.map af),.lst (b.map af)]=.ok (.tup ((aV a b).map af)))(h2:∀c:List Int,c.length<=1000->Φ fd [af c]=.ok (.lst ((bj c).map af))):bq pg Φ ⟨1,2,aj.rZ m fd⟩ [d]=.ok (.tup ((dj cs).map af)):=by
 simp![aj.rZ,v];obtain⟨F,e,x,w⟩:=fk (f:=af) (g:=turn pg Φ 0 [2] {.asg 1 (.call m {1e0,.call fd {2e0}})})
  (λy r=>∃(x:Option D),r=[Z d,Z (.tup ((dj y).map af)),x])
  cs [Z d,Z (.tup []),Y] ⟨Y,rfl⟩ (λpre c post r p C=>by
   obtain⟨x,u⟩:=C;subst u;have i:c∈cs:=(by rw[p];simp);have q:∀z∈pre,z∈cs:=λz hz=>by rw[p];simp[hz]
   have k:∀z∈pre,bG ltI z:=λz hz=>(h z (q z hz)).1
   have a1:∀z∈dj pre,z≠[]:=λz hz=>by obtain⟨o,j,l⟩:=ur k hz;exact uI (k o j) l
   have a2:∀z∈bj c,z≠[]:=λz hz=>uI (h c i).1 hz
   have a3:(bF (dj pre++bj c)).length<=75:=PW (Ej (U:=U) λz hz=>by
    rcases PS.mp hz with hz|hz
    .obtain⟨o,j,l⟩:=ur k hz;exact n o (q o j) z l
    .exact n c i z hz) t
   refine⟨_,by simp![h2 c (h c i).2,s _ _ a1 a2 a3];rfl,Z (af c),?_⟩;rw[KZ])
 rw[e,w];simp!
def GU{cs:List (List Int)}(h:Φ fr [d]=.ok (.tup (cs.map af))):bq pg Φ ⟨1,0,aj.rA fr⟩ [d]=.ok (.ag cs.isEmpty):=by
 simp![aj.rA,h,m9 (mf 58 _),pS]
end bY
end
section
namespace bY
open ζ ar cL ei
abbrev eX(W:List (Nat×Nat))(s:Nat×Nat):Nat×Nat:=W.foldl (λs w=>if s.1 ^^^ w.1<s.1 then(s.1 ^^^ w.1,s.2 ^^^ w.2) else s) s
def fW(st:List (Nat×Nat)×List Nat)(p:Nat×Nat):List (Nat×Nat)×List Nat:=if 0<(eX st.1 (p.1,2 ^ p.2)).1 then(st.1++[eX st.1 (p.1,2 ^ p.2)],st.2) else(st.1,st.2++[(eX st.1 (p.1,2 ^ p.2)).2])
def lI(a:List Nat):List (Nat×Nat)×List Nat:=a.zipIdx.foldl fW ([],[])
@[reducible]def mA(a:List Nat)(p:Nat×Nat):Prop:=bd a p.2=p.1/\p.2<2 ^ a.length
theorem yM(a):∀(W:List (Nat×Nat))(s:Nat×Nat),(∀w∈W,mA a w)->mA a s->mA a (eX W s)
 |[],_,_,h=>h
 |w::W,s,b,h=>by
  refine yM a W _ (λv c=>b v (VG _ c)) ?_;have hw:=b w VF;dsimp only
  split
  .exact⟨by rw[hL,h.1,hw.1],Q0 h.2 hw.2⟩
  .exact h
def H7(c):∀b∈(lI c).2,bd c b=0/\b<2 ^ c.length:=by
 have o:∀(d:List (Nat×Nat))(st:List (Nat×Nat)×List Nat),(∀p∈d,mA c (p.1,2 ^ p.2))->(∀w∈st.1,mA c w)->(∀b∈st.2,bd c b=0/\b<2 ^ c.length)->∀b∈(d.foldl fW st).2,bd c b=0/\b<2 ^ c.length:=λd=>by
  induction d with
  |nil=>exact λst _ _ h=>h
  |cons p d n =>
   intro st f g j;have r:=yM c st.1 (p.1,2 ^ p.2) g (f p VF);refine n (fW st p) (λq m=>f q (VG _ m)) (λw hw=>?_) λb e=>?_
   .unfold fW at hw
    split at hw
    .rcases PS.mp hw with q|q
     .exact g w q
     .rw[P6.mp q];exact r
    .exact g w hw
   .unfold fW at e
    split at e
    .exact j b e
    .rename_i q;rcases PS.mp e with z|z
     .exact j b z
     .rw[P6.mp z];exact⟨by rw[r.1];lia,r.2⟩
 refine o c.zipIdx ([],[]) (λp f=>?_) (λ_ h=>nomatch h) λ_ h=>nomatch h
 obtain⟨a,k⟩:=p;have i:=Tu.mp f;have l:k<c.length:=by
  apply Qv;intro q;rw[Qb ⋯]at i;cases i
 refine⟨?_,Sb ∅ l⟩;show bd c (2 ^ k)=a;rw[r5,SU,i];rfl
theorem w1(a)(q:Nat->Bool):∀(bs:List Nat)(k z:Nat),(∀b∈bs,bd a b=0/\b<2 ^ a.length)->bd a z=0/\z<2 ^ a.length->bd a ((bs.zipIdx k).foldl (λz p=>if q p.2=J then z ^^^ p.1 else z) z)=0/\(bs.zipIdx k).foldl (λz p=>if q p.2=J then z ^^^ p.1 else z) z<2 ^ a.length
 |[],_,_,_,h=>h
 |b::bs,k,z,e,h=>by
  rw[UR,Wx];refine w1 a q bs (k+1) _ (λc f=>e c (VG _ f)) ?_;have d:=e b VF
  split
  .exact⟨by rw[hL,h.1,d.1];rfl,Q0 h.2 d.2⟩
  .exact h
noncomputable abbrev fp(xs:List Nat):D:=.lst (xs.map λb:Nat=>D.int (b:Int))
def Gz{α:Type}(b1 b2)[a:@LawfulBEq α b1][h2:@LawfulBEq α b2](c)(U):@aac α b1 c U=@aac α b2 c U:=by
 unfold aac;congr 1;funext x;rw[R4,@P8 α b1,@P8 α b2]
def G8{α:Type}[DecidableEq α]{U:List α}{c:α}(h:c∈U):ba U c<U.length:=Rr h
def H4(d:U.length<=1000)(b:c∈U):lG (Z (Z (.lst (U.map af)))) (Z (Z (af c)))=.ok (.int (ba U c:Int)):=by
 have e:∀V:List (List Int),jG (V.map af)=Z V:=λV=>by
  induction V with
  |nil=>rfl
  |cons v V f=>rw[VK,jG,kL,f]
 show(match jG (U.map af),eg (af c) with
  |some a,Z k=>if k∈a/\a.length<=1000 then R.ok (D.int (a.idxOf k:Nat)) else .bad
  |_,_=>.bad)=_
 rw[e,kL];dsimp only;rw[if_pos ⟨b,d⟩];exact Q9 (λz:Nat=>R.ok (D.int (z:Int))) (Gz _ instBEqOfDecidableEq c U)
def uD{n:Nat}(h:n<=1000):bK .shl (.int 1) (.int (n:Int))=.ok (.int ((2 ^ n:Nat):Int)):=by
 show(if 0<=(n:Int)/\(n:Int)<=1000/\-dk<1/\1<dk then R.ok (D.int (1*2 ^ (n:Int).toNat)) else .bad)=_;rw[if_pos ⟨⋯,⋯,∅,∅⟩,Wk,Int.one_mul];congr 2
theorem qb:∀(s:Nat){c:List Int},bG ltI c->(bu s c).Nodup
 |0,_,_=>by simp[bu]
 |s+1,[],_=>RF
 |s+1,x::r,h=>by
  obtain⟨d,h2⟩:=P7.mp h;refine Rv.mpr ⟨?_,qb (s+1) h2,λa f b g e=>?_⟩
  .rw[QC,QU];exact SN (λq z=>q (List.cons.inj z).2) (QC.mp (qb s h2))
  .subst e;obtain⟨y,_,rfl⟩:=VP.mp f;have:=d x (((ju _ _ _).mp g).2.subset VF);rw[ho.dX]at this;cases this
def DV{n:Nat}(C:n<=7)(b:∀t∈ts,IsCell m t)(j:m<=8)(F:∀c:List Int,c.length<=8->Φ i [af c,.int (n:Int)]=.ok (.lst ((bu n c).map af)))(o:∀k:Nat,k<=7->Φ fc [aL m ts,.int (k:Int)]=.ok (.lst ((cl ts (k+1)).map af))):bq pg Φ ⟨2,2,aj.mP i fc⟩ [aL m ts,.int (n:Int)]=.ok (fp (aU ts (n+1))):=by
 have e:=o n C;have p:=ja j b (n+1);cases n with
 |zero =>
  have e:Φ fc [aL m ts,.int 0]=.ok (.lst ((cl ts 1).map af)):=e;have hz:((0:Int)==0)=true:=rfl;have y:bK .mul (.lst [.int 0]) (.int ((cl ts 1).length:Int))=.ok (fp (aU ts 1)):=by
   show(if 0<=((cl ts 1).length:Int)/\((cl ts 1).length:Int)<=1000/\[D.int 0].length<=1000 then R.ok (D.lst (V0 ((cl ts 1).length:Int).toNat [D.int 0]).flatten) else .bad)=_;have p:(cl ts 1).length<=255:=p;rw[if_pos ⟨⋯,⋯,by simp⟩,Wk,List.flatten_replicate_singleton];unfold fp aU;rw[VU];congr 2;symm;rw[List.eq_replicate_iff];refine⟨by simp,λd w=>?_⟩;obtain⟨c,a,rfl⟩:=VP.mp w;have:bj c=[]:=(by unfold bj;rw[if_neg];rw[(hZ.mp a).1];decide);show D.int ((bh (cl ts (1-1)) (bj c):Nat):Int)=_;rw[this];rfl
  show bq pg Φ ⟨2,2,aj.mP i fc⟩ [aL m ts,.int 0]=_;simp![aj.mP,e,hz,VD,y]
 |succ n =>
  have hz:(((n+1:Nat):Int)==0)=false:=beq_eq_false_iff_ne.mpr ⋯;have h2:=o n ⋯;have G:bK .sub (.int ((n+1:Nat):Int)) (.int 1)=.ok (.int (n:Int)):=(by rw[sub_int];congr 2;lia);have l:=en ts (n+1);have K:=ja j b (n+1);have e1:bA (elem pg Φ [Z (aL m ts),Z (.int ((n+1:Nat):Int)),Z (.lst ((cl ts (n+2)).map af)),Z (.lst ((cl ts (n+1)).map af))] (.prim .sum (.comp (.bin .shl 1e1 (.kk 3 5)) 0 (.seq (.call i {4e0,1e0})) .none)) 0 .none) ((cl ts (n+2)).map af)=.ok ((cl ts (n+2)).map λc=>D.int ((bh (cl ts (n+1)) (bj c):Nat):Int)):=fN λc a=>by
   have f:=k7 b a;obtain⟨r,H,t,s,u⟩:=hZ.mp a;have v:c.length<=8:=by
    have:=u.length_le;have:=kZ (b t s);lia
   have q:∀z,z∈bu (n+1) c<->z∈bj c:=λz=>by
    rw[ju,kA f,r];exact⟨λh=>⟨⋯,⋯,h.2⟩,λh=>⟨⋯,h.2.2⟩⟩
   have g:∀z∈bu (n+1) c,z∈cl ts (n+1):=λz hz=>iq b a ((q z).mp hz)
   have e2:bA (elem pg Φ [Z (aL m ts),Z (.int ((n+1:Nat):Int)),Z (.lst ((cl ts (n+2)).map af)),Z (.lst ((cl ts (n+1)).map af)),Z (af c)] (.bin .shl 1e1 (.kk 3 5)) 0 .none) ((bu (n+1) c).map af)=.ok ((bu (n+1) c).map λx=>D.int ((2 ^ ba (cl ts (n+1)) x:Nat):Int)):=fN λz hz=>by
    have:=G8 (g z hz);simp![E5,H4 ⋯ (g z hz),uD (n:=ba (cl ts (n+1)) z) ⋯]
   simp![F c v,e2,p9,uR l (qb _ f) g];rw[IP l (qb _ f) (n4 f) q g]
  simp![aj.mP,e,hz,G,h2,e1];unfold fp aU;rw[VU];rfl
def ml(i j b)(x y):turn pg Φ 2 [i,j] b (.tup [x,y]) a=c3 pg Φ ((a.set i (Z x)).set j (Z y)) b:=ao rfl
def sO(e c)(x y):elem pg Φ a e 2 c (.tup [x,y])=iz pg Φ (a++[Z x,Z y]) c>>=λb=>if b then ev pg Φ (a++[Z x,Z y]) e>>=λy=>.ok (Z y) else .ok none:=ao rfl
def oZ(xs):oY (.lst xs)=.ok (fO 0 xs):=ao rfl
theorem oX{α:Type}(f):∀(xs:List α)(k:Nat),fO k (xs.map f)=(xs.zipIdx k).map λp=>.tup [.int (p.2:Nat),f p.1]
 |[],_=>rfl
 |x::xs,k=>by
  rw[VK,UR,VK,<- oX f xs (k+1)];rfl
def w8{U:List (List Int)}(a:U.Nodup):fO 0 (U.map af)=U.map λc=>.tup [.int (ba U c:Nat),af c]:=by
 rw[oX];exact(idx_map a λc k=>D.tup [.int (k:Nat),af c]).symm
def H8(W w s):eX (W++[w]) s=if (eX W s).1 ^^^ w.1<(eX W s).1 then((eX W s).1 ^^^ w.1,(eX W s).2 ^^^ w.2) else eX W s:=by
 unfold eX;rw[Wf];rfl
def GF(W)(s)(c d h i j k):∃a b,forL (turn pg Φ 2 [8,9] {.iff (.cmp .lt (.bin .xor 6e0 8e0) 6e0) {.asg 6 (.bin .xor 6e0 8e0),.asg 7 (.bin .xor 7e0 9e0)} .nil}) (W.map bo) [c,d,h,i,j,k,Z (.int (s.1:Int)),Z (.int (s.2:Int)),y8,y9]=.ok (.aR [c,d,h,i,j,k,Z (.int ((eX W s).1:Int)),Z (.int ((eX W s).2:Int)),a,b]):=by
 obtain⟨x,e,a,b,t⟩:=fk (f:=bo) (g:=turn pg Φ 2 [8,9] {.iff (.cmp .lt (.bin .xor 6e0 8e0) 6e0) {.asg 6 (.bin .xor 6e0 8e0),.asg 7 (.bin .xor 7e0 9e0)} .nil})
  (λn o=>∃(a b:Option D),o=[c,d,h,i,j,k,Z (.int ((eX n s).1:Int)),Z (.int ((eX n s).2:Int)),a,b])
  W [c,d,h,i,j,k,Z (.int (s.1:Int)),Z (.int (s.2:Int)),y8,y9] ⟨y8,y9,rfl⟩ (λpre w post o v u=>by
   obtain⟨a,b,p⟩:=u;subst p;rw[H8];generalize eX pre s=r;have m:bo w=.tup [.int (w.1:Int),.int (w.2:Int)]:=rfl
   by_cases q:r.1 ^^^ w.1<r.1
   .have l:((r.1 ^^^ w.1:Nat):Int)<(r.1:Int):=⋯;rw[if_pos q];refine⟨_,by simp![m,ml,qP,decide_eq_true l],Z (.int (w.1:Int)),Z (.int (w.2:Int)),rfl⟩
   .have l:¬((r.1 ^^^ w.1:Nat):Int)<(r.1:Int):=⋯;rw[if_neg q];refine⟨_,by simp![m,ml,qP,decide_eq_false l],Z (.int (w.1:Int)),Z (.int (w.2:Int)),rfl⟩)
 exact⟨a,b,by rw[e,t]⟩
def H9(a:List (Nat×Nat)):(a.foldl fW ([],[])).1.length+(a.foldl fW ([],[])).2.length=a.length:=by
 have c:∀(a:List (Nat×Nat))(st:List (Nat×Nat)×List Nat),(a.foldl fW st).1.length+(a.foldl fW st).2.length=st.1.length+st.2.length+a.length:=λa=>by
  induction a with
  |nil=>exact λ_=>rfl
  |cons p a b =>
   intro st;rw[Wx,b];unfold fW
   split<;>simp<;>lia
 rw[c];simp
def HR(z:Φ fc [d,e]=.ok (fp c))(L:c.length<=1000):bq pg Φ ⟨2,8,aj.rT fc⟩ [d,e]=.ok (fp (lI c).2):=by
 simp![aj.rT,o2,z,fp,oZ,oX];obtain⟨M,e,m,n,o,s,i,j,C⟩:=fk (f:=λp:Nat×Nat=>D.tup [.int (p.2:Nat),.int (p.1:Int)]) (g:=turn pg Φ 2 [4,5] {.asg 6 5e0,.asg 7 (.bin .shl 1e1 4e0),.dW 2 [8,9] (.seq 2e0) {.iff (.cmp .lt (.bin .xor 6e0 8e0) 6e0) {.asg 6 (.bin .xor 6e0 8e0),.asg 7 (.bin .xor 7e0 9e0)} .nil},.iff (.cmp .gt 6e0 0e1) {.app 2 (.tup {6e0,7e0})} {.app 3 7e0}})
  (λv w=>∃(m n o s i j:Option D),w=[Z d,Z e,Z (.lst ((v.foldl fW ([],[])).1.map bo)),Z (fp (v.foldl fW ([],[])).2),m,n,o,s,i,j])
  c.zipIdx [Z d,Z e,Z (.lst []),Z (.lst []),Y,Y,Y,Y,Y,Y] ⟨Y,Y,Y,Y,Y,Y,rfl⟩ (λpre p post w u K=>by
   obtain⟨m,n,o,s,i,j,y⟩:=K;subst y;have G:=Q9 XP u;rw[List.length_zipIdx,PI,VS]at G;have F:=H9 pre;have t:p.2<=1000:=by
    have H:p∈c.zipIdx:=(by rw[u];simp);obtain⟨a,k⟩:=p;have:=Tu.mp H;have:=(P5.mp this).1;dsimp only;lia
   rw[Wf,Wx,YK];generalize pre.foldl fW ([],[])=st at F;obtain⟨y8,y9,h⟩:=GF (pg:=pg) (Φ:=Φ) (y8:=i) (y9:=j) st.1 (p.1,2 ^ p.2) (Z d) (Z e) (Z (.lst (st.1.map bo))) (Z (fp st.2)) (Z (.int (p.2:Nat))) (Z (.int (p.1:Int)));unfold fW;dsimp only at h;generalize eX st.1 (p.1,2 ^ p.2)=r at h
   by_cases q:0<r.1
   .have l:(0:Int)<(r.1:Int):=⋯;have h5:=vM (st.1.map bo) (bo r) (by rw[VD,fM];lia);have x:bo r=.tup [.int (r.1:Int),.int (r.2:Int)]:=rfl;rw[x]at h5;rw[if_pos q];refine⟨_,by simp![ml,uD t,h,decide_eq_true l,h5];rfl,Z (.int (p.2:Nat)),Z (.int (p.1:Int)),Z (.int (r.1:Int)),Z (.int (r.2:Int)),y8,y9,?_⟩;rw[VW];rfl
   .have l:¬(0:Int)<(r.1:Int):=⋯;have h5:=vM (st.2.map λb:Nat=>D.int (b:Int)) (.int (r.2:Int)) (by rw[VD,fM];lia);rw[if_neg q];refine⟨_,by simp![ml,fp,uD t,h,decide_eq_false l,h5];rfl,Z (.int (p.2:Nat)),Z (.int (p.1:Int)),Z (.int (r.1:Int)),Z (.int (r.2:Int)),y8,y9,?_⟩;simp only[fp,VW,VK,Rt])
 simp![e,C,fp];rfl
def HK(d:U.Nodup)(b:Nat):bq pg Φ ⟨2,0,aj.rF⟩ [.int (b:Int),.lst (U.map af)]=.ok (bx U b):=by
 have e1:bA (elem pg Φ [Z (.int (b:Int)),Z (.lst (U.map af))] 3e0 2 (.some (.cmp .eq (.bin .and (.bin .shr 0e0 2e0) 1e1) 1e1))) (U.map λc=>.tup [.int (ba U c:Nat),af c])=.ok ((U.filter λc=>b.testBit (ba U c)).map af):=ff λc _=>by
  have a:bK .shr (.int (b:Int)) (.int (ba U c:Nat))=.ok (.int ((b / 2 ^ ba U c:Nat):Int)):=by
   rw[Mi,if_pos ⋯,Wk];congr 2
  have h2:bK .and (.int ((b / 2 ^ ba U c:Nat):Int)) (.int 1)=.ok (.int ((b / 2 ^ ba U c &&& 1:Nat):Int)):=mJ _ 1;have h3:(((b / 2 ^ ba U c &&& 1:Nat):Int)==1)=b.testBit (ba U c):=by
   rw[Nat.and_one_is_mod,Nat.testBit_eq_decide_div_mod_eq,R4,P8,PM];lia
  simp![sO,a,h2,h3];cases b.testBit (ba U c)<;>rfl
 simp![aj.rF,o2,oZ,w8 d,e1];rfl
def HQ(z)(C:U.Nodup)(t:Φ fr [d,e]=.ok (fp (lI a).2))(c:∀k:Int,∃r:Int,0<=r/\r<ib/\Φ fd [.int z,.int k]=.ok (.int r))(s:∀b:Nat,Φ fh [.int (b:Int),.lst (U.map af)]=.ok (bx U b))(n:Φ fc [d,e]=.ok (.lst (U.map af))):
  ∃b:Nat,bq pg Φ ⟨3,3,aj.rS fh fc fr fd⟩ [d,e,.int z]=.ok (bx U b)/\bd a b=0/\b<2 ^ a.length:=by
 have hz:bd a 0=0/\0<2 ^ a.length:=⟨kY a,SF _⟩;have l:=w1 a (λk=>decide ((c k).choose%2=1)) (lI a).2 0 0 (H7 a) hz;refine⟨_,?_,l⟩;simp![gM,aj.rS,o2,t,fp,oZ,oX];obtain⟨G,e,x,y,o⟩:=fk (f:=λp:Nat×Nat=>D.tup [.int (p.2:Nat),.int (p.1:Int)]) (g:=turn pg Φ 2 [4,5] {.iff (.cmp .eq (.bin .mod (.call fd {2e0,4e0}) 2e1) 1e1) {.asg 3 (.bin .xor 3e0 5e0)} .nil})
  (λu j=>∃(x y:Option D),j=[Z d,Z e,Z (.int z),Z (.int ((u.foldl (λz p=>if decide ((c p.2).choose%2=1)=J then z ^^^ p.1 else z) 0:Nat):Int)),x,y])
  ((lI a).2.zipIdx 0) [Z d,Z e,Z (.int z),Z (.int 0),Y,Y] ⟨Y,Y,rfl⟩ (λpre p post j F v=>by
   obtain⟨x,y,m⟩:=v;subst m;rw[Wf,Wx,YK];generalize pre.foldl (λz p=>if decide ((c p.2).choose%2=1)=J then z ^^^ p.1 else z) 0=w;have h:=(c p.2).choose_spec.2.2;generalize (c p.2).choose=r at h;have h2:bK .mod (.int r) (.int 2)=.ok (.int (r%2)):=eb _ _ ∅
   by_cases q:r%2=1
   .have i:(r%2==1)=true:=P8.mpr q;rw[decide_eq_true q];refine⟨_,by simp![ml,h,h2,i,qP];rfl,_,_,rfl⟩
   .have i:(r%2==1)=false:=beq_eq_false_iff_ne.mpr q;rw[decide_eq_false q];refine⟨_,by simp![ml,h,h2,i];rfl,_,_,rfl⟩)
 simp![e,o,n,s]
def GS{xs U:List (List Int)}(a:Φ fc [d,e]=.ok (.tup (U.map af)))(b:U.filter (λc=>decide (c∈xs))=xs):bq pg Φ ⟨3,0,aj.rz fc⟩ [d,.tup (xs.map af),e]=.ok (.ag J):=by
 have e1:bA (elem pg Φ [Z d,Z (.tup (xs.map af)),Z e] 3e0 0 (.some (.cmp .mem 3e0 1e0))) (U.map af)=.ok ((U.filter λc=>decide (c∈xs)).map af):=ff λc _=>by
  simp![tK];cases decide (c∈xs)<;>rfl
 rw[b]at e1;simp![gM,aj.rz,a,e1,xb,Ve]
def CY(a:U.Nodup)(d:xs.Nodup)(h:∀x∈xs,x∈U):bq pg Φ ⟨2,0,aj.mM⟩ [.tup (xs.map af),.aI (mk U)]=.ok (.int (bh U xs:Int)):=by
 have e1:bA (elem pg Φ [Z (.tup (xs.map af)),Z (.aI (mk U))] (.eC 1 2) 0 .none) (xs.map af)=.ok (xs.map λx=>D.int ((2 ^ ba U x:Nat):Int)):=fN λc b=>by
  simp![jg,oU a (h c b)]
 simp![aj.mM,e1,p9,uR a d h]
def z8(a)(r):(red (c5 [] (cC a)) r).1=0<->sp a r.1:=by
 rw[um (lB cE.nil),pe cE.nil,tO];show sp (a++[]) r.1<->_;rw[QB]
structure q2(Φ:dw)(m:Int)(ts:List (List Int))(FT fr bL F3 FI fc:Nat):Prop where
 cell:∀t∈ts,IsCell m t
 six:m<=8
 hm:∀k:Nat,Φ FT [aL m ts,.int (k:Int)]=.ok (.aI (mk (cl ts (k+1))))
 x4:∀U xs:List (List Int),U.Nodup->xs.Nodup->(∀x∈xs,x∈U)->Φ FI [.tup (xs.map af),.aI (mk U)]=.ok (.int (bh U xs:Int))
 ya:∀k:Nat,Φ F3 [aL m ts,.int (k:Int)]=.ok (.lst ((cC (aU ts (k+1))).map bo))
 x3:∀rs:List Row,rs.length<=255->Φ bL [.lst (rs.map bo)]=.ok (.aO (cb (c5 [] rs)))
 x9:∀(B:cc)(r:Row),(B.map (·.1)).Nodup->Φ fr [bo r,.aO (cb B)]=.ok (bo (red B r))
 x5:∀(U:List (List Int))(b:Nat),U.Nodup->Φ fc [.int (b:Int),.aI (mk U)]=.ok (bx U b)
structure kU(gj:List (List Int×Int))(aS:List (List Int)):Prop where
 di:(gj.map (·.1)).Nodup
 eh:∀p∈gj,p.2=(aS.count p.1:Int)
 ms:∀k,k∈gj.map (·.1)<->k∈aS
def OI(h:k∉b.map (·.1)):et b k=none:=by
 unfold et;rw[Zh.mpr]
 .rfl
 .intro p a z;exact h (VP.mpr ⟨p,a,RK z⟩)
def BI(t:kU b a)(h:k∈a):et b k=Z (a.count k:Int):=by
 unfold et;cases q:b.find? λp=>decide (p.1=k) with
 |none =>
  obtain⟨p,c,e⟩:=VP.mp ((t.ms k).mpr h);exact absurd (decide_eq_true e) (Zh.mp q p c)
 |some p =>
  have e:p.1=k:=(by have:=List.find?_some q;exact RK this);have:=t.eh p (List.mem_of_find?_eq_some q);rw[e]at this;rw[WO,this]
def NY(t:kU b aS)(k):kU (putN b k ((et b k).getD 0+1)) (aS++[k]):=by
 unfold putN
 by_cases h:k∈aS
 .have c:=(t.ms k).mpr h;obtain⟨p,d,e⟩:=VP.mp c;rw[if_pos (S0.mpr ⟨p,d,decide_eq_true e⟩),BI t h];have e1:((b.map λp=>if p.1=k then(p.1,(Z (aS.count k:Int)).getD 0+1) else p).map (·.1))=b.map (·.1):=by
   rw[VU];refine Q8 λp _=>?_
   simp only[Xq]
   split<;>rfl
  refine⟨by rw[e1];exact t.di,λq a=>?_,λz=>?_⟩
  .obtain⟨o,j,rfl⟩:=VP.mp a;have:=t.eh o j
   split
   .rename_i e;simp only[ZL,e,SQ,XO];lia
   .rename_i e;rw[this,SQ,YL];have g:¬k=o.1:=λz=>e z.symm
    simp[g]
  .rw[e1,t.ms,PS,P6];exact⟨.inl,λw=>w.elim (λx=>x) λx=>x▸h⟩
 .have c:k∉b.map (·.1):=λz=>h ((t.ms k).mp z)
  have:¬(b.any λp=>decide (p.1=k))=true:=λz=>by
   obtain⟨p,d,e⟩:=S0.mp z;exact c (VP.mpr ⟨p,d,RK e⟩)
  rw[if_neg this,OI c];refine⟨?_,λq a=>?_,λz=>?_⟩
  .rw[VW];refine Rv.mpr ⟨t.di,Qk.mpr ⟨by simp,RF⟩,λx l y f e=>?_⟩;rw[List.map_singleton,P6]at f;subst e;subst f;exact c l
  .rcases PS.mp a with a|a
   .have i:=t.eh q a;have h2:q.1∈aS:=(t.ms _).mp (VP.mpr ⟨q,a,rfl⟩);have h3:k≠q.1:=λz=>h (z▸h2)
    rw[i,SQ,YL];simp[h3]
   .rw[P6]at a;subst a;rw[SQ,XO,Td.mpr h];rfl
  .rw[VW,PS,t.ms,PS];rfl
theorem sC(e):∀cs:List (List Int),(∀c∈cs,bG ltI c)->(cs.flatMap bj).count e=cnt e cs
 |[],_=>rfl
 |c::cs,h=>by
  have a:=sC e cs λd b=>h d (VG _ b)
  rw[UG,SQ,a];unfold cnt;rw[Wz,Nat.add_comm];congr 1
  by_cases q:e∈bj c
  .rw[decide_eq_true q,if_pos rfl];have a:=YF.mp (n4 (h c VF)) e;have h2:=Zc.mpr q;lia
  .rw[decide_eq_false q,Td.mpr q];rfl
def Ep(h:a.length<1000)(o):mZ (Z (Z (.aI a))) (Z (Z (af o)))=.ok (.aI (putN a o ((et a o).getD 0+1))):=by
 show(match Z a,eg (af o) with
  |some a,Z k=>if a.length<1000 then R.ok (D.aI (putN a k ((et a k).getD 0+1))) else .bad
  |_,_=>.bad)=_
 rw[kL];exact if_pos h
def El(h:et a c=Z n):hO (Z (Z (.aI a))) (Z (Z (af c)))=.ok (.int n):=by
 show(match Z a,eg (af c) with
  |some a,Z k=>(match et a k with|some n=>R.ok (D.int n)|none=>.bad)
  |_,_=>_)=_
 rw[kL];dsimp only;rw[h]
def HP{cs U:List (List Int)}(N:∀c∈cs,bG ltI c/\c.length<=1000)(G:∀c∈cs,∀e∈bj c,e∈U)(b1:U.length<=255):bq pg Φ ⟨1,4,aj.rR⟩ [.tup (cs.map af)]=.ok (.tup ((dj cs).map af)):=by
 simp![aj.rR,xo];have X:∀{a W},kU a W->(∀k∈W,k∈U)->a.length<=255:=λt h=>by
  have:=gm t.di λz hz=>h z ((t.ms z).mp hz)
  rw[VD]at this;lia
 generalize b2:D.tup (cs.map af)=d;obtain⟨aA,e,a,x,y,z,H,m⟩:=fk (f:=af) (g:=turn pg Φ 0 [2] {.dW 0 [3] (.dG (.bin .mul (.prim .len 2e0) (.prim .int (.cmp .gt (.prim .len 2e0) 1e1)))) {.asg 4 (.bin .add (.slice 2e0 .none (.some 3e0)) (.slice 2e0 (.some (.bin .add 3e0 1e1)) .none)),.iv 1 4}})
  (λL v=>∃(a:List (List Int×Int))(x y z:Option D),v=[Z d,Z (.aI a),x,y,z]/\kU a (L.flatMap bj))
  cs [Z d,Z (.aI []),Y,Y,Y] ⟨[],Y,Y,Y,rfl,⟨RF,λ_ h=>by simp at h,λ_=>by simp⟩⟩ (λpre c post v C M=>by
   obtain⟨a,x,y,z,F,m⟩:=M;subst F;have Q:c∈cs:=(by rw[C];simp);have a5:∀z∈pre,z∈cs:=λz hz=>by rw[C];simp[hz]
   obtain⟨s,P⟩:=N c Q;have a4:∀k∈pre.flatMap bj,k∈U:=λk l=>by
    obtain⟨o,u,l⟩:=RV.mp l;exact G o (a5 o u) k l
   obtain⟨n,bc,a2,V⟩:∃n:Nat,n<=1000/\bK .mul (.int (c.length:Int)) (.int (if decide ((1:Int)<(c.length:Int))=J then 1 else 0))=.ok (.int (n:Int))/\bj c=(VR n).map λk=>c.take k++c.drop (k+1):=by
    unfold bj
    by_cases q:1<c.length
    .have r:(1:Int)<(c.length:Int):=⋯;exact⟨c.length,P,by rw[decide_eq_true r,if_pos rfl,hp _ _ (.inr (by rw[gs];lia))];simp,if_pos q⟩
    .have r:¬(1:Int)<(c.length:Int):=⋯;exact⟨0,⋯,by rw[decide_eq_false r,if_neg ∅,hp _ _ (.inr (by rw[gs];lia))];simp,if_neg q⟩
   have au:∀lo hi,hy (af c) lo hi=.ok (.tup (cut (c.map D.int) lo hi)):=λlo hi=>rfl
   obtain⟨aA,e,a8,bf,bp,H,az⟩:=fk (f:=λk:Nat=>D.int (k:Int)) (g:=turn pg Φ 0 [3] {.asg 4 (.bin .add (.slice 2e0 .none (.some 3e0)) (.slice 2e0 (.some (.bin .add 3e0 1e1)) .none)),.iv 1 4})
    (λL v=>∃(a:List (List Int×Int))(y z:Option D),v=[Z d,Z (.aI a),Z (af c),y,z]/\kU a (pre.flatMap bj++L.map λk=>c.take k++c.drop (k+1)))
    (VR n) [Z d,Z (.aI a),Z (af c),y,z] ⟨a,y,z,rfl,by rw[Rt,QB];exact m⟩ (λbg k a9 v C M=>by
     obtain⟨a,y,z,F,m⟩:=M;subst F;have K:a.length<1000:=by
      have:=X m λw hw=>by
       rcases PS.mp hw with hw|hw
       .exact a4 w hw
       .obtain⟨j,a1,rfl⟩:=VP.mp hw;exact G c Q _ (by rw[V];exact VP.mpr ⟨j,by rw[C];simp[a1],rfl⟩)
      lia
     refine⟨_,by simp![au,AJ P,Fo,Ep K];rfl,_,_,_,rfl,?_⟩;rw[VW,<- PR];exact NY m _)
   have ay:∀b:Bool,ht pg.up .int (.ag b)=.ok (.int (if b=J then 1 else 0)):=λb=>rfl
   refine⟨_,by simp![ay,nB,a2,iQ (i:=0) (j:=(n:Int)) ⋯ ⋯ ⋯ ⋯,ui,e,H];rfl,_,_,_,_,rfl,?_⟩;rw[S5,List.flatMap_singleton,V];exact az)
 rw[e,H];have s:∀c∈cs,bG ltI c:=λc h=>(N c h).1
 have a0:∀k∈cs.flatMap bj,k∈U:=λk l=>by
  obtain⟨o,u,l⟩:=RV.mp l;exact G o u k l
 have K:=X m a0;have a3:∀c∈a.map (·.1),c≠[]:=λk l=>by
  obtain⟨o,u,l⟩:=RV.mp ((m.ms k).mp l);exact uI (s o u) l
 have av:lh (Z (Z (.aI a)))=.ok (.lst ((br lexLt (a.map (·.1))).map af)):=by
  simp only[lh,fC];have:(a.map λp=>D.tup (p.1.map .int))=(a.map (·.1)).map af:=(by rw[VU];rfl);rw[this,Mv a3 (by rw[VD];exact K)]
 have e1:bA (elem pg Φ [Z d,Z (.aI a),x,y,z] 5e0 0 (.some (.cmp .eq (.bin .mod (.eC 1 5) 2e1) 1e1))) ((br lexLt (a.map (·.1))).map af)=.ok (((br lexLt (a.map (·.1))).filter λk=>decide (cnt k cs%2=1)).map af):=ff λk l=>by
  have l:=(m.ms k).mp ((fX _ _).mp l);have T:=El (BI m l);rw[sC k cs s]at T;simp![jg,T,eb _ 2 ∅]
  by_cases q:cnt k cs%2=1
  .have r:((cnt k cs:Int)%2==1)=true:=(by rw[P8];lia);rw[r,decide_eq_true q];rfl
  .have r:((cnt k cs:Int)%2==1)=false:=(by rw[beq_eq_false_iff_ne];lia);rw[r,decide_eq_false q];rfl
 simp![E3,av,e1];congr 3;refine ij eW (QD RO (g5 eW m.di)) (vY _) λk=>?_
 rw[P4,fX,m.ms,pQ s,PM];refine⟨λh=>h.2,λh=>⟨?_,h⟩⟩;apply Qv;intro z;have:=Td.mpr z;rw[sC k cs s]at this;lia
def HM{U:List (List Int)}(z)(g:U.Nodup)(a:∀k:Int,∃r:Int,0<=r/\r<ib/\Φ fd [.int z,.int k]=.ok (.int r))(h:Φ fc [d,e]=.ok (.lst (U.map af))):
  ∃q:List Int->Bool,bq pg Φ ⟨3,1,aj.rH fd fc⟩ [d,e,.int z]=.ok (.tup ((U.filter q).map af)):=by
 refine⟨λc=>decide ((a (ba U c:Nat)).choose%3=0),?_⟩;have e1:bA (elem pg Φ [Z d,Z e,Z (.int z),Z (.lst (U.map af))] 5e0 2 (.some (.cmp .eq (.bin .mod (.call fd {2e0,4e0}) 3e1) 0e1))) (U.map λc=>.tup [.int (ba U c:Nat),af c])=.ok ((U.filter λc=>decide ((a (ba U c:Nat)).choose%3=0)).map af):=ff λc _=>by
  have b:=(a (ba U c:Nat)).choose_spec.2.2;generalize (a (ba U c:Nat)).choose=r at b;have h2:bK .mod (.int r) (.int 3)=.ok (.int (r%3)):=eb _ _ ∅
  by_cases q:r%3=0
  .have f:(r%3==0)=true:=P8.mpr q;simp![sO,b,h2,f,decide_eq_true q]
  .have f:(r%3==0)=false:=beq_eq_false_iff_ne.mpr q;simp![sO,b,h2,f,decide_eq_false q]
 simp![gM,aj.rH,h,o2,oZ,w8 g,e1]
def GV(c:Φ a [d,x,e]=.ok (.ag J))(h2:Φ fr [x]=.ok (.ag b)):bq pg Φ ⟨3,0,aj.rB fr a⟩ [d,x,e]=.ok (.ag b):=by
 simp![gM,aj.rB,c,h2]
def FR(d:U.Nodup)(q):∃b:Nat,b<2 ^ U.length/\D.tup ((U.filter q).map af)=bx U b:=by
 refine⟨bh U (U.filter q),iG λc a=>(P4.mp a).1,?_⟩;unfold bx;congr 2;refine UE λc a=>?_
 obtain⟨j,e,rfl⟩:=T6 a;rw[lE d e,ko j e (d.filter q) d,R4];simp only[PM,P4];exact⟨λh=>⟨a,h⟩,λh=>h.2⟩
noncomputable abbrev dc(U:List (List Int))(b:Nat):List (List Int):=U.filter λc=>b.testBit (ba U c)
def xE(d:U.Nodup)(b):U.filter (λc=>decide (c∈dc U b))=dc U b:=UE λc a=>by
 rw[R4,PM,P4];exact⟨λq=>q.2,λq=>⟨a,q⟩⟩
def Aj{xs:List (List Int)}(k:∀t∈ts,IsCell m t)(f:∀c∈xs,c∈cl ts (n+1)):dj xs=dc (cl ts n) (bd (aU ts (n+1)) (bh (cl ts (n+1)) xs)):=by
 have b:∀c∈xs,bG ltI c:=λc d=>k7 k (f c d)
 have e1:bd (aU ts (n+1)) (bh (cl ts (n+1)) xs)=ft (xs.map λc=>bh (cl ts n) (bj c)):=r4 f;have g:∀e∈cl ts n,(ft (xs.map λc=>bh (cl ts n) (bj c))).testBit (ba (cl ts n) e)=decide (cnt e xs%2=1):=λe a=>by
  obtain⟨j,i,rfl⟩:=T6 a;rw[lE (en ts n) i,BW (sd:=bj) (c:=xs) (en ts n) (λx o=>n4 (b x o)) i];rw[R4,PM,PM];refine Iff.of_eq (Q9 (· % 2=1) (?e:_=cnt (cl ts n)[j] xs));exact RH λx _=>by simp only[PM]
 refine ij eW (vY _) (QD RO (ro _ _)) λe=>?_
 rw[pQ b,P4,e1];constructor
 .intro h;obtain⟨c,d,l⟩:=ur b ((pQ b).mpr h);have a:e∈cl ts n:=iq k (f c d) l;exact⟨a,by rw[g e a];exact decide_eq_true h⟩
 .rintro⟨a,h⟩;rw[g e a]at h;exact RK h
def ip(hz:z∈dc U b):z∈U:=(P4.mp hz).1
def Ai(e:∀t∈ts,IsCell m t)(a:b<2 ^ (cl ts (n+1)).length):dj (dc (cl ts (n+1)) b)=dc (cl ts n) (bd (aU ts (n+1)) b):=by
 rw[Aj e λc d=>ip d,pT (en ts (n+1)) a]
def Dw(U):dc U 0=[]:=RT.mpr λc _=>by rw[Sn];decide
def KU(k:∀t∈ts,IsCell m t)(x):bd (aU ts (n+1)) x<2 ^ (cl ts n).length:=by
 have o:∀d:List Nat,(∀a∈d,a<2 ^ (cl ts n).length)->∀x,bd d x<2 ^ (cl ts n).length:=snoc_ind (λ_ x=>SF _) λd a l h x=>by
  rw[oM];refine Q0 (l (λb g=>h b (VV _ g)) x) ?_
  split
  .exact h a (by simp)
  .exact SF _
 refine o _ (λa f=>?_) x;obtain⟨c,i,rfl⟩:=VP.mp f;exact iG λe j=>iq k i j
def qf(c:∀t∈ts,IsCell m t)(d:b<2 ^ (cl ts (n+1)).length):dj (dc (cl ts (n+1)) b)=[]<->bd (aU ts (n+1)) b=0:=by
 rw[Ai c d];constructor
 .intro h;have a:=pT (en ts n) (KU (n:=n) c b);have a:bh (cl ts n) (dc (cl ts n) (bd (aU ts (n+1)) b))=_:=a;rw[h]at a;exact a.symm
 .intro h;rw[h,Dw]
def Gw(rs):(iC rs).1=c5 [] rs:=by
 have b:∀(rs:List Row)(st:cc×List Nat),(rs.foldl step st).1=c5 st.1 rs:=λrs=>by
  induction rs with
  |nil=>exact λ_=>rfl
  |cons r rs a=>exact λst=>a _
 exact b rs _
def told(a):∀e∈c5 [] (cC a),bd a e.2.2=e.2.1/\e.2.2<2 ^ a.length:=by
 have:=(MF a).j3;rwa[Gw]at this
def FL(L:q2 Φ m ts g fr o h f fc)(C:b<2 ^ (cl ts (n+1)).length)(hi:Φ p [aL m ts,bx (cl ts (n+1)) b,.int (n:Nat)]=.ok (.ag J)):
  (¬sp (aU ts (n+2)) b/\bq pg Φ ⟨3,2,aj.mO fc g fr o h f p⟩ [aL m ts,bx (cl ts (n+1)) b,.int (n:Nat)]=.ok .aW) \/
  ∃z,z<2 ^ (cl ts (n+2)).length/\bd (aU ts (n+2)) z=b/\sp (aU ts (n+2)) b/\bq pg Φ ⟨3,2,aj.mO fc g fr o h f p⟩ [aL m ts,bx (cl ts (n+1)) b,.int (n:Nat)]=.ok (bx (cl ts (n+2)) z):=by
 have i:=en ts (n+1);have s:=L.hm n;have m2:Φ g [aL m ts,.int ((n:Int)+1)]=.ok (.aI (mk (cl ts (n+2)))):=L.hm (n+1);have b1:=L.x4 _ (dc (cl ts (n+1)) b) i (i.filter _) λc F=>ip F
 rw[pT i C]at b1;have b1:Φ f [bx (cl ts (n+1)) b,.aI (mk (cl ts (n+1)))]=_:=b1;have t:Φ h [aL m ts,.int ((n:Int)+1)]=.ok (.lst ((cC (aU ts (n+2))).map bo)):=L.ya (n+1);have b2:=L.x3 (cC (aU ts (n+2))) (by rw[yX,md];exact ja L.six L.cell _);have y:=lB (rs:=cC (aU ts (n+2))) cE.nil;have a:=L.x9 _ (b,0) (lj y);have a:Φ fr [.tup [.int (b:Int),.int 0],.aO (cb (c5 [] (cC (aU ts (n+2)))))]=_:=a;have d:=z8 (aU ts (n+2)) (b,0);dsimp only at d;have k:=Aa (b,0) λe j=>(told (aU ts (n+2)) e j).1
 obtain⟨u,G,v⟩:=uk (B:=c5 [] (cC (aU ts (n+2)))) (r:=(b,0)) (n:=(aU ts (n+2)).length) λe j=>(told (aU ts (n+2)) e j).2
 generalize red (c5 [] (cC (aU ts (n+2)))) (b,0)=q at a d k v
 by_cases z:q.1=0
 .have l:((q.1:Int)==0)=true:=P8.mpr ⋯;have x:=L.x5 (cl ts (n+2)) q.2 (en ts (n+2));refine .inr ⟨q.2,?_,?_,d.mp z,by simp![gM,aj.mO,hi,s,m2,b1,t,b2,a,hW,tv,l,x]⟩
  .rw[v,Sa,<- md];exact G
  .rw[z,RR,kY,Sa]at k;exact k
 .have l:((q.1:Int)==0)=false:=beq_eq_false_iff_ne.mpr ⋯;exact .inl ⟨λw=>z (d.mpr w),by simp![gM,aj.mO,hi,s,m2,b1,t,b2,a,hW,tv,l]⟩
def MQ(L:cc):gR (L.map λe=>D.int ((2 ^ e.1:Nat):Int))=.ok (.int ((((L.map (·.1)).map λj=>2 ^ j).sum:Nat):Int)):=by
 have e:(L.map λe=>D.int ((2 ^ e.1:Nat):Int))=(L.map λe=>((2 ^ e.1:Nat):Int)).map D.int:=by rw[VU];rfl
 have c:∀L:cc,(L.map λe=>((2 ^ e.1:Nat):Int)).sum=((((L.map (·.1)).map λj=>2 ^ j).sum:Nat):Int):=λL=>by
  induction L with
  |nil=>rfl
  |cons a L b=>rw[VK,UJ,b];simp
 unfold gR;rw[e,tp];dsimp only;rw[c L]
abbrev ed(xs:List Nat):Nat:=(xs.map λj=>2 ^ j).sum
def Kr{U:List (List Int)}(g:U.Nodup){xs:List Nat}(n:xs.Nodup)(m:∀j∈xs,j<U.length):(dc U (ed xs)).Perm (xs.map λj=>U.getD j []):=by
 have f:∀j∈xs,U.getD j []∈U/\ba U (U.getD j [])=j:=λj d=>by
  have h:=m j d;rw[SU,PG h];exact⟨So h,lE g h⟩
 have i:∀y∈xs.map (λj=>U.getD j []),y∈U:=λy p=>by
  obtain⟨j,d,rfl⟩:=VP.mp p;exact(f j d).1
 have k:(xs.map λj=>U.getD j []).Nodup:=by
  rw[QC,QU];refine Q7 (λ{a b} r s (q:a≠b) e=>q ?_) (QC.mp n);rw[<- (f a r).2,e,(f b s).2]
 have e1:=tS g k i;have e2:((xs.map λj=>U.getD j []).map λx=>((2 ^ ba U x:Nat):Int)).sum=((ed xs:Nat):Int):=by
  have:((xs.map λj=>U.getD j []).map λx=>((2 ^ ba U x:Nat):Int))=xs.map λj=>((2 ^ j:Nat):Int):=by
   rw[VU];exact Q8 λj d=>by show((2 ^ ba U (U.getD j []):Nat):Int)=_;rw[(f j d).2]
  rw[this];unfold ed;clear f i k e1 this n m
  induction xs with
  |nil=>rfl
  |cons a L t=>rw[VK,UJ,t];simp
 rw[e2]at e1;have e1:ed xs=bh U (xs.map λj=>U.getD j []):=by lia
 refine zD (g.filter _) k λc=>?_
 rw[P4];have l:∀c∈U,(ed xs).testBit (ba U c)=decide (c∈xs.map λj=>U.getD j []):=λc o=>by
  obtain⟨j,d,rfl⟩:=T6 o;rw[lE g d,e1,ko j d k g];exact decide_eq_decide.mpr VA
 exact⟨λh=>RK ((l c h.1).symm.trans h.2),λh=>⟨i c h,(l c (i c h)).trans (decide_eq_true h)⟩⟩
def zV{U:List (List Int)}(a:U.Nodup){xs:List Nat}(f:xs.Nodup)(d:∀j∈xs,j<U.length)(b):((dc U (ed xs)).filter λc=>decide (c∈dc U b)).length=xs.countP λj=>b.testBit j:=by
 rw[<- RN,(Kr a f d).countP_eq,RL];refine RH λj e=>?_
 have h:=d j e;show decide (U.getD j []∈dc U b)=J<->_;rw[SU,PG h,PM,P4];show U[j]∈U/\b.testBit (ba U U[j])=J<->_;rw[lE a h];exact⟨λq=>q.2,λq=>⟨So h,q⟩⟩
structure rb(ts:List (List Int))(n b:Nat)(xs:List Nat):Prop where
 di:xs.Nodup
 lt:∀j∈xs,j<(cl ts (n+1)).length
 ev:∀x,sp (aU ts (n+2)) x->(xs.countP λj=>x.testBit j)%2=0
 d6:(xs.countP λj=>b.testBit j)%2=1
def OU(L:q2 Φ m ts M fr G p o fc)(N:b<2 ^ (cl ts (n+1)).length)(hi:Φ H [aL m ts,bx (cl ts (n+1)) b,.int (n:Nat)]=.ok (.ag J))(X:∀n:Nat,0<n->Φ K [.int (n:Int)]=.ok (.int ((2 ^ lo n:Nat):Int))):
  (sp (aU ts (n+2)) b/\bq pg Φ ⟨3,4,aj.j2 fc K fr o G p M H c0⟩ [aL m ts,bx (cl ts (n+1)) b,.int (n:Nat)]=.ok .aW) \/
  ∃xs,rb ts n b xs/\bq pg Φ ⟨3,4,aj.j2 fc K fr o G p M H c0⟩ [aL m ts,bx (cl ts (n+1)) b,.int (n:Nat)]=.ok (bx (cl ts (n+1)) (ed xs)):=by
 have s:=en ts (n+1);have T:=L.hm n;have b1:=L.x4 _ (dc (cl ts (n+1)) b) s (s.filter _) λc t=>ip t
 rw[pT s N]at b1;have b1:Φ o [bx (cl ts (n+1)) b,.aI (mk (cl ts (n+1)))]=_:=b1;have U:Φ p [aL m ts,.int ((n:Int)+1)]=.ok (.lst ((cC (aU ts (n+2))).map bo)):=L.ya (n+1);have b2:=L.x3 (cC (aU ts (n+2))) (by rw[yX,md];exact ja L.six L.cell _);have h:=lB (rs:=cC (aU ts (n+2))) cE.nil;have u:=lj h;have f:=L.x9 _ (b,0) u;have f:Φ fr [.tup [.int (b:Int),.int 0],.aO (cb (c5 [] (cC (aU ts (n+2)))))]=_:=f;have k:=z8 (aU ts (n+2)) (b,0);dsimp only at k;have i:∀x,sp (rws (c5 [] (cC (aU ts (n+2))))) x<->sp (aU ts (n+2)) x:=λx=>by
  rw[pe cE.nil,tO];show sp (aU ts (n+2)++[]) x<->_;rw[QB]
 have Q:∀x,sp (aU ts (n+2)) x->x<2 ^ (cl ts (n+1)).length:=λx=>qs λa W=>by
  obtain⟨c,t,rfl⟩:=VP.mp W;exact iG λe d=>iq L.cell t d
 have v:=nX (B:=c5 [] (cC (aU ts (n+2)))) (r:=(b,0));have y:=λl=>O3 (l:=l) (c:=0) h b
 generalize c5 [] (cC (aU ts (n+2)))=B at b2 f u k i v y h;generalize au:red B (b,0)=q at f k v y
 by_cases z:q.1=0
 .have C:((q.1:Int)==0)=true:=P8.mpr ⋯;exact .inl ⟨k.mp z,by simp![gM,aj.j2,hi,T,b1,U,b2,f,hW,C]⟩
 .have C:((q.1:Int)==0)=false:=beq_eq_false_iff_ne.mpr ⋯;have l1:=X q.1 ⋯;have P:=(tG q.1 ⋯).1;have a0:q.1<2 ^ (cl ts (n+1)).length:=by
   have h2:=Q _ ((i _).mp v);have h3:=Q0 N h2;rwa[<- Rf,Su,Sa]at h3
  obtain⟨a1,a2,a3⟩:=y (lo q.1) P;have F:∀x:Nat,x<2 ^ (cl ts (n+1)).length->∀j,x.testBit j=J->j<(cl ts (n+1)).length:=λx w j g=>by
   apply Qv;intro c;rw[Qx (PH w (Qr ∅ ⋯))]at g;cases g
  have a4:∀j∈f5 B (lo q.1),j<(cl ts (n+1)).length:=λj g=>by
   rcases PF.mp g with rfl|g
   .exact F q.1 a0 _ P
   .obtain⟨e,d,rfl⟩:=VP.mp g;have d:=(P4.mp d).1;exact F e.2.1 (Q _ ((i _).mp (eZ (VP.mpr ⟨e,d,rfl⟩)))) _ (h.lo e d).1
  refine .inr ⟨f5 B (lo q.1),⟨a3,a4,λx w=>a1 x ((i x).mpr w),a2⟩,?_⟩;generalize a5:lo q.1=l at l1;have e1:bA (elem pg Φ [Z (aL m ts),Z (bx (cl ts (n+1)) b),Z (.int (n:Nat)),Z (.aI (mk (cl ts (n+1)))),Z (.aO (cb B)),Z (bo q),Z (.int ((2 ^ l:Nat):Int))] 7e0 0 (.some (.cmp .ne (.bin .and (.idx (.eC 4 7) 0e1) 6e0) 0e1))) (B.map λe=>D.int ((2 ^ e.1:Nat):Int))=.ok ((B.filter λe=>e.2.1.testBit l).map λe=>D.int ((2 ^ e.1:Nat):Int)):=ff λe d=>by
   have h2:=tT e.2.1 l;rw[sz,xa,zb]at h2;injection h2 with h2;simp![jg,sL u d,hW,mJ,h2];cases e.2.1.testBit l<;>rfl
  have e2:=MQ (B.filter λe=>e.2.1.testBit l);have e3:((2 ^ l:Nat):Int)+(((((B.filter λe=>e.2.1.testBit l).map (·.1)).map λj=>2 ^ j).sum:Nat):Int)=((ed (f5 B l):Nat):Int):=by
   unfold ed f5;rw[VK,UJ];rfl
  have V:=L.x5 (cl ts (n+1)) (ed (f5 B l)) (en ts (n+1));simp![gM,aj.j2,hi,T,b1,U,b2,f,hW,C,l1,nf,sM,e1,p9,e2,e3,V]
def OV(hi:Φ a [d,x,e]=.ok (.ag VC)):bq pg Φ ⟨3,4,aj.j2 fc f fr c b h g a c0⟩ [d,x,e]=.exc c0:=by
 simp![gM,aj.j2,hi,Fv,L3,EB]
def HG(c:List Int)(m:Int)(r:c.length<=1000):ev pg Φ [Z (D.tup (c.map .int)),Z (D.int m)] (.cmp .eq (.comp 2e0 0 (.mc 1e1 (.prim .len 0e0)) (.some (.cmp .ge (.idx 0e0 (.bin .sub 2e0 1e1)) (.idx 0e0 2e0)))) (.lst .nil))=.ok (.ag (jW ltI c)):=by
 have e3:bA (elem pg Φ [Z (D.tup (c.map .int)),Z (D.int m)] 2e0 0 (.some (.cmp .ge (.idx 0e0 (.bin .sub 2e0 1e1)) (.idx 0e0 2e0)))) ((VR (c.length-1)).map λ(k:Nat)=>D.int ((k:Int)+1))
   = .ok ((VR (c.length-1)).filterMap λk=>if decide (c.getD k 0<c.getD (k+1) 0) then Y else Z (D.int ((k:Int)+1))):=DW λk a=>by
  have a:=VZ.mp a;have g:c[k]?=Z (c.getD k 0):=(by rw[PG ⋯];simp[WG,PG (show k<c.length by lia)]);have h:c[k+1]?=Z (c.getD (k+1) 0):=(by rw[PG ⋯];simp[WG,PG (show k+1<c.length by lia)]);have o:=tl g;have q:=tl h;have e5:(k:Int)+1-1=(k:Int):=⋯;have f:(k:Int)+1=((k+1:Nat):Int):=⋯;simp![e5,o];rw[f,q];simp!
  by_cases z:c.getD k 0<c.getD (k+1) 0
  .have e:¬c.getD (k+1) 0<=c.getD k 0:=⋯;simp![decide_eq_true z,decide_eq_false e,wC]
  .have e:c.getD (k+1) 0<=c.getD k 0:=⋯;simp![decide_eq_false z,decide_eq_true e,wC]
 have n:=iQ (i:=1) (j:=((c.length:Nat):Int)) ⋯ ⋯ ⋯ ⋯;simp![ES,VD,n,KD,e3,ll (ys:=(VR (c.length-1)).filterMap λk=>if decide (c.getD k 0<c.getD (k+1) 0) then Y else Z (D.int ((k:Int)+1))) (by rw[Qd];intro d l;obtain⟨k,_,a⟩:=Tb.mp l;split at a<;>cases a;exact n3 _ _),FU];have e4:((VR (c.length-1)).all λk=>(if decide (c.getD k 0<c.getD (k+1) 0)=J then(Y:Option D) else Z (D.int ((k:Int)+1))).isNone)=jW ltI c:=by
  rw[vH];exact Q9 (λp=>List.all (VR (c.length-1)) p) (funext λk=>by generalize decide (c.getD k 0<c.getD (k+1) 0)=b;cases b<;>rfl)
 rw[e4]
def Jc{a b x:Int}(h0:a<=x)(c:x<=b):bq pg Φ ⟨3,0,aj.rO⟩ [.int x,.int a,.int b]=.ok (.ag J):=by
 have d:hn pg.up (.int x) .int=.ok true:=rfl;have e:hn pg.up (.int x) .bool=.ok false:=rfl;simp![gM,aj.rO,ud,d,e,EZ,DM,decide_eq_true h0,decide_eq_true c]
def HI(e:∀x a b:Int,a<=x->x<=b->Φ f [.int x,.int a,.int b]=.ok (.ag J))(h:IsCell m c)(i:c.length<=1000):bq pg Φ ⟨2,0,aj.rJ f⟩ [af c,.int m]=.ok (.ag J):=by
 obtain⟨j,g,d⟩:=h;have l:hn pg.up (af c) .tuple=.ok true:=rfl;have e0:dt (af c) (.tup [])=.ok false:=by
  have:=m9 (ys:=c.map .int) (uE 59 c);unfold af;rw[this];cases c with
  |nil=>exact absurd rfl j
  |cons _ _=>rfl
 have e1:bA (elem pg Φ [Z (af c),Z (.int m)] 2e0 0 (.some (.not (.call f {2e0,0e1,.bin .sub 1e0 1e1})))) (c.map .int)=.ok ((c.filter λ_=>VC).map .int):=ff λx k=>by
  have:=g x k;simp![e x 0 (m-1) ⋯ ⋯]
 have e2:(c.filter λ_=>VC)=[]:=RT.mpr λ_ _=>by decide
 rw[e2,Rt]at e1;have e3:=HG (pg:=pg) (Φ:=Φ) c m i;rw[(vG ho c).mpr d]at e3;have e4:dt (.lst ([]:List D)) (.lst [])=.ok true:=ll (ys:=[]) rfl;have e3:ev pg Φ [Z (af c),Z (.int m)] _=.ok (.ag J):=e3;simp![aj.rJ,ud,l,sU,t4,e0,ql,e1,e4,e3]
def HL{xs U:List (List Int)}(d:∀c∈xs,Φ fc [af c,.int m]=.ok (.ag J))(b:Φ a [aL m ts,e]=.ok (.lst (U.map af)))(f:U.filter (λc=>decide (c∈xs))=xs):bq pg Φ ⟨3,0,aj.rK a fc⟩ [.tup (xs.map af),aL m ts,e]=.ok (.ag J):=by
 have i:hn pg.up (.tup (xs.map af)) .tuple=.ok true:=rfl;have g:fU (aL m ts) (.int 0)=.ok (.int m):=rfl;have e1:bA (elem pg Φ [Z (.tup (xs.map af)),Z (aL m ts),Z e] 3e0 0 (.some (.not (.call fc {3e0,.idx 1e0 0e1})))) (xs.map af)=.ok ((xs.filter λ_=>VC).map af):=ff λc h=>by
  simp![g,d c h]
 have e2:(xs.filter λ_=>VC)=[]:=RT.mpr λ_ _=>by decide
 rw[e2,Rt]at e1;have e3:bA (elem pg Φ [Z (.tup (xs.map af)),Z (aL m ts),Z e] 3e0 0 (.some (.cmp .mem 3e0 0e0))) (U.map af)=.ok ((U.filter λc=>decide (c∈xs)).map af):=ff λc _=>by
  simp![tK];cases decide (c∈xs)<;>rfl
 rw[f]at e3;have e4:dt (.lst ([]:List D)) (.lst [])=.ok true:=ll (ys:=[]) rfl;simp![gM,aj.rK,ud,i,sU,t4,e1,e4,xi,b,e3,EL,Ve]
def Je(xs ys:List (List Int)):bq pg Φ ⟨2,0,aj.rP⟩ [.tup (xs.map af),.tup (ys.map af)]=.ok (.ag (decide ((xs.filter λc=>decide (c∈ys)).length%2=1))):=by
 have e3:bA (elem pg Φ [Z (.tup (xs.map af)),Z (.tup (ys.map af))] 2e0 0 (.some (.cmp .mem 2e0 1e0))) (xs.map af)=.ok ((xs.filter λc=>decide (c∈ys)).map af):=ff λc _=>by
  simp![tK];cases decide (c∈ys)<;>rfl
 generalize xs.filter (λc=>decide (c∈ys))=a at e3;have e4:((a.length:Int)%2==1)=decide (a.length%2=1):=by
  rw[R4,P8,PM];lia
 simp![aj.rP,e3,VD,eb _ 2 ∅,e4]
def KN(hw:Φ g [d,x,e]=.exc 1)(h:gC pg 1 1 ⟨3,4,[b,a,c,f],c0,1000⟩=.ok (.bH (.ag J))):bq pg Φ ⟨3,2,aj.rQ g 1 b a c f c0⟩ [d,x,e]=.ok (.ag J):=by
 simp![gM,aj.rQ,xr,Fq,hw,Bp,h]
abbrev nY(e c a b g f d:Nat):B:=.cons (.asg 4 (.call d {1e0,3e0,2e0})) {.iff (.cmp .ne (.call a {3e0}) (.tup .nil)) {.ret (.and (.cmp .is 4e0 (.lit .aW)) (.call f {1e0,3e0,2e0}))} .nil,.asg 5 (.call g {1e0,3e0,2e0}),.iff (.cmp .ki 4e0 (.lit .aW)) {.ret (.and (.cmp .is 5e0 (.lit .aW)) (.and (.call b {4e0,1e0,.bin .add 2e0 1e1}) (.cmp .eq (.call a {4e0}) 3e0)))} .nil,.iff (.or (.cmp .is 5e0 (.lit .aW)) (.or (.not (.call b {5e0,1e0,2e0})) (.not (.call c {5e0,3e0})))) {.ret (.lit (.ag VC))} .nil,.ret (.cmp .eq (.comp 6e0 0 (.seq (.call e {1e0,.bin .add 2e0 1e1})) (.some (.call c {5e0,.call a {.tup {6e0}}}))) (.lst .nil))}
def HE(c)(h)(j)(f)(l)(i)(b)(a)(d)(k)(e)(g):aj.rC c h j f l i b a d k e g=.cons (.asg 1 (.call g {.call a {0e0,0e1},.bin .add 6e1 (.bin .mul 2e1 (.prim .int (.cmp .eq (.bin .mod (.bin .fdiv (.call a {0e0,0e1}) 5e1) 4e1) 1e1)))})) (.cons (.asg 2 (.bin .mod (.call a {0e0,1e1}) (.min2 8e1 (.bin .add (.call e {1e0}) 1e1)))) (.cons (.asg 3 (.call k {1e0,2e0,.call a {0e0,2e1}})) (.cons (.iff (.cmp .eq (.bin .mod (.call a {0e0,3e1}) 5e1) 1e1) {.asg 3 (.call d {1e0,2e0,.call a {0e0,4e1}})} .nil) (nY c h j f l i b)))):=rfl
theorem uK:∀{L:List Nat}{x:Nat},(∀a∈L,bd f a=0)->sp L x->bd f x=0
 |[],x,_,h=>by
  have h:x=0:=h;rw[h,kY]
 |a::L,x,d,h=>by
  have h:sp L x\/sp L (x ^^^ a):=h;have e:=λb g=>d b (VG _ g)
  rcases h with h|h
  .exact uK e h
  .have c:=uK e h;rw[hL,d a VF,RR]at c;exact c
def KS(e:∀t∈ts,IsCell m t)(h:sp (aU ts (n+2)) x):bd (aU ts (n+1)) x=0:=uK (λa c=>by
 have d:a∈(cC (aU ts (n+2))).map (·.1):=by rw[tO];exact c
 obtain⟨r,b,rfl⟩:=VP.mp d;exact(CK n e r b).2) h
structure q0(Φ:dw)(m:Int)(ts:List (List Int))(n FJ FY s9 xv xN F1 xx:Nat):Prop where
 cell:∀t∈ts,IsCell m t
 KQ:∀b:Nat,Φ s9 [bx (cl ts (n+1)) b]=.ok (.tup ((dj (dc (cl ts (n+1)) b)).map af))
 KR:∀b:Nat,Φ s9 [bx (cl ts (n+2)) b]=.ok (.tup ((dj (dc (cl ts (n+2)) b)).map af))
 KY:∀c∈cl ts (n+2),Φ s9 [.tup [af c]]=.ok (.tup ((dj [c]).map af))
 sZ:∀b:Nat,b<2 ^ (cl ts (n+1)).length->(¬sp (aU ts (n+2)) b/\Φ xx [aL m ts,bx (cl ts (n+1)) b,.int (n:Int)]=.ok .aW) \/
  ∃z,z<2 ^ (cl ts (n+2)).length/\bd (aU ts (n+2)) z=b/\sp (aU ts (n+2)) b/\Φ xx [aL m ts,bx (cl ts (n+1)) b,.int (n:Int)]=.ok (bx (cl ts (n+2)) z)
 wit:∀b:Nat,b<2 ^ (cl ts (n+1)).length->bd (aU ts (n+1)) b=0->(sp (aU ts (n+2)) b/\Φ xN [aL m ts,bx (cl ts (n+1)) b,.int (n:Int)]=.ok .aW) \/
  ∃xs,rb ts n b xs/\Φ xN [aL m ts,bx (cl ts (n+1)) b,.int (n:Int)]=.ok (bx (cl ts (n+1)) (ed xs))
 ref:∀b:Nat,b<2 ^ (cl ts (n+1)).length->¬bd (aU ts (n+1)) b=0->Φ F1 [aL m ts,bx (cl ts (n+1)) b,.int (n:Int)]=.ok (.ag J)
 Dt:∀b:Nat,Φ xv [bx (cl ts (n+1)) b,aL m ts,.int (n:Int)]=.ok (.ag J)
 Du:∀b:Nat,Φ xv [bx (cl ts (n+2)) b,aL m ts,.int ((n:Int)+1)]=.ok (.ag J)
 odd:∀xs ys:List (List Int),Φ FY [.tup (xs.map af),.tup (ys.map af)]=.ok (.ag (decide ((xs.filter λc=>decide (c∈ys)).length%2=1)))
 Dp:Φ FJ [aL m ts,.int ((n:Int)+1)]=.ok (.lst ((cl ts (n+2)).map af))
def Ah(K:q0 Φ m ts n F h l G N M H)(a:b<2 ^ (cl ts (n+1)).length):
  c3 pg Φ [Z L,Z (aL m ts),Z (.int (n:Int)),Z (bx (cl ts (n+1)) b),Y,Y] (nY F h l G N M H)=.ok (.bH (.ag J)):=by
 have u:=en ts (n+1);have e1:=K.KQ b;have e0:dt (.tup ([]:List D)) (.tup [])=.ok true:=m9 (ys:=[]) rfl;have y:∀(U:List (List Int))(z:Nat),nx (bx U z)=false:=λ_ _=>rfl
 have p:nx .aW=true:=rfl
 by_cases z:bd (aU ts (n+1)) b=0
 .rw[(qf K.cell a).mpr z]at e1;have e1:Φ l [bx (cl ts (n+1)) b]=.ok (.tup []):=e1;rcases K.wit b a z with⟨g,w⟩|⟨xs,W,w⟩
  .rcases K.sZ b a with⟨s2,f⟩|⟨j,s,t,-,f⟩
   .exact absurd g s2
   .have e:=K.KR j;rw[Ai K.cell s,t]at e;have k:=K.Du j;have q:dt (.tup ((dc (cl ts (n+1)) b).map af)) (bx (cl ts (n+1)) b)=.ok true:=by
     show dt _ (.tup ((dc (cl ts (n+1)) b).map af))=_;rw[xb,decide_eq_true rfl]
    simp![nY,f,e1,e0,w,wD,sy,y,p,k,e,q]
  .rcases K.sZ b a with⟨s2,f⟩|⟨j,s,t,g,f⟩
   .have C:=K.Dt (ed xs);have i:=K.odd (dc (cl ts (n+1)) (ed xs)) (dc (cl ts (n+1)) b);rw[zV u W.di W.lt,decide_eq_true W.d6]at i;have i:Φ h [bx (cl ts (n+1)) (ed xs),bx (cl ts (n+1)) b]=.ok (.ag J):=i;have k:=K.Dp;have e2:bA (elem pg Φ [Z L,Z (aL m ts),Z (.int (n:Int)),Z (bx (cl ts (n+1)) b),Z .aW,Z (bx (cl ts (n+1)) (ed xs))] 6e0 0 (.some (.call h {5e0,.call l {.tup {6e0}}}))) ((cl ts (n+2)).map af)=.ok (((cl ts (n+2)).filter λ_=>VC).map af):=ff λc o=>by
     have e:=K.KY c o;have v:∀x∈[c],x∈cl ts (n+2):=λx P=>by rw[P6.mp P];exact o
     have e3:bd (aU ts (n+2)) (bh (cl ts (n+2)) [c])=bh (cl ts (n+1)) (bj c):=by
      have:bd (aU ts (n+2)) (bh (cl ts (n+2)) [c])=ft ([c].map λc=>bh (cl ts (n+1)) (bj c)):=r4 v;rw[this];show bh (cl ts (n+1)) (bj c) ^^^ 0=_;rw[RR]
     have d:=K.odd (dc (cl ts (n+1)) (ed xs)) (dj [c]);rw[Aj K.cell v,e3]at d e;have ev:=W.ev (bh (cl ts (n+1)) (bj c)) (eZ (VP.mpr ⟨c,o,rfl⟩));rw[zV u W.di W.lt,decide_eq_false ⋯]at d;have d:Φ h [bx (cl ts (n+1)) (ed xs),.tup ((dc (cl ts (n+1)) (bh (cl ts (n+1)) (bj c))).map af)]=.ok (.ag VC):=d;simp![e,d]
    have e4:((cl ts (n+2)).filter λ_=>VC)=[]:=RT.mpr λ_ _=>by decide
    rw[e4,Rt]at e2;have e5:dt (.lst ([]:List D)) (.lst [])=.ok true:=ll (ys:=[]) rfl;simp![nY,f,e1,e0,w,wD,sy,y,p,C,i,k,e2,e5,sU,t4]
   .have:=W.ev b g;have:=W.d6;lia
 .have e2:=m9 (ys:=(dj (dc (cl ts (n+1)) b)).map af) (mf 58 _);have Q:((dj (dc (cl ts (n+1)) b)).map af).isEmpty=false:=by
   cases q:dj (dc (cl ts (n+1)) b) with
   |nil=>exact absurd ((qf K.cell a).mp q) z
   |cons _ _=>rfl
  rw[Q]at e2;have r:=K.ref b a z;rcases K.sZ b a with⟨s2,f⟩|⟨j,s,t,g,f⟩
  .simp![nY,f,e1,e2,sy,p,r]
  .exact absurd (KS K.cell g) z
def HF{f:List Int}(o:∀k:Nat,∃r:Int,0<=r/\r<ib/\Φ j [.lst (f.map .int),.int (k:Int)]=.ok (.int r))(a8:∀i M:Int,0<=i->6<=M->M<=8->∃m ts,Φ a2 [.int i,.int M]=.ok (aL m ts)/\Net m ts/\ts.length<=70)(bc:∀N:mC,Good N->Φ Q [aL N.1 N.2]=.ok (.int (hi N.2:Int)))(bg:∀N:mC,Good N->∀n:Nat,n<=7->∀z:Int,∃b:Nat,Φ a4 [aL N.1 N.2,.int (n:Int),.int z]=.ok (bx (cl N.2 (n+1)) b)/\bd (aU N.2 (n+1)) b=0/\b<2 ^ (aU N.2 (n+1)).length)(b2:∀N:mC,Good N->∀n:Nat,n<=7->∀z:Int,∃b:Nat,Φ a0 [aL N.1 N.2,.int (n:Int),.int z]=.ok (bx (cl N.2 (n+1)) b)/\b<2 ^ (cl N.2 (n+1)).length)(ay:∀N:mC,Good N->∀n:Nat,n<=7->q0 Φ N.1 N.2 n W a3 au X av a5 a1):
  bq pg Φ ⟨1,5,aj.rC W a3 au X av a5 a1 j a0 a4 Q a2⟩ [.lst (f.map .int)]=.ok (.ag J):=by
 obtain⟨e,bf,-,e0⟩:=o 0;have e0:Φ j [.lst (f.map .int),.int 0]=.ok (.int e):=e0;obtain⟨h,-,-,e1⟩:=o 1;have e1:Φ j [.lst (f.map .int),.int 1]=.ok (.int h):=e1;obtain⟨U,-,-,e2⟩:=o 2;have e2:Φ j [.lst (f.map .int),.int 2]=.ok (.int U):=e2;obtain⟨l,-,-,e3⟩:=o 3;have e3:Φ j [.lst (f.map .int),.int 3]=.ok (.int l):=e3;obtain⟨V,-,-,e4⟩:=o 4;have e4:Φ j [.lst (f.map .int),.int 4]=.ok (.int V):=e4;have G:bK .fdiv (.int e) (.int 5)=.ok (.int (e / 5)):=ng _ _ ∅ ∅;have H:bK .mod (.int (e / 5)) (.int 4)=.ok (.int (e / 5%4)):=eb _ _ ∅;obtain⟨M,az,aA,P⟩:∃M:Int,6<=M/\M<=8/\(bK .mul (.int 2) (.int (if (e / 5%4==1)=J then 1 else 0))>>=λx=>bK .add (.int 6) x)=.ok (.int M):=by
  cases (e / 5%4==1)
  .exact⟨6,∅,∅,rfl⟩
  .exact⟨8,∅,∅,rfl⟩
 obtain⟨m,ts,F,b1,c0⟩:=a8 e M bf az aA;have g:Good (m,ts):=⟨b1,by show ts.length<=255;lia⟩;have cy:1<=hi ts:=Gm g;have k1:Φ Q [aL m ts]=.ok (.int (hi ts:Int)):=bc (m,ts) g;obtain⟨d,bp,bz,k2⟩:∃d:Int,1<=d/\d<=8/\(if (hi ts:Int)+1<8 then(hi ts:Int)+1 else 8)=d:=⟨_,by split<;>lia,by split<;>lia,rfl⟩;have k3:bK .mod (.int h) (.int d)=.ok (.int (h%d)):=eb _ _ ⋯;obtain⟨n,a9,t⟩:∃n:Nat,h%d=(n:Int)/\n<=7:=by
  have a:=U7 h (b:=d) ⋯;have b:=Ug h (b:=d) ⋯;exact⟨(h%d).toNat,(Int.toNat_of_nonneg a).symm,⋯⟩
 rw[a9]at k3;have K:=ay (m,ts) g n t;obtain⟨b,p,-,s⟩:=bg (m,ts) g n t U;obtain⟨c,y,C⟩:=b2 (m,ts) g n t V;rw[md]at s;dsimp only at p s y C;have T:bK .mod (.int l) (.int 5)=.ok (.int (l%5)):=eb _ _ ∅;have v:=λL=>Ah (pg:=pg) (L:=L) K (b:=b) s
 have w:=λL=>Ah (pg:=pg) (L:=L) K (b:=c) C
 dsimp only at v w;rw[HE]
 by_cases q:l%5=1
 .have u:(l%5==1)=true:=P8.mpr q;simp![e0,e1,e2,e3,e4,G,H,zN,P,F,k1,k2,k3,xj,p,y,T,u,w]
 .have u:(l%5==1)=false:=beq_eq_false_iff_ne.mpr q;simp![e0,e1,e2,e3,e4,G,H,zN,P,F,k1,k2,k3,xj,p,T,u,v]
end bY
end
section
namespace cM
open PySem
abbrev fr(l:List Env):List Addr:=l.filterMap (·.frame)
def d9(g:Nat->Option VO)(c:Nat)(e:VE)(l:List VO)(h:V9):Prop :=
 ∃a C d b,e=.ref a/\g c=Z C/\h.get? a=Z d/\d.cls=.ref C/\d.data=.fields b/\b[2]?=Z .none /\
  ((l=[a]/\b[1]?=Z .none)\/∃T f ts,l=[a,T]/\b[1]?=Z (.ref T)/\T≠a/\h.get? T=Z f/\f.data=.fields ts/\ts[3]?=Z .none)
def N1{s:VI}(d:s.heap.FunFrames base l)(c:s.heap.get? a=Z o)(b:o.data=.fields g):a∉fr l:=λe=>by
 obtain⟨_,h,q,f⟩:=d.mem e;rw[c]at q;cases q;exact f g b
def entry(p:A.frames=Z (env::outer))(h:s.heap.FunFrames base (env::outer))(n:env.frame=Z L)(g:s.heap.get? dE=Z tY)(e:tY.data=.fields v)(hz:1<v.size)(k:∀h' T j ts,h'.get? dE=Z (tY.mapFields (·.setIfInBounds 1 (.ref T)))->T≠dE->s.heap.get? T=Y->h'.get? T=Z j->j.data=.fields ts->3<ts.size ->
   (∀b o,s.heap.get? b=Z o->b≠dE->b∉fr (env::outer)->h'.get? b=Z o)->(∀b o,s.heap.get? b=Z o->b≠dE->∃f,h'.get? b=Z { o with slots:=f })->Q () { s with heap:=h' }):
  VJ M A (do let a <- frameOf env;let l <- entryPlaceOf L z;let b <- YZ y a .none (Xl L) .none l;setField (.ref dE) 1 b) Q E s:=by
 refine PA (wpAny_frameOf_fun p h n λc ⟨w,m,x⟩=>PA (wpAny_entryPlaceOf λl t=>?_));unfold YZ newFields;have e1:c.get? dE=Z tY:=(m dE (N1 h g e)).trans g;have i:c.objs.size≠dE:=T7 (PJ e1);refine PA (Qi (Ri (PC _ e1) e hz (k _ c.objs.size _ _ (Qf _ (PC _ e1) (SI (RC e _))) i ?_ ((Qa _ _ i.symm).trans (PQ c rfl)) rfl ?_ (λb o q d r=>?_) λb o q d=>?_)) (t.sizeOk5 _ _ _ _ _))
 .cases q:s.heap.get? c.objs.size with
  |none=>rfl
  |some o=>exact absurd (PJ q) (by rw[w];exact Q5 _)
 .simp
 .rw[Qa _ _ (QG d)];exact PC _ ((m b r).trans q)
 .obtain⟨f,u⟩:=x b o q;exact⟨f,by rw[Qa _ _ (QG d)];exact PC _ u⟩
def note(V:A.frames=Z (env::outer))(S:s.heap.FunFrames base (env::outer))(R:env.frame=Z L)(aA:d9 a3 c e l s.heap)(k:∀h' X,d9 a3 c e X h'->(∀a∈X,a∈l\/s.heap.get? a=Y)->(∀b o,s.heap.get? b=Z o->b∉l->b∉fr (env::outer)->h'.get? b=Z o) ->
   (∀b o,s.heap.get? b=Z o->b∈fr (env::outer)->∃G,h'.get? b=Z { o with slots:=G })->Q () { s with heap:=h' }):
  VJ M A (noteFrame e env) (λ_ s2=>VJ M A (X5 e Y) Q E s2) E s:=by
 obtain⟨dE,C,bc,H,rfl,au,n,av,j,h2,az⟩:=aA;have hz:1<H.size:=QZ ∅ (P9.mp h2).1;have fin:∀{h0 g:V9}{T:VO}{K:WW}{ts:Array VE},(∀b o,s.heap.get? b=Z o->b∉l->h0.get? b=Z o)->dE∈l->g.get? dE=Z (bc.mapFields (·.setIfInBounds 1 (.ref T)))->T≠dE->s.heap.get? T=Y->g.get? T=Z K->K.data=.fields ts->3<ts.size ->
   (∀b o,h0.get? b=Z o->b≠dE->b∉fr (env::outer)->g.get? b=Z o)->(∀b o,h0.get? b=Z o->b≠dE->∃G,g.get? b=Z { o with slots:=G })->(∀b,b∈l->∀o,s.heap.get? b=Z o->∃ws,o.data=.fields ws)->VJ M A (X5 (.ref dE) Y) Q E { s with heap:=g }:=by
  intro h0 g T K ts k0 O p r t u m v B D a8;have U:=RC j (·.setIfInBounds 1 (VQ T));have a2:(H.setIfInBounds 1 (VQ T))[1]?=Z (VQ T):=(by simp[hz]);have bf:(H.setIfInBounds 1 (VQ T))[2]?=Z Value.none:=(by rw[Array.getElem?_setIfInBounds_ne ∅];exact h2);have b1:∀b o,s.heap.get? b=Z o->b∈fr (env::outer)->b∉l:=λb o q d I=>by
   obtain⟨_,bp,a1,y⟩:=S.mem d;rw[q]at a1;cases a1;obtain⟨ws,hw⟩:=a8 b I o q;exact y ws hw
  have a0:∀b o,s.heap.get? b=Z o->b≠T:=λb o q z=>by rw[z,t]at q;cases q
  have i:∀b,b≠T->(g.update T (Wi (·.setIfInBounds 3 ((Y:Option VO).elim Value.none λf=>Xl f)))).get? b=g.get? b:=λb d=>Qa _ _ (QG d)
  unfold X5;refine PA (RE p U a2 ?_);rw[if_pos (show(VQ T != Value.none)=J from by simp)];refine Ri u m v (k _ [dE,T] ⟨dE,C,_,_,rfl,au,(i dE (QG r)).trans p,(Zs _ _).trans av,U,bf,.inr ⟨T,_,_,rfl,a2,r,Qf _ u (SI (RC m _)),RC m _,by simp[v]⟩⟩ (λa N=>?_) (λb o q d y=>?_) λb o q d=>?_)
  .rcases PF.mp N with rfl|N
   .exact .inl O
   .obtain rfl:a=T:=⇑N;exact .inr t
  .exact(i b (a0 b o q)).trans (B b o (k0 b o q d) (λz=>d (by rw[z];exact O)) y)
  .have I:=b1 b o q d;obtain⟨G,z⟩:=D b o (k0 b o q I) λz=>I (by rw[z];exact O)
   exact⟨G,(i b (a0 b o q)).trans z⟩
 unfold noteFrame;simp only[R];rcases az with⟨rfl,g⟩|⟨T,K,ts,rfl,g,a4,w,x,h3⟩
 .refine PA (RE n j g ?_);rw[if_neg ∅];refine entry V S R n j hz λh' h b2 bg p r t u m v B D=>fin (h0:=s.heap) (λb o q _=>q) (by simp) p r t u m v B D λb d o q=>?_
  obtain rfl:b=dE:=⇑d;rw[n]at q;cases q;exact⟨H,j⟩
 .refine PA (RE n j g ?_);rw[if_pos (show(VQ T != Value.none)=J from by simp)];refine PA (RE w x h3 ?_);rw[if_neg (show ¬((Value.none==Xl L)=J) from by simp[Xl])];refine PA (Ri w x (P9.mp h3).1 ?_);have i:∀b,b≠T->(s.heap.update T (Wi (·.setIfInBounds 3 Value.none))).get? b=s.heap.get? b:=λb d=>Qa _ _ (QG d)
  have a9:∀b,b∈[dE,T]->∀o,s.heap.get? b=Z o->∃ws,o.data=.fields ws:=λb d o q=>by
   rcases PF.mp d with rfl|d
   .rw[n]at q;cases q;exact⟨H,j⟩
   .obtain rfl:b=T:=⇑d;rw[w]at q;cases q;exact⟨ts,x⟩
  have ay:(s.heap.update T (Wi (·.setIfInBounds 3 Value.none))).FunFrames base (env::outer):=S.of_keeps λb o q y=>⟨o,(i b λz=>by rw[z,w]at q;cases q;exact y ts x).trans q,rfl⟩
  have a5:∀h,(s.heap.update T (Wi (·.setIfInBounds 3 Value.none))).get? h=Y->s.heap.get? h=none:=λh q=>by
   by_cases z:h=T
   .subst z;rw[Qf _ w (SI (RC x _))]at q;cases q
   .rw[i h z]at q;exact q
  exact entry (s:={ s with heap:=s.heap.update T (Wi (·.setIfInBounds 3 Value.none)) }) V ay R ((i dE (QG a4)).trans n) j hz λh' h b2 bg p r t u m v B D =>
   fin (h0:=s.heap.update T (Wi (·.setIfInBounds 3 Value.none))) (λb o q d=>(i b λz=>d (by simp[z])).trans q) (by simp) p r (a5 h t) u m v B D a9
def leave(h:A.frames=Z (env::outer))(i:s.heap.FunFrames base (env::outer))(g:env.frame=Z L)(j:d9 f c e l s.heap)(k:∀h' d,d9 f c e d h'->(∀a∈d,a∈l\/s.heap.get? a=Y)->(∀b o,s.heap.get? b=Z o->b∉l->b∉fr (env::outer)->h'.get? b=Z o) ->
   (∀b o,s.heap.get? b=Z o->b∈fr (env::outer)->∃m,h'.get? b=Z { o with slots:=m })->Q () { s with heap:=h' }):
  VJ M A (leaving env e) Q E s:=by
 unfold leaving;exact PA (note h i g j k)
def FP(t:d9 u c e l s.heap)(k:∀(h':V9)(h:List VO),(∀a∈h,a∈l/\e≠.ref a)->(∀b o,s.heap.get? b=Z o->b∉h->h'.get? b=Z o)->Q () { s with heap:=h' }):VJ M A (X5 e Y) Q E s:=by
 obtain⟨v,C,B,D,rfl,w,g,x,f,h0,r⟩:=t;rcases r with⟨rfl,d⟩|⟨T,y,ts,rfl,d,j,i,p,h3⟩
 .unfold X5;refine PA (RE g f d ?_);rw[if_neg ∅];exact VB (k s.heap [] (λ_ z=>nomatch z) λb o q _=>q)
 .unfold X5;refine PA (RE g f d ?_);rw[if_pos (show(VQ T != Value.none)=J from by simp)];refine Ri i p (P9.mp h3).1 (k _ [T] (λa m=>?_) λb o q n=>?_)
  .obtain rfl:a=T:=⇑m;exact⟨by simp,λz=>j (Value.ref.inj z).symm⟩
  .rw[Qa _ _ (λz=>n (by simp[z]))];exact q
def made(b:a c=Z C)(f:Heap.MadeExcOf h h' e (.ref C) args):d9 a c (.ref e) [e] h':=by
 obtain⟨t,d,_,_⟩:=f.there;exact⟨e,C,_,_,rfl,b,d,rfl,rfl,rfl,.inl ⟨rfl,rfl⟩⟩
section
def yj(p:s.heap.get? x=Z r)(l:r.cls=.ref C)(k:s.heap.get? C=Z (Wd nm q C N bs bm hdct sn sub ab col dd k0 k1 k2 k3 k5 u))(o:∀{b:Wc}{a:VE->VI->Prop}{e},a (.type "type") s->VJ (VM prog w) b (Yd c) a e s)(m:∀{b:Wc}{a:Bool->VI->Prop}{e},a J s->VJ (VM prog w) b (isType c) a e s)(n:(VQ C::bm).contains c=J)(h:Q (.done (.ret (.bool J))) s):VJ (VM prog w) A (WK.«isinstance.nested» ⟨[.ref x,c,.int t tk],[]⟩) Q E s:=by
 obtain⟨h0,g,d,j,os⟩:=s;have f:∀{b:Wc}{a:VE->VI->Prop}{e},a (.ref C) ⟨h0,g,d,j,os⟩->VJ (VM prog w) b (Yd (.ref x)) a e ⟨h0,g,d,j,os⟩:=λ{b a e} z=>by
  unfold Yd
  repeat (first|(with_reducible refine QW p ?_;rw[l])|wp_step)
  exact z
 unfold WK.«isinstance.nested»;refine PA (f ?_)
 by_cases i:(VQ C==c)=J
 .rw[if_pos i];show VJ (VM prog w) A (pure _) Q E _;exact VB h
 .rw[if_neg i];refine PA (o ?_);rw[if_pos ∅]
  k_delta "plainIsInstance"
  refine PA (PA (m ?_));simp only[QT,PD,PZ];refine PA ?_;unfold isInstance;refine PA (f ?_);refine Rz k ?_;rw[n];simp only[QI]
  first
   |exact VB h
   |exact VB (VB h)
   |exact PA (VB (VB h))
def GX(r:s.heap.get? x=Z f)(o:f.cls=.ref C)(l:s.heap.get? C=Z (Wd nm q C N bs bm hdct sn sub ab col dd k0 k1 k2 k3 k5 t))(a:s.heap.get? D=Z c)(m:c.cls=.type "type")(n:∃e,c.data=.cls e)(p:(VQ C::bm).contains (.ref D)=J)(h:Q (.bool J) s):VJ (VM prog w) A (call (.builtin "isinstance") [.ref x,.ref D]) Q E s:=by
 refine Vb (S:=λ_ R s=>(s.heap.get? x=Z f/\s.heap.get? C=Z (Wd nm q C N bs bm hdct sn sub ab col dd k0 k1 k2 k3 k5 t)/\s.heap.get? D=Z c)/\R (.ok (.ret (.bool J))) s)
  (λ_ _ _ _ _ b=>UT (yj b.1.1 o b.1.2.1 (λ{i k j} z=>?_) (λ{i k j} z=>?_) p b.2) (by intro q;cases q)) ⟨⟨r,l,a⟩,h⟩
 .have a:=b.1.2.2;rename_i s';obtain⟨h0,g,d,G,os⟩:=s';unfold Yd
  repeat (first|(with_reducible refine QW a ?_;rw[m])|wp_step)
  exact z
 .have a:=b.1.2.2;obtain⟨u,v,y,B⟩:=c;obtain⟨e,rfl⟩:=n;unfold isType loadHead;exact PA (Vl a (VB z))
def GY(k:s.heap.get? x=Z b)(g:b.cls=.ref C)(f:s.heap.get? C=Z (Wd nm q C N bs bm hdct sn sub ab col dd k0 k1 k2 k3 k5 l))(j:Yd (.type T)=pure (.type "type"))(i:bm.contains (.type T)=J)(h:Q (.bool J) s):VJ (VM prog w) A (call (.builtin "isinstance") [.ref x,.type T]) Q E s:=by
 refine Vb (S:=λ_ R s=>(s.heap.get? x=Z b/\s.heap.get? C=Z (Wd nm q C N bs bm hdct sn sub ab col dd k0 k1 k2 k3 k5 l))/\R (.ok (.ret (.bool J))) s)
  (λ_ _ _ _ _ a=>UT (yj a.1.1 g a.1.2 (λ{c e d} z=>?_) (λ{c e d} z=>?_) (by rw[SE,i,Tt]) a.2) (by intro q;cases q)) ⟨⟨k,f⟩,h⟩
 .rw[j];exact VB z
 .exact VB z
end
end cM
end
section
namespace cM
open PySem PySem.W
section
variable{prog:Wa}{w:Wm}{A:Wc}{E:VE->VI->Prop}{h:V9}{g:Array GenState}{d:Drawn}{t:Nat}{os:OsState}{a:VO}{o:WW}{K:Frag}{nm q:VT}{C N:VO}{bs bm:List VE}{hdct:Bool}{sn:List VT}{sub:List VE}{ab:Bool}{col:Option Bool}{dd:Option VO}{k0 k1 k2 k3 k5:Option VE}{newId:String}
def Iq(i:h.get? C=Z (Wd nm q C N bs bm hdct sn sub ab col dd k0 k1 k2 k3 k5 newId))(c:h.get? D=Z (Wd T U D s v b z V a0 u x y B G H I L O))(m:h.get? e=Z r)(l:r.cls=.ref C)(j:b.contains (.type "BaseException")=J)(n:(VQ C::bm).contains (.ref D)=J)(p:Q J ⟨h,g,d,t,os⟩):VJ M A (excMatches (.ref e) (.ref D)) Q E ⟨h,g,d,t,os⟩:=by
 have k:(VQ D::b).contains (.type "BaseException")=true:=by rw[SE,j,Tt]
 have f:=tc_notTuple;unfold excMatches
 repeat (first|(with_reducible refine QW m ?_;rw[l])|with_reducible refine QW c ?_|(with_reducible refine Rz c ?_;rw[k])|(with_reducible refine Rz i ?_;rw[n])|wp_step)
 exact p
def DL(e:h.get? C=Z (Wd nm q C N bs bm hdct sn sub ab col dd k0 k1 k2 k3 k5 newId))(f:bm.contains (.type "object")=J)(c:h.get? a=Z o)(b:o.cls=.ref C)(k:R (.ok (.ret (.ref C))) ⟨h,g,d,t,os⟩):
  XC (VM prog w) A (.call (.builtin "getset_descriptor.__get__") ⟨[.builtin "object.__class__",.ref a,.ref C],[]⟩) R ⟨h,g,d,t,os⟩:=by
 have i:(⟨h,g,d,t,os⟩:VI).TypeIs (.builtin "object.__class__") "getset_descriptor":=TC;have j:(VQ C::bm).contains (.type (".".intercalate ("object.__class__".cutAt '.').dropLast))=true:=by
  rw[F.owner_object_class,SE,f,Tt]
 refine TS Vq.plain F.entry_gs_get (Vq.check _ _ _ _ _ _ _ _ i (F.args_gs_get _ _ _) ?_)
 repeat (any_goals (first|assumption|(with_reducible refine QW c ?_;rw[b])|(with_reducible refine Rz e ?_;rw[j])|wp_step))
 refine⟨Ui _ (by decide +kernel),Q3 F.entry_object_class ?_⟩
 repeat (any_goals (first|assumption|(with_reducible refine QW c ?_;rw[b])|wp_step))
def DJ(c:h.get? C=Z (Wd nm q C N bs bm hdct sn sub ab col dd k0 k1 k2 k3 k5 newId))(b:bm.contains (.type "BaseException")=J)(l:h.get? a=Z o)(e:o.cls=.ref C)(j:Q () ⟨h,g,d,t,os⟩):VJ M A (X3 "BaseException.__getattribute__" ⟨[.ref a,m],[]⟩) Q E ⟨h,g,d,t,os⟩:=by
 have i:builtinKind "BaseException.__getattribute__"=Z .slot:=by decide +kernel
 have k:splitId "BaseException.__getattribute__"=Z ("BaseException","__getattribute__"):=by decide +kernel
 have f:(VQ C::bm).contains (.type "BaseException")=true:=by rw[SE,b,Tt]
 have n:=F.args_bexc_ga (.ref a) m;simp only[X3,i,k];refine PA ?_
 .unfold isInstance
  repeat (first|(with_reducible refine QW l ?_;rw[e])|(with_reducible refine Rz c ?_;rw[f])|wp_step)
  exact j
def DK(X:K.In h)(f:Yl K (.ref C) "__class__"=Z (Z (.builtin "object.__class__")))(i:h.get? C=Z (Wd nm q C N bs bm hdct sn sub ab col dd k0 k1 k2 k3 k5 newId))(j:bm.contains (.type "object")=J)(c:h.get? a=Z o)(b:o.cls=.ref C)(p:Q (.done (.ret (.ref C))) ⟨h,g,d,t,os⟩):
  VJ (VM prog w) A (WK.«object.__getattribute__» ⟨[.ref a,.str "__class__" tk],[]⟩) Q E ⟨h,g,d,t,os⟩:=by
 have n:(⟨h,g,d,t,os⟩:VI).TypeIs (.builtin "object.__class__") "getset_descriptor":=TC;have k:=TC;have l:=Vq.lookup;have m:=F.slot_gs_set.lookup;have e:=Zy (M:=VM prog w) X f
 repeat (any_goals (first|assumption|(with_reducible refine QW c ?_;rw[b])|with_reducible refine Looks.at e ?_|wp_step))
 refine DL i j c b ?_
 repeat (any_goals (first|assumption|wp_step))
def DI(X:K.In h)(j:Yl K (.ref C) "__class__"=Z (Z (.builtin "object.__class__")))(h2:Yl K (.ref C) "__getattribute__"=Z (Z (.builtin "BaseException.__getattribute__")))(h3:Yl K (.ref C) "__getattr__"=Z Y)(e:h.get? C=Z (Wd nm q C N bs bm hdct sn sub ab col dd k0 k1 k2 k3 k5 newId))(l:bm.contains (.type "object")=J)(k:bm.contains (.type "BaseException")=J)(c:h.get? a=Z o)(b:o.cls=.ref C)(p:Q (.ref C) ⟨h,g,d,t,os⟩):VJ (VM prog w) A (getAttrBy (.ref a) (.str "__class__" tk) VC) Q E ⟨h,g,d,t,os⟩:=by
 have n:=YM.ga.bind (.ref a);have m:(XY "BaseException.__getattribute__"==XY "object.__getattribute__")=false:=by decide +kernel
 have r:(onTheHeap (VQ C)&&XY "BaseException.__getattribute__"==XY "object.__getattribute__")=false:=by rw[m];rfl
 have f:=Zy (M:=VM prog w) X h2;have i:=Zy (M:=VM prog w) X h3
 repeat (any_goals (first|assumption|(with_reducible refine QW c ?_;rw[b])|with_reducible refine Looks.at f ?_|with_reducible refine Looks.at i ?_|wp_step))
 refine TS YM.ga.plain F.entry_bexc_ga (DJ e k c b (DK X j e l c b ?_))
 repeat (any_goals (first|assumption|wp_step))
def DH(X:K.In h)(b:Yl K (.ref C) "__class__"=Z (Z (.builtin "object.__class__")))(h2:Yl K (.ref C) "__getattribute__"=Z (Z (.builtin "BaseException.__getattribute__")))(h3:Yl K (.ref C) "__getattr__"=Z Y)(e:h.get? C=Z (Wd nm q C N bs bm hdct sn sub ab col dd k0 k1 k2 k3 k5 newId))(f:bm.contains (.type "object")=J)(c:bm.contains (.type "BaseException")=J)(j:h.get? a=Z o)(i:o.cls=.ref C)(k:Q (Z (.ref C)) ⟨h,g,d,t+1,os⟩):VJ (VM prog w) A (getAttr? (.ref a) "__class__") Q E ⟨h,g,d,t,os⟩:=by
 unfold getAttr? getAttrBy?
 repeat (any_goals (first|assumption|with_reducible apply DI X b h2 h3 e f c j i|wp_step))
structure Plain(K:Frag)(C:VO)(bm:List VE):Prop where
 a1:Yl K (.ref C) "__class__"=Z (Z (.builtin "object.__class__"))
 a2:Yl K (.ref C) "__getattribute__"=Z (Z (.builtin "BaseException.__getattribute__"))
 a3:Yl K (.ref C) "__getattr__"=Z Y
 Gj:bm.contains (.type "object")=J
 xZ:bm.contains (.type "BaseException")=J
def I4(X:K.In h)(P:Plain K C bm)(i:h.get? C=Z (Wd nm q C N bs bm hdct sn sub ab col dd k0 k1 k2 k3 k5 newId))(n:h.get? a=Z o)(m:o.cls=.ref C)(s:∀{e:Wc}{b:VE->VI->Prop}{f},b (.type "type") ⟨h,g,d,t,os⟩->VJ (VM prog w) e (Yd c) b f ⟨h,g,d,t,os⟩)(r:∀{e:Wc}{b:Bool->VI->Prop}{f},b J ⟨h,g,d,t,os⟩->VJ (VM prog w) e (isType c) b f ⟨h,g,d,t,os⟩)(j:(VQ C::bm).contains c=VC)(k:Q (.done (.ret (.bool VC))) ⟨h,g,d,t+1,os⟩):VJ (VM prog w) A (WK.«isinstance.nested» ⟨[.ref a,c,.int u tk],[]⟩) Q E ⟨h,g,d,t,os⟩:=by
 have l:∀{e:Wc}{b:VE->VI->Prop}{f},b (.ref C) ⟨h,g,d,t,os⟩->VJ (VM prog w) e (Yd (.ref a)) b f ⟨h,g,d,t,os⟩:=λ{e b f} z=>by
  unfold Yd
  repeat (first|(with_reducible refine QW n ?_;rw[m])|wp_step)
  exact z
 have p:¬(VQ C==c)=true:=λz=>by
  rw[SE]at j;have:=P8.mp z;subst this;simp at j
 unfold WK.«isinstance.nested»;refine PA (l ?_);rw[if_neg p];refine PA (s ?_);rw[if_pos ∅]
 k_delta "plainIsInstance"
 refine PA (PA (r ?_));simp only[QT,PD,PZ];refine PA ?_;unfold isInstance;refine PA (l ?_);refine Rz i ?_;rw[j];simp only[PD,PZ];refine PA (DH X P.a1 P.a2 P.a3 i P.Gj P.xZ n m ?_);refine PA ?_;unfold isType loadHead;refine PA (Vl i (VB ?_));simp only[Wd,QT,PD,PZ];refine PA (Sz ?_);refine Rz i ?_;rw[j]
 first
  |exact VB k
  |exact VB (VB k)
  |exact PA (VB (VB k))
def GW(X:K.In s.heap)(P:Plain K C bm)(v:s.heap.get? x=Z i)(r:i.cls=.ref C)(m:s.heap.get? C=Z (Wd nm q C N bs bm hdct sn sub ab col dd k0 k1 k2 k3 k5 newId))(c:s.heap.get? D=Z e)(n:e.cls=.type "type")(p:∃f,e.data=.cls f)(u:(VQ C::bm).contains (.ref D)=VC)(h:Q (.bool VC) { s with toks:=s.toks+1 }):VJ (VM prog w) A (call (.builtin "isinstance") [.ref x,.ref D]) Q E s:=by
 refine Vb (S:=λ_ R s=>(K.In s.heap/\s.heap.get? x=Z i/\s.heap.get? C=Z (Wd nm q C N bs bm hdct sn sub ab col dd k0 k1 k2 k3 k5 newId)/\s.heap.get? D=Z e)/\R (.ok (.ret (.bool VC))) { s with toks:=s.toks+1 })
  (λ_ _ _ _ s' b=>UT ?_ (by intro q;cases q)) ⟨⟨X,v,m,c⟩,h⟩
 obtain⟨h0,g,d,I,os⟩:=s';refine I4 b.1.1 P b.1.2.2.1 b.1.2.1 r (λ{j l k} z=>?_) (λ{j l k} z=>?_) u b.2
 .have c:=b.1.2.2.2;unfold Yd
  repeat (first|(with_reducible refine QW c ?_;rw[n])|wp_step)
  exact z
 .have c:=b.1.2.2.2;obtain⟨y,B,G,H⟩:=e;obtain⟨f,rfl⟩:=p;unfold isType loadHead;exact PA (Vl c (VB z))
end
end cM
end
section
namespace cM
open PySem
def EG:Zq table "proto.unchain"=Z WK.«proto.unchain»:=entryFor_of_tree (by kernel_rfl)
section
def ED(t:A.handled=Z (.ref x))(g:s.heap.get? x=Z h)(B:h.data=.fields I)(z:I[2]?=Z .none)(p:x≠d)(f:s.heap.IsListIter d l i)(u:s.heap.IsList l C)(v:C[i]?=Y)(r:∀h',(∀b o,b≠d->s.heap.get? b=Z o->h'.get? b=Z o)->Q Y { s with heap:=h' }):VJ (VM prog w) A (Xk (.ref d)) Q E s:=by
 obtain⟨o,j,M,k⟩:=id f;obtain⟨L,G,_,N,H⟩:=u;unfold Xk;refine PA (S8 (Rc (name:=Xb "__next__") f.typeIs slot_listiter_next (QQ slot_listiter_next f.typeIs entry_listiter_next ?_ (args_listiter_next _))));show VJ _ _ (field (.ref d) 0>>=_) _ _ s;refine PA (RE j k (x:=.ref l) rfl ?_);show VJ _ _ (if (VQ l==Value.none)=J then _ else _) _ _ s;rw[if_neg (show ¬((VQ l==Value.none)=J) by simp)];refine PA (RE j k (x:=.int i 0) rfl (PA (Vd G H ?_)));simp only[Wk,v];refine PA (Sz (PA (Ri j k (by simp) (PA ?_))));simp only[newExc,newTuple];refine PA (Qi (PA (m:=W8 _ _) (Vf (a:=Value.none) (by first|rfl|(simp only[W8];rfl)) (Qi ?_ (by size_fits)))) (by size_fits));simp only[raiseNew];refine PA (Vo ?_);rw[show A.in1.handled=Z (.ref x) from t];have K:x<s.heap.objs.size:=PJ g;generalize n:s.heap.update d (Wi λx=>x.setIfInBounds 0 Value.none)=h0;have O:h0.objs.size=s.heap.objs.size:=by rw[<- n];exact(QF ..).1
 have k0:∀b o,b≠d->s.heap.get? b=Z o->h0.get? b=Z o:=λb o e q=>by rw[<- n];exact(Qa _ _ (QG e)).trans q
 generalize y:h0.push { cls:=Wj "tuple",data:=Data.seq #[] }=c;have k1:∀b o,b≠d->s.heap.get? b=Z o->c.get? b=Z o:=λb o e q=>by rw[<- y];exact PC _ (k0 b o e q)
 have D:x≠c.objs.size:=PY (PJ (k1 x h p g));dsimp only;rw[if_pos (show(VQ x != VQ c.objs.size)=J by simp[D])];refine PA (QS (Tp (Q3 EG ?_)));show VJ _ _ (field (.ref x) 2>>=_) _ _ _;refine PA (RE (PC _ (k1 x h p g)) B z ?_);rw[if_pos ∅];refine VB ?_;show VJ _ _ (updateField c.objs.size 2 (.ref x)>>=_) _ _ _;refine PA (Ri (a:=c.objs.size) (i:=2) (x:=.ref x) (PQ c rfl) rfl (by simp;lia) (ZP ?_));refine PA (Sq (T:="StopIteration") (b:=J) ⟨_,Qf _ (PQ c rfl) rfl,rfl⟩ Vi ?_);refine VB (r _ λb o e q=>?_);have:=k1 b o e q;rw[Qa _ _ (QG (PY (PJ this)))];exact PC _ this
def OR(n:A.handled=Z (.ref x))(t:u.data=.fields y)(r:y[2]?=Z .none)(I d)(p:d≠I)(l:x≠I)(j):
  Walks prog w A I [I,d,x] [I] j.size (λi v=>j[i]?=Z v) (λi h=>(h.IsListIter I d i/\h.IsList d j)/\h.get? x=Z u) where
 sub:=λc g=>by simp at g;simp[g]
 frame:=λ_ _ _ st k=>⟨⟨st.1.1.at λo e=>k I (by simp) o e,st.1.2.at λo e=>k d (by simp) o e⟩,k x (by simp) _ st.2⟩
 item:=λi s Q E hi st f=>X9 st.1.1 st.1.2 (x:=j[i]) (by simp[hi]) λh' a b =>
  f _ h' s.toks (by simp[hi]) ⟨⟨a,st.1.2.extBut b.extBut p⟩,b.extBut x _ l st.2⟩ λc o g e=>b.extBut c o (λh=>g (by simp[h])) e
 done:=λs Q E st f=>ED n st.2 t r l st.1.1 st.1.2 (by simp) λh' q=>f h' s.toks λb o m e=>q b o (λh=>m (by simp[h])) e
 self:=λ_ _ _ _ st f=>Yq st.1.1 f
end
end cM
end
section
namespace aF
open PySem PySem.Spec PyProof.Rows aH
noncomputable abbrev D:=ζ.D
noncomputable abbrev aD:=ζ.aD
noncomputable abbrev aY:=ζ.R
noncomputable abbrev aN:=List (Option V)
def aZ{α:Type}(r:aY α)(Q:α->Prop)(E:Nat->Prop):Prop:=match r with
 |.ok a=>Q a
 |.exc c=>E c
 |.bad=>False
def aB{α β:Type}{r:aY α}{f:α->aY β}{Q:β->Prop}:aZ (r>>=f) Q E<->aZ r (λa=>aZ (f a) Q E) E:=by
 cases r<;>exact VA
def aQ{α:Type}{r:aY α}{Q b:α->Prop}(h:aZ r Q E)(e:∀a,Q a->b a)(d:∀c,E c->vs c):aZ r b vs:=by
 cases r with
 |ok a=>exact e a h
 |exc c=>exact d c h
 |bad=>exact h
abbrev ep(a:List (List Int×Int)):List (List Key×V):=a.map λp=>(p.1.map Wg,V.int p.2)
abbrev cY(G:ah):List (Int×Int×Int)->List (Key×V)->Prop
 |[],ys=>ys=[]
 |p::a,ys=>∃b r,ys=(Wg p.1,.ref b)::r/\G b=Z (.tup [.int p.2.1,.int p.2.2])/\cY G a r
theorem cY.mono(s:aE G c):∀{a:List (Int×Int×Int)}{ys:List (Key×V)},cY G a ys->cY c a ys
 |[],_,h=>h
 |p::a,_,⟨b,r,e,d,h2⟩=>⟨b,r,e,s _ _ d,h2.mono s⟩
def mw(G:ah):List (List Int)->List V->Prop
 |[],xs=>xs=[]
 |c::cs,xs=>∃b r,xs=.ref b::r/\G b=Z (.tup (c.map V.int))/\mw G cs r
mutual
noncomputable def Rep (K:W.Frag) (G:ah):D->V->Prop
 |.aW,v=>v=.aW
 |.ag b,v=>v=.ag b
 |.int i,v=>v=.int i
 |.str x,v=>v=.str x
 |.tup ds,v=>∃a xs,v=.ref a/\G a=Z (.tup xs)/\aK K G ds xs
 |.lst ds,v=>∃a xs,v=.ref a/\b8 K G a xs/\aK K G ds xs
 |.aI c,v=>∃a e,v=.ref a/\G a=Z (.cv e (.ck (ep c)))
 |.aO c,v=>∃a e ys,v=.ref a/\G a=Z (.cv e (.b5 ys))/\cY G c ys
 |.d4 _,_=>False
noncomputable def aK (K:W.Frag) (G:ah):List D->List V->Prop
 |[],xs=>xs=[]
 |d::ds,xs=>∃v r,xs=v::r/\Rep K G d v/\aK K G ds r
end
section
variable{K:W.Frag}{G cq H aC:ah}
def A0(s:aE G cq)(h:dT K G a xs):dT K cq a xs:=by
 rcases h with(h|⟨o,h⟩)|h
 .exact .inl (.inl (s _ _ h))
 .exact .inl (.inr ⟨o,s _ _ h⟩)
 .exact .inr h
def fI(s:aE G cq)(h:G a=Z (.tup xs)):dT K cq a xs:=.inl (.inl (s _ _ h))
def fZ(s:aE G cq)(h:b8 K G a xs):b8 K cq a xs:=by
 rcases h with(h|⟨o,h⟩)|h
 .exact .inl (.inl (s _ _ h))
 .exact .inl (.inr ⟨o,s _ _ h⟩)
 .exact .inr h
def z3(s:aE G cq)(h:eS G a u):eS cq a u:=by
 rcases h with h|⟨o,h⟩
 .exact .inl (s _ _ h)
 .exact .inr ⟨o,s _ _ h⟩
mutual
theorem Rep.mono (s:aE G cq):∀{d:D}{v:V},Rep K G d v->Rep K cq d v
 |.aW,_,h=>h
 |.ag _,_,h=>h
 |.int _,_,h=>h
 |.str _,_,h=>h
 |.tup ds,_,⟨a,xs,e,h,r⟩=>⟨a,xs,e,s _ _ h,aK.mono s r⟩
 |.lst ds,_,⟨a,xs,e,h,r⟩=>⟨a,xs,e,fZ s h,aK.mono s r⟩
 |.aI _,_,⟨a,b,e,h⟩=>⟨a,b,e,s _ _ h⟩
 |.aO _,_,⟨a,b,ys,e,h,r⟩=>⟨a,b,ys,e,s _ _ h,r.mono s⟩
 |.d4 _,_,h=>h
theorem aK.mono (s:aE G cq):∀{ds:List D}{xs:List V},aK K G ds xs->aK K cq ds xs
 |[],_,h=>h
 |d::ds,_,⟨v,r,e,c,h2⟩=>⟨v,r,e,Rep.mono s c,aK.mono s h2⟩
end
theorem aK.length:∀{ds:List D}{xs:List V},aK K G ds xs->ds.length=xs.length
 |[],_,h=>by cases h;rfl
 |d::ds,_,⟨v,r,e,a,h2⟩=>by subst e;simp[aK.length h2]
theorem aK.append:∀{ds a:List D}{xs ys:List V},aK K G ds xs->aK K G a ys->aK K G (ds++a) (xs++ys)
 |[],_,_,_,h,q=>by cases h;exact q
 |d::ds,_,_,_,⟨v,r,e,b,h2⟩,q=>by subst e;exact⟨v,r++_,rfl,b,aK.append h2 q⟩
theorem aK.get:∀{ds:List D}{xs:List V}{i:Nat}{d:D},aK K G ds xs->ds[i]?=Z d->∃v,xs[i]?=Z v/\Rep K G d v
 |[],_,_,_,h,e=>by simp at e
 |d::ds,_,0,_,⟨v,r,e,a,h2⟩,q=>by subst e;simp at q;subst q;exact⟨v,rfl,a⟩
 |d::ds,_,i+1,_,⟨v,r,e,a,h2⟩,q=>by subst e;simpa using aK.get h2 ⇑q
theorem aK.drop:∀{ds:List D}{xs:List V}(n:Nat),aK K G ds xs->aK K G (ds.drop n) (xs.drop n)
 |_,_,0,h=>⇑h
 |[],_,n+1,h=>by cases h;simp[aK]
 |d::ds,_,n+1,⟨v,r,e,a,h2⟩=>by subst e;simpa using aK.drop n h2
theorem aK.take:∀{ds:List D}{xs:List V}(n:Nat),aK K G ds xs->aK K G (ds.take n) (xs.take n)
 |_,_,0,h=>by simp[aK]
 |[],_,n+1,h=>by cases h;simp[aK]
 |d::ds,_,n+1,⟨v,r,e,a,h2⟩=>by subst e;exact⟨v,r.take n,by simp,a,aK.take n h2⟩
def aK.snoc(h:aK K G ds xs)(q:Rep K G d v):aK K G (ds++[d]) (xs++[v]):=h.append ⟨v,[],rfl,q,rfl⟩
def View(K:W.Frag)(G H:ah):D->V->Prop
 |.aI b,v=>∃a,v=.ref a/\eS H a (.ck (ep b))
 |.aO b,v=>∃a ys,v=.ref a/\eS H a (.b5 ys)/\cY G b ys
 |.lst ds,v=>∃a xs,v=.ref a/\b8 K H a xs/\aK K G ds xs
 |d,v=>Rep K G d v
def Rep.view(s:aE G H):∀{d:D}{v:V},Rep K G d v->View K G H d v
 |.lst ds,_,⟨a,xs,e,h,r⟩=>⟨a,xs,e,fZ s h,r⟩
 |.aW,_,h=>h
 |.ag _,_,h=>h
 |.int _,_,h=>h
 |.str _,_,h=>h
 |.tup _,_,h=>h
 |.aI _,_,⟨a,b,e,h⟩=>⟨a,e,.inr ⟨b,s _ _ h⟩⟩
 |.aO _,_,⟨a,b,ys,e,h,r⟩=>⟨a,ys,e,.inr ⟨b,s _ _ h⟩,r⟩
 |.d4 _,_,h=>h
structure Ext(G H cq aC:ah):Prop where
 g:aE G cq
 h:aE H aC
 sub:aE cq aC
 new:∀a,G a=Y->H a≠Y->cq a=Y
 c7:∀b xs,aC b=Z (.tup xs)->H b=Z (.tup xs)\/cq b=Z (.tup xs)
theorem Ext.refl(s:aE G H):Ext G H G H:=⟨aE.refl G,aE.refl H,s,λ_ h _=>h,λ_ _ h=>.inl h⟩
theorem Ext.trans(x:Ext G H c d)(y:Ext c d cq aC):Ext G H cq aC :=
 ⟨x.g.trans y.g,x.h.trans y.h,y.sub,λa e h2=>y.new a (x.new a e h2) (λz=>by
  cases q:H a with
  |none=>exact h2 q
  |some o=>rw[x.h a o q]at z;cases z),λb xs z=>(y.c7 b xs z).elim (λz=>(x.c7 b xs z).imp id λz=>y.g _ _ z) .inr⟩
def d8(h:H a=Y):aE H (upd H a o):=λb u e=>by rw[bk (gk e h)];exact e
def View.ext(x:Ext G H b c):∀{d:D}{v:V},View K G H d v->View K b c d v
 |.lst ds,_,⟨a,xs,e,h,r⟩=>⟨a,xs,e,fZ x.h h,r.mono x.g⟩
 |.aW,_,h=>h
 |.ag _,_,h=>h
 |.int _,_,h=>h
 |.str _,_,h=>h
 |.tup _,_,h=>Rep.mono (K:=K) x.g h
 |.aI _,_,⟨a,e,h⟩=>⟨a,e,z3 x.h h⟩
 |.aO _,_,⟨a,ys,e,h,r⟩=>⟨a,ys,e,z3 x.h h,r.mono x.g⟩
 |.d4 _,_,h=>h
def Ext.own(s:aE G H)(h:H a=Y)(d:∀xs,o≠.tup xs):Ext G H G (upd H a o):=⟨aE.refl G,d8 h,s.trans (d8 h),λ_ c _=>c,λb xs e=>by
 by_cases q:b=a
 .subst q;rw[b4]at e;cases e;exact absurd rfl (d xs)
 .rw[bk q]at e;exact .inl e⟩
def Ext.put(s:aE G H)(h:H a=Y):Ext G H (upd G a o) (upd H a o):=by
 have d:G a=none:=s.free h;refine⟨d8 d,d8 h,λb u e=>?_,λb c h2=>?_,λb xs e=>?_⟩
 .by_cases q:b=a
  .subst q;rw[b4]at e ⊢;exact e
  .rw[bk q]at e ⊢;exact s b u e
 .rw[bk (λq=>h2 (by rw[q];exact h))];exact c
 .by_cases q:b=a
  .subst q;rw[b4]at e ⊢;exact .inr e
  .rw[bk q]at e;exact .inl e
end
inductive dn where
 |view|val|fresh
def bb(K:W.Frag)(H b c:ah):dn->D->V->Prop
 |.view,d,v=>View K b c d v
 |.val,d,v=>Rep K b d v
 |.fresh,.lst ds,v=>∃a xs,v=.ref a/\c a=Z (.lst xs)/\H a=Y/\b a=Y/\aK K b ds xs
 |.fresh,.aI _,_=>False
 |.fresh,.aO _,_=>False
 |.fresh,d,v=>Rep K b d v
abbrev eV:D->Bool
 |.lst _=>J
 |.aI _=>J
 |.aO _=>J
 |_=>VC
def g0(K:W.Frag)(G:ah):D->eP->Prop
 |.lst ds,o=>∃xs,o=.lst xs/\aK K G ds xs
 |.aI a,o=>o=.ck (ep a)
 |.aO a,o=>∃ys,o=.b5 ys/\cY G a ys
 |_,_=>False
theorem g0.mono{K:W.Frag}(s:aE G a):∀{d:D}{o:eP},g0 K G d o->g0 K a d o
 |.lst _,_,⟨xs,e,r⟩=>⟨xs,e,r.mono s⟩
 |.aI _,_,h=>h
 |.aO _,_,⟨ys,e,r⟩=>⟨ys,e,r.mono s⟩
 |.aW,_,h=>h
 |.ag _,_,h=>h
 |.int _,_,h=>h
 |.str _,_,h=>h
 |.tup _,_,h=>h
 |.d4 _,_,h=>h
structure cH(K:W.Frag)(ae:List Nat)(G H:ah)(aa:aD)(σ:aN):Prop where
 len:aa.length=σ.length
 sub:aE G H
 val:∀(i:Nat)(d:D),aa[i]?=Z (Z d)->i∉ae->∃v,σ[i]?=Z (Z v)/\Rep K G d v
 own:∀(i:Nat)(d:D),aa[i]?=Z (Z d)->i∈ae->eV d=VC->∃v,σ[i]?=Z (Z v)/\Rep K G d v
 lst:∀(i:Nat)(d:D),aa[i]?=Z (Z d)->i∈ae->eV d=J->∃a o,σ[i]?=Z (Z (V.ref a))/\H a=Z o/\G a=Y/\g0 K G d o
 c7:∀b xs,H b=Z (.tup xs)->G b=Z (.tup xs)
 apart:∀(i j:Nat)(d e:D)(a b:VO),aa[i]?=Z (Z d)->aa[j]?=Z (Z e)->eV d=J->eV e=J->i∈ae->j∈ae->i≠j->σ[i]?=Z (Z (V.ref a))->σ[j]?=Z (Z (V.ref b))->a≠b
def cH.ext{K:W.Frag}(h:cH K l G H m n)(x:Ext G H g j):cH K l g j m n where
 len:=h.len
 sub:=x.sub
 val:=λi d e c=>let ⟨v,a,b⟩:=h.val i d e c;⟨v,a,b.mono x.g⟩
 own:=λi d e c f=>let ⟨v,a,b⟩:=h.own i d e c f;⟨v,a,b.mono x.g⟩
 lst:=λi d e c f=>let ⟨a,o,k,h2,h3,h4⟩:=h.lst i d e c f;⟨a,o,k,x.h _ _ h2,x.new a h3 (by rw[h2];exact λz=>nomatch z),h4.mono x.g⟩
 c7:=λb xs z=>(x.c7 b xs z).elim (λz=>x.g _ _ (h.c7 b xs z)) id
 apart:=h.apart
theorem cH.view{K:W.Frag}(h:cH K j G H k l){i:Nat}{d:D}(e:k[i]?=Z (Z d)):∃v,l[i]?=Z (Z v)/\View K G H d v:=by
 by_cases f:i∈j
 .cases c:eV d with
  |false=>obtain⟨v,b,h2⟩:=h.own i _ e f c;exact⟨v,b,h2.view h.sub⟩
  |true =>
   obtain⟨a,o,b,h2,h3,h4⟩:=h.lst i d e f c;cases d with
   |lst ds=>obtain⟨xs,rfl,r⟩:=h4;exact⟨_,b,a,xs,rfl,.inl (.inl h2),r⟩
   |aI g=>cases h4;exact⟨_,b,a,rfl,.inl h2⟩
   |aO g=>obtain⟨ys,rfl,r⟩:=h4;exact⟨_,b,a,ys,rfl,.inl h2,r⟩
   |_=>cases c
 .obtain⟨v,b,h2⟩:=h.val i d e f;exact⟨v,b,h2.view h.sub⟩
noncomputable abbrev bQ:=Nat->VE->List VO->V9->Prop
def fe(X:aq)(b:List (VO×WW))(H:ah)(a:VO):Prop :=
 H a=Y/\(a∈X.ex\/X.dN.heap.get? a=Y)/\a≠X.env.locals/\(∀x c,X.env.cells.lookup x=Z c->c≠a)/\∀p∈X.bV++b,p.1≠a
def fe.of{k:aN}(I:Inv X j k H s)(h:s.heap.get? a=Y)(h':i a=Y):fe X j i a:=by
 have f:∀{b:VO}{o:WW},s.heap.get? b=Z o->b≠a:=λq z=>by rw[z,h]at q;cases q
 refine⟨h',?_,λz=>?_,λx c q=>?_,λp q=>f (I.pin p q).1⟩
 .by_cases g:a∈X.ex
  .exact .inl g
  .refine .inr ?_;cases q:X.dN.heap.get? a with
   |none=>rfl
   |some o=>obtain⟨l,e⟩:=I.base.there a o q g;rw[h]at e;cases e
 .obtain⟨m,⟨o,_,_,d,_⟩,_⟩:=I.loc;exact f d z.symm
 .obtain⟨v,o,d,_⟩:=I.cell x c q;exact f d
def dy(xp:bQ)(X:aq)(c:Nat)(H:ah):Prop:=∀(d:List (VO×WW))(f:aN)(b:ah)(s':VI)(e:VE)(l:List VO),Inv X d f b s'->aE H b->(∀a∈l,fe X d b a)->xp c e l s'.heap->X.bl e s'
def dy.mono(h:dy xp X c H)(s:aE H aC):dy xp X c aC:=λb d a s' e l I q n x=>h b d a s' e l I (s.trans q) n x
def ax(xp:bQ)(X:aq)(g:List Nat)(m:dn)(f:aD->aY D):TE:=λh H Q =>
 ∃G e,cH X.K g G H e h/\aZ (f e) (λd=>∀v b a,Ext G H b a->bb X.K H b a m d v->Q v a) (λc=>dy xp X c H)
theorem bb.view{K:W.Frag}(s:aE b c):∀{m:dn}{d:D}{v:V},bb K H b c m d v->View K b c d v
 |.view,_,_,h=>h
 |.val,_,_,h=>Rep.view s h
 |.fresh,.lst ds,_,⟨a,xs,e,f,_,_,r⟩=>⟨a,xs,e,.inl (.inl f),r⟩
 |.fresh,.aW,_,h=>h
 |.fresh,.ag _,_,h=>h
 |.fresh,.int _,_,h=>h
 |.fresh,.str _,_,h=>h
 |.fresh,.tup _,_,h=>h
 |.fresh,.aI _,_,h=>h.elim
 |.fresh,.aO _,_,h=>h.elim
 |.fresh,.d4 _,_,h=>h
theorem ai.val(h:ai X e (ax xp X n .fresh f)):ai X e (ax xp X n .val f):=by
 rintro p s w H Q I ⟨G,u,m,hw⟩;refine h p s w H Q I ⟨G,u,m,aQ hw (λd k v c g x r=>?_) λ_ q=>q⟩;cases d with
 |lst ds =>
  obtain⟨a,xs,rfl,l,h2,h3,h4⟩:=r;refine k _ (upd c a (.lst xs)) g ⟨x.g.trans (d8 h3),x.h,λb o q=>?_,λb t j=>?_,λb xs q=>(x.c7 b xs q).imp id λz=>d8 h3 _ _ z⟩ ⟨a,xs,rfl,.inl (.inl b4),h4.mono (d8 h3)⟩
  .by_cases i:b=a
   .subst i;rw[b4]at q;rw[l];exact q
   .rw[bk i]at q;exact x.sub b o q
  .rw[bk (λz=>j (by rw[z];exact h2))];exact x.new b t j
 |aI _=>exact r.elim
 |aO _=>exact r.elim
 |_=>exact k v c g x r
theorem ai.view(h:ai X e (ax xp X g m f)):ai X e (ax xp X g .view f):=by
 rintro i s l H Q I ⟨G,j,c,hw⟩;exact h i s l H Q I ⟨G,j,c,aQ hw (λd k v a b x r=>k v a b x (r.view x.sub)) λ_ q=>q⟩
section
def AB(h:X.N[i]?=Z x)(j:dA X.env.scope x)(g:(x==("__debug__":VT))=VC)(h2:(x==("__classdict__":VT))=VC):ai X (.Name x p) (ax xp X m .view λc=>ζ.ev pg Φ c (.var i)):=by
 rintro k s l H Q I ⟨G,c,f,hw⟩;dsimp only at hw;cases e:c[i]? with
 |none=>rw[ζ.o3,e]at hw;exact hw.elim
 |some o =>
  cases o with
  |none=>rw[ζ.o3,e]at hw;exact hw.elim
  |some d =>
   rw[ζ.xl i e]at hw;obtain⟨v,a,b⟩:=f.view e;exact d7 h j g h2 k s l H Q I ⟨v,a,hw v G H (Ext.refl f.sub) b⟩
def L0(j:i∉l)(h:X.N[i]?=Z x)(k:dA X.env.scope x)(g:(x==("__debug__":VT))=VC)(h2:(x==("__classdict__":VT))=VC):ai X (.Name x p) (ax xp X l .val λc=>ζ.ev pg Φ c (.var i)):=by
 rintro m s n H Q I ⟨G,c,f,hw⟩;dsimp only at hw;cases e:c[i]? with
 |none=>rw[ζ.o3,e]at hw;exact hw.elim
 |some o =>
  cases o with
  |none=>rw[ζ.o3,e]at hw;exact hw.elim
  |some d =>
   rw[ζ.xl i e]at hw;obtain⟨v,a,b⟩:=f.val i d e j;exact d7 h k g h2 m s n H Q I ⟨v,a,hw v G H (Ext.refl f.sub) b⟩
def Aw{d:D}(h:ζ.litOk d c=J):ai X (.Constant c j p) (ax xp X k m λf=>ζ.ev pg Φ f (.lit d)):=by
 rintro a s e H Q I ⟨G,f,g,hw⟩;dsimp only at hw;rw[ζ.xh]at hw;have fin:∀v,bb X.K H G H m d v->Q v H:=λv r=>hw v G H (Ext.refl g.sub) r
 cases d with
 |aW=>cases c<;>simp[ζ.litOk]at h;exact JQ a s e H Q I (fin _ (by cases m<;>rfl))
 |ag b =>
  cases c<;>simp[ζ.litOk]at h;subst h;exact JF a s e H Q I (fin _ (by cases m<;>rfl))
 |int i =>
  cases c<;>simp[ζ.litOk]at h;subst h;exact t9 a s e H Q I (fin _ (by cases m<;>rfl))
 |str x =>
  cases c<;>simp[ζ.litOk]at h;subst h;exact zC a s e H Q I (fin _ (by cases m<;>rfl))
 |_=>cases c<;>simp[ζ.litOk]at h
def hu(K:W.Frag)(g:D->D->aY D):fu:=λx y H Q=>∃G c e,aE G H/\View K G H c x/\View K G H e y/\aZ (g c e) (λd=>∀v b a,Ext G H b a->bb K H b a .fresh d v->Q v a) (λ_=>False)
def bb.old{K:W.Frag}(s:aE H f):∀{m:dn}{d:D}{v:V},bb K f b c m d v->bb K H b c m d v
 |.view,_,_,h=>h
 |.val,_,_,h=>h
 |.fresh,.lst ds,_,⟨a,xs,e,g,h2,h3,r⟩=>⟨a,xs,e,g,s.free h2,h3,r⟩
 |.fresh,.aW,_,h=>h
 |.fresh,.ag _,_,h=>h
 |.fresh,.int _,_,h=>h
 |.fresh,.str _,_,h=>h
 |.fresh,.tup _,_,h=>h
 |.fresh,.aI _,_,h=>h
 |.fresh,.aO _,_,h=>h
 |.fresh,.d4 _,_,h=>h
def La(A:∀x y c,g x y≠.exc c)(B:bC X (Wv op) (hu X.K g))(w:ai X a (ax xp X m .view t))(z:ai X b (ax xp X m .view u)):
  ai X (.BinOp a op b pos) (ax xp X m .fresh λe=>t e>>=λx=>u e>>=λy=>g x y):=by
 rintro C s R H Q I ⟨G,e,l,hw⟩;refine zB B w z C s R H Q I ?_;refine⟨G,e,l,aQ (aB.mp hw) (λi k v n S f E=>?_) λ_ q=>q⟩;refine⟨n,e,l.ext f,aQ (aB.mp k) (λj k2 U o T h L=>?_) λ_ q=>q.mono f.h⟩;refine⟨o,i,j,h.sub,View.ext h E,L,?_⟩;cases q:g i j with
 |ok d =>
  rw[q]at k2;exact λN p r O M=>k2 N p r ((f.trans h).trans O) (M.old (f.h.trans h.h))
 |exc c=>exact absurd q (A _ _ _)
 |bad=>rw[q]at k2;exact k2
def hQ{K:W.Frag}{Q:cj}(c:aE G H)(k:∀v b a,Ext G H b a->bb K H b a .fresh d v->Q v a)(r:bb K H G H .fresh d v):Q v H:=k v G H (Ext.refl c) r
def Eh:bC X (Wv .Sub) (hu X.K (ζ.bK .sub)):=by
 rintro d s i H x y v u Q I e f ⟨G,a,b,c,g,h,hw⟩;cases a<;>cases b<;>first|exact hw.elim|skip
 exact Jv d s i H x y v u Q I e f ⟨_,_,g,h,hQ c hw rfl⟩
def Ec:bC X (Wv .Mod) (hu X.K (ζ.bK .mod)):=by
 rintro pins s σ H x y v u Q I gN gO ⟨G,cU,hb,fF,gU,gV,hw⟩;cases cU<;>cases hb<;>first|exact hw.elim|skip
 rw[ζ.mod_int]at hw
 by_cases h:0<i_1
 .rw[if_pos h]at hw;exact Jr pins s σ H x y v u Q I gN gO ⟨_,_,gU,gV,h,hQ fF hw rfl⟩
 .rw[if_neg h]at hw;exact hw.elim
def D9:bC X (Wv .FloorDiv) (hu X.K (ζ.bK .fdiv)):=by
 rintro pins s σ H x y v u Q I gN gO ⟨G,cU,hb,fF,gU,gV,hw⟩;cases cU<;>cases hb<;>first|exact hw.elim|skip
 rw[ζ.xw]at hw
 by_cases h:0<i_1/\i_1<1073741824
 .rw[if_pos h]at hw;exact Jl pins s σ H x y v u Q I gN gO ⟨_,_,gU,gV,h,hQ fF hw rfl⟩
 .rw[if_neg h]at hw;exact hw.elim
end
mutual
noncomputable def toPy:D->PyData
 |.aW=>.none
 |.ag b=>.bool b
 |.int i=>.int i
 |.str x=>.str x
 |.tup xs=>.tuple (e6 xs)
 |.lst xs=>.list (e6 xs)
 |.aI _=>.dict []
 |.aO _=>.dict []
 |.d4 _=>.dict []
noncomputable def e6:List D->List PyData
 |[]=>[]
 |d::ds=>toPy d::e6 ds
end
mutual
theorem nc:∀a b:D,PyData.eqv (toPy a) (toPy b)=ζ.d3 a b
 |.aW,b=>by cases b<;>rfl
 |.ag _,b=>by cases b<;>rfl
 |.int _,b=>by cases b<;>rfl
 |.str _,b=>by cases b<;>rfl
 |.tup xs,b=>by
  cases b with
  |tup ys=>exact sR xs ys
  |_=>rfl
 |.lst xs,b=>by
  cases b with
  |lst ys=>exact sR xs ys
  |_=>rfl
 |.aI _,b=>by cases b<;>rfl
 |.aO _,b=>by cases b<;>rfl
 |.d4 _,b=>by cases b<;>rfl
theorem sR:∀a b:List D,PyData.eqvAll (e6 a) (e6 b)=ζ.iy a b
 |[],[]=>rfl
 |[],_::_=>rfl
 |_::_,[]=>rfl
 |x::xs,y::ys=>by simp only[e6,PyData.eqvAll,ζ.iy,nc x y,sR xs ys]
end
mutual
theorem mg:∀(n:Nat)(d:D),ζ.bR n d=J->(toPy d).canLay0=J/\(toPy d).depth<=n
 |n,.aW,_=>⟨rfl,PN _⟩
 |n,.ag _,_=>⟨rfl,PN _⟩
 |n,.int _,_=>⟨rfl,PN _⟩
 |0,.str x,h=>⟨h,PN _⟩
 |n+1,.str x,h=>⟨h,PN _⟩
 |0,.tup _,h=>by cases h
 |n+1,.tup xs,h=>by
  obtain⟨a,b⟩:=uF n xs h;exact⟨a,by show Xz (e6 xs)+1<=n+1;lia⟩
 |0,.lst _,h=>by cases h
 |n+1,.lst xs,h=>by
  obtain⟨a,b⟩:=uF n xs h;exact⟨a,by show Xz (e6 xs)+1<=n+1;lia⟩
 |0,.aI _,h=>by cases h
 |n+1,.aI _,h=>by cases h
 |0,.aO _,h=>by cases h
 |n+1,.aO _,h=>by cases h
 |0,.d4 _,h=>by cases h
 |n+1,.d4 _,h=>by cases h
theorem uF:∀(n:Nat)(ds:List D),ds.all (ζ.bR n)=J->Zz (e6 ds)=J/\Xz (e6 ds)<=n
 |n,[],_=>⟨rfl,PN _⟩
 |n,d::ds,h=>by
  simp only[WS,PB]at h;obtain⟨a,b⟩:=mg n d h.1;obtain⟨c,e⟩:=uF n ds h.2;refine⟨by simp only[e6,Zz,a,c,Bool.and_self],?_⟩;show max (PyData.depth (toPy d)) (Xz (e6 ds))<=n;lia
end
def qm{d:D}(h:ζ.bR 60 d=J):SeqAt.shaped (toPy d)=true:=by
 obtain⟨a,b⟩:=mg 60 d h;unfold SeqAt.shaped;rw[a,Y3];exact decide_eq_true ⋯
section
variable{xp:bQ}{X:aq}{ae:List Nat}{pg:ζ.cT}{Φ:ζ.dw}{pins:List (VO×WW)}{σ:aN}{G H:ah}{s:VI}
mutual
theorem z7 (I:Inv X pins σ H s) (f:aE G H):∀(n:Nat){d:D}{v:V}{u:VE},ζ.bR n d=J->Rep X.K G d v->RelV v u->∃c,Reads s.heap u (toPy d) c
 |_,.aW,_,_,_,h,r=>by cases h;cases r;exact⟨_,.none⟩
 |_,.ag b,_,_,_,h,r=>by cases h;cases r;exact⟨_,.bool b⟩
 |_,.int i,_,_,_,h,r=>by cases h;obtain⟨t,rfl⟩:=r;exact⟨_,.int i t⟩
 |_,.str x,_,_,_,h,r=>by cases h;obtain⟨t,rfl⟩:=r;exact⟨_,.str x t⟩
 |0,.tup ds,_,_,z,_,_=>by cases z
 |n+1,.tup ds,_,_,z,j,r=>by
  obtain⟨a,xs,e,h,q⟩:=j;subst e;cases r;obtain⟨its,p,⟨o,m,k,A,l⟩,_⟩:=I.tuple (fI f h);obtain⟨c,g⟩:=kx I f n z q p;exact⟨c,.tuple m k l ⇑g⟩
 |0,.lst ds,_,_,z,_,_=>by cases z
 |n+1,.lst ds,_,_,z,j,r=>by
  obtain⟨a,xs,e,h,q⟩:=j;subst e;cases r;obtain⟨its,p,⟨o,A,m,k,_,l⟩,_⟩:=I.list (fZ f h);obtain⟨c,g⟩:=kx I f n z q p;exact⟨a::c,.list m k l ⇑g⟩
 |0,.aI _,_,_,z,_,_=>by cases z
 |n+1,.aI _,_,_,z,_,_=>by cases z
 |0,.aO _,_,_,z,_,_=>by cases z
 |n+1,.aO _,_,_,z,_,_=>by cases z
 |_,.d4 _,_,_,_,h,_=>h.elim
theorem kx (I:Inv X pins σ H s) (f:aE G H):∀(n:Nat){ds:List D}{xs:List V}{w:List VE},ds.all (ζ.bR n)=J->aK X.K G ds xs->Vals xs w->∃c,ZA s.heap w (e6 ds) c
 |_,[],_,_,_,h,r=>by cases h;cases r;exact⟨_,.nil⟩
 |n,d::ds,_,_,z,j,r=>by
  obtain⟨v,t,e,y,h2⟩:=j;subst e;simp only[WS,PB]at z;cases r with
  |cons B C =>
   obtain⟨c,g⟩:=z7 I f n z.1 y B;obtain⟨bs,E⟩:=kx I f n z.2 h2 C;exact⟨c++bs,.cons g E⟩
end
def kv(I:Inv X pins σ H s)(c:aE G H)(h:View X.K G H d v)(r:RelV v u)(b:ζ.bR 60 d=J):∃as,Reads s.heap u (toPy d) as:=by
 cases d with
 |aI i=>cases b
 |aO i=>cases b
 |lst ds =>
  obtain⟨a,xs,rfl,h,q⟩:=h;cases r;obtain⟨its,k,⟨o,n,g,e,_,f⟩,_⟩:=I.list h;obtain⟨as,j⟩:=kx I c 59 b q k;exact⟨a::as,.list g e f ⇑j⟩
 |_=>exact z7 I c 60 b h r
def es(K:W.Frag)(g:D->D->aY Bool):fu:=λx y H Q=>∃G a c,aE G H/\View K G H a x/\View K G H c y/\aZ (g a c) (λb=>Q (.ag b) H) (λ_=>False)
def vm{r:aY Bool}:aZ (ζ.fq r) Q E<->aZ r (λb=>Q (!b)) E:=by cases r<;>exact VA
def BR{x y:D}(h:aZ (ζ.dt x y) Q E):ζ.bR 60 x=J/\ζ.bR 60 y=J/\Q (ζ.d3 x y):=by
 unfold ζ.dt at h;cases q:(ζ.bR 60 x&&ζ.bR 60 y) with
 |false=>rw[q]at h;exact h.elim
 |true =>
  rw[q]at h;simp only[PB]at q;exact⟨q.1,q.2,h⟩
def C9(c:X.A.units+64<Wy):bC X (V4 .Eq) (es X.K (ζ.bZ .eq)):=by
 rintro pins s σ H x y v u Q I f g ⟨G,k,l,b,h,i,hw⟩;rw[ζ.wB]at hw;obtain⟨a,h2,q⟩:=BR hw;obtain⟨j,d⟩:=kv I b h f a;obtain⟨bs,e⟩:=kv I b i g h2;refine eq_dataH d e (qm a) (qm h2) c ?_;rw[nc];exact⟨.ag _,H,I,rfl,q⟩
def Dj(c:X.A.units+64<Wy):bC X (V4 .NotEq) (es X.K (ζ.bZ .ne)):=by
 rintro pins s σ H x y v u Q I f g ⟨G,k,l,b,h,i,hw⟩;rw[ζ.sz]at hw;obtain⟨a,h2,q⟩:=BR (vm.mp hw);obtain⟨j,d⟩:=kv I b h f a;obtain⟨bs,e⟩:=kv I b i g h2;refine ne_dataH d e (qm a) (qm h2) c ?_;rw[nc];exact⟨.ag _,H,I,rfl,q⟩
end
section
open Classical in
def hP (h:V9) (cU:D) (y:VE):Bool:=decide (∃(d:D)(as:List VO),Reads h y (toPy d) as/\ζ.bR 60 d=J/\ζ.d3 d cU=J)
open Classical in
theorem sQ (r:Reads h y (toPy d) as) (hd:ζ.bR 60 d=J):hP h cU y=ζ.d3 d cU:=by
 unfold hP;cases q:ζ.d3 d cU with
 |true=>exact decide_eq_true ⟨d,as,r,hd,q⟩
 |false =>
  refine decide_eq_false ?_;rintro⟨d',Pe,Ku,Pn,zW⟩;have e:=SeqAt.Reads.unique _ _ _ _ _ (mg 60 d hd).1 r Ku;rw[<- nc]at q zW;rw[e,zW]at q;cases q
theorem rk:∀{ds:List D}{b:List VE}{c:List VO},ZA h b (e6 ds) c->ds.all (ζ.bR 60)=J->b.any (hP h e)=ds.any λd=>ζ.d3 d e
 |[],_,_,r,_=>by cases r;rfl
 |d::ds,_,_,r,a=>by
  cases r with
  |cons f g =>
   simp only[WS,PB]at a;simp only[Ws,sQ f a.1,rk g a.2]
theorem o1{X:aq}(k:X.A.units+64<Wy)(g:Reads s.heap v (toPy c) bs)(e:ζ.bR 60 c=J):∀{ds:List D}{h:List VE}{i:List VO},ZA s.heap h (e6 ds) i->ds.all (ζ.bR 60)=J->∀y,y∈h->Y9 X.A.in1 s y v (hP s.heap c y)
 |[],_,_,r,_,y,b=>by cases r;simp at b
 |d::ds,_,_,r,a,y,b=>by
  cases r with
  |cons f l =>
   simp only[WS,PB]at a;rcases PF.mp b with rfl|b
   .rw[sQ f a.1,<- nc];refine SeqAt.eqAt_reads _ _ _ _ _ _ _ _ f g (mg 60 _ a.1).1 (mg 60 _ e).1 ?_;have j:=(mg 60 _ a.1).2;show X.A.units+1+_<Wy;have:min (toPy d).depth (toPy c).depth<=60:=PW (R3 _ _) j;lia
   .exact o1 k g e l a.2 y b
def BS{x:D}{ys:List D}(h:aZ (ζ.fH x ys) Q E):ζ.bR 60 x=J/\ys.all (ζ.bR 60)=J/\Q (ζ.memD x ys):=by
 unfold ζ.fH at h;cases q:(ζ.bR 60 x&&ys.all (ζ.bR 60)) with
 |false=>rw[q]at h;exact h.elim
 |true =>
  rw[q]at h;simp only[PB]at q;exact⟨q.1,q.2,h⟩
def yd{k:aN}{ys:List D}(I:Inv X l k H s)(f:aE G H)(h:View X.K G H (.tup ys) y\/View X.K G H (.lst ys) y)(r:RelV y u)(j:ys.all (ζ.bR 60)=J):
  ∃(a:VO)(its:List VE)(b:List VO),u=.ref a/\ZA s.heap its (e6 ys) b/\(s.heap.IsTuple a its.toArray\/s.heap.IsList a its.toArray):=by
 rcases h with⟨a,xs,rfl,h,q⟩|⟨a,xs,rfl,h,q⟩
 .cases r;obtain⟨its,i,⟨o,e,c,n,d⟩,_⟩:=I.tuple (fI f h);obtain⟨b,g⟩:=kx I f 60 j q i;exact⟨a,its,b,rfl,g,.inl ⟨o,e,c,n,d⟩⟩
 .cases r;obtain⟨its,i,⟨o,n,e,c,_,d⟩,_⟩:=I.list h;obtain⟨b,g⟩:=kx I f 60 j q i;exact⟨a,its,b,rfl,g,.inr ⟨o,e,c,n,d⟩⟩
def De(m:X.A.units+64<Wy):bC X (V4 .In) (es X.K (ζ.bZ .mem)):=by
 rintro o s A H x y v u Q I r t ⟨G,c,l,h,w,k,hw⟩;have i:∀ys,(View X.K G H (.tup ys) y\/View X.K G H (.lst ys) y)->aZ (ζ.fH c ys) (λb=>Q (.ag b) H) (λ_=>False)->VJ (VM X.prog X.w) X.A (V4 .In v u) (cX X o A Q) X.bl s:=by
  intro ys n hw;obtain⟨f,h2,q⟩:=BS hw;obtain⟨bs,p⟩:=kv I h w r f;obtain⟨a,its,B,rfl,j,d⟩:=yd I h n t h2;have e:its.toArray.any (hP s.heap c)=ζ.memD c ys:=(by rw[ZM];exact rk j h2);have g:∀z,z∈its.toArray->Y9 X.A.in1 s z v (hP s.heap c z):=λz hz=>o1 m p f j h2 z ⇑hz
  rcases d with d|d
  .exact SeqAt.in_tupleAt _ d g (by rw[e];exact⟨.ag _,H,I,rfl,q⟩)
  .exact SeqAt.in_listAt _ d g (by rw[e];exact⟨.ag _,H,I,rfl,q⟩)
 cases l with
 |tup ys=>exact i ys (.inl k) hw
 |lst ys=>exact i ys (.inr k) hw
 |_=>cases c<;>exact hw.elim
def Dk(m:X.A.units+64<Wy):bC X (V4 .NotIn) (es X.K (ζ.bZ .iI)):=by
 rintro o s A H x y v u Q I r t ⟨G,c,l,h,w,k,hw⟩;have i:∀ys,(View X.K G H (.tup ys) y\/View X.K G H (.lst ys) y)->aZ (ζ.fq (ζ.fH c ys)) (λb=>Q (.ag b) H) (λ_=>False)->VJ (VM X.prog X.w) X.A (V4 .NotIn v u) (cX X o A Q) X.bl s:=by
  intro ys n hw;obtain⟨f,h2,q⟩:=BS (vm.mp hw);obtain⟨bs,p⟩:=kv I h w r f;obtain⟨a,its,B,rfl,j,d⟩:=yd I h n t h2;have e:its.toArray.any (hP s.heap c)=ζ.memD c ys:=(by rw[ZM];exact rk j h2);have g:∀z,z∈its.toArray->Y9 X.A.in1 s z v (hP s.heap c z):=λz hz=>o1 m p f j h2 z ⇑hz
  rcases d with d|d
  .exact SeqAt.notIn_tupleAt _ d g (by rw[e];exact⟨.ag _,H,I,rfl,q⟩)
  .exact SeqAt.notIn_listAt _ d g (by rw[e];exact⟨.ag _,H,I,rfl,q⟩)
 cases l with
 |tup ys=>exact i ys (.inl k) hw
 |lst ys=>exact i ys (.inr k) hw
 |_=>cases c<;>exact hw.elim
def GR(a:∀n,v≠.builtin n)(h:Q (.bool (v==.bool b)) s):VJ M A (V4 .Is v (.bool b)) Q E s:=by
 cases v with
 |builtin n=>exact absurd rfl (a n)
 |_=>exact VB h
def GZ(a:∀n,v≠.builtin n)(h:Q (.bool (!(v==.bool b))) s):VJ M A (V4 .IsNot v (.bool b)) Q E s:=by
 cases v with
 |builtin n=>exact absurd rfl (a n)
 |_=>exact VB h
def Ac(r:RelV x v):∀n,v≠.builtin n:=by
 intro n e;subst e;cases x<;>first|(cases r;done)|(obtain⟨t,h⟩:=r;cases h)
def yi{K:W.Frag}(c:View K G H f x)(j:View K G H g y)(d:RelV x v)(i:RelV y u)(h:aZ (ζ.nv f g) Q E):
  (u=.none/\Q (v==.none))\/∃b,u=.bool b/\Q (v==.bool b):=by
 cases g with
 |aW =>
  cases j;cases i;refine .inl ⟨rfl,?_⟩;cases f with
  |aW=>cases c;cases d;exact h
  |ag _=>cases c;cases d;exact h
  |int _=>cases c;obtain⟨t,rfl⟩:=d;exact h
  |str _=>cases c;obtain⟨t,rfl⟩:=d;exact h
  |tup _=>obtain⟨a,xs,rfl,_⟩:=c;cases d;exact h
  |lst _=>obtain⟨a,xs,rfl,_⟩:=c;cases d;exact h
  |aI _=>obtain⟨a,rfl,_⟩:=c;cases d;exact h
  |aO _=>obtain⟨a,_,rfl,_⟩:=c;cases d;exact h
  |d4 _=>exact c.elim
 |ag b =>
  cases j;cases i;refine .inr ⟨b,rfl,?_⟩;cases f with
  |aW=>cases c;cases d;exact h
  |ag a =>
   cases c;cases d;have e:(WN a==WN b)=(a==b):=(by cases a<;>cases b<;>rfl);rw[e];exact h
  |int _=>cases c;obtain⟨t,rfl⟩:=d;exact h
  |str _=>cases c;obtain⟨t,rfl⟩:=d;exact h
  |tup _=>obtain⟨a,xs,rfl,_⟩:=c;cases d;exact h
  |lst _=>obtain⟨a,xs,rfl,_⟩:=c;cases d;exact h
  |aI _=>obtain⟨a,rfl,_⟩:=c;cases d;exact h
  |aO _=>obtain⟨a,_,rfl,_⟩:=c;cases d;exact h
  |d4 _=>exact c.elim
 |_=>cases f<;>exact h.elim
def Df:bC X (V4 .Is) (es X.K (ζ.bZ .is)):=by
 rintro i s j H x y v u Q I a e ⟨G,c,d,h,f,g,hw⟩;have hw:aZ (ζ.nv c d) _ _:=hw;rcases yi f g a e hw with⟨rfl,q⟩|⟨b,rfl,q⟩
 .exact is_none_gen ⟨.ag _,H,I,rfl,q⟩
 .exact GR (Ac a) ⟨.ag _,H,I,rfl,q⟩
def Dg:bC X (V4 .IsNot) (es X.K (ζ.bZ .ki)):=by
 rintro i s j H x y v u Q I a e ⟨G,c,d,h,f,g,hw⟩;have hw:aZ (ζ.fq (ζ.nv c d)) _ _:=hw;rcases yi f g a e (vm.mp hw) with⟨rfl,q⟩|⟨b,rfl,q⟩
 .exact isnot_none_gen ⟨.ag _,H,I,rfl,q⟩
 .exact GZ (Ac a) ⟨.ag _,H,I,rfl,q⟩
end
section
variable{xp:bQ}{X:aq}{ae:List Nat}{m:dn}{a6 bL fc:aD->aY D}{a b c:VY}{pos:Xj}
def tH{d:D}(h:ζ.dY 0 d=J):∃i,d=.int i:=by
 cases d with
 |int i=>exact⟨i,rfl⟩
 |_=>cases h
theorem pN:∀{ds:List D},ds.all (ζ.dY 0)=J->∃ns:List Int,ds=ns.map ζ.D.int
 |[],_=>⟨[],rfl⟩
 |d::ds,h=>by
  simp only[WS,PB]at h;obtain⟨i,rfl⟩:=tH h.1;obtain⟨ns,rfl⟩:=pN h.2;exact⟨i::ns,rfl⟩
def yP{d:D}(h:ζ.dY 1 d=J):∃ns:List Int,d=.tup (ns.map ζ.D.int):=by
 cases d with
 |tup ds=>obtain⟨ns,rfl⟩:=pN h;exact⟨ns,rfl⟩
 |_=>cases h
theorem gK{K:W.Frag}:∀{ns:List Int}{xs:List V},aK K G (ns.map ζ.D.int) xs->xs=ns.map V.int
 |[],_,h=>h
 |n::ns,_,⟨v,r,e,d,h2⟩=>by
  subst e;have d:v=.int n:=d;rw[d,gK h2];rfl
theorem nE:∀a b:List Int,ζ.kl (a.map ζ.D.int) (b.map ζ.D.int)=Z (bM.lexLt a b)
 |[],[]=>rfl
 |[],_::_=>rfl
 |_::_,[]=>rfl
 |x::a,y::b=>by
  rw[show ζ.kl ((x::a).map ζ.D.int) ((y::b).map ζ.D.int)=if (x==y)=J then ζ.kl (a.map .int) (b.map .int) else Z (decide (x<y)) from rfl,nE a b];simp only[bM.lexLt]
  by_cases h:x=y<;>simp[h]
def Di(z:X.A.units+64<Wy):bC X (V4 .Lt) (es X.K (ζ.bZ .lt)):=by
 rintro h s p H x y v u Q I k l ⟨G,e,f,g,n,o,hw⟩;rw[ζ.wF]at hw;unfold ζ.pM at hw;cases q:((ζ.dY 0 e&&ζ.dY 0 f)||(ζ.dY 1 e&&ζ.dY 1 f)) with
 |false=>rw[q]at hw;exact hw.elim
 |true =>
  rw[q]at hw;simp only[QI]at hw;simp only[Rk,PB]at q;rcases q with⟨d,h2⟩|⟨d,h2⟩
  .obtain⟨i,rfl⟩:=tH d;obtain⟨j,rfl⟩:=tH h2;exact Jp h s p H x y v u Q I k l ⟨i,j,n,o,hw⟩
  .obtain⟨ns,rfl⟩:=yP d;obtain⟨r,rfl⟩:=yP h2;obtain⟨a,xs,e1,k1,t⟩:=n;obtain⟨b,ys,e2,k2,w⟩:=o;rw[gK t]at k1;rw[gK w]at k2;refine Jq ⋯ h s p H x y v u Q I k l ⟨a,b,ns,r,e1,e2,fI g k1,fI g k2,?_⟩;simp only[ζ.js,nE,ζ.tZ]at hw;exact hw
def Dh:bC X (V4 .LtE) (es X.K (ζ.bZ .le)):=by
 rintro f s k H x y v u Q I g h ⟨G,d,e,l,i,j,hw⟩;cases d<;>cases e<;>first|exact hw.elim|skip
 exact Jo f s k H x y v u Q I g h ⟨_,_,i,j,hw⟩
def Dc:bC X (V4 .GtE) (es X.K (ζ.bZ .ge)):=by
 rintro f s k H x y v u Q I g h ⟨G,d,e,l,i,j,hw⟩;cases d<;>cases e<;>first|exact hw.elim|skip
 exact Jm f s k H x y v u Q I g h ⟨_,_,i,j,hw⟩
def Dd:bC X (V4 .Gt) (es X.K (ζ.bZ .gt)):=by
 rintro f s k H x y v u Q I g h ⟨G,d,e,l,i,j,hw⟩;cases d<;>cases e<;>first|exact hw.elim|skip
 exact Jn f s k H x y v u Q I g h ⟨_,_,i,j,hw⟩
theorem bb.ag{K:W.Frag}{b:Bool}:bb K H d e m (.ag b) (.ag b):=by cases m<;>rfl
theorem bb.int{K:W.Frag}:bb K H d e m (.int i) (.int i):=by cases m<;>rfl
def bb.pW{K:W.Frag}{b:Bool}(h:bb K H d e m (.ag b) v):v=.ag b:=by cases m<;>exact h
def bb.lS{K:W.Frag}(h:bb K H d e m (.int i) v):v=.int i:=by cases m<;>exact h
def sA(o:ζ.iX)(a6 bL:aD->aY D):aD->aY D:=λd=>a6 d>>=λx=>bL d>>=λy=>ζ.bZ o x y>>=λk=>.ok (.ag k)
def kq{α:Type}:aY α->Bool
 |.exc _=>VC
 |_=>J
def y6{α:Type}{r:aY α}(h:kq r=J)(c):r≠.exc c:=λe=>by rw[e]at h;cases h
def jw{α:Type}{p:Prop}[Decidable p]{a b:aY α}(d:kq a=J)(e:kq b=J):kq (if p then a else b)=true:=by by_cases h:p<;>simp[h,d,e]
def tU(h:kq r=J):kq (ζ.fq r)=true:=by cases r<;>first|rfl|exact h
def I7(o):kq (ζ.tZ o)=true:=by cases o<;>rfl
def sv(o)(x y:D)(c):ζ.bZ o x y≠.exc c:=by
 refine y6 ?_ c;cases o with
 |eq=>exact jw rfl rfl
 |ne=>exact tU (jw rfl rfl)
 |lt=>exact jw (I7 _) rfl
 |mem=>cases y<;>first|rfl|exact jw rfl rfl
 |iI=>cases y<;>first|rfl|exact tU (jw rfl rfl)
 |is=>cases y<;>rfl
 |ki=>exact tU (by cases y<;>rfl)
 |gt=>cases x<;>cases y<;>rfl
 |le=>cases x<;>cases y<;>rfl
 |ge=>cases x<;>cases y<;>rfl
def jI{α:Type}{r:aY α}{Q:α->Prop}(h:aZ r Q E)(d:∀c,r≠.exc c):aZ r Q vs:=by
 cases r with
 |ok a=>exact h
 |exc c=>exact absurd rfl (d c)
 |bad=>exact h
def Bc{n:aN}(h:ax xp X ae m (sA o a6 bL) n H Q):n8 (es X.K (ζ.bZ o)) (ax xp X ae .view a6) (ax xp X ae .view bL) n H Q:=by
 obtain⟨G,l,j,hw⟩:=h;refine⟨G,l,j,aQ (aB.mp hw) (λg k v p u d s=>?_) λ_ q=>q⟩;refine⟨p,l,j.ext d,aQ (aB.mp k) (λi k2 w f r e t=>?_) λ_ q=>q.mono d.h⟩;refine⟨f,g,i,e.sub,View.ext e s,t,?_⟩;exact aQ (jI (aB.mp k2) (λc=>sv o g i c)) (λk q=>q (.ag k) f r (d.trans e) bb.ag) λ_ q=>q
def Ld(g:bC X (V4 op) (es X.K (ζ.bZ o)))(d:ai X a (ax xp X ae .view a6))(e:ai X b (ax xp X ae .view bL))(f:Xp op b=VC):
  ai X (.Compare a [op] [b] pos) (ax xp X ae m (sA o a6 bL)):=λi s j H Q I h=>JJ g d e f i s j H Q I (Bc h)
def eN(xp:bQ)(X:aq)(ae:List Nat)(f:aD->aY D):TT:=λh H Q =>
 ∃G e,cH X.K ae G H e h/\aZ (f e>>=ζ.ez) (λb=>∀g d,Ext G H g d->Q b d) (λc=>dy xp X c H)
def uX{g:aN}(h:eN xp X ae f g H Q):ax xp X ae .view f g H (λx e=>∃k,x=.ag k/\Q k e):=by
 obtain⟨G,l,j,hw⟩:=h;refine⟨G,l,j,aQ (aB.mp hw) (λd k v i e x r=>?_) λ_ q=>q⟩;cases d with
 |ag b=>exact⟨b,bb.pW r,k i e x⟩
 |_=>exact k.elim
def Lg(g:bC X (V4 op) (es X.K (ζ.bZ o)))(d:ai X a (ax xp X ae .view a6))(e:ai X b (ax xp X ae .view bL))(f:Xp op b=VC):
  cG X (.Compare a [op] [b] pos) (eN xp X ae (sA o a6 bL)):=λi s j H Q I h=>Km g d e f i s j H Q I (Bc (uX h))
def iR(h:ai X a (ax xp X ae .view f))(e:∀d,Y7 a X.env d=(do let v <- d;standAt a.pos;X8 [v] (truthy v))):cG X a (eN xp X ae f):=λg s i H Q I hw=>Ko h e g s i H Q I (uX hw)
def vL(a6 bL:aD->aY D):aD->aY D:=λd=>a6 d>>=λx=>ζ.ez x>>=λk=>if k then bL d else .ok (.ag VC)
def zl(a6 bL:aD->aY D):aD->aY D:=λd=>a6 d>>=λx=>ζ.ez x>>=λk=>if k then .ok (.ag J) else bL d
def zd(a6:aD->aY D):aD->aY D:=λd=>a6 d>>=λx=>ζ.ez x>>=λk=>.ok (.ag (!k))
def bb.back{K:W.Frag}(s:aE H g)(h:bb K g e f m d v):bb K H e f m d v:=bb.old s h
def Ar{rest:List VY}(o:ai X a (ax xp X ae .view a6))(p:ai X (.BoolOp .And (b::rest) pos) (ax xp X ae m bL)):ai X (.BoolOp .And (a::b::rest) pos) (ax xp X ae m (vL a6 bL)):=by
 rintro r s y H Q I ⟨G,h,g,hw⟩;refine t6 o p r s y H Q I ?_;refine⟨G,h,g,aQ (aB.mp hw) (λn k v f j e t=>?_) λ_ q=>q⟩;cases n with
 |ag b =>
  refine⟨b,bb.pW t,?_⟩;cases b with
  |true =>
   simp only[QI];exact⟨f,h,g.ext e,aQ k (λd q w i l x u=>q w i l (e.trans x) (bb.back e.h u)) λ_ q=>q.mono e.h⟩
  |false =>
   simp only[PD,PZ];exact k (.ag VC) f j e bb.ag
 |_=>exact k.elim
def Ay{rest:List VY}(o:ai X a (ax xp X ae .view a6))(p:ai X (.BoolOp .Or (b::rest) pos) (ax xp X ae m bL)):ai X (.BoolOp .Or (a::b::rest) pos) (ax xp X ae m (zl a6 bL)):=by
 rintro r s y H Q I ⟨G,h,g,hw⟩;refine JR o p r s y H Q I ?_;refine⟨G,h,g,aQ (aB.mp hw) (λn k v f j e t=>?_) λ_ q=>q⟩;cases n with
 |ag b =>
  refine⟨b,bb.pW t,?_⟩;cases b with
  |false =>
   simp only[PD,PZ];exact⟨f,h,g.ext e,aQ k (λd q w i l x u=>q w i l (e.trans x) (bb.back e.h u)) λ_ q=>q.mono e.h⟩
  |true =>
   simp only[QI];exact k (.ag J) f j e bb.ag
 |_=>exact k.elim
def LH(g:ai X a (ax xp X ae .view a6)):ai X (.UnaryOp .Not a pos) (ax xp X ae m (zd a6)):=by
 rintro i s o H Q I ⟨G,n,h,hw⟩;refine zA g i s o H Q I ?_;refine⟨G,n,h,aQ (aB.mp hw) (λf k v d e l j=>?_) λ_ q=>q⟩;cases f with
 |ag b=>exact⟨b,bb.pW j,k (.ag (!b)) d e l bb.ag⟩
 |_=>exact k.elim
def As{rest:List VY}(n:cG X a (eN xp X ae a6))(o:gb X (.BoolOp .And (b::rest) pos) (eN xp X ae bL)):gb X (.BoolOp .And (a::b::rest) pos) (eN xp X ae (vL a6 bL)):=by
 rintro r p s u H Q I ⟨G,h,g,hw⟩;refine Kp n o r p s u H Q I ?_;refine⟨G,h,g,?_⟩;refine aB.mpr (aQ (aB.mp (aB.mp hw)) (λv k=>aQ (aB.mp k) (λb k2 f j e=>?_) λ_ q=>q) λ_ q=>q);cases b with
 |true =>
  simp only[QI]at k2 ⊢;exact⟨f,h,g.ext e,aQ (aB.mpr k2) (λd q i l t=>q i l (e.trans t)) λ_ q=>q.mono e.h⟩
 |false =>
  simp only[PD,PZ]at k2 ⊢;exact k2 f j e
def Az{rest:List VY}(n:cG X a (eN xp X ae a6))(o:gb X (.BoolOp .Or (b::rest) pos) (eN xp X ae bL)):gb X (.BoolOp .Or (a::b::rest) pos) (eN xp X ae (zl a6 bL)):=by
 rintro r p s u H Q I ⟨G,h,g,hw⟩;refine Ks n o r p s u H Q I ?_;refine⟨G,h,g,?_⟩;refine aB.mpr (aQ (aB.mp (aB.mp hw)) (λv k=>aQ (aB.mp k) (λb k2 f j e=>?_) λ_ q=>q) λ_ q=>q);cases b with
 |false =>
  simp only[PD,PZ]at k2 ⊢;exact⟨f,h,g.ext e,aQ (aB.mpr k2) (λd q i l t=>q i l (e.trans t)) λ_ q=>q.mono e.h⟩
 |true =>
  simp only[QI]at k2 ⊢;exact k2 f j e
def LI(f:cG X a (eN xp X ae a6)):cG X (.UnaryOp .Not a pos) (eN xp X ae (zd a6)):=by
 rintro h s l H Q I ⟨G,j,g,hw⟩;refine Kn f h s l H Q I ?_;refine⟨G,j,g,?_⟩;exact aB.mpr (aQ (aB.mp (aB.mp hw)) (λn k=>aQ (aB.mp k) (λb k2 d e i=>k2 d e i) λ_ q=>q) λ_ q=>q)
def sx(o f:ζ.iX)(a6 bL fc:aD->aY D):aD->aY D:=λd=>a6 d>>=λx=>bL d>>=λy=>ζ.bZ o x y>>=λk=>if k then fc d>>=λz=>ζ.bZ f y z>>=λe=>.ok (.ag e) else .ok (.ag VC)
def Bd{u:aN}(h:ax xp X ae m (sx o s a6 bL fc) u H Q):uS (es X.K (ζ.bZ o)) (es X.K (ζ.bZ s)) (ax xp X ae .view a6) (ax xp X ae .view bL) (ax xp X ae .view fc) u H Q:=by
 obtain⟨G,l,i,hw⟩:=h;refine⟨G,l,i,aQ (aB.mp hw) (λp k v w C d A=>?_) λ_ q=>q⟩;refine⟨w,l,i.ext d,aQ (aB.mp k) (λf k2 E g x e t=>?_) λ_ q=>q.mono d.h⟩;refine⟨g,p,f,e.sub,View.ext e A,t,?_⟩;refine aQ (jI (aB.mp k2) (λc=>sv o p f c)) (λk q=>?_) λ_ q=>q
 refine⟨k,rfl,?_⟩;cases k with
 |false =>
  simp only[PD,PZ]at q ⊢;exact q (.ag VC) g x (d.trans e) bb.ag
 |true =>
  simp only[QI]at q ⊢;refine⟨g,l,(i.ext d).ext e,aQ (aB.mp q) (λr k3 I n y j B=>?_) λ_ z=>(z.mono d.h).mono e.h⟩;refine⟨n,f,r,j.sub,View.ext j t,B,?_⟩;exact aQ (jI (aB.mp k3) (λc=>sv s f r c)) (λk q=>q (.ag k) n y ((d.trans e).trans j) bb.ag) λ_ q=>q
def Le(i:bC X (V4 op) (es X.K (ζ.bZ o)))(j:bC X (V4 op') (es X.K (ζ.bZ k)))(d:ai X a (ax xp X ae .view a6))(e:ai X b (ax xp X ae .view bL))(f:ai X c (ax xp X ae .view fc))(g:YR [op,op'] [b,c]=VC):
  ai X (.Compare a [op,op'] [b,c] pos) (ax xp X ae m (sx o k a6 bL fc)):=λl s n H Q I h=>JI i j d e f g l s n H Q I (Bd h)
def Lf(i:bC X (V4 op) (es X.K (ζ.bZ o)))(j:bC X (V4 op') (es X.K (ζ.bZ k)))(d:ai X a (ax xp X ae .view a6))(e:ai X b (ax xp X ae .view bL))(f:ai X c (ax xp X ae .view fc))(g:YR [op,op'] [b,c]=VC):
  cG X (.Compare a [op,op'] [b,c] pos) (eN xp X ae (sx o k a6 bL fc)):=λl s n H Q I h=>Kl i j d e f g l s n H Q I (Bd (uX h))
end
section
variable{xp:bQ}{X:aq}{ae:List Nat}{m:dn}{a6 bL fc:aD->aY D}{a b c:VY}{pos:Xj}{pins:List (VO×WW)}{σ:aN}{G H:ah}{s:VI}
def y4(I:Inv X pins σ H s)(f:aE G H)(r:Vals xs its)(q:aK X.K G ds xs)(hz:xs.length<=V2)(k:∀v d e,Ext G H d e->Rep X.K d (.tup ds) v->Q v e):cX X pins σ Q (.ref s.heap.objs.size) { s with heap:=s.heap.push { cls:=.type "tuple",data:=.seq its.toArray } }:=by
 refine⟨.ref s.heap.objs.size,_,I.laid (t':=s.toks) (o:=.tup xs) (λb g q=>PC _ q) (PE _) ⟨hz,its,r,IsTup.new _ _⟩,rfl,?_⟩;exact k _ (upd G s.heap.objs.size (.tup xs)) _ (Ext.put f I.fresh) ⟨_,xs,rfl,b4,q.mono (d8 (f.free I.fresh))⟩
def y3(I:Inv X pins σ H s)(f:aE G H)(r:Vals xs its)(q:aK X.K G ds xs)(hz:xs.length<=V2)(k:∀v e d,Ext G H e d->bb X.K H e d .fresh (.lst ds) v->Q v d):cX X pins σ Q (.ref s.heap.objs.size) { s with heap:=s.heap.push { cls:=.type "list",data:=.seq its.toArray } }:=by
 refine⟨.ref s.heap.objs.size,_,I.yK (t':=s.toks) r hz,rfl,?_⟩;exact k _ G _ (Ext.own f I.fresh λ_ z=>nomatch z) ⟨_,xs,rfl,b4,I.fresh,f.free I.fresh,q⟩
def hE{ds:List D}(h:View X.K G H (.lst ds) v):∃a xs,v=.ref a/\b8 X.K H a xs/\aK X.K G ds xs:=h
def iU(d:aE G H){ds:List D}(h:View X.K G H (.tup ds) v):∃a xs,v=.ref a/\dT X.K H a xs/\aK X.K G ds xs:=by
 obtain⟨a,xs,e,k,r⟩:=h;exact⟨a,xs,e,fI d k,r⟩
def mF:ζ.SZ=sizeLine:=by rw[V3];rfl
def D7:bC X (Wv .Add) (hu X.K (ζ.bK .add)):=by
 rintro pins s σ H x y v u Q I N O ⟨G,a3,A,e,C,E,hw⟩;cases a3 with
 |int i =>
  cases A with
  |int j=>exact zg pins s σ H x y v u Q I N O ⟨_,_,C,E,hQ e hw rfl⟩
  |_=>exact hw.elim
 |tup ds =>
  cases A with
  |tup B =>
   rw[ζ.oH]at hw
   by_cases h:ds.length+B.length<=ζ.SZ
   .rw[if_pos h]at hw;obtain⟨l,xs,rfl,k1,f⟩:=iU e C;obtain⟨b,ys,rfl,k2,g⟩:=iU e E;cases N;cases O;obtain⟨its,k,p1,_⟩:=I.tuple k1;obtain⟨w,o,p2,_⟩:=I.tuple k2;have hz:xs.length+ys.length<=sizeLine:=by rw[<- f.length,<- g.length,<- mF];exact h
    by_cases e0:its=[]
    .-- b2 left b1 aA av
     subst e0;have:ds=[]:=by
      have d:=f.length;have h2:=k.length;simp at h2;rw[h2]at d;simp at d;exact d
     subst this;obtain⟨⟨a0,dd,a2,R⟩,T,p,n,r⟩:=id p1;obtain⟨⟨a1,L,data2,S⟩,U,q,M,t⟩:=id p2;simp only at p r q t;subst p r q t;refine UX ⟨_,T,rfl⟩ ⟨_,U,rfl⟩ UL Vn Tj Te (S6 _ _)
      (tuple_addW0 l b _ w.toArray n M dd L R S rfl) ⟨T,U,?_⟩
     exact⟨.ref b,H,I,rfl,hw _ G H (Ext.refl e) E⟩
    .refine bM.Dn p1 p2 e0 (λz=>?_) (λz=>?_) (by rw[<- k.length,<- o.length];exact hz)
     .have:B=[]:=by
       have d:=g.length;have h2:=o.length;rw[z]at h2;simp at h2;rw[h2]at d;simp at d;exact d
      subst this;rw[QB]at hw;exact⟨.ref l,H,I,rfl,hw _ G H (Ext.refl e) C⟩
     .exact y4 I e (k.append o) (f.append g) (by rw[PI];exact hz) hw
   .rw[if_neg h]at hw;exact hw.elim
  |_=>exact hw.elim
 |lst ds =>
  cases A with
  |lst B =>
   rw[ζ.jV]at hw
   by_cases h:ds.length+B.length<=ζ.SZ
   .rw[if_pos h]at hw;obtain⟨l,xs,rfl,k1,f⟩:=hE C;obtain⟨b,ys,rfl,k2,g⟩:=hE E;cases N;cases O;obtain⟨its,k,⟨a5,n,e1,p,ay,r⟩,_⟩:=I.list k1;obtain⟨w,o,⟨au,M,e2,q,az,t⟩,_⟩:=I.list k2;have hz:xs.length+ys.length<=sizeLine:=(by rw[<- f.length,<- g.length,<- mF];exact h);obtain⟨a0,dd,a2,R⟩:=a5;obtain⟨a1,L,data2,S⟩:=au;simp only at p r q t;subst p r q t;refine UX ⟨_,e1,rfl⟩ ⟨_,e2,rfl⟩ noFill_list_add seq_list_add F.slot_list_add F.entry_list_add (F.args_list_add_2 _ _)
     (list_addW l b its.toArray w.toArray n M dd L R S (by rw[PT,PT,<- k.length,<- o.length];exact hz)) ⟨e1,e2,?_⟩
    have a4:its.toArray++w.toArray=(its++w).toArray:=(by simp);rw[a4];exact y3 I e (k.append o) (f.append g) (by rw[PI];exact hz) hw
   .rw[if_neg h]at hw;exact hw.elim
  |_=>exact hw.elim
 |_=>cases A<;>exact hw.elim
end
end aF
end
section
namespace aF
open PySem PySem.Spec PyProof.Rows aH PySem.MeetsSeq
section
variable{xp:bQ}{X:aq}{ae:List Nat}{m:dn}{a6 bL fc:aD->aY D}{a b c:VY}{pos:Xj}{pins:List (VO×WW)}{σ:aN}{G H:ah}{s:VI}
theorem aK.rep{K:W.Frag}(h:aK K G ds xs):∀k:Nat,aK K G (V0 k ds).flatten (V0 k xs).flatten
 |0=>by simp[aK]
 |k+1=>by rw[Rx,Rx,R9,R9];exact h.append (aK.rep h k)
def Ed:bC X (Wv .Mult) (hu X.K (ζ.bK .mul)):=by
 rintro pins s σ H x y v u Q I A B ⟨G,L,f,w,E,e,hw⟩;cases L with
 |int i =>
  cases f with
  |int j =>
   rw[ζ.mul_int]at hw
   by_cases h:(-ζ.dk<i/\i<ζ.dk)\/(-ζ.dk<j/\j<ζ.dk)
   .rw[if_pos h]at hw;exact Js pins s σ H x y v u Q I A B ⟨_,_,E,e,h,hQ w hw rfl⟩
   .rw[if_neg h]at hw;exact hw.elim
  |_=>exact hw.elim
 |lst ds =>
  cases f with
  |int j =>
   have hw:aZ (if 0<=j/\j<=1000/\ds.length<=1000 then ζ.R.ok (ζ.D.lst (V0 j.toNat ds).flatten) else .bad) _ _:=hw
   by_cases h:0<=j/\j<=1000/\ds.length<=1000
   .rw[if_pos h]at hw;obtain⟨h0,a3,h2⟩:=h;obtain⟨l,xs,rfl,k1,z⟩:=hE E;cases A;have e:y=.int j:=e;subst e;obtain⟨t,rfl⟩:=B;obtain⟨its,g,⟨⟨a1,dd,a2,C⟩,n,d,p,_,q⟩,_⟩:=I.list k1;simp only at p q;subst p q;have R:its.length=ds.length:=(by rw[<- g.length,<- z.length]);have r:its.toArray.size*j.toNat<=sizeLine:=by
     rw[PT,R,V3];exact PW (Nat.mul_le_mul h2 (show j.toNat<=1000 by lia)) ∅
    have N:¬its.toArray.size*j.toNat>(2 ^ 63-1) / 8:=by
     have:(V2:Nat)<=(2 ^ 63-1) / 8:=∅;lia
    have O:¬(!Builtin.List.listFitsIndex j)=true:=by
     rw[fitsIndex_both ⋯ ⋯];exact QL
    have S:¬W0 (its.toArray.size*j.toNat)=true:=by
     rw[za r];exact QL
    have a0:Z6 (λk o=>k++o) #[] (V0 (if its.toArray.isEmpty=J then 0 else j.toNat) its.toArray)=(V0 j.toNat its).flatten.toArray:=by
     have M:∀m:Nat,Z6 (λk o=>k++o) #[] (V0 m its.toArray)=(V0 m its).flatten.toArray:=λm=>by
      have:=foldl_rep its m [];rw[W4]at this;exact this
     rw[M];cases its with
     |nil=>simp
     |cons _ _=>rfl
    refine wpAny_binaryOp_repeat_ref (T:="list") (U:="int") ∅ ⟨_,d,rfl⟩ (λs'=>typeIs_int s' j t) noFill_list_mul F.fills_int_mul F.slot_int_rmul repeat_list F.slot_int_index.lookup
     (UY F.slot_int_rmul (typeIs_int s j t) F.entry_int_rmul (F.args_int_rmul_2 _ _) (lm_int_rmul_list_any j t l its.toArray n dd C)
      ⟨d,rfl,⟨_,d,rfl⟩,UY F.slot_list_mul ⟨_,d,rfl⟩ F.entry_list_mul (F.args_list_mul_2 _ _) (lm_list_mul_any l its.toArray n dd C j t O N S) ⟨d,?_⟩⟩)
    rw[a0];exact y3 I w (g.rep j.toNat) (z.rep j.toNat) (by rw[len_rep,Nat.mul_comm,g.length];simpa using r) hw
   .rw[if_neg h]at hw;exact hw.elim
  |_=>exact hw.elim
 |_=>cases f<;>exact hw.elim
end
end aF
end
section
namespace aF
open PySem PySem.Spec PyProof.Rows aH
section
variable{xp:bQ}{X:aq}{ae:List Nat}{m:dn}{f a6 bL fc:aD->aY D}{bD:aD->aY (List D)}{a b c e:VY}{aw:List VY}{pos:Xj}{pins:List (VO×WW)}{σ:aN}{G H:ah}{s:VI}
def Ax(l:ai X a (ax xp X ae .view a6)):ai X (.UnaryOp .USub a pos) (ax xp X ae m λd=>a6 d>>=λx=>ζ.dB x>>=λi=>.ok (.int (-i))):=by
 rintro pins s σ H Q I ⟨G,d,n,hw⟩;refine JU Oq l pins s σ H Q I ?_;refine⟨G,d,n,aQ (aB.mp hw) (λj k v g h p o=>?_) λ_ q=>q⟩;cases j with
 |int i=>exact⟨i,bb.lS o,k (.int (-i)) g h p bb.int⟩
 |_=>exact k.elim
def jD(xp:bQ)(X:aq)(ae:List Nat)(f:aD->aY (List D)):dU:=λσ H Q =>
 ∃G i,cH X.K ae G H i σ/\aZ (f i) (λds=>∀h d g,Ext G H d g->aK X.K d ds h->Q h g) (λc=>dy xp X c H)
def LF:dS X [] (jD xp X ae λ_=>.ok []):=by
 rintro p pins s σ H Q I ⟨G,g,d,hw⟩;exact ku p pins s σ H Q I (hw [] G H (Ext.refl d.sub) rfl)
def Lh(r:ai X e (ax xp X ae .val f))(t:dS X aw (jD xp X ae bD))(u:VX (e::aw) X.env=(VC,Wu e X.env)::VX aw X.env):dS X (e::aw) (jD xp X ae λd=>f d>>=λx=>bD d>>=λxs=>.ok (x::xs)):=by
 rintro p pins s σ H Q I ⟨G,d,h,hw⟩;refine hs r t u p pins s σ H Q I ?_;refine⟨G,d,h,aQ (aB.mp hw) (λA k v l z g w=>?_) λ_ q=>q⟩;refine⟨l,d,h.ext g,aQ (aB.mp k) (λds k2 i n o j y=>?_) λ_ q=>q.mono g.h⟩;exact k2 (v::i) n o (g.trans j) ⟨v,i,rfl,Rep.mono j.g w,y⟩
def LY(h:dS X aw (jD xp X ae bD))(o:∀d ds,bD d=.ok ds->ds.length<=V2):ai X (.Tuple aw j pos) (ax xp X ae .val λd=>bD d>>=λds=>.ok (.tup ds)):=by
 rintro pins s σ H Q I ⟨G,d,r,hw⟩;refine JT h pins s σ H Q I ?_;refine⟨G,d,r,?_⟩;have hw:=aB.mp hw;cases q:bD d with
 |ok ds =>
  rw[q]at hw;intro l n t g k;refine⟨by rw[<- k.length];exact o d ds q,λp i=>?_⟩;exact hw (.ref p) (upd n p (.tup l)) _ (g.trans (Ext.put g.sub i)) ⟨p,l,rfl,b4,k.mono (d8 (g.sub.free i))⟩
 |exc c=>rw[q]at hw;exact hw
 |bad=>rw[q]at hw;exact hw
def LC(h:dS X aw (jD xp X ae bD))(l:∀d ds,bD d=.ok ds->ds.length<=V2):ai X (.List aw pos) (ax xp X ae .fresh λd=>bD d>>=λds=>.ok (.lst ds)):=by
 rintro pins s σ H Q I ⟨G,d,n,hw⟩;refine zy h pins s σ H Q I ?_;refine⟨G,d,n,?_⟩;have hw:=aB.mp hw;cases q:bD d with
 |ok ds =>
  rw[q]at hw;intro o k r g j;refine⟨by rw[<- j.length];exact l d ds q,λp i=>?_⟩;exact hw (.ref p) k _ (g.trans (Ext.own g.sub i λ_ z=>nomatch z)) ⟨p,o,rfl,b4,g.h.free i,g.sub.free i,j⟩
 |exc c=>rw[q]at hw;exact hw
 |bad=>rw[q]at hw;exact hw
def G5(n)(i):ζ.gG n i=aH.gG n i:=by
 unfold ζ.gG aH.gG
 by_cases h:0<=i
 .rw[if_pos h,if_pos h]
 .rw[if_neg h,if_neg h]
  by_cases q:0<=i+(n:Int)
  .rw[if_pos q,if_pos ⋯]
  .rw[if_neg q,if_neg ⋯]
def xT{K:W.Frag}(r:aK K G ds xs)(h:ζ.hS ds i=Z d):∃v,jY xs i=Z v/\Rep K G d v:=by
 unfold ζ.hS at h;rw[G5,r.length]at h;unfold jY;cases q:aH.gG xs.length i with
 |none=>rw[q]at h;cases h
 |some j =>
  rw[q]at h;obtain⟨v,e,z⟩:=r.get (i:=j) h;exact⟨v,e,z⟩
def Lw(E:ai X a (ax xp X ae .view a6))(L:ai X b (ax xp X ae .view bL))(M:q8 b):ai X (.Subscript a b pos) (ax xp X ae .val λg=>a6 g>>=λx=>bL g>>=λy=>ζ.fU x y):=by
 rintro pins s σ H Q I ⟨G,g,z,hw⟩;refine JP Ha E L M pins s σ H Q I ?_;refine⟨G,g,z,aQ (aB.mp hw) (λC k v B N j h=>?_) λ_ q=>q⟩;refine⟨B,g,z.ext j,aQ (aB.mp k) (λo k2 O t u n A=>?_) λ_ q=>q.mono j.h⟩;have h:=View.ext n h;cases C with
 |lst ds =>
  cases o with
  |int i =>
   simp only[ζ.yb]at k2;cases q:ζ.hS ds i with
   |none=>rw[q]at k2;exact k2.elim
   |some d =>
    rw[q]at k2;obtain⟨l,xs,rfl,e,r⟩:=hE h;obtain⟨w,e2,p⟩:=xT r q;exact .inl ⟨l,xs,i,w,rfl,A,e,e2,k2 w t u (j.trans n) p⟩
  |_=>exact k2.elim
 |tup ds =>
  cases o with
  |int i =>
   simp only[ζ.yc]at k2;cases q:ζ.hS ds i with
   |none=>rw[q]at k2;exact k2.elim
   |some d =>
    rw[q]at k2;obtain⟨l,xs,rfl,e,r⟩:=iU n.sub h;obtain⟨w,e2,p⟩:=xT r q;exact .inr (.inl ⟨l,xs,i,w,rfl,A,e,e2,k2 w t u (j.trans n) p⟩)
  |_=>exact k2.elim
 |_=>cases o<;>exact k2.elim
def iP(K:W.Frag)(m:dn)(g:D->aY D):List V->ah->cj->Prop:=λxs H Q=>∃G x d,xs=[x]/\aE G H/\View K G H d x/\aZ (g d) (λd'=>∀v i h,Ext G H i h->bb K H i h m d' v->Q v h) (λ_=>False)
def gn(d:ai X e h)(g:VX [e] X.env=[(VC,Wu e X.env)]):dS X [e] (qy h uV):=hs d ku g
def qj{id:String}(y:∀d c,g d≠.exc c)(u:eu X (.builtin id) (iP X.K m g))(z:cn X x)(A:X.ak x=Y)(E:Wt x=Z (.builtin id))(t:ai X e (ax xp X ae .view f))(B:x≠"__name__")(w:(x==("__debug__":VT))=VC)(l:VX [e] X.env=[(VC,Wu e X.env)]):ai X (.Call (.Name x p) [e] [] pos) (ax xp X ae m λi=>f i>>=λd=>g d):=by
 rintro pins s σ H Q I ⟨G,i,C,hw⟩;refine nR u z A E (gn t l) B w l rfl pins s σ H Q I ?_;refine⟨G,i,C,aQ (aB.mp hw) (λj k v n R h L=>?_) λ_ q=>q⟩;refine⟨n,v,j,rfl,h.sub,L,?_⟩;exact aQ (jI k (y j)) (λd q N o r O M=>q N o r (h.trans O) (M.old h.h)) λ_ q=>q
def ux(y:∀d c,g d≠.exc c)(u:eu X (.type T) (iP X.K m g))(z:cn X x)(A:X.ak x=Y)(E:Wt x=Z (.type T))(t:ai X e (ax xp X ae .view f))(B:x≠"__name__")(w:(x==("__debug__":VT))=VC)(l:VX [e] X.env=[(VC,Wu e X.env)]):ai X (.Call (.Name x p) [e] [] pos) (ax xp X ae m λi=>f i>>=λd=>g d):=by
 rintro pins s σ H Q I ⟨G,i,C,hw⟩;refine JH u z A E (gn t l) B w l rfl pins s σ H Q I ?_;refine⟨G,i,C,aQ (aB.mp hw) (λj k v n R h L=>?_) λ_ q=>q⟩;refine⟨n,v,j,rfl,h.sub,L,?_⟩;exact aQ (jI k (y j)) (λd q N o r O M=>q N o r (h.trans O) (M.old h.h)) λ_ q=>q
def f_len:eu X (.builtin "len") (iP X.K m ζ.iF):=by
 rintro pins s σ H xs h Q I r ⟨G,x,d,j,g,i,hw⟩;subst j;cases d with
 |tup ds =>
  obtain⟨a,ys,rfl,k,q⟩:=iU g i;refine we pins s σ H _ h Q I r ⟨a,ys,rfl,.inr k,?_⟩;rw[<- q.length];exact hw _ G H (Ext.refl g) bb.int
 |lst ds =>
  obtain⟨a,ys,rfl,k,q⟩:=hE i;refine we pins s σ H _ h Q I r ⟨a,ys,rfl,.inl k,?_⟩;rw[<- q.length];exact hw _ G H (Ext.refl g) bb.int
 |_=>exact hw.elim
def f_list:eu X (.type "list") (iP X.K .fresh λd=>ζ.cD d>>=λds=>.ok (.lst ds)):=by
 rintro pins s σ H xs i Q I r ⟨G,x,d,n,h,j,hw⟩;subst n;cases d with
 |tup ds =>
  obtain⟨a,ys,rfl,k,q⟩:=iU h j;exact wg pins s σ H _ i Q I r ⟨a,ys,rfl,.inr k,λl g=>hw _ G _ (Ext.own h g λ_ z=>nomatch z) ⟨l,ys,rfl,b4,g,h.free g,q⟩⟩
 |lst ds =>
  obtain⟨a,ys,rfl,k,q⟩:=hE j;exact wg pins s σ H _ i Q I r ⟨a,ys,rfl,.inl k,λl g=>hw _ G _ (Ext.own h g λ_ z=>nomatch z) ⟨l,ys,rfl,b4,g,h.free g,q⟩⟩
 |_=>exact hw.elim
def FH:eu X (.type "tuple") (iP X.K .val λd=>ζ.cD d>>=λds=>.ok (.tup ds)):=by
 rintro pins s σ H xs j Q I r ⟨G,x,d,n,g,h,hw⟩;subst n;cases d with
 |tup ds =>
  obtain⟨a,ys,rfl,k,q⟩:=iU g h;exact wi pins s σ H _ j Q I r ⟨a,ys,rfl,.inr ⟨k,hw _ G H (Ext.refl g) h⟩⟩
 |lst ds =>
  obtain⟨a,ys,rfl,k,q⟩:=hE h;exact wi pins s σ H _ j Q I r ⟨a,ys,rfl,.inl ⟨k,λl i=>hw _ (upd G l (.tup ys)) _ (Ext.put g i) ⟨l,ys,rfl,b4,q.mono (d8 (g.free i))⟩⟩⟩
 |_=>exact hw.elim
end
def uj{c:aN}(I:Inv X d c H s)(h:(∃ys,eS H a (.b5 ys))\/∃ys,eS H a (.ck ys)):∃o,s.heap.get? a=Z o/\o.cls=.type "dict":=by
 rcases h with⟨ys,h|⟨b,h⟩⟩|⟨ys,h|⟨b,h⟩⟩
 .obtain⟨_,_,_,_,o,_,_,e,x,_⟩:=(show bX X.prog X.w H s.heap a (.b5 ys) from I.aG a _ h);exact⟨o,e,x.1⟩
 .obtain⟨_,_,_,_,_,o,_,_,e,x,_⟩:=(show bX X.prog X.w H s.heap a (.cv b (.b5 ys)) from I.aG a _ h);exact⟨o,e,x.1⟩
 .obtain⟨_,_,_,_,o,_,_,e,x,_⟩:=(show bX X.prog X.w H s.heap a (.ck ys) from I.aG a _ h);exact⟨o,e,x.1⟩
 .obtain⟨_,_,_,_,_,o,_,_,e,x,_⟩:=(show bX X.prog X.w H s.heap a (.cv b (.ck ys)) from I.aG a _ h);exact⟨o,e,x.1⟩
section
variable{xp:bQ}{X:aq}{ae:List Nat}{m:dn}{f a6 bL fc:aD->aY D}{bD:aD->aY (List D)}{a b c e:VY}{aw:List VY}{pos:Xj}{pins:List (VO×WW)}{σ:aN}{G H:ah}{s:VI}
abbrev Ol:D->String
 |.aW=>"NoneType"
 |.ag _=>"bool"
 |.int _=>"int"
 |.str _=>"str"
 |.tup _=>"tuple"
 |.lst _=>"list"
 |.aI _=>"dict"
 |.aO _=>"dict"
 |.d4 _=>""
abbrev mm:ζ.Ty->String
 |.int=>"int"|.bool=>"bool"|.str=>"str"|.tuple=>"tuple"|.cls _=>""
def Hx(K)(up)(d:D)(t)(h:∀c,t≠.cls c)(g:∀c,d≠.d4 c):∃b,ζ.hn up d t=.ok b/\PySem.W.kitOne K (.type (Ol d)) (.type (mm t))=Z b:=by
 cases t with
 |cls c=>exact absurd rfl (h c)
 |int=>cases d<;>first|exact absurd rfl (g _)|exact⟨_,rfl,by kernel_rfl⟩
 |bool=>cases d<;>first|exact absurd rfl (g _)|exact⟨_,rfl,by kernel_rfl⟩
 |str=>cases d<;>first|exact absurd rfl (g _)|exact⟨_,rfl,by kernel_rfl⟩
 |tuple=>cases d<;>first|exact absurd rfl (g _)|exact⟨_,rfl,by kernel_rfl⟩
def OY(I:Inv X pins σ H s)(r:aE G H)(v:∀c,t≠.cls c)(g:View X.K G H d x)(j:RelV x u)(hw:aZ (ζ.hn up d t) (λb=>Q (.ag b) H) (λ_=>False)):
  VJ (VM X.prog X.w) X.A (call (.builtin "isinstance") [u,.type (mm t)]) (cX X pins σ Q) X.bl s:=by
 have p:∀c,d≠.d4 c:=λc e=>by subst e;exact g.elim
 obtain⟨b,e1,e2⟩:=Hx X.K up d t v p;rw[e1]at hw;have fin:∀tk,cX X pins σ Q (.bool b) { s with toks:=tk }:=λtk=>⟨.ag b,H,I.tok tk,rfl,hw⟩
 cases d with
 |aW=>cases g;exact pF I j .aW e2 fin
 |ag y=>cases g;exact pF I j (.ag y) e2 fin
 |int i=>cases g;exact pF I j (.int i) e2 fin
 |str y=>cases g;exact pF I j (.str y) e2 fin
 |tup ds =>
  obtain⟨a,ys,rfl,k,q⟩:=iU r g;cases j;obtain⟨its,A,⟨o,l,h2,_⟩,hz⟩:=I.tuple k;exact QA Vt I.d5 ⟨o,l,h2⟩ e2 (λz=>nomatch z) fin
 |lst ds =>
  obtain⟨a,ys,rfl,k,q⟩:=hE g;cases j;obtain⟨its,A,⟨o,n,l,h2,_⟩,z⟩:=I.list k;exact QA Uu I.d5 ⟨o,l,h2⟩ e2 (λz=>nomatch z) fin
 |aI w =>
  obtain⟨a,rfl,h⟩:=g;cases j;obtain⟨o,l,h2⟩:=uj I (.inr ⟨_,h⟩);exact QA Ti I.d5 ⟨o,l,h2⟩ e2 (λz=>nomatch z) fin
 |aO w =>
  obtain⟨a,ys,rfl,h,_⟩:=g;cases j;obtain⟨o,l,h2⟩:=uj I (.inl ⟨_,h⟩);exact QA Ti I.d5 ⟨o,l,h2⟩ e2 (λz=>nomatch z) fin
 |d4 c=>exact absurd rfl (p c)
def GH{d:D}{c:Nat}:ζ.hn up d t≠.exc c:=by
 intro h;cases t<;>first|(cases h;done)|skip
 cases d<;>cases h
def Lz(U:∀c,t≠.cls c)(L:cn X x)(N:X.ak x=Y)(a0:Wt x=Z (.builtin "isinstance"))(M:cn X y)(O:X.ak y=Y)(a1:Wt y=Z (.type (mm t)))(A:ai X e (ax xp X ae .view f))(R:x≠"__name__")(C:(x==("__debug__":VT))=VC)(S:y≠"__name__")(E:(y==("__debug__":VT))=VC)(l:VX [e,.Name y h] X.env=(VC,Wu e X.env)::VX [.Name y h] X.env):
  ai X (.Call (.Name x p) [e,.Name y h] [] pos) (ax xp X ae m λi=>f i>>=λd=>ζ.hn up d t>>=λb=>.ok (.ag b)):=by
 rintro pins s σ H Q I ⟨G,i,g,hw⟩;have B:eu X (.builtin "isinstance") (λxs H Q=>∃G x d,xs=[x,.ty (mm t)]/\aE G H/\View X.K G H d x/\aZ (ζ.hn up d t) (λb=>Q (.ag b) H) (λ_=>False)):=by
  rintro pins s σ H xs av Q I r ⟨G,x,d,z,g,a5,hw⟩;subst z;obtain⟨u,au,rfl,a3,a4⟩:=vals2 r;cases a4;exact OY I g U a5 a3 hw
 have T:dS X [e,.Name y h] (qy (ax xp X ae .view f) (qy (jE (.ty (mm t))) uV)):=hs A (hs (zw M O a1 rfl S E) ku rfl) l;refine nR B L N a0 T R C l rfl pins s σ H Q I ?_;refine⟨G,i,g,aQ (aB.mp hw) (λw k v j o n a2=>?_) λ_ q=>q⟩;refine⟨j,v,w,rfl,n.sub,a2,?_⟩;exact aQ (jI (aB.mp k) (λc=>GH)) (λb q=>q (.ag b) j o n bb.ag) λ_ q=>q
end
def gY(P:Wa)(w:Wm)(xp:bQ):iV:=λouter H s E e s' =>
 ∃(c:Nat)(b:ah)(l:List VO),s'.os=s.os/\XB s'.gens/\dz (er outer) [] H b s.heap s'.heap/\cF P w b s'.heap/\aE H b/\(∀a∈l,s.heap.get? a=Y/\b a=Y)/\xp c e l s'.heap/\E (.int c 0) Y b
def kC(K:W.Frag)(f:List D->aY D)(n:Nat):fw:=λeh H Q E =>
 eh.length=n/\∃G ds,aE G H/\(∀b xs,H b=Z (.tup xs)->G b=Z (.tup xs))/\aK K G ds eh/\aZ (f ds) (λd=>∀v e a,Ext G H e a->Rep K e d v->Q v a) (λc=>∀a,aE H a->E (.int c 0) Y a)
section
variable{xp:bQ}{X:aq}{ae:List Nat}{m:dn}{f a6 bL fc:aD->aY D}{bD:aD->aY (List D)}{a b c e:VY}{aw:List VY}{pos:Xj}{pins:List (VO×WW)}{σ:aN}{G H:ah}{s:VI}
abbrev w3(xp:bQ)(X:aq):g4:=λu _ d=>∀c:Nat,u=.int c 0->dy xp X c d
def JE:Passes (gY X.prog X.w xp) X (w3 xp X):=by
 rintro pins σ H s e s' I ⟨c,d,l,os,j,p,n,q,h,o,k⟩;have i:Inv X pins σ d s':=I.wd os p n j (λb z=>absurd z (by simp));exact k c rfl pins σ d s' e l i (aE.refl _) (λa g=>.of I (h a g).1 (h a g).2) o
end
section
variable{prog:Wa}{w:Wm}{A:Wc}{R:Result->VI->Prop}{s:VI}
def DX{f d o:VY}{g:List VY}{p:Xs}{pos:Xj}{b e:VE}{env:Env}(I:Nat->VI->Prop)(turn:∀n s,I n s->VJ (VM prog w) A (Xk b) (λr i=>match r with
   |none=>R (.ok .next) i
   |some v=>VJ (VM prog w) A (Xu d b v) (λ_ u=>VJ (VM prog w) A (ZC d env v) (λ_ y =>
     VJ (VM prog w) A (forIn g J λc r=>if r=J then do let a <- Y7 c env (Wu c env);pure (WQ a) else pure (WQ r)) (λa j =>
      if a=J then VJ (VM prog w) A (Wu f env) (λx B =>
       VJ (VM prog w) A (call (.builtin "list.append") [e,x]) (λ_ C=>∃m,m<n/\I m C) (λ_ _=>False) B) (λ_ _=>False) j
      else ∃m,m<n/\I m j) (λ_ _=>False) y) (λ_ _=>False) u) (λ_ _=>False) i) (λ_ _=>False) s)(n:Nat)(h:I n s):
  XC (VM prog w) A (.compLoop (.ListComp f [⟨d,o,g,0⟩] p pos) 0 b e env) R s:=by
 have up:∀{α:Type}{t:ZN α}{Q:α->VI->Prop}{E:VE->VI->Prop}{s:VI},VJ (VM prog w) A t Q (λ_ _=>False) s->VJ (VM prog w) A t Q E s:=λh=>QP h (λ_ _ q=>q) λ_ _ z=>z.elim
 refine codeAny_loop rfl I (λn s G=>?_) n h;show VJ _ A ((compTurn (.ListComp f [⟨d,o,g,0⟩] p pos) 0 b e env).onRaise (λx=>do noteFrame x env;theTreesLotGoes x)) _ _ s;refine wpAny_noted ?_;rw[compTurn_list];refine PA (wpAny_standAt (PA (QP (turn n s G) (λr i k=>?_) λ_ _ z=>z.elim)));cases r with
 |none=>exact VB k
 |some v =>
  refine PA (QP k (λ_ u H=>?_) λ_ _ z=>z.elim);refine PA (QP H (λ_ y L=>PA (QP L (λa j l=>?_) λ_ _ z=>z.elim)) λ_ _ z=>z.elim);cases a with
  |false=>exact VB ⟨rfl,l⟩
  |true =>
   refine PA (PA (QP l (λx B M=>PA (QP M (λ_ C N=>?_) λ_ _ z=>z.elim)) λ_ _ z=>z.elim));exact VB (VB ⟨rfl,N⟩)
end
def eA(env:Env):List (VT×W2)->List (VT×VO)->List (VT×VO)
 |[],cs=>cs
 |(n,k)::r,cs=>if k==.free then eA env r ((n,(env.cells.lookup n).getD 0)::cs) else eA env r cs
def DF(h:∀x∈f.names,x.2=.free->∃c,env.cells.lookup x.1=Z c):closureFor f env=pure (eA env f.names []):=by
 have j:∀(l:List (VT×W2))(cs:List (VT×VO)),(∀x∈l,x.2=.free->∃c,env.cells.lookup x.1=Z c) ->
   (forIn l cs λ(x:VT×W2)(r:List (VT×VO))=>(match x with
    |(name,m)=>if (m==V7)=J then do let a <- cellOf env name;pure (WQ ((name,a)::r)) else pure (WQ r):ZN (ForInStep (List (VT×VO)))))=(pure (eA env l cs):ZN _):=by
  intro l
  induction l with
  |nil=>intro cs _;rfl
  |cons x l g =>
   intro cs b;obtain⟨n,k⟩:=x;simp only[List.forIn_cons,eA];cases q:(k==V7) with
   |false =>
    simp only[PD,PZ,pure_bind];exact g cs λy d=>b y (VG _ d)
   |true =>
    have i:k=.free:=⇑q;obtain⟨c,e⟩:=b (n,k) VF i;simp only at e;simp only[QI,cellOf,e,pure_bind,ZL];exact g _ λy d=>b y (VG _ d)
 unfold closureFor;have:=j f.names [] h;simp only[bind_pure];exact this
theorem su:∀(l:List (VT×W2))(cs:List (VT×VO)),(eA env l cs).lookup x=Z c->cs.lookup x=Z c\/(∃y∈l,y.1=x/\y.2=.free/\c=(env.cells.lookup x).getD 0)
 |[],cs,h=>.inl h
 |(n,k)::r,cs,h=>by
  unfold eA at h;cases q:(k==V7) with
  |false =>
   rw[q]at h;rcases su r cs h with a|⟨y,b,a⟩
   .exact .inl a
   .exact .inr ⟨y,VG _ b,a⟩
  |true =>
   rw[q]at h;have d:k=.free:=⇑q;rcases su r _ h with a|⟨y,b,a⟩
   .rw[Qp]at a;cases z:(x==n) with
    |false=>rw[z]at a;exact .inl a
    |true =>
     rw[z]at a;have e:x=n:=⇑z;subst e;exact .inr ⟨(x,k),VF,rfl,d,(Ql a).symm⟩
   .exact .inr ⟨y,VG _ b,a⟩
theorem sr:∀(l:List (VT×W2))(cs:List (VT×VO)),((∃y∈l,y.1=x/\y.2=.free)\/(cs.lookup x).isSome=J)->((eA env l cs).lookup x).isSome=J
 |[],cs,h=>by
  rcases h with⟨y,a,_⟩|h
  .simp at a
  .exact h
 |(n,k)::r,cs,h=>by
  unfold eA;cases q:(k==V7) with
  |false =>
   refine sr r cs ?_;rcases h with⟨y,a,b,h2⟩|h
   .rcases PF.mp a with e|a
    .subst e;simp only at h2;rw[h2]at q;cases q
    .exact .inl ⟨y,a,b,h2⟩
   .exact .inr h
  |true =>
   refine sr r _ ?_;rcases h with⟨y,a,b,h2⟩|h
   .rcases PF.mp a with e|a
    .subst e;simp only at b;subst b;exact .inr (by simp)
    .exact .inl ⟨y,a,b,h2⟩
   .refine .inr ?_;rw[Qp];cases z:(x==n)
    .exact h
    .rfl
theorem jq{env:Env}{x:VT}:∀{names:List (VT×W2)}{k:W2},(names.map λ(n,k)=>if (k==V7&&env.scope.kind==.function&&env.kindOf n==Z .cell) then(n,WT) else(n,k)).lookup x=Z k ->
  names.lookup x=Z k\/(names.lookup x=Z .free/\k=.cell)
 |[],_,h=>by simp at h
 |(n,j)::r,k,h=>by
  have h:YN x ((if (j==V7&&env.scope.kind==.function&&env.kindOf n==Z .cell)=J then(n,WT) else(n,j))::(r.map λ(n,k)=>if (k==V7&&env.scope.kind==.function&&env.kindOf n==Z .cell) then(n,WT) else(n,k)))=Z k:=h;rw[Qp];cases b:x==n with
  |true =>
   by_cases a:(j==V7&&env.scope.kind==.function&&env.kindOf n==Z .cell)=J
   .rw[if_pos a,Qp]at h;simp only[b]at h;have c:j=.free:=(by simp only[PB,P8]at a;exact a.1.1);exact .inr ⟨by rw[c],(Ql h).symm⟩
   .rw[if_neg a,Qp]at h;simp only[b]at h;exact .inl h
  |false =>
   by_cases a:(j==V7&&env.scope.kind==.function&&env.kindOf n==Z .cell)=J
   .rw[if_pos a,Qp]at h;simp only[b]at h;exact jq h
   .rw[if_neg a,Qp]at h;simp only[b]at h;exact jq h
theorem qe{env:Env}{x:VT}{k:W2}:∀{e:List (VT×W2)},e.lookup x=Z k->k≠.free->(e.map λ(n,k)=>if (k==V7&&env.scope.kind==.function&&env.kindOf n==Z .cell) then(n,WT) else(n,k)).lookup x=Z k
 |[],h,_=>by simp at h
 |(n,j)::r,h,c=>by
  show YN x ((if (j==V7&&env.scope.kind==.function&&env.kindOf n==Z .cell)=J then(n,WT) else(n,j))::_)=_;rw[Qp]at h;cases a:x==n with
  |true =>
   simp only[a]at h;have f:j=k:=Ql h;subst f;have b:¬(j==V7&&env.scope.kind==.function&&env.kindOf n==Z .cell)=true:=by
    intro z;simp only[PB,P8]at z;exact c z.1.1
   rw[if_neg b,Qp];simp only[a]
  |false =>
   simp only[a]at h;have d:=qe (env:=env) h c
   by_cases b:(j==V7&&env.scope.kind==.function&&env.kindOf n==Z .cell)=J
   .rw[if_pos b,Qp];simp only[a];exact d
   .rw[if_neg b,Qp];simp only[a];exact d
theorem uo{env:Env}{x:VT}:∀{c:List (VT×W2)},c.lookup x=Z .free->(c.map λ(n,k)=>if (k==V7&&env.scope.kind==.function&&env.kindOf n==Z .cell) then(n,WT) else(n,k)).lookup x=Z .cell\/(c.map λ(n,k)=>if (k==V7&&env.scope.kind==.function&&env.kindOf n==Z .cell) then(n,WT) else(n,k)).lookup x=Z .free
 |[],h=>by simp at h
 |(n,j)::r,h=>by
  show YN x ((if (j==V7&&env.scope.kind==.function&&env.kindOf n==Z .cell)=J then(n,WT) else(n,j))::_)=_\/YN x ((if (j==V7&&env.scope.kind==.function&&env.kindOf n==Z .cell)=J then(n,WT) else(n,j))::_)=_;rw[Qp]at h;cases a:x==n with
  |true =>
   simp only[a]at h
   by_cases b:(j==V7&&env.scope.kind==.function&&env.kindOf n==Z .cell)=J
   .rw[if_pos b,Qp];simp[a]
   .rw[if_neg b,Qp];simp only[a];exact .inr h
  |false =>
   simp only[a]at h;have d:=uo (env:=env) h
   by_cases b:(j==V7&&env.scope.kind==.function&&env.kindOf n==Z .cell)=J
   .rw[if_pos b,Qp];simp only[a];exact d
   .rw[if_neg b,Qp];simp only[a];exact d
def j1(X:aq)(c:Env)(b:List VT)(s3:VI)(a:ah)(d:List VO)(e:List (VO×WW)):aq :=
 { X with N:=b,dN:=s3,mz:=a,env:=c,outer:=X.stack,ex:=d,fn:=λ_=>VC,bV:=X.bV++e,bl:=λ_ _=>False }
structure jK(X:aq)(scope:Xs)(xs cS:List VT):Prop where
 kind:scope.kind=.function
 jx:∀y∈scope.names,y.2≠.cell
 names:∀y∈scope.names,y.2=.local->scope.names.lookup y.1=Z .local
 loc:∀y,scope.names.lookup y=Z .local->y∈xs\/y=(".0":VT)
 dv:∀y∈xs,scope.names.lookup y=Z .local
 fr:∀y∈scope.names,y.2=.free->X.env.scope.names.lookup y.1=Z .cell\/X.env.scope.names.lookup y.1=Z .free
 len:cS.length=X.N.length+xs.length
 old:∀(i:Nat) y,i<X.N.length->cS[i]?=Z y->(scope.names.lookup y).isSome=J->X.N[i]?=Z y/\y∉xs/\y≠(".0":VT)
 new:∀(j:Nat),cS[X.N.length+j]?=xs[j]?
 di:cS.Nodup
section
def C1{A:aN}(I:Inv X pins A H s)(Q:∀b∈a3,gv X pins H b)(S:∀b∈a3,∃o,s.heap.get? b=Z o)(B:jK X a xs a0)(b1:a4.Ns s.heap.objs.size (λ_=>Y))(t:∀b o,s.heap.get? b=Z o->a4.get? b=Z o):
  Inv (j1 X (X6 a (eA X.env a.names []) s.heap.objs.size X.env) a0 s H a3 pins) [] (A++V0 xs.length Y) H { s with heap:=a4,toks:=tk }:=by
 have g:∀y c,(eA X.env a.names []).lookup y=Z c->X.env.cells.lookup y=Z c:=λy c e=>by
  rcases su _ _ e with h|⟨z,hz,e1,e2,e3⟩
  .simp at h
  .have:=B.fr z hz e2;rw[e1]at this;obtain⟨x,j⟩:=I.ok.has y (by rcases this with q|q;exact .inl q;exact .inr q);rw[j]at e3;simp at e3;rw[j,e3]
 have O:∀y,a.names.lookup y=Z .free->∃c,(eA X.env a.names []).lookup y=Z c:=λy e =>
  XR.mp (sr _ _ (.inl ⟨(y,.free),QE e,rfl,rfl⟩))
 have bg:∀y c,X.env.cells.lookup y=Z c->c<s.heap.objs.size:=λy c e=>by
  obtain⟨v,q⟩:=I.cell y c e;exact q.lt
 have a5:∀b,b<s.heap.objs.size->b≠s.heap.objs.size:=λb f=>PY f
 refine⟨⟨I.ok.mod,B.kind,I.ok.glob,I.ok.blt,PE _,λy z c e1 e2=>I.ok.inj y z c (g y c e1) (g z c e2),λy U=>?_,λy c q _=>Bool.noConfusion q,I.ok.hd,I.ok.frames,.inl rfl,λb f=>?_,I.bs,PW I.ok.j4 I.ef,λb o e f=>?_,λb f ay=>?_,I.stack,I.uQ⟩,
  rfl,I.bare,dz.kept t,⟨_,b1,λi y v e1 e2 e3=>?_⟩,λy c e=>?_,I.fresh,λy c e=>I.eJ y c (g y c e),λp T=>?_,I.aG.kept t,?_⟩
 .-- O
  have U:(relabel a X.env).names.lookup y=Z .cell\/(relabel a X.env).names.lookup y=Z .free:=U;have:a.names.lookup y=Z .free:=by
   rcases U with q|q
   .rcases jq q with z|z
    .exact absurd rfl (B.jx _ (QE z))
    .exact z.1
   .rcases jq q with z|z
    .exact z
    .exact z.1
  exact O y this
 .-- bp
  obtain⟨a1,C,E,G,L,a2⟩:=Q b f;obtain⟨o,S⟩:=S b f;exact⟨a5 b (PJ S),λy c e=>L y c (g y c e)⟩
 .-- da
  obtain⟨a1,C,E,G,L,a2⟩:=Q b f;rcases G with q|q
  .exact I.ok.nK b o e q
  .have:=PJ (I.ok.bs b o e).1;exact absurd (PH this q) (Q5 _)
 .-- bz
  obtain⟨a1,C,E,G,L,a2⟩:=Q b f;rcases PF.mp (I.kF b ay) with q|q
  .exact C q
  .exact E q
 .-- b9 cy
  have hi:i<A.length:=by
   by_cases hi:i<A.length
   .exact hi
   .rw[Qq ⋯,Sm]at e2
    split at e2<;>cases e2
  rw[P1 hi]at e2;have az:i<X.N.length:=(by rw[<- I.len];exact hi);have e3:dA (relabel a X.env) y:=e3;have b2:(a.names.lookup y).isSome=true:=by
   rcases e3 with q|q|q
   all_goals
    rcases jq q with z|z
    .rw[z];rfl
    .rw[z.1];rfl
  obtain⟨au,bc,h0⟩:=B.old i y az e1 b2;have R:a.names.lookup y=Z .free:=by
   rcases e3 with q|q|q
   .rcases jq q with z|z
    .rcases B.loc y z with w|w
     .exact absurd w bc
     .exact absurd w h0
    .exact z.1
   .rcases jq q with z|z
    .exact absurd rfl (B.jx _ (QE z))
    .exact z.1
   .rcases jq q with z|z
    .exact z
    .exact z.1
  have N:=B.fr (y,.free) (QE R) rfl;obtain⟨m,c0,aA⟩:=I.loc;obtain⟨u,r,l⟩:=aA i y v au e2 (by rcases N with q|q;exact .inr (.inl q);exact .inr (.inr q));refine⟨u,r,.inr ⟨?_,?_⟩⟩
  .exact uo R
  .rcases l with⟨k,_⟩|⟨_,c,av,z⟩
   .exfalso;have k:X.env.scope.names.lookup y=Z .local:=k;simp only at N;rcases N with q|q<;>rw[k]at q<;>cases q
   .obtain⟨x,j⟩:=O y R;have e:x=c:=(by have:=g y x j;rw[av]at this;exact(Ql this).symm);subst e;obtain⟨o,M,h2⟩:=z;exact⟨x,j,o,t _ _ M,h2⟩
 .-- bf
  obtain⟨v,o,M,h2⟩:=I.cell y c (g y c e);exact⟨v,o,t _ _ M,h2⟩
 .-- pins
  have T:p∈X.bV++pins:=(by simpa[j1] using T);obtain⟨e,n,a8,a9,d⟩:=I.pin p T;refine⟨t _ _ e,n,a5 _ (PJ e),λf=>?_,d⟩;rcases PF.mp (I.kF p.1 f) with q|q
  .exact a8 q
  .exact a9 q
 .show _=a0.length;rw[PI,SG,B.len,I.len]
end
abbrev jA:List Nat->List V->aN->aN
 |i::b,v::c,a=>jA b c (a.set i (Z v))
 |_,_,a=>a
def tb:List Nat->i5
 |[]=>xQ
 |i::a=>xO (ta i) (tb a)
theorem xP:∀(ts:List Nat)(a:List V)(b:aN)(H:ah)(Q:aN->ah->Prop),a.length=ts.length->Q (jA ts a b) H->tb ts a b H Q
 |[],[],b,H,Q,_,q=>⟨rfl,q⟩
 |[],_::_,_,_,_,h,_=>by simp at h
 |_::_,[],_,_,_,h,_=>by simp at h
 |i::c,v::a,b,H,Q,h,q=>⟨v,a,rfl,xP c a _ H Q ⇑h q⟩
def o9(K:W.Frag)(k:Nat)(ts:List Nat):ig:=λv c H Q=>∃G d,aE G H/\Rep K G d v/\aZ (ζ.dH k d) (λos=>∀(b:List D)(a:List V),os=b.map Z->aK K G b a->Q (jA ts a c) H) (λ_=>False)
section
theorem zH(g:X.N.Nodup):∀(ts:List Nat)(ys:List VT)(d:List VY),ζ.namesOf d=Z ys->ts.length=ys.length->(∀(j i:Nat) y,ts[j]?=Z i->ys[j]?=Z y->X.N[i]?=Z y/\Loc X.env.scope y/\(X.fn y=J\/X.env.scope.names.lookup y=Z .local)) ->
  mD X d (tb ts)/\(W6 d X.env).length=ts.length/\(W6 d X.env).findIdx? (·.1)=Y
 |ts,ys,[],h,f,_=>by
  simp only[ζ.namesOf,Ra]at h;subst h;have:ts=[]:=⇑f;subst this;exact⟨J2,rfl,rfl⟩
 |ts,ys,e::d,h,f,k=>by
  simp only[ζ.namesOf]at h;cases e with
  |Name x p =>
   cases q:ζ.namesOf d with
   |none=>simp only[ζ.nameOf,q]at h;cases h
   |some n =>
    simp only[ζ.nameOf,q,Ra]at h;subst h;cases ts with
    |nil=>simp at f
    |cons i l =>
     obtain⟨a,b,c⟩:=k 0 i x rfl rfl;obtain⟨m,h2,h3⟩:=zH g l n d q ⇑f λj i y e1 e2=>k (j+1) i y ⇑e1 ⇑e2
     refine⟨J1 (zF g a b c) m rfl,?_,?_⟩
     .show(W6 d X.env).length+1=l.length+1;rw[h2]
     .show((VC,ZC (.Name x p) X.env)::W6 d X.env).findIdx? (·.1)=Y;rw[List.findIdx?_cons];simp only[PD,PZ];rw[h3];rfl
  |_=>simp only[ζ.nameOf]at h;cases h
def zG(O:X.calm=J)(z:X.N.Nodup)(f:ζ.dv k t=Z ys)(l:ts.length=ys.length)(C:∀(j i:Nat) y,ts[j]?=Z i->ys[j]?=Z y->X.N[i]?=Z y/\Loc X.env.scope y/\(X.fn y=J\/X.env.scope.names.lookup y=Z .local)):f9 X t (o9 X.K k ts):=by
 cases k with
 |zero =>
  cases t with
  |Name x p =>
   simp only[ζ.dv,Ra]at f;subst f;obtain⟨i,rfl⟩:∃i,ts=[i]:=by
    match ts,l with
    |[i],_=>exact⟨i,rfl⟩
   obtain⟨a,b,c⟩:=C 0 i x rfl rfl;rintro m s g H v u Q I r ⟨G,d,B,o,hw⟩;refine zF z a b c m s g H v u Q I r ?_;exact hw [d] [v] rfl ⟨v,[],rfl,o,rfl⟩
  |_=>simp only[ζ.dv]at f;cases f
 |succ k =>
  cases t with
  |Tuple w j p =>
   simp only[ζ.dv]at f;cases q:ζ.namesOf w with
   |none=>rw[q]at f;cases f
   |some L =>
    rw[q]at f;simp only at f
    by_cases hz:L.length=k+1
    .rw[if_pos hz]at f;simp only[Ra]at f;subst f;obtain⟨M,h2,h3⟩:=zH z ts L w q l C;rintro m s g H v u Q I r ⟨G,d,B,o,hw⟩;refine J0 (n:=ts.length) O M h2 h3 m s g H v u Q I r ?_;cases d with
     |tup ds =>
      obtain⟨a,xs,e,R,E⟩:=o;have N:ζ.dH (k+1) (.tup ds)=if ds.length=k+1 then .ok (ds.map Z) else .bad:=rfl;rw[N]at hw
      by_cases h:ds.length=k+1
      .rw[if_pos h]at hw;have A:xs.length=ts.length:=(by rw[<- E.length,h,l,hz]);exact⟨a,xs,e,fI B R,A,xP ts xs g H Q A (hw ds xs rfl E)⟩
      .rw[if_neg h]at hw;exact hw.elim
     |_=>exact hw.elim
    .rw[if_neg hz]at f;cases f
  |_=>simp only[ζ.dv]at f;cases f
end
structure hG(K:W.Frag)(P:ah->ah->Prop)(jS:gZ)(ds:List D):Prop where
 go:∀(i:Nat) bw H1,P bw H1->i<ds.length->jS.go i H1
 gW:∀(i:Nat) bw H1 x eO d,P bw H1->aE bw H1->ds[i]?=Z d->jS.gW i H1 x eO->∃ox,Ext bw H1 ox eO/\Rep K ox d x
 stop:∀bw H1,P bw H1->jS.stop ds.length H1
abbrev ie(m:dn)(G H:ah):ah->ah->Prop:=λa b=>aE G a/\(match m with|.view=>aE H b|_=>aE a b)
def gq(xp:bQ)(X:aq)(g:List Nat)(m:dn)(f:aD->aY (List D)):TI:=λh H R =>
 ∃G e,cH X.K g G H e h/\aZ (f e) (λds=>∀d b a,Ext G H b a->hG X.K (ie m b a) d ds->ds.length<=16777216->R d a) (λc=>dy xp X c H)
def tV{α:Type}{r:aY α}{Q:α->Prop}(h:aZ (ζ.iH r) Q E):∃a,r=.ok a/\Q a:=by
 cases r with
 |ok a=>exact⟨a,rfl,h⟩
 |exc c=>exact h.elim
 |bad=>exact h.elim
def cH.more{K:W.Frag}(h:cH K s G H k B)(g:∀i∈s,i<k.length)(r:aK K G t A):cH K s G H (k++t.map Z) (B++A.map Z) where
 len:=by rw[PI,PI,h.len,VD,VD,r.length]
 sub:=h.sub
 val:=λi d e c=>by
  by_cases hi:i<k.length
  .rw[P1 hi]at e;obtain⟨v,a,b⟩:=h.val i d e c;exact⟨v,by rw[P1 (by rw[<- h.len];exact hi)];exact a,b⟩
  .rw[Qq ⋯,PX]at e;cases q:t[i-k.length]? with
   |none=>rw[q]at e;cases e
   |some w =>
    rw[q]at e;simp only[WO,Ra]at e;subst e;obtain⟨v,a,b⟩:=r.get q;exact⟨v,by rw[Qq (by rw[<- h.len];lia),PX,<- h.len,a];rfl,b⟩
 own:=λi d e c l=>by
  have hi:=g i c;rw[P1 hi]at e;obtain⟨v,a,b⟩:=h.own i d e c l;exact⟨v,by rw[P1 (by rw[<- h.len];exact hi)];exact a,b⟩
 lst:=λi d e c l=>by
  have hi:=g i c;rw[P1 hi]at e;obtain⟨a,o,f,h2⟩:=h.lst i d e c l;exact⟨a,o,by rw[P1 (by rw[<- h.len];exact hi)];exact f,h2⟩
 c7:=h.c7
 apart:=λi j ds y a b e1 e2 u x hi n z f h2=>by
  have m:=g i hi;have p:=g j n;rw[P1 m]at e1;rw[P1 p]at e2;rw[P1 (by rw[<- h.len];exact m)]at f;rw[P1 (by rw[<- h.len];exact p)]at h2;exact h.apart i j ds y a b e1 e2 u x hi n z f h2
theorem AH:∀(b:List V)(a gr:aN)(n:Nat),n=a.length->gr.length=b.length->jA (List.range' n b.length) b (a++gr)=a++b.map Z
 |[],a,gr,n,d,c=>by
  have:gr=[]:=⇑c;subst this;rfl
 |v::b,a,gr,n,d,c=>by
  cases gr with
  |nil=>simp at c
  |cons t gr =>
   rw[VS,List.range'_succ,jA];have e:(a++t::gr).set n (Z v)=(a++[Z v])++gr:=by
    rw[TA _ _ ⋯,d];simp
   rw[e,AH b (a++[Z v]) gr (n+1) (by simp[d]) ⇑c];simp
section
def gi(k:Nat)(fc:aD->aY Bool)(e:aD->aY D)(c:aD)(d:D):aY (Option D):=ζ.dH k d>>=λa=>fc (c++a)>>=λb=>if b then e (c++a)>>=λy=>.ok (Z y) else .ok Y
def eF(X:aq)(a:Xs)(c:List VT)(s3:VI)(b:ah)(d:List VO)(e:List (VO×WW)):aq:=j1 X (X6 a (eA X.env a.names []) s3.heap.objs.size X.env) c s3 b d e
def CS{d:D}{os:List (Option D)}(h:ζ.dH k d=.ok os):∃c:List D,os=c.map some:=by
 cases k with
 |zero=>cases h;exact⟨[d],rfl⟩
 |succ k =>
  cases d with
  |tup ds =>
   have b:ζ.dH (k+1) (.tup ds)=if ds.length=k+1 then .ok (ds.map Z) else .bad:=rfl;rw[b]at h
   by_cases a:ds.length=k+1
   .rw[if_pos a]at h;cases h;exact⟨ds,rfl⟩
   .rw[if_neg a]at h;cases h
  |_=>cases h
end
section
variable{xp:bQ}{X:aq}{ae:List Nat}{o5:aD->aY (List D)}{fQ:aD->aY D}{fc:aD->aY Bool}{elt target iter:VY}{ifs:List VY}{scope:Xs}{pos:Xj}{xs cS:List VT}{k:Nat}
def kV(xp:bQ)(X:aq)(ae:List Nat)(scope:Xs)(cS:List VT)(ifs:List VY)(fc:aD->aY Bool):Prop :=
 (ifs=[]/\fc=λ_=>.ok J)\/∃(c:VY)(b:aD->aY D),ifs=[c]/\(fc=λf=>b f>>=ζ.ez)/\∀s3 a d e,cG (eF X scope cS s3 a d e) c (eN xp (eF X scope cS s3 a d e) ae b)
def N0(v:kV xp X ae scope cS ifs fc){l:aN}(I:Inv (eF X scope cS s3 f g j) q l H s)(p:cH X.K ae G H m l)(i:fc m=.ok b)(o:∀s' a d,Inv (eF X scope cS s3 f g j) q l d s'->Ext G H a d->Q b s'):
  VJ (VM X.prog X.w) X.A (forIn ifs J λc r=>if r=J then do let w <- Y7 c (eF X scope cS s3 f g j).env (Wu c (eF X scope cS s3 f g j).env);pure (WQ w) else pure (WQ r)) Q (λ_ _=>False) s:=by
 rcases v with⟨rfl,rfl⟩|⟨c,u,rfl,rfl,h⟩
 .cases i;exact wpAny_tests_nil (o s G H I (Ext.refl p.sub))
 .refine wpAny_tests_one (QP (h s3 f g j q s l H (λn d=>n=b/\∃a,Ext G H a d) I ⟨G,m,p,?_⟩) (λn s' ⟨d,t,e,a,x⟩=>?_) λ_ _ z=>z)
  .have i:(u m>>=ζ.ez)=.ok b:=i;rw[i];exact λa d x=>⟨rfl,a,x⟩
  .subst e;exact o s' a d t x
def CT{d:D}{os:List (Option D)}(a:ζ.dv k target=Z xs)(h:ζ.dH k d=.ok os):os.length=xs.length:=by
 cases k with
 |zero =>
  cases h;cases target with
  |Name x p=>simp only[ζ.dv,Ra]at a;subst a;rfl
  |_=>simp only[ζ.dv]at a;cases a
 |succ k =>
  have f:xs.length=k+1:=by
   cases target with
   |Tuple c j p =>
    simp only[ζ.dv]at a;cases q:ζ.namesOf c with
    |none=>rw[q]at a;cases a
    |some g =>
     rw[q]at a;simp only at a
     by_cases hz:g.length=k+1
     .rw[if_pos hz]at a;cases a;exact hz
     .rw[if_neg hz]at a;cases a
   |_=>simp only[ζ.dv]at a;cases a
  cases d with
  |tup ds =>
   have e:ζ.dH (k+1) (.tup ds)=if ds.length=k+1 then .ok (ds.map Z) else .bad:=rfl;rw[e]at h
   by_cases b:ds.length=k+1
   .rw[if_pos b]at h;cases h;rw[VD,b,f]
   .rw[if_neg b]at h;cases h
  |_=>cases h
def Il{a b:List D}(h:a.map Z=b.map Z):a=b:=by
 induction a generalizing b with
 |nil=>cases b with|nil=>rfl|cons _ _=>simp at h
 |cons x a c=>cases b with
  |nil=>simp at h
  |cons y b=>simp only[VK,List.cons.injEq,Ra]at h;rw[h.1,c h.2]
def qT(X:aq)(e:List (VO×WW))(f:aN)(G H:ah)(use:Option (VE->ZN Unit))(Qc:VE->VI->Prop)(ys:List D):Prop :=
 ∀(b:VI)(a d:ah)(C c:VO)(m4:VT->Option VE),Ext G H d a->bb X.K H d a .fresh (.lst ys) (.ref c)->b.heap.Ns C m4->gv X e a C->(∀h',V6 C b.heap h'->Inv X e f a { b with heap:=h' }) ->
  compPost (VM X.prog X.w) X.A X.bl use Qc (.ref c) C (.ok .next) b
structure B0(X Y:aq)(f:D->aY (Option D))(iT:Nat->V9->Prop)(fS:List VO)(ds ys:List D)(xs:List VT)(σ:aN)(ox eO:ah)(vr:VO)(n:Nat)(s':VI)(i:Nat)(gr:aN)(aC cq:ah)(vo rest:List D)(fy:List V):Prop where
 aJ:n=ds.length-i
 h2:i<=ds.length
 h3:gr.length=xs.length
 h4:Inv Y [] (σ++gr) aC s'
 h5:iT i s'.heap
 jl:∀b∈fS,aC b=none
 kf:Ext ox eO cq aC
 kg:aC vr=Z (.lst fy)
 hl:cq vr=none
 Ph:aK X.K cq vo fy
 Pj:vo.length<=i
 Pk:ζ.bA f (ds.drop i)=.ok rest
 Pl:ys=vo++rest
def EA{d:D}{r rest:List D}(h:ζ.bA (gi k fc fQ f) (d::r)=.ok rest):∃(e:List D)(b:Bool)(l:List D),ζ.dH k d=.ok (e.map Z)/\fc (f++e.map Z)=.ok b /\
  ζ.bA (gi k fc fQ f) r=.ok l/\((b=VC/\rest=l)\/∃y,b=J/\fQ (f++e.map Z)=.ok y/\rest=y::l):=by
 simp only[ζ.bA]at h;cases a:gi k fc fQ f d with
 |exc c=>rw[a]at h;cases h
 |bad=>rw[a]at h;cases h
 |ok o =>
 rw[a]at h;simp only[ζ.R.iN]at h;cases m:ζ.bA (gi k fc fQ f) r with
 |exc c=>rw[m]at h;cases h
 |bad=>rw[m]at h;cases h
 |ok l =>
 rw[m]at h;simp only[ζ.R.iN]at h;unfold gi at a;cases i:ζ.dH k d with
 |exc c=>rw[i]at a;cases a
 |bad=>rw[i]at a;cases a
 |ok os =>
 rw[i]at a;simp only[ζ.R.iN]at a;obtain⟨e,rfl⟩:=CS i;cases g:fc (f++e.map Z) with
 |exc c=>rw[g]at a;cases a
 |bad=>rw[g]at a;cases a
 |ok b =>
 rw[g]at a;simp only[ζ.R.iN]at a;cases b with
 |false=>cases a;cases h;exact⟨e,VC,_,rfl,g,rfl,.inl ⟨rfl,rfl⟩⟩
 |true =>
  simp only[QI]at a;cases j:fQ (f++e.map Z) with
  |exc c=>rw[j]at a;cases a
  |bad=>rw[j]at a;cases a
  |ok y =>
  rw[j]at a;cases a;cases h;exact⟨e,J,_,rfl,g,rfl,.inr ⟨y,rfl,j,rfl⟩⟩
def DZ(lA:X.calm=J)(l1:∀i∈ae,i<X.N.length)(B:jK X scope xs cS)(ji:ζ.dv k target=Z xs)(ny:∀s3 ea h s,ai (eF X scope cS s3 ea h s) elt (ax xp (eF X scope cS s3 ea h s) ae .val fQ))(Hz:kV xp X ae scope cS ifs fc){σ:aN}(jl:σ.length=X.N.length)(h5:cH X.K ae G H Q σ)(T:Turn X.prog X.w X.K target yt h kg dV){s2 s3:VI}(px:dV 0 s2.heap)(e4:∀b∈h,gv X s g b)(a5:Ext G H E g)(c2:hG X.K (ie .view E g) yt ds)(hz:ds.length<=16777216)(m0:ζ.bA (gi k fc fQ Q) ds=.ok ys)(fin:qT X s σ G H use Qc ys)(bz:Inv X s σ (upd g f (.lst [])) s3)(b2:g f=Y)(Hj:∀b∈h,b≠f)(jk:∀b o,s2.heap.get? b=Z o->s3.heap.get? b=Z o)(l4:pk.Ns s3.heap.objs.size (λ_=>Y))(jj:∀b o,s3.heap.get? b=Z o->pk.get? b=Z o):
  XC (VM X.prog X.w) X.A (Code.compStart (elt.ListComp [{ target:=target,iter:=iter,ifs:=ifs,is_async:=0 }] scope pos) 0 (VQ kg) (VQ f) (X6 scope (eA X.env scope.names []) s3.heap.objs.size X.env))
   (compPost (VM X.prog X.w) X.A X.bl use Qc (VQ f) s3.heap.objs.size) { s3 with heap:=pk,toks:=tk }:=by
 have bc:∀b∈h,gv X s (upd g f (.lst [])) b:=λb a=>⟨by rw[bk (Hj b a)];exact(e4 b a).1,(e4 b a).2⟩
 have l5:∀b∈h,∃o,s3.heap.get? b=Z o:=λb a=>by
  obtain⟨o,e,_⟩:=T.obj _ _ px b a;exact⟨o,jk b o e⟩
 have b1:=C1 (tk:=tk) bz bc l5 B l4 jj;generalize l:j1 X (X6 scope (eA X.env scope.names []) s3.heap.objs.size X.env) cS s3 (upd g f (.lst [])) h s=w at b1;have pz:dV 0 pk:=T.keep _ _ _ px λb a o e=>jj b o (jk b o e)
 have IY:cH X.K ae E g Q σ:=h5.ext a5;have l2:∀i∈ae,i<Q.length:=λi hi=>by rw[h5.len,jl];exact l1 i hi
 have b9:∀{aC:ah},(∀b∈h,aC b=Y)->∀b∈h,gv w [] aC b:=λl3 b a=>by
  obtain⟨Hg,e3,Hh,e5,fD,da⟩:=bc b a;obtain⟨e1,e2⟩:=b1.ok.sW b (by rw[<- l];exact a);refine⟨l3 b a,e1,b1.ok.lq b (by rw[<- l];exact a),.inl (by rw[<- l];exact a),e2,λp h3=>?_⟩;rw[<- l]at h3;exact da p (by simpa[j1] using h3)
 have nk:XC (VM X.prog X.w) X.A (.compLoop (.ListComp elt [⟨target,iter,ifs,0⟩] scope pos) 0 (.ref kg) (.ref f) (X6 scope (eA X.env scope.names []) s3.heap.objs.size X.env))
   (compPost (VM X.prog X.w) X.A X.bl use Qc (VQ f) s3.heap.objs.size) { s3 with heap:=pk,toks:=tk }:=by
  refine DX (λn s'=>∃(i:Nat)(R:aN)(aC C:ah)(ay rest:List D)(fy:List V),B0 X w (gi k fc fQ Q) dV h ds ys xs σ E g f n s' i R aC C ay rest fy) ?_ ds.length
   ⟨0,V0 xs.length Y,_,E,[],ys,[],by simp,PN _,by simp,b1,pz,λb a=>(bc b a).1,Ext.own a5.sub b2 (λ_ z=>nomatch z),b4,a5.sub.free b2,rfl,PE _,⇑m0,rfl⟩
  rintro n s' ⟨i,R,aC,C,ay,rest,fy,rfl,o0,Ig,e0,pw,fj,a4,cz,f8,dD,kr,a1,a8⟩;have cN:ie .view E g C aC:=⟨a4.g,a4.h⟩;have g3:w.calm=true:=(by rw[<- l];exact lA);have cO:w.prog=X.prog:=(by rw[<- l];rfl);have cp:w.w=X.w:=(by rw[<- l];rfl);have g2:w.K=X.K:=(by rw[<- l];rfl);have g1:w.A=X.A:=by rw[<- l];rfl
  by_cases ke:i<ds.length
  .have cB:ds[i]?=Z ds[i]:=PG ke;generalize ds[i]=d at cB;have k5:ds.drop i=d::ds.drop (i+1):=by
    have:=P5.mp cB;obtain⟨k1,h2⟩:=this;rw[<- h2];exact Qw k1
   rw[k5]at a1;have hl:=T.item w cO cp g2 g3 i [] s' (σ++R) aC (λ_ _=>False) e0 (b9 fj) pw (c2.go i C aC cN ke);rw[g1]at hl;refine aM hl λr M t=>?_
   obtain⟨u,a0,h4⟩:=t;subst a0;refine aM h4 λ_ jv t=>?_
   obtain⟨x,bp,tj,Ii,I1,a3,k0⟩:=t;obtain⟨S,av,Ij⟩:=c2.gW i C aC x bp d cN a4.sub cB I1;have yo:=tj.pinned (b9 k0) (T.obj _ _ a3);obtain⟨bf,b,hq,pq,m5,pn,a⟩:=EA a1;have HA:bf.length=xs.length:=(by have:=CT ji pq;simpa using this);subst l;have Hk:f9 (j1 X (X6 scope (eA X.env scope.names []) s3.heap.objs.size X.env) cS s3 (upd g f (.lst [])) h s) target (o9 X.K k (List.range' X.N.length xs.length)):=by
    refine zG (X:=j1 X (X6 scope (eA X.env scope.names []) s3.heap.objs.size X.env) cS s3 (upd g f (.lst [])) h s) lA B.di ji (by simp) λj Pt y e1 e2=>?_
    rw[List.getElem?_range' (P5.mp e2).1]at e1;have HB:y∈xs:=QX e2;have kd:(relabel scope X.env).names.lookup y=Z .local:=qe (B.dv y HB) ∅;cases e1;refine⟨?_,.inl kd,.inr kd⟩;show cS[X.N.length+1*j]?=Z y;rw[Nat.one_mul,B.new j];exact e2
   refine aM (Hk _ jv (σ++R) bp x u (λpA my=>∃m:List V,pA=σ++m.map Z/\m.length=xs.length/\my=bp/\aK X.K S bf m) yo Ii ⟨S,d,av.sub,Ij,?_⟩) λ_ Pu t=>?_
   .rw[pq];intro Px m e r;have e:=Il e;subst e;have cP:m.length=xs.length:=(by rw[<- r.length,HA]);refine⟨m,?_,cP,rfl,r⟩;rw[<- cP];exact AH m σ R X.N.length (jl.symm) (by rw[Ig,cP])
   obtain⟨pA,my,yp,m,Hd,kf,Hf,IU⟩:=t;subst Hd;subst Hf;have d2:Ext E g S my:=a4.trans av;have pv:cH X.K ae S my (Q++bf.map Z) (σ++m.map Z):=(IY.ext d2).more l2 IU;have hh:my f=Z (.lst fy):=av.h _ _ cz;have k3:S f=none:=av.new f f8 (by rw[cz];exact λz=>nomatch z);refine N0 Hz yp pv m5 λIV U az aA N=>?_
   have cA:az f=Z (.lst fy):=N.h _ _ hh;have hj:U f=none:=N.new f k3 (by rw[hh];exact λz=>nomatch z);have ps:aK X.K U ay fy:=(dD.mono av.g).mono N.g;rcases a with⟨rfl,rfl⟩|⟨y,rfl,Ih,rfl⟩
   .simp only[PD,PZ];refine⟨ds.length-(i+1),⋯,i+1,m.map Z,az,U,ay,rest,fy,rfl,⋯,by rw[VD];exact kf,aA.mn,T.keep _ _ _ a3 λb a o e=>(aA.pin (b,o) (PO _ (PO _ (lM a e)))).1,λb a=>?_,d2.trans N,cA,hj,ps,⋯,pn,a8⟩;obtain⟨dC,e,_⟩:=T.obj _ _ a3 b a;exact(aA.pin (b,dC) (PO _ (PO _ (lM a e)))).2.1
   .simp only[QI];refine aM (ny s3 (upd g f (.lst [])) h s _ IV (σ++m.map Z) az (λv jQ=>∃A,Ext U az A jQ/\Rep X.K A y v) aA ⟨U,Q++bf.map Z,pv.ext N,by rw[Ih];exact λv A jQ O dr=>⟨A,O,dr⟩⟩) λIZ IW t=>?_
    obtain⟨bg,jQ,yq,dr,A,O,Ik⟩:=t;have k2:jQ f=Z (.lst fy):=O.h _ _ cA;have iA:A f=none:=O.new f hj (by rw[cA];exact λz=>nomatch z);have l0:fy.length<sizeLine:=(by rw[<- dD.length,V3];lia);refine aM (yZ (X:=eF X scope cS s3 (upd g f (.lst [])) h s) _ IW (σ++m.map Z) jQ (.ref f) [bg] (.ref f) [IZ] (λ_ eo=>eo=upd jQ f (.lst (fy++[bg]))) yq rfl (.cons dr .nil) ⟨f,fy,bg,rfl,rfl,k2,l0,rfl⟩) λ_ Pw t=>?_
    obtain⟨_,eo,c0,_,He⟩:=t;subst He;have au:Ext E g A jQ:=(d2.trans N).trans O;refine⟨ds.length-(i+1),⋯,i+1,m.map Z,_,A,ay++[y],hq,fy++[bg],rfl,⋯,by rw[VD];exact kf,c0.mn,T.keep _ _ _ a3 λb a o e=>(c0.pin (b,o) (PO _ (PO _ (lM a e)))).1,λb a=>?_,
     ⟨au.g,λb o e=>?_,λb o e=>?_,au.new,λb xs e=>au.c7 b xs (by
      by_cases q:b=f
      .subst q;rw[b4]at e;cases e
      .rw[bk q]at e;exact e)⟩,b4,iA,(ps.mono O.g).snoc Ik,by rw[PI,V8];lia,pn,by rw[a8,PR];rfl⟩
    .obtain⟨dC,e,_⟩:=T.obj _ _ a3 b a;exact(c0.pin (b,dC) (PO _ (PO _ (lM a e)))).2.1
    .rw[bk (gk e b2)];exact au.h b o e
    .rw[bk (gk e iA)];exact au.sub b o e
  .have Hl:i=ds.length:=⋯;subst Hl;have a0:rest=[]:=by
    rw[SY]at a1;simp only[ζ.bA]at a1;cases a1;rfl
   subst a0;rw[QB]at a8;subst a8;have done:=T.done w cO cp g2 g3 ds.length [] s' (σ++R) aC (λ_ _=>False) e0 (b9 fj) pw (c2.stop C aC cN);rw[g1]at done;refine aM done λr M t=>?_
   obtain⟨a0,I⟩:=t;subst a0;obtain⟨m4,h0,_⟩:=I.loc;have cy:w.env.locals=s3.heap.objs.size:=(by rw[<- l];rfl);rw[cy]at h0;refine fin M aC C s3.heap.objs.size f m4 (a5.trans a4) ⟨f,fy,rfl,cz,a5.h.free b2,f8,dD⟩ h0 (bz.ly (PE _) (by have:=I.free;rw[cy]at this;exact this)) λh' a9=>?_
   have hg:aC s3.heap.objs.size=none:=(by have:=I.free;rw[cy]at this;exact this);have L:dz (er X.stack) h (upd g f (.lst [])) aC s3.heap M.heap:=(by have:=I.base;rw[<- l]at this;exact this);have dJ:∀b o,s3.heap.get? b=Z o->b≠s3.heap.objs.size:=λb o e=>PY (PJ e)
   have I0:dz (er X.stack) h (upd g f (.lst [])) aC s3.heap h' :=
    ⟨λb o e n a a2=>(a9.2 b (dJ b o e)).trans (L.keep b o e n a a2),λb o e n a a2=>by obtain⟨IX,q⟩:=L.slot b o e n a a2;exact⟨IX,(a9.2 b (dJ b o e)).trans q⟩,L.free,
     λb o e a2=>by obtain⟨m2,q⟩:=L.there b o e a2;exact⟨m2,(a9.2 b (dJ b o e)).trans q⟩,L.hD,L.gE,L.hC⟩
   have Hy:cF X.prog X.w aC h':=λb o e=>by
    have q:=I.aG b o e;rw[cO,cp]at q;refine q.hB (λc v Hi q=>(a9.2 c ?_).trans q) (λ_ q=>q) λ_ _ q=>q
    rcases Hi with z|z
    .rw[z];rintro rfl;rw[hg]at e;cases e
    .rintro rfl;rw[hg]at z;cases z
   have m3:M.os=s3.os:=(by have:=I.os;rw[<- l]at this;exact this);have yr:Inv X s σ aC { M with heap:=h' }:=bz.wd (s':={ M with heap:=h' }) m3 I0 Hy I.bare λb a=>by
    obtain⟨Hg,e3,Hh,e5,fD,da⟩:=bc b a;exact⟨e5,e3,fD,da⟩
   exact yr
 refine codeAny_compStart_list nk (T.self _ _ _ _ _ pz nk)
def wH(C:X.calm=J)(N:∀i∈ae,i<X.N.length)(B:jK X scope xs cS)(M:ζ.dv k target=Z xs)(R:∀x,WD iter X.env x=pure x)(hi:eR X target iter (gq xp X ae .view o5))(L:∀s3 n l a,ai (eF X scope cS s3 n l a) elt (ax xp (eF X scope cS s3 n l a) ae .val fQ))(S:kV xp X ae scope cS ifs fc){d:aN}(I:Inv X a d H s)(r:cH X.K ae G H g d)(hw:aZ (o5 g>>=λds=>ζ.iH (ζ.bA (gi k fc fQ g) ds)) (qT X a d G H use Qc) (λc=>dy xp X c H)):
  VJ (VM X.prog X.w) X.A (comprehension (.ListComp elt [⟨target,iter,ifs,0⟩] scope pos) scope X.env az (ZZ []) VC (Wu iter X.env) use) Qc X.bl s:=by
 have E:closureFor scope X.env=pure (eA X.env scope.names []):=DF λx U e=>by
  have:=B.fr x U e;exact I.ok.has x.1 (by rcases this with q|q;exact .inl q;exact .inr q)
 refine wpAny_comprehension_free (use:=use) rfl R E B.kind B.names ?_;refine aM (hi a s d H (λj h=>∃f ds ys,Ext G H f h/\hG X.K (ie .view f h) j ds/\ds.length<=16777216/\ζ.bA (gi k fc fQ g) ds=.ok ys/\qT X a d G H use Qc ys) I
  ⟨G,g,r,aQ (aB.mp hw) (λds a2 j f h x m hz=>?_) λ_ q=>q⟩) λv aA w=>aM w λay s2 h2=>?_
 .obtain⟨ys,e,q⟩:=tV a2;exact⟨f,ds,ys,x,m,hz,e,q⟩
 obtain⟨av,l,b1,j,a5,rfl,p,T,t,u,a4,ds,ys,a3,m,hz,a1,fin⟩:=h2;refine Qi (wpAny_newFunctionEnv B.jx (by intro y a0;simp at a0) (λau O Q=>?_) B.kind);refine DZ (s2:=s2) (s3:={ s2 with heap:=s2.heap.push { cls:=.type "list",data:=.seq ([]:List VE).toArray } }) (tk:=s2.toks) C N B M L S I.len r T t u a3 m hz a1 fin (p.yK (t':=s2.toks) (ys:=[]) (its:=[]) .nil (PN _)) p.fresh (λb A z=>?_) (λb o e=>PC _ e) ⇑O λb o e=>Q.extBut b o (PY (PJ e)) (PC _ e)
 obtain⟨o,e,_⟩:=T.obj _ _ t b A;have:=PJ e;rw[z]at this;exact absurd this (Q5 _)
def uy(h:X.calm=J)(m:∀i∈ae,i<X.N.length)(B:jK X scope xs cS)(l:ζ.dv k target=Z xs)(p:∀x,WD iter X.env x=pure x)(hi:eR X target iter (gq xp X ae .view o5))(j:∀s3 d e a,ai (eF X scope cS s3 d e a) elt (ax xp (eF X scope cS s3 d e a) ae .val fQ))(t:kV xp X ae scope cS ifs fc):
  ai X (.ListComp elt [⟨target,iter,ifs,0⟩] scope pos) (ax xp X ae .fresh λb=>o5 b>>=λds=>ζ.iH (ζ.bA (gi k fc fQ b) ds)>>=λys=>.ok (.lst ys)):=by
 rintro a s w H Q I ⟨G,b,o,hw⟩;rw[eval_ListComp];refine wH h m B l p hi j t I o (use:=Y) (Qc:=cX X a w Q) ?_;have hw:=aB.mp hw;refine aB.mpr (aQ hw (λds k1=>?_) λ_ q=>q);refine aQ (aB.mp k1) (λys k2 z c g C f m4 x r n y u=>?_) λ_ q=>q
 exact⟨m4,n,λh' v=>⟨.ref f,c,u h' v,rfl,k2 _ g c x r⟩⟩
end
section
def J5(m:ai X l u):eR X y l (λj H R=>u j H λx f=>∃a xs,x=.ref a/\((b8 X.K f a xs/\(xs.length<=V2->R (qY X.K a) f))\/(dT X.K f a xs/\(xs.length<=V2->R (qZ X.K a) f)))):=by
 intro n s j H R I h;refine aM (m n s j H _ I h) λv c w=>?_
 obtain⟨x,f,d,k,r⟩:=w;obtain⟨a,xs,e,⟨i,q⟩|⟨i,q⟩⟩:=r
 .subst e;cases k;obtain⟨its,t,p,hz⟩:=d.list i;refine Ux p.isList ?_;refine⟨c.heap.objs.size,[c.heap.objs.size],_,_,f,rfl,d.kept (t':=c.toks) λb o e=>PC _ e,Og a _,⟨_,PQ _ rfl,rfl,rfl⟩,λb g=>?_,q hz⟩;have e:b=c.heap.objs.size:=⇑g;subst e;exact d.ly (PE _) (d.aG.fresh (PE _))
 .subst e;cases k;obtain⟨its,t,p,hz⟩:=d.tuple i;refine wpAny_pyIter_tuple (show c.heap.IsTuple a its.toArray from p) ?_;refine⟨c.heap.objs.size,[c.heap.objs.size],_,_,f,rfl,d.kept (t':=c.toks) λb o e=>PC _ e,Oi a _,⟨_,PQ _ rfl,rfl,rfl⟩,λb g=>?_,q hz⟩;have e:b=c.heap.objs.size:=⇑g;subst e;exact d.ly (PE _) (d.aG.fresh (PE _))
def yk{K:W.Frag}(f:∀b c,P b c->aE G b/\b8 K c a xs)(r:aK K G ds xs):hG K P (qY K a) ds where
 go:=λi b c h hi=>by
  obtain⟨_,q⟩:=f b c h;have m:i<xs.length:=(by rw[<- r.length];exact hi);exact⟨xs,xs[i],q,PG m⟩
 gW:=λi b c x o d h l k n=>by
  obtain⟨e,y⟩:=n;obtain⟨g,q⟩:=f b c h;subst e;obtain⟨v,j,h2⟩:=r.get k;have:=y xs q;rw[j]at this;cases this;exact⟨b,Ext.refl l,h2.mono g⟩
 stop:=λb c h=>⟨xs,(f b c h).2,by rw[r.length];exact PE _⟩
def G2{K:W.Frag}(f:∀b c,P b c->aE G b/\dT K c a xs)(r:aK K G ds xs):hG K P (qZ K a) ds where
 go:=λi b c h hi=>by
  obtain⟨_,q⟩:=f b c h;have m:i<xs.length:=(by rw[<- r.length];exact hi);exact⟨xs,xs[i],q,PG m⟩
 gW:=λi b c x o d h l k n=>by
  obtain⟨e,y⟩:=n;obtain⟨g,q⟩:=f b c h;subst e;obtain⟨v,j,h2⟩:=r.get k;have:=y xs q;rw[j]at this;cases this;exact⟨b,Ext.refl l,h2.mono g⟩
 stop:=λb c h=>⟨xs,(f b c h).2,by rw[r.length];exact PE _⟩
def tC{K:W.Frag}(r:aK K G ds xs)(h:xs.length<=V2):ds.length<=16777216:=by rw[r.length,<- V3];exact h
def LA(j:m=.view\/m=.val)(t:ai X l (ax xp X w m f)):eR X A l (gq xp X w m λn=>f n>>=λd=>ζ.cD d):=by
 rintro x s z H R I ⟨G,n,u,hw⟩;refine J5 t x s z H R I ?_;refine⟨G,n,u,aQ (aB.mp hw) (λd k v e i g h=>?_) λ_ q=>q⟩;cases d with
 |lst ds =>
  rcases j with rfl|rfl
  .obtain⟨a,xs,rfl,b,r⟩:=hE (X:=X) h;exact⟨a,xs,rfl,.inl ⟨b,λhz=>k _ e i g (yk (G:=e) (λo p ⟨c,h2⟩=>⟨c,fZ h2 b⟩) r) (tC r hz)⟩⟩
  .obtain⟨a,xs,rfl,b,r⟩:=h;exact⟨a,xs,rfl,.inl ⟨fZ g.sub b,λhz=>k _ e i g (yk (G:=e) (λo p ⟨c,h2⟩=>⟨c,fZ h2 (fZ c b)⟩) r) (tC r hz)⟩⟩
 |tup ds =>
  have h:Rep X.K e (.tup ds) v:=(by rcases j with rfl|rfl<;>exact h);obtain⟨a,xs,rfl,b,r⟩:=h;refine⟨a,xs,rfl,.inr ⟨fI g.sub b,λhz=>k _ e i g (G2 (G:=e) (λo p y=>?_) r) (tC r hz)⟩⟩;obtain⟨c,h2⟩:=y;rcases j with rfl|rfl
  .exact⟨c,A0 h2 (fI g.sub b)⟩
  .exact⟨c,A0 h2 (fI c b)⟩
 |_=>exact k.elim
def yl{K:W.Frag}{lo hi:Int}:hG K P (kR lo (hi-lo).toNat) (ζ.c6 lo hi) where
 go:=λi b c _ f=>by
  show i<(hi-lo).toNat;unfold ζ.c6 at f;simpa using f
 gW:=λi b c x l d _ h a j=>by
  obtain⟨e,y⟩:=j;subst e;unfold ζ.c6 at a;rw[PX]at a;cases q:(VR (hi-lo).toNat)[i]? with
  |none=>rw[q]at a;cases a
  |some k =>
   rw[q]at a;have g:k=i:=by
    have:=P5.mp q;obtain⟨_,e⟩:=this;rw[<- e];simp
   subst g;cases a;exact⟨b,Ext.refl h,y⟩
 stop:=λb c _=>by
  show(hi-lo).toNat<=_;unfold ζ.c6;simp
def uu{Q:List D->Prop}(h:aZ (ζ.gL i j) Q E):(-(2 ^ 62)<=i/\i<2 ^ 62/\-(2 ^ 62)<=j/\j<2 ^ 62)/\(ζ.c6 i j).length<=16777216/\Q (ζ.c6 i j):=by
 unfold ζ.gL at h;cases q:(ζ.ky i&&ζ.ky j&&decide ((j-i).toNat<=1000000)) with
 |false=>rw[q]at h;exact h.elim
 |true =>
  rw[q]at h;simp only[PB,ζ.ky,PM]at q;obtain⟨⟨⟨a1,a2⟩,a3,a4⟩,a5⟩:=q;refine⟨⟨⋯,⋯,⋯,⋯⟩,?_,h⟩;unfold ζ.c6;rw[VD,WZ];lia
def LP{x:VT}(o:x="range")(j:cn X x)(l:X.ak x=Y)(h:ai X a (ax xp X r .view g))(c:VX [a] X.env=[(VC,Wu a X.env)]):
  eR X z (.Call (.Name x p) [a] [] pos) (gq xp X r m λb=>g b>>=λd=>ζ.dB d>>=λi=>ζ.gL 0 i):=by
 subst o;rintro t s y H R I ⟨G,b,n,hw⟩;refine J3 j l (gn h c) c t s y H R I ?_;refine⟨G,b,n,aQ (aB.mp hw) (λd k v e f w u=>?_) λ_ q=>q⟩;have k:=aB.mp k;cases d with
 |int i =>
  obtain⟨⟨_,_,b1,b2⟩,hz,q⟩:=uu k;refine⟨i,by rw[bb.lS u],b1,b2,?_⟩;have:=q (kR 0 (i-0).toNat) e f w yl hz;rw[Int.sub_zero]at this;exact this
 |_=>exact k.elim
def LQ{x:VT}(C:x="range")(A:cn X x)(B:X.ak x=Y)(y:ai X a (ax xp X n .view u))(z:ai X b (ax xp X n .view w))(l:VX [a,b] X.env=[(VC,Wu a X.env),(VC,Wu b X.env)])(f:VX [b] X.env=[(VC,Wu b X.env)]):
  eR X S (.Call (.Name x p) [a,b] [] pos) (gq xp X n m λc=>u c>>=λd=>ζ.dB d>>=λi=>w c>>=λe=>ζ.dB e>>=λj=>ζ.gL i j):=by
 subst C;rintro E s O H R I ⟨G,c,h,hw⟩;refine J4 A B (hs y (gn z f) (by rw[l,f])) l f E s O H R I ?_;refine⟨G,c,h,aQ (aB.mp hw) (λd k v o Q g L=>?_) λ_ q=>q⟩;have k:=aB.mp k;cases d with
 |int i =>
  refine⟨o,c,h.ext g,aQ (aB.mp k) (λe k2 T r t N M=>?_) λ_ q=>q.mono g.h⟩;have k2:=aB.mp k2;cases e with
  |int j =>
   obtain⟨b1,hz,q⟩:=uu k2;refine⟨i,j,by rw[bb.lS L,bb.lS M],b1,?_⟩;exact q _ r t (g.trans N) yl hz
  |_=>exact k2.elim
 |_=>exact k.elim
end
section
variable{xp:bQ}{X:aq}{ae:List Nat}{m:dn}{f a6 bL:aD->aY D}{l a b eE:VY}{pos p:Xj}{pins:List (VO×WW)}{σ:aN}{G H:ah}{s:VI}
theorem BK:∀{bs:List Bool}{c:List VE},Vals (bs.map V.ag) c->c=bs.map WN
 |[],_,r=>by cases r;rfl
 |b::bs,_,r=>by
  cases r with
  |cons d e=>rw[BK e,(show _=WN b from d)];rfl
def range_getD(bs):(VR bs.length).map (λi=>bs.getD i VC)=bs:=by
 apply RI;intro i;rw[PX]
 by_cases h:i<bs.length
 .rw[Sl h];simp[WG,h]
 .rw[Qb ⇑h,Qb ⇑h];rfl
def any_range(bs:List Bool):(VR bs.length).any (λi=>bs.getD i VC)=bs.any id:=by
 conv=>rhs;rw[<- range_getD bs]
 rw[List.any_map];rfl
def uA(e:aE G H)(c:View X.K G H d x){Q:List D->Prop}(h:aZ (ζ.cD d) Q E):∃ds a xs,x=.ref a/\(b8 X.K H a xs\/dT X.K H a xs)/\aK X.K G ds xs/\Q ds:=by
 cases d with
 |tup ds =>
  obtain⟨a,ys,rfl,k,q⟩:=iU e c;exact⟨ds,a,ys,rfl,.inr k,q,h⟩
 |lst ds =>
  obtain⟨a,ys,rfl,k,q⟩:=hE c;exact⟨ds,a,ys,rfl,.inl k,q,h⟩
 |_=>exact h.elim
end
section
def Ga{lo hi:Option Int}(b:Z1 s.heap t a)(c:s.heap.IsSliceOf d l m .none)(j:Yb l lo)(k:Yb m hi)(hw:bM.aP a.size 0 lo=0/\bM.aP a.size a.size hi=a.size)(h:Q (.ref t) s):VJ (VM prog w) A (XE (.ref t) (.ref d)) Q E s:=by
 obtain⟨os,g,f,n⟩:=id c;have e:s.TypeIs (.ref d) "slice":=⟨os,g,f⟩;unfold XE
 try with_reducible refine QS ?_
 first|refine PA (VB ?_)|skip
 refine PA (wpAny_sequenceKey b.typeIs ∅ ?_);refine PA (Rc (name:=Xb "__getitem__") b.typeIs QM
  (QQ QM b.typeIs YV ?_ (args_tuple_getitem _ _)))
 show VJ _ _ (XI (.ref t)>>=_) _ _ s;refine PA (PyProof.Rows.tupleItemsOf_ b ?_);refine PA (R8 e ?_);rw[if_pos ∅];refine PA (bM.AN c j k ?_);have i:(((bM.aP a.size 0 lo:Nat):Int)==0&&(1:Int)==1&&(bM.aP a.size a.size hi-bM.aP a.size 0 lo)==a.size)=true:=by
  rw[hw.1,hw.2];simp
 show VJ _ _ (if (((bM.aP a.size 0 lo:Nat):Int)==0&&(1:Int)==1&&(bM.aP a.size a.size hi-bM.aP a.size 0 lo)==a.size)=J then _ else _) _ _ s;rw[if_pos i];unfold Builtin.Tuple.tupleIsExact;refine PA (PA (R8 b.typeIs (VB ?_)));rw[if_pos ∅];refine PA (Sz (VB ⟨_,rfl,VB h⟩))
end
section
variable{xp:bQ}{X:aq}{ae:List Nat}{m:dn}{f a6 bL:aD->aY D}{xB fh:aD->aY (Option Int)}{a b eE:VY}{lo hi:Option VY}{pos p p2:Xj}{pins:List (VO×WW)}{σ:aN}{G H:ah}{s:VI}
def qh(n d)(o):ζ.aP n d o=bM.aP n d o:=by
 cases o with
 |none=>rfl
 |some i =>
  simp only[ζ.aP,bM.aP]
  by_cases h:i<0
  .rw[if_pos h,if_pos h];split<;>lia
  .rw[if_neg h,if_neg h];split<;>lia
def wK{K:W.Frag}(r:aK K G ds xs)(lo hi):aK K G (ζ.cut ds lo hi) (ir xs lo hi):=by
 unfold ζ.cut ir;rw[qh,qh,r.length];exact(r.drop _).take _
abbrev mj(xp:bQ)(X:aq)(ae:List Nat)(f:aD->aY (Option Int)):ih:=λσ H Q =>
 ∃G e,cH X.K ae G H e σ/\aZ (f e) (λo=>∀g d,Ext G H g d->Q o d) (λc=>dy xp X c H)
def LG:hH X Y (mj xp X ae λ_=>.ok Y):=by
 rintro pins s σ H Q I ⟨G,d,c,hw⟩;exact Kb pins s σ H Q I (hw G H (Ext.refl c.sub))
def LJ(h:ai X a (ax xp X ae .view a6)):hH X (Z a) (mj xp X ae λc=>a6 c>>=λx=>ζ.dB x>>=λi=>.ok (Z i)):=by
 rintro pins s σ H Q I ⟨G,c,j,hw⟩;refine Kc h pins s σ H Q I ?_;refine⟨G,c,j,aQ (aB.mp hw) (λd k v e g n l=>?_) λ_ q=>q⟩;cases d with
 |int i=>exact⟨i,bb.lS l,k e g n⟩
 |_=>exact k.elim
def Kz(K:W.Frag):V->Option Int->Option Int->ah->cj->Prop:=λx lo hi H Q =>
 ∃G d,aE G H/\View K G H d x/\aZ (ζ.hy d lo hi) (λd'=>∀v e c,Ext G H e c->bb K H e c .fresh d' v->Q v c) (λ_=>False)
def Mm:mG X (λx lo hi H Q=>∃a xs,x=.ref a/\dT X.K H a xs/\(bM.aP xs.length 0 lo=0/\bM.aP xs.length xs.length hi=xs.length)/\Q (.ref a) H):=by
 intro pins s σ H x v n o lo hi l Q I k e i j h;obtain⟨a,xs,rfl,g,hw,q⟩:=h;cases k;obtain⟨its,r,c,hz⟩:=I.tuple g;have d:its.toArray.size=xs.length:=by rw[PT];exact r.length.symm
 refine⟨"tuple",_,QM.lookup,c.typeIs,?_⟩;exact Ga c e i j (by rw[d];exact hw) ⟨.ref a,H,I,rfl,q⟩
def D4{ds:List D}{lo hi:Option Int}(h:bM.aP ds.length 0 lo=0/\bM.aP ds.length ds.length hi=ds.length):ζ.cut ds lo hi=ds:=by
 unfold ζ.cut;rw[qh,qh,h.1,h.2];simp
def Ml:mG X (Kz X.K):=by
 rintro pins s σ H x v o q lo hi n Q I l h i j ⟨G,d,e,t,hw⟩;cases d with
 |tup ds =>
  obtain⟨a,xs,rfl,k,r⟩:=iU e t
  by_cases g:bM.aP xs.length 0 lo=0/\bM.aP xs.length xs.length hi=xs.length
  .refine Mm pins s σ H _ v o q lo hi n Q I l h i j ⟨a,xs,rfl,k,g,?_⟩;rw[ζ.qo,D4 (by rw[r.length];exact g)]at hw;exact hw _ G H (Ext.refl e) t
  .refine Mp pins s σ H _ v o q lo hi n Q I l h i j ⟨a,xs,rfl,k,g,λp c=>?_⟩;rw[ζ.qo]at hw;exact hw _ (upd G p (.tup (ir xs lo hi))) _ (Ext.put e c) ⟨p,_,rfl,b4,(wK r lo hi).mono (d8 (e.free c))⟩
 |lst ds =>
  obtain⟨a,xs,rfl,k,r⟩:=hE t;refine Mn pins s σ H _ v o q lo hi n Q I l h i j ⟨a,xs,rfl,k,λp c=>?_⟩;rw[ζ.AP]at hw;exact hw _ G _ (Ext.own e c λ_ z=>nomatch z) ⟨p,_,rfl,b4,c,e.free c,wK r lo hi⟩
 |_=>exact hw.elim
def Mo{d:D}{lo hi:Option Int}:ζ.hy d lo hi≠.exc c:=by cases d<;>simp[ζ.hy]
def LS(z:ai X a (ax xp X ae .view a6))(B:hH X lo (mj xp X ae xB))(A:hH X hi (mj xp X ae fh)):
  ai X (.Subscript a (.Slice lo hi Y p2) pos) (ax xp X ae .fresh λe=>a6 e>>=λx=>xB e>>=λl=>fh e>>=λh=>ζ.hy x l h):=by
 rintro pins s σ H Q I ⟨G,e,n,hw⟩;refine JS Ml z B A pins s σ H Q I ?_;refine⟨G,e,n,aQ (aB.mp hw) (λy C v o O g E=>?_) λ_ q=>q⟩;refine⟨o,e,n.ext g,aQ (aB.mp C) (λl k r R i=>?_) λ_ q=>q.mono g.h⟩;refine⟨r,e,(n.ext g).ext i,aQ (aB.mp k) (λh k2 t S j=>?_) λ_ q=>(q.mono g.h).mono i.h⟩;refine⟨t,y,j.sub,View.ext j (View.ext i E),?_⟩;exact aQ (jI k2 (λc=>Mo)) (λd q M u w N L=>q M u w (((g.trans i).trans j).trans N) (((L.old j.h).old i.h).old g.h)) λ_ q=>q
end
section
def vC(prog:Wa)(w:Wm)(A:Wc)(a:List VE)(d:VI)(Q:VE->VI->Prop):Prop :=
 ∃(κ:W9)(lt:Nat->Nat->Bool),Tm.Ord lt/\(∀i j,i<a.length->j<a.length->a.getD i Value.none=a.getD j Value.none->∀k,lt i k=lt j k/\lt k i=lt k j)/\a.length<1000 /\
   (2<=a.length->∀(h':V9),(∀b o,d.heap.get? b=Z o->h'.get? b=Z o)->∀e:W9->VI->Prop,e κ { d with heap:=h' }->VJ (VM prog w) A (keyKind' a.toArray) e (λ_ _=>False) { d with heap:=h' }) /\
   (2<=a.length->∀(h':V9),(∀b o,d.heap.get? b=Z o->h'.get? b=Z o)->∀(i j:Nat)(C:Bool->VI->Prop),i<a.length->j<a.length->C (lt i j) { d with heap:=h' }->PySem.W.kas_ask prog w A κ a i j C { d with heap:=h' }) /\
   ∀p:List Nat,p.Perm (VR a.length)->p.Pairwise (λi j=>lt j i=VC)->∀(h':V9)(c:Nat),(∀b o,d.heap.get? b=Z o->h'.get? b=Z o)->h'.get? d.heap.objs.size=Z (WR "list" (p.map λi=>a.getD i Value.none).toArray c)->Q (.ref d.heap.objs.size) { d with heap:=h' }
def qq(j:VJ (VM prog w) A.in1 (YU y) (λd a=>vC prog w A.in1.in1 d a Q) (λ_ _=>False) s):VJ (VM prog w) A (call (.builtin "sorted") [y]) Q E s:=by
 refine Calls.call_function_entry kind_sorted plain_sorted entry_sorted (args_sorted1 _) ?_;unfold WK.«sorted»;refine PA (m:=checkCount "sorted" 1 1 _) (VB ?_);refine PA (QP j (λd a x=>?_) λ_ _ z=>z.elim);obtain⟨κ,lt,i,v,h,r,l,u⟩:=x;refine PA (Vp ?_ (by rw[V3];lia));have f:(a.heap.push (WR "list" d.toArray 0)).get? a.heap.objs.size=Z (WR "list" d.toArray 0):=PQ _ rfl;have e:∀{h':V9},(∀b o,b≠a.heap.objs.size->(a.heap.push (WR "list" d.toArray 0)).get? b=Z o->h'.get? b=Z o)->∀b o,a.heap.get? b=Z o->h'.get? b=Z o:=λt b o q =>
  t b o (PY (PJ q)) (PC _ q)
 show VJ _ _ _ _ _ { a with heap:=a.heap.push (WR "list" d.toArray 0) };refine PA (QS (QQ slot_list_sort ⟨_,f,rfl⟩ entry_list_sort ?body (args_list_sort _)))
 case body =>
  refine Tm.H3 (s:={ a with heap:=a.heap.push (WR "list" d.toArray 0) }) (κ:=κ) (lt:=lt) i v f h (λh2 h' k g q=>?_) (λh2 h' k=>l h2 h' (e k)) λp p1 p2 h' c k n=>?_
  .exact QP (r h2 h' (e k) g q) (λ_ _ z=>z) λ_ _ z=>z.elim
  .exact⟨_,rfl,VB ⟨_,rfl,u p p1 p2 h' c (e k) n⟩⟩
end
noncomputable abbrev cm(c:List Int):D:=ar.af c
def ints_of{ds:List D}(h:ds.all (ζ.dY 0)=J):∃ns:List Int,ds=ns.map ζ.D.int:=pN h
theorem od:∀{ds:List D},ds.all ζ.hV=J->∃a:List (List Int),ds=a.map cm/\∀k∈a,k≠[]
 |[],_=>⟨[],rfl,by simp⟩
 |d::ds,h=>by
  simp only[WS,PB]at h;obtain⟨a,rfl,f⟩:=od h.2;cases d with
  |tup xs =>
   cases xs with
   |nil=>cases h.1
   |cons x xs =>
    have b:(ζ.dY 0 x&&xs.all (ζ.dY 0))=true:=h.1;have b:(x::xs).all (ζ.dY 0)=true:=b;obtain⟨ns,e⟩:=pN b;refine⟨ns::a,by rw[e];rfl,λk c=>?_⟩;rcases PF.mp c with rfl|c
    .rintro rfl;cases e
    .exact f k c
  |_=>cases h.1
section
theorem Br{y:aN}(I:Inv X A y H s)(d:aE G H):∀{b:List (List Int)}{xs:List V}{g:List VE},(∀k∈b,k≠[])->aK X.K G (b.map cm) xs->Vals xs g->fb.gx s.heap g b
 |[],_,_,_,r,v=>by cases r;cases v;exact trivial
 |k::b,_,_,c,⟨x,t,e,m,p⟩,v=>by
  subst e;cases v with
  |cons u w =>
   obtain⟨a,ys,rfl,h,q⟩:=m;cases u;obtain⟨its,f,⟨o,l,i,n,j⟩,_⟩:=I.tuple (fI d h);rw[gK q]at f;exact⟨⟨a,o,its.toArray,n,rfl,l,i,j,by simpa using intsAre_of f,c k VF⟩,Br I d (λz hz=>c z (VG _ hz)) p w⟩
theorem Ae{K:W.Frag}(r:aK K G ds xs)(v:Vals xs a):∀{p:List Nat},(∀i∈p,i<ds.length) ->
  ∃ys,aK K G (p.map λi=>ds.getD i .aW) ys/\Vals ys (p.map λi=>a.getD i Value.none)
 |[],_=>⟨[],rfl,.nil⟩
 |i::p,h=>by
  obtain⟨ys,b,h2⟩:=Ae r v (p:=p) λj c=>h j (VG _ c)
  have hi:=h i VF;have e:ds[i]?=Z (ds.getD i .aW):=(by rw[PG hi];simp[WG,PG hi]);obtain⟨y,k1,k2⟩:=r.get e;obtain⟨u,k3,d⟩:=v.get k1;have e2:a.getD i Value.none=u:=(by simp[WG,k3]);exact⟨y::ys,⟨y,ys,rfl,k2,b⟩,by rw[VK,e2];exact .cons d h2⟩
def Ag{K:W.Frag}{κ:Type}{f:κ->D}{lt:κ->κ->Bool}(L:ar.eQ lt)(h:∀a b,ζ.js (f a) (f b)=Z (lt a b))(z){c:List κ}(r:aK K G (c.map f) xs)(v:Vals xs g){p:List Nat}(d:p.Perm (VR g.length))(h2:p.Pairwise (λi j=>fb.ltI lt z c j i=VC)):
  ∃ys,aK K G (ζ.fs (c.map f)) ys/\Vals ys (p.map λi=>g.getD i Value.none):=by
 have k:g.length=c.length:=by rw[<- v.length,<- r.length,VD]
 rw[k]at d;rw[ar.h7 h,<- fb.Mx L z c d h2,VU];obtain⟨ys,k1,k2⟩:=Ae r v (p:=p) λi hi=>by
  have:=d.mem_iff.mp hi;rw[VD];simpa using this
 refine⟨ys,?_,k2⟩;have e:(p.map λi=>(c.map f).getD i .aW)=p.map (f ∘ λi=>c.getD i z):=by
  apply Q8;intro i hi;have hi:i<c.length:=(by simpa using d.mem_iff.mp hi);simp[WG,PX,PG hi]
 rw[<- e];exact k1
def qp{y:aN}(a0:X.A.handled=Y)(a1:X.A.units+64<Wy)(I:Inv X L y H s)(x:aE G H)(r:aK X.K G ds xs)(v:Vals xs d)(w:ζ.hX ds=J)(U:ds.length<=255)(k:∀v A m,Ext G H A m->bb X.K H A m .fresh (.lst (ζ.fs ds)) v->Q v m):vC X.prog X.w X.A.in1.in1 d s (cX X L y Q):=by
 have O:d.length=ds.length:=by rw[<- v.length,<- r.length]
 have fin:∀{l:List VE}{ys:List V}(h':V9)(c:Nat),aK X.K G (ζ.fs ds) ys->Vals ys l->l.length=d.length->(∀b o,s.heap.get? b=Z o->h'.get? b=Z o)->h'.get? s.heap.objs.size=Z (WR "list" l.toArray c)->cX X L y Q (.ref s.heap.objs.size) { s with heap:=h' }:=λ{l ys} h' c T M S g e=>by
  refine⟨.ref s.heap.objs.size,_,I.laid (t':=s.toks) (o:=.lst ys) g (PE _) ⟨by rw[M.length,S,O,V3];lia,l,c,M,e⟩,rfl,?_⟩;exact k _ G _ (Ext.own x I.fresh λ_ z=>nomatch z) ⟨_,ys,rfl,b4,I.fresh,x.free I.fresh,T⟩
 have E:∀{p:List Nat},p.Perm (VR d.length)->(p.map λi=>d.getD i Value.none).length=d.length:=λh=>by rw[VD,h.length_eq,WZ]
 unfold ζ.hX at w;rw[Rk]at w;rcases w with h|h
 .obtain⟨ns,rfl⟩:=ints_of h;have n:Wh d ns:=(by rw[gK r]at v;exact intsAre_of v);refine⟨oneType',fb.ltI ar.ltI 0 ns,fb.zk ar.ho 0 ns,fb.ze (fb.Hp n),⋯,λh2 h' _ N q=>fb.Hv n h2 q,λh2 h' _ i j C hi u q=>fb.CE n i j C hi u q,λp p1 p2 h' c g e=>?_⟩;obtain⟨ys,k1,k2⟩:=Ag ar.ho (f:=ζ.D.int) (λ_ _=>rfl) 0 r v p1 p2;exact fin h' c k1 k2 (E p1) g e
 .obtain⟨B,rfl,R⟩:=od h;have t:=Br I x R r v;refine⟨tuples' J,fb.ltI ar.lexLt [] B,fb.zk ar.eW [] B,fb.ze (fb.Hu t),⋯,λh2 h' k N q=>fb.Hw (s:={ s with heap:=h' }) (t.kept k) h2 q,λh2 h' k i j C hi u q=>fb.CF (s:={ s with heap:=h' }) (t.kept k) i j C hi u q,λp p1 p2 h' c g e=>?_⟩;obtain⟨ys,k1,k2⟩:=Ag ar.eW (f:=cm) (λa b=>ar.jt a b) [] r v p1 p2;exact fin h' c k1 k2 (E p1) g e
end
section
def BU{ds:List D}{Q:D->Prop}(h:aZ (ζ.sorted ds) Q E):ζ.hX ds=J/\ds.length<=255/\Q (.lst (ζ.fs ds)):=by
 unfold ζ.sorted at h;cases q:(ζ.hX ds&&decide (ds.length<=255)) with
 |false=>rw[q]at h;exact h.elim
 |true =>
  rw[q]at h;rw[PB,PM]at q;exact⟨q.1,q.2,h⟩
def FF(t:X.calm=J)(l:X.A.units+64<Wy):eu X (.builtin "sorted") (iP X.K .fresh λd=>ζ.cD d>>=λxs=>ζ.sorted xs):=by
 rintro m s n H xs y Q I r ⟨G,x,d,p,g,w,hw⟩;subst p;obtain⟨u,rfl,v⟩:=vals1 r;obtain⟨ds,a,ys,rfl,c,rs,hw⟩:=uA g w (aB.mp hw);obtain⟨k,i,hw⟩:=BU hw;have j:X.A.handled=none:=I.ok.hd t;cases v;rcases c with c|c
 .obtain⟨its,e,h,hz⟩:=I.list c;refine qq (collect_list h.isList ?_ (by rw[<- e.length];exact hz));have f:Inv X m n H { s with heap:=(s.heap.push (WR "list" #[] 0)).update s.heap.objs.size (Wo (·++its.toArray)) }:=I.kept (t':=s.toks) λb o q=>(Qa _ _ (QG (PY (PJ q)))).trans (PC _ q)
  exact qp j l f g rs e k i hw
 .obtain⟨its,e,h,hz⟩:=I.tuple c;refine qq (Pv.DU (show s.heap.IsTuple a its.toArray from h) ?_ (by rw[<- e.length];exact hz));have f:Inv X m n H { s with heap:=(s.heap.push (WR "list" #[] 0)).update s.heap.objs.size (Wo (·++its.toArray)) }:=I.kept (t':=s.toks) λb o q=>(Qa _ _ (QG (PY (PJ q)))).trans (PC _ q)
  exact qp j l f g rs e k i hw
end
structure b7(K:W.Frag)(ae:List Nat)(bB aX G H:ah)(aa:aD)(σ:aN):Prop where
 aV:cH K ae G H aa σ
 ext:Ext bB aX G H
 own:∀(i:Nat)(d:D)(a:VO),aa[i]?=Z (Z d)->eV d=J->i∈ae->σ[i]?=Z (Z (V.ref a))->aX a=Y
def fR(K:W.Frag)(e:List Nat)(a b:ah)(T:Ends):ζ.cK->Prop
 |.aR f=>∀c G H,b7 K e a b G H f c->T.aR c H
 |.bH d=>∀v G H,Ext a b G H->Rep K G d v->T.bH v H
def bS(xp:bQ)(X:aq)(d:List Nat)(f:aD->aY ζ.cK):eG:=λT g H =>
 ∃b a G e,b7 X.K d b a G H e g/\aZ (f e) (fR X.K d b a T) (λc=>dy xp X c a)
def c4{α:Type}{l:List α}{a:α}(h:i≠j):(l.set i a)[j]?=l[j]?:=R6 h
def get_eq{α:Type}{l:List α}{a b:α}(h:(l.set i a)[i]?=Z b):i<l.length/\b=a:=by
 rw[List.getElem?_set_self']at h;cases q:l[i]? with
 |none=>rw[q]at h;cases h
 |some c=>rw[q]at h;exact⟨(P5.mp q).1,(Ql h).symm⟩
def n0{α:Type}{l:List α}{a:α}(h:i<l.length):(l.set i a)[i]?=Z a:=by simp[h]
section
variable{K:W.Frag}{ae:List Nat}{bB aX G H cq aC:ah}{aa:aD}{σ:aN}{i:Nat}{d:D}{v:V}
def cH.jB(h:cH K ae G H aa σ)(g:i∉ae)(r:Rep K G d v):cH K ae G H (aa.set i (Z d)) (σ.set i (Z v)) where
 len:=by rw[R5,R5];exact h.len
 sub:=h.sub
 val:=λj e q f=>by
  by_cases c:i=j
  .subst c;obtain⟨l,h2⟩:=get_eq q;cases h2;exact⟨v,n0 (by rw[<- h.len];exact l),r⟩
  .rw[c4 c]at q ⊢;exact h.val j e q f
 own:=λj e q f m=>by
  have c:i≠j:=λz=>g (z▸f)
  rw[c4 c]at q ⊢;exact h.own j e q f m
 lst:=λj e q f m=>by
  have c:i≠j:=λz=>g (z▸f)
  rw[c4 c]at q;obtain⟨a,o,l,h2⟩:=h.lst j e q f m;exact⟨a,o,by rw[c4 c];exact l,h2⟩
 c7:=h.c7
 apart:=λj k d e a b p s u w f n x e1 e2=>by
  have c:i≠j:=λz=>g (z▸f)
  have t:i≠k:=λz=>g (z▸n)
  rw[c4 c]at p e1;rw[c4 t]at s e2;exact h.apart j k d e a b p s u w f n x e1 e2
def cH.set_own(h:cH K ae G H aa σ)(x:i∈ae)(p:eV d=VC)(r:Rep K G d v):cH K ae G H (aa.set i (Z d)) (σ.set i (Z v)) where
 len:=by rw[R5,R5];exact h.len
 sub:=h.sub
 val:=λj e q f=>by
  have c:i≠j:=λz=>f (z▸x)
  rw[c4 c]at q ⊢;exact h.val j e q f
 own:=λj e q f l=>by
  by_cases c:i=j
  .subst c;obtain⟨g,h2⟩:=get_eq q;cases h2;exact⟨v,n0 (by rw[<- h.len];exact g),r⟩
  .rw[c4 c]at q ⊢;exact h.own j e q f l
 lst:=λj e q f l=>by
  by_cases c:i=j
  .subst c;obtain⟨g,h2⟩:=get_eq q;cases h2;rw[p]at l;cases l
  .rw[c4 c]at q;obtain⟨a,o,g,h2⟩:=h.lst j e q f l;exact⟨a,o,by rw[c4 c];exact g,h2⟩
 c7:=h.c7
 apart:=λj k d e a b s t m n f w y e1 e2=>by
  have c:i≠j:=λz=>by subst z;obtain⟨g,h2⟩:=get_eq s;cases h2;rw[p]at m;cases m
  have u:i≠k:=λz=>by subst z;obtain⟨g,h2⟩:=get_eq t;cases h2;rw[p]at n;cases n
  rw[c4 c]at s e1;rw[c4 u]at t e2;exact h.apart j k d e a b s t m n f w y e1 e2
def cH.Mf(h:cH K ae G H aa σ)(I:i∈ae)(E:eV d=J)(C:H a=Z o)(B:G a=Y)(r:g0 K G d o)(x:∀(j:Nat)(e:D),j≠i->j∈ae->eV e=J->aa[j]?=Z (Z e)->σ[j]?≠Z (Z (V.ref a))):cH K ae G H (aa.set i (Z d)) (σ.set i (Z (.ref a))) where
 len:=by rw[R5,R5];exact h.len
 sub:=h.sub
 val:=λj e q g=>by
  have c:i≠j:=λz=>g (z▸I)
  rw[c4 c]at q ⊢;exact h.val j e q g
 own:=λj e q g n=>by
  by_cases c:i=j
  .subst c;obtain⟨l,h2⟩:=get_eq q;cases h2;rw[E]at n;cases n
  .rw[c4 c]at q ⊢;exact h.own j e q g n
 lst:=λj e q g n=>by
  by_cases c:i=j
  .subst c;obtain⟨l,h2⟩:=get_eq q;cases h2;exact⟨a,o,n0 (by rw[<- h.len];exact l),C,B,r⟩
  .rw[c4 c]at q;obtain⟨b,L,l,h2⟩:=h.lst j e q g n;exact⟨b,L,by rw[c4 c];exact l,h2⟩
 c7:=h.c7
 apart:=λj k e f b A p s t u g w y e1 e2=>by
  by_cases c:i=j
  .subst c;have m:i≠k:=y;obtain⟨l,h2⟩:=get_eq e1;cases h2;rw[c4 m]at s e2;intro z;exact x k f (QG m) w u s (by rw[z];exact e2)
  .by_cases m:i=k
   .subst m;obtain⟨l,h2⟩:=get_eq e2;cases h2;rw[c4 c]at p e1;intro z;exact x j e (QG c) g t p (by rw[<- z];exact e1)
   .rw[c4 c]at p e1;rw[c4 m]at s e2;exact h.apart j k e f b A p s t u g w y e1 e2
def g0.nt:∀{d:D},g0 K G d o->∀xs,o≠.tup xs
 |.lst _,⟨_,e,_⟩,_,z=>by rw[e]at z;cases z
 |.aI _,e,_,z=>by rw[show o=_ from e]at z;cases z
 |.aO _,⟨_,e,_⟩,_,z=>by rw[e]at z;cases z
def b7.step(h:b7 K ae bB aX G H aa σ)(x:Ext G H cq aC):b7 K ae bB aX cq aC aa σ:=⟨h.aV.ext x,h.ext.trans x,h.own⟩
theorem b7.jB(h:b7 K ae bB aX G H aa σ)(f:i∉ae)(r:Rep K G d v):b7 K ae bB aX G H (aa.set i (Z d)) (σ.set i (Z v)) :=
 ⟨h.aV.jB f r,h.ext,λj e a q g b z=>by
  have c:i≠j:=λz=>f (z▸b)
  rw[c4 c]at q z;exact h.own j e a q g b z⟩
def b7.n1(h:b7 K ae bB aX G H aa σ)(x:Ext G H cq aC)(n:i∈ae)(l:eV d=J)(k:aC a=Z o)(h2:H a=Y)(h3:cq a=Y)(r:g0 K cq d o):b7 K ae bB aX cq aC (aa.set i (Z d)) (σ.set i (Z (.ref a))):=by
 have h':=h.step x;refine⟨h'.aV.Mf n l k h3 r λj e g m f q z=>?_,h'.ext,λj e b q f g z=>?_⟩
 .obtain⟨b,s,k1,k2,k3,p⟩:=h.aV.lst j e q m f;rw[k1]at z;cases z;rw[h2]at k2;cases k2
 .by_cases c:i=j
  .subst c;obtain⟨_,w⟩:=get_eq z;cases w;exact h.ext.h.free h2
  .rw[c4 c]at q z;exact h.own j e b q f g z
def b7.AI(h:b7 K ae bB aX G H aa σ)(x:Ext G H cq aC)(k:i∈ae)(r:bb K H cq aC .fresh d v):b7 K ae bB aX cq aC (aa.set i (Z d)) (σ.set i (Z v)):=by
 have l:eV d=VC->Rep K cq d v->b7 K ae bB aX cq aC (aa.set i (Z d)) (σ.set i (Z v)):=λg r=>by
  refine⟨(h.step x).aV.set_own k g r,(h.step x).ext,λj e b q f n z=>?_⟩
  by_cases c:i=j
  .subst c;obtain⟨_,w⟩:=get_eq q;cases w;rw[g]at f;cases f
  .rw[c4 c]at q z;exact h.own j e b q f n z
 cases d with
 |lst ds =>
  obtain⟨a,xs,rfl,m,h2,h3,h4⟩:=r;exact h.n1 x k rfl m h2 h3 ⟨xs,rfl,h4⟩
 |aI o=>exact r.elim
 |aO o=>exact r.elim
 |_=>exact l rfl r
def b7.write (h : b7 K ae bB aX G H aa σ) (x : i ∈ ae) (q : aa[i]? = Z (Z d)) (t : eV d = J) (N : eV e = J) (z : σ[i]? = Z (Z (V.ref a))) (A : G a = Y) (r : g0 K G e s) :
    b7 K ae bB aX G (upd H a s) (aa.set i (Z e)) σ := by
  have h0 : aX a = none := h.own i d a q t x z
  have hi : i < aa.length := (P5.mp q).1
  have a0 : ∀ (j : Nat) (f : D), j ≠ i -> j ∈ ae -> eV f = J -> aa[j]? = Z (Z f) -> σ[j]? ≠ Z (Z (V.ref a)) := fun j f m Q u a5 p => h.aV.apart j i f d a a a5 q u t Q x m p z rfl
  have C : aE G (upd H a s) := fun b o z => by
    have : b ≠ a := fun w => by rw [w, A] at z; cases z
    rw [bk this]; exact h.aV.sub b o z
  have B : cH K ae G (upd H a s) (aa.set i (Z e)) σ := by
    refine ⟨by rw [R5]; exact h.aV.len, C, fun j f l m => ?_, fun j f l m n => ?_, fun j f l m n => ?_, fun b xs w => ?_, fun j k f g b E a1 a3 I L m R U e1 e2 => ?_⟩
    · have c : i ≠ j := fun z => m (z ▸ x)
      rw [c4 c] at l; exact h.aV.val j f l m
    · by_cases c : i = j
      · subst c
        obtain ⟨_, w⟩ := get_eq l
        cases w
        rw [N] at n; cases n
      · rw [c4 c] at l; exact h.aV.own j f l m n
    · by_cases c : i = j
      · subst c
        obtain ⟨_, w⟩ := get_eq l
        cases w
        exact ⟨a, s, z, b4, A, r⟩
      · rw [c4 c] at l
        obtain ⟨b, X, k1, k2, k3, S⟩ := h.aV.lst j f l m n
        have : b ≠ a := fun w => a0 j f (QG c) m n l (by rw [k1, w])
        exact ⟨b, X, k1, by rw [bk this]; exact k2, k3, S⟩
    · by_cases c : b = a
      · subst c; rw [b4] at w; cases w; exact absurd rfl (r.nt xs)
      · rw [bk c] at w; exact h.aV.c7 b xs w
    · have y : ∀ (k : Nat) (g : D), eV g = J -> (aa.set i (Z e))[k]? = Z (Z g) -> ∃ g', eV g' = J /\ aa[k]? = Z (Z g') := fun k g O z => by
        by_cases c : i = k
        · subst c; exact ⟨d, t, q⟩
        · rw [c4 c] at z; exact ⟨g, O, z⟩
      obtain ⟨M, T, a2⟩ := y j f I a1
      obtain ⟨g', m2, a4⟩ := y k g L a3
      exact h.aV.apart j k M g' b E a2 a4 T m2 m R U e1 e2
  refine ⟨B, ⟨h.ext.g, fun b o z => ?_, C, h.ext.new, fun b xs w => .inr (B.c7 b xs w)⟩, fun j f b l u m p => ?_⟩
  · have : b ≠ a := fun w => by rw [w, h0] at z; cases z
    rw [bk this]; exact h.ext.h b o z
  · by_cases c : i = j
    · subst c; rw [z] at p; cases p; exact h0
    · rw [c4 c] at l; exact h.own j f b l u m p
end
section
variable{xp:bQ}{X:aq}{ae:List Nat}{m:dn}{f a6 bL fc:aD->aY D}{g g1 g2:aD->aY ζ.cK}{a b c e eE:VY}{aw:List VY}{pos p1 p2 p3 p4:Xj}{st:Wl}{jC cQ cw:List Wl}{i:Nat}{x:VT}
def Au(t:i∉ae)(o:X.N.Nodup)(hi:X.N[i]?=Z x)(w:Loc X.env.scope x)(p:ai X e (ax xp X ae .val f))(u:Xa e (Z (.Name x p1)) pos.line X.env=pure VC)(r:X.fn x=J\/X.env.scope.names.lookup x=Z .local):
  bJ X (.Assign [.Name x p1] e pos) (bS xp X ae λh=>f h>>=λd=>.ok (.aR (h.set i (Z d)))):=by
 rintro y s B H T I ⟨C,E,G,h,j,hw⟩;refine lX o hi w p u r y s B H T I ?_;refine⟨G,h,j.aV,aQ (aB.mp hw) (λd k v l n A z=>?_) λ_ q=>q.mono j.ext.h⟩;exact k _ l n ((j.step A).jB t z)
def Av(t:i∈ae)(o:X.N.Nodup)(hi:X.N[i]?=Z x)(w:Loc X.env.scope x)(p:ai X e (ax xp X ae .fresh f))(u:Xa e (Z (.Name x p1)) pos.line X.env=pure VC)(r:X.fn x=J\/X.env.scope.names.lookup x=Z .local):
  bJ X (.Assign [.Name x p1] e pos) (bS xp X ae λh=>f h>>=λd=>.ok (.aR (h.set i (Z d)))):=by
 rintro y s B H T I ⟨C,E,G,h,j,hw⟩;refine lX o hi w p u r y s B H T I ?_;refine⟨G,h,j.aV,aQ (aB.mp hw) (λd k v l n A z=>?_) λ_ q=>q.mono j.ext.h⟩;exact k _ l n (j.AI A t z)
def Lq(o:ai X e (ax xp X ae .view f))(p:Xa e Y pos.line X.env=pure VC):bJ X (.Expr e pos) (bS xp X ae λh=>f h>>=λ_=>.ok (.aR h)):=by
 rintro r s u H T I ⟨w,y,G,h,j,hw⟩;refine ue o p r s u H T I ?_;refine⟨G,h,j.aV,aQ (aB.mp hw) (λd k v l n t z=>?_) λ_ q=>q.mono j.ext.h⟩;exact k _ l n (j.step t)
def LM(o:ai X e (ax xp X ae .val f)):bJ X (.Return (Z e) pos) (bS xp X ae λj=>f j>>=λd=>.ok (.bH d)):=by
 rintro p s u H T I ⟨w,y,G,j,h,hw⟩;refine qc o p s u H T I ?_;refine⟨G,j,h.aV,aQ (aB.mp hw) (λd k v l n t r=>?_) λ_ q=>q.mono h.ext.h⟩;exact k v l n (h.ext.trans t) r
def LO(l:i∈ae)(u:X.N[i]?=Z x)(v:dA X.env.scope x)(t:(x==("__debug__":VT))=VC)(h2:(x==("__classdict__":VT))=VC):
  bJ X (.Return (Z (.Name x p1)) pos) (bS xp X ae λj=>ζ.pL j[i]?>>=λd=>.ok (.bH d)):=by
 rintro B s p H T I ⟨r,k,G,j,h,hw⟩;refine qc (d7 u v t h2) B s p H T I ?_;dsimp only at hw;have A:∀ds,j[i]?=Z (Z (.lst ds))->fR X.K ae r k T (.bH (.lst ds))->kH i p H T.bH:=λds q hw=>by
  obtain⟨a,o,k1,k2,k3,xs,rfl,y⟩:=h.aV.lst i (.lst ds) q l rfl;refine⟨_,k1,?_⟩;have h0:k a=none:=h.own i (.lst ds) a q rfl l k1;refine hw _ (upd G a (.lst xs)) H ⟨h.ext.g.trans (d8 k3),h.ext.h,λb o z=>?_,λb C n=>?_,λb xs z=>.inr (d8 k3 _ _ (h.aV.c7 b xs z))⟩ ⟨a,xs,rfl,.inl (.inl b4),y.mono (d8 k3)⟩
  .by_cases c:b=a
   .subst c;rw[b4]at z;rw[k2];exact z
   .rw[bk c]at z;exact h.aV.sub b o z
  .have:b≠a:=λw=>n (by rw[w];exact h0)
   rw[bk this];exact h.ext.new b C n
 cases q:j[i]? with
 |none=>rw[q]at hw;exact hw.elim
 |some o =>
  cases o with
  |none=>rw[q]at hw;exact hw.elim
  |some d =>
   rw[q]at hw;cases d with
   |lst ds=>exact A ds q hw
   |_=>exact hw.elim
abbrev AF(g1 g2:aD->aY ζ.cK):aD->aY ζ.cK:=λh=>g1 h>>=λr=>match r with
 |.aR j=>g2 j
 |.bH d=>.ok (.bH d)
def LU:dh X [] (bS xp X ae λd=>.ok (.aR d)):=by
 rintro k s h H T I ⟨l,n,G,d,j,hw⟩;exact zT k s h H T I (hw h G H j)
def LR(n:bJ X st (bS xp X ae g1))(h2:dh X jC (bS xp X ae g2)):dh X (st::jC) (bS xp X ae (AF g1 g2)):=by
 rintro t s w H T I ⟨h,j,G,u,o,hw⟩;refine uf n h2 t s w H T I ?_;refine⟨h,j,G,u,o,aQ (aB.mp hw) (λr k=>?_) λ_ q=>q⟩;cases r with
 |aR v=>exact λz l y p=>⟨h,j,l,v,p,k⟩
 |bH d=>exact k
def Ly(u:cG X c (eN xp X ae fc))(r:dh X cQ (bS xp X ae g1))(t:dh X cw (bS xp X ae g2)):bJ X (.If c cQ cw pos) (bS xp X ae λh=>fc h>>=λx=>ζ.ez x>>=λk=>if k then g1 h else g2 h):=by
 rintro w s y H T I ⟨l,o,G,h,j,hw⟩;refine zS u r t w s y H T I ?_;refine⟨G,h,j.aV,?_⟩;refine aB.mpr (aQ (aB.mp hw) (λd k=>aQ (aB.mp k) (λv q n z p=>?_) λ_ q=>q.mono j.ext.h) λ_ q=>q.mono j.ext.h);cases v with
 |true=>simp only[QI]at q ⊢;exact⟨l,o,n,h,j.step p,q⟩
 |false=>simp only[PD,PZ]at q ⊢;exact⟨l,o,n,h,j.step p,q⟩
end
theorem lD:∀{a:List VE}{k:List Int},Wh a k->ItemsAre (ZY prog w) k a
 |_,_,.nil=>.nil
 |_,_,.cons n t r=>.cons (by show Xr n (.int n t)=J;simp[Xr]) (lD r)
theorem rl:∀{k:List Int}{a:List VE},ItemsAre (ZY prog w) k a->Wh a k
 |_,_,.nil=>.nil
 |_,_,.cons h r=>by
  obtain⟨t,rfl⟩:=Ur h;exact .cons _ t (rl r)
theorem tq:∀{c:List VE}{a b:List Int},Wh c a->Wh c b->a=b
 |_,_,_,.nil,.nil=>rfl
 |_,_,_,.cons n t r,.cons _ _ q=>by rw[tq r q]
def tM{κ:Type}[DecidableEq κ](a:List κ)(h:i<=a.length):(Pv.met a i).length<=(ar.bF a).length :=
 ar.gm (Pv.nH a i) λz hz=>(ar.fo z a).mpr (TX ((Pv.lP a i h z).mp hz))
def Mg{κ:Type}[DecidableEq κ]{lt:κ->κ->Bool}(L:ar.eQ lt){b r a:List κ}(c:b.Perm r)(h2:r.Perm (Pv.met a a.length)):ar.br lt b=ar.br lt (ar.bF a):=by
 have h:=c.trans h2;have d:b.Nodup:=h.nodup_iff.mpr (Pv.nH a _);refine ar.ij L (ar.g5 L d) (ar.g5 L (ar.hr a)) λz=>?_
 rw[ar.fX,ar.fX,ar.fo,h.mem_iff,Pv.lP a _ (PE _),UU]
def Me{κ:Type}[DecidableEq κ]{b r a:List κ}(c:b.Perm r)(h2:r.Perm (Pv.met a a.length)):b.length<=(ar.bF a).length:=by
 rw[(c.trans h2).length_eq];exact tM a (PE _)
def ym(h:Z0 P a l.length)(b:∀i v,P i v->l[i]?=Z v):a.toList=l:=by
 obtain⟨d,h2⟩:=h;apply RI;intro i
 by_cases hi:i<l.length
 .have c:i<a.size:=⋯;have e:a[i]?=Z a[i]:=PK c;have:=b i _ (h2 i _ e);rw[this];simpa using e
 .rw[Qb (by simp;lia),Qb ⋯]
section
variable{X:aq}{pins:List (VO×WW)}{σ:aN}{G H:ah}{s:VI}
def i3(K:W.Frag)(G:ah)(v:VE):Prop:=∃b k,v=.ref b/\Rep K G (cm k) (V.ref b)
theorem uv(I:Inv X pins σ H s)(c:aE G H):∀{b:List (List Int)}{xs:List V}{g:List VE},aK X.K G (b.map cm) xs->Vals xs g->Paired ((Pv.tw (i3 X.K G) X.prog X.w).Row s.heap) g b
 |[],_,_,r,v=>by cases r;cases v;exact .nil
 |k::b,_,_,w,v=>by
  obtain⟨x,t,e,d,m⟩:=w;subst e;cases v with
  |cons p u =>
   obtain⟨a,ys,rfl,h,q⟩:=id d;cases p;obtain⟨its,f,⟨o,l,i,n,j⟩,_⟩:=I.tuple (fI c h);rw[gK q]at f;exact .cons ⟨a,rfl,⟨o,its.toArray,n,l,i,j,lD (by simpa using intsAre_of f)⟩,a,k,rfl,d⟩ (uv I c m u)
theorem uC(I:Inv X pins σ H s)(i:aE G H):∀{c:List (Int×VE)}{d:List (List Int)},Paired (λe k=>Pv.ew X.prog X.w s.heap e k/\i3 X.K G e.2) c d->∃xs,aK X.K G (d.map cm) xs/\Vals xs (c.map (·.2))
 |_,_,.nil=>⟨[],rfl,.nil⟩
 |e::c,k::d,.cons B t=>by
  obtain⟨⟨b,e1,_,o,L,n,x,E,u,v⟩,C,y,e2,r⟩:=B;obtain⟨xs,z,A⟩:=uC I i t;rw[e1]at e2;injection e2 with e2;subst e2;have w:y=k:=by
   obtain⟨a,ys,m,h,q⟩:=id r;cases m;obtain⟨its,j,⟨N,g,_,M,f⟩,_⟩:=I.tuple (fI i h);rw[x]at g;cases g;rw[u]at f;injection f with l _;rw[gK q]at j;have p:=intsAre_of j;have h2:=rl v;rw[l]at h2;exact tq ⇑p ⇑h2
  subst w;exact⟨V.ref b::xs,⟨_,_,rfl,r,z⟩,by rw[VK,e1];exact .cons rfl A⟩
end
section
variable{xp:bQ}{X:aq}{ae:List Nat}{m:dn}{f:aD->aY D}{e:VY}{pos pos' p zo:Xj}{x y:VT}{pins:List (VO×WW)}{σ:aN}{G H:ah}{s:VI}
def OW{ds:List D}{Q:D->Prop}(h:aZ (ζ.ee ds) Q E):ds.all ζ.hV=J/\(ζ.gf ds).length<=255/\Q (.lst (ζ.fs (ζ.gf ds))):=by
 unfold ζ.ee at h;cases q:(ds.all ζ.hV&&decide ((ζ.gf ds).length<=255)) with
 |false=>rw[q]at h;exact h.elim
 |true =>
  rw[q]at h;simp only[PB,PM]at q;exact⟨q.1,q.2,h⟩
def Inv.grown(I:Inv X pins σ H s)(g:Pv.oy s s'):Inv X pins σ H s':=by
 obtain⟨h',g',d',b,a⟩:=s';obtain⟨k,e1,e2,e3⟩:=g;have e1:g'=s.gens:=e1;have e2:d'=s.drawn:=e2;have e3:a=s.os:=e3;subst e1 e2 e3;exact I.kept k
def AX(n:X.A.handled=Y)(L:X.A.units+64<Wy)(I:Inv X pins σ H s)(E:aE G H)(C:s.heap.get? a=Z o)(O:Pv.hI X.w o b c t)(r:aK X.K G ds xs)(v:Vals xs ((Pv.du X.w a b c).toList.map (·.2)))(B:ζ.hX ds=J)(u:ds.length<=255)(k:∀v j d,Ext G H j d->bb X.K H j d .fresh (.lst (ζ.fs ds)) v->Q v d):VJ (VM X.prog X.w) X.A (call (.builtin "sorted") [.ref a]) (cX X pins σ Q) X.bl s:=by
 have hsz:(Pv.du X.w a b c).size=b.size:=by have:=(Pv.ks X.w a b c).length_eq;simpa using this
 have N:b.size<=255:=by
  have h:=v.length;have h2:=r.length;simp only[VD,VH]at h;lia
 refine qq (Pv.DT (A:=X.A.in1) n C O (by rw[V3];lia) λs' q g w=>?_);have e:q.toList=(Pv.du X.w a b c).toList.map (·.2):=by
  refine ym (P:=λi v=>∃x,(Pv.du X.w a b c)[i]?=Z x/\v=x.2) (l:=(Pv.du X.w a b c).toList.map (·.2)) (by simpa[hsz] using w) λi v M=>?_
  obtain⟨z,h,h2⟩:=M;rw[PX,P2,h,h2];rfl
 rw[e];exact qp n L (Inv.grown I g) E r v B u k
def O0(B:X.calm=J)(a0:X.A.units+64<Wy)(I:Inv X pins σ H s)(l:aE G H)(b9:View X.K G H d z)(cy:RelV z u)(hw:aZ (ζ.cD d>>=λxs=>ζ.ee xs) (λd'=>∀v O A,Ext G H O A->bb X.K H O A .fresh d' v->Q v A) (λ_=>False)):
  VJ (VM X.prog X.w) X.A (call (.type "set") [u]) (λw da=>VJ (VM X.prog X.w) X.A (call (.builtin "sorted") [w]) (cX X pins σ Q) X.bl da) X.bl s:=by
 obtain⟨ds,a,ys,rfl,j,rs,hw⟩:=uA l b9 (aB.mp hw);obtain⟨b1,S,hw⟩:=OW hw;have U:X.A.handled=none:=I.ok.hd B;cases cy;obtain⟨its,k,T,a2,a3,a1,av,bc⟩:∃(its:List VE),Vals ys its/\∃T a2 a3 a1,(T="list"\/T="tuple")/\s.heap.get? a=Z { cls:=.type T,dict:=a2,data:=.seq its.toArray a1,slots:=a3 }:=by
  rcases j with j|j
  .obtain⟨its,k,⟨⟨cls,dd,data,N⟩,n,h,g,_,h3⟩,_⟩:=I.list j;simp only at g h3;subst g h3;exact⟨its,k,"list",dd,N,n,.inl rfl,h⟩
  .obtain⟨its,k,⟨⟨cls,dd,data,N⟩,h,g,n,h3⟩,_⟩:=I.tuple j;simp only at g h3;subst g h3;exact⟨its,k,"tuple",dd,N,n,.inr rfl,h⟩
 have bg:∀{h':V9}{tk:Nat},(∀b o,b<s.heap.objs.size->s.heap.get? b=Z o->h'.get? b=Z o)->Inv X pins σ H { s with heap:=h',toks:=tk }:=λC=>I.kept λb o q=>C b o (PJ q) q
 .obtain⟨L,rfl,b2⟩:=od b1;rw[ar.j6 (f:=cm) ar.gB]at S hw;rw[VD]at S;refine Pv.wh (Pv.tw (i3 X.K G) X.prog X.w) av U a0 bc (by simpa using uv I l rs k) (λi hi=>by have:=tM L (Qs hi);lia) λh' tk r au E C=>?_
  obtain⟨o,a5,a4,t,h,az,ay,d1,_,_,a9,aA,a8,cz⟩:=au;obtain⟨bf,M,bp⟩:=Pv.Paired.perm (Pv.ks X.w s.heap.objs.size a5 a4) a8;have R:Inv X pins σ H { s with heap:=h',toks:=tk }:=bg C;obtain⟨xs,bz,c0⟩:=uC R l bp;have e:ζ.fs (bf.map cm)=ζ.fs ((ar.bF L).map cm):=by
   rw[ar.h7 (f:=cm) (lt:=ar.lexLt) ar.jt,ar.h7 (f:=cm) (lt:=ar.lexLt) ar.jt,Mg ar.eW M E]
  refine AX (s:={ s with heap:=h',toks:=tk }) U a0 R l h ⟨az,ay,d1,a9,aA⟩ bz c0 ?_ ?_ (by rw[e];exact hw)
  .unfold ζ.hX;rw[ar.k8 λc B=>b2 c ?_,Tt];have:=((M.trans E).mem_iff).mp B;exact TX ((Pv.lP L _ (PE _) c).mp this)
  .rw[VD];have:=Me M E;lia
def LV(E:X.calm=J)(S:X.A.units+64<Wy)(U:x="sorted")(a0:y="set")(L:cn X x)(N:X.ak x=Y)(M:cn X y)(O:X.ak y=Y)(C:ai X e (ax xp X ae .view f))(o:VX [e] X.env=[(VC,Wu e X.env)]):
  ai X (.Call (.Name x p) [.Call (.Name y zo) [e] [] pos'] [] pos) (ax xp X ae .fresh λl=>f l>>=λd=>ζ.cD d>>=λxs=>ζ.ee xs):=by
 subst U a0;rintro pins s σ H Q I ⟨G,l,R,hw⟩;refine QY (fV I L N (u:=.builtin "sorted") (by kernel_rfl) ?_);refine RB ?_ rfl rfl;show VJ _ _ (Zj ((VC,Wu (.Call (.Name "set" zo) [e] [] pos') X.env)::[])) _ _ s;refine RA ?_;refine QY (fV I M O (u:=.type "set") (by kernel_rfl) ?_);refine Qm (aM (gn C o pos' pins s σ H (λr b=>∃v d a,r=[v]/\Ext G H a b/\View X.K a b d v/\aZ (ζ.cD d>>=λxs=>ζ.ee xs) (λd'=>∀v n h,Ext a b n h->bb X.K b n h .fresh d' v->Q v h) (λ_=>False)) I
  ⟨G,l,R,aQ (aB.mp hw) (λd k v a b g j=>?_) λ_ q=>q⟩) λaA az av=>?_) o rfl
 .refine⟨v,d,a,rfl,g,j,?_⟩;refine aQ (jI k λc=>?_) (λd' q a4 t A au a2=>q a4 t A (g.trans au) (a2.old g.h)) λ_ q=>q
  intro z;cases i:ζ.cD d with
  |ok ds=>rw[i]at z;have z:ζ.ee ds=.exc c:=z;unfold ζ.ee at z;split at z<;>cases z
  |exc ay=>cases d<;>cases i
  |bad=>rw[i]at z;cases z
 .obtain⟨r,b,B,j,a1⟩:=av;obtain⟨v,d,a,e1,g,a5,T⟩:=a1;subst e1;obtain⟨u,rfl,a3⟩:=vals1 j;refine aM (O0 E S B g.sub a5 a3 T) λw s2 h2=>?_
  exact R7 h2
end
def rj(c)(cs:List (List Int)):(cs.map cm).any (ζ.d3 (cm c))=decide (c∈cs):=by
 induction cs with
 |nil=>simp
 |cons a cs b =>
  rw[VK,Ws,b,show ζ.d3 (cm c) (cm a)=decide (c=a) from ar.gB c a]
  by_cases h:c=a<;>simp[h]
def xy(b bs:List (List Int)):(b.map cm).filter (λx=>!(bs.map cm).any (ζ.d3 x))=(b.filter λa=>!decide (a∈bs)).map cm:=by
 induction b with
 |nil=>rfl
 |cons a b c =>
  rw[VK,TN,TN,rj,c]
  by_cases h:a∈bs<;>simp[h]
def OX{x y:D}{Q:D->Prop}(h:aZ (ζ.kO x y) Q E):∃d bs:List (List Int),ζ.cD x=.ok (d.map cm)/\ζ.cD y=.ok (bs.map cm)/\(∀k∈d,k≠[])/\(∀k∈bs,k≠[])/\(ar.bF (d++bs)).length<=75
  /\ Q (.lst ((ar.br ar.lexLt (ar.bF (d.filter (λa=>!decide (a∈bs))++bs.filter λb=>!decide (b∈d)))).map cm)):=by
 unfold ζ.kO at h;have h:=aB.mp h;cases e1:ζ.cD x with
 |bad=>rw[e1]at h;exact h.elim
 |exc c=>cases x<;>cases e1
 |ok xs =>
  rw[e1]at h;have h:=aB.mp h;cases e2:ζ.cD y with
  |bad=>rw[e2]at h;exact h.elim
  |exc c=>cases y<;>cases e2
  |ok ys =>
   rw[e2]at h;have h:aZ (ζ.oo xs ys) Q E:=h;unfold ζ.oo at h;cases q:(xs.all ζ.hV&&ys.all ζ.hV&&decide ((ζ.gf (xs++ys)).length<=75)) with
   |false=>rw[q]at h;exact h.elim
   |true =>
    rw[q]at h;have h:Q (.lst (ζ.fs (ζ.gf (ζ.qO xs ys)))):=h;simp only[PB,PM]at q;obtain⟨d,rfl,e⟩:=od q.1.1;obtain⟨bs,rfl,g⟩:=od q.1.2;refine⟨d,bs,rfl,rfl,e,g,?_,?_⟩
    .have:=q.2;rw[<- VW,ar.j6 (f:=cm) ar.gB,VD]at this;exact this
    .unfold ζ.qO at h;rw[xy,xy,<- VW,ar.j6 (f:=cm) ar.gB,ar.h7 (f:=cm) (lt:=ar.lexLt) ar.jt]at h;exact h
section
variable{xp:bQ}{X:aq}{ae:List Nat}{f lx:aD->aY D}{e eU:VY}{p p1 p2 ug uh zX pos:Xj}{x y:VT}{pins:List (VO×WW)}{σ:aN}{G H:ah}{s:VI}
def BV(C:X.calm=J)(S:X.A.units+64<Wy)(I:Inv X pins σ H s)(q:aE G H)(a0:View X.K G H d z)(U:RelV z u)(L:ζ.cD d=.ok (j.map cm))(a1:(ar.bF j).length<=75)(h:∀(h':V9)(tk:Nat)(r:List (List Int)),Pv.gd (i3 X.K G) X.prog X.w h' s.heap.objs.size r->r.Perm (Pv.met j j.length)->(∀b o,s.heap.get? b=Z o->h'.get? b=Z o)->Q (.ref s.heap.objs.size) { s with heap:=h',toks:=tk }):
  VJ (VM X.prog X.w) X.A (call (.type "set") [u]) Q E s:=by
 obtain⟨ds,a,ys,rfl,g,rs,rfl⟩:=uA (Q:=λds=>j.map cm=ds) (E:=λ_=>False) q a0 (by rw[L];rfl);have M:X.A.handled=none:=I.ok.hd C;cases U;obtain⟨its,k,T,v,w,t,B,O⟩:∃(its:List VE),Vals ys its/\∃T v w t,(T="list"\/T="tuple")/\s.heap.get? a=Z { cls:=.type T,dict:=v,data:=.seq its.toArray t,slots:=w }:=by
  rcases g with g|g
  .obtain⟨its,k,⟨⟨cls,dd,data,m⟩,n,l,c,_,h3⟩,_⟩:=I.list g;simp only at c h3;subst c h3;exact⟨its,k,"list",dd,m,n,.inl rfl,l⟩
  .obtain⟨its,k,⟨⟨cls,dd,data,m⟩,l,c,n,h3⟩,_⟩:=I.tuple g;simp only at c h3;subst c h3;exact⟨its,k,"tuple",dd,m,n,.inr rfl,l⟩
 exact Pv.wh (Pv.tw (i3 X.K G) X.prog X.w) B M S O (by simpa using uv I q rs k) (λi hi=>by have:=tM j (Qs hi);lia) λh' tk r A R N=>h h' tk r A R λb o e=>N b o (PJ e) e
def Ey{S:aN}(I:Inv X pins σ H s)(Q:aE G H)(z:Inv X a1 S w s2)(R:aE m w)(g:aE G m)(h:Pv.ew X.prog X.w s.heap l k/\i3 X.K G l.2):Pv.ew X.prog X.w s2.heap l k/\i3 X.K m l.2:=by
 obtain⟨⟨b,e1,C,o,a0,n,O,U,L,M⟩,T,t,e2,r⟩:=h;rw[e1]at e2;injection e2 with e2;subst e2;obtain⟨a,ys,B,d,q⟩:=id r;cases B;have N:t=k:=by
  obtain⟨its,c,⟨v,j,_,u,i⟩,_⟩:=I.tuple (fI Q d);rw[O]at j;cases j;rw[L]at i;injection i with A _;rw[gK q]at c;have d:=intsAre_of c;have h2:=rl M;rw[A]at h2;exact tq ⇑d ⇑h2
 subst N;obtain⟨its,c,⟨v,j,E,u,i⟩,_⟩:=z.tuple (fI R (g _ _ d));rw[gK q]at c;exact⟨⟨b,e1,C,v,its.toArray,u,j,E,i,lD (by simpa using intsAre_of c)⟩,b,t,e1,Rep.mono g r⟩
def LX(E:X.calm=J)(a0:X.A.units+64<Wy)(lA:x="sorted")(ji:y="set")(gh:cn X x)(jh:X.ak x=Y)(bc:cn X y)(bg:X.ak y=Y)(e1:ai X e (ax xp X ae .view f))(e4:ai X eU (ax xp X ae .view lx))(c0:VX [e] X.env=[(VC,Wu e X.env)])(cA:VX [eU] X.env=[(VC,Wu eU X.env)])(kb:∀g c,lx g≠.exc c):
  ai X (.Call (.Name x p) [.BinOp (.Call (.Name y p1) [e] [] ug) .BitXor (.Call (.Name y p2) [eU] [] uh) zX] [] pos) (ax xp X ae .fresh λg=>f g>>=λd=>lx g>>=λd'=>ζ.kO d d'):=by
 subst lA ji;rintro pins s σ H Q I ⟨G,g,bz,hw⟩;have f0:X.A.handled=none:=I.ok.hd E;refine QY (fV I gh jh (u:=.builtin "sorted") (by kernel_rfl) ?_);refine RB ?_ rfl rfl;show VJ _ _ (Zj ((VC,Wu (.BinOp (.Call (.Name "set" p1) [e] [] ug) .BitXor (.Call (.Name "set" p2) [eU] [] uh) zX) X.env)::[])) _ _ s;refine RA ?_;refine wpAny_BinOp ?_;refine QY (fV I bc bg (u:=.type "set") (by kernel_rfl) ?_);refine Qm (aM (gn e1 c0 ug pins s σ H (λM i=>∃v d l,M=[v]/\Ext G H l i/\View X.K l i d v/\aZ (lx g>>=λd'=>ζ.kO d d') (λd'=>∀v N B,Ext G H N B->bb X.K H N B .fresh d' v->Q v B) (λc=>dy xp X c H)) I
  ⟨G,g,bz,aQ (aB.mp hw) (λd k v l i r a3=>⟨v,d,l,rfl,r,a3,k⟩) λ_ q=>q⟩) λhl j tj=>?_) c0 rfl
 obtain⟨M,i,C,a3,a2⟩:=tj;obtain⟨v,d,l,rfl,r,nk,A⟩:=a2;obtain⟨u,rfl,h0⟩:=vals1 a3;have A:=aB.mp A;obtain⟨d',e2⟩:∃d',lx g=.ok d':=by
  cases e2:lx g with
  |bad=>rw[e2]at A;exact A.elim
  |exc c=>exact absurd e2 (kb g c)
  |ok d'=>exact⟨d',rfl⟩
 rw[e2]at A;obtain⟨as,bs,jl,kf,kd,ke,R,n⟩:=OX A;have e3:(ar.bF as).length<=75:=PW (ar.gm (ar.hr as) λz hz=>by rw[ar.fo]at hz ⊢;exact VV _ hz) R;have e5:(ar.bF bs).length<=75:=PW (ar.gm (ar.hr bs) λz hz=>by rw[ar.fo]at hz ⊢;exact PO _ hz) R;refine BV E a0 C r.sub nk h0 jl e3 λO cp k1 eo f8 jj=>?_
 have S:Inv X pins σ i { j with heap:=O,toks:=cp }:=C.kept jj;obtain⟨kr,ea,dD,kg,hh,fj,b2,cB,cP,c2,dJ,dC,g2,bp⟩:=eo;have az:Inv X ((j.heap.objs.size,kr)::pins) σ i { j with heap:=O,toks:=cp }:=S.nT λq n=>by
  rcases PF.mp n with rfl|n
  .refine⟨hh,C.aG.fresh (PE _),QG (PY C.lt),C.nL (PE _),λv z=>?_⟩;dsimp only at z;rw[b2]at z;cases z
  .exact S.pin q (PO _ n)
 refine QY (fV az bc bg (u:=.type "set") (by kernel_rfl) ?_);refine Qm (aM (gn e4 cA uh _ _ σ i (λM m=>∃v w,M=[v]/\Ext l i w m/\View X.K w m d' v) az
  ⟨l,g,bz.ext r,by rw[e2];exact λv w m h a4=>⟨v,w,rfl,h,a4⟩⟩) λhl s2 ⟨M,m,T,a4,a2⟩=>?_) cA rfl
 obtain⟨yt,w,rfl,h,pn⟩:=a2;obtain⟨yr,rfl,h5⟩:=vals1 a4;refine BV E a0 T h.sub pn h5 kf e5 λh3 L k2 b1 hj cN=>?_
 have au:Inv X ((j.heap.objs.size,kr)::pins) σ m { s2 with heap:=h3,toks:=L }:=T.kept cN;have aA:s2.heap.get? j.heap.objs.size=Z kr:=(T.pin (j.heap.objs.size,kr) (PO _ VF)).1;have e0:Pv.gd (i3 X.K w) X.prog X.w h3 j.heap.objs.size k1:=⟨kr,ea,dD,kg,cN _ _ aA,fj,b2,cB,cP,c2,dJ,dC,Pv.Paired.mp (λyo k z=>Ey S r.sub au h.sub h.g z) g2,bp⟩;have a8:∀k,k∈k1<->k∈as:=λk=>by rw[f8.mem_iff,Pv.lP as _ (PE _),UU]
 have a9:∀k,k∈k2<->k∈bs:=λk=>by rw[hj.mem_iff,Pv.lP bs _ (PE _),UU]
 have f4:k2.Nodup:=by obtain⟨_,_,_,_,_,_,_,_,_,_,_,_,_,z⟩:=b1;exact z
 have yp:k2.length+(k1.filter λk=>!decide (k∈k2)).length<=75:=by
  rw[<- PI];refine PW (ar.gm (ys:=ar.bF (as++bs)) ?_ λz hz=>?_) R
  .refine Rv.mpr ⟨f4,bp.filter _,λa O b h2 z=>?_⟩;subst z;have:=(P4.mp h2).2;simp[O]at this
  .rw[ar.fo];rcases PS.mp hz with z|z
   .exact PO _ ((a9 _).mp z)
   .exact VV _ ((a8 _).mp (P4.mp z).1)
 refine Pv.O8 (s:={ s2 with heap:=h3,toks:=L }) ⋯ (PY (PJ aA)) e0 b1 ⋯ λh4 yq c px pz pA=>?_
 have jk:∀b o,h3.get? b=Z o->h4.get? b=Z o:=λb o e=>(px.2 b (PY (PJ e))).trans (PC _ e)
 have av:Inv X ((j.heap.objs.size,kr)::pins) σ m { s2 with heap:=h4,toks:=L }:=au.kept jk;have ay:Inv X pins σ m { s2 with heap:=h4,toks:=L }:=av.nT λq n=>av.pin q (PO _ (VG _ n))
 obtain⟨o,dV,dr,t,hg,fD,gg,d1,_,_,g3,f1,iA,bf⟩:=pz;obtain⟨a1,a5,pq⟩:=Pv.Paired.perm (Pv.ks X.w _ dV dr) iA;obtain⟨xs,pv,pw⟩:=uC ay h.sub pq;have U:∀k,k∈a1<->((k∈as/\k∉bs)\/(k∉as/\k∈bs)):=λk=>by rw[a5.mem_iff,pA,a8,a9]
 have f2:a1.length<=75:=by
  refine PW (ar.gm ((a5.nodup_iff).mpr bf) (ys:=ar.bF (as++bs)) λz hz=>?_) R;rw[ar.fo];rcases(U z).mp hz with y|y
  .exact VV _ y.1
  .exact PO _ y.2
 have d2:ζ.fs (a1.map cm)=(ar.br ar.lexLt (ar.bF (as.filter (λa=>!decide (a∈bs))++bs.filter λb=>!decide (b∈as)))).map cm:=by
  rw[ar.h7 (f:=cm) (lt:=ar.lexLt) ar.jt];congr 1;refine ar.ij ar.eW (ar.g5 ar.eW ((a5.nodup_iff).mpr bf)) (ar.g5 ar.eW (ar.hr _)) λz=>?_
  rw[ar.fX,ar.fX,ar.fo,U,PS,P4,P4];simp only[Qn,US];exact or_congr VA and_comm
 refine R7 (AX (s:={ s2 with heap:=h4,toks:=L }) f0 a0 ay h.sub hg ⟨fD,gg,d1,g3,f1⟩ pv pw ?_ (by rw[VD];exact PW f2 ∅) λv N B ps cO=>?_)
 .unfold ζ.hX;rw[ar.k8 λc E=>?_,Tt];rcases(U c).mp E with z|z
  .exact kd c z.1
  .exact ke c z.2
 .rw[d2]at cO;exact n v N B ((r.trans h).trans ps) (cO.old (r.h.trans h.h))
end
section
variable{xp:bQ}{X:aq}{ae:List Nat}{m:dn}{f a6 bL:aD->aY D}{a b e eE:VY}{pos p p2 p3 p4:Xj}{pins:List (VO×WW)}{σ:aN}{G H:ah}{s:VI}{x:VT}
def f_int:eu X (.type "int") (iP X.K m λd=>match d with|.ag b=>.ok (.int (if b then 1 else 0))|_=>.bad):=by
 rintro pins s σ H xs i Q I r ⟨G,z,d,g,h,c,hw⟩;subst g;cases d with
 |ag b =>
  have c:z=.ag b:=c;subst c;exact Dl pins s σ H _ i Q I r (.inr ⟨b,rfl,hw _ G H (Ext.refl h) bb.int⟩)
 |_=>exact hw.elim
def OJ (lo) : ∀ {n : Nat} {l : List VE}, l.length = n -> (∀ (i : Nat) v, l[i]? = Z v -> ∃ t, v = .int (lo + i * 1) t) -> Vals ((VR n).map fun (k : Nat) => V.int (lo + (k : Nat))) l := by
  intro n l c h
  subst c
  induction l generalizing lo with
  | nil => exact .nil
  | cons v l d =>
    rw [VS, Ts, VK, VU]
    refine .cons ?_ ?_
    · obtain ⟨t, e⟩ := h 0 v rfl
      exact ⟨t, by rw [e]; simp⟩
    · have := d (lo + 1) fun i w hw => by
        obtain ⟨t, e⟩ := h (i + 1) w ⇑hw
        exact ⟨t, by rw [e]; congr 1; push_cast; lia⟩
      have e2 : ((fun (k : Nat) => V.int (lo + (k : Nat))) ∘ Nat.succ) = fun (k : Nat) => V.int (lo + 1 + (k : Nat)) := by
        funext k; simp only [Xq]; congr 1; push_cast; lia
      rw [e2]; exact this
theorem Af{K:W.Frag}(lo):∀(l:List Nat),aK K G (l.map λ(k:Nat)=>ζ.D.int (lo+(k:Nat))) (l.map λ(k:Nat)=>V.int (lo+(k:Nat)))
 |[]=>rfl
 |k::l=>⟨_,_,rfl,rfl,Af lo l⟩
def OZ(L:cn X "range")(M:X.ak "range"=Y)(C:ai X a (ax xp X ae .view a6))(z:VX [a] X.env=[(VC,Wu a X.env)])(I:Inv X pins σ H s)(O:cH X.K ae G H B σ){Q:List D->Prop}(hw:aZ (a6 B>>=λd=>ζ.dB d>>=λi=>ζ.gL 0 i) Q (λc=>dy xp X c H))(k:∀(j:VI)(h g:ah)(n:Int)(r:VO)(t u v:Tok)(h':V9)(tk:Nat),Inv X pins σ g j->Ext G H h g->Q (ζ.c6 0 n)->(-(2 ^ 62)<=n/\n<2 ^ 62/\(ζ.c6 0 n).length<=16777216)->Inv X pins σ g { j with heap:=h',toks:=tk }->IsRange h' r 0 n 1 t u v->R (.ref r) { j with heap:=h',toks:=tk }):
  VJ (VM X.prog X.w) X.A (Wu (.Call (.Name "range" p) [a] [] pos) X.env) R X.bl s:=by
 refine Call_ (fV I L M boot_range (Qm (aM (gn C z pos pins s σ H (λA g=>∃n h,A=[.int n]/\Ext G H h g/\Q (ζ.c6 0 n)/\(-(2 ^ 62)<=n/\n<2 ^ 62/\(ζ.c6 0 n).length<=16777216)) I
  ⟨G,B,O,aQ (aB.mp hw) (λd q v h g w l=>?_) λ_ q=>q⟩) λU j T=>?_) z rfl))
 .have q:=aB.mp q;cases d with
  |int i =>
   obtain⟨⟨_,_,b1,b2⟩,hz,q⟩:=uu q;exact⟨i,h,by rw[bb.lS l],w,q,b1,b2,hz⟩
  |_=>exact q.elim
 .obtain⟨A,g,y,l,n,h,e1,w,N,E⟩:=T;subst e1;obtain⟨u,rfl,S⟩:=vals1 l;obtain⟨t,rfl⟩:=S;refine call_range_1 ?_;exact k j h g n _ _ _ _ _ _ y w N E (y.kept λb o e=>PC _ e) (IsRange.new ..)
def K0(n):Xh 0 n 1=((ζ.c6 0 n).length:Int):=by
 unfold ζ.c6;rw[VD,WZ,rangeSize_one]
 split<;>lia
def KG(n):(ζ.c6 0 n).length=n.toNat:=by unfold ζ.c6;rw[VD,WZ];congr 1;lia
def K1(h:Z0 (λi v=>∃t,v=.int (0+i*1) t) c (ζ.c6 0 n).length):∃xs,aK X.K G (ζ.c6 0 n) xs/\Vals xs c.toList:=by
 have d:c.toList.length=n.toNat:=by rw[VH,h.1,KG]
 have v:=OJ 0 d λi v g=>h.2 i v ⇑g
 have e:ζ.c6 0 n=(VR n.toNat).map λ(k:Nat)=>ζ.D.int (0+(k:Nat)):=by
  unfold ζ.c6;rw[Int.sub_zero]
 exact⟨_,by rw[e];exact Af 0 _,v⟩
def LZ{y:VT}(N:X.calm=J)(au:x="range")(av:y="tuple")(O:cn X x)(U:X.ak x=Y)(S:cn X y)(a0:X.ak y=Y)(M:ai X a (ax xp X ae .view a6))(a5:VX [a] X.env=[(VC,Wu a X.env)]):
  ai X (.Call (.Name y p2) [.Call (.Name x p) [a] [] pos] [] p3) (ax xp X ae .val λo=>(a6 o>>=λd=>ζ.dB d>>=λi=>ζ.gL 0 i)>>=λds=>.ok (.tup ds)):=by
 subst au av;rintro pins s σ H Q I ⟨G,o,a4,hw⟩;refine QY (fV I S a0 (u:=.type "tuple") (by kernel_rfl) ?_);refine Qm ?_ rfl rfl;show VJ _ _ (Zj ((VC,Wu (.Call (.Name "range" p) [a] [] pos) X.env)::[])) _ _ s;refine RA ?_;refine OZ O U M a5 I a4 (aB.mp hw) λbf z b2 n r t u v h' tk bc l a2 j k a3=>R7 ?_
 have T:X.A.handled=none:=k.ok.hd N;have a1:=K0 n;have ay:Meets (WK.«tuple.__new__» ⟨[.type "tuple",.ref r],[]⟩) (λA R s'=>A.handled=Y/\IsRange s'.heap r 0 n 1 t u v /\
   ∀(s2:VI)(acc:Array VE),Pv.oy s' s2->Z0 (λi v=>∃t,v=.int (0+i*1) t) acc (ζ.c6 0 n).length->R (.ok (.ret (.ref s2.heap.objs.size))) { s2 with heap:=s2.heap.push { cls:=.type "tuple",data:=.seq acc } }) :=
  .of_wp λprog w A R s' h=>by
   obtain⟨E,h2,h3⟩:=h;have bg:=sub_tuple_self;have a8:=init_tuple_lookup;have a9:=madeHere_tuple;have L:s'.TypeIs (.ref r) "range":=⟨_,h2,rfl⟩;have h4:A.in1.handled=none:=E
   wp_walk using R8 L,Pv.DS (A:=A.in1) h4 h2 (small_one ⋯ ⋯ j.1 j.2.1) a1 j.2.2
   intro s2 acc g c;have e:acc.toList.toArray=acc:=(by simp);refine PA (m:=WL acc.toList.toArray) (Qi (VB ⟨_,rfl,?_⟩) (show acc.toList.toArray.size<=V2 by rw[e,c.1,V3];exact j.2.2));rw[e];exact h3 s2 acc g c
 refine callType_new F.called_tuple ∅ (F.typeCall_tuple_1 _) (F.newCall_tuple_1 _) (λaz=>F.args_object_init_2 az _) F.entry_tuple_new ay ⟨T,a3,λs2 acc g c=>⟨⟨_,PQ _ rfl,rfl⟩,?_⟩⟩;obtain⟨xs,k1,k2⟩:=K1 (X:=X) (G:=z) c;have C:=Inv.grown k g;have e:acc=acc.toList.toArray:=by simp
 rw[e];exact y4 C l.sub k2 k1 (by rw[k2.length,VH,c.1,V3];exact j.2.2) λv q B b1 aA=>a2 v q B (l.trans b1) aA
end
section
variable{X:aq}{pins:List (VO×WW)}{σ:aN}{G H:ah}{s:VI}{h':V9}
def Bt{fS:List VO}(I:Inv X pins σ H s)(k:∀b o,b∉fS->s.heap.get? b=Z o->h'.get? b=Z o)(d:∀b∈fS,gv X pins H b):Inv X pins σ H { s with heap:=h',toks:=t' }:=by
 have f:∀b u,H b=Z u->b∉fS:=λb u e z=>by rw[(d b z).1]at e;cases e
 have y:X.env.locals∉fS:=λz=>(d _ z).2.1 rfl
 refine I.step (g':=s.gens) (d':=s.drawn) (ch:=fS) (λb t=>?_) (λb o _ _ a e _=>k b o a e) (λb o _ _ a e _=>⟨o.slots,k b o a e⟩) (λ_ _ _ _ n=>n)
  (λb o a e=>⟨o,k b o a e⟩) (λ_ _ e=>e) (λ_ _ _ e=>e) (λb A e=>⟨#[],by rw[e];simp⟩) (λm w=>?_) (λb u e=>?_) I.bare
 .obtain⟨_,i,_,j,l,p⟩:=d b t;exact⟨j,i,l,p⟩
 .obtain⟨o,h,g,x,r⟩:=w;exact⟨o,h,g,k _ o y x,r⟩
 .refine(I.aG b u e).hB (λc v a q=>k c v ?_ q) (λ_ q=>q) λ_ _ q=>q
  rcases a with z|z
  .rw[z];exact f b u e
  .exact f c _ z
def N6(I:Inv X pins σ H s)(d:H a=Y)(h0:X.dN.heap.objs.size<=a)(h:a≠X.env.locals)(i:∀x c,X.env.cells.lookup x=Z c->c≠a)(j:∀p∈X.bV++pins,p.1≠a)(m:bX X.prog X.w (upd H a o) s.heap a o):Inv X pins σ (upd H a o) s where
 ok:=I.ok
 os:=I.os
 bare:=I.bare
 base:=⟨I.base.keep,I.base.slot,λb f e n k=>by
   have:b≠a:=λz=>absurd (PJ e) (Sh.mpr (z▸h0))
   rw[bk this];exact I.base.free b f e n k,I.base.there,λb xs e=>by
   have q:=I.base.hD b xs e;rw[bk (gk q d)];exact q,λb f u e=>by
   have q:=I.base.gE b f u e;rw[bk (gk q d)];exact q,λb r e=>by
   obtain⟨l,q⟩:=I.base.hC b r e;exact⟨l,by rw[bk (gk q d)];exact q⟩⟩
 loc:=I.loc
 cell:=I.cell
 free:=by rw[bk (QG h)];exact I.free
 eJ:=λx c e=>by rw[bk (i x c e)];exact I.eJ x c e
 pin:=λp q=>by
  obtain⟨t,w,y⟩:=I.pin p q;exact⟨t,by rw[bk (j p q)];exact w,y⟩
 aG:=λb u e=>by
  by_cases g:b=a
  .subst g;rw[b4]at e;cases e;exact m
  .rw[bk g]at e;exact(I.aG b u e).hB (λc v _ q=>q) (λc q=>by rw[bk (gk q d)];exact q) λc xs q=>by rw[bk (gk q d)];exact q
 len:=I.len
end
def vn:∀x y:Nat,(x ^^^ y)+2*(x &&& y)=x+y:=by
 intro x
 induction x using Yn with
 |ind x e =>
  intro y
  by_cases h:x=0
  .subst h;simp
  .have d:=e (x / 2) ⋯ (y / 2);have e1:(x ^^^ y) / 2=x / 2 ^^^ y / 2:=U5;have e2:(x &&& y) / 2=x / 2 &&& y / 2:=T1;have e3:(x ^^^ y)%2=(x%2+y%2)%2:=by
    have:=@Tn x y;rcases PV x with a|a<;>rcases PV y with b|b<;>rcases PV (x ^^^ y) with c|c<;>simp[a,b,c]at this ⊢
   have e4:(x &&& y)%2=(x%2)*(y%2):=by
    have:=@Sv x y;rcases PV x with a|a<;>rcases PV y with b|b<;>rcases PV (x &&& y) with c|c<;>simp[a,b,c]at this ⊢
   rw[<- e1,<- e2]at d;revert d e3 e4;generalize x ^^^ y=p;generalize x &&& y=q;intro d e3 e4;rcases PV x with a|a<;>rcases PV y with b|b<;>rw[a,b]at e3 e4<;>lia
def vJ(hi:0<=i)(a:0<=j):Xm i j=((i.toNat &&& j.toNat:Nat):Int):=by
 unfold Xm;rw[decide_eq_true hi,decide_eq_true a]
def Cc(hi:0<=i)(a:¬0<=j):Xm i j=i-((i.toNat &&& (-j-1).toNat:Nat):Int):=by
 unfold Xm;rw[decide_eq_true hi,decide_eq_false a];rfl
def O9(hi:0<=i)(a:0<=j):Z2 i j=((i.toNat ^^^ j.toNat:Nat):Int):=by
 rw[bitXor_and,vJ hi a];have:=vn i.toNat j.toNat;lia
section
variable{xp:bQ}{X:aq}{ae:List Nat}{m:dn}{f a6 bL fc:aD->aY D}{a b c e:VY}{pos:Xj}{pins:List (VO×WW)}{σ:aN}{G H:ah}{s:VI}
def D8:bC X (Wv .BitAnd) (hu X.K (ζ.bK .and)):=by
 rintro pins s σ H x y v u Q I gN gO ⟨G,cU,hb,fF,gU,gV,hw⟩;cases cU<;>cases hb<;>first|exact hw.elim|skip
 have hw:aZ (ζ.jX i i_1) _ _:=hw;unfold ζ.jX at hw
 by_cases h:0<=i
 .rw[if_pos h]at hw
  by_cases h2:0<=i_1
  .rw[if_pos h2]at hw;exact zh pins s σ H x y v u Q I gN gO ⟨_,_,gU,gV,by dsimp only;rw[vJ h h2];exact hQ fF hw rfl⟩
  .rw[if_neg h2]at hw;exact zh pins s σ H x y v u Q I gN gO ⟨_,_,gU,gV,by dsimp only;rw[Cc h h2];exact hQ fF hw rfl⟩
 .rw[if_neg h]at hw;exact hw.elim
def Ei:bC X (Wv .BitXor) (hu X.K (ζ.bK .xor)):=by
 rintro pins s σ H x y v u Q I gN gO ⟨G,cU,hb,fF,gU,gV,hw⟩;cases cU<;>cases hb<;>first|exact hw.elim|skip
 have hw:aZ (ζ.om i i_1) _ _:=hw;unfold ζ.om at hw
 by_cases h:0<=i/\0<=i_1
 .rw[if_pos h]at hw;exact Jw pins s σ H x y v u Q I gN gO ⟨_,_,gU,gV,by dsimp only;rw[O9 h.1 h.2];exact hQ fF hw rfl⟩
 .rw[if_neg h]at hw;exact hw.elim
def Ef:bC X (Wv .LShift) (hu X.K (ζ.bK .shl)):=by
 rintro pins s σ H x y v u Q I gN gO ⟨G,cU,hb,fF,gU,gV,hw⟩;cases cU<;>cases hb<;>first|exact hw.elim|skip
 have hw:aZ (if 0<=i_1/\i_1<=1000/\-ζ.dk<i/\i<ζ.dk then ζ.R.ok (ζ.D.int (i*2 ^ i_1.toNat)) else .bad) _ _:=hw
 by_cases h:0<=i_1/\i_1<=1000/\-ζ.dk<i/\i<ζ.dk
 .rw[if_pos h]at hw;obtain⟨aJ,h2,h3,h4⟩:=h;have e:ζ.dk=18446744073709551616:=rfl;refine Jt pins s σ H x y v u Q I gN gO ⟨_,_,gU,gV,⟨aJ,⋯,?_⟩,hQ fF hw rfl⟩;rw[e]at h3 h4;show i.natAbs<18446744073709551616;lia
 .rw[if_neg h]at hw;exact hw.elim
def Eg:bC X (Wv .RShift) (hu X.K (ζ.bK .shr)):=by
 rintro pins s σ H x y v u Q I gN gO ⟨G,cU,hb,fF,gU,gV,hw⟩;cases cU<;>cases hb<;>first|exact hw.elim|skip
 have hw:aZ (if 0<=i_1 then ζ.R.ok (ζ.D.int (i / 2 ^ i_1.toNat)) else .bad) _ _:=hw
 by_cases h:0<=i_1
 .rw[if_pos h]at hw;exact Ju pins s σ H x y v u Q I gN gO ⟨_,_,gU,gV,h,hQ fF hw rfl⟩
 .rw[if_neg h]at hw;exact hw.elim
def LD{x:VT}(R:X.calm=J)(a0:x="min")(S:cn X x)(U:X.ak x=Y)(N:ai X a (ax xp X ae .view a6))(O:ai X b (ax xp X ae .view bL))(z:VX [a,b] X.env=[(VC,Wu a X.env),(VC,Wu b X.env)])(l:VX [b] X.env=[(VC,Wu b X.env)]):
  ai X (.Call (.Name x p) [a,b] [] pos) (ax xp X ae m λg=>a6 g>>=λx=>ζ.dB x>>=λi=>bL g>>=λy=>ζ.dB y>>=λj=>.ok (.int (if j<i then j else i))):=by
 subst a0;rintro pins s σ H Q I ⟨G,g,o,hw⟩;have M:eu X (.builtin "min") (λxs H Q=>∃i j,xs=[.int i,.int j]/\Q (.int (if j<i then j else i)) H):=by
  rintro pins s σ H xs a4 Q I r ⟨i,j,e,q⟩;subst e;cases r with
  |cons h d =>
   cases d with
   |cons d a1 =>
    cases a1;obtain⟨t,rfl⟩:=h;obtain⟨u,rfl⟩:=d;refine min_two_ints (I.ok.hd R) λh' tk T=>?_
    refine⟨_,H,I.kept T,?_,q⟩
    by_cases c:j<i
    .rw[if_pos c,if_pos c];exact⟨u,rfl⟩
    .rw[if_neg c,if_neg c];exact⟨t,rfl⟩
 refine nR M S U (by kernel_rfl) (hs N (gn O l) (by rw[z,l])) ∅ ∅ (by rw[z,l]) (by rw[l];rfl) pins s σ H Q I ?_;refine⟨G,g,o,aQ (aB.mp hw) (λE k v A a3 n h=>?_) λ_ q=>q⟩;cases E with
 |int i =>
  have k:aZ (bL g>>=λy=>ζ.dB y>>=λj=>.ok (ζ.D.int (if j<i then j else i))) _ _:=k;refine⟨A,g,o.ext n,aQ (aB.mp k) (λL k2 w B C a2 d=>?_) λ_ q=>q.mono n.h⟩;cases L with
  |int j =>
   have h:v=.int i:=h;have d:w=.int j:=d;subst h d;exact⟨i,j,rfl,k2 _ B C (n.trans a2) bb.int⟩
  |_=>exact k2.elim
 |_=>exact k.elim
theorem nr:∀{ds:List D}{k:List Int},ζ.intsOf ds=Z k->ds=k.map .int
 |[],_,h=>by cases h;rfl
 |.int i::ds,k,h=>by
  cases q:ζ.intsOf ds with
  |none=>simp[ζ.intsOf,q]at h
  |some d =>
   simp only[ζ.intsOf,q,WO,Ra]at h;subst h;rw[nr q];rfl
 |.aW::_,_,h=>by cases h
 |.ag _::_,_,h=>by cases h
 |.str _::_,_,h=>by cases h
 |.tup _::_,_,h=>by cases h
 |.lst _::_,_,h=>by cases h
 |.aI _::_,_,h=>by cases h
 |.aO _::_,_,h=>by cases h
 |.d4 _::_,_,h=>by cases h
def ints_list(I:Inv X pins σ H s){K:W.Frag}(l:aE G H)(k:View X.K G H (.lst (ns.map .int)) z)(j:RelV z u):∃(a:VO)(xs:Array (Int×Tok)),u=.ref a/\s.heap.IsList a (intItems xs)/\xs.toList.map (·.1)=ns:=by
 obtain⟨a,ys,rfl,g,rs⟩:=k;cases j;rw[gK rs]at g;obtain⟨its,i,h,hz⟩:=I.list g;have hi:Wh its ns:=intsAre_of i;obtain⟨xs,d⟩:=hi.allInts.items;refine⟨a,xs,rfl,by rw[<- d];exact h.isList,?_⟩;rw[<- nums_intItems,<- d];exact hi.numsOf
def FG(k:X.calm=J):eu X (.builtin "sum") (iP X.K m λd=>ζ.lJ d>>=λxs=>ζ.gR xs):=by
 rintro pins s σ H xs t Q I r ⟨G,z,d,j,h,p,hw⟩;subst j;obtain⟨u,rfl,o⟩:=vals1 r;cases d with
 |lst ds =>
  have g:aZ (ζ.gR ds) _ _:=hw;clear hw;unfold ζ.gR at g;cases q:ζ.intsOf ds with
  |none=>rw[q]at g;exact g.elim
  |some ns =>
   rw[q]at g;cases nr q;obtain⟨a,xs,rfl,n,i⟩:=ints_list (K:=X.K) I h p o;refine sum_intListG (I.ok.hd k) n λh' tk t' l=>?_
   refine⟨.int ns.sum,H,I.kept l,⟨t',?_⟩,g _ G H (Ext.refl h) bb.int⟩;rw[preSum_eq,QK (by simp),i]
 |_=>exact hw.elim
theorem vN(g:Nat->Int):∀k,g (argBest (λi j=>decide (g i>g j)) k)=((VR k).map λi=>g (i+1)).foldl (λm x=>if x>m then x else m) (g 0)
 |0=>rfl
 |k+1=>by
  rw[List.range_succ,VW,Wf,<- vN g k];show g (if decide (g (k+1)>g (argBest (λi j=>decide (g i>g j)) k))=J then k+1 else argBest (λi j=>decide (g i>g j)) k)=_;simp only[VK,Rt,Wx,YK]
  by_cases h:g (k+1)>g (argBest (λi j=>decide (g i>g j)) k)
  .rw[if_pos (decide_eq_true h),if_pos h]
  .rw[if_neg ⇑h,if_neg h]
def Jb(xs)(n)(ns)(h:xs.toList.map (·.1)=n::ns):numAt xs 0=n/\(VR (xs.size-1)).map (λi=>numAt xs (i+1))=ns:=by
 have d:∀i,numAt xs i=((n::ns)[i]?).getD 0:=λi=>by
  unfold numAt;rw[<- h,PX,P2]
 have hz:xs.size=ns.length+1:=by
  have:=Q9 XP h;simpa using this
 refine⟨by rw[d];rfl,?_⟩;rw[hz,RW];apply RI;intro i;rw[PX]
 by_cases hi:i<ns.length
 .rw[Sl hi,WO,d,X2,PG hi];rfl
 .rw[Qb ⇑hi,Qb ⇑hi];rfl
def FE(k:X.calm=J):eu X (.builtin "max") (iP X.K m λd=>ζ.lJ d>>=λxs=>ζ.hY xs):=by
 rintro pins s σ H xs A Q I r ⟨G,z,d,j,i,y,hw⟩;subst j;obtain⟨u,rfl,w⟩:=vals1 r;cases d with
 |lst ds =>
  have g:aZ (ζ.hY ds) _ _:=hw;clear hw;unfold ζ.hY at g;cases q:ζ.intsOf ds with
  |none=>rw[q]at g;exact g.elim
  |some ns =>
   rw[q]at g;cases ns with
   |nil=>exact g.elim
   |cons n ns =>
    cases nr q;obtain⟨a,xs,rfl,o,h⟩:=ints_list (K:=X.K) I i y w;obtain⟨e0,e1⟩:=Jb xs n ns h;have hz:0<xs.size:=by
     have:=Q9 XP h;simp at this;lia
    refine max_intList (I.ok.hd k) o hz λv h' tk p l=>?_
    obtain⟨t,rfl⟩:=intItems_at p;refine⟨.int (ns.foldl (λm x=>if x>m then x else m) n),H,I.kept l,⟨t,?_⟩,g _ G H (Ext.refl i) bb.int⟩;rw[vN (numAt xs),e0,e1]
 |_=>exact hw.elim
end
def boot_enumerate:Wt "enumerate"=Z (.type "enumerate"):=by kernel_rfl
section
variable{xp:bQ}{X:aq}{ae:List Nat}{m:dn}{f a6 bL:aD->aY D}{a b:VY}{elts:List VY}{k:Nat}{pos p p4:Xj}{x:VT}
def oA(K:W.Frag)(l:VO):gZ :=
  ⟨λi H=>∃xs x,b8 K H l xs/\xs[i]?=Z x,
   λi H v c=>∃T x,H T=Y/\v=.ref T/\c=upd H T (.tup [.int (i:Nat),x])/\∀xs,b8 K H l xs->xs[i]?=Z x,
   λi H=>∃xs,b8 K H l xs/\xs.length<=i⟩
def N2(e c l:VO)(n:Nat)(h:V9):Prop:=(∃d,IsEnum h e c (n:Nat) d)/\h.IsListIter c l n
def Oe{K:W.Frag}(S:e≠r):Turn P w K (.Tuple elts k pos) (oA K l) [e,r] e (N2 e r l) where
 mem:=by simp
 obj:=λn h st c i=>by
  obtain⟨⟨A,d⟩,⟨b2,e4,_,a2⟩⟩:=st;simp only[PF,Sp,Vz]at i;rcases i with rfl|rfl
  .exact⟨_,d,λv z=>by cases z⟩
  .exact⟨b2,e4,λv z=>by rw[a2]at z;cases z⟩
 keep:=λn h h' st k=>by
  obtain⟨⟨A,d⟩,h4⟩:=st;exact⟨⟨A,k e (by simp) _ d⟩,h4.at λo q=>k r (by simp) o q⟩
 item:=by
  intro X L hw G i n N s R H E I t st M;subst L hw G;obtain⟨xs,x,y,T⟩:=M;obtain⟨its,Q,O,_⟩:=I.list y;obtain⟨B,b1,a8⟩:=Q.get T;obtain⟨⟨A,d⟩,h4⟩:=st;refine wpAny_pyNext_enum_item d h4 O.isList (x:=B) ⇑b1 S λg a3 a4 a5 bg au=>⟨_,rfl,?_⟩
  refine wpAny_letOwnedTupleGo_enum (s:={ s with heap:=g,toks:=s.toks+1 }) a3 λg' a9 C=>?_
  have lt:∀c∈[e,r],c<s.heap.objs.size:=λc j=>by
   simp only[PF,Sp,Vz]at j;rcases j with rfl|rfl
   .exact PJ d
   .obtain⟨o,q,_⟩:=h4;exact PJ q
  have keep:∀c o,c∉[e,r]->s.heap.get? c=Z o->g'.get? c=Z o:=λc o u q=>by
   have U:c≠e:=λw=>u (by simp[w])
   exact C.extBut _ _ U (au c o U (λw=>u (by simp[w])) q)
  have a0:Inv X N R H { s with heap:=g',toks:=s.toks+1 }:=Bt I keep t;have fr:H s.heap.objs.size=none:=I.fresh;have av:g'.get? s.heap.objs.size=Z { cls:=.type "tuple",data:=.seq #[.int n s.toks,B] }:=C.extBut _ _ (T7 (lt e (by simp))) a5;have a1:Inv X N R (upd H s.heap.objs.size (.tup [.int (n:Nat),x])) { s with heap:=g',toks:=s.toks+1 }:=by
   refine N6 a0 fr I.ef (T7 I.lt) (λx c e w=>?_) (λbc az w=>?_) ⟨by show 2<=_;rw[V3];lia,[.int n s.toks,B],.cons ⟨_,rfl⟩ (.cons a8 .nil),⟨_,av,rfl,_,rfl⟩⟩
   .obtain⟨v,o,ay,_⟩:=I.cell x c e;exact absurd (PJ ay) (by rw[w];exact Q5 _)
   .exact absurd (PJ (I.pin bc az).1) (by rw[w];exact Q5 _)
  refine⟨.ref s.heap.objs.size,upd H s.heap.objs.size (.tup [.int (n:Nat),x]),a1,rfl,⟨_,x,fr,rfl,rfl,λbz aA=>?_⟩,⟨⟨B,a9⟩,a4.extBut C.extBut (QG S)⟩,λc j=>?_⟩
  .rw[I.yJ aA y];exact T
  .rw[bk (PY (lt c j))];exact(t c j).1
 done:=by
  intro X L hw G i n N s R H E I t st M;subst L hw G;obtain⟨xs,y,bf⟩:=M;obtain⟨its,Q,O,_⟩:=I.list y;obtain⟨⟨A,d⟩,h4⟩:=st;have bp:=Q.length;refine wpAny_pyNext_enum_end (I.ok.hd i) d h4 O.isList (by simp;lia) λg k=>⟨rfl,?_⟩
  exact Bt (t':=s.toks) I (λc o u q=>k c o (λw=>u (by simp[w])) q) t
 self:=λ_ _ _ _ _ st h=>let ⟨⟨_,q⟩,_⟩:=st;wpAny_pyIter_enum q h
theorem w7:∀(xs:List D)(j i:Nat){d:D},(ζ.fO j xs)[i]?=Z d->∃x,xs[i]?=Z x/\d=.tup [.int ((j+i:Nat):Int),x]
 |[],j,i,d,h=>by simp[ζ.fO]at h
 |x::xs,j,0,d,h=>by simp[ζ.fO]at h;exact⟨x,rfl,h.symm⟩
 |x::xs,j,i+1,d,h=>by
  obtain⟨y,c,h2⟩:=w7 xs (j+1) i (by simpa[ζ.fO] using h);exact⟨y,⇑c,by rw[h2];congr 3;lia⟩
theorem oW:∀(xs:List D)(j:Nat),(ζ.fO j xs).length=xs.length
 |[],_=>rfl
 |x::xs,j=>by simp[ζ.fO,oW xs]
def G0{K:W.Frag}(q:∀c e,P c e->aE G c/\b8 K e l xs)(r:aK K G ds xs):hG K P (oA K l) (ζ.fO 0 ds) where
 go:=λi c e h hi=>by
  obtain⟨_,n⟩:=q c e h;rw[oW,r.length]at hi;exact⟨xs,xs[i]'hi,n,PG _⟩
 gW:=λi c e v E d h t z C=>by
  obtain⟨T,x,s,y,w,A⟩:=C;obtain⟨g,n⟩:=q c e h;obtain⟨H,e1,rfl⟩:=w7 ds 0 i z;obtain⟨j,k1,k2⟩:=r.get e1;have u:=A xs n;rw[k1]at u;obtain rfl:j=x:=Ql u;subst y w;refine⟨upd c T (.tup [.int (i:Nat),j]),Ext.put t s,T,[.int (i:Nat),j],rfl,b4,?_⟩;have B:=d8 (o:=eP.tup [.int (i:Nat),j]) (t.free s);exact⟨.int (i:Nat),[j],rfl,by show V.int _=V.int _;congr 1;lia,j,[],rfl,(k2.mono g).mono B,rfl⟩
 stop:=λc e h=>by
  obtain⟨_,n⟩:=q c e h;exact⟨xs,n,by rw[oW,r.length];exact PE _⟩
def Lx (a3 : m = .view \/ m = .val) (au : x = "enumerate") (a1 : cn X x) (a4 : X.ak x = Y) (a0 : ai X a (ax xp X ae m a6)) (N : VX [a] X.env = [(VC, Wu a X.env)]) :
    eR X (.Tuple elts k p4) (.Call (.Name x p) [a] [] pos) (gq xp X ae m fun B => a6 B >>= fun x => ζ.oY x) := by
  subst au
  rintro av s b1 H R I ⟨G, B, a5, hw⟩
  refine Call_ (fV I a1 a4 boot_enumerate (Qm (aM (gn a0 N pos av s b1 H (fun S j => ∃ v i ds, S = [v] /\ Ext G H i j /\ bb X.K H i j m (.lst ds) v /\
      ∀ E C y, Ext G H C y -> hG X.K (ie m C y) E (ζ.fO 0 ds) -> (ζ.fO 0 ds).length <= 16777216 -> R E y) I
    ⟨G, B, a5, aQ (aB.mp hw) (fun T q v d o w A => ?_) fun _ q => q⟩) fun a9 r aA => ?_) N rfl))
  · cases T with
    | lst ds => exact ⟨v, d, ds, rfl, w, A, q⟩
    | _ => exact q.elim
  · obtain ⟨S, o, u, A, v, d, ds, e1, w, Q, hR⟩ := aA
    subst e1
    obtain ⟨a8, rfl, ay⟩ := vals1 A
    obtain ⟨l, xs, rfl, a2, O, U⟩ : ∃ l xs, v = V.ref l /\ b8 X.K o l xs /\ aK X.K d ds xs /\ ∀ i j, ie m d o i j -> aE d i /\ b8 X.K j l xs := by
      rcases a3 with rfl | rfl
      · obtain ⟨l, xs, e, h, q⟩ := Q
        exact ⟨l, xs, e, h, q, fun i j ⟨n, t⟩ => ⟨n, fZ t h⟩⟩
      · obtain ⟨l, xs, e, h, q⟩ := Q
        exact ⟨l, xs, e, fZ w.sub h, q, fun i j ⟨n, t⟩ => ⟨n, fZ t (fZ n h)⟩⟩
    cases ay
    obtain ⟨its, bc, p1, b2⟩ := u.list a2
    refine call_enumerate_list p1.isList fun g n t bg az => ?_
    refine wpAny_pyIter_enum n ?_
    refine ⟨r.heap.objs.size + 1, [r.heap.objs.size + 1, r.heap.objs.size], _, oA X.K l, o, rfl, u.kept (t' := r.toks) az, Oe ?_, ⟨⟨_, n⟩, t⟩, fun c L => ?_, ?_⟩
    · intro z; have z : (_ : Nat) = _ := z; lia
    · have M : r.heap.objs.size <= c := by
        simp only [PF, Sp, Vz] at L
        rcases L with rfl | rfl
        · exact Qg _ _
        · exact PE _
      exact u.ly M (u.aG.fresh M)
    · refine hR (oA X.K l) d o w (G0 (G := d) U O) ?_
      rw [oW, O.length]
      have := V3
      lia
end
section
variable{xp:bQ}{X:aq}{ae:List Nat}{m:dn}{f:aD->aY D}{e eE iter:VY}{pos p1 p4 ap eB:Xj}{i:Nat}{x n:VT}{jC:List Wl}
def wt{o:Option (Option D)}(h:aZ (ζ.i7 o) Q E):∃ds,o=Z (Z (.lst ds))/\Q ():=by
 cases o with
 |none=>exact h.elim
 |some o =>
  cases o with
  |none=>exact h.elim
  |some d =>
   cases d with
   |lst ds=>exact⟨ds,rfl,h⟩
   |_=>exact h.elim
def tg(a:VX [e] X.env=[(VC,Wu e X.env)]):((Xg eB (VX [e] X.env)).all (λx=>!x.1)&&(Z5 eB (YC [] X.env)).all (λx=>x.1.isSome)&&decide ([e].length+([]:List XD).length+(if ([]:List XD).isEmpty then 0 else 1)<30))=true:=by
 rw[a];rfl
def K8(l:i∈ae)(M:n="append")(B:X.N[i]?=Z x)(N:dA X.env.scope x)(u:(x==("__debug__":VT))=VC)(h2:(x==("__classdict__":VT))=VC)(L:(ap.endLine==eB.line)=J)(E:ai X e (ax xp X ae .val f))(h:VX [e] X.env=[(VC,Wu e X.env)]):
  bJ X (.Expr (.Call (.Attribute (.Name x p1) n ap) [e] [] eB) p4) (bS xp X ae λb=>ζ.i7 b[i]?>>=λ_=>f b>>=λd=>ζ.mK b[i]? d>>=λy=>.ok (.aR (b.set i (Z y)))):=by
 subst M;rintro O s r H T I ⟨R,S,G,b,c,hw⟩;refine ue (t7 Th PySem.F.slot_list_append PySem.F.type_list_append yZ (d7 B N u h2) (gn E h) rfl (tg h) L h rfl) rfl O s r H T I ?_;obtain⟨ds,q,hw⟩:=wt (aB.mp hw);obtain⟨a,o,k1,k2,k3,xs,rfl,p⟩:=c.aV.lst i (.lst ds) q l rfl;refine⟨_,k1,.inl ⟨rfl,xs,b8.of k2⟩,?_⟩;refine⟨G,b,c.aV,aQ (aB.mp hw) (λd k v j t g Q=>?_) λ_ z=>z.mono c.ext.h⟩;have C:=c.step g;rw[q,ζ.oJ]at k;have k:=aB.mp k
 by_cases hz:ds.length<ζ.SZ
 .rw[if_pos hz]at k;have A:t a=Z (.lst xs):=g.h _ _ k2;have w:j a=none:=g.new a k3 (by rw[k2];exact λz=>nomatch z);refine⟨a,xs,v,rfl,rfl,A,by rw[<- p.length,<- mF];exact hz,?_⟩;exact k r j _ (C.write (d:=.lst ds) (e:=.lst (ds++[d])) l q rfl rfl k1 w ⟨_,rfl,(p.mono g.g).snoc Q⟩)
 .rw[if_neg hz]at k;exact k.elim
abbrev fl(b c:ah):ah:=λa=>match b a with
 |some o=>Z o
 |none=>c a
def jn(h:b a=Z o):fl b c a=Z o:=by unfold fl;rw[h]
def gH(h:b a=Y):fl b c a=c a:=by unfold fl;rw[h]
variable{K:W.Frag}{bB aX bw H1 G H:ah}{aa:aD}{σ:aN}
def AD(x:Ext bB aX bw H1):aE aX (fl bw aX):=λa o h=>by
 cases q:bw a with
 |none=>rw[gH q];exact h
 |some b =>
  rw[jn q];have e1:=x.sub a b q;have e2:=x.h a o h;rw[e1]at e2;exact e2
def FD(x:Ext bB aX bw H1)(y:Ext bB aX G H)(s:aE bw G):Ext bw (fl bw aX) G H where
 g:=s
 h:=λa o e=>by
  cases q:bw a with
  |some c=>rw[jn q]at e;cases e;exact y.sub a o (s a o q)
  |none=>rw[gH q]at e;exact y.h a o e
 sub:=y.sub
 new:=λa e1 e2=>by
  rw[gH e1]at e2;refine y.new a ?_ e2;cases q:bB a with
  |none=>rfl
  |some o=>rw[x.g a o q]at e1;cases e1
 c7:=λb xs z=>(y.c7 b xs z).elim (λw=>.inl (by
  cases q:bw b with
  |none=>rw[gH q];exact w
  |some o=>rw[jn q];rw[y.sub b o (s b o q)]at z;exact z)) .inr
def xt(x:Ext bB aX bw H1)(y:Ext bw (fl bw aX) G H):Ext bB aX G H where
 g:=x.g.trans y.g
 h:=(AD x).trans y.h
 sub:=y.sub
 new:=λa e1 e2=>by
  have q:=x.new a e1 e2;exact y.new a q (by rw[gH q];exact e2)
 c7:=λb xs z=>(y.c7 b xs z).elim (λw=>by
  cases q:bw b with
  |none=>rw[gH q]at w;exact .inl w
  |some o=>rw[jn q]at w;exact .inr (y.g _ _ (q.trans w))) .inr
def b7.re(x:Ext bB aX bw H1)(h:b7 K ae bB aX G H aa σ)(s:aE bw G):b7 K ae bw (fl bw aX) G H aa σ:=by
 refine⟨h.aV,FD x h.ext s,λi ds a q c hi e=>?_⟩;obtain⟨b,xs,k1,k2,k3,d⟩:=h.aV.lst i ds q hi c;rw[k1]at e;cases e;have:bw a=none:=by
  cases z:bw a with
  |none=>rfl
  |some o=>rw[s a o z]at k3;cases k3
 rw[gH this];exact h.own i ds a q c hi k1
def b7.back(x:Ext bB aX bw H1)(h:b7 K ae bw (fl bw aX) G H aa σ):b7 K ae bB aX G H aa σ:=by
 refine⟨h.aV,xt x h.ext,λi ds a q b hi e=>?_⟩;have:=h.own i ds a q b hi e;cases z:bw a with
 |some o=>rw[jn z]at this;cases this
 |none=>rw[gH z]at this;exact this
theorem b7.uB:∀{ts:List Nat}{b:List D}{a:List V}{aa:aD}{σ:aN},(∀t∈ts,t∉ae)->b7 K ae bB aX G H aa σ->aK K G b a->b7 K ae bB aX G H (ζ.gp ts (b.map Z) aa) (jA ts a σ)
 |[],b,a,aa,σ,_,h,r=>by simpa[ζ.gp,jA] using h
 |t::ts,[],a,aa,σ,_,h,r=>by cases r;simpa[ζ.gp,jA] using h
 |t::ts,w::b,a,aa,σ,c,h,⟨v,r,e,d,g⟩=>by
  subst e;exact b7.uB (ts:=ts) (λz hz=>c z (VG _ hz)) (h.jB (c t VF) d) g
def xI(g:D->aD->aY ζ.cK)(d:D)(ds:List D)(aa:aD):ζ.forL g (d::ds) aa=g d aa>>=λr=>match r with
  |.aR a=>ζ.forL g ds a
  |.bH x=>.ok (.bH x):=rfl
def Ls(aA:ZD (VM X.prog X.w) X.A X.env X.bl)(av:X.calm=J)(b2:∀t∈ts,t∉ae)(hi:eR X eE iter (gq xp X ae .val a4))(az:f9 X eE (o9 X.K k ts))(a5:dh X jC (bS xp X ae B))(b1:∀z,WD iter X.env z=pure z):bJ X (.For eE iter jC [] pos) (bS xp X ae λaa=>a4 aa>>=λds=>ζ.forL (λd b=>ζ.dH k d>>=λh=>B (ζ.gp ts h b)) ds aa):=by
 rintro a9 s σ H T I ⟨bB,aX,G,aa,u,hw⟩;refine zR aA av hi az a5 b1 a9 s σ H T I ?_;refine⟨G,aa,u.aV,aQ (aB.mp hw) (λds a8 cz bw H1 S L hz=>?_) λ_ q=>q.mono u.ext.h⟩;have w:Ext bB aX bw H1:=u.ext.trans S;have cy:=AD w;refine⟨λj m N aC=>j+m=ds.length/\∃g b,b7 X.K ae bw (fl bw aX) g aC b N/\aZ (ζ.forL (λd b=>ζ.dH k d>>=λh=>B (ζ.gp ts h b)) (ds.drop j) b) (fR X.K ae bB aX T) (λc=>dy xp X c aX),
  ⟨ds.length,⋯,bw,aa,b7.re w (u.step S) (aE.refl _),⇑a8⟩,?_⟩
 rintro j m N aC ⟨cA,g,b,l,a⟩;have C:ie .val bw H1 g aC:=⟨l.ext.g,l.aV.sub⟩
 by_cases E:j<ds.length
 .refine .inr ⟨L.go j g aC C E,λa0 p=>(j+1)+(m-1)=ds.length/\∃o y,b7 X.K ae bw (fl bw aX) o p y a0/\aZ (ζ.forL (λd b=>ζ.dH k d>>=λh=>B (ζ.gp ts h b)) (ds.drop (j+1)) y) (fR X.K ae bB aX T) (λc=>dy xp X c aX),
   λa0 p h2=>⟨m-1,⋯,h2⟩,λv p bc=>?_⟩
  have ay:ds[j]?=Z ds[j]:=PG E;obtain⟨o,U,bf⟩:=L.gW j g aC v p ds[j] C l.aV.sub ay bc;have bz:=l.step U;have a1:ds.drop j=ds[j]::ds.drop (j+1):=Qw E;rw[a1,xI]at a;have a:=aB.mp (aB.mp a);refine⟨o,ds[j],U.sub,bf,?_⟩;cases q:ζ.dH k ds[j] with
  |bad=>rw[q]at a;exact a
  |exc c =>
   exfalso;cases k with
   |zero=>cases q
   |succ k =>
    cases Q:ds[j] with
    |tup M =>
     rw[Q]at q;have au:ζ.dH (k+1) (.tup M)=if M.length=k+1 then .ok (M.map Z) else .bad:=rfl;rw[au]at q
     split at q<;>cases q
    |_=>rw[Q]at q;cases q
  |ok os =>
   rw[q]at a;intro cN h a3 bp;subst a3;refine⟨bw,fl bw aX,o,_,b7.uB b2 bz bp,aQ a (λr R=>?_) λc z=>z.mono cy⟩;cases r with
   |aR y=>exact λcO A O c0=>⟨⋯,A,y,c0,R⟩
   |bH d=>exact λda A O b9 bg=>R da A O (xt w b9) bg
 .have a2:j=ds.length:=⋯;subst a2;refine .inl ⟨L.stop g aC C,?_⟩;rw[SY]at a;exact a N g aC (b7.back w l)
end
def tn(a k:List Int):decide (a.map (Wg (β:=VT))=k.map Wg)=decide (a=k):=by
 by_cases h:a=k
 .simp[h]
 .have:a.map (Wg (β:=VT))≠k.map Sum.inl:=λz=>h ((List.map_inj_right (λa b=>Us)).mp z)
  simp[h,this]
def wZ(a)(k):fK (ep a) (k.map Wg)=(ζ.et a k).map V.int:=by
 induction a with
 |nil=>rfl
 |cons p a b =>
  unfold fK ζ.et ep at b ⊢;rw[VK,Wr,Wr];dsimp only;rw[tn]
  by_cases h:p.1=k
  .simp[h]
  .simp only[decide_eq_false h];exact b
def wY(a)(k)(n):putK (ep a) (k.map Wg) (V.int n)=ep (ζ.putN a k n):=by
 have e1:((ep a).any λb=>decide (b.1=k.map Wg))=a.any λp=>decide (p.1=k):=by
  induction a with
  |nil=>rfl
  |cons p a c=>unfold ep at c ⊢;rw[VK,Ws,Ws,c,tn]
 have e2:(ep a).map (λb=>if b.1=k.map Wg then(b.1,V.int n) else b)=ep (a.map λp=>if p.1=k then(p.1,n) else p):=by
  unfold ep;rw[VU,VU];refine Q8 λp _=>?_
  have:=tn p.1 k
  by_cases h:p.1=k
  .simp[h]
  .have h':¬p.1.map (Wg (β:=VT))=k.map Sum.inl:=(by simpa[h] using this);simp[h,h']
 unfold putK ζ.putN;rw[e1]
 split
 .exact e2
 .unfold ep;rw[VW];rfl
def yu(k:List Int):(k.map (Wg (β:=VT))).map bO=k.map V.int:=by rw[VU];rfl
def jc{o:Option (Option D)}(h:ζ.fC o=Z a):o=Z (Z (.aI a)):=by
 unfold ζ.fC at h
 split at h
 .cases h;rfl
 .cases h
def oT{o:Option (Option D)}(h:ζ.gA o=Z a):o=Z (Z (.aO a)):=by
 unfold ζ.gA at h
 split at h
 .cases h;rfl
 .cases h
def ik{α:Type}{f:D->Option α}{o:Option (Option D)}{a:α}(h:ζ.dq f o=Z a):∃d,o=Z (Z d)/\f d=Z a:=by
 unfold ζ.dq at h
 split at h
 .exact⟨_,rfl,h⟩
 .cases h
def pD{d:D}(h:ζ.intD d=Z i):d=.int i:=by
 unfold ζ.intD at h
 split at h
 .cases h;rfl
 .cases h
def oc{d:D}(h:ζ.eg d=Z k):d=.tup (k.map .int):=by
 unfold ζ.eg at h
 split at h
 .rw[nr h]
 .cases h
def An{d:D}(h:ζ.rowOf d=Z r):d=ζ.kz r:=by
 unfold ζ.rowOf at h
 split at h
 .split at h
  .rename_i e;cases h;rw[nr e];rfl
  .cases h
 .cases h
theorem ints_rep{K:W.Frag}:∀ns:List Int,aK K G (ns.map ζ.D.int) (ns.map V.int)
 |[]=>rfl
 |n::ns=>⟨.int n,ns.map V.int,rfl,rfl,ints_rep ns⟩
section
variable{G:ah}
theorem cY.val:∀{a:List (Int×Int×Int)}{ys:List (Key×V)},cY G a ys->∀{k:Int}{r:Int×Int},ζ.jH a k=Z r->∃b,fK ys (Wg k)=Z (.ref b)/\G b=Z (.tup [.int r.1,.int r.2])
 |[],_,_,k,r,e=>by cases e
 |p::a,_,⟨b,t,e,f,h2⟩,k,r,q=>by
  subst e;unfold ζ.jH at q;unfold fK;rw[Wr]at q ⊢
  by_cases c:p.1=k
  .simp only[c,Ve,WO,Ra]at q ⊢;subst q;exact⟨b,rfl,f⟩
  .have d:¬(Wg p.1:Key)=Wg k:=λz=>c (Us z)
   simp only[c,d,decide_false]at q ⊢;exact cY.val h2 q
theorem cY.any:∀{a:List (Int×Int×Int)}{ys:List (Key×V)},cY G a ys->∀k:Int,(ys.any λf=>decide (f.1=Wg k))=a.any λp=>decide (p.1=k)
 |[],_,h,k=>by cases h;rfl
 |p::a,_,⟨b,t,e,g,h2⟩,k=>by
  subst e;rw[Ws,Ws,cY.any h2 k];congr 1
  by_cases c:p.1=k
  .simp[c]
  .have d:¬(Wg p.1:Key)=Wg k:=λz=>c (Us z)
   simp[c,d]
theorem cY.map(a:G b=Z (.tup [.int r.1,.int r.2])):∀{f:List (Int×Int×Int)}{ys:List (Key×V)},cY G f ys->cY G (f.map λp=>if p.1=k then(p.1,r) else p) (ys.map λd=>if d.1=Wg k then(d.1,.ref b) else d)
 |[],_,h=>by cases h;rfl
 |p::f,_,⟨g,t,e,i,h2⟩=>by
  subst e;rw[VK,VK]
  by_cases c:p.1=k
  .rw[if_pos c,if_pos (by rw[c])];exact⟨b,_,rfl,a,cY.map a h2⟩
  .rw[if_neg c,if_neg λz=>c (Us z)];exact⟨g,_,rfl,i,cY.map a h2⟩
theorem cY.snoc(c:G b=Z (.tup [.int q.2.1,.int q.2.2])):∀{a:List (Int×Int×Int)}{ys:List (Key×V)},cY G a ys->cY G (a++[q]) (ys++[(Wg q.1,.ref b)])
 |[],_,h=>by cases h;exact⟨b,[],rfl,c,rfl⟩
 |p::a,_,⟨d,t,e,f,h2⟩=>by subst e;exact⟨d,_,rfl,f,cY.snoc c h2⟩
def cY.put(h:cY G c ys)(k)(a:G b=Z (.tup [.int r.1,.int r.2])):cY G (ζ.iO c k r) (putK ys (Wg k) (.ref b)):=by
 unfold ζ.iO putK;rw[h.any k]
 split
 .exact h.map a
 .exact h.snoc (q:=(k,r)) a
theorem cY.len:∀{a:List (Int×Int×Int)}{ys:List (Key×V)},cY G a ys->ys.length=a.length
 |[],_,h=>by cases h;rfl
 |p::a,_,⟨b,t,e,c,h2⟩=>by subst e;rw[VS,VS,cY.len h2]
def Ao{K:W.Frag}(h:Rep K G (ζ.kz r) v):∃b,v=.ref b/\G b=Z (.tup [.int r.1,.int r.2]):=by
 obtain⟨b,xs,e,a,h2⟩:=h;rw[gK (ns:=[r.1,r.2]) h2]at a;exact⟨b,e,a⟩
def K2{K:W.Frag}(h:G b=Z (.tup [.int r.1,.int r.2])):Rep K G (ζ.kz r) (.ref b):=⟨b,_,rfl,h,.int r.1,_,rfl,rfl,.int r.2,_,rfl,rfl,rfl⟩
end
section
variable{X:aq}{pins:List (VO×WW)}{σ:aN}{G H:ah}{s:VI}
def freeze(I:Inv X pins σ H s)(d:H a=Z u)(h:(∃ys,u=.b5 ys)\/∃ys,u=.ck ys):∃g,Inv X pins σ (upd H a (.cv g u)) s:=by
 obtain⟨g,l,_⟩:=uj I (a:=a) (by rcases h with⟨ys,rfl⟩|⟨ys,rfl⟩;exact .inl ⟨ys,.inl d⟩;exact .inr ⟨ys,.inl d⟩);have f:∀{b:VO},H b=Y->b≠a:=λq z=>by rw[z,d]at q;cases q
 have nt:∀{b:VO}{v:eP},H b=Z v->(∀ys,v≠.b5 ys)->(∀ys,v≠.ck ys)->b≠a:=λq k h2 z=>by
  rw[z,d]at q;cases q;rcases h with⟨ys,e⟩|⟨ys,e⟩
  .exact k ys e
  .exact h2 ys e
 have i:∀{b:VO}{v:eP},bX X.prog X.w H s.heap b v->bX X.prog X.w (upd H a (.cv g u)) s.heap b v:=λq=>q.hB (λ_ _ _ z=>z)
  (λc z=>by rw[bk (nt z (λ_ w=>nomatch w) λ_ w=>nomatch w)];exact z) λc xs z=>by rw[bk (nt z (λ_ w=>nomatch w) λ_ w=>nomatch w)];exact z
 refine⟨g,I.ok,I.os,I.bare,⟨I.base.keep,I.base.slot,λb o e n r=>?_,I.base.there,λb xs e=>?_,λb o v e=>?_,λb y e=>?_⟩,I.loc,I.cell,?_,λx c e=>?_,λp m=>?_,λb v e=>?_,I.len⟩
 .have q:=I.base.free b o e n r;rw[bk (f q)];exact q
 .have q:=I.base.hD b xs e;rw[bk (nt q (λ_ w=>nomatch w) λ_ w=>nomatch w)];exact q
 .have q:=I.base.gE b o v e;rw[bk (nt q (λ_ w=>nomatch w) λ_ w=>nomatch w)];exact q
 .obtain⟨t,q⟩:=I.base.hC b y e;exact⟨t,by rw[bk (nt q (λ_ w=>nomatch w) λ_ w=>nomatch w)];exact q⟩
 .rw[bk (f I.free)];exact I.free
 .rw[bk (f (I.eJ x c e))];exact I.eJ x c e
 .obtain⟨A,j,B⟩:=I.pin p m;exact⟨A,by rw[bk (f j)];exact j,B⟩
 .by_cases c:b=a
  .subst c;rw[b4]at e;cases e;exact⟨l,i (I.aG b u d)⟩
  .rw[bk c]at e;exact i (I.aG b v e)
def t8(h:ai X e l):ai X e (λσ H Q=>l σ H λv b=>∃a u,v=.ref a/\b a=Z u/\((∃ys,u=.b5 ys)\/∃ys,u=.ck ys)/\∀c,Q v (upd b a (.cv c u))):=by
 intro pins s σ H Q I q;refine QP (h pins s σ H _ I q) (λw n m=>?_) λ_ _ z=>z
 obtain⟨v,b,d,j,a,u,e,g,i,k⟩:=m;obtain⟨c,f⟩:=freeze d g i;exact⟨v,_,f,j,k c⟩
end
section
variable{xp:bQ}{X:aq}{ae:List Nat}{m:dn}{f:aD->aY D}{val:VY}{pos p1 p2 p3 p4 lV:Xj}{i j:Nat}{x y:VT}{pins:List (VO×WW)}{σ:aN}{G H:ah}{s:VI}{aa:aD}
def Fz(d:aE G H)(c:H a=Y)(e:∀xs,b≠.tup xs):Ext G H (upd G a b) (upd (upd H a o) a b):=by rw[u4];exact Ext.put d c
def Ll(e:i∈ae)(c:X.N.Nodup)(hi:X.N[i]?=Z x)(g:Loc X.env.scope x)(d:X.fn x=J\/X.env.scope.names.lookup x=Z .local):bJ X (.Assign [.Name x p1] (.Dict [] [] lV) pos) (bS xp X ae λaa=>.ok (.aR (aa.set i (Z (.aI []))))):=by
 rintro pins s σ H T I ⟨h,k,G,aa,a,hw⟩;refine lX c hi g JN rfl d pins s σ H T I ?_;intro p b;exact hw _ G _ (a.n1 (Ext.own a.aV.sub b λ_ z=>nomatch z) e rfl b4 b (a.aV.sub.free b) rfl)
def Lm(e:i∈ae)(c:X.N.Nodup)(hi:X.N[i]?=Z x)(g:Loc X.env.scope x)(d:X.fn x=J\/X.env.scope.names.lookup x=Z .local):bJ X (.Assign [.Name x p1] (.Dict [] [] lV) pos) (bS xp X ae λaa=>.ok (.aR (aa.set i (Z (.aO []))))):=by
 rintro pins s σ H T I ⟨h,k,G,aa,a,hw⟩;refine lX c hi g zx rfl d pins s σ H T I ?_;intro p b;exact hw _ G _ (a.n1 (Ext.own a.aV.sub b λ_ z=>nomatch z) e rfl b4 b (a.aV.sub.free b) ⟨[],rfl,rfl⟩)
def Ln:ai X (.Dict [] [] lV) (ax xp X ae .val λ_=>.ok (.aO [])):=by
 rintro pins s σ H Q I ⟨G,aa,b,hw⟩;refine t8 zx pins s σ H Q I λp a=>⟨p,_,rfl,b4,.inl ⟨_,rfl⟩,λc=>?_⟩
 exact hw (.ref p) _ _ (Fz b.sub a λ_ z=>nomatch z) ⟨p,c,[],rfl,b4,rfl⟩
def uJ(a:cH X.K ae G H aa σ)(d:j∉ae){k:List Int}(h:aa[j]?=Z (Z (.tup (k.map .int)))):∃b,σ[j]?=Z (Z (V.ref b))/\H b=Z (.tup ((k.map (Wg (β:=VT))).map bO)):=by
 obtain⟨v,c,b,ys,rfl,h2,h3⟩:=a.val j _ h d;rw[gK h3]at h2;exact⟨b,c,by rw[yu];exact a.sub _ _ h2⟩
def Lk(hi:i∉ae)(u:j∉ae)(o:X.N[i]?=Z x)(v:dA X.env.scope x)(g:(x==("__debug__":VT))=VC)(h2:(x==("__classdict__":VT))=VC)(q:X.N[j]?=Z y)(w:dA X.env.scope y)(h:(y==("__debug__":VT))=VC)(l:(y==("__classdict__":VT))=VC):ai X (.Dict [Z (.Name x p1)] [.Name y p2] pos) (ax xp X ae .val λaa=>ζ.m6 aa[i]? aa[j]?):=by
 rintro pins s σ H Q I ⟨G,aa,a,hw⟩;dsimp only at hw;unfold ζ.m6 at hw;cases e1:ζ.dq ζ.intD aa[i]? with
 |none=>rw[e1]at hw;exact hw.elim
 |some k =>
  cases e2:ζ.dq ζ.rowOf aa[j]? with
  |none=>rw[e1,e2]at hw;exact hw.elim
  |some r =>
   rw[e1,e2]at hw;obtain⟨N,A,B⟩:=ik e1;obtain⟨O,C,E⟩:=ik e2;cases pD B;cases An E;obtain⟨L,k1,c⟩:=a.val i _ A hi;have c:L=.int k:=c;subst c;obtain⟨R,k2,M⟩:=a.val j _ C u;obtain⟨b,rfl,t⟩:=Ao M;refine t8 (JM (Ke (d7 o v g h2) (d7 q w h l) Kf) rfl rfl (λz=>nomatch z) (by simp)) pins s σ H Q I λp d=>?_
   refine⟨_,k1,_,k2,b4,[(Wg k,.ref b)],rfl,by simp,p,_,rfl,b4,.inl ⟨_,rfl⟩,λe=>?_⟩;have n:=a.sub.free d;refine hw (.ref p) (upd G p (.cv e (.b5 (lO [] [(Wg k,.ref b)])))) _ (by rw[u4,u4];exact Ext.put a.sub d) ⟨p,e,_,rfl,b4,b,[],rfl,d8 n _ _ t,rfl⟩
def Li(U:X.A.units+64<Wy)(u:j∉ae)(L:X.N[i]?=Z x)(N:dA X.env.scope x)(B:(x==("__debug__":VT))=VC)(h2:(x==("__classdict__":VT))=VC)(M:X.N[j]?=Z y)(O:dA X.env.scope y)(C:(y==("__debug__":VT))=VC)(E:(y==("__classdict__":VT))=VC):ai X (.Subscript (.Name x p1) (.Name y p2) pos) (ax xp X ae m λaa=>ζ.hO aa[i]? aa[j]?):=by
 rintro pins s σ H Q I ⟨G,aa,g,hw⟩;refine JK ⋯ (d7 L N B h2) (d7 M O C E) (λ_ _=>rfl) pins s σ H Q I ?_;dsimp only at hw;have S:∀e k,ζ.fC aa[i]?=Z e->ζ.dq ζ.eg aa[j]?=Z k->uT (kH i) (kH j) σ H Q:=λe k e1 e2=>by
  rw[ζ.hO,e1,e2]at hw;dsimp only at hw;obtain⟨v,k1,a,rfl,k2⟩:=g.view (jc e1);obtain⟨w,o,p⟩:=ik e2;cases oc p;obtain⟨b,l,k5⟩:=uJ g u o;cases e3:ζ.et e k with
  |none=>rw[e3]at hw;exact hw.elim
  |some n =>
   rw[e3]at hw;refine⟨_,k1,_,l,a,.int n,rfl,.inr ⟨_,_,b,k2,rfl,k5,by rw[wZ,e3];rfl⟩,hw _ G H (Ext.refl g.sub) (by cases m<;>rfl)⟩
 have R:∀e k,ζ.gA aa[i]?=Z e->ζ.dq ζ.intD aa[j]?=Z k->aZ (match ζ.jH e k with|some r=>.ok (ζ.kz r)|none=>.bad) (λd=>∀v t h,Ext G H t h->bb X.K H t h m d v->Q v h) (λc=>dy xp X c H)->uT (kH i) (kH j) σ H Q:=λe k e1 e2 hw=>by
  obtain⟨v,k1,a,ys,rfl,k2,k3⟩:=g.view (oT e1);obtain⟨w,o,p⟩:=ik e2;cases pD p;obtain⟨T,l,q⟩:=g.val j _ o u;have q:T=.int k:=q;subst q;cases e3:ζ.jH e k with
  |none=>rw[e3]at hw;exact hw.elim
  |some r =>
   rw[e3]at hw;obtain⟨b,z,A⟩:=k3.val e3;refine⟨_,k1,_,l,a,.ref b,rfl,.inl ⟨ys,Wg k,k2,rfl,z.symm⟩,hw _ G H (Ext.refl g.sub) ?_⟩;have:=K2 (K:=X.K) A;cases m<;>exact this
 cases e1:ζ.fC aa[i]? with
 |some e =>
  cases e2:ζ.dq ζ.eg aa[j]? with
  |some k=>exact S e k e1 e2
  |none =>
   rw[ζ.hO,e1,e2]at hw;have:ζ.gA aa[i]?=none:=(by rw[jc e1];rfl);rw[this]at hw;exact hw.elim
 |none =>
  rw[ζ.hO,e1]at hw;dsimp only at hw;cases e3:ζ.gA aa[i]? with
  |none=>rw[e3]at hw;exact hw.elim
  |some e =>
   cases e4:ζ.dq ζ.intD aa[j]? with
   |none=>rw[e3,e4]at hw;exact hw.elim
   |some k=>rw[e3,e4]at hw;exact R e k e3 e4 hw
def Lo(a9:X.A.units+64<Wy)(p:i∈ae)(S:j∉ae)(a5:X.N[i]?=Z x)(aA:dA X.env.scope x)(a2:(x==("__debug__":VT))=VC)(h2:(x==("__classdict__":VT))=VC)(au:X.N[j]?=Z y)(b1:dA X.env.scope y)(a3:(y==("__debug__":VT))=VC)(a4:(y==("__classdict__":VT))=VC)(ay:ai X val (ax xp X ae .val f))(az:Xa val (Z (.Subscript (.Name x p1) (.Name y p2) p3)) pos.line X.env=pure VC):
  bJ X (.Assign [.Subscript (.Name x p1) (.Name y p2) p3] val pos) (bS xp X ae λaa=>f aa>>=λd=>ζ.lb aa[i]? aa[j]? d>>=λz=>.ok (.aR (aa.set i (Z z)))):=by
 rintro pins s σ H T I ⟨B,l,G,aa,L,hw⟩;refine zQ ⋯ (d7 a5 aA a2 h2) (d7 au b1 a3 a4) ay az pins s σ H T I ?_;refine⟨G,aa,L.aV,aQ (aB.mp hw) (λd k v R C a8 A=>?_) λ_ z=>z.mono L.ext.h⟩;have h:=L.step a8;have k:=aB.mp k;have a1:∀g fm n,ζ.fC aa[i]?=Z g->ζ.dq ζ.eg aa[j]?=Z fm->d=.int n->g.length<1000->fR X.K ae B l T (.aR (aa.set i (Z (.aI (ζ.putN g fm n)))))->∃w,σ[i]?=Z (Z w)/\∃u,σ[j]?=Z (Z u)/\∃a i1,w=.ref a/\gu C a u v i1/\T.aR σ i1:=λg fm n e1 e2 E hz q=>by
  subst E;have A:v=.int n:=A;subst A;obtain⟨a,o,k1,k2,k3,t⟩:=h.aV.lst i _ (jc e1) p rfl;cases t;obtain⟨U,M,N⟩:=ik e2;cases oc N;obtain⟨b,k5,b2⟩:=uJ h.aV S M;refine⟨_,k1,_,k5,a,_,rfl,gu.t k2 b2 (by unfold ep;rw[VD,V3];lia),?_⟩;rw[wY];exact q σ R _ (h.write (d:=.aI g) (e:=.aI (ζ.putN g fm n)) p (jc e1) rfl rfl k1 k3 rfl)
 have a0:∀g fm r,ζ.gA aa[i]?=Z g->ζ.dq ζ.intD aa[j]?=Z fm->d=ζ.kz r->g.length<1000->fR X.K ae B l T (.aR (aa.set i (Z (.aO (ζ.iO g fm r)))))->∃w,σ[i]?=Z (Z w)/\∃u,σ[j]?=Z (Z u)/\∃a i1,w=.ref a/\gu C a u v i1/\T.aR σ i1:=λg fm r e1 e2 E hz q=>by
  subst E;obtain⟨c,rfl,av⟩:=Ao A;obtain⟨a,o,k1,k2,k3,ys,rfl,t⟩:=h.aV.lst i _ (oT e1) p rfl;obtain⟨U,M,N⟩:=ik e2;cases pD N;obtain⟨bc,k5,Q⟩:=h.aV.val j _ M S;have Q:bc=.int fm:=Q;subst Q;refine⟨_,k1,_,k5,a,_,rfl,gu.k (k:=Wg fm) k2 (by rw[t.len,V3];lia),?_⟩;exact q σ R _ (h.write (d:=.aO g) (e:=.aO (ζ.iO g fm r)) p (oT e1) rfl rfl k1 k3 ⟨_,rfl,t.put fm av⟩)
 have O:aZ (match ζ.gA aa[i]?,ζ.dq ζ.intD aa[j]?,ζ.rowOf d with|some g,Z k,Z r=>if g.length<1000 then .ok (ζ.D.aO (ζ.iO g k r)) else .bad|_,_,_=>.bad) (λz=>aZ (.ok (ζ.cK.aR (aa.set i (Z z)))) (fR X.K ae B l T) (λc=>dy xp X c l)) (λc=>dy xp X c l)->∃w,σ[i]?=Z (Z w)/\∃u,σ[j]?=Z (Z u)/\∃a i1,w=.ref a/\gu C a u v i1/\T.aR σ i1:=λk=>by
  cases e1:ζ.gA aa[i]? with
  |none=>rw[e1]at k;exact k.elim
  |some g =>
   cases e2:ζ.dq ζ.intD aa[j]? with
   |none=>rw[e1,e2]at k;exact k.elim
   |some fm =>
    cases e3:ζ.rowOf d with
    |none=>rw[e1,e2,e3]at k;exact k.elim
    |some r =>
     rw[e1,e2,e3]at k;dsimp only at k
     by_cases hz:g.length<1000
     .rw[if_pos hz]at k;exact a0 g fm r e1 e2 (An e3) hz k
     .rw[if_neg hz]at k;exact k.elim
 unfold ζ.lb at k;cases e1:ζ.fC aa[i]? with
 |none=>rw[e1]at k;exact O k
 |some g =>
  cases e2:ζ.dq ζ.eg aa[j]? with
  |none=>rw[e1,e2]at k;exact O k
  |some fm =>
   cases e3:ζ.intD d with
   |none=>rw[e1,e2,e3]at k;exact O k
   |some n =>
    rw[e1,e2,e3]at k;dsimp only at k
    by_cases hz:g.length<1000
    .rw[if_pos hz]at k;exact a1 g fm n e1 e2 (pD e3) hz k
    .rw[if_neg hz]at k;exact k.elim
def LN(A:i∈ae)(N:X.N[i]?=Z x)(R:dA X.env.scope x)(M:(x==("__debug__":VT))=VC)(h2:(x==("__classdict__":VT))=VC):
  bJ X (.Return (Z (.Name x p1)) pos) (bS xp X ae λaa=>ζ.mY aa[i]?>>=λd=>.ok (.bH d)):=by
 rintro pins s σ H T I ⟨L,l,G,aa,k,hw⟩;refine qc (t8 (d7 N R M h2)) pins s σ H T I ?_;dsimp only at hw;have C:∀d,aa[i]?=Z (Z d)->eV d=J->(∀o,g0 X.K G d o->(∃ys,o=.b5 ys)\/∃ys,o=.ck ys)->(∀a o h,g0 X.K G d o->G a=Y->Rep X.K (upd G a (.cv h o)) d (.ref a))->fR X.K ae L l T (.bH d)->kH i σ H (λv n=>∃a u,v=.ref a/\n a=Z u/\((∃ys,u=.b5 ys)\/∃ys,u=.ck ys)/\∀h,T.bH v (upd n a (.cv h u))):=λd q p O Q hw=>by
  obtain⟨a,o,k1,k2,k3,B⟩:=k.aV.lst i d q A p;have h0:l a=none:=k.own i d a q p A k1;have t:=O o B;have nt:∀xs,o≠.tup xs:=λxs z=>by rcases t with⟨_,e⟩|⟨_,e⟩<;>rw[e]at z<;>cases z
  refine⟨_,k1,a,o,rfl,k2,t,λh=>?_⟩;refine hw _ (upd G a (.cv h o)) (upd H a (.cv h o)) ⟨k.ext.g.trans (d8 k3),λb v z=>?_,λb v z=>?_,λb U E=>?_,λb xs z=>.inr ?_⟩ (Q a o h B k3)
  .have:b≠a:=λw=>by rw[w,h0]at z;cases z
   rw[bk this];exact k.ext.h b v z
  .by_cases c:b=a
   .subst c;rw[b4]at z ⊢;exact z
   .rw[bk c]at z ⊢;exact k.aV.sub b v z
  .have:b≠a:=λw=>E (by rw[w];exact h0)
   rw[bk this];exact k.ext.new b U E
  .have c:b≠a:=λw=>by rw[w,b4]at z;cases z
   rw[bk c]at z ⊢;exact k.aV.c7 b xs z
 cases q:aa[i]? with
 |none=>rw[q]at hw;exact hw.elim
 |some o =>
  cases o with
  |none=>rw[q]at hw;exact hw.elim
  |some d =>
   rw[q]at hw;cases d with
   |aI S=>exact C _ q rfl (λo e=>.inr ⟨_,e⟩) (λa o h e g=>by cases e;exact⟨a,h,rfl,b4⟩) hw
   |aO S=>exact C _ q rfl (λo ⟨ys,e,_⟩=>.inl ⟨ys,e⟩) (λa o h ⟨ys,e,r⟩ g=>by subst e;exact⟨a,h,ys,rfl,b4,r.mono (d8 g)⟩) hw
   |_=>exact hw.elim
end
abbrev vw(d:VO)(o:eP)(a:List V):gZ :=
 ⟨λi H=>H d=Z o/\i<a.length,λi H v b=>b=H/\a[i]?=Z v,λi H=>H d=Z o/\a.length=i⟩
def Of{K:W.Frag}(d it)(G:d6.data=.dict f a0)(B:Vals g (f.toList.map (·.key))):
  Turn P w K a3 (vw d (.cv d6 u) g) [it] it (λi h=>h.IsKeyIter it d i f.size a0) where
 mem:=by simp
 obj:=λi h st b a=>by
  have e:b=it:=⇑a;subst e;obtain⟨o,e,c,d⟩:=st;exact⟨o,e,λv z=>by rw[d]at z;cases z⟩
 keep:=λi h h' st k=>st.at λo e=>k it (by simp) o e
 item:=by
  intro X t hw r C i O s R H E I j st x;subst t hw r;obtain⟨A,hi⟩:=x;have y:s.heap.get? d=Z d6:=(show bX X.prog X.w H s.heap d (.cv d6 u) from I.aG d _ A).1;have L:g.length=f.size:=(by rw[B.length,VD,VH]);have N:g[i]?=Z g[i]:=PG hi;obtain⟨v,k1,k2⟩:=B.get N;obtain⟨l,m,a1,n,p,q⟩:=j it (by simp);have M:i<f.size:=⋯;refine Pv.wQ st y G M λh' Q a2=>?_
  have S:Inv X O R H { s with heap:=h' }:=I.turned (t':=s.toks) (λb o a e=>(a2.2 b a).trans e) l m n p q;have U:f[i].key=v:=by
   rw[PX,P2,PK M]at k1;exact Ql k1
  obtain⟨o,e,c,dd⟩:=id Q;exact⟨_,rfl,pd (s:={ s with heap:=h' }) e c dd ∅ ⟨g[i],H,S,by rw[U];exact k2,⟨rfl,N⟩,Q,λb a=>(j b a).1⟩⟩
 done:=by
  intro X t hw r C i O s R H E I j st x;subst t hw r;obtain⟨A,hi⟩:=x;have y:s.heap.get? d=Z d6:=(show bX X.prog X.w H s.heap d (.cv d6 u) from I.aG d _ A).1;have L:g.length=f.size:=(by rw[B.length,VD,VH]);obtain⟨l,m,a1,n,p,q⟩:=j it (by simp);subst hi;rw[L]at st;exact Pv.wN (I.ok.hd C) st y G λh' T=>⟨rfl,I.turned (t':=s.toks) (λb o a e=>T b o a e) l m n p q⟩
 self:=λ_ _ _ _ _ st h=>YH st h
def G1{K:W.Frag}(c:∀a b,P a b->aE G a/\b d=Z o)(r:aK K G ds l):hG K P (vw d o l) ds where
 go:=λi a b h hi=>⟨(c a b h).2,by rw[<- r.length];exact hi⟩
 gW:=λi a b x n d h k j m=>by
  obtain⟨e,y⟩:=m;obtain⟨g,q⟩:=c a b h;subst e;obtain⟨v,f,h2⟩:=r.get j;rw[f]at y;cases y;exact⟨a,Ext.refl k,h2.mono g⟩
 stop:=λa b h=>⟨(c a b h).2,r.length.symm⟩
section
theorem sI{G H:ah}(c:∀b xs,H b=Z (.tup xs)->G b=Z (.tup xs)){K:W.Frag}:∀{a:List (List Int×Int)}{xs:List (List Key×VO×VE)},Paired (λ(p:List Key×V)(q:List Key×VO×VE)=>p.1=q.1/\H q.2.1=Z (.tup (p.1.map bO))/\RelV p.2 q.2.2) (ep a) xs ->
  aK K G (a.map λp=>.tup (p.1.map .int)) (xs.map λq=>V.ref q.2.1)
 |[],_,h=>by cases h;rfl
 |p::a,_,h=>by
  cases h with
  |@cons _ q _ xs d h2 =>
   refine⟨V.ref q.2.1,_,rfl,⟨q.2.1,p.1.map V.int,rfl,c _ _ ?_,?_⟩,sI c h2⟩
   .have:=d.2.1;dsimp only at this;rw[yu]at this;exact this
   .exact ints_rep p.1
theorem vl:∀xs:List (List Key×VO×VE),Vals (xs.map λq=>V.ref q.2.1) (xs.map λq=>VQ q.2.1)
 |[]=>.nil
 |q::xs=>.cons (show RelV (V.ref q.2.1) (VQ q.2.1) from rfl) (vl xs)
end
theorem wR{K:W.Frag}:∀{a:List (Int×Int×Int)}{ys:List (Key×V)}{g:List (Key×VE)}{f:List ZG},cY G a ys->dg ys g->Pairs (eL P w) f g ->
  aK K G (a.map λp=>.int p.1) (a.map λp=>V.int p.1)/\Vals (a.map λp=>V.int p.1) (f.map (·.key))
 |[],_,_,_,h,h2,h3=>by cases h;cases h2;cases h3;exact⟨rfl,.nil⟩
 |p::a,_,_,_,⟨b,t,e,o,j⟩,h2,h3=>by
  subst e;cases h2 with
  |@cons _ q _ r c m =>
   cases h3 with
   |@cons e0 _ n _ k1 k2 k3 =>
    obtain⟨k,l⟩:=wR (K:=K) j m k3;have c:=c.1;dsimp only at c;rw[<- c]at k1;refine⟨⟨.int p.1,_,rfl,rfl,k⟩,.cons ?_ l⟩;have k1:Xr p.1 e0.key=true:=k1;cases d:e0.key with
    |int i t=>rw[d]at k1;exact⟨t,by show e0.key=_;rw[d,(show i=p.1 by simpa[Xr] using k1)]⟩
    |_=>rw[d]at k1;cases k1
section
def Lv(a5:m=.view\/m=.val)(hi:i∉b1)(a2:X.N[i]?=Z x)(av:dA X.env.scope x)(a1:(x==("__debug__":VT))=VC)(h2:(x==("__classdict__":VT))=VC):eR X bc (.Name x p1) (gq xp X b1 m λt=>ζ.k9 t[i]?):=by
 rintro T s L H R I ⟨G,t,g,hw⟩;dsimp only at hw;have O:∀{d:VO}{d6:WW}{u:eP}{z:List V}{ds:List D}{l:Array ZG}{r:Nat},L[i]?=Z (Z (.ref d))->G d=Z (.cv d6 u)->(d==WI)=VC->d6.ExactDict->d6.data=.dict l r->aK X.K G ds z->Vals z (l.toList.map (·.key))->ds.length<=16777216 ->
   (∀N M y,Ext G H M y->hG X.K (ie m M y) N ds->ds.length<=16777216->R N y)->VJ (VM X.prog X.w) X.A (Wu (.Name x p1) X.env) (λv f=>VJ (VM X.prog X.w) X.A (YA v) (q7 X T L bc R) X.bl f) X.bl s:=λ{d d6 u z ds l r} k1 k2 k3 ay k5 az aA a4 k=>by
  refine aM (d7 a2 av a1 h2 T s L H (λv j=>v=.ref d/\j=H) I ⟨_,k1,rfl,rfl⟩) λv f a8=>?_
  obtain⟨w,j,q,A,e1,e2⟩:=a8;subst e1 e2;cases A;have Q:=g.sub _ _ k2;have n:f.heap.get? d=Z d6:=(show bX X.prog X.w j f.heap d (.cv d6 u) from q.aG d _ Q).1;refine Pv.wO k3 n ay k5 ?_;refine⟨f.heap.objs.size,[f.heap.objs.size],_,_,j,rfl,q.kept (t':=f.toks) λb o e=>PC _ e,Of (u:=u) d _ k5 aA,⟨_,PQ _ rfl,rfl,rfl⟩,λb a3=>?_,k _ G j (Ext.refl g.sub) (G1 (G:=G) (o:=.cv d6 u) (λa9 bg ⟨c,h⟩=>⟨c,?_⟩) az) a4⟩
  .have e:b=f.heap.objs.size:=⇑a3;subst e;exact q.ly (PE _) (q.aG.fresh (PE _))
  .rcases a5 with rfl|rfl
   .exact h _ _ Q
   .exact h _ _ (c _ _ k2)
 unfold ζ.k9 at hw;cases e1:ζ.fC t[i]? with
 |some S =>
  rw[e1]at hw;obtain⟨v,k1,a,d6,rfl,k2⟩:=g.val i _ (jc e1) hi;obtain⟨n,c,h,xs,B,o,l,r,p,C,E,U,a0⟩:=(show bX X.prog X.w H s.heap a (.cv d6 (.ck (ep S))) from I.aG a _ (g.sub _ _ k2));rw[n]at p;cases p;have au:=sI (K:=X.K) g.c7 B;refine O k1 k2 h C E au (by rw[U,VU];exact vl xs) ?_ hw;rw[VD];unfold ep at c;rw[VD,V3]at c;exact c
 |none =>
  rw[e1]at hw;dsimp only at hw;cases e2:ζ.gA t[i]? with
  |none =>
   rw[e2]at hw;exact hw.elim
  |some S =>
   rw[e2]at hw;obtain⟨v,k1,a,d6,ys,rfl,k2,k3⟩:=g.val i _ (oT e2) hi;obtain⟨n,c,h,bf,B,o,l,r,p,C,E,U,a0,bp⟩:=(show bX X.prog X.w H s.heap a (.cv d6 (.b5 ys)) from I.aG a _ (g.sub _ _ k2));rw[n]at p;cases p;obtain⟨A,b2⟩:=wR (K:=X.K) k3 B a0;refine O k1 k2 h C E A b2 ?_ hw;rw[VD,<- k3.len];rw[V3]at c;exact c
end
section
def H2(a:f.cls=.type "list"\/f.cls=.type "tuple")(j:f.data=.seq e B)(y:¬(!c.isEmpty&&W0 (c.size+e.size))=J)(hz:c.size<=V2)(k:c.size+e.size<=V2+1):
  Meets (WK.«list.extend» ⟨[.ref l,.ref b],[]⟩) λ_ R s=>s.heap.get? l=Z { cls:=.type "list",dict:=Y,data:=.seq c n,slots:=#[] }/\s.heap.get? b=Z f /\
   R (.ok (.ret Value.none)) { s with heap:=s.heap.update l (Wo λx=>x++e),toks:=s.toks }:=by
 refine .of_wp λprog w A R s h=>?_
 obtain⟨z,g,d,tk,os⟩:=s;obtain⟨m,o,p,C⟩:=f;cases j;obtain⟨e1,e2,h⟩:=h;have q:=AutoSeq1.idx_int;have r:=AutoSeq1.sub_list_list;have t:=AutoSeq1.sub_list_tuple;have u:=UI;have v:=AutoSeq1.sub_tuple_list;have i:(c++e).size<=V2+1:=by rw[Ru];exact k
 rcases a with a|a
 .cases a
  wp_walk using (T2 e1 rfl (hz:=hz) (_hz':=i)),Sj e1,Sj e2
  exact⟨_,rfl,h⟩
 .cases a
  wp_walk using (T2 e1 rfl (hz:=hz) (_hz':=i)),Sj e1,Sj e2
  exact⟨_,rfl,h⟩
def Kw(K:W.Frag):V->List V->ah->cj->Prop:=λx c H Q=>∃l b xs a,x=.ref l/\c=[.ref b]/\H l=Z (.lst xs)/\(b8 K H b a\/dT K H b a)/\xs.length+a.length<=V2/\Q .aW (upd H l (.lst (xs++a)))
def IQ:q4 X "list.extend" (Kw X.K):=by
 intro y s C H x B v A Q I o m h;obtain⟨l,b,xs,p,rfl,rfl,j,i,hz,q⟩:=h;cases o;obtain⟨u,rfl,k⟩:=m.one;cases k;obtain⟨z,its,n,r,t,e⟩:=I.yO j;obtain⟨a,c,jv,d,e2,f,g⟩:∃a c jv,Vals p a/\s.heap.get? b=Z c/\(c.cls=.type "list"\/c.cls=.type "tuple")/\c.data=.seq a.toArray jv:=by
  rcases i with i|i
  .obtain⟨a,d,⟨c,jv,e2,f,_,g⟩,_⟩:=I.list i;exact⟨a,c,jv,d,e2,.inl f,g⟩
  .obtain⟨a,d,⟨c,e2,f,jv,g⟩,_⟩:=I.tuple i;exact⟨a,c,jv,d,e2,.inr f,g⟩
 have w:=d.length;have hsz:its.toArray.size+a.toArray.size<=sizeLine:=by rw[PT,PT];lia
 refine UY F.slot_list_extend ⟨_,e,rfl⟩ F.entry_list_extend (F.args_list_extend_2 _ _) (H2 f g (by rw[za hsz,WM];exact QL) (by rw[PT];lia) ⋯) ⟨e,e2,?_⟩;refine⟨.aW,_,I.yN (its':=its++a) j e (by simp) (r.append d) ?_,rfl,q⟩;rw[PI];lia
def Lr{x n:VT}(u:i∈L)(a0:n="extend")(R:X.N[i]?=Z x)(a1:dA X.env.scope x)(Q:(x==("__debug__":VT))=VC)(h2:(x==("__classdict__":VT))=VC)(U:(N.endLine==O.line)=J)(S:ai X e (ax xp X L .val f))(w:VX [e] X.env=[(VC,Wu e X.env)]):
  bJ X (.Expr (.Call (.Attribute (.Name x p1) n N) [e] [] O) p4) (bS xp X L λh=>ζ.i7 h[i]?>>=λ_=>f h>>=λd=>ζ.o4 h[i]? d>>=λy=>.ok (.aR (h.set i (Z y)))):=by
 subst a0;rintro a2 s B H T I ⟨a3,a4,G,h,l,hw⟩;refine ue (t7 Th PySem.F.slot_list_extend PySem.F.type_list_extend IQ (d7 R a1 Q h2) (gn S w) rfl (tg w) U w rfl) rfl a2 s B H T I ?_;obtain⟨ds,q,hw⟩:=wt (aB.mp hw);obtain⟨a,o,k1,k2,k3,xs,rfl,m⟩:=l.aV.lst i (.lst ds) q u rfl;refine⟨_,k1,.inl ⟨rfl,xs,b8.of k2⟩,?_⟩;refine⟨G,h,l.aV,aQ (aB.mp hw) (λd k v j C g M=>?_) λ_ z=>z.mono l.ext.h⟩;have E:=l.step g;rw[q]at k;cases d with
 |lst c =>
  have k:aZ ((if ds.length+c.length<=ζ.SZ then ζ.R.ok (ζ.D.lst (ds++c)) else .bad)>>=λy=>.ok (ζ.cK.aR (h.set i (Z y)))) _ _:=k;have k:=aB.mp k
  by_cases hz:ds.length+c.length<=ζ.SZ
  .rw[if_pos hz]at k;obtain⟨b,A,rfl,t,hR⟩:=M;have r:C a=Z (.lst xs):=g.h _ _ k2;have p:j a=none:=g.new a k3 (by rw[k2];exact λz=>nomatch z);refine⟨a,b,xs,A,rfl,rfl,r,(.inl (fZ g.sub t)),by rw[<- m.length,<- hR.length,<- mF];exact hz,?_⟩;exact k B j _ (E.write (d:=.lst ds) (e:=.lst (ds++c)) u q rfl rfl k1 p ⟨_,rfl,(m.mono g.g).append hR⟩)
  .rw[if_neg hz]at k;exact k.elim
 |tup c =>
  have k:aZ ((if ds.length+c.length<=ζ.SZ then ζ.R.ok (ζ.D.lst (ds++c)) else .bad)>>=λy=>.ok (ζ.cK.aR (h.set i (Z y)))) _ _:=k;have k:=aB.mp k
  by_cases hz:ds.length+c.length<=ζ.SZ
  .rw[if_pos hz]at k;obtain⟨b,A,rfl,t,hR⟩:=M;have r:C a=Z (.lst xs):=g.h _ _ k2;have p:j a=none:=g.new a k3 (by rw[k2];exact λz=>nomatch z);refine⟨a,b,xs,A,rfl,rfl,r,(.inr (fI g.sub t)),by rw[<- m.length,<- hR.length,<- mF];exact hz,?_⟩;exact k B j _ (E.write (d:=.lst ds) (e:=.lst (ds++c)) u q rfl rfl k1 p ⟨_,rfl,(m.mono g.g).append hR⟩)
  .rw[if_neg hz]at k;exact k.elim
 |_=>exact k.elim
end
theorem Bs:∀{xs:List D}{a:List (List Int)},ζ.jG xs=Z a->xs=a.map cm
 |[],a,h=>by cases h;rfl
 |x::xs,a,h=>by
  unfold ζ.jG at h;cases e1:ζ.eg x with
  |none=>rw[e1]at h;cases h
  |some k =>
   cases e2:ζ.jG xs with
   |none=>rw[e1,e2]at h;cases h
   |some b =>
    rw[e1,e2]at h;cases h;rw[oc e1,Bs e2];rfl
def Oc{d:D}(h:ζ.qF d=Z a):d=.lst (a.map cm):=by
 unfold ζ.qF at h
 split at h
 .rw[Bs h]
 .cases h
theorem z6:∀{ds:List D}{b:List VE}{c:List VO},ZA h b (e6 ds) c->∀(m:Nat)(a:m<b.length),∃d bs,ds[m]?=Z d/\Reads h b[m] (toPy d) bs
 |[],_,_,r,m,a=>by cases r;simp at a
 |d::ds,_,_,r,m,a=>by
  cases r with
  |cons e f =>
   cases m with
   |zero=>exact⟨d,_,rfl,e⟩
   |succ m =>
    obtain⟨d',bs,e1,e2⟩:=z6 f m ⇑a;exact⟨d',bs,⇑e1,e2⟩
def qn(k):ζ.bR 60 (cm k)=true:=ar.n2 59 k
section
variable{xp:bQ}{X:aq}{ae:List Nat}{m:dn}{pos p1 p2 ap eB:Xj}{i j:Nat}{x y n:VT}
def IS(T:X.A.units+64<Wy):q4 X "list.index" (λx M H Q=>∃(G:ah)(l:VO)(v:V)(xs:List V)(a:List (List Int))(k:List Int),aE G H/\x=.ref l/\M=[v]/\b8 X.K H l xs/\aK X.K G (a.map cm) xs/\View X.K G H (cm k) v/\k∈a/\a.length<=1000/\Q (.int (a.idxOf k:Nat)) H):=by
 intro b2 s a8 H x M v bc Q I a4 a3 h;obtain⟨G,l,w,xs,a,k,C,rfl,rfl,S,B,U,R,b1,q⟩:=h;cases a4;obtain⟨u,rfl,a2⟩:=a3.one;obtain⟨its,N,⟨⟨ay,dd,az,a5⟩,c,A,r,_,t⟩,_⟩:=I.list S;simp only at r t;subst r t;have g:(a.map cm).all (ζ.bR 60)=true:=by rw[Ss,Qd];exact λk _=>qn k
 obtain⟨au,L⟩:=kx I C 60 g B N;obtain⟨bs,a1⟩:=kv I C U a2 (qn k);have aA:its.length=a.length:=by rw[<- N.length,<- B.length,VD]
 have E:∀m (f:m<its.length),hP s.heap (cm k) its[m]=decide (a[m]'⋯=k):=λm f=>by
  obtain⟨d,av,e1,e2⟩:=z6 L m f;rw[PX,PG ⋯]at e1;cases e1;rw[sQ e2 (qn _)];exact ar.gB _ _
 have O:=Rr R;refine UY F.slot_list_index ⟨_,A,rfl⟩ F.entry_list_index (F.args_list_index_2 _ _) (SeqAt.list_indexAt l its.toArray c dd a5 u (hP s.heap (cm k)) (a.idxOf k) (by rw[PT];lia) ⋯ ?_ ?_) ⟨A,λz hz=>o1 T a1 (qn k) L g z ⇑hz,?_⟩
 .have:=E (a.idxOf k) ⋯;simp only[YO];rw[this,Tc O];simp
 .intro a0 f h2;have:=E a0 ⇑f;simp only[YO];rw[this];refine decide_eq_false λe=>?_
  have:=List.not_of_lt_findIdx (p:=(·==k)) (xs:=a) h2;simp[e]at this
 .exact⟨.int _,H,I.kept (t':=_) λb o e=>e,⟨_,rfl⟩,q⟩
def LB(q:X.A.units+64<Wy)(p:n="index")(o:(ap.endLine==eB.line)=J)(h:X.N[i]?=Z x)(r:dA X.env.scope x)(e:(x==("__debug__":VT))=VC)(h2:(x==("__classdict__":VT))=VC)(l:X.N[j]?=Z y)(t:dA X.env.scope y)(f:(y==("__debug__":VT))=VC)(g:(y==("__classdict__":VT))=VC):ai X (.Call (.Attribute (.Name x p1) n ap) [.Name y p2] [] eB) (ax xp X ae m λb=>ζ.lG b[i]? b[j]?):=by
 subst p;rintro v s E H Q I ⟨G,b,c,hw⟩;dsimp only at hw;unfold ζ.lG at hw;cases e1:ζ.dq ζ.qF b[i]? with
 |none=>rw[e1]at hw;exact hw.elim
 |some d =>
  cases e2:ζ.dq ζ.eg b[j]? with
  |none=>rw[e1,e2]at hw;exact hw.elim
  |some k =>
   rw[e1,e2]at hw;dsimp only at hw
   by_cases hz:k∈d/\d.length<=1000
   .rw[if_pos hz]at hw;obtain⟨L,w,z⟩:=ik e1;cases Oc z;obtain⟨M,A,B⟩:=ik e2;cases oc B;obtain⟨N,k1,a,xs,rfl,k2,k3⟩:=c.view w;obtain⟨C,u,k5⟩:=c.view A;refine t7 Th PySem.F.slot_list_index PySem.F.type_list_index (IS q) (d7 h r e h2) (gn (d7 l t f g) rfl) rfl (tg rfl) o rfl rfl v s E H Q I ?_;exact⟨_,k1,.inl ⟨rfl,xs,k2⟩,_,u,G,a,C,xs,d,k,c.sub,rfl,rfl,k2,k3,k5,hz.1,hz.2,hw _ G H (Ext.refl c.sub) (by cases m<;>rfl)⟩
   .rw[if_neg hz]at hw;exact hw.elim
end
section
variable{xp:bQ}{X:aq}{ae:List Nat}{m:dn}{pos p1 p2 p3 p4 lV ap eB:Xj}{i j:Nat}{x y:VT}{pins:List (VO×WW)}{σ:aN}{G H:ah}{s:VI}{aa:aD}
def AV(d:cH X.K ae G H aa σ)(c:i∈ae)(h:aa[i]?=Z (Z (.aI e))):∃a,σ[i]?=Z (Z (V.ref a))/\H a=Z (.ck (ep e))/\G a=none:=by
 obtain⟨a,o,b,h2,h3,h4⟩:=d.lst i _ h c rfl;cases h4;exact⟨a,b,h2,h3⟩
def N9{o:Option (Option D)}(h:ζ.dq ζ.eg o=Z k):o=Z (Z (.tup (k.map .int))):=by
 obtain⟨d,e1,e2⟩:=ik h;rw[e1,oc e2]
def Lj(C:X.A.units+64<Wy)(p:i∈ae)(v:j∉ae)(l:X.N[i]?=Z x)(q:dA X.env.scope x)(f:(x==("__debug__":VT))=VC)(h2:(x==("__classdict__":VT))=VC)(n:X.N[j]?=Z y)(r:dA X.env.scope y)(g:(y==("__debug__":VT))=VC)(h:(y==("__classdict__":VT))=VC)(w:(ap.endLine==eB.line)=J):
  bJ X (.Assign [.Subscript (.Name x p1) (.Name y p2) p3] (.BinOp (.Call (.Attribute (.Name x E) "get" ap) [.Name y L,.Constant (.int 0) c0 M] [] eB) .Add (.Constant (.int 1) B N) O) pos) (bS xp X ae λaa=>ζ.mZ aa[i]? aa[j]?>>=λd=>.ok (.aR (aa.set i (Z d)))):=by
 rintro pins s σ H T I ⟨z,A,G,aa,e,hw⟩;refine zQ ⋯ (d7 l q f h2) (d7 n r g h) (zB zg (JL ⋯ (d7 l q f h2) (d7 n r g h) t9 ⟨rfl,rfl,w,rfl⟩) t9) rfl pins s σ H T I ?_;have hw:=aB.mp hw;unfold ζ.mZ at hw;cases e1:ζ.fC aa[i]? with
 |none=>rw[e1]at hw;exact hw.elim
 |some c =>
  cases e2:ζ.dq ζ.eg aa[j]? with
  |none=>rw[e1,e2]at hw;exact hw.elim
  |some k =>
   rw[e1,e2]at hw;dsimp only at hw;obtain⟨a,k1,k2,k3⟩:=AV e.aV p (jc e1);obtain⟨b,t,k5⟩:=uJ e.aV v (N9 e2)
   by_cases hz:c.length<1000
   .rw[if_pos hz]at hw;have o:=iY.t k2 k5;rw[wZ]at o;have u:((ζ.et c k).map V.int).getD (.int 0)=.int ((ζ.et c k).getD 0):=(by cases ζ.et c k<;>rfl);refine⟨_,k1,a,rfl,.inr ⟨_,.inl k2⟩,_,t,_,o,?_⟩;refine⟨_,_,u,rfl,_,k1,_,t,a,_,rfl,gu.t k2 k5 (by unfold ep;rw[VD,V3];lia),?_⟩;rw[wY];exact hw σ G _ (e.write (d:=.aI c) p (jc e1) rfl rfl k1 k3 rfl)
   .rw[if_neg hz]at hw;exact hw.elim
def Lp(S:X.calm=J)(a3:X.A.units+64<Wy)(a4:x="sorted")(T:cn X x)(a2:X.ak x=Y)(a1:i∈ae)(O:X.N[i]?=Z y)(f:dA X.env.scope y)(N:(y==("__debug__":VT))=VC)(h2:(y==("__classdict__":VT))=VC):
  ai X (.Call (.Name x p1) [.Name y p2] [] pos) (ax xp X ae .fresh λaa=>ζ.lh aa[i]?):=by
 subst a4;rintro pins s σ H Q I ⟨G,aa,d,hw⟩;have n:X.A.handled=none:=I.ok.hd S;dsimp only at hw;unfold ζ.lh at hw;cases e1:ζ.fC aa[i]? with
 |none=>rw[e1]at hw;exact hw.elim
 |some t =>
  rw[e1]at hw;dsimp only at hw;obtain⟨a0,k,hw⟩:=BU hw;obtain⟨a,k1,k2,k3⟩:=AV d a1 (jc e1);refine QY (fV I T a2 (u:=.builtin "sorted") (by kernel_rfl) ?_);refine RB ?_ rfl rfl;show VJ _ _ (Zj ((VC,Wu (.Name y p2) X.env)::[])) _ _ s;refine RA ?_;refine aM (d7 O f N h2 pins s σ H (λv c=>v=.ref a/\c=H) I ⟨_,k1,rfl,rfl⟩) λu w b1=>?_
  obtain⟨v,c,g,a5,e2,e3⟩:=b1;subst e2 e3;cases a5;refine R7 ?_;obtain⟨a8,au,xs,av,o,h,b2,ay,az,aA,z,a9⟩:=(show bX X.prog X.w c w.heap a (.ck (ep t)) from g.aG a _ k2);have p:=sI (K:=X.K) d.c7 av;have hsz:h.size=xs.length:=(by rw[<- VH,z,VD]);have bc:t.length=xs.length:=(by have:=p.length;simpa using this);rw[VD]at k;refine qq (PySem.W.kdu_collect (A:=X.A.in1) (Pv.MC au az aA) n ay (by rw[hsz,V3];lia) λh' tk L U R=>?_);have E:Inv X pins σ c { w with heap:=h',toks:=tk }:=g.kept U;have M:L.toList=xs.map λq=>VQ q.2.1:=by
   refine ym (P:=Pv.q1 h) (l:=xs.map λq=>VQ q.2.1) (by rw[VD,<- hsz];exact R) λj v f=>?_
   obtain⟨e,b,rfl⟩:=f;rw[<- P2,z,PX]at b;cases q:xs[j]? with
   |none=>rw[q]at b;cases b
   |some x=>rw[q]at b;cases b;rw[PX,q];rfl
  rw[M];refine qp n a3 E d.sub p (vl xs) a0 (by rw[VD];exact k) λv B C x r=>hw v B C x r
end
structure fw(K:W.Frag)(ae:List Nat)(bB aX:ah)(f6:aD)(f7:aN)(G H:ah)(aa:aD)(σ:aN):Prop where
 aV:cH K ae G H aa σ
 ext:Ext bB aX G H
 keep:∀i∈ae,σ[i]?=f7[i]?/\aa[i]?=f6[i]?
def J8(K:W.Frag)(e:List Nat)(a b:ah)(g:aD)(h:aN)(T:Ends):ζ.cK->Prop
 |.aR f=>∀c G H,fw K e a b g h G H f c->T.aR c H
 |.bH d=>∀v G H,Ext a b G H->Rep K G d v->T.bH v H
def gS(xp:bQ)(X:aq)(d:List Nat)(f:aD->aY ζ.cK):eG:=λT i H =>
 ∃b a g h G e,fw X.K d b a g h G H e i/\aZ (f e) (J8 X.K d b a g h T) (λc=>dy xp X c a)
section
variable{xp:bQ}{X:aq}{ae:List Nat}{K:W.Frag}{bB aX G H bw H1:ah}{f6 aa:aD}{f7 σ:aN}{i:Nat}{d:D}{v:V}{f fc:aD->aY D}{g1 g2:aD->aY ζ.cK}{e c:VY}{st:Wl}{jC cQ cw:List Wl}{x:VT}{p1 pos:Xj}
def fw.step(h:fw K ae bB aX f6 f7 G H aa σ)(x:Ext G H bw H1):fw K ae bB aX f6 f7 bw H1 aa σ:=⟨h.aV.ext x,h.ext.trans x,h.keep⟩
theorem fw.jB(h:fw K ae bB aX f6 f7 G H aa σ)(b:i∉ae)(r:Rep K G d v):fw K ae bB aX f6 f7 G H (aa.set i (Z d)) (σ.set i (Z v)) :=
 ⟨h.aV.jB b r,h.ext,λj a=>by
  have g:i≠j:=λq=>b (q▸a)
  rw[R6 g,R6 g];exact h.keep j a⟩
def JA(j:i∉ae)(b:X.N.Nodup)(hi:X.N[i]?=Z x)(m:Loc X.env.scope x)(g:ai X e (ax xp X ae .val f))(l:Xa e (Z (.Name x p1)) pos.line X.env=pure VC)(h:X.fn x=J\/X.env.scope.names.lookup x=Z .local):
  bJ X (.Assign [.Name x p1] e pos) (gS xp X ae λaa=>f aa>>=λd=>.ok (.aR (aa.set i (Z d)))):=by
 rintro n s σ H T I ⟨bB,aX,f6,f7,G,aa,a,hw⟩;refine lX b hi m g l h n s σ H T I ?_;refine⟨G,aa,a.aV,aQ (aB.mp hw) (λd k v bw H1 p o=>?_) λ_ q=>q.mono a.ext.h⟩;exact k _ bw H1 ((a.step p).jB j o)
def t5:dh X [] (gS xp X ae λaa=>.ok (.aR aa)):=by
 rintro b s σ H T I ⟨bB,aX,f6,f7,G,aa,a,hw⟩;exact zT b s σ H T I (hw σ G H a)
def zr(b:bJ X st (gS xp X ae g1))(h2:dh X jC (gS xp X ae g2)):dh X (st::jC) (gS xp X ae (AF g1 g2)):=by
 rintro j s σ H T I ⟨bB,aX,f6,f7,G,aa,g,hw⟩;refine uf b h2 j s σ H T I ?_;refine⟨bB,aX,f6,f7,G,aa,g,aQ (aB.mp hw) (λr k=>?_) λ_ q=>q⟩;cases r with
 |aR l=>exact λn a m h=>⟨bB,aX,f6,f7,a,l,h,k⟩
 |bH d=>exact k
def JB(j:cG X c (eN xp X ae fc))(g:dh X cQ (gS xp X ae g1))(h:dh X cw (gS xp X ae g2)):bJ X (.If c cQ cw pos) (gS xp X ae λaa=>fc aa>>=λx=>ζ.ez x>>=λk=>if k then g1 aa else g2 aa):=by
 rintro m s σ H T I ⟨bB,aX,f6,f7,G,aa,a,hw⟩;refine zS j g h m s σ H T I ?_;refine⟨G,aa,a.aV,?_⟩;refine aB.mpr (aQ (aB.mp hw) (λd k=>aQ (aB.mp k) (λl q bw H1 b=>?_) λ_ q=>q.mono a.ext.h) λ_ q=>q.mono a.ext.h);cases l with
 |true=>simp only[QI]at q ⊢;exact⟨bB,aX,f6,f7,bw,aa,a.step b,q⟩
 |false=>simp only[PD,PZ]at q ⊢;exact⟨bB,aX,f6,f7,bw,aa,a.step b,q⟩
def Lu(bf:ZD (VM X.prog X.w) X.A X.env X.bl)(a8:X.calm=J)(bz:∀t∈ts,t∉ae)(hi:eR X a2 a0 (gq xp X ae .view aA))(bg:f9 X a2 (o9 X.K k ts))(b2:dh X body (gS xp X ae y))(bp:∀z,WD a0 X.env z=pure z):bJ X (.For a2 a0 body [] pos) (bS xp X ae λaa=>aA aa>>=λds=>ζ.forL (λd b=>ζ.dH k d>>=λu=>y (ζ.gp ts u b)) ds aa):=by
 rintro da s σ H T I ⟨bB,aX,G,aa,C,hw⟩;refine zR bf a8 hi bg b2 bp da s σ H T I ?_;refine⟨G,aa,C.aV,aQ (aB.mp hw) (λds a1 cP bw H1 a3 L hz=>?_) λ_ q=>q.mono C.ext.h⟩;generalize S:(λd b=>ζ.dH k d>>=λu=>y (ζ.gp ts u b))=F at a1;refine⟨λj m Q aC=>j+m=ds.length/\∃l b,b7 X.K ae bB aX l aC b Q/\Ext bw H1 l aC/\aZ (ζ.forL F (ds.drop j) b) (fR X.K ae bB aX T) (λc=>dy xp X c aX),
  ⟨ds.length,⋯,bw,aa,C.step a3,Ext.refl a3.sub,⇑a1⟩,?_⟩
 rintro j m Q aC ⟨c2,l,b,cw,N,g⟩;have B:ie .view bw H1 l aC:=⟨N.g,N.h⟩
 by_cases E:j<ds.length
 .refine .inr ⟨L.go j l aC B E,λau w=>(j+1)+(m-1)=ds.length/\∃o a4,b7 X.K ae bB aX o w a4 au/\Ext bw H1 o w/\aZ (ζ.forL F (ds.drop (j+1)) a4) (fR X.K ae bB aX T) (λc=>dy xp X c aX),
   λau w h2=>⟨m-1,⋯,h2⟩,λv w cy=>?_⟩
  have a9:ds[j]?=Z ds[j]:=PG E;obtain⟨o,M,cz⟩:=L.gW j l aC v w ds[j] B cw.aV.sub a9 cy;have cN:=cw.step M;have av:ds.drop j=ds[j]::ds.drop (j+1):=Qw E;rw[av,xI,<- S]at g;have g:=aB.mp (aB.mp g);refine⟨o,ds[j],M.sub,cz,?_⟩;cases h:ζ.dH k ds[j] with
  |bad=>rw[h]at g;exact g
  |exc c =>
   exfalso;cases k with
   |zero=>cases h
   |succ k =>
    cases U:ds[j] with
    |tup O =>
     rw[U]at h;have bc:ζ.dH (k+1) (.tup O)=if O.length=k+1 then .ok (O.map Z) else .bad:=rfl;rw[bc]at h
     split at h<;>cases h
    |_=>rw[U]at h;cases h
  |ok os =>
   rw[h]at g;intro cp u az cA;subst az;have p:=b7.uB bz cN cA;have c0:aZ (y (ζ.gp ts (cp.map Z) b)) _ _:=g;refine⟨o,_,_,_,o,_,⟨p.aV,Ext.refl p.aV.sub,λ_ _=>⟨rfl,rfl⟩⟩,aQ c0 (λr n=>?_) λc z=>z.mono p.ext.h⟩;cases r with
   |aR a5 =>
    intro dJ A R sp;have n:aZ (ζ.forL (λd b=>ζ.dH k d>>=λu=>y (ζ.gp ts u b)) (ds.drop (j+1)) a5) (fR X.K ae bB aX T) (λc=>dy xp X c aX):=n;rw[S]at n;exact⟨⋯,A,a5,⟨sp.aV,p.ext.trans sp.ext,λi d a e b1 hi z=>p.own i d a (by rw[<- (sp.keep i hi).2];exact e) b1 hi (by rw[<- (sp.keep i hi).1];exact z)⟩,(N.trans M).trans sp.ext,n⟩
   |bH d =>
    intro cO A R cB b9;have n:fR X.K ae bB aX T (.bH d):=n;exact n cO A R (p.ext.trans cB) b9
 .have ay:j=ds.length:=⋯;subst ay;refine .inl ⟨L.stop l aC B,?_⟩;rw[SY]at g;exact g Q l aC cw
def LW:bJ X st (bS xp X ae λ_=>.bad):=λ_ _ _ _ _ _ ⟨_,_,_,_,_,hw⟩=>hw.elim
end
def F2{K:W.Frag}(x:Ext G H c f)(r:bb K H c f .fresh d v):∃e,Ext G H e f/\Rep K e d v:=by
 cases d with
 |lst ds =>
  obtain⟨a,xs,rfl,i,h2,h3,h4⟩:=r;refine⟨upd c a (.lst xs),⟨x.g.trans (d8 h3),x.h,λb o q=>?_,λb j h=>?_,λb xs q=>(x.c7 b xs q).imp id λz=>d8 h3 _ _ z⟩,a,xs,rfl,.inl (.inl b4),h4.mono (d8 h3)⟩
  .by_cases g:b=a
   .subst g;rw[b4]at q;rw[i];exact q
   .rw[bk g]at q;exact x.sub b o q
  .rw[bk (λz=>h (by rw[z];exact h2))];exact x.new b j h
 |aI _=>exact r.elim
 |aO _=>exact r.elim
 |_=>exact⟨c,x,r⟩
section
def K9(L:X.calm=J)(Q:∀i∈f,i<X.N.length)(B:jK X c xs w)(O:ζ.dv k n=Z xs)(R:∀x,WD m X.env x=pure x)(hi:eR X n m (gq xp X f .view c0))(M:∀s3 a3 ay g,ai (eF X c w s3 a3 ay g) A (ax xp (eF X c w s3 a3 ay g) f .val cy))(S:kV xp X f c w a1 fc)(E:X.N.Nodup)(a0:X.N[i]?=Z y)(U:Loc X.env.scope y)(N:X.fn y=J\/X.env.scope.names.lookup y=Z .local):
  bJ X (.Assign [.Name y p1] (.ListComp A [⟨n,m,a1,0⟩] c pos) p4) (bS xp X f λt=>(c0 t>>=λds=>ζ.iH (ζ.bA (gi k fc cy t) ds)>>=λys=>.ok (.lst ys))>>=λd=>.ok (.aR (t.set i (Z d)))):=by
 have l:∃b:Bool,Xa (.ListComp A [⟨n,m,a1,0⟩] c pos) (Z (.Name y p1)) p4.line X.env=pure b:=⟨_,rfl⟩;obtain⟨b,l⟩:=l;cases b with
 |false =>
  by_cases j:i∈f
  .exact Av j E a0 U (uy L Q B O R hi M S) l N
  .exact Au j E a0 U (ai.val (uy L Q B O R hi M S)) l N
 |true =>
  rintro g s a2 H T I ⟨dJ,dC,G,t,a,hw⟩;rw[exec_Assign_Name_used _ _ _ _ l];refine PA (wpAny_standAt (PA ?_));show VJ _ X.A (do let _ <- comprehension (.ListComp A [⟨n,m,a1,0⟩] c pos) c X.env _ (ZZ []) VC (Wu m X.env) (Z (ZC (.Name y p1) X.env))) _ _ s;refine PA (QP (wH L Q B O R hi M S I a.aV (use:=Z (ZC (.Name y p1) X.env)) (Qc:=λ_ s'=>kT X g T .next s') ?_) (λ_ s' cO=>VB (VB cO)) λ_ _ e=>e);have hw:=aB.mp (aB.mp hw);refine aB.mpr (aQ hw (λds k1=>?_) λ_ q=>q.mono a.ext.h);refine aQ (aB.mp k1) (λys k2 s4 h b1 C u m4 x r b9 da cp=>?_) λ_ q=>q.mono a.ext.h
  have a4:Inv X g a2 h s4:=cp s4.heap (Se _ _);obtain⟨nN,a9,a8,cA,az⟩:=id b9;have cz:∀v,nN.data≠.cell v:=λv z=>by
   have:=az.1;rw[z]at this;cases this
  obtain⟨au,av,bg,bf,bp,bz⟩:=da;have bc:Inv X (g++[(C,nN)]) a2 h s4:=a4.nT λp cN=>by
   rcases PS.mp cN with z|z
   .exact a4.pin p (PO _ z)
   .have z:=P6.mp z;subst z;exact⟨cA,au,av,bg,cz⟩
  show VJ _ X.A (ZC (.Name y p1) X.env (.ref u)) _ _ s4;refine wpAny_assign_Name (qu bc E a0 U (v:=.ref u) rfl (λaA a5=>?_) N);have h5:aA.heap.get? C=Z nN:=(a5.pin (C,nN) (PO _ (PO _ (P6.mpr rfl)))).1;refine⟨m4,⟨nN,a9,a8,h5,az⟩,λh' cP=>⟨a2.set i (Z (.ref u)),h,?_,?_⟩⟩
  .exact(a5.mn).turned (t':=aA.toks) (λb o a e=>(cP.2 b a).trans e) au av bf bp bz
  .by_cases j:i∈f
   .exact k2 _ b1 h (a.AI x j r)
   .obtain⟨b2,c2,cB⟩:=F2 x r;exact k2 _ b2 h ((a.step c2).jB j cB)
end
abbrev nice:VY->Bool
 |.Starred ..=>VC
 |.Set ..=>VC
 |.SetComp ..=>VC
 |.DictComp ..=>VC
 |.Slice ..=>VC
 |_=>J
def nn{α:Type}{a:α}{p:Prop}(h:Y=Z a):p:=nomatch h
def dQ(h:ζ.df x=Z y):∃p,x=.Name y p:=by
 cases x with
 |Name z p=>cases h;exact⟨p,rfl⟩
 |_=>exact nn h
def qI(h:ζ.mq x=Z c):∃k p,x=.Constant c k p:=by
 cases x with
 |Constant z k p=>cases h;exact⟨k,p,rfl⟩
 |_=>exact nn h
def OG(h:ζ.BG x=Z a):∃k p,x=.Tuple a k p:=by
 cases x with
 |Tuple z k p=>cases h;exact⟨k,p,rfl⟩
 |_=>exact nn h
def BE(h:ζ.vd x=Z a):∃p,x=.List a p:=by
 cases x with
 |List z p=>cases h;exact⟨p,rfl⟩
 |_=>exact nn h
def u7(h:ζ.qH x=Z (a,o,b)):∃p,x=.BinOp a o b p:=by
 cases x with
 |BinOp l o r p=>cases h;exact⟨p,rfl⟩
 |_=>exact nn h
def vi(h:ζ.mr x=Z (o,a)):∃p,x=.UnaryOp o a p:=by
 cases x with
 |UnaryOp o r p=>cases h;exact⟨p,rfl⟩
 |_=>exact nn h
def BA{os:List CmpOp}(h:ζ.oh x=Z (a,os,ys)):∃p,x=.Compare a os ys p:=by
 cases x with
 |Compare l o r p=>cases h;exact⟨p,rfl⟩
 |_=>exact nn h
def oe(h:ζ.vBool x=Z (o,a,p)):x=.BoolOp o a p:=by
 cases x with
 |BoolOp o a p=>cases h;rfl
 |_=>exact nn h
def vg(h:ζ.qJ x=Z (a,b)):∃p,x=.Subscript a b p:=by
 cases x with
 |Subscript l r p=>cases h;exact⟨p,rfl⟩
 |_=>exact nn h
def OD(h:ζ.BF x=Z (a,b,c)):∃p,x=.Slice a b c p:=by
 cases x with
 |Slice l r t p=>cases h;exact⟨p,rfl⟩
 |_=>exact nn h
def u9(h:ζ.og x=Z (f,a,b)):∃p,x=.Call f a b p:=by
 cases x with
 |Call l r t p=>cases h;exact⟨p,rfl⟩
 |_=>exact nn h
set_option tactic.hygienic true in
theorem e7 (h:ζ.dP x=Z (y,a)):∃p q,x=.Call (.Name y p) a [] q:=by
 unfold ζ.dP at h
 split at h
 .rename_i f b e1;obtain⟨q,rfl⟩:=u9 e1
  split at h
  .rename_i z e2;obtain⟨p,rfl⟩:=dQ e2;cases h;exact⟨p,q,rfl⟩
  .cases h
 .cases h
def BC(h:ζ.BB x=Z (a,b,c)):∃p,x=.ListComp a b c p:=by
 cases x with
 |ListComp l r t p=>cases h;exact⟨p,rfl⟩
 |_=>exact nn h
def de(h:ζ.bt g ct v e x=J):nice x=true:=by
 cases a:nice x with
 |true=>rfl
 |false =>
  exfalso;cases x<;>first|(cases a;done)|skip
  all_goals (cases e<;>exact QL h)
def kD(h:nice e=J):VX (e::a) env=(VC,Wu e env)::VX a env:=by
 cases e<;>first|rfl|cases h
def eM(h:nice e=J):VX [e] env=[(VC,Wu e env)]:=kD h
def A3(h:nice e=J)(h':nice a=J):VX [e,a] env=[(VC,Wu e env),(VC,Wu a env)]:=by rw[kD h,eM h']
def Ka(h:∀e∈a,nice e=J):(Xg pos (VX a env)).any (·.1)=false:=by
 induction a with
 |nil=>rfl
 |cons e a b =>
  rw[kD (h e VF)];show(VC||(Xg pos (VX a env)).any (·.1))=VC;rw[b λz hz=>h z (VG _ hz)];rfl
def G9(h:nice b=J):q8 b:=by
 intro o i;cases b<;>first|rfl|cases h
def set_plain(h:nice b=J):∀x,WD b env x=pure x:=by
 intro x;cases b<;>first|rfl|cases h
def yS(h:nice b=J):Xp op b=false:=by
 cases b<;>first|rfl|cases h
def qv(h:nice e=J)(a:ζ.nJ e=J):Xa e t n env=pure false:=by
 cases e<;>first|rfl|(cases a;done)|(cases h;done)
def kQ:List Str:=["len","isinstance","int","bool","str","tuple","sorted","set","range","sum","max","min","enumerate","list","any"]
structure d1(P:Wa)(w:Wm)(K:W.Frag)(ak:VT->Option VE)(base:V9)(xp:bQ)(k:Nat)(g:ζ.Gt)(pg:ζ.cT)(Φ:ζ.dw):Prop where
 fn:∀(f:Nat)(x:VT),g.fns[f]?=Z x->∃a6 fd ec,ak x=Z (.ref a6)/\W.keepIn K (.ref a6)=J/\Binds K fd ec []/\hF P w K ak base (gY P w xp) k a6 fd ec (kC K (Φ f) ec.length)/\∀ds,ds.length≠ec.length->Φ f ds=.bad
 blt:∀x:VT,x∈kQ->ak x=Y
 ni:∀(j:Nat)(x:VT)(d:D),g.ni[j]?=Z x->pg.cs[j]?=Z d->∃v u,ak x=Z u/\RelV v u/\∀G,Rep K G d v
structure bN(xp:bQ)(k:Nat)(g:ζ.Gt)(pg:ζ.cT)(Φ:ζ.dw)(X:aq)(ct:ζ.bI):Prop where
 bW:d1 X.prog X.w X.K X.ak X.base xp k g pg Φ
 room:ek k X.A
 units:X.A.units+64<Wy
 calm:X.calm=J
 nm:X.N=ct.N
 di:ct.N.Nodup
 ae:∀i∈ct.ae,i<ct.N.length
 lc:∀x,ct.sc.names.lookup x=Z .local->X.env.scope.names.lookup x=Z .local
 mT:∀x,(ct.sc.names.lookup x=Z .cell\/ct.sc.names.lookup x=Z .free)->(X.env.scope.names.lookup x=Z .cell\/X.env.scope.names.lookup x=Z .free)
 gl:∀x,ct.sc.names.lookup x=Z .globalImplicit->X.env.kindOf x=Z .globalImplicit
section
def bN.e8(h:bN xp k g pg Φ X ct)(q:ζ.gT ct.sc x=J):dA X.env.scope x:=by
 unfold ζ.gT at q;simp only[Rk,P8]at q;rcases q with(q|q)|q
 .exact .inl (h.lc x q)
 .exact .inr (h.mT x (.inl q))
 .exact .inr (h.mT x (.inr q))
def bN.nj(h:bN xp k g pg Φ X ct)(q:ζ.hU ct.sc x=J):cn X x:=by
 unfold ζ.hU at q;exact h.gl x ⇑q
def d0(h:ζ.okN x=J):(x==("__debug__":VT))=VC/\(x==("__classdict__":VT))=VC/\x≠"__name__":=by
 unfold ζ.okN at h;simp only[PB,Qn]at h;exact⟨h.1.1,h.1.2,λz=>by rw[z]at h;exact absurd h.2 ∅⟩
theorem bN.blt(h:bN xp k g pg Φ X ct)(q:ζ.cx g ct.sc x=J)(a:x∈kQ):cn X x/\X.ak x=none:=by
 unfold ζ.cx at q;simp only[PB,Qn]at q;exact⟨h.nj q.1.1.1,h.bW.blt x a⟩
end
abbrev kn(v:Bool):dn:=if v then .view else .val
structure Res(xp:bQ)(X:aq)(ae:List Nat)(v fr:Bool)(x:VY)(f:aD->aY D):Prop where
 dF:ai X x (ax xp X ae (kn v) f)
 fresh:fr=J->ai X x (ax xp X ae .fresh f)
 pt:cG X x (eN xp X ae f)
 ed:(∃op aw p,x=.BoolOp op aw p)->gb X x (eN xp X ae f)
section
theorem Res.view(h:Res xp X a v fr x f):ai X x (ax xp X a .view f):=ai.view h.dF
theorem Res.val(h:Res xp X a VC fr x f):ai X x (ax xp X a .val f):=h.dF
def zz(h:ai X x (ax xp X a .val f)):ai X x (ax xp X a (kn v) f):=by
 cases v with
 |true=>exact ai.view h
 |false=>exact h
def Res.lT(h:ai X x (ax xp X i .val f))(g:∀b,Y7 x X.env b=(do let v <- b;standAt x.pos;X8 [v] (truthy v)))(c:∀op a p,x≠.BoolOp op a p)(d:fr=VC):Res xp X i v fr x f :=
 ⟨zz h,λz=>(by rw[d]at z;cases z),iR (ai.view h) g,λ⟨op,a,p,e⟩=>absurd e (c op a p)⟩
def Res.iL(h:ai X x (ax xp X g .fresh f))(d:∀b,Y7 x X.env b=(do let v <- b;standAt x.pos;X8 [v] (truthy v)))(c:∀op a p,x≠.BoolOp op a p):Res xp X g v fr x f :=
 ⟨zz (ai.val h),λ_=>h,iR (ai.view h) d,λ⟨op,a,p,e⟩=>absurd e (c op a p)⟩
def Res.iK(h:∀m,ai X x (ax xp X b m f))(d:cG X x (eN xp X b f))(c:∀op a p,x≠.BoolOp op a p):Res xp X b v fr x f :=
 ⟨h _,λ_=>h _,d,λ⟨op,a,p,e⟩=>absurd e (c op a p)⟩
end
def nF(N xs):(ζ.mask N xs).length=N.length:=by unfold ζ.mask;rw[VD]
structure mv(ct:ζ.bI)(scope:Xs)(xs:List VT):Prop where
 kind:scope.kind=.function
 jx:∀y∈scope.names,y.2≠.cell
 names:∀y∈scope.names,y.2=.local->scope.names.lookup y.1=Z .local
 dv:∀y∈xs,scope.names.lookup y=Z .local
 loc:∀y∈scope.names,y.2=.local->y.1∈xs\/y.1=(".0":VT)
 fr:∀y∈scope.names,y.2=.free->ct.sc.names.lookup y.1=Z .cell\/ct.sc.names.lookup y.1=Z .free
 same:∀p∈(ζ.mask ct.N xs).zip ct.N,p.1=p.2\/scope.names.lookup p.1=Y
 di:(ζ.mask ct.N xs++xs).Nodup
 dot:(".0":VT)∉ζ.mask ct.N xs++xs
section
def mv.block(c:bN xp k g pg Φ X ct)(b:mv ct m xs):jK X m xs (ζ.mask ct.N xs++xs) where
 kind:=b.kind
 jx:=b.jx
 names:=b.names
 loc:=λy h=>b.loc (y,.local) (QE h) rfl
 dv:=b.dv
 fr:=λy d e=>c.mT y.1 (b.fr y d e)
 len:=by rw[PI,nF,c.nm]
 old:=λi y hi e f=>by
  rw[c.nm]at hi ⊢;rw[P1 (by rw[nF];exact hi)]at e;have hz:((ζ.mask ct.N xs).zip ct.N)[i]?=Z (y,ct.N[i]):=by
   rw[XN];exact⟨e,PG hi⟩
  have a:=b.same _ (QX hz);have d:y∈ζ.mask ct.N xs:=QX e;rcases a with a|a
  .refine⟨by have a:y=ct.N[i]:=a;rw[PG hi,<- a],λl=>?_,λz=>b.dot (VV _ (z▸d))⟩;exact(Rv.mp b.di).2.2 y d y l rfl
  .simp only at a;rw[a]at f;cases f
 new:=λj=>by
  rw[c.nm,Qq (by rw[nF];lia),nF];congr 1;lia
 di:=b.di
def mv.ok(a:bN xp k g pg Φ X ct)(b:mv ct c xs)(s3)(d)(e)(f):bN xp k g pg Φ (eF X c (ζ.mask ct.N xs++xs) s3 d e f) ⟨ζ.mask ct.N xs++xs,c,ct.ae⟩ where
 bW:=a.bW
 room:=a.room
 units:=a.units
 calm:=a.calm
 nm:=rfl
 di:=b.di
 ae:=λi hi=>by
  have:=a.ae i hi;show i<(ζ.mask ct.N xs++xs).length;rw[PI,nF];lia
 lc:=λx h=>qe h ∅
 mT:=λx h=>by
  rcases h with h|h
  .exact absurd rfl (b.jx _ (QE h))
  .exact uo h
 gl:=λx h=>qe h ∅
end
def CZ(h:ζ.mR ct j xs=J):mv ct j xs:=by
 unfold ζ.mR at h;rw[PB,PB,PB,PB,PB,PB,PB,PB,PB]at h;obtain⟨⟨⟨⟨⟨⟨⟨⟨⟨b,h2⟩,h3⟩,h4⟩,_⟩,h5⟩,c⟩,d⟩,f⟩,g⟩:=h;exact {
  kind:=RK b
  jx:=λy a=>by simpa using Qd.mp h2 y a
  names:=λy a e=>by
   have:=Qd.mp h3 y a;rw[e]at this;simpa using this
  dv:=λy a=>by
   have:=Qd.mp h4 y a;simp only[PB,P8]at this;exact this.1
  loc:=λy a e=>by
   have:=Qd.mp h5 y a;rw[e]at this;simpa using this
  fr:=λy a e=>by
   have:=Qd.mp c y a;rw[e]at this;simpa using this
  same:=λp i=>by
   have:=Qd.mp d p i;simpa using this
  di:=RK f
  dot:=by simpa using g }
section
def Lc(F:hF X.prog X.w X.K X.ak X.base (gY X.prog X.w xp) k l fd b (kC X.K h b.length))(R:ek k X.A)(C:cn X x)(N:X.ak x=Z (.ref l))(L:W.keepIn X.K (.ref l)=J)(y:Binds X.K fd b [])(w:dS X (e::a) (jD xp X S m))(M:∀ds,ds.length≠b.length->h ds=.bad)(A:(x==("__debug__":VT))=VC)(B:VX (e::a) X.env=(VC,Wu e X.env)::VX a X.env)(O:(Xg pos (VX a X.env)).any (·.1)=VC):
  ai X (.Call (.Name x p) (e::a) [] pos) (ax xp X S .val λg=>m g>>=λds=>h ds):=by
 rintro T s a1 H Q I ⟨G,g,o,hw⟩;refine JG (dvs:=[]) (ds:=[]) (E:=w3 xp X) F R C N L y .nil JE w A B O T s a1 H Q I ?_;have hw:=aB.mp hw;refine⟨G,g,o,?_⟩;cases q:m g with
 |ok ds =>
  rw[q]at hw;intro a3 t a2 f r;rw[QB]
  by_cases n:ds.length=b.length
  .refine⟨by rw[<- r.length];exact n,t,ds,f.sub,(o.ext f).c7,r,?_⟩;refine aQ hw (λd k v u i a0 U=>k v u i (f.trans a0) U) λc z i h2 C8 j=>?_
   injection j with j _;have:c=C8:=⋯;subst this;exact(z.mono f.h).mono h2
  .have hw:aZ (h ds) _ _:=hw;rw[M ds n]at hw;exact hw.elim
 |exc c=>rw[q]at hw;exact hw
 |bad=>rw[q]at hw;exact hw
end
section
variable{xp:bQ}{k:Nat}{g:ζ.Gt}{pg:ζ.cT}{Φ:ζ.dw}
def CQ(o)(x y:D)(c):ζ.bK o x y≠.exc c:=by
 refine y6 ?_ c;cases o<;>cases x<;>first|rfl|(cases y<;>first|rfl|exact jw rfl rfl|exact jw (jw rfl rfl) rfl)
def HW(d:D)(c):ζ.iF d≠.exc c:=by
 intro h;cases d<;>simp only[ζ.iF]at h<;>first|(cases h;done)|(split at h<;>cases h)
def My(d:D)(c):(ζ.cD d>>=λxs=>ζ.sorted xs)≠.exc c:=by
 intro h;have a:∀xs:List D,ζ.sorted xs≠.exc c:=λxs h=>by
  unfold ζ.sorted at h
  split at h<;>cases h
 cases d with
 |tup xs=>exact a xs h
 |lst xs=>exact a xs h
 |_=>cases h
def L9(d:D)(c):(ζ.cD d>>=λxs=>ζ.R.ok (ζ.D.tup xs))≠.exc c:=by
 intro h;cases d<;>cases h
def MO(d:D)(c):(ζ.lJ d>>=λxs=>ζ.gR xs)≠.exc c:=by
 intro h;cases d with
 |lst xs =>
  have h:ζ.gR xs=.exc c:=h;unfold ζ.gR at h
  split at h<;>cases h
 |_=>cases h
def It(d:D)(c):(ζ.lJ d>>=λxs=>ζ.hY xs)≠.exc c:=by
 intro h;cases d with
 |lst xs =>
  have h:ζ.hY xs=.exc c:=h;unfold ζ.hY at h
  split at h<;>cases h
 |_=>cases h
def GI(d:D)(c:Nat):(match d with|.ag b=>ζ.R.ok (ζ.D.int (if b then 1 else 0))|_=>(.bad:ζ.R D))≠.exc c:=by
 intro h;cases d<;>cases h
def L6(d:D)(c):(ζ.cD d>>=λxs=>ζ.R.ok (ζ.D.lst xs))≠.exc c:=by
 intro h;cases d<;>cases h
def c9{x y:VT}(h:(x==y)=J):x=y:=⇑h
def LK{m:dn}(b:bN xp k g pg Φ X ct)(l:ζ.nV p=J)(j:x=ζ.nU p)(h:ζ.cx g ct.sc x=J)(c:ai X e (ax xp X n .view f))(i:nice e=J):
  ai X (.Call (.Name x q) [e] [] pos) (ax xp X n .fresh λo=>f o>>=λd=>ζ.ht pg.up p d):=by
 cases p with
 |len =>
  subst j;obtain⟨a,h2⟩:=b.blt h ∅;exact qj (m:=.fresh) HW f_len a h2 (by kernel_rfl) c ∅ ∅ (eM i)
 |sorted =>
  subst j;obtain⟨a,h2⟩:=b.blt h ∅;exact qj (m:=.fresh) My (FF b.calm b.units) a h2 (by kernel_rfl) c ∅ ∅ (eM i)
 |sum =>
  subst j;obtain⟨a,h2⟩:=b.blt h ∅;exact qj (m:=.fresh) MO (FG b.calm) a h2 (by kernel_rfl) c ∅ ∅ (eM i)
 |max =>
  subst j;obtain⟨a,h2⟩:=b.blt h ∅;exact qj (m:=.fresh) It (FE b.calm) a h2 (by kernel_rfl) c ∅ ∅ (eM i)
 |int =>
  subst j;obtain⟨a,h2⟩:=b.blt h ∅;exact ux (m:=.fresh) GI f_int a h2 (by kernel_rfl) c ∅ ∅ (eM i)
 |inst t=>cases l
 |ee=>cases l
def me(a:bN xp k g pg Φ X ct)(h:ζ.oR o op=J):bC X (V4 op) (es X.K (ζ.bZ o)):=by
 cases o<;>cases op<;>first|(cases h;done)|skip
 .exact C9 a.units
 .exact Dj a.units
 .exact Di a.units
 .exact Dh
 .exact Dd
 .exact Dc
 .exact Df
 .exact Dg
 .exact De a.units
 .exact Dk a.units
def Lb(h:ζ.zf o op=J):bC X (Wv op) (hu X.K (ζ.bK o)):=by
 cases o<;>cases op<;>first|(cases h;done)|skip
 .exact D7
 .exact Eh
 .exact Ed
 .exact D9
 .exact Ec
 .exact D8
 .exact Ei
 .exact Ef
 .exact Eg
def HD(h:nice c=J):YR [op,op'] [b,c]=false:=yS h
def boot_isinstance:Wt "isinstance"=Z (.builtin "isinstance"):=by kernel_rfl
def C3(t)(a:∀c,t≠.cls c):Wt (ζ.tyName t)=Z (.type (mm t))/\ζ.tyName t≠"__name__"/\(ζ.tyName t==("__debug__":VT))=VC/\ζ.tyName t∈kQ:=by
 cases t with
 |cls c=>exact absurd rfl (a c)
 |int=>exact⟨by kernel_rfl,∅,∅,∅⟩
 |bool=>exact⟨by kernel_rfl,∅,∅,∅⟩
 |str=>exact⟨by kernel_rfl,∅,∅,∅⟩
 |tuple=>exact⟨by kernel_rfl,∅,∅,∅⟩
end
section
variable{xp:bQ}{k:Nat}{g:ζ.Gt}{pg:ζ.cT}{Φ:ζ.dw}
variable(xp k g pg Φ) in
structure gX (n:Nat):Prop where
 e:∀(e:ζ.E)(x:VY)(ct:ζ.bI)(v:Bool)(X:aq),sizeOf e<n->bN xp k g pg Φ X ct->ζ.bt g ct v e x=J->Res xp X ct.ae v (ζ.hk e) x (λaa=>ζ.ev pg Φ aa e)
 a:∀(a:ζ.A)(aw:List VY)(ct:ζ.bI)(X:aq),sizeOf a<n->bN xp k g pg Φ X ct->ζ.i8 g ct a aw=J->dS X aw (jD xp X ct.ae λaa=>ζ.fE pg Φ aa a)/\(∀e∈aw,nice e=J)/\∀aa ds,ζ.fE pg Φ aa a=.ok ds->ds.length=aw.length
 o:∀(o:ζ.O)(x:Option VY)(ct:ζ.bI)(X:aq),sizeOf o<n->bN xp k g pg Φ X ct->ζ.mW g ct o x=J->hH X x (mj xp X ct.ae λaa=>ζ.jf pg Φ aa o)
 i:∀(s:ζ.I)(x:VY)(ct:ζ.bI)(v:Bool)(X:aq)(eE:VY),sizeOf s<n->bN xp k g pg Φ X ct->ζ.gz g ct v s x=J->(ζ.jy s=J->∃elts j p,eE=.Tuple elts j p)->eR X eE x (gq xp X ct.ae (kn v) λaa=>ζ.eI pg Φ aa s)/\nice x=J
def tJ(v):kn v=.view\/kn v=.val:=by cases v<;>simp[kn]
def Cy(l:bN xp k g pg Φ X ct)(h:(ct.N[i]?==Z x&&ζ.gT ct.sc x&&ζ.okN x&&(v||!ct.ae.contains i))=J):Res xp X ct.ae v (ζ.hk (.var i)) (.Name x p) (λaa=>ζ.ev pg Φ aa (.var i)):=by
 simp only[PB,P8,Rk,Qn]at h;obtain⟨⟨⟨m,h2⟩,h3⟩,h4⟩:=h;obtain⟨b,c,q⟩:=d0 h3;have d:X.N[i]?=Z x:=by rw[l.nm];exact m
 have f:=l.e8 h2;refine⟨?_,λz=>(by cases z),iR (AB d f b c) λ_=>rfl,λ⟨_,_,_,z⟩=>(by cases z)⟩;cases v with
 |true=>exact AB d f b c
 |false =>
  rcases h4 with h4|h4
  .cases h4
  .exact L0 (λz=>by rw[QO.mpr z]at h4;cases h4) d f b c
def Ck(m:gX xp k g pg Φ n)(b:bN xp k g pg Φ X ct)(l:sizeOf a<n)(h:(g.fns[f]?==Z x&&ζ.hU ct.sc x&&ζ.okN x&&!aw.isEmpty&&ζ.i8 g ct a aw)=J):
  Res xp X ct.ae v (ζ.hk (.call f a)) (.Call (.Name x p) aw [] pos) (λaa=>ζ.ev pg Φ aa (.call f a)):=by
 simp only[PB,P8,Qn]at h;obtain⟨⟨⟨⟨d,h2⟩,h3⟩,h4⟩,h5⟩:=h;obtain⟨c,q,r⟩:=d0 h3;obtain⟨p1,p2,p3⟩:=m.a a aw ct X l b h5;obtain⟨t,fd,u,e1,e2,e3,e4,e5⟩:=b.bW.fn f x d;cases aw with
 |nil=>cases h4
 |cons e aw =>
  exact Res.lT (Lc e4 b.room (b.nj h2) e1 e2 e3 p1 e5 c (kD (p2 e VF)) (Ka λz hz=>p2 z (VG _ hz))) (λ_=>rfl) (λ_ _ _ z=>by cases z) rfl
def Cr(M:gX xp k g pg Φ n)(d:bN xp k g pg Φ X ct)(L:∀c,t=.cls c->False)(H:sizeOf a<n)(h:(x==("isinstance":VT)&&ζ.cx g ct.sc x&&y==ζ.tyName t&&ζ.cx g ct.sc y&&ζ.bt g ct J a e)=J):
  Res xp X ct.ae v (ζ.hk (.prim (.inst t) a)) (.Call (.Name x p) [e,.Name y N] [] pos) (λaa=>ζ.ev pg Φ aa (.prim (.inst t) a)):=by
 simp only[PB]at h;obtain⟨⟨⟨⟨b,h2⟩,h3⟩,h4⟩,h5⟩:=h;have b:=c9 b;have h3:=c9 h3;subst b h3;have f:∀c,t≠.cls c:=λc z=>L c z
 obtain⟨b1,b2,q,u⟩:=C3 t f;obtain⟨w,B⟩:=d.blt h2 ∅;obtain⟨C,G⟩:=d.blt h4 u;have r:=M.e a e ct J X H d h5;have l:∀m,ai X (.Call (.Name "isinstance" p) [e,.Name (ζ.tyName t) N] [] pos) (ax xp X ct.ae m λaa=>ζ.ev pg Φ aa (.prim (.inst t) a)):=λm =>
  Lz (up:=pg.up) f w B boot_isinstance C G b1 r.view ∅ ∅ b2 q (kD (de h5))
 exact Res.iK l (iR (l _) λ_=>rfl) λ_ _ _ z=>by cases z
def Cs(t:gX xp k g pg Φ n){v:Bool}(c:bN xp k g pg Φ X ct)(q:sizeOf s<=n)(h:(x==("list":VT)&&ζ.cx g ct.sc x&&ζ.AE s&&ζ.gz g ct J s e)=J):
  ai X (.Call (.Name x p) [e] [] pos) (ax xp X ct.ae .fresh λaa=>ζ.ev pg Φ aa (.jr s)):=by
 simp only[PB]at h;obtain⟨⟨⟨b,h2⟩,h3⟩,h4⟩:=h;have b:=c9 b;subst b;obtain⟨f,l⟩:=c.blt h2 ∅;cases s with
 |seq a =>
  conv at h4=>lhs;whnf
  have r:=t.e a e ct J X ↥q c h4;have e1:(λaa=>ζ.ev pg Φ aa (.jr (.seq a)))=λaa=>ζ.ev pg Φ aa a>>=λd=>ζ.cD d>>=λds=>.ok (.lst ds):=funext λaa=>by
   rw[ζ.xi,ζ.sT];cases ζ.ev pg Φ aa a<;>rfl
  rw[e1];exact ux (m:=.fresh) L6 f_list f l (by kernel_rfl) r.view ∅ ∅ (eM (de h4))
 |_=>cases h3
set_option tactic.hygienic true in
theorem DA (h:ζ.gz g ct v (.dG a) x=J):∃m p y pos,x=.Call (.Name m p) [y] [] pos/\m="range"/\ζ.cx g ct.sc m=J/\ζ.bt g ct J a y=true:=by
 conv at h=>lhs;whnf
 split at h
 .rename_i m y e1;obtain⟨p,pos,rfl⟩:=e7 e1;simp only[PB]at h;exact⟨m,p,y,pos,rfl,c9 h.1.1,h.1.2,h.2⟩
 .cases h
def Ct(t:gX xp k g pg Φ n){v:Bool}(b:bN xp k g pg Φ X ct)(q:sizeOf s<=n)(h:(x==("tuple":VT)&&ζ.cx g ct.sc x&&ζ.AK s&&ζ.gz g ct J s e)=J):
  ai X (.Call (.Name x p) [e] [] pos) (ax xp X ct.ae .val λaa=>ζ.ev pg Φ aa (.tupI s)):=by
 simp only[PB]at h;obtain⟨⟨⟨c,h2⟩,h3⟩,h4⟩:=h;have c:=c9 c;subst c;obtain⟨f,l⟩:=b.blt h2 ∅;cases s with
 |seq a =>
  conv at h4=>lhs;whnf
  have r:=t.e a e ct J X ↥q b h4;have e1:(λaa=>ζ.ev pg Φ aa (.tupI (.seq a)))=λaa=>ζ.ev pg Φ aa a>>=λd=>ζ.cD d>>=λds=>.ok (.tup ds):=funext λaa=>by
   rw[ζ.xk,ζ.sT];cases ζ.ev pg Φ aa a<;>rfl
  rw[e1];exact ux (m:=.val) L9 FH f l (by kernel_rfl) r.view ∅ ∅ (eM (de h4))
 |dG a =>
  obtain⟨m,z,y,B,rfl,k1,k2,k3⟩:=DA h4;obtain⟨u,w⟩:=b.blt k2 (by rw[k1];decide);have r:=t.e a y ct J X ↥q b k3;exact LZ b.calm k1 rfl u w f l r.view (eM (de k3))
 |_=>cases h3
def vP(w:gX xp k g pg Φ n)(q:bN xp k g pg Φ X ct)(r:sizeOf e<n/\sizeOf s<n/\sizeOf c<n){pos:Xj}(G:ζ.dv j t=Z xs)(h:((!ζ.jy s||j==2)&&ζ.mR ct d xs&&ζ.gz g ct J s y&&ζ.bt g ⟨ζ.mask ct.N xs++xs,d,ct.ae⟩ VC e x&&ζ.j5 g ⟨ζ.mask ct.N xs++xs,d,ct.ae⟩ c u)=J):
  jK X d xs (ζ.mask ct.N xs++xs)/\(∀z,WD y X.env z=pure z)/\eR X t y (gq xp X ct.ae .view λaa=>ζ.eI pg Φ aa s)/\(∀s3 f l m,ai (eF X d (ζ.mask ct.N xs++xs) s3 f l m) x (ax xp (eF X d (ζ.mask ct.N xs++xs) s3 f l m) ct.ae .val λaa=>ζ.ev pg Φ aa e)) /\
   kV xp X ct.ae d (ζ.mask ct.N xs++xs) u (λaa=>ζ.iz pg Φ aa c)/\(λaa=>ζ.ev pg Φ aa (.comp e j s c))=λaa=>ζ.eI pg Φ aa s>>=λds=>ζ.iH (ζ.bA (gi j (λaa=>ζ.iz pg Φ aa c) (λaa=>ζ.ev pg Φ aa e) aa) ds)>>=λys=>.ok (.lst ys):=by
 simp only[PB]at h;obtain⟨⟨⟨⟨h0,H⟩,L⟩,M⟩,b⟩:=h;have B:=CZ H;have R:ζ.jy s=J->∃elts j p,t=.Tuple elts j p:=λQ=>by
  rw[Q]at h0;have N:j=2:=⇑h0;subst N;cases t with
  |Tuple elts j p=>exact⟨elts,j,p,rfl⟩
  |_=>simp only[ζ.dv]at G;cases G
 obtain⟨S,T⟩:=w.i s y ct J X t r.2.1 q L R;refine⟨B.block q,set_plain T,S,λs3 f l m=>(w.e e x _ VC _ r.1 (B.ok q s3 f l m) M).dF,?_,rfl⟩;cases c with
 |none =>
  cases u with
  |nil=>exact .inl ⟨rfl,rfl⟩
  |cons _ _=>unfold ζ.j5 at b;cases b
 |some e2 =>
  match u,b with
  |[],b=>unfold ζ.j5 at b;cases b
  |[C],b =>
   refine .inr ⟨C,λaa=>ζ.ev pg Φ aa e2,rfl,rfl,λs3 f l m=>?_⟩;have b:ζ.bt g ⟨ζ.mask ct.N xs++xs,d,ct.ae⟩ J e2 C=true:=(by unfold ζ.j5 at b;exact b);exact(w.e e2 C _ J _ (by have:=r.2.2;simp at this;lia) (B.ok q s3 f l m) b).pt
  |_::_::_,b=>unfold ζ.j5 at b;cases b
end
end aF
end
section
namespace aF
set_option tactic.hygienic true
open PySem PySem.Spec PyProof.Rows aH
section
variable{xp:bQ}{k:Nat}{g:ζ.Gt}{pg:ζ.cT}{Φ:ζ.dw}{n:Nat}
def yz{a:List VY}(h:a.length<=1000):a.length<=sizeLine:=by rw[V3];lia
def OM(h:ζ.mu g ct x t a y=Z e):a=e/\∃m p,y=.Name m p/\(x==("isinstance":VT))=J/\ζ.cx g ct.sc x=J/\((∀c,t≠.cls c)->(m==ζ.tyName t&&ζ.cx g ct.sc m)=J):=by
 unfold ζ.mu at h
 split at h
 .rename_i m e2;obtain⟨p,rfl⟩:=dQ e2
  split at h
  .rename_i b;cases h;rw[PB,PB]at b;exact⟨rfl,m,p,rfl,b.1.1,b.1.2,λd=>by cases t<;>first|exact b.2|exact(d _ rfl).elim⟩
  .cases h
 .cases h
def OL(h:ζ.mu g ct x (.cls c) a y=Z e):False:=by
 unfold ζ.mu at h
 split at h
 .rw[if_neg]at h
  .cases h
  .simp[ζ.tyP]
 .cases h
def ON(h:ζ.qK g ct x a=Z e):∃y p q,a=.Call (.Name y p) [e] [] q/\(x==("sorted":VT))=J/\ζ.cx g ct.sc x=J/\(y==("set":VT))=J/\ζ.cx g ct.sc y=true:=by
 unfold ζ.qK at h
 split at h
 .rename_i y b e2;obtain⟨d,p1,rfl⟩:=e7 e2
  split at h
  .rename_i c;cases h;simp only[PB]at c;exact⟨y,d,p1,rfl,c.1.1.1,c.1.1.2,c.1.2,c.2⟩
  .cases h
 .cases h
def oj{ct:ζ.bI}{x:VT}{q:ζ.cL}{c:List VY}{e:VY}(h:(match c with|[e]=>if ζ.nV q&&x==ζ.nU q&&ζ.cx g ct.sc x then Z e else Y|_=>Y)=Z e):c=[e]/\ζ.nV q=J/\(x==ζ.nU q)=J/\ζ.cx g ct.sc x=true:=by
 match c,h with
 |[a],h =>
  simp only at h
  split at h
  .rename_i b;cases h;simp only[PB]at b;exact⟨rfl,b.1.1,b.1.2,b.2⟩
  .cases h
def Cu(u:gX xp k g pg Φ n)(d:bN xp k g pg Φ X ct)(r:sizeOf a<n)(b:ζ.BM g ct x w i=Z e)(h:ζ.bt g ct J a e=J):
  Res xp X ct.ae v (ζ.hk (.prim w a)) (.Call (.Name x p) i [] pos) (λB=>ζ.ev pg Φ B (.prim w a)):=by
 have j:∀{q:ζ.cL},i=[e]/\ζ.nV q=J/\(x==ζ.nU q)=J/\ζ.cx g ct.sc x=J->Res xp X ct.ae v (ζ.hk (.prim q a)) (.Call (.Name x p) i [] pos) (λB=>ζ.ev pg Φ B (.prim q a)):=λ{q} ⟨h0,f,h2,h3⟩=>by
  subst h0;have A:=u.e a e ct J X r d h;exact Res.iL (LK (m:=.fresh) d f (c9 h2) h3 A.view (de h)) (λ_=>rfl) (λ_ _ _ z=>by cases z)
 cases w with
 |ee =>
  match i,b with
  |[l],b =>
   have b:ζ.qK g ct x l=Z e:=b;obtain⟨y,p1,p2,rfl,f,h2,h3,h4⟩:=ON b;obtain⟨C,E⟩:=d.blt h2 (by rw[c9 f];decide);obtain⟨G,H⟩:=d.blt h4 (by rw[c9 h3];decide);have A:=u.e a e ct J X r d h;exact Res.iL (LV d.calm d.units (c9 f) (c9 h3) C E G H A.view (eM (de h))) (λ_=>rfl) (λ_ _ _ z=>by cases z)
 |len=>exact j (oj b)
 |sorted=>exact j (oj b)
 |sum=>exact j (oj b)
 |max=>exact j (oj b)
 |int=>exact j (oj b)
 |inst t =>
  match i,b with
  |[l,y],b =>
   have b:ζ.mu g ct x t l y=Z e:=b;obtain⟨rfl,m,I,rfl,f,h2,h3⟩:=OM b
   by_cases s:∃c,t=.cls c
   .obtain⟨c,rfl⟩:=s;exact(OL b).elim
   .refine Cr u d (λc o=>s ⟨c,o⟩) r ?_;have h3:=h3 λc o=>s ⟨c,o⟩
    rw[PB]at h3;simp only[PB];exact⟨⟨⟨⟨f,h2⟩,h3.1⟩,h3.2⟩,h⟩
def ve{n k:VT}(h:ζ.oi z=Z (n,k)):∃p1 p2 pos,z=.Subscript (.Name n p1) (.Name k p2) pos:=by
 unfold ζ.oi at h
 split at h
 .rename_i x y e1;obtain⟨pos,rfl⟩:=vg e1
  split at h
  .rename_i b a e2 e3;cases h;obtain⟨p1,rfl⟩:=dQ e2;obtain⟨p2,rfl⟩:=dQ e3;exact⟨p1,p2,pos,rfl⟩
  .cases h
 .cases h
def Oz(h:ζ.vb z=Z (a,b)):∃p,z=.Dict a b p:=by
 cases z with
 |Dict a b pos=>cases h;exact⟨_,rfl⟩
 |_=>exact nn h
def Oy{n k:VT}(h:ζ.va z=Z (n,k)):∃p1 p2 pos,z=.Dict [Z (.Name n p1)] [.Name k p2] pos:=by
 unfold ζ.va at h;rcases e:ζ.vb z with _|⟨_|⟨_|a,_|⟨_,_⟩⟩,_|⟨b,_|⟨_,_⟩⟩⟩<;>rw[e]at h<;>first|(cases h;done)|dsimp only at h
 rcases c:ζ.df a with _|i<;>rcases d:ζ.df b with _|f<;>rw[c,d]at h<;>first|(cases h;done)|skip
 cases h;obtain⟨p1,rfl⟩:=dQ c;obtain⟨p2,rfl⟩:=dQ d;obtain⟨p,rfl⟩:=Oz e;exact⟨_,_,_,rfl⟩
def tu(h:ζ.pE z=J):∃lV,z=.Dict [] [] lV:=by
 unfold ζ.pE at h
 split at h
 .exact⟨_,rfl⟩
 .cases h
def nI{n:VT}(h:ζ.kp ct i n=J):ct.N[i]?=Z n/\ζ.gT ct.sc n=J/\ζ.okN n=J/\i∈ct.ae:=by
 unfold ζ.kp at h;simp only[PB,P8]at h;exact⟨h.1.1.1,h.1.1.2,h.1.2,QO.mp h.2⟩
def lW{n:VT}(h:ζ.jz ct i n=J):ct.N[i]?=Z n/\ζ.gT ct.sc n=J/\ζ.okN n=J/\i∉ct.ae:=by
 unfold ζ.jz at h;simp only[PB,P8,Qn]at h;exact⟨h.1.1.1,h.1.1.2,h.1.2,λz=>by rw[QO.mpr z]at h;cases h.2⟩
def rh{n:VT}(h:ζ.mI ct i n=J):ct.N[i]?=Z n/\ζ.gT ct.sc n=J/\ζ.okN n=true:=by
 unfold ζ.mI at h;simp only[PB,P8]at h;exact⟨h.1.1,h.1.2,h.2⟩
def Bz{n:VT}(h:ζ.u6 x=Z (o,n,p)):x=.Attribute o n p:=by
 cases x with
 |Attribute o n p=>cases h;rfl
 |_=>exact nn h
def By{x n:VT}(h:ζ.qG z=Z (x,n,a,y)):∃p eB,z=.Call (.Attribute (.Name x p) n a) [y] [] eB:=by
 unfold ζ.qG at h
 split at h
 .rename_i f e e1;obtain⟨eB,rfl⟩:=u9 e1
  split at h
  .rename_i o c b e2;obtain rfl:=Bz e2
   split at h
   .rename_i d e3;obtain⟨p,rfl⟩:=dQ e3;cases h;exact⟨p,eB,rfl⟩
   .cases h
  .cases h
 .cases h
def OF(h:ζ.vh z=Z (x,y,c,i,f)):∃p p1 p2 a b d pos,z=.Call (.Name x p) [.BinOp (.Call (.Name y p1) [c] [] a) .BitXor (.Call (.Name i p2) [f] [] b) d] [] pos:=by
 unfold ζ.vh at h
 split at h
 .rename_i j e e1;obtain⟨p,pos,rfl⟩:=e7 e1
  split at h
  .rename_i l r e2;obtain⟨d,rfl⟩:=u7 e2
   split at h
   .rename_i e3 e4;cases h;obtain⟨p1,a,rfl⟩:=e7 e3;obtain⟨p2,b,rfl⟩:=e7 e4;exact⟨p,p1,p2,a,b,d,pos,rfl⟩
   .cases h
  .cases h
 .cases h
def OK(h:ζ.isVar b=J)(a:aD)(c):ζ.ev pg Φ a b≠.exc c:=by
 cases b with
 |var j =>
  intro z;have z:ζ.nh a[j]?=.exc c:=z;unfold ζ.nh at z
  split at z<;>cases z
 |_=>cases h
def OE{x n:VT}(h:ζ.vf z=Z (x,n)):∃p1 p2 pos,z=.Call (.Name x p1) [.Name n p2] [] pos:=by
 unfold ζ.vf at h
 split at h
 .rename_i b e e1;obtain⟨p1,pos,rfl⟩:=e7 e1
  split at h
  .rename_i a e2;cases h;obtain⟨p2,rfl⟩:=dQ e2;exact⟨p1,p2,pos,rfl⟩
  .cases h
 .cases h
def MJ(E:gX xp k g pg Φ n)(e)(x)(ct)(v)(X)(C:sizeOf e<n+1)(A:bN xp k g pg Φ X ct)(h:ζ.bt g ct v e x=J):Res xp X ct.ae v (ζ.hk e) x (λL=>ζ.ev pg Φ L e):=by
 cases e with
 |var i =>
  conv at h=>lhs;whnf
  split at h
  .rename_i y e1;obtain⟨p,rfl⟩:=dQ e1;exact Cy A h
  .cases h
 |lit d =>
  conv at h=>lhs;whnf
  split at h
  .rename_i c e1;obtain⟨ea,p,rfl⟩:=qI e1;exact Res.iK (λm=>Aw h) (iR (Aw h) λ_=>rfl) λ_ _ _ z=>by cases z
  .cases h
 |tup a =>
  conv at h=>lhs;whnf
  split at h
  .rename_i S e1;obtain⟨j,p,rfl⟩:=OG e1;simp only[PB,PM]at h;obtain⟨p1,p2,p3⟩:=E.a a S ct X ↥C A h.1;exact Res.lT (LY p1 λL ds q=>by rw[p3 L ds q];exact yz h.2) (λ_=>rfl) (λ_ _ _ z=>by cases z) rfl
  .cases h
 |lst a =>
  conv at h=>lhs;whnf
  split at h
  .rename_i S e1;obtain⟨p,rfl⟩:=BE e1;simp only[PB,PM]at h;obtain⟨p1,p2,p3⟩:=E.a a S ct X ↥C A h.1;exact Res.iL (LC p1 λL ds q=>by rw[p3 L ds q];exact yz h.2) (λ_=>rfl) (λ_ _ _ z=>by cases z)
  .cases h
 |bin op a b =>
  conv at h=>lhs;whnf
  split at h
  .rename_i x o y e1;obtain⟨p,rfl⟩:=u7 e1;simp only[PB]at h;have G:=E.e a x ct J X ↥C A h.1.2;have H:=E.e b y ct J X ↥C A h.2;exact Res.iL (La (CQ op) (Lb h.1.1) G.view H.view) (λ_=>rfl) (λ_ _ _ z=>by cases z)
  .cases h
 |not a =>
  conv at h=>lhs;whnf
  rcases e1:ζ.mr x with _|⟨_|_|_|_,x⟩<;>rw[e1]at h<;>first|(cases h;done)|skip
  .obtain⟨p,rfl⟩:=vi e1;have G:=E.e a x ct J X ↥C A h;exact Res.iK (λm=>LH G.view) (LI G.pt) λ_ _ _ z=>by cases z
 |cmp op a b =>
  conv at h=>lhs;whnf
  rcases e1:ζ.oh x with _|⟨x,_|⟨o,_|⟨_,_⟩⟩,_|⟨y,_|⟨_,_⟩⟩⟩<;>rw[e1]at h<;>first|(cases h;done)|skip
  .obtain⟨p,rfl⟩:=BA e1;simp only[PB]at h;have G:=E.e a x ct J X ↥C A h.1.2;have H:=E.e b y ct J X ↥C A h.2;have au:=yS (op:=o) (de h.2);exact Res.iK (λm=>Ld (me A h.1.1) G.view H.view au) (Lg (me A h.1.1) G.view H.view au) λ_ _ _ z=>by cases z
 |and a b =>
  conv at h=>lhs;whnf
  rcases e1:ζ.vBool x with _|⟨_|_,_|⟨x,_|⟨y,_|⟨z,r⟩⟩⟩,p⟩<;>rw[e1]at h<;>first|(cases h;done)|skip
  .obtain rfl:=oe e1;simp only[PB]at h;have G:=E.e a x ct J X ↥C A h.1;have H:=E.e b y ct v X ↥C A h.2;have M:=As (pos:=p) G.pt (Kq H.pt);exact⟨Ar G.view (ub H.dF),λz=>(by cases z),M.pt,λ_=>M⟩
  .obtain rfl:=oe e1;simp only[PB]at h;have G:=E.e a x ct J X ↥C A h.1;have H:=E.e b _ ct v X ↥C A h.2;have M:=As (pos:=p) G.pt (H.ed ⟨_,_,_,rfl⟩);exact⟨Ar G.view H.dF,λz=>(by cases z),M.pt,λ_=>M⟩
 |or a b =>
  conv at h=>lhs;whnf
  rcases e1:ζ.vBool x with _|⟨_|_,_|⟨x,_|⟨y,_|⟨z,r⟩⟩⟩,p⟩<;>rw[e1]at h<;>first|(cases h;done)|skip
  .obtain rfl:=oe e1;simp only[PB]at h;have G:=E.e a x ct J X ↥C A h.1;have H:=E.e b y ct v X ↥C A h.2;have M:=Az (pos:=p) G.pt (Kt H.pt);exact⟨Ay G.view (ub H.dF),λz=>(by cases z),M.pt,λ_=>M⟩
  .obtain rfl:=oe e1;simp only[PB]at h;have G:=E.e a x ct J X ↥C A h.1;have H:=E.e b _ ct v X ↥C A h.2;have M:=Az (pos:=p) G.pt (H.ed ⟨_,_,_,rfl⟩);exact⟨Ay G.view H.dF,λz=>(by cases z),M.pt,λ_=>M⟩
 |idx a b =>
  conv at h=>lhs;whnf
  split at h
  .rename_i x y e1;obtain⟨p,rfl⟩:=vg e1;simp only[PB]at h;have G:=E.e a x ct J X ↥C A h.1;have H:=E.e b y ct J X ↥C A h.2;exact Res.lT (Lw G.view H.view (G9 (de h.2))) (λ_=>rfl) (λ_ _ _ z=>by cases z) rfl
  .cases h
 |slice a lo hi =>
  conv at h=>lhs;whnf
  split at h
  .rename_i x y e1;obtain⟨p,rfl⟩:=vg e1
   split at h
   .rename_i l u e2;obtain⟨eo,rfl⟩:=OD e2;simp only[PB]at h;have G:=E.e a x ct J X ↥C A h.1.1;have dr:=E.o lo l ct X ↥C A h.1.2;have dC:=E.o hi u ct X ↥C A h.2;exact Res.iL (LS G.view dr dC) (λ_=>rfl) (λ_ _ _ z=>by cases z)
   .cases h
  .cases h
 |call f a =>
  conv at h=>lhs;whnf
  split at h
  .rename_i x S e1;obtain⟨p,q,rfl⟩:=e7 e1;exact Ck E A ↥C h
  .cases h
 |prim e3 a =>
  conv at h=>lhs;whnf
  split at h
  .rename_i x S e1;obtain⟨p,q,rfl⟩:=e7 e1
   split at h
   .rename_i e e2;exact Cu E A ↥C e2 h
   .cases h
  .cases h
 |eC i j =>
  conv at h=>lhs;whnf
  split at h
  .rename_i av ay e1;obtain⟨p1,p2,pos,rfl⟩:=ve e1;rw[PB]at h;obtain⟨a1,a2,a3⟩:=rh h.1;obtain⟨b1,b2,R,az⟩:=lW h.2;obtain⟨O,Q,_⟩:=d0 a3;obtain⟨T,U,_⟩:=d0 R;have N:∀m,ai X (.Subscript (.Name av p1) (.Name ay p2) pos) (ax xp X ct.ae m λL=>ζ.hO L[i]? L[j]?):=λm=>Li A.units az (by rw[A.nm];exact a1) (A.e8 a2) O Q (by rw[A.nm];exact b1) (A.e8 b2) T U
   exact Res.iK N (iR (N .view) λ_=>rfl) λ_ _ _ z=>by cases z
  .cases h
 |kk i j =>
  conv at h=>lhs;whnf
  split at h
  .rename_i x av bp y e1;obtain⟨p1,c0,rfl⟩:=By e1
   split at h
   .rename_i ay e2;obtain⟨p2,rfl⟩:=dQ e2;simp only[PB]at h;obtain⟨⟨⟨I,h2⟩,h3⟩,h4⟩:=h;obtain⟨a1,a2,a3⟩:=rh h3;obtain⟨b1,b2,R⟩:=rh h4;obtain⟨O,Q,_⟩:=d0 a3;obtain⟨T,U,_⟩:=d0 R;have N:∀m,ai X (.Call (.Attribute (.Name x p1) av bp) [.Name ay p2] [] c0) (ax xp X ct.ae m λL=>ζ.lG L[i]? L[j]?):=λm=>LB A.units (c9 I) h2 (by rw[A.nm];exact a1) (A.e8 a2) O Q (by rw[A.nm];exact b1) (A.e8 b2) T U
    exact Res.iK N (iR (N .view) λ_=>rfl) λ_ _ _ z=>by cases z
   .cases h
  .cases h
 |lg i =>
  conv at h=>lhs;whnf
  split at h
  .rename_i x av e1;obtain⟨p1,p2,pos,rfl⟩:=OE e1;simp only[PB]at h;obtain⟨⟨I,h2⟩,h3⟩:=h;obtain⟨a0,a5⟩:=A.blt h2 (by rw[c9 I];decide);obtain⟨a1,a2,a3,a4⟩:=nI h3;obtain⟨O,Q,_⟩:=d0 a3;exact Res.iL (Lp A.calm A.units (c9 I) a0 a5 a4 (by rw[A.nm];exact a1) (A.e8 a2) O Q) (λ_=>rfl) (λ_ _ _ z=>by cases z)
  .cases h
 |min2 a b =>
  conv at h=>lhs;whnf
  rcases e1:ζ.dP x with _|⟨x,_|⟨y,_|⟨w,_|⟨_,_⟩⟩⟩⟩<;>rw[e1]at h<;>first|(cases h;done)|skip
  .obtain⟨p,q,rfl⟩:=e7 e1;simp only[PB]at h;obtain⟨⟨⟨I,h2⟩,h3⟩,h4⟩:=h;obtain⟨a0,a5⟩:=A.blt h2 (by rw[c9 I];decide);have G:=E.e a y ct J X ↥C A h3;have H:=E.e b w ct J X ↥C A h4;have N:∀m,ai X (.Call (.Name x p) [y,w] [] q) (ax xp X ct.ae m λL=>ζ.ev pg Φ L (.min2 a b)):=λm=>LD A.calm (c9 I) a0 a5 G.view H.view (A3 (de h3) (de h4)) (eM (de h4))
   exact Res.iK N (iR (N .view) λ_=>rfl) λ_ _ _ z=>by cases z
 |mX op op' a b c =>
  conv at h=>lhs;whnf
  rcases e1:ζ.oh x with _|⟨x,_|⟨o,_|⟨cP,_|⟨_,_⟩⟩⟩,_|⟨y,_|⟨z,_|⟨_,_⟩⟩⟩⟩<;>rw[e1]at h<;>first|(cases h;done)|skip
  .obtain⟨p,rfl⟩:=BA e1;simp only[PB]at h;obtain⟨⟨⟨⟨I,h2⟩,h3⟩,h4⟩,h5⟩:=h;have G:=E.e a x ct J X ↥C A h3;have H:=E.e b y ct J X ↥C A h4;have bf:=E.e c z ct J X ↥C A h5;have au:=HD (op:=o) (op':=cP) (b:=y) (de h5);exact Res.iK (λm=>Le (me A I) (me A h2) G.view H.view bf.view au) (Lf (me A I) (me A h2) G.view H.view bf.view au) λ_ _ _ z=>by cases z
 |jr s =>
  conv at h=>lhs;whnf
  rcases e1:ζ.dP x with _|⟨x,_|⟨e,_|⟨_,_⟩⟩⟩<;>rw[e1]at h<;>first|(cases h;done)|skip
  .obtain⟨p,q,rfl⟩:=e7 e1;exact Res.iL (Cs (v:=v) E A ↥C h) (λ_=>rfl) (λ_ _ _ z=>by cases z)
 |la i j =>
  conv at h=>lhs;whnf
  split at h
  .rename_i av ay e1;obtain⟨p1,p2,pos,rfl⟩:=Oy e1;rw[PB]at h;obtain⟨a1,a2,a3,a4⟩:=lW h.1;obtain⟨b1,b2,R,az⟩:=lW h.2;obtain⟨O,Q,_⟩:=d0 a3;obtain⟨T,U,_⟩:=d0 R;exact Res.lT (Lk a4 az (by rw[A.nm];exact a1) (A.e8 a2) O Q (by rw[A.nm];exact b1) (A.e8 b2) T U) (λ_=>rfl) (λ_ _ _ z=>by cases z) rfl
  .cases h
 |m7 =>
  conv at h=>lhs;whnf
  obtain⟨e0,rfl⟩:=tu h;exact Res.lT Ln (λ_=>rfl) (λ_ _ _ z=>by cases z) rfl
 |neg a =>
  conv at h=>lhs;whnf
  rcases e1:ζ.mr x with _|⟨_|_|_|_,x⟩<;>rw[e1]at h<;>first|(cases h;done)|skip
  .obtain⟨p,rfl⟩:=vi e1;have G:=E.e a x ct J X ↥C A h;exact Res.iK (λm=>Ax G.view) (iR (Ax G.view) λ_=>rfl) λ_ _ _ z=>by cases z
 |mi a b =>
  conv at h=>lhs;whnf
  split at h
  .rename_i x y c dD bz e1;obtain⟨p,p1,p2,e4,e5,gg,pos,rfl⟩:=OF e1;simp only[PB]at h;obtain⟨⟨⟨⟨⟨⟨⟨I,h2⟩,h3⟩,h4⟩,h5⟩,cz⟩,aA⟩,a9⟩:=h;obtain⟨a0,a5⟩:=A.blt h2 (by rw[c9 I];decide);obtain⟨da,b9⟩:=A.blt h4 (by rw[c9 h3];decide);have cy:dD=y:=(c9 h5).trans (c9 h3).symm;subst cy;have G:=E.e a c ct J X ↥C A aA;have H:=E.e b bz ct J X ↥C A a9;exact Res.iL (LX A.calm A.units (c9 I) (c9 h3) a0 a5 da b9 G.view H.view (eM (de aA)) (eM (de a9)) (OK cz)) (λ_=>rfl) (λ_ _ _ z=>by cases z)
  .cases h
 |tupI s =>
  conv at h=>lhs;whnf
  rcases e1:ζ.dP x with _|⟨x,_|⟨e,_|⟨_,_⟩⟩⟩<;>rw[e1]at h<;>first|(cases h;done)|skip
  .obtain⟨p,q,rfl⟩:=e7 e1;exact Res.lT (Ct (v:=v) E A ↥C h) (λ_=>rfl) (λ_ _ _ z=>by cases z) rfl
 |comp e j s c =>
  conv at h=>lhs;whnf
  split at h
  .rename_i x t d2 dV fD e1;obtain⟨p,rfl⟩:=BC e1
   split at h
   .rename_i xs bg;obtain⟨B,cA,cN,cO,cp,cB⟩:=vP (pos:=p) E A ↥C bg h;rw[cB];exact Res.iL (uy A.calm (by rw[A.nm];exact A.ae) B bg cA cN cO cp) (λ_=>rfl) (λ_ _ _ z=>by cases z)
   .cases h
  .cases h
def MH(o:gX xp k g pg Φ n)(a)(f)(ct)(X)(m:sizeOf a<n+1)(l:bN xp k g pg Φ X ct)(h:ζ.i8 g ct a f=J):dS X f (jD xp X ct.ae λb=>ζ.fE pg Φ b a)/\(∀e∈f,nice e=J)/\∀b ds,ζ.fE pg Φ b a=.ok ds->ds.length=f.length:=by
 unfold ζ.i8 at h
 split at h
 .exact⟨LF,by simp,λb ds q=>by rw[ζ.xg]at q;cases q;rfl⟩
 .rename_i e a x xs;simp only[PB]at h;have r:=o.e e x ct VC X ↥m l h.1;obtain⟨p1,p2,p3⟩:=o.a a xs ct X ↥m l h.2;refine⟨Lh r.val p1 (kD (de h.1)),λz hz=>?_,λb ds q=>?_⟩
  .rcases PF.mp hz with rfl|hz
   .exact de h.1
   .exact p2 z hz
  .rw[ζ.xf]at q;cases j:ζ.ev pg Φ b e with
   |ok d =>
    rw[j]at q;simp only[ζ.R.iN]at q;cases i:ζ.fE pg Φ b a with
    |ok p=>rw[i]at q;cases q;simp[p3 b p i]
    |exc c=>rw[i]at q;cases q
    |bad=>rw[i]at q;cases q
   |exc c=>rw[j]at q;cases q
   |bad=>rw[j]at q;cases q
 .cases h
def MK(c:gX xp k g pg Φ n)(o)(x)(ct)(X)(b:sizeOf o<n+1)(a:bN xp k g pg Φ X ct)(h:ζ.mW g ct o x=J):hH X x (mj xp X ct.ae λd=>ζ.jf pg Φ d o):=by
 unfold ζ.mW at h
 split at h
 .exact LG
 .rename_i e x;exact LJ (c.e e x ct J X ↥b a h).view
 .cases h
def stepI(o:gX xp k g pg Φ n)(s)(x)(ct)(v)(X)(u)(m:sizeOf s<n+1)(c:bN xp k g pg Φ X ct)(h:ζ.gz g ct v s x=J)(B:ζ.jy s=J->∃r j p,u=.Tuple r j p):
  eR X u x (gq xp X ct.ae (kn v) λE=>ζ.eI pg Φ E s)/\nice x=true:=by
 cases s with
 |seq e =>
  conv at h=>lhs;whnf
  exact⟨LA (tJ v) (o.e e x ct v X ↥m c h).dF,de h⟩
 |dG a =>
  conv at h=>lhs;whnf
  rcases e1:ζ.dP x with _|⟨x,_|⟨y,_|⟨_,_⟩⟩⟩<;>rw[e1]at h<;>first|(cases h;done)|skip
  .obtain⟨t,p,rfl⟩:=e7 e1;simp only[PB]at h;obtain⟨⟨d,h2⟩,h3⟩:=h;obtain⟨f,l⟩:=c.blt h2 (by rw[c9 d];decide);have q:=o.e a y ct J X ↥m c h3;exact⟨LP (c9 d) f l q.view (eM (de h3)),rfl⟩
 |mc a b =>
  conv at h=>lhs;whnf
  rcases e1:ζ.dP x with _|⟨x,_|⟨y,_|⟨z,_|⟨_,_⟩⟩⟩⟩<;>rw[e1]at h<;>first|(cases h;done)|skip
  .obtain⟨t,p,rfl⟩:=e7 e1;simp only[PB]at h;obtain⟨⟨⟨d,h2⟩,h3⟩,h4⟩:=h;obtain⟨f,l⟩:=c.blt h2 (by rw[c9 d];decide);have q:=o.e a y ct J X ↥m c h3;have C:=o.e b z ct J X ↥m c h4;exact⟨LQ (c9 d) f l q.view C.view (A3 (de h3) (de h4)) (eM (de h4)),rfl⟩
 |enum a =>
  conv at h=>lhs;whnf
  rcases e1:ζ.dP x with _|⟨x,_|⟨y,_|⟨_,_⟩⟩⟩<;>rw[e1]at h<;>first|(cases h;done)|skip
  .obtain⟨t,p,rfl⟩:=e7 e1;simp only[PB]at h;obtain⟨⟨d,h2⟩,h3⟩:=h;obtain⟨f,l⟩:=c.blt h2 (by rw[c9 d];decide);obtain⟨r,j,H,rfl⟩:=B rfl;have q:=o.e a y ct v X ↥m c h3;exact⟨Lx (tJ v) (c9 d) f l q.dF (eM (de h3)),rfl⟩
 |iw i =>
  conv at h=>lhs;whnf
  split at h
  .rename_i G e1;obtain⟨p,rfl⟩:=dQ e1;obtain⟨a1,a2,a3,a4⟩:=lW h;obtain⟨w,A,_⟩:=d0 a3;exact⟨Lv (tJ v) a4 (by rw[c.nm];exact a1) (c.e8 a2) w A,rfl⟩
  .cases h
theorem i6:∀n,gX xp k g pg Φ n
 |0=>⟨λ_ _ _ _ _ h=>⋯,λ_ _ _ _ h=>⋯,λ_ _ _ _ h=>⋯,λ_ _ _ _ _ _ h=>⋯⟩
 |n+1=>⟨MJ (i6 n),MH (i6 n),MK (i6 n),stepI (i6 n)⟩
def iM(a:bN xp k g pg Φ X ct)(h:ζ.bt g ct v e x=J):Res xp X ct.ae v (ζ.hk e) x (λb=>ζ.ev pg Φ b e):=(i6 (sizeOf e+1)).e e x ct v X (Rg _) a h
end
set_option tactic.hygienic false
end aF
end
section
namespace aF
open PySem PySem.Spec PyProof.Rows aH
def Jk(x:bX P w H h a o):∃u,h.get? a=Z u:=by
 cases o with
 |lst xs=>obtain⟨_,_,_,_,e⟩:=x;exact⟨_,e⟩
 |tup xs=>obtain⟨_,_,_,o,e,_⟩:=x;exact⟨_,e⟩
 |b5 c=>obtain⟨_,_,_,_,o,_,_,e,_⟩:=x;exact⟨_,e⟩
 |ck c=>obtain⟨_,_,_,_,o,_,_,e,_⟩:=x;exact⟨_,e⟩
 |set S n=>obtain⟨o,_,_,_,e,_⟩:=x;exact⟨_,e⟩
 |ins C d b=>obtain⟨_,_,_,e,_⟩:=x;exact⟨_,e⟩
 |own y=>exact x
 |qM b=>obtain⟨_,⟨_,_,_,e,_⟩,_⟩:=x;exact⟨_,e⟩
 |dG lo hi=>obtain⟨_,_,_,e⟩:=x;exact⟨_,e⟩
 |cv g u=>obtain⟨e,_⟩:=x;exact⟨_,e⟩
 |jF i=>exact⟨_,x⟩
 |met f y=>exact⟨_,x⟩
 |ext j=>exact x.2.1
def t2(x:cF P w H h)(e:h.get? a=Y):H a=none:=by
 cases q:H a with
 |none=>rfl
 |some o=>obtain⟨u,z⟩:=Jk (x a o q);rw[e]at z;cases z
section
def tX{Q:aN}{l:List VO}(I:Inv X O Q H s)(j:∀a∈l,fe X O H a)(w:∀b o,s.heap.get? b=Z o->b∉l->b∉er X.stack->h'.get? b=Z o)(a2:∀b o,s.heap.get? b=Z o->b∈er X.stack->∃h,h'.get? b=Z { o with slots:=h }):Inv X O Q H { s with heap:=h',toks:=t' }:=by
 have t:∀b o,s.heap.get? b=Z o->b∉l->∃h,h'.get? b=Z { o with slots:=h }:=λb o e n=>by
  by_cases f:b∈er X.stack
  .exact a2 b o e f
  .exact⟨o.slots,w b o e n f⟩
 have C:∀b o,X.dN.heap.get? b=Z o->b∉X.ex->b∉l:=λb o e g f=>by
  rcases(j b f).2.1 with z|z
  .exact g z
  .rw[e]at z;cases z
 have U:∀b o,X.dN.heap.get? b=Z o->b∉X.bD->b∉er X.stack:=λb o e f q=>by
  rcases PF.mp (I.kF b q) with z|z
  .exact absurd (PH (PJ e) I.ok.above) (by rw[z];exact Q5 _)
  .exact f z
 have E:∀x c,X.env.cells.lookup x=Z c->∀v,s.heap.IsCell c v->h'.IsCell c v:=λx c e v a3=>by
  obtain⟨o,B,A⟩:=a3;obtain⟨h,q⟩:=t c o B λz=>(j c z).2.2.2.1 x c e rfl
  exact⟨_,q,A⟩
 refine⟨I.ok,I.os,I.bare,⟨λb o e n f g=>?_,λb o e n f g=>?_,I.base.free,λb o e g=>?_,I.base.hD,I.base.gE,I.base.hC⟩,?_,λx c e=>?_,I.free,I.eJ,λp L=>?_,λa o e=>?_,I.len⟩
 .exact w b o (I.base.keep b o e n f g) (C b o e g) (U b o e f)
 .obtain⟨h,e1⟩:=I.base.slot b o e n f g;obtain⟨a1,e2⟩:=t b _ e1 (C b o e g);exact⟨a1,e2⟩
 .obtain⟨a0,e1⟩:=I.base.there b o e g;obtain⟨h,e2⟩:=t b a0 e1 (C b o e g);exact⟨_,e2⟩
 .obtain⟨m,⟨o,S,R,B,A,r⟩,T⟩:=I.loc;obtain⟨h,e⟩:=t _ o B λz=>(j _ z).2.2.1 rfl
  refine⟨m,⟨_,S,R,e,A,r⟩,λi x v e1 e2 e3=>?_⟩;obtain⟨u,r,q⟩:=T i x v e1 e2 e3;refine⟨u,r,?_⟩;rcases q with q|⟨k,c,e,z⟩
  .exact .inl q
  .exact .inr ⟨k,c,e,E x c e _ z⟩
 .obtain⟨v,z⟩:=I.cell x c e;exact⟨v,E x c e v z⟩
 .obtain⟨e,n,M,N,d⟩:=I.pin p L;exact⟨w p.1 p.2 e (λz=>(j _ z).2.2.2.2 p L rfl) (λz=>(PF.mp (I.kF _ z)).elim M N),n,M,N,d⟩
 .refine(I.aG a o e).hB (λb u f q=>?_) (λ_ q=>q) λ_ _ q=>q
  have G:H b≠none:=by
   rcases f with z|z
   .rw[z,e];exact λy=>nomatch y
   .rw[z];exact λy=>nomatch y
  exact w b u q (λz=>G (j b z).1) λz=>G (I.uQ b z)
end
abbrev oN:List Value:=[.type "ValueError",.type "Exception",.type "BaseException",.type "object"]
structure kS(ak:VT->Option VE)(base:V9)(cl:Nat->Option VO)(c:Nat)(x:VT)(C:VO):Prop where
 at_:cl c=Z C
 ak:ak x=Z (.ref C)
 dZ:∃(newId:String)(bm:List VE)(N:VO)(nm q:VT)(bs:List VE)(hdct:Bool)(sn:List VT)(sub:List VE)(ab:Bool)(col:Option Bool)(dd:Option VO)(k0 k1 k2 k3 k5:Option VE),
  base.get? C=Z (Wd nm q C N bs bm hdct sn sub ab col dd k0 k1 k2 k3 k5 newId)/\bm.contains (.type "BaseException")=J
structure jT(K:W.Frag)(base:V9)(cl:Nat->Option VO)(up:Nat->List Nat)(C:VO):Prop where
 at_:cl 1=Z C
 kN:(up 1).contains 1000=J
 dZ:∃(newId vq GC:String)(C2 bm:List VE)(N:VO)(nm q:VT)(bs:List VE)(hdct:Bool)(sn:List VT)(sub:List VE)(ab:Bool)(col:Option Bool)(dd:Option VO)(k0 k1 k2 k3 k5:Option VE)(mN:VT->Option VE),
  ExcBaseFacts vq newId GC C2/\oN.contains (.type vq)=J/\base.get? C=Z (Wd nm q C N bs bm hdct sn sub ab col dd k0 k1 k2 k3 k5 newId)/\base.Ns N mN/\mN "__init__"=Y/\OwnTail base oN bm/\cM.Plain K C bm /\
  ∀k D,cl k=Z D->(VQ C::bm).contains (.ref D)=(up 1).contains k
section
variable{X:aq}{pins:List (VO×WW)}{σ:aN}{H:ah}{s:VI}{h':V9}{l:List VO}{cl:Nat->Option VO}{up:Nat->List Nat}{x n:VT}{C:VO}{ae:List Nat}{np p dI pos:Xj}
def LL(k:kS X.ak X.base cl 1 x C)(O:jT X.K X.base cl up C)(w:X.calm=J)(z:cn X x)(y:(x==("__debug__":VT))=VC):
  bJ X (.Raise (Z (.Call (.Name x np) [.Constant (.str t) j p] [] dI)) Y pos) (bS (cM.d9 cl) X ae λ_=>.exc 1):=by
 rintro pins s σ H T I ⟨L,M,G,U,v,hw⟩;obtain⟨S,E,R,Q,bm,N,nm,q,bs,hdct,sn,sub,ab,col,dd,k0,k1,k2,k3,k5,mN,i,m,o,u,A,g,_⟩:=O.dZ;refine wpAny_Raise_call_subU (C:=C) (nm:=nm) (q:=q) (N:=N) (bs:=bs) (bm:=bm) (hdct:=hdct) (sn:=sn) (sub:=sub) (ab:=ab) (col:=col) (dd:=dd) (k0:=k0) (k1:=k1) (k2:=k2) (k3:=k3) (k5:=k5)
  i m YP (mN:=mN) (g.hasType rfl) (I.ok.hd w) rfl A (pJ I z k.ak ⟨rfl,?_⟩ y)
 have f:=(hs zC ku:dS X [.Constant (.str t) j p] _) dI pins s σ H (λh d=>h.length=1/\d=H) I ⟨rfl,rfl⟩;refine TP (aM f λB s2 ⟨h,d,b,r,e⟩=>⟨rfl,by show B.length<=V2;rw[<- r.length,e.1];decide,b.fB _ _ o,u.keeps b.fB,g.keeps b.fB,λh' dE c=>?_⟩)
 .obtain⟨_,rfl⟩:=e;exact hw pins σ d { s2 with heap:=h' } (.ref dE) [dE] (b.kept (t':=s2.toks) c.keeps) v.ext.h (λa f=>by
   obtain rfl:a=dE:=⇑f;exact .of b c.new (t2 b.aG c.new)) (cM.made O.at_ c)
abbrev M4(j:Nat)(b:VO)(v:V):TE:=λσ H Q=>σ[j]?=Z (Z (.ref b))/\∀a,aE H a->Q v a
abbrev M5(j:Nat)(b:VO)(c:List V):dU:=λσ H Q=>σ[j]?=Z (Z (.ref b))/\∀a,aE H a->Q c a
abbrev A8(j:Nat)(b:VO)(v:V):eG:=λT σ H=>σ[j]?=Z (Z (.ref b))/\∀a,aE H a->T.bH v a
def vv(a:VT->Option VE)(base:V9)(cl:Nat->Option VO)(up:Nat->List Nat)(v:V)(b:Bool):Prop:=(v=.ty "ValueError"/\b=J)\/∃k y D,v=.ref D/\kS a base cl k y D/\b=(up 1).contains k
def Dm(O:jT X.K X.base cl up C)(z:(i,j)∈X.bV)(f:j.cls=.ref C):
  eu X (.builtin "isinstance") (λxs H Q=>∃v b,xs=[.ref i,v]/\vv X.ak X.base cl up v b/\Q (.ag b) H):=by
 rintro pins s σ H xs a2 Q I r ⟨v,b,t,A,q⟩;subst t;obtain⟨u,a1,rfl,B,m⟩:=vals2 r;cases B;have g:=(I.pin (i,j) (VV _ z)).1;obtain⟨U,E,T,L,bm,N,nm,a0,bs,hdct,sn,sub,ab,col,dd,k0,k1,k2,k3,k5,mN,G,M,a,R,S,o,P,w⟩:=O.dZ;have a:=I.fB _ _ a;rcases A with⟨rfl,rfl⟩|⟨k,y,D,rfl,h,rfl⟩
 .cases m;exact cM.GY g f a (by kernel_rfl) (o.hasType rfl) ⟨.ag J,H,I,rfl,q⟩
 .cases m;obtain⟨_,_,_,_,_,_,_,_,_,_,_,_,_,_,_,_,_,c,_⟩:=h.dZ;have c:=I.fB _ _ c;have d:=w k D h.at_;cases e:(up 1).contains k with
  |true =>
   rw[e]at d q;exact cM.GX g f a c rfl ⟨_,rfl⟩ d ⟨.ag J,H,I,rfl,q⟩
  |false =>
   rw[e]at d q;exact cM.GW I.d5 P g f a c rfl ⟨_,rfl⟩ d ⟨.ag VC,H,I.tok _,rfl,q⟩
def N7{bs:List Bool}:TruthOf P w A (λi v=>(bs.map WN).toArray[i]?=Z v) λi=>bs.getD i false:=by
 intro i v s Q E a c;have a:(bs.map WN)[i]?=Z v:=⇑a
 rw[PX]at a;cases q:bs[i]? with
 |none=>rw[q]at a;cases a
 |some b =>
  rw[q]at a;cases a;refine Rh ?_;have:bs.getD i VC=b:=(by simp[WG,q]);have c:Q (bs.getD i VC) s:=c;rw[this]at c;exact c
def Cd(y:(c,j)∈X.bV)(m:X.A.handled=Z (.ref c))(t:j.data=.fields L)(h2:L[2]?=Z .none):
  eu X (.builtin "any") (λxs H Q=>∃(a:VO)(bs:List Bool),xs=[.ref a]/\b8 X.K H a (bs.map V.ag)/\Q (.ag (bs.any id)) H):=by
 rintro pins s σ H xs M Q I r ⟨a,bs,k,h,q⟩;subst k;obtain⟨u,rfl,G⟩:=vals1 r;cases G;have g:=(I.pin (c,j) (VV _ y)).1;obtain⟨its,E,f,hz⟩:=I.list h;obtain rfl:=BK E;have w:(bs.map WN).toArray.size=bs.length:=by rw[PT,VD]
 have z:a≠s.heap.objs.size:=by obtain⟨o,n,d,_⟩:=f;exact PY (PJ d)
 have B:c≠s.heap.objs.size:=PY (PJ g);refine call_any_walk (Ux f.isList ⟨s.heap.objs.size,_,_,_,_,_,λi=>bs.getD i VC,rfl,cM.OR (A:=X.A.in1) m t h2 _ a z B (bs.map WN).toArray,⟨⟨⟨_,PQ _ rfl,rfl,rfl⟩,(let ⟨o,d,r⟩:=f.isList;⟨o,PC _ d,r⟩)⟩,PC _ g⟩,N7,λh' tk v=>?_⟩);rw[w,any_range];exact⟨.ag _,H,I.kept λb o e=>v b o (by simp;exact PY (PJ e)) (PC _ e),rfl,q⟩
variable{g:ζ.Gt}{ct:ζ.bI}
structure qW(X:aq)(g:ζ.Gt)(ct:ζ.bI)(cl:Nat->Option VO):Prop where
 gl:∀x,ζ.hU ct.sc x=J->cn X x
 ag:∀x,ζ.cx g ct.sc x=J->x∈kQ->cn X x/\X.ak x=Y
 kN:X.ak "ValueError"=Y
 own:∀(c:Nat)(x:VT),g.cls[c]?=Z x->∃C,kS X.ak X.base cl c x C
set_option tactic.hygienic true in
theorem ua (O:jT X.K X.base cl up C) (b:qW X g ct cl) (E:(r,R)∈X.bV) (w:R.cls=.ref C) (A:X.N[j]?=Z n) (M:dA X.env.scope n) (B:ζ.okN n=J)
  (h:ζ.mV g ct n k z=J):ai X z (M4 j r (.ag ((up 1).contains k)))/\nice z=true:=by
 unfold ζ.mV at h
 split at h
 .rename_i f e d e1;obtain⟨a3,a1,rfl⟩:=e7 e1
  split at h
  .rename_i y t e2 e3;obtain⟨p1,rfl⟩:=dQ e2;obtain⟨p2,rfl⟩:=dQ e3;simp only[PB,P8]at h;obtain⟨⟨⟨⟨rfl,h2⟩,rfl⟩,h4⟩,h5⟩:=h;obtain⟨b1,b2⟩:=b.ag _ h2 ∅;obtain⟨o,q,a2⟩:=d0 B;have L:∃v,ai X (.Name t p2) (jE v)/\vv X.ak X.base cl up v ((up 1).contains k):=by
    simp only[ζ.tyB,PB]at h4;obtain⟨⟨m,u⟩,a⟩:=h4;obtain⟨U,a4,a5⟩:=d0 u
    by_cases c:k=1000
    .rw[if_pos c]at a;simp only[PB,P8]at a;obtain⟨rfl,_⟩:=a;subst c;exact⟨.ty "ValueError",zw (b.gl _ m) b.kN (by kernel_rfl) rfl,.inl ⟨rfl,O.kN⟩⟩
    .rw[if_neg c]at a;obtain⟨D,i⟩:=b.own k t ⇑a;exact⟨.ref D,JO (b.gl _ m) i.ak rfl U,.inr ⟨k,t,D,rfl,i,rfl⟩⟩
   obtain⟨v,G,N⟩:=L;refine⟨λpins s σ H Q I a0=>?_,rfl⟩;obtain⟨S,T⟩:=a0;refine nR (Dm O E w) b1 b2 boot_isinstance (hs (d7 A M o q) (hs G ku)) ∅ ∅ rfl rfl pins s σ H Q I ?_;exact⟨_,S,v,_,rfl,N,T H (aE.refl H)⟩
  .cases h
 .cases h
theorem zt(O:jT X.K X.base cl up C)(e:qW X g ct cl)(o:(u,w)∈X.bV)(f:w.cls=.ref C)(i:X.N[j]?=Z n)(q:dA X.env.scope n)(m:ζ.okN n=J):
  ∀{a:List Nat}{d:List VY},ζ.oP g ct n a d=J->dS X d (M5 j u (a.map λk=>V.ag ((up 1).contains k)))
 |[],[],_=>λpos pins s σ H Q I ⟨b,c⟩=>ku pos pins s σ H Q I (c H (aE.refl H))
 |[],_::_,h=>by cases h
 |_::_,[],h=>by cases h
 |k::a,z::d,h=>by
  simp only[ζ.oP,PB]at h;obtain⟨r,v⟩:=ua O e o f i q m h.1;have y:=zt O e o f i q m h.2;rintro pos pins s σ H Q I ⟨b,c⟩;exact hs r y (kD v) pos pins s σ H Q I ⟨b,λB s3=>⟨b,λt A=>c t (s3.trans A)⟩⟩
end
section
variable{X:aq}{pins:List (VO×WW)}{σ:aN}{H:ah}{s:VI}{h':V9}{l:List VO}{cl:Nat->Option VO}{up:Nat->List Nat}{c:Nat}{x n:VT}{C:VO}{ae:List Nat}{np p dI pos:Xj}
def F0(I:Inv X pins σ H s)(A:h'.Ns X.env.locals m)(G:V6 X.env.locals s.heap h'):Inv X pins (V0 X.N.length Y) H { s with heap:=h',toks:=t' }:=by
 have k:∀b o,X.dN.heap.get? b=Z o->b≠X.env.locals:=λb o e=>PY (PH (PJ e) I.ok.above)
 have f:∀b o,b≠X.env.locals->s.heap.get? b=Z o->h'.get? b=Z o:=λb o L e=>by rw[G.2 b L];exact e
 refine⟨I.ok,I.os,I.bare,⟨λb o e n g j=>?_,λb o e n g j=>?_,I.base.free,λb o e j=>?_,I.base.hD,I.base.gE,I.base.hC⟩,⟨m,A,λi x v e1 e2 e3=>?_⟩,λx c e=>?_,I.free,I.eJ,λp E=>?_,λa o e=>?_,by simp⟩
 .exact f b o (k b o e) (I.base.keep b o e n g j)
 .obtain⟨N,e1⟩:=I.base.slot b o e n g j;exact⟨N,f b _ (k b o e) e1⟩
 .obtain⟨t,e1⟩:=I.base.there b o e j;exact⟨t,f b t (k b o e) e1⟩
 .rw[Sm]at e2
  split at e2<;>cases e2
 .obtain⟨v,o,B,y⟩:=I.cell x c e;exact⟨v,o,f c o (I.oS x c e) B,y⟩
 .obtain⟨e,n,r,M,d⟩:=I.pin p E;exact⟨f _ _ r e,n,r,M,d⟩
 .refine(I.aG a o e).hB (λb u g q=>f b u (λz=>?_) q) (λ_ q=>q) λ_ _ q=>q
  have h:=I.free;rw[<- z]at h;rcases g with w|w
  .rw[w,e]at h;cases h
  .rw[w]at h;cases h
noncomputable abbrev kh(X:aq)(e:VE)(bV:List (VO×WW)):aq:={ X with A:=X.A.mark (Z e),calm:=VC,bV:=bV,bl:=λ_ _=>False }
noncomputable abbrev jm(X:aq)(bV:List (VO×WW))(E:VE->VI->Prop):aq:={ X with bV:=bV,bl:=E }
def N3(I:Inv X pins σ H s)(a:∀p∈b,s.heap.get? p.1=Z p.2/\H p.1=Y/\p.1≠X.env.locals/\p.1∉X.bD/\∀v,p.2.data≠.cell v):Inv (kh X e b) [] σ H s :=
 ⟨⟨I.ok.mod,I.ok.kind,I.ok.glob,I.ok.blt,I.ok.above,I.ok.inj,I.ok.has,I.ok.mS,(λz=>nomatch z),I.ok.frames,I.ok.kE,I.ok.sW,I.ok.bs,I.ok.j4,I.ok.nK,I.ok.lq,I.ok.gF,I.ok.lz⟩,I.os,I.bare,I.base,I.loc,I.cell,I.free,I.eJ,λp q=>a p ⇑q,I.aG,I.len⟩
def Jf(a:X.Ok)(I:Inv (kh X e d) f σ H s)(b:∀p∈X.bV++pins,p∈d):Inv X pins σ H s :=
 ⟨a,I.os,I.bare,I.base,I.loc,I.cell,I.free,I.eJ,λp q=>I.pin p (VV _ (b p q)),I.aG,I.len⟩
def N4(I:Inv X pins σ H s)(a:∀p∈b,p∈X.bV++pins):Inv (jm X b E) [] σ H s :=
 ⟨⟨I.ok.mod,I.ok.kind,I.ok.glob,I.ok.blt,I.ok.above,I.ok.inj,I.ok.has,I.ok.mS,I.ok.hd,I.ok.frames,I.ok.kE,I.ok.sW,I.ok.bs,I.ok.j4,I.ok.nK,I.ok.lq,I.ok.gF,I.ok.lz⟩,I.os,I.bare,I.base,I.loc,I.cell,I.free,I.eJ,λp q=>I.pin p (a p ⇑q),I.aG,I.len⟩
def nO(a:X.Ok)(I:Inv (jm X d E) e σ H s)(b:∀p∈X.bV++pins,p∈d):Inv X pins σ H s :=
 ⟨a,I.os,I.bare,I.base,I.loc,I.cell,I.free,I.eJ,λp q=>I.pin p (VV _ (b p q)),I.aG,I.len⟩
def fe.nL(I:Inv X pins σ H s)(h:fe X pins H a):a∉X.bD:=λb=>by
 rcases h.2.1 with z|z
 .exact I.ok.lq a z b
 .obtain⟨_,o,d,_⟩:=I.ok.gF.mem b;rw[z]at d;cases d
def fe.Ja(I:Inv X pins σ H s)(h:fe X pins H a):a∉er X.stack:=λb=>by
 rcases PF.mp (I.kF a b) with z|z
 .exact h.2.2.1 z
 .exact fe.nL I h z
def vt(X:aq)(cl:Nat->Option VO)(e:List Y2)(bv:Bool):Prop:=∀(pins:List (VO×WW))(s:VI)(σ:aN)(H:ah)(T:Ends)(d:VE)(l:List VO),Inv X pins σ H s->(∀a∈l,fe X pins H a)->cM.d9 cl 1 d l s.heap->(∀b,aE H b->T.bH (.ag bv) b) ->
 VJ (VM X.prog X.w) X.A (handleBy d X.env e) (kT X pins T) X.bl s
def zJ(I:Inv X pins σ H s)(e:fe X pins H b)(f:d.data=.fields h)(g:s.heap.get? b=Z d):Inv (kh X (.ref b) (X.bV++pins++[(b,d)])) [] σ H s:=N3 I λp a=>by
 rcases PS.mp a with a|a
 .exact I.pin p a
 .obtain rfl:p=(b,d):=⇑a;exact⟨g,e.1,e.2.2.1,fe.nL I e,λv=>by show d.data≠_;rw[f];exact λz=>nomatch z⟩
section
variable{k:Nat}{D:VO}{aA:Wl}{st:List Wl}{th:Xj}{bv:Bool}(O:jT X.K X.base cl up C)(oD:kS X.ak X.base cl k x D)(x8:(up 1).contains k=J)(x7:cn X x)(x6:(x==("__debug__":VT))=VC)
include O oD x8 x7 x6
def Gk(az:X.N.Nodup)(Q:X.N[j]?=Z n)(A:X.env.scope.names.lookup n=Z .local)(ay:∀(d:VO)(e:WW)(i:Array VE)(S:List (VO×WW)),e.cls=.ref C->e.data=.fields i->i[2]?=Z .none->(d,e)∈S->dh (kh X (.ref d) S) (aA::st) (A8 j d (.ag bv))):vt X cl [.ExceptHandler (Z (.Name x np)) (Z n) (aA::st) th] bv:=by
 intro pins s σ H T cN l I h R fin;have bp:=R;obtain⟨d,U,e,i,rfl,b2,t,L,r,h2,bg⟩:=R;have M:d∈l:=by rcases bg with⟨rfl,_⟩|⟨T,_,_,rfl,_⟩<;>simp
 obtain rfl:U=C:=Ql (b2.symm.trans O.at_);obtain⟨dr,da,dJ,cA,bm,N,nm,q,bs,hdct,sn,sub,ab,col,dd,k0,k1,k2,k3,k5,mN,b9,cp,au,cB,c2,cz,_,g⟩:=O.dZ;obtain⟨_,_,_,_,_,_,_,_,_,_,_,_,_,_,_,_,_,av,a5⟩:=oD.dZ;refine wpAny_handleBy_cons (codeAny_handlers_test (pJ (X:=kh X (.ref d) (X.bV++pins++[(d,e)])) (zJ I (h d M) r t) x7 oD.ak ?_ x6)) (by intro q;cases q);obtain⟨cP,a3,a2,tk,os⟩:=s;refine cM.Iq (I.fB _ _ au) (I.fB _ _ av) t L a5 ((g k D oD.at_).trans x8) (codeAny_handlers_suite_as (cM.FP bp λa4 l1 y w=>?_));have a0:Inv X pins σ H { heap:=a4,gens:=a3,drawn:=a2,toks:=tk,os:=os }:=tX (t':=tk) I (l:=l1) (λa b1=>h a (y a b1).1) (λb o q g _=>w b o q g) λb o q g=>⟨o.slots,w b o q λz=>fe.Ja I (h b (y b z).1) g⟩
 refine qu (X:=kh X (.ref d) (X.bV++pins++[(d,e)])) (zJ a0 (h d M) r (w d e t λz=>(y d z).2 rfl)) az Q (.inl A) (v:=.ref d) rfl (λc0 a1=>?_) (.inr A);refine QP (ay d e i _ L r h2 (by simp) [] c0 _ H { aR:=λ_ _=>False,bH:=λv B=>v=.ag bv/\aE H B } a1 ⟨?_,λB z=>⟨rfl,z⟩⟩) (λf dD q=>?_) λ_ _ z=>z.elim
 .have bc:j<σ.length:=(by rw[I.len];exact(P5.mp Q).1);exact n0 bc
 .cases f with
  |ret u =>
   obtain⟨v,dV,E,G,bz,rfl,cy⟩:=q;obtain⟨m,a8,_⟩:=id G.loc;refine wpAny_nameGoes (env:=X.env) (m:=m) A a8 (by rw[I.ok.kind];rfl) λcO dC a9 bf=>?_
   exact⟨.ag bv,_,E,F0 (Jf I.ok G λp th=>VV _ th) a9 bf,bz,fin E cy⟩
  |next=>obtain⟨_,_,_,z⟩:=q;exact z.elim
  |brk=>obtain⟨_,_,_,z⟩:=q;exact z.elim
  |cont=>obtain⟨_,_,_,z⟩:=q;exact z.elim
end
abbrev lR(a d e:ah):ah:=λb=>match a b with
 |some o=>Z o
 |none=>match d b,e b with
  |none,Z (.tup xs)=>Z (.tup xs)
  |_,_=>Y
set_option tactic.hygienic true in
theorem FA (f:aE d qV) (h2:aE a qV):Ext a d (lR a d qV) qV:=by
 refine⟨λb o e=>by unfold lR;rw[e],f,λb o e=>?_,λb i j=>?_,λb xs e=>?_⟩
 .unfold lR at e;cases q:a b with
  |some k=>rw[q]at e;cases e;exact h2 b _ q
  |none =>
   rw[q]at e;dsimp only at e
   split at e
   .rename_i xs _ h;cases e;exact h
   .cases e
 .unfold lR;rw[i];dsimp only
  split
  .rename_i q _;exact absurd q j
  .rfl
 .cases q:d b with
  |some o=>have:=f b o q;rw[e]at this;cases this;exact .inl rfl
  |none =>
   refine .inr ?_;unfold lR;cases g:a b with
   |some o=>have:=h2 b o g;rw[e]at this;cases this;rfl
   |none=>rw[q,e]
def AA(O:X.stack=X.env::X.outer/\X.env.frame=Z X.env.locals)(c0:∀(ay:List (VO×WW))(E:VE->VI->Prop),bJ (jm X ay E) a (bS (cM.d9 cl) (jm X ay E) ae λk=>ζ.ex pg Φ k Q))(da:∀c,c≠1->ζ.gC pg c k0 N=.bad)(R:ζ.gC pg 1 k0 N=.bad\/ζ.gC pg 1 k0 N=.ok (.bH (.ag bv))/\vt X cl [h0] bv):
  bJ X (.Try [a] [h0] [] [] pos) (bS (cM.d9 cl) X ae λk=>ζ.ex pg Φ k (.kK Q k0 N)):=by
 rintro pins s σ H T I ⟨i,m,G,k,d,hw⟩;refine wpAny_Try_except ?_;have a2:∀(M w:ah)(L:VE->VI->Prop),b7 X.K ae M w G H k σ->aZ (ζ.ex pg Φ k Q) (fR X.K ae M w T) (λc=>dy (cM.d9 cl) (jm X (X.bV++pins) L) c w) ->
   VJ (VM X.prog X.w) X.A (execs [a] X.env) (λf a0=>match f with|.next=>VJ (VM X.prog X.w) X.A (execs [] X.env) (kT X pins T) X.bl a0|f=>kT X pins T f a0) L s:=λM w L bz cz=>by
  refine QP (zU (c0 (X.bV++pins) L) [] s σ H T (N4 I λ_ z=>z) ⟨M,w,G,k,bz,cz⟩) (λf a0 q=>?_) λ_ _ q=>q
  cases f with
  |next=>obtain⟨j,g,h,q⟩:=q;exact TY ⟨j,g,nO I.ok h λ_ z=>z,q⟩
  |ret u=>obtain⟨v,j,g,h,r,q⟩:=q;exact⟨v,j,g,nO I.ok h λ_ z=>z,r,q⟩
  |brk=>obtain⟨j,g,h,q⟩:=q;exact⟨j,g,nO I.ok h λ_ z=>z,q⟩
  |cont=>obtain⟨j,g,h,q⟩:=q;exact⟨j,g,nO I.ok h λ_ z=>z,q⟩
 dsimp only at hw;rw[ζ.xr]at hw;replace hw:aZ (ζ.qE pg (ζ.ex pg Φ k Q) k0 N) (fR X.K ae i m T) (λc=>dy (cM.d9 cl) X c m):=hw;cases q:ζ.ex pg Φ k Q with
 |ok r =>
  rw[q,ζ.N8]at hw;exact a2 i m _ d (by rw[q];exact hw)
 |bad=>rw[q]at hw;exact hw.elim
 |exc c =>
  rw[q,ζ.Bp]at hw
  by_cases a3:c=1
  .subst a3;rcases R with S|⟨S,R⟩
   .rw[S]at hw;exact hw.elim
   rw[S]at hw;have bg:aE i (fl i m):=λb o e=>jn e
   have bf:aE m (fl i m):=λb o e=>by
    cases z:i b with
    |none=>rw[gH z];exact e
    |some U =>
     have e1:=d.ext.sub b U (d.ext.g b U z);rw[d.ext.h b o e]at e1;cases e1;exact jn z
   have bp:b7 X.K ae i (fl i m) G H k σ:=by
    refine⟨d.aV,⟨d.ext.g,λb o e=>?_,d.ext.sub,λb A B=>?_,λb xs e=>.inr (d.aV.c7 b xs e)⟩,λau ds b A aA B b1=>?_⟩
    .cases z:i b with
     |none=>rw[gH z]at e;exact d.ext.h b o e
     |some U=>rw[jn z]at e;cases e;exact d.ext.sub b _ (d.ext.g b _ z)
    .rw[gH A]at B;exact d.ext.new b A B
    .obtain⟨cp,xs,k1,k2,k3,cB⟩:=d.aV.lst au ds A B aA;rw[k1]at b1;cases b1;rw[gH (d.ext.g.free k3)];exact d.own au ds _ A aA B k1
   refine a2 i (fl i m) _ bp ?_;rw[q];intro cP j g s' a8 l b2 az y cA;have h:Inv X pins j g s':=nO I.ok b2 λ_ z=>z
   have av:∀a∈l,fe X pins g a:=λa t=>⟨(y a t).1,(y a t).2.1,(y a t).2.2.1,(y a t).2.2.2.1,λp b9=>(y a t).2.2.2.2 p (VV _ b9)⟩
   have e1:cM.fr (X.env::X.outer)=er X.stack:=(by rw[O.1];rfl);refine cM.note (base:=X.base) (outer:=X.outer) (by rw[h.ok.frames,O.1]) (by rw[<- O.1];exact h.stack) O.2 cA λa9 l1 cN cy a4 a5=>?_
   rw[e1]at a4 a5;have bc:Inv X pins j g { s' with heap:=a9 }:=tX (t':=s'.toks) h av a4 a5;have cO:∀a∈l1,fe X pins g a:=λa t=>(cy a t).elim (av a) λz=>.of h z (t2 h.aG z)
   exact R pins _ j g T a8 l1 bc cO cN λa1 s3=>hw (.ag bv) (lR i m a1) a1 (FA ((bf.trans az).trans s3) ((bg.trans az).trans s3)) rfl
  .rw[da c a3]at hw;exact hw.elim
end
end aF
end
section
namespace aF
set_option tactic.hygienic true
open PySem PySem.Spec PyProof.Rows aH
def kG(h:ζ.fJ x=Z (ts,y)):∃p,x=.Assign ts y p:=by
 cases x with
 |Assign a b p=>cases h;exact⟨p,rfl⟩
 |_=>exact nn h
def A7(h:ζ.uU x=Z y):∃p,x=.Expr y p:=by
 cases x with
 |Expr a p=>cases h;exact⟨p,rfl⟩
 |_=>exact nn h
def qz(h:ζ.h9 x=Z y):∃p,x=.Return y p:=by
 cases x with
 |Return a p=>cases h;exact⟨p,rfl⟩
 |_=>exact nn h
def A9(h:ζ.n7 x=Z (t,a,b)):∃p,x=.If t a b p:=by
 cases x with
 |If t a b p=>cases h;exact⟨p,rfl⟩
 |_=>exact nn h
def M3(h:ζ.n6 x=Z (t,c,a,b)):∃p,x=.For t c a b p:=by
 cases x with
 |For t c a b p=>cases h;exact⟨p,rfl⟩
 |_=>exact nn h
structure iW(xp:bQ)(g:ζ.Gt)(pg:ζ.cT)(K:W.Frag)(ak:VT->Option VE)(base:V9):Prop where
 ex:∃cl C,xp=cM.d9 cl/\(∀(c:Nat)(x:VT),g.cls[c]?=Z x->∃C,kS ak base cl c x C)/\jT K base cl pg.up C
 lo:∀k,k<2->(pg.up 1).contains k=J
 kN:ak "ValueError"=Y
structure gw(xp:bQ)(g:ζ.Gt)(pg:ζ.cT)(X:aq)(ct:ζ.bI):Prop where
 cls:iW xp g pg X.K X.ak X.base
 kE:X.stack=X.env::X.outer/\X.env.frame=Z X.env.locals
 loc:∀x,ζ.gJ ct.sc x=J->Loc X.env.scope x
 fn:∀x,X.fn x=J
 pass:ZD (VM X.prog X.w) X.A X.env X.bl
section
variable{xp:bQ}{k:Nat}{g:ζ.Gt}{pg:ζ.cT}{Φ:ζ.dw}
def Dz(h:ζ.bt g ct v e (.ListComp x i f pos)=J):∃a j s c t d b xs,e=.comp a j s c/\i=[⟨t,d,b,0⟩]/\ζ.dv j t=Z xs /\
  ((!ζ.jy s||j==2)&&ζ.mR ct f xs&&ζ.gz g ct J s d&&ζ.bt g ⟨ζ.mask ct.N xs++xs,f,ct.ae⟩ VC a x&&ζ.j5 g ⟨ζ.mask ct.N xs++xs,f,ct.ae⟩ c b)=true:=by
 cases e with
 |comp a j s c =>
  conv at h=>lhs;whnf
  split at h
  .rename_i n t d b m e1;obtain⟨p,e2⟩:=BC e1;cases e2
   split at h
   .rename_i xs l;exact⟨a,j,s,c,t,d,b,xs,rfl,rfl,l,h⟩
   .cases h
  .cases h
 |_=>exact(QL h).elim
def DY(x):(∃y a b pos,x=.ListComp y a b pos)\/ζ.nJ x=true:=by
 cases x<;>first|exact .inr rfl|exact .inl ⟨_,_,_,_,rfl⟩
def Ci (b : bN xp k g pg Φ X ct) (H : ∀ x, ζ.gJ ct.sc x = J -> Loc X.env.scope x) (C : ∀ x, X.fn x = J) (h : (ct.N[i]? == Z x && ζ.gJ ct.sc x && ζ.okN x && (!ct.ae.contains i || ζ.hk e) && ζ.bt g ct VC e y) = J) :
    bJ X (.Assign [.Name x p] y pos) (bS xp X ct.ae fun a => ζ.ex pg Φ a (.asg i e)) := by
  simp only [PB, P8, Rk, Qn] at h
  obtain ⟨⟨⟨⟨w, h2⟩, h3⟩, h4⟩, h5⟩ := h
  have l : X.N.Nodup := by rw [b.nm]; exact b.di
  have hi : X.N[i]? = Z x := by rw [b.nm]; exact w
  have q := H x h2
  have m : X.fn x = J \/ X.env.scope.names.lookup x = Z .local := .inl (C x)
  rcases DY y with ⟨z, R, U, Q, rfl⟩ | A
  · obtain ⟨f, j, s, c, t, T, S, xs, rfl, rfl, u, G⟩ := Dz h5
    obtain ⟨B, I, L, M, N, O⟩ := vP (pos := Q) (i6 (xp := xp) (k := k) (pg := pg) (Φ := Φ) (sizeOf (ζ.E.comp f j s c))) b (by simp only [ζ.E.comp.sizeOf_spec]; lia) u G
    have e1 : (fun a => ζ.ex pg Φ a (.asg i (.comp f j s c))) = fun a => (ζ.eI pg Φ a s >>= fun ds => ζ.iH (ζ.bA (gi j (fun a => ζ.iz pg Φ a c) (fun a => ζ.ev pg Φ a f) a) ds) >>= fun ys => .ok (.lst ys)) >>= fun d => .ok (.aR (a.set i (Z d))) := by
      funext a
      have := congrFun O a
      rw [ζ.xn]
      rw [this]
    rw [e1]
    exact K9 b.calm (by rw [b.nm]; exact b.ae) B u I L M N l hi q m
  · have r := iM b h5
    have v := qv (t := Z (.Name x p)) (n := pos.line) (env := X.env) (de h5) A
    by_cases o : i ∈ ct.ae
    · have E : ζ.hk e = true := by
        rcases h4 with h4 | h4
        · rw [QO.mpr o] at h4; cases h4
        · exact h4
      exact Av o l hi q (r.fresh E) v m
    · exact Au o l hi q r.val v m
def Cj(a:bN xp k g pg Φ X ct)(c:∀x,ζ.gJ ct.sc x=J->Loc X.env.scope x)(b:∀x,X.fn x=J){st:Wl}(h:ζ.sb g ct i e st=J):
  bJ X st (bS xp X ct.ae λd=>ζ.ex pg Φ d (.asg i e)):=by
 unfold ζ.sb at h;rcases e1:ζ.fJ st with _|⟨_|⟨t,_|⟨_,_⟩⟩,y⟩<;>rw[e1]at h<;>first|(cases h;done)|dsimp only at h
 .obtain⟨pos,rfl⟩:=kG e1
  split at h
  .rename_i x e2;obtain⟨p,rfl⟩:=dQ e2;exact Ci a c b h
  .cases h
def vR{st:Wl}(h:ζ.oQ g ct i e nm st=J):∃x n a y p1 b p4,st=.Expr (.Call (.Attribute (.Name x p1) n a) [y] [] b) p4/\(a.endLine==b.line)=J/\ct.N[i]?=Z x/\ζ.gT ct.sc x=J/\ζ.okN x=J/\i∈ct.ae/\n=nm/\ζ.bt g ct VC e y=true:=by
 unfold ζ.oQ at h
 split at h
 .rename_i c e1;obtain⟨pos,rfl⟩:=A7 e1
  split at h
  .rename_i x n a y e2;obtain⟨p1,b,rfl⟩:=By e2;simp only[PB,P8]at h;obtain⟨⟨⟨⟨⟨⟨h0,d⟩,h2⟩,h3⟩,h4⟩,h5⟩,f⟩:=h;have h0:a.endLine=b.line:=h0;exact⟨x,n,a,y,p1,b,pos,rfl,⇑h0,d,h2,h3,QO.mp h4,h5,f⟩
  .cases h
 .cases h
def Ng(h:ζ.Ba x=Z y):∃p,x=.Raise (Z y) Y p:=by
 cases x with
 |Raise e c p =>
  rcases e with _|e<;>rcases c with _|c<;>first|(cases h;done)|skip
  cases h;exact⟨_,rfl⟩
 |_=>exact nn h
def Nj(q:ζ.uY x=Z (a,h,e,f)):∃p,x=.Try a h e f p:=by
 cases x with
 |Try a h e f p=>cases q;exact⟨p,rfl⟩
 |_=>exact nn q
def Cv(d:bN xp k g pg Φ X ct)(i:gw xp g pg X ct){st:Wl}(h:ζ.sk g ct c st=J):bJ X st (bS xp X ct.ae λm=>ζ.ex pg Φ m (.raise c)):=by
 unfold ζ.sk at h
 split at h
 .rename_i y e1;obtain⟨pos,rfl⟩:=Ng e1
  split at h
  .rename_i x a e2;obtain⟨q,o,rfl⟩:=e7 e2
   split at h
   .rename_i t e3;obtain⟨j,p,rfl⟩:=qI e3;simp only[PB,P8]at h;obtain⟨⟨⟨rfl,f⟩,h2⟩,h3⟩:=h;obtain⟨n,C,rfl,l,O⟩:=i.cls.ex;obtain⟨e,b⟩:=l 1 x f;obtain rfl:e=C:=Ql (b.at_.symm.trans O.at_);exact LL b O d.calm (d.nj h2) (d0 h3).1
   .cases h
  .cases h
 .cases h
def Kk(O:jT X.K X.base a1 up C)(b:qW X g ct a1)(d:(m,E)∈X.bV)(q:E.cls=.ref C)(bf:E.data=.fields f0)(h2:f0[2]?=Z .none)(a9:X.A.handled=Z (.ref m))(nm:X.N=ct.N)(da:X.N.Nodup)(cy:∀x,ct.sc.names.lookup x=Z .local->X.env.scope.names.lookup x=Z .local)(r:X.N[j]?=Z n)(bp:X.env.scope.names.lookup n=Z .local)(t:ζ.okN n=J)(h:ζ.si g ct j i n z k5 c0 fj gh=J)(u:ζ.pj up z k5 c0=J):
  i≠j/\i<X.N.length/\dh X [fj,gh] (A8 j m (.ag J)):=by
 unfold ζ.si at h
 split at h
 .rename_i kb l e1;obtain⟨p1,rfl⟩:=kG e1
  split at h
  .rename_i x e2;obtain⟨p2,rfl⟩:=dQ e2
   split at h
   .rename_i hj e3;obtain⟨p3,rfl⟩:=BE e3
    split at h
    .rename_i f4 e4;obtain⟨p4,rfl⟩:=qz e4
     split at h
     .rename_i hg hh f8 R e5;obtain rfl:=oe e5
      split at h
      .rename_i w a4;obtain⟨p5,rfl⟩:=vi a4
       split at h
       .rename_i f c a5;obtain⟨cz,cp,rfl⟩:=e7 a5;simp only[PB,P8,bne_iff_ne,PM]at h;obtain⟨⟨⟨⟨⟨⟨⟨⟨⟨⟨a,az⟩,h3⟩,h4⟩,h5⟩,aA⟩,bc⟩,rfl⟩,a8⟩,av⟩,ay⟩:=h;obtain⟨cB,rfl⟩:=dQ av;have v:dA X.env.scope n:=.inl bp;have y:=cy x az;rw[<- nm]at a;have B:i<X.N.length:=(P5.mp a).1;obtain⟨a2,a3,f2⟩:=d0 h3;obtain⟨b1,b2⟩:=b.ag _ a8 ∅;have dD:=zt O b d q r v t h5;obtain⟨dV,m5⟩:=ua O b d q r v t aA;obtain⟨d2,jh⟩:=ua O b d q r v t bc;have ea:=nR (pos:=cp) (p:=cz) (Cd d a9 bf h2) b1 b2 (show Wt "any"=Z (.builtin "any") by kernel_rfl) (hs (d7 (pos:=cB) a (.inl y) a2 a3) ku) ∅ ∅ rfl rfl;have eo:=t6 (pos:=R) dV (t6 d2 (ub (zA (pos:=p5) ea)));unfold ζ.pj at u;simp only[PB]at u;obtain⟨S,U,a0⟩:=u;refine⟨h4,B,λcP s e H T I ⟨G,dr⟩=>?_⟩;refine uf (lX da a (.inl y) (zy dD) rfl (.inr y)) (zU (qc eo)) cP s e H T I ?_;refine⟨G,λf1 s3=>⟨by rw[VD];exact PW ay ∅,λp b9=>?_⟩⟩;have bz:i<e.length:=(by rw[I.len];exact B);have A:(e.set i (Z (V.ref p)))[j]?=Z (Z (V.ref m)):=(by rw[c4 h4];exact G);have au:(e.set i (Z (V.ref p)))[i]?=Z (Z (V.ref p)):=n0 bz;have e0:=s3.trans (d8 (o:=.lst (z.map λk=>V.ag ((up 1).contains k))) b9);refine⟨A,λN L=>⟨_,rfl,?_⟩⟩;have bg:b8 X.K N p ((z.map λk=>(up 1).contains k).map V.ag):=b8.of (by rw[VU];exact L _ _ b4);rw[S,if_pos rfl];refine⟨A,λQ M=>⟨_,rfl,?_⟩⟩;rw[U,if_pos rfl];refine⟨_,au,p,_,rfl,fZ M bg,_,rfl,?_⟩;rw[a0];exact dr Q ((e0.trans L).trans M)
       .cases h
      .cases h
     .cases h
    .cases h
   .cases h
  .cases h
 .cases h
def Dx(h:ζ.se g ct b t=J):∃x a,t=.Name x a/\g.cls[b]?=Z x/\ζ.hU ct.sc x=J/\ζ.okN x=true:=by
 unfold ζ.se at h
 split at h
 .rename_i x e1;obtain⟨a,rfl⟩:=dQ e1;simp only[PB,P8]at h;exact⟨x,a,rfl,h.1.1,h.1.2,h.2⟩
 .cases h
def vQ(a:bN xp k g pg Φ X ct){st:Wl}(h:ζ.oO g ct e st=J):bJ X st (bS xp X ct.ae λb=>ζ.ex pg Φ b (.expr e)):=by
 unfold ζ.oO at h
 split at h
 .rename_i y e1;obtain⟨pos,rfl⟩:=A7 e1;rw[PB]at h;exact Lq (iM a h.2).view (qv (de h.2) h.1)
 .cases h
def Cw(a:bN xp k g pg Φ X ct){st:Wl}(h:ζ.sm g ct b st=J):bJ X st (bS xp X ct.ae λc=>ζ.ex pg Φ c b):=by
 unfold ζ.sm at h
 split at h
 .exact vQ a h
 .cases h
def Cx(b:bN xp k g pg Φ X ct)(i:gw xp g pg X ct){st:Wl}(h:ζ.so g ct y j e st=J):bJ X st (bS xp X ct.ae λp=>ζ.ex pg Φ p (.kK y j e)):=by
 unfold ζ.so at h;rcases e3:ζ.uY st with _|⟨_|⟨a,_|⟨_,_⟩⟩,_|⟨N,_|⟨_,_⟩⟩,_|⟨_,_⟩,_|⟨_,_⟩⟩<;>rw[e3]at h<;>first|(cases h;done)|dsimp only at h
 .obtain⟨pos,rfl⟩:=Nj e3;simp only[PB,PM]at h;obtain⟨⟨h2,h3⟩,h4⟩:=h;obtain⟨A,C,rfl,r,O⟩:=i.cls.ex;have s:=i.cls.lo j h3;have B:∀(f:List (VO×WW))(E:VE->VI->Prop),bJ (jm X f E) a (bS (cM.d9 A) (jm X f E) ct.ae λp=>ζ.ex pg Φ p y):=λf E=>Cw (X:=jm X f E) ⟨b.bW,b.room,b.units,b.calm,b.nm,b.di,b.ae,b.lc,b.mT,b.gl⟩ h2
  have w:X.N.Nodup:=(by rw[b.nm];exact b.di);have v:∀c,c≠1->ζ.gC pg c j e=.bad:=λc M=>by unfold ζ.gC;rw[beq_false_of_ne M];rfl
  cases l:ζ.pj pg.up e.aS e.k5 e.ny with
  |false=>exact AA (bv:=J) i.kE B v (.inl (by unfold ζ.gC;rw[l,WM,WM];rfl))
  |true =>
   have R:ζ.gC pg 1 j e=.ok (.bH (.ag J)):=(by unfold ζ.gC;rw[s,l];rfl);obtain⟨t,nm,body,a3⟩:=N;unfold ζ.wx at h4
   split at h4
   .rename_i t' e5;have e5:t=Z t':=e5;subst e5;simp only[PB]at h4;obtain⟨h5,d⟩:=h4;obtain⟨x,a4,rfl,H,I,L⟩:=Dx h5;obtain⟨D,z⟩:=r j x H;replace d:ζ.sj g ct e nm body=true:=d;unfold ζ.sj at d
    split at d
    .rename_i n;simp only[PB,P8]at d;obtain⟨⟨⟨m,S⟩,T⟩,o⟩:=d
     split at o
     .rename_i au av;have u:=b.lc n S;rw[<- b.nm]at m;exact AA i.kE B v (.inr ⟨R,Gk O z s (b.nj I) (d0 L).1 w m u λG a5 ay f U a0 a1 a2=>(Kk (X:=kh X (.ref G) f) (g:=g) (ct:=ct) O ⟨λx q=>b.nj q,λx q Q=>b.blt q Q,i.cls.kN,r⟩ a2 U a0 a1 rfl b.nm w b.lc m u T o l).2.2⟩)
     .cases o
    .cases d
   .cases h4
theorem wy:∀{ts:List Nat}{xs:List VT},ζ.k6 ct ts xs=J->ts.length=xs.length/\(∀t∈ts,t∉ct.ae)/\∀(j i:Nat) y,ts[j]?=Z i->xs[j]?=Z y->ct.N[i]?=Z y/\ζ.gJ ct.sc y=J
 |[],[],_=>⟨rfl,by simp,λj i y e=>by simp at e⟩
 |[],_::_,h=>by unfold ζ.k6 at h;cases h
 |_::_,[],h=>by unfold ζ.k6 at h;cases h
 |t::ts,x::xs,h=>by
  unfold ζ.k6 at h;simp only[PB,P8,Qn]at h;obtain⟨⟨⟨⟨a,h2⟩,h3⟩,h4⟩,h5⟩:=h;obtain⟨b,c,d⟩:=wy h5;refine⟨by simp[b],λz hz=>?_,λj i y e1 e2=>?_⟩
  .rcases PF.mp hz with rfl|hz
   .intro w;rw[QO.mpr w]at h4;cases h4
   .exact c z hz
  .cases j with
   |zero=>simp at e1 e2;subst e1 e2;exact⟨a,h2⟩
   |succ j=>exact d j i y ⇑e1 ⇑e2
variable(xp k g pg Φ) in
structure dR (n:Nat):Prop where
 s:∀(s:ζ.S)(st:Wl)(ct:ζ.bI)(X:aq),sizeOf s<n->bN xp k g pg Φ X ct->gw xp g pg X ct->ζ.sl g ct s st=J->bJ X st (bS xp X ct.ae λaa=>ζ.ex pg Φ aa s)
 b:∀(b:ζ.B)(st:List Wl)(ct:ζ.bI)(X:aq),sizeOf b<n->bN xp k g pg Φ X ct->gw xp g pg X ct->ζ.hM g ct b st=J->dh X st (bS xp X ct.ae λaa=>ζ.c3 pg Φ aa b)
variable{n:Nat}
def Cn(a:bN xp k g pg Φ X ct)(c:gw xp g pg X ct){st:Wl}(h:ζ.k4 ct i st=J):bJ X st (bS xp X ct.ae λaa=>ζ.ex pg Φ aa (.jd i)):=by
 unfold ζ.k4 at h;rcases e1:ζ.fJ st with _|⟨_|⟨t,_|⟨_,_⟩⟩,y⟩<;>rw[e1]at h<;>first|(cases h;done)|dsimp only at h
 .obtain⟨pos,rfl⟩:=kG e1
  split at h
  .rename_i x e2;obtain⟨p1,rfl⟩:=dQ e2;simp only[PB,P8]at h;obtain⟨⟨⟨⟨d,h2⟩,h3⟩,h4⟩,h5⟩:=h;obtain⟨e,rfl⟩:=tu h5;exact Ll (QO.mp h4) (by rw[a.nm];exact a.di) (by rw[a.nm];exact d) (c.loc x h2) (.inl (c.fn x))
  .cases h
def Co(a:bN xp k g pg Φ X ct)(c:gw xp g pg X ct){st:Wl}(h:ζ.k4 ct i st=J):bJ X st (bS xp X ct.ae λaa=>ζ.ex pg Φ aa (.j8 i)):=by
 unfold ζ.k4 at h;rcases e1:ζ.fJ st with _|⟨_|⟨t,_|⟨_,_⟩⟩,y⟩<;>rw[e1]at h<;>first|(cases h;done)|dsimp only at h
 .obtain⟨pos,rfl⟩:=kG e1
  split at h
  .rename_i x e2;obtain⟨p1,rfl⟩:=dQ e2;simp only[PB,P8]at h;obtain⟨⟨⟨⟨d,h2⟩,h3⟩,h4⟩,h5⟩:=h;obtain⟨e,rfl⟩:=tu h5;exact Lm (QO.mp h4) (by rw[a.nm];exact a.di) (by rw[a.nm];exact d) (c.loc x h2) (.inl (c.fn x))
  .cases h
def Cp(a:bN xp k g pg Φ X ct){st:Wl}(h:ζ.sg g ct i j e st=J):bJ X st (bS xp X ct.ae λaa=>ζ.ex pg Φ aa (.ha i j e)):=by
 unfold ζ.sg at h;rcases e1:ζ.fJ st with _|⟨_|⟨t,_|⟨_,_⟩⟩,v⟩<;>rw[e1]at h<;>first|(cases h;done)|dsimp only at h
 .obtain⟨pos,rfl⟩:=kG e1
  split at h
  .rename_i x y e2;obtain⟨p1,p2,p3,rfl⟩:=ve e2;simp only[PB]at h;obtain⟨⟨⟨p,h2⟩,h3⟩,h4⟩:=h;obtain⟨a1,a2,a3,a4⟩:=nI p;obtain⟨b1,b2,c,d⟩:=lW h2;obtain⟨f,l,_⟩:=d0 a3;obtain⟨m,o,_⟩:=d0 c;exact Lo a.units a4 d (by rw[a.nm];exact a1) (a.e8 a2) f l (by rw[a.nm];exact b1) (a.e8 b2) m o (iM a h4).val (qv (de h4) h3)
  .cases h
def Ox(h:ζ.u5 b=Z (i,e,CI)):b=.cons (.asg i e) CI:=by
 unfold ζ.u5 at h
 split at h
 .cases h;rfl
 .cases h
def OC(h:ζ.BD b=Z (c,a)):b=.cons (.iff c a .nil) .nil:=by
 rcases b with _|⟨s,b⟩
 .cases h
 cases s with
 |iff f e d =>
  rcases d with _|⟨_,_⟩<;>rcases b with _|⟨_,_⟩<;>first|(cases h;done)|skip
  cases h;rfl
 |_=>cases h
def Cg(a:bN xp k g pg Φ X ct)(f:gw xp g pg X ct){st:Wl}(h:ζ.sa g ct i e st=J):bJ X st (gS xp X ct.ae λaa=>ζ.ev pg Φ aa e>>=λd=>.ok (.aR (aa.set i (Z d)))):=by
 unfold ζ.sa at h;rcases e1:ζ.fJ st with _|⟨_|⟨t,_|⟨_,_⟩⟩,y⟩<;>rw[e1]at h<;>first|(cases h;done)|dsimp only at h
 .obtain⟨pos,rfl⟩:=kG e1
  split at h
  .rename_i x e2;obtain⟨p,rfl⟩:=dQ e2;simp only[PB,P8,Qn]at h;obtain⟨⟨⟨⟨j,h2⟩,h4⟩,h5⟩,c⟩:=h;exact JA (λz=>by rw[QO.mpr z]at h4;cases h4) (by rw[a.nm];exact a.di) (by rw[a.nm];exact j) (f.loc x h2) (iM a c).val (qv (de c) h5) (.inl (f.fn x))
  .cases h
theorem rm(c:bN xp k g pg Φ X ct)(a:gw xp g pg X ct):∀(d:List Wl)(b:ζ.B),ζ.mU g ct d b=J->dh X d (gS xp X ct.ae λaa=>ζ.c3 pg Φ aa b)
 |[],b,h=>by
  cases b with
  |nil=>exact t5
  |cons _ _=>cases h
 |z::j,b,h=>by
  unfold ζ.mU at h
  split at h
  .rename_i i e f e1;obtain rfl:=Ox e1;rw[PB]at h;exact zr (Cg c a h.1) (rm c a j f h.2)
  .cases h
def Cq(d:bN xp k g pg Φ X ct)(f:gw xp g pg X ct)(h:ζ.sh g ct b e=J):dh X e (gS xp X ct.ae λaa=>ζ.c3 pg Φ aa b):=by
 unfold ζ.sh at h;rw[Rk]at h;rcases h with h|h
 .exact rm d f e b h
 split at h
 .rename_i c a z e1 e2;obtain rfl:=OC e1;have i:e=[z]:=by
   unfold ζ.v1 at e2
   split at e2
   .cases e2;rfl
   .cases e2
  subst i;rcases e3:ζ.n7 z with _|⟨t,x,_|⟨_,_⟩⟩<;>rw[e3]at h<;>first|(cases h;done)|dsimp only at h
  .obtain⟨pos,rfl⟩:=A9 e3;rw[PB]at h;exact zr (JB (iM d h.1).pt (rm d f x a h.2) t5) t5
 .cases h
def OB(h:ζ.vc z=Z (x,y,e)):∃p1 p2 c p3 eB,z=.Call (.Attribute (.Name x p1) "get" e) [.Name y p2,.Constant (.int 0) c p3] [] eB:=by
 unfold ζ.vc at h;rcases e1:ζ.og z with _|⟨f,_|⟨k,_|⟨o,_|⟨_,_⟩⟩⟩,_|⟨_,_⟩⟩<;>rw[e1]at h<;>first|(cases h;done)|dsimp only at h
 .obtain⟨eB,rfl⟩:=u9 e1
  split at h
  .rename_i d n l e2;obtain rfl:=Bz e2;rcases e3:ζ.df d with _|m<;>rcases e4:ζ.df k with _|p<;>rcases e5:ζ.mq o with _|i<;>rw[e3,e4,e5]at h<;>first|(cases h;done)|skip
   cases i with
   |int j =>
    dsimp only at h
    split at h
    .rename_i a;cases h;simp only[PB]at a;obtain⟨p1,rfl⟩:=dQ e3;obtain⟨p2,rfl⟩:=dQ e4;obtain⟨c,p3,rfl⟩:=qI e5;obtain rfl:=c9 a.1;obtain rfl:j=0:=⇑a.2;exact⟨p1,p2,c,p3,eB,rfl⟩
    .cases h
   |_=>cases h
  .cases h
def Cm(a:bN xp k g pg Φ X ct){st:Wl}(h:ζ.sf ct i j st=J):bJ X st (bS xp X ct.ae λaa=>ζ.ex pg Φ aa (.iv i j)):=by
 unfold ζ.sf at h;rcases e1:ζ.fJ st with _|⟨_|⟨t,_|⟨_,_⟩⟩,v⟩<;>rw[e1]at h<;>first|(cases h;done)|dsimp only at h
 .obtain⟨pos,rfl⟩:=kG e1
  split at h
  .rename_i x y e2;obtain⟨p1,p2,p3,rfl⟩:=ve e2
   split at h
   .rename_i c z e3;obtain⟨H,rfl⟩:=u7 e3
    split at h
    .rename_i I L e n e4 e5;simp only[PB,P8]at h;obtain⟨⟨⟨⟨⟨u,h2⟩,h3⟩,h4⟩,h5⟩,d⟩:=h;subst u;subst h2;subst h3;obtain⟨A,C,c0,E,m,rfl⟩:=OB e4;obtain⟨w,G,rfl⟩:=qI e5;obtain⟨a1,a2,a3,a4⟩:=nI h4;obtain⟨b1,b2,f,l⟩:=lW h5;obtain⟨o,p,_⟩:=d0 a3;obtain⟨q,r,_⟩:=d0 f;have d:e.endLine=m.line:=d;exact Lj a.units a4 l (by rw[a.nm];exact a1) (a.e8 a2) o p (by rw[a.nm];exact b1) (a.e8 b2) q r ⇑d
    .cases h
   .cases h
  .cases h
def ML(E:dR xp k g pg Φ n)(s)(st)(ct)(X)(z:sizeOf s<n+1)(d:bN xp k g pg Φ X ct)(f:gw xp g pg X ct)(h:ζ.sl g ct s st=J):bJ X st (bS xp X ct.ae λaa=>ζ.ex pg Φ aa s):=by
 cases s with
 |asg i e=>exact Cj d f.loc f.fn h
 |app i e =>
  obtain⟨x,n,N,y,p1,R,p4,rfl,o,h2,h3,h4,h5,v,q⟩:=vR (nm:="append") h;obtain⟨l,m,T⟩:=d0 h4;exact K8 h5 v (by rw[d.nm];exact h2) (d.e8 h3) l m o (iM d q).val (eM (de q))
 |ret e =>
  conv at h=>lhs;whnf
  rcases e1:ζ.h9 st with _|_|y<;>rw[e1]at h<;>first|(cases h;done)|dsimp only at h
  .obtain⟨pos,rfl⟩:=qz e1;exact LM (iM d h).val
 |mb i =>
  conv at h=>lhs;whnf
  rcases e1:ζ.h9 st with _|_|y<;>rw[e1]at h<;>first|(cases h;done)|dsimp only at h
  .obtain⟨pos,rfl⟩:=qz e1
   split at h
   .rename_i x e2;obtain⟨p1,rfl⟩:=dQ e2;obtain⟨a1,a2,a3,a4⟩:=nI h;obtain⟨l,m,_⟩:=d0 a3;exact LO a4 (by rw[d.nm];exact a1) (d.e8 a2) l m
   .cases h
 |ma i =>
  conv at h=>lhs;whnf
  rcases e1:ζ.h9 st with _|_|y<;>rw[e1]at h<;>first|(cases h;done)|dsimp only at h
  .obtain⟨pos,rfl⟩:=qz e1
   split at h
   .rename_i x e2;obtain⟨p1,rfl⟩:=dQ e2;obtain⟨a1,a2,a3,a4⟩:=nI h;obtain⟨l,m,_⟩:=d0 a3;exact LN a4 (by rw[d.nm];exact a1) (d.e8 a2) l m
   .cases h
 |jd i=>exact Cn d f h
 |j8 i=>exact Co d f h
 |ha i j e=>exact Cp d h
 |stop=>exact LW
 |iv i j=>exact Cm d h
 |raise c=>exact Cv d f h
 |expr e=>exact vQ d h
 |kK b1 aA az=>exact Cx d f h
 |ext i e =>
  obtain⟨x,n,N,y,p1,R,p4,rfl,o,h2,h3,h4,h5,v,q⟩:=vR (nm:="extend") h;obtain⟨l,m,T⟩:=d0 h4;exact Lr h5 v (by rw[d.nm];exact h2) (d.e8 h3) l m o (iM d q).val (eM (de q))
 |iff c a b =>
  conv at h=>lhs;whnf
  split at h
  .rename_i t x y e1;obtain⟨pos,rfl⟩:=A9 e1;simp only[PB]at h;have au:=E.b a x ct X ↥z d f h.1.2;have G:=E.b b y ct X ↥z d f h.2;exact Ly (iM d h.1.1).pt au G
  .cases h
 |dW j ts s b =>
  conv at h=>lhs;whnf
  rcases e1:ζ.n6 st with _|⟨t,M,x,_|⟨_,_⟩⟩<;>rw[e1]at h<;>first|(cases h;done)|dsimp only at h
  .obtain⟨pos,rfl⟩:=M3 e1
   split at h
   .rename_i xs w;simp only[PB]at h;obtain⟨⟨⟨h0,o⟩,_⟩,u⟩:=h;obtain⟨O,H,Q⟩:=wy o;have U:X.N.Nodup:=(by rw[d.nm];exact d.di);have L:ζ.jy s=J->∃r j p,t=.Tuple r j p:=λa5=>by
     rw[a5]at h0;have a0:j=2:=⇑h0;subst a0;cases t with
     |Tuple r j p=>exact⟨r,j,p,rfl⟩
     |_=>simp only[ζ.dv]at w;cases w
    have I:=zG d.calm U w O λj i y e1 e2=>by
     obtain⟨av,ay⟩:=Q j i y e1 e2;exact⟨by rw[d.nm];exact av,f.loc y ay,.inl (f.fn y)⟩
    rw[Rk]at u;simp only[PB]at u;rcases u with⟨h3,h4⟩|⟨h3,h4⟩
    .obtain⟨A,C⟩:=(i6 (xp:=xp) (k:=k) (g:=g) (pg:=pg) (Φ:=Φ) (sizeOf s+1)).i s M ct VC X t (Rg _) d h3 L;have G:=E.b b x ct X ↥z d f h4;exact Ls f.pass d.calm H A I G (set_plain C)
    .obtain⟨A,C⟩:=(i6 (xp:=xp) (k:=k) (g:=g) (pg:=pg) (Φ:=Φ) (sizeOf s+1)).i s M ct J X t (Rg _) d h3 L;exact Lu f.pass d.calm H A I (Cq d f h4) (set_plain C)
   .cases h
def MI(e:dR xp k g pg Φ n)(b)(st)(ct)(X)(d:sizeOf b<n+1)(c:bN xp k g pg Φ X ct)(a:gw xp g pg X ct)(h:ζ.hM g ct b st=J):dh X st (bS xp X ct.ae λaa=>ζ.c3 pg Φ aa b):=by
 unfold ζ.hM at h
 split at h
 .exact LU
 .rename_i s b x xs;simp only[PB]at h;have f:=e.s s x ct X ↥d c a h.1;have i:=e.b b xs ct X ↥d c a h.2;exact LR f i
 .cases h
theorem rg:∀n,dR xp k g pg Φ n
 |0=>⟨λ_ _ _ _ h=>⋯,λ_ _ _ _ h=>⋯⟩
 |n+1=>⟨ML (rg n),MI (rg n)⟩
def Jj{st:List Wl}(c:bN xp k g pg Φ X ct)(a:gw xp g pg X ct)(h:ζ.hM g ct b st=J):dh X st (bS xp X ct.ae λaa=>ζ.c3 pg Φ aa b):=(rg (sizeOf b+1)).b b st ct X (Rg _) c a h
end
set_option tactic.hygienic false
end aF
end
section
namespace aF
open PySem PySem.Spec PyProof.Rows aH
def A2{ds:List D}{i:Nat}{d:D}(h:(ζ.start fd ds)[i]?=Z (Z d)):ds[i]?=Z d/\i<ds.length:=by
 unfold ζ.start at h
 by_cases hi:i<ds.length
 .rw[P1 ⇑hi,PX]at h;refine⟨?_,hi⟩;cases e:ds[i]? with
  |none=>rw[e]at h;cases h
  |some a=>rw[e]at h;cases h;rfl
 .rw[Qq ⇑hi,Sm]at h
  split at h<;>cases h
def MG{i:Nat}(h:a[i]?=Z v):(aH.start N a)[i]?=Z (Z v):=by
 have hi:=(P5.mp h).1;unfold aH.start;rw[P1 ⇑hi,PX,h];rfl
def Mt{K:W.Frag}(f:aE G H)(m:∀b xs,H b=Z (.tup xs)->G b=Z (.tup xs))(r:aK K G ds n)(p:N.length=fd.np+fd.nl)(o:ds.length=fd.np)(l:∀i∈g,fd.np<=i):
  b7 K g G H G H (ζ.start fd ds) (aH.start N n):=by
 have c:∀{i:Nat}{d:D},(ζ.start fd ds)[i]?=Z (Z d)->i∈g->False:=λh q=>by
  have:=(A2 h).2;have:=l _ q;lia
 refine⟨⟨?_,f,λi d h _=>?_,λi d h q=>(c h q).elim,λi d h q=>(c h q).elim,m,λi j d e a b h _ _ _ q=>(c h q).elim⟩,Ext.refl f,λi d a h _ q=>(c h q).elim⟩
 .unfold ζ.start aH.start;rw[PI,PI,VD,VD,SG,SG,<- r.length];lia
 .obtain⟨v,k,h2⟩:=r.get (A2 h).1;exact⟨v,MG k,h2⟩
def ou(K:W.Frag)(c:VT->Option VE)(g:ζ.Gt)(fds:List ζ.i0)(f:Nat)(x:VT):Prop :=
 ∃fd N st a b,fds[f]?=Z fd/\ζ.i9 g N fd st=J/\c x=Z (.ref a)/\aH.mx K x x st a b/\Binds K b ((fg st).args.map (·.arg)) []
section
variable{P:Wa}{w:Wm}{K:W.Frag}{ak:VT->Option VE}{base:V9}{xp:bQ}{g:ζ.Gt}{pg:ζ.cT}{fds:List ζ.i0}
set_option tactic.hygienic true in
theorem wu {st:Wl} (h:ζ.i9 g N fd st=J):((fg st).args.map (·.arg)).length=fd.np/\qU N ((fg st).args.map (·.arg)) (fi st)/\N.length=fd.np+fd.nl/\(∀i∈ζ.h1 fd.body,fd.np<=i/\i<N.length) /\
  ζ.hM g ⟨N,fi st,ζ.h1 fd.body⟩ fd.body (iu st)=true:=by
 unfold ζ.i9 at h
 split at h
 .rename_i name args body d bind pos;simp only[PB,P8,Qn,Qd,bne_iff_ne,ne_eq,PM]at h;obtain⟨⟨⟨⟨⟨⟨⟨⟨⟨⟨⟨⟨⟨⟨⟨e,h2⟩,h3⟩,h4⟩,h5⟩,b⟩,_⟩,_⟩,_⟩,_⟩,_⟩,_⟩,j⟩,k⟩,l⟩,f⟩:=h;have c:(args.args.map (·.arg)).length=fd.np:=(by rw[b,Qt];lia);refine⟨c,⟨e,h2,h3,h4,?_,λx a=>?_,k⟩,h5,l,f⟩
  .show N.take (args.args.map (·.arg)).length=args.args.map (·.arg);rw[c,b]
  .have a:x∈args.args.map (·.arg):=a;rw[b]at a;have:=j x a;unfold ζ.gJ at this;have this:d.names.lookup x=Z .local\/d.names.lookup x=Z .cell:=⇑this;exact this
 .cases h
def xG(q:iW xp g pg K ak base)(T:d1 P w K ak base xp n g pg (ζ.run pg fds n)){st:Wl}(e:fds[f]?=Z fd)(U:ζ.i9 g N fd st=J)(F:aH.mx K x x st j a0):
  hF P w K ak base (gY P w xp) (n+1) j a0 ((fg st).args.map (·.arg)) (kC K (ζ.run pg fds (n+1) f) ((fg st).args.map (·.arg)).length):=by
 obtain⟨az,S,a5,u,a3⟩:=wu U;have b1:∀ds,ζ.run pg fds (n+1) f ds=ζ.bq pg (ζ.run pg fds n) fd ds:=λds=>by rw[ζ.nZ,e]
 obtain⟨cz,cA,bO,b9,cO,da,o,ct,cN,rfl,lk,av⟩:=F.ex;refine FX lk av S (λcy H Q E h=>h.1) λA outer s H cy Q E y ⟨a8,G,ds,b2,c0,r,hw⟩=>?_
 have t:ds.length=fd.np:=by rw[r.length,a8,az]
 rw[b1]at hw;unfold ζ.bq at hw;rw[if_pos t]at hw;refine⟨bS xp (jb (gY P w xp) P w K ak base N x (fi st) j o A outer s H E) (ζ.h1 fd.body) λO=>ζ.c3 pg (ζ.run pg fds n) O fd.body,?_,?_⟩
 .refine Jj (ct:=⟨N,fi st,ζ.h1 fd.body⟩) (k:=n) (g:=g) (Φ:=ζ.run pg fds n) ⟨T,y,y.units,rfl,rfl,S.di,λi hi=>(u i hi).2,λx h=>h,λx h=>h,λx h=>h⟩ ⟨q,⟨rfl,rfl⟩,λx h=>?_,λ_=>rfl,PassesOwn.leaving⟩ a3;unfold ζ.gJ at h;have h:(fi st).names.lookup x=Z .local\/(fi st).names.lookup x=Z .cell:=⇑h;exact h
 .refine⟨G,H,G,ζ.start fd ds,Mt b2 c0 r a5 t λi hi=>(u i hi).1,?_⟩;show aZ (ζ.c3 pg (ζ.run pg fds n) (ζ.start fd ds) fd.body) _ _;generalize ζ.c3 pg (ζ.run pg fds n) (ζ.start fd ds) fd.body=bp at hw ⊢;have hR:∀c:Nat,(∀b,aE H b->E (.int c 0) Y b)->dy xp (jb (gY P w xp) P w K ak base N x (fi st) j o A outer s H E) c H:=λc a4 L R b s' e l I M C a9=>by
   obtain⟨X,_,rfl,_⟩:=q.ex;refine cM.leave (base:=base) (outer:=outer) I.ok.frames I.stack rfl a9 λa2 l1 bg aA ay bc=>?_
   have p:Inv _ L R b { s' with heap:=a2 }:=tX (t':=s'.toks) I C ay bc;refine⟨c,b,l1,I.os,I.bare,p.base,p.aG,M,λa au=>?_,bg,a4 b M⟩;have B:fe (jb (gY P w (cM.d9 X)) P w K ak base N x (fi st) j o A outer s H E) L b a:=(aA a au).elim (C a) λz=>.of I z (t2 I.aG z)
   exact⟨B.2.1.elim (λz=>nomatch z) id,B.1⟩
  cases bp with
  |bad=>exact hw.elim
  |exc c=>exact hR c hw
  |ok a1 =>
   cases a1 with
   |aR O=>exact λR m b bz=>hw .aW m b bz.ext rfl
   |bH d=>exact λv m b ext bf=>hw v m b ext bf
def NZ(h:iW xp g pg K ak base)(T:d1 P w K ak base xp n g pg (ζ.run pg fds n))(i:∀f x,g.fns[f]?=Z x->ou K ak g fds f x):d1 P w K ak base xp (n+1) g pg (ζ.run pg fds (n+1)):=by
 refine⟨λf x m=>?_,T.blt,T.ni⟩;obtain⟨fd,N,st,b,c,e,a,l,F,d⟩:=i f x m;obtain⟨k,_⟩:=wu a;exact⟨b,c,_,l,F.pH,d,xG h T e a F,λds j=>by rw[ζ.nZ,e];unfold ζ.bq;exact if_neg (by rw[<- k];exact j)⟩
theorem Bn(c:iW xp g pg K ak base)(b:∀f x,g.fns[f]?=Z x->ou K ak g fds f x)(a:∀x:VT,x∈kQ->ak x=Y)(i:∀(j:Nat)(x:VT)(d:D),g.ni[j]?=Z x->pg.cs[j]?=Z d->∃v u,ak x=Z u/\RelV v u/\∀G,Rep K G d v):
  ∀n,d1 P w K ak base xp n g pg (ζ.run pg fds n)
 |0=>⟨λf x o=>by
   obtain⟨fd,N,st,k,l,e,q,m,F,a⟩:=b f x o;exact⟨k,l,_,m,F.pH,a,⟨λp H Q E h=>h.1,λA outer s H args r p Q E _ _ _ _ ⟨_,_,_,_,_,_,h⟩=>h.elim⟩,λ_ _=>rfl⟩,a,i⟩
 |n+1=>NZ c (Bn c b a i n) b
end
abbrev kP(Q:Nat->VT->Prop):Nat->List VT->Prop
 |_,[]=>True
 |n,x::xs=>Q n x/\kP Q (n+1) xs
theorem kP.get:∀{xs:List VT}{n f:Nat}{x:VT},kP Q n xs->xs[f]?=Z x->Q (n+f) x
 |[],_,_,_,_,h=>by simp at h
 |y::xs,n,0,x,q,h=>by simp at h;subst h;exact q.1
 |y::xs,n,f+1,x,q,h=>by
  have:=kP.get (n:=n+1) (f:=f) q.2 ⇑h;rwa[RX,RD]at this
def Fh{b:List VE}(h:b.length=1):∃a,b=[a]:=List.length_eq_one_iff.mp h
def Fi{d:List VE}(h:d.length=2):∃a b,d=[a,b]:=by
 rcases d with _|⟨a,_|⟨b,_|⟨c,r⟩⟩⟩<;>first|exact⟨_,_,rfl⟩|(simp at h)
def Fj{e:List VE}(h:e.length=3):∃a b c,e=[a,b,c]:=by
 rcases e with _|⟨a,_|⟨b,_|⟨c,_|⟨d,r⟩⟩⟩⟩<;>first|exact⟨_,_,_,rfl⟩|(simp at h)
abbrev AllB(K:W.Frag):List VT->Prop
 |[]=>True
 |x::xs=>W.nsIn K V1 x=Z Y/\AllB K xs
theorem AllB.get{K:W.Frag}(X:K.In h)(G:h.Ns V1 b):∀{xs:List VT},AllB K xs->∀x∈xs,b x=Y
 |[],_,x,a=>by simp at a
 |y::ys,q,x,a=>by
  rcases PF.mp a with rfl|a
  .exact Vx X G q.1
  .exact AllB.get X G q.2 x a
def ov(K:W.Frag)(x:VT)(st:Wl):Prop :=
 ∃(f:VO)(d:VE)(e:Option VO)(bO c h:VE)(b:Option VO)(a ct:VE)(g:Array (Option VE)),W.nsIn K V1 x=Z (Z (.ref f)) /\
  K.lookup f=Z ⟨d,e,.func (W.fnOf x x (fg st) (iu st) (fi st) .none bO c h b a ct),g⟩/\W.codeIn K a x=J/\W.keepIn K (.ref f)=J
def Ek{K:W.Frag}{st:Wl}{bO d e:VE}(a:W.nsIn K V1 x=Z (Z (.ref f)))(l:K.lookup f=Z ⟨h,i,.func (W.fnOf x x (fg st) (iu st) (fi st) .none bO d e g b ct),j⟩)(c:W.codeIn K b x=J)(k:W.keepIn K (.ref f)=J):ov K x st:=⟨f,h,i,bO,d,e,g,b,ct,j,a,l,c,k⟩
def b0{K:W.Frag}{st:Wl}(X:K.In h)(G:h.Ns V1 r)(d:ov K x st)(q:fds[j]?=Z fd)(o:ζ.i9 g N fd st=J)(p:∀(bO m n:VE)(e:Option VO)(i ct:VE)(b:List VE),b.length=((fg st).args.map (·.arg)).length->bindArgs (W.fnOf x x (fg st) (iu st) (fi st) .none bO m n e i ct) ⟨b,[]⟩=pure (((fg st).args.map (·.arg)).zip b)):ou K r g fds j x:=by
 obtain⟨f,s,t,bO,m,n,e,i,ct,u,a,l,c,k⟩:=d;have F:=xM l c k;exact⟨fd,N,st,f,_,q,o,Vr X G a,F,F.binds p⟩
theorem Ad{K:W.Frag}:∀ns:List Int,aK K G (ns.map ζ.D.int) (ns.map V.int)
 |[]=>rfl
 |n::ns=>⟨.int n,ns.map V.int,rfl,rfl,Ad ns⟩
def MB{K:W.Frag}{ns:List Int}(b:b8 K H a (ns.map V.int))(c:d [.lst (ns.map .int)]=.ok (.ag J)):kC K d 1 [.ref a] H (λv _=>v=.ag J) λ_ _ _=>False:=by
 refine⟨rfl,H,[.lst (ns.map .int)],aE.refl H,λ_ _ z=>z,⟨.ref a,[],rfl,⟨a,_,rfl,b,Ad ns⟩,rfl⟩,?_⟩;rw[c];exact λv e f _ r=>r
def D6:gY P w xp outer H s (λ_ _ _=>False) e s'->False:=by rintro⟨_,_,_,_,_,_,_,_,_,_,h⟩;exact h
abbrev hN(K:W.Frag)(g:ζ.Gt)(c:Nat):Option Addr:=match g.cls[c]? with
 |some x=>(match W.nsIn K V1 x with|some (Z (.ref C))=>Z C|_=>Y)
 |none=>Y
def DD{K:W.Frag}(h:g.cls[c]?=Z x)(e:W.nsIn K V1 x=Z (Z (.ref C))):hN K g c=Z C:=by
 unfold hN;rw[h];dsimp only;rw[e]
def i2(o:WW)(C N:VO)(bm:List VE)(a:String):Prop:=∃(nm q:VT)(bs:List VE)(hdct:Bool)(sn:List VT)(sub:List VE)(ab:Bool)(col:Option Bool)(dd:Option VO)(k0 k1 k2 k3 k5:Option VE),o=Wd nm q C N bs bm hdct sn sub ab col dd k0 k1 k2 k3 k5 a
def jL(K:W.Frag)(x:VT)(C:VO)(bm:List VE):Prop:=∃o N i,W.nsIn K V1 x=Z (Z (.ref C))/\K.lookup C=Z o/\i2 o C N bm i/\bm.contains (.type "BaseException")=J
def qS(K:W.Frag)(x:VT)(C:VO)(bm:List VE):Prop:=∃o N,W.nsIn K V1 x=Z (Z (.ref C))/\K.lookup C=Z o/\i2 o C N bm "ValueError.__new__"/\PySem.W.nsOkIn K N=J/\W.nsIn K N "__init__"=Z Y/\PySem.W.tailIn K oN bm=J/\cM.Plain K C bm
def ot(K:W.Frag)(k l m n o p:VT):Prop:=∃b a c d e f g b1 b2 h i j,(jL K k b g/\qS K l a b1/\jL K m c b2/\jL K n d h/\jL K o e i/\jL K p f j) /\
 (VQ a::b1).contains (.ref b)=J/\(VQ a::b1).contains (.ref c)=VC/\(VQ a::b1).contains (.ref d)=VC/\(VQ a::b1).contains (.ref e)=VC/\(VQ a::b1).contains (.ref f)=VC
def DB{K:W.Frag}(a0:W.nsIn K V1 u=Z (Z (.ref b)))(l0:K.lookup b=Z m)(e0:i2 m b z h G)(h0:h.contains (.type "BaseException")=J)(a1:W.nsIn K V1 v=Z (Z (.ref a)))(l1:K.lookup a=Z o)(e1:i2 o a g b1 "ValueError.__new__")(a2:W.nsIn K V1 w=Z (Z (.ref c)))(l2:K.lookup c=Z p)(e2:i2 p c A b2 H)(h2:b2.contains (.type "BaseException")=J)(a3:W.nsIn K V1 x=Z (Z (.ref d)))(l3:K.lookup d=Z q)(e3:i2 q d B j I)(h3:j.contains (.type "BaseException")=J)(a4:W.nsIn K V1 y=Z (Z (.ref e)))(l4:K.lookup e=Z r)(e4:i2 r e C k L)(h4:k.contains (.type "BaseException")=J)(a5:W.nsIn K V1 O5=Z (Z (.ref f)))(l5:K.lookup f=Z s)(e5:i2 s f E l M)(h5:l.contains (.type "BaseException")=J)(n:PySem.W.nsOkIn K g=J)(i:W.nsIn K g "__init__"=Z Y)(t:PySem.W.tailIn K oN b1=J)(p1:PySem.W.findIn K (.ref a) "__class__"=Z (Z (.builtin "object.__class__")))(p2:PySem.W.findIn K (.ref a) "__getattribute__"=Z (Z (.builtin "BaseException.__getattribute__")))(p3:PySem.W.findIn K (.ref a) "__getattr__"=Z Y)(p4:b1.contains (.type "object")=J)(p5:b1.contains (.type "BaseException")=J)(m0:(VQ a::b1).contains (.ref b)=J)(m2:(VQ a::b1).contains (.ref c)=VC)(m3:(VQ a::b1).contains (.ref d)=VC)(m4:(VQ a::b1).contains (.ref e)=VC)(m5:(VQ a::b1).contains (.ref f)=VC):ot K u v w x y O5 :=
 ⟨b,a,c,d,e,f,h,b1,b2,j,k,l,⟨⟨_,_,_,a0,l0,e0,h0⟩,⟨_,_,a1,l1,e1,n,i,t,⟨p1,p2,p3,p4,p5⟩⟩,⟨_,_,_,a2,l2,e2,h2⟩,⟨_,_,_,a3,l3,e3,h3⟩,⟨_,_,_,a4,l4,e4,h4⟩,⟨_,_,_,a5,l5,e5,h5⟩⟩,m0,m2,m3,m4,m5⟩
section
variable{K:W.Frag}{h:V9}{ak:VT->Option VE}{g:ζ.Gt}{pg:ζ.cT}{c:Nat}{x:VT}{C:VO}{bm:List VE}
def lU(X:K.In h)(G:h.Ns V1 ak)(d:g.cls[c]?=Z x)(q:jL K x C bm):kS ak h (hN K g) c x C:=by
 obtain⟨o,N,i,a,l,⟨nm,q,bs,hdct,sn,sub,ab,col,dd,k0,k1,k2,k3,k5,rfl⟩,b⟩:=q;exact⟨DD d a,Vr X G a,_,_,_,_,_,_,_,_,_,_,_,_,_,_,_,_,_,X _ _ l,b⟩
def qS.s(q:qS K x C bm):jL K x C bm:=by
 obtain⟨o,N,a,l,e,n,i,t,P⟩:=q;exact⟨o,N,_,a,l,e,P.xZ⟩
def DG(X:K.In h)(G:h.Ns V1 ak)(b:g.cls=[L,M,O,Q,R,S])(y:W.nsIn K V1 "ValueError"=Z Y)(q:ot K L M O Q R S)(d:pg.up 1=[1,0,1000]):iW (cM.d9 (hN K g)) g pg K ak h:=by
 obtain⟨T,v,U,a0,a1,a2,a3,b1,b2,a4,a5,au,⟨A,u,B,E,H,I⟩,m0,m2,m3,m4,m5⟩:=q;have j:=lU (c:=0) X G (by rw[b];rfl) A;have f:=lU (c:=1) X G (by rw[b];rfl) u.s;have m:=lU (c:=2) X G (by rw[b];rfl) B;have p:=lU (c:=3) X G (by rw[b];rfl) E;have r:=lU (c:=4) X G (by rw[b];rfl) H;have s:=lU (c:=5) X G (by rw[b];rfl) I;refine⟨⟨_,v,rfl,λc z e=>?_,f.at_,by rw[d];rfl,?_⟩,λk w=>?_,Vx X G y⟩
 .rw[b]at e
  match c,e with
  |0,e=>cases e;exact⟨_,j⟩
  |1,e=>cases e;exact⟨_,f⟩
  |2,e=>cases e;exact⟨_,m⟩
  |3,e=>cases e;exact⟨_,p⟩
  |4,e=>cases e;exact⟨_,r⟩
  |5,e=>cases e;exact⟨_,s⟩
  |n+6,e=>cases e
 .obtain⟨o,N,a,l,⟨nm,q,bs,hdct,sn,sub,ab,col,dd,k0,k1,k2,k3,k5,rfl⟩,n,i,t,P⟩:=u;refine⟨_,_,_,_,b1,N,nm,q,bs,hdct,sn,sub,ab,col,dd,k0,k1,k2,k3,k5,_,YP,rfl,X _ _ l,.of_isNs (PySem.W.isNs_of_in X n),PySem.W.nsMap_none_of_in X n i,PySem.W.tail_of_in X t,P,λk D e=>?_⟩;rw[d]
  match k,e with
  |0,e=>cases j.at_.symm.trans e;exact m0
  |1,e=>cases f.at_.symm.trans e;simp
  |2,e=>cases m.at_.symm.trans e;exact m2
  |3,e=>cases p.at_.symm.trans e;exact m3
  |4,e=>cases r.at_.symm.trans e;exact m4
  |5,e=>cases s.at_.symm.trans e;exact m5
  |n+6,e=>unfold hN at e;rw[b]at e;cases e
 .rw[d]
  match k,w with
  |0,_=>rfl
  |1,_=>rfl
end
def HO{l:PySem.W.OpenLaw}{K:W.Frag}{st:Wl}(X:K.In h)(G:h.Ns V1 b)(y:b "law"=Z (.ref r))(dl:ov K "law" st)(v:fds[f]?=Z fd)(q:ζ.i9 g N fd st=J)(z:(fg st).args.map (·.arg)=[x])(t:∀(bO j m:VE)(d:Option VO)(i ct:VE)(s:VI)(u:VE),Ya s (W.fnOf "law" "law" (fg st) (iu st) (fi st) .none bO j m d i ct) ⟨[u],[]⟩ [(x,u)])(T:∀base:V9,K.In base->base.Ns V1 b->iW xp g pg K b base/\d1 l.prog w K b base xp n g pg (ζ.run pg fds n)):
  ∃fd:Xt,(∀(s:VI)(u:VE),Ya s fd ⟨[u],[]⟩ [(x,u)])/\∀base:V9,K.In base->base.Ns V1 b->hF l.prog w K b base (gY l.prog w xp) (n+1) r fd [x] (kC K (ζ.run pg fds (n+1) f) 1):=by
 obtain⟨B,C,E,bO,j,m,d,i,ct,H,a,A,c,k⟩:=dl;have e:=y.symm.trans (Vr X G a);cases e;refine⟨_,t bO j m d i ct,λbase o p=>?_⟩;have F:=xM A c k;have:=xG (T base o p).1 (T base o p).2 (f:=f) v q F;rw[z]at this;exact this
def walk{l:PySem.W.OpenLaw}{bQ:(VT->Option VE)->V9->Prop}{K:Params->W.Frag}(o:l.most=Z 63)(m:d.params.defaults=[])(p:n<=40)(r:∀ns:List Int,ζ.run pg fds n f [.lst (ns.map .int)]=.ok (.ag J))(j:∀(w:Wm)(h:V9),e w h->(K w.params).In h)(F:∀(w:Wm)(b:VT->Option VE)(c:VO)(h:V9),(K w.params).In h->h.Ns V1 b->b d.name=Z (.ref c) ->
   ∃fd:Xt,(∀(s:VI)(u:VE),Ya s fd ⟨[u],[]⟩ [(x,u)])/\∀base:V9,(K w.params).In base->base.Ns V1 b->hF l.prog w (K w.params) b base (gY l.prog w (cM.d9 (hN (K w.params) g))) n c fd [x] (kC (K w.params) (ζ.run pg fds n f) 1)):
  PySem.W.WalkO q v bQ e l.row.toRowW d [] (λf t=>PySem.call f t) :=
 aH.OO (n:=63) (k:=n) (x:=x) (CX:=λw=>gY l.prog w (cM.d9 (hN (K w.params) g))) (sp:=λw=>kC (K w.params) (ζ.run pg fds n f) 1) o ∅ m (ek.mono (⟨rfl,∅,∅⟩:ek 40 Yf) p) j F (λw H a ns _ _ i=>MB i (r ns)) λ_ _ _ _ _ z=>D6 z
end aF
end
section
namespace vz
open ζ ar cL bY ei dp
def bP(h:fds[f]?=Z fd)(n)(ds):run pg fds (n+1) f ds=bq pg (run pg fds n) fd ds:=by rw[nZ,h]
noncomputable abbrev bE(n:Nat):dw:=run pg fds n
def NT(n)(a b)(d:∀c∈a,c≠[])(e:∀c∈b,c≠[])(h:(bF (a++b)).length<=75):bE (n+1) 0 [.tup (a.map af),.lst (b.map af)]=.ok (.tup ((aV a b).map af)):=(bP (f:=0) rfl n _).trans (MP rfl rfl d e h)
def Bm(n)(c)(h:c.length<=1000):bE (n+1) 1 [af c]=.ok (.lst ((bj c).map af)):=(bP (f:=1) rfl n _).trans (Mj c h)
def NP(n){cs U:List (List Int)}(d:∀c∈cs,bG ltI c/\c.length<=1000)(b:∀c∈cs,∀e∈bj c,e∈U)(a:U.length<=75):bE (n+2) 2 [.tup (cs.map af)]=.ok (.tup ((dj cs).map af)):=(bP (f:=2) rfl _ _).trans (KV rfl d b a (NT n) (Bm n))
def NW(n)(c)(h:c.length<=8):bE (n+1) 4 [af c]=.ok (.lst ((c1 c).map af)):=(bP (f:=4) rfl n _).trans (OT c h)
def u2(a:Good N):∀t∈N.2,t.length<=8:=λt b=>by have:=kZ (a.cW.cell t b);have:=a.cW.hi;lia
def Nw(n)(N)(a:Good N):bE (n+2) 5 [aL N.1 N.2]=.ok (.lst ((fP N.2).map af)):=(bP (f:=5) rfl _ _).trans (Fg (NW n) (u2 a) a.len (xm a.cW.hi a.cW.cell))
def Be(n)(N)(a:Good N)(k:Nat):bE (n+3) 6 [aL N.1 N.2,.int ((k:Int)-1)]=.ok (.tup ((cl N.2 k).map af)):=(bP (f:=6) rfl _ _).trans (DR k (Nw n N a))
def Nu(n)(N)(a:Good N)(k:Nat):bE (n+3) 6 [aL N.1 N.2,.int (k:Int)]=.ok (.tup ((cl N.2 (k+1)).map af)):=by
 have:=Be n N a (k+1);rwa[show(((k+1:Nat):Int)-1)=(k:Int) by lia]at this
def Bk(n)(N)(a:Good N)(k:Nat):bE (n+4) 7 [aL N.1 N.2,.int ((k:Int)-1)]=.ok (.aI (mk (cl N.2 k))):=(bP (f:=7) rfl _ _).trans (Im k (Be n N a k) (ja a.cW.hi a.cW.cell k))
def NK(n)(N)(a:Good N)(k:Nat):bE (n+4) 7 [aL N.1 N.2,.int (k:Int)]=.ok (.aI (mk (cl N.2 (k+1)))):=by
 have:=Bk n N a (k+1);rwa[show(((k+1:Nat):Int)-1)=(k:Int) by lia]at this
def Nq(n)(U xs)(a:U.Nodup)(b:xs.Nodup)(h:∀x∈xs,x∈U):bE (n+1) 8 [.lst (xs.map af),.aI (mk U)]=.ok (.int (bh U xs:Int)):=(bP (f:=8) rfl _ _).trans (CW a b h)
def Nr(n)(U xs)(a:U.Nodup)(b:xs.Nodup)(h:∀x∈xs,x∈U):bE (n+1) 8 [.tup (xs.map af),.aI (mk U)]=.ok (.int (bh U xs:Int)):=(bP (f:=8) rfl _ _).trans (CY a b h)
def Nt(n)(U)(b:Nat)(a:U.Nodup):bE (n+1) 9 [.int (b:Int),.aI (mk U)]=.ok (bx U b):=(bP (f:=9) rfl _ _).trans (Dv a b)
def NQ(n)(N)(a:Good N)(k:Nat):bE (n+5) 10 [aL N.1 N.2,.int (k:Int)]=.ok (.lst ((cC (aU N.2 (k+1))).map bo)):=(bP (f:=10) rfl _ _).trans (KX k a.cW.cell a.cW.hi (Bk n N a) (Bm (n+3)) (Nq (n+3)))
def NS(n)(r q):bE (n+1) 11 [bo r,bo q]=.ok (bo (r.1 ^^^ q.1,r.2 ^^^ q.2)):=(bP (f:=11) rfl _ _).trans (MR r q)
def Bl(n)(B)(r)(h:(B.map (·.1)).Nodup):bE (n+2) 12 [bo r,.aO (cb B)]=.ok (bo (red B r)):=(bP (f:=12) rfl _ _).trans (KL (NS n) h r)
def Bj(n k:Nat)(h:0<k):bE (n+1) 13 [.int (k:Int)]=.ok (.int ((2 ^ lo k:Nat):Int)):=(bP (f:=13) rfl _ _).trans (H6 k h)
def Ny(n)(B)(r)(h:cE B)(a:B.length<900):bE (n+3) 14 [.aO (cb B),bo r]=.ok (.aO (cb (grow B r))):=(bP (f:=14) rfl _ _).trans (Gh (Bl n) (Bj (n+1)) h a r)
def Np(n)(rs)(h:rs.length<=255):bE (n+4) 15 [.lst (rs.map bo)]=.ok (.aO (cb (c5 [] rs))):=(bP (f:=15) rfl _ _).trans (CM (Ny n) h)
def Bf(n)(N)(a:Good N)(k)(b):bE (n+4) 16 [aL N.1 N.2,bx (cl N.2 (k+1)) b,.int (k:Int)]=.ok (.ag J):=(bP (f:=16) rfl _ _).trans (GS (Nu n N a k) (xE (en N.2 (k+1)) b))
def kc(a:Good N):∀c∈cl N.2 k,bG ltI c/\c.length<=1000:=λc b=>⟨k7 a.cW.cell b,by
 obtain⟨_,_,t,d,h2⟩:=hZ.mp b;have:=h2.length_le;have:=u2 a t d;lia⟩
def DC(a:Good N)(k):(cl N.2 k).length<=70:=by
 cases k with
 |zero =>
  have:cl N.2 0=[]:=List.eq_nil_iff_forall_not_mem.mpr λc d=>by
   obtain⟨b,h2,_⟩:=hZ.mp d;exact h2 (Tg.mp b)
  rw[this];decide
 |succ k=>rw[<- sq];exact Ds a.cW.hi a.cW.cell
def NA(n)(N)(a:Good N)(k b):bE (n+3) 3 [bx (cl N.2 (k+1)) b]=.ok (.ag (dj (dc (cl N.2 (k+1)) b)).isEmpty) :=
 (bP (f:=3) rfl _ _).trans (GU (NP n (U:=cl N.2 k) (λc d=>kc a c (ip d)) (λc d e g=>iq a.cW.cell (ip d) g) (by have:=DC a k;lia)))
def Bg(n)(N)(a:Good N)(k b):bE (n+5) 17 [aL N.1 N.2,bx (cl N.2 (k+1)) b,.int (k:Int)]=.ok (.ag (dj (dc (cl N.2 (k+1)) b)).isEmpty) :=
 (bP (f:=17) rfl _ _).trans (GV (Bf n N a k b) (NA (n+1) N a k b))
def Bh(n)(N)(a:Good N):q2 (bE (n+5)) N.1 N.2 7 12 15 10 8 9:=⟨a.cW.cell,a.cW.hi,NK (n+1) N a,Nr (n+4),NQ n N a,Np (n+1),Bl (n+3),Nt (n+4)⟩
def emp{xs:List (List Int)}(h:xs=[]):xs.isEmpty=true:=by rw[h];rfl
def I3{xs:List (List Int)}(h:¬xs=[]):xs.isEmpty=false:=by
 cases xs with
 |nil=>exact absurd rfl h
 |cons _ _=>rfl
def Nx(n)(N)(g:Good N)(k b)(h:b<2 ^ (cl N.2 (k+1)).length):(¬sp (aU N.2 (k+2)) b/\bE (n+6) 18 [aL N.1 N.2,bx (cl N.2 (k+1)) b,.int (k:Int)]=.ok .aW) \/
  ∃z,z<2 ^ (cl N.2 (k+2)).length/\bd (aU N.2 (k+2)) z=b/\sp (aU N.2 (k+2)) b/\bE (n+6) 18 [aL N.1 N.2,bx (cl N.2 (k+1)) b,.int (k:Int)]=.ok (bx (cl N.2 (k+2)) z):=by
 rcases FL (pg:=pg) (Bh n N g) h (Bf (n+1) N g k b) with⟨a,e⟩|⟨z,a,c,d,e⟩
 .exact .inl ⟨a,(bP (f:=18) rfl _ _).trans e⟩
 .exact .inr ⟨z,a,c,d,(bP (f:=18) rfl _ _).trans e⟩
def NV(n)(N)(c:Good N)(k b)(d:b<2 ^ (cl N.2 (k+1)).length)(hz:bd (aU N.2 (k+1)) b=0):(sp (aU N.2 (k+2)) b/\bE (n+6) 19 [aL N.1 N.2,bx (cl N.2 (k+1)) b,.int (k:Int)]=.ok .aW) \/
  ∃xs,rb N.2 k b xs/\bE (n+6) 19 [aL N.1 N.2,bx (cl N.2 (k+1)) b,.int (k:Int)]=.ok (bx (cl N.2 (k+1)) (ed xs)):=by
 have r:=Bg n N c k b;rw[emp ((qf c.cW.cell d).mpr hz)]at r;rcases OU (pg:=pg) (c0:=1) (Bh n N c) d r (Bj (n+4)) with⟨a,e⟩|⟨xs,a,e⟩
 .exact .inl ⟨a,(bP (f:=19) rfl _ _).trans e⟩
 .exact .inr ⟨xs,a,(bP (f:=19) rfl _ _).trans e⟩
def NO(n)(N)(a:Good N)(k b)(c:b<2 ^ (cl N.2 (k+1)).length)(hz:¬bd (aU N.2 (k+1)) b=0):bE (n+7) 39 [aL N.1 N.2,bx (cl N.2 (k+1)) b,.int (k:Int)]=.ok (.ag J):=by
 have r:=Bg n N a k b;rw[I3 λw=>hz ((qf a.cW.cell c).mp w)]at r;exact(bP (f:=39) rfl _ _).trans (KN ((bP (f:=19) rfl _ _).trans (OV r)) rfl)
def Nn(n)(a:List Int)(k:Nat):bE (n+1) 20 [.lst (a.map .int),.int (k:Int)]=.ok (.int (a.getD k 0)):=(bP (f:=20) rfl _ _).trans (Dq a k)
def NL(n)(c:List Int)(k:Nat):∃r:Int,0<=r/\r<ib/\bE (n+2) 21 [.lst (c.map .int),.int (k:Int)]=.ok (.int r):=by
 obtain⟨r,a,b,e⟩:=IG (pg:=pg) (Nn n c) k;exact⟨r,a,b,(bP (f:=21) rfl _ _).trans e⟩
def uZ(n)(i k):∃r:Int,0<=r/\r<ib/\bE (n+1) 22 [.int i,.int k]=.ok (.int r):=by
 obtain⟨r,a,b,e⟩:=Et (pg:=pg) (Φ:=bE n) i k;exact⟨r,a,b,(bP (f:=22) rfl _ _).trans e⟩
def NG(n)(c o):bE (n+1) 23 [af c,af o]=.ok (.ag (lies c o)):=(bP (f:=23) rfl n _).trans (HN c o)
def NU(n)(ts)(a:∀c∈ts,c≠[])(h:(bF ts).length<=255):bE (n+2) 24 [.lst (ts.map af)]=.ok (.tup ((km ts).map af)):=(bP (f:=24) rfl _ _).trans (HS (NG n) rfl a h)
def u1(n s:Nat)(c)(b:s<=9)(a:c.length<=8):bE (n+10) 25 [af c,.int (s:Int)]=.ok (.lst ((bu s c).map af)):=zv (fds:=fds) (f:=25) rfl s (n+10) c ⋯ a
def NR(n)(i m)(a:1<=m)(b:m<=8):∃cs:List (List Int),bE (n+2) 26 [.int i,.int m]=.ok (.lst (cs.map af))/\(∀c∈cs,IsCell m c)/\eH m cs=J/\cs.length<=16:=by
 obtain⟨cs,e,r⟩:=Mu (pg:=pg) (uZ n) i m a b;exact⟨cs,(bP (f:=26) rfl _ _).trans e,r⟩
def NH(n)(i M)(h0:0<=i)(a:6<=M)(b:M<=8):∃m ts,bE (n+11) 27 [.int i,.int M]=.ok (aL m ts)/\Net m ts/\ts.length<=70:=by
 obtain⟨m,ts,e,r⟩:=I6 (pg:=pg) (Φ:=bE (n+10)) M a b (NU (n+8)) (λs c g d=>u1 n s c ⋯ d) (NR (n+8)) i h0;exact⟨m,ts,(bP (f:=27) rfl _ _).trans e,r⟩
def n9(n)(N)(a:Good N)(h:Nat)(d:h<=8):bE (n+11) 28 [aL N.1 N.2,.int (h:Int)]=.ok (.lst ((cl N.2 (h+1)).map af)):=by
 rw[<- sq];exact(bP (f:=28) rfl _ _).trans (HJ (λc b=>u1 n (h+1) c ⋯ b) (u2 a) a.len (by rw[sq];exact ja a.cW.hi a.cW.cell _))
def Nz(n)(N)(a:Good N):bE (n+1) 29 [aL N.1 N.2]=.ok (.int (hi N.2:Int)):=(bP (f:=29) rfl _ _).trans (Gq (y2 a.cW))
def NM(n)(x a b:Int)(c:a<=x)(h2:x<=b):bE (n+1) 30 [.int x,.int a,.int b]=.ok (.ag J):=(bP (f:=30) rfl _ _).trans (Jc c h2)
def NC(n)(c)(h:IsCell m c)(a:c.length<=1000):bE (n+2) 31 [af c,.int m]=.ok (.ag J):=(bP (f:=31) rfl _ _).trans (HI (NM n) h a)
def DE(a:Good N)(b:c∈cl N.2 k):IsCell N.1 c:=by
 obtain⟨_,h2,t,d,h3⟩:=hZ.mp b;exact A4 (a.cW.cell t d) h3 h2
def Bi(n)(N)(a:Good N)(k)(e:k<=8)(b):bE (n+12) 32 [bx (cl N.2 (k+1)) b,aL N.1 N.2,.int (k:Int)]=.ok (.ag J) :=
 (bP (f:=32) rfl _ _).trans (HL (λc d=>NC (n+9) c (DE a (ip d)) (kc a c (ip d)).2) (n9 n N a k e) (xE (en N.2 (k+1)) b))
def u0(n)(N)(a:Good N)(k)(xs)(d:∀c∈xs,c∈cl N.2 (k+1)):bE (n+1) 33 [.tup (xs.map af)]=.ok (.tup ((dj xs).map af)):=(bP (f:=33) rfl _ _).trans (HP (U:=cl N.2 k) (λc b=>kc a c (d c b)) (λc b e g=>iq a.cW.cell (d c b) g) (ja a.cW.hi a.cW.cell k))
def Nv(n)(N)(a:Good N)(k:Nat)(d:k<=7):bE (n+12) 34 [aL N.1 N.2,.int (k:Int)]=.ok (fp (aU N.2 (k+1))):=(bP (f:=34) rfl _ _).trans (DV d a.cW.cell a.cW.hi (λc b=>u1 (n+1) k c ⋯ b) λj e=>n9 n N a j ⋯)
def NJ(n)(N)(a:Good N)(k:Nat)(b:k<=7):bE (n+13) 35 [aL N.1 N.2,.int (k:Int)]=.ok (fp (lI (aU N.2 (k+1))).2):=(bP (f:=35) rfl _ _).trans (HR (Nv n N a k b) (by rw[md];have:=ja a.cW.hi a.cW.cell (k+1);lia))
def ND(n)(U)(a:U.Nodup)(b:Nat):bE (n+1) 36 [.int (b:Int),.lst (U.map af)]=.ok (bx U b):=(bP (f:=36) rfl _ _).trans (HK a b)
def NI(n)(N)(a:Good N)(k:Nat)(c:k<=7)(z):∃b:Nat,bE (n+14) 37 [aL N.1 N.2,.int (k:Int),.int z]=.ok (bx (cl N.2 (k+1)) b)/\bd (aU N.2 (k+1)) b=0/\b<2 ^ (aU N.2 (k+1)).length:=by
 obtain⟨b,e,r⟩:=HQ (pg:=pg) (Φ:=bE (n+13)) (fh:=36) (fc:=28) (fr:=35) (fd:=22) z (en N.2 (k+1)) (NJ n N a k c) (uZ (n+12) z) (ND (n+12) _ (en N.2 (k+1))) (n9 (n+2) N a k ⋯);exact⟨b,(bP (f:=37) rfl _ _).trans e,r⟩
def NF(n)(N)(c:Good N)(k:Nat)(d:k<=7)(z):∃b:Nat,bE (n+12) 38 [aL N.1 N.2,.int (k:Int),.int z]=.ok (bx (cl N.2 (k+1)) b)/\b<2 ^ (cl N.2 (k+1)).length:=by
 obtain⟨q,e⟩:=HM (pg:=pg) (Φ:=bE (n+11)) (fd:=22) (fc:=28) z (en N.2 (k+1)) (uZ (n+10) z) (n9 n N c k ⋯);obtain⟨b,a,h2⟩:=FR (en N.2 (k+1)) q;exact⟨b,by rw[<- h2];exact(bP (f:=38) rfl _ _).trans e,a⟩
def NN(n)(xs ys:List (List Int)):bE (n+1) 40 [.tup (xs.map af),.tup (ys.map af)]=.ok (.ag (decide ((xs.filter λc=>decide (c∈ys)).length%2=1))):=(bP (f:=40) rfl _ _).trans (Je xs ys)
def Nm(n)(N)(a:Good N)(k)(f:k<=7):q0 (bE (n+13)) N.1 N.2 k 28 40 33 32 19 39 18 :=
 ⟨a.cW.cell,λb=>u0 (n+12) N a k _ λc d=>ip d,λb=>u0 (n+12) N a (k+1) _ λc d=>ip d,λc d=>u0 (n+12) N a (k+1) [c] λx e=>by rw[P6.mp e];exact d,Nx (n+7) N a k,NV (n+7) N a k,NO (n+6) N a k,Bi (n+1) N a k ⋯,λb=>Bi (n+1) N a (k+1) ⋯ b,NN (n+12),n9 (n+2) N a (k+1) ⋯⟩
def NB(c:List Int):run pg fds 21 41 [.lst (c.map .int)]=.ok (.ag J) :=
 (bP (f:=41) rfl _ _).trans (HF (NL 18 c) (λi M h a b=>NH 9 i M h a b) (Nz 19) (NI 6) (NF 8) (Nm 7))
end vz
end
section
namespace oz
open PySem PySem.Spec PyProof.Rows aH aF
abbrev ba:List Nat:=[1,2,3,4,13,14,15,17,18,19,20,21,22,23,24,25,27,28,29,30,32,33,34,35,36,37,38,39,40,41,42,43,44,45,46,47,48,49,50,51,52,53]
def st(j:Nat):Stmt:=PySem.Challenge.pw_holeyard_k20_whole_filled_or_not.main.body.getD (ba.getD j 0) (.Pass ⟨0,0,0,0⟩)
def Dy:((VR 42).all λj=>ζ.i9 dp.gt (dp.y5.getD j []) (dp.fds.getD j ⟨0,0,.nil⟩) (st j))=true:=by decide +kernel
def bU(j:Nat)(h:j<42):ζ.i9 dp.gt (dp.y5.getD j []) (dp.fds.getD j ⟨0,0,.nil⟩) (st j)=true:=Qd.mp Dy j (VZ.mpr h)
structure Txt(K:W.Frag):Prop where
 ds:kP (λj x=>ov K x (st j)) 0 dp.gt.fns
 ag:AllB K kQ
 kN:W.nsIn K V1 "ValueError"=Z Y
 cl:ot K "HoleError" "NoRound" "NoNet" "NoText" "NotFree" "NoRoom"
section
variable{K:W.Frag}{h:V9}{ak:VT->Option VE}
theorem fns(X:K.In h)(G:h.Ns V1 ak)(t:Txt K):kP (ou K ak dp.gt dp.fds) 0 dp.gt.fns:=by
 obtain⟨b,c,o,A,R,U,a0,a1,a2,a3,d,e,f,g,i,j,k,l,m,n,p,q,r,s,u,v,w,x,y,z,B,C,E,H,I,L,M,N,O,Q,S,T,-⟩:=t.ds;refine⟨b0 X G b rfl (bU 0 ∅) ?_,b0 X G c rfl (bU 1 ∅) ?_,b0 X G o rfl (bU 2 ∅) ?_,b0 X G A rfl (bU 3 ∅) ?_,b0 X G R rfl (bU 4 ∅) ?_,b0 X G U rfl (bU 5 ∅) ?_,b0 X G a0 rfl (bU 6 ∅) ?_,b0 X G a1 rfl (bU 7 ∅) ?_,b0 X G a2 rfl (bU 8 ∅) ?_,b0 X G a3 rfl (bU 9 ∅) ?_,b0 X G d rfl (bU 10 ∅) ?_,b0 X G e rfl (bU 11 ∅) ?_,b0 X G f rfl (bU 12 ∅) ?_,b0 X G g rfl (bU 13 ∅) ?_,b0 X G i rfl (bU 14 ∅) ?_,b0 X G j rfl (bU 15 ∅) ?_,b0 X G k rfl (bU 16 ∅) ?_,b0 X G l rfl (bU 17 ∅) ?_,b0 X G m rfl (bU 18 ∅) ?_,b0 X G n rfl (bU 19 ∅) ?_,b0 X G p rfl (bU 20 ∅) ?_,b0 X G q rfl (bU 21 ∅) ?_,b0 X G r rfl (bU 22 ∅) ?_,b0 X G s rfl (bU 23 ∅) ?_,b0 X G u rfl (bU 24 ∅) ?_,b0 X G v rfl (bU 25 ∅) ?_,b0 X G w rfl (bU 26 ∅) ?_,b0 X G x rfl (bU 27 ∅) ?_,b0 X G y rfl (bU 28 ∅) ?_,b0 X G z rfl (bU 29 ∅) ?_,b0 X G B rfl (bU 30 ∅) ?_,b0 X G C rfl (bU 31 ∅) ?_,b0 X G E rfl (bU 32 ∅) ?_,b0 X G H rfl (bU 33 ∅) ?_,b0 X G I rfl (bU 34 ∅) ?_,b0 X G L rfl (bU 35 ∅) ?_,b0 X G M rfl (bU 36 ∅) ?_,b0 X G N rfl (bU 37 ∅) ?_,b0 X G O rfl (bU 38 ∅) ?_,b0 X G Q rfl (bU 39 ∅) ?_,b0 X G S rfl (bU 40 ∅) ?_,b0 X G T rfl (bU 41 ∅) ?_,trivial⟩<;>intro _ _ _ _ _ _ a4 a<;>first|(obtain⟨_,rfl⟩:=Fh a;rfl)|(obtain⟨_,_,rfl⟩:=Fi a;rfl)|(obtain⟨_,_,_,rfl⟩:=Fj a;rfl)
def bW{P:Wa}{w:Wm}(X:K.In h)(G:h.Ns V1 ak)(t:Txt K)(base:V9)(b:K.In base)(c:base.Ns V1 ak):iW (cM.d9 (hN K dp.gt)) dp.gt dp.pg K ak base/\d1 P w K ak base (cM.d9 (hN K dp.gt)) 20 dp.gt dp.pg (ζ.run dp.pg dp.fds 20):=by
 have a:iW (cM.d9 (hN K dp.gt)) dp.gt dp.pg K ak base:=DG b c rfl t.kN t.cl rfl;exact⟨a,Bn a (λf x e=>by have:=(fns X G t).get e;rwa[SW]at this) (AllB.get X G t.ag) (λj x d e1 e2=>by cases e1) _⟩
end
end oz
abbrev PySem.W.Fast.tw8343652554498824568:=PySem.Challenge.pw_holeyard_k20_whole_filled_or_not
theorem PySem.W.Fast.te8343652554498824568:PySem.Challenge.pw_holeyard_k20_whole_filled_or_not=PySem.W.Fast.tw8343652554498824568:=rfl
namespace PySem.W.Fast
def tw13206587996395879955:=PE
def tw14422302577196341878:=PE
def tw893326170612532969:=PE
def tw2719791185129527024:=PE
def tw10574674291555671201:=PE
def tw4539128284509932193:=PE
def tw17690985342163338992:=PE
def tw12849486612634247622:=PE
def tw5431799958724751901:=PE
def tw8867647968579630678:=PE
def tw4520161024637127192:=PE
def tw12785093133498458400:=PE
def tw15341441717260788886:=PE
def tw6638746637369751499:=PE
def tw1856628269757432208:=PE
def tw1617671234372519866:=PE
def tw14444773769842761428:=PE
def tw16637268054218489243:=PE
def tw12499814033071307465:=PE
def tw16343896195202801431:=PE
def tw14284370496550420508:=PE
def tw48810405605377057:=PE
def tw3761339505272559467:=PE
def tw11573596125133304128:=PE
def tw1585988170062687271:=PE
def tw16297153332960105875:=PE
def tw8269718655680140425:=PE
def tw8467467516518183873:=PE
def tw8062550843223300083:=PE
def tw16038886825999699415:=PE
def tw7786805528809651219:=PE
def tw12778218877979366628:=PE
def tw8131163658554147849:=PE
def tw14456653882548714384:=PE
def tw11558613763248527614:=PE
def tw17077780588093324164:=PE
def tw1472267495233280580:=PE
def tw4778674525060143314:=PE
def tw15914382908603022636:=PE
def tw12871332252271381519:=PE
def tw7260897055096539153:=PE
def tw13191809725123283234:=PE
def tw5045065702626026483:=PE
def tw14131002008774541549:=PE
def tw16111815440079740834:=PE
def tw17571864143717905526:=PE
def tw14958898677811134550:=PE
def tw12799157469550421560:=PE
def tw12970842790081981492:=PE
def tw5624374296671612637:=PE
def tw3209925643703742364:=PE
def tw6496916213446008009:=PE
def tw7295517196866821199:=PE
def tw14484307303201249596:=PE
def tw10400936208332815516:=PE
def tw16431123432699185251:=PE
def tw12118519473994036282:=PE
def tw1813690807226367489:=PE
def tw15142639283765366583:=PE
def tw11566257804564900385:=PE
def tw11614547718691238037:=PE
def tw5174030108874237296:=PE
def tw12653222529223197221:=PE
def tw10690711060774641945:=PE
def tw8588875508317016256:=PE
def tw9337807046830781718:=PE
def tw9107079645300452547:=PE
def tw628409947240691650:=PE
def tw13352334988740370716:=PE
def tw12418299335361105268:=PE
def tw5860546122072856049:=PE
def tw5853182187824880129:=PE
def tw14631387872413071420:=PE
def tw1506959731717764800:=PE
def tw13973200613660667897:=PE
def tw7673690041283244798:=PE
def tw5138726802073126309:=PE
def tw11194449196608140403:=PE
def tw10481905684595945744:=PE
def tw691418661078884351:=PE
def tw1322672973646800778:=PE
def tw17973132376300259431:=PE
def tw13227309852678981439:=PE
def tw16695631414465088670:=PE
def tw9532695031956168067:=PE
def tw18044163608250640331:=PE
def tw6539014071586380932:=PE
def tw2427045995039867357:=PE
def tw7756188789556049471:=PE
def tw9937485315153029894:=PE
def tw8589991137603061785:=PE
def tw8875808133493901505:=PE
def tw12316406264980641409:=PE
def tw946472132902394946:=PE
def tw6367062673677228118:=PE
def tw6334396179113924871:=PE
def tw913324818451342889:=PE
def tw11756531032204610056:=PE
def tw10910689306778238442:=PE
def tw2460013331324125953:=PE
def tw415299639006263327:=PE
def tw6789149723624844422:=PE
def tw17964341398428531990:=PE
def tw16885320145366776530:=PE
def tw8229715084772444159:=PE
def tw17769256468554227252:=PE
def tw5323407487443388496:=PE
def tw1502685203887092444:=PE
def tw5187515446901711580:=PE
def tw13983999694203761505:=PE
def tw7700183447224798611:=PE
def tw15072621814335269315:=PE
def tw17788344017024653832:=PE
def tw2203095391023539227:=PE
def tw9461609091963623020:=PE
def tw1116248802475716450:=PE
def tw2017425482857768175:=PE
def tw129162873120993130:=PE
def tw16892849415982461538:=PE
def tw15861118470866431303:=PE
def tw1606979915832759090:=PE
def tw17369020766104384565:=PE
def tw6309573201232037964:=PE
def tw1220371382295316616:=PE
def tw6804690677977098524:=PE
def tw17976792413614498019:=PE
def tw9222358943567751421:=PE
def tw15853056883613360091:=PE
def tw16812398704313421132:=PE
def tw6244447711774170771:=PE
def tw13334562557915545332:=PE
def tw11447906720708702039:=PE
def tw12897714717988262603:=PE
def tw5451767039671163049:=PE
def tw12431781257151506766:=PE
def tw381479111993468102:=PE
def tw18156495224144623964:=PE
def tw4516797502697353:=PE
def tw16632904038126099000:=PE
def tw2423573363473912149:=PE
end PySem.W.Fast
open PySem PySem.W PyProof.Rows
set_option maxRecDepth 100000 in
set_option maxHeartbeats 0 in
theorem PySem.Challenge.cw_holeyard_k20_whole_filled_or_not_holds : PySem.Challenge.rw_holeyard_k20_whole_filled_or_not.Holds := by
 w_on;o_law;k_head;(case hw=>w_witness2)
 k_fill
 refine aF.walk (g:=dp.gt) (l:=PySem.Challenge.rw_holeyard_k20_whole_filled_or_not) (pg:=dp.pg) (fds:=dp.fds) (n:=21) (f:=41) (x:="_law_script") rfl rfl ∅ vz.NB (λw h Y=>PySem.W.kIn_of Y) ?F
 case F =>
  intro w ak a6 h oC G Gs;have cl:aF.ot (aH.oB oC) "HoleError" "NoRound" "NoNet" "NoText" "NotFree" "NoRoom":=by
   dsimp only[aH.oB];refine' aF.DB ?a0 ?l0 ?e0 ?h0 ?a1 ?l1 ?e1 ?a2 ?l2 ?e2 ?h2 ?a3 ?l3 ?e3 ?h3 ?a4 ?l4 ?e4 ?h4 ?a5 ?l5 ?e5 ?h5 ?n ?i ?t ?p1 ?p2 ?p3 ?p4 ?p5 ?m0 ?m2 ?m3 ?m4 ?m5
   (case a0=>k_is);(case l0=>k_is);(case e0=>exact⟨_,_,_,_,_,_,_,_,_,_,_,_,_,_,rfl⟩);(case h0=>rfl);(case a1=>k_is);(case l1=>k_is);(case e1=>exact⟨_,_,_,_,_,_,_,_,_,_,_,_,_,_,rfl⟩);(case a2=>k_is);(case l2=>k_is);(case e2=>exact⟨_,_,_,_,_,_,_,_,_,_,_,_,_,_,rfl⟩);(case h2=>rfl);(case a3=>k_is);(case l3=>k_is);(case e3=>exact⟨_,_,_,_,_,_,_,_,_,_,_,_,_,_,rfl⟩);(case h3=>rfl);(case a4=>k_is);(case l4=>k_is);(case e4=>exact⟨_,_,_,_,_,_,_,_,_,_,_,_,_,_,rfl⟩);(case h4=>rfl);(case a5=>k_is);(case l5=>k_is);(case e5=>exact⟨_,_,_,_,_,_,_,_,_,_,_,_,_,_,rfl⟩);(case h5=>rfl);(case n=>kernel_rfl);(case i=>k_is);(case t=>kernel_rfl);(case p1=>k_is);(case p2=>k_is);(case p3=>k_is);(case p4=>rfl);(case p5=>rfl);(case m0=>rfl);(case m2=>rfl);(case m3=>rfl);(case m4=>rfl);(case m5=>rfl)
  have t:oz.Txt (aH.oB oC):=by
   refine⟨⟨?_,?_,?_,?_,?_,?_,?_,?_,?_,?_,?_,?_,?_,?_,?_,?_,?_,?_,?_,?_,?_,?_,?_,?_,?_,?_,?_,?_,?_,?_,?_,?_,?_,?_,?_,?_,?_,?_,?_,?_,?_,?_,trivial⟩,⟨?_,?_,?_,?_,?_,?_,?_,?_,?_,?_,?_,?_,?_,?_,?_,trivial⟩,?_,cl⟩<;>dsimp only[aH.oB]<;>first|(refine' aF.Ek ?a ?l ?c ?k;(case a=>k_is);(case l=>k_is);(case c=>k_is);(case k=>k_is))|k_is
  exact aF.HO oC G Gs (t.ds.get (f:=41) rfl) rfl (oz.bU 41 ∅) rfl (λ_ _ _ _ _ _ s u=>.of_eq rfl) (oz.bW oC G t)
end
end
