import PyProof.Rows.All
import Wide.All
import OpenK.AllK
import PySem.Challenge.RW_holeyard_k32_whole_beside_and_over
set_option Elab.async false
set_option linter.all false
set_option maxRecDepth 100000
def PV:=@PySem.wpAny_bind
def PW:=@Bool.and_eq_true
def PX:=@PySem.Heap.get?_push_of_some
def PY.{u}:=@List.length_append.{u}
def PZ:=@Bool.false_eq_true
def P0:=@Nat.le_refl
def P1.{u}:=@List.mem_cons.{u}
def P2:=@Nat.lt_of_lt_of_le
def P4.{u}:=@List.getElem?_eq_getElem.{u}
def P5:=@PyProof.Rows.wpS_bind
def P6.{u}:=@List.size_toArray.{u}
def P7:=@PySem.Heap.lt_size
def P8.{u}:=@List.mem_append.{u}
def P9.{u}:=@Array.getElem?_eq_getElem.{u}
def Qa:=@Nat.zero_le
def Qb:=@PySem.Heap.get?_push_size
def Qd.{u}:=@List.mem_append_right.{u}
def Qe.{u}:=@List.pairwise_append.{u}
def Qf:=@PyProof.Rows.wpS_pure
def Qg:=@Nat.mod_two_eq_zero_or_one
def Qh.{u,v}:=@List.getElem?_map.{u,v}
def Qi.{u}:=@List.append_assoc.{u}
def Qj.{u}:=@List.getElem?_append_left.{u}
def Qk:=@Nat.le_trans
def Ql:=@Nat.ne_of_lt
def Qm.{u}:=@Array.getElem?_toList.{u}
def Qn:=@decide_eq_true_eq
def Qo.{u}:=@List.mem_singleton.{u}
def Qp.{u}:=@List.getElem?_eq_some_iff.{u}
def Qq.{u,v}:=@List.map_congr_left.{u,v}
def Qr.{u}:=@List.all_eq_true.{u}
def Qs.{u}:=@if_false.{u}
def Qt:=@PySem.Heap.get?_update_other
def Qu.{u}:=@List.getElem?_eq_none.{u}
def Qv.{u}:=@List.pairwise_cons.{u}
def Qw.{u}:=@Array.getElem?_eq_some_iff.{u}
def Qx.{u}:=@Array.toList_append.{u}
def Qy.{u}:=@Option.some.inj.{u}
def Qz.{u}:=@Array.size_push.{u}
def QA:=@PySem.wpAny_newObj_type
def QB:=@Nat.le_add_right
def QC.{u}:=@beq_iff_eq.{u}
def QD.{u}:=@List.getElem?_append_right.{u}
def QE:=@PySem.Heap.get?_update_self
def QF:=@Nat.lt_of_le_of_lt
def QG.{u,v}:=@List.lookup_cons.{u,v}
def QH.{u}:=@List.mem_filter.{u}
def QI.{u}:=@List.length_take.{u}
def QJ.{u}:=@List.take_append_drop.{u}
def QK:=@PySem.W.kia_one
def QL.{u}:=@Array.size_extract.{u}
def QM:=@Nat.le_of_lt
def QN.{u}:=@List.Pairwise.imp_of_mem.{u}
def QO:=@Nat.le_sub_one_of_lt
def QP:=@Nat.max_eq_right
def QQ.{u}:=@List.append_nil.{u}
def QR.{u}:=@List.nodup_cons.{u}
def QS:=@Nat.testBit_xor
def QT.{u,v}:=@List.pairwise_map.{u,v}
def QU:=@Bool.not_eq_true'
def QV:=@Bool.false_ne_true
def QW.{u}:=@List.contains_iff_mem.{u}
def QX:=@PySem.mem_of_lookup
def QY.{u}:=@List.drop_eq_getElem_cons.{u}
def QZ:=@Nat.min_eq_left
def Q0:=@Nat.pow_le_pow_right
def Q1:=@Nat.add_sub_of_le
def Q2:=@PySem.wpAny_mono
def Q3.{u}:=@if_true.{u}
def Q4:=@PyProof.Rows.slot_tuple_getitem
def Q5.{u}:=@List.Pairwise.sublist.{u}
def Q6.{u}:=@List.length_drop.{u}
def Q7:=@Nat.add_sub_cancel_left
def Q8.{u}:=@Ne.symm.{u}
def Q9.{u}:=@Option.some.injEq.{u}
def Ra:=@Nat.le_of_lt_succ
def Rb:=@PySem.wpAny_loadPart_at
def Rc.{u,v}:=@congrArg.{u,v}
def Rd.{u}:=@List.mem_of_getElem?.{u}
def Rf:=@Nat.lt_trans
def Rg:=@Nat.testBit_lt_two_pow
def Rh.{u}:=@List.take_of_length_le.{u}
def Ri:=@PyProof.Rows.wpS_forRange
def Rj.{u}:=@Array.getElem?_setIfInBounds.{u}
def Rk:=@PySem.codeAny_builtin
def Rl.{u}:=@Array.getInternal_eq_getElem.{u}
def Rm:=@Nat.lt_irrefl
def Rn:=@PySem.wpAny_call_entry
def Ro:=@Nat.xor_assoc
def Rp.{u}:=@List.length_replicate.{u}
def Rq:=@PySem.wpAny_truthy_bool
def Rr.{u}:=@Array.getD_eq_getD_getElem?.{u}
def Rt:=@PySem.wpAny_callSpecial?_slot
def Ru:=@Nat.lt_of_le_of_ne
def Rv.{u}:=@List.getD_eq_getElem?_getD.{u}
def Rw:=@Nat.lt_succ_self
def Rx:=@List.getElem?_range
def Ry:=@PySem.Heap.SameBut.update
def Rz:=@PySem.wpAny_setState_of
def RA:=@Bool.not_true
def RB:=@PySem.wpAny_setField
def RC:=@Bool.or_eq_true
def RD:=@PySem.F.slot_dict_keyiterator_next
def RE:=@Int.natCast_nonneg
def RF.{u}:=@List.pairwise_singleton.{u}
def RG.{u}:=@List.mem_iff_getElem.{u}
def RH:=@PySem.Around.under_plainId
def RI:=@PyProof.Rows.callWith_type1
def RJ:=@PySem.wpAny_holding
def RK:=@Nat.add_assoc
def RL.{u}:=@Array.size_append.{u}
def RM:=@PyProof.Rows.wpS_mono
def RN.{u}:=@List.replicate_succ.{u}
def RO:=@Nat.add_lt_add_left
def RP:=@PySem.wpAny_isSubtype_exc
def RQ:=@PySem.Obj.data_mapFields
def RR:=@PySem.wpAny_field
def RS:=@PySem.wpAny_typeNameOfWhole_keyiter
def RT.{u}:=@List.getElem?_replicate.{u}
def RU.{u}:=@List.ext_getElem?.{u}
def RV.{u,v}:=@List.flatMap_cons.{u,v}
def RW:=@PyProof.Rows.wpS_modify
def RX:=@PyProof.Rows.F.plain_set_update_loop
def RY:=@Nat.add_le_add_left
def RZ.{u}:=@List.filter_sublist.{u}
def R0.{u}:=@Array.getElem?_eq_none.{u}
def R1:=@Nat.min_le_right
def R2:=@PySem.wpAny_Call_Name_kw
def R3:=@Nat.xor_lt_two_pow
def R4.{u}:=@List.nodup_iff_pairwise_ne.{u}
def R5:=@Nat.add_sub_cancel
def R6:=@Nat.add_right_comm
def R7.{u}:=@List.Perm.append_left.{u}
def R8:=@Classical.byContradiction
def R9.{u}:=@List.pairwise_iff_getElem.{u}
def Sa:=@Nat.sub_lt_left_of_lt_add
def Sb:=@PySem.wpAny_passesOwn
def Sd:=@Nat.min_le_left
def Se.{u}:=@List.flatten_cons.{u}
def Sf:=@Nat.zero_add
def Sg.{u}:=@List.Pairwise.imp.{u}
def Sh:=@Nat.xor_self
def Si.{u}:=@List.map_id.{u}
def Sj.{u}:=@bne_self_eq_false.{u}
def Sk.{u}:=@Array.toList_reverse.{u}
def Sl.{u}:=@List.Sublist.refl.{u}
def Sm:=@of_decide_eq_true
def Sn:=@Nat.testBit_two_pow_self
def So:=@PySem.wpAny_typeNameOf_keyiter
def Sp:=@PySem.AutoSeq1.wpAny_loadPart'
def Sq:=@Nat.testBit_two_pow
def Sr.{u}:=@List.reverse_append.{u}
def Ss.{u,v}:=@List.map_eq_nil_iff.{u,v}
def Su:=@Nat.zero_testBit
def Sv.{u}:=@List.eq_nil_of_length_eq_zero.{u}
def Sw:=@Nat.sub_le
def Sx:=@PySem.wpAny_typeOf
def Sy:=@Nat.and_mod_two_eq_one
def Sz.{u}:=@Array.getElem?_extract.{u}
def SA:=@Nat.not_lt
def SD:=@List.pairwise_lt_range
def SE:=@PySem.F.called_set
def SF:=@PySem.wpAny_rule
def SG.{u}:=@List.Perm.append_right.{u}
def SH.{u}:=@List.drop_eq_nil_of_le.{u}
def SI.{u}:=@List.append_eq_nil_iff.{u}
def SJ.{u}:=@List.contains_cons.{u}
def SK:=@Nat.div_add_mod
def SM.{u}:=@List.countP_eq_length_filter.{u}
def SN.{u}:=@List.eq_nil_or_concat.{u}
def SO.{u}:=@List.concat_eq_append.{u}
def SP.{u}:=@List.getElem?_toArray.{u}
def SQ:=@PySem.Obj.isFreed_of_fields
def SR:=@Nat.add_le_of_le_sub'
def SS.{u}:=@List.perm_append_comm.{u}
def SU:=@Nat.add_lt_of_lt_sub'
def SV.{u}:=@List.length_filter_le.{u}
def SW.{u}:=@List.idxOf_lt_length_of_mem.{u}
def SX.{u}:=@Array.toList_push.{u}
def SY:=@Nat.pow_lt_pow_right
def S0:=@Nat.eq_of_testBit_eq
def S1:=@Nat.sub_lt_sub_right
def S2.{u}:=@List.mem_of_mem_take.{u}
def S3.{u,v}:=@List.map_nil.{u,v}
def S4:=@Nat.xor_zero
def S5:=@Nat.zero_xor
def S6:=@List.nodup_range
def S7:=@PySem.wpAny_askSetting
def S8.{u}:=@List.getElem_mem.{u}
def S9.{u}:=@List.nil_sublist.{u}
def Ta.{u,v}:=@List.mem_flatMap.{u,v}
def Tb:=@PyProof.Rows.F.entry_set_update_loop
def Tc.{u,v}:=@List.flatMap_append.{u,v}
def Td:=@PySem.F.args_tuple_add_2
def Te.{u}:=@List.length_erase_of_mem.{u}
def Tf:=@PySem.wpAny_attempt
def Tg:=@PySem.wpAny_execs_nil
def Th.{u,v}:=@List.countP_map.{u,v}
def Ti:=@Nat.le_add_left
def Tj:=@List.getElem_range
def Tn:=@PySem.F.entry_tuple_add
def To:=@Nat.exists_eq_add_of_le
def Tp:=@PySem.F.plainAttrs_list
def Tq:=@Bool.false_and
def Tr:=@PySem.W.kitx_dict
def Ts:=@PySem.F.slot_tuple_add
def Tt.{u}:=@List.nodup_nil.{u}
def Tu:=@Bool.xor_false
def Tv:=@Nat.xor_mod_two_eq_one
def Tw.{u}:=@List.countP_congr.{u}
def Tx:=@PySem.wpAny_pyIter_list
def Tz:=@PySem.wpAny_runValue
def TA:=@PySem.F.plain_list_iadd
def TB.{u}:=@List.getElem_take.{u}
def TC:=@List.range_succ_eq_map
def TF.{u}:=@List.nodup_append.{u}
def TG:=@Bool.or_true
def TH:=@PySem.builtinLookup_eq_fast
def TJ:=@Nat.le_sub_of_add_le'
def TK:=@Nat.add_sub_add_right
def TL.{u}:=@List.set_append_right.{u}
def TM:=@PySem.F.typeOf_object_class
def TN:=@PyProof.Rows.callWith_builtin1
def TO:=@PySem.wpAny_forIn_list
def TP:=@Nat.testBit_zero
def TQ:=@Nat.testBit_succ
def TR.{u}:=@List.countP_cons.{u}
def TS:=@PySem.wpAny_isInstance
def TU:=@PySem.F.args_dict_keyiterator_next_1
def TV.{u}:=@List.drop_length.{u}
def TX.{u}:=@Array.toList_inj.{u}
def TY:=@PyProof.Rows.reverseSlice'_eq
def TZ.{u}:=@List.any_eq_true.{u}
def T1.{u}:=@List.sublist_nil.{u}
def T2:=@PySem.plainId_quiet
def T3.{u}:=@List.getElem?_set_ne.{u}
def T4:=@Nat.add_sub_add_left
def T5:=@PySem.codeAny_call_builtin
def T6:=@PySem.F.entry_dict_keyiterator_next
def T7.{u}:=@Array.toList_extract.{u}
def T8:=@Nat.two_pow_pos
def T9:=@Nat.and_div_two
def Ua:=@PySem.wpAny_updateSeq
def Ub:=@Nat.sub_lt_sub_left
def Uc:=@PySem.wpAny_setEntries_of
def Ud:=@Nat.sub_le_sub_left
def Ue:=@PySem.codeAny_mono
def Ug:=@Nat.lt_or_ge
def Uh:=@PyProof.Rows.wpS_get
def Ui:=@PySem.Calls.Name_function_global
def Uj.{u,v}:=@List.mem_filterMap.{u,v}
def Uk:=@PySem.W.kitx_tuple
def Ul:=@PySem.Calls.spliced_cons
def Um.{u}:=@List.Perm.refl.{u}
def Un.{u}:=@List.getElem_idxOf.{u}
def Uo.{u}:=@List.perm_ext_iff_of_nodup.{u}
def Up:=@PySem.wpAny_pyIter_tuple
def Uq:=@PySem.Code.quiet_builtin
def Ur:=@PySem.isSubtype_type
def Us:=@PySem.wpAny_fieldsOf
def Ut.{u}:=@List.drop_drop.{u}
def Uu.{u}:=@List.take_zero.{u}
def Uv:=@Nat.sub_add_cancel
def Uw.{u}:=@Array.toList_setIfInBounds.{u}
def Ux.{u}:=@List.getElem?_drop.{u}
def Uy.{u}:=@Array.perm_iff_toList_perm.{u}
def Uz:=@Int.add_sub_cancel
def UA:=@Nat.lt_of_add_lt_add_left
def UB:=@PySem.Value.isInt_shape
def UC.{u,v}:=@Sum.inl.inj.{u,v}
def UD.{u}:=@List.any_eq_false.{u}
def UE:=@PySem.W.kitx_list
def UG:=@PySem.Calls.spliced_nil
def UH:=@Nat.lt_trichotomy
def UI:=@Nat.lt_succ_of_le
def UJ:=@Nat.sub_pos_of_lt
def UK:=@PySem.wpAny_pyIter_slot
def UL:=@PySem.wpAny_dictEntries
def UM.{u}:=@dif_pos.{u}
def UN.{u}:=@List.getElem_drop.{u}
def UO:=@PySem.AutoSeq1.sub_tuple_tuple
def UP:=@PyProof.Rows.listUpdate_at
def UQ:=@PySem.W.mg_of
def UR:=@PySem.noFill_tuple_add
def US:=@Int.eq_ofNat_of_zero_le
def UT:=@Nat.min_eq_right
def UU:=@Nat.le_of_not_lt
def UW:=@Nat.testBit_div_two_pow
def UX:=@Nat.testBit_mod_two_pow
def UY:=@Nat.exists_eq_add_of_lt
def UZ.{u}:=@List.not_mem_nil.{u}
def U0:=@PyProof.Rows.wpS_lift
def U1:=@PySem.isinstance_outer
def U2:=@PySem.W.cellsFrom_some
def U3:=@PySem.concat_meets
def U4:=@PySem.call_meets
def U5:=@Nat.succ_mul
def U6:=@Nat.le_of_eq
def U7:=@Nat.xor_comm
def U8:=@Nat.add_zero
def U9:=@Nat.mod_lt
def Va:=@Nat.min_self
def Vb:=@Nat.sub_self
def Vc:=@PySem.wpAny_specialOf
def Vd:=@Nat.xor_div_two
def Ve:=@Nat.testBit_and
def Vf:=@PySem.typeLookup_type
def Vg:=@PySem.wpAny_dictEpoch
def Vh:=@Nat.le_antisymm
def Vi:=@PySem.call_isinstance
def Vj:=@Bool.not_false
def Vk:=@PySem.wpAny_seqItems
def Vl:=@PySem.wpAny_of_eq
def Vm:=@PySem.Heap.size_push
def Vn:=@PySem.isSubtype_stop
def Vo:=@Nat.add_le_add_right
def Vp:=@Nat.le_sub_of_add_le
def Vq:=@PySem.wpAny_loadPart
def Vr:=@PySem.Paired.length
def Vs:=@PySem.seq_tuple_add
def Vt:=@Bool.and_self
def Vu:=@PySem.wpAny_handled
def Vv:=@PySem.wpAny_newList
def Vw:=@PySem.F.slot_gs_get
def Vx:=@PySem.wpAny_load
def Vy:=@Int.emod_lt_of_pos
def Vz:=@Bool.not_eq_false'
def VA:=@Nat.sub_lt
def VB:=@PySem.W.mg_none_of
def VC:=@Nat.ne_of_gt
def VD:=@Nat.add_comm
noncomputable section
local macro_rules|`(abbrev $i:declId $s:optDeclSig $v:declVal)=>`(noncomputable def $i:declId $s:optDeclSig $v:declVal)
local macro_rules|`(⇑$x)=>`(by simpa using $x)
open Array renaming length_toList->VK,getD->WL,size_setIfInBounds->XQ,replicate->Yo,getElem?_append->Yr,getElem?_map->Zc,forIn_toList->Zd,size_reverse->Ze,toList_map->ZO
open Bool renaming false->VF,and_false->WH,true_and->XP,eq_iff_iff->Z9,true->J
open False renaming elim->W8
open ForInStep renaming yield->WW
open Function renaming comp->XO
open Int renaming toNat_natCast->Ws,max_eq_right->ZG,min_eq_left->Z1,emod_nonneg->Z4
open List renaming mem_cons_self->VE,length_map->VH,mem_cons_of_mem->VJ,mem_map->VM,range->VN,map_cons->VP,map_map->VR,map_append->VT,replicate->VV,length_cons->VX,mem_append_left->VZ,mem_range->V0,length_singleton->V8,length_nil->Wb,foldl_append->Wc,find?_cons->Wq,getD->Wt,length_range->Wy,filterMap_cons->Wz,length_set->WA,any_cons->WD,all_cons->WE,extract_eq_drop_take->WU,nil_append->WV,all_map->WY,foldl_cons->W4,getElem?_zip_eq_some->XE,sublist_append_right->XF,exists_mem_of_ne_nil->XG,length->XH,getElem?_take_of_lt->XK,sublist_append_left->XW,eraseIdx_cons_succ->XY,cons_append->XZ,getElem?_cons_succ->X0,length_eq_zero_iff->X2,sublist_append_iff->X3,getElem?_set_self->X6,length_pos_of_mem->Yf,getElem_cons_drop->Yg,drop_of_length_le->Yi,sublist_cons_self->Yj,dropWhile_sublist->Yk,of_mem_zip->Ym,singleton_append->Ys,mem_iff_getElem?->Yv,dropLast_eq_take->YB,length_dropLast->YF,mem_erase_of_ne->YG,mem_of_mem_drop->YJ,reverse_reverse->YK,getElem?_append->YL,lookup->YN,countP_eq_zero->YW,zipIdx_map_fst->YZ,length_reverse->Y0,map_drop->Y5,zip_cons_cons->Y9,zipIdx_append->Za,map_singleton->Zb,getElem?_take->Zf,filter_append->Zg,getLast?_cons->Zi,getLastD_cons->Zj,any_map->Zn,perm_middle->ZI,ext_getElem->ZQ,getElem_map->ZR,flatMap_nil->ZS,mem_reverse->ZT,any_toArray->ZU,foldl->aab
open List.Pairwise renaming nil->XI
open List.Perm renaming swap->Xl,trans->Xv,cons->YH
open List.Sublist renaming append->YY,trans->Zh
open Nat renaming pow_succ->W3,not_lt_zero->W5,strongRecOn->Yn,sub_zero->Zo,lt_succ_of_lt->Zs,lt_of_succ_lt->Zx,add_sub_assoc->Zy,le_of_not_le->ZN,and_le_left->Z2,mul_add_div->Z3,zero_lt_one->Z8
open Option renaming map_some->WB,isSome_iff_exists->XJ,bind_eq_bind->YX,getD_none->ZH,bind_some->ZJ,pure_def->Z5,some->Z,none->Y
open Prod renaming fst->aaf
open PyProof.Rows renaming arrOf->VQ,Keyed->VS,SortSt->V6,IntsAre->Wk,pendingOf->Wm,failedOf->Wv,seqObj->WM,elem'->WR,SortKind->Xa,mirror->Xw,AllBare->Xx,reverseSlice'->XT,subscriptTail_builtinR->Yb,get?_update_seq->Yp,wpS->YA,entry_tuple_getitem->YV,subscriptTail->Y2,envOfC->Y7,listItems_at->Zv,keyKind'->Zz,tuples'->ZA,seqEpoch_at->ZZ
open PyProof.Rows.SortSt renaming mk'->aae
open PySem renaming wpAny_pure->VG,Value->VI,Shared->VL,wpAny->VO,Addr->VU,model->VW,Str->V1,mainGlobals->V2,Expr->V3,starEach->V4,sizeLine->V5,sizeLine_eq->V7,compareOp->Wa,Program->Wd,Heap->We,excClassObj->Wf,Around->Wg,Stmt->Wn,World->Wo,bootBuiltins->Wu,eval->Wx,binaryOp->WG,foldedSetIterable->WI,cLine->WJ,Builtin->WN,sysModules->WQ,Obj->WS,NameKind->W2,assignEach->W7,firstArgMember->W9,swapsWith->Xb,backTo->Xe,sliceBounds->Xh,pyNext->Xi,rawInt->Xj,SetTable->Xm,ofAClassStatement->Xn,Pos->Xo,behindInMarks->Xp,Scope->Xr,FuncData->Xs,letOwnedTupleGo->Xt,codeAny->Xy,Keyword->Xz,getItem->XA,typeOf->XM,attributeBase->XN,setSearchFrom->XR,checkBuiltinCall->X1,setFlight->X4,compEnvC->X5,pyIter->X7,wpAny_pyNext_list_item->X8,BindsTo->X9,IsPart->Ya,callerA->Yd,wpAny_Assign_Subscript->Ye,wpAny_pyIter_listiter->Yq,wpAny_eqIsQuiet_tuple->Yt,wpAny_isSame_ref_self->Yu,wpAny_isOneOf_keyiter->Yx,subscripted->YC,keywordEach->YD,hashByValue->YI,tupleKind->YQ,PassesOwn->YR,lastMarks->YS,valueAt->YT,collect->YU,ExceptHandler->Y3,signature?_of->Y4,isTrue->Y6,Model->Zk,holding->Zl,seqIndex_neg->Zm,setAddHashed->Zq,ReadsAll->ZC,assign->ZE,rule->ZF,putSet_of->ZK,pickOrder->ZM,seqIndex_of->ZV,atKey->ZW,wpAny_throw->ZX,unsupported->ZY,Sem->Z0
open PySem.Builtin renaming bitAnd->Xk,bitXor->aaa
open PySem.Builtin.Dict renaming showsAll->Yw
open PySem.Builtin.Dict_items renaming ownsTuple->Xu
open PySem.Builtin.Frozenset renaming updateFrom->Z7
open PySem.Builtin.List renaming listExtendWith->Ww,listTooLong->W0,listLengthHint->XB,listSameRef->XS
open PySem.Builtin.Range renaming rangeSize->Xg
open PySem.Builtin.Slice renaming slicePlaces->WT,sliceAdjust->Xd,sliceApplied->XC
open PySem.Builtin.Tuple renaming tupleExact->WC,tupleItemsOf->XD
open PySem.Calls renaming callWith_builtin->Yc,evalArgs_plain->YE
open PySem.EntryCells renaming newEntry->Y1
open PySem.F renaming entry_proto_collect->Yy,plain_proto_collect->Yz,excAttr_ValueError->YM,excBase_ValueError->YO,entry_list_iadd->Zw
open PySem.Heap renaming SameBut->Wr
open PySem.Heap.SameBut renaming refl->Zr
open PySem.IsTupleKey renaming typeIs->Zp
open PySem.NameKind renaming free->V9,cell->WO
open PySem.Obj renaming mapSeq->Wh,mapFields->Wl,putSet->Xf,cls_mapFields->Zu
open PySem.PyData renaming depthAll->WX,canLayAll0->WZ,eqvAll->XU,eqv->aag
open PySem.SeqAt renaming EqAt->Y8,eqAt_reads->ZP
open PySem.SetFound renaming there->aac
open PySem.SetTable renaming tooFull->ZL,relaid->Z6,fresh->aad
open PySem.Str renaming ofString->Xc
open PySem.Value renaming ref->VY,type->Wj,bool->WK,int->W6,isInt->Xq,builtin->XX
open PySem.W renaming kas_ask->Yh,findIn->Yl,looks_findIn->ZD
open PySem.pickOrder renaming go->Zt
open Sum renaming inl->Wi,inr->YP
set_option tactic.hygienic false
set_option bootstrap.genMatcherCode false
set_option compiler.extract_closed false
namespace Nat
def Zq0{a b c:Nat}(h:a<b):a<c+b:=Nat.lt_of_lt_of_le h (Nat.le_add_left ..)
def Zq1{a b c:Nat}(h:a<b):a<b+c:=Nat.lt_of_lt_of_le h (Nat.le_add_right ..)
def Zq2{a b c:Nat}(h:c+a<=b):a<=b:=Nat.le_trans (Nat.le_add_left ..) h
def Zq3{a b c:Nat}(h:a+c<=b):a<=b:=Nat.le_trans (Nat.le_add_right ..) h
def Zq4{a b c:Nat}(h:a<b):a-c<b:=Nat.lt_of_le_of_lt (Nat.sub_le ..) h
def Zq5{a b c:Nat}(h:a<=b):a-c<=b:=Nat.le_trans (Nat.sub_le ..) h
def Zq6{a b c:Nat}(h:a<=b):c+a<=c+b:=Nat.add_le_add_left h _
def Zq7{a b c:Nat}(h:a<b):c+a<c+b:=Nat.add_lt_add_left h _
def Zq8{a:Nat}(h:0<a):a-1<a:=Nat.sub_lt h (by decide)
def ZqA{a b:Nat}(h:0<a)(i:a<=b):a-1<b:=Nat.lt_of_lt_of_le (Zq8 h) i
def ZqB{a b:Nat}(h:1<a)(i:a<=b):a-1<b:=ZqA (Nat.lt_of_succ_lt h) i
def ZqC{a b:Nat}(h:a<=b):0+a<=b:=by rwa [Nat.zero_add]
def ZqD{a b:Nat}:min a b<=a:=Nat.min_le_left ..
def ZqE{a b:Nat}(h:¬a<=b):b<a:=Nat.not_le.mp h
def ZqF{a b:Nat}(h:¬a<b):b<=a:=Nat.not_lt.mp h
def Zq9{a b:Nat}{C:Prop}(h:a<b)(i:b<=a):C:=absurd h (Nat.not_lt.mpr i)
end Nat
local macro_rules|`(tactic|lia)=>do
 let t<-("le_trans lt_of_lt_of_le lt_of_le_of_lt lt_trans le_antisymm Zq9 ZqA ZqB pos_of_ne_zero min_eq_left add_sub_of_le Zq0 Zq1 Zq2 Zq3 Zq4 Zq5 Zq6 Zq7 Zq8 ZqC ZqD le_sub_one_of_lt sub_succ_lt_self lt_succ_of_le le_of_succ_le_succ le_succ_of_le le_of_lt ZqE ZqF".splitOn " ").foldlM (λt n=>`(tactic|first|(with_reducible apply $(Lean.mkIdent (.str `Nat n))<;>assumption)|$t:tactic)) (<-`(tactic|first|lia -verbose|omega))
 `(tactic|first|decide|assumption|exact Nat.le_trans ‹_› (by decide)|exact Int.le_trans ‹_› (by decide)|(simp +arith only;done)|$t:tactic)
local macro_rules|`(↥$x)=>`(by simp at $x:term;lia)
local macro_rules|`(⋯)=>`(by lia)
local macro_rules|`(∅)=>`(by decide)
section
namespace az
open PySem PySem.Spec PyProof.Rows
noncomputable abbrev Key:=Sum Int V1
abbrev lJ:Key->VI->Bool
 |.inl k,v=>Xq k v
 |.inr x,v=>Value.isStrOf x v
abbrev HP(w:Wo):Key->Int
 |.inl k=>hashInt k
 |.inr x=>hashStr w x
def ij:∀{k:Key}{v:VI},lJ k v=J->(∃i t,k=Wi i/\v=W6 i t)\/(∃x t,k=YP x/\v=Value.str x t)
 |.inl i,v,h=>by
  obtain⟨t,e⟩:=UB (k:=i) (v:=v) h;exact .inl ⟨i,t,rfl,e⟩
 |.inr x,v,h=>by
  obtain⟨t,e⟩:=Value.isStrOf_shape (x:=x) (v:=v) h;exact .inr ⟨x,t,rfl,e⟩
def HQ(i)(t):lJ (.inl i) (.int i t)=true:=by simp[lJ,Xq]
def HR(x)(t):lJ (.inr x) (.str x t)=true:=by simp[lJ,Value.isStrOf]
def HT(a b):decide ((Wi a:Key)=Wi b)=(a==b):=by
 by_cases e:a=b
 .subst e;simp
 .have h:¬(Wi a:Key)=Wi b:=λq=>e (UC q)
  rw[decide_eq_false h];exact(beq_eq_false_iff_ne.mpr e).symm
def HW(a b):decide ((YP a:Key)=YP b)=decide (a=b):=by
 by_cases e:a=b
 .subst e;simp
 .have h:¬(YP a:Key)=YP b:=λq=>e (Sum.inr.inj q)
  rw[decide_eq_false h,decide_eq_false e]
def HU(a)(b):decide ((Wi a:Key)=YP b)=false:=decide_eq_false (λq=>nomatch q)
def HV(a)(b):decide ((YP a:Key)=Wi b)=false:=decide_eq_false (λq=>nomatch q)
def fm(prog)(w):PySem.KeyKind prog w Key where
 is:=lJ
 hash:=HP w
 inj:=λv a b f d=>by
  rcases ij f with⟨i,t,rfl,rfl⟩|⟨x,t,rfl,rfl⟩
  .rcases ij d with⟨j,u,rfl,e⟩|⟨y,u,rfl,e⟩
   .injection e with e1 _;rw[e1]
   .exact nomatch e
  .rcases ij d with⟨j,u,rfl,e⟩|⟨y,u,rfl,e⟩
   .exact nomatch e
   .injection e with e1 _;rw[e1]
 byValue:=λk v h=>by
  rcases ij h with⟨i,t,rfl,rfl⟩|⟨x,t,rfl,rfl⟩<;>rfl
 pyHash:=λc h=>by
  rcases ij c with⟨i,t,rfl,rfl⟩|⟨x,t,rfl,rfl⟩
  .exact wpAny_pyHash_int h
  .exact wpAny_pyHash_str h
 eqBool:=λg c h=>by
  rcases ij g with⟨i,t,rfl,rfl⟩|⟨x,t,rfl,rfl⟩
  .rcases ij c with⟨j,u,rfl,rfl⟩|⟨y,u,rfl,rfl⟩
   .rw[HT]at h;exact wpAny_eqBool_int h
   .rw[HU]at h;exact SeqAt.EqAt.int_str i t y u _ _ _ _ h
  .rcases ij c with⟨j,u,rfl,rfl⟩|⟨y,u,rfl,rfl⟩
   .rw[HV]at h;exact SeqAt.EqAt.str_int x t j u _ _ _ _ h
   .rw[HW]at h;exact wpAny_eqBool_str h
 «strs»:=λk x t v h=>by
  rcases ij h with⟨i,u,rfl,e⟩|⟨y,u,rfl,e⟩
  .exact nomatch e
  .injection e with e1 _;subst e1;cases v<;>rfl
def I8(prog)(w)(i)(t):(fm prog w).is (.inl i) (.int i t)=true:=HQ i t
def I9(prog)(w)(x)(t):(fm prog w).is (.inr x) (.str x t)=true:=HR x t
end az
namespace az
open PySem PySem.Spec PyProof.Rows
inductive V where
 |b0|ag (b:Bool)|int (i:Int)|str (x:V1)|sE (b:Array UInt8)|gf (b:UInt64)|ref (a:VU)|ty (n:String)
 deriving DecidableEq
abbrev RelV:V->VI->Prop
 |.b0,u=>u=Value.none
 |.ag b,u=>u=WK b
 |.int i,u=>∃t,u=W6 i t
 |.str x,u=>∃t,u=Value.str x t
 |.sE b,u=>∃t,u=Value.bytes b t
 |.gf b,u=>∃t,u=Value.float b t
 |.ref a,u=>u=VY a
 |.ty n,u=>u=Wj n
noncomputable abbrev Vals:List V->List VI->Prop:=Paired RelV
theorem Vals.length(r:Vals xs a):xs.length=a.length:=Vr r
theorem Vals.get:∀{xs:List V}{a:List VI}{i:Nat}{x:V},Vals xs a->xs[i]?=Z x->∃u,a[i]?=Z u/\RelV x u
 |_,_,_,_,.nil,e=>by simp at e
 |_,_,0,_,.cons r _,e=>by simp at e;subst e;exact⟨_,rfl,r⟩
 |_,_,i+1,x,.cons _ t,e=>by
  obtain⟨u,b,h2⟩:=Vals.get (i:=i) (x:=x) t ⇑e;exact⟨u,⇑b,h2⟩
theorem Vals.set(r:RelV x u):∀{xs:List V}{a:List VI}(i:Nat),Vals xs a->Vals (xs.set i x) (a.set i u)
 |_,_,_,.nil=>.nil
 |_,_,0,.cons _ t=>.cons r t
 |_,_,i+1,.cons q t=>.cons q (Vals.set r i t)
theorem Vals.append:∀{xs ys:List V}{a b:List VI},Vals xs a->Vals ys b->Vals (xs++ys) (a++b)
 |_,_,_,_,.nil,s=>s
 |_,_,_,_,.cons r t,s=>.cons r (Vals.append t s)
theorem Vals.take:∀{xs:List V}{a:List VI}(n:Nat),Vals xs a->Vals (xs.take n) (a.take n)
 |_,_,0,_=>.nil
 |_,_,_+1,.nil=>.nil
 |_,_,n+1,.cons r t=>.cons r (Vals.take n t)
theorem Vals.drop:∀{xs:List V}{a:List VI}(n:Nat),Vals xs a->Vals (xs.drop n) (a.drop n)
 |_,_,0,r=>r
 |_,_,_+1,.nil=>.nil
 |_,_,n+1,.cons _ t=>Vals.drop n t
def gK:Option V->Option VI->Prop
 |some v,Z u=>RelV v u
 |none,Y=>True
 |_,_=>False
def de{κ:Type}:List (κ×V)->List (κ×VI)->Prop:=Paired λ(p:κ×V)(q:κ×VI)=>p.1=q.1/\RelV p.2 q.2
abbrev bQ:Key->V
 |.inl i=>.int i
 |.inr x=>.str x
inductive e8 where
  |lst (xs:List V)
  |tup (xs:List V)
  |cg (ik:List (Key×V))|cD (ik:List (List Key×V))
  |set (S:Int->Bool) (n:Nat)
  |ins (C dt:VU) (bj:List (V1×V))
  |own (x:VU)
  |q8 (bj:List (V1×V))
  |met (f x:VU)
  |cF (lo hi:Int)
  |cx (o:WS) (u:e8)
  |jI (d7:Array VI)
  |ext (PU:We->Prop)
noncomputable abbrev ah:=VU->Option e8
abbrev upd(H:ah)(a:VU)(o:e8):ah:=λb=>if b=a then Z o else H b
def b7:upd H a o a=Z o:=by unfold upd;rw[if_pos rfl]
def bo(h:b≠a):upd H a o b=H b:=by unfold upd;rw[if_neg h]
def vM:upd (upd H a o) a u=upd H a u:=by
 funext b;unfold upd;split<;>rfl
def Jw{H:ah}(h:H a=Z o)(h':H b=Z u)(d:o≠u):a≠b:=by
 intro e;subst e;rw[h]at h';exact d (Qy h')
def jt{H:ah}(h:H a=Z o)(h':H b=Y):a≠b:=by
 intro e;subst e;rw[h]at h';cases h'
section
variable(P:Wd)(w:Wo)
def b8(H:ah)(h:We)(a:VU):e8->Prop
 |.lst xs=>xs.length<=V5/\∃(its:List VI)(n:Nat),Vals xs its/\h.get? a=Z { cls:=.type "list",data:=.seq its.toArray n }
 |.tup xs=>xs.length<=V5/\∃its:List VI,Vals xs its/\IsTup h a its.toArray
 |.cg d=>d.length<=V5/\(a==WQ)=VF/\∃k,de d k/\h.DictOf (fm P w) a k
 |.cD d=>d.length<=V5/\(a==WQ)=VF/\∃xs:List (List Key×VU×VI),
   Paired (λ(p:List Key×V)(q:List Key×VU×VI)=>p.1=q.1/\H q.2.1=Z (.tup (p.1.map bQ))/\RelV p.2 q.2.2) d xs /\
   ∃o i l,h.get? a=Z o/\o.ExactDict/\o.data=.dict i l/\i.toList=xs.map (entryOfKey (YQ (fm P w)))/\(xs.map (·.1)).Nodup
 |.set S n=>h.SetOf (intKind P w) a S n
 |.ins C e c=>H e=Z (.own a)/\c.length<=1000/\e≠a/\h.get? a=Z (PySem.W.instObj C e) /\
   ∃b,h.Ns1 e b/\(∀f,gK (c.lookup f) (b f))/\PySem.Within b (c.map (·.1))
 |.own _=>∃o,h.get? a=Z o
 |.q8 c=>∃b,h.Ns1 a b/\∀f,gK (c.lookup f) (b f)
 |.cF lo hi=>∃t u v,h.get? a=Z { cls:=.type "range",data:=.fields #[.int lo t,.int hi u,.int 1 v] }
 |.cx o u=>h.get? a=Z o/\b8 H h a u
 |.jI m=>h.get? a=Z { cls:=.none,data:=.fields m }
 |.met f x=>h.get? a=Z (PySem.W.methodObj (.ref f) (.ref x))
 |.ext g=>g h/\(∃o,h.get? a=Z o)/\∀j h2:We,g j->(∀o,j.get? a=Z o->h2.get? a=Z o)->g h2
def cC(H:ah)(h:We):Prop:=∀a o,H a=Z o->b8 P w H h a o
end
section
variable{P:Wd}{w:Wo}{H aE:ah}{h h':We}{a:VU}{o:e8}
theorem b8.lt(x:b8 P w H h a o):a<h.objs.size:=by
 cases o with
 |lst xs=>obtain⟨_,_,_,_,e⟩:=x;exact P7 e
 |tup xs=>obtain⟨_,_,_,p⟩:=x;exact p.lt
 |cg c=>obtain⟨_,_,_,_,o,_,_,e,_⟩:=x;exact P7 e
 |cD c=>obtain⟨_,_,_,_,o,_,_,e,_⟩:=x;exact P7 e
 |set S n=>obtain⟨o,_,_,_,e,_⟩:=x;exact P7 e
 |ins C d b=>obtain⟨_,_,_,e,_⟩:=x;exact P7 e
 |own y=>obtain⟨_,e⟩:=x;exact P7 e
 |q8 b=>obtain⟨_,⟨_,_,_,e,_⟩,_⟩:=x;exact P7 e
 |cF lo hi=>obtain⟨_,_,_,e⟩:=x;exact P7 e
 |cx g u=>obtain⟨e,_⟩:=x;exact P7 e
 |jI i=>exact P7 (show h.get? a=Z _ from x)
 |met f y=>exact P7 (show h.get? a=Z _ from x)
 |ext j=>obtain⟨_,⟨_,e⟩,_⟩:=x;exact P7 e
theorem Paired.uu{α β:Type}{F G:α->β->Prop}:∀{c:List α}{d:List β},Paired F c d->(∀a b,F a b->G a b)->Paired G c d
 |_,_,.nil,_=>.nil
 |_,_,.cons r t,f=>.cons (f _ _ r) (Paired.uu t f)
def b8.iG(x:b8 P w H h a o)(k:∀b u,(b=a\/H b=Z (.own a))->h.get? b=Z u->h'.get? b=Z u)(B:∀b,H b=Z (.own a)->aE b=Z (.own a))(D:∀b xs,H b=Z (.tup xs)->aE b=Z (.tup xs)):b8 P w aE h' a o:=by
 induction o with
 |lst xs=>obtain⟨z,its,n,r,e⟩:=x;exact⟨z,its,n,r,k _ _ (.inl rfl) e⟩
 |tup xs=>obtain⟨z,its,r,g,e,c⟩:=x;exact⟨z,its,r,g,k _ _ (.inl rfl) e,c⟩
 |cg G=>obtain⟨z,y,L,r,g,j,i,e,c⟩:=x;exact⟨z,y,L,r,g,j,i,k _ _ (.inl rfl) e,c⟩
 |cD G =>
  obtain⟨z,y,xs,r,g,j,i,e,c⟩:=x;exact⟨z,y,xs,Paired.uu r λp q z=>⟨z.1,D _ _ z.2.1,z.2.2⟩,g,j,i,k _ _ (.inl rfl) e,c⟩
 |set S n=>obtain⟨g,j,i,t,e,c⟩:=x;exact⟨g,j,i,t,k _ _ (.inl rfl) e,c⟩
 |ins C M A =>
  obtain⟨d,z,I,e,l,⟨m,j,i,e2,c⟩,r⟩:=x;exact⟨B _ d,z,I,k _ _ (.inl rfl) e,l,⟨m,j,i,k _ _ (.inr d) e2,c⟩,r⟩
 |own y=>obtain⟨g,e⟩:=x;exact⟨g,k _ _ (.inl rfl) e⟩
 |q8 A=>obtain⟨l,⟨m,j,i,e,c⟩,r⟩:=x;exact⟨l,⟨m,j,i,k _ _ (.inl rfl) e,c⟩,r⟩
 |cF lo hi=>obtain⟨t,u,v,e⟩:=x;exact⟨t,u,v,k _ _ (.inl rfl) e⟩
 |cx g u E=>obtain⟨e,q⟩:=x;exact⟨k _ _ (.inl rfl) e,E q⟩
 |jI s =>
  have e:h.get? a=Z { cls:=.none,data:=.fields s }:=x;show h'.get? a=Z { cls:=.none,data:=.fields s };exact k a _ (.inl rfl) e
 |met f y =>
  have e:h.get? a=Z (PySem.W.methodObj (.ref f) (.ref y)):=x;show h'.get? a=Z (PySem.W.methodObj (.ref f) (.ref y));exact k a _ (.inl rfl) e
 |ext N=>obtain⟨p,⟨o,e⟩,st⟩:=x;exact⟨st _ _ p λo q=>k _ _ (.inl rfl) q,⟨o,k _ _ (.inl rfl) e⟩,st⟩
theorem cC.lt(x:cC P w H h)(e:H a=Z o):a<h.objs.size:=(x a o e).lt
def cC.fresh(x:cC P w H h)(e:h.objs.size<=a):H a=none:=by
 cases q:H a with
 |none=>rfl
 |some u=>exact absurd (P2 (x.lt q) e) (Rm _)
def cC.kept(x:cC P w H h)(k:∀b u,h.get? b=Z u->h'.get? b=Z u):cC P w H h':=λa o e =>
 (x a o e).iG (λb u _ q=>k b u q) (λ_ q=>q) λ_ _ q=>q
def cC.laid(x:cC P w H h)(k:∀b u,h.get? b=Z u->h'.get? b=Z u)(g:h.objs.size<=a)(i:b8 P w (upd H a o) h' a o):cC P w (upd H a o) h':=λb u e=>by
 have f:=x.fresh g
 by_cases d:b=a
 .subst d;rw[b7]at e;cases e;exact i
 .rw[bo d]at e;exact(x b u e).iG (λc v _ q=>k c v q) (λc q=>by rw[bo (jt q f)];exact q) λc xs q=>by rw[bo (jt q f)];exact q
end
def fu(H:ah)(a:VU)(u:e8):Prop:=H a=Z u\/∃o,H a=Z (.cx o u)
def fu.ok(r:fu H a u)(x:cC P w H h):b8 P w H h a u:=by
 rcases r with r|⟨o,r⟩
 .exact x a u r
 .obtain⟨_,q⟩:=x a _ r;exact q
def mA:Option e8->Prop
 |some (.lst _)=>True
 |some (.cg _)=>True
 |some (.cD _)=>True
 |some (.set _ _)=>True
 |some (.ins _ _ _)=>True
 |some (.ext _)=>True
 |_=>False
section
variable{P:Wd}{w:Wo}{H:ah}{h h':We}{x e:VU}{nM:e8}
def cC.write (s : cC P w H h) (g : mA (H x)) (i : e = x \/ H e = Z (.own x)) (k : ∀ b u, b ≠ e -> h.get? b = Z u -> h'.get? b = Z u) (m : ∃ u, h'.get? e = Z u)
    (o : b8 P w (upd H x nM) h' x nM) : cC P w (upd H x nM) h' := fun b u q => by
  have j : ∀ c y, H c = Z (.own y) -> c ≠ x := fun c y r z => by subst z; rw [r] at g; exact g
  have p : ∀ c xs, H c = Z (.tup xs) -> c ≠ x := fun c xs r z => by subst z; rw [r] at g; exact g
  by_cases a : b = x
  · subst a; rw [b7] at q; cases q; exact o
  · rw [bo a] at q
    by_cases d : b = e
    · have l : H b = Z (.own x) := by
        rcases i with z | z
        · exact absurd (d.trans z) a
        · rw [d]; exact z
      rw [q] at l; cases l
      obtain ⟨v, n⟩ := m
      exact ⟨v, by rw [d]; exact n⟩
    · refine (s b u q).iG (fun c v f r => k c v ?_ r) (fun c r => by rw [bo (j c b r)]; exact r) fun c xs r => by rw [bo (p c xs r)]; exact r
      rcases f with rfl | f
      · exact d
      · rintro rfl
        rcases i with z | z
        · exact j c b f z
        · rw [f] at z; cases z; exact a rfl
end
structure dz(bj ex:List VU)(H aE:ah)(h h':We):Prop where
 keep:∀b o,h.get? b=Z o->H b=Y->b∉bj->b∉ex->h'.get? b=Z o
 slot:∀b o,h.get? b=Z o->H b=Y->b∈bj->b∉ex->∃MV,h'.get? b=Z { o with slots:=MV }
 free:∀b o,h.get? b=Z o->H b=Y->b∉ex->aE b=Y
 there:∀b o,h.get? b=Z o->b∉ex->∃nM,h'.get? b=Z nM
 hS:∀b xs,H b=Z (.tup xs)->aE b=Z (.tup xs)
 gV:∀b o u,H b=Z (.cx o u)->aE b=Z (.cx o u)
 hQ:∀b d7,H b=Z (.jI d7)->∃more,aE b=Z (.jI (d7++more))
section
variable{bj GI ex PB:List VU}{H H1 eL:ah}{h aI h2 h':We}{a x e:VU}{o:e8}
def dz.any(u:dz bj ex H H1 h aI)(q:h.get? b=Z c)(n:H b=Y)(f:b∉ex):∃g,aI.get? b=Z { c with slots:=g }:=by
 by_cases d:b∈bj
 .exact u.slot b c q n d f
 .exact⟨c.slots,u.keep b c q n d f⟩
def dz.kept(k:∀b u,h.get? b=Z u->h'.get? b=Z u):dz bj ex H H h h' :=
 ⟨λb c q _ _ _=>k b c q,λb c q _ _ _=>⟨c.slots,k b c q⟩,λ_ _ _ n _=>n,λb c q _=>⟨c,k b c q⟩,λ_ _ q=>q,λ_ _ _ q=>q,λ_ d q=>⟨#[],by rw[q];simp⟩⟩
def dz.refl:dz bj ex H H h h:=dz.kept λ_ _ q=>q
def dz.laid(k:∀b u,h.get? b=Z u->h'.get? b=Z u)(d:h.objs.size<=a)(c:H a=Y):dz bj ex H (upd H a o) h h' where
 keep:=λb u q _ _ _=>k b u q
 slot:=λb u q _ _ _=>⟨u.slots,k b u q⟩
 free:=λb u q n _=>by rw[bo (Ql (P2 (P7 q) d))];exact n
 there:=λb u q _=>⟨u,k b u q⟩
 hS:=λb xs q=>by rw[bo (jt q c)];exact q
 gV:=λb u xs q=>by rw[bo (jt q c)];exact q
 hQ:=λb f q=>⟨#[],by rw[bo (jt q c),q];simp⟩
def dz.write(c:mA (H x))(j:e=x\/H e=Z (.own x))(k:∀b u,b≠e->h.get? b=Z u->h'.get? b=Z u)(l:∃u,h'.get? e=Z u):dz bj ex H (upd H x o) h h':=by
 have i:∀b,H b=Y->b≠x:=λb n z=>by subst z;rw[n]at c;exact c
 have f:∀b,H b=Y->b≠e:=λb n z=>by
  subst z;rcases j with r|r
  .exact i b n r
  .rw[n]at r;cases r
 have d:∀b u,H b=Z u->¬mA (Z u)->b≠x:=λb u q nm z=>by subst z;rw[q]at c;exact nm c
 refine⟨λb u q n _ _=>k b u (f b n) q,λb u q n _ _=>⟨u.slots,k b u (f b n) q⟩,λb u q n _=>by rw[bo (i b n)];exact n,λb u q _=>?_,
  λb xs q=>by rw[bo (d b _ q λz=>z)];exact q,λb u xs q=>by rw[bo (d b _ q λz=>z)];exact q,λb m q=>⟨#[],by rw[bo (d b _ q λz=>z),q];simp⟩⟩
 by_cases g:b=e
 .subst g;exact l
 .exact⟨u,k b u g q⟩
end
abbrev qY(h:We)(H:ah):List Addr:=(VN h.objs.size).filter λa=>(H a).isSome
def ic(h:We)(H:ah):Heap:=PySem.W.hideAll h (qY h H)
def G7(h)(H):(ic h H).objs.size=h.objs.size:=PySem.W.hideAll_size _ _
def G6(e:h.get? b=Z o)(n:H b=Y):(ic h H).get? b=Z o :=
 PySem.W.hideAll_get _ e λa=>by
  have q:(H b).isSome=true:=(QH.mp a).2;rw[n]at q;simp at q
def JN(e:(ic h H).get? b=Z o):h.get? b=Z o/\H b=none:=by
 have a:h.get? b=Z o:=PySem.W.of_hideAll (qY h H) e;refine⟨a,?_⟩;cases q:H b with
 |none=>rfl
 |some x =>
  have c:b∈qY h H:=QH.mpr ⟨V0.mpr (P7 a),by simp[q]⟩;have z:(ic h H).get? b=none:=PySem.W.hideAll_none (qY h H) c;rw[z]at e;cases e
abbrev C5(g h:We)(L:VU):List (VU×WS):=(VN h.objs.size).filterMap λa=>if a=L\/(g.get? a).isSome=J then Y else(h.get? a).map λo=>(a,o)
def rest(g h:We)(L d:VU):List (VU×WS):=(C5 g h L).filter λp=>decide (p.1≠d)
end az
namespace az
open PySem PySem.Spec PyProof.Rows
structure Mod(K:W.Frag)(ao:V1->Option VI)(base:We):Prop where
 ud:K.In base
 glob:base.Ns V2 ao
 blt:∃zz,base.Ns builtinsNs zz/\∀x:V1,x≠"__name__"->zz x=Wu x
 nolimit:base.NoLimit
structure aq where
 prog:Wd
 w:Wo
 K:W.Frag
 ao:V1->Option VI
 base:We
 A:Wg
 N:List V1
 dT:VL
 mx:ah
 env:Env
 outer:List Env
 stack:List Env
 ex:List VU
 fn:V1->Bool
 calm:Bool
 b6:List (VU×WS)
 a6:VI->VL->Prop
abbrev ef(l:List Env):List Addr:=l.filterMap (·.frame)
noncomputable abbrev aq.bj(X:aq):List Addr:=ef X.outer
def dV(a:Xr)(x:V1):Prop:=a.names.lookup x=Z .local\/a.names.lookup x=Z .cell\/a.names.lookup x=Z .free
def Loc(a:Xr)(x:V1):Prop:=a.names.lookup x=Z .local\/a.names.lookup x=Z .cell
def Look(env:Env)(h:We)(m:V1->Option VI)(x:V1)(u:VI):Prop :=
 (env.kindOf x=Z .local/\m x=Z u)\/((env.kindOf x=Z .cell\/env.kindOf x=Z .free)/\∃c,env.cells.lookup x=Z c/\h.IsCell c (Z u))
structure aq.Ok(X:aq):Prop where
 mod:Mod X.K X.ao X.base
 kind:X.env.scope.kind=.function
 glob:X.env.globals=V2
 blt:X.env.builtins=builtinsNs
 above:X.dT.heap.objs.size<=X.env.locals
 inj:∀x y c,X.env.cells.lookup x=Z c->X.env.cells.lookup y=Z c->x=y
 has:∀x,(X.env.kindOf x=Z .cell\/X.env.kindOf x=Z .free)->∃c,X.env.cells.lookup x=Z c
 mP:∀x c,X.fn x=J->X.env.cells.lookup x=Z c->X.dT.heap.objs.size<=c
 hd:X.calm=J->X.A.handled=Y
 frames:X.A.frames=Z X.stack
 kN:X.stack=X.outer\/(X.stack=X.env::X.outer/\X.env.frame=Z X.env.locals)
 tA:∀b∈X.ex,b≠X.env.locals/\∀x c,X.env.cells.lookup x=Z c->c≠b
 bs:∀b o,X.base.get? b=Z o->X.dT.heap.get? b=Z o/\X.mx b=Y
 ka:X.base.objs.size<=X.dT.heap.objs.size
 nL:∀b o,X.base.get? b=Z o->b∉X.ex
 ly:∀b∈X.ex,b∉X.bj
 gw:X.dT.heap.FunFrames X.base X.outer
 lC:∀b∈X.bj,X.mx b=Y
structure Inv(X:aq)(pins:List (VU×WS))(σ:List (Option V))(H:ah)(s:VL):Prop where
 ok:X.Ok
 os:s.os=X.dT.os
 bare:Xx s.gens
 base:dz X.bj X.ex X.mx H X.dT.heap s.heap
 loc:∃m,s.heap.Ns X.env.locals m/\∀(i:Nat)(x:V1)(v:V),X.N[i]?=Z x->σ[i]?=Z (Z v)->dV X.env.scope x->∃u,RelV v u/\Look X.env s.heap m x u
 cell:∀x c,X.env.cells.lookup x=Z c->∃v,s.heap.IsCell c v
 free:H X.env.locals=Y
 fi:∀x c,X.env.cells.lookup x=Z c->H c=Y
 pin:∀p∈X.b6++pins,s.heap.get? p.1=Z p.2/\H p.1=Y/\p.1≠X.env.locals/\p.1∉X.bj/\∀v,p.2.data≠.cell v
 aM:cC X.prog X.w H s.heap
 len:σ.length=X.N.length
section
variable{X:aq}{pins:List (VU×WS)}{σ:List (Option V)}{H aE:ah}{s:VL}{h':We}
def aq.Ok.JG(c:X.Ok)(e:X.base.get? b=Z o):b∉X.bj:=λa=>by
 have:=(c.gw.mem a).1;rw[e]at this;cases this
theorem Inv.bs(I:Inv X pins σ H s):∀b o,X.base.get? b=Z o->s.heap.get? b=Z o/\H b=none:=λb o e =>
 ⟨I.base.keep b o (I.ok.bs b o e).1 (I.ok.bs b o e).2 (I.ok.JG e) (I.ok.nL b o e),I.base.free b o (I.ok.bs b o e).1 (I.ok.bs b o e).2 (I.ok.nL b o e)⟩
def Inv.fc(I:Inv X pins σ H s):∀b o,X.base.get? b=Z o->s.heap.get? b=Z o:=λb o e=>(I.bs b o e).1
theorem Inv.mod(I:Inv X pins σ H s):Mod X.K X.ao X.base:=I.ok.mod
def Inv.dQ(I:Inv X pins σ H s):X.K.In s.heap:=I.ok.mod.ud.keeps I.fc
theorem Inv.lt(I:Inv X pins σ H s):X.env.locals<s.heap.objs.size:=let ⟨_,a,_⟩:=I.loc;a.lt
def Inv.e7(I:Inv X pins σ H s):X.dT.heap.objs.size<=s.heap.objs.size:=Qk I.ok.above (QM I.lt)
def Inv.qi(I:Inv X pins σ H s){a:VU}(h:s.heap.objs.size<=a):a∉X.bj:=λb=>by
 obtain⟨_,o,c,_⟩:=I.ok.gw.mem b;exact absurd (P2 (P7 c) (Qk I.e7 h)) (Rm _)
def Inv.oV(I:Inv X pins σ H s):∀x c,X.env.cells.lookup x=Z c->c≠X.env.locals:=λx c e z=>by
 obtain⟨v,o,b,a⟩:=I.cell x c e;obtain⟨m,⟨i,h,g,f,d,_⟩,_⟩:=I.loc;rw[z,f]at b;cases b;rw[d]at a;cases a
theorem Inv.gw(I:Inv X pins σ H s):s.heap.FunFrames X.base X.outer:=by
 have all:∀(l:List Env),(∀b∈ef l,b∈X.bj)->X.dT.heap.FunFrames X.base l->s.heap.FunFrames X.base l:=by
  intro l
  induction l with
  |nil=>intro _ _;trivial
  |cons env r n =>
   intro f i;obtain⟨h,⟨L,o,d,j,k,g⟩,m⟩:=i;have a:L∈X.bj:=f L (by unfold ef;rw[Wz,d];exact VE);obtain⟨p,e⟩:=I.base.slot L o k (I.ok.lC L a) a λz=>I.ok.ly L z a
   exact⟨h,⟨L,_,d,j,e,g⟩,n (λb c=>f b (by unfold ef;rw[Wz,d];exact VJ _ c)) m⟩
 exact all X.outer (λ_ c=>c) I.ok.gw
theorem Inv.stack(I:Inv X pins σ H s):s.heap.FunFrames X.base X.stack:=by
 rcases I.ok.kN with e|⟨e,a⟩
 .rw[e];exact I.gw
 .rw[e];obtain⟨m,b,_⟩:=I.loc;refine .cons (by rw[I.ok.kind];decide) a b ?_ I.gw;exact Heap.get?_none_of_le (Qk I.ok.ka I.ok.above)
def Inv.kO(I:Inv X pins σ H s):∀b∈ef X.stack,b∈X.env.locals::X.bj:=λb a=>by
 rcases I.ok.kN with e|⟨e,c⟩
 .rw[e]at a;exact VJ _ a
 .rw[e]at a;unfold ef at a;rw[Wz,c]at a;exact a
def Inv.vr(I:Inv X pins σ H s):∀b∈ef X.stack,H b=none:=λb a=>by
 rcases P1.mp (I.kO b a) with e|a
 .rw[e];exact I.free
 .obtain⟨_,o,c,_⟩:=I.ok.gw.mem a;exact I.base.free b o c (I.ok.lC b a) λz=>I.ok.ly b z a
def Inv.step{ch:List VU}(I:Inv X pins σ H s)(h:∀b∈ch,(b∈X.ex\/X.dT.heap.objs.size<=b)/\b≠X.env.locals/\(∀x c,X.env.cells.lookup x=Z c->c≠b)/\∀p∈X.b6++pins,p.1≠b)(B:∀b o,b≠X.env.locals->b∉X.bj->b∉ch->s.heap.get? b=Z o->H b=Y->h'.get? b=Z o)(O:∀b o,b≠X.env.locals->b∈X.bj->b∉ch->s.heap.get? b=Z o->H b=Y->∃C,h'.get? b=Z { o with slots:=C })(free:∀b o,b∉ch->s.heap.get? b=Z o->H b=Y->aE b=Y)(a3:∀b o,b∉ch->s.heap.get? b=Z o->∃t,h'.get? b=Z t)(a4:∀b xs,H b=Z (.tup xs)->aE b=Z (.tup xs))(Q:∀b o u,H b=Z (.cx o u)->aE b=Z (.cx o u))(a2:∀b y,H b=Z (.jI y)->∃a0,aE b=Z (.jI (y++a0)))(ns:∀m,s.heap.Ns X.env.locals m->h'.Ns X.env.locals m)(aM:cC X.prog X.w aE h')(R:Xx g'):
  Inv X pins σ aE { s with heap:=h',gens:=g',drawn:=d',toks:=t' }:=by
 have M:∀b o,X.dT.heap.get? b=Z o->b≠X.env.locals:=λb o e=>Ql (P2 (P7 e) I.ok.above)
 have w:∀b o,X.dT.heap.get? b=Z o->b∉X.ex->b∉ch:=λb o e a f=>by
  rcases(h b f).1 with z|z
  .exact a z
  .exact absurd (P2 (P7 e) z) (Rm _)
 have D:∀x c,X.env.cells.lookup x=Z c->∀v,s.heap.IsCell c v->h'.IsCell c v:=λx c e v a5=>by
  obtain⟨o,g,A⟩:=a5;have j:c∉ch:=λz=>(h c z).2.2.1 x c e rfl
  by_cases E:c∈X.bj
  .obtain⟨C,q⟩:=O c o (I.oV x c e) E j g (I.fi x c e);exact⟨_,q,A⟩
  .exact⟨o,B c o (I.oV x c e) E j g (I.fi x c e),A⟩
 refine⟨I.ok,I.os,R,⟨λb o e n f a=>?_,λb o e n f a=>?_,λb o e n a=>?_,λb o e a=>?_,λb xs e=>a4 b xs (I.base.hS b xs e),λb o xs e=>Q b o xs (I.base.gV b o xs e),λb y e=>?_⟩,?_,λx c e=>?_,?_,λx c e=>?_,λp G=>?_,aM,I.len⟩
 .exact B b o (M b o e) f (w b o e a) (I.base.keep b o e n f a) (I.base.free b o e n a)
 .obtain⟨C,e1⟩:=I.base.slot b o e n f a;obtain⟨a1,e2⟩:=O b _ (M b o e) f (w b o e a) e1 (I.base.free b o e n a);exact⟨a1,e2⟩
 .obtain⟨t,e1⟩:=I.base.there b o e a;exact free b t (w b o e a) e1 (I.base.free b o e n a)
 .obtain⟨t,e1⟩:=I.base.there b o e a;exact a3 b t (w b o e a) e1
 .obtain⟨U,e1⟩:=I.base.hQ b y e;obtain⟨m2,e2⟩:=a2 b _ e1;exact⟨U++m2,by rw[e2,Array.append_assoc]⟩
 .obtain⟨m,T,S⟩:=I.loc;refine⟨m,ns m T,λi x v e1 e2 e3=>?_⟩;obtain⟨u,r,l⟩:=S i x v e1 e2 e3;refine⟨u,r,?_⟩;rcases l with l|⟨k,c,e,z⟩
  .exact .inl l
  .exact .inr ⟨k,c,e,D x c e _ z⟩
 .obtain⟨v,z⟩:=I.cell x c e;exact⟨v,D x c e v z⟩
 .obtain⟨m,⟨o,_,_,g,_⟩,_⟩:=I.loc;exact free _ o (λz=>(h _ z).2.1 rfl) g I.free
 .obtain⟨v,o,g,A⟩:=I.cell x c e;exact free c o (λz=>(h c z).2.2.1 x c e rfl) g (I.fi x c e)
 .obtain⟨e,n,L,N,d⟩:=I.pin p G;have j:p.1∉ch:=λz=>(h p.1 z).2.2.2 p G rfl
  exact⟨B p.1 p.2 L N j e n,free p.1 p.2 j e n,L,N,d⟩
def Inv.un(I:Inv X pins σ H s)(u:dz X.bj [] H aE s.heap h')(aM:cC X.prog X.w aE h'):Inv X pins σ aE { s with heap:=h',toks:=t' }:=by
 obtain⟨m,⟨o,l,k,c,r⟩,_⟩:=id I.loc;obtain⟨t,h⟩:=u.any c I.free (by simp);exact I.step (g':=s.gens) (d':=s.drawn) (ch:=[]) (λ_ z=>nomatch z) (λb o _ a _ e n=>u.keep b o e n a (by simp)) (λb o _ a _ e n=>u.slot b o e n a (by simp)) (λb o _ e n=>u.free b o e n (by simp)) (λb o _ e=>u.there b o e (by simp)) u.hS u.gV u.hQ (λp i=>by
  obtain⟨q,g,f,d,j⟩:=i;rw[c]at d;cases d;exact⟨_,g,f,h,j⟩) aM I.bare
def Inv.call(I:Inv X pins σ H s)(u:dz (ef X.stack) ch H aE s.heap h')(aM:cC X.prog X.w aE h')(l:Xx g')(f:∀b∈ch,(b∈X.ex\/X.dT.heap.objs.size<=b)/\b≠X.env.locals/\(∀x c,X.env.cells.lookup x=Z c->c≠b)/\∀p∈X.b6++pins,p.1≠b):
  Inv X pins σ aE { s with heap:=h',gens:=g',drawn:=d',toks:=t' }:=by
 obtain⟨m,⟨o,w,v,g,r⟩,_⟩:=id I.loc;obtain⟨B,d⟩:=u.any g I.free λz=>(f _ z).2.1 rfl
 exact I.step (ch:=ch) f (λb o d k a e n=>u.keep b o e n (λz=>(P1.mp (I.kO b z)).elim d k) a) (λb o _ _ a e n=>u.any e n a) (λb o a e n=>u.free b o e n a) (λb o a e=>u.there b o e a) u.hS u.gV u.hQ (λy q=>by
  obtain⟨A,j,i,h,t⟩:=q;rw[g]at h;cases h;exact⟨_,j,i,d,t⟩) aM l
def Inv.turned(I:Inv X pins σ H s)(k:∀b o,b≠it->s.heap.get? b=Z o->h'.get? b=Z o)(t:H it=Y)(d:it≠X.env.locals)(i:it∈X.ex\/X.dT.heap.objs.size<=it)(h2:∀x c,X.env.cells.lookup x=Z c->c≠it)(h3:∀p∈X.b6++pins,p.1≠it):Inv X pins σ H { s with heap:=h',toks:=t' }:=by
 have f:∀b u,H b=Z u->b≠it:=λb u e z=>by rw[z,t]at e;cases e
 refine I.step (g':=s.gens) (d':=s.drawn) (ch:=[it]) (λb j=>?_) (λb o _ _ a e _=>k b o (λz=>a (by simp[z])) e) (λb o _ _ a e _=>⟨o.slots,k b o (λz=>a (by simp[z])) e⟩) (λ_ _ _ _ n=>n)
  (λb o a e=>⟨o,k b o (λz=>a (by simp[z])) e⟩) (λ_ _ e=>e) (λ_ _ _ e=>e) (λb y e=>⟨#[],by rw[e];simp⟩) (λm l=>?_) (λb u e=>?_) I.bare
 .have e:b=it:=⇑j;subst e;exact⟨i,d,h2,h3⟩
 .obtain⟨o,h,g,w,r⟩:=l;exact⟨o,h,g,k _ o (Q8 d) w,r⟩
 .refine(I.aM b u e).iG (λc v a q=>k c v ?_ q) (λ_ q=>q) λ_ _ q=>q
  rcases a with z|z
  .rw[z];exact f b u e
  .exact f c _ z
def Inv.tok(I:Inv X pins σ H s)(t):Inv X pins σ H { s with toks:=t }:=I.un (h':=s.heap) (t':=t) dz.refl I.aM
theorem Inv.kept(I:Inv X pins σ H s)(k:∀b u,s.heap.get? b=Z u->h'.get? b=Z u):Inv X pins σ H { s with heap:=h',toks:=t' }:=I.un (dz.kept k) (I.aM.kept k)
theorem Inv.laid{a:VU}(I:Inv X pins σ H s)(k:∀b u,s.heap.get? b=Z u->h'.get? b=Z u)(c:s.heap.objs.size<=a)(d:b8 X.prog X.w (upd H a o) h' a o):
  Inv X pins σ (upd H a o) { s with heap:=h',toks:=t' }:=I.un (dz.laid k c (I.aM.fresh c)) (I.aM.laid k c d)
theorem Inv.write(I:Inv X pins σ H s)(d:mA (H x))(a:e=x\/H e=Z (.own x))(k:∀b u,b≠e->s.heap.get? b=Z u->h'.get? b=Z u)(c:∃u,h'.get? e=Z u)(f:b8 X.prog X.w (upd H x o) h' x o):Inv X pins σ (upd H x o) { s with heap:=h',toks:=t' }:=I.un (dz.write d a k c) (I.aM.write d a k c f)
def Inv.u0(I:Inv X pins σ H s)(h:∀p∈b,s.heap.get? p.1=Z p.2/\H p.1=Y/\p.1≠X.env.locals/\p.1∉X.bj/\∀v,p.2.data≠.cell v):Inv X b σ H s :=
 ⟨I.ok,I.os,I.bare,I.base,I.loc,I.cell,I.free,I.fi,λp a=>(P8.mp a).elim (λz=>I.pin p (VZ _ z)) (h p),I.aM,I.len⟩
def zV{N:List V1}(c:N.Nodup){i j:Nat}(a:N[i]?=Z x)(b:N[j]?=Z x):i=j:=by
 obtain⟨d,e1⟩:=Qp.mp a;obtain⟨h2,e2⟩:=Qp.mp b;exact(List.getElem_inj c).mp (e1.trans e2.symm)
def Nn(I:Inv X pins σ H s)(a3:X.N.Nodup)(hi:X.N[i]?=Z x)(l:Loc X.env.scope x)(r:RelV v u)(h:∀s',Inv X pins (σ.set i (Z v)) H s'->(∃a,Wr a s.heap s'.heap/\(a=X.env.locals\/X.env.cells.lookup x=Z a))->Q () s')(bf:X.fn x=J\/X.env.scope.names.lookup x=Z .local):VO M A (storeName X.env x u) Q E s:=by
 obtain⟨m,O,aG⟩:=id I.loc;have bp:(X.env.scope.kind==.class||(X.env.scope.kind==.module&&X.env.locals != X.env.globals))=false:=by rw[I.ok.kind];rfl
 have aA:i<σ.length:=by rw[I.len];exact(Qp.mp hi).1
 have L:=I.oV;have b1:∀{a:VU}{h':We},(∃o,s.heap.get? a=Z o/\H a=Y)->Wr a s.heap h'->cC X.prog X.w H h':=λ{a h'} b2 f b bH e=>by
  obtain⟨_,_,aw⟩:=b2;refine(I.aM b bH e).iG (λc G g q=>(f.2 c ?_).trans q) (λ_ q=>q) λ_ _ q=>q
  rintro rfl;rcases g with rfl|g
  .rw[aw]at e;cases e
  .rw[aw]at g;cases g
 rcases l with t|t
 .refine wpAny_storeName_local t O (λh' bh f=>?_) bp;obtain⟨bq,_,_,bw,_⟩:=id O;refine h _ ⟨I.ok,I.os,I.bare,⟨λb o e n w l=>?_,λb o e n w l=>?_,I.base.free,λb o e l=>?_,I.base.hS,I.base.gV,I.base.hQ⟩,⟨_,bh,λj y a2 e1 e2 e3=>?_⟩,λy c e=>?_,I.free,I.fi,λp R=>?_,b1 ⟨bq,bw,I.free⟩ f,⇑I.len⟩ ⟨_,f,.inl rfl⟩
  .exact(f.2 b (Ql (P2 (P7 e) I.ok.above))).trans (I.base.keep b o e n w l)
  .obtain⟨a0,e1⟩:=I.base.slot b o e n w l;exact⟨a0,(f.2 b (Ql (P2 (P7 e) I.ok.above))).trans e1⟩
  .obtain⟨T,e1⟩:=I.base.there b o e l;exact⟨T,(f.2 b (Ql (P2 (P7 e) I.ok.above))).trans e1⟩
  .by_cases B:j=i
   .subst B;rw[hi]at e1;cases e1;rw[X6 aA]at e2;cases e2;exact⟨u,r,.inl ⟨t,by simp⟩⟩
   .rw[T3 (Q8 B)]at e2;obtain⟨a1,U,q⟩:=aG j y a2 e1 e2 e3;refine⟨a1,U,?_⟩;rcases q with⟨k,e⟩|⟨k,c,e,z⟩
    .refine .inl ⟨k,?_⟩;have:y≠x:=λe=>B (zV a3 e1 (e▸hi))
     simp[this,e]
    .exact .inr ⟨k,c,e,z.sameBut f (L y c e)⟩
  .obtain⟨G,z⟩:=I.cell y c e;exact⟨G,z.sameBut f (L y c e)⟩
  .obtain⟨e,n,D,S,d⟩:=I.pin p R;exact⟨(f.2 p.1 D).trans e,n,D,S,d⟩
 .have N:X.fn x=true:=by
   rcases bf with z|z
   .exact z
   .rw[z]at t;cases t
  obtain⟨c,g⟩:=I.ok.has x (.inl t);obtain⟨G,z⟩:=I.cell x c g;refine wpAny_storeName_cell I.ok.kind t g z (λh' a4 f=>?_);obtain⟨aL,aJ,bk⟩:=id z;refine h { s with heap:=h' } ⟨I.ok,I.os,I.bare,⟨λb o e n w l=>?_,λb o e n w l=>?_,I.base.free,λb o e l=>?_,I.base.hS,I.base.gV,I.base.hQ⟩,⟨m,O.sameBut f (Q8 (L x c g)),λj y a2 e1 e2 e3=>?_⟩,λy C e=>?_,I.free,I.fi,λp R=>?_,b1 ⟨aL,aJ,I.fi x c g⟩ f,⇑I.len⟩ ⟨c,f,.inr g⟩
  .exact(f.2 b (Ql (P2 (P7 e) (I.ok.mP x c N g)))).trans (I.base.keep b o e n w l)
  .obtain⟨a0,e1⟩:=I.base.slot b o e n w l;exact⟨a0,(f.2 b (Ql (P2 (P7 e) (I.ok.mP x c N g)))).trans e1⟩
  .obtain⟨T,e1⟩:=I.base.there b o e l;exact⟨T,(f.2 b (Ql (P2 (P7 e) (I.ok.mP x c N g)))).trans e1⟩
  .by_cases B:j=i
   .subst B;rw[hi]at e1;cases e1;rw[X6 aA]at e2;cases e2;exact⟨u,r,.inr ⟨.inl t,c,g,a4⟩⟩
   .rw[T3 (Q8 B)]at e2;obtain⟨a1,U,q⟩:=aG j y a2 e1 e2 e3;refine⟨a1,U,?_⟩;rcases q with q|⟨k,C,e,dq⟩
    .exact .inl q
    .refine .inr ⟨k,C,e,dq.sameBut f ?_⟩;rintro rfl;exact B (zV a3 e1 (I.ok.inj _ _ _ e g▸hi))
  .by_cases a5:C=c
   .subst a5;exact⟨_,a4⟩
   .obtain⟨cO,bg⟩:=I.cell y C e;exact⟨cO,bg.sameBut f a5⟩
  .obtain⟨e,n,D,S,d⟩:=I.pin p R;refine⟨(f.2 p.1 ?_).trans e,n,D,S,d⟩;intro q;rw[q,aJ]at e;have bI:aL=p.2:=Qy e;exact d G (by rw[<- bI];exact bk)
def qQ{M:Zk}{A:Wg}{E:VI->VL->Prop}{i:Nat}{x:V1}{v:V}{u:VI}{Q:Unit->VL->Prop}(I:Inv X pins σ H s)(b:X.N.Nodup)(hi:X.N[i]?=Z x)(d:Loc X.env.scope x)(r:RelV v u)(h:∀s',Inv X pins (σ.set i (Z v)) H s'->Q () s')(c:X.fn x=J\/X.env.scope.names.lookup x=Z .local:=by first|exact .inl rfl|exact .inr rfl|assumption):VO M A (storeName X.env x u) Q E s :=
 Nn I b hi d r (λs' a _=>h s' a) c
def Inv.w2(I:Inv X pins σ H s)(f:s'.os=s.os)(u:dz (ef X.stack) ch H aE s.heap s'.heap)(aM:cC X.prog X.w aE s'.heap)(d:Xx s'.gens)(a:∀b∈ch,(b∈X.ex\/X.dT.heap.objs.size<=b)/\b≠X.env.locals/\(∀x c,X.env.cells.lookup x=Z c->c≠b)/\∀p∈X.b6++pins,p.1≠b):Inv X pins σ aE s':=by
 obtain⟨h',g',d',t',g⟩:=s';have e:g=s.os:=f;subst e;exact I.call (g':=g') (t':=t') (d':=d') u aM d a
end
noncomputable abbrev gM:=VI->Option VU->ah->Prop
noncomputable abbrev St:=List (Option V)
noncomputable abbrev cc:=V->ah->Prop
noncomputable abbrev TE:=St->ah->cc->Prop
noncomputable abbrev TT:=St->ah->(Bool->ah->Prop)->Prop
noncomputable abbrev d4:=St->ah->(List V->ah->Prop)->Prop
structure Ends where
 aN:St->ah->Prop
 bl:cc
 fc:St->ah->Prop:=λ_ _=>False
 ct:St->ah->Prop:=λ_ _=>False
noncomputable abbrev ek:=Ends->St->ah->Prop
def cU(X:aq)(b:List (VU×WS))(c:St)(Q:cc)(u:VI)(s':VL):Prop:=∃v a,Inv X b c a s'/\RelV v u/\Q v a
def mF(X:aq)(c:List (VU×WS))(d:St)(Q:Bool->ah->Prop)(b:Bool)(s':VL):Prop:=∃a,Inv X c d a s'/\Q b a
def CQ(X:aq)(c:List (VU×WS))(e:St)(Q:List V->ah->Prop)(d:List VI)(s':VL):Prop:=∃b a,Inv X c e a s'/\Vals b d/\Q b a
def jZ(X:aq)(c:List (VU×WS))(D:Ends)(f:Flow)(s':VL):Prop :=
 match f with
 |.next=>∃b a,Inv X c b a s'/\D.aN b a
 |.brk=>∃b a,Inv X c b a s'/\D.fc b a
 |.cont=>∃b a,Inv X c b a s'/\D.ct b a
 |.ret u=>∃v b a,Inv X c b a s'/\RelV v u/\D.bl v a
def ai(X:aq)(e:V3)(t:TE):Prop :=
 ∀(b:List (VU×WS))(s:VL)(a:St)(H:ah)(Q:cc),Inv X b a H s->t a H Q->VO (VW X.prog X.w) X.A (Wx e X.env) (cU X b a Q) X.a6 s
def cy(X:aq)(e:V3)(t:TT):Prop :=
 ∀(b:List (VU×WS))(s:VL)(a:St)(H:ah)(Q:Bool->ah->Prop),Inv X b a H s->t a H Q->VO (VW X.prog X.w) X.A (Y6 e X.env (Wx e X.env)) (mF X b a Q) X.a6 s
def f6(X:aq)(e:V3)(t:TT):Prop :=
 ∀(c:Z0 VI)(b:List (VU×WS))(s:VL)(a:St)(H:ah)(Q:Bool->ah->Prop),Inv X b a H s->t a H Q->VO (VW X.prog X.w) X.A (Y6 e X.env c) (mF X b a Q) X.a6 s
def f6.pt(h:f6 X e t):cy X e t:=h _
def dU(X:aq)(c:List V3)(t:d4):Prop :=
 ∀(pos:Xo)(b:List (VU×WS))(s:VL)(a:St)(H:ah)(Q:List V->ah->Prop),Inv X b a H s->t a H Q->VO (VW X.prog X.w) X.A (spliced (Xe pos (V4 c X.env))) (CQ X b a Q) X.a6 s
def bF(X:aq)(st:Wn)(t:ek):Prop :=
 ∀(a:List (VU×WS))(s:VL)(b:St)(H:ah)(D:Ends),Inv X a b H s->t D b H->VO (VW X.prog X.w) X.A (exec st X.env) (jZ X a D) X.a6 s
def d3(X:aq)(st:List Wn)(t:ek):Prop :=
 ∀(a:List (VU×WS))(s:VL)(b:St)(H:ah)(D:Ends),Inv X a b H s->t D b H->VO (VW X.prog X.w) X.A (execs st X.env) (jZ X a D) X.a6 s
def aP{α:Type}{t:Z0 α}{Q b:α->VL->Prop}(h:VO M A t Q E s)(c:∀a s,Q a s->b a s):VO M A t b E s:=Q2 h c λ_ _ x=>x
end az
namespace az
open PySem PySem.Spec PyProof.Rows
section
variable{X:aq}
def bin(l:ai X a A)(m:ai X b B){d:St}{R:V->V->ah->Prop}(I:Inv X g d H s)(h:A d H λx e=>B d e λy c=>R x y c){α:Type}{Q:α->VL->Prop}{f:VI->VI->Z0 α}(n:∀v u s2 x y c,Inv X g d c s2->RelV x v->RelV y u->R x y c->VO (VW X.prog X.w) X.A (f v u) Q X.a6 s2):
  VO (VW X.prog X.w) X.A (Wx a X.env) (λv w=>VO (VW X.prog X.w) X.A (Wx b X.env) (λu z=>VO (VW X.prog X.w) X.A (f v u) Q X.a6 z) X.a6 w) X.a6 s:=by
 refine aP (l g s d H _ I h) λv t i=>?_
 obtain⟨x,e,j,q,o⟩:=i;refine aP (m g t d e _ j o) λu s2 i=>?_
 obtain⟨y,c,k,r,p⟩:=i;exact n v u s2 x y c k q r p
abbrev jH(i:Nat):TE:=λa H Q=>∃v,a[i]?=Z (Z v)/\Q v H
abbrev jG(v:V):TE:=λ_ H Q=>Q v H
def eZ{i:Nat}{x:V1}{pos:Xo}(g:X.N[i]?=Z x)(p:dV X.env.scope x)(b:(x==("__debug__":V1))=false:=by decide)(j:(x==("__classdict__":V1))=false:=by decide):ai X (.Name x pos) (jH i):=by
 intro q s t H Q I h;obtain⟨v,e,h⟩:=h;obtain⟨m,o,k⟩:=I.loc;obtain⟨u,r,l⟩:=k i x v g e p;have fin:cU X q t Q u s:=⟨v,H,I,r,h⟩;rcases l with⟨a,n⟩|⟨a,c,d,f⟩
 .exact wpAny_Name (wpAny_loadName_local I.ok.kind a o n fin) b
 .rcases a with a|a
  .exact wpAny_Name (wpAny_loadName_cell I.ok.kind a d f fin) b
  .exact wpAny_Name (wpAny_loadName_free I.ok.kind a d f fin j) b
def Kk{i j pos}:ai X (.Constant (.int i) j pos) (jG (.int i)):=λ_ _ _ H _ I h=>wpAny_Constant_int ⟨.int i,H,I.tok _,⟨_,rfl⟩,h⟩
def Kb{b j pos}:ai X (.Constant (.bool b) j pos) (jG (.ag b)):=λ_ _ _ H _ I h=>Constant_bool ⟨.ag b,H,I,rfl,h⟩
def Km{j pos}:ai X (.Constant .none j pos) (jG .b0):=λ_ _ _ H _ I h=>Constant_none ⟨.b0,H,I,rfl,h⟩
def Ak{x j pos}:ai X (.Constant (.str x) j pos) (jG (.str x)):=λ_ _ _ H _ I h=>Calls.Constant_str ⟨.str x,H,I.tok _,⟨_,rfl⟩,h⟩
def cN(X:aq)(x:V1):Prop:=X.env.kindOf x=Z .globalImplicit
def pZ{E:VI->VL->Prop}{d:List (VU×WS)}{s:VL}{e:St}{H:ah}{x:V1}{u:VI}{pos:Xo}{Q:VI->VL->Prop}(I:Inv X d e H s)(b:cN X x)(c:X.ao x=Z u)(h:Q u s)(a:(x==("__debug__":V1))=false:=by decide):VO (VW X.prog X.w) X.A (Wx (.Name x pos) X.env) Q E s :=
 Ui I.ok.kind b (Calls.loadGlobal_global (by rw[I.ok.glob];exact I.mod.glob.keeps I.fc) c h) a
def jl{E:VI->VL->Prop}{g:List (VU×WS)}{s:VL}{i:St}{H:ah}{x:V1}{u:VI}{pos:Xo}{Q:VI->VL->Prop}(I:Inv X g i H s)(c:cN X x)(d:X.ao x=Y)(f:Wu x=Z u)(h:Q u s)(e:x≠"__name__":=by decide)(b:(x==("__debug__":V1))=false:=by decide):VO (VW X.prog X.w) X.A (Wx (.Name x pos) X.env) Q E s:=by
 obtain⟨j,a,h2⟩:=I.mod.blt;exact Ui I.ok.kind c (Calls.loadGlobal_builtin (by rw[I.ok.glob];exact I.mod.glob.keeps I.fc) d (by rw[I.ok.blt];exact a.keeps I.fc) ((h2 x e).trans f) h) b
def Ag{x:V1}{v:V}{u:VI}{pos:Xo}(b:cN X x)(c:X.ao x=Z u)(r:RelV v u)(a:(x==("__debug__":V1))=false:=by decide):ai X (.Name x pos) (jG v) :=
 λ_ _ _ H _ I h=>pZ I b c ⟨v,H,I,r,h⟩ a
def Ad{x:V1}{v:V}{u:VI}{pos:Xo}(b:cN X x)(c:X.ao x=Y)(e:Wu x=Z u)(r:RelV v u)(d:x≠"__name__":=by decide)(a:(x==("__debug__":V1))=false:=by decide):ai X (.Name x pos) (jG v) :=
 λ_ _ _ H _ I h=>jl I b c e ⟨v,H,I,r,h⟩ d a
variable{a b:V3}{bR bS:TE}{pos:Xo}
def oE(X:aq)(op:CmpOp)(a b:V3)(t:TE):Prop :=
 ∀(d:List (VU×WS))(s:VL)(c:St)(H:ah)(Q:cc),Inv X d c H s->t c H Q ->
  VO (VW X.prog X.w) X.A (Wx a X.env) (λv e=>VO (VW X.prog X.w) X.A (Wx b X.env) (λu f=>VO (VW X.prog X.w) X.A (Wa op v u) (cU X d c Q) X.a6 f) X.a6 e) X.a6 s
abbrev Ny(t:TE):TT:=λe H Q=>t e H λx d=>∃c,x=.ag c/\Q c d
def Lb{e:V3}{t:TE}(h:ai X e t)(i:∀c,Y6 e X.env c=(do let v <- c;standAt e.pos;Zl [v] (truthy v)):=by intro _;rfl):cy X e (Ny t):=by
 intro j s n H Q I hw;refine isTrue_plain (aP (h j s n H _ I hw) λv o m=>?_) (i _);obtain⟨x,f,g,l,k⟩:=m;obtain⟨d,rfl,q⟩:=k;cases l;exact Rq ⟨f,g,q⟩
variable{hP qT:TT}{rest:List V3}
abbrev Nw(t u:TT):TT:=λe H Q=>t e H λc d=>if c=J then u e d Q else Q VF d
abbrev NO(t u:TT):TT:=λe H Q=>t e H λc d=>if c=J then Q J d else u e d Q
abbrev NM(t:TT):TT:=λe H Q=>t e H λc d=>Q (!c) d
def Ld(d:cy X a hP):f6 X (.BoolOp .And [a] pos) hP:=by
 intro j f s g H Q I h;refine isTrue_and (aP (d f s g H Q I h) λc i e=>?_);cases c with
 |true=>exact isTrue_and_nil e
 |false=>exact e
def Lf(d:cy X a hP):f6 X (.BoolOp .Or [a] pos) hP:=by
 intro j f s g H Q I h;refine isTrue_or (aP (d f s g H Q I h) λc i e=>?_);cases c with
 |false=>exact isTrue_or_nil e
 |true=>exact e
def Lc(j:cy X a hP)(k:f6 X (.BoolOp .And (b::rest) pos) qT):f6 X (.BoolOp .And (a::b::rest) pos) (Nw hP qT):=by
 intro m f s i H Q I h;refine isTrue_and (aP (j f s i H _ I h) λc l n=>?_);obtain⟨d,e,g⟩:=n;cases c with
 |true=>exact k m f l i d Q e g
 |false=>exact⟨d,e,g⟩
def Le(j:cy X a hP)(k:f6 X (.BoolOp .Or (b::rest) pos) qT):f6 X (.BoolOp .Or (a::b::rest) pos) (NO hP qT):=by
 intro m f s i H Q I h;refine isTrue_or (aP (j f s i H _ I h) λc l n=>?_);obtain⟨d,e,g⟩:=n;cases c with
 |true=>exact⟨d,e,g⟩
 |false=>exact k m f l i d Q e g
def La(e:cy X a hP):cy X (.UnaryOp .Not a pos) (NM hP):=by
 intro f s g H Q I h;exact isTrue_not (e f s g H (λc d=>Q (!c) d) I h)
abbrev Nx(bR bS:TE):TE:=λe H Q=>bR e H λx d=>∃c,x=.ag c/\if c=J then bS e d Q else Q (.ag VF) d
abbrev NP(bR bS:TE):TE:=λe H Q=>bR e H λx d=>∃c,x=.ag c/\if c=J then Q (.ag J) d else bS e d Q
abbrev NN(bR:TE):TE:=λe H Q=>bR e H λx d=>∃c,x=.ag c/\Q (.ag (!c)) d
def uY{op}(h:ai X a t):ai X (.BoolOp op [a] pos) t:=λc s d H Q I hw=>BoolOp_one (h c s d H Q I hw)
def uV(j:ai X a bR)(k:ai X (.BoolOp .And (b::rest) pos) bS):ai X (.BoolOp .And (a::b::rest) pos) (Nx bR bS):=by
 intro g s i H Q I h;refine BoolOp_and (aP (j g s i H _ I h) λv m n=>?_);obtain⟨x,e,f,l,d⟩:=n;obtain⟨c,rfl,d⟩:=d;cases l;refine Rq ?_;cases c with
 |true=>exact k g m i e Q f d
 |false=>exact⟨.ag VF,e,f,rfl,d⟩
def Ko(j:ai X a bR)(k:ai X (.BoolOp .Or (b::rest) pos) bS):ai X (.BoolOp .Or (a::b::rest) pos) (NP bR bS):=by
 intro g s i H Q I h;refine BoolOp_or (aP (j g s i H _ I h) λv m n=>?_);obtain⟨x,e,f,l,d⟩:=n;obtain⟨c,rfl,d⟩:=d;cases l;refine Rq ?_;cases c with
 |false=>exact k g m i e Q f d
 |true=>exact⟨.ag J,e,f,rfl,d⟩
def Aj(g:ai X a bR):ai X (.UnaryOp .Not a pos) (NN bR):=by
 intro i s l H Q I h;refine UnaryOp_ (aP (g i s l H _ I h) λv m k=>?_);obtain⟨x,e,f,j,d⟩:=k;obtain⟨c,rfl,d⟩:=d;cases j;exact not_of (Rq ⟨.ag (!c),e,f,rfl,d⟩)
abbrev oe(t:TT)(bR bS:TE):TE:=λd H Q=>t d H λc e=>if c=J then bR d e Q else bS d e Q
end
end az
namespace az
open PySem PySem.Spec PyProof.Rows
def cz(K:W.Frag)(H:ah)(a:VU)(xs:List V):Prop :=
 fu H a (.lst xs) \/
  ∃(o:WS)(its:Array VI)(n:Nat),K.lookup a=Z o/\o.cls=.type "list"/\o.dict=Y/\o.data=.seq its n/\its.size<=V5/\Vals xs its.toList
def cW(K:W.Frag)(H:ah)(a:VU)(xs:List V):Prop :=
 fu H a (.tup xs) \/
  ∃(o:WS)(its:Array VI)(n:Nat),K.lookup a=Z o/\o.cls=.type "tuple"/\o.data=.seq its n/\its.size<=V5/\Vals xs its.toList
abbrev CW:VI->Option V
 |.none=>Z .b0
 |.bool b=>Z (.ag b)
 |.int i _=>Z (.int i)
 |.str x _=>Z (.str x)
 |.bytes b _=>Z (.sE b)
 |.float b _=>Z (.gf b)
 |.ref a=>Z (.ref a)
 |.type n=>Z (.ty n)
 |_=>Y
def RelV.abs(r:RelV x u):CW u=Z x:=by
 cases x with
 |b0=>cases r;rfl
 |ag _=>cases r;rfl
 |int _=>obtain⟨t,rfl⟩:=r;rfl
 |str _=>obtain⟨t,rfl⟩:=r;rfl
 |sE _=>obtain⟨t,rfl⟩:=r;rfl
 |gf _=>obtain⟨t,rfl⟩:=r;rfl
 |ref _=>cases r;rfl
 |ty _=>cases r;rfl
def RelV.inj(r:RelV x u)(q:RelV y u):x=y:=Qy (r.abs.symm.trans q.abs)
theorem Vals.inj:∀{xs ys:List V}{a:List VI},Vals xs a->Vals ys a->xs=ys:=by
 intro xs ys a h
 induction h generalizing ys with
 |nil=>intro q;cases q;rfl
 |cons r t b=>intro q;cases q with
  |cons c t'=>rw[r.inj c,b t']
section
variable{X:aq}{pins:List (VU×WS)}{σ:St}{H:ah}{s:VL}{a:VU}{xs ys:List V}
def cz.of{K:W.Frag}(h:H a=Z (.lst xs)):cz K H a xs:=.inl (.inl h)
def Inv.list(I:Inv X pins σ H s)(h:cz X.K H a xs):∃its:List VI,Vals xs its/\PlainL s.heap a its.toArray/\xs.length<=sizeLine:=by
 rcases h with h|⟨o,its,n,d,b,c,f,hz,r⟩
 .obtain⟨z,its,n,r,e⟩:=h.ok I.aM;exact⟨its,r,⟨_,n,e,rfl,rfl,rfl⟩,z⟩
 .refine⟨its.toList,r,⟨o,n,I.dQ a o d,b,c,⇑f⟩,?_⟩;have e:=r.length;simp only[VK]at e;lia
def Inv.tuple(I:Inv X pins σ H s)(h:cW X.K H a xs):∃its:List VI,Vals xs its/\IsTup s.heap a its.toArray/\xs.length<=sizeLine:=by
 rcases h with h|⟨o,its,n,c,b,d,hz,r⟩
 .obtain⟨z,its,r,p⟩:=h.ok I.aM;exact⟨its,r,p,z⟩
 .refine⟨its.toList,r,⟨o,I.dQ a o c,b,n,⇑d⟩,?_⟩;have e:=r.length;simp only[VK]at e;lia
def Inv.IC(I:Inv X pins σ H s)(h:cz X.K H a xs)(h':cz X.K H a ys):xs=ys:=by
 obtain⟨its,r,⟨o,n,e,_,_,d⟩,_⟩:=I.list h;obtain⟨its',f,⟨i,g,b,_,_,d'⟩,_⟩:=I.list h';rw[e]at b;cases b;rw[d]at d';injection d' with c _;have:its=its':=by simpa using Rc Array.toList c
 subst this;exact r.inj f
def Inv.OL(I:Inv X pins σ H s)(h:cW X.K H a xs)(h':cW X.K H a ys):xs=ys:=by
 obtain⟨its,r,⟨o,e,_,n,d⟩,_⟩:=I.tuple h;obtain⟨its',f,⟨i,b,_,g,d'⟩,_⟩:=I.tuple h';rw[e]at b;cases b;rw[d]at d';injection d' with c _;have:its=its':=by simpa using Rc Array.toList c
 subst this;exact r.inj f
end
section
variable{X:aq}{st:Wn}{rest:List Wn}{t u:ek}{e:V3}{ez:TE}{pos:Xo}
abbrev NK:ek:=λD a H=>D.aN a H
abbrev NS(t u:ek):ek:=λD a H=>t { D with aN:=u D } a H
def K7:d3 X [] NK:=λ_ _ a H _ I h=>Tg ⟨a,H,I,h⟩
def Ax(d:bF X st t)(h2:d3 X rest u):d3 X (st::rest) (NS t u):=by
 intro a s i H D I h;refine wpAny_execs_cons (aP (d a s i H { D with aN:=u D } I h) λf g q=>?_);cases f with
 |next =>
  obtain⟨j,b,c,q⟩:=q;exact h2 a g j b D c q
 |ret v=>exact q
 |brk=>exact q
 |cont=>exact q
def Ay(a:bF X st t):d3 X [st] t:=by
 intro b s c H D I h;refine wpAny_execs_cons (aP (a b s c H D I h) λf d q=>?_);cases f with
 |next=>exact Tg q
 |ret v=>exact q
 |brk=>exact q
 |cont=>exact q
def Inv.quiet{a:St}(I:Inv X b a H s):interactive X.env=false:=by simp[interactive,I.ok.kind]
abbrev BX(ez:TE):ek:=λD a H=>ez a H λ_ b=>D.aN a b
def qu(d:ai X e ez)(f:Xb e Y pos.line X.env=pure false:=by rfl):bF X (.Expr e pos) (BX ez):=by
 intro g s a H D I h;exact wpAny_Expr_any (aP (d g s a H _ I h) λv k ⟨x,b,c,j,i⟩=>⟨a,b,c,i⟩) I.quiet f
abbrev hb(ez:TE):ek:=λD a H=>ez a H D.bl
def nX(d:ai X e ez):bF X (.Return (Z e) pos) (hb ez):=by
 intro f s a H D I h;exact wpAny_Return_some (aP (d f s a H _ I h) λv j ⟨x,b,c,i,g⟩=>⟨x,a,b,c,i,g⟩)
abbrev NI(c:TT)(t u:ek):ek:=λD a H=>c a H λb d=>if b=J then t D a d else u D a d
def K4(o:cy X c p)(m:d3 X a t)(n:d3 X b u):bF X (.If c a b pos) (NI p t u):=by
 intro f s g H D I h;refine wpAny_If (aP (o f s g H _ I h) λd l q=>?_);obtain⟨i,j,k⟩:=q;cases d with
 |true=>exact m f l g i D j k
 |false=>exact n f l g i D j k
end
noncomputable abbrev h1:=V->St->ah->(St->ah->Prop)->Prop
noncomputable abbrev iV:=List V->St->ah->(St->ah->Prop)->Prop
def gp(X:aq)(e:V3)(t:h1):Prop :=
 ∀(b:List (VU×WS))(s:VL)(c:St)(H:ah)(v:V)(u:VI)(Q:St->ah->Prop),Inv X b c H s->RelV v u->t v c H Q ->
  VO (VW X.prog X.w) X.A (ZE e X.env u) (λ_ s'=>∃d a,Inv X b d a s'/\Q d a) X.a6 s
def mB(X:aq)(ts:List V3)(t:iV):Prop :=
 ∀(b:List (VU×WS))(s:VL)(e:St)(H:ah)(d:List V)(c:List VI)(Q:St->ah->Prop),Inv X b e H s->Vals d c->t d e H Q ->
  VO (VW X.prog X.w) X.A (assignInOrder ((W7 ts X.env).map (·.2)) c) (λ_ s'=>∃f a,Inv X b f a s'/\Q f a) X.a6 s
noncomputable abbrev CV:=V->V->V->ah->(ah->Prop)->Prop
def CU(X:aq)(t:CV):Prop :=
 ∀(d:List (VU×WS))(s:VL)(e:St)(H:ah)(o i v:V)(c b u:VI)(Q:ah->Prop),Inv X d e H s->RelV o c->RelV i b->RelV v u->t o i v H Q ->
  VO (VW X.prog X.w) X.A (setItem c b u) (λ_ s'=>∃a,Inv X d e a s'/\Q a) X.a6 s
section
variable{X:aq}{pos:Xo}
abbrev tH(i:Nat):h1:=λv a H Q=>Q (a.set i (Z v)) H
def An{i:Nat}{x:V1}(b:X.N.Nodup)(hi:X.N[i]?=Z x)(d:Loc X.env.scope x)(c:X.fn x=J\/X.env.scope.names.lookup x=Z .local:=by first|exact .inl rfl|exact .inr rfl|assumption):gp X (.Name x pos) (tH i):=by
 intro e s f H v u Q I r h;exact wpAny_assign_Name (qQ I b hi d r (λs' a=>⟨_,H,a,h⟩) c)
abbrev yr:iV:=λa b H Q=>a=[]/\Q b H
abbrev yp(t:h1)(u:iV):iV:=λb c H Q=>∃v r,b=v::r/\t v c H λd a=>u r d a Q
def Kz:mB X [] yr:=by
 intro b s a H d c Q I r h;obtain⟨e,h⟩:=h;subst e;cases r;exact assignInOrder_nil ⟨a,H,I,h⟩
def Ky{e:V3}{a:List V3}{t:h1}{u:iV}(f:gp X e t)(h2:mB X a u)(g:(W7 (e::a) X.env).map (·.2)=ZE e X.env::(W7 a X.env).map (·.2):=by rfl):mB X (e::a) (yp t u):=by
 intro b s m H q o Q I r h;obtain⟨v,p,e1,h⟩:=h;subst e1;cases r with
 |cons r j =>
  rw[g];refine assignInOrder_cons (aP (f b s m H _ _ _ I r h) λ_ k l=>?_);obtain⟨n,c,d,i⟩:=l;exact h2 b k n c _ _ Q d j i
abbrev GJ(K:W.Frag)(n:Nat)(t:iV):h1:=λv b H Q=>∃a xs,v=.ref a/\cW K H a xs/\xs.length=n/\t xs b H Q
def Kx{c:List V3}{k:Nat}{t:iV}{n:Nat}(j:X.calm=J)(h:mB X c t)(m:(W7 c X.env).length=n:=by rfl)(q:(W7 c X.env).findIdx? (·.1)=none:=by rfl):gp X (.Tuple c k pos) (GJ X.K n t):=by
 intro d s g H v u Q I r hw;obtain⟨a,xs,e1,p,l,hw⟩:=hw;subst e1;cases r;obtain⟨its,f,w,hz⟩:=I.tuple p;refine assign_Tuple_tuple (I.ok.hd j) w (by simp[m,<- l,f.length]) q λh' x=>?_
 have i:Inv X d g H { s with heap:=h' }:=I.kept (t':=s.toks) λb o e=>x b o (Ql (P7 e)) e
 exact h d _ g H xs _ Q i ⇑f hw
abbrev gm(c:TE)(g:h1):ek:=λD a H=>c a H λx b=>g x a b D.aN
def nY{i:Nat}{x:V1}{e:V3}{b:TE}{a:Xo}(g:X.N.Nodup)(hi:X.N[i]?=Z x)(m:Loc X.env.scope x)(j:ai X e b)(l:Xb e (Z (.Name x a)) pos.line X.env=pure false:=by rfl)(k:X.fn x=J\/X.env.scope.names.lookup x=Z .local:=by first|exact .inl rfl|exact .inr rfl|assumption):
  bF X (.Assign [.Name x a] e pos) (gm b (tH i)):=by
 intro n s r H D I h;refine wpAny_Assign_Name (aP (j n s r H _ I h) λv t q=>?_) l;obtain⟨y,c,d,p,o⟩:=q;exact qQ d g hi m p (λs2 f=>⟨_,c,f,o⟩) k
end
section
variable{X:aq}{pos:Xo}
abbrev NX(c:TT)(h:ek):ek:=λD a H=>∃W:Nat->St->ah->Prop,(∃m,W m a H)/\∀m a H,W m a H ->
 c a H λb e=>if b=J then ∃N:St->ah->Prop,(∀g d,N g d->∃f,f<m/\W f g d)/\h { D with aN:=N,ct:=N,fc:=D.aN } a e else D.aN a e
def K5(x:YR (VW X.prog X.w) X.A X.env X.a6)(B:cy X c G)(A:d3 X body E):bF X (.While c body [] pos) (NX G E):=by
 intro o s Q H D I h;obtain⟨W,⟨m0,L⟩,turn⟩:=h;refine wpAny_While (codeAny_whileLoop (λn s'=>∃y q,Inv X o y q s'/\W n y q) ?_ m0 ⟨Q,H,I,L⟩);rintro n C ⟨i,r,z,M⟩;refine Sb x (aP (B o C i r _ z (turn n i r M)) λb s2 O=>?_);obtain⟨t,u,e⟩:=O;cases b with
 |true =>
  obtain⟨N,w,e⟩:=e;rw[if_pos rfl];refine Sb x (aP (A o s2 i t _ u e) λf s3 g=>?_);cases f with
  |next =>
   obtain⟨d,a,j,m⟩:=g;obtain⟨l,k,p⟩:=w d a m;exact⟨l,k,d,a,j,p⟩
  |cont =>
   obtain⟨d,a,j,m⟩:=g;obtain⟨l,k,p⟩:=w d a m;exact⟨l,k,d,a,j,p⟩
  |brk=>exact g
  |ret v=>exact g
 |false =>
  rw[if_neg QV];exact Tg ⟨i,t,u,e⟩
end
structure hk where
 go:Nat->ah->Prop
 hV:Nat->ah->V->ah->Prop
 stop:Nat->ah->Prop
def gI(X:aq)(a:List (VU×WS))(H:ah)(b:VU):Prop :=
 H b=Y/\b≠X.env.locals/\b∉X.bj/\(b∈X.ex\/X.dT.heap.objs.size<=b)/\(∀x c,X.env.cells.lookup x=Z c->c≠b)/\∀p∈X.b6++a,p.1≠b
def Inv.nh{i:St}{b:VU}(I:Inv X h i H s)(a:s.heap.objs.size<=b)(f:d b=Y):gI X h d b:=by
 refine⟨f,VC (P2 I.lt a),I.qi a,.inr (Qk I.e7 a),λx c e z=>?_,λp g z=>?_⟩
 .obtain⟨v,q⟩:=I.cell x c e;exact absurd (P2 q.lt (by rw[z];exact a)) (Rm _)
 .exact absurd (P2 (P7 (I.pin p g).1) (by rw[z];exact a)) (Rm _)
structure Turn(P:Wd)(w:Wo)(K:W.Frag)(eI:V3)(jV:hk)(jc:List VU)(it:VU)(iI:Nat->We->Prop):Prop where
 mem:it∈jc
 obj:∀i h,iI i h->∀b∈jc,∃o,h.get? b=Z o/\∀v,o.data≠.cell v
 keep:∀i h h',iI i h->(∀b∈jc,∀o,h.get? b=Z o->h'.get? b=Z o)->iI i h'
 item:∀(X:aq),X.prog=P->X.w=w->X.K=K->X.calm=J->∀(i:Nat)(pins:List (VU×WS))(s:VL)(σ:St)(H:ah)(E:VI->VL->Prop),Inv X pins σ H s->(∀b∈jc,gI X pins H b)->iI i s.heap->jV.go i H ->
  VO (VW P w) X.A (Xi (.ref it)) (λr s1=>∃u,r=Z u /\
   VO (VW P w) X.A (Xt eI (.ref it) u) (λ_ s2=>∃x aE,Inv X pins σ aE s2/\RelV x u/\jV.hV i H x aE/\iI (i+1) s2.heap/\∀b∈jc,aE b=Y) E s1) E s
 done:∀(X:aq),X.prog=P->X.w=w->X.K=K->X.calm=J->∀(i:Nat)(pins:List (VU×WS))(s:VL)(σ:St)(H:ah)(E:VI->VL->Prop),Inv X pins σ H s->(∀b∈jc,gI X pins H b)->iI i s.heap->jV.stop i H ->
  VO (VW P w) X.A (Xi (.ref it)) (λr s1=>r=Y/\Inv X pins σ H s1) E s
 self:∀(A:Wg)(i:Nat)(s:VL)(Q:VI->VL->Prop)(E:VI->VL->Prop),iI i s.heap->Q (.ref it) s->VO (VW P w) A (X7 (.ref it)) Q E s
noncomputable abbrev TI:=St->ah->(hk->ah->Prop)->Prop
def rv(X:aq)(f:List (VU×WS))(j:St)(i:V3)(R:hk->ah->Prop)(h:VI)(s2:VL):Prop :=
 ∃(e:VU)(d:List VU)(g:Nat->We->Prop)(c:hk)(a:ah),h=.ref e/\Inv X f j a s2/\Turn X.prog X.w X.K i c d e g/\g 0 s2.heap/\(∀b∈d,gI X f a b)/\R c a
def fK(X:aq)(e c:V3)(f:TI):Prop :=
 ∀(b:List (VU×WS))(s:VL)(a:St)(H:ah)(R:hk->ah->Prop),Inv X b a H s->f a H R ->
  VO (VW X.prog X.w) X.A (Wx c X.env) (λv d=>VO (VW X.prog X.w) X.A (X7 v) (rv X b a e R) X.a6 d) X.a6 s
def pw (e : s.heap.get? f = Z o) (b : o.cls = .type n) (c : o.data = .fields i)
    (d : ["enumerate", "zip", "dict_itemiterator", "dict_reverseitemiterator", "odict_iterator", "itertools.zip_longest", "itertools.pairwise"].contains n = VF) (a : Q () s) : VO M A (Xt g (.ref f) u) Q E s := by
  unfold Xt
  cases g <;> first
    | exact VG a
    | (cases u <;> first
        | exact VG a
        | (refine PV (Vx e ?_)
           rw [b, c]
           show VO M A (if (["enumerate", "zip", "dict_itemiterator", "dict_reverseitemiterator", "odict_iterator", "itertools.zip_longest", "itertools.pairwise"].contains n && i[0]? == Z (Xj _)) = J then _ else _) Q E s
           rw [if_neg (by intro h; rw [d, Tq] at h; cases h)]
           exact VG a))
abbrev rm(K:W.Frag)(a:VU):hk :=
 ⟨λi H=>∃xs x,cz K H a xs/\xs[i]?=Z x,λi H x b=>b=H/\∀xs,cz K H a xs->xs[i]?=Z x,λi H=>∃xs,cz K H a xs/\xs.length<=i⟩
abbrev rn(K:W.Frag)(a:VU):hk :=
 ⟨λi H=>∃xs x,cW K H a xs/\xs[i]?=Z x,λi H x b=>b=H/\∀xs,cW K H a xs->xs[i]?=Z x,λi H=>∃xs,cW K H a xs/\xs.length<=i⟩
def my(lo:Int)(n:Nat):hk:=⟨λi _=>i<n,λi H x a=>a=H/\x=.int (lo+i),λi _=>n<=i⟩
def OP{K:W.Frag}(a it):Turn P w K a1 (rm K a) [it] it (λi h=>h.IsListIter it a i) where
 mem:=by simp
 obj:=λi h st b f=>by
  have e:b=it:=⇑f;subst e;obtain⟨o,e,c,d⟩:=st;exact⟨o,e,λv z=>by rw[d]at z;cases z⟩
 keep:=λi h h' st k=>st.at λo e=>k it (by simp) o e
 item:=by
  intro X y hw t D i G s M H E I g st A;subst y hw t;obtain⟨xs,x,j,B⟩:=A;obtain⟨its,C,p,hz⟩:=I.list j;obtain⟨u,R,T⟩:=C.get B;obtain⟨l,m,Q,n,q,r⟩:=g it (by simp);refine X8 st p.isList (x:=u) ⇑R λh' L U=>?_
  have N:Inv X G M H { s with heap:=h' }:=I.turned (t':=s.toks) (λb o f e=>(U.2 b f).trans e) l m n q r;obtain⟨o,e,c,d⟩:=id L;exact⟨u,rfl,pw (s:={ s with heap:=h' }) e c d ∅ ⟨x,H,N,T,⟨rfl,λys S=>by rw[I.IC S j];exact B⟩,L,λb f=>(g b f).1⟩⟩
 done:=by
  intro X y hw t D i G s M H E I g st A;subst y hw t;obtain⟨xs,j,B⟩:=A;obtain⟨its,C,p,hz⟩:=I.list j;obtain⟨l,m,Q,n,q,r⟩:=g it (by simp);have a0:=C.length;exact wpAny_pyNext_list_end (I.ok.hd D) st p.isList (by simp;lia) λh' O=>⟨rfl,I.turned (t':=s.toks) (λb o f e=>O b o f e) l m n q r⟩
 self:=λ_ _ _ _ _ st h=>Yq st h
def OR{K:W.Frag}(a it):Turn P w K a1 (rn K a) [it] it (λi h=>h.IsTupleIter it a i) where
 mem:=by simp
 obj:=λi h st b f=>by
  have e:b=it:=⇑f;subst e;obtain⟨o,e,c,d⟩:=st;exact⟨o,e,λv z=>by rw[d]at z;cases z⟩
 keep:=λi h h' st k=>st.at λo e=>k it (by simp) o e
 item:=by
  intro X y hw t D i G s M H E I g st A;subst y hw t;obtain⟨xs,x,j,B⟩:=A;obtain⟨its,C,p,hz⟩:=I.tuple j;obtain⟨u,R,T⟩:=C.get B;obtain⟨l,m,Q,n,q,r⟩:=g it (by simp);refine wpAny_pyNext_tuple_item st (show s.heap.IsTuple a its.toArray from p) (x:=u) ⇑R λh' L U=>?_
  have N:Inv X G M H { s with heap:=h' }:=I.turned (t':=s.toks) (λb o f e=>(U.2 b f).trans e) l m n q r;obtain⟨o,e,c,d⟩:=id L;exact⟨u,rfl,pw (s:={ s with heap:=h' }) e c d ∅ ⟨x,H,N,T,⟨rfl,λys S=>by rw[I.OL S j];exact B⟩,L,λb f=>(g b f).1⟩⟩
 done:=by
  intro X y hw t D i G s M H E I g st A;subst y hw t;obtain⟨xs,j,B⟩:=A;obtain⟨its,C,p,hz⟩:=I.tuple j;obtain⟨l,m,Q,n,q,r⟩:=g it (by simp);have a0:=C.length;exact wpAny_pyNext_tuple_end (I.ok.hd D) st (show s.heap.IsTuple a its.toArray from p) (by simp;lia) λh' O=>⟨rfl,I.turned (t':=s.toks) (λb o f e=>O b o f e) l m n q r⟩
 self:=λ_ _ _ _ _ st h=>wpAny_pyIter_tupleiter st h
def OQ{K:W.Frag}(it)(lo)(n):Turn P w K M (my lo n) [it] it (λi h=>IsRangeIter h it (lo+(i:Nat)*1) ((n:Int)-(i:Nat)) 1) where
 mem:=by simp
 obj:=λi h st b a=>by
  have e:b=it:=⇑a;subst e;exact⟨_,st,λv z=>by
   have L:Data.fields _=Data.cell v:=z;cases L⟩
 keep:=λi h h' st k=>k it (by simp) _ st
 item:=by
  intro X p hw m q i u s y H E I c st r;subst p hw m;obtain⟨d,f,C,g,j,l⟩:=c it (by simp);have W:=Walks.range (prog:=X.prog) (w:=X.w) (I.ok.hd q) it lo 1 n;refine W.item i s _ _ r st λv h' tk D x G=>?_
  obtain⟨t,rfl⟩:=D;have A:Inv X u y H { s with heap:=h',toks:=tk }:=I.turned (λb o a e=>G b o ⇑a e) d f g j l;refine⟨_,rfl,pw (s:={ s with heap:=h',toks:=tk }) (n:="range_iterator") x rfl rfl ∅ ⟨.int (lo+i),H,A,⟨t,?_⟩,⟨rfl,rfl⟩,x,λb a=>(c b a).1⟩⟩;rw[Int.mul_one]
 done:=by
  intro X p hw m q i u s y H E I c st r;subst p hw m;obtain⟨d,f,C,g,j,l⟩:=c it (by simp);exact wpAny_pyNext_range_end (I.ok.hd q) st (by have:n<=i:=r;lia) λh' B=>⟨rfl,I.turned (t':=s.toks) (λb o a e=>B b o a e) d f g j l⟩
 self:=λ_ _ _ _ _ st h=>wpAny_pyIter_rangeiter st h
end az
namespace az
open PySem PySem.Spec PyProof.Rows
section
variable{X:aq}{eI:V3}
def Lq{c:St}{lo hi:Int}(I:Inv X d c H s)(f:-(2 ^ 62)<=lo)(h2:lo<2 ^ 62)(h3:-(2 ^ 62)<=hi)(h4:hi<2 ^ 62)(q:R (my lo (hi-lo).toNat) H):VO (VW X.prog X.w) X.A (X7 (.ref s.heap.objs.size)) (rv X d c eI R) E { s with heap:=s.heap.push { cls:=.type "range",data:=.fields #[.int lo t,.int hi u,.int 1 v] },toks:=tk }:=by
 refine wpAny_pyIter_range (IsRange.new ..) (small_one f h2 h3 h4) ?_;have a:Inv X d c H { s with heap:=s.heap.push { cls:=.type "range",data:=.fields #[.int lo t,.int hi u,.int 1 v] },toks:=tk }:=I.kept λb o e=>PX _ e
 refine⟨(s.heap.push { cls:=.type "range",data:=.fields #[.int lo t,.int hi u,.int 1 v] }).objs.size,[(s.heap.push { cls:=.type "range",data:=.fields #[.int lo t,.int hi u,.int 1 v] }).objs.size],_,_,H,rfl,
  a.kept (t':=tk) λb o e=>PX _ e,OQ _ lo (hi-lo).toNat,?_,λb g=>?_,q⟩
 .have e1:lo+((0:Nat):Int)*1=lo:=(by simp);have e2:(((hi-lo).toNat:Nat):Int)-((0:Nat):Int)=Xg lo hi 1:=(by rw[rangeSize_one];split<;>lia);show IsRangeIter _ _ (lo+((0:Nat):Int)*1) ((((hi-lo).toNat:Nat):Int)-((0:Nat):Int)) 1;rw[e1,e2];exact Qb _ rfl
 .have e:b=(s.heap.push { cls:=.type "range",data:=.fields #[.int lo t,.int hi u,.int 1 v] }).objs.size:=⇑g;subst e;exact a.nh (P0 _) (a.aM.fresh (P0 _))
def Hc(b:d4):TI:=λd H R=>b d H λc a=>∃j:Int,c=[.int j]/\-(2 ^ 62)<=j/\j<2 ^ 62/\R (my 0 j.toNat) a
def KA{a:V3}{c:d4}{p pos:Xo}(g:cN X "range")(i:X.ao "range"=Y)(f:dU X [a] c)(k:V4 [a] X.env=[(VF,Wx a X.env)]:=by rfl):fK X eI (.Call (.Name "range" p) [a] [] pos) (Hc c):=by
 intro l s v H R I h;refine Call_ (jl I g i boot_range (RI (aP (f pos l s v H _ I h) λy x u=>?_) k rfl));obtain⟨z,w,d,n,b⟩:=u;obtain⟨j,e,b,m,q⟩:=b;subst e;cases n with
 |cons r o =>
  cases o;obtain⟨t,rfl⟩:=r;exact call_range_1 (Lq d ⋯ ⋯ b m ⇑q)
abbrev od(k:TI)(g:h1)(j:ek):ek:=λD a H=>k a H λc f=>∃W:Nat->Nat->St->ah->Prop,(∃m,W 0 m a f)/\∀i m a H,W i m a H ->
 (c.stop i H/\D.aN a H)\/(c.go i H/\∃N:St->ah->Prop,(∀e b,N e b->∃d,d<m/\W (i+1) d e b)/\∀x b,c.hV i H x b->g x a b λl h=>j { D with aN:=N,ct:=N,fc:=D.aN } l h)
abbrev qr(a:List VU)(h:We):List (VU×WS):=a.filterMap λb=>(h.get? b).map λo=>(b,o)
def lP(c:b∈a)(e:h.get? b=Z o):(b,o)∈qr a h:=Uj.mpr ⟨b,c,by rw[e];rfl⟩
def JO(f:p∈qr c h):p.1∈c/\h.get? p.1=Z p.2:=by
 obtain⟨b,d,e⟩:=Uj.mp f;cases q:h.get? b with
 |none=>rw[q]at e;cases e
 |some o =>
  rw[q]at e;have a:(b,o)=p:=Qy e;subst a;exact⟨d,q⟩
def Inv.pinned{h:St}(I:Inv X g h H s)(l:∀b∈c,gI X g H b)(m:∀b∈c,∃o,s.heap.get? b=Z o/\∀v,o.data≠.cell v):Inv X (g++qr c s.heap) h H s :=
 I.u0 λp n=>(P8.mp n).elim (λz=>I.pin p (Qd _ z)) λz=>by
  obtain⟨f,e⟩:=JO z;obtain⟨i,j,k,_⟩:=l p.1 f;obtain⟨o,a,d⟩:=m p.1 f;rw[e]at a;cases a;exact⟨e,i,j,k,d⟩
def Inv.ml{a:St}(I:Inv X (c++d) a H s):Inv X c a H s:=I.u0 λp b=>I.pin p (Qd _ (VZ _ b))
def K3{E:V3}{body:List Wn}{a4:TI}{g:h1}{a2:ek}{pos:Xo}(w:YR (VW X.prog X.w) X.A X.env X.a6)(U:X.calm=J)(hi:fK X eI E a4)(bk:gp X eI g)(j:d3 X body a2)(bI:∀x,WI E X.env x=pure x:=by intro _;rfl):bF X (.For eI E body [] pos) (od a4 g a2):=by
 intro p s a5 H D I h;refine wpAny_For (aP (hi p s a5 H _ I h) λv eE bh=>aP bh λet s2 h2=>?_) bI;obtain⟨ed,t,a3,eD,aw,e,aG,T,cZ,R,W,⟨m0,dh⟩,turn⟩:=h2;subst e;have M:∀{aE:ah},(∀b∈t,aE b=Y)->∀b∈t,gI X p aE b:=λbH b j=>⟨bH b j,(R b j).2⟩
 refine codeAny_forLoop_any (λn s'=>∃i z aE,Inv X p z aE s'/\a3 i s'.heap/\(∀b∈t,aE b=Y)/\W i n z aE) ?_ m0 ⟨0,a5,aw,aG,cZ,λb j=>(R b j).1,dh⟩;rintro n s3 ⟨i,A,B,Q,a1,S,di⟩;rcases turn i n A B di with⟨stop,bg⟩|⟨bf,N,bw,step⟩
 .refine Sb w (aP (T.done X rfl rfl rfl U i p s3 A B X.a6 Q (M S) a1 stop) λr dg q=>?_);obtain⟨C,aJ⟩:=q;subst C;exact Tg ⟨A,B,aJ,bg⟩
 .refine Sb w (aP (T.item X rfl rfl rfl U i p s3 A B X.a6 Q (M S) a1 bf) λr dg q=>?_);obtain⟨u,C,h4⟩:=q;subst C;refine Sb w (aP h4 λ_ a0 q=>?_);obtain⟨x,O,aL,bJ,eC,L,bp⟩:=q;have b1:=aL.pinned (M bp) (T.obj _ _ L);refine Sb w (aP (bk _ a0 A O x u _ b1 bJ (step x O eC)) λ_ dr q=>?_);obtain⟨ec,aA,b2,dq⟩:=q;refine Sb w (aP (j _ dr ec aA _ b2 dq) λf G l=>?_);have again:∀{k:St}{a:ah},Inv X (p++qr t a0.heap) k a G->N k a->∃m,m<n/\∃i z aE,Inv X p z aE G/\a3 i G.heap/\(∀b∈t,aE b=Y)/\W i m z aE:=λ{k a} c y=>by
   obtain⟨cO,bq,dW⟩:=bw k a y;refine⟨cO,bq,i+1,k,a,c.ml,T.keep _ _ _ L λb j o e=>(c.pin (b,o) (Qd _ (Qd _ (lP j e)))).1,λb j=>?_,dW⟩;obtain⟨o,e,d⟩:=T.obj _ _ L b j;exact(c.pin (b,o) (Qd _ (Qd _ (lP j e)))).2.1
  cases f with
  |next=>obtain⟨k,a,c,y⟩:=l;exact again c y
  |cont=>obtain⟨k,a,c,y⟩:=l;exact again c y
  |brk=>obtain⟨k,a,c,l⟩:=l;exact⟨k,a,c.ml,l⟩
  |ret v=>obtain⟨es,k,a,c,cY,l⟩:=l;exact⟨es,k,a,c.ml,cY,l⟩
end
end az
namespace az
open PySem PySem.Spec PyProof.Rows
noncomputable abbrev fs:=V->V->ah->cc->Prop
def bP(X:aq)(f:VI->VI->Z0 VI)(r:fs):Prop :=
 ∀(a:List (VU×WS))(s:VL)(b:St)(H:ah)(x y:V)(v u:VI)(Q:cc),Inv X a b H s->RelV x v->RelV y u->r x y H Q ->
  VO (VW X.prog X.w) X.A (f v u) (cU X a b Q) X.a6 s
def rz(X:aq)(f:VI->Z0 VI)(r:V->ah->cc->Prop):Prop :=
 ∀(a:List (VU×WS))(s:VL)(b:St)(H:ah)(x:V)(v:VI)(Q:cc),Inv X a b H s->RelV x v->r x H Q ->
  VO (VW X.prog X.w) X.A (f v) (cU X a b Q) X.a6 s
def ei(X:aq)(f:VI)(r:List V->ah->cc->Prop):Prop :=
 ∀(a:List (VU×WS))(s:VL)(c:St)(H:ah)(xs:List V)(b:List VI)(Q:cc),Inv X a c H s->Vals xs b->r xs H Q ->
  VO (VW X.prog X.w) X.A (call f b) (cU X a c Q) X.a6 s
abbrev og(r:fs)(d e:TE):TE:=λa H Q=>d a H λx b=>e a b λy c=>r x y c Q
abbrev NW(r:V->ah->cc->Prop)(b:TE):TE:=λc H Q=>b c H λx a=>r x a Q
abbrev qv(C:Int->Int->Prop)(g:Int->Int->V):fs:=λx y H Q=>∃i j,x=.int i/\y=.int j/\C i j/\Q (g i j) H
abbrev iB(g:Int->Int->V):fs:=λx y H Q=>∃i j,x=.int i/\y=.int j/\Q (g i j) H
abbrev AG(g:Int->V):V->ah->cc->Prop:=λx H Q=>∃i,x=.int i/\Q (g i) H
section
variable{X:aq}{a b c:V3}{bR bS kP:TE}{pos:Xo}
def sz(m:ai X a bR)(n:ai X b bS){e:St}{R:V->V->ah->Prop}(I:Inv X i e H s)(h:bR e H λx g=>bS e g λy d=>R x y d){f:VI->VI->Z0 VI}(o:∀v u s2 x y d,Inv X i e d s2->RelV x v->RelV y u->R x y d->VO (VW X.prog X.w) X.A (f v u) Q X.a6 s2):
  VO (VW X.prog X.w) X.A (Wx a X.env) (λv z=>VO (VW X.prog X.w) X.A (Wx b X.env) (λu A=>VO (VW X.prog X.w) X.A (f v u) Q X.a6 A) X.a6 z) X.a6 s:=by
 refine aP (m i s e H _ I h) λv w j=>?_
 obtain⟨x,g,k,r,p⟩:=j;refine aP (n i w e g _ k p) λu s2 j=>?_
 obtain⟨y,d,l,t,q⟩:=j;exact o v u s2 x y d l r t q
def Kn(i:bP X (WG op) r)(f:ai X a bR)(g:ai X b bS):ai X (.BinOp a op b pos) (og r bR bS):=by
 intro j s m H Q I h;exact wpAny_BinOp (sz f g I h λv u s2 x y d e k l q=>i j s2 m d x y v u Q e k l q)
def Kr(j:rz X (unaryOp op) r)(i:ai X a bR):ai X (.UnaryOp op a pos) (NW r bR):=by
 intro d s e H Q I h;exact UnaryOp_ (aP (i d s e H _ I h) λv m ⟨x,f,g,l,k⟩=>j d m e f x v Q g l k)
def uR{g:Int->Int->Int}(ZF:∀(i j:Int)(t u:Tok)(s:VL)(Q E:VI->VL->Prop),C i j->Q (.int (g i j) s.toks) { s with toks:=s.toks+1 }->VO (VW X.prog X.w) X.A (f (.int i t) (.int j u)) Q E s):
  bP X f (qv C λi j=>.int (g i j)):=by
 intro l s m H x y v u Q I e k h;obtain⟨i,j,rfl,rfl,d,q⟩:=h;obtain⟨t,rfl⟩:=e;obtain⟨t',rfl⟩:=k;exact ZF i j t t' s _ _ d ⟨.int (g i j),H,I.tok _,⟨_,rfl⟩,q⟩
def qm{g:Int->Int->Int}(ZF:∀(i j:Int)(t u:Tok)(s:VL)(Q E:VI->VL->Prop),Q (.int (g i j) s.toks) { s with toks:=s.toks+1 }->VO (VW X.prog X.w) X.A (f (.int i t) (.int j u)) Q E s):
  bP X f (iB λi j=>.int (g i j)):=by
 intro k s l H x y v u Q I d e h;obtain⟨i,j,rfl,rfl,q⟩:=h;obtain⟨t,rfl⟩:=d;obtain⟨t',rfl⟩:=e;exact ZF i j t t' s _ _ ⟨.int (g i j),H,I.tok _,⟨_,rfl⟩,q⟩
def uQ{g:Int->Int->Bool}(ZF:∀(i j:Int)(t u:Tok)(s:VL)(Q E:VI->VL->Prop),Q (.bool (g i j)) s->VO (VW X.prog X.w) X.A (f (.int i t) (.int j u)) Q E s):
  bP X f (iB λi j=>.ag (g i j)):=by
 intro k s l H x y v u Q I d e h;obtain⟨i,j,rfl,rfl,q⟩:=h;obtain⟨t,rfl⟩:=d;obtain⟨t',rfl⟩:=e;exact ZF i j t t' s _ _ ⟨.ag (g i j),H,I,rfl,q⟩
def CR(i j:Int):Prop:=0<j/\j<1073741824
def rd(i j:Int):Prop:=(-(2 ^ 64)<i/\i<2 ^ 64)\/(-(2 ^ 64)<j/\j<2 ^ 64)
def rd.ok(h:rd i j):IntMulOk i j:=by
 rcases h with⟨d,h2⟩|⟨d,h2⟩
 .exact .of_left (intBits_le_64 d h2)
 .exact .of_right (intBits_le_64 d h2)
def JR:bP X (WG .Add) (iB λi j=>.int (i+j)):=qm λ_ _ _ _ _ _ _ q=>add_int q
def JZ:bP X (WG .Sub) (iB λi j=>.int (i-j)):=qm λ_ _ _ _ _ _ _ q=>sub_int q
def JY:bP X (WG .Mult) (qv rd λi j=>.int (i*j)):=uR λ_ _ _ _ _ _ _ d q=>mul_int q d.ok
def JS:bP X (WG .FloorDiv) (qv CR λi j=>.int (i / j)):=uR λi j _ _ _ _ _ d q=>by
 have e:(0:Int)<j:=d.1;have h2:j<1073741824:=d.2;exact floordiv_int ⋯ (by rw[Int.fdiv_eq_ediv_of_nonneg i ⋯];exact q) (.inl (PyProof.noPylong_small ⋯))
def JX:bP X (WG .Mod) (qv (λ_ j=>0<j) λi j=>.int (i%j)):=uR λi j _ _ _ _ _ d q=>by
 have e:(0:Int)<j:=d;exact mod_int' ⋯ (by rw[Int.fmod_eq_emod_of_nonneg i ⋯];exact q)
def z1:bP X (WG .BitAnd) (iB λi j=>.int (Xk i j)):=qm λ_ _ _ _ _ _ _ q=>and_int q
def J0:bP X (WG .BitXor) (iB λi j=>.int (aaa i j)):=qm λ_ _ _ _ _ _ _ q=>xor_int q
def Co{g:Int->Int}(ZF:∀(i:Int)(t:Tok)(s:VL)(Q E:VI->VL->Prop),Q (.int (g i) s.toks) { s with toks:=s.toks+1 }->VO (VW X.prog X.w) X.A (f (.int i t)) Q E s):
  rz X f (AG λi=>.int (g i)):=by
 intro e s j H x v Q I d h;obtain⟨i,rfl,q⟩:=h;obtain⟨t,rfl⟩:=d;exact ZF i t s _ _ ⟨.int (g i),H,I.tok _,⟨_,rfl⟩,q⟩
def OT:rz X (unaryOp .USub) (AG λi=>.int (-i)):=Co λ_ _ _ _ _ q=>neg_int q
end
section
variable{X:aq}{a b c:V3}{bR bS kP:TE}{pos:Xo}
def JV:bP X (Wa .Lt) (iB λi j=>.ag (decide (i<j))):=uQ λ_ _ _ _ _ _ _ q=>lt_int q
def JU:bP X (Wa .LtE) (iB λi j=>.ag (decide (i<=j))):=uQ λ_ _ _ _ _ _ _ q=>le_int q
def JT:bP X (Wa .Gt) (iB λi j=>.ag (decide (j<i))):=uQ λ_ _ _ _ _ _ _ q=>gt_int q
def Kg(j:bP X (Wa op) r)(f:ai X a bR)(g:ai X b bS)(i:Xp op b=VF):ai X (.Compare a [op] [b] pos) (og r bR bS):=by
 intro k s n H Q I h;exact wpAny_Compare1 (sz f g I h λv u s2 x y d e l m q=>j k s2 n d x y v u Q e l m q) i
abbrev B1(t:TE):TT:=λe H Q=>t e H λx d=>∃k,x=.ag k/\Q k d
def K9(t:bP X (Wa op) r)(o:ai X a bR)(p:ai X b bS)(q:Xp op b=VF):cy X (.Compare a [op] [b] pos) (B1 (og r bR bS)):=by
 intro d s f H Q I h;refine wpAny_isTrue_Compare1 (aP (o d s f H _ I h) λv G ⟨x,g,l,C,w⟩=>aP (p d G f g _ l w) λu s2 ⟨y,i,m,D,A⟩ =>
  aP (t d s2 f i x y v u _ m C D A) λc s3 ⟨z,j,n,E,k,e,B⟩=>?_) q
 subst e;cases E;exact Rq ⟨j,n,B⟩
abbrev vu(r i:fs)(bR bS kP:TE):TE:=λd H Q=>bR d H λx f=>bS d f λy g=>r x y g λz e=>∃k,z=.ag k /\
 (if k=J then kP d e λj h=>i y j h Q else Q (.ag VF) e)
def Kf{op op':CmpOp}{r m:fs}(G:bP X (Wa op) r)(L:bP X (Wa op') m)(B:ai X a bR)(C:ai X b bS)(D:ai X c kP)(E:YS [op,op'] [b,c]=false:=by with_unfolding_all rfl):ai X (.Compare a [op,op'] [b,c] pos) (vu r m bR bS kP):=by
 intro f s g H Q I h;refine Compare_chain (aP (B f s g H _ I h) λv U ⟨x,o,t,R,M⟩=>chain_link (aP (C f U g o _ t M) λu s2 ⟨y,p,w,n,N⟩ =>
  aP (G f s2 g p x y v u _ w R n N) λd s3 ⟨z,i,j,S,k,e,l⟩=>?_)) E
 subst e;cases S;refine Rq ?_;cases k with
 |false=>exact ite_ff ⟨.ag VF,i,j,rfl,l⟩
 |true=>exact ite_tt (chain_last (aP (D f s3 g i _ j l) λa1 a0 ⟨a2,q,A,T,O⟩=>L f a0 g q y a2 u a1 Q A n T O))
def K8{op op':CmpOp}{r m:fs}(N:bP X (Wa op) r)(O:bP X (Wa op') m)(E:ai X a bR)(G:ai X b bS)(L:ai X c kP)(M:YS [op,op'] [b,c]=false:=by with_unfolding_all rfl):cy X (.Compare a [op,op'] [b,c] pos) (B1 (vu r m bR bS kP)):=by
 intro f s g H Q I h;refine isTrue_chain (aP (E f s g H _ I h) λv a5 ⟨x,o,w,a1,S⟩=>test_link (aP (G f a5 g o _ w S) λu s2 ⟨y,p,A,n,T⟩ =>
  aP (N f s2 g p x y v u _ A a1 n T) λd s3 ⟨z,i,j,a2,k,e,l⟩=>?_)) M
 subst e;cases a2;refine Rq ?_;cases k with
 |false =>
  obtain⟨aJ,D,R⟩:=l;cases D;exact ite_ff ⟨i,j,R⟩
 |true =>
  refine ite_tt (test_last (aP (L f s3 g i _ j l) λaA aw ⟨aG,q,B,a3,U⟩=>aP (O f aw g q y aG u aA _ B n a3 U) λd' aL ⟨b1,t,C,a4,k2,e2,a0⟩=>?_));subst e2;cases a4;exact Rq ⟨t,C,a0⟩
def nC:(V5:Nat)<2 ^ 63:=by rw[V7];decide
def vals1(r:Vals [x] f):∃u,f=[u]/\RelV x u:=by
 cases r with
 |cons d e=>cases e;exact⟨_,rfl,d⟩
def vals2(r:Vals [x,y] h):∃u CG,h=[u,CG]/\RelV x u/\RelV y CG:=by
 cases r with
 |cons d e =>
  cases e with
  |cons f g=>cases g;exact⟨_,_,rfl,d,f⟩
end
end az
namespace az
open PySem PySem.Spec PyProof.Rows
structure rt(h:We)(x dt C:VU)(zx:V1->Option VI):Prop where
 obj:h.get? x=Z (PySem.W.instObj C dt)
 ns:h.Ns1 dt zx
 ne:dt≠x
set_option tactic.hygienic true in
theorem IF {h:We} (n:h.Ns1 f p):∃c,h.get? f=Z c/\∀name,PySem.W.lookIn name c=Z (p name):=by
 obtain⟨o,b,r,l,g,i,_,k⟩:=n;refine⟨o,l,λname=>?_⟩;have e:=k name;unfold nsFind findBy at e;rw[<- Array.find?_toList]at e;unfold PySem.W.lookIn;rw[g];dsimp only
 split
 .rename_i y q;rw[q]at e;exact Rc Z e
 .rename_i q;rw[q]at e;have a:b.toList.any (·.refKey)=false:=by
   rw[UD];intro y m;obtain⟨z,t,j⟩:=i y (Array.mem_toList_iff.mp m);simp[DictEntry.refKey,j]
  have d:¬b.toList.any (·.refKey)=true:=(by rw[a];exact QV);rw[if_neg d];exact Rc Z e
def rt.look(I:rt h x b C e):∃a,PySem.W.InstAt h x (PySem.W.instObj C b) C (Z a)/\∀name,PySem.W.lookIn name a=Z (e name) :=
 let ⟨a,d,c⟩:=IF I.ns
 ⟨a,⟨I.obj,rfl,rfl,d⟩,c⟩
def gK.some_of(r:gK (Z v) o):∃u,o=Z u/\RelV v u:=by
 cases o with
 |none=>exact(show False from r).elim
 |some u=>exact⟨u,rfl,r⟩
section
variable{P:Wd}{w:Wo}{H aE:ah}{h h':We}{a C dt:VU}{bj GI:List (V1×V)}
def ie(c:cC P w H h)(e:H a=Z (.ins C dt bj)):∃b,rt h a dt C b/\(∀f,gK (bj.lookup f) (b f))/\PySem.Within b (bj.map (·.1))/\bj.length<=1000/\H dt=Z (.own a):=by
 obtain⟨d,z,g,i,b,n,r,q⟩:=(show b8 P w H h a (.ins C dt bj) from c a _ e);exact⟨b,⟨i,n,g⟩,r,q,z,d⟩
end
structure mu(K:W.Frag)(C:VU):Prop where
 pg:PySem.W.plainGet K C Str.empty=J
 hd:PySem.W.hasDictIn K C=J
 po:PySem.W.plainOver K C=J
 c5:PySem.W.findIn K (.ref C) "__setattr__"=Z (Z (.builtin "object.__setattr__"))
def mu.get{K:W.Frag}(c:mu K C)(f):PySem.W.plainGet K C f=true:=c.pg
structure Pw(K:W.Frag)(C:VU)(f:V1)(v:V)(u:VI):Prop where
 at_:PySem.W.findIn K (.ref C) f=Z (Z u)
 rel:RelV v u
 get:PySem.W.specialIn K u "__get__"=Z Y
 gr:PySem.W.copiedNames.contains f=VF
structure Meth(K:W.Frag)(C:VU)(m:V1)(f:VU):Prop where
 at_:PySem.W.findIn K (.ref C) m=Z (Z (.ref f))
 fn:PySem.W.isFn K (.ref f)=J
 pV:W.keepIn K (.ref f)=J
section
variable{X:aq}{pins:List (VU×WS)}{σ:St}{H:ah}{s:VL}{A:Wg}{E Q:VI->VL->Prop}{c:VI}{b:Bool}
inductive gq(K:W.Frag)(H:ah):V->VI->Prop where
 |b0:gq K H .b0 (.type "NoneType")
 |ag (x:Bool):gq K H (.ag x) (.type "bool")
 |int (i:Int):gq K H (.int i) (.type "int")
 |str (x:V1):gq K H (.str x) (.type "str")
 |gf (x:UInt64):gq K H (.gf x) (.type "float")
 |lst {a:VU} {xs:List V} (e:H a=Z (.lst xs)):gq K H (.ref a) (.type "list")
 |cx {a:VU} {o:WS} {xs:List V} (e:H a=Z (.cx o (.lst xs))):gq K H (.ref a) (.type "list")
 |tup {a:VU} {xs:List V} (e:H a=Z (.tup xs)):gq K H (.ref a) (.type "tuple")
 |cg {a:VU} {ik:List (Key×V)} (e:H a=Z (.cg ik)):gq K H (.ref a) (.type "dict")
 |cD {a:VU} {ik:List (List Key×V)} (e:H a=Z (.cD ik)):gq K H (.ref a) (.type "dict")
 |ins {a C dt:VU} {bj:List (V1×V)} (e:H a=Z (.ins C dt bj)) (cl:mu K C) (pz:PySem.W.findIn K (.ref C) "__class__"=Z (Z (.builtin "object.__class__")))
   (PH:PySem.W.specialIn K (.builtin "object.__class__") "__get__"=Z (Z (.builtin "getset_descriptor.__get__"))) (PI:PySem.W.takesIn K (.builtin "object.__class__")=Z J)
   (hm:PySem.W.mroIn K C (.type "object")=Z J):gq K H (.ref a) (.ref C)
def pS(I:Inv X pins σ H s)(f:RelV x u)(L:gq X.K H x t)(e:PySem.W.kitOne X.K t c=Z b)(h:∀tk,Q (.bool b) { s with toks:=tk }):
  VO (VW X.prog X.w) A (call (.builtin "isinstance") [u,c]) Q E s:=by
 cases L with
 |b0=>cases (show u=Value.none from f);exact QK PySem.W.kitx_none I.dQ True.intro e (λz=>nomatch z) h
 |ag y=>cases (show u=WK y from f);exact QK PySem.W.kitx_bool I.dQ True.intro e (λz=>nomatch z) h
 |int i=>obtain⟨t,q⟩:=(show ∃t,u=W6 i t from f);cases q;exact QK PySem.W.kitx_int I.dQ True.intro e (λz=>nomatch z) h
 |str y=>obtain⟨t,q⟩:=(show ∃t,u=Value.str y t from f);cases q;exact QK PySem.W.kitx_str I.dQ True.intro e (λz=>nomatch z) h
 |gf y=>obtain⟨t,q⟩:=(show ∃t,u=Value.float y t from f);cases q;exact QK PySem.W.kitx_float I.dQ True.intro e (λz=>nomatch z) h
 |@lst a xs d =>
  cases (show u=VY a from f);obtain⟨_,_,n,_,g⟩:=(show b8 X.prog X.w H s.heap a (.lst xs) from I.aM a _ d);exact QK UE I.dQ ⟨_,g,rfl⟩ e (λz=>nomatch z) h
 |@cx a G xs d =>
  cases (show u=VY a from f);obtain⟨_,_,_,n,_,g⟩:=(show b8 X.prog X.w H s.heap a (.cx G (.lst xs)) from I.aM a _ d);exact QK UE I.dQ ⟨_,g,rfl⟩ e (λz=>nomatch z) h
 |@tup a xs d =>
  cases (show u=VY a from f);obtain⟨_,_,_,p⟩:=(show b8 X.prog X.w H s.heap a (.tup xs) from I.aM a _ d);obtain⟨o,g,h2,_⟩:=p;exact QK Uk I.dQ ⟨o,g,h2⟩ e (λz=>nomatch z) h
 |@cg a j d =>
  cases (show u=VY a from f);obtain⟨_,_,T,_,p⟩:=(show b8 X.prog X.w H s.heap a (.cg j) from I.aM a _ d);obtain⟨o,r,m,g,h2,_⟩:=p;exact QK Tr I.dQ ⟨o,g,h2.1⟩ e (λz=>nomatch z) h
 |@cD a j d =>
  cases (show u=VY a from f);obtain⟨_,_,xs,_,o,r,m,g,h2,_⟩:=(show b8 X.prog X.w H s.heap a (.cD j) from I.aM a _ d);exact QK Tr I.dQ ⟨o,g,h2.1⟩ e (λz=>nomatch z) h
 |@ins a C M N d k v B D w =>
  cases (show u=VY a from f);obtain⟨R,O,_⟩:=ie I.aM d;obtain⟨S,l,_⟩:=O.look;exact QK (PySem.W.kitx_own (k.get _) k.hd v B D w) I.dQ l e (λz=>nomatch z) h
end
end az
namespace az
open PySem PySem.Spec PyProof.Rows
structure d9(k:Nat)(A:Wg):Prop where
 hd:A.handled=Y
 i4:A.depth+3*k+5<recursionLimit
 un:A.units+16*k+200<WJ
def d9.mono(r:d9 k A)(h:j<=k):d9 j A:=⟨r.hd,by have:=r.i4;lia,by have:=r.un;lia⟩
theorem d9.deeper(r:d9 (k+1) A)(env):d9 k (A.deeper env) :=
 ⟨r.hd,by have:=r.i4;show A.depth+1+3*k+5<_;lia,by have:=r.un;show A.units+3+16*k+200<_;lia⟩
theorem d9.depth(r:d9 k A):A.depth<recursionLimit:=by have:=r.i4;lia
theorem d9.units(r:d9 k A):A.units+64<cLine:=by have:=r.un;lia
abbrev vx:d4:=λ_ H Q=>Q [] H
abbrev qU(d:TE)(e:d4):d4:=λa H Q=>d a H λx b=>e a b λxs c=>Q (x::xs) c
section
variable{X:aq}{e:V3}{aB:List V3}{ez:TE}{t:d4}{pos:Xo}
def kE:dU X [] vx:=λ_ _ _ _ H Q I h=>UG ⟨[],H,I,.nil,h⟩
def hG(i:ai X e ez)(j:dU X aB t)(k:V4 (e::aB) X.env=(VF,Wx e X.env)::V4 aB X.env:=by rfl):dU X (e::aB) (qU ez t):=by
 intro pos a s b H Q I h;rw[k];show VO _ _ (spliced ((VF,Wx e X.env)::Xe pos (V4 aB X.env))) _ _ s;refine Ul (aP (i a s b H _ I h) λu p q=>?_);obtain⟨x,c,f,n,l⟩:=q;exact aP (j pos a p b c _ f l) λr s2 ⟨xs,d,g,o,m⟩=>⟨x::xs,d,g,.cons n o,m⟩
def NV(t:d4):TE:=λb H Q=>t b H λxs a=>xs.length<=V5/\∀p,a p=Y->Q (.ref p) (upd a p (.tup xs))
def NJ(t:d4):TE:=λb H Q=>t b H λxs a=>xs.length<=V5/\∀p,a p=Y->Q (.ref p) (upd a p (.lst xs))
def Kq{k}(h:dU X aB t):ai X (.Tuple aB k pos) (NV t):=by
 intro i s l H Q I g;refine wpAny_Tuple_spliced (aP (h pos i s l H _ I g) λj a ⟨xs,c,d,r,z,q⟩=>⟨by rw[<- r.length];exact z,?_⟩);have f:c a.heap.objs.size=none:=d.aM.fresh (P0 _);refine⟨.ref a.heap.objs.size,upd c a.heap.objs.size (.tup xs),d.laid (t':=a.toks) (λb u e=>PX _ e) (P0 _) ?_,rfl,q _ f⟩;exact⟨z,j,r,⟨_,Qb _ rfl,rfl,_,rfl⟩⟩
def Ah(h:dU X aB t):ai X (.List aB pos) (NJ t):=by
 intro i s k H Q I g;refine wpAny_List_spliced (aP (h pos i s k H _ I g) λj a ⟨xs,c,d,r,z,q⟩=>⟨by rw[<- r.length];exact z,?_⟩);have f:c a.heap.objs.size=none:=d.aM.fresh (P0 _);refine⟨.ref a.heap.objs.size,upd c a.heap.objs.size (.lst xs),d.laid (t':=a.toks) (λb u e=>PX _ e) (P0 _) ?_,rfl,q _ f⟩;exact⟨z,j,0,r,Qb _ rfl⟩
end
noncomputable abbrev kY:=List V->ah->cc->gM->Prop
noncomputable abbrev iL:=List Env->ah->VL->gM->VI->VL->Prop
structure oz(P:Wd)(w:Wo)(K:W.Frag)(ao:V1->Option VI)(base:We)(A:Wg)(outer:List Env)(s:VL)(H:ah):Prop where
 frames:A.frames=Z outer
 mod:Mod K ao base
 bs:∀b o,base.get? b=Z o->s.heap.get? b=Z o/\H b=Y
 ka:base.objs.size<=s.heap.objs.size
 gw:s.heap.FunFrames base outer
 lC:∀b∈ef outer,H b=Y
 aM:cC P w H s.heap
 bare:Xx s.gens
def rb(outer:List Env)(P:Wd)(w:Wo)(H:ah)(s:VL)(Q:cc)(u:VI)(s':VL):Prop :=
 ∃v a,s'.os=s.os/\Xx s'.gens/\dz (ef outer) [] H a s.heap s'.heap/\cC P w a s'.heap/\RelV v u/\Q v a
def CT(CX:iL)(outer:List Env)(P:Wd)(w:Wo)(H:ah)(s:VL)(Q:cc)(E:gM)(r:Result)(s':VL):Prop :=
 match r with
 |.ok (.ret u)=>rb outer P w H s Q u s'
 |.ok _=>False
 |.error e=>CX outer H s E e s'
structure hj(P:Wd)(w:Wo)(K:W.Frag)(ao:V1->Option VI)(base:We)(CX:iL)(k:Nat)(f:VU)(fd:Xs)(d7:List V1)(sp:kY):Prop where
 len:∀fZ H Q E,sp fZ H Q E->fZ.length=d7.length
 run:∀(A:Wg)(outer:List Env)(s:VL)(H:ah)(args:Args)(us:List VI)(fZ:List V)(Q:cc)(E:gM),d9 k A->oz P w K ao base A outer s H->X9 s fd args (d7.zip us)->Vals fZ us->sp fZ H Q E ->
  Xy (VW P w) A (.call (.ref f) args) (CT CX outer P w H s Q E) s
section
variable{X:aq}{pins:List (VU×WS)}{σ:St}{H:ah}{s s':VL}
def Inv.Fy(I:Inv X pins σ H s):oz X.prog X.w X.K X.ao X.base X.A X.stack s H :=
 ⟨I.ok.frames,I.ok.mod,I.bs,Qk I.ok.ka I.e7,I.stack,I.vr,I.aM,I.bare⟩
def Inv.after(I:Inv X pins σ H s)(h:rb X.stack X.prog X.w H s Q u s'):cU X pins σ Q u s':=by
 obtain⟨v,a,os,bare,un,aM,r,q⟩:=h;obtain⟨c,g,d,t,e⟩:=s';obtain rfl:e=s.os:=os;exact⟨v,a,I.call (h':=c) (g':=g) (d':=d) (t':=t) (ch:=[]) un aM bare (λb z=>absurd z (by simp)),r,q⟩
end
def NA(sp:kY)(dvs:List V)(E:gM)(t:d4):TE:=λc H Q=>t c H λb a=>sp (b++dvs) a Q E
def Binds(K:W.Frag)(c:Xs)(b:List V1)(ds:List VI):Prop :=
 ∀(s:VL)(a:List VI),K.In s.heap->(a++ds).length=b.length->X9 s c ⟨a,[]⟩ (b.zip (a++ds))
def Binds.all{K:W.Frag}(h:∀a:List VI,a.length=c.length->bindArgs d ⟨a,[]⟩=pure (c.zip a)):Binds K d c []:=λs a _ b=>by
 rw[QQ]at b ⊢;exact .of_eq (h a b)
def Passes(CX:iL)(X:aq)(E:gM):Prop:=∀(a:List (VU×WS))(b:St)(H:ah)(s:VL)(e:VI)(s':VL),Inv X a b H s->CX X.stack H s E e s'->X.a6 e s'
section
variable{X:aq}{CX:iL}{k:Nat}{f C:VU}{fd:Xs}{d7:List V1}{sp:kY}{dvs:List V}{ds:List VI}{E:gM}{x m:V1}{p pos apos:Xo}{e o:V3}{aB:List V3}{bR:TE}{t:d4}
def LM{d:St}(F:hj X.prog X.w X.K X.ao X.base CX k f fd d7 sp)(v:d9 k X.A)(l:Binds X.K fd d7 ds)(n:Vals dvs ds)(w:Passes CX X E)(I:Inv X g d H s)(r:Vals c a)(h:sp (c++dvs) H Q E):VO (VW X.prog X.w) X.A (call (.ref f) a) (cU X g d Q) X.a6 s:=by
 have i:Vals (c++dvs) (a++ds):=r.append n;have q:(a++ds).length=d7.length:=by rw[<- i.length];exact F.len _ _ _ _ h
 refine wpAny_call (Ue (F.run X.A X.stack s H ⟨a,[]⟩ (a++ds) (c++dvs) Q E v I.Fy (l s a I.dQ q) i h) λr s' b=>?_);cases r with
 |error e=>exact w g d H s e s' I b
 |ok j =>
  cases j with
  |ret u=>exact I.after b
  |next=>exact W8 b
  |brk=>exact W8 b
  |cont=>exact W8 b
def Kd(F:hj X.prog X.w X.K X.ao X.base CX k f fd d7 sp)(v:d9 k X.A)(j:cN X x)(n:X.ao x=Z (.ref f))(l:W.keepIn X.K (.ref f)=J)(c:Binds X.K fd d7 ds)(d:Vals dvs ds)(w:Passes CX X E)(b:dU X (e::aB) t)(g:(x==("__debug__":V1))=false:=by decide)(i:V4 (e::aB) X.env=(VF,Wx e X.env)::V4 aB X.env:=by rfl)(u:(Xe pos (V4 aB X.env)).any (·.1)=false:=by rfl):
  ai X (.Call (.Name x p) (e::aB) [] pos) (NA sp dvs E t):=by
 intro y s z H Q I h;refine R2 (pZ I j n ?_ g);refine PySem.W.callWith_K (h₀:=X.base) I.ok.mod.ud l (aP (b pos y s z H _ I h) λD B ⟨G,A,a,r,q⟩=>⟨a.dQ,?_⟩) i u;exact LM F v c d w a r q
structure dD(K:W.Frag)(C f:VU):Prop where
 makes:PySem.W.makesIn K C=J
 init:PySem.W.findIn K (.ref C) "__init__"=Z (Z (.ref f))
 fn:PySem.W.isFn K (.ref f)=J
 pV:W.keepIn K (.ref C)=J
end
section
variable{X:aq}{CX:iL}{k:Nat}{f C:VU}{fd:Xs}{d7 a9:List V1}{sp:kY}{E:gM}{x m:V1}{p pos apos PK:Xo}{e o:V3}{aB:List V3}{PL:List Xz}{ez bR:TE}{t tk:d4}{nm:Option V1}
structure Px(K:W.Frag)(fd:Xs)(d7 a9:List V1)(g:List VI->List VI->List VI)(yt:List V->List V->List V):Prop where
 to:∀(s:VL)(us ws:List VI),K.In s.heap->(g us ws).length=d7.length->X9 s fd ⟨us,a9.zip ws⟩ (d7.zip (g us ws))
 rel:∀{fZ:List V}{us:List VI}{zs:List V}{ws:List VI},Vals fZ us->Vals zs ws->Vals (yt fZ zs) (g us ws)
variable{g:List VI->List VI->List VI}{yt:List V->List V->List V}
end
structure ri(N P:List V1)(sc:Xr):Prop where
 kind:sc.kind=.function
 co:sc.isCoroutine=VF
 gen:sc.isGenerator=VF
 eG:N.Nodup
 pre:N.take P.length=P
 par:∀x∈P,sc.names.lookup x=Z .local\/sc.names.lookup x=Z .cell
 JH:∀y∈sc.names,y.2≠.free
theorem wX{kindOf:V1->Option W2}:∀{a:List (V1×VI)}{m:V1->Option VI},(∀v,(x,v)∉a)->bindL kindOf a m x=m x
 |[],_,_=>rfl
 |(n,v)::r,m,h=>by
  unfold bindL;rw[wX λw hw=>h w (VJ _ hw)]
  split
  .have:x≠n:=(by rintro rfl;exact h v VE);simp[this]
  .rfl
theorem wV{kindOf:V1->Option W2}:∀{a:List (V1×VI)}{m:V1->Option VI},(∀v,(x,v)∉a)->bindC kindOf a m x=m x
 |[],_,_=>rfl
 |(n,v)::r,m,h=>by
  unfold bindC;rw[wV λw hw=>h w (VJ _ hw)]
  split
  .rfl
  .have:x≠n:=(by rintro rfl;exact h v VE);simp[this]
theorem wW{kindOf:V1->Option W2}:∀{P:List V1}{a:List VI}{i:Nat}{m:V1->Option VI},P.Nodup->P[i]?=Z x->a[i]?=Z v->kindOf x=Z .local ->
  bindL kindOf (P.zip a) m x=Z v
 |[],_,_,_,_,h,_,_=>by simp at h
 |_::_,[],_,_,_,_,h,_=>by simp at h
 |p::P,w::a,0,m,d,b,h2,c=>by
  simp at b h2;subst b;subst h2;show bindL kindOf ((p,w)::P.zip a) m p=_;unfold bindL;rw[wX λv e=>(QR.mp d).1 (Ym e).1,if_pos c];simp
 |p::P,w::a,i+1,m,d,b,h2,c=>by
  show bindL kindOf ((p,w)::P.zip a) m x=_;unfold bindL;exact wW (i:=i) (QR.mp d).2 ⇑b ⇑h2 c
theorem wU{kindOf:V1->Option W2}:∀{P:List V1}{a:List VI}{i:Nat}{m:V1->Option VI},P.Nodup->P[i]?=Z x->a[i]?=Z v->kindOf x≠Z .local ->
  bindC kindOf (P.zip a) m x=Z v
 |[],_,_,_,_,h,_,_=>by simp at h
 |_::_,[],_,_,_,_,h,_=>by simp at h
 |p::P,w::a,0,m,d,b,h2,c=>by
  simp at b h2;subst b;subst h2;show bindC kindOf ((p,w)::P.zip a) m p=_;unfold bindC;rw[wV λv e=>(QR.mp d).1 (Ym e).1,if_neg c];simp
 |p::P,w::a,i+1,m,d,b,h2,c=>by
  show bindC kindOf ((p,w)::P.zip a) m x=_;unfold bindC;exact wU (i:=i) (QR.mp d).2 ⇑b ⇑h2 c
abbrev start(N:List V1)(a:List V):St:=a.map Z++VV (N.length-a.length) Y
def i2(CX:iL)(P:Wd)(w:Wo)(K:W.Frag)(ao:V1->Option VI)(base:We)(N:List V1)(b:V1)(c:Xr)(f:VU)(a:VI)(A:Wg)(outer:List Env)(s:VL)(H:ah)(E:gM):aq where
 prog:=P
 w:=w
 K:=K
 ao:=ao
 base:=base
 A:=A.deeper (Y7 b c s.heap.objs.size f a)
 N:=N
 dT:=s
 mx:=H
 env:=Y7 b c s.heap.objs.size f a
 outer:=outer
 stack:=Y7 b c s.heap.objs.size f a::outer
 ex:=[]
 calm:=J
 fn:=λ_=>J
 b6:=[]
 a6:=λe s'=>VO (VW P w) (A.deeper (Y7 b c s.heap.objs.size f a)) (leaving (Y7 b c s.heap.objs.size f a) e) (λ_ d=>CX outer H s E e d) (λg d=>CX outer H s E g d) s'
def xa{a:Xr}(h:a.names.lookup x=Z .cell):∃c,(cellsFrom n a.names []).lookup x=Z c:=by
 have q:=U2 a.names n [] (.inl h);exact XJ.mp q
def Ht{K:W.Frag}(S:ri N j d)(Q:A.handled=Y)(e0:oz P w K I base A outer s H)(T:l.length=j.length)(r:Vals l M)(x:InCallC s s.heap.objs.size (bindL (Y7 C d s.heap.objs.size f t).kindOf (j.zip M) λ_=>Y) (cellsFrom (s.heap.objs.size+1) d.names []) (bindC (Y7 C d s.heap.objs.size f t).kindOf (j.zip M) λ_=>Y) s1):
  Inv (i2 CX P w K I base N C d f t A outer s H E) [] (start N l) H s1:=by
 have U:j.length<=N.length:=by have:=Rc XH S.pre;rw[QI]at this;lia
 obtain⟨o,tk,rfl,D⟩:=x.done;have B:∀b:VU,b∉(i2 CX P w K I base N C d f t A outer s H E).ex:=λb z=>absurd (show b∈([]:List VU) from z) (by simp)
 refine⟨⟨e0.mod,S.kind,rfl,rfl,P0 _,λy z c o h2=>?_,λy g=>?_,λy c _ h=>?_,λ_=>Q,Around.frames_deeper e0.frames,.inr ⟨rfl,rfl⟩,λb z=>absurd z (B b),e0.bs,e0.ka,λb _ _=>B b,λb z=>absurd z (B b),e0.gw,e0.lC⟩,
  rfl,e0.bare,dz.kept D,⟨_,x.toInCall.ns,λi y v o h2 h3=>?_⟩,λy c h=>⟨_,x.cell y c h⟩,e0.aM.fresh (P0 _),λy c h=>?_,λp m=>absurd (show p∈([]:List (VU×WS)) from m) (by simp),e0.aM.kept D,?_⟩
 .exact name_of_addr x.apart (QX o) (QX h2)
 .have g:d.names.lookup y=Z .cell\/d.names.lookup y=Z .free:=g;rcases g with g|g
  .exact xa g
  .exact absurd rfl (S.JH _ (QX g))
 .exact QM (x.above y c (QX h))
 .have hi:i<l.length:=by
   unfold start at h2
   by_cases hi:i<l.length
   .exact hi
   .rw[QD ⇑hi]at h2;rw[RT]at h2
    split at h2<;>cases h2
  have O:l[i]?=Z v:=by
   unfold start at h2;rw[Qj ⇑hi,Qh]at h2;cases e:l[i]? with
   |none=>rw[e]at h2;cases h2
   |some a=>rw[e]at h2;cases h2;rfl
  obtain⟨u,G,R⟩:=r.get O;have m:j[i]?=Z y:=by
   rw[<- S.pre,XK ⋯];exact o
  have L:j.Nodup:=(by rw[<- S.pre];exact S.eG.sublist (List.take_sublist _ _));refine⟨u,R,?_⟩;rcases S.par y (Rd m) with k|k
  .exact .inl ⟨k,wW L m G k⟩
  .obtain⟨c,e⟩:=xa (n:=s.heap.objs.size+1) k;refine .inr ⟨.inl k,c,e,?_⟩;have q:=x.cell y c e;rw[wU L m G (by show d.names.lookup y≠_;rw[k];decide)]at q;exact q
 .exact e0.aM.fresh (QM (x.above y c (QX h)))
 .unfold start;show _=N.length;rw[PY,VH,Rp];lia
def GC{K:W.Frag}{D bQ G O h ct aG:VI}(lk:K.lookup f=Z ⟨aG,b1,.func (W.fnOf name j aJ body a D bQ G O R h ct),b2⟩)(a0:W.codeIn K h j=J)(S:ri N z a)(M:∀c H Q E,sp c H Q E->c.length=z.length)(X:∀(A:Wg)(outer:List Env)(s:VL)(H:ah)(c:List V)(Q:cc)(E:gM),d9 k (A.deeper (Y7 j a s.heap.objs.size f h))->sp c H Q E ->
   ∃t,d3 (i2 CX P w K p base N j a f h A outer s H E) body t/\t { aN:=λ_ d=>Q .b0 d,bl:=Q } (start N c) H):
  hj P w K p base CX (k+1) f (W.fnOf name j aJ body a D bQ G O R h ct) z sp:=by
 refine⟨M,λA outer s H args aL c Q E m e0 U r L=>?_⟩;have a3:=M _ _ _ _ L;have C:K.In s.heap:=e0.mod.ud.keeps λb o e=>(e0.bs b o e).1
 have aA:s.heap.NoLimit:=e0.mod.nolimit.keeps λb o e=>(e0.bs b o e).1
 have a2:∀y∈z.zip aL,a.names.lookup y.1=Z .local\/(a.names.lookup y.1=Z .cell/\((cellsFrom (s.heap.objs.size+1) a.names []).lookup y.1).isSome=J):=λ⟨n,v⟩ aw=>by
  rcases S.par n (Ym aw).1 with q|q
  .exact .inl q
  .exact .inr ⟨q,U2 _ _ _ (.inl q)⟩
 refine codeAny_call_function m.depth (C _ _ lk) rfl S.co S.gen rfl (PySem.W.codeRec_of C a0) (U _ _ _ _ ?_);refine wpAny_newFunctionEnv_cells S.kind a2 λenv a1 s1 x=>?_
 subst a1;refine⟨aA.keeps x.toInCall.keep,codeAny_func ?_⟩;obtain⟨t,a5,a4⟩:=X A outer s H c Q E (m.deeper _) L;have I:Inv (i2 CX P w K p base N j a f h A outer s H E) [] (start N c) H s1:=Ht S m.hd e0 a3 r x;refine Q2 (a5 [] s1 (start N c) H _ I a4) (λT s' i=>?_) λe s' i=>i
 have fin:∀{l:St}{d:ah}{v:V}{u:VI},Inv (i2 CX P w K p base N j a f h A outer s H E) [] l d s'->RelV v u->Q v d->rb outer P w H s Q u s' :=
  λ{l d v u} g B q=>⟨v,d,g.os,g.bare,g.base,g.aM,B,q⟩
 cases T with
 |ret u =>
  obtain⟨v,l,d,g,B,q⟩:=i;exact fin g B q
 |next =>
  obtain⟨l,d,g,q⟩:=i;exact fin (v:=V.b0) (u:=Value.none) g rfl q
 |brk =>
  obtain⟨_,_,_,q⟩:=i;exact W8 q
 |cont =>
  obtain⟨_,_,_,q⟩:=i;exact W8 q
end az
namespace az
open PySem PySem.Spec PyProof.Rows
section
variable{X:aq}{x:V1}{p pos:Xo}{e:V3}{aB:List V3}{t:d4}{id T:String}{r:List V->ah->cc->Prop}
abbrev BW(r:List V->ah->cc->Prop)(t:d4):TE:=λc H Q=>t c H λb a=>r b a Q
def nS(g:ei X (.builtin id) r)(k:cN X x)(l:X.ao x=Y)(o:Wu x=Z (.builtin id))(f:dU X (e::aB) t)(m:x≠"__name__":=by decide)(i:(x==("__debug__":V1))=false:=by decide)(j:V4 (e::aB) X.env=(VF,Wx e X.env)::V4 aB X.env:=by rfl)(n:(Xe pos (V4 aB X.env)).any (·.1)=false:=by rfl):ai X (.Call (.Name x p) (e::aB) [] pos) (BW r t):=by
 intro a s b H Q I h;refine R2 (jl I k l o ?_ m i);exact TN (aP (f pos a s b H _ I h) λw v ⟨y,c,d,u,q⟩=>g a v b c y w Q d u q) j n
def Ke(g:ei X (.type T) r)(k:cN X x)(l:X.ao x=Y)(o:Wu x=Z (.type T))(f:dU X (e::aB) t)(m:x≠"__name__":=by decide)(i:(x==("__debug__":V1))=false:=by decide)(j:V4 (e::aB) X.env=(VF,Wx e X.env)::V4 aB X.env:=by rfl)(n:(Xe pos (V4 aB X.env)).any (·.1)=false:=by rfl):ai X (.Call (.Name x p) (e::aB) [] pos) (BW r t):=by
 intro a s b H Q I h;refine R2 (jl I k l o ?_ m i);exact RI (aP (f pos a s b H _ I h) λw v ⟨y,c,d,u,q⟩=>g a v b c y w Q d u q) j n
end
end az
namespace bu
open PySem PyProof.Rows
abbrev lexLt:List Int->List Int->Bool
 |[],[]=>VF
 |[],_::_=>J
 |_::_,[]=>VF
 |x::xs,y::ys=>if x=y then lexLt xs ys else decide (x<y)
def It(x y)(xs ys):lexLt (x::xs) (y::ys)=if x=y then lexLt xs ys else decide (x<y):=rfl
def Iw:lexLt [] []=false:=rfl
def Iv(y)(ys):lexLt [] (y::ys)=true:=rfl
def Iu(x)(xs):lexLt (x::xs) []=false:=rfl
def Fz(A)(s)(a)(t)(c)(u):∃e,Y8 A s (.int a t) (.int c u) e/\(e=J<->a=c) :=
 ⟨(a==c),SeqAt.EqAt.int_int a t c u,by simp⟩
def Lr(A)(s)(a)(t)(c)(u)(prog)(w)(E)(Q)(h:Q (.bool (decide (a<c))) s):
  VO (VW prog w) A (richCompare .Lt (.int a t) (.int c u)) Q E s :=
 (PyProof.Rows.lt_int h:VO (VW prog w) A (Wa .Lt (.int a t) (.int c u)) Q E s)
section
open PySem.SeqAt
open PySem.AutoSeq1 (wpAny_loadPart')
open PySem.MeetsSeq PySem.MeetsSeq2 PySem.MeetsSeq3
def OM(l b)(f i)(n a0)(dd I)(a1 a2)(ns r)(hi:Wk f.toList ns)(E:Wk i.toList r):
  Meets (WN.«tuple.__lt__» ⟨[.ref l,.ref b],[]⟩)
   (λ_ R s=>s.heap.get? l=Z { cls:=.type "tuple",dict:=dd,data:=.seq f n,slots:=a1 }/\s.heap.get? b=Z { cls:=.type "tuple",dict:=I,data:=.seq i a0,slots:=a2 } /\
    R (.ok (.ret (.bool (lexLt ns r)))) s) :=
 .of_wp λprog w A R s h=>by
  obtain⟨o,g,d,tk,os⟩:=s;obtain⟨N,L,h⟩:=h;have a3:=UO;have a4:f.size=ns.length:=(by rw[<- hi.length];simp);have a5:i.size=r.length:=by rw[<- E.length];simp
  wp_walk using wpAny_loadPart' N,wpAny_loadPart' L,TO _ (λH b s'=>b.1=Y/\s'=⟨o,g,d,tk,os⟩/\∃(v z:List VI)(k j:List Int),H=v.zip z /\
   Wk v k/\Wk z j/\k.length+i.size=j.length+f.size/\R (.ok (.ret (.bool (lexLt k j)))) ⟨o,g,d,tk,os⟩) _
  case turn =>
   rintro⟨y,x⟩ H b s' ⟨B,rfl,v,z,k,j,hz,C,p,m,hR⟩;cases C with
   |nil=>rw[List.zip_nil_left]at hz;cases hz
   |cons a t S =>
    cases p with
    |nil=>rw[List.zip_nil_right]at hz;cases hz
    |cons c u T =>
     rw[Y9]at hz;injection hz with X O;injection X with V U;subst V U;rw[It]at hR;simp only[VX]at m;obtain⟨e,M,D⟩:=Fz A.in1 ⟨o,g,d,tk,os⟩ a t c u;refine PV (M prog w _ _ ?_);cases e with
     |true =>
      rw[if_pos (D.mp rfl)]at hR
      wp_walk
      exact⟨rfl,rfl,_,_,_,_,O,S,T,⋯,hR⟩
     |false =>
      rw[if_neg (λq=>absurd (D.mpr q) QV)]at hR;have Q:=Lr A.in1 ⟨o,g,d,tk,os⟩ a t c u prog w
      wp_walk using Q
      exact⟨_,rfl,⇑hR⟩
  case fin =>
   rintro⟨b1,b2⟩ s' ⟨B,rfl,v,z,k,j,hz,C,p,m,hR⟩;simp only at B;subst B;have G:lexLt k j=decide (f.size<i.size):=by
    cases C with
    |nil =>
     cases p with
     |nil =>
      simp only[Wb]at m;rw[Iw];exact(decide_eq_false ⋯).symm
     |cons c u hw =>
      simp only[Wb,VX]at m;rw[Iv];exact(decide_eq_true ⋯).symm
    |cons a t G =>
     cases p with
     |nil =>
      simp only[Wb,VX]at m;rw[Iu];exact(decide_eq_false ⋯).symm
     |cons c u hw =>
      rw[Y9]at hz;cases hz
   rw[G]at hR
   wp_walk
   exact⟨_,rfl,by simpa[Builtin.Tuple.tupleCompareSizes] using hR⟩
  case h =>
   exact⟨rfl,rfl,f.toList,i.toList,ns,r,rfl,hi,E,⋯,h⟩
end
section
variable{prog:Wd}{w:Wo}{A:Wg}{E:VI->VL->Prop}{s:VL}
def zu(q:IsTup s.heap l j)(o:IsTup s.heap b k)(hi:Wk j.toList ns)(p:Wk k.toList a)(r:A.units<WJ)(h:Q (.bool (lexLt ns a)) s):VO (VW prog w) A (Wa .Lt (.ref l) (.ref b)) Q E s:=by
 obtain⟨⟨y,dd,B,u⟩,g,c,n,e⟩:=id q;obtain⟨⟨z,m,data2,v⟩,i,d,t,f⟩:=id o;simp only at c e d f;subst c e d f;exact richCompare_meets_room (op:=.Lt) ⟨_,g,rfl⟩ ⟨_,i,rfl⟩ PySem.F.slot_tuple_lt PySem.F.entry_tuple_lt (PySem.F.args_tuple_lt_2 _ _) (OM l b j k n t dd m u v ns a hi p)
  ⟨g,i,show WK (lexLt ns a)≠Value.notImplemented/\Q (.bool (lexLt ns a)) s from⟨(λx=>nomatch x),h⟩⟩ r
def Ei(u:IsTup s.heap t c.toArray)(r:IsTup s.heap b a.toArray)(l:c≠[])(q:a=[]->Q (.ref t) s)(h2:a≠[]->Q (.ref s.heap.objs.size) { s with heap:=s.heap.push { cls:=.type "tuple",data:=.seq (c++a).toArray } })(hsz:c.length+a.length<=V5):VO (VW prog w) A (WG .Add (.ref t) (.ref b)) Q E s:=by
 obtain⟨⟨cls,dd,data,o⟩,d,h,n,j⟩:=id u;obtain⟨⟨v,g,data2,p⟩,f,i,m,k⟩:=id r;simp only at h j i k;subst h j i k;have e:c.toArray++a.toArray=(c++a).toArray:=by simp
 by_cases hw:a=[]
 .exact U3 ⟨_,d,rfl⟩ ⟨_,f,rfl⟩ UR Vs Ts Tn (Td _ _)
   (tuple_addW1 t b c.toArray a.toArray n m dd g o p ⇑l (by simp[hw])) ⟨d,f,q hw⟩
 .refine U3 ⟨_,d,rfl⟩ ⟨_,f,rfl⟩ UR Vs Ts Tn (Td _ _)
   (tuple_addW2 t b c.toArray a.toArray n m dd g o p ⇑l ⇑hw (by rw[P6,P6];exact hsz)) ⟨d,f,?_⟩
  rw[e];exact h2 hw
abbrev aQ(n d:Nat):Option Int->Nat
 |none=>d
 |some v=>if v<0 then(v+(n:Int)).toNat else min v.toNat n
def qC(n d)(b:d<=n)(o):aQ n d o<=n:=by
 cases o with
 |none=>exact b
 |some v =>
  show(if v<0 then(v+(n:Int)).toNat else min v.toNat n)<=n
  by_cases a:v<0
  .rw[if_pos a];lia
  .rw[if_neg a];exact R1 _ _
def xg(v)(n d:Nat):(if v<0 then max (v+(n:Int)) 0 else min v (n:Int))=((aQ n d (Z v):Nat):Int):=by
 show(if v<0 then max (v+(n:Int)) 0 else min v (n:Int))=(((if v<0 then(v+(n:Int)).toNat else min v.toNat n):Nat):Int)
 by_cases a:v<0
 .simp only[if_pos a];lia
 .simp only[if_neg a];lia
def C2(lo hi)(n:Nat):Xd lo hi 1 (n:Int)=(((aQ n 0 lo:Nat):Int),((aQ n n hi:Nat):Int)):=by
 have a:¬((1:Int)<0):=by lia
 unfold Xd;simp only[a,Qs];refine Prod.ext ?_ ?_
 .cases lo with
  |none=>rfl
  |some v=>exact xg v n 0
 .cases hi with
  |none=>rfl
  |some v=>exact xg v n n
def KH(i j:Nat):WT (i:Int) (j:Int) 1=j-i:=by
 unfold WT;have a:(1:Int)>0:=by lia
 simp only[a,Q3,Int.ediv_one]
 split<;>lia
def BD(p:Ya v o)(h:Q o s):VO (VW prog w) A (Builtin.Slice.slicePartIndex v) Q E s:=by
 cases p with
 |none=>exact slicePart_none h
 |int i t=>exact slicePart_int h
def BC{lo hi:Option Int}{n:Nat}(e:s.heap.IsSliceOf i c d .none)(f:Ya c lo)(g:Ya d hi)(h:Q (((aQ n 0 lo:Nat):Int),1,aQ n n hi-aQ n 0 lo) s):VO (VW prog w) A (XC (.ref i) (pure (n:Int))) Q E s:=by
 obtain⟨os,b,j,a⟩:=id e;unfold XC Builtin.Slice.sliceFields;refine PV (PV (RR b a (x:=c) rfl (PV (RR b a (x:=d) rfl (PV (RR b a (x:=.none) rfl (VG ?_)))))));refine PV (slicePart_none ?_);show VO _ _ (if ((1:Int)==0)=J then _ else _) _ _ s;rw[if_neg ∅];refine PV (BD f (PV (BD g (PV (VG ?_)))));show VO _ _ (match Xd lo hi 1 (n:Int) with|(lo,hi)=>pure (lo,(1:Int),WT lo hi 1)) _ _ s;rw[C2 lo hi n];show VO _ _ (pure (((aQ n 0 lo:Nat):Int),(1:Int),WT ((aQ n 0 lo:Nat):Int) ((aQ n n hi:Nat):Int) 1)) _ _ s;rw[KH];exact VG h
def KD(xs:Array VI)(i k:Nat):((VN k).filterMap λ(m:Nat)=>xs[((i:Int)+(m:Int)*1).toNat]?).toArray=((xs.toList.drop i).take k).toArray:=by
 have e:(λ(m:Nat)=>xs[((i:Int)+(m:Int)*1).toNat]?)=λm=>xs[i+m]?:=by
  funext m;have:((i:Int)+(m:Int)*1).toNat=i+m:=⋯;rw[this]
 rw[e];have:=pick_run xs i k;rw[List.filterMap_map]at this;have e2:((λx=>xs[x]?) ∘ λx=>i+x)=λm=>xs[i+m]?:=rfl
 rw[e2]at this;rw[this]
def GS{lo hi:Option Int}(b:IsTup s.heap t a)(d:s.heap.IsSliceOf e n o .none)(k:Ya n lo)(l:Ya o hi)(hw:¬(aQ a.size 0 lo=0/\aQ a.size a.size hi=a.size))(h:Q (.ref s.heap.objs.size) { s with heap:=s.heap.push { cls:=.type "tuple",data:=.seq ((a.toList.drop (aQ a.size 0 lo)).take (aQ a.size a.size hi-aQ a.size 0 lo)).toArray } })(hsz:a.size<=V5):VO (VW prog w) A (XA (.ref t) (.ref e)) Q E s:=by
 have c:sizeOk (.seq ((a.toList.drop (aQ a.size 0 lo)).take (aQ a.size a.size hi-aQ a.size 0 lo)).toArray):=by
  show((a.toList.drop (aQ a.size 0 lo)).take (aQ a.size a.size hi-aQ a.size 0 lo)).toArray.size<=V5;rw[P6,QI,Q6,VK];exact Qk (R1 ..) (Qk (Sw ..) hsz)
 have r:aQ a.size a.size hi<=a.size:=qC _ _ (P0 _) hi;obtain⟨os,j,g,p⟩:=id d;have f:s.TypeIs (.ref e) "slice":=⟨os,j,g⟩;unfold XA
 try with_reducible refine RJ ?_
 first|refine PV (VG ?_)|skip
 refine PV (wpAny_sequenceKey b.typeIs ∅ ?_);refine PV (Rt (name:=Xc "__getitem__") b.typeIs Q4
  (Rn Q4 b.typeIs YV ?_ (args_tuple_getitem _ _)))
 show VO _ _ (XD (.ref t)>>=_) _ _ s;refine PV (tupleItemsOf_ b ?_);refine PV (Sx f ?_);rw[if_pos ∅];refine PV (BC d k l ?_);have i:¬((((aQ a.size 0 lo:Nat):Int)==0&&(1:Int)==1&&(aQ a.size a.size hi-aQ a.size 0 lo)==a.size)=J):=by
  intro q;rw[PW,PW]at q;have u:((aQ a.size 0 lo:Nat):Int)=0:=eq_of_beq q.1.1;have v:aQ a.size a.size hi-aQ a.size 0 lo=a.size:=eq_of_beq q.2;exact hw ⟨⋯,⋯⟩
 show VO _ _ (if (((aQ a.size 0 lo:Nat):Int)==0&&(1:Int)==1&&(aQ a.size a.size hi-aQ a.size 0 lo)==a.size)=J then _ else _) _ _ s;rw[if_neg i,KD]
 first
  |exact PV (m:=WC _) (QA (VG ⟨_,rfl,VG h⟩) c)
  |exact PV (m:=WC _) (QA (PV (VG (VG ⟨_,rfl,VG h⟩))) c)
  |exact PV (PV (m:=WC _) (QA (VG (VG ⟨_,rfl,VG h⟩)) c))
  |exact PV (PV (m:=WC _) (QA (VG ⟨_,rfl,VG h⟩) c))
end
end bu
namespace az
open PySem PySem.Spec PyProof.Rows
noncomputable abbrev h6:=St->ah->(Option Int->ah->Prop)->Prop
def hn(X:aq)(e:Option V3)(t:h6):Prop :=
 ∀(c:List (VU×WS))(s:VL)(a:St)(H:ah)(Q:Option Int->ah->Prop),Inv X c a H s->t a H Q ->
  VO (VW X.prog X.w) X.A (evalPart e X.env) (λu s'=>∃o b,Inv X c a b s'/\Ya u o/\Q o b) X.a6 s
abbrev NL:h6:=λ_ H Q=>Q Y H
abbrev NQ(t:TE):h6:=λb H Q=>t b H λx a=>∃i,x=.int i/\Q (Z i) a
def intsAre_of:∀{a:List VI},Vals (ns.map V.int) a->Wk a ns:=by
 induction ns with
 |nil=>intro a r;rw[S3]at r;cases r;exact .nil
 |cons n ns b =>
  intro a r;rw[VP]at r;cases r with
  |cons c d =>
   obtain⟨t,e⟩:=c;subst e;exact .cons n t (b d)
section
variable{X:aq}{e:V3}{ez:TE}{lo hi:Option V3}{iH qX:h6}{pos p2:Xo}
def KL:hn X Y NL:=by
 intro a s b H Q I h;rw[evalPart_none];exact VG ⟨Y,H,I,.none,h⟩
def KN(h:ai X e ez):hn X (Z e) (NQ ez):=by
 intro c s j H Q I hw;rw[evalPart_some];refine aP (h c s j H _ I hw) λu k g=>?_
 obtain⟨x,a,b,f,d⟩:=g;obtain⟨i,rfl,q⟩:=d;obtain⟨t,rfl⟩:=f;exact⟨Z i,a,b,.int i t,q⟩
def mE(X:aq)(r:V->Option Int->Option Int->ah->cc->Prop):Prop :=
 ∀(a:List (VU×WS))(s:VL)(f:St)(H:ah)(x:V)(v c d:VI)(lo hi:Option Int)(b:VU)(Q:cc),Inv X a f H s->RelV x v->s.heap.IsSliceOf b c d .none->Ya c lo->Ya d hi->r x lo hi H Q ->
  ∃T id,typeLookup (.type T) "__getitem__"=pure (Z (.builtin id))/\s.TypeIs v T/\VO (VW X.prog X.w) X.A (XA v (.ref b)) (cU X a f Q) X.a6 s
def NT(r:V->Option Int->Option Int->ah->cc->Prop)(ez:TE)(iH qX:h6):TE:=λa H Q=>ez a H λx b=>iH a b λl c=>qX a c λu d=>r x l u d Q
def Kp(z:mE X r)(t:ai X e ez)(y:hn X lo iH)(B:hn X hi qX):ai X (.Subscript e (.Slice lo hi Y p2) pos) (NT r ez iH qX):=by
 intro a s c H Q I h;refine Subscript_ (aP (t a s c H _ I h) λv N O=>?_);obtain⟨x,i,k,M,E⟩:=O;refine wpAny_Slice (aP (y a N c i _ k E) λd s2 ⟨l,j,m,C,G⟩=>aP (B a s2 c j _ m G) λf s3 ⟨u,g,n,D,L⟩=>?_);rw[evalPart_none];refine VG ?_;have o:Inv X a c g { s3 with heap:=s3.heap.push { cls:=.type "slice",data:=.fields #[d,f,.none] } }:=n.kept (t':=s3.toks) λb R q=>PX _ q
 obtain⟨T,id,p,A,w⟩:=z a { s3 with heap:=s3.heap.push { cls:=.type "slice",data:=.fields #[d,f,.none] } } c g x v d f l u s3.heap.objs.size Q o M (Heap.IsSliceOf.new ..) C D L;show VO (VW X.prog X.w) X.A (Y2 e (.Slice lo hi Y p2) v (.ref s3.heap.objs.size)) (cU X a c Q) X.a6 { s3 with heap:=s3.heap.push { cls:=.type "slice",data:=.fields #[d,f,.none] } };exact tail_any (ops:=[.ref s3.heap.objs.size,v]) A p w (by with_unfolding_all rfl)
def h8(xs:List V)(lo hi:Option Int):List V:=(xs.drop (bu.aQ xs.length 0 lo)).take (bu.aQ xs.length xs.length hi-bu.aQ xs.length 0 lo)
def xn(xs)(lo hi):(h8 xs lo hi).length<=xs.length:=by
 unfold h8;rw[QI,Q6];lia
def Lo(K:W.Frag):V->Option Int->Option Int->ah->cc->Prop:=λx lo hi H Q=>∃a xs,x=.ref a/\cW K H a xs /\
 ¬(bu.aQ xs.length 0 lo=0/\bu.aQ xs.length xs.length hi=xs.length)/\∀p,H p=Y->Q (.ref p) (upd H p (.tup (h8 xs lo hi)))
def M0:mE X (Lo X.K):=by
 intro m s u H x v p t lo hi n Q I k f i j h;obtain⟨a,xs,rfl,g,hw,q⟩:=h;cases k;obtain⟨its,r,d,hz⟩:=I.tuple g;have c:its.toArray.size=xs.length:=by rw[P6];exact r.length.symm
 refine⟨"tuple",_,Q4.lookup,d.typeIs,?_⟩;refine bu.GS d f i j (by rw[c];exact hw) ?_ (by rw[c];exact hz);rw[c];refine⟨.ref s.heap.objs.size,_,I.laid (t':=s.toks) (o:=.tup (h8 xs lo hi)) (λb l q=>PX _ q) (P0 _) ?_,rfl,q _ (I.aM.fresh (P0 _))⟩;exact⟨Qk (xn xs lo hi) hz,_,(r.drop (bu.aQ xs.length 0 lo)).take (bu.aQ xs.length xs.length hi-bu.aQ xs.length 0 lo),IsTup.new _ _⟩
def Lk(K:W.Frag):fs:=λx y H Q=>∃a b ns c,x=.ref a/\y=.ref b/\cW K H a (ns.map V.int)/\cW K H b (c.map V.int)/\Q (.ag (bu.lexLt ns c)) H
def JW(f:X.A.units<WJ):bP X (Wa .Lt) (Lk X.K):=by
 intro o s p H x y v u Q I m n h;obtain⟨a,b,ns,ms,rfl,rfl,c,d,q⟩:=h;cases m;cases n;obtain⟨its,k,p1,_⟩:=I.tuple c;obtain⟨j,l,p2,_⟩:=I.tuple d;have g:Wk its.toArray.toList ns:=intsAre_of k;have i:Wk j.toArray.toList ms:=intsAre_of l;exact bu.zu p1 p2 g i f ⟨.ag (bu.lexLt ns ms),H,I,rfl,q⟩
end
end az
namespace az
open PySem PySem.Spec PyProof.Rows
abbrev eu(n:Nat)(i:Int):Option Nat:=if 0<=i then(if i<n then Z i.toNat else Y) else if -(n:Int)<=i then Z (i+n).toNat else Y
def j6{α:Type}(xs:List α)(i:Int):Option α:=(eu xs.length i).bind λj=>xs[j]?
def yW(h:eu n i=Z j):seqIndex? i n=Z j/\j<n/\-(n:Int)<=i/\i<n:=by
 unfold eu at h
 by_cases h0:0<=i
 .rw[if_pos h0]at h
  by_cases a:i<n
  .rw[if_pos a]at h;have e:i.toNat=j:=Qy h;exact⟨by rw[ZV h0 a,e],⋯,⋯,a⟩
  .rw[if_neg a]at h;cases h
 .rw[if_neg h0]at h
  by_cases a:-(n:Int)<=i
  .rw[if_pos a]at h;have e:(i+n).toNat=j:=Qy h;exact⟨by rw[Zm ⋯ a,e],⋯,a,⋯⟩
  .rw[if_neg a]at h;cases h
def rL{α:Type}{xs:List α}{v:α}(h:j6 xs i=Z v):∃j,seqIndex? i xs.length=Z j/\xs[j]?=Z v/\j<xs.length/\-(xs.length:Int)<=i/\i<xs.length:=by
 unfold j6 at h;cases e:eu xs.length i with
 |none=>rw[e]at h;cases h
 |some j =>
  rw[e]at h;obtain⟨a,h2,h3,h4⟩:=yW e;exact⟨j,a,h,h2,h3,h4⟩
def rx(b:V3):Prop:=∀o i,YC b VF o i=operate [o,i] (XA o i)
def hX(X:aq)(r:fs):Prop :=
 ∀(d b:V3)(a:List (VU×WS))(s:VL)(c:St)(H:ah)(x y:V)(v u:VI)(Q:cc),Inv X a c H s->RelV x v->RelV y u->r x y H Q ->
  YC b VF v u=operate [v,u] (XA v u)->VO (VW X.prog X.w) X.A (Y2 d b v u) (cU X a c Q) X.a6 s
def wc(X:aq)(id:String)(r:V->List V->ah->cc->Prop):Prop :=
 ∀(a:List (VU×WS))(s:VL)(c:St)(H:ah)(x:V)(xs:List V)(v:VI)(b:List VI)(Q:cc),Inv X a c H s->RelV x v->Vals xs b->r x xs H Q ->
  VO (VW X.prog X.w) X.A (call (.builtin id) (v::b)) (cU X a c Q) X.a6 s
section
variable{X:aq}{a b:V3}{bR bS:TE}{pos:Xo}
def hX.or(h:hX X r)(h':hX X k):hX X (λx y H Q=>r x y H Q\/k x y H Q):=by
 intro i g d s j H x y v u Q I e f q c;rcases q with q|q
 .exact h i g d s j H x y v u Q I e f q c
 .exact h' i g d s j H x y v u Q I e f q c
def Kl(g:hX X r)(e:ai X a bR)(f:ai X b bS)(i:rx b):ai X (.Subscript a b pos) (og r bR bS):=by
 intro j s m H Q I h;exact Subscript_ (sz e f I h λv u s2 x y c d k l q=>g a b j s2 m c x y v u Q d k l q (i _ _))
abbrev AB(K:W.Frag):fs:=λx y H Q=>∃p xs i v,x=.ref p/\y=.int i/\cz K H p xs/\j6 xs i=Z v/\Q v H
abbrev AE(K:W.Frag):fs:=λx y H Q=>∃p xs i v,x=.ref p/\y=.int i/\cW K H p xs/\j6 xs i=Z v/\Q v H
abbrev AD:fs:=λx y H Q=>∃z i c,x=.str z/\y=.int i/\z.length<=V5/\j6 z.cps.toList i=Z c/\Q (.str ⟨#[c]⟩) H
def HH:hX X (AB X.K):=by
 intro G E k s l H x y v u Q I B C h g;obtain⟨p,xs,i,z,rfl,rfl,o,m,q⟩:=h;cases B;obtain⟨t,rfl⟩:=C;obtain⟨its,r,e,hz⟩:=I.list o;obtain⟨j,c,h2,h3,h4,h5⟩:=rL m;obtain⟨w,f,A⟩:=r.get h2;have n:=r.length;have D:=nC;have fin:cU X k l Q w s:=⟨z,H,I,A,q⟩
 by_cases h0:0<=i
 .have d:i.toNat=j:=by
   rw[ZV h0 h5]at c;exact Qy c
  exact item_listR e.isList h0 ⋯ (by rw[d];simpa using f) fin g
 .have d:(i+(its.toArray.size:Int)).toNat=j:=by
   rw[Zm ⋯ h4]at c;rw[P6,<- n];exact Qy c
  exact Yb (x:=w) e.isList.typeIs slot_list_getitem.lookup
   (wpAny_getItem_list_neg (Q:=λr s'=>r=w/\cU X k l Q r s') e.isList ⋯ (by rw[P6]<;>lia) ⋯ (by rw[d];simpa using f) ⟨rfl,fin⟩) g
def HL:hX X (AE X.K):=by
 intro E D c s e H x y v u Q I A B h n;obtain⟨p,xs,i,z,rfl,rfl,m,k,q⟩:=h;cases A;obtain⟨t,rfl⟩:=B;obtain⟨its,r,d,hz⟩:=I.tuple m;obtain⟨j,g,h2,h3,h4,h5⟩:=rL k;obtain⟨w,f,o⟩:=r.get h2;have l:=r.length;have C:=nC;have fin:cU X c e Q w s:=⟨z,H,I,o,q⟩;exact Yb (x:=w) d.typeIs slot_tuple_getitem.lookup
  (getItem_tuple (j:=j) (Q:=λr s'=>r=w/\cU X c e Q r s') d ⋯ ⋯ (by rw[P6,<- l];exact g) ⇑f ⟨rfl,fin⟩) n
def HK:hX X AD:=by
 intro p o n s r H x y v u Q I k l h g;obtain⟨z,i,c,rfl,rfl,hz,e,q⟩:=h;obtain⟨t,rfl⟩:=k;obtain⟨t',rfl⟩:=l;obtain⟨j,d,h2,h3,h4,h5⟩:=rL e;have f:z.cps.toList.length=z.length:=by simp[Str.length]
 rw[f]at d h4 h5;have m:=nC;exact tail_any (typeIs_str s z t) slot_str_getitem.lookup (getItem_str (c:=c) (by
  have e1:decide (i < -(2 ^ 63:Int))=false:=decide_eq_false ⋯;have e2:decide (i>=2 ^ 63)=false:=decide_eq_false ⋯;rw[e1,e2,Bool.or_false]) (by rw[d];simpa using h2) ⟨.str ⟨#[c]⟩,H,I.tok _,⟨_,rfl⟩,q⟩) g
def Lj(K:W.Frag):fs:=λx y H Q=>AB K x y H Q\/AE K x y H Q\/AD x y H Q
def HJ:hX X (Lj X.K):=HH.or (HL.or HK)
def IV(its:List VI)(n j)(u):Wh (·.setIfInBounds j u) { cls:=.type "list",data:=.seq its.toArray n }={ cls:=.type "list",data:=.seq (its.set j u).toArray n }:=by
 simp[Wh]
theorem Inv.lst{c:St}{H:ah}{s:VL}{p:VU}{xs:List V}(I:Inv X d c H s)(h:H p=Z (.lst xs)):
  ∃(its:List VI)(n:Nat),Vals xs its/\s.heap.get? p=Z { cls:=.type "list",data:=.seq its.toArray n }/\xs.length<=sizeLine:=by
 obtain⟨z,its,n,r,e⟩:=I.aM p _ h;exact⟨its,n,r,e,z⟩
def Inv.IJ{g:St}{its its':List VI}(I:Inv X k g H s)(h:H p=Z (.lst xs))(j:s.heap.get? p=Z { cls:=.type "list",data:=.seq its.toArray n })(c:f { cls:=.type "list",data:=.seq its.toArray n }={ cls:=.type "list",data:=.seq its'.toArray d })(r:Vals ys its')(hz:ys.length<=V5)(t):
  Inv X k g (upd H p (.lst ys)) { s with heap:=s.heap.update p f,toks:=t }:=by
 have e:(s.heap.update p f).get? p=Z { cls:=.type "list",data:=.seq its'.toArray d }:=by
  rw[QE f j (by rw[c]<;>rfl),c]
 refine I.write (x:=p) (e:=p) (by rw[h];trivial) (.inl rfl) (λb u i q=>(Qt _ _ (Q8 i)).trans q) ⟨_,e⟩ ?_;exact⟨hz,its',d,r,e⟩
def Ll:V->V->V->ah->(ah->Prop)->Prop:=λo i v H Q=>∃p xs k j,o=.ref p/\i=.int k/\H p=Z (.lst xs)/\eu xs.length k=Z j/\Q (upd H p (.lst (xs.set j v)))
def set_list:CU X Ll:=by
 intro w s A H o i v D C u Q I y x z h;obtain⟨p,xs,k,j,rfl,rfl,l,m,q⟩:=h;cases y;obtain⟨t,rfl⟩:=x;obtain⟨its,n,r,f,hz⟩:=I.lst l;obtain⟨c,h2,h3,h4⟩:=yW m;have e:=r.length;have B:=nC;have g:Inv X w A (upd H p (.lst (xs.set j v))) { s with heap:=s.heap.update p (Wh (·.setIfInBounds j u)) } :=
  I.IJ l f (IV its n j u) (r.set z j) (by rw[WA];exact hz) s.toks
 by_cases h0:0<=k
 .have d:k.toNat=j:=by
   rw[ZV h0 h4]at c;exact Qy c
  exact PySem.W.ki_setAt f h0 ⋯ (by rw[P6,<- e];exact h4) (by rw[d];exact⟨_,g,q⟩)
 .have d:(k+(its.toArray.size:Int)).toNat=j:=by
   rw[Zm ⋯ h3]at c;rw[P6,<- e];exact Qy c
  exact PySem.W.ki_setBack f ⋯ (by rw[P6,<- e];exact h3) ⋯ (by rw[d];exact⟨_,g,q⟩)
def BA{i:Int}{n:Nat}(h:i<0):max 0 (min (i+↑n) ↑n)=((i+↑n).toNat:Int):=by
 rw[Z1 ⋯,Int.max_comm,Int.toNat_eq_max]
def BB{i:Int}{n:Nat}(h:¬i<0):max 0 (min i ↑n)=((min i.toNat n:Nat):Int):=by
 obtain⟨k,rfl⟩:=US (Int.not_lt.mp h);rw[Ws];rcases Nat.le_total k n with q|q
 .rw[QZ q,Z1 (Int.ofNat_le.mpr q)];exact ZG (RE _)
 .rw[UT q,Int.min_eq_right (Int.ofNat_le.mpr q)];exact ZG (RE _)
def M3(lo hi)(n):(Xh lo hi Y n).1=((bu.aQ n 0 lo:Nat):Int)/\(Xh lo hi Y n).2.1=((bu.aQ n n hi:Nat):Int)/\(Xh lo hi Y n).2.2=1:=by
 refine⟨?_,?_,rfl⟩
 .cases lo with
  |none=>simp[Xh,bu.aQ]
  |some i =>
   simp only[Xh,bu.aQ,ZH,show(1:Int)>0 by decide,Q3]
   by_cases h:i<0
   .simp only[h,Q3]<;>first|exact BA h|lia
   .simp only[h,Qs]<;>first|exact BB h|lia
 .cases hi with
  |none=>simp[Xh,bu.aQ]
  |some i =>
   simp only[Xh,bu.aQ,ZH,show(1:Int)>0 by decide,Q3]
   by_cases h:i<0
   .simp only[h,Q3]<;>first|exact BA h|lia
   .simp only[h,Qs]<;>first|exact BB h|lia
def M1(its:List VI)(lo hi):slicePick its.toArray lo hi Y=((its.drop (bu.aQ its.length 0 lo)).take (bu.aQ its.length its.length hi-bu.aQ its.length 0 lo)).toArray:=by
 obtain⟨c,h2,h3⟩:=M3 lo hi its.toArray.size;unfold slicePick;rw[c,h2,h3];simp only[sliceRange_one,pick_run,P6]<;>rfl
def Ln(K:W.Frag):V->Option Int->Option Int->ah->cc->Prop:=λx lo hi H Q=>∃a xs,x=.ref a/\cz K H a xs/\∀p,H p=Y->Q (.ref p) (upd H p (.lst (h8 xs lo hi)))
def MY:mE X (Ln X.K):=by
 intro l s t H x v n p lo hi m Q I j e g i h;obtain⟨a,xs,rfl,f,q⟩:=h;cases j;obtain⟨its,r,c,hz⟩:=I.list f;have d:=r.length;refine⟨"list",_,slot_list_getitem.lookup,c.isList.typeIs,?_⟩;refine wpAny_getItem_list_slice c.isList e g i .none (by simp) ?_ (by rw[P6]<;>lia);rw[M1,<- d];refine⟨.ref s.heap.objs.size,_,I.laid (t':=s.toks) (o:=.lst (h8 xs lo hi)) (λb k q=>PX _ q) (P0 _) ?_,rfl,q _ (I.aM.fresh (P0 _))⟩;exact⟨Qk (xn xs lo hi) hz,_,0,(r.drop (bu.aQ xs.length 0 lo)).take (bu.aQ xs.length xs.length hi-bu.aQ xs.length 0 lo),Qb _ rfl⟩
def w3:ei X (.builtin "len") (λxs H Q=>∃p ys,xs=[.ref p]/\(cz X.K H p ys\/cW X.K H p ys)/\Q (.int ys.length) H):=by
 intro j s l H xs k Q I r h;obtain⟨p,ys,rfl,c,q⟩:=h;obtain⟨u,rfl,g⟩:=vals1 r;cases g;have i:=nC;rcases c with c|c
 .obtain⟨its,f,e,hz⟩:=I.list c;have d:=f.length;exact Calls.call_len_list e.isList (by simp only[P6]<;>lia) ⟨.int ys.length,H,I.tok _,⟨s.toks+1,by rw[P6,d]⟩,q⟩
 .obtain⟨its,f,e,hz⟩:=I.tuple c;have d:=f.length;exact len_tuple e (by simp only[P6]<;>lia) ⟨.int ys.length,H,I.tok _,⟨s.toks+1,by rw[P6,d]⟩,q⟩
def w4:ei X (.type "list") (λxs H Q=>∃p ys,xs=[.ref p]/\(cz X.K H p ys\/cW X.K H p ys)/\∀l,H l=Y->Q (.ref l) (upd H l (.lst ys))):=by
 intro w s y H xs z Q I r h;obtain⟨p,ys,rfl,f,q⟩:=h;obtain⟨u,rfl,x⟩:=vals1 r;cases x;have fin:∀(its:List VI),Vals ys its->ys.length<=V5->∀(h':We)(c:Nat),(∀b t,s.heap.get? b=Z t->h'.get? b=Z t) ->
   h'.get? s.heap.objs.size=Z { cls:=.type "list",dict:=Y,data:=.seq its.toArray c,slots:=#[] }->cU X w y Q (.ref s.heap.objs.size) { s with heap:=h' }:=λits d hz h' c g e =>
  ⟨.ref s.heap.objs.size,_,I.laid (t':=s.toks) g (P0 _) (show b8 X.prog X.w _ h' _ (.lst ys) from⟨hz,its,c,d,e⟩),rfl,q _ (I.aM.fresh (P0 _))⟩
 rcases f with f|f
 .obtain⟨its,d,m,hz⟩:=I.list f;have v:=d.length;obtain⟨o,k,i,n,j⟩:=m.isList;exact call_list_seq p (.inl rfl) k i j (λh' c g e=>fin its d hz h' c g e) (by simp only[P6]<;>lia)
 .obtain⟨its,d,m,hz⟩:=I.tuple f;have v:=d.length;obtain⟨o,k,i,n,j⟩:=m;exact call_list_seq p (.inr rfl) k i j (λh' c g e=>fin its d hz h' c g e) (by simp only[P6]<;>lia)
def w5:ei X (.type "tuple") (λxs H Q=>∃p ys,xs=[.ref p]/\((cz X.K H p ys/\∀l,H l=Y->Q (.ref l) (upd H l (.tup ys)))\/(cW X.K H p ys/\Q (.ref p) H))):=by
 intro i s j H xs v Q I r h;obtain⟨p,ys,rfl,h⟩:=h;obtain⟨u,rfl,n⟩:=vals1 r;cases n;rcases h with⟨c,q⟩|⟨c,q⟩
 .obtain⟨its,f,d,hz⟩:=I.list c;have t:=f.length;refine call_tuple_list d.isList (λh' m=>?_) (by simp only[P6]<;>lia);have g:Inv X i j H { s with heap:=h' }:=I.kept (t':=s.toks) m;have k:Inv X i j (upd H h'.objs.size (.tup ys)) { s with heap:=h'.push { cls:=.type "tuple",data:=.seq its.toArray } } :=
   g.laid (t':=s.toks) (λb o e=>PX _ e) (P0 _) (show b8 X.prog X.w _ _ _ (.tup ys) from⟨hz,its,f,IsTup.new _ _⟩)
  exact⟨.ref h'.objs.size,_,k,rfl,q _ (g.aM.fresh (P0 _))⟩
 .obtain⟨its,f,d,hz⟩:=I.tuple c;exact call_tuple_same d ⟨.ref p,H,I,rfl,q⟩
def vL(K:W.Frag)(T:String)(x:V)(H:ah):Prop:=match x with
 |.str _=>T="str"
 |.int _=>T="int"
 |.ref p=>(T="list"/\∃xs,cz K H p xs)\/(T="tuple"/\∃o,K.lookup p=Z o/\o.cls=.type "tuple"/\o.dict=Y) \/
   (T="dict"/\((∃c,H p=Z (.cg c))\/∃c,H p=Z (.cD c)))\/(T="set"/\∃S n,H p=Z (.set S n))
 |_=>False
def Cn{u:St}(I:Inv X w u H s)(r:RelV x v)(g:vL X.K T x H):
  s.TypeIs v T/\∀a,v=.ref a->∃j,s.heap.get? a=Z j/\j.dict=none:=by
 cases x with
 |str z =>
  obtain⟨t,rfl⟩:=r;cases (show T="str" from g);exact⟨typeIs_str s z t,λ_ e=>nomatch e⟩
 |int i =>
  obtain⟨t,rfl⟩:=r;cases (show T="int" from g);exact⟨typeIs_int s i t,λ_ e=>nomatch e⟩
 |ref p =>
  cases r;rcases g with⟨rfl,xs,m⟩|⟨rfl,o,d,l,h⟩|⟨rfl,d⟩|⟨rfl,S,n,d⟩
  .obtain⟨its,_,k,_⟩:=I.list m;refine⟨k.isList.typeIs,λa e=>?_⟩;cases e;obtain⟨o,n,e,c,h,_⟩:=k;exact⟨o,e,h⟩
  .refine⟨⟨o,I.dQ p o d,l⟩,λa e=>?_⟩;cases e;exact⟨o,I.dQ _ o d,h⟩
  .have z:∃o,s.heap.get? p=Z o/\o.ExactDict:=by
    rcases d with⟨q,d⟩|⟨q,d⟩
    .obtain⟨_,_,_,_,o,_,_,e,f,_⟩:=I.aM p _ d;exact⟨o,e,f⟩
    .obtain⟨_,_,_,_,o,_,_,e,f,_⟩:=I.aM p _ d;exact⟨o,e,f⟩
   obtain⟨o,e,f⟩:=z;refine⟨⟨o,e,f.1⟩,λa e2=>?_⟩;cases e2;exact⟨o,e,f.2.1⟩
  .obtain⟨o,_,_,_,e,f,_⟩:=I.aM p _ d;refine⟨⟨o,e,f.1⟩,λa e2=>?_⟩;cases e2;exact⟨o,e,f.2.1⟩
 |_=>exact W8 g
abbrev BV(K:W.Frag)(T:String)(r:V->List V->ah->cc->Prop)(d:TE):TE:=λe H Q=>d e H λx c=>vL K T x c/\r x [] c Q
abbrev Nz(K:W.Frag)(T:String)(r:V->List V->ah->cc->Prop)(f:TE)(t:d4):TE:=λd H Q=>f d H λx c=>vL K T x c/\t d c λxs e=>r x xs e Q
variable{o e:V3}{aB:List V3}{to:TE}{t:d4}{name:V1}{apos dE:Xo}{T id:String}{r:V->List V->ah->cc->Prop}
def Kc(q:PlainAttrs T)(y:Slot T name id)(p:XM (.builtin id)=pure (.type "method_descriptor"))(m:wc X id r)(n:ai X o to)(k:XN o name X.env (Wx o X.env)=Wx o X.env:=by rfl)(l:(apos.endLine==dE.line)=true:=by rfl):ai X (.Call (.Attribute o name apos) [] [] dE) (BV X.K T r to):=by
 intro d s g H Q I h;refine wpAny_Call_method0_late k l (aP (n d s g H _ I h) λv w A=>?_);obtain⟨x,i,c,f,z,u⟩:=A;obtain⟨j,h2⟩:=Cn c f z;exact⟨T,id,q,y,p,j,h2,Yc rfl (PySem.evalArgs_none (m d w g i x [] v [] Q c f .nil u))⟩
def Ae(C:PlainAttrs T)(M:Slot T name id)(B:XM (.builtin id)=pure (.type "method_descriptor"))(w:wc X id r)(y:ai X o to)(n:dU X (e::aB) t)(p:XN o name X.env (Wx o X.env)=Wx o X.env:=by rfl)(q:((Xe dE (V4 (e::aB) X.env)).all (λx=>!x.1)&&(backToKw dE (YD [] X.env)).all (λx=>x.1.isSome)
   && decide ((e::aB).length+([]:List Xz).length+(if ([]:List Xz).isEmpty then 0 else 1)<30))=true:=by rfl)(u:(apos.endLine==dE.line)=true:=by rfl)(A:V4 (e::aB) X.env=(VF,Wx e X.env)::V4 aB X.env:=by rfl)(z:(Xe dE (V4 aB X.env)).any (·.1)=false:=by rfl):
  ai X (.Call (.Attribute o name apos) (e::aB) [] dE) (Nz X.K T r to t):=by
 intro c s d H Q I h;refine wpAny_Call_method_late p q u rfl (aP (y c s d H _ I h) λv L S=>?_);obtain⟨x,j,f,i,N,D⟩:=S;obtain⟨m,h2⟩:=Cn f i N;refine⟨T,id,C,M,B,m,h2,?_⟩;have g:=n dE c L d j _ f D;rw[A]at g ⊢;refine Yc (by show(VF||(Xe dE (V4 aB X.env)).any (·.1))=VF;rw[z]<;>rfl) (YE ?_);exact aP g λO s2 ⟨R,k,l,G,E⟩=>w c s2 d k x R v O Q l i G E
end
end az
namespace az
open PySem PySem.Spec PyProof.Rows
def rr(X:aq)(id:String)(r:V->List V->ah->cc->Prop):Prop :=
 ∀(a:List (VU×WS))(s:VL)(c:St)(H:ah)(x:V)(xs:List V)(v:VI)(b:List VI)(Q:cc),Inv X a c H s->RelV x v->Vals xs b->r x xs H Q ->
  VO (VW X.prog X.w) X.A (call (.builtin id) (v::b)) (cU X a c Q) X.a6 s
def Vals.one:∀{x:V}{a:List VI},Vals [x] a->∃u,a=[u]/\RelV x u:=by
 intro x a h;cases h with
 |cons r h=>cases h;exact⟨_,rfl,r⟩
def Vals.zero:∀{a:List VI},Vals [] a->a=[]
 |_,.nil=>rfl
theorem Vals.dropLast(h:Vals xs b):Vals xs.dropLast b.dropLast:=by
 induction h with
 |nil=>exact .nil
 |cons r t a =>
  cases t with
  |nil=>exact .nil
  |cons q t'=>exact .cons r a
theorem Vals.rep(h:Vals xs a):∀k:Nat,Vals (VV k xs).flatten (VV k a).flatten
 |0=>.nil
 |k+1=>by
  rw[RN,RN,Se,Se];exact Vals.append h (Vals.rep h k)
def FJ{α:Type}(l:List α):l.eraseIdx (l.length-1)=l.dropLast:=by
 induction l with
 |nil=>rfl
 |cons a r c =>
  cases r with
  |nil=>rfl
  |cons b r =>
   have e:(a::b::r).length-1=((b::r).length-1)+1:=by
    have d:(a::b::r).length=r.length+2:=rfl;have h2:(b::r).length=r.length+1:=rfl;lia
   rw[e,XY,c]
   all_goals rfl
theorem foldl_rep(its):∀(k:Nat)(a:List VI),
  aab (λb c=>b++c) a.toArray (VV k its.toArray)=(a++(VV k its).flatten).toArray
 |0,a=>by simp
 |k+1,a=>by
  have e:a.toArray++its.toArray=(a++its).toArray:=(by simp);have e2:(a++its)++(VV k its).flatten=a++(VV (k+1) its).flatten:=by
   rw[RN,Se,Qi]
  rw[<- e2,<- foldl_rep its k (a++its),<- e,RN,W4]
section
variable{X:aq}{pins:List (VU×WS)}{σ:St}{H:ah}{s:VL}{l b:VU}{xs ys zs:List V}
def Inv.uo{its its':List VI}(I:Inv X pins σ H s)(a:H l=Z (.lst xs))(e:s.heap.get? l=Z { cls:=.type "list",data:=.seq its.toArray n })(d:f its.toArray=its'.toArray)(h:Vals ys its')(hz:ys.length<=V5):
  Inv X pins σ (upd H l (.lst ys)) { s with heap:=s.heap.update l (Wh f),toks:=t' }:=by
 have q:=PySem.IsL.update e f;rw[d]at q;refine I.write (x:=l) (e:=l) (by rw[a];exact trivial) (.inl rfl) (λi u c g=>(Qt s.heap (Wh f) (Q8 c)).trans g) ⟨_,q⟩ ?_;exact⟨hz,its',_,h,q⟩
def Inv.zm(I:Inv X pins σ H s)(a:Vals ys its)(hz:ys.length<=V5):
  Inv X pins σ (upd H s.heap.objs.size (.lst ys)) { s with heap:=s.heap.push { cls:=.type "list",data:=.seq its.toArray },toks:=t' } :=
 I.laid (λ_ _ q=>PX _ q) (P0 _) ⟨hz,its,0,a,Qb _ rfl⟩
theorem Inv.fresh(I:Inv X pins σ H s):H s.heap.objs.size=none:=I.aM.fresh (P0 _)
def Inv.uq(I:Inv X pins σ H s)(a:H l=Z (.lst xs)):xs.length<=V5/\∃(its:List VI)(n:Nat),Vals xs its/\xs.length=its.length/\s.heap.get? l=Z { cls:=.type "list",data:=.seq its.toArray n }:=by
 obtain⟨z,its,n,r,e⟩:=I.aM l _ a;exact⟨z,its,n,r,r.length,e⟩
def zW(h:n<=V5):W0 n=false:=by
 unfold W0;exact decide_eq_false ⋯
end
section
variable{X:aq}
def Lh:V->List V->ah->cc->Prop:=λx a H Q=>∃l xs y,x=.ref l/\a=[y]/\H l=Z (.lst xs)/\xs.length<V5/\Q .b0 (upd H l (.lst (xs++[y])))
def zJ:rr X "list.append" Lh:=by
 intro g s k H x j v i Q I d c h;obtain⟨l,xs,y,rfl,rfl,a,hz,q⟩:=h;cases d;obtain⟨u,rfl,b⟩:=c.one;obtain⟨z,its,n,r,f,e⟩:=I.uq a;refine U4 F.slot_list_append ⟨_,e,rfl⟩ F.entry_list_append (F.args_list_append_2 _ _) (PySem.list_append l its.toArray n u (by rw[P6];lia)) ⟨e,?_⟩;refine⟨.b0,_,I.uo (its':=its++[u]) a e (by simp) (r.append (.cons b .nil)) ?_,rfl,q⟩;rw[PY,V8];lia
def AF:V->List V->ah->cc->Prop:=λx a H Q=>∃l xs y,x=.ref l/\a=[]/\H l=Z (.lst xs)/\xs[xs.length-1]?=Z y/\Q y (upd H l (.lst xs.dropLast))
def Jl:rr X "list.pop" AF:=by
 intro m s t H x p v o Q I k j h;obtain⟨l,xs,y,rfl,rfl,a,f,q⟩:=h;cases k;have d:=j.zero;subst d;obtain⟨z,its,n,r,b,e⟩:=I.uq a;obtain⟨u,c,i⟩:=r.get f;have g:its.toArray[its.toArray.size-1]?=Z u:=by
  show its.toArray[its.length-1]?=Z u;rw[<- Qm,<- b];exact c
 refine U4 F.slot_list_pop ⟨_,e,rfl⟩ F.entry_list_pop (F.args_list_pop_1 _) (MeetsSeq.list_pop_last l its.toArray n u g (by rw[P6];lia)) ⟨e,?_⟩;refine⟨y,_,I.uo (its':=its.dropLast) a e ?_ r.dropLast ?_,i,q⟩
 .show its.toArray.eraseIdxIfInBounds (its.toArray.size-1)=its.dropLast.toArray;rw[P6,List.eraseIdxIfInBounds_toArray,FJ]
 .rw[YF];lia
def len_rep{α:Type}(xs:List α)(k):(VV k xs).flatten.length=k*xs.length:=by
 induction k with
 |zero=>simp
 |succ k a=>rw[RN,Se,PY,a,U5,VD]
end
end az
namespace v3
open PySem PySem.W PySem.Calls PyProof.Rows
def Hs:∀(ns:List Int)(c:List VI),WellAll P h c (ns.map WData.int)->Wk c ns:=by
 intro ns
 induction ns with
 |nil =>
  intro c w;rw[S3]at w;cases w;exact .nil
 |cons n ns d =>
  intro c w;rw[VP]at w;cases w with
  |cons a b =>
   cases a;exact .cons _ _ (d _ b)
def MA{l:OpenLaw}(j:l.most=Z n)(c:l.row.toRowW.claim.pre args=J)(o:WellAll P h s args):
  ∃a e ns,s=[VY a]/\args=[WData.list (ns.map WData.int)]/\h.get? a=Z { cls:=.type "list",data:=.seq e.toArray }/\Wk e ns/\ns.length<=n:=by
 have m:WShape.hasAll [] args [.list .int]=true:=(pre_splitW c).1;have b:l.pre.holds [] { args:=args }=true:=(pre_splitW c).2;obtain⟨d,r,rfl,f,h2⟩:=hasAllW_cons m;obtain rfl:=hasAllW_nil h2;obtain⟨xs,rfl,h3⟩:=hasW_list f;obtain⟨ns,rfl⟩:=items_int h3;have i:ns.length<=n:=by
  unfold OpenLaw.pre at b;have h4:(WTm.not (.lt (.lit (.int (n:Int))) (.len (.arg 0)))).holds [] { args:=[.list (ns.map .int)] }=true:=by
   have h4:=(holds_andW b).1;rw[j]at h4;exact h4
  have h5:=condW_of h4 (w_not (w_lt w_lit (w_len_list (w_arg rfl))));rw[VH]at h5;refine UU λq=>?_
  have p:(n:Int)<((ns.length:Nat):Int):=by lia
  first
   |(rw[decide_eq_true p]at h5;exact absurd h5 ∅)
   |(simp at h5;lia)
 cases o with
 |cons t u =>
  cases u;cases t with
  |list k g=>exact⟨_,_,ns,rfl,rfl,k,Hs ns _ g,i⟩
def KP(l:OpenLaw)(args):l.row.toRowW.claim.post args (.bool J) args=true :=
 postW_of (r:=l.row.toRowW) (X:=(J==J))
  (show WShape.has [] (.bool J) .bool=J by first|rfl|decide|simp[WShape.has,WShape.arms,WShape.armsAll])
  (show(WTm.eq .res (.lit (.bool J))).value [] { args:=args,res:=Z (.bool J),after:=args }=Z (.bool (J==J)) from w_eq_bool (w_res rfl) w_lit) rfl
def DJ{l:OpenLaw}(H:l.most=Z n)(z:d.params.defaults=[])(call:∀(w:Wo)(m b:VL)(h j:V1->Option VI)(e:VU)(o:WS)(k g i:VI)(a:VU)(c:List VI)(ns:List Int),
   Ground q T [] s w m h j b.heap->u w b.heap ->
   b.heap.get? e=Z o->o.data=.func (docDef d.name d.params d.body d.scope k g i)->b.heap.CodeRec g d.name->h d.name=Z (.ref e) ->
   b.heap.get? a=Z { cls:=.type "list",data:=.seq c.toArray }->Wk c ns->ns.length<=n->b.gens=#[] ->
   Xy (VW l.prog w) Yd (.call (.ref e) ⟨[.ref a],[]⟩) (λr s'=>r=.ok (.ret (.bool J))/\OldK b.heap s'.heap/\s'.os=b.os/\Xx s'.gens) b):
  WalkO q T s u l.row.toRowW d [] (λf c=>PySem.call f c):=by
 intro w m b h j G t e o k g i v Q I y x p E A args a1 as M U a0 O V;obtain rfl:v=.none:=Dflts.none p z;obtain rfl:Q=.none:=Dflts.noKw p;obtain⟨a,c,ns,rfl,rfl,L,B,C⟩:=MA H M O;refine enter_call (Ue (call w m b h j e o k g i a c ns G t I (fd_plain y) x E L B C A) λr s' N=>?_);obtain⟨rfl,h2,h3,h4⟩:=N;exact⟨.inl ⟨.bool J,.bool J,[],rfl,λ_=>rfl,.bool J,KP l _,λ_=>⟨XI,λ_ D=>(nomatch D)⟩⟩,h2,h3,h4⟩
end v3
namespace az
open PySem PySem.Spec PyProof.Rows
theorem CC:∀{a:List VI}{ns:List Int},Wk a ns->Vals (ns.map V.int) a
 |_,_,.nil=>.nil
 |_,_,.cons n t h=>.cons ⟨t,rfl⟩ (CC h)
def ru(H:ah):Prop:=∀b,H b=Y\/∃o xs,H b=Z (.cx o (.lst xs))
def Ib{K:W.Frag}(A:K.In dJ.heap)(M:dJ.heap.Ns V2 l)(c:dJ.heap.Ns builtinsNs O)(a4:∀x:V1,x≠"__name__"->O x=Wu x)(aA:dJ.heap.NoLimit)(aw:dJ.gens=#[])(j:dJ.heap.get? a=Z { cls:=.type "list",data:=.seq f.toArray })(hi:Wk f ns)(L:ns.length<=V5)(aJ:d9 k Yd)(F:∀base:We,K.In base->base.Ns V2 l->hj P w K l base CX k D T [x] sp)(a5:∀(s:VL)(u:VI),X9 s T ⟨[u],[]⟩ [(x,u)])(aL:∀H:ah,ru H->cz K H a (ns.map V.int)->sp [.ref a] H (λv _=>v=.ag J) λ_ _ _=>False)(a0:∀H e s',CX [] H dJ (λ_ _ _=>False) e s'->False):
  Xy (VW P w) Yd (.call (.ref D) ⟨[.ref a],[]⟩) (λr s'=>r=.ok (.ret (.bool J))/\OldK dJ.heap s'.heap/\s'.os=dJ.os/\Xx s'.gens) dJ:=by
 have Q:=CC hi;have b1:=hi.length;have C:∀H:ah,ru H->cz K H a (ns.map V.int)->cC P w H dJ.heap->(∀b,H b≠Y->b=a)->(H a≠Y->K.lookup a=Y) ->
   Xy (VW P w) Yd (.call (.ref D) ⟨[.ref a],[]⟩) (λr s'=>r=.ok (.ret (.bool J))/\OldK dJ.heap s'.heap/\s'.os=dJ.os/\Xx s'.gens) dJ:=by
  intro H I a3 N E a1;have B:∀{b:VU}{o:WS},dJ.heap.get? b=Z o->H b=Y->(ic dJ.heap H).get? b=Z o:=λe n=>G6 e n
  have bp:∀{b:VU}{o:WS}{g:Array DictEntry}{gU:Nat},dJ.heap.get? b=Z o->o.data=.dict g gU->H b=none:=λ{b o g gU} e d=>by
   cases q:H b with
   |none=>rfl
   |some u =>
    have t:b=a:=E b (by rw[q];simp);subst t;rw[j]at e;cases e;have d':Data.seq f.toArray _=Data.dict g gU:=d;cases d'
  have p:∀{b:VU}{m:V1->Option VI},dJ.heap.Ns b m->(ic dJ.heap H).Ns b m:=λ{b m} ⟨o,g,gU,e,d,r⟩=>⟨o,g,gU,B e (bp e d),d,r⟩;have G:K.In (ic dJ.heap H):=λb o e=>B (A b o e) (by
   cases q:H b with
   |none=>rfl
   |some u =>
    have t:b=a:=E b (by rw[q];simp);subst t;rw[a1 (by rw[q];simp)]at e;cases e)
  have a2:Mod K l (ic dJ.heap H):=⟨G,p M,⟨O,p c,a4⟩,let ⟨b2,X,h2⟩:=aA;⟨b2,p X,h2⟩⟩;have e0:oz P w K l (ic dJ.heap H) Yd [] dJ H:=⟨rfl,a2,λb o e=>JN e,U6 (G7 _ _),trivial,λb c=>absurd (show b∈([]:List VU) from c) (by simp),N,.of_eq aw⟩;refine Ue ((F _ G (p M)).run Yd [] dJ H ⟨[.ref a],[]⟩ [.ref a] [.ref a] _ _ aJ e0 (a5 dJ (.ref a)) (.cons rfl .nil) (aL H I a3)) λr s' h=>?_
  cases r with
  |error e=>exact(a0 H e s' h).elim
  |ok U =>
   cases U with
   |next=>exact W8 h
   |brk=>exact W8 h
   |cont=>exact W8 h
   |ret u =>
    obtain⟨v,bq,os,S,R,aG,bw,q⟩:=h;have bh:v=.ag true:=q;subst bh;obtain rfl:u=WK true:=bw;refine⟨rfl,OldK.of_keep λb o e=>?_,os,S⟩;cases q:H b with
    |none=>exact R.keep b o e q (by intro z;exact absurd (show b∈([]:List VU) from z) (by simp)) (by simp)
    |some u =>
     rcases I b with z|⟨bf,xs,z⟩
     .rw[q]at z;cases z
     .have bk:=R.gV b bf _ z;obtain⟨e1,_⟩:=N b _ z;obtain⟨e2,_⟩:=aG b _ bk;rw[e]at e1;cases e1;exact e2
 cases y:K.lookup a with
 |some o =>
  have e:=A a o y;rw[j]at e;cases e;refine C (λ_=>Y) (λ_=>.inl rfl) (.inr ⟨_,f.toArray,_,y,rfl,rfl,rfl,by rw[P6,b1];exact L,⇑Q⟩) (λb u z=>by have i:(Y:Option e8)=Z u:=z;cases i) (λb z=>absurd rfl z) λz=>absurd rfl z
 |none =>
  refine C (λb=>if b=a then Z (.cx { cls:=.type "list",data:=.seq f.toArray } (.lst (ns.map V.int))) else Y) (λb=>?_) (.inl (.inr ⟨{ cls:=.type "list",data:=.seq f.toArray },if_pos rfl⟩)) (λb u z=>?_) (λb z=>?_) λ_=>y
  .by_cases c:b=a
   .exact .inr ⟨_,_,if_pos c⟩
   .exact .inl (if_neg c)
  .by_cases c:b=a
   .have i:=(if_pos c).symm.trans z;cases i;subst c;exact⟨j,by rw[VH];exact L,f,_,Q,j⟩
   .have i:=(if_neg c).symm.trans z;cases i
  .by_cases c:b=a
   .exact c
   .exact absurd (if_neg c) z
end az
namespace az
open PySem PySem.Spec PyProof.Rows
noncomputable abbrev hl{K:W.Frag}(_:K.In h):W.Frag:=K
def Pc{l:PySem.W.OpenLaw}{K:Params->W.Frag}{CX:Wo->iL}{sp:Wo->kY}(M:l.most=Z n)(N:n<=V5)(D:d.params.defaults=[])(Q:d9 k Yd)(B:∀(w:Wo)(h:We),r w h->(K w.params).In h)(F:∀(w:Wo)(b:V1->Option VI)(c:VU)(h:We),(K w.params).In h->h.Ns V2 b->b d.name=Z (.ref c) ->
   ∃g:Xs,(∀(s:VL)(u:VI),X9 s g ⟨[u],[]⟩ [(x,u)]) /\
    ∀base:We,(K w.params).In base->base.Ns V2 b->hj l.prog w (K w.params) b base (CX w) k c g [x] (sp w))(R:∀(w:Wo)(H:ah)(a:VU)(ns:List Int),ns.length<=n->ru H->cz (K w.params) H a (ns.map V.int)->sp w [.ref a] H (λv _=>v=.ag J) λ_ _ _=>False)(t:∀(w:Wo)(H:ah)(s:VL)(e:VI)(s':VL),CX w [] H s (λ_ _ _=>False) e s'->False):
  PySem.W.WalkO q a3 T r l.row.toRowW d [] (λf m=>PySem.call f m):=by
 refine v3.DJ M D λw aw S b a4 c o a5 U X a m ns G p a2 a1 a0 L O I j E=>?_
 have i:=B w _ p;obtain⟨g,C,y⟩:=F w b c _ i G.T.g L;exact Ib i G.T.g G.T.b G.T.builtins G.T.nolimit E O I (Qk j N) Q y C (λH z A=>R w H a ns j z A) λH e s'=>t w H S e s'
end az
namespace az
open PySem PySem.Spec PyProof.Rows
abbrev fe(s:Wn):Arguments:=match s with
 |.FunctionDef _ a _ _ _ _ _ _ _ _=>a
 |_=>{ posonlyargs:=[],args:=[],vararg:=Y,kwonlyargs:=[],kw_defaults:=[],kwarg:=Y,defaults:=[] }
abbrev ia(s:Wn):List Stmt:=match s with
 |.FunctionDef _ _ b _ _ _ _ _ _ _=>b
 |_=>[]
abbrev ff(s:Wn):Scope:=match s with
 |.FunctionDef _ _ _ _ _ _ a _ _ _=>a
 |_=>{ kind:=.function,names:=[],isGenerator:=VF,isCoroutine:=VF }
structure mv(K:W.Frag)(x qual:V1)(st:Wn)(f:VU)(fd:Xs):Prop where
 ex:∃(JK:VI)(ey:Option VU)(bQ doc pm:VI)(an:Option VU)(w9 ct:VI)(J3:Array (Option VI)),
  fd=W.fnOf x qual (fe st) (ia st) (ff st) .none bQ doc pm an w9 ct/\K.lookup f=Z ⟨JK,ey,.func fd,J3⟩/\W.codeIn K w9 qual=J
 pV:W.keepIn K (.ref f)=J
section
variable{P:Wd}{w:Wo}{K:W.Frag}{ao:V1->Option VI}{base:We}
def mv.binds{st:Wn}(F:mv K x j st f i)(h:∀(bQ c d:VI)(a:Option VU)(b ct:VI)(e:List VI),e.length=g.length->bindArgs (W.fnOf x j (fe st) (ia st) (ff st) .none bQ c d a b ct) ⟨e,[]⟩=pure (g.zip e)):Binds K i g []:=by
 obtain⟨l,m,bQ,c,d,a,b,ct,n,rfl,lk,k⟩:=F.ex;exact .all (h bQ c d a b ct)
def yo{st:Wn}{bQ b d a ct:VI}(l:K.lookup f=Z ⟨h,i,.func (W.fnOf x e (fe st) (ia st) (ff st) .none bQ b d g a ct),j⟩)(c:W.codeIn K a e=J)(k:W.keepIn K (.ref f)=J):mv K x e st f (W.fnOf x e (fe st) (ia st) (ff st) .none bQ b d g a ct):=⟨⟨h,i,bQ,b,d,g,a,ct,j,rfl,l,c⟩,k⟩
end
def aF(H a:ah):Prop:=∀b o,H b=Z o->a b=Z o
def aF.refl(H):aF H H:=λ_ _ h=>h
def aF.trans(a:aF H d)(b:aF d eL):aF H eL:=λc o h=>b c o (a c o h)
def aF.free(e:aF H a)(h:a l=Option.none):H l=Option.none:=by
 cases q:H l with
 |none=>rfl
 |some o =>
  rw[e l o q]at h;cases h
end az
end
section
namespace az
open PySem PySem.Spec PyProof.Rows
section
variable{κ:Type}[DecidableEq κ]
abbrev fX(b:List (κ×V))(k:κ):Option V:=(b.find? λa=>decide (a.1=k)).map (·.2)
abbrev putK(b:List (κ×V))(k:κ)(v:V):List (κ×V) :=
 if (b.any λa=>decide (a.1=k))=J then b.map (λa=>if a.1=k then(a.1,v) else a) else b++[(k,v)]
def vX{k:κ}(e:p.1=k):fX (p::r) k=Z p.2:=by simp[fX,Wq,e]
def vW{k:κ}(e:¬p.1=k):fX (p::r) k=fX r k:=by simp[fX,Wq,e]
theorem CB(k):∀a:List (κ×V),(a.any λb=>decide (b.1=k))=(fX a k).isSome
 |[]=>rfl
 |p::r=>by
  rw[WD]
  by_cases e:p.1=k
  .simp only[vX e,decide_eq_true e,Bool.true_or,Option.isSome_some]
  .rw[vW e,decide_eq_false e,Bool.false_or];exact CB k r
def uh(a)(k:κ)(v):(putK a k v).length<=a.length+1:=by
 unfold putK
 split
 .rw[VH];lia
 .rw[PY,VX,Wb];lia
def gK.Hu(r:gK o u):o.isSome=u.isSome:=by
 cases o with
 |none=>cases u with
  |none=>rfl
  |some _=>exact(show False from r).elim
 |some _=>cases u with
  |none=>exact(show False from r).elim
  |some _=>rfl
def de.val(r:de g i)(k:κ):gK (fX g k) (YT i k):=by
 unfold de at r
 induction r with
 |nil=>exact True.intro
 |@cons p q j c h t f =>
  obtain⟨d,h2⟩:=h
  by_cases e:p.1=k
  .have a:q.1=k:=d.symm.trans e;have b:YT (q::c) k=Z q.2:=(by simp[YT,Wq,a]);rw[vX e,b];exact h2
  .have a:¬q.1=k:=λz=>e (d.trans z)
   have b:YT (q::c) k=YT c k:=(by simp[YT,Wq,a]);rw[vW e,b];exact f
theorem de.any(r:de c d)(k:κ):(c.any λa=>decide (a.1=k))=d.any λa=>decide (a.1=k):=by
 unfold de at r
 induction r with
 |nil=>rfl
 |cons h t b=>rw[WD,WD,b,h.1]
def de.u9(r:de d g)(k:κ)(f:RelV y u):
  de (d.map λa=>if a.1=k then(a.1,y) else a) (g.map λa=>if a.1=k then(a.1,u) else a):=by
 unfold de at r ⊢
 induction r with
 |nil=>exact .nil
 |@cons p q i j h t c =>
  rw[VP,VP];refine .cons ?_ c;obtain⟨b,h2⟩:=h
  by_cases e:p.1=k
  .rw[if_pos e,if_pos (b.symm.trans e)];exact⟨b,f⟩
  .rw[if_neg e,if_neg (λz=>e (b.trans z))];exact⟨b,h2⟩
def de.put(r:de d b)(k:κ)(a:RelV y u):de (putK d k y) (stored b k u):=by
 unfold putK stored;rw[r.any k]
 by_cases e:(b.any λc=>decide (c.1=k))=J
 .rw[if_pos e,if_pos e];exact r.u9 k a
 .rw[if_neg e,if_neg e];exact Paired.snoc r ⟨rfl,a⟩
theorem de.length{a:List (κ×V)}(r:de a b):a.length=b.length:=Vr r
end
def pT(r:RelV (bQ k) u):(fm P w).is k u=true:=by
 cases k with
 |inl i=>obtain⟨t,e⟩:=(show ∃t,u=W6 i t from r);subst e;exact I8 P w i t
 |inr x=>obtain⟨t,e⟩:=(show ∃t,u=Value.str x t from r);subst e;exact I9 P w x t
theorem nx:∀{a:List Key}{b:List VI},Vals (a.map bQ) b->ItemsAre (fm P w) a b
 |[],_,r=>by rw[S3]at r;cases r;exact .nil
 |k::a,_,r=>by
  rw[VP]at r;cases r with
  |cons h t=>exact .cons (pT h) (nx t)
noncomputable abbrev KT(H:ah):List (List Key×V)->List (List Key×VU×VI)->Prop:=Paired λp q=>p.1=q.1/\H q.2.1=Z (.tup (p.1.map bQ))/\RelV p.2 q.2.2
def KT.val(r:KT H g xs)(k):gK (fX g k) ((ZW xs k).map (·.2)):=by
 induction r with
 |nil=>exact True.intro
 |@cons p q i c h t f =>
  obtain⟨d,_,h2⟩:=h
  by_cases e:p.1=k
  .have a:q.1=k:=d.symm.trans e;have b:ZW (q::c) k=Z q.2:=(by simp[ZW,Wq,a]);rw[vX e,b];exact h2
  .have a:¬q.1=k:=λz=>e (d.trans z)
   have b:ZW (q::c) k=ZW c k:=(by simp[ZW,Wq,a]);rw[vW e,b];exact f
def KT.u9(r:KT H d xs)(k)(f:RelV y u):
  KT H (d.map λb=>if b.1=k then(b.1,y) else b) (xs.map (putAt k u)):=by
 induction r with
 |nil=>exact .nil
 |@cons p q g i h t c =>
  rw[VP,VP];refine .cons ?_ c;obtain⟨a,h2,h3⟩:=h;unfold putAt
  by_cases e:p.1=k
  .rw[if_pos e,if_pos (a.symm.trans e)];exact⟨a,h2,f⟩
  .rw[if_neg e,if_neg (λz=>e (a.trans z))];exact⟨a,h2,h3⟩
def KT.put(r:KT H a xs)(k)(d:H b=Z (.tup (k.map bQ)))(c:RelV y u):
  KT H (putK a k y) (storedH xs k b u):=by
 have e:(a.any λf=>decide (f.1=k))=(ZW xs k).isSome:=by
  rw[CB,(r.val k).Hu,Option.isSome_map]
 unfold putK storedH;rw[e]
 by_cases q:(ZW xs k).isSome=J
 .rw[if_pos q,if_pos q];exact r.u9 k c
 .rw[if_neg q,if_neg q];exact Paired.snoc r ⟨rfl,d,c⟩
def KT.keeps(r:KT H d xs)(c:∀b ys,H b=Z (.tup ys)->a b=Z (.tup ys)):KT a d xs :=
 Paired.uu r λ_ _ z=>⟨z.1,c _ _ z.2.1,z.2.2⟩
section
variable{P:Wd}{w:Wo}{H:ah}{h:We}{a:VU}
def AK(b:cC P w H h)(e:fu H a u):b8 P w H h a u:=e.ok b
def th(c:cC P w H h)(e:fu H a (.cg b)):b.length<=V5/\(a==WQ)=VF/\∃fZ,de b fZ/\h.DictOf (fm P w) a fZ :=
 show b8 P w H h a (.cg b) from AK c e
def xC(c:cC P w H h)(e:H a=Z (.cg b)):b.length<=V5/\(a==WQ)=VF/\∃fZ,de b fZ/\h.DictOf (fm P w) a fZ:=th c (.inl e)
def uc(d:cC P w H h)(e:H a=Z (.tup (b.map bQ))):(YQ (fm P w)).is h b a:=by
 obtain⟨_,its,r,o,c,h2,n,h3⟩:=(show b8 P w H h a (.tup (b.map bQ)) from d a _ e);exact⟨o,its.toArray,n,c,h2,h3,by simpa using nx r⟩
def ti(f:cC P w H h)(e:fu H a (.cD c)):c.length<=V5/\(a==WQ)=VF /\
  ∃xs,KT H c xs/\h.DictOfH (YQ (fm P w)) a xs:=by
 obtain⟨z,y,xs,r,o,i,g,j,h2,h3,h4,h5⟩:=(show b8 P w H h a (.cD c) from AK f e);refine⟨z,y,xs,r,o,i,g,j,h2,h3,h4,λx b=>?_,h5⟩;have all:∀{l:List (List Key×V)}{m:List (List Key×VU×VI)},KT H l m->∀x∈m,(YQ (fm P w)).is h x.1 x.2.1:=by
  intro l m q
  induction q with
  |nil=>intro x b;exact nomatch b
  |@cons p q n s d t k =>
   intro x b;rcases P1.mp b with e|b
   .subst e;exact uc f (by rw[<- d.1];exact d.2.1)
   .exact k x b
 exact all r x b
def Fq(c:cC P w H h)(e:H a=Z (.cD b)):b.length<=V5/\(a==WQ)=VF /\
  ∃xs,KT H b xs/\h.DictOfH (YQ (fm P w)) a xs:=ti c (.inl e)
end
def rh(H:ah)(a:VU)(y:V)(r:Option V):Prop :=
 (∃c k,fu H a (.cg c)/\y=bQ k/\r=fX c k)\/∃c k b,fu H a (.cD c)/\y=.ref b/\H b=Z (.tup (k.map bQ))/\r=fX c k
def gH(H:ah)(a:VU)(y v:V)(d:ah):Prop :=
 (∃c k,H a=Z (.cg c)/\y=bQ k/\c.length<V5/\d=upd H a (.cg (putK c k v))) \/
 ∃c k b,H a=Z (.cD c)/\y=.ref b/\H b=Z (.tup (k.map bQ))/\c.length<V5/\d=upd H a (.cD (putK c k v))
theorem gH.k{k:Key}(e:H a=Z (.cg b))(c:b.length<V5):gH H a (bQ k) v (upd H a (.cg (putK b k v))):=.inl ⟨b,k,e,rfl,c,rfl⟩
def gH.t{k:List Key}(e:H a=Z (.cD c))(d:H b=Z (.tup (k.map bQ)))(f:c.length<V5):
  gH H a (.ref b) v (upd H a (.cD (putK c k v))):=.inr ⟨c,k,b,e,rfl,d,f,rfl⟩
section
variable{X:aq}{pins:List (VU×WS)}{σ:St}{H:ah}{s:VL}{a:VU}{y v:V}{u r:VI}{o:Option V}{A:Wg}{E:VI->VL->Prop}
def Inv.big(I:Inv X pins σ H s):WQ<s.heap.objs.size:=by
 have h:V2<s.heap.objs.size:=(I.mod.glob.keeps I.fc).lt;exact Rf ∅ h
def E6(w:A.units+1<WJ)(I:Inv X pins σ H s)(g:rh H a y (Z v))(j:RelV y u)(h:∀c s',Inv X pins σ H s'->RelV v c->Q c s'):
  VO (VW X.prog X.w) A (XA (.ref a) u) Q E s:=by
 rcases g with⟨x,k,e,d,l⟩|⟨x,k,b,e,d,m,l⟩
 .subst d;obtain⟨z,n,B,f,dd⟩:=th I.aM e;obtain⟨c,hw,i⟩:=gK.some_of (v:=v) (o:=YT B k) (by rw[l];exact f.val k);exact wpAny_getItem_of (pT j) dd.mapOf hw (h c _ (I.tok _) i)
 .subst d;cases (show u=VY b from j);obtain⟨z,n,xs,f,dd⟩:=ti I.aM e;obtain⟨c,hw,i⟩:=gK.some_of (v:=v) (o:=(ZW xs k).map (·.2)) (by rw[l];exact f.val k);obtain⟨p,q,t⟩:=Option.map_eq_some_iff.mp hw;refine wpAny_getItem_heap (tupleKind_room_in1 w) (uc I.aM m) dd q ?_;rw[t];exact h c _ (I.tok _) i
def tc(I:Inv X pins σ H s)(h:mA (H a))(g:Wr a s.heap h')(f:∃q,h'.get? a=Z q)(i:b8 X.prog X.w (upd H a c) h' a c):
  Inv X pins σ (upd H a c) { s with heap:=h',toks:=t' } :=
 I.write (x:=a) (e:=a) h (.inl rfl) (λb q d z=>(g.2 b d).trans z) f i
def xB(z:b.length<=V5)(d:(a==WQ)=VF)(e:de b c)(dd:h'.DictOf (fm P w) a c):
  b8 P w f h' a (.cg b):=⟨z,d,c,e,dd⟩
def E9(O:A.units+1<WJ)(I:Inv X pins σ H s)(g:gH H a y v G)(D:RelV y u)(C:RelV v r)(h:∀s',Inv X pins σ G s'->Q () s'):
  VO (VW X.prog X.w) A (setItem (.ref a) u r) Q E s:=by
 rcases g with⟨d,k,e,n,l,m⟩|⟨d,k,b,e,n,x,l,m⟩
 .subst n m;obtain⟨z,p,R,f,dd⟩:=xC I.aM e;have hz:R.length<=sizeLine:=(by rw[<- f.length];exact z);have t:(putK d k v).length<=sizeLine:=(by have:=uh d k v;lia);refine wpAny_setItem_pairs (hsz:=hz) (pT D) dd λh' i w=>h _ ?_
  have N:∃q,h'.get? a=Z q:=let ⟨q,_,_,j,_⟩:=i;⟨q,j⟩
  exact tc I (by rw[e];exact True.intro) w N (xB t p (f.put k C) i)
 .subst n m;cases (show u=VY b from D);obtain⟨z,p,xs,f,dd⟩:=Fq I.aM e;have hz:xs.length<=sizeLine:=(by rw[<- Vr f];exact z);have t:(putK d k v).length<=sizeLine:=(by have:=uh d k v;lia);refine wpAny_setItem_heap (hsz:=hz) (tupleKind_room_in1 O) (uc I.aM x) dd λh' i w=>h _ ?_
  obtain⟨q,M,L,j,h2,h3,h4,_,h5⟩:=i;refine tc I (by rw[e];exact True.intro) w ⟨q,j⟩ ⟨t,p,_,(f.put k x C).keeps λc ys B=>?_,q,M,L,j,h2,h3,h4,h5⟩;rw[bo (Jw B e (λz=>nomatch z))];exact B
end
def we(i:V3):Prop:=∀b a,YC i VF b a=operate [b,a] (XA b a)
def Np{T id:String}(g:typeLookup (.type T) "__getitem__"=pure (Z (.builtin id)))(j:we b)(h:VO (VW prog w) A (Wx f env) (λo d=>VO (VW prog w) A (Wx b env) (λi qS=>qS.TypeIs o T/\VO (VW prog w) A (XA o i) Q E qS) E d) E s):
  VO (VW prog w) A (Wx (.Subscript f b pos) env) Q E s:=by
 refine Subscript_ (Q2 h (λo d k=>Q2 k (λi qS a=>?_) λ_ _ x=>x) λ_ _ x=>x);obtain⟨c,a⟩:=a;unfold Y2;refine PV ?_;rw[getitemInPython_of_ne c.not_modules];refine PV (Vc c g ?_);have fin:VO (VW prog w) A (YC b VF o i) (λr e=>VO (VW prog w) A (letTemporaryGo f o r>>=λ_=>pure r) Q E e) E qS:=by
  rw[j o i];exact wpAny_operating (Q2 a (λr e l=>PV (wpAny_letTemporaryGo (VG l))) λ_ _ x=>x)
 first
  |exact VG (PV fin)
  |exact PV (VG (PV fin))
  |exact PV fin
def Fh{d:St}(I:Inv X f d H s)(g:rh H a y o):s.TypeIs (.ref a) "dict":=by
 rcases g with⟨c,k,e,_,_⟩|⟨c,k,b,e,_,_,_⟩
 .obtain⟨_,_,h,_,dd⟩:=th I.aM e;exact dd.typeIs
 .obtain⟨_,_,xs,_,dd⟩:=ti I.aM e;exact dd.typeIs
abbrev vv(e f:TE):TE:=λc H Q=>e c H λx d=>f c d λy b=>∃a v,x=.ref a/\rh b a y (Z v)/\Q v b
abbrev LP(g i h:TE):ek:=λD b H=>h b H λv d=>g b d λx e=>i b e λy f=>∃a c,x=.ref a/\gH f a y v c/\D.aN b c
section
variable{X:aq}{o i e value:V3}{pos pos' OG:Xo}{om ty vJ:TE}
def Kh(q:X.A.units+1<WJ)(n:ai X o om)(hi:ai X i ty)(p:we i):ai X (.Subscript o i pos) (vv om ty):=by
 intro c s d H Q I h;refine Np PySem.F.slot_dict_getitem.lookup p (aP (n c s d H _ I h) λu B ⟨x,f,k,z,r⟩=>aP (hi c B d f _ k r) λC s2 ⟨y,j,b,A,a,v,m,g,t⟩=>?_);subst m;obtain rfl:u=VY a:=z;exact⟨Fh b g,E6 q b g A λD s3 l w=>⟨v,j,l,w,t⟩⟩
def K2(w:X.A.units+1<WJ)(q:ai X o om)(hi:ai X i ty)(z:ai X value vJ)(t:Xb value (Z (.Subscript o i pos')) pos.line X.env=pure VF):
  bF X (.Assign [.Subscript o i pos'] value pos) (LP om ty vJ):=by
 intro c s b H D I h;refine Ye (aP (z c s b H _ I h) λr M ⟨v,d,k,E,A⟩=>aP (q c M b d _ k A) λu s2 ⟨x,f,l,G,B⟩=>aP (hi c s2 b f _ l B) λO s3 ⟨y,N,m,L,a,j,p,g,C⟩=>?_) t;subst p;obtain rfl:u=VY a:=G;exact E9 w m g L E λQ n=>⟨b,j,n,C⟩
end
def xy(h:We)(a:WQ<h.objs.size):b8 P w H (h.push { cls:=.type "dict",data:=.dict #[] }) h.objs.size (.cg []) :=
 ⟨Qa _,beq_eq_false_iff_ne.mpr (Q8 (Ql a)),[],.nil,Heap.DictOf.new h⟩
def Fp(h:We)(a:WQ<h.objs.size):b8 P w H (h.push { cls:=.type "dict",data:=.dict #[] }) h.objs.size (.cD []) :=
 ⟨Qa _,beq_eq_false_iff_ne.mpr (Q8 (Ql a)),[],.nil,_,#[],0,Qb _ rfl,⟨rfl,rfl,rfl⟩,rfl,rfl,Tt⟩
def NB:TE:=λ_ H Q=>∀p,H p=Y->Q (.ref p) (upd H p (.cg []))
def NC:TE:=λ_ H Q=>∀p,H p=Y->Q (.ref p) (upd H p (.cD []))
section
variable{X:aq}{pos:Xo}
def Af:ai X (.Dict [] [] pos) NB:=λb s c H Q I h =>
 wpAny_Dict_empty ⟨.ref s.heap.objs.size,_,I.laid (a:=s.heap.objs.size) (o:=.cg []) (t':=s.toks) (λ_ _ q=>PX _ q) (P0 _) (xy s.heap I.big),rfl,h _ (I.aM.fresh (P0 _))⟩
def Kj:ai X (.Dict [] [] pos) NC:=λb s c H Q I h =>
 wpAny_Dict_empty ⟨.ref s.heap.objs.size,_,I.laid (a:=s.heap.objs.size) (o:=.cD []) (t':=s.toks) (λ_ _ q=>PX _ q) (P0 _) (Fp s.heap I.big),rfl,h _ (I.aM.fresh (P0 _))⟩
end
abbrev vy:List (TE×TE)->St->ah->(List (V×V)->ah->Prop)->Prop
 |[],_,H,Q=>Q [] H
 |(tk,f)::r,a,H,Q=>tk a H λx b=>f a b λy c=>vy r a c λe d=>Q ((x,y)::e) d
noncomputable abbrev wm:List (V×V)->List (VI×VI)->Prop:=Paired λp q=>RelV p.1 q.1/\RelV p.2 q.2
def oG(X:aq)(pos:Xo)(e:List (Option V3))(g:List V3)(f:List (TE×TE)):Prop :=
 ∀(c:List (VU×WS))(s:VL)(a:St)(H:ah)(Q:List (V×V)->ah->Prop),Inv X c a H s->vy f a H Q ->
  VO (VW X.prog X.w) X.A (evalPairs (pairTrees e g X.env pos)) (λh s'=>∃d b,Inv X c a b s'/\wm d h/\Q d b) X.a6 s
def KR:oG X pos [] [] []:=λa s b H Q I h=>pairTrees_nil_walk ⟨[],H,I,.nil,h⟩
def KQ(j:ai X k tk)(m:ai X v C)(l:oG X pos n D B):
  oG X pos (Z k::n) (v::D) ((tk,C)::B):=λa s b H Q I h =>
 pairTrees_cons_walk (aP (j a s b H _ I h) λu A ⟨x,c,f,w,p⟩=>aP (m a A b c _ f p) λE s2 ⟨y,d,g,z,q⟩ =>
  aP (l a s2 b d _ g q) λG s3 ⟨o,e,i,t,r⟩=>⟨(x,y)::o,e,i,.cons ⟨w,z⟩ t,r⟩)
def lQ(c d:List (Key×V)):List (Key×V):=d.foldl (λb a=>putK b a.1 a.2) c
def de.merge:∀{c:List (Key×V)}{rs:List (Key×VI)}{a:List (Key×V)}{b:List (Key×VI)},de c rs->de a b->de (lQ a c) (merged b rs):=by
 intro c rs a b r;unfold de at r
 induction r generalizing a b with
 |nil=>intro q;exact q
 |@cons p q g i h t d =>
  intro f;have e:de (putK a p.1 p.2) (stored b q.1 q.2):=by
   have:=f.put p.1 h.2;rw[<- h.1];exact this
  exact d e
theorem za:∀(b a:List (Key×V)),(lQ a b).length<=a.length+b.length
 |[],a=>by show a.length<=a.length+0;lia
 |p::r,a=>by
  have c:=za r (putK a p.1 p.2);have h2:=uh a p.1 p.2;show(lQ (putK a p.1 p.2) r).length<=_;rw[VX];lia
theorem w6:∀{d:List (Key×V)}{f:List (VI×VI)},wm (d.map λe=>(bQ e.1,e.2)) f->∃rs,Carries (fm P w) f rs/\de d rs
 |[],_,r=>by rw[S3]at r;cases r;exact⟨[],True.intro,.nil⟩
 |p::d,_,r=>by
  rw[VP]at r;cases r with
  |@cons a b as bs h t =>
   obtain⟨rs,c,q⟩:=w6 (P:=P) (w:=w) t;obtain⟨b1,b2⟩:=b;exact⟨(p.1,b2)::rs,⟨pT h.1,rfl,c⟩,.cons ⟨rfl,h.2⟩ q⟩
def ND(e:List (TE×TE)):TE:=λf H Q=>∀p,H p=Y->vy e f (upd H p (.cg [])) λd b=>b p=Z (.cg [])/\∃a:List (Key×V),d=a.map (λc=>(bQ c.1,c.2))/\a.length<=15/\Q (.ref p) (upd b p (.cg (lQ [] a)))
def Ki(h:oG X pos b i E)(n:b.all (·.isSome)=J)(t:b.length=i.length)(h0:b≠[])(m:b.length<=15):ai X (.Dict b i pos) (ND E):=by
 intro y s L H Q I q;have u:=I.aM.fresh (P0 s.heap.objs.size);have j:=I.laid (a:=s.heap.objs.size) (o:=.cg []) (h':=s.heap.push { cls:=.type "dict",data:=.dict #[] }) (t':=s.toks) (λ_ _ q=>PX _ q) (P0 _) (xy s.heap I.big);refine wpAny_Dict_walk (knd:=fm X.prog X.w) n t h0 m (aP (h y _ L _ _ j (q _ u)) λR s2 G=>?_);obtain⟨N,M,d,C,e,g,k,lk,A⟩:=G;subst k;obtain⟨rs,c,D⟩:=w6 (P:=X.prog) (w:=X.w) C;obtain⟨z,p,O,B,dd⟩:=xC d.aM e;cases B;refine⟨rs,c,dd,λh' f x=>⟨.ref s.heap.objs.size,_,?_,rfl,A⟩⟩;have hz:(lQ [] g).length<=sizeLine:=by
  have l:=za g [];rw[Wb]at l;rw[V7];lia
 have r:∃q,h'.get? s.heap.objs.size=Z q:=let ⟨q,_,_,v,_⟩:=f;⟨q,v⟩
 exact tc d (by rw[e];exact True.intro) x r (xB hz p (D.merge .nil) f)
structure Py(X:aq)(o:V3)(m:V1)(apos:Xo)(e:V3)(dE:Xo):Prop where
 base:XN o m X.env (Wx o X.env)=Wx o X.env
 yc:((Xe dE (V4 [e] X.env)).all (λx=>!x.1)&&(backToKw dE (YD [] X.env)).all (λx=>x.1.isSome)
  && decide (([e]:List V3).length+([]:List Xz).length+(if ([]:List Xz).isEmpty then 0 else 1)<30))=J
 line:(apos.endLine==dE.line)=J
 trees:Xe dE (V4 [e] X.env)=[(VF,Wx e X.env)]
structure M2(X:aq)(o:V3)(m:V1)(apos:Xo)(e f:V3)(dE:Xo):Prop where
 base:XN o m X.env (Wx o X.env)=Wx o X.env
 yc:((Xe dE (V4 [e,f] X.env)).all (λx=>!x.1)&&(backToKw dE (YD [] X.env)).all (λx=>x.1.isSome)
  && decide (([e,f]:List V3).length+([]:List Xz).length+(if ([]:List Xz).isEmpty then 0 else 1)<30))=J
 line:(apos.endLine==dE.line)=J
 trees:Xe dE (V4 [e,f] X.env)=[(VF,Wx e X.env),(VF,Wx f X.env)]
end az
end
set_option genInjectivity false
set_option autoImplicit true
set_option maxHeartbeats 8000000
section
namespace ζ
open PySem
inductive R(α:Type) where
 |ok (a:α)
 |exc (c:Nat)
 |bad
def R.bind{α β:Type}:R α->(α->R β)->R β
 |.ok a,f=>f a
 |.exc c,_=>.exc c
 |.bad,_=>.bad
noncomputable instance:Monad R where
 pure:=R.ok
 bind:=R.bind
def ar{α:Type}{a b:α}(h:a=b):a=b:=h
@[simp] theorem R.eX {α β:Type} (a) (f:α->R β):(R.ok a>>=f)=f a:=ar rfl
@[simp] theorem R.Gk {α β:Type} (c) (f:α->R β):(R.exc c>>=f)=R.exc c:=ar rfl
@[simp] theorem R.PA {α β:Type} (f:α->R β):(R.bad>>=f)=R.bad:=ar rfl
@[simp] theorem R.PS {α:Type} (a):(pure a:R α)=R.ok a:=rfl
set_option genInjectivity true in
inductive D where
 |b0
 |ag (b:Bool)
 |int (i:Int)
 |str (x:V1)
 |tup (xs:List D)
 |lst (xs:List D)
 |aT (ik:List (List Int×Int))
 |aK (ik:List (Int×Int×Int))
 |ee (c:Nat)
 |kt (xs:List D)
mutual
noncomputable def eS:D->D->Bool
 |.b0,.b0=>J
 |.ag a,.ag b=>a==b
 |.ag a,.int j=>(if a then 1 else 0)==j
 |.int i,.ag b=>i==(if b then 1 else 0)
 |.int i,.int j=>i==j
 |.str x,.str y=>x==y
 |.tup xs,.tup ys=>hr xs ys
 |.lst xs,.lst ys=>hr xs ys
 |_,_=>VF
noncomputable def hr:List D->List D->Bool
 |[],[]=>J
 |x::xs,y::ys=>eS x y&&hr xs ys
 |_,_=>VF
end
mutual
noncomputable def hC:D->D->Option Bool
 |.int i,.int j=>Z (decide (i<j))
 |.tup xs,.tup ys=>hD xs ys
 |_,_=>Y
noncomputable def hD:List D->List D->Option Bool
 |[],[]=>Z VF
 |[],_::_=>Z J
 |_::_,[]=>Z VF
 |x::xs,y::ys=>if eS x y then hD xs ys else hC x y
end
def dP:Nat->D->Bool
 |0,.int _=>J
 |n+1,.tup xs=>xs.all (dP n)
 |_,_=>VF
def lH(x:D):List D->List D
 |[]=>[x]
 |y::ys=>if hC y x=Z J then y::lH x ys else x::y::ys
def fH:List D->List D
 |[]=>[]
 |x::xs=>lH x (fH xs)
def h9:List D->List D
 |[]=>[]
 |x::xs=>if xs.any (eS x) then h9 xs else x::h9 xs
def ig:D->Bool
 |.tup (x::xs)=>dP 0 x&&xs.all (dP 0)
 |_=>VF
def kn:D->Bool
 |.tup (x::xs)=>ig x&&xs.all ig
 |_=>VF
def jq(xs:List D):Bool:=xs.all (dP 0)||xs.all ig
abbrev SZ:Nat:=16777216
abbrev eJ:Int:=18446744073709551616
def sorted(xs:List D):R D:=if (jq xs||xs.all kn)&&xs.length<=255 then .ok (.lst (fH xs)) else .bad
def d8(xs:List D):R D:=if xs.all ig&&(h9 xs).length<=255 then .ok (.lst (fH (h9 xs))) else .bad
inductive Op where
 |add|sub|mul|fdiv|mod|and|xor
inductive iN where
 |eq|ne|lt|le|gt|mem|iv
abbrev j4(i j:Int):R D:=if 0<=i then(if 0<=j then .ok (.int (i.toNat &&& j.toNat:Nat)) else .ok (.int (i-(i.toNat &&& (-j-1).toNat:Nat)))) else .bad
abbrev ou(i j:Int):R D:=if 0<=i/\0<=j then .ok (.int (i.toNat ^^^ j.toNat:Nat)) else .bad
def cA:Op->D->D->R D
 |.and,.int i,.int j=>j4 i j
 |.xor,.int i,.int j=>ou i j
 |.add,.int i,.int j=>.ok (.int (i+j))
 |.add,.tup xs,.tup ys=>if xs.length+ys.length<=SZ then .ok (.tup (xs++ys)) else .bad
 |.add,.lst xs,.lst ys=>if xs.length+ys.length<=SZ then .ok (.lst (xs++ys)) else .bad
 |.sub,.int i,.int j=>.ok (.int (i-j))
 |.mul,.lst xs,.int j=>if 0<=j/\j<=1000/\xs.length<=1000 then .ok (.lst (VV j.toNat xs).flatten) else .bad
 |.mul,.int i,.int j=>if (-eJ<i/\i<eJ)\/(-eJ<j/\j<eJ) then .ok (.int (i*j)) else .bad
 |.fdiv,.int i,.int j=>if 0<j/\j<1073741824 then .ok (.int (i / j)) else .bad
 |.mod,.int i,.int j=>if 0<j then .ok (.int (i%j)) else .bad
 |_,_,_=>.bad
abbrev fT:R Bool->R Bool
 |.ok b=>.ok (!b)
 |.exc c=>.exc c
 |.bad=>.bad
def bL:Nat->D->Bool
 |_,.b0=>J
 |_,.ag _=>J
 |_,.int _=>J
 |_,.str x=>x.cps.all (· < 0x110000)
 |n+1,.tup xs=>xs.all (bL n)
 |n+1,.lst xs=>xs.all (bL n)
 |_,_=>VF
def dG(x y:D):R Bool:=if bL 60 x&&bL 60 y then .ok (eS x y) else .bad
def memD(x:D)(xs:List D):Bool:=xs.any λy=>eS y x
def gi(x:D)(ys:List D):R Bool:=if bL 60 x&&ys.all (bL 60) then .ok (memD x ys) else .bad
abbrev uM:Option Bool->R Bool
 |some b=>.ok b
 |none=>.bad
def p8(x y:D):R Bool:=if (dP 0 x&&dP 0 y)||(dP 1 x&&dP 1 y) then uM (hC x y) else .bad
def cp:iN->D->D->R Bool
 |.eq,x,y=>dG x y
 |.ne,x,y=>fT (dG x y)
 |.lt,x,y=>p8 x y
 |.le,.int i,.int j=>.ok (decide (i<=j))
 |.gt,.int i,.int j=>.ok (decide (j<i))
 |.mem,x,.tup ys=>gi x ys
 |.mem,x,.lst ys=>gi x ys
 |.iv,x,.tup ys=>fT (gi x ys)
 |.iv,x,.lst ys=>fT (gi x ys)
 |_,_,_=>.bad
abbrev eu(n:Nat)(i:Int):Option Nat:=if 0<=i then(if i<n then Z i.toNat else Y) else(if 0<=i+n then Z (i+n).toNat else Y)
def fj{α:Type}(xs:List α)(i:Int):Option α:=(eu xs.length i).bind (xs[·]?)
def c4:D->D->R D
 |.tup xs,.int i=>match fj xs i with|some d=>.ok d|none=>.bad
 |.lst xs,.int i=>match fj xs i with|some d=>.ok d|none=>.bad
 |.kt xs,.int i=>match fj xs i with|some d=>.ok d|none=>.bad
 |_,_=>.bad
abbrev aQ(n d:Nat):Option Int->Nat
 |none=>d
 |some i=>if i<0 then(if i+n<0 then 0 else(i+n).toNat) else(if (n:Int)<i then n else i.toNat)
def cut{α:Type}(xs:List α)(lo hi:Option Int):List α:=(xs.drop (aQ xs.length 0 lo)).take (aQ xs.length xs.length hi-aQ xs.length 0 lo)
def hL(d:D)(lo hi:Option Int):R D:=match d with
 |.tup xs=>.ok (.tup (cut xs lo hi))
 |.lst xs=>.ok (.lst (cut xs lo hi))
 |_=>.bad
def hB:D->R D
 |.tup xs=>.ok (.int xs.length)
 |.lst xs=>.ok (.int xs.length)
 |_=>.bad
inductive Ty where
 |int|bool|str|tuple|cls (c:Nat)
noncomputable abbrev eb:=Nat->List Nat
def lI(up:eb)(d:D):Ty->R Bool
 |.int=>.ok (match d with|.int _=>J|.ag _=>J|_=>VF)
 |.bool=>.ok (match d with|.ag _=>J|_=>VF)
 |.str=>.ok (match d with|.str _=>J|_=>VF)
 |.tuple=>.ok (match d with|.tup _=>J|.kt _=>J|_=>VF)
 |.cls c=>match d with|.ee k=>.ok ((up k).contains c)|_=>.bad
def cL:D->R (List D)
 |.tup xs=>.ok xs
 |.lst xs=>.ok xs
 |_=>.bad
def md:D->R (List D)
 |.tup xs=>.ok xs
 |.lst xs=>.ok xs
 |.kt xs=>.ok xs
 |_=>.bad
def dk(lo hi:Int):List D:=(VN (hi-lo).toNat).map λk=>.int (lo+(k:Nat))
abbrev kG(i:Int):Bool:=decide (-4611686018427387904<=i/\i<4611686018427387904)
def iD(i j:Int):R (List D):=if kG i&&kG j&&decide ((j-i).toNat<=1000000) then .ok (dk i j) else .bad
inductive cT where
 |len|inst (t:Ty)|all|any|sorted|d8|sum|max
mutual
inductive E where
 |var (i:Nat)
 |lit (d:D)
 |tup (a:A)
 |lst (a:A)
 |bin (op:Op) (a b:E)
 |not (a:E)
 |neg (a:E)
 |cmp (op:iN) (a b:E)
 |mW (op op':iN) (a b c:E)
 |and (a b:E)
 |or (a b:E)
 |idx (a b:E)
 |slice (a:E) (lo hi:O)
 |call (f:Nat) (a:A)
 |prim (p:cT) (a:E)
 |tupI (s:I)
 |gB (s:I)
 |comp (elt:E) (k:Nat) (s:I) (c:O)
 |max2 (a b:E)
 |glob (j:Nat)
 |fO (i j:Nat)
 |lp (i j:Nat)
 |lq
inductive A where
 |nil
 |cons (e:E) (a:A)
inductive O where
 |none
 |some (e:E)
inductive I where
 |seq (e:E)
 |ko (e:E)
 |cF (a:E)
 |i3 (i:Nat)
end
noncomputable abbrev ay:=List (Option D)
noncomputable abbrev da:=Nat->List D->R D
abbrev ep:Nat->D->R (List (Option D))
 |0,d=>.ok [Z d]
 |k,.tup xs=>if xs.length=k then .ok (xs.map Z) else .bad
 |_,_=>.bad
abbrev bx(f:D->R (Option D)):List D->R (List D)
 |[]=>.ok []
 |d::ds=>f d>>=λo=>bx f ds>>=λr=>match o with|some x=>.ok (x::r)|none=>.ok r
def ir{α:Type}:R α->R α
 |.exc _=>.bad
 |r=>r
abbrev fM:List D->Option (List Bool)
 |[]=>Z []
 |.ag b::xs=>(fM xs).map (b::·)
 |_=>Y
def iW(xs:List D):R Bool:=match fM xs with
 |some bs=>.ok (bs.all id)
 |none=>.bad
def iX(xs:List D):R Bool:=match fM xs with
 |some bs=>.ok (bs.any id)
 |none=>.bad
abbrev intsOf:List D->Option (List Int)
 |[]=>Z []
 |.int i::xs=>(intsOf xs).map (i::·)
 |_=>Y
def lM:D->R (List D)
 |.lst xs=>.ok xs
 |_=>.bad
def hO(xs:List D):R D:=match intsOf xs with
 |some ns=>.ok (.int ns.sum)
 |none=>.bad
def hE(xs:List D):R D:=match intsOf xs with
 |some (n::ns)=>.ok (.int (ns.foldl (λm x=>if x>m then x else m) n))
 |_=>.bad
def hH(up:eb):cT->D->R D
 |.len,d=>hB d
 |.sorted,d=>cL d>>=λxs=>sorted xs
 |.d8,d=>cL d>>=λxs=>d8 xs
 |.sum,d=>lM d>>=λxs=>hO xs
 |.max,d=>lM d>>=λxs=>hE xs
 |.inst t,d=>lI up d t>>=λb=>.ok (.ag b)
 |.all,d=>cL d>>=λxs=>iW xs>>=λb=>.ok (.ag b)
 |.any,d=>cL d>>=λxs=>iX xs>>=λb=>.ok (.ag b)
abbrev kR(a:List (List Int×Int))(k:List Int):Option Int:=(a.find? λp=>decide (p.1=k)).map (·.2)
abbrev putN(a:List (List Int×Int))(k:List Int)(n:Int):List (List Int×Int):=if (a.any λp=>decide (p.1=k))=J then a.map (λp=>if p.1=k then(p.1,n) else p) else a++[(k,n)]
abbrev kH(r:Int×Int):D:=.tup [.int r.1,.int r.2]
abbrev jJ(a:List (Int×Int×Int))(k:Int):Option (Int×Int):=(a.find? λp=>decide (p.1=k)).map (·.2)
abbrev iz(a:List (Int×Int×Int))(k:Int)(r:Int×Int):List (Int×Int×Int):=if (a.any λp=>decide (p.1=k))=J then a.map (λp=>if p.1=k then(p.1,r) else p) else a++[(k,r)]
abbrev hq:Option (Option D)->Option (List (List Int×Int))
 |some (Z (.aT a))=>Z a
 |_=>Y
abbrev gs:Option (Option D)->Option (List (Int×Int×Int))
 |some (Z (.aK a))=>Z a
 |_=>Y
def rowOf:D->Option (Int×Int)
 |.tup ds=>(match intsOf ds with|some [a,b]=>Z (a,b)|_=>Y)
 |_=>Y
abbrev intD:D->Option Int
 |.int i=>Z i
 |_=>Y
def hc:D->Option (List Int)
 |.tup ds=>intsOf ds
 |_=>Y
def eo{α:Type}(f:D->Option α):Option (Option D)->Option α
 |some (Z d)=>f d
 |_=>Y
def ib(o p:Option (Option D)):R D:=match hq o,eo hc p with
 |some a,Z k=>(match kR a k with|some n=>.ok (.int n)|none=>.bad)
 |_,_=>(match gs o,eo intD p with|some a,Z k=>(match jJ a k with|some r=>.ok (kH r)|none=>.bad)|_,_=>.bad)
def lr(o p:Option (Option D))(d:D):R D:=match hq o,eo hc p,intD d with
 |some a,Z k,Z n=>if a.length<1000 then .ok (.aT (putN a k n)) else .bad
 |_,_,_=>(match gs o,eo intD p,rowOf d with|some a,Z k,Z r=>if a.length<1000 then .ok (.aK (iz a k r)) else .bad|_,_,_=>.bad)
def m6(p q:Option (Option D)):R D:=match eo intD p,eo rowOf q with
 |some k,Z r=>.ok (.aK [(k,r)])
 |_,_=>.bad
def ll(o:Option (Option D)):R (List D):=match hq o with
 |some a=>.ok (a.map λp=>.tup (p.1.map .int))
 |none=>(match gs o with|some a=>.ok (a.map λp=>.int p.1)|none=>.bad)
def p7:Option (Option D)->R D
 |some (Z (.lst ds))=>.ok (.lst ds)
 |_=>.bad
abbrev m1:Option (Option D)->R D
 |some (Z (.aT a))=>.ok (.aT a)
 |some (Z (.aK a))=>.ok (.aK a)
 |_=>.bad
abbrev dN:D->R Bool
 |.ag b=>.ok b
 |_=>.bad
abbrev en:D->R Int
 |.int i=>.ok i
 |_=>.bad
abbrev tN:Option (Option D)->R D
 |some (Z d)=>.ok d
 |_=>.bad
abbrev tM:Option D->R D
 |some d=>.ok d
 |none=>.bad
structure cw where
 up:eb
 cs:List D
section
variable(pg:cw)(Φ:da)
mutual
noncomputable def ev (g:ay):E->R D
 |.var i=>tN g[i]?
 |.lit d=>.ok d
 |.tup a=>fF g a>>=λds=>.ok (.tup ds)
 |.lst a=>fF g a>>=λds=>.ok (.lst ds)
 |.bin op a b=>ev g a>>=λx=>ev g b>>=λy=>cA op x y
 |.neg a=>ev g a>>=λx=>en x>>=λi=>.ok (.int (-i))
 |.not a=>ev g a>>=λx=>dN x>>=λb=>.ok (.ag (!b))
 |.cmp op a b=>ev g a>>=λx=>ev g b>>=λy=>cp op x y>>=λc=>.ok (.ag c)
 |.mW op op' a b c=>ev g a>>=λx=>ev g b>>=λy=>cp op x y>>=λk=>if k then ev g c>>=λz=>cp op' y z>>=λn=>.ok (.ag n) else .ok (.ag VF)
 |.and a b=>ev g a>>=λx=>dN x>>=λk=>if k then ev g b else .ok (.ag VF)
 |.or a b=>ev g a>>=λx=>dN x>>=λk=>if k then .ok (.ag J) else ev g b
 |.max2 a b=>ev g a>>=λx=>en x>>=λi=>ev g b>>=λy=>en y>>=λj=>.ok (.int (if i<j then j else i))
 |.glob j=>tM pg.cs[j]?
 |.idx a b=>ev g a>>=λx=>ev g b>>=λy=>c4 x y
 |.slice a lo hi=>ev g a>>=λx=>i9 g lo>>=λl=>i9 g hi>>=λh=>hL x l h
 |.call f a=>fF g a>>=λds=>Φ f ds
 |.prim p a=>ev g a>>=λx=>hH pg.up p x
 |.gB s=>eT g s>>=λds=>.ok (.lst ds)
 |.tupI s=>eT g s>>=λds=>.ok (.tup ds)
 |.fO i j=>ib g[i]? g[j]?
 |.lp i j=>m6 g[i]? g[j]?
 |.lq=>.ok (.aK [])
 |.comp e k s c=>eT g s>>=λds=>ir (bx (λd=>ep k d>>=λm=>i8 (g++m) c>>=λb=>if b then ev (g++m) e>>=λy=>.ok (Z y) else .ok Y) ds)>>=λys=>.ok (.lst ys)
noncomputable def fF (g:ay):A->R (List D)
 |.nil=>.ok []
 |.cons e a=>ev g e>>=λx=>fF g a>>=λxs=>.ok (x::xs)
noncomputable def i9 (g:ay):O->R (Option Int)
 |.none=>.ok Y
 |.some e=>ev g e>>=λx=>en x>>=λi=>.ok (Z i)
noncomputable def i8 (g:ay):O->R Bool
 |.none=>.ok J
 |.some e=>ev g e>>=λx=>dN x
noncomputable def eT (g:ay):I->R (List D)
 |.seq e=>ev g e>>=λx=>cL x
 |.ko e=>ev g e>>=λx=>md x
 |.cF a=>ev g a>>=λx=>en x>>=λi=>iD 0 i
 |.i3 i=>ll g[i]?
end
end
structure eL where
 j:Nat
 i:Nat
 a9:List Nat
 k5:Nat
 ny:Nat
def pC(up:eb)(b:List Nat)(k5 a:Nat):Bool:=(up 1).contains k5&&((up 1).contains a&&!(b.map λk=>(up 1).contains k).any id)
mutual
inductive S where
 |asg (i:Nat) (e:E)
 |app (i:Nat) (e:E)
 |kf (i:Nat)
 |jz (i:Nat)
 |l9 (i:Nat)
 |kg (i:Nat)
 |gR (i j:Nat) (e:E)
 |jM (c:E) (b:B)
 |hK (i:Nat) (j e:E)
 |pop (i:Nat)
 |ma (i:Nat) (e:E)
 |raise (c:Nat)
 |expr (e:E)
 |kQ (s:S) (k:Nat) (h:eL)
 |ext (i:Nat) (e:E)
 |ret (e:E)
 |iff (c:E) (a b:B)
 |dX (k:Nat) (ts:List Nat) (s:I) (b:B)
inductive B where
 |nil
 |cons (s:S) (b:B)
end
inductive cB where
 |aN (ae:ay)
 |bl (d:D)
abbrev iF:List Nat->List (Option D)->ay->ay
 |i::b,v::c,a=>iF b c (a.set i v)
 |_,_,a=>a
abbrev forL(f:D->ay->R cB):List D->ay->R cB
 |[],a=>.ok (.aN a)
 |d::ds,a=>f d a>>=λr=>match r with
  |.aN b=>forL f ds b
  |.bl x=>.ok (.bl x)
abbrev hT(c:ay->R Bool)(f:ay->R cB):Nat->ay->R cB
 |0,_=>.bad
 |n+1,a=>c a>>=λk=>if k then f a>>=λr=>(match r with
  |.aN b=>hT c f n b
  |.bl x=>.ok (.bl x)) else .ok (.aN a)
def putAt(ds:List D)(j:Int)(d:D):R D:=match eu ds.length j with
 |some n=>.ok (.lst (ds.set n d))
 |none=>.bad
def kJ:Option (Option D)->D->D->R D
 |some (Z (.lst ds)),.int j,d=>putAt ds j d
 |_,_,_=>.bad
def qs:Option (Option D)->R D
 |some (Z (.lst (d::ds)))=>.ok (.lst (d::ds).dropLast)
 |_=>.bad
def gd(pg:cw)(c k:Nat)(h:eL):R cB:=if c==1&&((pg.up c).contains k&&pC pg.up h.a9 h.k5 h.ny) then .ok (.bl (.ag J)) else .bad
abbrev Cg:R cB->(Nat->R cB)->R cB
 |.ok r,_=>.ok r
 |.exc c,f=>f c
 |.bad,_=>.bad
def mH:Option (Option D)->D->R D
 |some (Z (.lst xs)),d=>if xs.length<SZ then .ok (.lst (xs++[d])) else .bad
 |_,_=>.bad
def ph:Option (Option D)->D->R D
 |some (Z (.lst xs)),.lst ys=>if xs.length+ys.length<=SZ then .ok (.lst (xs++ys)) else .bad
 |some (Z (.lst xs)),.tup ys=>if xs.length+ys.length<=SZ then .ok (.lst (xs++ys)) else .bad
 |_,_=>.bad
def fN:Option (Option D)->R Unit
 |some (Z (.lst _))=>.ok ()
 |_=>.bad
section
variable(pg:cw)(Φ:da)
mutual
noncomputable def ex (f:ay):S->R cB
 |.asg i e=>ev pg Φ f e>>=λd=>.ok (.aN (f.set i (Z d)))
 |.app i e=>fN f[i]?>>=λ_=>ev pg Φ f e>>=λd=>mH f[i]? d>>=λx=>.ok (.aN (f.set i (Z x)))
 |.ret e=>ev pg Φ f e>>=λd=>.ok (.bl d)
 |.jz i=>p7 f[i]?>>=λd=>.ok (.bl d)
 |.l9 i=>m1 f[i]?>>=λd=>.ok (.bl d)
 |.kf i=>.ok (.aN (f.set i (Z (.aT []))))
 |.kg i=>.ok (.aN (f.set i (Z (.aK []))))
 |.gR i j e=>ev pg Φ f e>>=λd=>lr f[i]? f[j]? d>>=λx=>.ok (.aN (f.set i (Z x)))
 |.jM c b=>hT (λg=>ev pg Φ g c>>=λx=>dN x) (λg=>dj g b) 200 f
 |.hK i j e=>ev pg Φ f e>>=λd=>fN f[i]?>>=λ_=>ev pg Φ f j>>=λk=>kJ f[i]? k d>>=λx=>.ok (.aN (f.set i (Z x)))
 |.pop i=>qs f[i]?>>=λx=>.ok (.aN (f.set i (Z x)))
 |.ma i e=>fN f[i]?>>=λ_=>ev pg Φ f e>>=λd=>.ok (.bl d)
 |.raise c=>.exc c
 |.expr e=>ev pg Φ f e>>=λ_=>.ok (.aN f)
 |.kQ s k h=>Cg (ex f s) λc=>gd pg c k h
 |.ext i e=>fN f[i]?>>=λ_=>ev pg Φ f e>>=λd=>ph f[i]? d>>=λx=>.ok (.aN (f.set i (Z x)))
 |.iff c a b=>ev pg Φ f c>>=λx=>dN x>>=λk=>if k then dj f a else dj f b
 |.dX k ts s b=>eT pg Φ f s>>=λds=>forL (λd g=>ep k d>>=λl=>dj (iF ts l g) b) ds f
noncomputable def dj (f:ay):B->R cB
 |.nil=>.ok (.aN f)
 |.cons s b=>ex f s>>=λr=>match r with
  |.aN g=>dj g b
  |.bl d=>.ok (.bl d)
end
end
structure hW where
 np:Nat
 nl:Nat
 body:B
abbrev start(a:hW)(ds:List D):ay:=ds.map Z++VV a.nl Y
abbrev ki:R cB->R D
 |.ok (.bl d)=>.ok d
 |.ok (.aN _)=>.ok .b0
 |.exc c=>.exc c
 |.bad=>.bad
def bb(pg:cw)(Φ:da)(a:hW)(ds:List D):R D:=if ds.length=a.np then ki (dj pg Φ (start a ds) a.body) else .bad
def run(pg:cw)(fds:List hW):Nat->da
 |0=>λ_ _=>.bad
 |n+1=>λf ds=>match fds[f]? with
  |some a=>bb pg (run pg fds n) a ds
  |none=>.bad
def n3(pg:cw)(fds:List hW)(n f:Nat)(ds:List D):run pg fds (n+1) f ds=(match fds[f]? with|some a=>bb pg (run pg fds n) a ds|none=>.bad):=rfl
structure Gt where
 fns:List V1
 cls:List V1
 hx:List V1
structure bE where
 N:List V1
 sc:Xr
 aa:List Nat
abbrev gD(a:Xr)(x:V1):Bool:=a.names.lookup x==Z .local||a.names.lookup x==Z .cell||a.names.lookup x==Z .free
abbrev gZ(a:Xr)(x:V1):Bool:=a.names.lookup x==Z .local||a.names.lookup x==Z .cell
abbrev gy(a:Xr)(x:V1):Bool:=a.names.lookup x==Z .globalImplicit
abbrev okN(x:V1):Bool:=!(x==("__debug__":V1))&&!(x==("__classdict__":V1))&&!(x==("__name__":V1))
def z0:Op->Operator->Bool
 |.add,.Add=>J|.sub,.Sub=>J|.mul,.Mult=>J|.fdiv,.FloorDiv=>J|.mod,.Mod=>J|.and,.BitAnd=>J|.xor,.BitXor=>J
 |_,_=>VF
def oU:iN->CmpOp->Bool
 |.mem,.In=>J|.iv,.NotIn=>J|.eq,.Eq=>J|.ne,.NotEq=>J|.lt,.Lt=>J|.le,.LtE=>J|.gt,.Gt=>J 
 |_,_=>VF
abbrev litOk:D->Const->Bool
 |.b0,.none=>J
 |.ag a,.bool b=>a==b
 |.int i,.int j=>i==j
 |.str x,.str y=>x==y
 |_,_=>VF
abbrev tyName:Ty->V1
 |.int=>"int"|.bool=>"bool"|.str=>"str"|.tuple=>"tuple"|.cls _=>""
def nV:cT->V1
 |.len=>"len"|.sorted=>"sorted"|.sum=>"sum"|.max=>"max"|.all=>"all"|.any=>"any"|_=>""
def nW:cT->Bool
 |.len=>J|.sorted=>J|.sum=>J|.max=>J|.all=>J|.any=>J|_=>VF
abbrev nameOf:V3->Option V1
 |.Name x _=>Z x
 |_=>Y
def namesOf:List V3->Option (List V1)
 |[]=>Z []
 |e::a=>match nameOf e,namesOf a with|some x,Z xs=>Z (x::xs)|_,_=>Y
def dv:Nat->V3->Option (List V1)
 |0,.Name x _=>Z [x]
 |k+1,.Tuple a _ _=>match namesOf a with|some xs=>if xs.length=k+1 then Z xs else Y|none=>Y
 |_,_=>Y
abbrev mask(N xs:List V1):List Str:=N.map λn=>if xs.contains n then(((".":V1))++n) else n
abbrev jx:I->Bool:=λ_=>VF
abbrev Bn:I->Bool
 |.seq _=>J
 |_=>VF
abbrev Bz:I->Bool
 |.seq _=>J
 |.cF _=>J
 |_=>VF
abbrev nK:V3->Bool
 |.ListComp ..=>VF
 |_=>J
def cX(g:Gt)(a:Xr)(x:V1):Bool:=gy a x&&!(g.fns.contains x)&&!(g.cls.contains x)&&!(g.hx.contains x)
abbrev dK:V3->Option V1
 |.Name x _=>Z x
 |_=>Y
abbrev vR:V3->Option Const
 |.Constant c _ _=>Z c
 |_=>Y
abbrev Cz:V3->Option (List V3)
 |.Tuple a _ _=>Z a
 |_=>Y
abbrev vU:V3->Option (List V3)
 |.List a _=>Z a
 |_=>Y
abbrev Cr:V3->Option (V3×Operator×V3)
 |.BinOp x o y _=>Z (x,o,y)
 |_=>Y
abbrev mm:V3->Option (UnaryOp×V3)
 |.UnaryOp o x _=>Z (o,x)
 |_=>Y
abbrev oq:V3->Option (V3×List CmpOp×List V3)
 |.Compare x os ys _=>Z (x,os,ys)
 |_=>Y
abbrev vBool:V3->Option (BoolOp×List V3×Xo)
 |.BoolOp o a p=>Z (o,a,p)
 |_=>Y
abbrev ot:V3->Option (V3×V3)
 |.Subscript x y _=>Z (x,y)
 |_=>Y
abbrev Cy:V3->Option (Option V3×Option V3×Option V3)
 |.Slice l h t _=>Z (l,h,t)
 |_=>Y
abbrev q2:V3->Option (V3×List V3×List Xz)
 |.Call f a b _=>Z (f,a,b)
 |_=>Y
def fq(x:V3):Option (V1×List V3):=match q2 x with
 |some (f,a,[])=>(match dK f with|some y=>Z (y,a)|none=>Y)
 |_=>Y
abbrev vP:V3->Option (V3×V1×Xo)
 |.Attribute o n p=>Z (o,n,p)
 |_=>Y
abbrev Ct:V3->Option (V3×List Comprehension×Xr)
 |.ListComp x a b _=>Z (x,a,b)
 |_=>Y
def tyB(g:Gt)(ct:bE)(n:V1):Ty->Bool
 |.cls c=>gy ct.sc n&&okN n&&(if c=1000 then n==("ValueError":V1)&&cX g ct.sc n else g.cls[c]?==Z n)
 |t=>n==tyName t&&cX g ct.sc n
def tyP(g:Gt)(ct:bE)(n:V1):Ty->Bool
 |.cls _=>VF
 |t=>n==tyName t&&cX g ct.sc n
def mq(g:Gt)(ct:bE)(x:V1)(t:Ty)(e y:V3):Option Expr:=match dK y with
 |some n=>if x==("isinstance":V1)&&cX g ct.sc x&&tyP g ct n t then Z e else Y
 |none=>Y
def q6(g:Gt)(ct:bE)(x:V1)(e:V3):Option Expr:=match fq e with
 |some (y,[a])=>if x==("sorted":V1)&&cX g ct.sc x&&y==("set":V1)&&cX g ct.sc y then Z a else Y
 |_=>Y
def CF(g:Gt)(ct:bE)(x:V1)(p:cT)(a:List V3):Option Expr:=match p with
 |.d8=>(match a with|[e]=>q6 g ct x e|_=>Y)
 |.inst t=>(match a with|[e,y]=>mq g ct x t e y|_=>Y)
 |p=>(match a with|[e]=>if nW p&&x==nV p&&cX g ct.sc x then Z e else Y|_=>Y)
def mO(ct:bE)(a:Xr)(xs:List V1):Bool:=decide (a.kind=.function)&&a.names.all (λy=>y.2 != .cell)&&a.names.all (λy=>y.2 != .local||a.names.lookup y.1==Z .local)
 && xs.all (λy=>a.names.lookup y==Z .local&&okN y)&&decide xs.Nodup&&a.names.all (λy=>y.2 != .local||xs.contains y.1||y.1==(".0":V1))
 && a.names.all (λy=>y.2 != .free||(ct.sc.names.lookup y.1==Z .cell||ct.sc.names.lookup y.1==Z .free))&&((mask ct.N xs).zip ct.N).all (λp=>p.1==p.2||a.names.lookup p.1==Y)&&decide (mask ct.N xs++xs).Nodup&&!((mask ct.N xs++xs).contains (".0":V1))
abbrev pR:V3->Bool
 |.Dict [] [] _=>J
 |_=>VF
abbrev vT:V3->Option (List (Option V3)×List V3)
 |.Dict a b _=>Z (a,b)
 |_=>Y
def vS(z:V3):Option (V1×V1):=match vT z with
 |some ([Z a],[b])=>(match dK a,dK b with|some n,Z k=>Z (n,k)|_,_=>Y)
 |_=>Y
def rD(ct:bE)(i:Nat)(n:V1):Bool:=ct.N[i]?==Z n&&gD ct.sc n&&okN n
def kA(ct:bE)(i:Nat)(n:V1):Bool:=ct.N[i]?==Z n&&gD ct.sc n&&okN n&&ct.aa.contains i
def kF(ct:bE)(i:Nat)(n:V1):Bool:=ct.N[i]?==Z n&&gD ct.sc n&&okN n&&!ct.aa.contains i
def q3(z:V3):Option (V1×V1):=match ot z with
 |some (x,y)=>(match dK x,dK y with|some n,Z k=>Z (n,k)|_,_=>Y)
 |none=>Y
def vO(z:V3):Option (V1×V1×Xo×V3):=match q2 z with
 |some (f,[y],[])=>(match vP f with
  |some (o,n,a)=>(match dK o with|some x=>Z (x,n,a,y)|none=>Y)
  |none=>Y)
 |_=>Y
section
variable(g:Gt)
mutual
noncomputable def bc (ct:bE) (v:Bool):E->V3->Bool
 |.var i,z=>(match dK z with|some x=>ct.N[i]?==Z x&&gD ct.sc x&&okN x&&(v||!ct.aa.contains i)|none=>VF)
 |.lit d,z=>(match vR z with|some c=>litOk d c|none=>VF)
 |.tup a,z=>(match Cz z with|some m=>i0 ct a m&&decide (m.length<=1000)|none=>VF)
 |.lst a,z=>(match vU z with|some m=>i0 ct a m&&decide (m.length<=1000)|none=>VF)
 |.bin op a b,z=>(match Cr z with|some (x,o,y)=>z0 op o&&bc ct J a x&&bc ct J b y|none=>VF)
 |.neg a,z=>(match mm z with|some (.USub,x)=>bc ct J a x|_=>VF)
 |.not a,z=>(match mm z with|some (.Not,x)=>bc ct J a x|_=>VF)
 |.cmp op a b,z=>(match oq z with|some (x,[o],[y])=>oU op o&&bc ct J a x&&bc ct J b y|_=>VF)
 |.mW op op' a b c,z=>(match oq z with|some (x,[o,G],[y,w])=>oU op o&&oU op' G&&bc ct J a x&&bc ct J b y&&bc ct J c w|_=>VF)
 |.and a b,z=>(match vBool z with|some (.And,[x,y],_)=>bc ct J a x&&bc ct v b y|some (.And,x::y::w::r,p)=>bc ct J a x&&bc ct v b (.BoolOp .And (y::w::r) p)|_=>VF)
 |.or a b,z=>(match vBool z with|some (.Or,[x,y],_)=>bc ct J a x&&bc ct v b y|some (.Or,x::y::w::r,p)=>bc ct J a x&&bc ct v b (.BoolOp .Or (y::w::r) p)|_=>VF)
 |.idx a b,z=>(match ot z with|some (x,y)=>bc ct J a x&&bc ct J b y|none=>VF)
 |.slice a lo hi,z=>(match ot z with|some (x,y)=>(match Cy y with|some (l,h,Y)=>bc ct J a x&&mU ct lo l&&mU ct hi h|_=>VF)|none=>VF)
 |.call f a,z=>(match fq z with|some (x,m)=>g.fns[f]?==Z x&&gy ct.sc x&&okN x&&!m.isEmpty&&i0 ct a m|none=>VF)
 |.prim p a,z=>(match fq z with|some (x,m)=>(match CF g ct x p m with|some e=>bc ct J a e|none=>VF)|none=>VF)
 |.gB s,z=>(match fq z with|some (x,[e])=>x==("list":V1)&&cX g ct.sc x&&Bn s&&gQ ct J s e|_=>VF)
 |.tupI s,z=>(match fq z with|some (x,[e])=>x==("tuple":V1)&&cX g ct.sc x&&Bz s&&gQ ct J s e|_=>VF)
 |.comp e k s c,z=>(match Ct z with
   |some (x,[⟨t,C,u,0⟩],q)=>(match dv k t with
    |some xs=>(!jx s||k==2)&&mO ct q xs&&gQ ct J s C&&bc ⟨mask ct.N xs++xs,q,ct.aa⟩ VF e x&&kc ⟨mask ct.N xs++xs,q,ct.aa⟩ c u
    |none=>VF)
   |_=>VF)
 |.fO i j,z=>(match q3 z with|some (n,k)=>rD ct i n&&kF ct j k|none=>VF)
 |.glob j,z=>(match dK z with|some x=>g.hx[j]?==Z x&&gy ct.sc x&&okN x|none=>VF)
 |.max2 a b,z=>(match fq z with|some (x,[y,w])=>x==("max":V1)&&cX g ct.sc x&&bc ct J a y&&bc ct J b w|_=>VF)
 |.lp i j,z=>(match vS z with|some (n,k)=>kF ct i n&&kF ct j k|none=>VF)
 |.lq,z=>pR z
noncomputable def i0 (ct:bE):A->List V3->Bool
 |.nil,[]=>J
 |.cons e a,x::xs=>bc ct VF e x&&i0 ct a xs
 |_,_=>VF
noncomputable def mU (ct:bE):O->Option V3->Bool
 |.none,Y=>J
 |.some e,Z x=>bc ct J e x
 |_,_=>VF
noncomputable def kc (ct:bE):O->List V3->Bool
 |.none,[]=>J
 |.some e,[x]=>bc ct J e x
 |_,_=>VF
noncomputable def gQ (ct:bE) (v:Bool):I->V3->Bool
 |.seq e,z=>bc ct v e z
 |.ko e,z=>bc ct v e z
 |.cF a,z=>(match fq z with|some (x,[y])=>x==("range":V1)&&cX g ct.sc x&&bc ct J a y|_=>VF)
 |.i3 i,z=>(match dK z with|some n=>kF ct i n|none=>VF)
end
def gv:E->Bool
 |.lst _=>J
 |.comp ..=>J
 |.bin .add _ _=>J
 |.bin .mul _ _=>J
 |.prim .sorted _=>J
 |.prim .d8 _=>J
 |.gB _=>J
 |_=>VF
def lh(ct:bE):List Nat->List V1->Bool
 |[],[]=>J
 |i::a,x::xs=>ct.N[i]?==Z x&&gZ ct.sc x&&okN x&&!ct.aa.contains i&&lh ct a xs
 |_,_=>VF
abbrev gm:Wn->Option (List V3×V3)
 |.Assign ts y _=>Z (ts,y)
 |_=>Y
abbrev qV:Wn->Option V3
 |.Expr y _=>Z y
 |_=>Y
abbrev hb:Wn->Option (Option V3)
 |.Return y _=>Z y
 |_=>Y
abbrev oe:Wn->Option (V3×List Wn×List Wn)
 |.If t x y _=>Z (t,x,y)
 |_=>Y
abbrev od:Wn->Option (V3×V3×List Wn×List Wn)
 |.For t a x y _=>Z (t,a,x,y)
 |_=>Y
abbrev B0:Wn->Option V3
 |.Raise (Z y) Y _=>Z y
 |_=>Y
abbrev vA:Wn->Option (List Wn×List Y3×List Wn×List Wn)
 |.Try a h e f _=>Z (a,h,e,f)
 |_=>Y
abbrev O4:Y3->Option V3×Option V1×List Wn
 |.ExceptHandler t n b _=>(t,n,b)
def sH(ct:bE)(i:Nat)(e:E)(z:Wn):Bool:=match gm z with
 |some ([t],y)=>(match dK t with|some x=>ct.N[i]?==Z x&&gZ ct.sc x&&okN x&&(!ct.aa.contains i||gv e)&&bc g ct VF e y|none=>VF)
 |_=>VF
def oR(ct:bE)(i:Nat)(e:E)(nm:V1)(z:Wn):Bool:=match qV z with
 |some c=>(match vO c with|some (x,n,a,y)=>(a.endLine==c.pos.line)&&ct.N[i]?==Z x&&gD ct.sc x&&okN x&&ct.aa.contains i&&n==nm&&bc g ct VF e y|none=>VF)
 |none=>VF
def lg(ct:bE)(i:Nat)(z:Wn):Bool:=match gm z with
 |some ([t],y)=>(match dK t with|some x=>ct.N[i]?==Z x&&gZ ct.sc x&&okN x&&ct.aa.contains i&&pR y|none=>VF)
 |_=>VF
abbrev vB:Wn->Option (V3×List Wn×List Wn)
 |.While t x y _=>Z (t,x,y)
 |_=>Y
def sR(ct:bE)(i:Nat)(j e:E)(z:Wn):Bool:=match gm z with
 |some ([t],v)=>(match ot t with
  |some (x,y)=>(match dK x with|some n=>kA ct i n&&nK v&&bc g ct VF e v&&bc g ct J j y|none=>VF)
  |none=>VF)
 |_=>VF
def sN(ct:bE)(i:Nat)(z:Wn):Bool:=match qV z with
 |some c=>(match q2 c with
  |some (f,[],[])=>(match vP f with
   |some (o,n,a)=>(match dK o with|some x=>n==("pop":V1)&&(a.endLine==c.pos.line)&&kA ct i x|none=>VF)
   |none=>VF)
  |_=>VF)
 |none=>VF
def sP(ct:bE)(i:Nat)(e:E)(z:Wn):Bool:=match hb z with
 |some (Z y)=>ct.aa.contains i&&bc g ⟨ct.N,ct.sc,ct.aa.filter λj=>!(j==i)⟩ VF e y
 |_=>VF
def sJ(ct:bE)(i j:Nat)(e:E)(z:Wn):Bool:=match gm z with
 |some ([t],v)=>(match q3 t with|some (x,y)=>kA ct i x&&kF ct j y&&nK v&&bc g ct VF e v|none=>VF)
 |_=>VF
def sO(ct:bE)(c:Nat)(z:Wn):Bool:=match B0 z with
 |some y=>(match fq y with
  |some (x,[a])=>(match vR a with|some (.str _)=>c==1&&g.cls[c]?==Z x&&gy ct.sc x&&okN x|_=>VF)
  |_=>VF)
 |none=>VF
def mT(ct:bE)(n:V1)(k:Nat)(z:V3):Bool:=match fq z with
 |some (x,[e,d])=>(match dK e,dK d with|some y,Z t=>x==("isinstance":V1)&&cX g ct.sc x&&y==n&&tyB g ct t (.cls k)&&(k==1000||decide (k<g.cls.length))|_,_=>VF)
 |_=>VF
def sI(ct:bE)(k:Nat)(t:V3):Bool:=match dK t with
 |some x=>g.cls[k]?==Z x&&gy ct.sc x&&okN x
 |none=>VF
def oQ(ct:bE)(n:V1):List Nat->List V3->Bool
 |[],[]=>J
 |k::a,z::b=>mT g ct n k z&&oQ ct n a b
 |_,_=>VF
def sL(ct:bE)(j i:Nat)(n:V1)(a:List Nat)(k5 b:Nat)(d e:Wn):Bool:=match gm d with
 |some ([h],l)=>(match dK h with
  |some x=>(match vU l with
   |some p=>(match hb e with
    |some (Z y)=>(match vBool y with
     |some (.And,[k,m,o],_)=>(match mm o with
      |some (.Not,w)=>(match fq w with
       |some (f,[c])=>ct.N[i]?==Z x&&ct.sc.names.lookup x==Z .local&&okN x&&i != j&&oQ g ct n a p&&mT g ct n k5 k&&mT g ct n b m&&f==("any":V1)&&cX g ct.sc f&&dK c==Z x&&decide (a.length<=1000)
       |_=>VF)
      |_=>VF)
     |_=>VF)
    |_=>VF)
   |none=>VF)
  |none=>VF)
 |_=>VF
def sM(ct:bE)(h:eL)(n:Option V1)(st:List Wn):Bool:=match n with
 |some n=>ct.N[h.j]?==Z n&&ct.sc.names.lookup n==Z .local&&okN n&&(match st with|[a,b]=>sL g ct h.j h.i n h.a9 h.k5 h.ny a b|_=>VF)
 |none=>VF
def xd(ct:bE)(k:Nat)(h:eL)(q:Option V3×Option V1×List Wn):Bool:=match q.1 with
 |some t=>sI g ct k t&&sM g ct h q.2.1 q.2.2
 |none=>VF
def oP(ct:bE)(e:E)(z:Wn):Bool:=match qV z with
 |some y=>nK y&&bc g ct J e y
 |none=>VF
def oS(ct:bE):S->Wn->Bool
 |.expr e,z=>oP g ct e z
 |.iff c (.cons a .nil) (.cons b .nil),z=>(match oe z with|some (t,[x],[y])=>bc g ct J c t&&oS ct a x&&oS ct b y|_=>VF)
 |_,_=>VF
def sS(ct:bE)(s:S)(k:Nat)(h:eL)(z:Wn):Bool:=match vA z with
 |some ([a],[b],[],[])=>oS g ct s a&&decide (k<2)&&xd g ct k h (O4 b)
 |_=>VF
mutual
noncomputable def sQ (ct:bE):S->Wn->Bool
 |.asg i e,z=>sH g ct i e z
 |.app i e,z=>oR g ct i e "append" z
 |.ret e,z=>(match hb z with|some (Z y)=>bc g ct VF e y|_=>VF)
 |.jz i,z=>(match hb z with|some (Z y)=>(match dK y with|some x=>kA ct i x|none=>VF)|_=>VF)
 |.l9 i,z=>(match hb z with|some (Z y)=>(match dK y with|some x=>kA ct i x|none=>VF)|_=>VF)
 |.iff c a b,z=>(match oe z with|some (t,x,y)=>bc g ct J c t&&gP ct a x&&gP ct b y|none=>VF)
 |.dX k ts s b,z=>(match od z with|some (t,d,x,[])=>(match dv k t with|some xs=>(!jx s||k==2)&&lh ct ts xs&&decide ts.Nodup&&gQ g ct VF s d&&gP ct b x|none=>VF)|_=>VF)
 |.kf i,z=>lg ct i z
 |.kg i,z=>lg ct i z
 |.gR i j e,z=>sJ g ct i j e z
 |.jM c b,z=>(match vB z with|some (t,x,[])=>bc g ct J c t&&gP ct b x|_=>VF)
 |.hK i j e,z=>sR g ct i j e z
 |.pop i,z=>sN ct i z
 |.ma i e,z=>sP g ct i e z
 |.raise c,z=>sO g ct c z
 |.expr e,z=>oP g ct e z
 |.kQ s k h,z=>sS g ct s k h z
 |.ext i e,z=>oR g ct i e "extend" z
noncomputable def gP (ct:bE):B->List Wn->Bool
 |.nil,[]=>J
 |.cons s b,x::xs=>sQ ct s x&&gP ct b xs
 |_,_=>VF
end
mutual
noncomputable def Jm:S->List Nat
 |.app j _=>[j]
 |.kf j=>[j]
 |.kg j=>[j]
 |.jM _ b=>g0 b
 |.hK j _ _=>[j]
 |.pop j=>[j]
 |.gR j _ _=>[j]
 |.ext j _=>[j]
 |.iff _ a b=>g0 a++g0 b
 |.dX _ _ _ b=>g0 b
 |_=>[]
noncomputable def g0:B->List Nat
 |.nil=>[]
 |.cons s b=>Jm s++g0 b
end
def i1(N:List V1)(a:hW):Wn->Bool
 |.FunctionDef name args body [] Y [] b Y bind _ =>
   decide (b.kind=.function)&&!b.isCoroutine&&!b.isGenerator&&decide N.Nodup&&N.length==a.np+a.nl
   && (args.args.map (·.arg))==N.take a.np&&args.posonlyargs.isEmpty&&args.vararg.isNone&&args.kwonlyargs.isEmpty&&args.kwarg.isNone&&args.defaults.isEmpty&&args.kw_defaults.isEmpty
   && (N.take a.np).all (λx=>gZ b x)&&b.names.all (λy=>y.2 != .free)
   && (g0 a.body).all (λi=>decide (a.np<=i)&&decide (i<N.length))&&gP g ⟨N,b,g0 a.body⟩ a.body body
 |_=>VF
end
end ζ
end
local macro_rules|`({$x:term})=>`(.cons $x .nil)|`({$x:term,$y:term,*})=>`(.cons $x ({$y:term,*}))
local macro_rules(kind:=scientific)|`($n:scientific)=>match n.getScientific with|(m,_,0)=>`(.var $(Lean.quote m))|(m,_,_)=>`(.lit (.int $(Lean.quote m)))
section
namespace ak
open PySem ζ
def sl :B:={.ret (.comp (.bin .add (.slice 0e0 .none (.some 1e0)) (.slice 0e0 (.some (.bin .add 1e0 1e1)) .none)) 0 (.cF (.prim .len 0e0)) (.some (.cmp .gt (.prim .len 0e0) 1e1)))}
abbrev wL :B:={.ret (.and (.prim (.inst .int) 0e0) (.not (.prim (.inst .bool) 0e0)))}
abbrev rW(a b:Nat):B:={.ret (.and (.call a {0e0}) (.mW .le .le 1e1 0e0 (.glob b)))}
def sb :B:={.ret (.prim .all (.comp (.cmp .mem 2e0 1e0) 0 (.seq 0e0) .none))}
abbrev se(a:Nat):B:={.ret (.prim .any (.comp (.call a {0e0,2e0}) 0 (.seq 1e0) .none))}
abbrev sr(a:Nat):B:={.asg 1 (.prim .d8 0e0),.asg 2 (.lst .nil),.dX 0 [3] (.seq 1e0) {.asg 4 (.comp 5e0 0 (.seq 1e0) (.some (.cmp .gt (.prim .len 5e0) (.prim .len 3e0)))),.iff (.not (.call a {3e0,4e0})) {.app 2 3e0} .nil},.ret (.tupI (.seq 2e0))}
def rR :B:={.asg 1 (.lst .nil),.dX 0 [2] (.seq 0e0) {.asg 1 (.bin .add (.bin .add 1e0 (.lst {.tup {2e0}})) (.comp (.bin .add 3e0 (.tup {2e0})) 0 (.seq 1e0) .none))},.ret 1e0}
def rT(a:Nat):B:={.asg 1 (.lst .nil),.dX 0 [2] (.seq (.idx 0e0 1e1)) {.ext 1 (.call a {2e0})},.ret (.prim .d8 1e0)}
def rQ(a:Nat):B:={.ret (.tupI (.seq (.comp 2e0 0 (.seq (.call a {0e0})) (.some (.cmp .eq (.bin .sub (.prim .len 2e0) 1e1) 1e0)))))}
def sh :B:={.ret (.tupI (.seq (.comp (.tupI (.seq (.comp (.bin .add 3e0 1e0) 0 (.ko 2e0) .none))) 0 (.ko (.idx 0e0 1e1)) .none)))}
def mL(b a:Nat):B:={.asg 2 (.bin .add (.idx 0e0 0e1) (.idx 1e0 0e1)),.iff (.not (.call b {2e0})) {.raise a} .nil,.ret 2e0}
def mK(b a:Nat):B:={.asg 2 (.call a {0e0,1e0}),.ret (.tup {2e0,.bin .add (.idx 0e0 1e1) (.call b {1e0,.idx 0e0 0e1})})}
def mM(c b a:Nat):B:={.asg 2 (.call a {0e0,1e0}),.asg 3 (.lst .nil),.dX 0 [4] (.seq (.call b {1e0,.idx 0e0 0e1})) {.ext 3 (.comp (.bin .add 5e0 4e0) 0 (.seq (.idx 0e0 1e1)) .none)},.ma 3 (.tup {2e0,.call c {3e0}})}
abbrev so(a b:Nat):B:={.ret (.call a {0e0,.glob b})}
abbrev sq(a b:Nat):B:={.ret (.call a {0e0,.glob b})}
abbrev sg(a:Nat):B:={.kf 2,.asg 3 1e1,.dX 0 [4] (.seq (.call a {0e0,1e0})) {.gR 2 4 3e0,.asg 3 (.bin .mul 3e0 2e1)},.l9 2}
abbrev rP :B:={.ret (.prim .sum (.comp (.fO 1 2) 0 (.seq 0e0) .none))}
abbrev rS :B:={.ret (.tupI (.seq (.comp 2e0 0 (.i3 1) (.some (.cmp .ne (.bin .and 0e0 (.fO 1 2)) 0e1)))))}
abbrev sj(b c a:Nat):B:={.asg 2 (.call a {0e0,.bin .sub 1e0 1e1}),.asg 3 (.call a {0e0,1e0}),.ret (.comp (.tup {.call b {.call c {4e0},2e0},.fO 3 4}) 0 (.i3 3) .none)}
abbrev sm :B:={.ret (.tup {.bin .xor (.idx 0e0 0e1) (.idx 1e0 0e1),.bin .xor (.idx 0e0 1e1) (.idx 1e0 1e1)})}
abbrev si(a:Nat):B:={.dX 0 [2] (.i3 1) {.iff (.cmp .ne (.bin .and (.idx 0e0 0e1) 2e0) 0e1) {.asg 0 (.call a {0e0,.fO 1 2})} .nil},.ret 0e0}
abbrev sf :B:={.ret (.bin .and 0e0 (.neg 0e0))}
abbrev oK(a b:Nat):B:={.asg 2 (.call a {1e0,0e0}),.iff (.cmp .eq (.idx 2e0 0e1) 0e1) {.ret 0e0} .nil,.asg 3 (.call b {.idx 2e0 0e1}),.kg 4,.dX 0 [5] (.i3 0) {.gR 4 5 (.call a {.fO 0 5,.lp 3 2})},.gR 4 3 2e0,.l9 4}
abbrev rO(a:Nat):B:={.asg 1 .lq,.dX 0 [2] (.seq 0e0) {.asg 1 (.call a {1e0,2e0})},.ret 1e0}
def rV(a b:Nat):B:={.asg 1 .lq,.asg 2 (.lst .nil),.dX 0 [3] (.seq 0e0) {.asg 4 (.call b {3e0,1e0}),.iff (.cmp .eq (.idx 4e0 0e1) 0e1) {.app 2 (.idx 4e0 1e1)} .nil,.asg 1 (.call a {1e0,3e0})},.jz 2}
abbrev sk(e a g d c f b:Nat):B:={.asg 2 (.call b {.call a {0e0,.bin .add 1e0 1e1}}),.asg 3 (.call f {0e0,1e0}),.asg 4 (.lst .nil),.dX 0 [5] (.seq (.call e {.call a {0e0,1e0}})) {.asg 6 (.tup {5e0,0e1}),.iff (.cmp .ne (.idx (.call g {6e0,2e0}) 0e1) 0e1) {.app 4 (.call c {5e0,3e0}),.asg 2 (.call d {2e0,6e0})} .nil},.ret (.tupI (.seq (.prim .sorted 4e0)))}
def rU(a:Nat):B:={.asg 1 (.prim .max (.comp (.prim .len 2e0) 0 (.seq (.idx 0e0 1e1)) .none)),.ret (.tupI (.seq (.comp (.prim .len (.call a {0e0,2e0})) 0 (.cF 1e0) .none)))}
def rZ :B:={.iff (.cmp .lt 1e0 (.prim .len 0e0)) {.ret (.idx 0e0 1e0)} .nil,.ret 0e1}
abbrev r3(a:Nat):B:={.asg 2 (.bin .mod (.bin .mul (.bin .add (.bin .add (.call a {0e0,1e0}) (.bin .mul 7919e1 1e0)) 1e1) 48271e1) 2147483647e1),.ret (.bin .mod (.bin .add (.bin .add (.bin .mul 2e0 2e0) (.bin .mul 7e1 2e0)) 1e0) 2147483629e1)}
def r0 :B:={.asg 2 (.bin .mod (.bin .mul (.bin .add (.bin .add 0e0 (.bin .mul 104729e1 1e0)) 17e1) 69621e1) 2147483647e1),.ret (.bin .mod (.bin .add (.bin .add (.bin .mul 2e0 2e0) (.bin .mul 3e1 2e0)) 1e0) 2147483629e1)}
def r2 :B:={.ret (.cmp .eq (.comp 2e0 0 (.seq 0e0) (.some (.cmp .iv 2e0 1e0))) (.lst .nil))}
def sa(a:Nat):B:={.asg 1 (.lst .nil),.dX 0 [2] (.seq (.prim .d8 0e0)) {.iff (.cmp .eq (.comp 3e0 0 (.seq 0e0) (.some (.and (.cmp .ne 2e0 3e0) (.call a {2e0,3e0})))) (.lst .nil)) {.app 1 2e0} .nil},.ret (.tupI (.seq 1e0))}
abbrev k9(a:Nat):B:={.iff (.cmp .eq 1e0 0e1) {.ret (.lst {.tup .nil})} .nil,.asg 2 (.lst .nil),.dX 0 [3] (.cF (.prim .len 0e0)) {.asg 2 (.bin .add 2e0 (.comp (.bin .add (.tup {.idx 0e0 3e0}) 4e0) 0 (.seq (.call a {.slice 0e0 (.some (.bin .add 3e0 1e1)) .none,.bin .sub 1e0 1e1})) .none))},.ret 2e0}
abbrev r9(a:Nat):B:={.asg 2 (.comp (.tup {6e0}) 0 (.cF 1e0) .none),.dX 0 [3] (.cF (.bin .mod 0e0 9e1)) {.asg 4 (.call a {0e0,3e0}),.asg 5 (.tupI (.seq (.comp 6e0 0 (.cF 1e0) (.some (.cmp .lt (.bin .mod (.call a {4e0,6e0}) 5e1) (.bin .add 2e1 (.bin .mod 4e0 2e1))))))),.iff (.cmp .ne 5e0 (.tup .nil)) {.app 2 5e0} .nil},.jz 2}
abbrev r5(c a b:Nat):B:={.asg 2 (.bin .add 1e1 (.bin .mod 0e0 1e0)),.asg 3 (.bin .mod (.bin .fdiv 0e0 12e1) 8e1),.iff (.cmp .eq 3e0 0e1) {.asg 4 (.call a {.tupI (.cF 2e0),.bin .add 1e1 (.bin .mod (.bin .fdiv 0e0 96e1) 2e0)})} {.iff (.and (.cmp .eq 3e0 1e1) (.cmp .gt 1e0 5e1)) {.asg 2 6e1,.asg 4 (.comp (.tup {0e1,.bin .add 1e1 5e0,.bin .add 1e1 (.bin .mod (.bin .add 5e0 1e1) 5e1)}) 0 (.cF 5e1) .none),.asg 4 (.bin .add 4e0 (.comp (.tup {.bin .add 1e1 5e0,.bin .add 1e1 (.bin .mod (.bin .add 5e0 1e1) 5e1),.bin .add 1e1 (.bin .mod (.bin .add 5e0 3e1) 5e1)}) 0 (.cF 5e1) .none))} {.iff (.and (.cmp .eq 3e0 2e1) (.cmp .gt 1e0 6e1)) {.asg 2 7e1,.asg 4 (.comp (.tup {5e0,.bin .mod (.bin .add 5e0 1e1) 7e1,.bin .mod (.bin .add 5e0 3e1) 7e1}) 0 (.cF 7e1) .none),.asg 4 (.bin .add 4e0 (.comp (.tup {5e0,.bin .mod (.bin .add 5e0 2e1) 7e1,.bin .mod (.bin .add 5e0 3e1) 7e1}) 0 (.cF 7e1) .none))} {.asg 4 (.call b {.bin .fdiv 0e0 96e1,2e0})}}},.ret (.tup {2e0,.call c {.comp (.tupI (.seq (.prim .sorted 5e0))) 0 (.seq 4e0) .none}})}
def r1 :B:={.asg 1 (.gB (.seq 0e0)),.hK 1 0e1 (.bin .sub (.idx 1e0 0e1) 1e1),.jM (.and (.cmp .ne 1e0 (.lst .nil)) (.cmp .eq (.idx 1e0 (.neg 1e1)) 0e1)) {.pop 1},.jz 1}
abbrev r8(i j g h c e b d f a:Nat):B:={.kQ (.iff (.cmp .eq 0e0 0e1) {.expr (.call i {1e0})} {.iff (.cmp .eq 0e0 1e1) {.expr (.call j {1e0})} {.iff (.cmp .eq 0e0 2e1) {.expr (.call g {1e0,2e0})} {.expr (.call h {1e0,2e0})}}}) c ⟨3,4,[e,b,d,f],a,1000⟩,.ret (.lit (.ag VF))}
def r4 :B:={.ret (.comp (.tupI (.seq (.comp (.bin .add 3e0 1e0) 0 (.seq 2e0) .none))) 0 (.seq (.idx 0e0 1e1)) .none)}
abbrev r6(b a:Nat):B:={.asg 2 (.lst .nil),.dX 0 [3] (.seq (.idx 0e0 1e1)) {.asg 2 (.bin .add 2e0 (.comp (.bin .add 3e0 4e0) 0 (.seq (.call a {1e0,.idx 0e0 0e1})) .none))},.ret (.tup {.bin .add (.idx 0e0 0e1) (.idx 1e0 0e1),.call b {2e0}})}
abbrev r7 :B:={.asg 2 (.bin .mul (.lst {0e1}) (.bin .add (.prim .len 0e0) (.prim .len 1e0))),.dX 0 [3] (.cF (.prim .len 0e0)) {.dX 0 [4] (.cF (.prim .len 1e0)) {.hK 2 (.bin .add (.bin .add 3e0 4e0) 1e1) (.bin .add (.idx 2e0 (.bin .add (.bin .add 3e0 4e0) 1e1)) (.bin .mul (.idx 0e0 3e0) (.idx 1e0 4e0)))}},.jM (.and (.cmp .ne 2e0 (.lst .nil)) (.cmp .eq (.idx 2e0 (.neg 1e1)) 0e1)) {.pop 2},.jz 2}
abbrev rY :B:={.asg 2 (.max2 (.prim .len 0e0) (.prim .len 1e0)),.asg 3 (.bin .add (.gB (.seq 0e0)) (.bin .mul (.lst {0e1}) (.bin .sub 2e0 (.prim .len 0e0)))),.asg 4 (.bin .add (.gB (.seq 1e0)) (.bin .mul (.lst {0e1}) (.bin .sub 2e0 (.prim .len 1e0)))),.ret (.tupI (.seq (.comp (.bin .add (.idx 3e0 5e0) (.idx 4e0 5e0)) 0 (.cF 2e0) .none)))}
abbrev rX(d e b i g m j h f c a l n k:Nat):B:={.asg 1 (.call k {.call f {0e0,0e1},4e1}),.asg 2 (.call k {.call f {0e0,1e1},3e1}),.asg 3 (.tup {1e1,.tup {.tup {0e1}}}),.asg 4 (.tup {2e1,.tup {.tup {0e1},.tup {1e1}}}),.asg 5 (.call e {1e0}),.iff (.or (.cmp .ne 5e0 (.call b {1e0,3e0})) (.cmp .ne (.call c {.call a {5e0}}) (.lst .nil))) {.ret (.lit (.ag VF))} .nil,.asg 6 (.call i {1e0}),.iff (.or (.cmp .ne 6e0 (.call b {1e0,4e0})) (.cmp .ne (.call c {.call a {6e0}}) (.call l {.call c {.call a {1e0}},.lst {1e1}}))) {.ret (.lit (.ag VF))} .nil,.asg 7 (.call g {1e0,2e0}),.iff (.cmp .ne 7e0 (.tup {.bin .add (.idx 1e0 0e1) (.idx 2e0 0e1),.call m {.bin .add (.gB (.seq (.idx 1e0 1e1))) (.call j {2e0,.idx 1e0 0e1})}})) {.ret (.lit (.ag VF))} .nil,.asg 8 (.call h {1e0,2e0}),.iff (.or (.cmp .ne 8e0 (.call b {1e0,2e0})) (.cmp .ne (.call a {7e0}) (.call n {.call a {1e0},.call a {2e0}}))) {.ret (.lit (.ag VF))} .nil,.iff (.cmp .ne (.call c {.call a {8e0}}) (.call l {.call c {.call a {1e0}},.call c {.call a {2e0}}})) {.ret (.lit (.ag VF))} .nil,.asg 9 (.call f {0e0,2e1}),.asg 10 (.bin .add 1e1 (.bin .mod 9e0 8e1)),.asg 11 (.bin .add (.bin .sub 9e1 10e0) (.bin .mod (.bin .fdiv 9e0 8e1) 10e0)),.asg 12 (.tup {10e0,.tupI (.seq (.comp (.tup {17e0}) 0 (.cF 10e0) .none))}),.asg 13 (.tup {11e0,.tup {.tupI (.cF 11e0)}}),.iff (.or (.not (.call d {2e1,12e0,13e0})) (.not (.call d {3e1,13e0,12e0}))) {.ret (.lit (.ag VF))} .nil,.iff (.cmp .lt 10e0 8e1) {.asg 14 (.tup {.bin .sub 8e1 10e0,.tup {.tupI (.cF (.bin .sub 8e1 10e0))}}),.iff (.cmp .ne (.call h {12e0,14e0}) (.call b {12e0,14e0})) {.ret (.lit (.ag VF))} .nil,.iff (.cmp .ne (.call g {14e0,12e0}) (.tup {8e1,.call m {.bin .add (.gB (.seq (.idx 14e0 1e1))) (.call j {12e0,.idx 14e0 0e1})}})) {.ret (.lit (.ag VF))} .nil} .nil,.asg 15 (.tup {6e1,.tup {.tup {0e1,1e1,2e1},.tup {1e1,2e1,3e1},.tup {3e1,4e1,5e1}}}),.iff (.or (.cmp .ne (.call i {15e0}) (.call b {15e0,4e0})) (.cmp .ne (.call e {.call e {15e0}}) (.call b {.call b {15e0,3e0},3e0}))) {.ret (.lit (.ag VF))} .nil,.asg 16 (.tup {.bin .add 7e1 (.bin .mod (.bin .fdiv 9e0 80e1) 2e1),.tup {.tupI (.cF (.bin .add 7e1 (.bin .mod (.bin .fdiv 9e0 80e1) 2e1)))}}),.ret (.and (.call d {1e1,16e0,16e0}) (.call d {0e1,.tup {8e1,.tup {.tupI (.cF 8e1)}},16e0}))}
end ak
end
section
namespace dp
open PySem ζ
abbrev fds:List hW:=[
 ⟨1,0,ak.sl⟩,
 ⟨1,0,ak.wL⟩,
 ⟨1,0,ak.rW 1 0⟩,
 ⟨2,0,ak.sb⟩,
 ⟨2,0,ak.se 3⟩,
 ⟨1,4,ak.sr 4⟩,
 ⟨1,2,ak.rR⟩,
 ⟨1,2,ak.rT 6⟩,
 ⟨2,0,ak.rQ 7⟩,
 ⟨2,0,ak.sh⟩,
 ⟨2,1,ak.mL 2 1⟩,
 ⟨2,1,ak.mK 9 10⟩,
 ⟨2,3,ak.mM 5 9 10⟩,
 ⟨1,0,ak.so 12 1⟩,
 ⟨1,0,ak.sq 12 2⟩,
 ⟨2,3,ak.sg 8⟩,
 ⟨2,0,ak.rP⟩,
 ⟨2,0,ak.rS⟩,
 ⟨2,2,ak.sj 16 0 15⟩,
 ⟨2,0,ak.sm⟩,
 ⟨2,1,ak.si 19⟩,
 ⟨1,0,ak.sf⟩,
 ⟨2,4,ak.oK 20 21⟩,
 ⟨1,2,ak.rO 22⟩,
 ⟨1,4,ak.rV 22 20⟩,
 ⟨2,5,ak.sk 24 18 20 22 17 15 23⟩,
 ⟨1,1,ak.rU 25⟩,
 ⟨2,0,ak.rZ⟩,
 ⟨2,1,ak.r3 27⟩,
 ⟨2,1,ak.r0⟩,
 ⟨2,0,ak.r2⟩,
 ⟨1,2,ak.sa 30⟩,
 ⟨2,2,ak.k9 32⟩,
 ⟨2,4,ak.r9 29⟩,
 ⟨2,3,ak.r5 31 32 33⟩,
 ⟨1,1,ak.r1⟩,
 ⟨3,2,ak.r8 13 14 11 12 1 3 2 4 5 0⟩,
 ⟨2,0,ak.r4⟩,
 ⟨2,2,ak.r6 31 37⟩,
 ⟨2,3,ak.r7⟩,
 ⟨2,3,ak.rY⟩,
 ⟨1,16,ak.rX 36 13 38 14 11 31 37 12 28 35 26 39 40 34⟩]
abbrev cs:List D:=[.int 8,.kt [.int 1,.kt [.kt [.int 0]]],.kt [.int 2,.kt [.kt [.int 0],.kt [.int 1]]]]
abbrev up:eb:=λc=>match c with|0=>[0,1000]|1=>[1,0,1000]|2=>[2,0,1000]|3=>[3,0,1000]|4=>[4,0,1000]|5=>[5,0,1000]|_=>[]
def pg:cw:=⟨up,cs⟩
abbrev zS:List (List V1):=[
 (["cell"]:List V1),
 (["thing"]:List V1),
 (["thing"]:List V1),
 (["cell","other"]:List V1),
 (["cell","others"]:List V1),
 (["some","distinct","tops","cell","longer"]:List V1),
 (["top","found","corner"]:List V1),
 (["net","found","top"]:List V1),
 (["net","height"]:List V1),
 (["net","far"]:List V1),
 (["one","other","many"]:List V1),
 (["one","other","many"]:List V1),
 (["one","other","many","tops","upper"]:List V1),
 (["net"]:List V1),
 (["net"]:List V1),
 (["net","height","found","bit","cell"]:List V1),
 (["chain","marked"]:List V1),
 (["bits","marked"]:List V1),
 (["net","height","lower","own"]:List V1),
 (["one","other"]:List V1),
 (["row","basis","pivot"]:List V1),
 (["bits"]:List V1),
 (["basis","row","left","pivot","wider","other"]:List V1),
 (["rows","basis","row"]:List V1),
 (["rows","basis","found","row","left"]:List V1),
 (["net","height","reached","marked","found","bits","row"]:List V1),
 (["net","highest"]:List V1),
 (["_law_script","_law_k"]:List V1),
 (["_law_script","_law_k","_law_drawn_here"]:List V1),
 (["_law_number","_law_k","_law_drawn_here"]:List V1),
 (["_law_cell","_law_other"]:List V1),
 (["_law_some_here","_law_found","_law_cell"]:List V1),
 (["_law_cell","_law_size","_law_found","_law_at"]:List V1),
 (["_law_number","_law_many","_law_found","_law_k","_law_drawn_here","_law_cell"]:List V1),
 (["_law_number","_law_most","_law_many","_law_kind","_law_some_here"]:List V1),
 (["_law_some_here","_law_found"]:List V1),
 (["_law_which","_law_one","_law_other","e","_law_some_here"]:List V1),
 (["_law_net_here","_law_by"]:List V1),
 (["_law_one","_law_other","_law_found","_law_top"]:List V1),
 (["_law_one","_law_other","_law_found","_law_k","_law_n"]:List V1),
 (["_law_one","_law_other","_law_size","_law_left","_law_right"]:List V1),
 (["_law_script","_law_one","_law_other","_law_point","_law_two","_law_high","_law_more","_law_both","_law_whole","_law_number","_law_great","_law_rest","_law_first","_law_second","_law_few","_law_six","_law_full"]:List V1)]
abbrev gt:Gt:=⟨[("sides":V1),("is_whole":V1),("is_many":V1),("lies_in":V1),("lies_in_one":V1),("uppermost":V1),("cells_within":V1),("every_cell":V1),("cells_of_height":V1),("moved":V1),("corners_of_both":V1),("beside":V1),("over":V1),("tip":V1),("two_tips":V1),("marks":V1),("bits_of":V1),("chain_of":V1),("rim_rows":V1),("sum_of_rows":V1),("reduced":V1),("lowest_bit":V1),("grown":V1),("basis_of":V1),("idle_parts":V1),("rounds_about":V1),("holes":V1),("_law_cell_at":V1),("_law_mixed":V1),("_law_drawn":V1),("_law_lies":V1),("_law_tops":V1),("_law_parts":V1),("_law_some":V1),("_law_net":V1),("_law_less":V1),("_law_refused":V1),("_law_moved":V1),("_law_over":V1),("_law_products":V1),("_law_added":V1),("law":V1)],["HoleError","NoRoom","NoNet","NoText","NoRound","NotFree"],["MOST_CORNERS","ONE_CORNER","TWO_CORNERS"]⟩
end dp
end
section
namespace ζ
section
variable{pg:cw}{Φ:da}{ae:ay}
def oI(pg:cw)(Φ:da)(ae:ay)(r:R D)(b:E):R D:=r>>=λx=>dN x>>=λk=>if k then ev pg Φ ae b else .ok (.ag VF)
def qD(pg:cw)(Φ:da)(r:R cB)(b:B):R cB:=r>>=λx=>match x with
 |.aN a=>dj pg Φ a b
 |.bl d=>.ok (.bl d)
def tU(pg:cw)(Φ:da)(ae:ay)(r:R D)(a b:B):R cB:=r>>=λx=>dN x>>=λk=>if k then dj pg Φ ae a else dj pg Φ ae b
def turn(pg:cw)(Φ:da)(k:Nat)(ts:List Nat)(b:B)(d:D)(ae:ay):R cB:=ep k d>>=λa=>dj pg Φ (iF ts a ae) b
def elem(pg:cw)(Φ:da)(ae:ay)(e:E)(k:Nat)(c:O)(d:D):R (Option D):=ep k d>>=λa=>i8 pg Φ (ae++a) c>>=λb=>if b then ev pg Φ (ae++a) e>>=λy=>.ok (Z y) else .ok Y
def pd(i:Nat){d:D}(h:ae[i]?=Z (Z d)):ev pg Φ ae (.var i)=.ok d:=Rc tN h
def pa(i:Nat):ev pg Φ ae (.var i)=tN ae[i]?:=ar rfl
def F1{d:D}{r:ay}:ev pg Φ (Z d::r) (.var 0)=.ok d:=ar rfl
def F2{o:Option D}{r:ay}{i:Nat}:ev pg Φ (o::r) (.var (i+1))=ev pg Φ r (.var i):=ar rfl
def tw(d:D):ev pg Φ ae (.lit d)=.ok d:=ar rfl
def F0(a:A):ev pg Φ ae (.tup a)=fF pg Φ ae a>>=λds=>.ok (.tup ds):=ar rfl
def xW(a:A):ev pg Φ ae (.lst a)=fF pg Φ ae a>>=λds=>.ok (.lst ds):=ar rfl
def FQ(op:Op)(a b:E):ev pg Φ ae (.bin op a b)=ev pg Φ ae a>>=λx=>ev pg Φ ae b>>=λy=>cA op x y:=ar rfl
def xX(a:E):ev pg Φ ae (.neg a)=ev pg Φ ae a>>=λx=>en x>>=λi=>.ok (.int (-i)):=ar rfl
def o8(i:Nat):eT pg Φ ae (.i3 i)=ll ae[i]?:=ar rfl
def FX(a:E):ev pg Φ ae (.not a)=ev pg Φ ae a>>=λx=>dN x>>=λb=>.ok (.ag (!b)):=ar rfl
def tv(op:iN)(a b:E):ev pg Φ ae (.cmp op a b)=ev pg Φ ae a>>=λx=>ev pg Φ ae b>>=λy=>cp op x y>>=λc=>.ok (.ag c):=ar rfl
def o9(a b:E):ev pg Φ ae (.and a b)=oI pg Φ ae (ev pg Φ ae a) b:=ar rfl
def xV(a b:E):ev pg Φ ae (.idx a b)=ev pg Φ ae a>>=λx=>ev pg Φ ae b>>=λy=>c4 x y:=ar rfl
def FZ(a:E)(lo hi:O):ev pg Φ ae (.slice a lo hi)=ev pg Φ ae a>>=λx=>i9 pg Φ ae lo>>=λl=>i9 pg Φ ae hi>>=λh=>hL x l h:=ar rfl
def FR(f:Nat)(a:A):ev pg Φ ae (.call f a)=fF pg Φ ae a>>=λds=>Φ f ds:=ar rfl
def FY(p:cT)(a:E):ev pg Φ ae (.prim p a)=ev pg Φ ae a>>=λx=>hH pg.up p x:=ar rfl
def xY(s:I):ev pg Φ ae (.tupI s)=eT pg Φ ae s>>=λds=>.ok (.tup ds):=ar rfl
def FU(e:E)(k:Nat)(s:I)(c:O):ev pg Φ ae (.comp e k s c)=eT pg Φ ae s>>=λds=>ir (bx (elem pg Φ ae e k c) ds)>>=λys=>.ok (.lst ys):=ar rfl
def uI{α:Type}(a:α):ir (.ok a)=.ok a:=ar rfl
def tr:fF pg Φ ae .nil=.ok []:=ar rfl
def xS(e:E)(a:A):fF pg Φ ae (.cons e a)=ev pg Φ ae e>>=λx=>fF pg Φ ae a>>=λxs=>.ok (x::xs):=ar rfl
def FO:i9 pg Φ ae .none=.ok none:=ar rfl
def FP(e:E):i9 pg Φ ae (.some e)=ev pg Φ ae e>>=λx=>en x>>=λi=>.ok (Z i):=ar rfl
def FK:i8 pg Φ ae .none=.ok true:=ar rfl
def FL(e:E):i8 pg Φ ae (.some e)=ev pg Φ ae e>>=λx=>dN x:=ar rfl
def tu(e:E):eT pg Φ ae (.seq e)=ev pg Φ ae e>>=λx=>cL x:=ar rfl
def FN(a:E):eT pg Φ ae (.cF a)=ev pg Φ ae a>>=λx=>en x>>=λi=>iD 0 i:=ar rfl
def pb(j:Nat){d:D}(h:pg.cs[j]?=Z d):ev pg Φ ae (.glob j)=.ok d:=Rc tM h
def FW(a b:E):ev pg Φ ae (.max2 a b)=ev pg Φ ae a>>=λx=>en x>>=λi=>ev pg Φ ae b>>=λy=>en y>>=λj=>.ok (.int (if i<j then j else i)):=ar rfl
def Gj(c:E)(b:B):ex pg Φ ae (.jM c b)=hT (λa=>ev pg Φ a c>>=λx=>dN x) (λa=>dj pg Φ a b) 200 ae:=ar rfl
def x6(i:Nat)(j e:E):ex pg Φ ae (.hK i j e)=ev pg Φ ae e>>=λd=>fN ae[i]?>>=λ_=>ev pg Φ ae j>>=λk=>kJ ae[i]? k d>>=λx=>.ok (.aN (ae.set i (Z x))):=ar rfl
def Ge(i:Nat):ex pg Φ ae (.pop i)=qs ae[i]?>>=λx=>.ok (.aN (ae.set i (Z x))):=ar rfl
def Gi(i:Nat)(e:E):ex pg Φ ae (.ma i e)=fN ae[i]?>>=λ_=>ev pg Φ ae e>>=λd=>.ok (.bl d):=ar rfl
def Bt(ds:List D)(j:Int)(d:D):kJ (Z (Z (.lst ds))) (.int j) d=putAt ds j d:=ar rfl
def KS(up:eb)(d:D):hH up .all d=cL d>>=λxs=>iW xs>>=λb=>.ok (.ag b):=ar rfl
def KU(up:eb)(d:D):hH up .any d=cL d>>=λxs=>iX xs>>=λb=>.ok (.ag b):=ar rfl
def xT(e:E):eT pg Φ ae (.ko e)=ev pg Φ ae e>>=λx=>md x:=ar rfl
def Hg(xs:List D)(i:Int):c4 (.kt xs) (.int i)=(match fj xs i with|some d=>.ok d|none=>.bad):=ar rfl
def DB(b:Bool):dN (.ag b)=.ok b:=ar rfl
def wG(i:Int):en (.int i)=.ok i:=ar rfl
def ME(xs:List D):cL (.tup xs)=.ok xs:=ar rfl
def MD(xs:List D):cL (.lst xs)=.ok xs:=ar rfl
def DS(d:D):ep 0 d=.ok [Z d]:=ar rfl
def wt(b:E):oI pg Φ ae (.ok (.ag J)) b=ev pg Φ ae b:=ar rfl
def Dc(b:E):oI pg Φ ae (.ok (.ag VF)) b=.ok (.ag VF):=ar rfl
def x2:dj pg Φ ae .nil=.ok (.aN ae):=ar rfl
def x1(s:S)(b:B):dj pg Φ ae (.cons s b)=qD pg Φ (ex pg Φ ae s) b:=ar rfl
def Bm(b:B):qD pg Φ (.ok (.aN ae)) b=dj pg Φ ae b:=ar rfl
def qF(d:D)(b:B):qD pg Φ (.ok (.bl d)) b=.ok (.bl d):=ar rfl
def x3(i:Nat)(e:E):ex pg Φ ae (.asg i e)=ev pg Φ ae e>>=λd=>.ok (.aN (ae.set i (Z d))):=ar rfl
def uS(pg:cw)(Φ:da)(ae:ay)(r:R D)(b:E):R D:=r>>=λx=>dN x>>=λk=>if k then .ok (.ag J) else ev pg Φ ae b
def lx(a b:E):ev pg Φ ae (.or a b)=uS pg Φ ae (ev pg Φ ae a) b:=ar rfl
def lU(b:E):uS pg Φ ae (.ok (.ag J)) b=.ok (.ag J):=ar rfl
def lT(b:E):uS pg Φ ae (.ok (.ag VF)) b=ev pg Φ ae b:=ar rfl
def Gf(c:Nat):ex pg Φ ae (.raise c)=.exc c:=ar rfl
def qZ(pg:cw)(r:R cB)(k:Nat)(h:eL):R cB:=Cg r λc=>gd pg c k h
def x7(s:S)(k:Nat)(h:eL):ex pg Φ ae (.kQ s k h)=qZ pg (ex pg Φ ae s) k h:=ar rfl
def Ga(e:E):ex pg Φ ae (.expr e)=ev pg Φ ae e>>=λ_=>.ok (.aN ae):=ar rfl
def OK(x:cB)(k:Nat)(h:eL):qZ pg (.ok x) k h=.ok x:=ar rfl
def Cf(c k:Nat)(h:eL):qZ pg (.exc c) k h=gd pg c k h:=ar rfl
def nf(s:I):ev pg Φ ae (.gB s)=eT pg Φ ae s>>=λds=>.ok (.lst ds):=ar rfl
def FT(op op':iN)(a b c:E):ev pg Φ ae (.mW op op' a b c)=ev pg Φ ae a>>=λx=>ev pg Φ ae b>>=λy=>cp op x y>>=λk=>if k then ev pg Φ ae c>>=λz=>cp op' y z>>=λd=>.ok (.ag d) else .ok (.ag VF):=ar rfl
def EE(i j:Int):cp .le (.int i) (.int j)=.ok (decide (i<=j)):=ar rfl
def qE(c:Nat)(b:B):qD pg Φ (.exc c) b=.exc c:=ar rfl
def tl(c:Nat):ki (.exc c)=.exc c:=ar rfl
def F7(i:Nat)(e:E):ex pg Φ ae (.app i e)=fN ae[i]?>>=λ_=>ev pg Φ ae e>>=λd=>mH ae[i]? d>>=λx=>.ok (.aN (ae.set i (Z x))):=ar rfl
def Gh(i:Nat):ex pg Φ ae (.jz i)=p7 ae[i]?>>=λd=>.ok (.bl d):=ar rfl
def II(ds:List D):p7 (Z (Z (.lst ds)))=.ok (.lst ds):=ar rfl
def Gg(e:E):ex pg Φ ae (.ret e)=ev pg Φ ae e>>=λd=>.ok (.bl d):=ar rfl
def Gd(c:E)(a b:B):ex pg Φ ae (.iff c a b)=tU pg Φ ae (ev pg Φ ae c) a b:=ar rfl
def Hj(a b:B):tU pg Φ ae (.ok (.ag J)) a b=dj pg Φ ae a:=ar rfl
def Hi(a b:B):tU pg Φ ae (.ok (.ag VF)) a b=dj pg Φ ae b:=ar rfl
def Gb(k:Nat)(ts:List Nat)(s:I)(b:B):ex pg Φ ae (.dX k ts s b)=eT pg Φ ae s>>=λds=>forL (turn pg Φ k ts b) ds ae:=ar rfl
def LJ{a:Nat}{b:B}(x:D):bb pg Φ ⟨1,a,b⟩ [x]=ki (dj pg Φ (Z x::VV a Y) b):=ar rfl
def LK{a:Nat}{b:B}(x y:D):bb pg Φ ⟨2,a,b⟩ [x,y]=ki (dj pg Φ (Z x::Z y::VV a Y) b):=ar rfl
def o6(d:D):ki (.ok (.bl d))=.ok d:=ar rfl
def KV(up:eb)(d:D):hH up .len d=hB d:=ar rfl
def KX(up:eb)(d:D):hH up .sorted d=cL d>>=λxs=>sorted xs:=ar rfl
def KY(up:eb)(d:D):hH up .d8 d=cL d>>=λxs=>d8 xs:=ar rfl
def ug(xs:List D):hB (.tup xs)=.ok (.int xs.length):=ar rfl
def y8(xs:List D):hB (.lst xs)=.ok (.int xs.length):=ar rfl
def sY(x y:D):cp .eq x y=dG x y:=ar rfl
def sZ(x y:D):cp .ne x y=fT (dG x y):=ar rfl
def xh(x y:D):cp .lt x y=p8 x y:=ar rfl
def cmp_gt(i j:Int):cp .gt (.int i) (.int j)=.ok (decide (j<i)):=ar rfl
def EF(x:D)(ys:List D):cp .mem x (.tup ys)=gi x ys:=ar rfl
def EH(x:D)(ys:List D):cp .iv x (.tup ys)=fT (gi x ys):=ar rfl
def EG(x:D)(ys:List D):cp .iv x (.lst ys)=fT (gi x ys):=ar rfl
def IL(i j:Int):p8 (.int i) (.int j)=.ok (decide (i<j)):=ar rfl
def zX(b:Bool):fT (.ok b)=.ok (!b):=ar rfl
def xM(i j:Int):dG (.int i) (.int j)=.ok (i==j):=ar rfl
def FD{x y:D}(h:bL 60 x=J)(h':bL 60 y=J):dG x y=.ok (eS x y):=by simp only[dG,h,h',Vt,Q3]
def add_int(i j:Int):cA .add (.int i) (.int j)=.ok (.int (i+j)):=ar rfl
def sub_int(i j:Int):cA .sub (.int i) (.int j)=.ok (.int (i-j)):=ar rfl
def k6(xs ys:List D):cA .add (.tup xs) (.tup ys)=if xs.length+ys.length<=SZ then .ok (.tup (xs++ys)) else .bad:=ar rfl
def j2(xs ys:List D):cA .add (.lst xs) (.lst ys)=if xs.length+ys.length<=SZ then .ok (.lst (xs++ys)) else .bad:=ar rfl
def mul_int(i j:Int):cA .mul (.int i) (.int j)=if (-eJ<i/\i<eJ)\/(-eJ<j/\j<eJ) then .ok (.int (i*j)) else .bad:=ar rfl
def yb(i j:Int):cA .fdiv (.int i) (.int j)=if 0<j/\j<1073741824 then .ok (.int (i / j)) else .bad:=ar rfl
def mod_int(i j:Int):cA .mod (.int i) (.int j)=if 0<j then .ok (.int (i%j)) else .bad:=ar rfl
def yJ(xs:List D)(i:Int):c4 (.tup xs) (.int i)=(match fj xs i with|some d=>.ok d|none=>.bad):=ar rfl
def nr(xs:List D)(i:Int):c4 (.lst xs) (.int i)=(match fj xs i with|some d=>.ok d|none=>.bad):=ar rfl
def qK(xs:List D)(lo hi:Option Int):hL (.tup xs) lo hi=.ok (.tup (cut xs lo hi)):=ar rfl
def BE(xs:List D)(lo hi:Option Int):hL (.lst xs) lo hi=.ok (.lst (cut xs lo hi)):=ar rfl
def sG(xs:List D):fN (Z (Z (.lst xs)))=.ok ():=ar rfl
def oJ(xs:List D)(d:D):mH (Z (Z (.lst xs))) d=if xs.length<SZ then .ok (.lst (xs++[d])) else .bad:=ar rfl
def MH{o v:Option D}{r:ay}:(o::r:ay).set 0 v=v::r:=ar rfl
def MJ{o v:Option D}{r:ay}{i:Nat}:(o::r:ay).set (i+1) v=o::r.set i v:=ar rfl
def GN{o:Option D}{r:ay}:(o::r:ay)[0]?=Z o:=ar rfl
def GU{o:Option D}{r:ay}{i:Nat}:(o::r:ay)[i+1]?=r[i]?:=ar rfl
def Lv{α:Type}(x:α):VV 0 x=[]:=ar rfl
def Lw{α:Type}(n:Nat)(x:α):VV (n+1) x=x::VV n x:=ar rfl
def ON(i:Nat)(b:B)(d:D):turn pg Φ 0 [i] b d ae=dj pg Φ (ae.set i (Z d)) b:=ar rfl
def Fs(e:E)(c:O)(d:D):elem pg Φ ae e 0 c d=i8 pg Φ (ae++[Z d]) c>>=λb=>if b then ev pg Φ (ae++[Z d]) e>>=λy=>.ok (Z y) else .ok none:=ar rfl
end
end ζ
end
section
def ζ.DNA:=And.intro (And.intro (And.intro (And.intro (And.intro (And.intro (@ζ.F1) (@ζ.F2)) (And.intro (@ζ.tw) (And.intro (@ζ.F0) (@ζ.xW)))) (And.intro (And.intro (@ζ.FQ) (And.intro (@ζ.FX) (@ζ.tv))) (And.intro (@ζ.o9) (And.intro (@ζ.xV) (@ζ.FZ))))) (And.intro (And.intro (And.intro (@ζ.FR) (@ζ.FY)) (And.intro (@ζ.xY) (And.intro (@ζ.FU) (@ζ.uI)))) (And.intro (And.intro (@ζ.tr) (And.intro (@ζ.xS) (@ζ.FO))) (And.intro (@ζ.FP) (And.intro (@ζ.FK) (@ζ.FL)))))) (And.intro (And.intro (And.intro (And.intro (@ζ.tu) (@ζ.FN)) (And.intro (@ζ.DB) (And.intro (@ζ.wG) (@ζ.ME)))) (And.intro (And.intro (@ζ.MD) (And.intro (@ζ.DS) (@ζ.wt))) (And.intro (@ζ.Dc) (And.intro (@ζ.x2) (@ζ.x1))))) (And.intro (And.intro (And.intro (@ζ.Bm) (@ζ.qF)) (And.intro (@ζ.x3) (And.intro (@ζ.F7) (@ζ.sG)))) (And.intro (And.intro (@ζ.Gg) (And.intro (@ζ.Gh) (@ζ.II))) (And.intro (@ζ.Gd) (And.intro (@ζ.Hj) (@ζ.Hi))))))) (And.intro (And.intro (And.intro (And.intro (And.intro (@ζ.Gb) (@ζ.LJ)) (And.intro (@ζ.LK) (And.intro (@ζ.o6) (@ζ.KV)))) (And.intro (And.intro (@ζ.KX) (And.intro (@ζ.KY) (@ζ.KS))) (And.intro (@ζ.KU) (And.intro (@ζ.ug) (@ζ.y8))))) (And.intro (And.intro (And.intro (@ζ.sY) (@ζ.sZ)) (And.intro (@ζ.xh) (And.intro (@ζ.cmp_gt) (@ζ.EF)))) (And.intro (And.intro (@ζ.EH) (And.intro (@ζ.EG) (@ζ.IL))) (And.intro (@ζ.zX) (And.intro (@ζ.xM) (@ζ.add_int)))))) (And.intro (And.intro (And.intro (And.intro (@ζ.sub_int) (@ζ.qK)) (And.intro (@ζ.BE) (And.intro (@ζ.MH) (@ζ.MJ)))) (And.intro (And.intro (@ζ.GN) (And.intro (@ζ.GU) (@ζ.Lv))) (And.intro (@ζ.Lw) (And.intro (@ζ.ON) (@ζ.Fs))))) (And.intro (And.intro (And.intro (@ζ.R.eX) (And.intro (@ζ.R.Gk) (@XZ.{0}))) (And.intro (@WV.{0}) (And.intro (@VX.{0}) (@Wb.{0})))) (And.intro (And.intro (@Sf) (And.intro (@Q3.{1}) (@RA))) (And.intro (@Vj) (And.intro (@PZ) (@Qs.{1})))))))
end
local macro_rules | `(tactic| simp![$xs,*] $[$l]?) => `(tactic| simp only [ζ.DNA, Nat.reduceAdd, $xs,*] $[$l]?)
local macro_rules | `(tactic| simp! $[$l:location]?) => `(tactic| simp only [ζ.DNA, Nat.reduceAdd] $[$l]?)
section
namespace aH
open ζ
theorem xk:∀{ds:List D},(∀d∈ds,f d=.ok (g d))->bx f ds=.ok (ds.filterMap g)
 |[],_=>rfl
 |d::ds,h=>by
  have a:=h d VE;have h2:=xk (f:=f) (g:=g) (ds:=ds) λx b=>h x (VJ _ b)
  unfold bx;rw[a];simp only[R.eX];rw[h2];simp only[R.eX,Wz];cases g d<;>rfl
theorem sC{α:Type}(p):∀xs:List α,fM (xs.map λx=>.ag (p x))=Z (xs.map p)
 |[]=>rfl
 |x::xs=>by simp only[VP,fM,sC p xs,WB]
def C4{α:Type}(p)(xs:List α):iW (xs.map λx=>.ag (p x))=.ok (xs.all p):=by
 unfold iW;rw[sC];simp only[WY];rfl
def De{α:Type}(p)(xs:List α):iX (xs.map λx=>.ag (p x))=.ok (xs.any p):=by
 unfold iX;rw[sC];simp only[Zn];rfl
theorem ym{α:Type}{f:α->D}(I:List α->ay->Prop)(all):∀(xs pre:List α)(a:ay),all=pre++xs->I pre a ->
  (∀pre x post a,all=pre++x::post->I pre a->∃b,g (f x) a=.ok (.aN b)/\I (pre++[x]) b)->∃b,forL g (xs.map f) a=.ok (.aN b)/\I all b
 |[],pre,a,e,h,_=>⟨a,rfl,by rw[e];simpa using h⟩
 |x::xs,pre,a,e,h,c=>by
  obtain⟨j,e1,d⟩:=c pre x xs a e h;obtain⟨k,e2,i⟩:=ym I all xs (pre++[x]) j (by rw[e];simp) d c;refine⟨k,?_,i⟩;simp only[VP,forL,e1,R.eX];exact e2
def fh{α:Type}{f:α->D}(I:List α->ay->Prop)(xs)(a)(h:I [] a)(b:∀pre x post a,xs=pre++x::post->I pre a->∃ov,g (f x) a=.ok (.aN ov)/\I (pre++[x]) ov):∃ov,forL g (xs.map f) a=.ok (.aN ov)/\I xs ov :=
 ym I xs xs [] a rfl h b
abbrev af(c:List Int):D:=.tup (c.map .int)
theorem tn:∀a b:List Int,hr (a.map .int) (b.map .int)=decide (a=b)
 |[],[]=>rfl
 |[],_::_=>rfl
 |_::_,[]=>rfl
 |x::a,y::b=>by
  show(x==y&&hr (a.map .int) (b.map .int))=_;rw[tn a b]
  by_cases c:x=y
  .subst c;by_cases h2:a=b<;>simp[h2]
  .simp[c]
def m9(a b):eS (af a) (af b)=decide (a=b):=tn a b
theorem xI:∀a b:List (List Int),hr (a.map af) (b.map af)=decide (a=b)
 |[],[]=>rfl
 |[],_::_=>rfl
 |_::_,[]=>rfl
 |x::a,y::b=>by
  show(eS (af x) (af y)&&hr (a.map af) (b.map af))=_;rw[m9,xI a b]
  by_cases c:x=y
  .subst c;by_cases h2:a=b<;>simp[h2]
  .simp[c]
abbrev lexLt:List Int->List Int->Bool
 |[],[]=>VF
 |[],_::_=>J
 |_::_,[]=>VF
 |x::xs,y::ys=>if x=y then lexLt xs ys else decide (x<y)
theorem nE:∀a b:List Int,hD (a.map .int) (b.map .int)=Z (lexLt a b)
 |[],[]=>rfl
 |[],_::_=>rfl
 |_::_,[]=>rfl
 |x::a,y::b=>by
  show(if (x==y)=J then hD (a.map .int) (b.map .int) else Z (decide (x<y)))=Z (if x=y then lexLt a b else decide (x<y));rw[nE a b]
  by_cases h:x=y<;>simp[h]
def nD(a b):hC (af a) (af b)=Z (lexLt a b):=nE a b
def I3(x)(xs:List Int):memD (.int x) (xs.map .int)=decide (x∈xs):=by
 unfold memD
 induction xs with
 |nil=>simp
 |cons y ys a =>
  rw[VP,WD,a];show(y==x||_)=_
  by_cases h:y=x
  .subst h;simp
  .have:¬x=y:=λe=>h e.symm
   simp[h,this]
theorem uj:∀a:List Int,lexLt a a=VF
 |[]=>rfl
 |x::a=>by simp[lexLt,uj a]
theorem uk:∀{a b c:List Int},lexLt a b=J->lexLt b c=J->lexLt a c=J
 |[],[],_,h,_=>by simp[lexLt]at h
 |[],_::_,[],_,h=>by simp[lexLt]at h
 |[],_::_,_::_,_,_=>rfl
 |_::_,[],_,h,_=>by simp[lexLt]at h
 |_::_,_::_,[],_,h=>by simp[lexLt]at h
 |x::a,y::b,z::c,d,h2=>by
  simp only[lexLt]at *
  split at d<;>split at h2
  .rename_i e1 e2;subst e1;subst e2;rw[if_pos rfl];exact uk d h2
  .rename_i e1 e2;subst e1;rw[if_neg e2];exact h2
  .rename_i e1 e2;subst e2;rw[if_neg e1];exact d
  .rename_i e1 e2;simp only[Qn]at d h2;rw[if_neg ⋯];simp;lia
theorem ui:∀a b:List Int,a≠b->lexLt a b=J\/lexLt b a=J
 |[],[],h=>absurd rfl h
 |[],_::_,_=>.inl rfl
 |_::_,[],_=>.inr rfl
 |x::a,y::b,h=>by
  simp only[lexLt]
  by_cases e:x=y
  .subst e;have h':a≠b:=λe=>h (by rw[e])
   simpa using ui a b h'
  .have c:¬y=x:=λz=>e z.symm
   rw[if_neg e,if_neg c];simp only[Qn];lia
section
variable{α:Type}
abbrev ins(lt:α->α->Bool)(x:α):List α->List α
 |[]=>[x]
 |y::ys=>if lt y x=J then y::ins lt x ys else x::y::ys
def bz(lt:α->α->Bool):List α->List α
 |[]=>[]
 |x::xs=>ins lt x (bz lt xs)
abbrev b4[DecidableEq α]:List α->List α
 |[]=>[]
 |x::xs=>if x∈xs then b4 xs else x::b4 xs
variable{lt:α->α->Bool}
theorem yM(h:∀a b,hC (f a) (f b)=Z (lt a b))(x):∀ys:List α,lH (f x) (ys.map f)=(ins lt x ys).map f
 |[]=>rfl
 |y::ys=>by
  simp only[VP,lH,ins,h,Q9]
  split
  .simp[yM h x ys]
  .rfl
theorem mg(h:∀a b,hC (f a) (f b)=Z (lt a b)):∀xs:List α,fH (xs.map f)=(bz lt xs).map f
 |[]=>rfl
 |x::xs=>by simp only[VP,fH,bz,mg h xs,yM h]
theorem td[DecidableEq α](h:∀a b,eS (f a) (f b)=decide (a=b)):∀xs:List α,h9 (xs.map f)=(b4 xs).map f
 |[]=>rfl
 |x::xs=>by
  have e:(xs.map f).any (eS (f x))=decide (x∈xs):=by
   rw[Zn]
   induction xs with
   |nil=>simp
   |cons y ys c=>simp only[WD,c,XO,h,P1];by_cases q:x=y<;>simp[q]
  simp only[VP,h9,b4,e,td h xs,Qn]
  split<;>rfl
theorem qc(x z):∀ys:List α,z∈ins lt x ys<->z=x\/z∈ys
 |[]=>by simp[ins]
 |y::ys=>by
  unfold ins
  split
  .simp only[P1,qc x z ys];constructor
   .rintro(h|h|h)
    .exact .inr (.inl h)
    .exact .inl h
    .exact .inr (.inr h)
   .rintro(h|h|h)
    .exact .inr (.inl h)
    .exact .inl h
    .exact .inr (.inr h)
  .simp
theorem jr(z):∀xs:List α,z∈bz lt xs<->z∈xs
 |[]=>by simp[bz]
 |x::xs=>by unfold bz;rw[qc,jr z xs];simp
theorem y7(x):∀ys:List α,(ins lt x ys).length=ys.length+1
 |[]=>rfl
 |y::ys=>by unfold ins;split<;>simp[y7 x ys]
theorem nA:∀xs:List α,(bz lt xs).length=xs.length
 |[]=>rfl
 |x::xs=>by unfold bz;rw[y7,nA xs];simp
theorem iq[DecidableEq α](z):∀xs:List α,z∈b4 xs<->z∈xs
 |[]=>by simp[b4]
 |x::xs=>by
  unfold b4
  split
  .rename_i h;rw[iq z xs,P1];exact⟨.inr,λq=>q.elim (λe=>e▸h) id⟩
  .simp[iq z xs]
theorem lS[DecidableEq α]:∀xs:List α,(b4 xs).Nodup
 |[]=>Tt
 |x::xs=>by
  unfold b4
  split
  .exact lS xs
  .rename_i h;exact QR.mpr ⟨λq=>h ((iq x xs).mp q),lS xs⟩
structure eM(lt:α->α->Bool):Prop where
 dY:∀a,lt a a=VF
 cM:∀{a b c},lt a b=J->lt b c=J->lt a c=J
 conn:∀a b,a≠b->lt a b=J\/lt b a=J
def cq(lt:α->α->Bool)(xs:List α):Prop:=xs.Pairwise λa b=>lt a b=J
theorem wI(L:eM lt)(x):∀{ys:List α},cq lt ys->x∉ys->cq lt (ins lt x ys)
 |[],_,_=>RF _ _
 |y::ys,h,b=>by
  obtain⟨a,h2⟩:=Qv.mp h;have d:x≠y:=λe=>b (by simp[e])
  unfold ins
  split
  .rename_i q;refine Qv.mpr ⟨λz hz=>?_,wI L x h2 λq=>b (VJ _ q)⟩;rcases(qc x z ys).mp hz with e|e
   .subst e;exact q
   .exact a z e
  .rename_i q;have c:lt x y=true:=(L.conn x y d).resolve_right q;refine Qv.mpr ⟨λz hz=>?_,h⟩;rcases P1.mp hz with e|e
   .subst e;exact c
   .exact L.cM c (a z e)
theorem k7(L:eM lt):∀{xs:List α},xs.Nodup->cq lt (bz lt xs)
 |[],_=>XI
 |x::xs,h=>wI L x (k7 L (QR.mp h).2) λq=>(QR.mp h).1 ((jr x xs).mp q)
def cq.nodup(L:eM lt)(h:cq lt xs):xs.Nodup:=Sg (λ{a b} q e=>by subst e;rw[L.dY]at q;cases q) h
theorem j5(L:eM lt):∀{xs ys:List α},cq lt xs->cq lt ys->(∀z,z∈xs<->z∈ys)->xs=ys
 |[],[],_,_,_=>rfl
 |[],y::_,_,_,h=>absurd ((h y).mpr VE) (by simp)
 |x::_,[],_,_,h=>absurd ((h x).mp VE) (by simp)
 |x::xs,y::ys,g,i,h=>by
  obtain⟨d,l⟩:=Qv.mp g;obtain⟨f,m⟩:=Qv.mp i;have e:x=y:=by
   rcases P1.mp ((h x).mp VE) with e|e
   .exact e
   .rcases P1.mp ((h y).mpr VE) with c|c
    .exact c.symm
    .have a:=f x e;have b:=d y c;have:=L.cM a b;rw[L.dY]at this;cases this
  subst e;have j:x∉xs:=λq=>by have:=d x q;rw[L.dY]at this;cases this
  have k:x∉ys:=λq=>by have:=f x q;rw[L.dY]at this;cases this
  rw[j5 L l m λz=>?_];constructor
  .intro hz;rcases P1.mp ((h z).mp (VJ _ hz)) with e|e
   .subst e;exact absurd hz j
   .exact e
  .intro hz;rcases P1.mp ((h z).mpr (VJ _ hz)) with e|e
   .subst e;exact absurd hz k
   .exact e
def Nd(L:eM lt)(h:cq lt xs):bz lt xs=xs:=j5 L (k7 L (h.nodup L)) h λz=>jr z xs
theorem tf[DecidableEq α]:∀xs:List α,(b4 xs).length<=xs.length
 |[]=>P0 _
 |x::xs=>by unfold b4;have:=tf xs;split<;>simp<;>lia
theorem iu[DecidableEq α]:∀{xs ys:List α},xs.Nodup->(∀z∈xs,z∈ys)->xs.length<=ys.length
 |[],_,_,_=>Qa _
 |x::xs,ys,h,a=>by
  obtain⟨c,h2⟩:=QR.mp h;have b:=a x VE;have:=iu (xs:=xs) (ys:=ys.erase x) h2 λz hz=>by
   have d:z≠x:=λe=>c (e▸hz)
   exact(YG d).mpr (a z (VJ _ hz))
  rw[Te b]at this;have f:0<ys.length:=Yf b;simp only[VX];lia
end
def il:eM lexLt:=⟨uj,uk,ui⟩
abbrev ltI(a b:Int):Bool:=decide (a<b)
def ip:eM ltI:=⟨λa=>by simp[ltI],λc h2=>by simp[ltI]at *;lia,λa b h=>by simp[ltI];lia⟩
def zw(a:List Int):(a.map D.int).all (dP 0)=true:=by simp[WY,dP]
def tb{cs:List (List Int)}(b:∀c∈cs,c≠[]):(cs.map af).all ig=true:=by
 rw[WY,Qr];intro c a;cases c with
 |nil=>exact absurd rfl (b [] a)
 |cons x c=>show(dP 0 (.int x)&&(c.map D.int).all (dP 0))=J;rw[zw];rfl
def M7(h:cs.length<=255):sorted (cs.map .int)=.ok (.lst ((bz ltI cs).map .int)):=by
 unfold sorted jq;rw[zw];simp[mg (f:=D.int) (lt:=ltI) λa b=>rfl,h]
def vq(a:∀c∈cs,c≠[])(h:(b4 cs).length<=255):d8 (cs.map af)=.ok (.lst ((bz lexLt (b4 cs)).map af)):=by
 unfold d8;rw[tb a,td m9,mg (lt:=lexLt) nD];simp[h]
def n8(n)(i):bL n (.int i)=true:=by cases n<;>rfl
def vg(n)(c:List Int):(c.map D.int).all (bL n)=true:=by simp[WY,n8]
def vf(n)(c):bL (n+1) (af c)=true:=vg n c
def Bx(n)(cs:List (List Int)):(cs.map af).all (bL (n+1))=true:=by simp[WY,vf]
def zA(x)(c:List Int):gi (.int x) (c.map .int)=.ok (decide (x∈c)):=by
 unfold gi;rw[n8,vg,I3];rfl
def xK(a b):dG (af a) (af b)=.ok (decide (a=b)):=by unfold dG;rw[vf,vf,m9];rfl
def xN(a b:List Int):dG (.lst (a.map .int)) (.lst (b.map .int))=.ok (decide (a=b)):=by
 have h:∀a:List Int,bL 60 (.lst (a.map .int))=true:=λa=>vg 59 a
 unfold dG;rw[h,h];exact Rc R.ok (tn a b)
def xO(h:ys.all (bL 59)=J):dG (.lst ys) (.lst [])=.ok ys.isEmpty:=by
 have a:bL 60 (.lst ys)=true:=h;have h2:bL 60 (.lst [])=true:=rfl;unfold dG;rw[a,h2];cases ys<;>rfl
def FE(h:ys.all (bL 59)=J):dG (.tup ys) (.tup [])=.ok ys.isEmpty:=by
 have a:bL 60 (.tup ys)=true:=h;have h2:bL 60 (.tup [])=true:=rfl;unfold dG;rw[a,h2];cases ys<;>rfl
section
variable{α:Type}{lt:α->α->Bool}
def k4(lt:α->α->Bool)(xs:List α):Prop:=xs.Pairwise λa b=>lt b a=VF
theorem nT(x):∀ys:List α,(ins lt x ys).Perm (x::ys)
 |[]=>Um _
 |y::ys=>by
  unfold ins
  split
  .exact(YH y (nT x ys)).trans (Xl x y ys)
  .exact Um _
theorem qq:∀xs:List α,(bz lt xs).Perm xs
 |[]=>Um _
 |x::xs=>(nT x (bz lt xs)).trans (YH x (qq xs))
def zl(L:eM lt){a b:α}(h:lt a b=J):lt b a=false:=by
 cases q:lt b a with
 |false=>rfl
 |true=>have:=L.cM h q;rw[L.dY]at this;cases this
def zk(L:eM lt){a b c:α}(d:lt b a=VF)(h2:lt c b=VF):lt c a=false:=by
 cases q:lt c a with
 |false=>rfl
 |true =>
  by_cases e:a=b
  .subst e;rw[h2]at q;cases q
  .rcases L.conn a b e with w|w
   .have:=L.cM q w;rw[h2]at this;cases this
   .rw[d]at w;cases w
theorem CH(L:eM lt)(x):∀{ys:List α},k4 lt ys->k4 lt (ins lt x ys)
 |[],_=>RF _ _
 |y::ys,h=>by
  obtain⟨a,h2⟩:=Qv.mp h;unfold ins
  split
  .rename_i c;refine Qv.mpr ⟨λz hz=>?_,CH L x h2⟩;rcases(qc x z ys).mp hz with rfl|hz
   .exact zl L c
   .exact a z hz
  .rename_i c;refine Qv.mpr ⟨λz hz=>?_,h⟩;have c:lt y x=false:=⇑c;rcases P1.mp hz with rfl|hz
   .exact c
   .exact zk L c (a z hz)
theorem CI(L:eM lt):∀xs:List α,k4 lt (bz lt xs)
 |[]=>.nil
 |x::xs=>CH L x (CI L xs)
theorem CJ(L:eM lt):∀{xs ys:List α},k4 lt xs->k4 lt ys->xs.Perm ys->xs=ys
 |[],ys,_,_,p=>(List.Perm.nil_eq p)
 |x::xs,[],_,_,p=>by have:=p.length_eq;simp at this
 |x::xs,y::ys,b,d,p=>by
  obtain⟨g,h⟩:=Qv.mp b;obtain⟨i,j⟩:=Qv.mp d;have e:x=y:=by
   apply R8;intro a;have c:y∈xs:=by
    rcases P1.mp (p.mem_iff.mpr VE) with q|q
    .exact absurd q.symm a
    .exact q
   have f:x∈ys:=by
    rcases P1.mp (p.mem_iff.mp VE) with q|q
    .exact absurd q a
    .exact q
   rcases L.conn x y a with w|w
   .rw[i x f]at w;cases w
   .rw[g y c]at w;cases w
  subst e;rw[CJ L h j (List.Perm.cons_inv p)]
end
end aH
end
section
namespace dc
def xor_swap(x y a:Nat):(x ^^^ a) ^^^ y=(x ^^^ y) ^^^ a:=by rw[Ro,U7 a y,<- Ro]
def Pt(x y a:Nat):(x ^^^ a) ^^^ (y ^^^ a)=x ^^^ y:=by rw[xor_swap,<- Ro,Ro,Sh,S4]
def hU(x a:Nat):(x ^^^ a) ^^^ a=x:=by rw[Ro,Sh,S4]
abbrev sp:List Nat->Nat->Prop
 |[],x=>x=0
 |a::L,x=>sp L x\/sp L (x ^^^ a)
theorem oa:∀L,sp L 0
 |[]=>rfl
 |_::L=>.inl (oa L)
theorem gk:∀{L:List Nat}{x y:Nat},sp L x->sp L y->sp L (x ^^^ y)
 |[],x,y,b,h2=>by cases b;cases h2;rfl
 |a::L,x,y,b,h2=>by
  rcases b with b|b<;>rcases h2 with h2|h2
  .exact .inl (gk b h2)
  .exact .inr (by rw[Ro];exact gk b h2)
  .exact .inr (by rw[<- xor_swap];exact gk b h2)
  .exact .inl (by rw[<- Pt x y a];exact gk b h2)
theorem dH:∀{L:List Nat}{a:Nat},a∈L->sp L a
 |b::L,a,h=>by
  rcases P1.mp h with rfl|h
  .exact .inr (by rw[Sh];exact oa L)
  .exact .inl (dH h)
theorem d1:∀{L:List Nat}{x:Nat},(∀a∈L,sp M a)->sp L x->sp M x
 |[],x,_,h=>by cases h;exact oa M
 |a::L,x,d,h=>by
  have c:∀b∈L,sp M b:=λb e=>d b (VJ _ e)
  rcases h with h|h
  .exact d1 c h
  .have:=gk (d1 c h) (d a VE);rwa[hU]at this
theorem qN:∀{L:List Nat}{x:Nat},(∀a∈L,a.testBit k=VF)->sp L x->x.testBit k=VF
 |[],x,_,h=>by cases h;exact Su k
 |a::L,x,d,h=>by
  have c:∀b∈L,b.testBit k=false:=λb e=>d b (VJ _ e)
  rcases h with h|h
  .exact qN c h
  .have:=qN c h;rwa[QS,d a VE,Tu]at this
theorem vn:∀{L:List Nat}{x:Nat},(∀a∈L,a<2 ^ n)->sp L x->x<2 ^ n
 |[],x,_,h=>by cases h;exact T8 n
 |a::L,x,d,h=>by
  have c:∀b∈L,b<2 ^ n:=λb e=>d b (VJ _ e)
  rcases h with h|h
  .exact vn c h
  .have:=R3 (vn c h) (d a VE);rwa[hU]at this
noncomputable abbrev Row:=Nat×Nat
noncomputable abbrev bN:=List (Nat×Row)
abbrev rws(B:bN):List Nat:=B.map λe=>e.2.1
abbrev one(r:Row)(e:Nat×Row):Row:=if r.1.testBit e.1=J then(r.1 ^^^ e.2.1,r.2 ^^^ e.2.2) else r
def red(B:bN)(r:Row):Row:=B.foldl one r
def l8(e)(B:bN)(r):red (e::B) r=red B (one r e):=rfl
structure bO(B:bN):Prop where
 ap:B.Pairwise λe f=>e.2.1.testBit f.1=VF/\f.2.1.testBit e.1=VF
 lo:∀e∈B,e.2.1.testBit e.1=J/\∀j,j<e.1->e.2.1.testBit j=VF
structure iP(B:bN):Prop where
 ap:B.Pairwise λe f=>f.2.1.testBit e.1=VF
 lo:∀e∈B,e.2.1.testBit e.1=J
def iP.tail{B:bN}(h:iP (e::B)):iP B:=⟨(Qv.mp h.ap).2,λf a=>h.lo f (VJ _ a)⟩
def bO.e1(h:bO B):iP B:=⟨h.ap.imp λq=>q.2,λe a=>(h.lo e a).1⟩
theorem bO.nil:bO []:=⟨.nil,λ_ h=>nomatch h⟩
def bO.tail{B:bN}(h:bO (e::B)):bO B:=⟨(Qv.mp h.ap).2,λf a=>h.lo f (VJ _ a)⟩
theorem AO:∀{B:bN}{r:Row},(∀f∈B,f.2.1.testBit k=VF)->(red B r).1.testBit k=r.1.testBit k
 |[],r,_=>rfl
 |e::B,r,h=>by
  rw[l8,AO λf a=>h f (VJ _ a)];unfold one
  split
  .rw[QS,h e VE,Tu]
  .rfl
theorem qw:∀{B:bN}{r:Row},iP B->∀e∈B,(red B r).1.testBit e.1=VF
 |f::B,r,h,e,a=>by
  obtain⟨b,h2⟩:=Qv.mp h.ap;rw[l8];rcases P1.mp a with rfl|a
  .rw[AO λg c=>b g c];unfold one
   split
   .rename_i q;rw[QS,q,h.lo e VE];rfl
   .rename_i q;simpa using q
  .exact qw h.tail e a
theorem qx:∀{B:bN}{r:Row},sp (rws B) (r.1 ^^^ (red B r).1)
 |[],r=>Sh _
 |e::B,r=>by
  have a:=qx (B:=B) (r:=one r e);rw[l8];unfold one at a ⊢
  split
  .rename_i q;rw[if_pos q]at a;exact .inr (by rw[<- xor_swap];exact a)
  .rename_i q;rw[if_neg q]at a;exact .inl a
theorem xG:∀{B:bN}{x:Nat},iP B->sp (rws B) x->(∀e∈B,x.testBit e.1=VF)->x=0
 |[],x,_,h,_=>h
 |e::B,x,h,b,d=>by
  obtain⟨g,h2⟩:=Qv.mp h.ap;rcases b with b|b
  .exact xG h.tail b λf c=>d f (VJ _ c)
  .exfalso;have:=qN (k:=e.1) (λa i=>by obtain⟨f,c,rfl⟩:=VM.mp i;exact g f c) b;rw[QS,d e VE,h.lo e VE]at this;cases this
def AQ(h:iP B):(red B r).1=0<->sp (rws B) r.1:=by
 have a:=qx (B:=B) (r:=r);constructor
 .intro z;rwa[z,S4]at a
 .intro z;have h2:=gk a z;rw[xor_swap,Sh,S5]at h2;exact xG h h2 (qw h)
def n2(h:bO B):(red B r).1=0<->sp (rws B) r.1:=AQ h.e1
theorem um : ∀ {C : bN} {x k : Nat}, bO C -> sp (rws C) x -> x.testBit k = J -> (∀ j, j < k -> x.testBit j = VF) -> ∃ f ∈ C, f.1 = k
  | [], x, k, _, h, e, _ => by cases h; rw [Su] at e; cases e
  | f :: C, x, k, h, d, e, l => by
    obtain ⟨n, h2⟩ := Qv.mp h.ap
    rcases d with d | d
    · obtain ⟨g, a, b⟩ := um h.tail d e l
      exact ⟨g, VJ _ a, b⟩
    · have i := qN (k := f.1) (fun a o => by obtain ⟨g, p, rfl⟩ := VM.mp o; exact (n g p).2) d
      obtain ⟨l1, l2⟩ := h.lo f VE
      rw [QS, l1] at i
      have m : x.testBit f.1 = true := by cases q : x.testBit f.1 <;> rw [q] at i <;> first | rfl | cases i
      by_cases c : f.1 = k
      · exact ⟨f, VE, c⟩
      · have r : k < f.1 := by
          rcases UH k f.1 with q | q | q
          · exact q
          · exact absurd q.symm c
          · rw [l f.1 q] at m; cases m
        obtain ⟨g, a, b⟩ := um h.tail d (k := k) (by rw [QS, e, l2 k r]; rfl) fun j q => by rw [QS, l j q, l2 j ⋯]; rfl
        exact ⟨g, VJ _ a, b⟩
def m8(h:bO B):(B.map (·.1)).Nodup:=by
 rw[R4,QT];refine QN (λ{e f} b a q z=>?_) h.ap;have:=(h.lo f a).1;rw[<- z,q.2]at this;cases this
def o5(a:bO B)(c:bO C)(h:∀x,sp (rws B) x->sp (rws C) x):B.length<=C.length:=by
 have:=aH.iu (m8 a) (ys:=C.map (·.1)) λz hz=>by
  obtain⟨e,b,rfl⟩:=VM.mp hz;obtain⟨f,d,q⟩:=um c (h _ (dH (VM.mpr ⟨e,b,rfl⟩))) (a.lo e b).1 (a.lo e b).2;exact VM.mpr ⟨f,d,q⟩
 simpa using this
abbrev lL:Nat->Nat->Nat
 |0,_=>0
 |f+1,n=>if n%2=1 then 0 else lL f (n / 2)+1
def lo(n:Nat):Nat:=lL n n
theorem zp : ∀ (f n : Nat), 0 < n -> n <= f -> n.testBit (lL f n) = J /\ (∀ j, j < lL f n -> n.testBit j = VF) /\ n - (n &&& (n - 1)) = 2 ^ lL f n /\ (n &&& (n - 1)) <= n
  | 0, n, h, h2 => by lia
  | f + 1, n, h, h2 => by
    rw [lL]
    by_cases c : n % 2 = 1
    · rw [if_pos c]
      refine ⟨by rw [TP]; simp [c], fun j b => absurd b (W5 j), ?_, Z2⟩
      have e2 : (n &&& (n - 1)) % 2 = 0 := by
        rcases Qg (n &&& (n - 1)) with q | q
        · exact q
        · have := (Sy.mp q).2; lia
      have a := SK n 2
      rw [c] at a
      generalize n / 2 = q at a
      subst a
      rw [R5] at e2 ⊢
      have e1 : ((2 * q + 1) &&& 2 * q) / 2 = q := by rw [T9, Nat.mul_div_cancel_left q ∅, Z3 ∅, U8, Nat.and_self]
      have hw := SK ((2 * q + 1) &&& 2 * q) 2
      rw [e1, e2] at hw
      rw [<- hw]
      exact Q7 ..
    · rw [if_neg c]
      have d : n % 2 = 0 := by lia
      have a := SK n 2
      rw [d, U8] at a
      obtain ⟨e, g, i, k⟩ := zp f (n / 2) ⋯ ⋯
      refine ⟨by rw [TQ]; exact e, fun j b => ?_, ?_, Z2⟩
      · cases j with
        | zero => rw [TP]; simp [c]
        | succ j => rw [TQ]; exact g j (Nat.lt_of_succ_lt_succ b)
      · have e2 : (n &&& (n - 1)) % 2 = 0 := by
          rcases Qg (n &&& (n - 1)) with q | q
          · exact q
          · exact absurd (Sy.mp q).1 c
        have e1 : (n &&& (n - 1)) / 2 = n / 2 &&& (n / 2 - 1) := by
          rw [T9]
          congr 1
          generalize n / 2 = q at a
          subst a
          cases q with
          | zero => exact absurd h ∅
          | succ p => rw [show 2 * (p + 1) - 1 = 2 * p + 1 from rfl, Z3 ∅]; rfl
        have hw := SK (n &&& (n - 1)) 2
        rw [e1, e2, U8] at hw
        rw [W3, <- hw]
        conv => lhs; lhs; rw [<- a]
        rw [<- Nat.mul_sub, i, Nat.mul_comm]
def zo(n)(h:0<n):n.testBit (lo n)=J/\(∀j,j<lo n->n.testBit j=VF)/\n-(n &&& (n-1))=2 ^ lo n/\(n &&& (n-1))<=n:=zp n n h (P0 _)
def grow(B:bN)(r:Row):bN:=if (red B r).1=0 then B else B.map (λe=>(e.1,one e.2 (lo (red B r).1,red B r)))++[(lo (red B r).1,red B r)]
def lE (h : bO B) (r) : bO (grow B r) := by
  unfold grow
  split
  · exact h
  · rename_i o
    have c := qw (r := r) h.e1
    generalize red B r = l at o c
    obtain ⟨l1, l2, -, -⟩ := zo l.1 ⋯
    generalize lo l.1 = k at l1 l2
    have g : ∀ (e : Nat × Row) j, (one e.2 (k, l)).1.testBit j = (e.2.1.testBit j ^^ (e.2.1.testBit k && l.1.testBit j)) := fun e j => by
      unfold one
      by_cases q : e.2.1.testBit k = J
      · rw [if_pos q, QS, q, XP]
      · rw [if_neg q]
        have q : e.2.1.testBit k = false := by simpa using q
        rw [q, Tq, Tu]
    refine ⟨Qe.mpr ⟨?_, RF _ _, fun e b f i => ?_⟩, fun e b => ?_⟩
    · rw [QT]
      refine QN (fun {e f} b i q => ?_) h.ap
      dsimp only
      rw [g, g, q.1, q.2, c e b, c f i, WH, WH]
      exact ⟨rfl, rfl⟩
    · obtain ⟨a, d, rfl⟩ := VM.mp b
      obtain rfl := Qo.mp i
      dsimp only
      rw [g, l1, c a d, Bool.and_true, Bool.xor_self]
      exact ⟨rfl, rfl⟩
    · rcases P8.mp b with b | b
      · obtain ⟨a, d, rfl⟩ := VM.mp b
        dsimp only
        obtain ⟨p, m⟩ := h.lo a d
        refine ⟨by rw [g, p, c a d, WH]; rfl, fun j n => ?_⟩
        rw [g, m j n]
        by_cases q : a.2.1.testBit k = J
        · have : a.1 < k := by
            rcases UH a.1 k with w | w | w
            · exact w
            · have := c a d; rw [w, l1] at this; cases this
            · rw [m k w] at q; cases q
          rw [l2 j ⋯, WH]; rfl
        · have q : a.2.1.testBit k = false := by simpa using q
          rw [q]; rfl
      · obtain rfl := Qo.mp b
        exact ⟨l1, l2⟩
def tP(h:bO B)(r)(x):sp (rws (grow B r)) x<->sp (r.1::rws B) x:=by
 have h0:=qx (B:=B) (r:=r);unfold grow
 split
 .rename_i z;rw[z,S4]at h0;exact⟨.inl,d1 λa b=>by rcases P1.mp b with rfl|b;exact h0;exact dH b⟩
 .generalize red B r=l at h0;generalize lo l.1=k;have j:∀{M:List Nat},sp M l.1->(∀e∈B,sp M (one e.2 (k,l)).1)->∀a∈rws B,sp M a:=λ{M} f h2 a b=>by
   obtain⟨e,c,rfl⟩:=VM.mp b;have:=h2 e c;unfold one at this
   split at this
   .have:=gk this f;rwa[hU]at this
   .exact this
  constructor
  .refine d1 λa b=>?_
   have d:sp (r.1::rws B) l.1:=by
    have f:sp (r.1::rws B) (r.1 ^^^ l.1):=.inl h0;have:=gk f (dH (L:=r.1::rws B) VE);rwa[xor_swap,Sh,S5]at this
   unfold rws at b;rw[VT,VR]at b;rcases P8.mp b with b|b
   .obtain⟨e,c,rfl⟩:=VM.mp b;have i:sp (r.1::rws B) e.2.1:=.inl (dH (VM.mpr ⟨e,c,rfl⟩));show sp _ (one e.2 (k,l)).1;unfold one
    split
    .exact gk i d
    .exact i
   .obtain rfl:a=l.1:=⇑b;exact d
  .have d:sp (rws (B.map (λe=>(e.1,one e.2 (k,l)))++[(k,l)])) l.1:=dH (by unfold rws;simp);have g:=j d λe c=>dH (by unfold rws;rw[VT,VR];exact VZ _ (VM.mpr ⟨e,c,rfl⟩))
   refine d1 λa b=>?_
   rcases P1.mp b with rfl|b
   .have:=gk (d1 g h0) d;rwa[hU]at this
   .exact g a b
def lF(B)(r):(grow B r).length=B.length+if (red B r).1=0 then 0 else 1:=by
 unfold grow
 split<;>simp
def bK(B:bN)(rs:List Row):bN:=rs.foldl grow B
theorem gg:∀{rs:List Row}{B:bN},bO B->bO (bK B rs)
 |[],_,h=>h
 |r::rs,_,h=>gg (rs:=rs) (lE h r)
theorem nj:∀{rs:List Row}{B:bN},bO B->∀x,sp (rws (bK B rs)) x<->sp (rs.map (·.1)++rws B) x
 |[],_,h,x=>Iff.rfl
 |r::rs,B,h,x=>by
  show sp (rws (bK (grow B r) rs)) x<->_;rw[nj (lE h r) x];have g:=tP h r;constructor
  .refine d1 λa d=>?_
   rcases P8.mp d with d|d
   .exact dH (by rw[VP];exact VJ _ (VZ _ d))
   .refine d1 (λb e=>?_) ((g a).mp (dH d));refine dH ?_;rw[VP];rcases P1.mp e with rfl|e
    .exact VE
    .exact VJ _ (Qd _ e)
  .refine d1 λa d=>?_
   have f:∀b,b∈r.1::rws B->sp (rs.map (·.1)++rws (grow B r)) b:=λb e=>d1 (λc i=>dH (Qd _ i)) ((g b).mpr (dH e))
   rw[VP,XZ]at d;rcases P1.mp d with rfl|d
   .exact f _ VE
   .rcases P8.mp d with d|d
    .exact dH (VZ _ d)
    .exact f a (VJ _ d)
end dc
end
section
namespace dc
abbrev bd:List Nat->Nat->Nat
 |[],_=>0
 |a::as,z=>(if z%2=1 then a else 0) ^^^ bd as (z / 2)
def Pp(a b c d:Nat):(a ^^^ b) ^^^ (c ^^^ d)=(a ^^^ c) ^^^ (b ^^^ d):=by rw[Ro,<- Ro b c d,U7 b c,Ro c b d,<- Ro]
theorem iZ:∀(as:List Nat)(x y:Nat),bd as (x ^^^ y)=bd as x ^^^ bd as y
 |[],_,_=>(Sh 0).symm
 |a::as,x,y=>by
  show(if (x ^^^ y)%2=1 then a else 0) ^^^ bd as ((x ^^^ y) / 2)=((if x%2=1 then a else 0) ^^^ bd as (x / 2)) ^^^ ((if y%2=1 then a else 0) ^^^ bd as (y / 2));rw[Vd,iZ as,Pp];congr 1;have:=@Tv x y
  by_cases b:x%2=1<;>by_cases h2:y%2=1<;>simp[b,h2,this]
theorem sv:∀(as:List Nat)(a z:Nat),bd (as++[a]) z=bd as z ^^^ (if z.testBit as.length=J then a else 0)
 |[],a,z=>by
  show(if z%2=1 then a else 0) ^^^ 0=0 ^^^ _;rw[S4,S5,Wb,TP];simp
 |b::as,a,z=>by
  show(if z%2=1 then b else 0) ^^^ bd (as++[a]) (z / 2)=((if z%2=1 then b else 0) ^^^ bd as (z / 2)) ^^^ _;rw[sv as a,VX,TQ,Ro]
theorem wM:∀(as:List Nat)(z:Nat),(∀j,j<as.length->z.testBit j=VF)->bd as z=0
 |[],_,_=>rfl
 |a::as,z,h=>by
  have h0:=h 0 (by simp);rw[TP]at h0;show(if z%2=1 then a else 0) ^^^ bd as (z / 2)=0;rw[if_neg ⇑h0,wM as (z / 2) λj b=>by rw[<- TQ];exact h (j+1) ⇑b];rfl
def wO(as)(a):bd (as++[a]) (2 ^ as.length)=a:=by
 rw[sv,wM as _ λj b=>by rw[Sq];simp;lia,Sn,if_pos rfl,S5]
def h7(as)(a)(h:z<2 ^ as.length):bd (as++[a]) z=bd as z:=by
 rw[sv,Rg h];simp
def mY(h:z<2 ^ (n+1)):(z.testBit n=VF/\z<2 ^ n)\/(z.testBit n=J/\∀u,u<2 ^ (n+1)->u.testBit n=J->z ^^^ u<2 ^ n):=by
 have a:∀y,y<2 ^ (n+1)->y.testBit n=VF->y<2 ^ n:=λy e c=>by
  refine Nat.lt_pow_two_of_testBit y λi hi=>?_
  rcases Ug n i with q|q
  .exact Rg (P2 e (Q0 ∅ q))
  .rw[show i=n by lia];exact c
 cases q:z.testBit n with
 |false=>exact .inl ⟨rfl,a z h q⟩
 |true=>exact .inr ⟨rfl,λu d b=>a _ (R3 h d) (by rw[QS,q,b];rfl)⟩
theorem AN:∀{B:bN}{r:Row},(∀e∈B,bd as e.2.2=e.2.1)->bd as r.2=r.1->bd as (red B r).2=(red B r).1
 |[],r,_,h=>h
 |e::B,r,a,h=>by
  rw[l8];refine AN (λf b=>a f (VJ _ b)) ?_;unfold one
  split
  .show bd as (r.2 ^^^ e.2.2)=r.1 ^^^ e.2.1;rw[iZ,h,a e VE]
  .exact h
theorem AP:∀{B:bN}{r:Row},(∀e∈B,e.2.2<2 ^ n)->∃u,u<2 ^ n/\(red B r).2=r.2 ^^^ u
 |[],r,_=>⟨0,T8 n,(S4 _).symm⟩
 |e::B,r,b=>by
  obtain⟨u,a,h2⟩:=AP (B:=B) (r:=one r e) λf c=>b f (VJ _ c)
  rw[l8,h2];unfold one
  split
  .exact⟨e.2.2 ^^^ u,R3 (b e VE) a,by rw[<- Ro]⟩
  .exact⟨u,a,rfl⟩
def step(st:bN×List Nat)(r:Row):bN×List Nat:=(grow st.1 r,if (red st.1 r).1=0 then st.2++[(red st.1 r).2] else st.2)
def c3(rs:List Row):bN×List Nat:=rs.foldl step ([],[])
abbrev cK(as:List Nat):List Row:=as.zipIdx.map λp=>(p.1,2 ^ p.2)
def Jc(as)(a):cK (as++[a])=cK as++[(a,2 ^ as.length)]:=by
 unfold cK;rw[Za,VT];simp
def yI(rs)(r):c3 (rs++[r])=step (c3 rs) r:=by unfold c3;rw[Wc];rfl
abbrev bare(b:Nat):Row:=(b,0)
structure St(as:List Nat)(B:bN)(F:List Nat):Prop where
 i6:bO B
 la:∀e∈B,bd as e.2.2=e.2.1/\e.2.2<2 ^ as.length
 len:B.length+F.length=as.length
 gf:∀b∈F,b<2 ^ as.length
 nul:∀b∈F,bd as b=0
 fin:(bK [] (F.map bare)).length=F.length
 pU:∀z,z<2 ^ as.length->bd as z=0->sp F z
 nu:∀z,z<2 ^ as.length->sp (rws B) (bd as z)
def qM:sp (rws (bK [] (F.map bare))) x<->sp F x:=by
 rw[nj bO.nil,VR];have e:F.map ((λx:Row=>x.1) ∘ bare)=F:=by
  have:((λx:Row=>x.1) ∘ bare)=id:=rfl;rw[this,Si]
 rw[e];show sp (F++[]) x<->_;rw[QQ]
def snoc_ind{P:List Nat->Prop}(h0:P [])(b:∀as a,P as->P (as++[a]))(as):P as:=by
 have d:∀n (as:List Nat),as.length=n->P as:=by
  intro n
  induction n with
  |zero=>intro as h;rw[Sv h];exact h0
  |succ n c =>
   intro as h;rcases SN as with rfl|⟨l,a,rfl⟩
   .cases h
   .rw[SO]at h ⊢;exact b l a (c l ⇑h)
 exact d _ as rfl
def BR (as) : St as (c3 (cK as)).1 (c3 (cK as)).2 := by
  refine snoc_ind (P := fun as => St as (c3 (cK as)).1 (c3 (cK as)).2) ?_ ?_ as
  · show St [] [] []
    refine ⟨bO.nil, (fun _ h => nomatch h), rfl, (fun _ h => nomatch h), (fun _ h => nomatch h), rfl, fun z h _ => ?_, fun _ _ => rfl⟩
    have h : z < 1 := h
    show z = 0
    lia
  · intro as a d
    rw [Jc, yI]
    generalize (c3 (cK as)) = st at d
    obtain ⟨B, F⟩ := st
    dsimp only at d
    unfold step
    dsimp only
    have j : ∀ e ∈ B, bd (as ++ [a]) e.2.2 = e.2.1 := fun e g => by rw [h7 as a (d.la e g).2]; exact (d.la e g).1
    have l1 := AN (r := (a, 2 ^ as.length)) j (wO as a)
    obtain ⟨u, C, l2⟩ := AP (B := B) (r := (a, 2 ^ as.length)) fun e g => (d.la e g).2
    have hz := n2 (r := (a, 2 ^ as.length)) d.i6
    have t := lF B (a, 2 ^ as.length)
    have i : (as ++ [a]).length = as.length + 1 := by simp
    have up : ∀ {z}, z < 2 ^ as.length -> z < 2 ^ (as ++ [a]).length := fun {z} h => by rw [i, W3]; lia
    have D : (2 : Nat) ^ as.length < 2 ^ (as ++ [a]).length := by rw [i]; exact SY ∅ (Rw _)
    have l3 : (red B (a, 2 ^ as.length)).2 < 2 ^ (as ++ [a]).length := by rw [l2]; exact R3 D (up C)
    have l4 : (red B (a, 2 ^ as.length)).2.testBit as.length = true := by
      rw [l2, QS]
      show ((2 ^ as.length).testBit as.length ^^ u.testBit as.length) = J
      rw [Sn, Rg C]; rfl
    have x : ∀ {z}, z < 2 ^ (as ++ [a]).length -> z.testBit as.length = J -> bd (as ++ [a]) z = bd as (z ^^^ 2 ^ as.length) ^^^ a /\ z ^^^ 2 ^ as.length < 2 ^ as.length := fun {z} h q => by
      have A : z ^^^ 2 ^ as.length < 2 ^ as.length := by
        rcases mY (n := as.length) (by rw [<- i]; exact h) with ⟨w, _⟩ | ⟨_, w⟩
        · rw [q] at w; cases w
        · exact w _ (by rw [<- i]; exact D) (Sn)
      refine ⟨?_, A⟩
      rw [<- h7 as a A, iZ, wO, hU]
    have low : ∀ {z}, z < 2 ^ (as ++ [a]).length -> z.testBit as.length = VF -> z < 2 ^ as.length := fun {z} h q => by
      rcases mY (n := as.length) (by rw [<- i]; exact h) with ⟨_, w⟩ | ⟨w, _⟩
      · exact w
      · rw [q] at w; cases w
    generalize y : red B (a, 2 ^ as.length) = l at l1 l2 l3 l4 hz t
    by_cases c : l.1 = 0
    · have v : grow B (a, 2 ^ as.length) = B := by unfold grow; rw [y, if_pos c]
      rw [if_pos c, v]
      refine ⟨d.i6, fun e g => ⟨j e g, up (d.la e g).2⟩, by rw [PY, i]; have := d.len; simp; lia, fun b k => ?_, fun b k => ?_, ?_, fun z h0 o => ?_, fun z h0 => ?_⟩
      · rcases P8.mp k with h | h
        · exact up (d.gf b h)
        · rw [Qo.mp h]; exact l3
      · rcases P8.mp k with h | h
        · rw [h7 as a (d.gf b h)]; exact d.nul b h
        · rw [Qo.mp h, l1, c]
      · rw [VT]
        show (bK [] (F.map bare ++ [bare l.2])).length = _
        unfold bK
        rw [Wc]
        show (grow (bK [] (F.map bare)) (bare l.2)).length = _
        rw [lF, d.fin, PY, if_neg]
        · rfl
        · intro w
          have := vn d.gf (qM.mp ((n2 (gg bO.nil)).mp w))
          have this : l.2 < 2 ^ as.length := this
          rw [Rg this] at l4; cases l4
      · cases q : z.testBit as.length with
        | false =>
          have := d.pU z (low h0 q) (by rw [<- h7 as a (low h0 q)]; exact o)
          exact d1 (fun b j => dH (VZ _ j)) this
        | true =>
          have h2 : z ^^^ l.2 < 2 ^ as.length := by
            rcases mY (n := as.length) (by rw [<- i]; exact h0) with ⟨w, _⟩ | ⟨_, w⟩
            · rw [q] at w; cases w
            · exact w _ (by rw [<- i]; exact l3) l4
          have h3 := d.pU _ h2 (by rw [<- h7 as a h2, iZ, o, l1, c]; rfl)
          have h4 : sp (F ++ [l.2]) (z ^^^ l.2) := d1 (fun b j => dH (VZ _ j)) h3
          have := gk h4 (dH (Qd F VE))
          rwa [hU] at this
      · cases q : z.testBit as.length with
        | false => rw [h7 as a (low h0 q)]; exact d.nu z (low h0 q)
        | true =>
          obtain ⟨m, p⟩ := x h0 q
          rw [m]
          exact gk (d.nu _ p) (hz.mp c)
    · have v : ∀ e ∈ grow B (a, 2 ^ as.length), bd (as ++ [a]) e.2.2 = e.2.1 /\ e.2.2 < 2 ^ (as ++ [a]).length := fun e g => by
        unfold grow at g
        rw [y, if_neg c] at g
        rcases P8.mp g with g | g
        · obtain ⟨f, s, rfl⟩ := VM.mp g
          dsimp only
          unfold one
          split
          · exact ⟨by rw [iZ, j f s, l1], R3 (up (d.la f s).2) l3⟩
          · exact ⟨j f s, up (d.la f s).2⟩
        · rw [Qo.mp g]; exact ⟨l1, l3⟩
      rw [if_neg c]
      rw [if_neg c] at t
      refine ⟨lE d.i6 _, v, by rw [t, i]; have := d.len; lia, fun b k => up (d.gf b k), fun b k => by rw [h7 as a (d.gf b k)]; exact d.nul b k, d.fin, fun z h0 o => ?_, fun z h0 => ?_⟩
      · cases q : z.testBit as.length with
        | false => exact d.pU z (low h0 q) (by rw [<- h7 as a (low h0 q)]; exact o)
        | true =>
          exfalso
          obtain ⟨m, p⟩ := x h0 q
          rw [o] at m
          have : bd as (z ^^^ 2 ^ as.length) = a := by
            have w : 0 ^^^ a = (bd as (z ^^^ 2 ^ as.length) ^^^ a) ^^^ a := Rc (· ^^^ a) m
            rw [hU, S5] at w
            exact w.symm
          exact c (hz.mpr (by have h5 := d.nu _ p; rw [this] at h5; exact h5))
      · rw [tP d.i6]
        cases q : z.testBit as.length with
        | false => rw [h7 as a (low h0 q)]; exact .inl (d.nu z (low h0 q))
        | true =>
          obtain ⟨m, p⟩ := x h0 q
          rw [m]
          exact .inr (by rw [hU]; exact d.nu _ p)
def tell(st:bN×List Nat)(b:Nat):bN×List Nat:=(grow st.1 (bare b),if (red st.1 (bare b)).1=0 then st.2 else st.2++[b])
theorem Cb:∀(F:List Nat)(B:bN)(G:List Nat),(F.foldl tell (B,G)).2.length+B.length=(bK B (F.map bare)).length+G.length
 |[],B,G=>VD _ _
 |b::F,B,G=>by
  show(F.foldl tell (tell (B,G) b)).2.length+B.length=(bK (grow B (bare b)) (F.map bare)).length+G.length;have h:=Cb F (grow B (bare b)) (if (red B (bare b)).1=0 then G else G++[b]);have h2:=lF B (bare b);have a:tell (B,G) b=(grow B (bare b),if (red B (bare b)).1=0 then G else G++[b]):=rfl;rw[a]
  by_cases c:(red B (bare b)).1=0
  .rw[if_pos c]at h h2 ⊢;lia
  .rw[if_neg c]at h h2 ⊢;rw[PY]at h;simp at h;lia
def LG(as)(rs)(h:∀r∈rs,r.1<2 ^ as.length/\bd as r.1=0):
  ((c3 (cK as)).2.foldl tell (bK [] rs,[])).2.length+(bK [] rs).length=(c3 (cK as)).2.length:=by
 have st:=BR as;generalize (c3 (cK as)).2=F at st;rw[Cb];have e1:=gg (rs:=rs) bO.nil;have e2:=gg (rs:=F.map bare) e1;have e3:=gg (rs:=F.map bare) bO.nil;have g:∀x,sp (rws (bK (bK [] rs) (F.map bare))) x<->sp F x:=λx=>by
  rw[nj e1,VR,show F.map ((λx:Row=>x.1) ∘ bare)=F from Si F];refine⟨d1 λa c=>?_,d1 λa c=>dH (VZ _ c)⟩;rcases P8.mp c with c|c
  .exact dH c
  .have:=(nj (rs:=rs) bO.nil a).mp (dH c);refine d1 (λb e=>?_) this;rw[show rws []=[] from rfl,QQ]at e;obtain⟨r,f,rfl⟩:=VM.mp e;exact st.pU _ (h r f).1 (h r f).2
 have i:=o5 e2 e3 λx d=>qM.mpr ((g x).mp d)
 have j:=o5 e3 e2 λx d=>(g x).mpr (qM.mp d)
 have:=st.fin;simp only[Wb];lia
end dc
end
section
namespace dc
def vY:∀x y:Nat,(x ^^^ y)+2*(x &&& y)=x+y:=by
 intro x
 induction x using Yn with
 |ind x e =>
  intro y
  by_cases h:x=0
  .subst h;simp
  .have d:=e (x / 2) ⋯ (y / 2);have e1:(x ^^^ y) / 2=x / 2 ^^^ y / 2:=Vd;have e2:(x &&& y) / 2=x / 2 &&& y / 2:=T9;have e3:(x ^^^ y)%2=(x%2+y%2)%2:=by
    have:=@Tv x y;rcases Qg x with a|a<;>rcases Qg y with b|b<;>rcases Qg (x ^^^ y) with c|c<;>simp[a,b,c]at this ⊢
   have e4:(x &&& y)%2=(x%2)*(y%2):=by
    have:=@Sy x y;rcases Qg x with a|a<;>rcases Qg y with b|b<;>rcases Qg (x &&& y) with c|c<;>simp[a,b,c]at this ⊢
   rw[<- e1,<- e2]at d;revert d e3 e4;generalize x ^^^ y=p;generalize x &&& y=q;intro d e3 e4;rcases Qg x with a|a<;>rcases Qg y with b|b<;>rw[a,b]at e3 e4<;>lia
abbrev c9:List Nat->Nat
 |[]=>0
 |a::as=>a ^^^ c9 as
theorem ra(j):∀L:List Nat,(c9 L).testBit j=decide ((L.countP λa=>a.testBit j)%2=1)
 |[]=>by simp[c9]
 |a::L=>by
  rw[c9,QS,ra j L,TR];cases a.testBit j with
  |false=>simp
  |true =>
   simp only[Q3,Bool.true_xor];rcases Qg (L.countP λa=>a.testBit j) with h|h
   .rw[h,show(List.countP (λa=>a.testBit j) L+1)%2=1 by lia];rfl
   .rw[h,show(List.countP (λa=>a.testBit j) L+1)%2=0 by lia];rfl
theorem sx:∀as:List Nat,bd as 0=0
 |[]=>rfl
 |a::as=>by show(if 0%2=1 then a else 0) ^^^ bd as (0 / 2)=0;rw[if_neg ∅,Nat.zero_div,sx as];rfl
theorem wN:∀(as:List Nat)(j:Nat),bd as (2 ^ j)=as.getD j 0
 |[],j=>by simp[bd]
 |a::as,0=>by
  show(if 1%2=1 then a else 0) ^^^ bd as (1 / 2)=a;rw[if_pos ∅,show 1 / 2=0 by decide,sx,S4]
 |a::as,j+1=>by
  show(if 2 ^ (j+1)%2=1 then a else 0) ^^^ bd as (2 ^ (j+1) / 2)=(a::as).getD (j+1) 0;have b:2 ^ (j+1)%2=0:=(by rw[W3];lia);have h2:2 ^ (j+1) / 2=2 ^ j:=(by rw[W3];lia);rw[if_neg ⋯,h2,wN as j,S5];rfl
theorem wQ(as):∀L:List Nat,bd as (c9 L)=c9 (L.map (bd as))
 |[]=>sx as
 |a::L=>by rw[c9,iZ,wQ as L,VP,c9]
section
variable{α:Type}[DecidableEq α]
noncomputable abbrev bZ(U:List α)(x:α):Nat:=U.idxOf x
def tY{U:List α}(a:U.Nodup)(h:i<U.length):bZ U U[i]=i:=a.idxOf_getElem i h
def bC(U xs:List α):Nat:=c9 (xs.map λx=>2 ^ bZ U x)
def uD{U:List α}(j)(f:j<U.length)(b:xs.Nodup)(d:U.Nodup):(bC U xs).testBit j=decide (U[j]∈xs):=by
 unfold bC;rw[ra,Th];have e:xs.countP ((λa=>a.testBit j) ∘ λx=>2 ^ U.idxOf x)=xs.countP λx=>x==U[j]:=by
  refine Tw λx b=>?_
  simp only[XO,Sq,Qn,QC];constructor
  .intro h;have:U[U.idxOf x]'⋯=x:=Un ⋯;rw[<- this];congr 1
  .intro h;rw[h];exact d.idxOf_getElem j f
 have c:∀{xs:List α}(y:α),xs.Nodup->xs.countP (λx=>x==y)=if y∈xs then 1 else 0:=λ{xs} y=>by
  induction xs with
  |nil=>intro _;rfl
  |cons x xs i =>
   intro g;obtain⟨k,l⟩:=QR.mp g;rw[TR,i l]
   by_cases q:x=y
   .subst q;simp[k]
   .simp[q,Q8 q]
 rw[e,c _ b]
 by_cases h:U[j]∈xs
 .rw[if_pos h,decide_eq_true h];rfl
 .rw[if_neg h,decide_eq_false h];rfl
theorem qf:∀{xs:List α},(∀x∈xs,x∈U)->bC U xs<2 ^ U.length
 |[],_=>T8 _
 |x::xs,h=>by
  show 2 ^ U.idxOf x ^^^ bC U xs<2 ^ U.length;refine R3 (SY ∅ (SW (h x VE))) (qf λy a=>h y (VJ _ a))
theorem zI(a:U.Nodup):∀{xs:List α},xs.Nodup->(∀x∈xs,x∈U)->(xs.map λx=>((2 ^ bZ U x:Nat):Int)).sum=(bC U xs:Int)
 |[],_,_=>rfl
 |x::xs,f,h=>by
  obtain⟨c,h2⟩:=QR.mp f;have g:=h x VE;have b:=SW g;rw[VP,List.sum_cons,zI a h2 λy j=>h y (VJ _ j)];show _=((2 ^ bZ U x ^^^ bC U xs:Nat):Int);have e:(bC U xs).testBit (bZ U x)=false:=(by rw[uD _ b h2 a,Un b,decide_eq_false c]);have d:2 ^ bZ U x &&& bC U xs=0:=by
   apply S0;intro i;rw[Ve,Sq,Su]
   by_cases q:bZ U x=i
   .rw[<- q,e];simp
   .simp[q]
  have:=vY (2 ^ bZ U x) (bC U xs);rw[d]at this;lia
def oL{c:List α}(b:∀x∈c,x∈U):bd (U.map h) (bC U c)=c9 (c.map h):=by
 show bd _ (c9 (c.map λx=>2 ^ bZ U x))=_;rw[wQ,VR];refine Rc c9 (Qq λx d=>?_);have a:=SW (b x d);show bd _ (2 ^ U.idxOf x)=_;rw[wN,Wt,Qh,P4 a,Un a];rfl
def Po{sd:α->List α}{c:List α}(b:V.Nodup)(e:∀x∈c,(sd x).Nodup)(d:j<V.length):(c9 (c.map λx=>bC V (sd x))).testBit j=decide ((c.countP λx=>decide (V[j]∈sd x))%2=1):=by
 rw[ra,Th];have e2:c.countP ((λa=>a.testBit j) ∘ λx=>bC V (sd x))=c.countP λx=>decide (V[j]∈sd x):=by
  refine Tw λx f=>?_
  show(bC V (sd x)).testBit j=J<->_;rw[uD j d (e x f) b]
 rw[e2]
def Lx{sd:α->List α}(f:V.Nodup)(g:∀x∈c,x∈U)(e:∀x∈c,(sd x).Nodup/\∀y∈sd x,y∈V)(h2:∀y,(c.countP λx=>decide (y∈sd x))%2=0):
  bd (U.map λx=>bC V (sd x)) (bC U c)=0:=by
 rw[oL g];apply S0;intro j;rw[Su]
 by_cases d:j<V.length
 .rw[Po f (λx b=>(e x b).1) d,h2];rfl
 .rw[ra,Th];have e2:c.countP ((λa=>a.testBit j) ∘ λx=>bC V (sd x))=0:=by
   rw[YW];intro x b;show ¬(bC V (sd x)).testBit j=J;rw[Rg (P2 (qf (e x b).2) (Q0 ∅ (UU d)))];simp
  rw[e2];rfl
end
end dc
end
section
namespace dc
abbrev nI(l w:Nat):Nat:=if l ^^^ w<l then l ^^^ w else l
def jo(W:List Nat)(x:Nat):Nat:=W.foldl nI x
def lst(W:List Nat)(x:Nat):List Nat:=if 0<jo W x then W++[jo W x] else W
def ks(cs:List Nat):List Nat:=cs.foldl lst []
abbrev ent(w:Nat):Nat×Row:=(w.log2,w,0)
def Ce(h:0<w):w.testBit w.log2=J/\∀j,w.log2<j->w.testBit j=false:=by
 have b:=Nat.log2_self_le (n:=w) ⋯;have h2:=@Nat.lt_log2_self w;refine⟨?_,λj a=>Rg (P2 h2 (Q0 ∅ a))⟩;rcases mY h2 with⟨_,q⟩|⟨q,_⟩
 .omega
 .exact q
def zt{x y k:Nat}(f:x.testBit k=VF)(g:y.testBit k=J)(h:∀j,k<j->x.testBit j=y.testBit j):x<y:=by
 have e:x / 2 ^ (k+1)=y / 2 ^ (k+1):=by
  apply S0;intro i;rw[UW,UW];exact h _ ⋯
 have d:=T8 (k+1);have a:x%2 ^ (k+1)<2 ^ k:=by
  rcases mY (U9 x d) with⟨_,q⟩|⟨q,_⟩
  .exact q
  .rw[UX,f]at q;simp at q
 have b:2 ^ k<=y%2 ^ (k+1):=by
  rcases Ug (y%2 ^ (k+1)) (2 ^ k) with q|q
  .have:=Rg q;rw[UX,g]at this;simp at this
  .exact q
 have c:=SK x (2 ^ (k+1));have h2:=SK y (2 ^ (k+1));rw[e]at c;lia
def Jh(h:0<w)(l):nI l w=if l.testBit w.log2=J then l ^^^ w else l:=by
 obtain⟨b,h2⟩:=Ce h;unfold nI;cases q:l.testBit w.log2 with
 |true =>
  rw[if_pos rfl,if_pos];exact zt (k:=w.log2) (by rw[QS,q,b];rfl) q λj a=>by rw[QS,h2 j a,Tu]
 |false =>
  rw[if_neg (show ¬(VF=J) by decide)];have:l<l ^^^ w:=zt (k:=w.log2) q (by rw[QS,q,b];rfl) λj a=>by rw[QS,h2 j a,Tu]
  rw[if_neg ⋯]
theorem zq:∀{W:List Nat}(l:Nat),(∀w∈W,0<w)->red (W.map ent) (l,0)=(jo W l,0)
 |[],l,_=>rfl
 |w::W,l,h=>by
  rw[VP,l8];have e:one (l,0) (ent w)=(nI l w,0):=by
   rw[Jh (h w VE)];unfold one ent;dsimp only
   split<;>rfl
  rw[e];exact zq (nI l w) λz hz=>h z (VJ _ hz)
def LO(W):rws (W.map ent)=W:=by
 unfold rws;rw[VR];exact Si W
structure mz(W:List Nat)(B:bN):Prop where
 pos:∀w∈W,0<w
 e1:iP (W.map ent)
 i6:bO B
 len:W.length=B.length
 sp:∀x,sp W x<->sp (rws B) x
def mz.step(h:mz W B)(c):mz (lst W c) (grow B (bare c)):=by
 have v:=zq c h.pos;have j:=AQ (r:=(c,0)) h.e1;have n:=n2 (r:=bare c) h.i6;have i:=qx (B:=W.map ent) (r:=(c,0));have b1:=qw (r:=(c,0)) h.e1;rw[LO]at j i;rw[v]at j i b1;dsimp only at j i b1;have l:=lF B (bare c);have o:=tP h.i6 (bare c);unfold lst
 by_cases q:jo W c=0
 .rw[if_neg ⋯];have k:(red B (bare c)).1=0:=n.mpr ((h.sp c).mp (j.mp q));have e:grow B (bare c)=B:=(by unfold grow;rw[if_pos k]);rw[e];exact h
 .rw[if_pos ⋯];have k:¬(red B (bare c)).1=0:=λw=>q (j.mpr ((h.sp c).mpr (n.mp w)))
  rw[if_neg k]at l;refine⟨λw hw=>?_,⟨?_,λe g=>?_⟩,lE h.i6 _,by rw[PY,h.len,l];rfl,λx=>?_⟩
  .rcases P8.mp hw with hw|hw
   .exact h.pos w hw
   .rw[Qo.mp hw];lia
  .rw[VT];refine Qe.mpr ⟨h.e1.ap,RF _ _,λe g f s=>?_⟩;rw[Qo.mp s];exact b1 e g
  .rw[VT]at g;rcases P8.mp g with g|g
   .exact h.e1.lo e g
   .rw[Qo.mp g];exact(Ce (w:=jo W c) ⋯).1
  .rw[o x];have t:∀y,dc.sp (c::rws B) y<->dc.sp (c::W) y:=λy=>by
    constructor
    .rintro(w|w)
     .exact .inl ((h.sp _).mpr w)
     .exact .inr ((h.sp _).mpr w)
    .rintro(w|w)
     .exact .inl ((h.sp _).mp w)
     .exact .inr ((h.sp _).mp w)
   rw[show(bare c).1=c from rfl,t x];constructor
   .refine d1 λa d=>?_
    rcases P8.mp d with d|d
    .exact .inl (dH d)
    .rw[Qo.mp d];exact .inr (by rw[U7];exact i)
   .refine d1 λa d=>?_
    have u:dc.sp (W++[jo W c]) (jo W c):=dH (by simp);have m:∀b∈W,dc.sp (W++[jo W c]) b:=λb p=>dH (VZ _ p)
    rcases P1.mp d with rfl|d
    .have:=gk (d1 m i) u;rwa[hU]at this
    .exact m a d
def IE(cs):mz (ks cs) (bK [] (cs.map bare)):=by
 refine snoc_ind (P:=λcs=>mz (ks cs) (bK [] (cs.map bare))) ?_ (λcs c a=>?_) cs
 .exact⟨(λ_ h=>nomatch h),⟨.nil,(λ_ h=>nomatch h)⟩,bO.nil,rfl,λ_=>Iff.rfl⟩
 .have e1:ks (cs++[c])=lst (ks cs) c:=(by unfold ks;rw[Wc];rfl);have e2:bK [] ((cs++[c]).map bare)=grow (bK [] (cs.map bare)) (bare c):=(by unfold bK;rw[VT,Wc];rfl);rw[e1,e2];exact a.step c
def IH(cs):(ks cs).length=(bK [] (cs.map bare)).length:=(IE cs).len
end dc
end
section
namespace dc
def eh(as:List Nat):Nat:=(bK [] (as.map bare)).length
def su(L:List Nat):(L.map bare).map (λx:Row=>x.1)=L:=by rw[VR];exact Si L
def yw(h:∀x,sp (rs.map (·.1)) x<->sp (a.map (·.1)) x):(bK [] rs).length=(bK [] a).length:=by
 have e:∀(rs:List Row) x,sp (rws (bK [] rs)) x<->sp (rs.map (·.1)) x:=λrs x=>by
  rw[nj bO.nil,show rws []=[] from rfl,QQ]
 have c:=o5 (gg (rs:=rs) bO.nil) (gg (rs:=a) bO.nil) λx b=>(e a x).mpr ((h x).mp ((e rs x).mp b))
 have d:=o5 (gg (rs:=a) bO.nil) (gg (rs:=rs) bO.nil) λx b=>(e rs x).mpr ((h x).mpr ((e a x).mp b))
 lia
def LF(rs):(bK [] rs).length=eh (rs.map (·.1)):=yw λx=>by rw[su]
def AY(h:∀x,sp as x<->sp bs x):eh as=eh bs:=yw λx=>by rw[su,su];exact h x
def LD(h:∀x,x∈as<->x∈bs):eh as=eh bs:=AY λ_=>⟨d1 λa b=>dH ((h a).mp b),d1 λa b=>dH ((h a).mpr b)⟩
def AZ(as)(a):(sp as a->eh (as++[a])=eh as)/\(¬sp as a->eh (as++[a])=eh as+1):=by
 have e:bK [] ((as++[a]).map bare)=grow (bK [] (as.map bare)) (bare a):=by unfold bK;rw[VT,Wc];rfl
 have z:=n2 (B:=bK [] (as.map bare)) (r:=bare a) (gg bO.nil);have z:(red (bK [] (as.map bare)) (bare a)).1=0<->sp as a:=z.trans qM;unfold eh;rw[e,lF];exact⟨λh=>by rw[if_pos (z.mpr h)];rfl,λh=>by rw[if_neg λq=>h (z.mp q)]⟩
def ro(a:Nat->Nat):Prop:=∀x y,a (x ^^^ y)=a x ^^^ a y
theorem qO(h:ro b):∀{L:List Nat}{x:Nat},sp L x->sp (L.map b) (b x)
 |[],x,e=>by
  cases e;have:=h 0 0;rw[Sh,Sh]at this;exact this
 |a::L,x,e=>e.elim (λe=>.inl (qO h e)) λe=>.inr (by rw[<- h];exact qO h e)
def LC(f:ro c)(h2:ro ψ):∀as:List Nat,(∀a∈as,ψ (c a)=a)->eh (as.map c)=eh as:=by
 intro as;refine snoc_ind (P:=λas=>(∀a∈as,ψ (c a)=a)->eh (as.map c)=eh as) (λ_=>rfl) (λas a d e=>?_) as;have d:=d λb q=>e b (VZ _ q)
 rw[VT,Zb];obtain⟨l1,l2⟩:=AZ as a;obtain⟨g,h⟩:=AZ (as.map c) (c a)
 by_cases q:sp as a
 .rw[l1 q,g (qO f q),d]
 .rw[l2 q,h λz=>q ?_,d];have:=qO h2 z;rw[VR,e a (by simp),show as.map (ψ ∘ c)=as from(Qq λb q=>e b (VZ _ q)).trans (Si as)]at this;exact this
def Lz{α β i:Type}[DecidableEq α][DecidableEq β]{U:List i}{V:List α}{V':List β}{sd:i->List α}(f)(g:β->α)(h:∀c∈U,∀y∈sd c,y∈V/\f y∈V'/\g (f y)=y):eh (U.map λc=>bC V' ((sd c).map f))=eh (U.map λc=>bC V (sd c)):=by
 have e:(U.map λc=>bC V' ((sd c).map f))=(U.map λc=>bC V (sd c)).map (bd (V.map λy=>2 ^ bZ V' (f y))):=by
  rw[VR];refine Qq λc d=>?_
  show _=bd _ (bC V (sd c));rw[oL λy b=>(h c d y b).1];unfold bC;rw[VR];rfl
 rw[e];refine LC (ψ:=bd (V'.map λz=>2 ^ bZ V (g z))) (iZ _) (iZ _) _ λa j=>?_
 obtain⟨c,d,rfl⟩:=VM.mp j;rw[oL λy b=>(h c d y b).1];have e2:c9 ((sd c).map λy=>2 ^ bZ V' (f y))=bC V' ((sd c).map f):=by unfold bC;rw[VR];rfl
 rw[e2,oL λz hz=>by obtain⟨y,b,rfl⟩:=VM.mp hz;exact(h c d y b).2.1,VR];unfold bC;exact Rc c9 (Qq λy b=>by show 2 ^ bZ V (g (f y))=_;rw[(h c d y b).2.2])
end dc
end
section
namespace el
open PySem PySem.SetTable
def fw(xs:Array Nat):Prop:=∀(i j a b:Nat),i<j->xs[i]?=Z a->xs[j]?=Z b->a<b
def rp(xs:Array Nat)(j p:Nat):Prop:=∀(q a:Nat),q<p->xs[q]?=Z a->a<j
def rl(xs:Array Nat)(j p:Nat):Prop:=∀(q a:Nat),p<=q->xs[q]?=Z a->j<=a
theorem tO(g:fw xs)(j):∀(fuel lo hi:Nat),hi-lo<=fuel->lo<=hi->hi<=xs.size->rp xs j lo->rl xs j hi ->
  below.go xs j fuel lo hi<=xs.size/\rp xs j (below.go xs j fuel lo hi)/\rl xs j (below.go xs j fuel lo hi)
 |0,lo,hi,h,h2,h3,f,d=>by
  have e:lo=hi:=⋯;subst e;exact⟨h3,f,d⟩
 |fuel+1,lo,hi,h,h2,h3,f,d=>by
  unfold below.go
  by_cases k:lo<hi
  .rw[if_pos k];have l:lo<=(lo+hi) / 2:=⋯;have m2:(lo+hi) / 2<hi:=⋯;generalize (lo+hi) / 2=m at l m2 ⊢;have n:m<xs.size:=⋯;have c:xs[m]?=Z xs[m]:=P9 n;have o:xs.getD m j=xs[m]:=(by simp[WL,n]);simp only[o]
   by_cases i:xs[m]<j
   .rw[if_pos i];refine tO g j fuel _ _ (Ra (P2 (Ub k (UI l)) h)) ⋯ h3 ?_ d;intro q a p b
    by_cases e:q=m
    .subst e;rw[c]at b;cases b;exact i
    .have:=g q m a _ ⋯ b c;lia
   .rw[if_neg i];refine tO g j fuel _ _ (Ra (P2 (S1 l m2) h)) ⋯ ⋯ f ?_;intro q a p b
    by_cases e:q=m
    .subst e;rw[c]at b;cases b;lia
    .have:=g m q _ a ⋯ c b;lia
  .rw[if_neg k];have e:lo=hi:=⋯;subst e;exact⟨h3,f,d⟩
def oM(d:fw xs)(j):below xs j<=xs.size/\rp xs j (below xs j)/\rl xs j (below xs j):=by
 unfold below;refine tO d j _ _ _ ⋯ ⋯ ⋯ (λq a c _=>⋯) (λq a c b=>?_);have:=(Qw.mp b).1;lia
def below_at(d:fw xs)(h:xs[i]?=Z j):below xs j=i:=by
 obtain⟨g,h2,h3⟩:=oM d j
 by_cases e:i<below xs j
 .exact absurd (h2 i j e h) (Rm _)
 .by_cases f:below xs j=i
  .exact f
  .have hi:=(Qw.mp h).1;have c:xs[below xs j]?=Z (xs[below xs j]'⋯):=P9 ⋯;have a:=h3 _ _ (P0 _) c;have b:=d (below xs j) i _ _ ⋯ c h;lia
def kK{t:Xm}(a:fw t.place)(h:t.place[i]?=Z j):t.slot j=.live i:=by
 unfold slot;rw[below_at a h];simp[h]
def eN(t:Xm)(j:Nat):Prop:=(∃i:Nat,t.place[i]?=Z j)\/∃i:Nat,t.dummies[i]?=Z j
def BG{t:Xm}(h:∀i:Nat,t.place[i]?≠Z j):t.slot j=if has t.dummies j then .dummy else .empty:=by
 unfold slot;have h0:(t.place[below t.place j]?==Z j)=false:=by rw[beq_eq_false_iff_ne];exact h _
 simp only[h0,PZ,Qs]
def yB(a:fw xs){i j:Nat}(h:xs[i]?=Z j):has xs j=true:=by
 unfold has;rw[below_at a h,h];simp
def yC(h:∀i:Nat,xs[i]?≠Z j):has xs j=false:=by
 unfold has;rw[beq_eq_false_iff_ne];exact h _
def M4(h:¬eN t j):t.slot j=.empty:=by
 rw[BG λi e=>h (.inl ⟨i,e⟩),yC λi e=>h (.inr ⟨i,e⟩)];rfl
def BF{t:Xm}(a:fw t.dummies){i j:Nat}(b:∀i:Nat,t.place[i]?≠Z j)(h:t.dummies[i]?=Z j):t.slot j=.dummy:=by
 rw[BG b,yB a h];rfl
abbrev fA(m:Nat)(p:Probe):Probe :=
 if p.more>0 then { p with j:=p.j+1,more:=p.more-1 } else
 { p with j:=(leap m p.i p.perturb).1,more:=runEnd m (leap m p.i p.perturb).1-(leap m p.i p.perturb).1,i:=(leap m p.i p.perturb).1,perturb:=(leap m p.i p.perturb).2 }
def rA(t:Xm)(p):t.advance p=fA t.mask p:=rfl
def Hm(m:Nat)(h:Int):Probe:={ j:=bits h%(m+1),more:=runEnd m (bits h%(m+1))-bits h%(m+1),i:=bits h%(m+1),perturb:=bits h,dummy:=Y }
def pr(m:Nat)(h:Int):Nat->Probe
 |0=>Hm m h
 |n+1=>fA m (pr m h n)
def aZ(m:Nat)(h:Int)(n:Nat):Nat:=(pr m h n).j
def qA(h:i<=m):runEnd m i<=m/\i<=runEnd m i/\runEnd m i<=i+9:=by
 unfold runEnd;split<;>lia
def y5(m i p):(leap m i p).1<=m:=by
 unfold leap;have:(i*5+1+p / 32)%(m+1)<m+1:=U9 _ ⋯;show(i*5+1+p / 32)%(m+1)<=m;lia
theorem Au(m)(h):∀n,(pr m h n).j+(pr m h n).more<=m
 |0=>by
  have:bits h%(m+1)<m+1:=U9 _ ⋯;have:=qA (m:=m) (i:=bits h%(m+1)) ⋯;show bits h%(m+1)+(runEnd m (bits h%(m+1))-bits h%(m+1))<=m;lia
 |n+1=>by
  have a:=Au m h n;show(fA m (pr m h n)).j+(fA m (pr m h n)).more<=m;unfold fA
  split
  .show(pr m h n).j+1+((pr m h n).more-1)<=m;lia
  .have:=y5 m (pr m h n).i (pr m h n).perturb;have:=qA this;show(leap m (pr m h n).i (pr m h n).perturb).1+(runEnd m (leap m (pr m h n).i (pr m h n).perturb).1-(leap m (pr m h n).i (pr m h n).perturb).1)<=m;lia
def vo(m)(h)(n):aZ m h n<=m:=by have:=Au m h n;unfold aZ;lia
def run(m:Nat)(h:Int):Nat->Nat×Nat
 |0=>(bits h%(m+1),bits h)
 |r+1=>leap m (run m h r).1 (run m h r).2
def vb(m)(h):∀r,(run m h r).1<=m
 |0=>by have:bits h%(m+1)<m+1:=U9 _ ⋯;show bits h%(m+1)<=m;lia
 |r+1=>y5 _ _ _
def st(m:Nat)(h:Int)(r d:Nat):Probe:={ j:=(run m h r).1+d,more:=runEnd m (run m h r).1-(run m h r).1-d,i:=(run m h r).1,perturb:=(run m h r).2,dummy:=Y }
def len(m:Nat)(h:Int)(r:Nat):Nat:=runEnd m (run m h r).1-(run m h r).1
def Il(m)(h)(r):len m h r<=9:=by have:=qA (vb m h r);unfold len;lia
def wq(a:d<len m h r):fA m (st m h r d)=st m h r (d+1):=by
 unfold fA;have:(st m h r d).more>0:=by exact UJ a
 rw[if_pos this];show Probe.mk _ _ _ _ _=Probe.mk _ _ _ _ _;congr 1
def C3:fA m (st m h r (len m h r))=st m h (r+1) 0:=by
 unfold fA;have:¬(st m h r (len m h r)).more>0:=by show ¬(runEnd m (run m h r).1-(run m h r).1-len m h r>0);unfold len;lia
 rw[if_neg this];rfl
theorem rN(m)(h):∀r:Nat,∃n,n<=10*r/\pr m h n=st m h r 0/\∀k,k<n->∃f d',f<r/\d'<=len m h f/\pr m h k=st m h f d'
 |0=>⟨0,P0 _,rfl,λk g=>absurd g (W5 k)⟩
 |r+1=>by
  obtain⟨n,p,e,g⟩:=rN m h r;have walk:∀d,d<=len m h r->pr m h (n+d)=st m h r d:=by
   intro d
   induction d with
   |zero=>intro _;exact e
   |succ d i =>
    intro j;show fA m (pr m h (n+d))=_;rw[i ⋯];exact wq ⋯
  have o:=Il m h r;refine⟨n+len m h r+1,⋯,?_,λk l=>?_⟩
  .show fA m (pr m h (n+len m h r))=_;rw[walk _ (P0 _)];exact C3
  .by_cases c:k<n
   .obtain⟨f,d',a,b,c⟩:=g k c;exact⟨f,d',⋯,b,c⟩
   .refine⟨r,k-n,⋯,⋯,?_⟩;have:=walk (k-n) ⋯;rw[show n+(k-n)=k by lia]at this;exact this
def DI(m)(h)(r d)(g:d<=len m h r):∃n,n<=10*r+d/\pr m h n=st m h r d/\∀k,k<n->∃f d',d'<=len m h f/\(f<r\/(f=r/\d'<d))/\pr m h k=st m h f d':=by
 obtain⟨n,o,e,i⟩:=rN m h r;have walk:∀d,d<=len m h r->pr m h (n+d)=st m h r d:=by
  intro d
  induction d with
  |zero=>intro _;exact e
  |succ d j =>
   intro g;show fA m (pr m h (n+d))=_;rw[j ⋯];exact wq ⋯
 refine⟨n+d,⋯,walk d g,λk l=>?_⟩
 by_cases c:k<n
 .obtain⟨f,d',a,b,c⟩:=i k c;exact⟨f,d',b,.inl a,c⟩
 .refine⟨r,k-n,⋯,.inr ⟨rfl,⋯⟩,?_⟩;have:=walk (k-n) ⋯;rw[show n+(k-n)=k by lia]at this;exact this
def DW(h):bits h<2 ^ 64:=by
 unfold bits;have a:=Z4 h (show(2 ^ 64:Int)≠0 by decide);have h2:=Vy h (show(0:Int)<2 ^ 64 by decide);have e:((2:Int) ^ 64)=18446744073709551616:=by decide
 rw[e]at a h2 ⊢;lia
theorem Am(m)(h):∀r,(run m h r).2=bits h / 32 ^ r
 |0=>by simp[run]
 |r+1=>by
  show(run m h r).2 / 32=_;rw[Am m h r,Nat.div_div_eq_div_mul,W3]
def Kw(m)(h)(r)(a:13<=r):(run m h r).2=0:=by
 rw[Am];refine Nat.div_eq_of_lt (P2 (DW h) (Qk (show 2 ^ 64<=32 ^ 13 by decide) (Q0 ∅ a)))
abbrev fU(m:Nat):Nat->Nat->Nat
 |0,i=>i
 |n+1,i=>(fU m n i*5+1)%(m+1)
theorem A4(m)(h):∀n,(run m h (13+n)).1=fU m n (run m h 13).1
 |0=>rfl
 |n+1=>by
  show(leap m (run m h (13+n)).1 (run m h (13+n)).2).1=_;rw[A4 m h n,Kw m h (13+n) ⋯];rfl
abbrev nP(m:Nat):Nat->Nat->List Nat
 |0,_=>[]
 |n+1,i=>i::nP m n ((i*5+1)%(m+1))
theorem z2(m):∀n i,fU m n ((i*5+1)%(m+1))=fU m (n+1) i
 |0,i=>rfl
 |n+1,i=>by
  show(fU m n ((i*5+1)%(m+1))*5+1)%(m+1)=(fU m (n+1) i*5+1)%(m+1);rw[z2 m n i]
theorem qn(m):∀a b i,fU m (a+b) i=fU m b (fU m a i)
 |a,0,i=>rfl
 |a,b+1,i=>by
  show(fU m (a+b) i*5+1)%(m+1)=_;rw[qn m a b i];rfl
theorem zC(m):∀n i j,j∈nP m n i->∃k,k<n/\fU m k i=j
 |0,i,j,h=>by simp[nP]at h
 |n+1,i,j,h=>by
  rcases P1.mp h with e|h
  .exact⟨0,⋯,e.symm⟩
  .obtain⟨k,a,e⟩:=zC m n _ j h;exact⟨k+1,⋯,by rw[<- z2];exact e⟩
def dD(m:Nat):Prop:=m=7\/m=15\/m=31\/m=63\/m=127\/m=255\/m=511\/m=1023\/m=2047
abbrev sA(l:List Nat):Nat:=l.foldl (λa j=>a ||| 2 ^ j) 0
def DV(l:List Nat)(j)(h:(sA l).testBit j=J):j∈l:=by
 have c:∀(l:List Nat)(a:Nat),(l.foldl (λa j=>a ||| 2 ^ j) a).testBit j=J->a.testBit j=J\/j∈l:=λl=>by
  induction l with
  |nil=>exact λa h=>.inl h
  |cons x l b =>
   intro a h;rcases b _ h with q|q
   .rw[Nat.testBit_or,RC]at q;rcases q with q|q
    .exact .inl q
    .rw[Sq,Qn]at q;exact .inr (q▸VE)
   .exact .inr (VJ _ q)
 rcases c l 0 h with q|q
 .rw[Su]at q;cases q
 .exact q
def EU(m:Nat):Bool:=sA (nP m (m+1) 0)==2 ^ (m+1)-1
def dD.eP(h:dD m):EU m=J/\fU m (m+1) 0=0:=by
 rcases h with rfl|rfl|rfl|rfl|rfl|rfl|rfl|rfl|rfl<;>exact⟨by decide +kernel,by decide +kernel⟩
def dD.AL(h:dD m)(a:j<=m):∃k,k<m+1/\fU m k 0=j:=by
 have e:sA (nP m (m+1) 0)=2 ^ (m+1)-1:=QC.mp h.eP.1;refine zC m (m+1) 0 j (DV _ _ ?_);rw[e,Nat.testBit_two_pow_sub_one];exact decide_eq_true ⋯
def dD.reach(h:dD m)(hi:i<=m)(f:j<=m):∃k,k<m+1/\fU m k i=j:=by
 obtain⟨a,g,d⟩:=h.AL hi;obtain⟨b,l,e⟩:=h.AL f
 by_cases c:a<=b
 .refine⟨b-a,⋯,?_⟩;rw[<- d,<- qn,show a+(b-a)=b by lia];exact e
 .refine⟨m+1-a+b,⋯,?_⟩;rw[<- d,<- qn,show a+(m+1-a+b)=(m+1)+b by lia,qn,h.eP.2];exact e
def dD.met(b:dD m)(h)(a:j<=m):∃r,r<m+14/\(run m h r).1=j:=by
 obtain⟨k,c,e⟩:=b.reach (vb m h 13) a;exact⟨13+k,⋯,by rw[A4];exact e⟩
def dD.I4(c:dD m)(h)(b:j<=m):∃n,n<10*turns m/\aZ m h n=j:=by
 obtain⟨r,f,e⟩:=c.met h b;obtain⟨n,d,a,_⟩:=rN m h r;refine⟨n,by unfold turns;lia,?_⟩;unfold aZ;rw[a];show(run m h r).1+0=j;lia
def least{P:Nat->Prop}(n)(h:P n):∃k,k<=n/\P k/\∀q,q<k->¬P q:=by
 induction n using Yn with
 |ind n g =>
  by_cases c:∃q,q<n/\P q
  .obtain⟨q,f,e⟩:=c;obtain⟨k,a,b,d⟩:=g q f e;exact⟨k,⋯,b,d⟩
  .exact⟨n,P0 _,h,λq f e=>c ⟨q,f,e⟩⟩
theorem xm:∀(k:Nat)(l:List Nat),(∀j,j<k->j∈l)->k<=l.length
 |0,_,_=>Qa _
 |k+1,l,h=>by
  have a:=h k (Rw k);have b:=xm k (l.erase k) λj c=>(YG ⋯).mpr (h j ⋯)
  rw[Te a]at b;have:=Yf a;lia
def hole(d:t.place.size+t.dummies.size<=t.mask):∃j,j<=t.mask/\¬eN t j:=by
 by_cases c:∃j,j<=t.mask/\¬eN t j
 .exact c
 .exfalso;have a:=xm (t.mask+1) (t.place.toList++t.dummies.toList) λj b=>by
   have o:eN t j:=R8 λn=>c ⟨j,⋯,n⟩
   rcases o with⟨i,e⟩|⟨i,e⟩
   .exact VZ _ (Rd (by rw[Qm];exact e))
   .exact Qd _ (Rd (by rw[Qm];exact e))
  rw[PY,VK,VK]at a;lia
def Gx(c:dD t.mask)(f:t.place.size+t.dummies.size<=t.mask)(h):
  ∃N,N<10*turns t.mask/\¬eN t (aZ t.mask h N)/\∀k,k<N->eN t (aZ t.mask h k):=by
 obtain⟨j,a,d⟩:=hole f;obtain⟨n,i,e⟩:=c.I4 h a;obtain⟨N,g,h2,h3⟩:=least (P:=λn=>¬eN t (aZ t.mask h n)) n (by rw[e];exact d);exact⟨N,⋯,h2,λk b=>R8 (h3 k b)⟩
abbrev fJ(p:Probe)(d:Option Nat):Probe:={ p with dummy:=d }
def rB(m)(p)(d):fA m (fJ p d)=fJ (fA m p) d:=by
 unfold fA fJ
 by_cases c:p.more>0
 .rw[if_pos c];simp only[c,Q3]
 .rw[if_neg c];simp only[c,Qs]
def jQ(t:Xm)(h:Int)(N:Nat)(d:Option Nat):Prop:=∀j,d=Z j->∃k,k<N/\j=aZ t.mask h k/\∃i:Nat,t.dummies[i]?=Z j
theorem Av (r : fw t.place) (y : fw t.dummies) (x : ∀ i l j : Nat, t.place[i]? = Z j -> t.dummies[l]? = Z j -> False) (z : ¬ eN t (aZ t.mask h N)) (A : ∀ k, k < N -> eN t (aZ t.mask h k)) :
    ∀ (fuel n : Nat) (d : Option Nat), n <= N -> N - n < fuel -> jQ t h N d ->
      (∃ k i d', n <= k /\ k < N /\ t.place[i]? = Z (aZ t.mask h k) /\ hashAt i = h /\ (∀ m, n <= m -> m < k -> ∀ l : Nat, t.place[l]? = Z (aZ t.mask h m) -> hashAt l ≠ h) /\ jQ t h N d' /\ probe.go t hashAt h fuel (fJ (pr t.mask h n) d) = Z (.candidate (aZ t.mask h k) i (fJ (pr t.mask h (k + 1)) d')))
      \/ ((∀ m, n <= m -> m < N -> ∀ l : Nat, t.place[l]? = Z (aZ t.mask h m) -> hashAt l ≠ h) /\ ∃ d', jQ t h N d' /\ probe.go t hashAt h fuel (fJ (pr t.mask h n) d) = Z (.empty (aZ t.mask h N) d'))
  | 0, n, d, E, h2, _ => by lia
  | fuel + 1, n, d, E, h2, w => by
    unfold probe.go
    by_cases c : n = N
    · subst c
      have e : t.slot (fJ (pr t.mask h n) d).j = .empty := M4 z
      rw [e]
      exact .inr ⟨fun m a b => by lia, d, w, rfl⟩
    · have next : ∀ o, jQ t h N o -> (∀ l : Nat, t.place[l]? = Z (aZ t.mask h n) -> hashAt l ≠ h) -> ∀ R, R = probe.go t hashAt h fuel (fJ (pr t.mask h (n + 1)) o) ->
          (∃ k i d', n <= k /\ k < N /\ t.place[i]? = Z (aZ t.mask h k) /\ hashAt i = h /\ (∀ m, n <= m -> m < k -> ∀ l : Nat, t.place[l]? = Z (aZ t.mask h m) -> hashAt l ≠ h) /\ jQ t h N d' /\ R = Z (.candidate (aZ t.mask h k) i (fJ (pr t.mask h (k + 1)) d')))
          \/ ((∀ m, n <= m -> m < N -> ∀ l : Nat, t.place[l]? = Z (aZ t.mask h m) -> hashAt l ≠ h) /\ ∃ d', jQ t h N d' /\ R = Z (.empty (aZ t.mask h N) d')) := fun o G B R hR => by
        rcases Av r y x z A fuel (n + 1) o ⋯ ⋯ G with ⟨k, H, d', a, b, e0, e1, f, u, g⟩ | ⟨f, d', u, g⟩
        · refine .inl ⟨k, H, d', by lia, b, e0, e1, fun m p1 p2 l p3 => ?_, u, hR.trans g⟩
          by_cases s : m = n
          · subst s; exact B l p3
          · exact f m ⋯ p2 l p3
        · refine .inr ⟨fun m p1 p2 l p3 => ?_, d', u, hR.trans g⟩
          by_cases s : m = n
          · subst s; exact B l p3
          · exact f m ⋯ p2 l p3
      rcases A n ⋯ with ⟨i, hi⟩ | ⟨i, hi⟩
      · have e : t.slot (fJ (pr t.mask h n) d).j = .live i := kK r hi
        rw [e]
        by_cases q : hashAt i = h
        · refine .inl ⟨n, i, d, P0 _, by lia, hi, q, fun m a b => by lia, w, ?_⟩
          simp only [q, beq_self_eq_true, Q3]
          rw [rA, rB]; rfl
        · have I : (hashAt i == h) = false := by rw [beq_eq_false_iff_ne]; exact q
          simp only [I, PZ, Qs]
          refine next d w (fun l v => ?_) _ (by rw [rA, rB]; rfl)
          have p := kK r v
          rw [kK r hi] at p
          injection p with p
          rw [<- p]; exact q
      · have C : ∀ i : Nat, t.place[i]? ≠ Z (aZ t.mask h n) := fun l e => x l i _ e hi
        have e : t.slot (fJ (pr t.mask h n) d).j = .dummy := BF y C hi
        rw [e]
        refine next (Z (aZ t.mask h n)) (fun j D => ?_) (fun l v => absurd v (C l)) _ ?_
        · cases D; exact ⟨n, by lia, rfl, i, hi⟩
        · show probe.go t hashAt h fuel (t.advance (fJ (pr t.mask h n) (Z (aZ t.mask h n)))) = _
          rw [rA, rB]; rfl
def ie{α:Type}(xs)(p)(x:α)(f:p<=xs.size)(i):
  (insertAt xs p x)[i]?=if i<p then xs[i]? else if i=p then Z x else xs[i-1]?:=by
 unfold insertAt;rw[Yr,Array.getElem?_push,Sz,Sz,Qz,QL];have e:min p xs.size-0=p:=by lia
 rw[e,Sf]
 by_cases a:i<p
 .simp only[if_pos (show i<p+1 by lia),if_neg (show ¬i=p by lia),if_pos a]
 .by_cases b:i=p
  .simp only[if_pos (show i<p+1 by lia),if_neg a,if_pos b]
  .simp only[if_neg (show ¬i<p+1 by lia),if_neg a,if_neg b,Va];obtain⟨d,rfl⟩:=UY (Ru (SA.mp a) (Q8 b));rw[RK p d 1,T4,R5,<- RK p d 1,R5]
   by_cases c:d<xs.size-p
   .rw[if_pos c]
   .rw[if_neg c];rw[R0 (Nat.sub_le_iff_le_add'.mp (SA.mp c))]
def pO{α:Type}(xs)(p)(x:α)(a:p<=xs.size):(insertAt xs p x).size=xs.size+1:=by
 unfold insertAt;rw[RL,Qz,QL,QL,QZ a,Va,Zo,R6,Q1 a]
def Hp{α:Type}(xs)(p)(x:α)(a:p<=xs.size):(insertAt xs p x).toList.Perm (x::xs.toList):=by
 have e:(insertAt xs p x).toList=xs.toList.take p++x::xs.toList.drop p:=by
  unfold insertAt;simp[WU];rw[Rh (by simp)]
 rw[e];refine(ZI).trans (YH x ?_);rw[QJ]
def o7{α:Type}(xs:Array α)(p)(c:p<xs.size)(i):(eraseAt xs p)[i]?=if i<p then xs[i]? else xs[i+1]?:=by
 unfold eraseAt;rw[Yr,Sz,Sz,QL];have e:min p xs.size-0=p:=by lia
 rw[e,Sf]
 by_cases a:i<p
 .simp only[if_pos a]
 .simp only[if_neg a,Va];obtain⟨d,rfl⟩:=To (SA.mp a);rw[Q7]
  by_cases b:d<xs.size-(p+1)
  .rw[if_pos b,R6]
  .rw[if_neg b];rw[R0 ⋯]
def xQ{α:Type}(xs:Array α)(p)(a:p<xs.size):(eraseAt xs p).size+1=xs.size:=by
 unfold eraseAt;rw[RL,QL,QL,QZ (QM a),Va,Zo,R6,Q1 a]
def Hq(h:fw xs)(r:∀i:Nat,xs[i]?≠Z j):fw (insertAt xs (below xs j) j):=by
 obtain⟨b1,b2,l⟩:=oM h j;generalize below xs j=p at b1 b2 l;have pg:=ie xs p j b1;have n:∀(q a:Nat),p<=q->xs[q]?=Z a->j<a:=λq a s c=>by
  have:=l q a s c;have:j≠a:=λe=>r q (by rw[e];exact c)
  lia
 intro i f a b o c d;rw[pg]at c d
 by_cases k:i<p
 .rw[if_pos k]at c
  by_cases m:f<p
  .rw[if_pos m]at d;exact h i f a b o c d
  .rw[if_neg m]at d
   by_cases g:f=p
   .rw[if_pos g]at d;injection d with d;subst d;exact b2 i a k c
   .rw[if_neg g]at d;exact h i (f-1) a b ⋯ c d
 .rw[if_neg k]at c;rw[if_neg (show ¬f<p by lia),if_neg (show ¬f=p by lia)]at d
  by_cases g:i=p
  .rw[if_pos g]at c;injection c with c;subst c;exact n (f-1) b ⋯ d
  .rw[if_neg g]at c;exact h (i-1) (f-1) a b ⋯ c d
def Hn{α:Type}{xs:Array α}{x:α}(a:p<=xs.size){v:α}{i:Nat}(h:xs[i]?=Z v):∃b:Nat,(insertAt xs p x)[b]?=Z v:=by
 by_cases c:i<p
 .exact⟨i,by rw[ie _ _ _ a,if_pos c];exact h⟩
 .exact⟨i+1,by rw[ie _ _ _ a,if_neg (show ¬i+1<p by lia),if_neg (show ¬i+1=p by lia)];exact h⟩
def Ho{α:Type}{xs:Array α}{x:α}(a:p<=xs.size):(insertAt xs p x)[p]?=Z x:=by
 rw[ie _ _ _ a,if_neg (Rm p),if_pos rfl]
def yN{α:Type}{xs:Array α}{x:α}(a:p<=xs.size){v:α}{i:Nat}(h:(insertAt xs p x)[i]?=Z v):v=x\/∃b:Nat,xs[b]?=Z v:=by
 rw[ie _ _ _ a]at h
 split at h
 .exact .inr ⟨_,h⟩
 .split at h
  .injection h with h;exact .inl h.symm
  .exact .inr ⟨_,h⟩
def FI(f:fw xs)(k:p<xs.size):fw (eraseAt xs p):=by
 intro i e a b j d c;rw[o7 _ _ k]at d c
 by_cases g:i<p
 .rw[if_pos g]at d
  by_cases h:e<p
  .rw[if_pos h]at c;exact f i e a b j d c
  .rw[if_neg h]at c;exact f i (e+1) a b ⋯ d c
 .rw[if_neg g]at d;rw[if_neg (show ¬e<p by lia)]at c;exact f (i+1) (e+1) a b ⋯ d c
def FG{α:Type}{xs:Array α}(b:p<xs.size){v:α}{i:Nat}(h:(eraseAt xs p)[i]?=Z v):∃a:Nat,a≠p/\xs[a]?=Z v:=by
 rw[o7 _ _ b]at h
 split at h
 .exact⟨i,⋯,h⟩
 .exact⟨i+1,⋯,h⟩
def FH{α:Type}{xs:Array α}(a:p<xs.size){v:α}(hi:i≠p)(h:xs[i]?=Z v):∃b:Nat,(eraseAt xs p)[b]?=Z v:=by
 by_cases c:i<p
 .exact⟨i,by rw[o7 _ _ a,if_pos c];exact h⟩
 .exact⟨i-1,by rw[o7 _ _ a,if_neg (show ¬i-1<p by lia),show i-1+1=i by lia];exact h⟩
structure Tab{α:Type}(aB:Array (Int×α))(t:Xm):Prop where
 iC:fw t.place
 jA:fw t.dummies
 le:∀i j:Nat,t.place[i]?=Z j->j<=t.mask
 Fl:∀i j:Nat,t.dummies[i]?=Z j->j<=t.mask
 o3:∀i pE j:Nat,t.place[i]?=Z j->t.dummies[pE]?=Z j->False
 e7:t.place.size=aB.size
 bC:dD t.mask
 full:t.place.size+t.dummies.size<=t.mask
 path:∀(i j:Nat)(e:Int×α),t.place[i]?=Z j->aB[i]?=Z e->∃n,aZ t.mask e.1 n=j/\∀k,k<n->eN t (aZ t.mask e.1 k)
section
variable{α:Type}{aB:Array (Int×α)}{t:Xm}
theorem Tab.fill(T:Tab aB t):t.fill=aB.size+t.dummies.size:=by unfold SetTable.fill;rw[T.e7]
def Tab.inj(T:Tab aB t){i pE j:Nat}(h:t.place[i]?=Z j)(h':t.place[pE]?=Z j):i=pE:=by
 have e:=kK T.iC h;rw[kK T.iC h']at e;injection e with e;exact e.symm
def Tab.met(T:Tab aB t)(b:¬eN t (aZ t.mask h N)){i:Nat}(hi:aB[i]?=Z e)(j:e.1=h):∃k,k<N/\t.place[i]?=Z (aZ t.mask h k):=by
 have f:=(Qw.mp hi).1;rw[<- T.e7]at f;have a:t.place[i]?=Z t.place[i]:=P9 f;obtain⟨n,d,l⟩:=T.path i _ e a hi;subst j;refine⟨n,?_,by rw[d];exact a⟩
 by_cases c:n<N
 .exact c
 .exfalso
  by_cases g:n=N
  .subst g;exact b (.inl ⟨i,by rw[d];exact a⟩)
  .exact b (l N ⋯)
theorem Tab.put(T:Tab aB t)(A:∀i:Nat,t.place[i]?≠Z (aZ t.mask h N))(R:∀k,k<N->eN t (aZ t.mask h k))(B:(∃i:Nat,t.dummies[i]?=Z (aZ t.mask h N))\/t.place.size+t.dummies.size+1<=t.mask):
  Tab (insertAt aB (t.put (aZ t.mask h N)).2 (h,x)) (t.put (aZ t.mask h N)).1/\(t.put (aZ t.mask h N)).2<=aB.size/\(t.put (aZ t.mask h N)).1.mask=t.mask/\(t.put (aZ t.mask h N)).1.plain=t.plain/\(t.put (aZ t.mask h N)).1.led=t.led
   /\ (t.put (aZ t.mask h N)).1.dummies.size<=t.dummies.size/\((∃i:Nat,t.dummies[i]?=Z (aZ t.mask h N))->(t.put (aZ t.mask h N)).1.dummies.size+1=t.dummies.size):=by
 obtain⟨b1,b2,u⟩:=oM T.iC (aZ t.mask h N);have C:=vo t.mask h N;generalize Q:aZ t.mask h N=j at A b1 b2 u B C ⊢;obtain⟨D,O,H,r,I,K,s⟩:∃D,(if has t.dummies j then eraseAt t.dummies (below t.dummies j) else t.dummies)=D/\fw D/\(∀i v:Nat,D[i]?=Z v->v≠j/\∃g:Nat,t.dummies[g]?=Z v)/\(∀i v:Nat,t.dummies[i]?=Z v->v≠j->∃g:Nat,D[g]?=Z v)/\D.size<=t.dummies.size/\((∃i:Nat,t.dummies[i]?=Z j)->D.size+1=t.dummies.size):=by
  by_cases c:∃i:Nat,t.dummies[i]?=Z j
  .obtain⟨i,hi⟩:=c;have l:=(Qw.mp hi).1;refine⟨eraseAt t.dummies i,by rw[yB T.jA hi,below_at T.jA hi];rfl,FI T.jA l,λk v d=>?_,λk v d U=>?_,by have:=xQ t.dummies i l;lia,λ_=>xQ t.dummies i l⟩
   .obtain⟨g,M,h2⟩:=FG l d;refine⟨λe=>M ?_,g,h2⟩;subst e;exact(below_at T.jA h2).symm.trans (below_at T.jA hi)
   .exact FH l (λe=>U (by subst e;rw[hi]at d;injection d with d;exact d.symm)) d
  .exact⟨t.dummies,by rw[yC λi e=>c ⟨i,e⟩];rfl,T.jA,λi v d=>⟨λe=>c ⟨i,e▸d⟩,i,d⟩,λi v d _=>⟨i,d⟩,P0 _,λz=>absurd z c⟩
 have e1:t.put j=({ t with place:=insertAt t.place (below t.place j) j,dummies:=D },below t.place j):=by
  unfold SetTable.put;rw[<- O]
 rw[e1];have rs:=Hq T.iC A;generalize below t.place j=p at b1 b2 u rs;have o:p<=aB.size:=by rw[<- T.e7];exact b1
 have pg:=ie t.place p j b1;have L:=ie aB p (h,x) o;have E:∀v,eN t v->eN { t with place:=insertAt t.place p j,dummies:=D } v:=λv d=>by
  rcases d with⟨i,hi⟩|⟨i,hi⟩
  .exact .inl (Hn b1 hi)
  .by_cases c:v=j
   .subst c;exact .inl ⟨p,Ho b1⟩
   .exact .inr (I i v hi c)
 refine⟨⟨rs,H,?_,?_,?_,?_,T.bC,?_,?_⟩,o,rfl,rfl,rfl,K,s⟩
 .intro i v d;rcases yN b1 d with rfl|⟨g,h'⟩
  .exact C
  .exact T.le _ _ h'
 .intro i v d;obtain⟨_,g,h'⟩:=r i v d;exact T.Fl _ _ h'
 .intro i g v d X;obtain⟨a0,a1,h2⟩:=r g v X;rcases yN b1 d with rfl|⟨a2,h3⟩
  .exact a0 rfl
  .exact T.o3 _ _ _ h3 h2
 .show(insertAt t.place p j).size=(insertAt aB p (h,x)).size;rw[pO _ _ _ b1,pO _ _ _ o,T.e7]
 .show(insertAt t.place p j).size+D.size<=t.mask;rw[pO _ _ _ b1];have:=T.full;rcases B with z|z
  .have:=s z;lia
  .omega
 .intro i v e d f;dsimp only at d ⊢;rw[pg]at d;rw[L]at f;have G:∀m:Nat,t.place[m]?=Z v->aB[m]?=Z e->∃n,aZ t.mask e.1 n=v/\∀k,k<n->eN { t with place:=insertAt t.place p j,dummies:=D } (aZ t.mask e.1 k):=λm a b=>by
   obtain⟨n,S,V⟩:=T.path m v e a b;exact⟨n,S,λk q=>E _ (V k q)⟩
  by_cases w:i<p
  .rw[if_pos w]at d f;exact G i d f
  .rw[if_neg w]at d f
   by_cases y:i=p
   .rw[if_pos y]at d f;injection d with d;injection f with f;subst f;exact⟨N,by rw[Q];exact d,λk q=>E _ (R k q)⟩
   .rw[if_neg y]at d f;exact G _ d f
end
theorem uJ:∀(k:Nat)(l:List Nat),l.Nodup->(∀x∈l,x<k)->l.length<=k
 |0,l,_,h=>by
  cases l with
  |nil=>simp
  |cons a r=>exact absurd (h a VE) (W5 a)
 |k+1,l,d,h=>by
  by_cases c:k∈l
  .have f:=uJ k (l.erase k) (d.erase k) λx b=>by
    have:=(d.mem_erase_iff).mp b;have:=h x this.2;lia
   rw[Te c]at f;lia
  .have:=uJ k l d λx b=>by
    have:=h x b;have:x≠k:=λe=>c (e▸b)
    lia
   lia
def iT(a:Array (Option Nat))(j:Nat):Prop:=∃q,a[j]?=Z (Z q)
theorem yn(hz:g.size=m+1):∀(fuel r:Nat),(∃l,r<=l/\l<r+fuel/\g[(run m h l).1]?=Z Y) ->
  (∀f d,d<=len m h f->f<r->iT g ((run m h f).1+d)) ->
  ∃n p,p<=len m h n/\layClean.free m g fuel (run m h r).1 (run m h r).2=Z ((run m h n).1+p)/\g[(run m h n).1+p]?=Z Y/\∀f d,d<=len m h f->(f<n\/(f=n/\d<p))->iT g ((run m h f).1+d)
 |0,r,⟨l,a,b,_⟩,_=>by lia
 |fuel+1,r,⟨l,a,b,c⟩,u=>by
  unfold layClean.free;have z:=qA (vb m h r);have get:∀d,d<=len m h r->∃o,g[(run m h r).1+d]?=Z o/\g.getD ((run m h r).1+d) (Z 0)=o:=λd i=>by
   unfold len at i;have j:(run m h r).1+d<g.size:=(by rw[hz];lia);exact⟨g[(run m h r).1+d],P9 j,by simp[WL,j]⟩
  cases v:(VN (runEnd m (run m h r).1+1-(run m h r).1)).find? λk=>(g.getD ((run m h r).1+k) (Z 0)).isNone with
  |some k =>
   obtain⟨t,h2,h3⟩:=List.find?_range_eq_some.mp v;have w:k<=len m h r:=(by have:=V0.mp h2;unfold len;lia);refine⟨r,k,w,rfl,?_,λf d i j=>?_⟩
   .obtain⟨o,e1,e2⟩:=get k w;rw[e2]at t;rw[e1];cases o with
    |none=>rfl
    |some _=>simp at t
   .rcases j with j|⟨rfl,j⟩
    .exact u f d i j
    .obtain⟨o,e1,e2⟩:=get d i;have:=h3 d j;rw[e2]at this;cases o with
     |none=>simp at this
     |some q=>exact⟨q,e1⟩
  |none =>
   have y:=List.find?_range_eq_none.mp v;have s:∀d,d<=len m h r->iT g ((run m h r).1+d):=λd i=>by
    obtain⟨o,e1,e2⟩:=get d i;have:=y d (by unfold len at i;lia);rw[e2]at this;cases o with
    |none=>simp at this
    |some q=>exact⟨q,e1⟩
   have A:l≠r:=λe=>by
    subst e;obtain⟨q,x⟩:=s 0 (Qa _);rw[U8,c]at x;cases x
   show ∃n p,_/\layClean.free m g fuel (run m h (r+1)).1 (run m h (r+1)).2=_/\_;refine yn hz fuel (r+1) ⟨l,⋯,⋯,c⟩ λf d i j=>?_
   by_cases e:f=r
   .subst e;exact s d i
   .exact u f d i ⋯
structure Own(m:Nat)(gY:List Int)(eY:Array (Option Nat)):Prop where
 size:eY.size=m+1
 lt:∀j q:Nat,eY[j]?=Z (Z q)->q<gY.length
 inj:∀j yX q:Nat,eY[j]?=Z (Z q)->eY[yX]?=Z (Z q)->j=yX
 all:∀(q:Nat)(h:Int),gY[q]?=Z h->∃n,eY[aZ m h n]?=Z (Z q)/\∀k,k<n->iT eY (aZ m h k)
def Own.hole(O:Own m i d)(y:i.length<=m):∃j,j<=m/\d[j]?=Z none:=by
 by_cases c:∃j,j<=m/\d[j]?=Z Y
 .exact c
 .exfalso;have o:∀j,j<=m->iT d j:=λj f=>by
   have h:d[j]?=Z (d[j]'(by rw[O.size];lia)):=P9 (by rw[O.size];lia);cases e:d[j]'(by rw[O.size];lia) with
   |none=>exact absurd ⟨j,f,by rw[h,e]⟩ c
   |some q=>exact⟨q,by rw[h,e]⟩
  have r:=uJ i.length ((VN (m+1)).map λj=>(d.getD j Y).getD 0) ?_ ?_
  .simp at r;lia
  .have l:∀j,j<=m->d[j]?=Z (Z ((d.getD j Y).getD 0)):=λj f=>by
    obtain⟨q,g⟩:=o j f;have:d.getD j Y=Z q:=(by rw[Rr,g];rfl);rw[this];exact g
   rw[List.Nodup,QT];refine QN ?_ (S6 (n:=m+1));intro a b s u t e;have w:=l a (by have:=V0.mp s;lia);have k:=l b (by have:=V0.mp u;lia);rw[<- e]at k;exact t (O.inj a b _ w k)
  .intro x v;obtain⟨j,f,e⟩:=VM.mp v;obtain⟨q,g⟩:=o j (by have:=V0.mp f;lia);have:d.getD j Y=Z q:=(by rw[Rr,g];rfl);rw[this]at e;have p:q=x:=e;rw[<- p];exact O.lt j q g
def Own.step(D:dD m)(O:Own m g l)(B:g.length<=m)(h):
  ∃j,layClean.free m l (turns m) (bits h%(m+1)) (bits h)=Z j/\Own m (g++[h]) (l.setIfInBounds j (Z g.length)):=by
 obtain⟨Q,z,e0⟩:=O.hole B;obtain⟨L,N,w⟩:=D.met h z;obtain⟨v,dW,y,p,r,G⟩:=yn (h:=h) O.size (turns m) 0 ⟨L,Qa _,by unfold turns;lia,by rw[w];exact e0⟩ (λu d _ C=>absurd C (W5 _));obtain⟨n,_,E,A⟩:=DI m h v dW y;have x:aZ m h n=(run m h v).1+dW:=by unfold aZ;rw[E];rfl
 rw[<- x]at p r;have I:∀k,k<n->iT l (aZ m h k):=λk i=>by
  obtain⟨u,d',a,b,c⟩:=A k i;unfold aZ;rw[c];exact G u d' a b
 refine⟨aZ m h n,p,?_,?_,?_,?_⟩
 .rw[XQ];exact O.size
 .intro j q f;rw[Rj]at f;rw[PY,V8]
  split at f
  .split at f
   .injection f with f;injection f with f;lia
   .cases f
  .have:=O.lt j q f;lia
 .intro j s q a b;rw[Rj]at a b
  split at a
  .rename_i e1
   split at b
   .rename_i e2;rw[<- e1,<- e2]
   .split at a
    .injection a with a;injection a with a;have:=O.lt s q b;lia
    .cases a
  .split at b
   .split at b
    .injection b with b;injection b with b;have:=O.lt j q a;lia
    .cases b
   .exact O.inj j s q a b
 .intro q h' f;have t:∀j,iT l j->iT (l.setIfInBounds (aZ m h n) (Z g.length)) j:=λj M=>by
   obtain⟨K,o⟩:=M
   by_cases c:aZ m h n=j
   .refine⟨g.length,?_⟩;rw[Rj,if_pos c,if_pos (by rw[O.size];have:=vo m h n;lia)]
   .exact⟨K,by rw[Rj,if_neg c];exact o⟩
  by_cases c:q<g.length
  .rw[Qj c]at f;obtain⟨H,a,b⟩:=O.all q h' f;refine⟨H,?_,λk i=>t _ (b k i)⟩;rw[Rj,if_neg]
   .exact a
   .intro e;rw[<- e,r]at a;cases a
  .have o:=(Qp.mp f).1;rw[PY,V8]at o;have e:q=g.length:=⋯;subst e;rw[QD (P0 _),Vb]at f;simp at f;subst f;refine⟨n,?_,λk i=>t _ (I k i)⟩;rw[Rj,if_pos rfl,if_pos (by rw[O.size];have:=vo m h n;lia)]
def J6(m):Own m [] (Yo (m+1) Y):=by
 have b:∀j q:Nat,(Yo (m+1) (Y:Option Nat))[j]?≠Z (Z q):=λj q a=>by
  rw[Array.getElem?_replicate]at a
  split at a<;>cases a
 exact⟨by simp,λj q a=>absurd a (b j q),λj c q a=>absurd a (b j q),λq h a=>by simp at a⟩
def Ij (n : dD m) (b) (i : b.size <= m) : ∃ eY, layClean m b = Z eY /\ Own m b.toList eY := by
  unfold layClean
  rw [<- Array.foldl_toList]
  have main : ∀ (a done : List Int) (eY : Array (Option Nat)), Own m done eY -> (done ++ a).length <= m ->
      ∃ qp, a.foldl (fun (f : Option (Array (Option Nat) × Nat)) h => do
        let (owner, k) <- f
        let j <- layClean.free m owner (turns m) (bits h % (m + 1)) (bits h)
        pure (owner.setIfInBounds j (Z k), k + 1)) (Z (eY, done.length)) = Z (qp, (done ++ a).length) /\ Own m (done ++ a) qp := by
    intro a
    induction a with
    | nil => intro done eY O _; exact ⟨eY, by simp, by simpa using O⟩
    | cons h r o =>
      intro done eY O l
      rw [PY, VX] at l
      obtain ⟨j, g, c⟩ := O.step n ⋯ h
      have := o (done ++ [h]) _ c (by simp; lia)
      rw [Qi] at this
      simp only [Ys, PY, VX, Wb, Sf] at this
      obtain ⟨qp, e, d⟩ := this
      refine ⟨qp, ?_, d⟩
      rw [W4]
      simp only [YX, ZJ, g, Z5] at e ⊢
      rw [e]
      simp only [PY, VX]
  obtain ⟨eY, e, O⟩ := main b.toList [] (Yo (m + 1) Y) (J6 m) ⇑i
  refine ⟨eY, ?_, by simpa using O⟩
  simp only [Wb] at e
  rw [e]; rfl
theorem tF{α β:Type}(f:α->Option β):∀(l:List α),(∀x∈l,(f x).isSome=J)->∀i:Nat,(l.filterMap f)[i]?=l[i]?.bind f
 |[],_,i=>by simp
 |x::r,h,i=>by
  have a:=h x VE;cases e:f x with
  |none=>rw[e]at a;cases a
  |some y =>
   rw[Wz,e];cases i with
   |zero=>simp[e]
   |succ i =>
    simp only[X0];exact tF f r (λz hz=>h z (VJ _ hz)) i
theorem yj{α β:Type}(f:α->Option β):∀(l:List α),(∀x∈l,(f x).isSome=J)->(l.filterMap f).length=l.length
 |[],_=>rfl
 |x::r,h=>by
  have a:=h x VE;cases e:f x with
  |none=>rw[e]at a;cases a
  |some y=>rw[Wz,e,VX,VX,yj f r λz hz=>h z (VJ _ hz)]
def H7{α:Type}(M:dD m)(d:Array (Int×α))(K:d.size<=m)(f Q)(led I):
  ∃t' x,laid m f Q led I (d.map (·.1))=Z (t',x)/\t'.mask=m/\t'.led=led/\t'.plain=I/\(x.filterMap (d[·]?)).size=d.size/\Tab (x.filterMap (d[·]?)) t'/\(x.filterMap (d[·]?)).toList.Perm d.toList/\x.toList.Perm (VN d.size):=by
 obtain⟨v,e,O⟩:=Ij M (d.map (·.1)) ⇑K;have a5:(d.map (·.1)).toList.length=d.size:=by simp
 generalize C:(VN (m+1)).filterMap (λj=>(v.getD j Y).map (j,·))=L;have u:∀j q,(j,q)∈L<->v[j]?=Z (Z q):=λj q=>by
  rw[<- C,Uj];constructor
  .rintro⟨N,bp,gS⟩;cases h0:v.getD N Y with
   |none=>rw[h0]at gS;cases gS
   |some S =>
    rw[h0]at gS;injection gS with gS;injection gS with e1 e2;subst e1;subst e2;rw[Rr]at h0;cases r:v[N]? with
    |none=>rw[r]at h0;cases h0
    |some o=>rw[r]at h0;exact Rc Z h0
  .intro h;refine⟨j,V0.mpr ?_,?_⟩
   .have:=(Qw.mp h).1;rw[O.size]at this;exact this
   .rw[Rr,h];rfl
 have T:L.Pairwise (λa b=>a.1<b.1):=by
  rw[<- C];refine List.Pairwise.filterMap _ ?_ (SD (n:=m+1));intro a V aw b g b1 y;cases h0:v.getD a Y with
  |none=>rw[h0]at g;cases g
  |some q =>
   cases r:v.getD V Y with
   |none=>rw[r]at y;cases y
   |some S =>
    rw[h0]at g;rw[r]at y;cases g;cases y;exact aw
 have lt:∀p∈L,p.2<d.size:=λp t=>by
  have:=O.lt p.1 p.2 ((u p.1 p.2).mp t);rw[a5]at this;exact this
 have aG:(L.map (·.2)).Nodup:=by
  rw[List.Nodup,QT];refine QN ?_ T;intro a b s g b2 gS;have:=O.inj a.1 b.1 a.2 ((u _ _).mp s) (by rw[gS];exact(u _ _).mp g);lia
 have H:(L.map (·.2)).Perm (VN d.size):=by
  refine(Uo aG S6).mpr λq=>?_
  rw[V0,VM];constructor
  .rintro⟨p,t,rfl⟩;exact lt p t
  .intro w;obtain⟨n,a,_⟩:=O.all q (d[q].1) (by rw[Qm,Zc,P9 w];rfl);exact⟨(_,q),(u _ _).mpr a,rfl⟩
 have G:L.length=d.size:=by have:=H.length_eq;simpa using this
 have R:∀q∈L.map (·.2),(d[q]?).isSome=true:=λq w=>by
  obtain⟨p,t,rfl⟩:=VM.mp w;rw[P9 (lt p t)];rfl
 have aJ:∀q∈VN d.size,(d[q]?).isSome=true:=λq w=>by
  rw[P9 (V0.mp w)];rfl
 have B:((L.map (·.2)).toArray.filterMap (d[·]?)).toList=(L.map (·.2)).filterMap (d[·]?):=by simp
 have a0:∀(i:Nat),((L.map (·.2)).toArray.filterMap (d[·]?))[i]?=(L[i]?).bind λp=>d[p.2]?:=by
  intro i;rw[<- Qm,B,tF _ _ R,Qh];cases L[i]?<;>rfl
 have U:((L.map (·.2)).toArray.filterMap (d[·]?)).size=d.size:=by
  rw[<- VK,B,yj _ _ R,VH,G]
 have aL:((L.map (·.2)).toArray.filterMap (d[·]?)).toList.Perm d.toList:=by
  rw[B];refine(H.filterMap (d[·]?)).trans (List.Perm.of_eq ?_);refine RU λi=>?_
  rw[tF _ _ aJ]
  by_cases c:i<d.size
  .rw[Rx c];simp
  .rw[Qu ⇑c,Qu ⇑c];rfl
 refine⟨{ mask:=m,place:=(L.map (·.1)).toArray,dummies:=#[],finger:=f,led,moves:=Q,plain:=I },(L.map (·.2)).toArray,?_,rfl,rfl,rfl,U,⟨?_,λi j a b _ h=>by simp at h,?_,λi j h=>by simp at h,λi E j _ h=>by simp at h,?_,M,?_,?_⟩,aL,⇑H⟩
 .unfold laid;rw[e];simp only[YX,ZJ,Z5,C]
 .intro i j a b a3 s g;simp only[SP,Qh]at s g;cases z:L[i]? with
  |none=>rw[z]at s;cases s
  |some bf =>
   cases A:L[j]? with
   |none=>rw[A]at g;cases g
   |some bh =>
    rw[z]at s;rw[A]at g;cases s;cases g;obtain⟨r,e1⟩:=Qp.mp z;obtain⟨h2,e2⟩:=Qp.mp A;have:=R9.mp T i j r h2 a3;rw[e1,e2]at this;exact this
 .intro i j hi;simp only[SP,Qh]at hi;cases l:L[i]? with
  |none=>rw[l]at hi;cases hi
  |some p =>
   rw[l]at hi;cases hi;have:=(u p.1 p.2).mp (Rd l);have:=(Qw.mp this).1;rw[O.size]at this;show p.1<=m;lia
 .show(L.map (·.1)).toArray.size=_;rw[U];simp[G]
 .show(L.map (·.1)).toArray.size+0<=m;simp[G];exact K
 .intro i j gS hi D;simp only[SP,Qh]at hi;rw[a0]at D;cases l:L[i]? with
  |none=>rw[l]at hi;cases hi
  |some p =>
   rw[l]at hi D;cases hi;have t:=(u p.1 p.2).mp (Rd l);have a1:d[p.2]?=Z gS:=D;obtain⟨n,a,b⟩:=O.all p.2 gS.1 (by rw[Qm,Zc,a1];rfl);refine⟨n,O.inj _ _ _ a t,λk a4=>?_⟩;obtain⟨S,aA⟩:=b k a4;obtain⟨E,a2,X⟩:=RG.mp ((u _ _).mpr aA);refine .inl ⟨E,?_⟩;show(L.map (·.1)).toArray[E]?=_;simp only[SP,Qh];rw[P4 a2,X];rfl
end el
end
section
namespace Pv
open PySem el PySem.SetTable
section
variable{prog:Wd}{w:Wo}{A:Wg}{E:VI->VL->Prop}{s:VL}
def eO(prog:Wd)(w:Wo)(h:We)(a:List Int)(b:VU):Prop:=IsTupleKey (intKind prog w) h a b
abbrev c7(prog:Wd)(w:Wo)(a:List Int):Int:=tupleKeyHash (intKind prog w) a
def f3(prog:Wd)(w:Wo)(h:We)(e:Int×VI)(a:List Int):Prop:=∃b,e.2=.ref b/\e.1=c7 prog w a/\eO prog w h a b
def eO.kept(x:eO prog w h d b)(k:∀o,h.get? b=Z o->h'.get? b=Z o):eO prog w h' d b :=
 let ⟨o,c,n,a,r⟩:=x;⟨o,c,n,k o a,r⟩
def eO.ne{f e t}(x:eO prog w h k b)(i:h.get? a=Z o)(g:o.data=.set f e t):b≠a:=by
 rintro rfl;obtain⟨l,j,n,d,_,c,_⟩:=x;rw[i]at d;cases d;rw[g]at c;cases c
def xf(f:eO prog w s.heap q a)(h:Q VF s):VO M A (Xn 8 (.ref a)) Q E s:=by
 have i:s.TypeIs (.ref a) "tuple":=Zp f;obtain⟨o,p,n,k,_,j,hi⟩:=f;unfold Xn;refine PV (Sx i ?_);dsimp only;rw[if_pos (by rfl)];refine PV (VG ?_);simp only[RA,PZ,Qs];refine PV (Vk k j ?_);dsimp only;refine PV ?_;rw[<- Zd];refine TO _ (λg r s'=>r.1=Y/\s'=s/\∀v∈g,carriedByValue v=J) _ ?_ ?_ _ _ ⟨rfl,rfl,hi.byValue⟩
 .rintro v g r s' ⟨c,rfl,d⟩;have m:=d v VE;have e:Xn 7 v=pure false:=by
   cases v with
   |ref b=>simp[carriedByValue]at m
   |_=>unfold Xn;rfl
  rw[e];refine PV (VG ?_);simp only[PZ,Qs];exact VG ⟨rfl,rfl,λu l=>d u (VJ _ l)⟩
 .rintro⟨t,x⟩ s' ⟨c,rfl,_⟩;simp only at c;subst c;exact VG h
def MB{stored:List VI}(i:eO prog w s.heap m b)(k:∀v∈stored,∃c a,v=.ref c/\eO prog w s.heap a c)(h:Q VF s):
  VO (VW prog w) A (searchCouldBeSeen (.ref b) stored) Q E s:=by
 unfold searchCouldBeSeen;refine PV ?_;refine TO _ (λe r s'=>r.1=Y/\s'=s/\∀v∈e,∃c a,v=.ref c/\eO prog w s.heap a c) _ ?_ ?_ _ _ ⟨rfl,rfl,k⟩
 .rintro v e r s' ⟨d,rfl,f⟩;obtain⟨c,a,rfl,g⟩:=f v VE;have j:∀v∈e,∃c a,v=.ref c/\eO prog w s'.heap a c:=λu l=>f u (VJ _ l)
  dsimp only
  split
  .exact VG ⟨rfl,rfl,j⟩
  .refine PV (Yt i ?_);simp only[RA,PZ,Qs];refine PV (Yt g ?_);simp only[RA,PZ,Qs];refine PV (xf i ?_);simp only[PZ,Qs];refine PV (xf g ?_);simp only[PZ,Qs];exact VG ⟨rfl,rfl,j⟩
 .rintro⟨n,o⟩ s' ⟨d,rfl,_⟩;simp only at d;subst d;exact VG h
def D6(j:eO prog w s.heap B a)(h:Q J s):VO (VW prog w) A (YI 8 (.ref a)) Q E s:=by
 have x:s.TypeIs (.ref a) "tuple":=Zp j;obtain⟨o,f,n,m,_,g,hi⟩:=j;unfold YI;refine PV (Vc x F.slot_tuple_hash.lookup ?_);dsimp only;refine PV (Vk m g ?_);refine PV ?_;show VO _ _ (forIn f _ _) _ _ s;rw[<- Zd];have c:∀v∈f.toList,∃i t,v=W6 i t:=by
  clear g m;generalize f.toList=l at hi
  induction hi with
  |nil=>intro v b;simp at b
  |@cons k H C I q _ z =>
   intro v b;rcases P1.mp b with rfl|b
   .obtain⟨t,e⟩:=UB q;exact⟨_,t,e⟩
   .exact z v b
 refine TO _ (λp r s'=>r.1=Y/\s'=s/\∀v∈p,∃i t,v=W6 i t) _ ?_ ?_ _ _ ⟨rfl,rfl,c⟩
 .rintro v p r s' ⟨d,rfl,c⟩;obtain⟨i,t,rfl⟩:=c v VE;have e:YI 7 (W6 i t)=pure true:=(by unfold YI;rfl);rw[e];refine PV (VG ?_);simp only[RA,PZ,Qs];exact VG ⟨rfl,rfl,λu y=>c u (VJ _ y)⟩
 .rintro⟨D,G⟩ s' ⟨d,rfl,_⟩;simp only at d;subst d;exact VG h
theorem Tab.fits{a:Array (Int×VI)}(T:Tab a t):t.fits a.size=true:=by
 unfold SetTable.fits;have b:=T.e7;have h2:=T.fill;have h3:=T.full;simp only[PW,QC,Qn];exact⟨b,by rw[h2,<- b];exact h3⟩
def Tab.GL{a:Array (Int×VI)}(T:Tab a t):t.gaveWay=false:=by
 unfold SetTable.gaveWay;rcases T.bC with e|e|e|e|e|e|e|e|e<;>rw[e]<;>rfl
theorem dD.turns{m:Nat}(h:dD m):turns m<=2100:=by unfold SetTable.turns;rcases h with e|e|e|e|e|e|e|e|e<;>rw[e]<;>lia
def dD.grow(h:dD m)(e:1<=n)(h2:n<=f)(d:f<=256)(g:f*5>=m*3):∃a,dD a/\sizeAbove (grown n)-1=a/\n*5<a*3/\n<=a/\sizeAbove (grown n)<=2048:=by
 have c:((VN 257).all λn=>decide (n=0)||(decide (sizeAbove (grown n)-1∈[7,15,31,63,127,255,511,1023,2047])&&decide (n*5<(sizeAbove (grown n)-1)*3)&&decide (n<=sizeAbove (grown n)-1)&&decide (sizeAbove (grown n)<=2048)))=true:=by decide +kernel
 have k:=Qr.mp c n (V0.mpr ⋯);simp only[RC,PW,Qn]at k;rcases k with k|⟨⟨⟨k1,k2⟩,k3⟩,b⟩
 .omega
 .refine⟨_,?_,rfl,k2,k3,b⟩;simpa[dD] using k1
theorem Bl (ec : A.units < WJ)
    (dr : s.heap.get? a = Z o) (bg : o.data = .set f kk t) (T : Tab f t) (M : Paired (f3 prog w s.heap) f.toList pW) (bJ : eO prog w s.heap a9 b)
    (e3 : N < 10 * turns t.mask) (K : ¬ eN t (aZ t.mask (c7 prog w a9) N)) (aA : ∀ k, k < N -> eN t (aZ t.mask (c7 prog w a9) k))
    (L : a9 ∉ pW -> ∀ k b, (b = VF /\ k = N \/ b = J /\ k < N /\ ∃ i : Nat, t.dummies[i]? = Z (aZ t.mask (c7 prog w a9) k)) -> R (.free (aZ t.mask (c7 prog w a9) k) b) s)
    (H : a9 ∈ pW -> ∀ r, (u = VF -> ∃ i e, r = Z i /\ f[i]? = Z e /\ f3 prog w s.heap e a9) -> R (.there r) s) :
    ∀ (fuel n : Nat) (aL : Option Probe) (C : Option Nat), n <= N -> N - n < fuel -> jQ t (c7 prog w a9) N C -> aL.getD (t.probeStart (c7 prog w a9)) = fJ (pr t.mask (c7 prog w a9) n) C ->
      (∀ k, k < n -> ∀ (i : Nat) (e : Int × VI), t.place[i]? = Z (aZ t.mask (c7 prog w a9) k) -> f[i]? = Z e -> ¬ f3 prog w s.heap e a9) ->
      VO (VW prog w) A (XR a (.ref b) (c7 prog w a9) u fuel aL) R E s
  | 0, n, aL, C, D, h2, _, _, _ => by lia
  | fuel + 1, n, aL, C, D, h2, e5, gb, aG => by
    unfold XR
    refine PV (Rz dr bg (Tab.fits T) ?_)
    dsimp only
    rw [Tab.GL T]
    simp only [PZ, Qs]
    rw [gb]
    have a3 : ∀ (i : Nat) (e : Int × VI), f[i]? = Z e -> (fun i => (f[i]?.map (·.1)).getD 0) i = e.1 := fun i e h => by simp [h]
    generalize es : t.probe _ (c7 prog w a9) (fJ (pr t.mask (c7 prog w a9) n) C) = X
    have di : ∀ (i : Nat) (e : Int × VI), f[i]? = Z e -> ∃ fG, fG ∈ pW /\ f3 prog w s.heap e fG := fun i e h => by
      have m : e ∈ f.toList := by rw [<- Qm] at h; exact Rd h
      clear a3 aG K aA H L
      generalize f.toList = l at M m
      induction M with
      | nil => simp at m
      | cons D _ dh =>
        rcases P1.mp m with rfl | m
        · exact ⟨_, VE, D⟩
        · obtain ⟨fG, a1, a2⟩ := dh m
          exact ⟨fG, VJ _ a1, a2⟩
    rcases Av (h := c7 prog w a9) (hashAt := fun i => (f[i]?.map (·.1)).getD 0) T.iC T.jA T.o3 K aA (10 * turns t.mask) n C D ⋯ e5 with ⟨k, i, V, b1, b2, O, f2, Q, bq, S⟩ | ⟨Q, V, bq, S⟩
    · have U : X = _ := es.symm.trans S
      rw [U]
      dsimp only
      have hi : i < f.size := by rw [<- T.e7]; exact (Qw.mp O).1
      have p : f[i]? = Z f[i] := P9 hi
      obtain ⟨fG, dg, c, bI, x, a4⟩ := di i _ p
      have eD : VO (VW prog w) A (do
          let Z (_, y) := f[i]? | unsupported "internal:set-entry"
          let dW <- Zl [y] (eqBool y (.ref b))
          let (eQ, _, t') <- setState a
          if u && dW then return aac Y
          let Z same := t'.sameMemory t.moves t.mask | unsupported "set.changed-during-lookup:is-the-new-block-at-the-old-address"
          let f0 <- match (if same then t'.slot (aZ t.mask (c7 prog w a9) k) else .empty) with
            | .live g => match eQ[g]? with
              | some (_, f1) => do pure (if <- isSame f1 y then Z g else Y)
              | none => pure Y
            | _ => pure Y
          match f0 with
          | none => ZF "set.search.anew"; XR a (.ref b) (c7 prog w a9) u fuel Y
          | some g => if dW then return aac (Z g) else XR a (.ref b) (c7 prog w a9) u fuel (Z (fJ (pr t.mask (c7 prog w a9) (k + 1)) V))) R E s := by
        rw [p]
        generalize ht : f[i] = e0 at bI x p
        obtain ⟨f4, hs⟩ := e0
        dsimp only at bI x ⊢
        subst bI
        refine PV (RJ (wpAny_eqBool_tuple ec a4 bJ ?_))
        refine PV (Rz dr bg (Tab.fits T) ?_)
        dsimp only
        have same : t.sameMemory t.moves t.mask = Z true := by unfold SetTable.sameMemory; simp
        by_cases q : fG = a9
        · subst q
          simp only [decide_true, Bool.and_true]
          cases u
          · simp only [PZ, Qs]
            rw [same]
            dsimp only
            rw [if_pos rfl, kK T.iC O]
            dsimp only
            rw [p]
            dsimp only
            refine PV (Yu (PV (VG ?_)))
            rw [if_pos rfl]
            dsimp only
            first | exact VG (H dg _ fun _ => ⟨i, _, rfl, p, c, rfl, x, a4⟩) | (rw [if_pos trivial]; exact VG (H dg _ fun _ => ⟨i, _, rfl, p, c, rfl, x, a4⟩))
          · simp only [Q3]
            exact VG (H dg _ fun z => by cases z)
        · simp only [decide_eq_false q, WH, PZ, Qs]
          rw [same]
          dsimp only
          rw [if_pos rfl, kK T.iC O]
          dsimp only
          rw [p]
          dsimp only
          refine PV (Yu (PV (VG ?_)))
          rw [if_pos rfl]
          dsimp only
          refine Bl ec dr bg T M bJ e3 K aA L H fuel (k + 1) _ V ⋯ ⋯ bq rfl fun aJ f8 g a0 cZ B I => ?_
          by_cases ed : aJ < n
          · exact aG aJ ed g a0 cZ B I
          · by_cases bH : aJ = k
            · subst bH
              have e1 : g = i := T.inj cZ O
              subst e1
              rw [p] at B
              cases B
              obtain ⟨lB, et, _, e4⟩ := I
              cases et
              exact q (IsTupleKey.inj a4 e4)
            · obtain ⟨_, _, eE, _⟩ := I
              exact Q aJ ⋯ ⋯ g cZ ((a3 g a0 B).trans eE)
      cases hu : t.led
      · simp only [Vj, Q3]
        refine PV (MB bJ (fun v fP => ?_) ?_)
        · obtain ⟨e, B, rfl⟩ := VM.mp fP
          have m : e ∈ f.toList := by
            rw [Array.toList_filter] at B
            exact (QH.mp B).1
          obtain ⟨j, G⟩ := Yv.mp m
          obtain ⟨gT, _, bH, e2, _, h2⟩ := di j e (by rw [<- Qm]; exact G)
          exact ⟨bH, gT, e2, h2⟩
        · simp only [PZ, Qs]
          exact eD
      · simp only [RA, PZ, Qs]
        exact eD
    · have U : X = _ := es.symm.trans S
      rw [U]
      dsimp only
      have eC : a9 ∉ pW := fun a5 => by
        obtain ⟨e, m, I⟩ : ∃ e ∈ f.toList, f3 prog w s.heap e a9 := by
          clear a3 aG K aA H L di Q S U
          generalize f.toList = l at M
          induction M with
          | nil => simp at a5
          | @cons a0 fG _ _ D _ dh =>
            rcases P1.mp a5 with rfl | a5
            · exact ⟨a0, VE, D⟩
            · obtain ⟨e, a1, a2⟩ := dh a5
              exact ⟨e, VJ _ a1, a2⟩
        obtain ⟨j, G⟩ := Yv.mp m
        rw [Qm] at G
        obtain ⟨_, _, x, _⟩ := id I
        obtain ⟨k, cY, aw⟩ := T.met K G x
        by_cases c : k < n
        · exact aG k c j e aw G I
        · exact Q k ⋯ cY j aw ((a3 j e G).trans x)
      cases V with
      | none => exact VG (L eC N VF (.inl ⟨rfl, rfl⟩))
      | some d =>
        dsimp only
        obtain ⟨k, cY, aw, i, hi⟩ := bq d rfl
        subst aw
        have i5 : t.slot (aZ t.mask (c7 prog w a9) k) = .dummy := BF T.jA (fun g e => T.o3 _ _ _ e hi) hi
        have hz : (u && t.slot (aZ t.mask (c7 prog w a9) k) != .dummy) = false := by rw [i5]; cases u <;> rfl
        rw [hz]
        simp only [PZ, Qs]
        exact VG (L eC k J (.inr ⟨rfl, cY, i, hi⟩))
def oH(M:VI->Prop)(prog:Wd)(w:Wo)(h:We)(a:VU)(c:Nat)(d:List (List Int)):Prop :=
 ∃o b f t,h.get? a=Z o/\o.ExactSet/\o.data=.set b f t/\Tab b t/\t.fill*5<t.mask*3/\t.fill<=c/\t.plain=J/\(t.led=J<->w.params.followText "set-order"=VF)/\Paired (λe g=>f3 prog w h e g/\M e.2) b.toList d/\d.Nodup
def kX(M:VI->Prop)(prog:Wd)(w:Wo)(h:We)(a:VU)(b:List (List Int)):Prop:=oH M prog w h a b.length b
def Paired.perm{α β:Type}{F:α->β->Prop}{l1 l2:List α}(p:l1.Perm l2):∀{a:List β},Paired F l2 a->∃fG,fG.Perm a/\Paired F l1 fG:=by
 induction p with
 |nil=>intro a h;cases h;exact⟨[],.refl _,.nil⟩
 |cons x _ c =>
  intro a h;cases h with
  |cons b t =>
   obtain⟨fG,f,h'⟩:=c t;exact⟨_::fG,f.cons _,.cons b h'⟩
 |swap x y l =>
  intro a h;cases h with
  |cons b t =>
   cases t with
   |cons h2 t=>exact⟨_::_::_,Xl _ _ _,.cons h2 (.cons b t)⟩
 |trans _ _ d e =>
  intro a h;obtain⟨k1,p1,b⟩:=e h;obtain⟨k2,p2,h2⟩:=d b;exact⟨k2,p2.trans p1,h2⟩
theorem Paired.len{α β:Type}{F:α->β->Prop}:∀{l:List α}{a:List β},Paired F l a->l.length=a.length
 |_,_,.nil=>rfl
 |_,_,.cons _ t=>by simp[Paired.len t]
theorem Paired.mp{α β:Type}{F G:α->β->Prop}(f:∀a b,F a b->G a b):∀{l:List α}{c:List β},Paired F l c->Paired G l c
 |_,_,.nil=>.nil
 |_,_,.cons h t=>.cons (f _ _ h) (Paired.mp f t)
def f3.move{d b t}(g:h.get? a=Z o)(f:o.data=.set d b t)(j:Wr a h h')(x:f3 prog w h e a9):f3 prog w h' e a9 :=
 let ⟨c,e1,e2,e3⟩:=x;⟨c,e1,e2,e3.kept λk i=>(j.2 c (e3.ne g f)).trans i⟩
def CY(g3:A.units<WJ)(fP:oH M prog w s.heap a c q)(X:eO prog w s.heap g b)(i5:M (.ref b))(h5:c<256)(h:∀h' y r,Wr a s.heap h'->oH M prog w h' a (if g∈q then c else c+1) y->y.Perm (if g∈q then q else g::q)->Q r { s with heap:=h' }):
  VO (VW prog w) A (Zq a (.ref b) (c7 prog w g)) Q E s:=by
 obtain⟨o,l,U,t,v,V,p,T,a2,f0,L,a1,K,eC⟩:=fP;obtain⟨N,gb,cZ,es⟩:=Gx T.bC T.full (c7 prog w g);have h3:l.size=q.length:=by have:=Paired.len K;simpa using this
 unfold Zq setAddHashedIn;refine RJ (PV (Rz v p (Tab.fits T) ?_));dsimp only;have gT:byScan (.ref b) l=false:=by unfold byScan;simp[Value.scannable]
 rw[gT];simp only[PZ,Qs];refine PV ?_;unfold setSearch;refine Bl g3 v p T (Paired.mp (λ_ _ x=>x.1) K) X gb cZ es (λa3 k ni a0=>?_) (λdi r _=>?_) 100000 0 Y Y (Qa _) ?_ (λ_ z=>by cases z) rfl (λk dW=>absurd dW (W5 k))
 .-- gW cP gX
  dsimp only;have kk:=T.fill;have hsz:=T.e7;have f4:t.place.size+t.dummies.size+1<=t.mask:=by
   rw[kk]at a2;rw[hsz];rcases T.bC with e|e|e|e|e|e|e|e|e<;>rw[e]at a2 ⊢<;>lia
  have h2:k<=N:=(by rcases a0 with⟨_,z⟩|⟨_,z,_⟩<;>lia);have g1:∀i:Nat,t.place[i]?≠Z (aZ t.mask (c7 prog w g) k):=λi e=>by
   rcases a0 with⟨_,z⟩|⟨_,_,jg,z⟩
   .subst z;exact cZ (.inl ⟨i,e⟩)
   .exact T.o3 _ _ _ e z
  obtain⟨u,b1,b2,D,H,bq,R⟩:=T.put (x:=VY b) g1 (λpn dW=>es pn ⋯) (.inr f4);refine PV (Rz v p (Tab.fits T) ?_);dsimp only;generalize kl:t.put (aZ t.mask (c7 prog w g) k)=P at u b1 b2 D H bq R;obtain⟨f,p1⟩:=P;dsimp only at u b1 b2 D H bq R ⊢;rw[D,L];simp only[Q3];refine PV (D6 X ?_);simp only[Q3];have eD:=Hp l p1 (c7 prog w g,VY b) b1;have aw:(insertAt l p1 (c7 prog w g,VY b)).size=l.size+1:=pO _ _ _ b1;have f1:Paired (λe g=>f3 prog w s.heap e g/\M e.2) ((c7 prog w g,VY b)::l.toList) (g::q):=.cons ⟨⟨b,rfl,rfl,X⟩,i5⟩ K;obtain⟨et,aG,aJ⟩:=Paired.perm eD f1;have ec:et.Nodup:=(aG.nodup_iff).mpr (QR.mpr ⟨a3,eC⟩);generalize h0:insertAt l p1 (c7 prog w g,VY b)=d at u eD aw aJ;have aI:f.fill=d.size+f.dummies.size:=u.fill;have a5:d.size<=sizeLine:=(by rw[aw,V7];lia);refine PV (wpAny_storeSet_of v p ?_ a5);have I:(s.heap.update a (Xf d f)).get? a=Z { o with data:=.set d (U+1) f }:=by
   have:=QE (Xf d f) v (by rw[ZK d f p];rfl);rw[ZK d f p]at this;exact this
  have a4:=Ry s.heap a (Xf d f);have eE:∀{h':We},Wr a s.heap h'->∀(e:Int×VI)(aA:List Int),(f3 prog w s.heap e aA/\M e.2)->(f3 prog w h' e aA/\M e.2):=λ{h'} g2 e aA x=>⟨x.1.move v p g2,x.2⟩;have bI:∀h' y,Wr a s.heap h'->oH M prog w h' a (c+1) y->y.Perm (g::q)->Q J { s with heap:=h' }:=λh' y aL bk jf=>h h' y J aL (by rw[if_neg a3];exact bk) (by rw[if_neg a3];exact jf)
  have e0:f.fill*5<f.mask*3->f.fill<=c+1->Q J { s with heap:=s.heap.update a (Xf d f) }:=λaL bk =>
   bI _ et a4 ⟨_,_,_,f,I,V,rfl,u,aL,bk,by rw[D];exact L,by rw[H];exact a1,Paired.mp (eE a4) aJ,ec⟩ aG
  rcases a0 with⟨rfl,_⟩|⟨rfl,_,lB⟩
  .by_cases O:f.tooFull=J
   .simp only[O,Vj,Vt,Q3];have G:f.fill*5>=f.mask*3:=(by unfold ZL at O;simpa using O);obtain⟨m,ht,f8,hu,gx,h4⟩:=dD.grow (n:=d.size) u.bC ⋯ (show d.size<=f.fill by lia) ⋯ G;refine PV ?_;unfold setRelay;refine PV (Rz I rfl (Tab.fits u) ?_);dsimp only;rw[<- aw];have a5:¬sizeAbove (grown d.size)>sizeLine:=(by rw[V7];lia);rw[if_neg a5];obtain⟨j,B,e1,e2,e3,e4,S,bH,e5,_⟩:=H7 (α:=VI) ht d gx f.finger (f.movedTo m) f.led f.plain;have C:f.relaid (d.map (·.1)) (grown d.size)=Z (j,B):=by
     unfold Z6;rw[f8];exact e1
    have f2:j.dummies=#[]:=by
     unfold Z6 SetTable.laid at C;cases z:layClean (sizeAbove (grown d.size)-1) (d.map (·.1)) with
     |none=>rw[z]at C;cases C
     |some nq=>rw[z]at C;cases C;rfl
    have dh:j.fill=d.size:=(by rw[bH.fill,f2,S];rfl);refine PV ?_;rw[C];show VO (VW prog w) A (if ((B.filterMap (d[·]?)).size != d.size)=J then _ else pure (B.filterMap (d[·]?),j)) _ E _;rw[if_neg (by rw[S];simp)];refine VG ?_;dsimp only;refine wpAny_storeSet_of I rfl ?_ (by rw[S,V7];lia);obtain⟨jd,eQ,je⟩:=Paired.perm e5 aJ;have hs:((s.heap.update a (Xf d f)).update a (Xf (B.filterMap (d[·]?)) j)).get? a=Z { o with data:=.set (B.filterMap (d[·]?)) (U+1+1) j }:=by
     have:=QE (Xf (B.filterMap (d[·]?)) j) I (by rw[ZK _ j rfl];rfl);rw[ZK _ j rfl]at this;exact this
    have ed:=a4.trans (Ry _ a (Xf (B.filterMap (d[·]?)) j));refine VG (bI _ jd ed ⟨_,_,_,j,hs,V,rfl,bH,by rw[dh,e2];exact hu,by rw[dh];lia,by rw[e4,D];exact L,by rw[e3,H];exact a1,Paired.mp (eE ed) je,(eQ.nodup_iff).mpr ec⟩ (eQ.trans aG))
   .have G:f.tooFull=false:=⇑O;simp only[G,WH,PZ,Qs];refine VG (e0 ?_ ⋯);unfold ZL at G;have:¬f.fill*5>=f.mask*3:=⇑G;lia
  .simp only[RA,Tq,PZ,Qs];have:=R lB;refine VG (e0 ?_ ⋯);rw[b2];lia
 .dsimp only;exact VG (h s.heap q VF (Zr a s.heap) (by rw[if_pos di];exact⟨o,l,U,t,v,V,p,T,a2,f0,L,a1,K,eC⟩) (by rw[if_pos di]))
 .have:=dD.turns T.bC;lia
def C0(m:A.units<WJ)(j:kX M prog w s.heap a c)(k:eO prog w s.heap f b)(i:M (.ref b))(l:c.length<256)(h:∀h' d r,Wr a s.heap h'->kX M prog w h' a d->d.Perm (if f∈c then c else f::c)->Q r { s with heap:=h' }):
  VO (VW prog w) A (Zq a (.ref b) (c7 prog w f)) Q E s :=
 CY m j k i l λh' d r n o g=>h h' d r n (by
  have e:d.length=if f∈c then c.length else c.length+1:=(by rw[g.length_eq];split<;>rfl);unfold kX;rw[e];exact o) g
def MI(f:A.units<WJ)(j:kX M prog w s.heap a c)(e:eO prog w s.heap g b)(i:M (.ref b))(k:c.length<256)(h:∀h' tk d r,s.toks<=tk->Wr a s.heap h'->kX M prog w h' a d->d.Perm (if g∈c then c else g::c)->Q r { s with heap:=h',toks:=tk }):
  VO (VW prog w) A (setAdd a (.ref b)) Q E s:=by
 unfold setAdd;refine RJ (PV (wpAny_pyHash_tuple f e ?_));exact C0 (s:={ s with toks:=_ }) f j e i k λh' d r l m n=>h h' _ d r (QB _ _) l m n
end
end Pv
end
section
namespace Pv
open PySem PySem.Spec PyProof.Rows el PySem.SetTable
section
variable{prog:Wd}{w:Wo}
structure ry(prog:Wd)(w:Wo)(κ:Type)[DecidableEq κ] where
 Row:We->VI->κ->Prop
 Set:We->VU->List κ->Prop
 fresh:∀(h:We)(a:VU),h.get? a=Z { cls:=.type "set",dict:=Y,data:=.set #[] 0 (.fresh 0 0 (!w.params.followText "set-order")) }->Set h a []
 moved:∀{h h':We}{a:VU}{a9:List κ},Set h a a9->(∀o,h.get? a=Z o->h'.get? a=Z o)->(∀b o,h.get? b=Z o->o.cls=.type "tuple"->h'.get? b=Z o)->Set h' a a9
 A0:∀{h h':We}{v:VI}{k:κ},Row h v k->(∀b o,h.get? b=Z o->o.cls=.type "tuple"->h'.get? b=Z o)->Row h' v k
 zY:∀{h:We}{a:VU}{a9:List κ},Set h a a9->∀o,h.get? a=Z o->o.cls≠.type "tuple"
 add:∀{A:Wg}{E:VI->VL->Prop}{s:VL}{a:VU}{v:VI}{k:κ}{a9:List κ}{Q:Bool->VL->Prop},A.units<WJ->Set s.heap a a9->Row s.heap v k->a9.length<256 ->
  (∀h' tk fG r,s.toks<=tk->Wr a s.heap h'->Set h' a fG->fG.Perm (if k∈a9 then a9 else k::a9)->Q r { s with heap:=h',toks:=tk })->VO (VW prog w) A (setAdd a v) Q E s
section
variable{κ:Type}[DecidableEq κ]
abbrev met(a:List κ):Nat->List κ
 |0=>[]
 |i+1=>match a[i]? with
  |some k=>if k∈met a i then met a i else k::met a i
  |none=>met a i
theorem qe(a:List κ):∀(i:Nat),i<=a.length->∀k,k∈met a i<->k∈a.take i
 |0,_,k=>by simp[met]
 |i+1,hi,k=>by
  have d:=qe a i ⋯ k;have b:a[i]?=Z a[i]:=P4 ⋯;have e:a.take (i+1)=a.take i++[a[i]]:=(by rw[List.take_succ,b];rfl);unfold met;rw[b,e,P8,<- d,Qo];dsimp only
  split
  .rename_i c;constructor
   .exact .inl
   .rintro(h|h)
    .exact h
    .rw[h];exact c
  .rw[P1];exact⟨λh=>h.symm,λh=>h.symm⟩
theorem nH(a:List κ):∀i,(met a i).Nodup
 |0=>Tt
 |i+1=>by
  unfold met
  split
  .split
   .exact nH a i
   .rename_i c;exact QR.mpr ⟨c,nH a i⟩
  .exact nH a i
def Ku{a:List κ}(h:l.Perm m)(h':a.Perm (if k∈l then l else k::l)):a.Perm (if k∈m then m else k::m):=by
 by_cases c:k∈l
 .rw[if_pos c]at h';rw[if_pos (h.mem_iff.mp c)];exact h'.trans h
 .rw[if_neg c]at h';rw[if_neg (λz=>c (h.mem_iff.mpr z))];exact h'.trans (h.cons k)
def OV(K:ry prog w κ){A:Wg}{R:Result->VL->Prop}{I:VU}{x wr:List VU}{n:Nat}{P:Nat->VI->Prop}{St:Nat->VL->Prop}{G:Array GenState->Array GenState->Prop}(W:WalksS prog w A.in1 I x wr G n P St)(S:VU)(z:S∉x)(a3:A.in1.units<WJ)(j:List κ)(h0:We)(H:∀i s,St i s->∀b∈wr,∀o,s.heap.get? b=Z o->o.cls≠.type "tuple")(a4:∀i v,P i v->∃k,j[i]?=Z k/\K.Row h0 v k)(c:∀i,i<n->(met j i).length<256):
  ∀(k i:Nat)(s:VL),n-i=k->i<=n->St i s->(∀b o,h0.get? b=Z o->o.cls=.type "tuple"->s.heap.get? b=Z o)->(∃l,K.Set s.heap S l/\l.Perm (met j i)) ->
   (∀s' l,Moved (S::wr) G s s'->K.Set s'.heap S l->l.Perm (met j n)->R (.ok (.ret .none)) s') ->
   Xy (VW prog w) A (.builtin "set.update.loop" ⟨[.ref S,.ref I],[]⟩) R s:=by
 have B:S∉wr:=λh=>z (W.sub _ h)
 have E:∀b∈wr,b∈S::wr:=λb c=>VJ _ c
 intro k
 induction k with
 |zero =>
  rintro i s T hi f C ⟨l,m,g⟩ hR;have Q:i=n:=⋯;subst Q;refine Rk Tb ?_;rw[RH RX _];show VO _ A.in1 (Xi (.ref I)>>=_) _ _ s;refine PV (W.done s _ _ f λs' d=>?_);show VO _ A.in1 (ret Value.none) _ _ s';exact VG (hR s' l (d.mono E) (K.moved m (λo e=>d.heap S o B e) λb o e a=>d.heap b o (λp=>H _ s f b p o e a) e) g)
 |succ k a5 =>
  rintro i s T hi f C ⟨l,m,g⟩ hR;have q:i<n:=⋯;refine Rk Tb ?_;rw[RH RX _];show VO _ A.in1 (Xi (.ref I)>>=_) _ _ s;refine PV (W.item i s _ _ q f λv s' M a2 d=>?_);obtain⟨key,V,O⟩:=a4 i v M;have tk:∀b o,s.heap.get? b=Z o->o.cls=.type "tuple"->s'.heap.get? b=Z o:=λb o e a=>d.heap b o (λp=>H _ s f b p o e a) e
  have y:K.Set s'.heap S l:=K.moved m (λo e=>d.heap S o B e) tk;have D:∀b o,h0.get? b=Z o->o.cls=.type "tuple"->s'.heap.get? b=Z o:=λb o e a=>tk b o (C b o e a) a
  have U:K.Row s'.heap v key:=K.A0 O D;show VO _ A.in1 (Zl [v] (setAdd S v)>>=_) _ _ s';refine PV (RJ (K.add a3 y U (by rw[g.length_eq];exact c i q) λh' b1 aw r L t aJ aL=>?_));have a1:∀b o,s'.heap.get? b=Z o->o.cls=.type "tuple"->b≠S:=λb o e a=>by
   rintro rfl;exact K.zY y o e a
  refine VG ⟨T2 RX _,a5 (i+1) _ ⋯ q (W.frame _ s' _ _ a2 L λb c o e=>?_) (λb o e a=>?_) ⟨aw,aJ,?_⟩ λaG aA a0 N X=>?_⟩
  .rw[t.2 b (λh:b=S=>z (by rw[<- h];exact c))];exact e
  .have u:=D b o e a;show h'.get? b=Z o;rw[t.2 b (a1 b o u a)];exact u
  .unfold met;rw[V];exact Ku g aL
  .refine hR aG aA (Moved.trans W.gtrans ((d.mono E).then_heap L λb o c e=>?_) a0) N X;rw[t.2 b (λh:b=S=>c (by rw[h];exact VE))];exact e
end
def n6(a)(h:Q₁ (.ref s.heap.objs.size) { s with heap:=s.heap.push { cls:=.type "set",dict:=Y,data:=.set #[] 0 (.fresh 0 0 (!w.params.followText "set-order")) } }):
  Xy (VW prog w) A (.call (.builtin "set.__new__") ⟨[.type "set",a],[]⟩) (wants Q₁ E) s:=by
 refine codeAny_of_tree ?_;show VO _ A.in1 (do X1 "set.__new__" ⟨[.type "set",a],[]⟩;again (.builtin "set.__new__" ⟨[.type "set",a],[]⟩)) _ _ s;refine PV (Vl (F.newCall_set_1 a) (VG ⟨T2 F.plain_set_new _,Rk F.entry_set_new ?_⟩));rw[RH F.plain_set_new _];unfold WN.«set.__new__» Builtin.Frozenset.newClass;have c:=sub_set_self;obtain⟨b,g,d,tk,os⟩:=s;dsimp only
 wp_walk
 refine S7 (VG ?_);dsimp only;simp only[newObj];refine PV (wpAny_alloc (VG ?_));exact VG h
def OA(led):Tab (α:=VI) #[] (aad 0 0 led):=by
 refine⟨λi j a b _ h=>?_,λi j a b _ h=>?_,λi j h=>?_,λi j h=>?_,λi c j h=>?_,rfl,.inl rfl,Qa _,λi j e h=>?_⟩<;>simp[aad]at h
theorem Aa{α β:Type}{F:α->β->Prop}:∀{l:List α}{b:List β},Paired F l b->∀(i:Nat)(v:α),l[i]?=Z v->∃k,b[i]?=Z k/\F v k
 |_,_,.nil,i,v,h=>by simp at h
 |_,_,.cons a t,0,v,h=>by simp at h;subst h;exact⟨_,rfl,a⟩
 |_,_,.cons a t,i+1,v,h=>by
  have:=Aa t i v ⇑h;simpa using this
def Pd(k:A.handled=Y)(n:T="list"\/T="tuple")(d:h.get? l=Z { cls:=.type T,dict:=r,data:=.seq items g,slots:=t }):
  ∃(j:WS)(St:Nat->We->Prop),j.cls≠.type "tuple"/\(∀(f:Wg)(E:VI->VL->Prop)(s:VL)(Q:VI->VL->Prop),s.heap=h->Q (.ref h.objs.size) { s with heap:=h.push j }->VO (VW prog w) f (X7 (.ref l)) Q E s) /\
   Walks prog w A h.objs.size [h.objs.size,l] [h.objs.size] items.size (λi v=>items[i]?=Z v) St/\St 0 (h.push j)/\∀i h',St i h'->∀o,h'.get? h.objs.size=Z o->o.cls≠.type "tuple":=by
 have m:l<h.objs.size:=P7 d;rcases n with rfl|rfl
 .have b:h.IsList l items:=⟨_,d,rfl,g,rfl⟩;refine⟨{ cls:=.type "list_iterator",data:=.fields #[.ref l,.int 0 0] },_,by show Wj _≠Wj _;decide,λf E s Q e q=>?_,Walks.list k h.objs.size l (Ql m) items,⟨⟨_,Qb _ rfl,rfl,rfl⟩,b.push _⟩,λi h' st o e=>?_⟩
  .subst e;exact Tx b q
  .obtain⟨⟨p,a,c,_⟩,_⟩:=st;rw[e]at a;cases a;rw[c];decide
 .have b:h.IsTuple l items:=⟨_,d,rfl,g,rfl⟩;refine⟨{ cls:=.type "tuple_iterator",data:=.fields #[.ref l,.int 0 0] },_,by show Wj _≠Wj _;decide,λf E s Q e q=>?_,Walks.tuple k h.objs.size l (Ql m) items,⟨⟨_,Qb _ rfl,rfl,rfl⟩,⟨_,PX _ d,rfl,g,rfl⟩⟩,λi h' st o e=>?_⟩
  .subst e;exact Up b q
  .obtain⟨⟨p,a,c,_⟩,_⟩:=st;rw[e]at a;cases a;rw[c];decide
def Eg {κ : Type} [DecidableEq κ] (K : ry prog w κ) {s : VL} {a : List κ} (g : T = "list" \/ T = "tuple")
    (O : A.handled = Y) (dg : A.units + 64 < WJ) (t : s.heap.get? l = Z { cls := .type T, dict := aG, data := .seq k aA, slots := aL }) (hi : Paired (K.Row s.heap) k.toList a) (d : ∀ i, i < a.length -> (met a i).length < 256)
    (h : ∀ (h' : We) (tk : Nat) (r : List κ), K.Set h' s.heap.objs.size r -> r.Perm (met a a.length) ->
      (∀ b o, b < s.heap.objs.size -> s.heap.get? b = Z o -> h'.get? b = Z o) -> Q (.ref s.heap.objs.size) { s with heap := h', toks := tk }) :
    VO (VW prog w) A (call (.type "set") [.ref l]) Q E s := by
  obtain ⟨c, cZ, bI⟩ := SE.mro
  have bH := SE.made
  have cY := SE.sub
  refine wpAny_call (codeAny_of_tree ?_)
  show VO _ _ (callAny (.type "set") _) _ _ _
  refine VG ⟨Uq _ (by decide +kernel), Rk F.entry_type_call ?_⟩
  rw [Around.under_plain (weight_type_call_type "set" [.ref l] []) rfl]
  have bf := SE.notType
  have h2 := SE.canCreate
  have bw := F.typeCall_set_1 (.ref l)
  repeat (any_goals (first | assumption | wp_step))
  refine Ue (n6 (.ref l) (E := E) (Q₁ := fun u x => ∃ led : Bool, led = (!w.params.followText "set-order") /\ u = .ref s.heap.objs.size /\ x = { s with heap := s.heap.push { cls := .type "set", dict := Y, data := .set #[] 0 (.fresh 0 0 led) } }) ⟨_, rfl, rfl, rfl⟩) fun r x n => ?_
  cases r with
  | error e => exact n
  | ok D =>
    cases D with
    | ret u =>
      obtain ⟨led, a0, rfl, rfl⟩ := n
      have q : (s.heap.push { cls := .type "set", dict := Y, data := .set #[] 0 (.fresh 0 0 led) }).get? s.heap.objs.size = Z { cls := .type "set", dict := Y, data := .set #[] 0 (.fresh 0 0 led) } := Qb _ rfl
      have L : Shared.TypeIs { s with heap := s.heap.push { cls := .type "set", dict := Y, data := .set #[] 0 (.fresh 0 0 led) } } (.ref s.heap.objs.size) "set" := ⟨_, q, rfl⟩
      have bq := SE.init.lookup
      have bh := SE.init.bind (.ref s.heap.objs.size)
      repeat (any_goals (first | assumption | wp_step))
      refine Ue (T5 (R := wants (fun r y => r = .none /\ ∃ h' tk f, y = { s with heap := h', toks := tk } /\ K.Set h' s.heap.objs.size f /\ f.Perm (met a a.length) /\
          (∀ b o, b < s.heap.objs.size -> s.heap.get? b = Z o -> h'.get? b = Z o)) E) SE.init.plain F.entry_set_init (check_set_init_1 L ?_)) fun b1 y p => ?_
      · have a3 : (s.heap.push { cls := .type "set", dict := Y, data := .set #[] 0 (.fresh 0 0 led) }).get? l = Z { cls := .type T, dict := aG, data := .seq k aA, slots := aL } := PX _ t
        have bJ : isSubtype (.type T) (.type "set") = pure false := by rcases g with rfl | rfl; exact F.sub_list_set; exact F.sub_tuple_set
        have bg : isSubtype (.type T) (.type "frozenset") = pure false := by rcases g with rfl | rfl; exact F.sub_list_frozenset; exact F.sub_tuple_frozenset
        have cO : (Wj T == Wj "dict") = false := by rcases g with rfl | rfl <;> decide
        have S : A.in1.in1.in1.handled = none := by simp [O]
        obtain ⟨dr, St, dq, U, W, st0, a2⟩ := Pd (prog := prog) (w := w) S g a3
        unfold WN.«set.__init__» noKeywords Z7
        generalize H : X7 = bp
        wp_walk
        subst H
        refine U _ _ _ _ rfl ?_
        refine PV (Tz ?_)
        have X : l < s.heap.objs.size := P7 t
        have I : s.heap.objs.size ∉ [(s.heap.push { cls := .type "set", dict := Y, data := .set #[] 0 (.fresh 0 0 led) }).objs.size, l] := by
          rw [Vm]; simp only [P1, Qo, UZ, or_false, not_or]
          exact ⟨Ql (Rw _), VC X⟩
        have a1 : k.size = a.length := by have := Paired.len hi; simpa using this
        refine OV K (W.toS) s.heap.objs.size I ?hu2 a s.heap (fun i s' st b d o e => ?nt) (fun i v aw => ?val) (fun i bk => d i ⋯) (k.size - 0) 0 _ ⋯ (Qa _)
          st0 (fun b o e _ => PX _ (PX _ e)) ⟨[], ?hS0, .refl _⟩ ?hR
        case hu2 => first | (show A.units + 1 + 1 + 1 + 1 < WJ; lia) | (show A.units + 1 + 1 + 1 < WJ; lia) | (simp [Around.in1]; lia)
        case nt =>
          rw [Qo] at d
          subst d
          exact a2 i _ st o e
        case val => exact Aa hi i v (by rw [Qm]; exact aw)
        case hS0 =>
          refine K.fresh _ _ ?_
          rw [<- a0]
          exact PX _ q
        case hR =>
          intro s' f j m a4
          obtain ⟨h', g', d', b2, aJ⟩ := s'
          have B : g' = s.gens := j.gens
          have z : d' = s.drawn := j.drawn
          have C : aJ = s.os := j.os
          subst B; subst z; subst C
          show VO _ _ _ _ _ _
          refine VG ?_
          show VO _ _ (ret Value.none) _ _ _
          refine VG ⟨rfl, h', b2, f, rfl, m, by rw [<- a1]; exact a4, fun b o d e => ?_⟩
          have M : b ≠ s.heap.objs.size := Ql d
          have N : b ≠ (s.heap.push { cls := .type "set", dict := Y, data := .set #[] 0 (.fresh 0 0 led) }).objs.size := by
            rw [Vm]; exact Ql (Zs d)
          exact j.heap b o (by simp only [P1, Qo, UZ, or_false, not_or]; exact ⟨M, N⟩) (PX _ (PX _ e))
      · cases b1 with
        | error e => exact p
        | ok G =>
          cases G with
          | ret r =>
            obtain ⟨rfl, h', tk, f, rfl, m, a5, V⟩ := p
            repeat (any_goals (first | assumption | wp_step))
            exact h _ _ f m a5 V
          | _ => exact p.elim
    | _ => exact n.elim
end
section
variable{prog:Wd}{w:Wo}
def y0(M:VI->Prop)(prog)(w):ry prog w (List Int) where
 Row:=λh v g=>∃b,v=.ref b/\eO prog w h g b/\M v
 Set:=kX M prog w
 fresh:=λh a e=>⟨_,#[],0,_,e,⟨rfl,rfl,rfl⟩,rfl,OA _,by show 0*5<7*3;decide,P0 0,rfl,by show(!w.params.followText "set-order")=J<->_;simp,.nil,Tt⟩
 moved:=λ{h h' a a5} x N k=>by
  obtain⟨o,u,q,t,H,R,S,T,U,a2,V,X,a0,a1⟩:=x;refine⟨o,u,q,t,N _ H,R,S,T,U,a2,V,X,Paired.mp (λe g ⟨⟨b,e1,e2,e3⟩,e4⟩=>⟨⟨b,e1,e2,?_⟩,e4⟩) a0,a1⟩;obtain⟨f,j,n,y,h2,h3⟩:=e3;exact⟨f,j,n,k b f y h2,h2,h3⟩
 A0:=λx k=>by
  obtain⟨b,e,⟨f,j,m,l,i,d⟩,a4⟩:=x;exact⟨b,e,⟨f,j,m,k b f l i,i,d⟩,a4⟩
 zY:=λx o e=>by
  obtain⟨aw,_,_,_,p,C,_⟩:=x;rw[e]at p;cases p;rw[C.1];decide
 add:=λ{A E s a v k g Q} L B I G h=>by
  obtain⟨b,rfl,D,z⟩:=I;refine MI L B D z G λh' tk O r a3 l i d=>h h' tk O r a3 l i ?_
  by_cases c:k∈g
  .rw[if_pos c]at d ⊢;exact d
  .rw[if_neg c]at d ⊢;exact d
end
def mf:Slot "set_iterator" "__next__" "set_iterator.__next__" :=
 .of (owner:="set_iterator") (n:="__next__") (by rw[Vf,TH];kernel_rfl) (by decide +kernel) (by decide +kernel) (by decide +kernel)
  (by first|exact .inl (by decide +kernel)|exact .inr (by decide +kernel)) (by rw[Ur];kernel_rfl)
def xH:entryFor table "set_iterator.__next__"=Z WN.«set_iterator.__next__»:=entryFor_of_tree (by kernel_rfl)
def z4:Manifest.owners.lookup (String.ofList ['r','o','t','a','r','e','t','i','_','t','e','s'].reverse)=Z Manifest.sig_set_iterator:=by kernel_rfl
def wB(a):argsOk "set_iterator.__next__" ⟨[a],[]⟩:=by
 unfold argsOk;rw[Y4 (id:="set_iterator.__next__") (n:=['_','_','t','x','e','n','_','_']) (o:=['r','o','t','a','r','e','t','i','_','t','e','s']) (by kernel_rfl) z4];kernel_rfl
def BI:Slot "set_iterator" "__iter__" "set_iterator.__iter__" :=
 .of (owner:="set_iterator") (n:="__iter__") (by rw[Vf,TH];kernel_rfl) (by decide +kernel) (by decide +kernel) (by decide +kernel)
  (by first|exact .inl (by decide +kernel)|exact .inr (by decide +kernel)) (by rw[Ur];kernel_rfl)
def Di(a):argsOk "set_iterator.__iter__" ⟨[a],[]⟩:=by
 unfold argsOk;rw[Y4 (id:="set_iterator.__iter__") (n:=['_','_','r','e','t','i','_','_']) (o:=['r','o','t','a','r','e','t','i','_','t','e','s']) (by kernel_rfl) z4];kernel_rfl
def BH:Slot "set" "__iter__" "set.__iter__" :=
 .of (owner:="set") (n:="__iter__") (by rw[Vf,TH];kernel_rfl) (by decide +kernel) (by decide +kernel) (by decide +kernel)
  (by first|exact .inl (by decide +kernel)|exact .inr (by decide +kernel)) (by rw[Ur];kernel_rfl)
def Dh(a):argsOk "set.__iter__" ⟨[a],[]⟩:=by
 unfold argsOk;rw[Y4 (id:="set.__iter__") (n:=['_','_','r','e','t','i','_','_']) (o:=['t','e','s']) (by kernel_rfl) PySem.F.owner_set];kernel_rfl
def Fv:entryFor table "set.__iter__"=Z WN.«frozenset.__iter__»:=entryFor_alias (id':="frozenset.__iter__") (by kernel_rfl) rfl (by decide +kernel) (by kernel_rfl)
def Fw:entryFor table "set_iterator.__iter__"=Z WN.«dict_keyiterator.__iter__»:=entryFor_alias (id':="dict_keyiterator.__iter__") (by kernel_rfl) rfl (by decide +kernel) (by kernel_rfl)
theorem xR{α:Type}:∀(l:List α)(i:Nat)(h:i<l.length),(l[i]::l.eraseIdx i).Perm l
 |x::r,0,_=>by simp
 |x::r,i+1,h=>by
  simp only[List.getElem_cons_succ,XY];exact(Xl _ _ _).trans ((xR r i ⇑h).cons x)
theorem Aq{α:Type}(next):∀(fuel k:Nat)(left:List α)(a:Array α),left.length<=fuel->(Zt next fuel k left a).toList.Perm (a.toList++left)
 |0,k,left,a,h=>by
  have:left=[]:=X2.mp ⋯;subst this;simp[Zt]
 |fuel+1,k,left,a,h=>by
  unfold Zt;cases left with
  |nil=>simp
  |cons x r =>
   have b:next k%(x::r).length<(x::r).length:=U9 _ (by simp)
   have c:(x::r)[next k%(x::r).length]?=Z (x::r)[next k%(x::r).length]:=P4 b;rw[c];refine(Aq next fuel (k+1) _ _ (by rw[List.length_eraseIdx_of_lt b];simp only[VX]at h ⊢;lia)).trans ?_;rw[SX,Qi];exact R7 _ (xR _ _ b)
def KG{α:Type}(next)(xs:Array α):(ZM next xs).toList.Perm xs.toList:=by
 unfold ZM;have:=Aq next xs.size 0 xs.toList #[] (by simp)
 simpa using this
section
variable{prog:Wd}{w:Wo}
structure j0(w:Wo)(o:WS)(aB:Array (Int×VI))(gU:Nat)(t:Xm):Prop where
 ex:o.ExactSet
 data:o.data=.set aB gU t
 tab:Tab aB t
 plain:t.plain=J
 led:t.led=J<->w.params.followText "set-order"=VF
abbrev eg(w:Wo)(a:VU)(b:Array (Int×VI))(c:Nat):Array (Int×VI):=if w.params.followText "set-order"=J then ZM (w.params.setOrder a c) b else b
def nQ(w)(a)(b)(c):(eg w a b c).toList.Perm b.toList:=by
 unfold eg;split
 .exact KG _ _
 .exact .refl _
abbrev slotAt(w:Wo)(t:Xm)(i:Nat):Nat:=if w.params.followText "set-order"=J then 0 else match i with
 |0=>0
 |j+1=>t.place.getD j 0+1
def jU(h:We)(c a:VU)(slot i n b:Nat):Prop:=∃o,h.get? c=Z o/\o.cls=.type "set_iterator"/\o.data=.fields #[.int slot 0,.int i 0,.ref a,.int n 0,.int b 0]
def jU.typeIs{s:VL}{slot i n b:Nat}(h:jU s.heap e a slot i n b):s.TypeIs (.ref e) "set_iterator":=let ⟨o,d,c,_⟩:=h;⟨o,d,c⟩
def DM{b:Array (Int×VI)}(T:Tab b t)(hw:w.params.followText "set-order"=VF)(hi:i<=b.size):below t.place (slotAt w t i)=i:=by
 unfold slotAt;rw[if_neg (by rw[hw];decide)];obtain⟨a,h2,h3⟩:=oM T.iC (match i with|0=>0|j+1=>t.place.getD j 0+1);rw[T.e7]at a;cases i with
 |zero =>
  dsimp only at a h2 h3
  by_cases c:below t.place 0=0
  .exact c
  .exfalso;have m:0<t.place.size:=(by rw[T.e7];lia);have:=h2 0 _ ⋯ (P9 m);lia
 |succ j =>
  have f:j<t.place.size:=(by rw[T.e7];lia);have d:t.place[j]?=Z t.place[j]:=P9 f;have k:t.place.getD j 0=t.place[j]:=(by simp[WL,f]);dsimp only at a h2 h3 ⊢;rw[k]at a h2 h3 ⊢
  by_cases g:below t.place (t.place[j]+1)<=j
  .exfalso;have:=h3 j _ g d;lia
  .by_cases h:j+1<below t.place (t.place[j]+1)
   .exfalso;have l:j+1<t.place.size:=(by rw[T.e7];lia);have e:t.place[j+1]?=Z t.place[j+1]:=P9 l;have a1:=h2 (j+1) _ h e;have a2:=T.iC j (j+1) _ _ ⋯ d e;lia
   .omega
def Bo(g:s.heap.get? a=Z o)(O:j0 w o aB b t)(hi:i<=aB.size)(h:Q ((eg w a aB b)[i]?.map λe=>(e.2,slotAt w t (i+1))) s):VO (VW prog w) A (setNext a (slotAt w t i) i b) Q E s:=by
 unfold setNext;refine PV (Rz g O.data (Tab.fits O.tab) ?_);dsimp only;unfold setsByText;refine PV (PV (S7 (VG ?_)));cases hw:w.params.followText "set-order" with
 |true =>
  have d:(VW prog w).w.params.followText "set-order"=true:=hw;simp only[d,Q3];simp only[Sj,PZ,Qs];refine PV ?_;unfold setWalk;refine PV (Rz g O.data (Tab.fits O.tab) ?_);unfold setsByText;refine PV (PV (S7 (VG ?_)));simp only[d,Q3];refine PV (S7 (VG ?_));have e1:eg w a aB b=ZM (w.params.setOrder a b) aB:=(by unfold eg;rw[if_pos hw]);have e2:∀i,slotAt w t i=0:=λi=>by unfold slotAt;rw[if_pos hw]
  rw[e1]at h;refine VG ?_;simp only[e2]at h ⊢;exact h
 |false =>
  have d:(VW prog w).w.params.followText "set-order"=false:=hw;simp only[d,PZ,Qs];have l:(!t.plain&&decide (aB.size>1))=false:=(by rw[O.plain];rfl);show VO (VW prog w) A (if (!t.plain&&decide (aB.size>1))=J then _ else _) Q E s;rw[l];simp only[PZ,Qs];have m:t.led=true:=O.led.mpr hw;refine PV ?_;show VO (VW prog w) A (if (!t.led&&!aB.isEmpty)=J then _ else pure ()) _ E s;rw[m];simp only[RA,Tq,PZ,Qs];refine VG ?_;rw[DM O.tab hw hi];have e1:eg w a aB b=aB:=(by unfold eg;rw[if_neg (by rw[hw];decide)]);rw[e1]at h;refine VG ?_
  by_cases c:i<aB.size
  .have f:aB[i]?=Z aB[i]:=P9 c;have j:i<t.place.size:=(by rw[O.tab.e7];exact c);have k:t.place[i]?=Z t.place[i]:=P9 j;rw[f]at h ⊢;rw[k];have e3:slotAt w t (i+1)=t.place[i]+1:=(by unfold slotAt;rw[if_neg (by rw[hw];decide)];simp[WL,j]);rw[e3]at h;exact h
  .have f:aB[i]?=none:=R0 ⋯;rw[f]at h ⊢;exact h
def next_item(u:s.heap.get? a=Z o)(O:j0 w o e g t)(r:jU s.heap p a (slotAt w t i) i e.size g)(z:(eg w a e g)[i]?=Z x)(B:∀h',jU h' p a (slotAt w t (i+1)) (i+1) e.size g->Wr p s.heap h'->Q (Z x.2) { s with heap:=h' }):VO (VW prog w) A (Xi (.ref p)) Q E s:=by
 obtain⟨h,k,y,b⟩:=id r;have hsz:(eg w a e g).size=e.size:=by have:=(nQ w a e g).length_eq;simpa using this
 have hi:i<=e.size:=by rw[<- hsz];exact QM (Qw.mp z).1
 have D:p≠a:=by
  rintro rfl;rw[u]at k;cases k;rw[O.data]at b;cases b
 unfold Xi;refine PV (Tf (Rt (name:=Xc "__next__") r.typeIs mf
  (Rn mf r.typeIs xH ?_ (wB _))))
 unfold WN.«set_iterator.__next__»;refine PV (m:=slotArgs _ _ _) (VG ?_);refine PV (Us k b ?_);dsimp only;refine PV (Uc u O.data (Tab.fits O.tab) ?_);simp only[Sj,PZ,Qs];simp only[Ws];refine PV (Bo u O hi ?_);rw[z];simp only[WB];have q:=QE (Wl (·.setIfInBounds 0 (Xj (slotAt w t (i+1):Nat)))) k (by obtain⟨c,d,j,l⟩:=h;simp only at b;subst b;rfl);refine PV (RB k b (by simp) ?_);have f:(Wl (·.setIfInBounds 0 (Xj (slotAt w t (i+1):Nat))) h).data=.fields #[.int (slotAt w t (i+1):Nat) 0,.int i 0,.ref a,.int e.size 0,.int g 0]:=by
  obtain⟨c,d,j,l⟩:=h;simp only at b;subst b;rfl
 have n:(Wl (·.setIfInBounds 0 (Xj (slotAt w t (i+1):Nat))) h).cls=.type "set_iterator":=by
  obtain⟨c,d,j,l⟩:=h;simp only at b y;subst b;exact y
 generalize Wl (·.setIfInBounds 0 (Xj (slotAt w t (i+1):Nat))) h=v at q f n;refine PV (RB q f (by simp) ?_);have C:=QE (Wl (·.setIfInBounds 1 (Xj ((i:Int)+1)))) q (by obtain⟨c,d,j,l⟩:=v;simp only at f;subst f;rfl);refine VG ?_;refine⟨_,rfl,VG ?_⟩;refine B _ ⟨_,C,?_,?_⟩ ((Ry ..).trans (Ry ..))
 .obtain⟨c,d,j,l⟩:=v;simp only at f n;subst f;exact n
 .obtain⟨c,d,j,l⟩:=v;simp only at f n;subst f;rfl
def next_end(k:A.handled=Y)(g:s.heap.get? a=Z o)(O:j0 w o c d t)(e:jU s.heap i a (slotAt w t c.size) c.size c.size d)(j:∀h',Heap.ExtBut i s.heap h'->Q Y { s with heap:=h' }):VO (VW prog w) A (Xi (.ref i)) Q E s:=by
 obtain⟨n,h,l,f⟩:=id e;have hsz:(eg w a c d).size=c.size:=by have:=(nQ w a c d).length_eq;simpa using this
 unfold Xi;refine PV (Tf (Rt (name:=Xc "__next__") e.typeIs mf
  (Rn mf e.typeIs xH ?_ (wB _))))
 unfold WN.«set_iterator.__next__»;refine PV (m:=slotArgs _ _ _) (VG ?_);refine PV (Us h f ?_);dsimp only;refine PV (Uc g O.data (Tab.fits O.tab) ?_);simp only[Sj,PZ,Qs];simp only[Ws];refine PV (Bo g O (P0 _) ?_);rw[R0 ⋯];simp only[Option.map_none];refine PV (RB h f (by simp) ?_);show VO _ _ (newExc (.type "StopIteration") []>>=_) _ _ _;refine PV ?_;simp only[newExc,newTuple];refine PV (QA ?_ (by size_fits));refine PV (m:=W9 _ _) (Vl (a:=Value.none) (by first|rfl|(simp only[W9];rfl)) ?_);refine QA ?_ (by size_fits);simp only[raiseNew];refine PV (Vu ?_);rw[show A.in1.handled=Y from k];refine PV (VG (ZX ?_));refine PV (TS (T:="StopIteration") (b:=J) ⟨_,Qb _ rfl,rfl⟩ Vn ?_);exact VG (j _ (((Ry ..).extBut.push _).push _))
def HD{slot i n d:Nat}(b:jU s.heap c a slot i n d)(h:Q (.ref c) s):VO (VW prog w) A (X7 (.ref c)) Q E s:=by
 refine UK b.typeIs BI (Rn BI b.typeIs Fw ?_ (Di _));show VO _ _ (ret (.ref c)) _ _ s;exact VG ⟨_,rfl,"set_iterator",_,b.typeIs,mf.lookup,h⟩
def HE(c:s.heap.get? a=Z o)(O:j0 w o d f t)(g:Q (.ref s.heap.objs.size) { s with heap:=s.heap.push { cls:=.type "set_iterator",data:=.fields #[.int 0 0,.int 0 0,.ref a,.int d.size 0,.int f 0] } }):VO (VW prog w) A (X7 (.ref a)) Q E s:=by
 have e:s.TypeIs (.ref a) "set":=⟨o,c,O.ex.1⟩;refine UK e BH (Rn BH e Fv ?_ (Dh _));unfold WN.«frozenset.__iter__» Builtin.Frozenset.slot0 slotArgs;simp only[List.isEmpty_nil,RA,PZ,↓reduceIte,bind_assoc,Wb,Sj];unfold Builtin.Frozenset.addrOf Builtin.Frozenset.sizeOf;simp only[pure_bind,bind_assoc];refine PV (Uc c O.data (Tab.fits O.tab) ?_);unfold setDrawn;simp only[bind_assoc];refine PV (Rz c O.data (Tab.fits O.tab) ?_);unfold setsByText;simp only[bind_assoc];refine PV (S7 ?_);simp only[pure_bind];have h:∀b:Bool,(!b&&(!t.plain&&decide (d.size>1)))=false:=λb=>by rw[O.plain];simp
 show VO (VW prog w) A.in1 (if (!(VW prog w).w.params.followText "set-order"&&(!t.plain&&decide (d.size>1)))=J then _ else _) _ _ s;rw[h];simp only[PZ,Qs,pure_bind];unfold setEpoch;simp only[bind_assoc,pure_bind];refine PV (Rz c O.data (Tab.fits O.tab) ?_);dsimp only;refine PV (QA (VG ⟨_,rfl,"set_iterator",_,⟨_,Qb _ rfl,rfl⟩,mf.lookup,?_⟩));exact g
def Pf(p:A.handled=Y)(q:a≠I)(O:j0 w o c d t):
  Walks prog w A I [I,a] [I] c.size (λi v=>∃x,(eg w a c d)[i]?=Z x/\v=x.2) (λi h=>jU h I a (slotAt w t i) i c.size d/\h.get? a=Z o) where
 sub:=λb f=>by simp at f;simp[f]
 frame:=λi h h' st k=>⟨let ⟨g,e,r⟩:=st.1;⟨g,k I (by simp) g e,r⟩,k a (by simp) o st.2⟩
 item:=λi s Q E hi st j=>by
  have hsz:(eg w a c d).size=c.size:=(by have:=(nQ w a c d).length_eq;simpa using this);have l:(eg w a c d)[i]?=Z (eg w a c d)[i]:=P9 ⋯;exact next_item st.2 O st.1 l λh' u m=>j _ h' s.toks ⟨_,l,rfl⟩ ⟨u,(m.2 a q).trans st.2⟩ λb g f e=>m.extBut b g (λh=>f (by simp[h])) e
 done:=λs Q E st j=>next_end p st.2 O st.1 λh' n=>j h' s.toks λb g f e=>n b g (λh=>f (by simp[h])) e
 self:=λi s Q E st j=>HD st.1 j
def G8(a:s.TypeIs (.ref r) "set")(h:Q VF s):VO (VW prog w) A (XB (.ref r)) Q E s:=by
 unfold XB;refine PV (Vc a PySem.F.slot_set_len.lookup ?_);generalize d:("set.__len__":String)=e
 wp_delta
 rw[show splitId e=Z ("set","__len__") from by subst d;decide +kernel];subst d;refine PV (TS (T:="set") (b:=J) a (by rw[Ur];kernel_rfl) ?_);refine wpAny_ite_split (λc=>absurd c ∅) (λ_=>?_);refine wpAny_ite_split (λ_=>?_) (λc=>absurd (by decide +kernel) c);refine PV (Sx a ?_);exact VG h
end
end Pv
end
section
namespace Pv
open PySem PySem.Spec PyProof.Rows PySem.W
section
def E1(i:(d==WQ)=VF)(b:s.heap.get? d=Z c)(j:c.ExactDict)(e:c.data=.dict g f)(h:Q (.ref s.heap.objs.size) { s with heap:=s.heap.push { cls:=.type "dict_keyiterator",data:=.fields #[.ref d,.int 0 0,.int g.size 0,.int f 0] } }):VO (VW prog w) A (X7 (.ref d)) Q E s:=by
 have a:s.TypeIs (.ref d) "dict":=⟨c,b,j.1⟩;refine UK a F.slot_dict_iter (Rn F.slot_dict_iter a F.entry_dict_iter ?_ (F.args_dict_iter_1 _));unfold WN.«dict.__iter__»;refine PV ?_;unfold Builtin.Dict.dictSlotNone;refine PV (wpAny_notOrdered_dict a ?_);show VO _ _ (pure (VY d)) _ _ s;refine VG ?_;show VO _ _ (Yw d>>=_) _ _ s;unfold Yw;rw[if_neg (by rw[i];exact QV)];refine PV (VG ?_);refine PV (UL b e ?_);refine PV (Vg b e ?_);refine PV (QA (VG ⟨_,rfl,"dict_keyiterator",_,⟨_,Qb _ rfl,rfl⟩,RD.lookup,?_⟩));simpa[Xj] using h
def E2(a:s.heap.IsKeyIter b d i c.size gU)(j:s.heap.get? d=Z n)(g:n.data=.dict c gU)(m:i<c.size)(k:∀h',h'.IsKeyIter b d (i+1) c.size gU->Wr b s.heap h'->Q (Z c[i].key) { s with heap:=h' }):VO (VW prog w) A (Xi (.ref b)) Q E s:=by
 obtain⟨o,f,l,e⟩:=id a;unfold Xi;refine PV (Tf (Rt (name:=Xc "__next__") a.typeIs RD
  (Rn RD a.typeIs T6 ?_ (TU _))))
 refine PV (VG ?_);refine PV ?_;refine PV ?_
 first|refine PV (RS a.typeIs (VG ?_))|refine PV (So a.typeIs (VG ?_))
 refine PV (Us f e ?_);simp only[show Xu "dict_keyiterator"=VF by decide,PZ,Qs];show VO _ _ (if (VY d==Value.none)=J then _ else _) _ _ s;rw[if_neg (show ¬((VY d==Value.none)=J) from QV)];refine PV (VG ?_);refine PV (UL j g ?_);rw[if_neg (by simp)];refine PV (VG ?_);refine PV (Vg j g ?_);rw[if_neg (by simp)];refine VG ?_;simp only[show ¬((i:Int)<0) from by lia,Qs,Ws,P9 m];refine PV ?_
 first|refine PV (RS a.typeIs (VG ?_))|refine PV (So a.typeIs (VG ?_))
 refine PV (Yx a.typeIs ?_);show VO _ _ (setField (.ref b) 1 (Xj ((i:Int)+1))>>=_) _ _ s;refine PV (RB f e (by simp) ?_);have h:(s.heap.update b (Wl (·.setIfInBounds 1 (Xj ((i:Int)+1))))).IsKeyIter b d (i+1) c.size gU :=
  ⟨_,QE _ f (SQ (RQ e _)),(Zu ..).trans l,by rw[RQ e];simp[Xj]⟩
 refine PV (RJ ?_);refine PV (Yx (s:={ s with heap:=s.heap.update b (Wl (·.setIfInBounds 1 (Xj ((i:Int)+1)))) }) h.typeIs ?_);show VO _ _ (pure c[i].key) _ _ _;exact VG (VG ⟨_,rfl,VG (k _ h (Ry ..))⟩)
def E0(n:A.handled=Y)(c:s.heap.IsKeyIter f d e.size e.size k)(j:s.heap.get? d=Z p)(h:p.data=.dict e k)(l:∀h',Heap.ExtBut f s.heap h'->Q Y { s with heap:=h' }):VO (VW prog w) A (Xi (.ref f)) Q E s:=by
 obtain⟨o,i,q,g⟩:=id c;unfold Xi;refine PV (Tf (Rt (name:=Xc "__next__") c.typeIs RD
  (Rn RD c.typeIs T6 ?_ (TU _))))
 refine PV (VG ?_);refine PV ?_;refine PV ?_
 first|refine PV (RS c.typeIs (VG ?_))|refine PV (So c.typeIs (VG ?_))
 refine PV (Us i g ?_);simp only[show Xu "dict_keyiterator"=VF by decide,PZ,Qs];show VO _ _ (if (VY d==Value.none)=J then _ else _) _ _ s;rw[if_neg (show ¬((VY d==Value.none)=J) from QV)];refine PV (VG ?_);refine PV (UL j h ?_);rw[if_neg (by simp)];refine PV (VG ?_);refine PV (Vg j h ?_);rw[if_neg (by simp)];refine VG ?_;simp only[show ¬((e.size:Int)<0) from by lia,Qs,Ws,R0 (P0 e.size)];refine PV ?_
 first|refine PV (RS c.typeIs (VG ?_))|refine PV (So c.typeIs (VG ?_))
 show VO _ _ (setField (.ref f) 0 .none>>=_) _ _ s;refine PV (RB i g (by simp) ?_);show VO _ _ (newExc (.type "StopIteration") []>>=_) _ _ _;refine PV ?_;simp only[newExc,newTuple];refine PV (QA ?_ (by size_fits));refine PV (m:=W9 _ _) (Vl (a:=Value.none) (by first|rfl|(simp only[W9];rfl)) ?_);refine QA ?_ (by size_fits);simp only[raiseNew];refine PV (Vu ?_);rw[show A.in1.handled=Y from n];refine PV (VG (ZX ?_));refine PV (TS (T:="StopIteration") (b:=J) ⟨_,Qb _ rfl,rfl⟩ Vn ?_);exact VG (l _ (((Ry ..).extBut.push _).push _))
end
end Pv
end
section
namespace Pv
open PySem PySem.Spec PyProof.Rows el PySem.SetTable
section
def EM (e : s.heap.IsTuple l a.toArray)
    (h : Q a { s with heap := (s.heap.push (WM "list" #[] 0)).update s.heap.objs.size (Wh (· ++ a.toArray)) }) (hsz : a.length <= V5) :
    VO (VW prog w) A (YU (.ref l)) Q E s := by
  obtain ⟨o, f, c, n, d⟩ := id e
  unfold YU
  refine PV (Tz (Rk entry_proto_collect' ?_))
  show VO _ _ (do again (.builtin "list.__iadd__" ⟨[<- newList [], .ref l], []⟩)) _ _ s
  refine PV (Vv (VG ⟨Uq _ (by decide +kernel), Rk entry_list_iadd' ?_⟩))
  show VO _ _ (Ww (.ref s.heap.objs.size) (.ref l) (.ref s.heap.objs.size)) _ _ { s with heap := s.heap.push (WM "list" #[] 0) }
  unfold Ww
  have b : (s.heap.push (WM "list" #[] 0)).get? l = Z o := PX _ f
  refine PV (Sx (T := "tuple") ⟨o, b, c⟩ ?_)
  have g : (Wj "tuple" == Wj "tuple") = true := by rfl
  rw [if_pos (by rw [g]; simp)]
  refine PV (Zv b d ?_)
  refine PV (Zv (xs := #[]) (n := 0) (Qb _ rfl) rfl ?_)
  rw [if_neg (by simp)]
  refine PV (UP (xs := #[]) (n := 0) (Qb _ rfl) rfl ?_ (Qa _) (by show (#[] ++ a.toArray).size <= V5 + 1; simp only [RL, P6, Wb]; lia))
  refine VG ?_
  show VO (VW prog w) A (do
      let o <- load s.heap.objs.size
      match o.data with
      | .seq xs _ => pure xs.toList
      | _ => ZY "internal:collect") Q E { s with heap := (s.heap.push (WM "list" #[] 0)).update s.heap.objs.size (Wh (· ++ a.toArray)) }
  refine PV (Vx (Yp (Qb _ rfl) _) ?_)
  show VO _ _ (pure ((#[] : Array VI) ++ a.toArray).toList) Q E _
  rw [show ((#[] : Array VI) ++ a.toArray).toList = a by simp]
  exact VG h
def oB(s s':VL):Prop:=(∀b o,s.heap.get? b=Z o->s'.heap.get? b=Z o)/\s'.gens=s.gens/\s'.drawn=s.drawn/\s'.os=s.os
def EK{n:Nat}(m:A.handled=Y)(y:IsRange s.heap r a b c t u v)(z:Builtin.Range.small a b c=J)(x:Xg a b c=n)(q:n<=2 ^ 24)(g:∀s' d,oB s s'->ItemsOf (λi v=>∃t,v=.int (a+i*c) t) d n->Q d.toList s'):VO (VW prog w) A (YU (.ref r)) Q E s:=by
 unfold YU;refine PV (Tz (Rk Yy ?_));rw[RH Yz _];show VO _ A.in1 (newList []>>=λl=>again (.builtin "list.__iadd__" ⟨[l,.ref r],[]⟩)) _ _ s;refine PV (QA ?_);refine VG ⟨T2 TA _,Rk Zw ?_⟩;rw[RH TA _];show VO _ A.in1 (Ww (.ref s.heap.objs.size) (.ref r) (.ref s.heap.objs.size)) _ _ _;have h:(s.heap.push { cls:=.type "list",data:=.seq ([]:List VI).toArray }).get? s.heap.objs.size=Z { cls:=.type "list",data:=.seq ([]:List VI).toArray }:=Qb _ rfl;refine wpAny_extend_range (A:=A) (R:=wants _ E) (s:={ s with heap:=s.heap.push { cls:=.type "list",data:=.seq ([]:List VI).toArray } }) m (PX _ y) z x q s.heap.objs.size (.ref s.heap.objs.size) 0 h λh' tk f B p j k=>?_
 show VO _ A (load s.heap.objs.size>>=_) _ _ _;refine PV (Vx j ?_);exact VG (g _ f ⟨λb o e=>p b o (Ql (P7 e)) (PX _ e),rfl,rfl,rfl⟩ k)
def EL(X:A.handled=Y)(I:s.heap.get? a=Z o)(O:j0 w o c n t)(a3:c.size<=V5)(N:∀s' z,oB s s'->ItemsOf (λi v=>∃x,(eg w a c n)[i]?=Z x/\v=x.2) z c.size->Q z.toList s'):VO (VW prog w) A (YU (.ref a)) Q E s:=by
 have r:a<s.heap.objs.size:=P7 I;unfold YU;refine PV (Tz (Rk Yy ?_));rw[RH Yz _];show VO _ A.in1 (newList []>>=λl=>again (.builtin "list.__iadd__" ⟨[l,.ref a],[]⟩)) _ _ s;refine PV (QA ?_);refine VG ⟨T2 TA _,Rk Zw ?_⟩;rw[RH TA _];show VO _ A.in1 (Ww (.ref s.heap.objs.size) (.ref a) (.ref s.heap.objs.size)) _ _ _;unfold Ww;have m:(s.heap.push { cls:=.type "list",data:=.seq ([]:List VI).toArray }).get? a=Z o:=PX _ I;refine PV (Sx (T:="set") ⟨o,m,O.ex.1⟩ ?_);have M:XS (.ref s.heap.objs.size) (.ref a)=false:=by
  have u:s.heap.objs.size≠a:=Q8 (Ql r);simp[XS,u]
 have h2:(Wj "set"==Wj "list")=false:=by decide
 have h3:(Wj "set"==Wj "tuple")=false:=by decide
 simp only[M,h2,h3,Bool.or_false,PZ,Qs];refine PV (HE (s:={ s with heap:=s.heap.push { cls:=.type "list",data:=.seq ([]:List VI).toArray } }) m O ?_);generalize p:s.heap.push { cls:=.type "list",data:=.seq ([]:List VI).toArray }=H at *;have q:H.objs.size=s.heap.objs.size+1:=by rw[<- p,Vm]
 have a2:a<H.objs.size:=by rw[q];exact Zs r
 refine PV (RJ (G8 ⟨o,PX _ m,O.ex.1⟩ ?_));rw[if_pos ∅];have u:a≠H.objs.size:=Ql a2;have C:s.heap.objs.size≠H.objs.size:=by rw[q];exact Ql (Rw _)
 have D:s.heap.objs.size≠a:=Q8 (Ql r);have S:s.heap.objs.size∉[H.objs.size,a]:=λd=>by
  rcases P1.mp d with e|e
  .exact C e
  .exact D (Qo.mp e)
 generalize g:H.push { cls:=.type "set_iterator",data:=.fields #[.int 0 0,.int 0 0,.ref a,.int c.size 0,.int n 0] }=f;have B:f.get? s.heap.objs.size=Z { cls:=.type "list",data:=.seq ([]:List VI).toArray }:=g▸PX _ (p▸Qb _ rfl);have a4:f.get? a=Z o:=g▸PX _ m;have a1:f.get? H.objs.size=Z { cls:=.type "set_iterator",data:=.fields #[.int 0 0,.int 0 0,.ref a,.int c.size 0,.int n 0] }:=g▸Qb _ rfl;have a0:A.in1.handled=none:=X;have st0:slotAt w t 0=0:=by unfold slotAt;split<;>rfl
 refine PV (SF ?_);refine PV ?_;show VO _ A.in1 (updateSeq s.heap.objs.size (·.push .none)>>=λ_=>updateSeq s.heap.objs.size (·.pop)) _ _ _;refine PV (Ua B rfl ?_);have G:=QE (Wh (·.push Value.none)) B rfl;refine Ua G rfl ?_;have U:=QE (Wh (·.pop)) G rfl;have y:∀b dS,b≠s.heap.objs.size->f.get? b=Z dS->((f.update s.heap.objs.size (Wh (·.push Value.none))).update s.heap.objs.size (Wh (·.pop))).get? b=Z dS :=
  λb dS j e=>(Qt _ _ (Q8 j)).trans ((Qt _ _ (Q8 j)).trans e)
 refine VG ⟨T2 F.plain_extend_loop _,codeAny_extend_loopS (Pf (prog:=prog) (A:=A.in1) a0 u O).toS a3 _ S _ c.size 0 _ _ _ rfl (Qa _) ⟨⟨_,y _ _ (Q8 C) a1,rfl,by rw[st0];rfl⟩,y _ _ (Q8 D) a4⟩ U (ItemsOf.nil _) λs' L a5 d R V=>?_⟩;show VO _ A (load s.heap.objs.size>>=_) _ _ s';refine PV (Vx R ?_);refine VG (N s' L ⟨λb dS e=>d.heap b dS (λj=>?_) (y b dS (Ql (P7 e)) (g▸PX _ (p▸PX _ e))),d.gens,d.drawn,d.os⟩ V);have k:=P7 e;rcases P1.mp j with h|h
 .rw[h]at k;exact Rm _ k
 .rw[Qo.mp h,q]at k;exact absurd k (SA.mpr (Nat.le_succ _))
end
end Pv
end
section
namespace Tm
open PySem PyProof.Rows
abbrev fR:Bool->VS->Array VS->Nat->Nat->Nat->StateT V6 Z0 (Option Nat):=sortPriv% PySem.Builtin.gallop
abbrev DE(left:Bool)(a x:VS):StateT V6 Z0 (Option Bool):=if left then lt' x a else do return (<- lt' a x).map (!·)
def gO(left:Bool)(b:VS)(a:Array VS)(j:Nat):StateT V6 Z0 (Option Bool):=do
 let x <- WR a j
 DE left b x
def GK(left:Bool)(c:VS)(a:Array VS)(b n h:Nat):fR left c a b n h=(do
 let mut u:=0
 let mut v:=1
 let mut lo:=0
 let mut hi:=0
 let Z r <- gO left c a (b+h)|return Y
 if r then
  let d:=n-h
  for _ in [0:n] do
   if v>=d then break
   let Z q <- gO left c a (b+(h+v))|return Y
   if !q then break
   u:=v
   v:=2*v+1
  lo:=h+u+1
  hi:=h+min v d
 else
  let d:=h+1
  for _ in [0:n] do
   if v>=d then break
   let Z q <- gO left c a (b+(h-v))|return Y
   if q then break
   u:=v
   v:=2*v+1
  lo:=h+1-min v d
  hi:=h-u
 for _ in [0:n] do
  if lo>=hi then break
  let m:=lo+(hi-lo) / 2
  let Z q <- gO left c a (b+m)|return Y
  if q then lo:=m+1 else hi:=m
 return Z hi):=rfl
def bs(left:Bool)(c:VS)(a:Array VS)(b n lo hi:Nat):StateT V6 Z0 (Option Nat):=do
 let mut lo:=lo
 let mut hi:=hi
 for _ in [0:n] do
  if lo>=hi then break
  let m:=lo+(hi-lo) / 2
  let Z q <- gO left c a (b+m)|return Y
  if q then lo:=m+1 else hi:=m
 return Z hi
section
variable{M:Zk}{A:Wg}{E:VI->VL->Prop}{s:VL}{left:Bool}{key:VS}{arr:Array VS}{b n h:Nat}{p:Nat->Bool}{st:V6}{Q:Option Nat->V6->Prop}
def w1(v:∀j,j<n->∀Q:Option Bool->V6->Prop,Q (Z (p j)) st->YA M A E s (gO left key arr (b+j)) Q st)(r:∀i j,i<=j->j<n->p j=J->p i=J)(w:∀k,k<=n->(∀i,i<k->p i=J)->(∀i,k<=i->i<n->p i=VF)->Q (Z k) st){lo hi:Nat}(aI:lo<=hi)(h2:hi<=n)(u:∀i,i<lo->p i=J)(y:∀i,hi<=i->i<n->p i=VF):YA M A E s (bs left key arr b n lo hi) Q st:=by
 unfold bs;refine P5 (RM (Ri (I:=λx (c:Option (Option Nat)×Nat×Nat) f=>f=st/\c.1=Y/\c.2.1<=c.2.2/\c.2.2<=n/\(∀i,i<c.2.1->p i=J)/\(∀i,c.2.2<=i->i<n->p i=VF)/\c.2.2-c.2.1+x<=n)
  (Q:=λ(c:Option (Option Nat)×Nat×Nat) f=>f=st/\c.1=Y/\c.2.2<=n/\(∀i,i<c.2.2->p i=J)/\∀i,c.2.2<=i->i<n->p i=VF) ?step ?fin ⟨rfl,rfl,aI,h2,u,y,by show hi-lo+0<=n;lia⟩) ?post)
 case step =>
  rintro x ⟨o,lo,hi⟩ f _ z ⟨rfl,rfl,k1,k2,k3,d,k5⟩;dsimp only at k1 k2 k3 d k5 ⊢
  by_cases c:lo>=hi
  .rw[if_pos c];have e:lo=hi:=⋯;subst e;exact Qf ⟨rfl,rfl,k2,k3,d⟩
  .rw[if_neg c];have g:lo+(hi-lo) / 2<hi:=⋯;have m:∀a,a<hi-lo->a+(x+1)<=n:=λa h=>Qk (by rw[<- RK,R6];exact Vo h x) k5
   refine P5 (v _ (P2 g k2) _ ?_);dsimp only;cases e:p (lo+(hi-lo) / 2) with
   |true =>
    rw[if_pos rfl];refine Qf ⟨rfl,rfl,g,k2,λi l=>?_,d,m _ (Ub (Nat.not_le.mp c) (UI (QB ..)))⟩;exact r i _ (Ra l) (P2 g k2) e
   |false =>
    rw[if_neg (by simp)];refine Qf ⟨rfl,rfl,QB ..,Qk (QM g) k2,k3,λi l t=>?_,m _ (S1 (QB ..) g)⟩;cases q:p i with
    |false=>rfl
    |true=>rw[r _ i l t q]at e;cases e
 case fin =>
  rintro⟨o,lo,hi⟩ f ⟨rfl,rfl,k1,k2,k3,d,k5⟩;dsimp only at k1 k2 k3 d k5 ⊢;have e:lo=hi:=(by rw[QP (Qa n)]at k5;lia);subst e;exact⟨rfl,rfl,k2,k3,d⟩
 case post =>
  rintro⟨o,lo,hi⟩ f ⟨rfl,rfl,k2,k3,d⟩;exact Qf (w hi k2 k3 d)
def yu(m:∀j,j<n->∀Q:Option Bool->V6->Prop,Q (Z (p j)) st->YA M A E s (gO left key arr (b+j)) Q st)(f:h<n)(r:∀i j,i<=j->j<n->p j=J->p i=J)(y:∀k,k<=n->(∀i,i<k->p i=J)->(∀i,k<=i->i<n->p i=VF)->Q (Z k) st):YA M A E s (fR left key arr b n h) Q st:=by
 have w:∀i j,i<=j->j<n->p i=VF->p j=false:=λi j z B hi=>by
  cases q:p j with
  |false=>rfl
  |true=>rw[r i j z B q]at hi;cases hi
 rw[GK];refine P5 (m h f _ ?_);cases e:p h with
 |true =>
  dsimp only;rw[if_pos rfl];refine P5 (RM (Ri (I:=λx (c:Option (Option Nat)×Nat×Nat) d=>d=st/\c.1=Y/\c.2.1<c.2.2/\h+c.2.1<n/\p (h+c.2.1)=J/\x+1<=c.2.2)
   (Q:=λ(c:Option (Option Nat)×Nat×Nat) d=>d=st/\c.1=Y/\c.2.1<c.2.2/\h+c.2.1<n/\p (h+c.2.1)=J/\(n-h<=c.2.2\/p (h+c.2.2)=VF)) ?step ?fin ⟨rfl,rfl,Z8,f,e,P0 _⟩) ?post)
  case step =>
   rintro x ⟨o,u,v⟩ d _ C ⟨rfl,rfl,k1,k2,k3,a⟩;dsimp only at k1 k2 k3 a ⊢
   by_cases c:v>=n-h
   .rw[if_pos c];exact Qf ⟨rfl,rfl,k1,k2,k3,.inl c⟩
   .rw[if_neg c];refine P5 (m _ ⋯ _ ?_);dsimp only;cases l:p (h+v) with
    |true=>rw[if_neg (by simp)];exact Qf ⟨rfl,rfl,by dsimp only;lia,by dsimp only;lia,l,by dsimp only;lia⟩
    |false=>rw[if_pos (by simp)];exact Qf ⟨rfl,rfl,k1,k2,k3,.inr l⟩
  case fin =>
   rintro⟨o,u,v⟩ d ⟨rfl,rfl,k1,k2,k3,a⟩;rw[QP (Qa n)]at a;exact⟨rfl,rfl,k1,k2,k3,.inl (by dsimp only at a ⊢;lia)⟩
  case post =>
   rintro⟨o,u,v⟩ d ⟨rfl,rfl,k1,k2,k3,a⟩;dsimp only at k1 k2 k3 a;refine w1 (p:=p) m r y (lo:=h+u+1) (hi:=h+min v (n-h)) (by rw[RK];exact RY (Nat.le_min.mpr ⟨k1,TJ k2⟩) h) (SR (QM f) (R1 ..)) (λi hi=>r i _ (Ra hi) k2 k3) λi hi t=>?_
   have g:n-h<=v->p i=false:=λk=>by rw[UT k,Q1 (QM f)]at hi;exact absurd t (SA.mpr hi)
   rcases a with a|a
   .exact g a
   .by_cases c:v<=n-h
    .rw[QZ c]at hi;exact w _ i hi t a
    .exact g (ZN c)
 |false =>
  dsimp only;rw[if_neg (by simp)];refine P5 (RM (Ri (I:=λx (c:Option (Option Nat)×Nat×Nat) d=>d=st/\c.1=Y/\c.2.1<c.2.2/\c.2.1<=h/\p (h-c.2.1)=VF/\x+1<=c.2.2)
   (Q:=λ(c:Option (Option Nat)×Nat×Nat) d=>d=st/\c.1=Y/\c.2.1<c.2.2/\c.2.1<=h/\p (h-c.2.1)=VF/\(h+1<=c.2.2\/p (h-c.2.2)=J)) ?step ?fin ⟨rfl,rfl,Z8,Qa _,e,P0 _⟩) ?post)
  case step =>
   rintro x ⟨o,u,v⟩ d _ C ⟨rfl,rfl,k1,k2,k3,a⟩;dsimp only at k1 k2 k3 a ⊢
   by_cases c:v>=h+1
   .rw[if_pos c];exact Qf ⟨rfl,rfl,k1,k2,k3,.inl c⟩
   .rw[if_neg c];refine P5 (m _ ⋯ _ ?_);dsimp only;cases l:p (h-v) with
    |true=>rw[if_pos rfl];exact Qf ⟨rfl,rfl,k1,k2,k3,.inr l⟩
    |false=>rw[if_neg (by simp)];exact Qf ⟨rfl,rfl,by dsimp only;lia,by dsimp only;lia,l,by dsimp only;lia⟩
  case fin =>
   rintro⟨o,u,v⟩ d ⟨rfl,rfl,k1,k2,k3,a⟩;rw[QP (Qa n)]at a;exact⟨rfl,rfl,k1,k2,k3,.inl (by dsimp only at a ⊢;lia)⟩
  case post =>
   rintro⟨o,u,v⟩ d ⟨rfl,rfl,k1,k2,k3,a⟩;dsimp only at k1 k2 k3 a;refine w1 (p:=p) m r y (lo:=h+1-min v (h+1)) (hi:=h-u) (by rw[<- TK h 1 u];exact Ud (Nat.le_min.mpr ⟨k1,Nat.succ_le_succ k2⟩) _) (Qk (Sw ..) (QM f)) (λi hi=>?_) λi hi t=>w _ i hi t k3
   have g:h+1<=v->p i=true:=λk=>by rw[UT k,Vb]at hi;cases hi
   rcases a with a|a
   .exact g a
   .by_cases c:v<=h+1
    .rw[QZ c]at hi;exact r i _ (Vp (Ra (Nat.add_lt_of_lt_sub hi))) (QF (Sw ..) f) a
    .exact g (ZN c)
end
abbrev uA:Array VS->Array VS->StateT V6 Z0 (Array VS):=sortPriv% PySem.Builtin.mergeLo
noncomputable abbrev setG(st:V6)(g:Nat):SortSt:=aae (kindOf st) (VQ st) (Wm st) g (Wv st)
def Jf(a b:Array VS):uA a b=(do
 ZF "list.sort.merge-lo"
 let d:=a.size+b.size
 let fin (r:Array VS) (i j:Nat):=r++a.extract i a.size++b.extract j b.size
 let c (r:Array VS) (i j:Nat):=r++b.extract j b.size++a.extract i a.size
 let mut r:Array Keyed:=#[<- WR b 0]
 let mut i:=0
 let mut j:=1
 if j==b.size then return fin r i j
 if i+1==a.size then return c r i j
 let mut ao:=gallopOf (<- get)
 for _ in [0:d] do
  let mut ca:=0
  let mut c0:=0
  for _ in [0:d] do
   let Z w <- lt' (<- WR b j) (<- WR a i)|return fin r i j
   if w then
    r:=r.push (<- WR b j);j:=j+1;c0:=c0+1;ca:=0
    if j==b.size then return fin r i j
    if c0>=ao then break
   else
    r:=r.push (<- WR a i);i:=i+1;ca:=ca+1;c0:=0
    if i+1==a.size then return c r i j
    if ca>=ao then break
  ZF "list.sort.gallop"
  ao:=ao+1
  for _ in [0:d] do
   if ao>1 then ao:=ao-1
   modify λs=>setG s ao
   let Z k <- fR VF (<- WR b j) a i (a.size-i) 0|return fin r i j
   ca:=k
   if k>0 then
    r:=r++a.extract i (i+k);i:=i+k
    if i+1==a.size then return c r i j
    if i==a.size then return fin r i j
   r:=r.push (<- WR b j);j:=j+1
   if j==b.size then return fin r i j
   let Z k <- fR J (<- WR a i) b j (b.size-j) 0|return fin r i j
   c0:=k
   if k>0 then
    r:=r++b.extract j (j+k);j:=j+k
    if j==b.size then return fin r i j
   r:=r.push (<- WR a i);i:=i+1
   if i+1==a.size then return c r i j
   if ca<7&&c0<7 then break
  ao:=ao+1
  modify λs=>setG s ao
 ZY "internal:list.sort.merge-bound"):=rfl
structure c6(M:Zk)(A:Wg)(E:VI->VL->Prop)(s:VL)(κ:Xa)(S:VS->Prop)(lt:VS->VS->Bool):Prop where
 ask:∀(x y:VS)(st:V6)(Q:Option Bool->V6->Prop),S x->S y->kindOf st=κ->Q (Z (lt x y)) st->YA M A E s (lt' x y) Q st
 fB:∀x y,S x->S y->lt x y=J->lt y x=VF
 cM:∀x y z,S x->S y->S z->lt y x=VF->lt z y=VF->lt z x=VF
@[reducible]def le(lt:VS->VS->Bool)(x y:VS):Prop:=lt y x=VF
def aR(st a:V6):Prop:=kindOf a=kindOf st/\VQ a=VQ st/\Wm a=Wm st/\Wv a=Wv st
def aR.refl(st):aR st st:=⟨rfl,rfl,rfl,rfl⟩
def aR.set{st a:V6}(h:aR st a)(g):aR st (setG a g):=h
section
variable{M:Zk}{A:Wg}{E:VI->VL->Prop}{s:VL}{κ:Xa}{S:VS->Prop}{lt:VS->VS->Bool}{a b:Array VS}{st Nf:V6}
def dF(h:i<a.size)(q:Q a[i] st):YA M A E s (WR a i) Q st:=by
 rw[elem'_eq,P9 h];exact Qf q
def DP(O:c6 M A E s κ S lt)(e:kindOf st=κ)(h:j<a.size)(f:S c)(d:S a[j])(q:Q (Z (!lt c a[j])) st):YA M A E s (gO VF c a j) Q st:=by
 unfold gO;refine P5 (dF h ?_);show YA M A E s (do return (<- lt' c a[j]).map (!·)) Q st;exact P5 (O.ask _ _ _ _ f d e (Qf q))
def DQ(O:c6 M A E s κ S lt)(e:kindOf st=κ)(h:j<a.size)(f:S c)(d:S a[j])(q:Q (Z (lt a[j] c)) st):YA M A E s (gO J c a j) Q st:=by
 unfold gO;refine P5 (dF h ?_);show YA M A E s (lt' a[j] c) Q st;exact O.ask _ _ _ _ d f e q
def fx(lt:VS->VS->Bool)(a:Array VS)(i n:Nat):Prop:=∀x y (c:x<a.size) (d:y<a.size),i<=x->x<=y->y<i+n->le lt a[x] a[y]
def tJ(O:c6 M A E s κ S lt)(l:kindOf st=κ)(f:∀x (c:x<a.size),S a[x])(r:S d)(z:i+n<=a.size)(t:h<n)(v:fx lt a i n)(u:∀k,k<=n->(∀x (c:x<a.size),i<=x->x<i+k->le lt a[x] d)->(∀x (c:x<a.size),i+k<=x->x<i+n->lt d a[x]=J)->Q (Z k) st):YA M A E s (fR VF d a i n h) Q st:=by
 refine yu (p:=λx=>!lt d (a.getD (i+x) d)) (λj w Q q=>?_) t (λx y B C q=>?_) λk l aI h2=>?_
 .have g:i+j<a.size:=⋯;refine DP O l g r (f _ g) ?_;simp only[WL,g,UM]at q;exact q
 .have m:i+x<a.size:=⋯;have o:i+y<a.size:=⋯;simp only[WL,m,o,UM,QU,Rl]at q ⊢;exact O.cM _ _ _ (f _ m) (f _ o) r (v _ _ m o ⋯ ⋯ ⋯) q
 .refine u k l (λx c l1 l2=>?_) λx c l1 l2=>?_
  .have:=aI (x-i) (Sa l1 l2);have e:=Q1 l1;simp only[e,WL,c,UM,QU,Rl]at this;exact this
  .have l0:=Qk (QB ..) l1;have:=h2 (x-i) (TJ l1) (Sa l0 l2);have e:=Q1 l0;simp only[e,WL,c,UM,Vz,Rl]at this;exact this
def tK(O:c6 M A E s κ S lt)(l:kindOf st=κ)(f:∀x (c:x<a.size),S a[x])(r:S d)(z:i+n<=a.size)(t:h<n)(v:fx lt a i n)(u:∀k,k<=n->(∀x (c:x<a.size),i<=x->x<i+k->lt a[x] d=J)->(∀x (c:x<a.size),i+k<=x->x<i+n->le lt d a[x])->Q (Z k) st):YA M A E s (fR J d a i n h) Q st:=by
 refine yu (p:=λx=>lt (a.getD (i+x) d) d) (λj w Q q=>?_) t (λx y B C q=>?_) λk l aI h2=>?_
 .have g:i+j<a.size:=⋯;refine DQ O l g r (f _ g) ?_;simp only[WL,g,UM]at q;exact q
 .have m:i+x<a.size:=⋯;have o:i+y<a.size:=⋯;simp only[WL,m,o,UM,Rl]at q ⊢;cases e:lt a[i+x] d with
  |true=>rfl
  |false=>rw[O.cM _ _ _ r (f _ m) (f _ o) e (v _ _ m o ⋯ ⋯ ⋯)]at q;cases q
 .refine u k l (λx c l1 l2=>?_) λx c l1 l2=>?_
  .have:=aI (x-i) (Sa l1 l2);have e:=Q1 l1;simp only[e,WL,c,UM,Rl]at this;exact this
  .have l0:=Qk (QB ..) l1;have:=h2 (x-i) (TJ l1) (Sa l0 l2);have e:=Q1 l0;simp only[e,WL,c,UM,Rl]at this;exact this
end
structure cn(lt:VS->VS->Bool)(a b r:List VS)(i j:Nat):Prop where
 perm:(r++(a.drop i++b.drop j)).Perm (a++b)
 n1:(r++a.drop i).Pairwise (le lt)
 lZ:(r++b.drop j).Pairwise (le lt)
def dx(lt:VS->VS->Bool)(a b r:List VS):Prop:=r.Perm (a++b)/\r.Pairwise (le lt)
section
def cn.oi(h:cn lt a b r i j)(k)(m:∀x∈(a.drop i).take k,∀y∈b.drop j,le lt x y):cn lt a b (r++(a.drop i).take k) (i+k) j:=by
 have e:a.drop i=(a.drop i).take k++a.drop (i+k):=by rw[<- Ut,QJ]
 refine⟨?_,?_,?_⟩
 .rw[Qi,<- Qi ((a.drop i).take k),<- e];exact h.perm
 .rw[Qi,<- e];exact h.n1
 .have f:=Qe.mp h.lZ;have d:=Qe.mp h.n1;rw[e]at d;have l:=Qe.mp d.2.1;rw[Qi];refine Qe.mpr ⟨f.1,Qe.mpr ⟨l.1,f.2.1,m⟩,λx g y c=>?_⟩;rcases P8.mp c with c|c
  .exact d.2.2 x g y (VZ _ c)
  .exact f.2.2 x g y c
def cn.oj(h:cn lt a b r i j)(k)(m:∀x∈(b.drop j).take k,∀y∈a.drop i,le lt x y):cn lt a b (r++(b.drop j).take k) i (j+k):=by
 have e:b.drop j=(b.drop j).take k++b.drop (j+k):=by rw[<- Ut,QJ]
 refine⟨?_,?_,?_⟩
 .have p1:(r++(b.drop j).take k++(a.drop i++b.drop (j+k))).Perm (r++(a.drop i++b.drop j)):=by
   rw[Qi];refine R7 r ?_;rw[<- Qi]
   conv=>rhs;rw[e,<- Qi]
   exact SG _ SS
  exact p1.trans h.perm
 .have d:=Qe.mp h.n1;have f:=Qe.mp h.lZ;rw[e]at f;have l:=Qe.mp f.2.1;rw[Qi];refine Qe.mpr ⟨d.1,Qe.mpr ⟨l.1,d.2.1,m⟩,λx g y c=>?_⟩;rcases P8.mp c with c|c
  .exact f.2.2 x g y (VZ _ c)
  .exact d.2.2 x g y c
 .rw[Qi,<- e];exact h.lZ
def cn.tD(h:cn lt a b r i b.length):dx lt a b (r++a.drop i):=by
 have:=h.perm;rw[TV,QQ]at this;exact⟨this,h.n1⟩
def cn.tE(h:cn lt a b r a.length j):dx lt a b (r++b.drop j):=by
 have:=h.perm;rw[TV,WV]at this;exact⟨this,h.lZ⟩
def cn.last(h:cn lt a b r i j)(hi:i+1=a.length)(k:∀y∈b,∀x,a[a.length-1]?=Z x->le lt y x):dx lt a b (r++b.drop j++a.drop i):=by
 have e:∃x,a.drop i=[x]/\a[a.length-1]?=Z x:=by
  have c:i<a.length:=⋯;refine⟨a[i],?_,?_⟩
  .rw[QY c,SH ⋯]
  .rw[show a.length-1=i by lia];exact P4 c
 obtain⟨x,e,f⟩:=e;have g:=Qe.mp h.n1;have l:=Qe.mp h.lZ;refine⟨?_,?_⟩
 .refine Xv ?_ h.perm;rw[Qi];exact R7 r SS
 .refine Qe.mpr ⟨h.lZ,by rw[e];simp,λz hz y d=>?_⟩;rw[e]at d;have:y=x:=⇑d;subst this;rcases P8.mp hz with hz|hz
  .exact g.2.2 z hz y (by rw[e];simp)
  .exact k z (YJ hz) y f
end
def x9(a:Array VS)(i k):(a.extract i (i+k)).toList=(a.toList.drop i).take k:=by
 rw[T7,WU,Q7]
def lA(a:Array VS)(i):(a.extract i a.size).toList=a.toList.drop i:=by
 rw[T7,WU,<- VK,Rh (by rw[Q6];exact P0 _)]
def zB{l:List VS}(h:x∈(l.drop i).take k):∃n,∃(a:n<l.length),i<=n/\n<i+k/\x=l[n]:=by
 obtain⟨n,a,rfl⟩:=RG.mp h;rw[QI,Q6]at a;exact⟨i+n,SU (P2 a (R1 ..)),QB ..,RO (P2 a (Sd ..)) i,by rw[TB,UN]⟩
def qb{l:List VS}(h:x∈l.drop i):∃n,∃(a:n<l.length),i<=n/\x=l[n]:=by
 obtain⟨n,a,rfl⟩:=RG.mp h;rw[Q6]at a;exact⟨i+n,SU a,QB ..,by rw[UN]⟩
def take1{l:List VS}(h:i<l.length):(l.drop i).take 1=[l[i]]:=by
 rw[QY h];rfl
noncomputable abbrev jR(a b r:Array VS)(i j:Nat):Array Keyed:=r++a.extract i a.size++b.extract j b.size
noncomputable abbrev cB(a b r:Array VS)(i j:Nat):Array Keyed:=r++b.extract j b.size++a.extract i a.size
@[reducible]def TT:Type:=Option (Array VS)×Array VS×Nat×Nat×Nat×Nat×Nat
abbrev p3(a b r:Array VS)(i j e c d:Nat):StateT V6 Z0 (ForInStep TT):=do
 let x <- WR a i
 if i+1+1==a.size then pure (.done (Z (cB a b (r.push x) (i+1) j),r.push x,i+1,j,e,c,d))
 else if c<7&&d<7 then pure (.done (Y,r.push x,i+1,j,e,c,d)) else pure (.yield (Y,r.push x,i+1,j,e,c,d))
def p2(a b r:Array VS)(i j d c e:Nat):StateT V6 Z0 (ForInStep TT):=do
 let y <- WR b j
 if j+1==b.size then pure (.done (Z (jR a b (r.push y) i (j+1)),r.push y,i,j+1,d,c,e))
 else do
  let x <- WR a i
  let q <- fR J x b (j+1) (b.size-(j+1)) 0
  match q with
  |some k =>
   if k>0 then
    if j+1+k==b.size then pure (.done (Z (jR a b (r.push y++b.extract (j+1) (j+1+k)) i (j+1+k)),r.push y++b.extract (j+1) (j+1+k),i,j+1+k,d,c,k))
    else p3 a b (r.push y++b.extract (j+1) (j+1+k)) i (j+1+k) d c k
   else p3 a b (r.push y) i (j+1) d c k
  |_=>pure (.done (Z (jR a b (r.push y) i (j+1)),r.push y,i,j+1,d,c,e))
def p1(a b r:Array VS)(i j c e d:Nat):StateT V6 Z0 (ForInStep TT):=do
 modify λs=>setG s c
 let y <- WR b j
 let q <- fR VF y a i (a.size-i) 0
 match q with
 |some k =>
  if k>0 then
   if i+k+1==a.size then pure (.done (Z (cB a b (r++a.extract i (i+k)) (i+k) j),r++a.extract i (i+k),i+k,j,c,k,d))
   else if i+k==a.size then pure (.done (Z (jR a b (r++a.extract i (i+k)) (i+k) j),r++a.extract i (i+k),i+k,j,c,k,d))
   else p2 a b (r++a.extract i (i+k)) (i+k) j c k d
  else p2 a b r i j c k d
 |_=>pure (.done (Z (jR a b r i j),r,i,j,c,e,d))
section
variable{M:Zk}{A:Wg}{E:VI->VL->Prop}{s:VL}{κ:Xa}{S:VS->Prop}{lt:VS->VS->Bool}{a b r:Array VS}{st0 st:V6}{i j ao ca c0 N:Nat}
structure Pre(S:VS->Prop)(lt:VS->VS->Bool)(a b:Array VS):Prop where
 c5:∀x (hy:x<a.size),S a[x]
 c8:∀x (hy:x<b.size),S b[x]
 iw:fx lt a 0 a.size
 dS:fx lt b 0 b.size
 last:∀y∈b.toList,∀x,a.toList[a.toList.length-1]?=Z x->le lt y x
def fa(lt:VS->VS->Bool)(a b:Array VS)(N:Nat)(r:Array VS)(i j:Nat):Prop:=cn lt a.toList b.toList r.toList i j/\i+1<a.size/\j<b.size/\r.size=i+j/\N<=r.size
def cy(lt:VS->VS->Bool)(a b:Array VS)(N:Nat)(t:TT):Prop:=match t.1 with
 |some c=>dx lt a.toList b.toList c.toList
 |none=>fa lt a b N t.2.1 t.2.2.1 t.2.2.2.1
def oF(lt:VS->VS->Bool)(a b:Array VS)(N:Nat)(st0:V6)(f:ForInStep TT)(st:V6):Prop:=aR st0 st/\match f with
 |.done t=>cy lt a b N t
 |.yield t=>t.1=Y/\cy lt a b N t
def pl(P:Pre S lt a b)(h:cn lt a.toList b.toList r.toList i j)(hi:i+1=a.size):dx lt a.toList b.toList (cB a b r i j).toList:=by
 show dx _ _ _ (r++b.extract j b.size++a.extract i a.size).toList;rw[Qx,Qx,lA,lA];exact h.last (by rw[VK];exact hi) P.last
def pk(h:cn lt a.toList b.toList r.toList i j)(c:j=b.size):dx lt a.toList b.toList (jR a b r i j).toList:=by
 show dx _ _ _ (r++a.extract i a.size++b.extract j b.size).toList;subst c;have e:b.toList.drop b.size=[]:=SH (by rw[VK];exact P0 _);rw[Qx,Qx,lA,lA,e,QQ];exact cn.tD (by rw[VK];exact h)
def Gw(h:cn lt a.toList b.toList r.toList i j)(hi:i=a.size):dx lt a.toList b.toList (jR a b r i j).toList:=by
 show dx _ _ _ (r++a.extract i a.size++b.extract j b.size).toList;subst hi;have e:a.toList.drop a.size=[]:=SH (by rw[VK];exact P0 _);rw[Qx,Qx,lA,lA,e,QQ];exact cn.tE (by rw[VK];exact h)
def cn.lW(h:cn lt a.toList b.toList r.toList i j)(hi:i<a.size)(g:∀y (f:y<b.size),j<=y->le lt a[i] b[y]):cn lt a.toList b.toList (r.push a[i]).toList (i+1) j:=by
 have c:i<a.toList.length:=by rw[VK];exact hi
 have:=h.oi 1 (λx e y f=>by
  rw[take1 c]at e;obtain rfl:x=a.toList[i]:=⇑e;obtain⟨n,d,l1,rfl⟩:=qb f;exact g n (by rw[VK]at d;exact d) l1)
 rw[take1 c]at this;rw[SX];exact this
def cn.lX(h:cn lt a.toList b.toList r.toList i j)(g:j<b.size)(k:∀y (f:y<a.size),i<=y->le lt b[j] a[y]):cn lt a.toList b.toList (r.push b[j]).toList i (j+1):=by
 have c:j<b.toList.length:=by rw[VK];exact g
 have:=h.oj 1 (λx e y f=>by
  rw[take1 c]at e;obtain rfl:x=b.toList[j]:=⇑e;obtain⟨n,d,l1,rfl⟩:=qb f;exact k n (by rw[VK]at d;exact d) l1)
 rw[take1 c]at this;rw[SX];exact this
def cn.tB(h:cn lt a.toList b.toList r.toList i j)(g:∀x (e:x<a.size) y (f:y<b.size),i<=x->x<i+k->j<=y->le lt a[x] b[y]):cn lt a.toList b.toList (r++a.extract i (i+k)).toList (i+k) j:=by
 rw[Qx,x9];refine h.oi k λx e y f=>?_
 obtain⟨n,d,l1,l2,rfl⟩:=zB e;obtain⟨m,c,l3,rfl⟩:=qb f;rw[VK]at d c;exact g n d m c l1 l2 l3
def cn.tC(h:cn lt a.toList b.toList r.toList i j)(g:∀x (e:x<b.size) y (f:y<a.size),j<=x->x<j+k->i<=y->le lt b[x] a[y]):cn lt a.toList b.toList (r++b.extract j (j+k)).toList i (j+k):=by
 rw[Qx,x9];refine h.oj k λx e y f=>?_
 obtain⟨n,d,l1,l2,rfl⟩:=zB e;obtain⟨m,c,l3,rfl⟩:=qb f;rw[VK]at d c;exact g n d m c l1 l2 l3
def z7(P:Pre S lt a b)(g:aR st0 st)(h:cn lt a.toList b.toList r.toList i j)(hi:i+1<a.size)(k:j<b.size)(m:r.size=i+j)(f:N<=r.size+1)(l:∀y (n:y<b.size),j<=y->le lt a[i] b[y]):
  YA M A E s (p3 a b r i j ao ca c0) (oF lt a b N st0) st:=by
 unfold p3;have e:i<a.size:=by lia
 refine P5 (dF e ?_);have h':=h.lW e l
 split
 .rename_i c;have c:i+1+1=a.size:=⇑c;exact Qf ⟨g,pl P h' c⟩
 .rename_i c;have c:¬i+1+1=a.size:=⇑c;have d:fa lt a b N (r.push a[i]) (i+1) j:=⟨h',⋯,k,by rw[Qz];lia,by rw[Qz];exact f⟩
  split
  .exact Qf ⟨g,d⟩
  .exact Qf ⟨g,rfl,d⟩
def z6(O:c6 M A E s κ S lt)(v:kindOf st0=κ)(P:Pre S lt a b)(g:aR st0 st)(h:cn lt a.toList b.toList r.toList i j)(hi:i+1<a.size)(l:j<b.size)(B:r.size=i+j)(z:N<=r.size+2)(w:∀y (d:y<a.size),i<=y->le lt b[j] a[y]):
  YA M A E s (p2 a b r i j ao ca c0) (oF lt a b N st0) st:=by
 unfold p2;have f:i<a.size:=by lia
 refine P5 (dF l ?_);have h':=h.lX l w
 split
 .rename_i c;have c:j+1=b.size:=⇑c;exact Qf ⟨g,pk h' c⟩
 .rename_i c;have c:¬j+1=b.size:=⇑c;have n:=Q1 l;refine P5 (dF f ?_);refine P5 (tK O (g.1.trans v) P.c8 (P.c5 _ f) (U6 n) (UJ (Ru l c)) (λx y m d l1 l2 l3=>P.dS x y m d (Qa _) l2 ⋯) λk u t o=>?_);dsimp only;have p:=SR l u;have h2:cn lt a.toList b.toList (r.push b[j]++b.extract (j+1) (j+1+k)).toList i (j+1+k):=h'.tC λx m y d l1 l2 l3 =>
   O.cM _ _ _ (P.c8 _ m) (P.c5 _ f) (P.c5 _ d) (O.fB _ _ (P.c8 _ m) (P.c5 _ f) (t x m l1 l2)) (P.iw i y f d (Qa _) l3 ⋯)
  have q:(r.push b[j]++b.extract (j+1) (j+1+k)).size=i+(j+1+k):=by
   rw[RL,Qz,QL,QZ p,Q7];lia
  split
  .split
   .rename_i e;have e:j+1+k=b.size:=⇑e;exact Qf ⟨g,pk h2 e⟩
   .rename_i e;have e:¬j+1+k=b.size:=⇑e;exact z7 P g h2 hi (Ru p e) q (by rw[q];lia) λy d l1=>o y d l1 (by rw[n];exact d)
  .have k0:k=0:=⋯;subst k0;exact z7 P g h' hi ⋯ (by rw[Qz];lia) (by rw[Qz];lia) λy d l1=>o y d l1 (by rw[n];exact d)
def J7(O:c6 M A E s κ S lt)(n:kindOf st0=κ)(P:Pre S lt a b)(g:aR st0 st)(h:cn lt a.toList b.toList r.toList i j)(hi:i+1<a.size)(f:j<b.size)(B:r.size=i+j)(w:N<=r.size+2):
  YA M A E s (p1 a b r i j ao ca c0) (oF lt a b N st0) st:=by
 unfold p1;refine P5 (RW ?_);have g:=g.set ao;have m:=Zx hi;have o:=Q1 (QM m);refine P5 (dF f ?_);refine P5 (tJ O (g.1.trans n) P.c5 (P.c8 _ f) (U6 o) (UJ m) (λx y l d l1 l2 l3=>P.iw x y l d (Qa _) l2 ⋯) λk z u v=>?_);dsimp only;have p:=SR (QM m) z;have h2:cn lt a.toList b.toList (r++a.extract i (i+k)).toList (i+k) j:=h.tB λx l y d l1 l2 l3 =>
  O.cM _ _ _ (P.c5 _ l) (P.c8 _ f) (P.c8 _ d) (u x l l1 l2) (P.dS j y f d (Qa _) l3 ⋯)
 have t:(r++a.extract i (i+k)).size=i+k+j:=by
  rw[RL,QL,QZ p,Q7];lia
 have q:∀y (d:y<a.size),i+k<=y->le lt b[j] a[y]:=λy d l1=>O.fB _ _ (P.c8 _ f) (P.c5 _ d) (v y d l1 (by rw[o];exact d))
 split
 .split
  .rename_i c;have c:i+k+1=a.size:=⇑c;exact Qf ⟨g,pl P h2 c⟩
  .rename_i c;have c:¬i+k+1=a.size:=⇑c
   split
   .rename_i e;have e:i+k=a.size:=⇑e;exact Qf ⟨g,Gw h2 e⟩
   .rename_i e;have e:¬i+k=a.size:=⇑e;exact z6 O n P g h2 (Ru (Ru p e) c) f t (by rw[t];lia) q
 .have k0:k=0:=⋯;subst k0;exact z6 O n P g h hi f B w q
end
@[reducible]def d4:Type:=Option (Array VS)×Array VS×Nat×Nat×Nat×Nat
@[reducible]def h6:Type:=Option (Array VS)×Array VS×Nat×Nat×Nat
def BL{A B C D E:Type}{P:A×B×C×D×E->Prop}(h:∀a b c d e,P (a,b,c,d,e)):∀c,P c:=λ_=>h _ _ _ _ _
def qL{A B C D E F:Type}{P:A×B×C×D×E×F->Prop}(h:∀a b c d e f,P (a,b,c,d,e,f)):∀c,P c:=λ_=>h _ _ _ _ _ _
def BM{A B C D E F G:Type}{P:A×B×C×D×E×F×G->Prop}(h:∀a b c d e f g,P (a,b,c,d,e,f,g)):∀c,P c:=λ_=>h _ _ _ _ _ _ _
section
def cm{st:V6}{α:Type}{c:Prop}[Decidable c]{t e:StateT V6 Z0 α}{Q:α->V6->Prop}(aI:c->YA M A E s t Q st)(h2:¬c->YA M A E s e Q st):YA M A E s (if c then t else e) Q st:=by
 by_cases h:c
 .rw[if_pos h];exact aI h
 .rw[if_neg h];exact h2 h
def fa.less(h:fa lt a b N r i j)(d:c<=N):fa lt a b c r i j:=⟨h.1,h.2.1,h.2.2.1,h.2.2.2.1,Qk d h.2.2.2.2⟩
def fa.no(h:fa lt a b N r i j)(c:a.size+b.size<=N):False:=by
 obtain⟨_,aI,h2,h3,h4⟩:=h;lia
theorem cy.less(h:cy lt a b N t)(d:c<=N):cy lt a b c t:=by
 obtain⟨o,t⟩:=t;cases o with
 |some e=>exact h
 |none=>exact fa.less h d
def ob(h:fx lt a 0 a.size):a.toList.Pairwise (le lt):=by
 rw[R9];intro x y b c d;rw[VK]at b c;exact h x y b c (Qa _) (QM d) ⋯
def Jg{st:V6}(O:c6 M A E s κ S lt)(a4:kindOf st=κ)(P:Pre S lt a b)(aJ:0<a.size)(a3:0<b.size)(h0:∀y (w:y<a.size),le lt b[0] a[y])(V:∀u d,aR st d->dx lt a.toList b.toList u.toList->Q u d):
  YA M A E s (uA a b) Q st:=by
 rw[Jf];refine P5 (U0 (SF ⟨rfl,?_⟩));refine P5 (dF a3 ?_);have m0:cn lt a.toList b.toList (#[]:Array VS).toList 0 0:=⟨Um _,ob P.iw,ob P.dS⟩;have X:cn lt a.toList b.toList (#[b[0]]:Array VS).toList 0 1:=m0.lX a3 λy w _=>h0 y w
 refine cm (λk=>?_) λk=>?_
 .have c:=k;have c:1=b.size:=⇑c;exact Qf (V _ _ (.refl st) (pk X c))
 .have c:=k;have c:¬1=b.size:=⇑c;refine cm (λk=>?_) λk=>?_
  .have G:=k;have G:0+1=a.size:=⇑G;exact Qf (V _ _ (.refl st) (pl P X G))
  .have G:=k;have G:¬0+1=a.size:=⇑G;refine P5 (Uh ?_);refine P5 (RM (Ri (I:=λx (c:h6) d=>aR st d/\c.1=Y/\fa lt a b (x+1) c.2.1 c.2.2.1 c.2.2.2.1) (Q:=λ(c:h6) d=>aR st d/\∃u,c.1=Z u/\dx lt a.toList b.toList u.toList)
    ?step ?fin ⟨.refl st,rfl,X,by show 0+1<a.size;lia,by show 1<b.size;lia,rfl,P0 _⟩) ?post)
   case fin =>
    rintro⟨o,r,i,j,D⟩ d ⟨g,_,N⟩;exact(N.no (by rw[QP (Qa _)];lia)).elim
   case post =>
    rintro⟨o,r,i,j,D⟩ d ⟨g,u,rfl,m⟩;exact Qf (V u d g m)
   case step =>
    refine λx=>BL λo r i j D b1 _ aL h=>?_
    have aA:=h.1;have a1:=h.2.2;dsimp only at a1;refine P5 (RM (Ri (I:=λy (c:d4) d=>aR st d/\c.1=Y/\fa lt a b (x+1+y) c.2.1 c.2.2.1 c.2.2.2.1)
     (Q:=λ(c:d4) d=>aR st d/\cy lt a b (x+2) (c.1,c.2.1,c.2.2.1,c.2.2.2.1,0,0,0)) ?step2 ?fin2 ⟨aA,rfl,a1⟩) ?post2)
    case fin2 =>
     rintro⟨o,r,i,j,H,L⟩ d ⟨g,_,N⟩;exact(N.no (by rw[QP (Qa _)];lia)).elim
    case step2 =>
     refine λy=>qL λo r i j H L aG _ w h=>?_
     have v:=h.1;have B:=h.2.2;dsimp only at B;have m2:=B.1;have U:=B.2.1;have n:=B.2.2.1;have a0:=B.2.2.2.1;have aw:=B.2.2.2.2;have C:i<a.size:=⋯;refine P5 (dF n (P5 (dF C ?_)));refine P5 (O.ask _ _ _ _ (P.c8 _ n) (P.c5 _ C) (v.1.trans a4) ?_);cases e:lt b[j] a[i] with
     |true =>
      refine cm (λ_=>?_) λh=>absurd rfl h
      refine P5 (dF n ?_);have m3:=m2.lX n λy w l1=>O.cM _ _ _ (P.c8 _ n) (P.c5 _ C) (P.c5 _ w) (O.fB _ _ (P.c8 _ n) (P.c5 _ C) e) (P.iw i y C w (Qa _) l1 ⋯)
      refine cm (λk=>?_) λk=>?_
      .have l:=k;have l:j+1=b.size:=⇑l;exact Qf ⟨v,pk m3 l⟩
      .have l:=k;have l:¬j+1=b.size:=⇑l;have R:fa lt a b (x+1+(y+1)) (r.push b[j]) i (j+1):=⟨m3,U,⋯,by rw[Qz];lia,by rw[Qz];lia⟩;refine cm (λk=>?_) λk=>?_
       .exact Qf ⟨v,fa.less R ⋯⟩
       .exact Qf ⟨v,rfl,R⟩
     |false =>
      refine cm (λh=>nomatch h) λ_=>?_
      refine P5 (dF C ?_);have m3:=m2.lW C λy w l1=>O.cM _ _ _ (P.c5 _ C) (P.c8 _ n) (P.c8 _ w) e (P.dS j y n w (Qa _) l1 ⋯)
      refine cm (λk=>?_) λk=>?_
      .have l:=k;have l:i+1+1=a.size:=⇑l;exact Qf ⟨v,pl P m3 l⟩
      .have l:=k;have l:¬i+1+1=a.size:=⇑l;have R:fa lt a b (x+1+(y+1)) (r.push a[i]) (i+1) j:=⟨m3,⋯,n,by rw[Qz];lia,by rw[Qz];lia⟩;refine cm (λk=>?_) λk=>?_
       .exact Qf ⟨v,fa.less R ⋯⟩
       .exact Qf ⟨v,rfl,R⟩
    case post2 =>
     refine qL λo r i j H L aG h=>?_
     have v:=h.1;have p:=h.2;cases o with
     |some u=>exact Qf ⟨v,u,rfl,p⟩
     |none =>
      have B:fa lt a b (x+2) r i j:=p;refine P5 (U0 (SF ⟨rfl,?_⟩));refine P5 (RM (Ri (I:=λz (c:TT) d=>aR st d/\c.1=Y/\fa lt a b (x+2+z) c.2.1 c.2.2.1 c.2.2.2.1) (Q:=λ(c:TT) d=>aR st d/\cy lt a b (x+2) c)
       ?step3 ?fin3 ⟨v,rfl,B⟩) ?post3)
      case fin3 =>
       rintro⟨o,r,i,j,D,H,L⟩ d ⟨g,_,N⟩;exact(N.no (by rw[QP (Qa _)];lia)).elim
      case step3 =>
       refine λz=>BM λo r i j D H L dI _ hz h=>?_
       have T:=h.1;have h:=h.2.2;have m3:=h.1;have U:=h.2.1;have n:=h.2.2.1;have a0:=h.2.2.2.1;have aw:=h.2.2.2.2;dsimp only at m3 U n a0 aw;have a2:∀a5,YA M A E s (p1 a b r i j a5 H L) (oF lt a b (x+2+(z+1)) st) dI:=λa5=>J7 O a4 P T m3 U n a0 ⋯
       refine cm (λ_=>?_) λ_=>?_
       .refine RM (a2 (D-1)) λf d q=>?_
        cases f with
        |done t=>exact⟨q.1,cy.less q.2 ⋯⟩
        |yield t =>
         obtain⟨o,t⟩:=t;obtain⟨g',rfl,q⟩:=q;exact⟨g',rfl,q⟩
       .refine RM (a2 D) λf d q=>?_
        cases f with
        |done t=>exact⟨q.1,cy.less q.2 ⋯⟩
        |yield t =>
         obtain⟨o,t⟩:=t;obtain⟨g',rfl,q⟩:=q;exact⟨g',rfl,q⟩
      case post3 =>
       rintro⟨o,r,i,j,D,H,L⟩ dI ⟨T,p⟩;cases o with
       |some u=>exact Qf ⟨T,u,rfl,p⟩
       |none=>exact P5 (RW (Qf ⟨T.set _,rfl,p⟩))
end
abbrev uy:Array VS->Array VS->StateT V6 Z0 (Array VS):=sortPriv% PySem.Builtin.mergeHi
def I5(a b:Array VS):uy a b=(do
 ZF "list.sort.merge-hi"
 let d:=a.size+b.size
 let fin (r:Array VS) (i j:Nat):=a.extract 0 i++b.extract 0 j++r.reverse
 let c (r:Array VS) (i j:Nat):=b.extract 0 j++a.extract 0 i++r.reverse
 let mut i:=a.size-1
 let mut j:=b.size
 let mut r:Array Keyed:=#[<- WR a i]
 if i==0 then return fin r i j
 if j==1 then return c r i j
 let mut ao:=gallopOf (<- get)
 for _ in [0:d] do
  let mut ca:=0
  let mut c0:=0
  for _ in [0:d] do
   let Z w <- lt' (<- WR b (j-1)) (<- WR a (i-1))|return fin r i j
   if w then
    i:=i-1;r:=r.push (<- WR a i);ca:=ca+1;c0:=0
    if i==0 then return fin r i j
    if ca>=ao then break
   else
    j:=j-1;r:=r.push (<- WR b j);c0:=c0+1;ca:=0
    if j==1 then return c r i j
    if c0>=ao then break
  ZF "list.sort.gallop"
  ao:=ao+1
  for _ in [0:d] do
   if ao>1 then ao:=ao-1
   modify λs=>setG s ao
   let Z q <- fR VF (<- WR b (j-1)) a 0 i (i-1)|return fin r i j
   let k:=i-q
   ca:=k
   if k>0 then
    r:=r++(a.extract q i).reverse;i:=q
    if i==0 then return fin r i j
   j:=j-1;r:=r.push (<- WR b j)
   if j==1 then return c r i j
   let Z q <- fR J (<- WR a (i-1)) b 0 j (j-1)|return fin r i j
   let k:=j-q
   c0:=k
   if k>0 then
    r:=r++(b.extract q j).reverse;j:=q
    if j==1 then return c r i j
    if j==0 then return fin r i j
   i:=i-1;r:=r.push (<- WR a i)
   if i==0 then return fin r i j
   if ca<7&&c0<7 then break
  ao:=ao+1
  modify λs=>setG s ao
 ZY "internal:list.sort.merge-bound"):=rfl
structure cv(lt:VS->VS->Bool)(a b t:List VS)(i j:Nat):Prop where
 perm:(a.take i++b.take j++t).Perm (a++b)
 bR:(a.take i++t).Pairwise (le lt)
 bS:(b.take j++t).Pairwise (le lt)
section
def qW(l:List VS)(h:q<=i):l.take i=l.take q++(l.take i).drop q:=by
 conv=>lhs;rw[<- QJ q (l.take i)]
 rw[List.take_take,QZ h]
def cv.oi(h:cv lt a b t i j)(m:q<=i)(l:∀x∈b.take j,∀y∈(a.take i).drop q,le lt x y):cv lt a b ((a.take i).drop q++t) q j:=by
 have e:=qW a m;refine⟨?_,?_,?_⟩
 .refine Xv ?_ h.perm
  conv=>rhs;rw[e]
  rw[Qi,Qi,Qi];refine R7 _ ?_;rw[<- Qi,<- Qi];exact SG t SS
 .rw[<- Qi,<- e];exact h.bR
 .have f:=Qe.mp h.bS;have d:=h.bR;rw[e,Qi]at d;have k:=(Qe.mp d).2.1;refine Qe.mpr ⟨f.1,k,λx g y c=>?_⟩;rcases P8.mp c with c|c
  .exact l x g y c
  .exact f.2.2 x g y c
def cv.oj(h:cv lt a b t i j)(m:q<=j)(l:∀x∈a.take i,∀y∈(b.take j).drop q,le lt x y):cv lt a b ((b.take j).drop q++t) i q:=by
 have e:=qW b m;refine⟨?_,?_,?_⟩
 .refine Xv ?_ h.perm
  conv=>rhs;rw[e]
  rw[Qi,Qi,Qi]
 .have d:=Qe.mp h.bR;have f:=h.bS;rw[e,Qi]at f;have k:=(Qe.mp f).2.1;refine Qe.mpr ⟨d.1,k,λx g y c=>?_⟩;rcases P8.mp c with c|c
  .exact l x g y c
  .exact d.2.2 x g y c
 .rw[<- Qi,<- e];exact h.bS
def cv.tD(h:cv lt a b t 0 j):dx lt a b (b.take j++t):=by
 have:=h.perm;rw[Uu,WV]at this;exact⟨this,h.bS⟩
def cv.tE(h:cv lt a b t i 0):dx lt a b (a.take i++t):=by
 have:=h.perm;rw[Uu,QQ]at this;exact⟨this,h.bR⟩
def cv.first(h:cv lt a b t i 1)(f:∀x∈b.take 1,∀y∈a,le lt x y):dx lt a b (b.take 1++a.take i++t):=by
 have d:=Qe.mp h.bS;refine⟨?_,?_⟩
 .refine Xv ?_ h.perm;exact SG t SS
 .rw[Qi];refine Qe.mpr ⟨d.1,h.bR,λx e y c=>?_⟩;rcases P8.mp c with c|c
  .exact f x e y (S2 c)
  .exact d.2.2 x e y c
end
def kj(a:Array VS)(q i):(a.extract q i).toList=(a.toList.take i).drop q:=by
 rw[T7,WU,List.drop_take]
def lz(a:Array VS)(i):(a.extract 0 i).toList=a.toList.take i:=by rw[kj,List.drop_zero]
def qd{l:List VS}(h:x∈(l.take i).drop q):∃n,∃(a:n<l.length),q<=n/\n<i/\x=l[n]:=by
 obtain⟨n,a,rfl⟩:=RG.mp h;rw[Q6,QI]at a;have a:=SU a;exact⟨q+n,P2 a (R1 ..),QB ..,P2 a (Sd ..),by rw[UN,TB]⟩
def nG{l:List VS}(h:x∈l.take i):∃n,∃(a:n<l.length),n<i/\x=l[n]:=by
 obtain⟨n,a,rfl⟩:=RG.mp h;rw[QI]at a;exact⟨n,P2 a (R1 ..),P2 a (Sd ..),by rw[TB]⟩
def pX{l:List VS}{i:Nat}(h0:0<i)(h:i<=l.length):(l.take i).drop (i-1)=[l[i-1]'⋯]:=by
 have a:(l.take i).length=i:=by rw[QI];lia
 rw[QY (by rw[a];lia),SH (by rw[a];lia),TB]
noncomputable abbrev jS(a b r:Array VS)(i j:Nat):Array Keyed:=a.extract 0 i++b.extract 0 j++r.reverse
noncomputable abbrev cN(a b r:Array VS)(i j:Nat):Array Keyed:=b.extract 0 j++a.extract 0 i++r.reverse
@[reducible]def j1:Type:=Option (Array VS)×Nat×Nat×Array VS×Nat×Nat×Nat
abbrev h3(a b r:Array VS)(i j e c d:Nat):StateT V6 Z0 (ForInStep j1):=do
 let x <- WR a (i-1)
 if i-1==0 then pure (.done (Z (jS a b (r.push x) (i-1) j),i-1,j,r.push x,e,c,d))
 else if c<7&&d<7 then pure (.done (Y,i-1,j,r.push x,e,c,d)) else pure (.yield (Y,i-1,j,r.push x,e,c,d))
def h2(a b r:Array VS)(i j d c e:Nat):StateT V6 Z0 (ForInStep j1):=do
 let y <- WR b (j-1)
 if j-1==1 then pure (.done (Z (cN a b (r.push y) i (j-1)),i,j-1,r.push y,d,c,e))
 else do
  let x <- WR a (i-1)
  let o <- fR J x b 0 (j-1) (j-1-1)
  match o with
  |some q =>
   if j-1-q>0 then
    if q==1 then pure (.done (Z (cN a b (r.push y++(b.extract q (j-1)).reverse) i q),i,q,r.push y++(b.extract q (j-1)).reverse,d,c,j-1-q))
    else if q==0 then pure (.done (Z (jS a b (r.push y++(b.extract q (j-1)).reverse) i q),i,q,r.push y++(b.extract q (j-1)).reverse,d,c,j-1-q))
    else h3 a b (r.push y++(b.extract q (j-1)).reverse) i q d c (j-1-q)
   else h3 a b (r.push y) i (j-1) d c (j-1-q)
  |_=>pure (.done (Z (jS a b (r.push y) i (j-1)),i,j-1,r.push y,d,c,e))
def aI(a b r:Array VS)(i j c e d:Nat):StateT V6 Z0 (ForInStep j1):=do
 modify λs=>setG s c
 let y <- WR b (j-1)
 let o <- fR VF y a 0 i (i-1)
 match o with
 |some q =>
  if i-q>0 then
   if q==0 then pure (.done (Z (jS a b (r++(a.extract q i).reverse) q j),q,j,r++(a.extract q i).reverse,c,i-q,d))
   else h2 a b (r++(a.extract q i).reverse) q j c (i-q) d
  else h2 a b r i j c (i-q) d
 |_=>pure (.done (Z (jS a b r i j),i,j,r,c,e,d))
section
variable{M:Zk}{A:Wg}{E:VI->VL->Prop}{s:VL}{κ:Xa}{S:VS->Prop}{lt:VS->VS->Bool}{a b r:Array VS}{st0 st:V6}{i j ao ca c0 N:Nat}
structure mC(S:VS->Prop)(lt:VS->VS->Bool)(a b:Array VS):Prop where
 c5:∀x (hy:x<a.size),S a[x]
 c8:∀x (hy:x<b.size),S b[x]
 iw:fx lt a 0 a.size
 dS:fx lt b 0 b.size
 first:∀x∈b.toList.take 1,∀y∈a.toList,le lt x y
@[reducible]def ej(lt:VS->VS->Bool)(a b r:Array VS)(i j:Nat):Prop:=cv lt a.toList b.toList r.toList.reverse i j
def e9(lt:VS->VS->Bool)(a b:Array VS)(N:Nat)(r:Array VS)(i j:Nat):Prop:=ej lt a b r i j/\0<i/\i<=a.size/\1<j/\j<=b.size/\r.size+i+j=a.size+b.size/\N<=r.size
def hY(lt:VS->VS->Bool)(a b:Array VS)(N:Nat)(t:j1):Prop:=match t.1 with
 |some c=>dx lt a.toList b.toList c.toList
 |none=>e9 lt a b N t.2.2.2.1 t.2.1 t.2.2.1
def gp(lt:VS->VS->Bool)(a b:Array VS)(N:Nat)(st0:V6)(f:ForInStep j1)(st:V6):Prop:=aR st0 st/\match f with
 |.done t=>hY lt a b N t
 |.yield t=>t.1=Y/\hY lt a b N t
def pv(P:mC S lt a b)(h:ej lt a b r i j)(c:j=1):dx lt a.toList b.toList (cN a b r i j).toList:=by
 subst c;show dx _ _ _ (b.extract 0 1++a.extract 0 i++r.reverse).toList;rw[Qx,Qx,lz,lz,Sk];exact cv.first h P.first
def ps(h:ej lt a b r i j)(hi:i=0):dx lt a.toList b.toList (jS a b r i j).toList:=by
 subst hi;show dx _ _ _ (a.extract 0 0++b.extract 0 j++r.reverse).toList;rw[Qx,Qx,lz,lz,Sk,Uu,WV];exact cv.tD h
def GV(h:ej lt a b r i j)(c:j=0):dx lt a.toList b.toList (jS a b r i j).toList:=by
 subst c;show dx _ _ _ (a.extract 0 i++b.extract 0 0++r.reverse).toList;rw[Qx,Qx,lz,lz,Sk,Uu,QQ];exact cv.tE h
def cv.tB(h:ej lt a b r i j)(k:q<=i)(g:∀x (e:x<b.size) y (f:y<a.size),x<j->q<=y->y<i->le lt b[x] a[y]):ej lt a b (r++(a.extract q i).reverse) q j:=by
 show cv lt a.toList b.toList (r++(a.extract q i).reverse).toList.reverse q j;rw[Qx,Sk,Sr,YK,kj];refine cv.oi h k λx e y f=>?_
 obtain⟨n,d,l1,rfl⟩:=nG e;obtain⟨m,c,l2,l3,rfl⟩:=qd f;rw[VK]at d c;exact g n d m c l1 l2 l3
def cv.tC(h:ej lt a b r i j)(k:q<=j)(g:∀x (e:x<a.size) y (f:y<b.size),x<i->q<=y->y<j->le lt a[x] b[y]):ej lt a b (r++(b.extract q j).reverse) i q:=by
 show cv lt a.toList b.toList (r++(b.extract q j).reverse).toList.reverse i q;rw[Qx,Sk,Sr,YK,kj];refine cv.oj h k λx e y f=>?_
 obtain⟨n,d,l1,rfl⟩:=nG e;obtain⟨m,c,l2,l3,rfl⟩:=qd f;rw[VK]at d c;exact g n d m c l1 l2 l3
def cv.lW(h:ej lt a b r i j)(h0:0<i)(hi:i<=a.size)(f:∀x (d:x<b.size),x<j->le lt b[x] (a[i-1]'⋯)):ej lt a b (r.push (a[i-1]'⋯)) (i-1) j:=by
 have gX:i-1<a.toList.length:=by rw[VK];lia
 have:=cv.oi (q:=i-1) h ⋯ (λx d y e=>by
  rw[pX h0 (by rw[VK];exact hi)]at e;obtain rfl:y=a.toList[i-1]'gX:=⇑e;obtain⟨n,c,l1,rfl⟩:=nG d;exact f n (by rw[VK]at c;exact c) l1)
 rw[pX h0 (by rw[VK];exact hi)]at this;show cv lt a.toList b.toList (r.push (a[i-1]'⋯)).toList.reverse (i-1) j;rw[SX,Sr];exact this
def cv.lX(h:ej lt a b r i j)(h0:0<j)(c:j<=b.size)(g:∀x (e:x<a.size),x<i->le lt a[x] (b[j-1]'⋯)):ej lt a b (r.push (b[j-1]'⋯)) i (j-1):=by
 have gX:j-1<b.toList.length:=by rw[VK];lia
 have:=cv.oj (q:=j-1) h ⋯ (λx e y f=>by
  rw[pX h0 (by rw[VK];exact c)]at f;obtain rfl:y=b.toList[j-1]'gX:=⇑f;obtain⟨n,d,l1,rfl⟩:=nG e;exact g n (by rw[VK]at d;exact d) l1)
 rw[pX h0 (by rw[VK];exact c)]at this;show cv lt a.toList b.toList (r.push (b[j-1]'⋯)).toList.reverse i (j-1);rw[SX,Sr];exact this
def yz(P:mC S lt a b)(g:aR st0 st)(h:ej lt a b r i j)(f:0<i)(hi:i<=a.size)(k:1<j)(l:j<=b.size)(n:r.size+i+j=a.size+b.size)(e:N<=r.size+1)(m:∀x (o:x<b.size),x<j->le lt b[x] (a[i-1]'⋯)):
  YA M A E s (h3 a b r i j ao ca c0) (gp lt a b N st0) st:=by
 unfold h3;refine P5 (dF ⋯ ?_);have h':=cv.lW h f hi m;refine cm (λc=>?_) λc=>?_
 .have c:i-1=0:=⇑c;exact Qf ⟨g,ps h' c⟩
 .have c:¬i-1=0:=⇑c;have d:e9 lt a b N (r.push (a[i-1]'⋯)) (i-1) j:=⟨h',⋯,⋯,k,l,by rw[Qz];lia,by rw[Qz];exact e⟩;refine cm (λ_=>?_) λ_=>?_
  .exact Qf ⟨g,d⟩
  .exact Qf ⟨g,rfl,d⟩
def yy(O:c6 M A E s κ S lt)(B:kindOf st0=κ)(P:mC S lt a b)(g:aR st0 st)(h:ej lt a b r i j)(o:0<i)(hi:i<=a.size)(p:1<j)(t:j<=b.size)(H:r.size+i+j=a.size+b.size)(G:N<=r.size+2)(C:∀x (d:x<a.size),x<i->le lt a[x] (b[j-1]'⋯)):YA M A E s (h2 a b r i j ao ca c0) (gp lt a b N st0) st:=by
 unfold h2;refine P5 (dF ⋯ ?_);have h':=cv.lX h ⋯ t C;refine cm (λc=>?_) λc=>?_
 .have c:j-1=1:=⇑c;exact Qf ⟨g,pv P h' c⟩
 .have c:¬j-1=1:=⇑c;refine P5 (dF ⋯ ?_);refine P5 (tK O (g.1.trans B) P.c8 (P.c5 _ ⋯) ⋯ ⋯ (λx y d m l1 l2 l3=>P.dS x y d m (Qa _) l2 ⋯) λq l w z=>?_);have I:=Uv (QM p);have u:=Qk (Sw j 1) t;have L:q<j:=QF l (VA (Zx p) ∅);have h4:ej lt a b (r.push (b[j-1]'⋯)++(b.extract q (j-1)).reverse) i q:=cv.tC h' l λx d y m l1 l2 l3 =>
   O.cM _ _ _ (P.c5 _ d) (P.c5 _ ⋯) (P.c8 _ m) (P.iw x (i-1) d ⋯ (Qa _) ⋯ ⋯) (z y m ⋯ ⋯)
  have D:(r.push (b[j-1]'⋯)++(b.extract q (j-1)).reverse).size+i+q=a.size+b.size:=by
   have:=Uv l;rw[RL,Qz,Ze,QL,QZ u];lia
  have v:∀x (d:x<b.size),x<q->le lt b[x] (a[i-1]'⋯):=λx d l1=>O.fB _ _ (P.c8 _ d) (P.c5 _ ⋯) (w x d (Qa _) ⋯)
  refine cm (λn=>?_) λn=>?_
  .refine cm (λf=>?_) λf=>?_
   .have f:q=1:=⇑f;exact Qf ⟨g,pv P h4 f⟩
   .have f:¬q=1:=⇑f;refine cm (λk=>?_) λk=>?_
    .have k:q=0:=⇑k;exact Qf ⟨g,GV h4 k⟩
    .have k:¬q=0:=⇑k;exact yz P g h4 o hi ⋯ (Qk l u) D (by clear l;lia) v
  .have e:=Vh l (Nat.sub_eq_zero_iff_le.mp (Nat.eq_zero_of_not_pos n));subst e;exact yz P g h' o hi ⋯ ⋯ (by rw[Qz];lia) (by rw[Qz];lia) v
def G2(O:c6 M A E s κ S lt)(l:kindOf st0=κ)(P:mC S lt a b)(g:aR st0 st)(h:ej lt a b r i j)(w:0<i)(hi:i<=a.size)(m:1<j)(n:j<=b.size)(z:r.size+i+j=a.size+b.size)(v:N<=r.size+2):
  YA M A E s (aI a b r i j ao ca c0) (gp lt a b N st0) st:=by
 unfold aI;refine P5 (RW ?_);have g:=g.set ao;refine P5 (dF ⋯ ?_);refine P5 (tJ O (g.1.trans l) P.c5 (P.c8 _ ⋯) ⋯ ⋯ (λx y d k l1 l2 l3=>P.iw x y d k (Qa _) l2 ⋯) λq o t u=>?_);have h4:ej lt a b (r++(a.extract q i).reverse) q j:=cv.tB h o λx d y k l1 l2 l3 =>
  O.cM _ _ _ (P.c8 _ d) (P.c8 _ ⋯) (P.c5 _ k) (P.dS x (j-1) d ⋯ (Qa _) ⋯ ⋯) (O.fB _ _ (P.c8 _ ⋯) (P.c5 _ k) (u y k ⋯ ⋯))
 have B:(r++(a.extract q i).reverse).size+q+j=a.size+b.size:=by
  have:=Uv o;rw[RL,Ze,QL,QZ hi];lia
 have p:∀x (d:x<a.size),x<q->le lt a[x] (b[j-1]'⋯):=λx d l1=>t x d (Qa _) ⋯
 refine cm (λc=>?_) λc=>?_
 .refine cm (λf=>?_) λf=>?_
  .have f:q=0:=⇑f;exact Qf ⟨g,ps h4 f⟩
  .have f:¬q=0:=⇑f;exact yy O l P g h4 ⋯ ⋯ m n B ⋯ p
 .have e:q=i:=⋯;subst e;exact yy O l P g h w hi m n z v p
end
@[reducible]def wk:Type:=Option (Array VS)×Nat×Nat×Array VS×Nat×Nat
@[reducible]def mF:Type:=Option (Array VS)×Nat×Nat×Array VS×Nat
section
variable{M:Zk}{A:Wg}{E:VI->VL->Prop}{s:VL}{κ:Xa}{S:VS->Prop}{lt:VS->VS->Bool}{a b r:Array VS}{st0 st:V6}{i j ao ca c0 N:Nat}
def e9.less(h:e9 lt a b N r i j)(d:c<=N):e9 lt a b c r i j:=⟨h.1,h.2.1,h.2.2.1,h.2.2.2.1,h.2.2.2.2.1,h.2.2.2.2.2.1,Qk d h.2.2.2.2.2.2⟩
def e9.no(h:e9 lt a b N r i j)(d:a.size+b.size<=N):False:=by
 obtain⟨_,aI,h2,h3,h4,h5,c⟩:=h;lia
theorem hY.less(h:hY lt a b N t)(d:c<=N):hY lt a b c t:=by
 obtain⟨o,t⟩:=t;cases o with
 |some e=>exact h
 |none=>exact e9.less h d
def I6{Q:Array VS->V6->Prop}(O:c6 M A E s κ S lt)(a5:kindOf st=κ)(P:mC S lt a b)(aJ:0<a.size)(b1:0<b.size)(h0:∀x (B:x<b.size),le lt b[x] (a[a.size-1]'⋯))(V:∀n d,aR st d->dx lt a.toList b.toList n.toList->Q n d):
  YA M A E s (uy a b) Q st:=by
 rw[I5];refine P5 (U0 (SF ⟨rfl,?_⟩));refine P5 (dF ⋯ ?_);have a2:a.toList.take a.size=a.toList:=Rh (by rw[VK];exact P0 _);have a3:b.toList.take b.size=b.toList:=Rh (by rw[VK];exact P0 _);have m0:ej lt a b #[] a.size b.size:=by
  refine⟨?_,?_,?_⟩
  .rw[a2,a3];simp
  .rw[a2];simpa using ob P.iw
  .rw[a3];simpa using ob P.dS
 have X:ej lt a b #[a[a.size-1]'⋯] (a.size-1) b.size:=cv.lW m0 aJ (P0 _) λx B _=>h0 x B
 refine cm (λc=>?_) λc=>?_
 .have c:a.size-1=0:=⇑c;exact Qf (V _ _ (.refl st) (ps X c))
 .have c:¬a.size-1=0:=⇑c;refine cm (λC=>?_) λC=>?_
  .have C:b.size=1:=⇑C;exact Qf (V _ _ (.refl st) (pv P X C))
  .have C:¬b.size=1:=⇑C;refine P5 (Uh ?_);refine P5 (RM (Ri (I:=λx (c:mF) d=>aR st d/\c.1=Y/\e9 lt a b (x+1) c.2.2.2.1 c.2.1 c.2.2.1) (Q:=λ(c:mF) d=>aR st d/\∃n,c.1=Z n/\dx lt a.toList b.toList n.toList)
    ?step ?fin ⟨.refl st,rfl,X,by show 0<a.size-1;lia,by show a.size-1<=a.size;lia,by show 1<b.size;lia,P0 _,by show 1+(a.size-1)+b.size=a.size+b.size;lia,P0 _⟩) ?post)
   case fin =>
    rintro⟨o,i,j,r,ao⟩ d ⟨g,_,D⟩;exact(D.no (by rw[QP (Qa _)];lia)).elim
   case post =>
    rintro⟨o,i,j,r,ao⟩ d ⟨g,n,rfl,m⟩;exact Qf (V n d g m)
   case step =>
    refine λx=>BL λo i j r ao bp _ B h=>?_
    have aG:=h.1;have a1:=h.2.2;dsimp only at a1;refine P5 (RM (Ri (I:=λy (c:wk) d=>aR st d/\c.1=Y/\e9 lt a b (x+1+y) c.2.2.2.1 c.2.1 c.2.2.1)
     (Q:=λ(c:wk) d=>aR st d/\hY lt a b (x+2) (c.1,c.2.1,c.2.2.1,c.2.2.2.1,0,0,0)) ?step2 ?fin2 ⟨aG,rfl,a1⟩) ?post2)
    case fin2 =>
     rintro⟨o,i,j,r,ca,c0⟩ d ⟨g,_,D⟩;exact(D.no (by rw[QP (Qa _)];lia)).elim
    case step2 =>
     refine λy=>qL λo i j r ca c0 aL _ b2 h=>?_
     have u:=h.1;have q:=h.2.2;dsimp only at q;have m2:=q.1;have H:=q.2.1;have L:=q.2.2.1;have U:=q.2.2.2.1;have R:=q.2.2.2.2.1;have a0:=q.2.2.2.2.2.1;have aA:=q.2.2.2.2.2.2;have v:i-1<a.size:=⋯;have w:j-1<b.size:=⋯;refine P5 (dF w (P5 (dF v ?_)));refine P5 (O.ask _ _ _ _ (P.c8 _ w) (P.c5 _ v) (u.1.trans a5) ?_);cases e:lt (b[j-1]'w) (a[i-1]'v) with
     |true =>
      refine cm (λ_=>?_) λh=>absurd rfl h
      refine P5 (dF v ?_);have m3:=cv.lW m2 H L λx B l1=>O.cM _ _ _ (P.c8 _ B) (P.c8 _ w) (P.c5 _ v) (P.dS x (j-1) B w (Qa _) ⋯ ⋯) (O.fB _ _ (P.c8 _ w) (P.c5 _ v) e)
      refine cm (λk=>?_) λk=>?_
      .have k:i-1=0:=⇑k;exact Qf ⟨u,ps m3 k⟩
      .have k:¬i-1=0:=⇑k;have G:e9 lt a b (x+1+(y+1)) (r.push (a[i-1]'v)) (i-1) j:=⟨m3,⋯,⋯,U,R,by rw[Qz];lia,by rw[Qz];lia⟩;refine cm (λ_=>?_) λ_=>?_
       .exact Qf ⟨u,e9.less G ⋯⟩
       .exact Qf ⟨u,rfl,G⟩
     |false =>
      refine cm (λh=>nomatch h) λ_=>?_
      refine P5 (dF w ?_);have m3:=cv.lX m2 ⋯ R λx B l1=>O.cM _ _ _ (P.c5 _ B) (P.c5 _ v) (P.c8 _ w) (P.iw x (i-1) B v (Qa _) ⋯ ⋯) e
      refine cm (λk=>?_) λk=>?_
      .have k:j-1=1:=⇑k;exact Qf ⟨u,pv P m3 k⟩
      .have k:¬j-1=1:=⇑k;have G:e9 lt a b (x+1+(y+1)) (r.push (b[j-1]'w)) i (j-1):=⟨m3,H,L,⋯,⋯,by rw[Qz];lia,by rw[Qz];lia⟩;refine cm (λ_=>?_) λ_=>?_
       .exact Qf ⟨u,e9.less G ⋯⟩
       .exact Qf ⟨u,rfl,G⟩
    case post2 =>
     refine qL λo i j r ca c0 aL h=>?_
     have u:=h.1;have p:=h.2;cases o with
     |some n=>exact Qf ⟨u,n,rfl,p⟩
     |none =>
      have q:e9 lt a b (x+2) r i j:=p;refine P5 (U0 (SF ⟨rfl,?_⟩));refine P5 (RM (Ri (I:=λz (c:j1) d=>aR st d/\c.1=Y/\e9 lt a b (x+2+z) c.2.2.2.1 c.2.1 c.2.2.1) (Q:=λ(c:j1) d=>aR st d/\hY lt a b (x+2) c)
       ?step3 ?fin3 ⟨u,rfl,q⟩) ?post3)
      case fin3 =>
       rintro⟨o,i,j,r,ao,ca,c0⟩ d ⟨g,_,D⟩;exact(D.no (by rw[QP (Qa _)];lia)).elim
      case step3 =>
       refine λz=>BM λo i j r ao ca c0 dI _ hz h=>?_
       have T:=h.1;have h:=h.2.2;have m3:=h.1;have H:=h.2.1;have L:=h.2.2.1;have U:=h.2.2.2.1;have R:=h.2.2.2.2.1;have a0:=h.2.2.2.2.2.1;have aA:=h.2.2.2.2.2.2;dsimp only at m3 H L U R a0 aA;have a4:∀aw,YA M A E s (aI a b r i j aw ca c0) (gp lt a b (x+2+(z+1)) st) dI:=λaw=>G2 O a5 P T m3 H L U R a0 ⋯
       refine cm (λ_=>?_) λ_=>?_
       .refine RM (a4 (ao-1)) λf d l=>?_
        cases f with
        |done t=>exact⟨l.1,hY.less l.2 ⋯⟩
        |yield t =>
         obtain⟨o,t⟩:=t;obtain⟨g',rfl,l⟩:=l;exact⟨g',rfl,l⟩
       .refine RM (a4 ao) λf d l=>?_
        cases f with
        |done t=>exact⟨l.1,hY.less l.2 ⋯⟩
        |yield t =>
         obtain⟨o,t⟩:=t;obtain⟨g',rfl,l⟩:=l;exact⟨g',rfl,l⟩
      case post3 =>
       rintro⟨o,i,j,r,ao,ca,c0⟩ dI ⟨T,p⟩;cases o with
       |some n=>exact Qf ⟨T,n,rfl,p⟩
       |none=>exact P5 (RW (Qf ⟨T.set _,rfl,p⟩))
end
def IY(i:Nat):mergeAt' i=(do
 let s <- get
 let (Z (u,n,c),Z (v,m,_)):=((Wm s)[i]?,(Wm s)[i+1]?)|unsupported "internal:list.sort.pending"
 set (setPending s (((Wm s).setIfInBounds i (u,n+m,c)).eraseIdxIfInBounds (i+1)))
 let Z k <- fR VF (<- WR (VQ s) v) (VQ s) u n 0|return VF
 let (u,n):=(u+k,n-k)
 if n==0 then return J
 let Z m <- fR J (<- WR (VQ s) (u+n-1)) (VQ s) v m (m-1)|return VF
 if m==0 then return J
 let x:=(VQ s).extract u v
 let y:=(VQ s).extract v (v+m)
 let b <- if n<=m then uA x y else uy x y
 modify λs=>setArr s (b.toList.zipIdx.foldl (λa (p,j)=>a.setIfInBounds (u+j) p) (VQ s))
 return (Wv (<- get)).isNone):=rfl
theorem yl:∀(m:List VS)(b:Array VS)(k o:Nat),k+o+m.length<=b.size->((m.zipIdx o).foldl (λa (p:VS×Nat)=>a.setIfInBounds (k+p.2) p.1) b).toList=b.toList.take (k+o)++m++b.toList.drop (k+o+m.length)
 |[],b,k,o,h=>by simp
 |x::m,b,k,o,h=>by
  rw[List.zipIdx_cons,W4];rw[VX]at h;rw[yl m _ k (o+1) (by rw[XQ];lia)];rw[Uw];dsimp only;have c:k+o<b.toList.length:=(by rw[VK];lia);rw[show k+(o+1)=k+o+1 by lia,List.take_set,List.drop_set_of_lt ⋯,VX];have e:(b.toList.take (k+o+1)).set (k+o) x=b.toList.take (k+o)++[x]:=by
   rw[List.take_succ_eq_append_getElem c];rw[TL _ _ (by rw[QI];lia)];congr 1;rw[QI,QZ ⋯,Vb];rfl
  rw[e,show k+o+1+m.length=k+o+(m.length+1) by lia];simp only[Qi,XZ,WV]
def GD(m)(b:Array VS)(k)(h:k+m.length<=b.size):(m.zipIdx.foldl (λa (p:VS×Nat)=>a.setIfInBounds (k+p.2) p.1) b).toList=b.toList.take k++m++b.toList.drop (k+m.length):=yl m b k 0 h
section
def hv{a:Array VS}(h:x<(a.extract p q).size):∃(h':p+x<a.size),(a.extract p q)[x]=a[p+x]:=by
 rw[QL]at h;exact⟨P2 (SU h) (R1 ..),Array.getElem_extract ..⟩
def c6.dY(O:c6 M A E s κ S lt)(h:S x):lt x x=false:=by
 cases e:lt x x with
 |false=>rfl
 |true=>exact(O.fB x x h h e▸e).symm▸rfl
def get3{α:Type}(A R a:List α)(x):(A++R++a)[x]?=if x<A.length then A[x]? else if x<A.length+R.length then R[x-A.length]? else a[x-(A.length+R.length)]?:=by
 rw[YL,PY,YL]
 by_cases aI:x<A.length
 .rw[if_pos ⋯,if_pos aI,if_pos aI]
 .rw[if_neg aI,if_neg aI]
def Ks{α:Type}(p q)(x y:α):(p++x::y::q).toArray[p.length]?=Z x/\(p++x::y::q).toArray[p.length+1]?=Z y:=by
 constructor<;>simp[QD]
def Kt{α:Type}(p q)(x y z:α):((p++x::y::q).toArray.setIfInBounds p.length z).eraseIdxIfInBounds (p.length+1)=(p++z::q).toArray:=by
 apply TX.mp;rw[Array.toList_eraseIdxIfInBounds,Uw];show((p++x::y::q).set p.length z).eraseIdx (p.length+1)=p++z::q;rw[TL _ _ (P0 _),Vb,List.eraseIdx_append_of_length_le (QB _ _),Q7];rfl
def IZ{st:V6}(O:c6 M A E s κ S lt)(aG:kindOf st=κ)(hs:Wv st=Y)(f8:Wm st=(p++(u,n,bg)::(u+n,m,gX)::q).toArray)(eQ:0<n)(gW:0<m)(hz:u+n+m<=(VQ st).size)(o:∀x (f:x<(VQ st).size),S (VQ st)[x])(aI:fx lt (VQ st) u n)(h2:fx lt (VQ st) (u+n) m)(bp:∀U,kindOf U=κ->Wv U=Y->Wm U=(p++(u,n+m,bg)::q).toArray->(VQ U).toList.Perm (VQ st).toList->(∀k,(k<u\/u+n+m<=k)->(VQ U)[k]?=(VQ st)[k]?)->fx lt (VQ U) u (n+m)->Q J U):YA M A E s (mergeAt' p.length) Q st:=by
 rw[IY];refine P5 (Uh ?_);simp only[f8,Ks,Kt];have ni:∀{Q:PUnit->V6->Prop}{x:V6},Q ⟨⟩ x->YA M A E s (set x:StateT V6 Z0 PUnit) Q st:=λ{Q x} h=>by
  unfold YA;rw[StateT.run_set];exact VG ⟨rfl,h⟩
 refine P5 (ni ?_);generalize e1:setPending st (p++(u,n+m,bg)::q).toArray=V;have k1:kindOf V=κ:=by rw[<- e1];exact aG
 have bq:Wv V=none:=by rw[<- e1];exact hs
 have p1:Wm V=(p++(u,n+m,bg)::q).toArray:=by rw[<- e1]
 have a1:VQ V=VQ st:=by rw[<- e1]
 generalize VQ st=c at hz o aI h2 bp a1 ⊢;generalize bf:u+n=v at *;have B:v<c.size:=by lia
 refine P5 (dF B ?_);refine P5 (tJ O k1 o (o _ B) ⋯ eQ aI λk aG ed f4=>?_);have all:(∀x (f:x<c.size),u<=x->x<v->le lt c[x] c[v])->fx lt c u (n+m):=λkk x y f r h0 L aJ=>by
  by_cases aA:y<v
  .exact aI x y f r h0 L ⋯
  .by_cases a3:x<v
   .exact O.cM _ _ _ (o _ f) (o _ B) (o _ r) (kk x f h0 a3) (h2 v y B r (P0 _) ⋯ ⋯)
   .exact h2 x y f r ⋯ L ⋯
 refine cm (λR=>?_) λR=>?_
 .have R:n-k=0:=⇑R;refine Qf (bp V k1 bq p1 (by rw[a1]) (λ_ _=>by rw[a1]) (by rw[a1];exact all λx f l0 l=>ed x f l0 ⋯))
 .have R:¬n-k=0:=⇑R;have aJ:u+k+(n-k)-1=v-1:=(by rw[RK,Q1 aG,bf]);have jf:0<v:=P2 eQ (bf▸Ti ..);have gb:v-1<u+n:=(by rw[bf];exact VA jf ∅);rw[aJ];have T:v-1<c.size:=QF (Sw ..) B;refine P5 (dF T ?_);refine P5 (tK O k1 o (o _ T) ⋯ ⋯ h2 λcE ht H et=>?_);refine cm (λa0=>?_) λa0=>?_
  .have a0:cE=0:=⇑a0;have hw:=all λx f l0 l=>O.cM _ _ _ (o _ f) (o _ T) (o _ B) (aI x (v-1) f T l0 (QO l) gb) (et v B (by rw[a0];exact P0 v) ⋯)
   exact Qf (bp V k1 bq p1 (by rw[a1]) (λ_ _=>by rw[a1]) (by rw[a1];exact hw))
  .have a0:¬cE=0:=⇑a0;generalize eE:u+k=b at *;have b1:u<=b:=⋯;have b2:b<v:=(by rw[<- eE,<- bf];exact RO (Nat.lt_of_sub_ne_zero R) u);obtain⟨d,bH⟩:=UY b2;have aw:b+(d+1+cE)=v+cE:=(by rw[bH];simp only[RK]);have i5:v+cE<=v+m:=RY ht v;clear aJ R eE aG;have I:(c.extract b v).size=d+1:=(by rw[QL,QZ (QM B),bH,RK,Q7]);have X:(c.extract v (v+cE)).size=cE:=(by rw[QL,QZ (Qk i5 hz),Q7]);have cZ:∀x (f:x<(c.extract b v).size),S (c.extract b v)[x]:=λx f=>by obtain⟨h',e⟩:=hv f;rw[e];exact o _ h'
   have dh:∀x (f:x<(c.extract v (v+cE)).size),S (c.extract v (v+cE))[x]:=λx f=>by obtain⟨h',e⟩:=hv f;rw[e];exact o _ h'
   have dg:fx lt (c.extract b v) 0 (c.extract b v).size:=λx y f r _ L _=>by
    obtain⟨G,e1⟩:=hv f;obtain⟨bJ,e2⟩:=hv r;rw[e1,e2];exact aI _ _ G bJ ⋯ ⋯ (by rw[I]at r;lia)
   have dr:fx lt (c.extract v (v+cE)) 0 (c.extract v (v+cE)).size:=λx y f r _ L _=>by
    obtain⟨G,e1⟩:=hv f;obtain⟨bJ,e2⟩:=hv r;rw[e1,e2];exact h2 _ _ G bJ ⋯ ⋯ (by rw[X]at r;lia)
   have dW:∀y (r:y<(c.extract v (v+cE)).size),le lt (c.extract v (v+cE))[y] c[v-1]:=λy r=>by
    obtain⟨G,e1⟩:=hv r;rw[e1];exact O.fB _ _ (o _ G) (o _ T) (H _ G ⋯ (by rw[X]at r;lia))
   have e4:∀z,(c.extract b v).toList[(c.extract b v).toList.length-1]?=Z z->z=c[v-1]:=λz hz=>by
    rw[VK,I,R5,Qm,P9 (by rw[I];exact Rw d)]at hz;obtain⟨G,e1⟩:=hv (a:=c) (p:=b) (q:=v) (x:=d) (by rw[I];exact Rw d);rw[e1]at hz;cases hz;congr 1;rw[bH];rfl
   have eD:∀x (f:x<(c.extract b v).size),le lt c[v] (c.extract b v)[x]:=λx f=>by
    obtain⟨G,e1⟩:=hv f;rw[e1];exact O.fB _ _ (o _ B) (o _ G) (f4 _ G ⋯ (by rw[I]at f;lia))
   have fP:(c.extract v (v+cE))[0]'(by rw[X];lia)=c[v]:=by
    obtain⟨G,e1⟩:=hv (a:=c) (p:=v) (q:=v+cE) (x:=0) (by rw[X];lia);rw[e1];rfl
   have fin:∀(w:Array VS)(g8:V6),aR V g8->dx lt (c.extract b v).toList (c.extract v (v+cE)).toList w.toList->YA M A E s (do
     modify λs=>setArr s (w.toList.zipIdx.foldl (λa (p,j)=>a.setIfInBounds (b+j) p) (VQ s))
     return (Wv (<- get)).isNone) Q g8:=λw g8 g bh=>by
    refine P5 (RW (P5 (Uh (Qf ?_))));have ec:Wv g8=none:=g.2.2.2.trans bq;have f0:VQ g8=c:=g.2.1.trans a1;have aL:w.toList.length=d+1+cE:=(by rw[bh.1.length_eq,PY,VK,VK,I,X]);have a4:(w.toList.zipIdx.foldl (λa (p:VS×Nat)=>a.setIfInBounds (b+p.2) p.1) (VQ g8)).toList=c.toList.take b++w.toList++c.toList.drop (v+cE):=by
     rw[f0,GD _ _ _ (by rw[aL,aw];exact Qk i5 hz),aL,aw]
    have e0:c.toList=c.toList.take b++((c.extract b v).toList++(c.extract v (v+cE)).toList)++c.toList.drop (v+cE):=by
     rw[kj,kj];have jd:c.toList.take v=c.toList.take b++(c.toList.take v).drop b:=qW _ (QM b2);have je:c.toList.take (v+cE)=c.toList.take v++(c.toList.take (v+cE)).drop v:=qW _ (QB ..);rw[<- Qi,<- jd,<- je,QJ]
    show Q (Wv g8).isNone _;rw[ec];have e3:(c.toList.take b).length=b:=(by rw[QI,VK];exact QZ (QM (Rf b2 B)));refine bp _ (g.1.trans k1) ec (g.2.2.1.trans p1) ?_ ?_ ?_
    .show(w.toList.zipIdx.foldl (λa (p:VS×Nat)=>a.setIfInBounds (b+p.2) p.1) (VQ g8)).toList.Perm _;rw[a4]
     conv=>rhs;rw[e0]
     exact SG _ (R7 _ bh.1)
    .intro x f;show(w.toList.zipIdx.foldl (λa (p:VS×Nat)=>a.setIfInBounds (b+p.2) p.1) (VQ g8))[x]?=_;rw[<- Qm,<- Qm,a4,get3,e3,aL,aw]
     by_cases bw:x<b
     .rw[if_pos bw,Zf,if_pos bw]
     .have es:v+cE<=x:=⋯;rw[if_neg bw,if_neg (SA.mpr es),Ux,Q1 es]
    .show fx lt (w.toList.zipIdx.foldl (λa (p:VS×Nat)=>a.setIfInBounds (b+p.2) p.1) (VQ g8)) u (n+m);generalize w.toList.zipIdx.foldl (λa (p:VS×Nat)=>a.setIfInBounds (b+p.2) p.1) (VQ g8)=a2 at a4;have bI:∀x∈w.toList,∃i,∃(hi:i<c.size),b<=i/\i<v+cE/\x=c[i]:=λx f=>by
      rcases P8.mp (bh.1.mem_iff.mp f) with f|f
      .rw[kj]at f;obtain⟨i,hi,l1,l2,rfl⟩:=qd f;rw[VK]at hi;exact⟨i,hi,l1,P2 l2 (QB ..),rfl⟩
      .rw[kj]at f;obtain⟨i,hi,l1,l2,rfl⟩:=qd f;rw[VK]at hi;exact⟨i,hi,Qk (QM b2) l1,l2,rfl⟩
     have gx:∀i j (hi:i<c.size) (t:j<c.size),u<=i->i<b->b<=j->j<v+m->le lt c[i] c[j]:=λi j hi t l0 l1 l2 l3=>by
      by_cases cP:j<v
      .exact aI i j hi t l0 ⋯ ⋯
      .exact O.cM _ _ _ (o _ hi) (o _ B) (o _ t) (ed i hi l0 ⋯) (h2 v j B t (P0 _) ⋯ ⋯)
     have e5:∀i j (hi:i<c.size) (t:j<c.size),u<=i->i<v+cE->v+cE<=j->j<v+m->le lt c[i] c[j]:=λi j hi t l0 l1 l2 l3=>by
      by_cases f2:i<v
      .exact O.cM _ _ _ (o _ hi) (o _ T) (o _ t) (aI i (v-1) hi T l0 (QO f2) gb) (et j t l2 l3)
      .exact h2 i j hi t ⋯ ⋯ ⋯
     have di:∀x (f:x<a2.size),c.toList.take b++w.toList++c.toList.drop (v+cE)=a2.toList->(x<b->∃(h:x<c.size),a2[x]=c[x])/\(v+cE<=x->∃(h:x<c.size),a2[x]=c[x])/\(b<=x->x<v+cE->∃(h:x-b<w.toList.length),a2[x]=w.toList[x-b]):=λx f lB=>by
      have H:=get3 (c.toList.take b) w.toList (c.toList.drop (v+cE)) x;rw[lB,e3,aL,aw,Qm,P9 f]at H;refine⟨λl=>?_,λl=>?_,λl hu=>?_⟩
      .rw[if_pos l,Zf,if_pos l,Qm,P9 (Rf l (Rf b2 B))]at H;exact⟨_,Qy H⟩
      .rw[if_neg ⋯,if_neg (SA.mpr l),Ux,Q1 l,Qm]at H;obtain⟨h,e⟩:=Qw.mp H.symm;exact⟨h,e.symm⟩
      .rw[if_neg (SA.mpr l),if_pos hu]at H;obtain⟨h,e⟩:=Qp.mp H.symm;exact⟨h,e.symm⟩
     intro x y f r h0 L aJ;obtain⟨kl,h4,h5⟩:=di x f a4.symm;obtain⟨jg,cY,gT⟩:=di y r a4.symm
     by_cases aA:x<b
     .obtain⟨N,a5⟩:=kl aA;rw[a5]
      by_cases a3:y<b
      .obtain⟨C,D⟩:=jg a3;rw[D];exact aI x y N C h0 L ⋯
      .by_cases bk:y<v+cE
       .obtain⟨C,D⟩:=gT ⋯ bk;rw[D];obtain⟨j,t,l1,l2,e⟩:=bI _ (S8 C);rw[e];exact gx x j N t h0 aA l1 ⋯
       .obtain⟨C,D⟩:=cY ⋯;rw[D];exact e5 x y N C h0 ⋯ ⋯ ⋯
     .by_cases bk:x<v+cE
      .obtain⟨N,a5⟩:=h5 ⋯ bk;rw[a5]
       by_cases a3:y<v+cE
       .obtain⟨C,D⟩:=gT ⋯ a3;rw[D]
        by_cases eC:x=y
        .subst eC;obtain⟨j,t,l1,l2,e⟩:=bI _ (S8 C);rw[e];exact O.dY (o _ t)
        .exact R9.mp bh.2 _ _ N C (S1 (SA.mp aA) (Ru L eC))
       .obtain⟨C,D⟩:=cY ⋯;rw[D];obtain⟨j,t,l1,l2,e⟩:=bI _ (S8 N);rw[e];exact e5 j y t C ⋯ l2 ⋯ ⋯
      .obtain⟨N,a5⟩:=h4 ⋯;obtain⟨C,D⟩:=cY ⋯;rw[a5,D];exact h2 x y N C ⋯ L ⋯
   refine cm (λ_=>?_) λ_=>?_
   .refine P5 (Jg O k1 ⟨cZ,dh,dg,dr,λy r z hz=>?_⟩ (by rw[I];lia) (by rw[X];lia) (λx f=>by rw[fP];exact eD x f) fin);rw[e4 z hz];obtain⟨i,hi,rfl⟩:=RG.mp r;rw[VK]at hi;exact dW i hi
   .refine P5 (I6 O k1 ⟨cZ,dh,dg,dr,λz hz y r=>?_⟩ (by rw[I];lia) (by rw[X];lia) (λx f=>?_) fin)
    .obtain⟨i,hi,l1,rfl⟩:=nG hz;obtain rfl:i=0:=⋯;obtain⟨j,t,rfl⟩:=RG.mp r;rw[VK]at t;have:=eD j t;rw[<- fP]at this;exact this
    .have:=dW x f;have e:=e4 ((c.extract b v)[(c.extract b v).size-1]'(by rw[I];lia)) (by rw[VK,Qm];exact P9 _);rw[e];exact this
end
def eF{i j x:Nat}(h:i<=x)(h':x<j):i<=i+j-1-x/\i+j-1-x<j:=by lia
def I7{i j x y:Nat}(h:x<=y):i+j-1-y<=i+j-1-x:=Ud h _
def qt{l n:Nat}(h:0<n):l+n-1<l+n:=VA (P2 h (Ti ..)) ∅
noncomputable abbrev at_(c:Array VS)(x:Nat):Keyed:=c.getD x (Value.none,Value.none)
def j7(h:x<c.size):at_ c x=c[x]:=by
 show c.getD x _=_;unfold WL;rw[UM h];rfl
def j8(h:c[x]?=d[y]?):at_ c x=at_ d y:=by
 show c.getD x _=d.getD y _;rw[Rr,Rr,h]
def gN(d:j<=c.size)(k):at_ (Xw c i j ((j-i) / 2)) k=if i<=k/\k<j then at_ c (i+j-1-k) else at_ c k:=by
 have h:=getElem?_mirror (i:=i) d ((j-i) / 2) ⋯ k
 by_cases a:(i<=k/\k<i+(j-i) / 2)\/(j-(j-i) / 2<=k/\k<j)
 .rw[if_pos a]at h;rw[if_pos ⋯];exact j8 h
 .rw[if_neg a]at h
  by_cases b:i<=k/\k<j
  .rw[if_pos b];have:i+j-1-k=k:=⋯;rw[this];exact j8 h
  .rw[if_neg b];exact j8 h
def rM(f:k<c.size)(e:d<=k)(x):at_ (bubble c k d) x=if x=k-d then at_ c k else if k-d<x/\x<=k then at_ c (x-1) else at_ c x:=by
 have h:=getElem?_bubble f d e x
 by_cases a:x=k-d
 .rw[if_pos a]at h ⊢;exact j8 h
 .rw[if_neg a]at h ⊢
  by_cases b:k-d<x/\x<=k
  .rw[if_pos b]at h ⊢;exact j8 h
  .rw[if_neg b]at h ⊢;exact j8 h
def dn(lt:VS->VS->Bool)(c:Array VS)(l n:Nat):Prop:=∀x y,l<=x->x<=y->y<l+n->le lt (at_ c x) (at_ c y)
def Dec(lt:VS->VS->Bool)(c:Array VS)(l n:Nat):Prop:=∀x y,l<=x->x<=y->y<l+n->le lt (at_ c y) (at_ c x)
structure b9(c d:Array VS)(l h:Nat):Prop where
 size:d.size=c.size
 perm:d.toList.Perm c.toList
 out:∀k,(k<l\/h<=k)->at_ d k=at_ c k
theorem b9.refl(c)(l h):b9 c c l h:=⟨rfl,.refl _,λ_ _=>rfl⟩
theorem b9.trans(x:b9 c d l h)(y:b9 d e l h):b9 c e l h:=⟨y.size.trans x.size,y.perm.trans x.perm,λk q=>(y.out k q).trans (x.out k q)⟩
def b9.mono(x:b9 c d l h)(a:e<=l)(b:h<=h'):b9 c d e h':=⟨x.size,x.perm,λk q=>x.out k ⋯⟩
def b9.rev(a:j<=c.size):b9 c (Xw c i j ((j-i) / 2)) i j :=
 ⟨mirror_size ..,Uy.mp (mirror_perm ..),λk q=>by rw[gN a,if_neg ⋯]⟩
def b9.D4(b:k<c.size)(a:d<=k):b9 c (bubble c k d) (k-d) (k+1) :=
 ⟨bubble_size ..,Uy.mp (bubble_perm ..),λx q=>by rw[rM b a,if_neg ⋯,if_neg ⋯]⟩
section
variable{M:Zk}{A:Wg}{E:VI->VL->Prop}{s:VL}{κ:Xa}{S:VS->Prop}{lt:VS->VS->Bool}{st Nf:V6}{c d:Array VS}{l h n:Nat}
@[reducible]def dM(S:VS->Prop)(c:Array VS):Prop:=∀x∈c.toList,S x
theorem dM.at_(h:dM S c){x:Nat}(a:x<c.size):S (at_ c x):=by rw[j7 a];exact h _ (by simp)
def dM.perm(h:dM S c)(p:d.toList.Perm c.toList):dM S d:=λx a=>h x (p.mem_iff.mp a)
def mJ(O:c6 M A E s κ S lt)(e:kindOf st=κ)(a:dM S (VQ st))(hi:i<(VQ st).size)(b:j<(VQ st).size)(q:Q (Z (lt (at_ (VQ st) i) (at_ (VQ st) j))) st):YA M A E s (ltAt' i j) Q st:=by
 rw[ltAt'_eq];refine P5 (Uh ?_);show YA _ _ _ _ (do let x <- WR (VQ st) i;let y <- WR (VQ st) j;lt' x y) Q st;refine P5 (dF hi (P5 (dF b ?_)));rw[j7 hi,j7 b]at q;exact O.ask _ _ _ _ (a _ (by simp)) (a _ (by simp)) e q
def dn.snoc(O:c6 M A E s κ S lt)(a:dM S c)(b:l+n<c.size)(h0:0<n)(h:dn lt c l n)(q:le lt (at_ c (l+n-1)) (at_ c (l+n))):dn lt c l (n+1):=by
 intro x y aI h2 h3
 by_cases e:y=l+n
 .subst e
  by_cases e2:x=l+n
  .subst e2;exact O.dY (a.at_ b)
  .have w:=qt (l:=l) h0;have f:=QO (Ru h2 e2);have g:=Rf w b;have i:=QF h2 b;exact O.cM _ _ _ (a.at_ ⋯) (a.at_ ⋯) (a.at_ b) (h x (l+n-1) aI ⋯ ⋯) q
 .exact h x y aI h2 ⋯
def Dec.snoc(O:c6 M A E s κ S lt)(a:dM S c)(b:l+n<c.size)(h0:0<n)(h:Dec lt c l n)(q:le lt (at_ c (l+n)) (at_ c (l+n-1))):Dec lt c l (n+1):=by
 intro x y aI h2 h3
 by_cases e:y=l+n
 .subst e
  by_cases e2:x=l+n
  .subst e2;exact O.dY (a.at_ b)
  .have w:=qt (l:=l) h0;have f:=QO (Ru h2 e2);have g:=Rf w b;have i:=QF h2 b;exact O.cM _ _ _ (a.at_ b) (a.at_ ⋯) (a.at_ ⋯) q (h x (l+n-1) aI ⋯ ⋯)
 .exact h x y aI h2 ⋯
def dn.one(O:c6 M A E s κ S lt)(a:dM S c)(b:l<c.size):dn lt c l 1:=λx y aI h2 h3=>by
 obtain rfl:x=l:=by lia
 obtain rfl:y=x:=by lia
 exact O.dY (a.at_ b)
def Dec.rev(h:Dec lt c l n)(a:l+n<=c.size):dn lt (Xw c l (l+n) ((l+n-l) / 2)) l n:=by
 intro x y aI h2 h3;have k1:=QF h2 h3;have k2:=Qk aI h2;rw[gN a,gN a,if_pos ⟨aI,k1⟩,if_pos ⟨k2,h3⟩];exact h _ _ (eF k2 h3).1 (I7 h2) (eF aI k1).2
def dn.JM(h:dn lt c l n)(p:b9 c d a b)(q:l+n<=a\/b<=l):dn lt d l n:=λx y aI h2 h3=>by
 rw[p.out x ⋯,p.out y ⋯];exact h x y aI h2 h3
def dn.bz(h:dn lt c l n):fx lt c l n:=λx y a b aI h2 h3=>by
 have:=h x y aI h2 h3;rw[j7 a,j7 b]at this;exact this
end
abbrev iH(l z a:Nat):StateT V6 Z0 (Option Nat):=do
 XT l (l+a)
 let mut n:=a
 for _ in [n:z] do
  let Z q <- ltAt' (l+n) (l+n-1)|return Y
  if q then break
  n:=n+1
 return Z n
def i4(l z a:Nat):StateT V6 Z0 (Option Nat):=do
 ZF "list.sort.descending-run"
 let mut n:=a+1
 let mut e:=0
 for _ in [n:z] do
  let Z q <- ltAt' (l+n) (l+n-1)|return Y
  if q then
   if e>0 then XT (l+n-(e+1)) (l+n)
   e:=0
  else
   let Z g <- ltAt' (l+n-1) (l+n)|return Y
   if g then break
   e:=e+1
  n:=n+1
 if e>0 then XT (l+n-(e+1)) (l+n)
 iH l z n
def EV(l z:Nat):countRun' l z=(do
 let mut n:=1
 for _ in [1:z] do
  let Z q <- ltAt' (l+n) (l+n-1)|return Y
  if q then break
  n:=n+1
 if n==z then return Z n
 if n>1 then
  let Z g <- ltAt' l (l+n-1)|return Y
  if g then return Z n
  XT l (l+n)
 i4 l z n):=by
 rw[countRun'_eq];unfold i4 iH;rfl
def ho(st a:V6):Prop:=kindOf a=kindOf st/\Wm a=Wm st/\Wv a=Wv st
section
variable{M:Zk}{A:Wg}{E:VI->VL->Prop}{s:VL}{κ:Xa}{S:VS->Prop}{lt:VS->VS->Bool}{st st0:V6}{l z n g5:Nat}
def oE(lt:VS->VS->Bool)(l z:Nat)(st0:V6)(o:Option Nat)(a:V6):Prop:=∃m,o=Z m/\1<=m/\m<=z/\ho st0 a/\b9 (VQ st0) (VQ a) l (l+z)/\dn lt (VQ a) l m
def wK(O:c6 M A E s κ S lt)(i:kindOf st=κ)(d:dM S (VQ st))(hz:l+z<=(VQ st).size)(aI:1<=g5)(b:g5<=z)(h:dn lt (VQ st) l g5){Q:Option (Option Nat)×Nat->V6->Prop}(f:∀n,g5<=n->n<=z->dn lt (VQ st) l n->(n=z\/lt (at_ (VQ st) (l+n)) (at_ (VQ st) (l+n-1))=J)->Q (Y,n) st):YA M A E s (forIn [g5:z] ((Y:Option (Option Nat)),g5) λx __s=>do
   let __x <- ltAt' (l+__s.snd) (l+__s.snd-1)
   match __x with
    |some q=>if q=J then pure (ForInStep.done (Y,__s.snd)) else pure (WW (Y,__s.snd+1))
    |x=>pure (ForInStep.done (Z Y,__s.snd))) Q st:=by
 refine Ri (I:=λx (c:Option (Option Nat)×Nat) a=>a=st/\c.1=Y/\c.2=x/\g5<=x/\x<=z/\dn lt (VQ st) l x) ?step ?fin ⟨rfl,rfl,rfl,P0 _,b,h⟩
 case fin =>
  rintro⟨o,n⟩ a ⟨rfl,rfl,rfl,k1,k2,k3⟩;rw[QP b]at k3 ⊢;exact f z b (P0 _) k3 (.inl rfl)
 case step =>
  rintro x ⟨o,n⟩ a _ j ⟨rfl,rfl,e,k1,k2,k3⟩;dsimp only at e ⊢;subst e;have g:l+n<(VQ a).size:=⋯;refine P5 (mJ O i d g (QF (Sw ..) g) ?_);cases e:lt (at_ (VQ a) (l+n)) (at_ (VQ a) (l+n-1)) with
  |true=>dsimp only;rw[if_pos rfl];exact Qf (f n k1 k2 k3 (.inr e))
  |false=>dsimp only;rw[if_neg (by simp)];exact Qf ⟨rfl,rfl,rfl,⋯,⋯,k3.snoc O d ⋯ ⋯ e⟩
def Cd(O:c6 M A E s κ S lt)(c:kindOf st0=κ)(hS0:dM S (VQ st0))(e:ho st0 st)(a:b9 (VQ st0) (VQ st) l (l+z))(hz:l+z<=(VQ st0).size)(aI:1<=n)(d:n<=z)(h:Dec lt (VQ st) l n):YA M A E s (iH l z n) (oE lt l z st0) st:=by
 unfold iH;rw[TY];refine P5 (RW ?_);have g:l+z<=(VQ st).size:=by rw[a.size];exact hz
 generalize e1:setArr st (Xw (VQ st) l (l+n) ((l+n-l) / 2))=qP;have a1:VQ qP=Xw (VQ st) l (l+n) ((l+n-l) / 2):=by rw[<- e1]
 have b:ho st0 qP:=by rw[<- e1];exact e
 have p1:b9 (VQ st0) (VQ qP) l (l+z):=by rw[a1];exact a.trans ((b9.rev ⋯).mono (P0 _) ⋯)
 have f:dn lt (VQ qP) l n:=by rw[a1];exact h.rev ⋯
 refine P5 (wK O (b.1.trans c) (hS0.perm p1.perm) (by rw[p1.size];exact hz) aI d f λm k1 k2 k3 _=>?_);exact Qf ⟨m,rfl,⋯,k2,b,p1,k3⟩
def DZ(O:c6 M A E s κ S lt)(g:dM S c)(d:l+n<=c.size)(i:e+1<=n)(h:Dec lt c l n)(f:∀x y,l+n-(e+1)<=x->x<l+n->l+n-(e+1)<=y->y<l+n->le lt (at_ c x) (at_ c y)):
  Dec lt (Xw c (l+n-(e+1)) (l+n) ((l+n-(l+n-(e+1))) / 2)) l n:=by
 intro x y aI h2 h3;rw[gN d,gN d]
 by_cases a:l+n-(e+1)<=x
 .have k1:=QF h2 h3;have k2:=Qk a h2;rw[if_pos ⟨k2,h3⟩,if_pos ⟨a,k1⟩];exact f _ _ (eF k2 h3).1 (eF k2 h3).2 (eF a k1).1 (eF a k1).2
 .rw[if_neg (show ¬(l+n-(e+1)<=x/\x<l+n) from λz=>a z.1)]
  by_cases b:l+n-(e+1)<=y
  .rw[if_pos ⟨b,h3⟩];exact h _ _ aI (Qk (QM (Nat.not_le.mp a)) (eF b h3).1) (eF b h3).2
  .rw[if_neg λz=>b z.1];exact h _ _ aI h2 h3
structure iO(lt:VS->VS->Bool)(S:VS->Prop)(l z:Nat)(st0 st:V6)(n e:Nat):Prop where
 ss:ho st0 st
 dB:b9 (VQ st0) (VQ st) l (l+z)
 dec:Dec lt (VQ st) l n
 len:e+1<=n
 qj:n<=z
 eq:∀x y,l+n-(e+1)<=x->x<l+n->l+n-(e+1)<=y->y<l+n->le lt (at_ (VQ st) x) (at_ (VQ st) y)
def iO.turn(O:c6 M A E s κ S lt)(hS0:dM S (VQ st0))(hz:l+z<=(VQ st0).size)(h:iO lt S l z st0 st n e):iO lt S l z st0 (setArr st (Xw (VQ st) (l+n-(e+1)) (l+n) ((l+n-(l+n-(e+1))) / 2))) n 0:=by
 have aI:=h.len;have h2:=h.qj;have a:l+n<=(VQ st).size:=by rw[h.dB.size];lia
 have w:l<=l+n-(e+1):=Vp (RY aI l);refine⟨h.ss,h.dB.trans ((b9.rev a).mono ⋯ ⋯),DZ O (hS0.perm h.dB.perm) a aI h.dec h.eq,⋯,h.qj,λx y k1 k2 k3 d=>?_⟩;have b:=Vh (QO k2) k1;have c:=Vh (QO d) k3;subst b c;have dB:b9 (VQ st0) (Xw (VQ st) (l+n-(e+1)) (l+n) ((l+n-(l+n-(e+1))) / 2)) l (l+z):=h.dB.trans ((b9.rev a).mono ⋯ ⋯);exact O.dY ((hS0.perm dB.perm).at_ (by rw[dB.size];lia))
def xD(O:c6 M A E s κ S lt)(t:kindOf st0=κ)(hS0:dM S (VQ st0))(V:ho st0 st)(v:b9 (VQ st0) (VQ st) l (l+z))(hz:l+z<=(VQ st0).size)(U:n<z)(h:Dec lt (VQ st) l (n+1)):YA M A E s (i4 l z n) (oE lt l z st0) st:=by
 unfold i4;refine P5 (U0 (SF ⟨rfl,?_⟩));have T:iO lt S l z st0 st (n+1) 0:=by
  refine⟨V,v,h,⋯,U,λx y k1 k2 k3 H=>?_⟩;have p:x=l+n:=⋯;have r:y=l+n:=⋯;subst p r;exact O.dY ((hS0.perm v.perm).at_ (by rw[v.size];lia))
 refine P5 (RM (Ri (I:=λx (c:Option (Option Nat)×Nat×Nat) i=>c.1=Y/\c.2.1=x/\iO lt S l z st0 i x c.2.2) (Q:=λ(c:Option (Option Nat)×Nat×Nat) i=>c.1=Y/\iO lt S l z st0 i c.2.1 c.2.2) ?step ?fin ⟨rfl,rfl,T⟩) ?post)
 case fin =>
  rintro⟨o,b5,e⟩ i ⟨rfl,rfl,D⟩;exact⟨rfl,D⟩
 case post =>
  rintro⟨o,b5,e⟩ i ⟨rfl,D⟩;dsimp only at D ⊢;refine cm (λ_=>?_) λ_=>?_
  .rw[TY];have d:=D.turn O hS0 hz;exact P5 (RW (Cd O t hS0 d.ss d.dB hz (by have:=d.len;lia) d.qj d.dec))
  .exact Cd O t hS0 D.ss D.dB hz (by have:=D.len;lia) D.qj D.dec
 case step =>
  rintro x ⟨o,b5,e⟩ b a1 a0 ⟨rfl,e1,D⟩;dsimp only at e1 D ⊢;subst e1;have aI:=D.len;have a2:l+z<=(VQ b).size:=(by rw[D.dB.size];exact hz);have a:=hS0.perm D.dB.perm;have G:=D.ss.1.trans t;have g5:0<b5:=P2 (Nat.succ_pos e) aI;have k:l+b5<(VQ b).size:=⋯;have g:=qt (l:=l) g5;have X:=Rf g k;have j:l+b5-(e+1)<=l+b5-1:=Ud (Ti ..) _;refine P5 (mJ O G a ⋯ ⋯ ?_);cases e2:lt (at_ (VQ b) (l+b5)) (at_ (VQ b) (l+b5-1)) with
  |true =>
   dsimp only;rw[if_pos rfl];have next:∀f,iO lt S l z st0 f b5 0->le lt (at_ (VQ f) (l+b5)) (at_ (VQ f) (l+b5-1))->iO lt S l z st0 f (b5+1) 0:=λf d q=>by
    have a3:l+z<=(VQ f).size:=(by rw[d.dB.size];exact hz);have C:=hS0.perm d.dB.perm;have a5:l+b5<(VQ f).size:=⋯;refine⟨d.ss,d.dB,d.dec.snoc O C ⋯ ⋯ q,⋯,⋯,λx y k1 k2 k3 H=>?_⟩;have p:x=l+b5:=⋯;have r:y=l+b5:=⋯;subst p r;exact O.dY (C.at_ ⋯)
   have L:=O.fB _ _ (a.at_ ⋯) (a.at_ ⋯) e2;refine cm (λc=>?_) λc=>?_
   .rw[TY];refine P5 (RW (Qf ⟨rfl,rfl,next _ (D.turn O hS0 hz) ?_⟩));show le lt (at_ (Xw (VQ b) (l+b5-(e+1)) (l+b5) ((l+b5-(l+b5-(e+1))) / 2)) (l+b5)) (at_ (Xw (VQ b) (l+b5-(e+1)) (l+b5) ((l+b5-(l+b5-(e+1))) / 2)) (l+b5-1));rw[gN ⋯,gN ⋯,if_neg ⋯,if_pos ⟨j,g⟩];exact O.cM _ _ _ (a.at_ k) (a.at_ X) (a.at_ (Rf (eF j g).2 k)) L (D.eq _ _ j g (eF j g).1 (eF j g).2)
   .have e0:e=0:=⋯;subst e0;exact Qf ⟨rfl,rfl,next b D L⟩
  |false =>
   dsimp only;rw[if_neg (by simp)];refine P5 (mJ O G a ⋯ ⋯ ?_);cases e3:lt (at_ (VQ b) (l+b5-1)) (at_ (VQ b) (l+b5)) with
   |true=>dsimp only;rw[if_pos rfl];exact Qf ⟨rfl,D⟩
   |false =>
    dsimp only;rw[if_neg (by simp)];refine Qf ⟨rfl,rfl,D.ss,D.dB,D.dec.snoc O a ⋯ ⋯ e3,by show e+1+1<=b5+1;lia,⋯,λx y k1 k2 k3 H=>?_⟩;have k1:l+b5-(e+1)<=x:=(by rw[<- TK (l+b5) 1];exact k1);have k3:l+b5-(e+1)<=y:=(by rw[<- TK (l+b5) 1];exact k3);have N:∀u,l+b5-(e+1)<=u->u<l+b5->le lt (at_ (VQ b) u) (at_ (VQ b) (l+b5))/\le lt (at_ (VQ b) (l+b5)) (at_ (VQ b) u):=λu R w =>
     have a4:=Rf w k;⟨O.cM _ _ _ (a.at_ ⋯) (a.at_ ⋯) (a.at_ ⋯) (D.eq u (l+b5-1) R w ⋯ ⋯) e2,O.cM _ _ _ (a.at_ ⋯) (a.at_ ⋯) (a.at_ ⋯) e3 (D.eq (l+b5-1) u ⋯ ⋯ R w)⟩
    by_cases B:x=l+b5
    .by_cases m:y=l+b5
     .subst B m;exact O.dY (a.at_ ⋯)
     .subst B;exact(N y ⋯ ⋯).2
    .by_cases m:y=l+b5
     .subst m;exact(N x ⋯ ⋯).1
     .exact D.eq x y ⋯ ⋯ ⋯ ⋯
def EW(O:c6 M A E s κ S lt)(k:kindOf st=κ)(a:dM S (VQ st))(hz:l+z<=(VQ st).size)(aI:1<=z):YA M A E s (countRun' l z) (oE lt l z st) st:=by
 rw[EV];refine P5 (wK O k a hz (P0 1) aI (dn.one O a ⋯) λn k1 k2 k3 u=>?_);dsimp only;refine cm (λc=>?_) λc=>?_
 .exact Qf ⟨n,rfl,k1,k2,⟨rfl,rfl,rfl⟩,.refl ..,k3⟩
 .have c:¬n=z:=⇑c;have w:n<z:=Ru k2 c;have h:l+n<(VQ st).size:=P2 (RO w l) hz;have f:=qt (l:=l) k1;have B:=Rf f h;have C:l<(VQ st).size:=QF (QB ..) h;have j:l<=l+n-1:=QO (Nat.lt_add_of_pos_right k1);have q:=O.fB _ _ (a.at_ ⋯) (a.at_ ⋯) (u.resolve_left c);refine cm (λt=>?_) λt=>?_
  .refine P5 (mJ O k a ⋯ ⋯ ?_);cases e:lt (at_ (VQ st) l) (at_ (VQ st) (l+n-1)) with
   |true=>dsimp only;rw[if_pos rfl];exact Qf ⟨n,rfl,k1,k2,⟨rfl,rfl,rfl⟩,.refl ..,k3⟩
   |false =>
    dsimp only;rw[if_neg (by simp),TY];refine P5 (RW ?_);have i:l+n<=(VQ st).size:=⋯;have o:b9 (VQ st) (Xw (VQ st) l (l+n) ((l+n-l) / 2)) l (l+z):=(b9.rev i).mono (P0 _) ⋯;have p:∀x y,l<=x->x<l+n->l<=y->y<l+n->le lt (at_ (VQ st) x) (at_ (VQ st) y):=λx y b g d r =>
     have D:=Rf g h;have G:=Rf r h;O.cM _ _ _ (a.at_ ⋯) (a.at_ ⋯) (a.at_ ⋯) (k3 x (l+n-1) b (QO g) f)
      (O.cM _ _ _ (a.at_ ⋯) (a.at_ ⋯) (a.at_ ⋯) e (k3 l y (P0 _) d r))
    refine xD (st0:=st) O k a ⟨rfl,rfl,rfl⟩ o hz ⋯ ?_;show Dec lt (Xw (VQ st) l (l+n) ((l+n-l) / 2)) l (n+1);have m:Dec lt (Xw (VQ st) l (l+n) ((l+n-l) / 2)) l n:=λx y b g d=>by
     have k1:=QF g d;have k2:=Qk b g;rw[gN i,gN i,if_pos ⟨k2,d⟩,if_pos ⟨b,k1⟩];exact p _ _ (eF k2 d).1 (eF k2 d).2 (eF b k1).1 (eF b k1).2
    refine m.snoc O (a.perm o.perm) (by rw[o.size];lia) ⋯ ?_;rw[gN i,gN i,if_neg ⋯,if_pos ⟨j,f⟩];exact O.cM _ _ _ (a.at_ h) (a.at_ B) (a.at_ (Rf (eF j f).2 h)) q (p _ _ j f (eF j f).1 (eF j f).2)
  .have v:n=1:=⋯;subst v;refine xD (st0:=st) O k a ⟨rfl,rfl,rfl⟩ (.refl ..) hz ⋯ ?_;have m:Dec lt (VQ st) l 1:=λx y b g d=>by
    obtain rfl:x=l:=⋯;obtain rfl:y=x:=⋯;exact O.dY (a.at_ ⋯)
   exact m.snoc O a ⋯ ⋯ q
end
section
def D5(O:c6 M A E s κ S lt)(q:dM S c)(g:l+k<c.size)(r:p<=k)(h:dn lt c l k)(aI:∀x,x<p->le lt (at_ c (l+x)) (at_ c (l+k)))(h2:∀x,p<=x->x<k->le lt (at_ c (l+k)) (at_ c (l+x))):dn lt (bubble c (l+k) (k-p)) l (k+1):=by
 intro x y i f e;have m:k-p<=l+k:=Qk (Sw ..) (Ti ..);rw[rM g m,rM g m,Zy (Sw ..),Nat.sub_sub_self r];have n:∀u,l<=u->u<l+p->le lt (at_ c u) (at_ c (l+k)):=λu a b=>by
  obtain⟨w,rfl⟩:=To a;exact aI w (UA b)
 have o:∀u,l+p<=u->u<l+k->le lt (at_ c (l+k)) (at_ c u):=λu a b=>by
  obtain⟨w,rfl⟩:=To (Qk (QB ..) a);exact h2 w (Nat.le_of_add_le_add_left a) (UA b)
 have j:l+p<y->y-1<l+k:=λz=>P2 (VA (Nat.zero_lt_of_lt z) ∅) (Ra e)
 by_cases a:x=l+p
 .rw[if_pos a]
  by_cases b:y=l+p
  .rw[if_pos b];exact O.dY (q.at_ g)
  .have d:l+p<y:=⋯;rw[if_neg b,if_pos ⟨d,Ra e⟩];exact o _ (QO d) (j d)
 .rw[if_neg a]
  by_cases a2:l+p<x
  .have d:=P2 a2 f;rw[if_pos ⟨a2,Qk f (Ra e)⟩,if_neg ⋯,if_pos ⟨d,Ra e⟩];exact h _ _ (QO (QF (QB ..) a2)) (Nat.sub_le_sub_right f 1) (j d)
  .rw[if_neg λz=>a2 z.1]
   by_cases b:y=l+p
   .rw[if_pos b];exact n _ i ⋯
   .rw[if_neg b]
    by_cases b2:l+p<y
    .rw[if_pos ⟨b2,Ra e⟩];exact h _ _ i (QO (QF (SA.mp a2) b2)) (j b2)
    .rw[if_neg λz=>b2 z.1];exact h _ _ i f ⋯
def D3{st:V6}(O:c6 M A E s κ S lt)(a0:kindOf st=κ)(hS0:dM S (VQ st))(hz:l+n<=(VQ st).size)(aI:1<=H)(T:H<=n)(h:dn lt (VQ st) l H)(a1:∀d,ho st d->b9 (VQ st) (VQ d) l (l+n)->dn lt (VQ d) l n->Q J d):YA M A E s (binarySort' l n H) Q st:=by
 rw[binarySort'_eq];rw[Nat.max_eq_left aI];refine P5 (RM (Ri (I:=λk (c:Option Bool×Unit) d=>c=(Y,())/\k<=n/\ho st d/\b9 (VQ st) (VQ d) l (l+n)/\dn lt (VQ d) l k)
  (Q:=λ(c:Option Bool×Unit) d=>c=(Y,())/\ho st d/\b9 (VQ st) (VQ d) l (l+n)/\dn lt (VQ d) l n) ?step ?fin ⟨rfl,T,⟨rfl,rfl,rfl⟩,.refl ..,h⟩) ?post)
 case fin =>
  rintro c d ⟨rfl,k1,k2,k3,B⟩;rw[QP T]at B;exact⟨rfl,k2,k3,B⟩
 case post =>
  rintro c d ⟨rfl,k2,k3,B⟩;exact Qf (a1 d k2 k3 B)
 case step =>
  rintro k c f a3 a4 ⟨rfl,aw,X,L,N⟩;have a5:l+n<=(VQ f).size:=(by rw[L.size];exact hz);have g:=hS0.perm L.perm;have a2:=X.1.trans a0;refine P5 (RM (Ri (I:=λx (c:Option Bool×Nat×Nat) d=>d=f/\c.1=Y/\c.2.1<=c.2.2/\c.2.2<=k/\(∀x,x<c.2.1->le lt (at_ (VQ f) (l+x)) (at_ (VQ f) (l+k)))/\(∀x,c.2.2<=x->x<k->le lt (at_ (VQ f) (l+k)) (at_ (VQ f) (l+x)))/\c.2.2-c.2.1+x<=k)
   (Q:=λ(c:Option Bool×Nat×Nat) d=>d=f/\c.1=Y/\c.2.1<=k/\(∀x,x<c.2.1->le lt (at_ (VQ f) (l+x)) (at_ (VQ f) (l+k)))/\∀x,c.2.1<=x->x<k->le lt (at_ (VQ f) (l+k)) (at_ (VQ f) (l+x))) ?step2 ?fin2
   ⟨rfl,rfl,Qa _,P0 _,λx U=>absurd U (W5 _),λx r C=>absurd C (by dsimp only at r;lia),by show k-0+0<=k;lia⟩) ?post2)
  case fin2 =>
   rintro⟨o,a,b⟩ d ⟨rfl,rfl,R,i,j,q,v⟩;dsimp only at R i j q v;rw[QP (Qa _)]at v;have e:a=b:=⋯;subst e;exact⟨rfl,rfl,i,j,q⟩
  case step2 =>
   rintro x ⟨o,a,b⟩ d _ U ⟨rfl,rfl,R,i,j,q,v⟩;dsimp only at R i j q v ⊢;refine cm (λc=>?_) λc=>?_
   .have e:a=b:=⋯;subst e;exact Qf ⟨rfl,rfl,i,j,q⟩
   .have w:(a+b) / 2<b:=⋯;have z:a<=(a+b) / 2:=⋯;generalize (a+b) / 2=m at *;have G:=P2 w i;have V:∀u,u<b-a->u+(x+1)<=k:=λa h=>Qk (by rw[<- RK,R6];exact Vo h x) v
    have t:l+k<(VQ d).size:=⋯;have D:=Rf (RO G l) t;refine P5 (mJ O a2 g ⋯ ⋯ ?_);cases e:lt (at_ (VQ d) (l+k)) (at_ (VQ d) (l+m)) with
    |true =>
     dsimp only;rw[if_pos rfl];refine Qf ⟨rfl,rfl,z,QM G,j,λy r C=>?_,V _ (S1 z w)⟩;exact O.cM _ _ _ (g.at_ t) (g.at_ D) (g.at_ (Rf (RO C l) t)) (O.fB _ _ (g.at_ t) (g.at_ D) e) (N _ _ (QB ..) (RY r l) (RO C l))
    |false =>
     dsimp only;rw[if_neg (by simp)];refine Qf ⟨rfl,rfl,w,i,λy r=>?_,q,V _ (Ub (QF z w) (UI z))⟩;have r:=RY (Ra r) l;exact O.cM _ _ _ (g.at_ (QF r D)) (g.at_ D) (g.at_ t) (N _ _ (QB ..) r (RO G l)) e
  case post2 =>
   rintro⟨o,p,b⟩ d ⟨rfl,rfl,i,j,q⟩;dsimp only at i j q ⊢;rw[moveDown'_eq];have t:l+k<(VQ d).size:=⋯;refine P5 (RW (Qf ⟨rfl,⋯,X,?_,?_⟩))
   .show b9 (VQ st) (bubble (VQ d) (l+k) (l+k-(l+p))) l (l+n);rw[T4];exact L.trans ((b9.D4 t (Qk (Sw ..) (Ti ..))).mono (by rw[Zy (Sw ..)];exact QB ..) ⋯)
   .show dn lt (bubble (VQ d) (l+k) (l+k-(l+p))) l (k+1);rw[T4];exact D5 O g t i N j q
end
abbrev Runs(lt:VS->VS->Bool)(c:Array VS):Nat->List (Nat×Nat×Nat)->Nat->Prop
 |a,[],b=>a=b
 |a,r::P,b=>r.1=a/\0<r.2.1/\dn lt c a r.2.1/\Runs lt c (a+r.2.1) P b
def Ji{α:Type}(P:List α)(r:α)(g:α->α):(P++[r]).toArray.modify ((P++[r]).toArray.size-1) g=(P++[g r]).toArray:=by
 apply TX.mp;rw[Array.toList_modify];show(P++[r]).modify ((P++[r]).length-1) g=P++[g r];rw[PY,V8,R5]
 induction P with
 |nil=>rfl
 |cons x P a=>exact Rc (x::·) a
section
variable{lt:VS->VS->Bool}{c d:Array VS}
theorem Runs.len:∀{P:List (Nat×Nat×Nat)}{a b:Nat},Runs lt c a P b->a+P.length<=b
 |[],_,_,h=>U6 h
 |r::P,a,b,⟨_,aI,_,h⟩=>by have:=Runs.len h;rw[VX];lia
theorem Runs.app:∀{P Q:List (Nat×Nat×Nat)}{a b:Nat},Runs lt c a (P++Q) b<->∃m,Runs lt c a P m/\Runs lt c m Q b
 |[],_,a,b=>⟨λh=>⟨a,rfl,h⟩,λ⟨m,aI,h2⟩=>by cases (show a=m from aI);exact h2⟩
 |r::P,_,a,b=>⟨λ⟨aI,h2,h3,h⟩=>let ⟨m,e,f⟩:=Runs.app.mp h;⟨m,⟨aI,h2,h3,e⟩,f⟩,λ⟨m,⟨aI,h2,h3,e⟩,f⟩=>⟨aI,h2,h3,Runs.app.mpr ⟨m,e,f⟩⟩⟩
theorem Runs.same:∀{P:List (Nat×Nat×Nat)}{a b:Nat},Runs lt c a P b->(∀k,a<=k->k<b->at_ d k=at_ c k)->Runs lt d a P b
 |[],_,_,h,_=>h
 |r::P,a,b,⟨aI,h2,h3,h⟩,e=>by
  have:=h.len;exact⟨aI,h2,λx y g f i=>by rw[e x ⋯ ⋯,e y ⋯ ⋯];exact h3 x y g f i,h.same λk g f=>e k ⋯ f⟩
end
section
variable{M:Zk}{A:Wg}{E:VI->VL->Prop}{s:VL}{κ:Xa}{S:VS->Prop}{lt:VS->VS->Bool}{st st0:V6}
def zH{Q:Bool->V6->Prop}{i b:Nat}{P:List (Nat×Nat×Nat)}(O:c6 M A E s κ S lt)(f:kindOf st=κ)(D:Wv st=Y)(H:Wm st=P.toArray)(hi:i+1<P.length)(R:Runs lt (VQ st) 0 P b)(a2:b<=(VQ st).size)(C:dM S (VQ st))(I:∀a c,kindOf a=κ->Wv a=Y->Wm a=c.toArray->c.length+1=P.length->b9 (VQ st) (VQ a) 0 b->Runs lt (VQ a) 0 c b->Q J a):YA M A E s (mergeAt' i) Q st:=by
 obtain⟨p,x,y,q,e,G⟩:∃p x y q,P=p++x::y::q/\p.length=i:=⟨P.take i,P[i],P[i+1],P.drop (i+2),by
  rw[Yg,Yg,QJ],by rw[QI];lia⟩
 subst e G;obtain⟨u,n,N⟩:=x;obtain⟨v,m,a4⟩:=y;obtain⟨m0,B,j,l,o,r,t,w,d⟩:=Runs.app.mp R;dsimp only at j l o r t w d;subst j r;have L:=d.len;refine IZ O f D H l t ⋯ (λx a3=>C _ (by simp)) o.bz w.bz λa U V X z a0 a1=>?_
 have T:(VQ a).size=(VQ st).size:=by rw[<- VK,<- VK];exact z.length_eq
 have g:b9 (VQ st) (VQ a) u (u+n+m):=⟨T,z,λk f=>j8 (a0 k f)⟩;refine I a (p++(u,n+m,N)::q) U V X (by simp only[PY,VX];lia) (g.mono (Qa _) ⋯) (Runs.app.mpr ⟨u,B.same λk _ h=>g.out k (.inl h),rfl,by dsimp only;lia,λx y aI h2 h3=>?_,?_⟩)
 .dsimp only at h3;rw[j7 ⋯,j7 ⋯];exact a1 x y _ _ aI h2 h3
 .dsimp only;rw[<- RK];exact d.same λk h _=>g.out k (.inr h)
def wh(lt:VS->VS->Bool)(st0:V6)(N x:Nat)(c:Option Unit×Nat)(st:V6):Prop:=c.1=Y/\kindOf st=kindOf st0/\Wv st=Y/\b9 (VQ st0) (VQ st) 0 N/\(x<=c.2\/c.2=N)/\c.2<=N/\∃P,Wm st=P.toArray/\Runs lt (VQ st) 0 P c.2
def wi(lt:VS->VS->Bool)(st0:V6)(b:Nat)(st:V6):Prop:=kindOf st=kindOf st0/\Wv st=Y/\b9 (VQ st0) (VQ st) 0 b/\∃P,P≠[]/\Wm st=P.toArray/\Runs lt (VQ st) 0 P b
def Nb{A B:Type}{P:A×B->Prop}(h:∀a b,P (a,b)):∀c,P c:=λ_=>h _ _
def LN {Q : Unit -> V6 -> Prop} (O : c6 M A E s κ S lt) (cO : kindOf st = κ) (dh : Wv st = Y) (di : Wm st = #[]) (bf : dM S (VQ st)) (h2 : 2 <= (VQ st).size)
    (dW : ∀ a, Wv a = Y -> (VQ a).toList.Perm (VQ st).toList -> (VQ a).toList.Pairwise (le lt) -> Q () a) : YA M A E s sortRuns' Q st := by
  rw [sortRuns'_eq]
  refine P5 (Uh ?_)
  dsimp only
  generalize fP : minRun' (VQ st).size (VQ st).size 0 = uC
  generalize a0 : (VQ st).size = N at h2 ⊢
  refine P5 (RM (Ri (I := wh lt st N) (Q := fun (c : Option Unit × Nat) a => wh lt st N 0 c a /\ c.2 = N) ?step ?fin ⟨rfl, rfl, dh, .refl .., .inl (P0 _), Qa _, [], di, rfl⟩) ?post)
  case fin =>
    rintro c a ⟨G, j, i, H, X, L, eD⟩
    rw [QP (Qa _)] at X
    exact ⟨⟨G, j, i, H, .inl (Qa _), L, eD⟩, by lia⟩
  case step =>
    refine fun x => Nb fun o lo n _ gT h => ?_
    have k1 := h.2.1
    have k2 := h.2.2.1
    have k3 := h.2.2.2.1
    have es := h.2.2.2.2.1
    have k5 := h.2.2.2.2.2.1
    obtain ⟨P, h⟩ := h.2.2.2.2.2.2
    have V := h.1
    have B := h.2
    dsimp only at es k5 V B ⊢
    have C : kindOf n = κ := k1.trans cO
    have a4 := bf.perm k3.perm
    have hsz : (VQ n).size = N := k3.size.trans a0
    refine cm (fun c => Qf ⟨⟨rfl, k1, k2, k3, .inl (Qa _), k5, P, V, B⟩, by dsimp only; lia⟩) fun c => ?_
    refine' (fun (bJ : ∀ (dI : V6) (d : Nat), ho n dI -> b9 (VQ n) (VQ dI) lo (lo + (N - lo)) -> dn lt (VQ dI) lo d -> 1 <= d -> d <= N - lo -> (_ : V6 -> Nat -> Prop) dI d) => ?main) ?pf
    case main =>
      refine P5 (RM (EW (l := lo) (z := N - lo) O C a4 (by rw [hsz]; lia) ⋯) ?_)
      rintro o cY ⟨m, rfl, aA, m2, s2, p2, a5⟩
      refine cm (fun aL => ?b1) fun aL => ?b2
      case b1 =>
        refine P5 (U0 (SF ⟨rfl, ?_⟩))
        refine P5 (D3 O (s2.1.trans C) (a4.perm p2.perm) (by rw [p2.size, hsz]; exact SR k5 (Sd ..)) aA ⋯ a5 fun dI s3 p3 p => ?_)
        rw [if_neg (by simp)]
        have g : ho n dI := ⟨s3.1.trans s2.1, s3.2.1.trans s2.2.1, s3.2.2.trans s2.2.2⟩
        have u : b9 (VQ n) (VQ dI) lo (lo + (N - lo)) := p2.trans (p3.mono (P0 _) (RY (Sd ..) _))
        have t : 1 <= min (N - lo) uC := by lia
        have D : min (N - lo) uC <= N - lo := Sd ..
        clear s2 p2 a5 s3 p3 aA m2 aL
        clear cY
        revert t D p
        generalize min (N - lo) uC = d
        intro p t D
        exact bJ dI d g u p t D
      case b2 =>
        clear aL
        have h := And.intro s2 (And.intro p2 (And.intro a5 (And.intro aA m2)))
        clear s2 p2 a5 aA m2
        revert h
        generalize m = d
        generalize cY = dI
        rintro ⟨g, u, p, t, D⟩
        exact bJ dI d g u p t D
    case pf =>
      intro dI d g u p t D
      refine P5 (Uh ?_)
      have R : Wm dI = P.toArray := g.2.1.trans V
      have i5 : (VQ dI).size = N := u.size.trans hsz
      have aJ : Runs lt (VQ dI) 0 P lo := B.same fun k _ h => u.out k (.inl h)
      have P3 : b9 (VQ st) (VQ dI) 0 N := k3.trans (u.mono (Qa _) ⋯)
      rcases SN P with rfl | ⟨dg, ⟨a1, a2, a3⟩, rfl⟩
      · rw [R]
        cases (show 0 = lo from aJ)
        refine P5 (RW (Qf ⟨rfl, g.1.trans k1, g.2.2.trans k2, P3, by dsimp only; lia, by dsimp only; lia, [(0, d, 0)], ?_, rfl, t, p, rfl⟩))
        show (Wm dI).push _ = _
        rw [R]
        rfl
      · rw [SO] at R aJ
        rw [R, show (dg ++ [(a1, a2, a3)]).toArray.back? = Z (a1, a2, a3) by simp]
        dsimp only
        generalize power' N (2 * a1 + a2) (2 * a1 + a2 + a2 + d) N = ec
        refine P5 (RM (Ri (I := fun x (c : Option Unit × Unit) a => c = (Y, ()) /\ wi lt dI lo a) (Q := fun (c : Option Unit × Unit) a => c = (Y, ()) /\ wi lt dI lo a) ?a1 ?a2 ⟨rfl, rfl, g.2.2.trans k2, .refl .., _, by simp, R, aJ⟩) ?a3)
        case a2 => exact fun c a h => h
        case a1 =>
          intro x c a _ _ h
          have T := h.2.1
          have U := h.2.2.1
          have q := h.2.2.2.1
          obtain ⟨f, h⟩ := h.2.2.2.2
          have aw := h.1
          have v := h.2.1
          have w := h.2.2
          refine P5 (Uh ?_)
          rw [v]
          rcases bg : (if f.toArray.size > 1 then f.toArray[f.toArray.size - 2]? else Y) with _ | ⟨f1, f2, lB⟩
          · exact Qf ⟨rfl, T, U, q, f, aw, v, w⟩
          · have h2 : 1 < f.length := by
              by_cases h : f.toArray.size > 1
              · exact h
              · rw [if_neg h] at bg; cases bg
            refine cm (fun _ => Qf ⟨rfl, T, U, q, f, aw, v, w⟩) fun _ => ?_
            refine P5 (zH O (T.trans (g.1.trans C)) U v (show f.length - 2 + 1 < f.length by lia) w (by rw [q.size, i5]; lia) ((a4.perm u.perm).perm q.perm) fun e5 aG bh bw bk bq bH bI => ?_)
            rw [if_neg (by simp)]
            exact Qf ⟨rfl, bh.trans (g.1.trans C).symm, bw, q.trans bH, aG, fun e => by rw [e] at bq; rw [<- bq] at h2; exact absurd h2 ∅, bk, bI⟩
        case a3 =>
          rintro c a ⟨rfl, T, U, q, f, aw, v, w⟩
          rcases SN f with rfl | ⟨dr, ⟨b1, b2, gb⟩, rfl⟩
          · exact absurd rfl aw
          rw [SO] at v w
          obtain ⟨eC, ed, et, eE, eQ, e0⟩ := Runs.app.mp w
          refine P5 (RW (P5 (RW (Qf ⟨rfl, T.trans (g.1.trans k1), U, P3.trans (q.mono (P0 _) k5), by dsimp only; lia, by dsimp only; lia, (dr ++ [(b1, b2, ec)]) ++ [(lo, d, 0)], ?_, Runs.app.mpr ⟨lo, Runs.app.mpr ⟨eC, ed, et, eE, eQ, e0⟩, rfl, t, ?_, rfl⟩⟩))))
          · show ((Wm a).modify ((Wm a).size - 1) _).push _ = _
            rw [v, Ji]
            exact List.push_toArray _ _
          · exact p.JM q (.inr (P0 _))
  case post =>
    rintro ⟨o, lo⟩ n ⟨⟨rfl, k1, k2, k3, -, -, P, V, B⟩, rfl⟩
    have C : kindOf n = κ := k1.trans cO
    have a4 := bf.perm k3.perm
    have hsz : (VQ n).size = lo := k3.size.trans a0
    refine P5 (RM (Ri (I := fun x (c : Option Unit × Unit) a => c = (Y, ()) /\ kindOf a = κ /\ Wv a = Y /\ b9 (VQ st) (VQ a) 0 lo /\ ∃ P, (P.length <= 1 \/ P.length + x <= lo) /\ Wm a = P.toArray /\ Runs lt (VQ a) 0 P lo)
      (Q := fun (c : Option Unit × Unit) a => c = (Y, ()) /\ Wv a = Y /\ b9 (VQ st) (VQ a) 0 lo /\ ∃ P, P.length <= 1 /\ Runs lt (VQ a) 0 P lo) ?step2 ?fin2 ⟨rfl, C, k2, k3, P, .inr (by have := B.len; lia), V, B⟩) ?post2)
    case fin2 =>
      rintro c a ⟨rfl, G, j, i, P, H, X, L⟩
      rw [QP (Qa _)] at H
      exact ⟨rfl, j, i, P, by lia, L⟩
    case post2 =>
      rintro c a ⟨rfl, G, j, P, i, H⟩
      refine Qf (dW a G j.perm ?_)
      have hz : (VQ a).size = lo := j.size.trans a0
      match P, i, H with
      | [], _, e => cases (show 0 = lo from e); lia
      | [r], _, ⟨e1, e2, e3, e4⟩ =>
        have e4 : 0 + r.2.1 = lo := e4
        refine ob ?_
        rw [hz, <- e4, Sf]
        exact e3.bz
    case step2 =>
      intro y c a _ f0 h
      have G := h.2.1
      have j := h.2.2.1
      have i := h.2.2.2.1
      obtain ⟨P, h⟩ := h.2.2.2.2
      have H := h.1
      have X := h.2.1
      have L := h.2.2
      refine P5 (Uh ?_)
      rw [X]
      refine cm (fun h => Qf ⟨rfl, j, i, P, h, L⟩) fun h => ?_
      have h : ¬ P.length <= 1 := h
      refine P5 (zH O G j X ?_ L (by rw [i.size, a0]; lia) (bf.perm i.perm) fun e5 aG bh bw bk bq bH bI => ?_)
      · have cZ : ∀ b : Bool, (if b = J then P.length - 2 - 1 else P.length - 2) + 1 < P.length := fun b => by cases b <;> simp only [Q3, PZ, Qs] <;> lia
        exact cZ _
      · rw [if_neg (by simp)]
        exact Qf ⟨rfl, bh, bw, i.trans bH, aG, by lia, bk, bI⟩
end
end Tm
end
section
namespace Tm
open PySem PySem.W PyProof.Rows PySem.Calls
def Kv{α β:Type}(f:α->β){a m:List β}(h:a.Perm m):∀l:List α,m=l.map f->∃p:List α,p.Perm l/\a=p.map f:=by
 induction h with
 |nil=>intro l e;cases l with
  |nil=>exact⟨[],.refl _,rfl⟩
  |cons=>cases e
 |cons x _ b =>
  intro l e;cases l with
  |nil=>cases e
  |cons y l =>
   rw[VP]at e;injection e with e1 e2;obtain⟨p,aI,h2⟩:=b l e2;exact⟨y::p,aI.cons y,by rw[VP,e1,h2]⟩
 |swap x y m =>
  intro l e
  match l,e with
  |u::v::l,e =>
   rw[VP,VP]at e;injection e with e1 e2;injection e2 with e2 e3;exact⟨v::u::l,.swap u v l,by rw[VP,VP,e1,e2,e3]⟩
 |trans _ _ c d =>
  intro l e;obtain⟨p,aI,h2⟩:=d l e;obtain⟨q,h3,h4⟩:=c p h2;exact⟨q,h3.trans aI,h4⟩
structure Ord(lt:Nat->Nat->Bool):Prop where
 dY:∀x,lt x x=VF
 cM:∀x y z,lt y x=VF->lt z y=VF->lt z x=VF
 fB:∀x y,lt x y=J->lt y x=VF
section
variable{prog:Wd}{w:Wo}{A:Wg}{E:VI->VL->Prop}{s:VL}
noncomputable abbrev pr(a:List VI)(i:Nat):Keyed:=(a.getD i Value.none,a.getD i Value.none)
def Pu(a:List VI):(a.toArray.zip a.toArray).toList=(VN a.length).map (pr a):=by
 apply RU;intro i;rw[Qh]
 by_cases h:i<a.length
 .rw[Rx h];simp[XE,Wt,P4 h]
 .rw[Qu ⇑h,Qu ⇑h];rfl
def ID{a:VU}{d:List VI}{n:Nat}{κ:Xa}{lt:Nat->Nat->Bool}{P:PySem.Fin->VL->Prop}(O:Ord lt)(T:∀i j,i<d.length->j<d.length->d.getD i Value.none=d.getD j Value.none->∀k,lt i k=lt j k/\lt k i=lt k j)(B:s.heap.get? a=Z (WM "list" d.toArray n))(bh:d.length<1000)(aA:2<=d.length->∀(h':We),(∀b o,b≠a->s.heap.get? b=Z o->h'.get? b=Z o)->∀Q:Xa->VL->Prop,Q κ { s with heap:=h' }->VO (VW prog w) A (Zz d.toArray) Q E { s with heap:=h' })(a4:2<=d.length->∀(h':We),(∀b o,b≠a->s.heap.get? b=Z o->h'.get? b=Z o)->∀(i j:Nat)(C:Bool->VL->Prop),i<d.length->j<d.length->C (lt i j) { s with heap:=h' }->Yh prog w A κ d i j C { s with heap:=h' })(h:∀p:List Nat,p.Perm (VN d.length)->p.Pairwise (λi j=>lt j i=VF)->∀(h':We)(c:Nat),(∀b o,b≠a->s.heap.get? b=Z o->h'.get? b=Z o)->h'.get? a=Z (WM "list" (p.map λi=>d.getD i Value.none).toArray c)->P (.done (.ret .none)) { s with heap:=h' }):
  VO (VW prog w) A (WN.«list.sort» ⟨[.ref a],[]⟩) P E s:=by
 rw[list_sort_plain];have bw:a<s.heap.objs.size:=P7 B;refine PV (Zv B rfl ?_);refine PV (UP B rfl ?_ (by rw[P6,V7];lia) (Qa _));obtain⟨e1,N⟩:∃e1,(s.heap.update a (Wh λ_=>(#[]:Array VI))).get? a=Z (WM "list" #[] e1):=⟨_,Yp B λ_=>#[]⟩;refine PV (ZZ N rfl ?_);refine PV (wpAny_newTuple ?_ (by show d.length<=_;rw[V7];lia));refine PV (Vv ?_ (Qa _));refine RJ ?_;have l:(((s.heap.update a (Wh λ_=>(#[]:Array VI))).push (WM "tuple" d.toArray 0)).push (WM "list" #[] 0)).get? a=Z (WM "list" #[] e1):=PX _ (PX _ N);have D:∀b o,b≠a->s.heap.get? b=Z o->(((s.heap.update a (Wh λ_=>(#[]:Array VI))).push (WM "tuple" d.toArray 0)).push (WM "list" #[] 0)).get? b=Z o:=λb o g q =>
  PX _ (PX _ ((Qt _ _ (Q8 g)).trans q))
 show VO (VW prog w) A _ P E { s with heap:=((s.heap.update a (Wh λ_=>(#[]:Array VI))).push (WM "tuple" d.toArray 0)).push (WM "list" #[] 0) };generalize ((s.heap.update a (Wh λ_=>(#[]:Array VI))).push (WM "tuple" d.toArray 0)).push (WM "list" #[] 0)=aI at l D;dsimp only;have fin:∀p:List Nat,p.Perm (VN d.length)->p.Pairwise (λi j=>lt j i=VF)->P (.done (.ret .none)) { s with heap:=aI.update a (Wh λ_=>(p.map λi=>d.getD i Value.none).toArray) }:=λp aL I=>by
  obtain⟨H,a5⟩:∃H,(aI.update a (Wh λ_=>(p.map λi=>d.getD i Value.none).toArray)).get? a=Z (WM "list" (p.map λi=>d.getD i Value.none).toArray H):=⟨_,Yp l λ_=>(p.map λi=>d.getD i Value.none).toArray⟩;exact h p aL I _ H (λb o g q=>(Qt _ _ (Q8 g)).trans (D b o g q)) a5
 have hz:=Pu d
 by_cases h2:d.toArray.size<2
 .rw[if_pos h2,if_pos h2];refine PV (VG ?_);rw[StateT.run_pure];refine PV (VG ?_);dsimp only;refine PV (ZZ l rfl ?_);have e3:(VQ (aae general' (d.toArray.zip d.toArray) #[] 7 Y)).map (·.2)=((VN d.length).map λi=>d.getD i Value.none).toArray:=by
   show(d.toArray.zip d.toArray).map (·.2)=_;apply TX.mp;rw[ZO,hz,VR];rfl
  rw[e3];refine PV (UP l rfl ?_ (Qa _) (by rw[P6,VH,Wy,V7];lia));simp only[Sj,PZ,Qs];refine VG (fin _ (.refl _) ?_);have t:d.length<2:=⇑h2;rcases(show d.length=0\/d.length=1 by lia) with e|e
  .rw[e];exact XI
  .rw[e];exact RF _ _
 .rw[if_neg h2,if_neg h2];have t:2<=d.length:=(by simp at h2;exact h2);refine PV (aA t aI D _ ?_);have U:∀x:VS,∃i,(∃i,i<d.length/\x=pr d i)->i<d.length/\x=pr d i:=λx=>by
   by_cases c:∃i,i<d.length/\x=pr d i
   .obtain⟨i,hi⟩:=c;exact⟨i,λ_=>hi⟩
   .exact⟨0,λq=>absurd q c⟩
  obtain⟨f,u⟩:∃f:VS->Nat,∀x,(∃i,i<d.length/\x=pr d i)->f x<d.length/\x=pr d (f x):=⟨λx=>(U x).choose,λx=>(U x).choose_spec⟩;have Or:c6 (VW prog w) A E { s with heap:=aI } κ (λx=>∃i,i<d.length/\x=pr d i) (λx y=>lt (f x) (f y)):=by
   refine⟨λx y st Q m b1 aG q=>?_,λx y _ _ q=>O.fB _ _ q,λx y z _ _ _ b2 bp=>O.cM _ _ _ b2 bp⟩;obtain⟨L,a2⟩:=u x m;obtain⟨M,a3⟩:=u y b1;rw[lt'_eq];refine P5 (Uh ?_);refine P5 (U0 (Tf ?_));have:=a4 t aI D (f x) (f y) (λb s'=>s'={ s with heap:=aI }/\b=lt (f x) (f y)) L M ⟨rfl,rfl⟩;unfold Yh at this;have e1:d.getD (f x) Value.none=x.1:=(Rc aaf a2).symm;have e2:d.getD (f y) Value.none=y.1:=(Rc aaf a3).symm;rw[e1,e2]at this;rw[aG];refine Q2 this (λb s' ⟨I,g⟩=>⟨I,?_⟩) λ_ _ z=>z.elim
   subst g;exact Qf q
  have run:=LN (st:=aae κ (d.toArray.zip d.toArray) #[] 7 Y) (Q:=λ_ r=>Wv r=Y/\∃p:List Nat,p.Perm (VN d.length)/\p.Pairwise (λi j=>lt j i=VF)/\(VQ r).toList=p.map (pr d)) Or rfl rfl rfl
   (λx m=>by
    have m:x∈(d.toArray.zip d.toArray).toList:=m;rw[hz]at m;obtain⟨i,hi,rfl⟩:=VM.mp m;exact⟨i,V0.mp hi,rfl⟩) (by show 2<=(d.toArray.zip d.toArray).size;rw[<- VK,hz];simpa using t) λr bf G V=>by
     have G:(VQ r).toList.Perm (d.toArray.zip d.toArray).toList:=G;rw[hz]at G;obtain⟨p,p1,p2⟩:=Kv (pr d) G _ rfl;refine⟨bf,p,p1,?_,p2⟩;rw[p2,QT]at V;refine QN (λ{i j} hi v q=>?_) V;have hi:=V0.mp (p1.mem_iff.mp hi);have v:=V0.mp (p1.mem_iff.mp v);obtain⟨L,a0⟩:=u (pr d i) ⟨i,hi,rfl⟩;obtain⟨M,a1⟩:=u (pr d j) ⟨j,v,rfl⟩;have q:lt (f (pr d j)) (f (pr d i))=false:=q;rw[(T j (f (pr d j)) v M (Rc aaf a1) i).1,(T i (f (pr d i)) hi L (Rc aaf a0) _).2];exact q
  refine PV (Q2 run ?_ λ_ _ e=>e);rintro⟨⟨⟩,r⟩ s' ⟨rfl,aw,p,p1,p2,p3⟩;have aJ:(VQ r).map (·.2)=(p.map λi=>d.getD i Value.none).toArray:=by
   apply TX.mp;rw[ZO,p3,VR];rfl
  rw[aJ];refine PV (ZZ l rfl ?_);refine PV (UP l rfl ?_ (Qa _) (by rw[P6,VH,p1.length_eq,Wy,V7];lia));rw[aw];simp only[Sj,PZ,Qs];exact VG (fin p p1 p2)
end
end Tm
end
section
namespace dw
open PySem PySem.W PyProof.Rows PySem.Calls
section
def ltI{κ:Type}(lt:κ->κ->Bool)(z:κ)(a:List κ)(i j:Nat):Bool:=lt (a.getD i z) (a.getD j z)
def uT{κ:Type}{lt:κ->κ->Bool}(L:aH.eM lt)(z)(b):Tm.Ord (ltI lt z b) where
 dY:=λx=>L.dY _
 cM:=λx y z a h2=>aH.zk L a h2
 fB:=λx y h=>aH.zl L h
def GQ{κ:Type}(z:κ)(a9):(VN a9.length).map (λi=>a9.getD i z)=a9:=by
 apply RU;intro i;rw[Qh]
 by_cases h:i<a9.length
 .rw[Rx h];simp[Wt,h]
 .rw[Qu ⇑h,Qu ⇑h];rfl
def M8{κ:Type}{lt:κ->κ->Bool}(L:aH.eM lt)(z)(a9){p:List Nat}(a:p.Perm (VN a9.length))(h2:p.Pairwise (λi j=>ltI lt z a9 j i=VF)):(p.map λi=>a9.getD i z)=aH.bz lt a9:=by
 refine aH.CJ L ?_ (aH.CI L a9) ?_
 .unfold aH.k4;rw[QT];exact h2
 .refine((a.map λi=>a9.getD i z).trans ?_).trans (aH.qq a9).symm;rw[GQ]
def uO{κ:Type}{lt:κ->κ->Bool}{z:κ}{b:List κ}{a:List VI}(h:∀i j,i<a.length->j<a.length->a.getD i Value.none=a.getD j Value.none->b.getD i z=b.getD j z):
  ∀i j,i<a.length->j<a.length->a.getD i Value.none=a.getD j Value.none->∀k,ltI lt z b i k=ltI lt z b j k/\ltI lt z b k i=ltI lt z b k j:=λi j hi c e k=>by
 unfold ltI;rw[h i j hi c e];exact⟨rfl,rfl⟩
theorem ints_get:∀{a:List VI}{ns:List Int}(h:Wk a ns)(i:Nat),i<a.length->∃t,a.getD i Value.none=.int (ns.getD i 0) t
 |_,_,.nil,i,h=>by simp at h
 |_,_,.cons n t _,0,_=>⟨t,rfl⟩
 |_,_,.cons n t r,i+1,h=>by
  obtain⟨u,e⟩:=ints_get r i ⇑h;exact⟨u,by simpa[Wt] using e⟩
theorem tW:∀{a:List VI}{ns:List Int}(h:Wk a ns),ns.length=a.length
 |_,_,.nil=>rfl
 |_,_,.cons n t r=>by simp[tW r]
def HS(h:Wk a ns):∀i j,i<a.length->j<a.length->a.getD i Value.none=a.getD j Value.none->ns.getD i 0=ns.getD j 0:=λi j hi b e=>by
 obtain⟨t,e1⟩:=ints_get h i hi;obtain⟨u,e2⟩:=ints_get h j b;rw[e1,e2]at e;injection e
def DF(b:Wk a ns)(i j)(C)(hi:i<a.length)(c:j<a.length)(h:C (ltI aH.ltI 0 ns i j) s):Yh prog w A oneType' a i j C s:=by
 obtain⟨t,e1⟩:=ints_get b i hi;obtain⟨u,e2⟩:=ints_get b j c;unfold Yh;rw[e1,e2];exact kat_lt_int h
def HZ(c:Wk a ns)(h2:2<=a.length)(h:Q oneType' s):VO (VW prog w) A (Zz a.toArray) Q E s:=by
 obtain⟨q7,b,rest,rfl⟩:∃q7 b rest,a=q7::b::rest:=by
  match a,h2 with
  |q7::b::rest,_=>exact⟨q7,b,rest,rfl⟩
 rw[keyKind_ints c];exact VG h
abbrev ea(h:We):List VI->List (List Int)->Prop
 |[],[]=>True
 |v::c,k::b=>(∃a o xs n,v=.ref a/\h.get? a=Z o/\o.cls=.type "tuple"/\o.data=.seq xs n/\Wk xs.toList k/\k≠[])/\ea h c b
 |_,_=>False
theorem ea.kept(k:∀b o,h.get? b=Z o->h'.get? b=Z o):∀{d:List VI}{c:List (List Int)},ea h d c->ea h' d c
 |[],[],_=>trivial
 |v::d,x::c,⟨⟨a,o,xs,n,e,f,r⟩,t⟩=>⟨⟨a,o,xs,n,e,k a o f,r⟩,t.kept k⟩
theorem ea.len:∀{b:List VI}{a:List (List Int)},ea h b a->a.length=b.length
 |[],[],_=>rfl
 |v::b,x::a,⟨_,t⟩=>by simp[t.len]
theorem ea.get:∀{c:List VI}{b:List (List Int)},ea h c b->∀i,i<c.length->∃a o xs n,c.getD i Value.none=.ref a/\h.get? a=Z o/\o.cls=.type "tuple"/\o.data=.seq xs n/\Wk xs.toList (b.getD i [])/\b.getD i []≠[]
 |[],[],_,i,hi=>by simp at hi
 |v::c,x::b,⟨q,t⟩,0,_=>q
 |v::c,x::b,d,i+1,hi=>by
  obtain⟨q,t⟩:=d;have:=t.get i ⇑hi;simpa[Wt] using this
def yQ(h:Wk b xs):∀{ys:List Int},Wk b ys->xs=ys:=by
 induction h with
 |nil=>intro ys q;cases q;rfl
 |cons n t _ a =>
  intro ys q;cases q with
  |cons _ _ q=>rw[a q]
def HX(H:ea h b c):∀i j,i<b.length->j<b.length->b.getD i Value.none=b.getD j Value.none->c.getD i []=c.getD j []:=λi j hi g e=>by
 obtain⟨a,o,xs,n,e1,k,_,l,m,_⟩:=H.get i hi;obtain⟨q,s,t,r,e2,d,_,f,p,_⟩:=H.get j g;rw[e1,e2]at e;injection e with e;subst e;rw[k]at d;cases d;rw[l]at f;cases f;exact yQ m p
theorem ea.nz:∀{d:List VI}{f:List (List Int)},ea h d f->∃b:List VI,KatTups h d b/\b.length=d.length/\∀v∈b,∃i t,v=W6 i t
 |[],[],_=>⟨[],KatTups.nil,rfl,by simp⟩
 |v::d,x::f,s=>by
  obtain⟨⟨a,o,xs,n,e,p,j,k,c,m⟩,t⟩:=s;subst e;obtain⟨b,g,h2,h3⟩:=t.nz;obtain⟨i,u,l⟩:∃i u,xs[0]?=Z (W6 i u):=by
   cases q:xs.toList with
   |nil=>rw[q]at c;cases c;exact absurd rfl m
   |cons y ys =>
    rw[q]at c;cases c with
    |cons n t r=>exact⟨n,t,(by have:xs.toList[0]?=Z (W6 n t):=(by rw[q];rfl);simpa using this)⟩
  refine⟨W6 i u::b,KatTups.cons p j k l g,by simp[h2],λz hz=>?_⟩;rcases P1.mp hz with rfl|hz
  .exact⟨i,u,rfl⟩
  .exact h3 z hz
abbrev kq(fin:Bool):List Int->List Int->Bool
 |x::xs,y::ys=>if x=y then kq fin xs ys else decide (x<y)
 |_,_=>fin
theorem zg:∀(xs ys:List Int),kq (decide (xs.length<ys.length)) xs ys=aH.lexLt xs ys
 |[],[]=>rfl
 |[],_::_=>rfl
 |_::_,[]=>rfl
 |x::xs,y::ys=>by
  have e:decide ((x::xs).length<(y::ys).length)=decide (xs.length<ys.length):=(by simp);rw[e];simp only[kq,aH.lexLt,zg xs ys]
theorem y2:∀{a c:List VI}{xs ys:List Int}(i:Nat),Wk a xs->Wk c ys->Q (kq fin xs ys) s->KatLex prog w A J fin Q (a.zip c) i s
 |_,_,_,_,i,.nil,_,h=>by simpa[kq] using kat_nil (prog:=prog) (w:=w) (A:=A) (b:=J) (i:=i) h
 |_,_,_,_,i,.cons x t r,.nil,h=>by simpa[kq] using kat_nil (prog:=prog) (w:=w) (A:=A) (b:=J) (i:=i) h
 |_,_,_,_,i,.cons x t r,.cons y u q,h=>by
  refine kat_cons (wpAny_eqBool_int ?_);simp only[kq]at h
  by_cases e:x=y
  .subst e;rw[if_pos rfl]at h;rw[show(x==x)=J by simp];exact kat_yes (y2 (i+1) r q h)
  .rw[if_neg e]at h;rw[show(x==y)=VF by simpa using e];refine kat_no ?_;cases d:(J&&i==0) with
   |true=>exact oneLt_int h
   |false=>exact kat_one _ _ (lt_int (show W.BoolBack Q (WK (decide (x<y))) s from h))
def DG(g:ea s.heap d c)(i j)(C)(hi:i<d.length)(m:j<d.length)(h:C (ltI aH.lexLt [] c i j) s):Yh prog w A (ZA J) d i j C s:=by
 obtain⟨a,o,xs,n,e1,p,r,k,e,_⟩:=g.get i hi;obtain⟨b,v,ys,u,e2,q,t,l,f,_⟩:=g.get j m;unfold Yh;rw[e1,e2];refine kat_lt p k q l (y2 0 e f ?_);have l1:(c.getD i []).length=xs.size:=by rw[tW e,VK]
 have l2:(c.getD j []).length=ys.size:=by rw[tW f,VK]
 rw[<- l1,<- l2,zg];exact h
def H0(b:ea s.heap a e)(h2:2<=a.length)(h:Q (ZA J) s):VO (VW prog w) A (Zz a.toArray) Q E s:=by
 obtain⟨d,k1,k2,k3⟩:=b.nz;refine kat_kind (T:=Wj "int") k1 ⋯ (λv c=>?_) ∅ (by rw[show(Wj "int" != Wj "tuple")=J by decide];exact h);obtain⟨i,t,rfl⟩:=k3 v c;exact Looks.of_pure rfl
end
end dw
end
section
namespace aH
def dZ:List (List Int)->List (List Int)->Bool
 |[],[]=>VF
 |[],_::_=>J
 |_::_,[]=>VF
 |x::xs,y::ys=>if x=y then dZ xs ys else lexLt x y
theorem zd:∀a,dZ a a=VF
 |[]=>rfl
 |x::a=>by simp[dZ,zd a]
theorem zc:∀a b,a≠b->dZ a b=J\/dZ b a=J
 |[],[],h=>absurd rfl h
 |[],_::_,_=>.inl rfl
 |_::_,[],_=>.inr rfl
 |x::a,y::b,h=>by
  simp only[dZ]
  by_cases e:x=y
  .subst e;simp only[Q3];exact zc a b λz=>h (by rw[z])
  .rw[if_neg e,if_neg (Q8 e)];exact ui x y e
theorem ze:∀{a b c},dZ a b=J->dZ b c=J->dZ a c=J
 |[],[],_,h,_=>by simp[dZ]at h
 |[],_::_,[],_,h=>by simp[dZ]at h
 |[],_::_,_::_,_,_=>rfl
 |_::_,[],_,h,_=>by simp[dZ]at h
 |_::_,_::_,[],_,h=>by simp[dZ]at h
 |x::a,y::b,z::c,d,h2=>by
  simp only[dZ]at *
  by_cases e:x=y
  .subst e;rw[if_pos rfl]at d
   by_cases e2:x=z
   .subst e2;rw[if_pos rfl]at h2 ⊢;exact ze d h2
   .rw[if_neg e2]at h2 ⊢;exact h2
  .rw[if_neg e]at d
   by_cases e2:y=z
   .subst e2;rw[if_neg e];exact d
   .rw[if_neg e2]at h2;have t:=uk d h2
    by_cases e3:x=z
    .subst e3;rw[uj]at t;cases t
    .rw[if_neg e3];exact t
def zj:eM dZ:=⟨zd,ze,zc⟩
def mQ(c:List (List Int)):ζ.D:=.tup (c.map af)
theorem zr:∀a b:List (List Int),ζ.hD (a.map af) (b.map af)=Z (dZ a b)
 |[],[]=>rfl
 |[],_::_=>rfl
 |_::_,[]=>rfl
 |x::a,y::b=>by
  rw[show ζ.hD ((x::a).map af) ((y::b).map af)=if ζ.eS (af x) (af y)=J then ζ.hD (a.map af) (b.map af) else ζ.hC (af x) (af y) from rfl,zr a b,nD,m9];simp only[dZ]
  by_cases h:x=y<;>simp[h]
def IK(a b):ζ.hC (mQ a) (mQ b)=Z (dZ a b):=zr a b
end aH
namespace dw
open PySem PySem.W PyProof.Rows PySem.Calls
def f7(h:We):List VI->List (List (List Int))->Prop
 |[],[]=>True
 |v::c,k::b=>(∃a o xs n,v=.ref a/\h.get? a=Z o/\o.cls=.type "tuple"/\o.data=.seq xs n/\ea h xs.toList k/\k≠[])/\f7 h c b
 |_,_=>False
theorem f7.kept(k:∀b o,h.get? b=Z o->h'.get? b=Z o):∀{d:List VI}{c:List (List (List Int))},f7 h d c->f7 h' d c
 |[],[],_=>trivial
 |v::d,x::c,⟨⟨a,o,xs,n,e,l,g,i,f,j⟩,t⟩=>⟨⟨a,o,xs,n,e,k _ _ l,g,i,f.kept k,j⟩,t.kept k⟩
 |[],_::_,h=>h.elim
 |_::_,[],h=>h.elim
theorem f7.get:∀{c:List VI}{b:List (List (List Int))},f7 h c b->∀i,i<c.length->∃a o xs n,c.getD i Value.none=.ref a/\h.get? a=Z o/\o.cls=.type "tuple"/\o.data=.seq xs n/\ea h xs.toList (b.getD i [])/\b.getD i []≠[]
 |[],[],_,i,hi=>by simp at hi
 |v::c,x::b,⟨t,r⟩,0,_=>by simpa[Wt] using t
 |v::c,x::b,⟨t,r⟩,i+1,hi=>by simpa[Wt] using f7.get r i ⇑hi
 |[],_::_,h,_,_=>h.elim
 |_::_,[],h,_,_=>h.elim
theorem Ck:∀{b:List VI}{xs ys:List (List Int)},ea h b xs->ea h b ys->xs=ys
 |[],[],[],_,_=>rfl
 |v::b,x::xs,y::ys,l,m=>by
  obtain⟨⟨a,o,w,n,e,k,q,j,g,_⟩,t⟩:=l;obtain⟨⟨p,u,z,s,f,d,r,c,i,_⟩,t'⟩:=m;subst e;cases f;rw[k]at d;cases d;rw[j]at c;cases c;rw[yQ g i,Ck t t']
 |[],_::_,_,h,_=>h.elim
 |[],[],_::_,_,h=>h.elim
 |_::_,[],_,h,_=>h.elim
 |_::_,_::_,[],_,h=>h.elim
def HY(H:f7 h b c):∀i j,i<b.length->j<b.length->b.getD i Value.none=b.getD j Value.none->c.getD i []=c.getD j []:=λi j hi g e=>by
 obtain⟨a,o,xs,n,l,k,_,p,q,_⟩:=H.get i hi;obtain⟨s,u,v,t,m,d,_,f,r,_⟩:=H.get j g;rw[l,m]at e;cases e;rw[k]at d;cases d;rw[p]at f;cases f;exact Ck q r
theorem f7.nz:∀{g:List VI}{i:List (List (List Int))},f7 h g i->∃d:List VI,KatTups h g d/\d.length=g.length/\∀v∈d,∃a o,v=VY a/\h.get? a=Z o/\o.cls=.type "tuple"
 |[],[],_=>⟨[],KatTups.nil,rfl,by simp⟩
 |v::g,x::i,A=>by
  obtain⟨⟨a,o,xs,n,e,w,p,r,f,u⟩,t⟩:=A;subst e;obtain⟨d,j,h2,h3⟩:=t.nz;obtain⟨b,c,s,l,m⟩:∃b c,xs[0]?=Z (VY b)/\h.get? b=Z c/\c.cls=.type "tuple":=by
   cases q:xs.toList with
   |nil =>
    rw[q]at f;cases x with
    |nil=>exact absurd rfl u
    |cons _ _=>exact f.elim
   |cons y ys =>
    rw[q]at f;cases x with
    |nil=>exact f.elim
    |cons k x =>
     obtain⟨⟨b,c,C,B,e1,e2,e3,_⟩,_⟩:=f;exact⟨b,c,(by have:xs.toList[0]?=Z (VY b):=(by rw[q,e1];rfl);simpa using this),e2,e3⟩
  refine⟨VY b::d,KatTups.cons w p r s j,by simp[h2],λz hz=>?_⟩;rcases P1.mp hz with rfl|hz
  .exact⟨b,c,rfl,l,m⟩
  .exact h3 z hz
 |[],_::_,h=>h.elim
 |_::_,[],h=>h.elim
section
def kr(fin:Bool):List (List Int)->List (List Int)->Bool
 |x::xs,y::ys=>if x=y then kr fin xs ys else aH.lexLt x y
 |_,_=>fin
theorem zf:∀(xs ys:List (List Int)),kr (decide (xs.length<ys.length)) xs ys=aH.dZ xs ys
 |[],[]=>rfl
 |[],_::_=>rfl
 |_::_,[]=>rfl
 |x::xs,y::ys=>by
  have e:decide ((x::xs).length<(y::ys).length)=decide (xs.length<ys.length):=(by simp);rw[e];simp only[kr,aH.dZ,zf xs ys]
theorem zh:∀a b:List Int,bu.lexLt a b=aH.lexLt a b
 |[],[]=>rfl
 |[],_::_=>rfl
 |_::_,[]=>rfl
 |x::a,y::b=>by simp only[bu.lexLt,aH.lexLt,zh a b]
abbrev n0(k:List Int):PyData:=.tuple (k.map .int)
theorem u6:∀{a:List VI}{k:List Int},Wk a k->ZC h a (k.map .int) []
 |_,_,.nil=>.nil
 |_,_,.cons n t r=>.cons (as:=[]) (.int n t) (u6 r)
theorem xP:∀a b:List Int,XU (a.map .int) (b.map .int)=decide (a=b)
 |[],[]=>rfl
 |[],_::_=>rfl
 |_::_,[]=>rfl
 |x::a,y::b=>by
  rw[VP,VP,XU,xP a b,aag]
  by_cases h:x=y<;>simp[h]
theorem pY:∀a:List Int,WZ (a.map .int)=J/\WX (a.map .int)=0
 |[]=>⟨rfl,rfl⟩
 |x::a=>by
  obtain⟨b,h2⟩:=pY a;exact⟨by rw[VP,WZ,b];rfl,by rw[VP];show max (PyData.depth (.int x)) (WX (a.map .int))=0;rw[h2];rfl⟩
theorem y3(D:A.units+2<WJ):∀{c d:List VI}{xs ys:List (List Int)}(i:Nat),ea s.heap c xs->ea s.heap d ys->Q (kr fin xs ys) s->KatLex prog w A VF fin Q (c.zip d) i s
 |[],_,[],_,i,_,_,h=>by simpa[kr] using kat_nil (prog:=prog) (w:=w) (A:=A) (b:=VF) (i:=i) h
 |_::_,[],_::_,[],i,_,_,h=>by simpa[kr] using kat_nil (prog:=prog) (w:=w) (A:=A) (b:=VF) (i:=i) h
 |u::c,v::d,x::xs,y::ys,i,L,M,h=>by
  obtain⟨⟨a,o,as,n,e,z,m,q,j,_⟩,t⟩:=L;obtain⟨⟨b,G,bs,E,C,B,p,r,l,_⟩,t'⟩:=M;subst e C;have H:Reads s.heap (.ref a) (n0 x) []:=.tuple z m q (u6 j);have I:Reads s.heap (.ref b) (n0 y) []:=.tuple B p r (u6 l);have f:∀k:List Int,(n0 k).depth=1:=λk=>by show WX (k.map .int)+1=1;rw[(pY k).2]
  have g:=ZP _ _ A s _ _ _ _ H I (show WZ (x.map .int)=J from(pY x).1) (show WZ (y.map .int)=J from(pY y).1) (by rw[f,f];show A.units+1<WJ;lia);rw[show aag (n0 x) (n0 y)=decide (x=y) from xP x y]at g;refine kat_cons (g prog w _ _ ?_);simp only[kr]at h
  by_cases e:x=y
  .rw[if_pos e]at h;rw[decide_eq_true e];exact kat_yes (y3 D (i+1) t t' h)
  .rw[if_neg e]at h;rw[decide_eq_false e];refine kat_no (kat_one _ _ ?_);have p1:s.heap.IsTuple a as:=⟨o,z,m,n,q⟩;have p2:s.heap.IsTuple b bs:=⟨G,B,p,E,r⟩;exact bu.zu p1 p2 j l ⋯ (by rw[zh];exact h)
 |[],_,_::_,_,_,h,_,_=>h.elim
 |_::_,_,[],_,_,h,_,_=>h.elim
 |_::_,[],_::_,_::_,_,_,h,_=>h.elim
 |_::_,_::_,_::_,[],_,_,h,_=>h.elim
def DH(r:A.units+2<WJ)(g:f7 s.heap d c)(i j)(C)(hi:i<d.length)(m:j<d.length)(h:C (ltI aH.dZ [] c i j) s):Yh prog w A (ZA VF) d i j C s:=by
 obtain⟨a,o,xs,n,e1,p,t,k,e,_⟩:=g.get i hi;obtain⟨b,x,ys,v,e2,q,u,l,f,_⟩:=g.get j m;unfold Yh;rw[e1,e2];refine kat_lt p k q l (y3 r 0 e f ?_);have l1:(c.getD i []).length=xs.size:=by rw[e.len,VK]
 have l2:(c.getD j []).length=ys.size:=by rw[f.len,VK]
 rw[<- l1,<- l2,zf];exact h
def H2(c:f7 s.heap b i)(h2:2<=b.length)(h:Q (ZA VF) s):VO (VW prog w) A (Zz b.toArray) Q E s:=by
 obtain⟨g,k1,k2,k3⟩:=c.nz;refine kat_kind (T:=Wj "tuple") k1 ⋯ (λv f=>?_) ∅ (by rw[show(Wj "tuple" != Wj "tuple")=VF by decide];exact h);obtain⟨a,o,rfl,e,d⟩:=k3 v f;rw[<- d];exact(Looks.ld e).andThen .now
end
end dw
end
section
namespace cT
open ζ aH
variable{pg:cw}{Φ:da}
abbrev PJ:D->Bool
 |.int _=>J
 |_=>VF
section
variable{α:Type}{lt:α->α->Bool}
def qC(h:k<=n):aQ n d (Z (k:Int))=k:=by
 have a:¬((k:Int)<0):=by lia
 have h2:¬((n:Int)<(k:Int)):=by lia
 simp only[aQ,if_neg a,if_neg h2];lia
def A5(h:n<k):aQ n d (Z (k:Int))=n:=by
 have a:¬((k:Int)<0):=by lia
 have h2:((n:Int)<(k:Int)):=by lia
 simp only[aQ,if_neg a,if_pos h2]
def xq{β:Type}(xs:List β)(k:Nat):cut xs (Z (k:Int)) Y=xs.drop k:=by
 unfold cut
 by_cases h:k<=xs.length
 .rw[qC h];show List.take (xs.length-k) (xs.drop k)=_;rw[Rh (by simp)]
 .rw[A5 ⋯,Yi (P0 _),Yi ⋯];simp
def EY{β:Type}(xs:List β)(k:Nat):cut xs Y (Z (k:Int))=xs.take k:=by
 unfold cut
 by_cases h:k<=xs.length
 .rw[qC h];simp[aQ]
 .rw[A5 ⋯];simp only[aQ,List.drop_zero,Zo];rw[Rh (P0 _),Rh ⋯]
end
def IsCell(m:Int)(c:List Int):Prop:=c≠[]/\(∀x∈c,0<=x/\x<m)/\cq ltI c
noncomputable instance (m:Int) (c:List Int):Decidable (IsCell m c):=by unfold IsCell cq;infer_instance
def GP{α:Type}(x:α)(xs):fj (x::xs) (-1)=(x::xs).getLast?:=by
 have e:eu (x::xs).length (-1)=Z xs.length:=by
  unfold eu;have a:¬((0:Int)<=-1):=∅;have h2:(0:Int)<=-1+((x::xs).length:Nat):=(by simp only[VX];lia);rw[if_neg a,if_pos h2];simp only[VX];congr 1;lia
 unfold fj;rw[e];simp[List.getLast?_eq_getElem?]
def pq{α:Type}(xs:List α)(k:Nat):fj xs (k:Int)=xs[k]?:=by
 unfold fj eu;rw[if_pos ⋯]
 by_cases h:k<xs.length
 .rw[if_pos ⋯];simp
 .rw[if_neg ⋯];simp;lia
def GO{α:Type}(x:α)(xs):fj (x::xs) 0=Z x:=by have:=pq (x::xs) 0;simpa using this
def getLast?_map{α β:Type}(f:α->β)(xs:List α):(xs.map f).getLast?=xs.getLast?.map f:=by simp
def lies(c o:List Int):Bool:=c.all λx=>decide (x∈o)
def jm:lies c o=J<->∀x∈c,x∈o:=by simp[lies]
def s9{c:List Int}(h:∀x∈c,g (.int x)=.ok (Z (p x))):bx g (c.map .int)=.ok (c.map p):=by
 rw[xk (g:=λd=>match d with|.int x=>Z (p x)|_=>Y)]
 .congr 1
  induction c with
  |nil=>rfl
  |cons x c f=>simp[f λy e=>h y (VJ _ e)]
 .intro d a;obtain⟨x,b,rfl⟩:=VM.mp a;exact h x b
def GA{α β:Type}(f:α->β)(xs:List α):xs.filterMap (λx=>Z (f x))=xs.map f:=by
 induction xs with
 |nil=>rfl
 |cons x xs a=>simp
def Gz{α β:Type}(q:α->Bool)(f:α->β)(xs:List α):xs.filterMap (λx=>if q x then Z (f x) else Y)=(xs.filter q).map f:=by
 induction xs with
 |nil=>rfl
 |cons x xs a=>cases h:q x<;>simp[h,a]
abbrev aX(m:Int):List Int:=(VN m.toNat).map λ(k:Nat)=>(k:Int)
def jy(m):dk 0 m=(aX m).map .int:=by
 unfold dk aX;rw[VR];have:(m-0).toNat=m.toNat:=by lia
 rw[this];apply Qq;intro k _;simp
def lO:x∈aX m<->0<=x/\x<m:=by
 unfold aX;rw[VM];constructor
 .rintro⟨k,a,rfl⟩;have:=V0.mp a;lia
 .rintro⟨b,h2⟩;exact⟨x.toNat,V0.mpr ⋯,⋯⟩
def eP(m:Int)(ts:List (List Int)):Bool:=(aX m).all λk=>ts.any (lies [k])
def ta:eP m ts=J<->∀x,0<=x->x<m->∃t∈ts,x∈t:=by
 unfold eP;simp only[Qr,TZ,jm,lO,Qo,forall_eq];exact⟨λh x a b=>h x ⟨a,b⟩,λh x ab=>h x ab.1 ab.2⟩
def AW(h:-1000<=m)(h':m<=1000):kG m=true:=by unfold kG;simp;lia
def fV(a:-1000<=i)(h2:i<=1000)(h3:-1000<=j)(h4:j<=1000):iD i j=.ok (dk i j):=by
 have h5:(j-i).toNat<=1000000:=by lia
 unfold iD;rw[AW a h2,AW h3 h4,decide_eq_true h5];rfl
def yf{α:Type}{p:α->Bool}{c:α}(pre)(h:p c=J):(pre++[c]).filter p=pre.filter p++[c]:=by rw[Zg];simp[h]
def ye{α:Type}{p:α->Bool}{c:α}(pre)(h:p c=VF):(pre++[c]).filter p=pre.filter p:=by rw[Zg];simp[h]
def bD(cs:List (List Int)):List (List Int):=(bz lexLt (b4 cs)).filter λc=>!((bz lexLt (b4 cs)).filter λo=>decide (c.length<o.length)).any (lies c)
def eB:SZ=16777216:=rfl
def aj(m:Int)(ts:List (List Int)):D:=.tup [.int m,.tup (ts.map af)]
def yc(d:D):Prop:=∀m ts,d=aj m ts->(∀c∈ts,IsCell m c)->(b4 ts).length<=63
end cT
end
section
namespace ba
open ζ aH cT
variable{pg:cw}{Φ:da}
mutual
theorem MQ:∀(n:Nat)(d:D),bL n d=J->bL (n+1) d=J
 |n,.b0,_=>rfl
 |n,.ag _,_=>rfl
 |n,.int _,_=>rfl
 |0,.str _,h=>h
 |n+1,.str _,h=>h
 |0,.tup _,h=>by cases h
 |n+1,.tup xs,h=>vi n xs h
 |0,.lst _,h=>by cases h
 |n+1,.lst xs,h=>vi n xs h
 |0,.aT _,h=>by cases h
 |0,.aK _,h=>by cases h
 |n+1,.aT _,h=>by cases h
 |n+1,.aK _,h=>by cases h
 |0,.ee _,h=>by cases h
 |n+1,.ee _,h=>by cases h
 |0,.kt _,h=>by cases h
 |n+1,.kt _,h=>by cases h
theorem vi:∀(n:Nat)(xs:List D),xs.all (bL n)=J->xs.all (bL (n+1))=J
 |_,[],_=>rfl
 |n,x::xs,h=>by
  simp only[WE,PW]at h ⊢;exact⟨MQ n x h.1,vi n xs h.2⟩
end
def He{c:List Int}{k:Nat}(h:c[k]?=Z x):c4 (.tup (c.map .int)) (.int (k:Int))=.ok (.int x):=by
 rw[yJ,pq,Qh,h];rfl
end ba
end
section
namespace ba
open ζ aH cT
def xj{α:Type}{p:α->Option D}{f:α->D}{a:List α}(h:∀k∈a,g (f k)=.ok (p k)):bx g (a.map f)=.ok (a.filterMap p):=by
 induction a with
 |nil=>rfl
 |cons c cs d =>
  simp only[VP,bx,h c VE,R.eX,d λy b=>h y (VJ _ b),Wz];cases p c<;>rfl
def ke{α:Type}{q:α->Bool}{h f:α->D}{a:List α}(e:∀k∈a,g (f k)=.ok (if q k then Z (h k) else Y)):bx g (a.map f)=.ok ((a.filter q).map h):=by
 rw[xj e,Gz]
def fE{α:Type}{h f:α->D}{a:List α}(e:∀k∈a,g (f k)=.ok (Z (h k))):bx g (a.map f)=.ok (a.map h):=by
 rw[xj (p:=λk=>Z (h k)) e,GA]
def kI(c):cL (af c)=.ok (c.map .int):=rfl
def yh{α:Type}(q)(xs:List α):(xs.filter q).isEmpty=xs.all λx=>!q x:=by
 induction xs with
 |nil=>rfl
 |cons x xs a=>cases h:q x<;>simp[h,a]
def uB{α β:Type}(f:α->β)(xs:List α):(xs.map f).isEmpty=xs.isEmpty:=by cases xs<;>rfl
def Ic(c o):bb pg Φ ⟨2,0,ak.r2⟩ [af c,af o]=.ok (.ag (lies c o)):=by
 have e1:bx (elem pg Φ [Z (af c),Z (af o)] 2e0 0 (.some (.cmp .iv 2e0 1e0))) (c.map .int)=.ok ((c.filter λx=>!decide (x∈o)).map .int):=ke λx _=>by
  simp!;unfold af;simp![zA];cases decide (x∈o)<;>simp!
 simp![ak.r2,kI,e1,xO (ys:=(c.filter λx=>!decide (x∈o)).map .int) (by simp[WY,n8]),uB,yh,lies,Bool.not_not]
def gh(cs:List (List Int)):List (List Int):=(bz lexLt (b4 cs)).filter λc=>cs.all λo=>!(!decide (c=o)&&lies c o)
def Ii(h:∀c o:List Int,Φ f [af c,af o]=.ok (.ag (lies c o)))(b:cL d=.ok (cs.map af))(m:∀c∈cs,c≠[])(a:(b4 cs).length<=255):
  bb pg Φ ⟨1,2,ak.sa f⟩ [d]=.ok (.tup ((gh cs).map af)):=by
 simp![ak.sa,b,vq m a];have t:(bz lexLt (b4 cs)).length<=255:=by rw[nA];exact a
 unfold gh;generalize bz lexLt (b4 cs)=ds at *;obtain⟨u,e,x,k⟩:=fh (f:=af) (g:=turn pg Φ 0 [2] {.iff (.cmp .eq (.comp 3e0 0 (.seq 0e0) (.some (.and (.cmp .ne 2e0 3e0) (.call f {2e0,3e0})))) (.lst .nil)) {.app 1 2e0} .nil})
  (λp i=>∃(x:Option D),i=[Z d,Z (.lst ((p.filter λc=>cs.all λo=>!(!decide (c=o)&&lies c o)).map af)),x])
  ds [Z d,Z (.lst []),Y] ⟨Y,rfl⟩ (λpre c post i n r=>by
   obtain⟨x,j⟩:=r;subst j;have e1:∀z,bx (elem pg Φ [Z d,z,Z (af c)] 3e0 0 (.some (.and (.cmp .ne 2e0 3e0) (.call f {2e0,3e0})))) (cs.map af)=.ok ((cs.filter λo=>!decide (c=o)&&lies c o).map af):=λz=>ke λo _=>by
    simp![xK,h];cases decide (c=o)<;>simp![h,Tq,XP];cases lies c o<;>simp!
   have l:((pre.filter λc=>cs.all λo=>!(!decide (c=o)&&lies c o)).map af).length<SZ:=by
    have s:=SV (λc=>cs.all λo=>!(!decide (c=o)&&lies c o)) pre;have h2:pre.length<=ds.length:=(by rw[n];simp);rw[VH,eB];lia
   simp![b,e1,xO (Bx 58 _),uB,yh];cases q:(cs.all λo=>!(!decide (c=o)&&lies c o))
   .refine⟨_,by simp!;rfl,Z (af c),?_⟩;rw[ye pre (by rw[q])]
   .refine⟨_,by simp![oJ,if_pos l];rfl,Z (af c),?_⟩;rw[yf pre (by rw[q]),VT];rfl)
 rw[e,k];simp!
def DD(a:cq ltI c)(d:cq ltI o)(h:∀x∈c,x∈o)(e:c≠o):c.length<o.length:=by
 have f:c.length<=o.length:=iu (a.nodup ip) h;rcases Ug c.length o.length with q|q
 .exact q
 .exfalso;apply e;refine j5 ip a d λz=>⟨h z,λhz=>?_⟩
  by_cases b:z∈c
  .exact b
  .exfalso;have:(z::c).length<=o.length:=iu (QR.mpr ⟨b,a.nodup ip⟩) λw hw=>by
    rcases P1.mp hw with rfl|hw
    .exact hz
    .exact h w hw
   simp at this;lia
def p9(h:∀c∈cs,cq ltI c):gh cs=bD cs:=by
 unfold gh bD;apply List.filter_congr;intro c b;have d:∀z,z∈bz lexLt (b4 cs)<->z∈cs:=λz=>by rw[jr,iq]
 have b:=(d c).mp b;rw[Z9];simp only[Qr,QU,Bool.and_eq_false_iff,Vz,Qn,UD,QH,d];constructor
 .rintro q o ⟨a,f⟩;rcases q o a with rfl|q
  .omega
  .rw[q];exact QV
 .intro q o a
  by_cases e:c=o
  .exact .inl e
  .refine .inr ?_;cases z:lies c o with
   |false=>rfl
   |true=>exact absurd z (q o ⟨a,DD (h c b) (h o a) (jm.mp z) e⟩)
def lb(h:IsCell m c):c.length<=m.toNat:=by
 have:c.length<=(aX m).length:=iu (h.2.2.nodup ip) λz hz=>lO.mpr (h.2.1 z hz)
 simpa[aX] using this
def pQ(h:m<=8):(aX m).length<=8:=by unfold aX;simp;lia
abbrev cj:Nat->List Int->List (List Int)
 |0,_=>[[]]
 |_+1,[]=>[]
 |s+1,x::r=>(cj s r).map (x::·)++cj (s+1) r
theorem ux:∀(s:Nat)(c z:List Int),z∈cj s c<->z.length=s/\z.Sublist c
 |0,c,z=>by
  simp only[cj,Qo,X2];exact⟨λh=>⟨h,by subst h;exact S9 _⟩,λh=>h.1⟩
 |s+1,[],z=>by
  simp only[cj,UZ,T1,false_iff];rintro⟨a,h2⟩;subst h2;simp at a
 |s+1,x::r,z=>by
  simp only[cj,P8,VM,ux s r,ux (s+1) r,List.sublist_cons_iff];constructor
  .rintro(⟨y,⟨a,h2⟩,rfl⟩|⟨a,h2⟩)
   .exact⟨by simp[a],.inr ⟨y,rfl,h2⟩⟩
   .exact⟨a,.inl h2⟩
  .rintro⟨a,h2|⟨y,rfl,h2⟩⟩
   .exact .inr ⟨a,h2⟩
   .exact .inl ⟨y,⟨⇑a,h2⟩,rfl⟩
theorem p6:∀(s:Nat)(c:List Int),(cj s c).length<=2 ^ c.length
 |0,c=>by simp only[cj,V8];exact Nat.one_le_two_pow
 |s+1,[]=>by simp[cj]
 |s+1,x::r=>by
  have a:=p6 s r;have h2:=p6 (s+1) r;simp only[cj,PY,VH,VX,W3];lia
abbrev b6:Nat->Nat->Nat
 |0,_=>1
 |_+1,0=>0
 |s+1,n+1=>b6 s n+b6 (s+1) n
theorem u2:∀(s:Nat)(c:List Int),(cj s c).length=b6 s c.length
 |0,c=>by simp[cj,b6]
 |s+1,[]=>by simp[cj,b6]
 |s+1,x::r=>by simp only[cj,PY,VH,VX,b6,u2 s r,u2 (s+1) r]
theorem u1:∀{s n:Nat},n<s->b6 s n=0
 |0,_,h=>by lia
 |s+1,0,_=>rfl
 |s+1,n+1,h=>by simp only[b6,u1 (s:=s) (n:=n) ⋯,u1 (s:=s+1) (n:=n) ⋯]
def KJ{s n:Nat}(h:n<=8):b6 s n<=70:=by
 rcases Ug n s with q|q
 .rw[u1 q];lia
 .have:∀n:Fin 9,∀s:Fin 9,b6 s.val n.val<=70:=∅;exact this ⟨n,⋯⟩ ⟨s,⋯⟩
theorem Aw:∀(s:Nat)(c:List Int),cj (s+1) c=(VN c.length).flatMap λk=>(cj s (c.drop (k+1))).map (c.getD k 0::·)
 |s,[]=>rfl
 |s,x::r=>by
  rw[VX,TC,RV,List.flatMap_map];show _=(cj s r).map (x::·)++(VN r.length).flatMap λk=>(cj s (r.drop (k+1))).map (r.getD k 0::·)
  rw[<- Aw s r];rfl
def Hf{c:List Int}(h:k<c.length):c4 (.tup (c.map .int)) (.int (k:Int))=.ok (.int (c.getD k 0)):=He (by rw[P4 h];simp[Wt,P4 h])
def lY(n:Nat):dk 0 (n:Int)=(VN n).map λ(k:Nat)=>D.int (k:Int):=by
 unfold dk;have:((n:Int)-0).toNat=n:=by lia
 rw[this];apply Qq;intro k _;congr 1;lia
theorem ng{α β:Type}{f:α->List β}:∀{xs:List α},(∀x∈xs,(f x).length<=k)->(xs.flatMap f).length<=xs.length*k
 |[],_=>by simp
 |x::xs,h=>by
  have:=ng (f:=f) (xs:=xs) λc a=>h c (VJ _ a)
  have b:=h x VE;simp only[RV,PY,VX,U5];lia
def J8(c):bb pg Φ ⟨2,2,ak.k9 f⟩ [af c,.int 0]=.ok (.lst ((cj 0 c).map af)):=by
 have e:dG (.int 0) (.int 0)=.ok true:=rfl;simp![ak.k9,e,cj];rfl
def J9{s:Nat}(K:c.length<=8)(u:∀h:List Int,h.length<=8->Φ f [af h,.int (s:Int)]=.ok (.lst ((cj s h).map af))):bb pg Φ ⟨2,2,ak.k9 f⟩ [af c,.int ((s:Int)+1)]=.ok (.lst ((cj (s+1) c).map af)):=by
 have h0:((s:Int)+1==0)=false:=by rw[beq_eq_false_iff_ne];lia
 have l:hB (af c)=.ok (.int (c.length:Int)):=by unfold af;rw[ug,VH]
 simp![ak.k9,h0,l,fV (i:=0) (j:=(c.length:Int)) ⋯ ⋯ ⋯ ⋯,lY];have q:∀d:List Nat,d.length<=8->(d.flatMap λk=>(cj s (c.drop (k+1))).map (c.getD k 0::·)).length<=2048:=λd n=>by
  have:=ng (f:=λk=>(cj s (c.drop (k+1))).map (c.getD k 0::·)) (k:=256) (xs:=d) λk _=>by
   have h2:=p6 s (c.drop (k+1));have h3:(c.drop (k+1)).length<=8:=(by rw[Q6];lia);have h4:2 ^ (c.drop (k+1)).length<=2 ^ 8:=Q0 ∅ h3;rw[VH];lia
  lia
 obtain⟨N,e,x,t⟩:=fh (f:=λk:Nat=>D.int (k:Int)) (g:=turn pg Φ 0 [3] {.asg 2 (.bin .add 2e0 (.comp (.bin .add (.tup {.idx 0e0 3e0}) 4e0) 0 (.seq (.call f {.slice 0e0 (.some (.bin .add 3e0 1e1)) .none,.bin .sub 1e0 1e1})) .none))})
  (λG p=>∃(x:Option D),p=[Z (af c),Z (.int ((s:Int)+1)),Z (.lst ((G.flatMap λk=>(cj s (c.drop (k+1))).map (c.getD k 0::·)).map af)),x])
  (VN c.length) [Z (af c),Z (.int ((s:Int)+1)),Z (.lst []),Y] ⟨Y,rfl⟩ (λpre k post p o H=>by
   obtain⟨x,r⟩:=H;subst r;have n:k<c.length:=by
    have:k∈VN c.length:=(by rw[o];simp);exact V0.mp this
   have L:pre.length+1<=c.length:=by
    have:(VN c.length).length=(pre++k::post).length:=(by rw[o]);simp at this;lia
   have y:hL (af c) (Z ((k:Int)+1)) Y=.ok (af (c.drop (k+1))):=by
    unfold af;rw[qK];have:((k:Int)+1)=((k+1:Nat):Int):=⋯;rw[this,xq,Y5]
   have C:(s:Int)+1-1=(s:Int):=⋯;have m:(c.drop (k+1)).length<=8:=(by rw[Q6];lia);have e1:∀a b,bx (elem pg Φ [Z (af c),a,b,Z (D.int (k:Int))] (.bin .add (.tup {.idx 0e0 3e0}) 4e0) 0 .none) ((cj s (c.drop (k+1))).map af)=.ok ((cj s (c.drop (k+1))).map λz=>af (c.getD k 0::z)):=λa b=>fE λz hz=>by
    have hz:=(ux _ _ _).mp hz;have M:=hz.2.length_le;have F:=Hf n;have v:[D.int (c.getD k 0)].length+(z.map D.int).length<=SZ:=(by rw[VH,eB];simp only[V8];lia);simp!;unfold af;simp![F,k6];rw[if_pos ⇑v];rfl
   have w:((pre.flatMap λk=>(cj s (c.drop (k+1))).map (c.getD k 0::·)).map af).length+((cj s (c.drop (k+1))).map λz=>af (c.getD k 0::z)).length<=SZ:=by
    have l:=q pre ⋯;have h2:=p6 s (c.drop (k+1));have h4:2 ^ (c.drop (k+1)).length<=2 ^ 8:=Q0 ∅ m;rw[VH,VH,eB];lia
   refine⟨_,by simp![y,C,u _ m,e1,j2,if_pos w];rfl,Z (.int (k:Int)),?_⟩;simp[Tc])
 rw[e,t,<- Aw];simp!
theorem Ac(a:fds[f]?=Z ⟨2,2,ak.k9 f⟩):∀(s n:Nat)(c:List Int),s<n->c.length<=8->run pg fds n f [af c,.int (s:Int)]=.ok (.lst ((cj s c).map af))
 |0,0,c,h,_=>by lia
 |s+1,0,c,h,_=>by lia
 |0,n+1,c,_,_=>by rw[n3,a];exact J8 c
 |s+1,n+1,c,h,d=>by
  rw[n3,a];have:((s+1:Nat):Int)=(s:Int)+1:=⋯;rw[this];exact J9 d λb e=>Ac a s n b ⋯ e
theorem mI:∀{o c:List Int},cq ltI c->cq ltI o->(∀x∈c,x∈o)->c.Sublist o
 |[],[],_,_,_=>S9 _
 |[],x::c,_,_,h=>by have:=h x VE;simp at this
 |y::o,[],_,_,_=>S9 _
 |y::o,x::c,b,g,h=>by
  obtain⟨a,f⟩:=Qv.mp b;obtain⟨k,d⟩:=Qv.mp g
  by_cases e:x=y
  .subst e;refine List.Sublist.cons_cons x (mI f d λz hz=>?_);rcases P1.mp (h z (VJ _ hz)) with q|q
   .have:=a z hz;subst q;simp[ltI]at this
   .exact q
  .have i:x∈o:=by
    rcases P1.mp (h x VE) with q|q
    .exact absurd q e
    .exact q
   have j:=k x i;refine List.Sublist.cons y (mI b d λz hz=>?_);rcases P1.mp (h z hz) with q|q
   .exfalso;subst q;rcases P1.mp hz with w|w
    .exact e w.symm
    .have:=a z w;simp[ltI]at this j;lia
   .exact q
def wJ(m):cq ltI (aX m):=by
 unfold aX cq;rw[QT];exact Sg (λ{a b}(q:a<b)=>by simp[ltI];lia) SD
def Em(h:IsCell m c):c.Sublist (aX m):=mI h.2.2 (wJ m) λx a=>lO.mpr (h.2.1 x a)
abbrev Co:D->Int
 |.int i=>i
 |_=>0
def hF(i j)(h:(-eJ<i/\i<eJ)\/(-eJ<j/\j<eJ)):cA .mul (.int i) (.int j)=.ok (.int (i*j)):=by rw[mul_int,if_pos h]
def gj(i j)(h:0<j):cA .mod (.int i) (.int j)=.ok (.int (i%j)):=by rw[mod_int,if_pos h]
def ja(i j)(h:0<j)(h':j<1073741824):cA .fdiv (.int i) (.int j)=.ok (.int (i / j)):=by rw[yb,if_pos ⟨h,h'⟩]
def gF:eJ=18446744073709551616:=rfl
abbrev jX:Int:=2147483629
def wd:jX=2147483629:=rfl
def gu(a){b:Int}(h:0<b):0<=a%b/\a%b<b:=⟨Z4 a ⋯,Vy a h⟩
def Fn(i k):∃r:Int,0<=r/\r<jX/\bb pg Φ ⟨2,1,ak.r0⟩ [.int i,.int k]=.ok (.int r):=by
 have b1:=gu ((i+104729*k+17)*69621) (b:=2147483647) ∅;refine⟨((i+104729*k+17)*69621%2147483647*((i+104729*k+17)*69621%2147483647)+3*((i+104729*k+17)*69621%2147483647)+k)%2147483629,?_,?_,by
  simp![ak.r0,hF 104729 k (.inl (by rw[gF];lia)),hF _ 69621 (.inr (by rw[gF];lia)),gj _ 2147483647 ∅,gj _ 2147483629 ∅,
   hF ((i+104729*k+17)*69621%2147483647) ((i+104729*k+17)*69621%2147483647) (.inl (by rw[gF];lia)),hF 3 ((i+104729*k+17)*69621%2147483647) (.inl (by rw[gF];lia))]⟩
 .exact(gu _ ∅).1
 .rw[wd];exact(gu _ ∅).2
def El(a:List Int)(k:Nat):bb pg Φ ⟨2,0,ak.rZ⟩ [.lst (a.map .int),.int (k:Int)]=.ok (.int (a.getD k 0)):=by
 simp![ak.rZ,VH]
 by_cases h:k<a.length
 .have h':(k:Int)<(a.length:Int):=⋯;have e:c4 (.lst (a.map D.int)) (.int (k:Int))=.ok (.int (a.getD k 0)):=by
   rw[nr,pq,Qh,P4 h];simp[Wt,P4 h]
  simp![decide_eq_true h',e]
 .have h':¬(k:Int)<(a.length:Int):=⋯;have e:a.getD k 0=0:=(by simp[Wt,Qu (UU h)]);simp![decide_eq_false h',e]
def Ja{a:List Int}(c:∀k:Nat,Φ f [.lst (a.map .int),.int (k:Int)]=.ok (.int (a.getD k 0)))(k:Nat):∃r:Int,0<=r/\r<jX/\bb pg Φ ⟨2,1,ak.r3 f⟩ [.lst (a.map .int),.int (k:Int)]=.ok (.int r):=by
 have b1:=gu ((a.getD k 0+7919*(k:Int)+1)*48271) (b:=2147483647) ∅;refine⟨((a.getD k 0+7919*(k:Int)+1)*48271%2147483647*((a.getD k 0+7919*(k:Int)+1)*48271%2147483647)+7*((a.getD k 0+7919*(k:Int)+1)*48271%2147483647)+(k:Int))%2147483629,?_,?_,by
  simp![ak.r3,c,hF 7919 (k:Int) (.inl (by rw[gF];lia)),hF _ 48271 (.inr (by rw[gF];lia)),gj _ 2147483647 ∅,gj _ 2147483629 ∅,
   hF ((a.getD k 0+7919*(k:Int)+1)*48271%2147483647) ((a.getD k 0+7919*(k:Int)+1)*48271%2147483647) (.inl (by rw[gF];lia)),hF 7 ((a.getD k 0+7919*(k:Int)+1)*48271%2147483647) (.inl (by rw[gF];lia))]⟩
 .exact(gu _ ∅).1
 .rw[wd];exact(gu _ ∅).2
def M6(l:∀i k:Int,∃r:Int,0<=r/\r<jX/\Φ f [.int i,.int k]=.ok (.int r))(i m)(o:1<=m)(p:m<=8):
  ∃cs:List (List Int),bb pg Φ ⟨2,4,ak.r9 f⟩ [.int i,.int m]=.ok (.lst (cs.map af))/\(∀c∈cs,IsCell m c)/\eP m cs=J/\cs.length<=16:=by
 have t:=fV (i:=0) (j:=m) ⋯ ⋯ ⋯ ⋯;have a1:=gu i (b:=9) ∅;have U:=fV (i:=0) (j:=i%9) ⋯ ⋯ ⋯ ⋯;have a2:dk 0 (i%9)=(aX (i%9)).map .int:=jy _;have e0:bx (elem pg Φ [Z (.int i),Z (.int m),Y,Y,Y,Y] (.tup {6e0}) 0 .none) ((aX m).map .int)=.ok ((aX m).map λk=>af [k]):=fE λk _=>by
  simp!;rfl
 simp![ak.r9,t,jy,e0,gj i 9 ∅,U];have h0:∀k∈aX m,IsCell m [k]:=λk n=>⟨by simp,by simpa using lO.mp n,RF _ _⟩
 obtain⟨aw,e,cs,x,y,z,G,d,K⟩:=fh (f:=D.int) (g:=turn pg Φ 0 [3] {.asg 4 (.call f {0e0,3e0}),.asg 5 (.tupI (.seq (.comp 6e0 0 (.cF 1e0) (.some (.cmp .lt (.bin .mod (.call f {4e0,6e0}) 5e1) (.bin .add 2e1 (.bin .mod 4e0 2e1))))))),.iff (.cmp .ne 5e0 (.tup .nil)) {.app 2 5e0} .nil})
  (λX v=>∃(cs:List (List Int))(x y z:Option D),v=[Z (.int i),Z (.int m),Z (.lst (((aX m).map λk=>[k]).map af++cs.map af)),x,y,z]/\(∀c∈cs,IsCell m c)/\cs.length<=X.length)
  (aX (i%9)) [Z (.int i),Z (.int m),Z (.lst ((aX m).map λk=>af [k])),Y,Y,Y] ⟨[],Y,Y,Y,by simp[Function.comp_def],by simp,by simp⟩ (λpre k post v P a0=>by
   obtain⟨cs,x,y,z,C,d,K⟩:=a0;subst C;obtain⟨r,a4,a5,T⟩:=l i k;have ex:∃q:Int->Bool,∀x y z,bx (elem pg Φ [Z (.int i),Z (.int m),x,y,Z (.int r),z] 6e0 0 (.some (.cmp .lt (.bin .mod (.call f {4e0,6e0}) 5e1) (.bin .add 2e1 (.bin .mod 4e0 2e1))))) ((aX m).map .int)=.ok (((aX m).filter q).map .int):=by
    obtain⟨g,H⟩:∃g:Int->Int,∀k,Φ f [.int r,.int k]=.ok (.int (g k)):=⟨λk=>Classical.choose (l r k),λk=>(Classical.choose_spec (l r k)).2.2⟩;refine⟨λk=>decide (g k%5<2+r%2),λx y z=>ke λk _=>?_⟩;have V:=H k;simp![V,gj _ 5 ∅,gj _ 2 ∅]
    split<;>rfl
   obtain⟨q,Q⟩:=ex;have u:((aX m).filter q).Sublist (aX m):=RZ;simp![T,t,jy,Q];have M:dG (.tup (((aX m).filter q).map .int)) (.tup [])=.ok ((aX m).filter q).isEmpty:=by
    rw[FE (by simp[WY,n8]),uB]
   simp![M];have a3:pre.length+1<=9:=by
    have o:(aX (i%9)).length=(pre++k::post).length:=(by rw[<- P]);have h2:(aX (i%9)).length<=9:=(by unfold aX;simp;lia);simp at o;lia
   cases s:((aX m).filter q).isEmpty
   .have N:(aX m).filter q≠[]:=(by intro z;rw[z]at s;cases s);have F:IsCell m ((aX m).filter q):=⟨N,λx W=>lO.mp (u.subset W),Q5 u (wJ m)⟩;have L:(((aX m).map λk=>[k]).map af++cs.map af).length<SZ:=by
     have:=pQ p;simp only[PY,VH,eB];lia
    refine⟨_,by simp![oJ,if_pos L];rfl,cs++[(aX m).filter q],_,_,_,by simp only[VT,Qi];rfl,λc h=>?_,by simp;lia⟩;rcases P8.mp h with w|w
    .exact d c w
    .simp at w;subst w;exact F
   .exact⟨_,by simp!;rfl,cs,_,_,_,rfl,d,by simp;lia⟩)
 rw[e,G];simp!;refine⟨((aX m).map λk=>[k])++cs,by rw[VT],λc h=>?_,?_,?_⟩
 .rcases P8.mp h with w|w
  .obtain⟨k,n,rfl⟩:=VM.mp w;exact h0 k n
  .exact d c w
 .rw[ta];intro x a b;exact⟨[x],by simp[lO];exact .inl ⟨a,b⟩,by simp⟩
 .have:=pQ p;have h2:(aX (i%9)).length<=8:=(by unfold aX;simp;lia);simp only[PY,VH];lia
def eW:c∈bD cs<->c∈cs/\∀o∈cs,c.length<o.length->¬lies c o=true:=by
 unfold bD;simp only[QH,jr,iq,QU,UD,Qn,and_imp]
def iY(cs):cq lexLt (bD cs):=Q5 RZ (k7 il (lS _))
def OY(cs):bD (bD cs)=bD cs:=by
 refine j5 il (iY _) (iY _) λz=>?_
 rw[eW];refine⟨λh=>h.1,λh=>⟨h,λo b a=>(eW.mp h).2 o (eW.mp b).1 a⟩⟩
theorem q1(h:∀c∈cs,IsCell m c):∀(n:Nat)(c:List Int),c∈cs->m.toNat<=c.length+n->∃t∈bD cs,∀x∈c,x∈t
 |0,c,d,g=>⟨c,eW.mpr ⟨d,λo a e=>by have:=lb (h o a);lia⟩,λ_ b=>b⟩
 |n+1,c,d,g=>by
  by_cases q:∀o∈cs,c.length<o.length->¬lies c o=J
  .exact⟨c,eW.mpr ⟨d,q⟩,λ_ b=>b⟩
  .obtain⟨o,a,e,f⟩:∃o,o∈cs/\c.length<o.length/\lies c o=true:=by
    apply R8;intro z;exact q λo a e f=>z ⟨o,a,e,f⟩
   obtain⟨t,j,i⟩:=q1 h n o a ⋯;exact⟨t,j,λx b=>i x (jm.mp f x b)⟩
structure Net(m:Int)(ts:List (List Int)):Prop where
 lo:1<=m
 hi:m<=8
 cell:∀c∈ts,IsCell m c
 top:ts=bD ts
 eP:eP m ts=J
def JA(f:1<=m)(g:m<=8)(d:∀c∈cs,IsCell m c)(e:eP m cs=J):Net m (bD cs) where
 lo:=f
 hi:=g
 cell:=λc h=>d c (eW.mp h).1
 top:=(OY cs).symm
 eP:=by
  rw[ta]at e ⊢;intro x a b;obtain⟨c,h,k⟩:=e x a b;obtain⟨t,j,i⟩:=q1 d m.toNat c h ⋯;exact⟨t,j,i x k⟩
def OX(cs):(bD cs).length<=cs.length:=by
 unfold bD;have a:=SV (λc=>!((bz lexLt (b4 cs)).filter λo=>decide (c.length<o.length)).any (lies c)) (bz lexLt (b4 cs));have h2:=tf cs;rw[nA]at a;lia
def zP{cs:List (List Int)}(k:∀cs:List (List Int),(∀c∈cs,c≠[])->(b4 cs).length<=255->Φ ft [.lst (cs.map af)]=.ok (.tup ((gh cs).map af)))(f:1<=m)(i:m<=8)(p:cs.length<=70)(g:∀c∈cs,c.length<=255)(j:∀c∈cs,IsCell m (bz ltI c))(n:eP m (cs.map (bz ltI))=J):
  ∃ts,ki (dj pg Φ [Z a,Z b,Z (.int m),Z c,Z (.lst (cs.map af))] {.ret (.tup {2e0,.call ft {.comp (.tupI (.seq (.prim .sorted 5e0))) 0 (.seq 4e0) .none}})})=.ok (aj m ts)/\Net m ts/\ts.length<=70:=by
 have e:∀c∈cs.map (bz ltI),IsCell m c:=λc d=>by obtain⟨o,l,rfl⟩:=VM.mp d;exact j o l
 refine⟨bD (cs.map (bz ltI)),?_,JA f i e n,by have:=OX (cs.map (bz ltI));rw[VH]at this;lia⟩;have e1:bx (elem pg Φ [Z a,Z b,Z (.int m),Z c,Z (.lst (cs.map af))] (.tupI (.seq (.prim .sorted 5e0))) 0 .none) (cs.map af)=.ok (cs.map λc=>af (bz ltI c)):=fE λc d=>by
  simp![kI,M7 (g c d)];rfl
 have e2:(cs.map λc=>af (bz ltI c))=(cs.map (bz ltI)).map af:=by rw[VR];rfl
 have h:(b4 (cs.map (bz ltI))).length<=255:=by have:=tf (cs.map (bz ltI));rw[VH]at this;lia
 simp![e1,e2,k _ (λc d=>(e c d).1) h,p9 (λc d=>(e c d).2.2)];rfl
def vp(h:IsCell m c):bz ltI c=c:=Nd ip h.2.2
def BP{cs:List (List Int)}(h:∀c∈cs,IsCell m c):cs.map (bz ltI)=cs:=by
 conv=>rhs;rw[<- Si cs]
 exact Qq λc a=>vp (h c a)
def kb:Bool:=(VN 9).all λm=>(VN 9).all λs=>(decide (s=0)||decide (m<s))||((cj s (aX (m:Int))).all (λc=>decide (IsCell (m:Int) c))&&eP (m:Int) (cj s (aX (m:Int))))
def sG:kb=true:=by decide +kernel
def C8{s:Nat}(d:1<=m)(f:m<=8)(g:1<=s)(i:(s:Int)<=m):(∀c∈cj s (aX m),IsCell m c)/\eP m (cj s (aX m))=true:=by
 have h:=sG;unfold kb at h;rw[Qr]at h;have h:=h m.toNat (V0.mpr ⋯);rw[Qr]at h;have h:=h s (V0.mpr ⋯);have e:((m.toNat:Nat):Int)=m:=by lia
 rw[e]at h;have a:¬s=0:=by lia
 have b:¬m.toNat<s:=by lia
 simp only[decide_eq_false a,decide_eq_false b,Bool.or_self,Bool.false_or,PW,Qr,Qn]at h;exact h
abbrev cG(c:List Int):List (List Int):=if 1<c.length then(VN c.length).map λk=>c.take k++c.drop (k+1) else []
def aY(a b:List (List Int)):List (List Int):=bz lexLt (b4 (a.filter (λx=>!decide (x∈b))++b.filter λx=>!decide (x∈a)))
def rK(h:cq lexLt xs):xs.Nodup:=Sg (λ{a b} h e=>by subst e;rw[il.dY]at h;cases h) h
def rJ(h:cq ltI xs):xs.Nodup:=Sg (λ{a b} h e=>by subst e;rw[ip.dY]at h;cases h) h
def cnt(e:List Int)(cs:List (List Int)):Nat:=cs.countP λc=>decide (e∈cG c)
theorem qq{α:Type}(lt):∀xs:List α,(bz lt xs).Perm xs
 |[]=>.nil
 |x::xs=>(nT lt x (bz lt xs)).trans ((qq lt xs).cons x)
 where nT {α:Type} (lt:α->α->Bool) (x:α):∀ys:List α,(ins lt x ys).Perm (x::ys)
  |[]=>.refl _
  |y::ys=>by
   unfold ins
   split
   .exact((nT lt x ys).cons y).trans (Xl x y ys)
   .exact .refl _
def Al{α:Type}[DecidableEq α]{xs ys:List α}(a:xs.Nodup)(b:ys.Nodup)(h:∀z,z∈xs<->z∈ys):xs.Perm ys:=(Uo a b).mpr h
def n9(h:cq ltI c):e∈cG c<->1<c.length/\e.length+1=c.length/\e.Sublist c:=by
 unfold cG;constructor
 .intro f
  split at f
  .rename_i g;obtain⟨k,a,rfl⟩:=VM.mp f;have a:=V0.mp a;refine⟨g,by rw[PY,QI,Q6];lia,?_⟩
   conv=>rhs;rw[<- QJ k c]
   refine YY (Sl _) ?_;rw[QY a];exact Yj _ _
  .cases f
 .rintro⟨g,j,b⟩;rw[if_pos g];refine VM.mpr ?_;have l:∀{e c:List Int},e.Sublist c->e.length+1=c.length->∃k,k<c.length/\c.take k++c.drop (k+1)=e:=by
   intro e c b
   induction b with
   |slnil=>intro z;cases z
   |@cons e c x b i =>
    intro z;have:e.length=c.length:=⇑z;exact⟨0,by simp,by simpa using (b.eq_of_length this).symm⟩
   |@cons_cons e c x b i =>
    intro z;obtain⟨k,a,d⟩:=i ⇑z;exact⟨k+1,⇑a,by simp[d]⟩
  obtain⟨k,a,d⟩:=l b j;exact⟨k,V0.mpr a,d⟩
def vj(h:cq ltI c)(a:e∈cG c):cq ltI e:=Q5 ((n9 h).mp a).2.2 h
def FF(b:cq ltI c)(g:cq ltI e)(m:e.Sublist c)(i:k<c.length):e.Sublist (c.take k++c.drop (k+1))<->c[k]∉e:=by
 have d:=rJ b;have a:(c.take k++c[k]::c.drop (k+1))=c:=by rw[<- QY i,QJ]
 rw[<- a]at d;have j:∀x,x∈c<->x=c[k]\/x∈c.take k++c.drop (k+1):=λx=>by
  conv=>lhs;rw[<- a]
  simp only[P8,P1];constructor
  .rintro(h|h|h)
   .exact .inr (.inl h)
   .exact .inl h
   .exact .inr (.inr h)
  .rintro(h|h|h)
   .exact .inr (.inl h)
   .exact .inl h
   .exact .inr (.inr h)
 have l:c[k]∉c.take k++c.drop (k+1):=λz=>by
  have:=ZI.nodup_iff.mp d;exact(QR.mp this).1 z
 have n:(c.take k++c.drop (k+1)).Sublist c:=by
  conv=>rhs;rw[<- a]
  exact YY (Sl _) (Yj _ _)
 constructor
 .exact λz w=>l (z.subset w)
 .exact λz=>mI g (Q5 n b) λx f=>((j x).mp (m.subset f)).elim (λe=>absurd (e▸f) z) id
theorem y9{α:Type}(p):∀c:List α,c.length=c.countP p+c.countP (λx=>!p x)
 |[]=>rfl
 |x::c=>by
  rw[VX,y9 p c,TR,TR];cases p x<;>simp<;>lia
def ET{α:Type}[DecidableEq α]{c e:List α}(b:c.Nodup)(d:e.Nodup)(f:∀x∈e,x∈c):c.countP (λx=>!decide (x∈e))+e.length=c.length:=by
 have a:(c.filter λx=>decide (x∈e)).Perm e:=Al (b.filter _) d λz=>by
  rw[QH];simp only[Qn];exact⟨λh=>h.2,λh=>⟨f z h,h⟩⟩
 have h2:c.length=(c.filter λx=>decide (x∈e)).length+(c.filter λx=>!decide (x∈e)).length:=by
  rw[<- SM,<- SM];exact y9 (λx=>decide (x∈e)) c
 rw[a.length_eq]at h2;rw[SM];lia
def EI(a:cq ltI c)(e):cnt e (cG c)=0\/cnt e (cG c)=2:=by
 by_cases g:1<c.length
 .by_cases b:e.Sublist c/\e.length+2=c.length/\2<c.length
  .obtain⟨b,h2,h3⟩:=b;have j:cq ltI e:=Q5 b a;right;have e1:cnt e (cG c)=c.countP λx=>!decide (x∈e):=by
    unfold cnt;rw[show cG c=(VN c.length).map (λk=>c.take k++c.drop (k+1)) from if_pos g,Th];have:c=(VN c.length).map λk=>c.getD k 0:=by
     apply ZQ
     .simp
     .intro i m h2;simp[Wt,m]
    conv=>rhs;rw[this]
    rw[Th];refine Tw λk f=>?_
    have f:=V0.mp f;have n:cq ltI (c.take k++c.drop (k+1)):=vj a (by unfold cG;rw[if_pos g];exact VM.mpr ⟨k,V0.mpr f,rfl⟩);have p:(c.take k++c.drop (k+1)).length+1=c.length:=(by rw[PY,QI,Q6];lia);simp only[XO,Qn,QU,decide_eq_false_iff_not];rw[n9 n,FF a j b f];have:c.getD k 0=c[k]:=(by simp[Wt,f]);rw[this];exact⟨λz=>z.2.2,λz=>⟨⋯,⋯,z⟩⟩
   rw[e1];have:=ET (rJ a) (rJ j) λx o=>b.subset o
   lia
  .left;unfold cnt;rw[YW];intro d h;simp only[Qn];intro z;obtain⟨_,b2,l⟩:=(n9 a).mp h;obtain⟨a1,a2,a3⟩:=(n9 (vj a h)).mp z;exact b ⟨a3.trans l,⋯,⋯⟩
 .left;unfold cnt cG;rw[if_neg g];rfl
def By(d:cq ltI c):(cG c).Nodup:=by
 unfold cG
 split
 .rw[R4,QT];refine QN (λ{i j} hi b (f:i<j) e=>?_) SD;have b:=V0.mp b;have hi:i<c.length:=V0.mp hi;have a:(c.take i++c.drop (i+1))[i]?=c[i+1]?:=by
   rw[QD (by simp;lia),Ux];congr 1;simp;lia
  have h2:(c.take j++c.drop (j+1))[i]?=c[i]?:=by
   rw[Qj (by simp;lia),XK f]
  rw[e,h2]at a;rw[P4 hi,P4 (by lia:i+1<c.length)]at a;have:=R9.mp d i (i+1) hi ⋯ ⋯;injection a with a;rw[a,ip.dY]at this;cases this
 .exact Tt
end ba
end
section
namespace ba
open ζ aH cT dc
def nd(i j):ev pg Φ a (.fO i j)=ib a[i]? a[j]?:=ar rfl
def FV(i j):ev pg Φ a (.lp i j)=m6 a[i]? a[j]?:=ar rfl
def xU:ev pg Φ a .lq=.ok (.aK []):=ar rfl
def F8(i):ex pg Φ a (.kf i)=.ok (.aN (a.set i (Z (.aT [])))):=ar rfl
def F9(i):ex pg Φ a (.kg i)=.ok (.aN (a.set i (Z (.aK [])))):=ar rfl
def tx(i j)(e):ex pg Φ a (.gR i j e)=ev pg Φ a e>>=λd=>lr a[i]? a[j]? d>>=λx=>.ok (.aN (a.set i (Z x))):=ar rfl
def x4(i)(e):ex pg Φ a (.ext i e)=fN a[i]?>>=λ_=>ev pg Φ a e>>=λd=>ph a[i]? d>>=λx=>.ok (.aN (a.set i (Z x))):=ar rfl
def x5(i):ex pg Φ a (.l9 i)=m1 a[i]?>>=λd=>.ok (.bl d):=ar rfl
def KZ(up)(xs):hH up .sum (.lst xs)=hO xs:=ar rfl
def KW(up)(xs):hH up .max (.lst xs)=hE xs:=ar rfl
def lK(c):hB (af c)=.ok (.int (c.length:Int)):=by unfold af;rw[ug,VH]
def MR{c:List Int}(h:c.length<=1000)(k:Nat):cA .add (.tup (cut (c.map D.int) Y (Z (k:Int)))) (.tup (cut (c.map D.int) (Z ((k:Int)+1)) Y))=.ok (af (c.take k++c.drop (k+1))):=by
 have e:((k:Int)+1)=((k+1:Nat):Int):=by lia
 rw[e,EY,xq,k6,if_pos]
 .unfold af;rw[VT,List.map_take,Y5]
 .rw[QI,Q6,VH,eB];lia
def MT(c)(h:c.length<=1000):bb pg Φ ⟨1,0,ak.sl⟩ [af c]=.ok (.lst ((cG c).map af)):=by
 have e1:bx (elem pg Φ [Z (af c)] (.bin .add (.slice 0e0 .none (.some 1e0)) (.slice 0e0 (.some (.bin .add 1e0 1e1)) .none)) 0 (.some (.cmp .gt (.prim .len 0e0) 1e1))) ((VN c.length).map λ(k:Nat)=>D.int (k:Int))=.ok (((VN c.length).filter λ_=>decide (1<c.length)).map λk=>af (c.take k++c.drop (k+1))):=ke λk _=>by
  have b:∀lo hi,hL (af c) lo hi=.ok (.tup (cut (c.map D.int) lo hi)):=λlo hi=>rfl
  simp![lK,b,MR h]
  by_cases q:1<c.length
  .have a:(1:Int)<(c.length:Int):=⋯;simp only[decide_eq_true q,decide_eq_true a,Q3]
  .have a:¬(1:Int)<(c.length:Int):=⋯;simp only[decide_eq_false q,decide_eq_false a,PZ,Qs]
 simp![ak.sl,lK,fV (i:=0) (j:=(c.length:Int)) ⋯ ⋯ ⋯ ⋯,lY,e1];congr 2;unfold cG
 by_cases q:1<c.length
 .rw[if_pos q,decide_eq_true q,List.filter_eq_self.mpr λ_ _=>rfl,VR];rfl
 .rw[if_neg q,decide_eq_false q,List.filter_eq_nil_iff.mpr λ_ _=>∅];rfl
def Fd{xs U:List (List Int)}(h:∀x∈xs,x∈U):(b4 xs).length<=U.length:=iu (lS xs) λz hz=>h z ((iq z xs).mp hz)
abbrev c1(t:List Int):List (List Int):=t.foldl (λf x=>f++[[x]]++f.map (·++[x])) []
def cw_snoc(t)(x):c1 (t++[x])=c1 t++[[x]]++(c1 t).map (·++[x]):=by unfold c1;rw[Wc];rfl
def vk{P:List Int->Prop}(h0:P [])(b:∀as a,P as->P (as++[a]))(as):P as:=by
 have d:∀n (as:List Int),as.length=n->P as:=by
  intro n
  induction n with
  |zero=>intro as h;rw[Sv h];exact h0
  |succ n c =>
   intro as h;rcases SN as with rfl|⟨l,a,rfl⟩
   .cases h
   .rw[SO]at h ⊢;exact b l a (c l ⇑h)
 exact d _ as rfl
def sub_snoc{z t:List Int}:z.Sublist (t++[x])<->z.Sublist t\/∃y,z=y++[x]/\y.Sublist t:=by
 rw[X3];constructor
 .rintro⟨a,b,rfl,c,h2⟩;have d:b=[]\/b=[x]:=by
   cases h2 with
   |cons _ h=>exact .inl (T1.mp h)
   |cons_cons _ h=>exact .inr (by rw[T1.mp h])
  rcases d with rfl|rfl
  .exact .inl ⇑c
  .exact .inr ⟨a,rfl,c⟩
 .rintro(h|⟨y,rfl,h⟩)
  .exact⟨z,[],by simp,h,S9 _⟩
  .exact⟨y,[x],rfl,h,Sl _⟩
def lN(t):∀z,z∈c1 t<->z≠[]/\z.Sublist t:=by
 refine vk (P:=λt=>∀z,z∈c1 t<->z≠[]/\z.Sublist t) (λz=>?_) (λt x c z=>?_) t
 .constructor
  .intro h;cases h
  .rintro⟨a,h2⟩;exact absurd (T1.mp h2) a
 .rw[cw_snoc,P8,P8,Qo,VM,sub_snoc,c];constructor
  .rintro((⟨a,h2⟩|rfl)|⟨y,b,rfl⟩)
   .exact⟨a,.inl h2⟩
   .exact⟨by simp,.inr ⟨[],rfl,S9 _⟩⟩
   .exact⟨by simp,.inr ⟨y,rfl,((c y).mp b).2⟩⟩
  .rintro⟨a,h2|⟨y,rfl,h2⟩⟩
   .exact .inl (.inl ⟨a,h2⟩)
   .by_cases b:y=[]
    .subst b;exact .inl (.inr rfl)
    .exact .inr ⟨y,(c y).mpr ⟨b,h2⟩,rfl⟩
def uf(t):(c1 t).length+1=2 ^ t.length:=by
 refine vk (P:=λt=>(c1 t).length+1=2 ^ t.length) rfl (λt x a=>?_) t;rw[cw_snoc,PY,PY,PY,VH,V8,V8,W3];lia
def bX(ts:List (List Int)):List (List Int):=bz lexLt (b4 (ts.flatMap c1))
def ew:z∈bX ts<->z≠[]/\∃t∈ts,z.Sublist t:=by
 unfold bX;rw[jr,iq,Ta];constructor
 .rintro⟨t,a,h2⟩;exact⟨((lN t z).mp h2).1,t,a,((lN t z).mp h2).2⟩
 .rintro⟨h0,t,a,h2⟩;exact⟨t,a,(lN t z).mpr ⟨h0,h2⟩⟩
def wH(ts):cq lexLt (bX ts):=k7 il (lS _)
def cl(ts:List (List Int))(n:Nat):List (List Int):=(bX ts).filter λc=>decide (c.length=n)
def kv:z∈cl ts n<->z.length=n/\z≠[]/\∃t∈ts,z.Sublist t:=by
 unfold cl;rw[QH,ew];simp only[Qn];exact⟨λh=>⟨h.2,h.1⟩,λh=>⟨h.2,h.1⟩⟩
def DC(ts)(n):cq lexLt (cl ts n):=Q5 RZ (wH ts)
def lj(ts)(n):(cl ts n).Nodup:=rK (DC ts n)
def pe(b:m<=8)(c:∀t∈ts,IsCell m t):(bX ts).length<=255:=by
 have a:(bX ts).length<=(c1 (aX m)).length:=iu (rK (wH ts)) λz hz=>by
  obtain⟨h0,t,a,h2⟩:=ew.mp hz;exact(lN _ z).mpr ⟨h0,h2.trans (Em (c t a))⟩
 have h2:=uf (aX m);have h3:=pQ b;have h4:2 ^ (aX m).length<=2 ^ 8:=Q0 ∅ h3;lia
def oT(a:m<=8)(b:∀t∈ts,IsCell m t)(n):(cl ts n).length<=255:=Qk (SV _ _) (pe a b)
def sT(b:∀t∈ts,IsCell m t)(hz:z∈cl ts n):cq ltI z:=by
 obtain⟨_,_,t,a,h2⟩:=kv.mp hz;exact Q5 h2 (b t a).2.2
def mV(c:∀t∈ts,IsCell m t)(hz:z∈cl ts n)(b:e∈cG z):e∈cl ts (n-1):=by
 obtain⟨d,h2,h3⟩:=(n9 (sT c hz)).mp b;obtain⟨h4,h5,t,a,cP⟩:=kv.mp hz;exact kv.mpr ⟨⋯,by rintro rfl;simp at h2;lia,t,a,h3.trans cP⟩
def Pg(c)(m:c.length<=8):bb pg Φ ⟨1,2,ak.rR⟩ [af c]=.ok (.lst ((c1 c).map af)):=by
 simp![ak.rR,kI];obtain⟨o,e,x,d⟩:=fh (f:=D.int) (g:=turn pg Φ 0 [2] {.asg 1 (.bin .add (.bin .add 1e0 (.lst {.tup {2e0}})) (.comp (.bin .add 3e0 (.tup {2e0})) 0 (.seq 1e0) .none))})
  (λi a=>∃(x:Option D),a=[Z (af c),Z (.lst ((c1 i).map af)),x])
  c [Z (af c),Z (.lst []),Y] ⟨Y,rfl⟩ (λpre k post a h j=>by
   obtain⟨x,b⟩:=j;subst b;have n:pre.length+1<=c.length:=(by rw[h];simp);have l:=uf pre;have h2:2 ^ pre.length<=2 ^ 8:=Q0 ∅ ⋯;have e1:bx (elem pg Φ [Z (af c),Z (.lst ((c1 pre).map af)),Z (.int k)] (.bin .add 3e0 (.tup {2e0})) 0 .none) ((c1 pre).map af)=.ok ((c1 pre).map λz=>af (z++[k])):=fE λz hz=>by
    have hz:=((lN pre z).mp hz).2.length_le;have:cA .add (af z) (.tup [.int k])=.ok (af (z++[k])):=by
     unfold af;rw[k6,if_pos (by rw[VH,eB];simp;lia),VT];rfl
    simp![this]
   have a1:cA .add (.lst ((c1 pre).map af)) (.lst [.tup [.int k]])=.ok (.lst ((c1 pre++[[k]]).map af)):=by
    rw[j2,if_pos (by rw[VH,eB];simp;lia),VT];rfl
   have a2:cA .add (.lst ((c1 pre++[[k]]).map af)) (.lst ((c1 pre).map λz=>af (z++[k])))=.ok (.lst ((c1 (pre++[k])).map af)):=by
    rw[j2,if_pos (by rw[VH,VH,PY,eB];simp;lia),cw_snoc];simp only[VT,VR];rfl
   refine⟨_,by simp![a1,e1,a2],Z (.int k),rfl⟩)
 rw[e,d];simp!
def ya(xs ys):ph (Z (Z (.lst xs))) (.lst ys)=if xs.length+ys.length<=SZ then .ok (.lst (xs++ys)) else .bad:=ar rfl
def F3(s:∀c:List Int,c.length<=8->Φ f [af c]=.ok (.lst ((c1 c).map af)))(i:∀t∈ts,t.length<=8)(G:ts.length<=255)(b:(bX ts).length<=255):
  bb pg Φ ⟨1,2,ak.rT f⟩ [aj m ts]=.ok (.lst ((bX ts).map af)):=by
 have hi:c4 (aj m ts) (.int 1)=.ok (.tup (ts.map af)):=rfl;simp![ak.rT,hi];have l:∀a:List (List Int),a.length<=255->(∀t∈a,t.length<=8)->(a.flatMap c1).length<=65280:=λa F p=>by
  have:=ng (f:=c1) (k:=256) (xs:=a) λt j=>by
   have h2:=uf t;have h4:2 ^ t.length<=2 ^ 8:=Q0 ∅ (p t j);lia
  lia
 obtain⟨K,e,x,r⟩:=fh (f:=af) (g:=turn pg Φ 0 [2] {.ext 1 (.call f {2e0})})
  (λw o=>∃(x:Option D),o=[Z (aj m ts),Z (.lst ((w.flatMap c1).map af)),x])
  ts [Z (aj m ts),Z (.lst []),Y] ⟨Y,rfl⟩ (λpre t post o h y=>by
   obtain⟨x,q⟩:=y;subst q;have n:t∈ts:=(by rw[h];simp);have H:pre.length+1<=ts.length:=(by rw[h];simp);have C:=l pre ⋯ λt j=>i t (by rw[h];simp[j])
   have h2:=l [t] (by simp) λz hz=>by simp at hz;subst hz;exact i z n
   have u:((pre.flatMap c1).map af).length+((c1 t).map af).length<=SZ:=by
    simp at h2;rw[VH,VH,eB];lia
   refine⟨_,by simp![x4,s t (i t n),ya,if_pos u];rfl,Z (af t),?_⟩;simp[Tc])
 rw[e,r];have v:∀c∈ts.flatMap c1,c≠[]:=λc d=>by
  obtain⟨t,_,d⟩:=Ta.mp d;exact((lN _ _).mp d).1
 have:(b4 (ts.flatMap c1)).length<=255:=by unfold bX at b;rw[nA]at b;exact b
 simp![vq v this,bX]
def EJ(n:Nat)(a:Φ f [aj m ts]=.ok (.lst ((bX ts).map af))):bb pg Φ ⟨2,0,ak.rQ f⟩ [aj m ts,.int ((n:Int)-1)]=.ok (.tup ((cl ts n).map af)):=by
 have e1:bx (elem pg Φ [Z (aj m ts),Z (.int ((n:Int)-1))] 2e0 0 (.some (.cmp .eq (.bin .sub (.prim .len 2e0) 1e1) 1e0))) ((bX ts).map af)=.ok (((bX ts).filter λc=>decide (c.length=n)).map af):=ke λc _=>by
  simp![lK]
  by_cases q:c.length=n
  .rw[decide_eq_true q,QC.mpr (show(c.length:Int)-1=(n:Int)-1 by lia)];rfl
  .rw[decide_eq_false q,beq_eq_false_iff_ne.mpr (show(c.length:Int)-1≠(n:Int)-1 by lia)];rfl
 simp![ak.rQ,a,e1];rfl
abbrev mk(U:List (List Int)):List (List Int×Int):=U.zipIdx.map λp=>(p.1,((2 ^ p.2:Nat):Int))
def Je(U)(c):mk (U++[c])=mk U++[(c,((2 ^ U.length:Nat):Int))]:=by unfold mk;rw[Za,VT];simp
def uz(U):(mk U).map (·.1)=U:=by
 unfold mk;rw[VR];show U.zipIdx.map (λp=>p.1)=U;exact YZ 0 U
def Jd(U):(mk U).length=U.length:=by have:=Rc XH (uz U);simpa using this
def idx_map{α β:Type}[DecidableEq α]{U:List α}(a:U.Nodup)(g:α->Nat->β):U.map (λc=>g c (bZ U c))=U.zipIdx.map λp=>g p.1 p.2:=by
 apply RU;intro i;rw[Qh,Qh,List.getElem?_zipIdx]
 by_cases h:i<U.length
 .rw[P4 h];simp only[WB,a.idxOf_getElem i h,Sf]
 .rw[Qu ⋯];rfl
def O7(a:U.Nodup)(b:c∈U):kR (mk U) c=Z ((2 ^ bZ U c:Nat):Int):=by
 unfold mk;rw[<- idx_map a λc i=>(c,((2 ^ i:Nat):Int))];unfold kR;rw[List.find?_map];have:U.find? ((λp:List Int×Int=>decide (p.1=c)) ∘ λc=>(c,((2 ^ bZ U c:Nat):Int)))=Z c:=by
  have e:∀V:List (List Int),c∈V->V.find? ((λp:List Int×Int=>decide (p.1=c)) ∘ λc=>(c,((2 ^ bZ U c:Nat):Int)))=Z c:=λV=>by
   induction V with
   |nil=>intro h;cases h
   |cons v V d =>
    intro h;rw[Wq]
    by_cases q:v=c
    .subst q;simp
    .rw[show((λp:List Int×Int=>decide (p.1=c)) ∘ λc=>(c,((2 ^ bZ U c:Nat):Int))) v=VF by simp[q]];exact d ((P1.mp h).resolve_left (Q8 q))
  exact e U b
 rw[this];rfl
def vH(c):hc (af c)=Z c:=by
 show intsOf (c.map .int)=Z c
 induction c with
 |nil=>rfl
 |cons x c a=>rw[VP,intsOf,a];rfl
def Fo(a)(c)(n)(h:a.length<1000)(b:c∉a.map (·.1)):lr (Z (Z (.aT a))) (Z (Z (af c))) (.int n)=.ok (.aT (a++[(c,n)])):=by
 have e:putN a c n=a++[(c,n)]:=by
  unfold putN;rw[if_neg];intro z;obtain⟨p,d,q⟩:=TZ.mp z;exact b (VM.mpr ⟨p,d,⇑q⟩)
 show(match Z a,hc (af c),Z n with
  |some a,Z k,Z n=>if a.length<1000 then R.ok (D.aT (putN a k n)) else .bad
  |_,_,_=>_)=_
 rw[vH];dsimp only;rw[if_pos h,e]
def tg(a:U.Nodup)(b:c∈U):ib (Z (Z (.aT (mk U)))) (Z (Z (af c)))=.ok (.int ((2 ^ bZ U c:Nat):Int)):=by
 show(match Z (mk U),hc (af c) with
  |some d,Z k=>(match kR d k with|some n=>R.ok (D.int n)|none=>.bad)
  |_,_=>_)=_
 rw[vH];dsimp only;rw[O7 a b]
def xx(U):ll (Z (Z (.aT (mk U))))=.ok (U.map af):=by
 show R.ok ((mk U).map λp=>D.tup (p.1.map .int))=_;have:((mk U).map λp=>D.tup (p.1.map .int))=((mk U).map (·.1)).map af:=by rw[VR];rfl
 rw[this,uz]
def Ff(a):m1 (Z (Z (.aT a)))=.ok (.aT a):=ar rfl
def Fg(a):m1 (Z (Z (.aK a)))=.ok (.aK a):=ar rfl
def IX(n)(l:Φ f [aj m ts,.int ((n:Int)-1)]=.ok (.tup ((cl ts n).map af)))(r:(cl ts n).length<=255):bb pg Φ ⟨2,3,ak.sg f⟩ [aj m ts,.int ((n:Int)-1)]=.ok (.aT (mk (cl ts n))):=by
 simp![ak.sg,F8,l];have a:=lj ts n;obtain⟨t,e,x,k⟩:=fh (f:=af) (g:=turn pg Φ 0 [4] {.gR 2 4 3e0,.asg 3 (.bin .mul 3e0 2e1)})
  (λd h=>∃(x:Option D),h=[Z (aj m ts),Z (.int ((n:Int)-1)),Z (.aT (mk d)),Z (.int ((2 ^ d.length:Nat):Int)),x])
  (cl ts n) [Z (aj m ts),Z (.int ((n:Int)-1)),Z (.aT []),Z (.int 1),Y] ⟨Y,rfl⟩ (λpre c post h b q=>by
   obtain⟨x,i⟩:=q;subst i;have s:pre.length+1<=(cl ts n).length:=(by rw[b];simp);have j:c∉(mk pre).map (·.1):=by
    rw[uz];intro z;rw[b]at a;exact(TF.mp a).2.2 c z c VE rfl
   have p:=Fo (mk pre) c ((2 ^ pre.length:Nat):Int) (by rw[Jd];lia) j;have o:cA .mul (.int ((2 ^ pre.length:Nat):Int)) (.int 2)=.ok (.int ((2 ^ (pre++[c]).length:Nat):Int)):=by
    rw[hF _ _ (.inr ⟨by rw[gF];lia,by rw[gF];lia⟩),PY,V8,W3];rfl
   refine⟨_,by simp![tx,p,o];rfl,Z (af c),?_⟩;rw[Je])
 rw[e,k];simp![x5,Ff]
def yO(is):intsOf (is.map .int)=Z is:=vH is
def Nt{U xs:List (List Int)}(a:U.Nodup)(b:xs.Nodup)(h:∀x∈xs,x∈U):hO (xs.map λx=>D.int ((2 ^ bZ U x:Nat):Int))=.ok (.int (bC U xs:Int)):=by
 have:=yO (xs.map λx=>((2 ^ bZ U x:Nat):Int));rw[VR]at this;unfold hO;rw[show(xs.map λx=>D.int ((2 ^ bZ U x:Nat):Int))=xs.map (D.int ∘ λx=>((2 ^ bZ U x:Nat):Int)) from rfl,this];dsimp only;rw[zI a b h]
def DX(b:U.Nodup)(a:xs.Nodup)(h:∀x∈xs,x∈U):bb pg Φ ⟨2,0,ak.rP⟩ [.lst (xs.map af),.aT (mk U)]=.ok (.int (bC U xs:Int)):=by
 have e1:bx (elem pg Φ [Z (.lst (xs.map af)),Z (.aT (mk U))] (.fO 1 2) 0 .none) (xs.map af)=.ok (xs.map λx=>D.int ((2 ^ bZ U x:Nat):Int)):=fE λx a=>by
  simp![nd,tg b (h x a)]
 simp![ak.rP,e1,KZ,Nt b a h]
def rE(a b:Nat):cA .and (.int (a:Int)) (.int (b:Int))=.ok (.int ((a &&& b:Nat):Int)):=by
 show j4 (a:Int) (b:Int)=_;unfold j4;rw[if_pos (RE a),if_pos (RE b)];rfl
def Pq(a b:Nat):cA .xor (.int (a:Int)) (.int (b:Int))=.ok (.int ((a ^^^ b:Nat):Int)):=by
 show ou (a:Int) (b:Int)=_;unfold ou;rw[if_pos ⟨RE a,RE b⟩];rfl
def wx(a k):((a &&& 2 ^ k:Nat):Int)=0<->a.testBit k=false:=by
 have b:a &&& 2 ^ k=0<->a.testBit k=false:=by
  constructor
  .intro h;have:=Rc (λz=>z.testBit k) h;simpa[Ve,Sn] using this
  .intro h;apply S0;intro i;rw[Ve,Sq,Su]
   by_cases q:k=i
   .rw[<- q,h];rfl
   .simp[q]
 rw[<- b];lia
def zO(a k):cp .ne (.int ((a &&& 2 ^ k:Nat):Int)) (.int 0)=.ok (a.testBit k):=by
 show fT (.ok (((a &&& 2 ^ k:Nat):Int)==0))=_;cases q:a.testBit k with
 |false=>rw[QC.mpr ((wx a k).mpr q)];rfl
 |true=>rw[beq_eq_false_iff_ne.mpr λz=>by rw[(wx a k).mp z]at q;cases q];rfl
def Eo(a:U.Nodup)(b:Nat):bb pg Φ ⟨2,0,ak.rS⟩ [.int (b:Int),.aT (mk U)]=.ok (.tup ((U.filter λc=>b.testBit (bZ U c)).map af)):=by
 have e1:bx (elem pg Φ [Z (.int (b:Int)),Z (.aT (mk U))] 2e0 0 (.some (.cmp .ne (.bin .and 0e0 (.fO 1 2)) 0e1))) (U.map af)=.ok ((U.filter λc=>b.testBit (bZ U c)).map af):=ke λc d=>by
  have:=zO b (bZ U c);simp![nd,tg a d,rE];have h2:fT (.ok (((b &&& 2 ^ bZ U c:Nat):Int)==0))=.ok (b.testBit (bZ U c)):=this;rw[show fT (.ok (((b &&& 2 ^ bZ U c:Nat):Int)==0))=R.ok (!(((b &&& 2 ^ bZ U c:Nat):Int)==0)) from rfl]at h2;injection h2 with h2;rw[h2];cases b.testBit (bZ U c)<;>rfl
 simp![ak.rS,o8,xx,e1]
abbrev aU(r:Row):D:=.tup [.int (r.1:Int),.int (r.2:Int)]
def du(ts:List (List Int))(n:Nat):List Nat:=(cl ts n).map λc=>bC (cl ts (n-1)) (cG c)
def Ly(n:Nat)(b:∀t∈ts,IsCell m t)(u:m<=8)(j:∀n:Nat,Φ f [aj m ts,.int ((n:Int)-1)]=.ok (.aT (mk (cl ts n))))(r:∀c:List Int,c.length<=1000->Φ g [af c]=.ok (.lst ((cG c).map af)))(l:∀U xs:List (List Int),U.Nodup->xs.Nodup->(∀x∈xs,x∈U)->Φ d [.lst (xs.map af),.aT (mk U)]=.ok (.int (bC U xs:Int))):
  bb pg Φ ⟨2,2,ak.sj d g f⟩ [aj m ts,.int (n:Int)]=.ok (.lst ((cK (du ts (n+1))).map aU)):=by
 have h:=lj ts (n+1);have s:=j n;have m2:Φ f [aj m ts,.int (n:Int)]=.ok (.aT (mk (cl ts (n+1)))):=by
  have:=j (n+1);rwa[show(((n+1:Nat):Int)-1)=(n:Int) by lia]at this
 have e1:bx (elem pg Φ [Z (aj m ts),Z (.int (n:Int)),Z (.aT (mk (cl ts n))),Z (.aT (mk (cl ts (n+1))))] (.tup {.call d {.call g {4e0},2e0},.fO 3 4}) 0 .none) ((cl ts (n+1)).map af)=.ok ((cl ts (n+1)).map λc=>aU (bC (cl ts n) (cG c),2 ^ bZ (cl ts (n+1)) c)):=fE λc a=>by
  have o:=sT b a;have q:c.length<=1000:=by
   obtain⟨_,_,t,k,h2⟩:=kv.mp a;have:=h2.length_le;have:=lb (b t k);lia
  simp![nd,r c q,l (cl ts n) (cG c) (lj ts n) (By o) (λe p=>mV b a p),tg h a];rfl
 have e2:(cK (du ts (n+1))).map aU=(cl ts (n+1)).map λc=>aU (bC (cl ts n) (cG c),2 ^ bZ (cl ts (n+1)) c):=by
  rw[idx_map h λc i=>aU (bC (cl ts n) (cG c),2 ^ i)];unfold cK du;rw[List.zipIdx_map,VR,VR];rfl
 simp![ak.sj,s,m2,o8,xx,e1,e2]
def ih(r):c4 (aU r) (.int 0)=.ok (.int (r.1:Int)):=rfl
def yU(r):c4 (aU r) (.int 1)=.ok (.int (r.2:Int)):=rfl
def Nv(r q):bb pg Φ ⟨2,0,ak.sm⟩ [aU r,aU q]=.ok (aU (r.1 ^^^ q.1,r.2 ^^^ q.2)):=by
 simp![ak.sm,ih,yU,Pq];rfl
abbrev bM(B:bN):List (Int×Int×Int):=B.map λe=>(((2 ^ e.1:Nat):Int),(e.2.1:Int),(e.2.2:Int))
def As(h:a≠b):((2 ^ a:Nat):Int)≠((2 ^ b:Nat):Int):=λz=>by
 have z:2 ^ a=2 ^ b:=Int.ofNat.inj z;rcases UH a b with q|q|q
 .have:=SY (show 1<2 by decide) q;lia
 .exact h q
 .have:=SY (show 1<2 by decide) q;lia
theorem CA : ∀ {B : bN}, (B.map (·.1)).Nodup -> ∀ e ∈ B, jJ (bM B) ((2 ^ e.1 : Nat) : Int) = Z ((e.2.1 : Int), (e.2.2 : Int))
  | f :: B, h, e, a => by
    obtain ⟨b, h2⟩ := QR.mp h
    unfold jJ bM
    rw [VP, Wq]
    dsimp only
    by_cases q : f.1 = e.1
    · have : f = e := by
        rcases P1.mp a with z | z
        · exact z.symm
        · exact absurd (VM.mpr ⟨e, z, q.symm⟩) b
      subst this
      rw [decide_eq_true rfl]
      rfl
    · rw [decide_eq_false (As q)]
      exact CA h2 e ((P1.mp a).resolve_left fun z => q (by rw [z]))
def xw{B:bN}(h:(B.map (·.1)).Nodup)(a:e∈B):ib (Z (Z (.aK (bM B)))) (Z (Z (.int ((2 ^ e.1:Nat):Int))))=.ok (aU e.2):=by
 show(match Z (bM B),Z ((2 ^ e.1:Nat):Int) with
  |some b,Z k=>(match jJ b k with|some r=>R.ok (kH r)|none=>.bad)
  |_,_=>R.bad)=_
 dsimp only;rw[CA h e a];rfl
def xA(B):ll (Z (Z (.aK (bM B))))=.ok (B.map λe=>D.int ((2 ^ e.1:Nat):Int)):=by
 show R.ok ((bM B).map λp=>D.int p.1)=_;unfold bM;rw[VR];rfl
def Ls(B)(e)(r):red (B++[e]) r=one (red B r) e:=by unfold red;rw[Wc];rfl
def Lu(j:∀r q:Row,Φ f [aU r,aU q]=.ok (aU (r.1 ^^^ q.1,r.2 ^^^ q.2))){B:bN}(h:(B.map (·.1)).Nodup)(r):bb pg Φ ⟨2,1,ak.si f⟩ [aU r,.aK (bM B)]=.ok (aU (red B r)):=by
 simp![ak.si,o8,xA];obtain⟨n,e,x,d⟩:=fh (f:=λe:Nat×Row=>D.int ((2 ^ e.1:Nat):Int)) (g:=turn pg Φ 0 [2] {.iff (.cmp .ne (.bin .and (.idx 0e0 0e1) 2e0) 0e1) {.asg 0 (.call f {0e0,.fO 1 2})} .nil})
  (λl b=>∃(x:Option D),b=[Z (aU (red l r)),Z (.aK (bM B)),x])
  B [Z (aU r),Z (.aK (bM B)),Y] ⟨Y,rfl⟩ (λpre e post b k m=>by
   obtain⟨x,c⟩:=m;subst c;have i:e∈B:=(by rw[k];simp);have a:=zO (red pre r).1 e.1;have a:fT (.ok ((((red pre r).1 &&& 2 ^ e.1:Nat):Int)==0))=.ok ((red pre r).1.testBit e.1):=a;rw[Ls];unfold one;cases q:(red pre r).1.testBit e.1 with
   |true =>
    rw[q]at a;refine⟨_,by simp![ih,rE,a,nd,xw h i,j],Z (.int ((2 ^ e.1:Nat):Int)),rfl⟩
   |false =>
    rw[q]at a;refine⟨_,by simp![ih,rE,a],Z (.int ((2 ^ e.1:Nat):Int)),rfl⟩)
 rw[e,d];simp!
def IG(n:Nat)(h:0<n):bb pg Φ ⟨1,0,ak.sf⟩ [.int (n:Int)]=.ok (.int ((2 ^ lo n:Nat):Int)):=by
 have e:cA .and (.int (n:Int)) (.int (-(n:Int)))=.ok (.int ((2 ^ lo n:Nat):Int)):=by
  show j4 (n:Int) (-(n:Int))=_;unfold j4;rw[if_pos (RE n),if_neg ⋯];obtain⟨_,_,h3,h4⟩:=zo n h;have h5:(-(-(n:Int))-1).toNat=n-1:=⋯;rw[h5,Ws];congr 2;lia
 simp![ak.sf,xX,e]
def xE(a)(k)(r)(h:a.length<1000)(b:k∉a.map (·.1)):lr (Z (Z (.aK a))) (Z (Z (.int k))) (aU r)=.ok (.aK (a++[(k,(r.1:Int),(r.2:Int))])):=by
 have e:iz a k ((r.1:Int),(r.2:Int))=a++[(k,(r.1:Int),(r.2:Int))]:=by
  unfold iz;rw[if_neg];intro z;obtain⟨p,c,q⟩:=TZ.mp z;exact b (VM.mpr ⟨p,c,⇑q⟩)
 show(if a.length<1000 then R.ok (D.aK (iz a k ((r.1:Int),(r.2:Int)))) else .bad)=_;rw[if_pos h,e]
def Fm(k)(r):m6 (Z (Z (.int ((2 ^ k:Nat):Int)))) (Z (Z (aU r)))=.ok (.aK (bM [(k,r)])):=rfl
def xr(B)(h:k∉B.map (·.1)):((2 ^ k:Nat):Int)∉(bM B).map (·.1):=λz=>by
 unfold bM at z;rw[VR]at z;obtain⟨e,a,q⟩:=VM.mp z;exact As (λw=>h (VM.mpr ⟨e,a,w⟩)) q
def G1(m:∀(B:bN)(r:Row),(B.map (·.1)).Nodup->Φ d [aU r,.aK (bM B)]=.ok (aU (red B r)))(F:∀n:Nat,0<n->Φ t [.int (n:Int)]=.ok (.int ((2 ^ lo n:Nat):Int))){B:bN}(h:bO B)(L:B.length<900)(r):
  bb pg Φ ⟨2,4,ak.oK d t⟩ [.aK (bM B),aU r]=.ok (.aK (bM (grow B r))):=by
 have a:=m8 h;have p:=lE h r
 by_cases c:(red B r).1=0
 .have hz:(((red B r).1:Int)==0)=true:=(by rw[c];rfl);simp![ak.oK,m B r a,ih,hz];unfold grow;rw[if_pos c]
 .have hz:(((red B r).1:Int)==0)=false:=beq_eq_false_iff_ne.mpr ⋯;have y:=F (red B r).1 ⋯;have s:grow B r=B.map (λe=>(e.1,one e.2 (lo (red B r).1,red B r)))++[(lo (red B r).1,red B r)]:=(by unfold grow;rw[if_neg c]);rw[s]at p ⊢;have b:=m8 p;simp![ak.oK,m B r a,ih,hz,y,F9,o8,xA];generalize red B r=l at b;generalize lo l.1=k at b;have o:((B.map λe=>(e.1,one e.2 (k,l))).map (·.1))=B.map (·.1):=(by rw[VR];rfl);have C:k∉B.map (·.1):=by
   rw[VT,o]at b;exact λz=>(TF.mp b).2.2 k z k (by simp) rfl
  obtain⟨N,e,x,v⟩:=fh (f:=λe:Nat×Row=>D.int ((2 ^ e.1:Nat):Int)) (g:=turn pg Φ 0 [5] {.gR 4 5 (.call d {.fO 0 5,.lp 3 2})})
   (λH q=>∃(x:Option D),q=[Z (.aK (bM B)),Z (aU r),Z (aU l),Z (.int ((2 ^ k:Nat):Int)),Z (.aK (bM (H.map λe=>(e.1,one e.2 (k,l))))),x])
   B [Z (.aK (bM B)),Z (aU r),Z (aU l),Z (.int ((2 ^ k:Nat):Int)),Z (.aK []),Y] ⟨Y,rfl⟩ (λpre e post q j K=>by
    obtain⟨x,u⟩:=K;subst u;have w:e∈B:=(by rw[j];simp);have M:pre.length+1<=B.length:=(by rw[j];simp);have i:=m [(k,l)] e.2 (by simp);have i:Φ d [aU e.2,.aK (bM [(k,l)])]=.ok (aU (one e.2 (k,l))):=i;have G:e.1∉(pre.map λe=>(e.1,one e.2 (k,l))).map (·.1):=by
     rw[VR];intro z;have z:e.1∈pre.map (·.1):=z;rw[j,VT,VP]at a;exact(TF.mp a).2.2 e.1 z e.1 VE rfl
    have h2:=xE (bM (pre.map λe=>(e.1,one e.2 (k,l)))) ((2 ^ e.1:Nat):Int) (one e.2 (k,l)) (by unfold bM;simp;lia) (xr _ G);refine⟨_,by simp![tx,nd,FV,xw a w,Fm,i,h2];rfl,Z (.int ((2 ^ e.1:Nat):Int)),?_⟩;unfold bM;simp only[VT,VP,S3])
  rw[e,v];have h3:=xE (bM (B.map λe=>(e.1,one e.2 (k,l)))) ((2 ^ k:Nat):Int) l (by unfold bM;simp;lia) (xr _ (by rw[o];exact C));simp![tx,h3,x5,Fg];unfold bM;simp only[VT,VP,S3]
variable{pg:cw}{Φ:da}
def G0(B)(rs)(r):bK B (rs++[r])=grow (bK B rs) r:=by unfold bK;rw[Wc];rfl
def yx(B)(r):(grow B r).length<=B.length+1:=by rw[lF];split<;>lia
theorem px:∀(rs:List Row)(B:bN),(bK B rs).length<=B.length+rs.length
 |[],B=>P0 _
 |r::rs,B=>by
  have a:=px rs (grow B r);have h2:=yx B r;show(bK (grow B r) rs).length<=_;rw[VX];lia
def tT(rs):(c3 rs).1=bK [] rs:=by
 have b:∀(rs:List Row)(st:bN×List Nat),(rs.foldl step st).1=bK st.1 rs:=λrs=>by
  induction rs with
  |nil=>intro st;rfl
  |cons r rs a=>intro st;exact a (step st r)
 exact b rs ([],[])
def yH(rs):(c3 rs).2.length<=rs.length:=by
 have b:∀(rs:List Row)(st:bN×List Nat),(rs.foldl step st).2.length<=st.2.length+rs.length:=λrs=>by
  induction rs with
  |nil=>intro st;exact P0 _
  |cons r rs a =>
   intro st;have c:=a (step st r);have h2:(step st r).2.length<=st.2.length+1:=(by unfold step;dsimp only;split<;>simp);show(rs.foldl step (step st r)).2.length<=_;rw[VX];lia
 have:=b rs ([],[]);simp only[Wb,Sf]at this;exact this
def DL(i:∀(B:bN)(r:Row),bO B->B.length<900->Φ a [.aK (bM B),aU r]=.ok (.aK (bM (grow B r))))(m:rs.length<=255):bb pg Φ ⟨1,2,ak.rO a⟩ [.lst (rs.map aU)]=.ok (.aK (bM (bK [] rs))):=by
 simp![ak.rO,xU];obtain⟨o,e,x,h⟩:=fh (f:=aU) (g:=turn pg Φ 0 [2] {.asg 1 (.call a {1e0,2e0})})
  (λk b=>∃(x:Option D),b=[Z (.lst (rs.map aU)),Z (.aK (bM (bK [] k))),x])
  rs [Z (.lst (rs.map aU)),Z (.aK []),Y] ⟨Y,rfl⟩ (λpre r post b j l=>by
   obtain⟨x,d⟩:=l;subst d;have n:pre.length+1<=rs.length:=(by rw[j];simp);have c:=px pre [];have h2:=i (bK [] pre) r (gg bO.nil) ↥c;rw[G0];refine⟨_,by simp![h2],Z (aU r),rfl⟩)
 rw[e,h];simp!
def rH(xs)(d)(h:xs.length<SZ):mH (Z (Z (.lst xs))) d=.ok (.lst (xs++[d])):=by rw[oJ,if_pos h]
def Hd{a d:Nat}(n:∀(B:bN)(r:Row),bO B->B.length<900->Φ a [.aK (bM B),aU r]=.ok (.aK (bM (grow B r))))(p:∀(B:bN)(r:Row),(B.map (·.1)).Nodup->Φ d [aU r,.aK (bM B)]=.ok (aU (red B r)))(q:rs.length<=255):
  bb pg Φ ⟨1,4,ak.rV a d⟩ [.lst (rs.map aU)]=.ok (.lst ((c3 rs).2.map λb:Nat=>D.int (b:Int))):=by
 simp![ak.rV,xU];obtain⟨t,e,x,y,m⟩:=fh (f:=aU) (g:=turn pg Φ 0 [3] {.asg 4 (.call d {3e0,1e0}),.iff (.cmp .eq (.idx 4e0 0e1) 0e1) {.app 2 (.idx 4e0 1e1)} .nil,.asg 1 (.call a {1e0,3e0})})
  (λi j=>∃(x y:Option D),j=[Z (.lst (rs.map aU)),Z (.aK (bM (c3 i).1)),Z (.lst ((c3 i).2.map λb:Nat=>D.int (b:Int))),x,y])
  rs [Z (.lst (rs.map aU)),Z (.aK []),Z (.lst []),Y,Y] ⟨Y,Y,rfl⟩ (λpre r post j o ⟨x,y,l⟩=>by
   subst l;have s:pre.length+1<=rs.length:=(by rw[o];simp);have k:=px pre [];have h4:=yH pre;have h:bO (c3 pre).1:=(by rw[tT];exact gg bO.nil);have h2:=n (c3 pre).1 r h (by rw[tT];simp at k;lia);have h3:=p (c3 pre).1 r (m8 h);rw[yI];unfold step;dsimp only
   by_cases c:(red (c3 pre).1 r).1=0
   .have hz:(((red (c3 pre).1 r).1:Int)==0)=true:=(by rw[c];rfl);have h5:=rH ((c3 pre).2.map λb:Nat=>D.int (b:Int)) (.int ((red (c3 pre).1 r).2:Int)) (by rw[VH,eB];lia);rw[if_pos c];refine⟨_,by simp![h3,ih,yU,hz,h5,h2];rfl,Z (aU r),Z (aU (red (c3 pre).1 r)),?_⟩;rw[VT];rfl
   .have hz:(((red (c3 pre).1 r).1:Int)==0)=false:=beq_eq_false_iff_ne.mpr ⋯;rw[if_neg c];refine⟨_,by simp![h3,ih,hz,h2],Z (aU r),Z (aU (red (c3 pre).1 r)),rfl⟩)
 rw[e,m];simp!
def fD(U:List (List Int))(b:Nat):D:=.tup ((U.filter λc=>b.testBit (bZ U c)).map af)
theorem BK{α:Type}(f):∀xs:List α,∃ys:List α,ys.Perm xs/\fH (xs.map f)=ys.map f
 |[]=>⟨[],.nil,rfl⟩
 |x::xs=>by
  have ins:∀ys:List α,∃a:List α,a.Perm (x::ys)/\lH (f x) (ys.map f)=a.map f:=λys=>by
   induction ys with
   |nil=>exact⟨[x],.refl _,rfl⟩
   |cons y ys b =>
    rw[VP,lH]
    split
    .obtain⟨a,p,e⟩:=b;exact⟨y::a,(p.cons y).trans (Xl x y ys),by rw[e];rfl⟩
    .exact⟨x::y::ys,.refl _,rfl⟩
  obtain⟨ys,p,e⟩:=BK f xs;obtain⟨a,p2,e2⟩:=ins ys;exact⟨a,p2.trans (p.cons x),by rw[VP,fH,e,e2]⟩
def En(f:U.Nodup)(j:∀c∈U,c≠[])(h0:b≠0)(g:b<2 ^ U.length):kn (fD U b)=true:=by
 obtain⟨i,hi⟩:∃i,b.testBit i=true:=Nat.exists_testBit_of_ne_zero h0;have d:i<U.length:=by
  rcases Ug i U.length with q|q
  .exact q
  .rw[Rg (P2 g (Q0 ∅ q))]at hi;cases hi
 have e:U[i]∈U.filter λc=>b.testBit (bZ U c):=QH.mpr ⟨S8 d,by rw[tY f d];exact hi⟩
 have a:∀c∈U.filter λc=>b.testBit (bZ U c),c≠[]:=λc h=>j c (QH.mp h).1
 unfold fD;generalize (U.filter λc=>b.testBit (bZ U c))=cs at e a;cases cs with
 |nil=>cases e
 |cons c cs =>
  have:=tb a;exact this
def n4(ts)(n):(du ts n).length=(cl ts n).length:=by unfold du;rw[VH]
def zE(as):(cK as).length=as.length:=by unfold cK;simp
def DK(n)(d:∀t∈ts,IsCell m t):∀r∈cK (du ts (n+2)),r.1<2 ^ (du ts (n+1)).length/\bd (du ts (n+1)) r.1=0:=by
 intro r j;obtain⟨p,h,rfl⟩:=VM.mp j;have i:p.1∈du ts (n+2):=List.fst_mem_of_mem_zipIdx h;obtain⟨c,f,e⟩:=VM.mp i;dsimp only;rw[<- e,n4];have g:=sT d f;have b:∀x∈cG c,x∈cl ts (n+1):=λx a=>mV d f a
 refine⟨qf b,Lx (lj ts n) b (λx a=>⟨By (vj g a),λy k=>mV d (b x a) k⟩) λy=>?_⟩;have z:=EI g y;refine(Rc (· % 2) (?e:_=cnt y (cG c))).trans ?_
 case e=>exact Tw λx _=>by simp only[Qn]
 lia
def Jb(as):(cK as).map (·.1)=as:=by
 unfold cK;rw[VR];exact YZ 0 as
structure Told(ts:List (List Int))(n:Nat)(G:List Nat):Prop where
 len:G.length+(bK [] (cK (du ts (n+2)))).length+(bK [] (cK (du ts (n+1)))).length=(cl ts (n+1)).length
def LH{L q o l k M K:Nat}(n:Nat)(u:∀t∈ts,IsCell m t)(Q:m<=8)(hi:∀rs:List Row,rs.length<=255->Φ L [.lst (rs.map aU)]=.ok (.lst ((c3 rs).2.map λb:Nat=>D.int (b:Int))))(a0:∀n:Nat,Φ q [aj m ts,.int (n:Int)]=.ok (.lst ((cK (du ts (n+1))).map aU)))(bq:∀(B:bN)(r:Row),(B.map (·.1)).Nodup->Φ o [aU r,.aK (bM B)]=.ok (aU (red B r)))(bw:∀(B:bN)(r:Row),bO B->B.length<900->Φ l [.aK (bM B),aU r]=.ok (.aK (bM (grow B r))))(s:∀(U:List (List Int))(b:Nat),U.Nodup->Φ k [.int (b:Int),.aT (mk U)]=.ok (fD U b))(bk:Φ M [aj m ts,.int (n:Int)]=.ok (.aT (mk (cl ts (n+1)))))(j:∀rs:List Row,rs.length<=255->Φ K [.lst (rs.map aU)]=.ok (.aK (bM (bK [] rs)))):
  ∃G:List Nat,bb pg Φ ⟨2,5,ak.sk L q o l k M K⟩ [aj m ts,.int (n:Int)]=.ok (.tup (G.map (fD (cl ts (n+1)))))/\Told ts n G:=by
 have l1:(cK (du ts (n+1))).length<=255:=by rw[zE,n4];exact oT Q u _
 have l2:(cK (du ts (n+2))).length<=255:=by rw[zE,n4];exact oT Q u _
 have cO:=a0 n;have dq:Φ q [aj m ts,.int ((n:Int)+1)]=.ok (.lst ((cK (du ts (n+2))).map aU)):=a0 (n+1);have bI:=hi _ l1;have b1:=j _ l2;have V:=lj ts (n+1);have st:=BR (du ts (n+1));have v:=LG (du ts (n+1)) _ (DK n u);have aL:=yH (cK (du ts (n+1)));have a1:=st.len;rw[tT,n4]at a1;have C:=st.gf;rw[n4]at C;have W:=px (cK (du ts (n+2))) [];simp only[Wb,Sf]at W;have T:=gg (rs:=cK (du ts (n+2))) bO.nil;simp![ak.sk,cO,dq,bI,b1,bk];generalize (c3 (cK (du ts (n+1)))).2=F at v a1 C aL;generalize aJ:bK [] (cK (du ts (n+2)))=a at v W T;obtain⟨a3,e,x,y,d,h2,h3,h4,bh⟩:=fh (f:=λb:Nat=>D.int (b:Int)) (g:=turn pg Φ 0 [5] {.asg 6 (.tup {5e0,0e1}),.iff (.cmp .ne (.idx (.call o {6e0,2e0}) 0e1) 0e1) {.app 4 (.call k {5e0,3e0}),.asg 2 (.call l {2e0,6e0})} .nil})
  (λi a2=>∃(x y:Option D),bO (i.foldl tell (a,[])).1/\(i.foldl tell (a,[])).1.length<=a.length+i.length/\(i.foldl tell (a,[])).2.length<=i.length/\(∀b∈(i.foldl tell (a,[])).2,b≠0/\b<2 ^ (cl ts (n+1)).length) /\
   a2=[Z (aj m ts),Z (.int (n:Int)),Z (.aK (bM (i.foldl tell (a,[])).1)),Z (.aT (mk (cl ts (n+1)))),Z (.lst ((i.foldl tell (a,[])).2.map (fD (cl ts (n+1))))),x,y])
  F [Z (aj m ts),Z (.int (n:Int)),Z (.aK (bM a)),Z (.aT (mk (cl ts (n+1)))),Z (.lst []),Y,Y] ⟨Y,Y,T,P0 _,P0 _,(λ_ h=>nomatch h),rfl⟩ (λpre b post a2 X ⟨x,y,d,h2,h3,h4,b2⟩=>by
   subst b2;have bp:b∈F:=(by rw[X];simp);have dg:pre.length+1<=F.length:=(by rw[X];simp);rw[Wc];show ∃a3,_/\∃x y,bO (tell (pre.foldl tell (a,[])) b).1/\(tell (pre.foldl tell (a,[])) b).1.length<=a.length+(pre++[b]).length/\(tell (pre.foldl tell (a,[])) b).2.length<=(pre++[b]).length/\(∀z∈(tell (pre.foldl tell (a,[])) b).2,z≠0/\z<2 ^ (cl ts (n+1)).length)/\a3=[Z (aj m ts),Z (.int (n:Int)),Z (.aK (bM (tell (pre.foldl tell (a,[])) b).1)),Z (.aT (mk (cl ts (n+1)))),Z (.lst ((tell (pre.foldl tell (a,[])) b).2.map (fD (cl ts (n+1))))),x,y];generalize pre.foldl tell (a,[])=w at d h2 h3 h4;obtain⟨B,G⟩:=w;dsimp only at d h2 h3 h4;have aw:=lE d (bare b);have cY:=yx B (bare b);have P:=bq B (bare b) (m8 d);have aA:=bw B (bare b) d ⋯;have aG:=s (cl ts (n+1)) b V;have H:D.tup [.int (b:Int),.int 0]=aU (bare b):=rfl;have bJ:=n2 (r:=bare b) d;unfold tell;dsimp only
   by_cases c:(red B (bare b)).1=0
   .have hz:(((red B (bare b)).1:Int)==0)=true:=(by rw[c];rfl);have a5:grow B (bare b)=B:=(by unfold grow;rw[if_pos c]);rw[if_pos c,a5];refine⟨_,by simp![H,P,ih,hz],Z (.int (b:Int)),Z (aU (bare b)),d,by rw[PY];lia,by rw[PY];lia,h4,rfl⟩
   .have hz:(((red B (bare b)).1:Int)==0)=false:=beq_eq_false_iff_ne.mpr ⋯;have h5:=rH (G.map (fD (cl ts (n+1)))) (fD (cl ts (n+1)) b) (by rw[VH,eB];lia);rw[if_neg c];refine⟨_,by simp![H,P,ih,hz,aG,h5,aA];rfl,Z (.int (b:Int)),Z (aU (bare b)),aw,by rw[PY,V8];lia,by rw[PY,PY];simp;lia,λz hz=>?_,?_⟩
    .rcases P8.mp hz with hz|hz
     .exact h4 z hz
     .rw[Qo.mp hz];exact⟨λe=>c (bJ.mpr (by rw[e];exact oa _)),C b bp⟩
    .rw[VT];rfl)
 rw[e,bh];generalize bg:(F.foldl tell (a,[])).2=N at v h3 h4;have bf:(N.map (fD (cl ts (n+1)))).all kn=true:=by
  rw[WY,Qr];exact λb j=>En V (λc s=>(kv.mp s).2.1) (h4 b j).1 (h4 b j).2
 obtain⟨G,p,a4⟩:=BK (fD (cl ts (n+1))) N;have bH:ζ.sorted (N.map (fD (cl ts (n+1))))=.ok (.lst (G.map (fD (cl ts (n+1))))):=by
  unfold ζ.sorted;rw[bf,TG,XP,if_pos,a4];rw[VH,Qn];lia
 refine⟨G,by simp![bg,bH],⟨?_⟩⟩;rw[p.length_eq,aJ];lia
end ba
end
section
namespace au
open dc
abbrev bits(c:Nat):List Nat:=(VN 7).filter λv=>c.testBit v
def g7(c:Nat):List Nat:=(bits c).map λv=>c ^^^ 2 ^ v
def col(c:Nat):Nat:=c9 ((g7 c).map λs=>2 ^ s)
def gen:List Nat->List (List Nat)
 |[]=>[[]]
 |c::cs=>gen cs++((gen cs).filter λs=>(g7 c).all λx=>x==0||s.contains x).map (c::·)
def inOrder:List Nat->Bool
 |[]=>J
 |c::cs=>((g7 c).all λx=>x==0||cs.contains x)&&inOrder cs
theorem yv{p:Nat->Bool}:∀{cs:List Nat},inOrder cs=J->(∀c∈cs,p c=J->∀x∈g7 c,x=0\/p x=J)->cs.filter p∈gen cs
 |[],_,_=>Qo.mpr rfl
 |c::cs,h,b=>by
  rw[inOrder,PW]at h;have f:=yv h.2 λd g=>b d (VJ _ g)
  rw[List.filter_cons]
  by_cases q:p c=J
  .rw[if_pos q];refine Qd _ (VM.mpr ⟨_,QH.mpr ⟨f,Qr.mpr λx e=>?_⟩,rfl⟩);have a:=Qr.mp h.1 x e;rw[RC]at a ⊢;rcases a with a|a
   .exact .inl a
   .rcases b c VE q x e with z|z
    .exact .inl (by rw[z];rfl)
    .exact .inr (by rw[QW]at a ⊢;exact QH.mpr ⟨a,z⟩)
  .rw[if_neg q];exact VZ _ f
abbrev bJ:List Nat:=[15,14,13,11,7,12,10,9,6,5,3,8,4,2,1]
abbrev bg:List Nat:=[112,96,80,48,64,32,16]
def J2:inOrder bJ=true:=by decide +kernel
def J1:inOrder bg=true:=by decide +kernel
def lv(S:List Nat)(n:Nat):List Nat:=S.filter λc=>(bits c).length==n
def fo(S:List Nat)(n:Nat):Nat:=if n<2 then 0 else(ks ((lv S n).map col)).length
def jh(S:List Nat):List Int:=(VN 7).map λh=>(((lv S (h+1)).length-fo S (h+2)-fo S (h+1):Nat):Int)
abbrev trim(xs:List Int):List Int:=(xs.reverse.dropWhile (·==0)).reverse
def less:List Int->List Int
 |[]=>[]
 |x::xs=>trim ((x-1)::xs)
def prod(xs ys:List Int):List Int:=trim ((VN xs.length).foldl (λf k=>(VN ys.length).foldl (λf n=>f.set (k+n+1) (f.getD (k+n+1) 0+xs.getD k 0*ys.getD n 0)) f) (VV (xs.length+ys.length) 0))
abbrev add(xs ys:List Int):List Int:=(VN 7).map λk=>xs.getD k 0+ys.getD k 0
abbrev join(S T:List Nat):List Nat:=S++T++S.flatMap λa=>T.map λb=>a ^^^ b
def kb(S T:List Nat):Bool:=less (jh (join S T))==prod (less (jh S)) (less (jh T))&&jh (S++T)==add (jh S) (jh T)
def all:Bool:=(gen bJ).all λS=>(gen bg).all λT=>S.isEmpty||T.isEmpty||kb S T
end au
end
section
namespace au
def one(S:List Nat):Bool:=(gen bg).all λT=>S.isEmpty||T.isEmpty||kb S T
def part(n:Nat):Bool:=(((gen bJ).drop (n*12)).take 12).all one
theorem Ab{α:Type}{f:α->Bool}(n:Nat):∀(k:Nat)(L:List α),(∀i,i<k->((L.drop (i*n)).take n).all f=J)->L.length<=k*n->L.all f=J
 |0,L,_,h=>by
  cases L with
  |nil=>rfl
  |cons _ _=>simp at h
 |k+1,L,a,h=>by
  rw[<- QJ n L,List.all_append,PW];refine⟨by simpa using a 0 (Nat.zero_lt_succ k),Ab n k _ (λi hi=>?_) (by rw[Q6,U5]at *;lia)⟩;rw[Ut,VD,<- U5];exact a (i+1) (Nat.succ_lt_succ hi)
def part0:part 0=true:=by decide +kernel
def part1:part 1=true:=by decide +kernel
def part2:part 2=true:=by decide +kernel
def part3:part 3=true:=by decide +kernel
def part4:part 4=true:=by decide +kernel
def part5:part 5=true:=by decide +kernel
def part6:part 6=true:=by decide +kernel
def part7:part 7=true:=by decide +kernel
def part8:part 8=true:=by decide +kernel
def part9:part 9=true:=by decide +kernel
def part10:part 10=true:=by decide +kernel
def part11:part 11=true:=by decide +kernel
def part12:part 12=true:=by decide +kernel
def part13:part 13=true:=by decide +kernel
def Ik:(gen bJ).length<=14*12:=by decide +kernel
def C7:all=true:=Ab 12 14 (gen bJ) (λi hi=>by
 match i,hi with
 |0,_=>exact part0
 |1,_=>exact part1
 |2,_=>exact part2
 |3,_=>exact part3
 |4,_=>exact part4
 |5,_=>exact part5
 |6,_=>exact part6
 |7,_=>exact part7
 |8,_=>exact part8
 |9,_=>exact part9
 |10,_=>exact part10
 |11,_=>exact part11
 |12,_=>exact part12
 |13,_=>exact part13
 |n+14,h=>lia) Ik
end au
end
section
namespace au
open dc
@[reducible]def eb(c:List Nat):Prop:=c.Pairwise (· < ·)/\∀x∈c,x<7
def cd(c:List Nat):Nat:=bC (VN 7) c
def JC{c:List Nat}(h:c.Pairwise (· < ·)):c.Nodup:=h.imp λh=>Ql h
def w8(h:eb c)(a:v<7):(cd c).testBit v=decide (v∈c):=by
 have:=uD (U:=VN 7) (xs:=c) v ⇑a (JC h.1) S6;rwa[Tj]at this
theorem Cp:∀{a b:List Nat},a.Pairwise (· < ·)->b.Pairwise (· < ·)->(∀x,x∈a<->x∈b)->a=b
 |[],[],_,_,_=>rfl
 |[],y::b,_,_,h=>absurd ((h y).mpr VE) (by simp)
 |x::a,[],_,_,h=>absurd ((h x).mp VE) (by simp)
 |x::a,y::b,c,d,h=>by
  rw[Qv]at c d;have e:x=y:=by
   rcases P1.mp ((h x).mp VE) with q|q
   .exact q
   .rcases P1.mp ((h y).mpr VE) with r|r
    .exact r.symm
    .have:=d.1 x q;have:=c.1 y r;lia
  subst e;rw[Cp c.2 d.2 λz=>⟨λq=>?_,λq=>?_⟩]
  .rcases P1.mp ((h z).mp (VJ _ q)) with r|r
   .subst r;exact absurd (c.1 z q) (Rm _)
   .exact r
  .rcases P1.mp ((h z).mpr (VJ _ q)) with r|r
   .subst r;exact absurd (d.1 z q) (Rm _)
   .exact r
def wY(h:eb c):bits (cd c)=c:=by
 refine Cp (Q5 RZ SD) h.1 λx=>?_
 unfold bits;rw[QH,V0];constructor
 .rintro⟨a,h2⟩;rw[w8 h a]at h2;exact Sm h2
 .intro q;exact⟨h.2 x q,by rw[w8 h (h.2 x q)];exact decide_eq_true q⟩
def HG(h:x<7):bZ (VN 7) x=x:=by
 have:=tY (U:=VN 7) (i:=x) S6 ⇑h;rwa[Tj]at this
def mR(h:∀x∈c,x<7):cd c=c9 (c.map λx=>2 ^ x):=by
 unfold cd bC;exact Rc c9 (Qq λx a=>by rw[HG (h x a)])
theorem q9:∀as bs:List Nat,c9 (as++bs)=c9 as ^^^ c9 bs
 |[],bs=>(S5 _).symm
 |a::as,bs=>by
  show a ^^^ c9 (as++bs)=(a ^^^ c9 as) ^^^ c9 bs;rw[q9 as,Ro]
def Ej(h:∀x∈a++b,x<7):cd (a++b)=cd a ^^^ cd b:=by
 rw[mR h,mR λx q=>h x (VZ _ q),mR λx q=>h x (Qd _ q),VT,q9]
def Ek(h:∀x∈c,x<7)(b:k<c.length):cd (c.take k++c.drop (k+1))=cd c ^^^ 2 ^ c[k]:=by
 have e:c=c.take k++c[k]::c.drop (k+1):=by rw[<- QY,QJ]
 have a:∀x∈c.take k++c.drop (k+1),x<7:=λx q=>h x (by
  rcases P8.mp q with q|q
  .exact S2 q
  .exact YJ q)
 have e2:c9 (c.map λx=>2 ^ x)=c9 ((c.take k).map λx=>2 ^ x) ^^^ (2 ^ c[k] ^^^ c9 ((c.drop (k+1)).map λx=>2 ^ x)):=by
  conv=>lhs;rw[e]
  rw[VT,q9];rfl
 rw[mR a,mR h,e2,VT,q9,U7 (2 ^ c[k]),<- Ro,hU]
def MS(h:eb c):g7 (cd c)=(VN c.length).map λk=>cd (c.take k++c.drop (k+1)):=by
 unfold g7;rw[wY h];refine ZQ (by simp) λk a h2=>?_
 rw[ZR,ZR,Tj,Ek h.2 ⇑a]
end au
end
section
namespace ba
open ζ aH cT dc
def nn(ts:List (List Int))(k:Nat):Nat:=(cl ts (k+1)).length
def fo(ts:List (List Int))(k:Nat):Nat:=eh (du ts (k+1))
def dm(ts:List (List Int))(k:Nat):Nat:=nn ts k-fo ts (k+1)-fo ts k
structure eK(ts:List (List Int))(e:Int->Nat)(d:Nat->Int):Prop where
 cell:∀{z:List Int},z∈bX ts->au.eb (z.map e)/\(z.map e).map d=z
def code(e:Int->Nat)(z:List Int):Nat:=au.cd (z.map e)
theorem eK.bits(h:eK ts e d)(hz:z∈bX ts):au.bits (code e z)=z.map e:=au.wY (h.cell hz).1
def eK.inv(h:eK ts e d)(hz:z∈bX ts):(au.bits (code e z)).map d=z:=by rw[h.bits hz];exact(h.cell hz).2
theorem eK.g7(h:eK ts e d)(hz:z∈bX ts):au.g7 (code e z)=(VN z.length).map λk=>code e (z.take k++z.drop (k+1)):=by
 unfold code;rw[au.MS (h.cell hz).1,VH];refine Qq λk _=>?_
 rw[VT,List.map_take,Y5]
theorem eK.cG(h:eK ts e d)(hz:z∈bX ts)(a:1<z.length):au.g7 (code e z)=(ba.cG z).map (code e):=by
 rw[h.g7 hz];unfold ba.cG;rw[if_pos a,VR];rfl
def oZ(z:List Int)(h:∀x∈z.map e,x<7):code e z<128:=by
 have:=qf (U:=VN 7) (xs:=z.map e) λx a=>V0.mpr (h x a)
 rwa[Wy]at this
def kd:z∈cl ts n<->z∈bX ts/\z.length=n:=by
 unfold cl;rw[QH];simp
def gJ(ts:List (List Int))(e:Int->Nat)(M:List Nat):Prop:=∀z,z∈M<->∃c∈bX ts,code e c=z
theorem gJ.lv(f:gJ ts e M)(h:eK ts e d):z∈au.lv M n<->∃c∈cl ts n,code e c=z:=by
 unfold au.lv;rw[QH,f];constructor
 .rintro⟨⟨c,a,rfl⟩,q⟩;rw[h.bits a,VH]at q;exact⟨c,kd.mpr ⟨a,⇑q⟩,rfl⟩
 .rintro⟨c,a,rfl⟩;obtain⟨b,h2⟩:=kd.mp a;refine⟨⟨c,b,rfl⟩,?_⟩;rw[h.bits b,VH,h2];simp
def HF(h:x<128):bZ (VN 128) x=x:=by
 have:=tY (U:=VN 128) (i:=x) S6 ⇑h;rwa[Tj]at this
theorem gJ.fo(i:gJ ts e M)(h:eK ts e d)(j:∀t∈ts,IsCell m t)(k:Nat):ba.fo ts k=au.fo M (k+1):=by
 unfold ba.fo au.fo du;show eh ((cl ts (k+1)).map λc=>bC (cl ts k) (ba.cG c))=_
 by_cases k0:k+1<2
 .rw[if_pos k0];have:((cl ts (k+1)).map λc=>bC (cl ts k) (ba.cG c))=(cl ts (k+1)).map λ_=>0:=Qq λc b=>by
   have l:=(kv.mp b).1;unfold ba.cG;rw[if_neg ⋯];rfl
  rw[this];have:eh ((cl ts (k+1)).map λ_=>0)=eh []:=AY λx=>⟨d1 λa g=>by
   obtain⟨_,_,rfl⟩:=VM.mp g;exact oa _,d1 λa g=>nomatch g⟩
  rw[this];rfl
 .rw[if_neg k0];have e1:=Lz (U:=cl ts (k+1)) (V:=cl ts k) (V':=VN 128) (sd:=ba.cG) (code e) (λz=>(au.bits z).map d) λc b y f=>by
   have f:=mV j b f;have n:=(kd.mp f).1;exact⟨f,V0.mpr (oZ y (h.cell n).1.2),h.inv n⟩
  rw[<- e1,IH];refine LD λx=>?_
  have e2:∀c∈cl ts (k+1),bC (VN 128) ((ba.cG c).map (code e))=au.col (code e c):=λc b=>by
   obtain⟨o,h2⟩:=kd.mp b;unfold au.col bC;rw[h.cG o ⋯];refine Rc c9 (Qq λy f=>?_);obtain⟨z,hz,rfl⟩:=VM.mp f;rw[HF (oZ z (h.cell (kd.mp (mV j b hz)).1).1.2)]
  rw[VM,VM];constructor
  .rintro⟨c,b,rfl⟩;exact⟨code e c,(i.lv h).mpr ⟨c,b,rfl⟩,(e2 c b).symm⟩
  .rintro⟨z,hz,rfl⟩;obtain⟨c,b,rfl⟩:=(i.lv h).mp hz;exact⟨c,b,e2 c b⟩
theorem gJ.nn(c:gJ ts e M)(h:eK ts e d)(i:M.Nodup)(k:Nat):ba.nn ts k=(au.lv M (k+1)).length:=by
 unfold ba.nn;have p:((cl ts (k+1)).map (code e)).Perm (au.lv M (k+1)):=by
  refine Al ?_ (i.filter _) λz=>?_
  .rw[R4,QT];refine QN (λ{a b} f g (q:a≠b) e=>q ?_) (R4.mp (lj ts (k+1)));rw[<- h.inv (kd.mp f).1,e,h.inv (kd.mp g).1]
  .rw[c.lv h,VM]
 have:=p.length_eq;rwa[VH]at this
theorem gJ.dm(a:gJ ts e M)(h:eK ts e d)(b:∀t∈ts,IsCell m t)(c:M.Nodup):((VN 7).map λk=>((ba.dm ts k:Nat):Int))=au.jh M:=by
 unfold au.jh ba.dm;refine Qq λk _=>?_
 rw[a.nn h c,a.fo h b,a.fo h b]
abbrev aO(m:Int)(u:List Int):List Int:=u.map (·+m)
abbrev cJ(m x:Int):Nat:=if x<m then x.toNat else 4+(x-m).toNat
abbrev f9(m:Int)(v:Nat):Int:=if v<4 then(v:Int) else m+((v-4:Nat):Int)
abbrev dO(x:Int):Nat:=4+x.toNat
abbrev o1(v:Nat):Int:=((v-4:Nat):Int)
section
variable{m k:Int}
def o4(h:IsCell m t)(h4:m<=4):au.eb (t.map (cJ m))/\(∀x∈t.map (cJ m),x<4)/\(t.map (cJ m)).map (f9 m)=t:=by
 obtain⟨_,d,h2⟩:=h;have q:∀x∈t,cJ m x=x.toNat/\x.toNat<4:=λx c=>by
  have:=d x c;unfold cJ;rw[if_pos this.2];exact⟨rfl,⋯⟩
 have g:∀x∈t.map (cJ m),x<4:=λx c=>by
  obtain⟨y,f,rfl⟩:=VM.mp c;rw[(q y f).1];exact(q y f).2
 refine⟨⟨?_,λx c=>by have:=g x c;lia⟩,g,?_⟩
 .rw[QT];refine QN (λ{a b} e i (z:ltI a b=J)=>?_) h2;have z:=Sm z;rw[(q a e).1,(q b i).1];have:=d a e;lia
 .rw[VR];refine(Qq λx c=>?_).trans (Si t);show f9 m (cJ m x)=x;have:=d x c;rw[(q x c).1];unfold f9;rw[if_pos (q x c).2];lia
def m7(h:IsCell k u)(h3:k<=3):au.eb (u.map dO)/\(∀x∈u.map dO,4<=x)/\(u.map dO).map o1=u:=by
 obtain⟨_,d,h2⟩:=h;have q:∀x∈u.map dO,4<=x/\x<7:=λx c=>by
  obtain⟨y,f,rfl⟩:=VM.mp c;have:=d y f;unfold dO;lia
 refine⟨⟨?_,λx c=>(q x c).2⟩,λx c=>(q x c).1,?_⟩
 .rw[QT];refine QN (λ{a b} e g (z:ltI a b=J)=>?_) h2;have z:=Sm z;have:=d a e;unfold dO;lia
 .rw[VR];refine(Qq λx c=>?_).trans (Si u);show o1 (dO x)=x;have:=d x c;unfold o1 dO;lia
def tj(h:∀x∈u,0<=x):(aO m u).map (cJ m)=u.map dO:=by
 unfold aO;rw[VR];refine Qq λx a=>?_
 show cJ m (x+m)=dO x;have:=h x a;unfold cJ dO;rw[if_neg ⋯];congr 1;congr 1;lia
def xt(h:IsCell k u)(h3:k<=3):(u.map dO).map (f9 m)=aO m u:=by
 unfold aO;rw[VR];refine Qq λx a=>?_
 show f9 m (dO x)=x+m;have:=h.2.1 x a;unfold f9 dO;rw[if_neg ⋯];lia
def fC(d:∀t∈ts,IsCell m t)(hz:z∈bX ts):IsCell m z:=by
 obtain⟨h0,t,c,h2⟩:=ew.mp hz;obtain⟨_,a,b⟩:=d t c;exact⟨h0,λx e=>a x (h2.subset e),Q5 h2 b⟩
def oW(a:∀t∈ts,IsCell m t)(h4:m<=4):eK ts (cJ m) (f9 m):=⟨λhz=>⟨(o4 (fC a hz) h4).1,(o4 (fC a hz) h4).2.2⟩⟩
def s8(a:∀u∈b,IsCell k u)(h3:k<=3):eK b dO o1:=⟨λhz=>⟨(m7 (fC a hz) h3).1,(m7 (fC a hz) h3).2.2⟩⟩
def fS(cs:List Nat)(ts:List (List Int))(e:Int->Nat):List Nat:=cs.filter λz=>(bX ts).any λc=>code e c==z
def rF:((bX ts).any λc=>code e c==z)=J<->∃c∈bX ts,code e c=z:=by
 rw[TZ];simp
def kz(h:∀c∈bX ts,code e c∈cs):gJ ts e (fS cs ts e):=λz=>by
 unfold fS;rw[QH,rF];exact⟨λq=>q.2,λ⟨c,a,q⟩=>⟨q▸h c a,c,a,q⟩⟩
def zF(h:eK ts e d)(i:au.inOrder cs=J):fS cs ts e∈au.gen cs:=au.yv i λc _ g x b=>by
 obtain⟨z,hz,rfl⟩:=rF.mp g;rw[h.g7 hz]at b;obtain⟨j,a,rfl⟩:=VM.mp b;have a:=V0.mp a
 by_cases q:z.take j++z.drop (j+1)=[]
 .exact .inl (by rw[q];rfl)
 .refine .inr (rF.mpr ⟨_,ew.mpr ⟨q,?_⟩,rfl⟩);obtain⟨_,t,f,h2⟩:=ew.mp hz;refine⟨t,f,Zh ?_ h2⟩
  conv=>rhs;rw[<- QJ j z]
  exact List.Sublist.append_left (by rw[<- Ut];exact List.drop_sublist ..) _
def in4:∀z<128,(au.bits z).all (λv=>decide (v<4))=J->au.bits z≠[]->z∈au.bJ:=by decide +kernel
def Hk:∀z<128,(au.bits z).all (λv=>decide (4<=v))=J->au.bits z≠[]->z∈au.bg:=by decide +kernel
def oY(d:∀t∈ts,IsCell m t)(h4:m<=4):∀c∈bX ts,code (cJ m) c∈au.bJ:=λc a=>by
 have b:=(oW d h4).bits a;have q:=o4 (fC d a) h4;refine in4 _ (oZ c q.1.2) ?_ ?_
 .rw[b];exact Qr.mpr λx e=>decide_eq_true (q.2.1 x e)
 .rw[b];exact λz=>(fC d a).1 (Ss.mp z)
def oX(d:∀u∈f,IsCell k u)(h3:k<=3):∀c∈bX f,code dO c∈au.bg:=λc a=>by
 have b:=(s8 d h3).bits a;have q:=m7 (fC d a) h3;refine Hk _ (oZ c q.1.2) ?_ ?_
 .rw[b];exact Qr.mpr λx e=>decide_eq_true (q.2.1 x e)
 .rw[b];exact λz=>(fC d a).1 (Ss.mp z)
def JE:au.bJ.Nodup:=by decide +kernel
def JD:au.bg.Nodup:=by decide +kernel
def JF:(au.join au.bJ au.bg).Nodup:=by decide +kernel
def GB{S c T d:List Nat}(f:Nat->Nat->Nat)(h:S.Sublist c)(g:T.Sublist d):(S.flatMap λa=>T.map (f a)).Sublist (c.flatMap λa=>d.map (f a)):=by
 induction h with
 |slnil=>exact Sl _
 |cons a _ b=>rw[RV];exact b.trans (XF ..)
 |cons_cons a _ b=>rw[RV,RV];exact(g.map _).append b
def yY{S T:List Nat}(h:S.Sublist au.bJ)(g:T.Sublist au.bg):(au.join S T).Nodup:=JF.sublist ((h.append g).append (GB _ h g))
def Nq{z a b:List Int}:z.Sublist (a++b)<->∃x y,z=x++y/\x.Sublist a/\y.Sublist b:=by
 rw[X3]
def vt:y.Sublist (aO m u)<->∃w,y=aO m w/\w.Sublist u:=by
 unfold aO;rw[List.sublist_map_iff];exact⟨λ⟨w,a,b⟩=>⟨w,b,a⟩,λ⟨w,a,b⟩=>⟨w,b,a⟩⟩
def mX{y:List Int}(h:∀x∈y,0<=x):code (cJ m) (aO m y)=code dO y:=by unfold code;rw[tj h]
def w0(h4:m<=4)(h3:k<=3)(f:IsCell m t)(d:IsCell k u):au.eb ((t++aO m u).map (cJ m))/\((t++aO m u).map (cJ m)).map (f9 m)=t++aO m u:=by
 have a:=o4 f h4;have b:=m7 d h3;have e:=tj (m:=m) λx c=>(d.2.1 x c).1
 rw[VT,e];refine⟨⟨Qe.mpr ⟨a.1.1,b.1.1,λx c y g=>P2 (a.2.1 x c) (b.2.1 y g)⟩,λx c=>?_⟩,?_⟩
 .rcases P8.mp c with q|q
  .exact a.1.2 x q
  .exact b.1.2 x q
 .rw[VT,a.2.2,xt d h3]
def Nr{w z:List Int}(h:au.eb (w.map (cJ m))/\(w.map (cJ m)).map (f9 m)=w)(hz:z.Sublist w):au.eb (z.map (cJ m))/\(z.map (cJ m)).map (f9 m)=z:=by
 have q:=hz.map (cJ m);refine⟨⟨h.1.1.sublist q,λx a=>h.1.2 x (q.subset a)⟩,?_⟩;rw[VR]at h ⊢;have h2:=h.2;refine(Qq λx a=>?_).trans (Si z);have a:=hz.subset a;have:w.map (f9 m ∘ cJ m)=w.map id:=by rw[h2,Si]
 exact List.map_inj_left.mp this x a
structure iU(m:Int)(ts us ws:List (List Int)):Prop where
 mem:∀z,z∈bX ws<->z≠[]/\∃t∈ts,∃u∈us,z.Sublist (t++aO m u)
structure iK(m:Int)(ts us ws:List (List Int)):Prop where
 mem:∀z,z∈bX ws<->z∈bX ts\/∃y∈bX us,z=aO m y
section
variable{ts us ws:List (List Int)}(ji:∀t∈ts,IsCell m t)(h4:m<=4)(gz:∀u∈us,IsCell k u)(h3:k<=3)
include ji h4 gz h3
def iU.s7(h:iU m ts us ws):eK ws (cJ m) (f9 m):=⟨λhz=>by
 obtain⟨_,t,a,u,b,q⟩:=(h.mem _).mp hz;exact Nr (w0 h4 h3 (ji t a) (gz u b)) q⟩
def iK.s7(h:iK m ts us ws):eK ws (cJ m) (f9 m):=⟨λhz=>by
 rcases(h.mem _).mp hz with q|⟨y,q,rfl⟩
 .exact(oW ji h4).cell q
 .have c:=fC gz q;have b:=m7 c h3;rw[tj λx a=>(c.2.1 x a).1];exact⟨b.1,xt c h3⟩⟩
def iK.has(h:iK m ts us ws):gJ ws (cJ m) (fS au.bJ ts (cJ m)++fS au.bg us dO):=λz=>by
 have a:=kz (oY ji h4) z;have b:=kz (oX gz h3) z;rw[P8,a,b];constructor
 .rintro(⟨c,d,q⟩|⟨c,d,q⟩)
  .exact⟨c,(h.mem c).mpr (.inl d),q⟩
  .exact⟨aO m c,(h.mem _).mpr (.inr ⟨c,d,rfl⟩),by rw[mX λx e=>((fC gz d).2.1 x e).1];exact q⟩
 .rintro⟨c,d,q⟩;rcases(h.mem c).mp d with p|⟨y,p,rfl⟩
  .exact .inl ⟨c,p,q⟩
  .exact .inr ⟨y,p,by rw[mX λx e=>((fC gz p).2.1 x e).1]at q;exact q⟩
def xi{x y:List Int}(d:x∈bX ts)(e:y∈bX us):code (cJ m) (x++aO m y)=code (cJ m) x ^^^ code dO y:=by
 have c:=fC ji d;have a:=fC gz e;have b:=w0 h4 h3 c a;rw[<- mX λz hz=>(a.2.1 z hz).1];unfold code;rw[VT]at b ⊢;exact au.Ej b.1.2
def iU.has(v:ts≠[])(w:us≠[])(h:iU m ts us ws):gJ ws (cJ m) (au.join (fS au.bJ ts (cJ m)) (fS au.bg us dO)):=λz=>by
 have a:=λz=>kz (oY ji h4) z
 have b:=λz=>kz (oX gz h3) z
 unfold au.join;rw[P8,P8,a,b,Ta];constructor
 .rintro((⟨c,g,q⟩|⟨c,g,q⟩)|⟨i,hi,hz⟩)
  .obtain⟨n,t,p,r⟩:=ew.mp g;cases us with
   |nil=>exact absurd rfl w
   |cons u us=>exact⟨c,(h.mem c).mpr ⟨n,t,p,u,VE,r.trans (XW ..)⟩,q⟩
  .obtain⟨n,u,p,r⟩:=ew.mp g;cases ts with
   |nil=>exact absurd rfl v
   |cons t ts =>
    refine⟨aO m c,(h.mem _).mpr ⟨λe=>n (Ss.mp e),t,VE,u,p,Zh (r.map _) (XF ..)⟩,?_⟩;rw[mX λx d=>((fC gz g).2.1 x d).1];exact q
  .obtain⟨j,s,rfl⟩:=VM.mp hz;obtain⟨x,d,rfl⟩:=(a i).mp hi;obtain⟨y,f,rfl⟩:=(b j).mp s;refine⟨x++aO m y,(h.mem _).mpr ?_,xi ji h4 gz h3 d f⟩;obtain⟨n,t,p,r⟩:=ew.mp d;obtain⟨_,u,l,C⟩:=ew.mp f;exact⟨λe=>n (SI.mp e).1,t,p,u,l,r.append (C.map _)⟩
 .rintro⟨c,g,q⟩;obtain⟨n,t,p,u,l,r⟩:=(h.mem c).mp g;obtain⟨x,y,rfl,F,G⟩:=Nq.mp r;obtain⟨y,rfl,o⟩:=vt.mp G
  by_cases d:x=[]
  .subst d;have f:y∈bX us:=ew.mpr ⟨λe=>n (by rw[e];rfl),u,l,o⟩;exact .inl (.inr ⟨y,f,by rw[WV,mX λx d=>((fC gz f).2.1 x d).1]at q;exact q⟩)
  .have d:x∈bX ts:=ew.mpr ⟨d,t,p,F⟩
   by_cases f:y=[]
   .subst f;exact .inl (.inl ⟨x,d,by rw[show aO m []=[] from rfl,QQ]at q;exact q⟩)
   .have f:y∈bX us:=ew.mpr ⟨f,u,l,o⟩;refine .inr ⟨code (cJ m) x,(a _).mpr ⟨x,d,rfl⟩,VM.mpr ⟨code dO y,(b _).mpr ⟨y,f,rfl⟩,?_⟩⟩;rw[<- xi ji h4 gz h3 d f];exact q
end
def cP(ts:List (List Int)):List Int:=(VN 7).map λk=>((dm ts k:Nat):Int)
def zG{cs:List Nat}(h:∀c∈bX ts,code e c∈cs)(a:bX ts≠[]):(fS cs ts e).isEmpty=false:=by
 cases q:bX ts with
 |nil=>exact absurd q a
 |cons c _ =>
  have:code e c∈fS cs ts e:=(kz h _).mpr ⟨c,by rw[q];exact VE,rfl⟩;cases r:fS cs ts e with
  |nil=>rw[r]at this;cases this
  |cons _ _=>rfl
def xZ(a:∀t∈ts,IsCell m t)(h:ts≠[]):bX ts≠[]:=by
 cases ts with
 |nil=>exact absurd rfl h
 |cons t ts=>exact List.ne_nil_of_mem (ew.mpr ⟨(a t VE).1,t,VE,Sl _⟩)
def u4(s:au.all=J){ts c f e:List (List Int)}{y z:Int}(a:∀t∈ts,IsCell m t)(h4:m<=4)(b:∀u∈c,IsCell k u)(h3:k<=3)(g:ts≠[])(h:c≠[])(hw:iU m ts c f)(x:∀w∈f,IsCell y w)(i:iK m ts c e)(v:∀w∈e,IsCell z w):
  au.less (cP f)=au.prod (au.less (cP ts)) (au.less (cP c))/\cP e=au.add (cP ts) (cP c):=by
 have r:=zF (oW a h4) au.J2;have p:=zF (s8 b h3) au.J1;have q:=Qr.mp (Qr.mp s _ r) _ p;rw[zG (oY a h4) (xZ a g),zG (oX b h3) (xZ b h)]at q;have q:au.kb (fS au.bJ ts (cJ m)) (fS au.bg c dO)=true:=q;unfold au.kb at q;rw[PW,QC,QC]at q;have d:(fS au.bJ ts (cJ m)).Sublist au.bJ:=RZ;have s3:(fS au.bg c dO).Sublist au.bg:=RZ;have j:=(kz (oY a h4)).dm (oW a h4) a (JE.sublist d);have l:=(kz (oX b h3)).dm (s8 b h3) b (JD.sublist s3);have o:=(iU.has a h4 b h3 g h hw).dm (iU.s7 a h4 b h3 hw) x (yY d s3);have n:=(iK.has a h4 b h3 i).dm (iK.s7 a h4 b h3 i) v ((yY d s3).sublist (XW ..));unfold cP;rw[j,l,o,n];exact q
end
variable{pg:cw}{Φ:da}
def AV(ts)(k):(bK [] (cK (du ts (k+1)))).length=fo ts k:=by
 unfold fo;rw[LF,Jb]
def Told.sum(h:Told ts n G):dm ts n=G.length:=by
 have:=h.len;rw[AV,AV]at this;have this:G.length+fo ts (n+1)+fo ts n=nn ts n:=this;unfold dm;lia
def Iy(c o):bb pg Φ ⟨2,0,ak.sb⟩ [af c,af o]=.ok (.ag (lies c o)):=by
 have e1:bx (elem pg Φ [Z (af c),Z (af o)] (.cmp .mem 2e0 1e0) 0 .none) (c.map .int)=.ok (c.map λx=>.ag (decide (x∈o))):=s9 λx _=>by
  simp!;unfold af;simp![zA]
 simp![ak.sb,kI,e1,C4,lies]
def Iz(b:∀c o:List Int,Φ f [af c,af o]=.ok (.ag (lies c o)))(c)(a:List (List Int)):bb pg Φ ⟨2,0,ak.se f⟩ [af c,.lst (a.map af)]=.ok (.ag (a.any (lies c))):=by
 have e1:bx (elem pg Φ [Z (af c),Z (.lst (a.map af))] (.call f {0e0,2e0}) 0 .none) (a.map af)=.ok (a.map λo=>.ag (lies c o)):=fE λo _=>by simp![b]
 simp![ak.se,e1,De]
def OZ(h:∀(c:List Int)(i:List (List Int)),Φ f [af c,.lst (i.map af)]=.ok (.ag (i.any (lies c)))){cs:List (List Int)}(m:∀c∈cs,c≠[])(b:(b4 cs).length<=255):
  bb pg Φ ⟨1,4,ak.sr f⟩ [.lst (cs.map af)]=.ok (.tup ((bD cs).map af)):=by
 simp![ak.sr,vq m b];have t:(bz lexLt (b4 cs)).length<=255:=by rw[nA];exact b
 unfold bD;generalize bz lexLt (b4 cs)=ds at *;generalize D.lst (cs.map af)=d;obtain⟨v,e,x,y,l⟩:=fh (f:=af) (g:=turn pg Φ 0 [3] {.asg 4 (.comp 5e0 0 (.seq 1e0) (.some (.cmp .gt (.prim .len 5e0) (.prim .len 3e0)))),.iff (.not (.call f {3e0,4e0})) {.app 2 3e0} .nil})
  (λp j=>∃(x y:Option D),j=[Z d,Z (.lst (ds.map af)),Z (.lst ((p.filter λc=>!(ds.filter λo=>decide (c.length<o.length)).any (lies c)).map af)),x,y])
  ds [Z d,Z (.lst (ds.map af)),Z (.lst []),Y,Y] ⟨Y,Y,rfl⟩ (λpre c post j n r=>by
   obtain⟨x,y,k⟩:=r;subst k;have u:pre.length+1<=ds.length:=(by rw[n];simp);have e1:∀z,bx (elem pg Φ [Z d,Z (.lst (ds.map af)),z,Z (af c),y] 5e0 0 (.some (.cmp .gt (.prim .len 5e0) (.prim .len 3e0)))) (ds.map af)=.ok ((ds.filter λo=>decide (c.length<o.length)).map af):=λz=>ke λo _=>by
    simp![lK]
    by_cases q:c.length<o.length
    .have a:(c.length:Int)<(o.length:Int):=⋯;simp only[decide_eq_true q,decide_eq_true a,Q3]
    .have a:¬(c.length:Int)<(o.length:Int):=⋯;simp only[decide_eq_false q,decide_eq_false a,PZ,Qs]
   have s:=SV (λc:List Int=>!(ds.filter λo=>decide (c.length<o.length)).any (lies c)) pre;cases q:(ds.filter λo=>decide (c.length<o.length)).any (lies c) with
   |true =>
    refine⟨_,by simp![e1,h,q];rfl,Z (af c),_,by rw[ye pre (by rw[q];rfl)]⟩
   |false =>
    have h5:=rH ((pre.filter λc=>!(ds.filter λo=>decide (c.length<o.length)).any (lies c)).map af) (af c) (by rw[VH,eB];lia);refine⟨_,by simp![e1,h,q,h5];rfl,Z (af c),_,by rw[yf pre (by rw[q];rfl),VT];rfl⟩)
 rw[e,l];simp!
structure df(d:D)(k:Int)(us:List (List Int)):Prop where
 n:c4 d (.int 0)=.ok (.int k)
 t:∃x f,c4 d (.int 1)=.ok x/\md x=.ok (us.map f)/\∀u:List Int,md (f u)=.ok (u.map .int)
abbrev y4(u:List Int):D:=.kt (u.map .int)
def hA(m:Int)(a:List (List Int)):D:=.kt [.int m,.kt (a.map y4)]
theorem df.aj(m us):df (aj m us) m us:=⟨rfl,_,af,rfl,rfl,λ_=>rfl⟩
theorem df.hA(m us):df (hA m us) m us:=⟨rfl,_,y4,rfl,rfl,λ_=>rfl⟩
def Bw(m:Int)(u:List Int):(aO m u).map D.int=u.map λx=>D.int (x+m):=by unfold aO;rw[VR];rfl
def Jn{f:List Int->D}(b:∀u:List Int,md (f u)=.ok (u.map .int))(d:D)(m:Int)(a:List (List Int)):bx (elem pg Φ [Z d,Z (.int m)] (.tupI (.seq (.comp (.bin .add 3e0 1e0) 0 (.ko 2e0) .none))) 0 .none) (a.map f)=.ok (a.map λu=>af (aO m u)):=fE λu _=>by
 have e1:bx (elem pg Φ [Z d,Z (.int m),Z (f u)] (.bin .add 3e0 1e0) 0 .none) (u.map .int)=.ok (u.map λx=>D.int (x+m)):=s9 λx _=>by simp!
 simp![xT,b,e1];unfold af;rw[Bw]
def Jj(h:df d k b)(m:Int):bb pg Φ ⟨2,0,ak.sh⟩ [d,.int m]=.ok (.tup ((b.map (aO m)).map af)):=by
 obtain⟨_,x,f,a,h2,h3⟩:=h;simp![xT,ak.sh,a,h2,Jn h3];rw[VR];rfl
def Ie(m k:Int)(a:List (List Int)):bb pg Φ ⟨2,0,ak.r4⟩ [aj k a,.int m]=.ok (.lst ((a.map (aO m)).map af)):=by
 have b:c4 (aj k a) (.int 1)=.ok (.tup (a.map af)):=rfl;have e2:bx (elem pg Φ [Z (aj k a),Z (.int m)] (.tupI (.seq (.comp (.bin .add 3e0 1e0) 0 (.seq 2e0) .none))) 0 .none) (a.map af)=.ok (a.map λu=>af (aO m u)):=fE λu _=>by
  have e1:bx (elem pg Φ [Z (aj k a),Z (.int m),Z (af u)] (.bin .add 3e0 1e0) 0 .none) (u.map .int)=.ok (u.map λx=>D.int (x+m)):=s9 λx _=>by simp!
  simp![kI,e1];unfold af;rw[Bw]
 simp![ak.r4,b,e2];rw[VR];rfl
def Hw(i):bb pg Φ ⟨1,0,ak.wL⟩ [.int i]=.ok (.ag J):=rfl
def Hv(hw:Φ f [.int i]=.ok (.ag J))(b:pg.cs[g]?=Z (.int 8)):bb pg Φ ⟨1,0,ak.rW f g⟩ [.int i]=.ok (.ag (decide (1<=i/\i<=8))):=by
 simp![ak.rW,hw,FT,EE,pb g b]
 by_cases q:1<=i
 .by_cases a:i<=8
  .simp only[decide_eq_true q,decide_eq_true a,decide_eq_true (And.intro q a),Q3,R.eX,qF,o6]
  .rw[decide_eq_false (λz:1<=i/\i<=8=>a z.2)];simp only[decide_eq_true q,decide_eq_false a,Q3,R.eX,qF,o6]
 .rw[decide_eq_false (λz:1<=i/\i<=8=>q z.1)];simp only[decide_eq_false q,PZ,Qs,R.eX,qF,o6]
section
variable(hm:∀i:Int,Φ yi [.int i]=.ok (.ag (decide (1<=i/\i<=8))))(pz:df a m ts)(tQ:df b k us)
include hm pz tQ
def ES(d:1<=m+k)(e:m+k<=8):bb pg Φ ⟨2,1,ak.mL yi c⟩ [a,b]=.ok (.int (m+k)):=by
 simp![ak.mL,pz.n,tQ.n,hm,decide_eq_true (And.intro d e)]
def ER(d:8<m+k):bb pg Φ ⟨2,1,ak.mL yi c⟩ [a,b]=.exc c:=by
 simp![ak.mL,pz.n,tQ.n,hm,decide_eq_false (λz:1<=m+k/\m+k<=8=>Int.not_le.mpr d z.2),Gf,qE,tl]
end
def DO(c:Φ b [aj m ts,aj k a]=.ok (.int (m+k)))(d:Φ fv [aj k a,.int m]=.ok (.tup ((a.map (aO m)).map af)))(g:ts.length+a.length<=1000):bb pg Φ ⟨2,1,ak.mK fv b⟩ [aj m ts,aj k a]=.ok (aj (m+k) (ts++a.map (aO m))):=by
 have e:c4 (aj m ts) (.int 0)=.ok (.int m):=rfl;have f:c4 (aj m ts) (.int 1)=.ok (.tup (ts.map af)):=rfl;simp![ak.mK,c,d,e,f,k6];rw[if_pos (by simp only[VH];rw[eB];lia)];unfold aj;rw[VT];rfl
def DN(e:Φ d [a,b]=.exc c):bb pg Φ ⟨2,1,ak.mK fv d⟩ [a,b]=.exc c:=by
 simp![ak.mK,e,qE,tl]
def cQ(m:Int)(ts a:List (List Int)):List (List Int):=(a.map (aO m)).flatMap λu=>ts.map (·++u)
def wo(a:t.length+u.length<=1000):cA .add (af t) (af u)=.ok (af (t++u)):=by
 unfold af;rw[k6,if_pos (by simp only[VH];rw[eB];lia),VT]
def J5(p:Φ j [aj m ts,b]=.ok (.int (m+k)))(y:Φ fv [b,.int m]=.ok (.tup ((a.map (aO m)).map af)))(c:Φ d [.lst ((cQ m ts a).map af)]=.ok (.tup ((bD (cQ m ts a)).map af)))(r:ts.length<=255)(K:a.length<=255)(l:∀t∈ts,t.length<=8)(n:∀u∈a,u.length<=8):bb pg Φ ⟨2,3,ak.mM d fv j⟩ [aj m ts,b]=.ok (aj (m+k) (bD (cQ m ts a))):=by
 have C:c4 (aj m ts) (.int 0)=.ok (.int m):=rfl;have F:c4 (aj m ts) (.int 1)=.ok (.tup (ts.map af)):=rfl;simp![ak.mM,p,y,C];obtain⟨P,e,x,q⟩:=fh (f:=af) (g:=turn pg Φ 0 [4] {.ext 3 (.comp (.bin .add 5e0 4e0) 0 (.seq (.idx 0e0 1e1)) .none)})
  (λG i=>∃x:Option D,i=[Z (aj m ts),Z b,Z (.int (m+k)),Z (.lst ((G.flatMap λu=>ts.map (·++u)).map af)),x])
  (a.map (aO m)) [Z (aj m ts),Z b,Z (.int (m+k)),Z (.lst []),Y] ⟨Y,rfl⟩ (λpre u post i h H=>by
   obtain⟨x,o⟩:=H;subst o;have L:pre.length+1<=a.length:=(by have:=Rc XH h;simp at this;lia);have N:u.length<=8:=by
    have s:u∈a.map (aO m):=(by rw[h];simp);obtain⟨w,hw,rfl⟩:=VM.mp s;unfold aO;rw[VH];exact n w hw
   have e1:∀z,bx (elem pg Φ [Z (aj m ts),Z b,Z (.int (m+k)),z,Z (af u)] (.bin .add 5e0 4e0) 0 .none) (ts.map af)=.ok (ts.map λt=>af (t++u)):=λz=>fE λt v=>by
    have:=l t v;simp![wo (t:=t) (u:=u) ⋯]
   have M:=ng (f:=λu:List Int=>ts.map (·++u)) (k:=255) (xs:=pre) λu _=>by rw[VH];exact r
   rw[Tc,VT];refine⟨_,by simp![x4,F,e1,ya];rw[if_pos (by simp only[VH];rw[eB];lia)];simp!;rfl,Z (af u),?_⟩;simp only[RV,ZS,QQ,VR];rfl)
 rw[e,q];have c:Φ d [.lst (((a.map (aO m)).flatMap λu=>ts.map (·++u)).map af)]=.ok (.tup ((bD (cQ m ts a)).map af)):=c;simp![Gi,c];rfl
def J4(e:Φ d [a,b]=.exc c):bb pg Φ ⟨2,3,ak.mM f fv d⟩ [a,b]=.exc c:=by
 simp![ak.mM,e,qE,tl]
def Cc(c:pg.cs[g]?=Z x)(h:Φ b [a,x]=r):bb pg Φ ⟨1,0,ak.so b g⟩ [a]=r:=by
 simp![ak.so,pb g c,h];cases r<;>rfl
def Cm(c:pg.cs[g]?=Z x)(h:Φ b [a,x]=r):bb pg Φ ⟨1,0,ak.sq b g⟩ [a]=r:=by
 simp![ak.sq,pb g c,h];cases r<;>rfl
def lvl(m:Int)(ts a:List (List Int)):List (List Int):=ts.flatMap λt=>(a.map (aO m)).map (t++·)
def Ih(r:Φ fv [b,.int m]=.ok (.lst ((a.map (aO m)).map af)))(v:c4 b (.int 0)=.ok (.int k))(c:Φ ft [.lst ((lvl m ts a).map af)]=.ok (.tup ((gh (lvl m ts a)).map af)))(F:ts.length<=255)(p:a.length<=255)(j:∀t∈ts,t.length<=8)(l:∀u∈a,u.length<=8):bb pg Φ ⟨2,2,ak.r6 ft fv⟩ [aj m ts,b]=.ok (aj (m+k) (gh (lvl m ts a))):=by
 have h:c4 (aj m ts) (.int 0)=.ok (.int m):=rfl;have s:c4 (aj m ts) (.int 1)=.ok (.tup (ts.map af)):=rfl;simp![ak.r6,s];obtain⟨M,e,x,o⟩:=fh (f:=af) (g:=turn pg Φ 0 [3] {.asg 2 (.bin .add 2e0 (.comp (.bin .add 3e0 4e0) 0 (.seq (.call fv {1e0,.idx 0e0 0e1})) .none))})
  (λy i=>∃x:Option D,i=[Z (aj m ts),Z b,Z (.lst ((y.flatMap λt=>(a.map (aO m)).map (t++·)).map af)),x])
  ts [Z (aj m ts),Z b,Z (.lst []),Y] ⟨Y,rfl⟩ (λpre t post i d C=>by
   obtain⟨x,n⟩:=C;subst n;have G:pre.length+1<=ts.length:=(by rw[d];simp);have L:t.length<=8:=j t (by rw[d];simp);have e1:∀z,bx (elem pg Φ [Z (aj m ts),Z b,z,Z (af t)] (.bin .add 3e0 4e0) 0 .none) ((a.map (aO m)).map af)=.ok ((a.map (aO m)).map λu=>af (t++u)):=λz=>fE λu q=>by
    obtain⟨w,hw,rfl⟩:=VM.mp q;have:=l w hw;have K:(aO m w).length=w.length:=(by unfold aO;exact VH ..);simp![wo (t:=t) (u:=aO m w) ⋯]
   have H:=ng (f:=λt:List Int=>(a.map (aO m)).map (t++·)) (k:=255) (xs:=pre) λt _=>by rw[VH,VH];exact p
   rw[Tc,VT];refine⟨_,by simp![h,r,e1,j2];rw[if_pos (by simp only[VH];rw[eB];lia)];simp!;rfl,Z (af t),?_⟩;simp only[RV,ZS,QQ,VR];rfl)
 rw[e,o];have c:Φ ft [.lst ((ts.flatMap λt=>(a.map (aO m)).map (t++·)).map af)]=.ok (.tup ((gh (lvl m ts a)).map af)):=c;simp![h,v,c];rfl
abbrev g4(m:Nat)(ns:List Nat):Nat:=ns.foldl (λm x=>if x>m then x else m) m
theorem zM:∀(ns:List Nat)(m:Nat),m<=g4 m ns/\∀n∈ns,n<=g4 m ns
 |[],m=>⟨P0 _,λ_ h=>nomatch h⟩
 |x::ns,m=>by
  obtain⟨b,h2⟩:=zM ns (if x>m then x else m);have e:g4 m (x::ns)=g4 (if x>m then x else m) ns:=rfl;rw[e];have h3:m<=(if x>m then x else m)/\x<=(if x>m then x else m):=(by split<;>lia);refine⟨⋯,λn a=>?_⟩;rcases P1.mp a with rfl|a
  .omega
  .exact h2 n a
theorem zK:∀(ns:List Nat)(m:Nat),g4 m ns=m\/g4 m ns∈ns
 |[],m=>.inl rfl
 |x::ns,m=>by
  have e:g4 m (x::ns)=g4 (if x>m then x else m) ns:=rfl;rw[e];rcases zK ns (if x>m then x else m) with h|h
  .rw[h]
   by_cases q:x>m
   .rw[if_pos q];exact .inr VE
   .rw[if_neg q];exact .inl rfl
  .exact .inr (VJ _ h)
theorem zL:∀(ns:List Nat)(m:Nat),(ns.map λn:Nat=>(n:Int)).foldl (λm x=>if x>m then x else m) (m:Int)=(g4 m ns:Int)
 |[],m=>rfl
 |x::ns,m=>by
  show(ns.map λn:Nat=>(n:Int)).foldl (λm x=>if x>m then x else m) (if (x:Int)>(m:Int) then(x:Int) else(m:Int))=(g4 (if x>m then x else m) ns:Int);have:(if (x:Int)>(m:Int) then(x:Int) else(m:Int))=((if x>m then x else m:Nat):Int):=by
   by_cases q:x>m
   .rw[if_pos q,if_pos ⋯]
   .rw[if_neg q,if_neg ⋯]
  rw[this];exact zL ns _
def hi:List (List Int)->Nat
 |[]=>0
 |t::ts=>g4 t.length (ts.map (·.length))
def pB:∀t∈ts,t.length<=hi ts:=by
 cases ts with
 |nil=>intro t h;cases h
 |cons a ts =>
  intro t h;obtain⟨b,h2⟩:=zM (ts.map (·.length)) a.length;rcases P1.mp h with rfl|h
  .exact b
  .exact h2 _ (VM.mpr ⟨t,h,rfl⟩)
def pA(h:ts≠[]):∃t∈ts,t.length=hi ts:=by
 cases ts with
 |nil=>exact absurd rfl h
 |cons a ts =>
  rcases zK (ts.map (·.length)) a.length with q|q
  .exact⟨a,VE,q.symm⟩
  .obtain⟨t,b,h2⟩:=VM.mp q;exact⟨t,VJ _ b,h2⟩
def G5{n:Nat}(h:ts≠[])(e:∀t∈ts,t.length<=n)(h2:∃t∈ts,t.length=n):hi ts=n:=by
 obtain⟨t,a,b⟩:=pA h;obtain⟨u,c,d⟩:=h2;have:=e t a;have:=pB u c;lia
def I1(h:ts≠[]):hE (ts.map λt=>D.int (t.length:Int))=.ok (.int (hi ts:Int)):=by
 cases ts with
 |nil=>exact absurd rfl h
 |cons a ts =>
  have e:((a::ts).map λt=>D.int (t.length:Int))=((a::ts).map λt=>(t.length:Int)).map D.int:=(by rw[VR];rfl);unfold hE;rw[e,yO];show R.ok (D.int ((ts.map λt=>(t.length:Int)).foldl (λm x=>if x>m then x else m) (a.length:Int)))=_;have e2:(ts.map λt=>(t.length:Int))=(ts.map (·.length)).map λn:Nat=>(n:Int):=by rw[VR];rfl
  rw[e2,zL];rfl
def Hb(h:ts≠[])(e:hi ts<=8)(c:∀n:Nat,∃G:List Nat,Φ f [aj m ts,.int (n:Int)]=.ok (.tup (G.map (fD (cl ts (n+1)))))/\Told ts n G):bb pg Φ ⟨1,1,ak.rU f⟩ [aj m ts]=.ok (af ((VN (hi ts)).map λk=>(dm ts k:Int))):=by
 have d:c4 (aj m ts) (.int 1)=.ok (.tup (ts.map af)):=rfl;have e1:bx (elem pg Φ [Z (aj m ts),Y] (.prim .len 2e0) 0 .none) (ts.map af)=.ok (ts.map λt=>D.int (t.length:Int)):=fE λt _=>by simp![lK]
 have e2:bx (elem pg Φ [Z (aj m ts),Z (.int (hi ts:Int))] (.prim .len (.call f {0e0,2e0})) 0 .none) ((VN (hi ts)).map λk:Nat=>D.int (k:Int))=.ok ((VN (hi ts)).map λk=>D.int (dm ts k:Int)):=fE λk _=>by
  obtain⟨G,a,b⟩:=c k;simp![a,b.sum,VH]
 simp![ak.rU,d,e1,KW,I1 h,fV (i:=0) (j:=(hi ts:Int)) ⋯ ⋯ ⋯ ⋯,lY,e2];unfold af;rw[VR];rfl
def AH{k:Nat}(h:hi ts<=k):dm ts k=0:=by
 have:cl ts (k+1)=[]:=by
  rw[List.eq_nil_iff_forall_not_mem];intro z hz;obtain⟨a,_,t,h2,h3⟩:=kv.mp hz;have:=pB t h2;have:=h3.length_le;lia
 unfold dm nn;rw[this];simp
abbrev jE:Nat->List Int->List Int
 |0,xs=>xs
 |n+1,xs=>if xs.getLast?=Z 0 then jE n xs.dropLast else xs
def hN(xs:List Int):List Int:=jE xs.length xs
def BS(xs):hN (xs++[0])=hN xs:=by
 unfold hN;rw[PY];show jE (xs.length+1) (xs++[0])=_;rw[jE,if_pos (by simp),List.dropLast_concat]
theorem BU(f):∀k,(∀j,n<=j->f j=0)->hN ((VN (n+k)).map f)=hN ((VN n).map f)
 |0,_=>rfl
 |k+1,h=>by
  rw[<- RK,List.range_succ,VT,Zb,h (n+k) ⋯,BS,BU f k h]
def vs(xs):hN xs=au.trim xs:=vk (P:=λxs=>hN xs=au.trim xs) rfl (λxs x a=>by
 unfold au.trim at a ⊢;rw[Sr,List.reverse_singleton,Ys,List.dropWhile_cons]
 by_cases q:x=0
 .subst q;rw[BS,a];rfl
 .rw[if_neg ⇑q];unfold hN;rw[PY];show jE (xs.length+1) (xs++[x])=_;rw[jE,if_neg ⇑q];simp) xs
theorem CL(st:List Int->ay)(a:∀xs,c (st xs)=.ok (decide (xs.getLast?=Z 0)))(b:∀xs,xs≠[]->f (st xs)=.ok (.aN (st xs.dropLast))):∀(n k:Nat)(xs:List Int),xs.length=k->k<n->hT c f n (st xs)=.ok (.aN (st (jE k xs)))
 |0,_,_,_,h=>by lia
 |n+1,0,xs,e,_=>by
  rw[Sv e,hT,a];rfl
 |n+1,k+1,xs,e,h=>by
  rw[hT,a,jE]
  by_cases q:xs.getLast?=Z 0
  .rw[if_pos q,decide_eq_true q];simp only[R.eX,Q3,b xs (λz=>by rw[z]at e;cases e)];exact CL st a b n k xs.dropLast (by rw[YF];lia) ⋯
  .rw[if_neg q,decide_eq_false q];rfl
def H9(xs:List Int):oI pg Φ a (.ok (.ag (!decide (xs=[])))) e=.ok (.ag (decide (xs.getLast?=Z 0)))<->(xs≠[]->ev pg Φ a e=.ok (.ag (decide (xs.getLast?=Z 0)))):=by
 cases xs with
 |nil=>exact⟨λ_ h=>absurd rfl h,λ_=>rfl⟩
 |cons x xs =>
  rw[show(!decide (x::xs=[]))=J by simp,wt];exact⟨λh _=>h,λh=>h (by simp)⟩
def Hh(x:Int)(xs:List Int):c4 (.lst ((x::xs).map .int)) (.int (-1))=.ok (.int ((x::xs).getLastD 0)):=by
 rw[nr,VP,GP,<- VP,getLast?_map];rw[Zi,Zj,List.getLastD_eq_getLast?];rfl
def last_eq(x:Int)(xs:List Int):((x::xs).getLastD 0==0)=decide ((x::xs).getLast?=Z 0):=by
 rw[Zi,Zj,Z9];simp
def KO{xs:List Int}(a:xs≠[]):qs (Z (Z (.lst (xs.map .int))))=.ok (.lst (xs.dropLast.map .int)):=by
 rw[List.map_dropLast];cases xs with
 |nil=>exact absurd rfl a
 |cons x xs=>rfl
def CK{i:Nat}{st:List Int->ay}(hi:∀xs,(st xs)[i]?=Z (Z (.lst (xs.map .int))))(c:∀xs ys,(st xs).set i (Z (.lst (ys.map D.int)))=st ys)(xs:List Int)(b:xs.length<200):
  ex pg Φ (st xs) (.jM (.and (.cmp .ne (.var i) (.lst .nil)) (.cmp .eq (.idx (.var i) (.neg 1e1)) 0e1)) {.pop i})=.ok (.aN (st (hN xs))):=by
 rw[Gj];refine CL st (λxs=>?_) (λxs a=>?_) 200 xs.length xs rfl b
 .have e1:dG (.lst (xs.map .int)) (.lst [])=.ok (decide (xs=[])):=xN xs [];have e2:ev pg Φ (st xs) (.and (.cmp .ne (.var i) (.lst .nil)) (.cmp .eq (.idx (.var i) (.neg 1e1)) 0e1))=.ok (.ag (decide (xs.getLast?=Z 0))):=by
   rw[o9,tv,pd i (hi xs),xW,tr];simp only[R.eX,sZ,e1,zX];refine(H9 xs).mpr λa=>?_
   cases xs with
   |nil=>exact absurd rfl a
   |cons x xs =>
    simp only[tv,xV,xX,tw,wG,pd i (hi (x::xs)),R.eX,Hh,sY,xM,last_eq]
  rw[e2];rfl
 .rw[x1,Ge,hi,KO a];simp only[R.eX,Bm,x2,c]
def Ip(d:a.length<100):bb pg Φ ⟨1,1,ak.r1⟩ [af (h::a)]=.ok (.lst ((au.less (h::a)).map .int)):=by
 have hw:=CK (pg:=pg) (Φ:=Φ) (i:=1) (st:=λxs=>[Z (af (h::a)),Z (.lst (xs.map .int))]) (λ_=>rfl) (λ_ _=>rfl) ((h-1)::a) (by rw[VX];lia);have b:c4 (.lst ((h::a).map .int)) (.int 0)=.ok (.int h):=by rw[nr,VP,GO]
 have c:kJ (Z (Z (.lst ((h::a).map .int)))) (.int 0) (.int (h-1))=.ok (.lst (((h-1)::a).map .int)):=by
  rw[Bt];unfold putAt eu;rw[if_pos (Int.le_refl 0),if_pos (by simp)];rfl
 simp![ak.r1,nf,kI,b,x6,c,hw];unfold au.less;rw[vs]
def Io(b:1<=hi ts)(cP:hi ts<=7):au.less ((VN (hi ts)).map λk=>(dm ts k:Int))=au.less (ba.cP ts):=by
 have a:∀n,au.less ((VN (n+1)).map λk=>(dm ts k:Int))=hN ((VN (n+1)).map λk=>if k=0 then(dm ts 0:Int)-1 else(dm ts k:Int)):=λn=>by
  rw[TC,VP,VP,VR,VR,if_pos rfl];show au.trim _=_;rw[<- vs];rfl
 obtain⟨n,e⟩:∃n,hi ts=n+1:=⟨hi ts-1,⋯⟩;have r:=BU (n:=n+1) (λk=>if k=0 then(dm ts 0:Int)-1 else(dm ts k:Int)) (6-n) λj c=>by
  rw[if_neg ⋯,AH ⋯];rfl
 rw[e,a,<- r,show n+1+(6-n)=6+1 by lia,<- a];rfl
def pN{f:List Int}{k:Nat}(h:k<f.length):c4 (.lst (f.map .int)) (.int (k:Int))=.ok (.int (f.getD k 0)):=by
 rw[nr,pq,Qh,P4 h];simp[Wt,P4 h]
def MN{f:List Int}{k:Nat}(h:k<f.length)(v:Int):kJ (Z (Z (.lst (f.map .int)))) (.int (k:Int)) (.int v)=.ok (.lst ((f.set k v).map .int)):=by
 rw[Bt];unfold putAt eu;rw[if_pos (RE k),if_pos (by rw[VH];lia),Ws];dsimp only;rw[List.map_set]
def uE(n:Nat)(h:n<=1000):cA .mul (.lst [.int 0]) (.int (n:Int))=.ok (.lst ((VV n (0:Int)).map .int)):=by
 show(if 0<=(n:Int)/\(n:Int)<=1000/\[D.int 0].length<=1000 then R.ok (D.lst (VV (n:Int).toNat [D.int 0]).flatten) else .bad)=_;rw[if_pos ⟨⋯,⋯,∅⟩,Ws,List.flatten_replicate_singleton,List.map_replicate]
section
variable(xs ys:List Int)
abbrev nZ(k:Nat)(f:List Int)(n:Nat):List Int:=f.set (k+n+1) (f.getD (k+n+1) 0+xs.getD k 0*ys.getD n 0)
def pin(f:List Int)(k:Nat):List Int:=(VN ys.length).foldl (nZ xs ys k) f
theorem u3(k):∀(ns:List Nat)(f:List Int),(ns.foldl (nZ xs ys k) f).length=f.length
 |[],_=>rfl
 |n::ns,f=>by rw[W4,u3 k ns];unfold nZ;exact WA ..
theorem uZ:∀(a:List Nat)(f:List Int),(a.foldl (pin xs ys) f).length=f.length
 |[],_=>rfl
 |k::a,f=>by rw[W4,uZ a];exact u3 xs ys k _ f
def K0:au.prod xs ys=au.trim ((VN xs.length).foldl (pin xs ys) (VV (xs.length+ys.length) 0)):=rfl
variable{xs ys}
def K1(K:xs.length<=20)(L:ys.length<=20)(r:∀x∈xs,-1000<=x/\x<=1000):bb pg Φ ⟨2,3,ak.r7⟩ [.lst (xs.map .int),.lst (ys.map .int)]=.ok (.lst ((au.prod xs ys).map .int)):=by
 have q:∀b:List Int,hB (.lst (b.map .int))=.ok (.int (b.length:Int)):=λb=>by rw[y8,VH]
 have e0:((xs.length:Int)+(ys.length:Int))=((xs.length+ys.length:Nat):Int):=rfl;simp![ak.r7,q,e0,uE (xs.length+ys.length) ⋯,fV (i:=0) (j:=(xs.length:Int)) ⋯ ⋯ ⋯ ⋯,lY];obtain⟨C,e,x,y,h⟩:=fh (f:=λk:Nat=>D.int (k:Int)) (g:=turn pg Φ 0 [3] {.dX 0 [4] (.cF (.prim .len 1e0)) {.hK 2 (.bin .add (.bin .add 3e0 4e0) 1e1) (.bin .add (.idx 2e0 (.bin .add (.bin .add 3e0 4e0) 1e1)) (.bin .mul (.idx 0e0 3e0) (.idx 1e0 4e0)))}})
  (λo c=>∃x y:Option D,c=[Z (.lst (xs.map .int)),Z (.lst (ys.map .int)),Z (.lst ((o.foldl (pin xs ys) (VV (xs.length+ys.length) 0)).map .int)),x,y])
  (VN xs.length) [Z (.lst (xs.map .int)),Z (.lst (ys.map .int)),Z (.lst ((VV (xs.length+ys.length) (0:Int)).map .int)),Y,Y] ⟨Y,Y,rfl⟩ (λpre k post c m p=>by
   obtain⟨x,y,d⟩:=p;subst d;have l:k<xs.length:=V0.mp (by rw[m];simp);have a:=uZ xs ys pre (VV (xs.length+ys.length) 0);rw[Rp]at a;rw[Wc];generalize pre.foldl (pin xs ys) (VV (xs.length+ys.length) 0)=F at a;simp![q,fV (i:=0) (j:=(ys.length:Int)) ⋯ ⋯ ⋯ ⋯,lY];have H:-1000<=xs.getD k 0/\xs.getD k 0<=1000:=by
    have:xs.getD k 0∈xs:=(by rw[Rv,P4 l];exact S8 l);exact r _ this
   obtain⟨C,e,z,h⟩:=fh (f:=λn:Nat=>D.int (n:Int)) (g:=turn pg Φ 0 [4] {.hK 2 (.bin .add (.bin .add 3e0 4e0) 1e1) (.bin .add (.idx 2e0 (.bin .add (.bin .add 3e0 4e0) 1e1)) (.bin .mul (.idx 0e0 3e0) (.idx 1e0 4e0)))})
    (λo c=>∃y:Option D,c=[Z (.lst (xs.map .int)),Z (.lst (ys.map .int)),Z (.lst ((o.foldl (nZ xs ys k) F).map .int)),Z (.int (k:Int)),y])
    (VN ys.length) [Z (.lst (xs.map .int)),Z (.lst (ys.map .int)),Z (.lst (F.map .int)),Z (.int (k:Int)),y] ⟨y,rfl⟩ (λpre n post c m p=>by
     obtain⟨y,d⟩:=p;subst d;have t:n<ys.length:=V0.mp (by rw[m];simp);have s:=u3 xs ys k pre F;rw[Wc];generalize pre.foldl (nZ xs ys k) F=G at s;have e1:((k:Int)+(n:Int)+1)=((k+n+1:Nat):Int):=rfl;have u:=pN (f:=G) (k:=k+n+1) ⋯;have v:=hF (xs.getD k 0) (ys.getD n 0) (.inl (by rw[gF];lia));have w:=MN (f:=G) (k:=k+n+1) ⋯ (G.getD (k+n+1) 0+xs.getD k 0*ys.getD n 0);exact⟨_,by simp![x6,e1,u,pN l,pN t,v,w];rfl,Z (.int (n:Int)),rfl⟩)
   rw[e,h];exact⟨_,by simp!;rfl,Z (.int (k:Int)),z,rfl⟩)
 rw[e,h];have a:=uZ xs ys (VN xs.length) (VV (xs.length+ys.length) 0);rw[Rp]at a;rw[K0];generalize (VN xs.length).foldl (pin xs ys) (VV (xs.length+ys.length) 0)=F at a;have hw:=CK (pg:=pg) (Φ:=Φ) (i:=2) (st:=λb=>[Z (.lst (xs.map .int)),Z (.lst (ys.map .int)),Z (.lst (b.map .int)),x,y]) (λ_=>rfl) (λ_ _=>rfl) F ⋯;simp![hw,vs]
abbrev mG(xs ys:List Int):List Int:=(VN (max xs.length ys.length)).map λk=>xs.getD k 0+ys.getD k 0
def z9{a:List Int}{n k:Nat}(h:k<n)(b:a.length<=n):c4 (.lst ((a++VV (n-a.length) 0).map .int)) (.int (k:Int))=.ok (.int (a.getD k 0)):=by
 rw[pN (by rw[PY,Rp];lia)];congr 2;rw[Rv,Rv]
 by_cases q:k<a.length
 .rw[Qj q]
 .rw[QD ⋯,RT,Qu ⋯]
  split<;>rfl
def C1(l:xs.length<=20)(m:ys.length<=20):bb pg Φ ⟨2,3,ak.rY⟩ [af xs,af ys]=.ok (af (mG xs ys)):=by
 have e:(if (xs.length:Int)<(ys.length:Int) then(ys.length:Int) else(xs.length:Int))=((max xs.length ys.length:Nat):Int):=by
  by_cases q:xs.length<ys.length
  .rw[if_pos ⋯];lia
  .rw[if_neg ⋯];lia
 unfold mG;generalize h:max xs.length ys.length=n at e;have f:xs.length<=n:=by lia
 have h2:ys.length<=n:=by lia
 have g:((n:Int)-(xs.length:Int))=((n-xs.length:Nat):Int):=by lia
 have s2:((n:Int)-(ys.length:Int))=((n-ys.length:Nat):Int):=by lia
 have a1:∀c:List Int,c.length<=n->cA .add (.lst (c.map .int)) (.lst ((VV (n-c.length) (0:Int)).map .int))=.ok (.lst ((c++VV (n-c.length) 0).map .int)):=λc hz=>by
  rw[j2,if_pos (by rw[VH,VH,Rp,eB];lia),VT]
 have e2:∀a b,bx (elem pg Φ [a,b,Z (.int (n:Int)),Z (.lst ((xs++VV (n-xs.length) 0).map .int)),Z (.lst ((ys++VV (n-ys.length) 0).map .int))] (.bin .add (.idx 3e0 5e0) (.idx 4e0 5e0)) 0 .none) ((VN n).map λk:Nat=>D.int (k:Int))=.ok ((VN n).map λk=>D.int (xs.getD k 0+ys.getD k 0)):=λa b=>fE λk d=>by
  have d:=V0.mp d;simp![z9 d f,z9 d h2]
 simp![ak.rY,FW,lK,e,nf,kI,g,s2,uE (n-xs.length) ⋯,uE (n-ys.length) ⋯,a1 xs f,a1 ys h2,fV (i:=0) (j:=(n:Int)) ⋯ ⋯ ⋯ ⋯,lY,e2];unfold af;rw[VR];rfl
end
def LL(k b)(x y z):bb pg Φ ⟨3,k,b⟩ [x,y,z]=ki (dj pg Φ (Z x::Z y::Z z::VV k Y) b):=ar rfl
def qy{w:Int}(h:(w=0/\Φ i [a]=.exc 1)\/(w=1/\Φ j [a]=.exc 1)\/(w=2/\Φ l [a,b]=.exc 1)\/(w=3/\Φ m [a,b]=.exc 1))(n:gd pg 1 k ⟨3,4,[c,d,e,f],g,1000⟩=.ok (.bl (.ag J))):
  bb pg Φ ⟨3,2,ak.r8 i j l m k c d e f g⟩ [.int w,a,b]=.ok (.ag J):=by
 have r:((1:Int)==0)=false:=rfl;have s:((2:Int)==0)=false:=rfl;have t:((2:Int)==1)=false:=rfl;have u:((3:Int)==0)=false:=rfl;have v:((3:Int)==1)=false:=rfl;have x:((3:Int)==2)=false:=rfl;have o:((0:Int)==0)=true:=rfl;have p:((1:Int)==1)=true:=rfl;have q:((2:Int)==2)=true:=rfl;rcases h with⟨rfl,h⟩|⟨rfl,h⟩|⟨rfl,h⟩|⟨rfl,h⟩ <;>
  simp![LL,ak.r8,x7,Ga,h,o,p,q,r,s,t,u,v,x,qE,Cf,n]
def qI(m u):(aO m u).length=u.length:=by unfold aO;exact VH ..
def ky{x:Int}:x∈aO m u<->x-m∈u:=by
 unfold aO;rw[VM];exact⟨λ⟨y,a,b⟩=>by rw[<- b,Uz];exact a,λh=>⟨x-m,h,Int.sub_add_cancel ..⟩⟩
def sF(h:IsCell k u):0<k:=by
 obtain⟨h0,a,_⟩:=h;cases u with
 |nil=>exact absurd rfl h0
 |cons x u=>have:=a x VE;lia
def Bu(h:cq ltI u):cq ltI (aO m u):=by
 unfold aO cq;rw[QT];exact Sg (λ{a b}(z:ltI a b=J)=>decide_eq_true (by have:=Sm z;lia)) h
def Bv(d:0<=m)(b:IsCell k u):IsCell (m+k) (aO m u):=by
 obtain⟨h0,a,h2⟩:=b;refine⟨λe=>h0 (Ss.mp e),λx c=>?_,Bu h2⟩;have:=a _ (ky.mp c);lia
def OU(c:0<=k)(a:IsCell m t):IsCell (m+k) t:=⟨a.1,λx b=>by have:=a.2.1 x b;lia,a.2.2⟩
def Eh(d:IsCell m t)(f:IsCell k u):IsCell (m+k) (t++aO m u):=by
 have a:=sF d;have b:=sF f;have c:=Bv (m:=m) ⋯ f;refine⟨λe=>d.1 (SI.mp e).1,λx g=>?_,Qe.mpr ⟨d.2.2,c.2.2,λx g y h=>decide_eq_true ?_⟩⟩
 .rcases P8.mp g with q|q
  .have:=d.2.1 x q;lia
  .exact c.2.1 x q
 .have:=d.2.1 x g;have:=f.2.1 _ (ky.mp h);lia
def yK(b:∀c∈cs,IsCell m c):∀x∈cs,x∈bX cs:=λx a=>ew.mpr ⟨(b x a).1,x,a,Sl _⟩
def te(b:m<=8)(a:∀c∈cs,IsCell m c):(b4 cs).length<=255:=Qk (Fd (yK a)) (pe b a)
def vN(b:m<=8)(a:∀c∈cs,IsCell m c):(bD cs).length<=255:=Qk (iu (rK (iY cs)) λz hz=>yK a z (eW.mp hz).1) (pe b a)
def OW{a b:List (List Int)}(h:∀z,z∈a<->z∈b):bD a=bD b:=j5 il (iY a) (iY b) λz=>by
 rw[eW,eW,h];exact and_congr_right λ_=>⟨λq o c=>q o ((h o).mpr c),λq o c=>q o ((h o).mp c)⟩
def kx:w∈cQ m ts d<->∃t∈ts,∃u∈d,w=t++aO m u:=by
 unfold cQ;rw[Ta];constructor
 .rintro⟨v,c,hw⟩;obtain⟨u,b,rfl⟩:=VM.mp c;obtain⟨t,a,rfl⟩:=VM.mp hw;exact⟨t,a,u,b,rfl⟩
 .rintro⟨t,a,u,b,rfl⟩;exact⟨_,VM.mpr ⟨u,b,rfl⟩,VM.mpr ⟨t,a,rfl⟩⟩
def uw:w∈lvl m ts d<->∃t∈ts,∃u∈d,w=t++aO m u:=by
 unfold lvl;rw[Ta];constructor
 .rintro⟨t,a,hw⟩;obtain⟨v,c,rfl⟩:=VM.mp hw;obtain⟨u,b,rfl⟩:=VM.mp c;exact⟨t,a,u,b,rfl⟩
 .rintro⟨t,a,u,b,rfl⟩;exact⟨t,a,VM.mpr ⟨_,VM.mpr ⟨u,b,rfl⟩,rfl⟩⟩
structure ck(m:Int)(ts:List (List Int)):Prop where
 hi:m<=8
 cell:∀t∈ts,IsCell m t
 ne:ts≠[]
 len:ts.length<=255
def Jz(h:Net m ts):ts≠[]:=λe=>by
 subst e;obtain⟨t,a,_⟩:=ta.mp h.eP 0 (Int.le_refl 0) (by have:=h.lo;lia);cases a
def Net.bB(h:Net m ts):ck m ts:=⟨h.hi,h.cell,Jz h,by rw[h.top];exact vN h.hi h.cell⟩
def ck.kp(h:ck m ts):∀t∈ts,t.length<=8:=λt a=>by
 have:=lb (h.cell t a);have:=h.hi;lia
def ck.pos(h:ck m ts):0<m:=by
 obtain⟨_,a,h2,_⟩:=h;cases ts with
 |nil=>exact absurd rfl h2
 |cons t ts=>exact sF (a t VE)
def ck.lG(h:ck m ts):1<=ba.hi ts/\ba.hi ts<=m.toNat:=by
 obtain⟨t,a,h2⟩:=pA h.ne;have:=lb (h.cell t a);have:=(h.cell t a).1;cases t with
 |nil=>exact absurd rfl this
 |cons x t=>rw[VX]at *;lia
section
variable(a:ck m ts)(b:ck k us)(gW:m+k<=8)
include a b
def iy:∀w∈cQ m ts us,IsCell (m+k) w:=λw hw=>by
 obtain⟨t,c,u,d,rfl⟩:=kx.mp hw;exact Eh (a.cell t c) (b.cell u d)
def IM:gh (lvl m ts us)=bD (cQ m ts us):=by
 rw[p9 λc d=>(iy a b c (kx.mpr (uw.mp d))).2.2];exact OW λz=>uw.trans kx.symm
include gW
def qo:ck (m+k) (bD (cQ m ts us)):=by
 refine⟨gW,λt c=>iy a b t (eW.mp c).1,λe=>?_,vN gW (iy a b)⟩;obtain⟨t,c⟩:=XG _ a.ne;obtain⟨u,d⟩:=XG _ b.ne;obtain⟨w,hw,_⟩:=q1 (iy a b) 8 (t++aO m u) (kx.mpr ⟨t,c,u,d,rfl⟩) ⋯;rw[e]at hw;cases hw
def uU:iU m ts us (bD (cQ m ts us)):=⟨λz=>by
 rw[ew];refine and_congr_right λ_=>⟨?_,?_⟩
 .rintro⟨w,hw,hz⟩;obtain⟨t,c,u,d,rfl⟩:=kx.mp (eW.mp hw).1;exact⟨t,c,u,d,hz⟩
 .rintro⟨t,c,u,d,hz⟩;have hw:t++aO m u∈cQ m ts us:=kx.mpr ⟨t,c,u,d,rfl⟩;obtain⟨w,e,f⟩:=q1 (iy a b) 8 _ hw ⋯;exact⟨w,e,hz.trans (mI (iy a b _ hw).2.2 (iy a b w (eW.mp e).1).2.2 f)⟩⟩
end
def sy(m ts c):iK m ts c (ts++c.map (aO m)):=⟨λz=>by
 rw[ew,ew];constructor
 .rintro⟨h0,w,hw,hz⟩;rcases P8.mp hw with q|q
  .exact .inl ⟨h0,w,q,hz⟩
  .obtain⟨u,a,rfl⟩:=VM.mp q;obtain⟨y,rfl,b⟩:=vt.mp hz;exact .inr ⟨y,ew.mpr ⟨λe=>h0 (by rw[e];rfl),u,a,b⟩,rfl⟩
 .rintro(⟨h0,t,d,hz⟩|⟨y,b,rfl⟩)
  .exact⟨h0,t,VZ _ d,hz⟩
  .obtain⟨h0,u,a,q⟩:=ew.mp b;exact⟨λe=>h0 (Ss.mp e),aO m u,Qd _ (VM.mpr ⟨u,a,rfl⟩),vt.mpr ⟨y,rfl,q⟩⟩⟩
theorem zi(m:Int):∀a b:List Int,lexLt (aO m a) (aO m b)=lexLt a b
 |[],[]=>rfl
 |[],_::_=>rfl
 |_::_,[]=>rfl
 |x::a,y::b=>by
  show(if x+m=y+m then lexLt (aO m a) (aO m b) else decide (x+m<y+m))=if x=y then lexLt a b else decide (x<y);rw[zi m a b]
  by_cases q:x=y
  .rw[if_pos q,if_pos (by rw[q])]
  .rw[if_neg q,if_neg ⋯];exact decide_eq_decide.mpr ⋯
def IA:lies (aO m a) (aO m b)=J<->lies a b=true:=by
 rw[jm,jm];refine⟨λh x c=>?_,λh x c=>ky.mpr (h _ (ky.mp c))⟩;have:=ky.mp (h (x+m) (ky.mpr (by rw[Uz];exact c)));rwa[Uz]at this
def wR(a:Net m ts)(b:Net k g):gh (ts++g.map (aO m))=ts++g.map (aO m):=by
 have i:=a.cell;have j:=b.cell;have low:∀{t:List Int},t∈ts->∀x∈t,x<m:=λd x n=>((i _ d).2.1 x n).2
 have C:∀{w:List Int},w∈g.map (aO m)->∀x∈w,m<=x:=λhw x n=>by
  obtain⟨u,e,rfl⟩:=VM.mp hw;have:=(j u e).2.1 _ (ky.mp n);lia
 have G:∀{t:List Int},t∈ts->∃x r,t=x::r:=λ{t} d=>by
  cases t with
  |nil=>exact absurd rfl (i _ d).1
  |cons x r=>exact⟨x,r,rfl⟩
 have H:∀{t:List Int},t∈g.map (aO m)->∃x r,t=x::r:=λ{t} d=>by
  obtain⟨u,e,rfl⟩:=VM.mp d;cases u with
  |nil=>exact absurd rfl (j _ e).1
  |cons x r=>exact⟨_,_,rfl⟩
 rw[p9 λc K=>by
  rcases P8.mp K with q|q
  .exact(i c q).2.2
  .obtain⟨u,e,rfl⟩:=VM.mp q;exact Bu (j u e).2.2]
 refine j5 il (iY _) (Qe.mpr ⟨by rw[a.top];exact iY ts,?_,λt d w hw=>?_⟩) λz=>?_
 .rw[QT];have:=iY g;rw[<- b.top]at this;exact Sg (λ{p q} h=>by rw[zi];exact h) this
 .obtain⟨x,r,rfl⟩:=G d;obtain⟨y,s,rfl⟩:=H hw;have M:=low d x VE;have h2:=C hw y VE;show(if x=y then lexLt r s else decide (x<y))=J;rw[if_neg ⋯];exact decide_eq_true ⋯
 .rw[eW];refine⟨λh=>h.1,λh=>⟨h,λo L l f=>?_⟩⟩;rw[jm]at f;rcases P8.mp h with q|q<;>rcases P8.mp L with p|p
  .rw[a.top]at q p;exact(eW.mp q).2 o (eW.mp p).1 l (jm.mpr f)
  .obtain⟨x,r,rfl⟩:=G q;have:=low q x VE;have:=C p x (f x VE);lia
  .obtain⟨x,r,rfl⟩:=H q;have:=C q x VE;have:=low p x (f x VE);lia
  .obtain⟨u,e,rfl⟩:=VM.mp q;obtain⟨v,F,rfl⟩:=VM.mp p;rw[b.top]at e F;rw[qI,qI]at l;exact(eW.mp e).2 v (eW.mp F).1 l (IA.mp (jm.mpr f))
def oN(a:Net m ts)(b:Net k g)(f:m+k<=8):ck (m+k) (ts++g.map (aO m)):=by
 have d:∀t∈ts++g.map (aO m),IsCell (m+k) t:=λt h=>by
  rcases P8.mp h with q|q
  .exact OU (Int.le_of_lt b.bB.pos) (a.cell t q)
  .obtain⟨u,i,rfl⟩:=VM.mp q;exact Bv (Int.le_of_lt a.bB.pos) (b.cell u i)
 refine⟨f,d,λe=>a.bB.ne (SI.mp e).1,?_⟩;have:=vN f d;rw[<- p9 λc q=>(d c q).2.2,wR a b]at this;exact this
def eU(ts:List (List Int)):List Int:=(VN (hi ts)).map λk=>(dm ts k:Int)
def nk(ts):(eU ts).length=hi ts:=by unfold eU;rw[VH,Wy]
def nB(b:∀h a,a.length<100->Φ f [af (h::a)]=.ok (.lst ((au.less (h::a)).map .int)))(h:ck m ts)(cP:m<=7):Φ f [af (eU ts)]=.ok (.lst ((au.less (ba.cP ts)).map .int)):=by
 have q:=h.lG;have e:=Io (ts:=ts) q.1 ⋯;have l:=nk ts;rw[<- e];show Φ f [af (eU ts)]=.ok (.lst ((au.less (eU ts)).map .int));cases z:eU ts with
 |nil=>rw[z]at l;simp at l;lia
 |cons x xs=>exact b x xs (by rw[z]at l;simp at l;lia)
def OI(h:x∈au.trim xs):x∈xs:=by
 unfold au.trim at h;rw[ZT]at h;exact ZT.mp ((Yk _).subset h)
def OH(xs):(au.trim xs).length<=xs.length:=by
 unfold au.trim;rw[Y0];have:=(Yk (·==0) (l:=xs.reverse)).length_le;rw[Y0]at this;exact this
def AI(h:ck m ts)(k):dm ts k<=255:=by
 have:=oT h.hi h.cell (k+1);unfold dm nn;lia
def zb(h:ck m ts):(au.less (cP ts)).length<=20/\∀x∈au.less (cP ts),-1000<=x/\x<=1000:=by
 have e:cP ts=(dm ts 0:Int)::(VN 6).map λk=>(dm ts (k+1):Int):=rfl
 rw[e];show(au.trim _).length<=20/\∀x∈au.trim _,_;refine⟨Qk (OH _) (by simp),λx a=>?_⟩;rcases P1.mp (OI a) with q|q
 .have:=AI h 0;lia
 .obtain⟨j,_,rfl⟩:=VM.mp q;have:=AI h (j+1);lia
def prod_nil(xs):au.prod xs []=[]:=by
 unfold au.prod;have:∀(a:List Nat)(f:List Int),a.foldl (λf k=>(VN ([]:List Int).length).foldl (λf n=>f.set (k+n+1) (f.getD (k+n+1) 0+xs.getD k 0*([]:List Int).getD n 0)) f) f=f:=λa=>by
  induction a with
  |nil=>intro f;rfl
  |cons k a b=>intro f;exact b f
 rw[this];unfold au.trim;rw[List.reverse_replicate];generalize xs.length+([]:List Int).length=n
 induction n with
 |zero=>rfl
 |succ n b=>exact b
def Iq:au.less (cP [[0]])=[]:=by decide +kernel
def Ir:au.less (cP [[0],[1]])=[1]:=by decide +kernel
def G9(a:ck m ts)(b:ck k d)(s:m+k<=7)(h:cP (ts++d.map (aO m))=au.add (cP ts) (cP d)):eU (ts++d.map (aO m))=mG (eU ts) (eU d):=by
 have x:=a.lG;have y:=b.lG;have v:=a.pos;have w:=b.pos;have e:hi (ts++d.map (aO m))=max (hi ts) (hi d):=by
  refine G5 (λe=>a.ne (SI.mp e).1) (λt n=>?_) ?_
  .rcases P8.mp n with q|q
   .have:=pB t q;lia
   .obtain⟨u,o,rfl⟩:=VM.mp q;have:=pB u o;rw[qI];lia
  .obtain⟨t,p,C⟩:=pA a.ne;obtain⟨u,r,F⟩:=pA b.ne
   by_cases q:hi d<=hi ts
   .exact⟨t,VZ _ p,⋯⟩
   .exact⟨aO m u,Qd _ (VM.mpr ⟨u,r,rfl⟩),by rw[qI];lia⟩
 unfold mG;rw[nk,nk]
 conv=>lhs;unfold eU
 rw[e];refine Qq λj i=>?_
 have i:=V0.mp i;have g:∀c:List (List Int),(eU c).getD j 0=(dm c j:Int):=λc=>by
  unfold eU;rw[Rv,Qh]
  by_cases q:j<hi c
  .rw[Rx q];rfl
  .rw[Qu ⇑q,AH ⋯];rfl
 rw[g,g];have f:∀c:List (List Int),(cP c)[j]?=Z (dm c j:Int):=λc=>by
  unfold cP;rw[Qh,Rx ⋯];rfl
 have z:=Rc (λl:List Int=>l[j]?) h;rw[f]at z;unfold au.add at z;rw[Qh,Rx ⋯,WB,Rv,Rv,f,f]at z;exact Qy z
def qh(m:Int)(ts:List (List Int)):Bool:=ts.all (λc=>decide (IsCell m c))&&decide (ts=bD ts)&&eP m ts
def uH(a:1<=m)(b:m<=8)(h:qh m ts=J):Net m ts:=by
 unfold qh at h;simp only[PW,Qr,Qn]at h;exact⟨a,b,h.1.1,h.1.2,h.2⟩
def g6(g:Int):List (List Int):=(aX g).map λc=>[c]
def MO:((VN 9).all λg=>g==0||(qh (g:Int) (g6 g)&&qh (g:Int) [aX g]))=true:=by decide +kernel
def qH{g:Int}(a:1<=g)(b:g<=8):Net g (g6 g)/\Net g [aX g]:=by
 obtain⟨n,rfl⟩:=US (show 0<=g by lia);have h:=Qr.mp MO n (V0.mpr ⋯);rw[RC,PW]at h;rcases h with h|h
 .simp at h;lia
 .exact⟨uH a b h.1,uH a b h.2⟩
abbrev six:List (List Int):=[[0,1,2],[1,2,3],[3,4,5]]
def MU:Net 6 six:=uH ∅ ∅ (by decide +kernel)
def uP:Net 1 [[0]]:=(qH (g:=1) ∅ ∅).1
def vK:Net 2 [[0],[1]]:=(qH (g:=2) ∅ ∅).1
def lu(m ts):dG (aj m ts) (aj m ts)=.ok true:=by
 have s:bL 60 (aj m ts)=true:=by
  show([D.int m,.tup (ts.map af)].all (bL 59))=J;rw[WE,WE,n8];show(J&&((ts.map af).all (bL 58)&&J))=J;rw[Bx];rfl
 rw[FD s s];show R.ok ((m==m)&&((hr (ts.map af) (ts.map af))&&J))=_;rw[xI];simp
def CZ{a b:List (List Int)}(h:a.length+b.length<=1000):cA .add (.lst (a.map af)) (.lst (b.map af))=.ok (.lst ((a++b).map af)):=by
 rw[j2,if_pos (by rw[VH,VH,eB];lia),VT]
def tp(a:List Int):dG (.lst (a.map .int)) (.lst (a.map .int))=.ok true:=by rw[xN];simp
def FA(a):dG (af a) (af a)=.ok true:=by rw[xK];simp
def FC:dG (.lst []) (.lst [])=.ok true:=tp []
def uG(m:Int)(ts:List (List Int)):D.tup [.int m,.tup (ts.map af)]=aj m ts:=rfl
def qg(m:Int)(c:List Int):D.tup [.int m,.tup [.tup (c.map .int)]]=aj m [c]:=rfl
def uF(m:Int)(ts):c4 (aj m ts) (.int 0)=.ok (.int m):=rfl
def zN(m:Int)(ts):c4 (aj m ts) (.int 1)=.ok (.tup (ts.map af)):=rfl
def MP(g:Int):∀a0 a1 a2 a3 a4 a5 a b d e f b1 b2 h i j k:Option D,bx (elem pg Φ [a0,a1,a2,a3,a4,a5,a,b,d,e,f,b1,b2,h,i,j,k] (.tup {17e0}) 0 .none) ((aX g).map .int)=.ok ((g6 g).map af):=by
 intros;unfold g6;rw[VR];exact fE λc _=>by simp!;rfl
def Jy(M:Int)(C:1<=M)(F:M<=4)(q:∀cs:List (List Int),(∀c∈cs,c≠[])->(b4 cs).length<=255->Φ ft [.lst (cs.map af)]=.ok (.tup ((gh cs).map af)))(v:∀(s:Nat)(c:List Int),s<=8->c.length<=8->Φ n [af c,.int (s:Int)]=.ok (.lst ((cj s c).map af)))(w:∀i m:Int,1<=m->m<=8->∃cs:List (List Int),Φ t [.int i,.int m]=.ok (.lst (cs.map af))/\(∀c∈cs,IsCell m c)/\eP m cs=J/\cs.length<=16)(i:Int)(h0:0<=i):
  ∃m ts,bb pg Φ ⟨2,3,ak.r5 ft n t⟩ [.int i,.int M]=.ok (aj m ts)/\Net m ts/\m<=M:=by
 have y:=gu i (b:=M) ⋯;have k:decide ((5:Int)<M)=false:=decide_eq_false ⋯;have l:decide ((6:Int)<M)=false:=decide_eq_false ⋯;simp![ak.r5,gj i M ⋯,ja i 12 ∅ ∅,gj _ 8 ∅];cases k0:(i / 12%8==0)
 .obtain⟨cs,e,d,h,p⟩:=w (i / 96) (1+i%M) ⋯ ⋯;obtain⟨ts,e2,g,u⟩:=zP (pg:=pg) (Φ:=Φ) (cs:=cs) (m:=1+i%M) (a:=.int i) (b:=.int M) (c:=.int (i / 12%8)) q ⋯ ⋯ ⋯ (λc f=>by have:=lb (d c f);lia) (λc f=>by rw[vp (d c f)];exact d c f) (by rw[BP d];exact h);refine⟨1+i%M,ts,?_,g,⋯⟩;rw[<- e2];cases k1:(i / 12%8==1)
  .cases k2:(i / 12%8==2)
   .simp![k1,k2,ja i 96 ∅ ∅,e]
   .simp![k1,k2,l,ja i 96 ∅ ∅,e]
  .cases k2:(i / 12%8==2)
   .simp![k1,k2,k,ja i 96 ∅ ∅,e]
   .simp![k1,k2,k,l,ja i 96 ∅ ∅,e]
 .have z:=gu (i / 96) (b:=1+i%M) ⋯;obtain⟨s,x⟩:∃s:Nat,(s:Int)=1+i / 96%(1+i%M):=⟨(1+i / 96%(1+i%M)).toNat,⋯⟩;obtain⟨d,h⟩:=C8 (m:=1+i%M) (s:=s) ⋯ ⋯ ⋯ ⋯;have o:=pQ (m:=1+i%M) ⋯;have e:=v s (aX (1+i%M)) ⋯ o;have p:(cj s (aX (1+i%M))).length<=70:=(by rw[u2];exact KJ o);obtain⟨ts,e2,g,u⟩:=zP (pg:=pg) (Φ:=Φ) (cs:=cj s (aX (1+i%M))) (m:=1+i%M) (a:=.int i) (b:=.int M) (c:=.int (i / 12%8)) q ⋯ ⋯ p (λc f=>by have:=lb (d c f);lia) (λc f=>by rw[vp (d c f)];exact d c f) (by rw[BP d];exact h);refine⟨1+i%M,ts,?_,g,⋯⟩;rw[<- e2];have r:=fV (i:=0) (j:=1+i%M) ⋯ ⋯ ⋯ ⋯;have e3:Φ n [.tup ((aX (1+i%M)).map .int),.int (1+i / 96%(1+i%M))]=.ok (.lst ((cj s (aX (1+i%M))).map af)):=(by rw[<- x];exact e);simp![k0,ja i 96 ∅ ∅,gj (i / 96) (1+i%M) ⋯,r,jy,e3]
def Ia{p:List Int}(Q:au.all=J)(bg:∀i M:Int,0<=i->1<=M->M<=4->∃m ts,Φ kl [.int i,.int M]=.ok (aj m ts)/\Net m ts/\m<=M)(T:∀k:Nat,∃r:Int,0<=r/\r<jX/\Φ y [.lst (p.map .int),.int (k:Int)]=.ok (.int r))(cY:∀m ts k d,ck m ts->ck k d->m+k<=8->Φ h0 [aj m ts,aj k d]=.ok (aj (m+k) (bD (cQ m ts d))))(V:∀m ts,ck m ts->m+1<=8->Φ ft [aj m ts]=.ok (aj (m+1) (bD (cQ m ts [[0]]))))(dr:∀m ts,ck m ts->m+2<=8->Φ bh [aj m ts]=.ok (aj (m+2) (bD (cQ m ts [[0],[1]]))))(bH:∀m ts k d,ck m ts->ck k d->m+k<=8->Φ jd [aj m ts,aj k d]=.ok (aj (m+k) (ts++d.map (aO m))))(f:∀m ts k d,ck m ts->ck k d->m+k<=8->Φ v [aj m ts,aj k d]=.ok (aj (m+k) (bD (cQ m ts d))))(jg:∀cs:List (List Int),(∀c∈cs,c≠[])->(b4 cs).length<=255->Φ N [.lst (cs.map af)]=.ok (.tup ((gh cs).map af)))(bI:∀(m k:Int)(d:List (List Int)),Φ jf [aj k d,.int m]=.ok (.lst ((d.map (aO m)).map af)))(l:∀m ts,ck m ts->Φ je [aj m ts]=.ok (af (eU ts)))(o:∀h U,U.length<100->Φ bp [af (h::U)]=.ok (.lst ((au.less (h::U)).map .int)))(dg:∀xs ys:List Int,xs.length<=20->ys.length<=20->(∀x∈xs,-1000<=x/\x<=1000)->Φ bf [.lst (xs.map .int),.lst (ys.map .int)]=.ok (.lst ((au.prod xs ys).map .int)))(h4:∀xs ys:List Int,xs.length<=20->ys.length<=20->Φ gx [af xs,af ys]=.ok (af (mG xs ys)))(gX:∀m ts b,7<m->Φ w [.int 0,aj m ts,b]=.ok (.ag J))(nq:∀m ts b,6<m->Φ w [.int 1,aj m ts,b]=.ok (.ag J))(pF:∀m ts k d,8<m+k->Φ w [.int 2,aj m ts,aj k d]=.ok (.ag J))(pG:∀m ts k d,8<m+k->Φ w [.int 3,aj m ts,aj k d]=.ok (.ag J)):
  bb pg Φ ⟨1,16,ak.rX w ft v bh jd N jf h0 y bp je bf gx kl⟩ [.lst (p.map .int)]=.ok (.ag J):=by
 obtain⟨cZ,pJ,_,a0⟩:=T 0;obtain⟨dh,p1,_,a1⟩:=T 1;obtain⟨e,p2,k5,a2⟩:=T 2;have a0:Φ y [.lst (p.map .int),.int 0]=.ok (.int cZ):=a0;have a1:Φ y [.lst (p.map .int),.int 1]=.ok (.int dh):=a1;have a2:Φ y [.lst (p.map .int),.int 2]=.ok (.int e):=a2;obtain⟨m,ts,pH,n,m4⟩:=bg cZ 4 pJ ∅ ∅;obtain⟨k,d,pI,F,k3⟩:=bg dh 3 p1 ∅ ∅;have A:=n.bB;have B:=F.bB;have O:=uP.bB;have W:=vK.bB;have hs:D.tup [.int 1,.tup [.tup [.int 0]]]=aj 1 [[0]]:=rfl;have ht:D.tup [.int 2,.tup [.tup [.int 0],.tup [.int 1]]]=aj 2 [[0],[1]]:=rfl;have tZ:=V m ts A ⋯;have l1:=f m ts 1 [[0]] A O ⋯;have G:=qo A O ⋯;have aI:=l _ _ G;have C:=nB o G ⋯;have t2:=dr m ts A ⋯;have l2:=f m ts 2 [[0],[1]] A W ⋯;have H:=qo A W ⋯;have h2:=l _ _ H;have s2:=nB o H ⋯;have t4:=bH m ts k d A B ⋯;have t5:=cY m ts k d A B ⋯;have l4:=f m ts k d A B ⋯;have K:=qo A B ⋯;have h3:=l _ _ K;have di:=nB o K ⋯;have a4:=oN n F ⋯;have bw:=l _ _ a4;have P:=l _ _ A;have bq:=l _ _ B;have ed:=nB o A ⋯;have tS:=nB o B ⋯;have u:=zb A;have fP:=zb B;have a5:=(u4 Q A.cell m4 O.cell ∅ A.ne O.ne (uU A O ⋯) G.cell (sy m ts [[0]]) (oN n uP ⋯).cell).1;have aw:=(u4 Q A.cell m4 W.cell ∅ A.ne W.ne (uU A W ⋯) H.cell (sy m ts [[0],[1]]) (oN n vK ⋯).cell).1;have aA:=u4 Q A.cell m4 B.cell k3 A.ne B.ne (uU A B ⋯) K.cell (sy m ts d) a4.cell;rw[Iq,prod_nil]at a5;rw[Ir]at aw;rw[a5]at C;rw[aw]at s2;rw[aA.1]at di;rw[G9 A B ⋯ aA.2]at bw;have C:Φ bp [af (eU (bD (cQ m ts [[0]])))]=.ok (.lst []):=C;have pK:Φ bf [.lst ((au.less (cP ts)).map .int),.lst [.int 1]]=.ok (.lst ((au.prod (au.less (cP ts)) [1]).map .int)):=dg _ [1] u.1 ∅ u.2;have pM:=dg _ _ u.1 fP.1 u.2;have pL:=h4 (eU ts) (eU d) (by rw[nk];have:=A.lG;lia) (by rw[nk];have:=B.lG;lia);have et:∀{m k:Int}{ts d:List (List Int)},Net m ts->Net k d->m+k<=8->cA .add (.lst (ts.map af)) (.lst ((d.map (aO m)).map af))=.ok (.lst ((ts++d.map (aO m)).map af))/\Φ N [.lst ((ts++d.map (aO m)).map af)]=.ok (.tup ((ts++d.map (aO m)).map af)):=λ{m k ts d} a b h=>by
  have c:=(oN a b h).cell;refine⟨CZ (by rw[VH];have:=a.bB.len;have:=b.bB.len;lia),?_⟩;rw[jg _ (λz hz=>(c z hz).1) (te h c),wR a b]
 obtain⟨t6,t7⟩:=et n F ⋯;have k2:=gu e (b:=8) ∅;obtain⟨g,h5⟩:∃g,1+e%8=g:=⟨_,rfl⟩;have yZ:=gu (e / 8) (b:=g) ⋯;obtain⟨q,gW⟩:∃q,9-g+e / 8%g=q:=⟨_,rfl⟩;have m2:=gu (e / 80) (b:=2) ∅;obtain⟨z,hz⟩:∃z,7+e / 80%2=z:=⟨_,rfl⟩;have gT:=gj e 8 ∅;have f4:=ja e 8 ∅ ∅;have kk:=gj (e / 8) g ⋯;have aG:=ja e 80 ∅ ∅;have aJ:=gj (e / 80) 2 ∅;have ub:=fV (i:=0) (j:=g) ⋯ ⋯ ⋯ ⋯;have k0:=fV (i:=0) (j:=q) ⋯ ⋯ ⋯ ⋯;have eQ:=fV (i:=0) (j:=z) ⋯ ⋯ ⋯ ⋯;have e0:=fV (i:=0) (j:=8) ⋯ ⋯ ⋯ ⋯;have f8:=pF g (g6 g) q [aX q] ⋯;have hu:=pG q [aX q] g (g6 g) ⋯;have b2:=nq z [aX z] (aj z [aX z]) ⋯;have b1:=gX 8 [aX 8] (aj z [aX z]) ⋯;have S:=MU.bB;have aL:D.tup [.int 6,.tup [.tup [.int 0,.int 1,.int 2],.tup [.int 1,.int 2,.int 3],.tup [.int 3,.int 4,.int 5]]]=aj 6 six:=rfl;have e1:Φ bh [aj 6 six]=.ok (aj 8 (bD (cQ 6 six [[0],[1]]))):=dr 6 six S ∅;have e2:Φ v [aj 6 six,aj 2 [[0],[1]]]=.ok (aj 8 (bD (cQ 6 six [[0],[1]]))):=f 6 six 2 _ S W ∅;have a3:ck 7 (bD (cQ 6 six [[0]])):=qo S O ∅;have e3:Φ ft [aj 6 six]=.ok (aj 7 (bD (cQ 6 six [[0]]))):=V 6 six S ∅;have e4:Φ ft [aj 7 (bD (cQ 6 six [[0]]))]=.ok (aj 8 (bD (cQ 7 (bD (cQ 6 six [[0]])) [[0]]))):=V 7 _ a3 ∅;have e5:Φ v [aj 6 six,aj 1 [[0]]]=.ok (aj 7 (bD (cQ 6 six [[0]]))):=f 6 six 1 _ S O ∅;have gb:Φ v [aj 7 (bD (cQ 6 six [[0]])),aj 1 [[0]]]=.ok (aj 8 (bD (cQ 7 (bD (cQ 6 six [[0]])) [[0]]))):=f 7 _ 1 _ a3 O ∅;simp![ak.rX,a0,a1,pH,pI,hs,ht,tZ,l1,lu,lx,lT,lU,aI,C,FC];simp![t2,l2,lu,lx,lT,lU,h2,s2,P,ed,pK,tp];simp![t4,uF,zN,bI,nf,t6,t7,uG,lu,t5,l4,lx,lT,lU,bw,P,bq,pL,FA];simp![h3,di,P,bq,ed,tS,pM,tp,a2,gT,f4,h5,kk,gW,ub,k0,jy,MP,uG,qg,f8,hu,lx,lT,lU]
 by_cases bk:g<8
 .have L:decide (g<8)=true:=decide_eq_true bk;obtain⟨t,_⟩:=qH (g:=g) ⋯ ⋯;obtain⟨_,s⟩:=qH (g:=8-g) ⋯ ⋯;have k1:=fV (i:=0) (j:=8-g) ⋯ ⋯ ⋯ ⋯;have t8:=cY g (g6 g) (8-g) [aX (8-g)] t.bB s.bB ⋯;have t9:=f g (g6 g) (8-g) [aX (8-g)] t.bB s.bB ⋯;have eE:=bH (8-g) [aX (8-g)] g (g6 g) s.bB t.bB ⋯;rw[show 8-g+g=8 by lia]at eE;obtain⟨ua,X⟩:=et s t ⋯;have X:Φ N [.lst ((aX (8-g)::(g6 g).map (aO (8-g))).map af)]=.ok (.tup ((aX (8-g)::(g6 g).map (aO (8-g))).map af)):=X;simp![L,k1,jy,qg,t8,t9,lu,eE,uF,zN,bI,nf,ua,X,uG];simp![aL,e1,e2,lu,lx,lT,lU,e3,e4,e5,gb,aG,aJ,hz,eQ,e0,jy,qg,b2,b1,o9]
 .have L:decide (g<8)=false:=decide_eq_false bk;simp![L,aL,e1,e2,lu,lx,lT,lU,e3,e4,e5,gb,aG,aJ,hz,eQ,e0,jy,qg,b2,b1,o9]
end ba
end
section
namespace wg
open ζ aH cT ba dc dp
def bt{f:Nat}{a:hW}(h:fds[f]?=Z a)(n)(ds):run pg fds (n+1) f ds=bb pg (run pg fds n) a ds:=by rw[n3,h]
noncomputable abbrev br(n:Nat):da:=run pg fds n
def Om(n)(c)(h:c.length<=1000):br (n+1) 0 [af c]=.ok (.lst ((cG c).map af)):=(bt (f:=0) rfl n _).trans (MT c h)
def Oy(n)(i):br (n+1) 1 [.int i]=.ok (.ag J):=(bt (f:=1) rfl n _).trans (Hw i)
def B7(n)(i:Int):br (n+2) 2 [.int i]=.ok (.ag (decide (1<=i/\i<=8))):=(bt (f:=2) rfl _ _).trans (Hv (Oy n i) rfl)
def Oc(n)(c o):br (n+1) 3 [af c,af o]=.ok (.ag (lies c o)):=(bt (f:=3) rfl n _).trans (Iy c o)
def Oh(n)(c)(a:List (List Int)):br (n+2) 4 [af c,.lst (a.map af)]=.ok (.ag (a.any (lies c))):=(bt (f:=4) rfl _ _).trans (Iz (Oc n) c a)
def Ox(n)(cs)(a:∀c∈cs,c≠[])(h:(b4 cs).length<=255):br (n+3) 5 [.lst (cs.map af)]=.ok (.tup ((bD cs).map af)):=(bt (f:=5) rfl _ _).trans (OZ (Oh n) a h)
def Oz(n)(c)(h:c.length<=8):br (n+1) 6 [af c]=.ok (.lst ((c1 c).map af)):=(bt (f:=6) rfl n _).trans (Pg c h)
section
variable{m:Int}{ts:List (List Int)}(h:ck m ts)
include h
def N7(n):br (n+2) 7 [aj m ts]=.ok (.lst ((bX ts).map af)):=(bt (f:=7) rfl _ _).trans (F3 (Oz n) h.kp h.len (pe h.hi h.cell))
def N5(n)(k:Nat):br (n+3) 8 [aj m ts,.int ((k:Int)-1)]=.ok (.tup ((cl ts k).map af)):=(bt (f:=8) rfl _ _).trans (EJ k (N7 h n))
def B8(n)(k:Nat):br (n+4) 15 [aj m ts,.int ((k:Int)-1)]=.ok (.aT (mk (cl ts k))):=(bt (f:=15) rfl _ _).trans (IX k (N5 h n k) (oT h.hi h.cell k))
end
def N3(n)(U xs:List (List Int))(a:U.Nodup)(hy:xs.Nodup)(b:∀x∈xs,x∈U):br (n+1) 16 [.lst (xs.map af),.aT (mk U)]=.ok (.int (bC U xs:Int)):=(bt (f:=16) rfl _ _).trans (DX a hy b)
def N4(n)(U:List (List Int))(b:Nat)(a:U.Nodup):br (n+1) 17 [.int (b:Int),.aT (mk U)]=.ok (fD U b):=(bt (f:=17) rfl _ _).trans (Eo a b)
def Oq(n)(r q:Row):br (n+1) 19 [aU r,aU q]=.ok (aU (r.1 ^^^ q.1,r.2 ^^^ q.2)):=(bt (f:=19) rfl _ _).trans (Nv r q)
def vF(n)(B:bN)(r:Row)(h:(B.map (·.1)).Nodup):br (n+2) 20 [aU r,.aK (bM B)]=.ok (aU (red B r)):=(bt (f:=20) rfl _ _).trans (Lu (Oq n) h r)
def Oe(n)(k:Nat)(h:0<k):br (n+1) 21 [.int (k:Int)]=.ok (.int ((2 ^ lo k:Nat):Int)):=(bt (f:=21) rfl _ _).trans (IG k h)
def vC(n)(B:bN)(r:Row)(h:bO B)(a:B.length<900):br (n+3) 22 [.aK (bM B),aU r]=.ok (.aK (bM (grow B r))):=(bt (f:=22) rfl _ _).trans (G1 (vF n) (Oe (n+1)) h a r)
def N0(n)(rs:List Row)(a:rs.length<=255):br (n+4) 23 [.lst (rs.map aU)]=.ok (.aK (bM (bK [] rs))):=(bt (f:=23) rfl _ _).trans (DL (vC n) a)
def N9(n)(rs:List Row)(a:rs.length<=255):br (n+4) 24 [.lst (rs.map aU)]=.ok (.lst ((c3 rs).2.map λb:Nat=>D.int (b:Int))):=(bt (f:=24) rfl _ _).trans (Hd (vC n) (vF (n+1)) a)
section
variable{m k:Int}{ts us:List (List Int)}
def Ol(h:ck m ts)(n)(k:Nat):br (n+5) 18 [aj m ts,.int (k:Int)]=.ok (.lst ((cK (du ts (k+1))).map aU)):=(bt (f:=18) rfl _ _).trans (Ly k h.cell h.hi (B8 h n) (Om (n+3)) (N3 (n+3)))
def Oj(h:ck m ts)(n)(k:Nat):∃G:List Nat,br (n+6) 25 [aj m ts,.int (k:Int)]=.ok (.tup (G.map (fD (cl ts (k+1)))))/\Told ts k G:=by
 have c:br (n+5) 15 [aj m ts,.int (k:Int)]=.ok (.aT (mk (cl ts (k+1)))):=by
  have:=B8 h (n+1) (k+1);rwa[show(((k+1:Nat):Int)-1)=(k:Int) by lia]at this
 obtain⟨ds,a,b⟩:=LH (pg:=pg) (Φ:=br (n+5)) k h.cell h.hi (N9 (n+1)) (Ol h n) (vF (n+3)) (vC (n+2)) (N4 (n+4)) c (N0 (n+1));exact⟨ds,(bt (f:=25) rfl _ _).trans a,b⟩
def N8(n)(m ts)(h:ck m ts):br (n+7) 26 [aj m ts]=.ok (af (eU ts)):=(bt (f:=26) rfl _ _).trans (Hb h.ne (by have:=h.lG;have:=h.hi;lia) (Oj h n))
def B9(n)(h:df d k us)(m:Int):br (n+1) 9 [d,.int m]=.ok (.tup ((us.map (aO m)).map af)):=(bt (f:=9) rfl _ _).trans (Jj h m)
def B4(n)(e:df a m ts)(g:df b k us)(c:1<=m+k)(d:m+k<=8):br (n+3) 10 [a,b]=.ok (.int (m+k)):=(bt (f:=10) rfl _ _).trans (ES (B7 n) e g c d)
def B5(n)(d:df a m ts)(e:df b k us)(c:8<m+k):br (n+3) 10 [a,b]=.exc 1:=(bt (f:=10) rfl _ _).trans (ER (B7 n) d e c)
def N1(n)(m ts k us)(a:ck m ts)(b:ck k us)(c:m+k<=8):br (n+4) 11 [aj m ts,aj k us]=.ok (aj (m+k) (ts++us.map (aO m))) :=
 (bt (f:=11) rfl _ _).trans (DO (B4 n (df.aj m ts) (df.aj k us) (by have:=a.pos;have:=b.pos;lia) c) (B9 (n+2) (df.aj k us) m) (by have:=a.len;have:=b.len;lia))
def vD(n)(m ts)(e:df b k us)(a:ck m ts)(c:ck k us)(d:m+k<=8):br (n+4) 12 [aj m ts,b]=.ok (aj (m+k) (bD (cQ m ts us))):=by
 have q:=iy a c;exact(bt (f:=12) rfl _ _).trans (J5 (B4 n (df.aj m ts) e (by have:=a.pos;have:=c.pos;lia) d) (B9 (n+2) e m) (Ox n _ (λz hz=>(q z hz).1) (te d q)) a.len c.len a.kp c.kp)
def Ot(n)(m ts)(a:ck m ts)(b:m+1<=8):br (n+5) 13 [aj m ts]=.ok (aj (m+1) (bD (cQ m ts [[0]]))):=(bt (f:=13) rfl _ _).trans (Cc (x:=hA 1 [[0]]) rfl (vD n m ts (df.hA 1 [[0]]) a uP.bB b))
def Ov(n)(m ts)(a:ck m ts)(b:m+2<=8):br (n+5) 14 [aj m ts]=.ok (aj (m+2) (bD (cQ m ts [[0],[1]]))):=(bt (f:=14) rfl _ _).trans (Cm (x:=hA 2 [[0],[1]]) rfl (vD n m ts (df.hA 2 [[0],[1]]) a vK.bB b))
def N2(n)(m ts k us)(a:8<m+k):br (n+4) 11 [aj m ts,aj k us]=.exc 1:=(bt (f:=11) rfl _ _).trans (DN (B5 n (df.aj m ts) (df.aj k us) a))
def vE(n)(m ts)(c:df b k us)(a:8<m+k):br (n+4) 12 [aj m ts,b]=.exc 1:=(bt (f:=12) rfl _ _).trans (J4 (B5 n (df.aj m ts) c a))
def Ou(n)(m ts)(a:7<m):br (n+5) 13 [aj m ts]=.exc 1:=(bt (f:=13) rfl _ _).trans (Cc (x:=hA 1 [[0]]) rfl (vE n m ts (df.hA 1 [[0]]) ⋯))
def Ow(n)(m ts)(a:6<m):br (n+5) 14 [aj m ts]=.exc 1:=(bt (f:=14) rfl _ _).trans (Cm (x:=hA 2 [[0],[1]]) rfl (vE n m ts (df.hA 2 [[0],[1]]) ⋯))
end
def hy:gd pg 1 1 ⟨3,4,[3,2,4,5],0,1000⟩=.ok (.bl (.ag J)):=rfl
def NZ(n)(a:List Int)(k:Nat):br (n+1) 27 [.lst (a.map .int),.int (k:Int)]=.ok (.int (a.getD k 0)):=(bt (f:=27) rfl _ _).trans (El a k)
def Of(n)(c:List Int)(k:Nat):∃r:Int,0<=r/\r<jX/\br (n+2) 28 [.lst (c.map .int),.int (k:Int)]=.ok (.int r):=by
 obtain⟨r,a,b,e⟩:=Ja (pg:=pg) (Φ:=br (n+1)) (f:=27) (NZ n c) k;exact⟨r,a,b,(bt (f:=28) rfl _ _).trans e⟩
def N6(n)(i k:Int):∃r:Int,0<=r/\r<jX/\br (n+1) 29 [.int i,.int k]=.ok (.int r):=by
 obtain⟨r,a,b,e⟩:=Fn (pg:=pg) (Φ:=br n) i k;exact⟨r,a,b,(bt (f:=29) rfl _ _).trans e⟩
def Ob(n)(c o):br (n+1) 30 [af c,af o]=.ok (.ag (lies c o)):=(bt (f:=30) rfl _ _).trans (Ic c o)
def vG(n)(cs:List (List Int))(a:∀c∈cs,c≠[])(h:(b4 cs).length<=255):br (n+2) 31 [.lst (cs.map af)]=.ok (.tup ((gh cs).map af)):=(bt (f:=31) rfl _ _).trans (Ii (Ob n) rfl a h)
def Oi(n)(s:Nat)(c:List Int)(b:s<=8)(a:c.length<=8):br (n+9) 32 [af c,.int (s:Int)]=.ok (.lst ((cj s c).map af)):=Ac (pg:=pg) (fds:=fds) (f:=32) rfl s (n+9) c ⋯ a
def Oo(n)(i m:Int)(a:1<=m)(b:m<=8):∃cs:List (List Int),br (n+2) 33 [.int i,.int m]=.ok (.lst (cs.map af))/\(∀c∈cs,IsCell m c)/\eP m cs=J/\cs.length<=16:=by
 obtain⟨cs,e,r⟩:=M6 (pg:=pg) (Φ:=br (n+1)) (f:=29) (N6 n) i m a b;exact⟨cs,(bt (f:=33) rfl _ _).trans e,r⟩
def Og(n)(i M:Int)(h0:0<=i)(a:1<=M)(h4:M<=4):∃m ts,br (n+10) 34 [.int i,.int M]=.ok (aj m ts)/\Net m ts/\m<=M:=by
 obtain⟨m,ts,e,r⟩:=Jy (pg:=pg) (Φ:=br (n+9)) M a h4 (vG (n+7)) (Oi n) (Oo (n+7)) i h0;exact⟨m,ts,(bt (f:=34) rfl _ _).trans e,r⟩
def B6(n)(m k:Int)(a:List (List Int)):br (n+1) 37 [aj k a,.int m]=.ok (.lst ((a.map (aO m)).map af)):=(bt (f:=37) rfl _ _).trans (Ie m k a)
def Od(n)(m ts k c)(a:ck m ts)(b:ck k c)(d:m+k<=8):br (n+3) 38 [aj m ts,aj k c]=.ok (aj (m+k) (bD (cQ m ts c))):=by
 have q:∀z∈lvl m ts c,IsCell (m+k) z:=λz hz=>iy a b z (kx.mpr (uw.mp hz))
 have:=Ih (pg:=pg) (Φ:=br (n+2)) (ft:=31) (fv:=37) (B6 (n+1) m k c) (uF k c) (vG n _ (λz hz=>(q z hz).1) (te d q)) a.len b.len a.kp b.kp;rw[IM a b]at this;exact(bt (f:=38) rfl _ _).trans this
def Oa(e:List Int):run pg fds 21 41 [.lst (e.map .int)]=.ok (.ag J) :=
 (bt (f:=41) rfl _ _).trans (Ia (Φ:=br 20) au.C7 (Og 10) (Of 18 e) (λm ts k d=>vD 16 m ts (df.aj k d)) (Ot 15) (Ov 15) (N1 16) (Od 17) (vG 18) (B6 19) (N8 13)
  (λh i g=>(bt (f:=35) rfl _ _).trans (Ip g)) (λxs ys a b c=>(bt (f:=39) rfl _ _).trans (K1 a b c)) (λxs ys a b=>(bt (f:=40) rfl _ _).trans (C1 a b))
  (λm ts b h=>(bt (f:=36) rfl _ _).trans (qy (.inl ⟨rfl,Ou 14 m ts h⟩) hy)) (λm ts b h=>(bt (f:=36) rfl _ _).trans (qy (.inr (.inl ⟨rfl,Ow 14 m ts h⟩)) hy))
  (λm ts k d h=>(bt (f:=36) rfl _ _).trans (qy (.inr (.inr (.inl ⟨rfl,N2 15 m ts k d h⟩))) hy)) (λm ts k d h=>(bt (f:=36) rfl _ _).trans (qy (.inr (.inr (.inr ⟨rfl,vE 15 m ts (df.aj k d) h⟩))) hy)))
end wg
end
section
namespace cI
open PySem
abbrev fr(l:List Env):List Addr:=l.filterMap (·.frame)
def d5(g:Nat->Option VU)(c:Nat)(e:VI)(l:List VU)(h:We):Prop :=
 ∃a C d b,e=.ref a/\g c=Z C/\h.get? a=Z d/\d.cls=.ref C/\d.data=.fields b/\b[2]?=Z .none /\
  ((l=[a]/\b[1]?=Z .none)\/∃T f ts,l=[a,T]/\b[1]?=Z (.ref T)/\T≠a/\h.get? T=Z f/\f.data=.fields ts/\ts[3]?=Z .none)
def OD{s:VL}(d:s.heap.FunFrames base l)(c:s.heap.get? a=Z o)(b:o.data=.fields g):a∉fr l:=λe=>by
 obtain⟨_,h,q,f⟩:=d.mem e;rw[c]at q;cases q;exact f g b
def entry(p:A.frames=Z (env::outer))(h:s.heap.FunFrames base (env::outer))(n:env.frame=Z L)(g:s.heap.get? dA=Z uL)(e:uL.data=.fields v)(hz:1<v.size)(k:∀h' T j ts,h'.get? dA=Z (uL.mapFields (·.setIfInBounds 1 (.ref T)))->T≠dA->s.heap.get? T=Y->h'.get? T=Z j->j.data=.fields ts->3<ts.size ->
   (∀b o,s.heap.get? b=Z o->b≠dA->b∉fr (env::outer)->h'.get? b=Z o)->(∀b o,s.heap.get? b=Z o->b≠dA->∃f,h'.get? b=Z { o with slots:=f })->Q () { s with heap:=h' }):
  VO M A (do let a <- frameOf env;let l <- entryPlaceOf L z;let b <- Y1 y a .none (Xj L) .none l;setField (.ref dA) 1 b) Q E s:=by
 refine PV (wpAny_frameOf_fun p h n λc ⟨w,m,x⟩=>PV (wpAny_entryPlaceOf λl t=>?_));unfold Y1 newFields;have e1:c.get? dA=Z uL:=(m dA (OD h g e)).trans g;have i:c.objs.size≠dA:=VC (P7 e1);refine PV (QA (RB (PX _ e1) e hz (k _ c.objs.size _ _ (QE _ (PX _ e1) (SQ (RQ e _))) i ?_ ((Qt _ _ i.symm).trans (Qb c rfl)) rfl ?_ (λb o q d r=>?_) λb o q d=>?_)) (t.sizeOk5 _ _ _ _ _))
 .cases q:s.heap.get? c.objs.size with
  |none=>rfl
  |some o=>exact absurd (P7 q) (by rw[w];exact Rm _)
 .simp
 .rw[Qt _ _ (Q8 d)];exact PX _ ((m b r).trans q)
 .obtain⟨f,u⟩:=x b o q;exact⟨f,by rw[Qt _ _ (Q8 d)];exact PX _ u⟩
def note(V:A.frames=Z (env::outer))(S:s.heap.FunFrames base (env::outer))(R:env.frame=Z L)(aL:d5 a3 c e l s.heap)(k:∀h' X,d5 a3 c e X h'->(∀a∈X,a∈l\/s.heap.get? a=Y)->(∀b o,s.heap.get? b=Z o->b∉l->b∉fr (env::outer)->h'.get? b=Z o) ->
   (∀b o,s.heap.get? b=Z o->b∈fr (env::outer)->∃G,h'.get? b=Z { o with slots:=G })->Q () { s with heap:=h' }):
  VO M A (noteFrame e env) (λ_ s2=>VO M A (X4 e Y) Q E s2) E s:=by
 obtain⟨dA,C,bp,H,rfl,aw,n,aA,j,h2,aJ⟩:=aL;have hz:1<H.size:=Rf ∅ (Qw.mp h2).1;have fin:∀{h0 g:We}{T:VU}{K:WS}{ts:Array VI},(∀b o,s.heap.get? b=Z o->b∉l->h0.get? b=Z o)->dA∈l->g.get? dA=Z (bp.mapFields (·.setIfInBounds 1 (.ref T)))->T≠dA->s.heap.get? T=Y->g.get? T=Z K->K.data=.fields ts->3<ts.size ->
   (∀b o,h0.get? b=Z o->b≠dA->b∉fr (env::outer)->g.get? b=Z o)->(∀b o,h0.get? b=Z o->b≠dA->∃G,g.get? b=Z { o with slots:=G })->(∀b,b∈l->∀o,s.heap.get? b=Z o->∃ws,o.data=.fields ws)->VO M A (X4 (.ref dA) Y) Q E { s with heap:=g }:=by
  intro h0 g T K ts k0 O p r t u m v B D bf;have U:=RQ j (·.setIfInBounds 1 (VY T));have a2:(H.setIfInBounds 1 (VY T))[1]?=Z (VY T):=(by simp[hz]);have bk:(H.setIfInBounds 1 (VY T))[2]?=Z Value.none:=(by rw[Array.getElem?_setIfInBounds_ne ∅];exact h2);have b1:∀b o,s.heap.get? b=Z o->b∈fr (env::outer)->b∉l:=λb o q d I=>by
   obtain⟨_,bq,a1,y⟩:=S.mem d;rw[q]at a1;cases a1;obtain⟨ws,hw⟩:=bf b I o q;exact y ws hw
  have a0:∀b o,s.heap.get? b=Z o->b≠T:=λb o q z=>by rw[z,t]at q;cases q
  have i:∀b,b≠T->(g.update T (Wl (·.setIfInBounds 3 ((Y:Option VU).elim Value.none λf=>Xj f)))).get? b=g.get? b:=λb d=>Qt _ _ (Q8 d)
  unfold X4;refine PV (RR p U a2 ?_);rw[if_pos (show(VY T != Value.none)=J from by simp)];refine RB u m v (k _ [dA,T] ⟨dA,C,_,_,rfl,aw,(i dA (Q8 r)).trans p,(Zu _ _).trans aA,U,bk,.inr ⟨T,_,_,rfl,a2,r,QE _ u (SQ (RQ m _)),RQ m _,by simp[v]⟩⟩ (λa N=>?_) (λb o q d y=>?_) λb o q d=>?_)
  .rcases P1.mp N with rfl|N
   .exact .inl O
   .obtain rfl:a=T:=⇑N;exact .inr t
  .exact(i b (a0 b o q)).trans (B b o (k0 b o q d) (λz=>d (by rw[z];exact O)) y)
  .have I:=b1 b o q d;obtain⟨G,z⟩:=D b o (k0 b o q I) λz=>I (by rw[z];exact O)
   exact⟨G,(i b (a0 b o q)).trans z⟩
 unfold noteFrame;simp only[R];rcases aJ with⟨rfl,g⟩|⟨T,K,ts,rfl,g,a4,w,x,h3⟩
 .refine PV (RR n j g ?_);rw[if_neg ∅];refine entry V S R n j hz λh' h b2 bw p r t u m v B D=>fin (h0:=s.heap) (λb o q _=>q) (by simp) p r t u m v B D λb d o q=>?_
  obtain rfl:b=dA:=⇑d;rw[n]at q;cases q;exact⟨H,j⟩
 .refine PV (RR n j g ?_);rw[if_pos (show(VY T != Value.none)=J from by simp)];refine PV (RR w x h3 ?_);rw[if_neg (show ¬((Value.none==Xj L)=J) from by simp[Xj])];refine PV (RB w x (Qw.mp h3).1 ?_);have i:∀b,b≠T->(s.heap.update T (Wl (·.setIfInBounds 3 Value.none))).get? b=s.heap.get? b:=λb d=>Qt _ _ (Q8 d)
  have bh:∀b,b∈[dA,T]->∀o,s.heap.get? b=Z o->∃ws,o.data=.fields ws:=λb d o q=>by
   rcases P1.mp d with rfl|d
   .rw[n]at q;cases q;exact⟨H,j⟩
   .obtain rfl:b=T:=⇑d;rw[w]at q;cases q;exact⟨ts,x⟩
  have aG:(s.heap.update T (Wl (·.setIfInBounds 3 Value.none))).FunFrames base (env::outer):=S.of_keeps λb o q y=>⟨o,(i b λz=>by rw[z,w]at q;cases q;exact y ts x).trans q,rfl⟩
  have a5:∀h,(s.heap.update T (Wl (·.setIfInBounds 3 Value.none))).get? h=Y->s.heap.get? h=none:=λh q=>by
   by_cases z:h=T
   .subst z;rw[QE _ w (SQ (RQ x _))]at q;cases q
   .rw[i h z]at q;exact q
  exact entry (s:={ s with heap:=s.heap.update T (Wl (·.setIfInBounds 3 Value.none)) }) V aG R ((i dA (Q8 a4)).trans n) j hz λh' h b2 bw p r t u m v B D =>
   fin (h0:=s.heap.update T (Wl (·.setIfInBounds 3 Value.none))) (λb o q d=>(i b λz=>d (by simp[z])).trans q) (by simp) p r (a5 h t) u m v B D bh
def leave(h:A.frames=Z (env::outer))(i:s.heap.FunFrames base (env::outer))(g:env.frame=Z L)(j:d5 f c e l s.heap)(k:∀h' d,d5 f c e d h'->(∀a∈d,a∈l\/s.heap.get? a=Y)->(∀b o,s.heap.get? b=Z o->b∉l->b∉fr (env::outer)->h'.get? b=Z o) ->
   (∀b o,s.heap.get? b=Z o->b∈fr (env::outer)->∃m,h'.get? b=Z { o with slots:=m })->Q () { s with heap:=h' }):
  VO M A (leaving env e) Q E s:=by
 unfold leaving;exact PV (note h i g j k)
def Gy(t:d5 u c e l s.heap)(k:∀(h':We)(h:List VU),(∀a∈h,a∈l/\e≠.ref a)->(∀b o,s.heap.get? b=Z o->b∉h->h'.get? b=Z o)->Q () { s with heap:=h' }):VO M A (X4 e Y) Q E s:=by
 obtain⟨v,C,B,D,rfl,w,g,x,f,h0,r⟩:=t;rcases r with⟨rfl,d⟩|⟨T,y,ts,rfl,d,j,i,p,h3⟩
 .unfold X4;refine PV (RR g f d ?_);rw[if_neg ∅];exact VG (k s.heap [] (λ_ z=>nomatch z) λb o q _=>q)
 .unfold X4;refine PV (RR g f d ?_);rw[if_pos (show(VY T != Value.none)=J from by simp)];refine RB i p (Qw.mp h3).1 (k _ [T] (λa m=>?_) λb o q n=>?_)
  .obtain rfl:a=T:=⇑m;exact⟨by simp,λz=>j (Value.ref.inj z).symm⟩
  .rw[Qt _ _ (λz=>n (by simp[z]))];exact q
def made(b:a c=Z C)(f:Heap.MadeExcOf h h' e (.ref C) args):d5 a c (.ref e) [e] h':=by
 obtain⟨t,d,_,_⟩:=f.there;exact⟨e,C,_,_,rfl,b,d,rfl,rfl,rfl,.inl ⟨rfl,rfl⟩⟩
section
def yR(p:s.heap.get? x=Z r)(l:r.cls=.ref C)(k:s.heap.get? C=Z (Wf nm q C N bs bm hdct sn sub ab col dd k0 k1 k2 k3 k5 u))(o:∀{b:Wg}{a:VI->VL->Prop}{e},a (.type "type") s->VO (VW prog w) b (XM c) a e s)(m:∀{b:Wg}{a:Bool->VL->Prop}{e},a J s->VO (VW prog w) b (isType c) a e s)(n:(VY C::bm).contains c=J)(h:Q (.done (.ret (.bool J))) s):VO (VW prog w) A (WN.«isinstance.nested» ⟨[.ref x,c,.int t tk],[]⟩) Q E s:=by
 obtain⟨h0,g,d,j,os⟩:=s;have f:∀{b:Wg}{a:VI->VL->Prop}{e},a (.ref C) ⟨h0,g,d,j,os⟩->VO (VW prog w) b (XM (.ref x)) a e ⟨h0,g,d,j,os⟩:=λ{b a e} z=>by
  unfold XM
  repeat (first|(with_reducible refine Rb p ?_;rw[l])|wp_step)
  exact z
 unfold WN.«isinstance.nested»;refine PV (f ?_)
 by_cases i:(VY C==c)=J
 .rw[if_pos i];show VO (VW prog w) A (pure _) Q E _;exact VG h
 .rw[if_neg i];refine PV (o ?_);rw[if_pos ∅]
  k_delta "plainIsInstance"
  refine PV (PV (m ?_));simp only[RA,PZ,Qs];refine PV ?_;unfold isInstance;refine PV (f ?_);refine RP k ?_;rw[n];simp only[Q3]
  first
   |exact VG h
   |exact VG (VG h)
   |exact PV (VG (VG h))
def Hy(r:s.heap.get? x=Z f)(o:f.cls=.ref C)(l:s.heap.get? C=Z (Wf nm q C N bs bm hdct sn sub ab col dd k0 k1 k2 k3 k5 t))(a:s.heap.get? D=Z c)(m:c.cls=.type "type")(n:∃e,c.data=.cls e)(p:(VY C::bm).contains (.ref D)=J)(h:Q (.bool J) s):VO (VW prog w) A (call (.builtin "isinstance") [.ref x,.ref D]) Q E s:=by
 refine Vi (S:=λ_ R s=>(s.heap.get? x=Z f/\s.heap.get? C=Z (Wf nm q C N bs bm hdct sn sub ab col dd k0 k1 k2 k3 k5 t)/\s.heap.get? D=Z c)/\R (.ok (.ret (.bool J))) s)
  (λ_ _ _ _ _ b=>U1 (yR b.1.1 o b.1.2.1 (λ{i k j} z=>?_) (λ{i k j} z=>?_) p b.2) (by intro q;cases q)) ⟨⟨r,l,a⟩,h⟩
 .have a:=b.1.2.2;rename_i s';obtain⟨h0,g,d,G,os⟩:=s';unfold XM
  repeat (first|(with_reducible refine Rb a ?_;rw[m])|wp_step)
  exact z
 .have a:=b.1.2.2;obtain⟨u,v,y,B⟩:=c;obtain⟨e,rfl⟩:=n;unfold isType loadHead;exact PV (Vq a (VG z))
def Hz(k:s.heap.get? x=Z b)(g:b.cls=.ref C)(f:s.heap.get? C=Z (Wf nm q C N bs bm hdct sn sub ab col dd k0 k1 k2 k3 k5 l))(j:XM (.type T)=pure (.type "type"))(i:bm.contains (.type T)=J)(h:Q (.bool J) s):VO (VW prog w) A (call (.builtin "isinstance") [.ref x,.type T]) Q E s:=by
 refine Vi (S:=λ_ R s=>(s.heap.get? x=Z b/\s.heap.get? C=Z (Wf nm q C N bs bm hdct sn sub ab col dd k0 k1 k2 k3 k5 l))/\R (.ok (.ret (.bool J))) s)
  (λ_ _ _ _ _ a=>U1 (yR a.1.1 g a.1.2 (λ{c e d} z=>?_) (λ{c e d} z=>?_) (by rw[SJ,i,TG]) a.2) (by intro q;cases q)) ⟨⟨k,f⟩,h⟩
 .rw[j];exact VG z
 .exact VG z
end
end cI
end
section
namespace cI
open PySem PySem.W
section
variable{prog:Wd}{w:Wo}{A:Wg}{E:VI->VL->Prop}{h:We}{g:Array GenState}{d:Drawn}{t:Nat}{os:OsState}{a:VU}{o:WS}{K:Frag}{nm q:V1}{C N:VU}{bs bm:List VI}{hdct:Bool}{sn:List V1}{sub:List VI}{ab:Bool}{col:Option Bool}{dd:Option VU}{k0 k1 k2 k3 k5:Option VI}{newId:String}
def I0(i:h.get? C=Z (Wf nm q C N bs bm hdct sn sub ab col dd k0 k1 k2 k3 k5 newId))(c:h.get? D=Z (Wf T U D s v b z V a0 u x y B G H I L O))(m:h.get? e=Z r)(l:r.cls=.ref C)(j:b.contains (.type "BaseException")=J)(n:(VY C::bm).contains (.ref D)=J)(p:Q J ⟨h,g,d,t,os⟩):VO M A (excMatches (.ref e) (.ref D)) Q E ⟨h,g,d,t,os⟩:=by
 have k:(VY D::b).contains (.type "BaseException")=true:=by rw[SJ,j,TG]
 have f:=tc_notTuple;unfold excMatches
 repeat (first|(with_reducible refine Rb m ?_;rw[l])|with_reducible refine Rb c ?_|(with_reducible refine RP c ?_;rw[k])|(with_reducible refine RP i ?_;rw[n])|wp_step)
 exact p
def ED(e:h.get? C=Z (Wf nm q C N bs bm hdct sn sub ab col dd k0 k1 k2 k3 k5 newId))(f:bm.contains (.type "object")=J)(c:h.get? a=Z o)(b:o.cls=.ref C)(k:R (.ok (.ret (.ref C))) ⟨h,g,d,t,os⟩):
  Xy (VW prog w) A (.call (.builtin "getset_descriptor.__get__") ⟨[.builtin "object.__class__",.ref a,.ref C],[]⟩) R ⟨h,g,d,t,os⟩:=by
 have i:(⟨h,g,d,t,os⟩:VL).TypeIs (.builtin "object.__class__") "getset_descriptor":=TM;have j:(VY C::bm).contains (.type (".".intercalate ("object.__class__".cutAt '.').dropLast))=true:=by
  rw[F.owner_object_class,SJ,f,TG]
 refine T5 Vw.plain F.entry_gs_get (Vw.check _ _ _ _ _ _ _ _ i (F.args_gs_get _ _ _) ?_)
 repeat (any_goals (first|assumption|(with_reducible refine Rb c ?_;rw[b])|(with_reducible refine RP e ?_;rw[j])|wp_step))
 refine⟨Uq _ (by decide +kernel),Rk F.entry_object_class ?_⟩
 repeat (any_goals (first|assumption|(with_reducible refine Rb c ?_;rw[b])|wp_step))
def EB(c:h.get? C=Z (Wf nm q C N bs bm hdct sn sub ab col dd k0 k1 k2 k3 k5 newId))(b:bm.contains (.type "BaseException")=J)(l:h.get? a=Z o)(e:o.cls=.ref C)(j:Q () ⟨h,g,d,t,os⟩):VO M A (X1 "BaseException.__getattribute__" ⟨[.ref a,m],[]⟩) Q E ⟨h,g,d,t,os⟩:=by
 have i:builtinKind "BaseException.__getattribute__"=Z .slot:=by decide +kernel
 have k:splitId "BaseException.__getattribute__"=Z ("BaseException","__getattribute__"):=by decide +kernel
 have f:(VY C::bm).contains (.type "BaseException")=true:=by rw[SJ,b,TG]
 have n:=F.args_bexc_ga (.ref a) m;simp only[X1,i,k];refine PV ?_
 .unfold isInstance
  repeat (first|(with_reducible refine Rb l ?_;rw[e])|(with_reducible refine RP c ?_;rw[f])|wp_step)
  exact j
def EC(X:K.In h)(f:Yl K (.ref C) "__class__"=Z (Z (.builtin "object.__class__")))(i:h.get? C=Z (Wf nm q C N bs bm hdct sn sub ab col dd k0 k1 k2 k3 k5 newId))(j:bm.contains (.type "object")=J)(c:h.get? a=Z o)(b:o.cls=.ref C)(p:Q (.done (.ret (.ref C))) ⟨h,g,d,t,os⟩):
  VO (VW prog w) A (WN.«object.__getattribute__» ⟨[.ref a,.str "__class__" tk],[]⟩) Q E ⟨h,g,d,t,os⟩:=by
 have n:(⟨h,g,d,t,os⟩:VL).TypeIs (.builtin "object.__class__") "getset_descriptor":=TM;have k:=TM;have l:=Vw.lookup;have m:=F.slot_gs_set.lookup;have e:=ZD (M:=VW prog w) X f
 repeat (any_goals (first|assumption|(with_reducible refine Rb c ?_;rw[b])|with_reducible refine Looks.at e ?_|wp_step))
 refine ED i j c b ?_
 repeat (any_goals (first|assumption|wp_step))
def EA(X:K.In h)(j:Yl K (.ref C) "__class__"=Z (Z (.builtin "object.__class__")))(h2:Yl K (.ref C) "__getattribute__"=Z (Z (.builtin "BaseException.__getattribute__")))(h3:Yl K (.ref C) "__getattr__"=Z Y)(e:h.get? C=Z (Wf nm q C N bs bm hdct sn sub ab col dd k0 k1 k2 k3 k5 newId))(l:bm.contains (.type "object")=J)(k:bm.contains (.type "BaseException")=J)(c:h.get? a=Z o)(b:o.cls=.ref C)(p:Q (.ref C) ⟨h,g,d,t,os⟩):VO (VW prog w) A (getAttrBy (.ref a) (.str "__class__" tk) VF) Q E ⟨h,g,d,t,os⟩:=by
 have n:=YM.ga.bind (.ref a);have m:(XX "BaseException.__getattribute__"==XX "object.__getattribute__")=false:=by decide +kernel
 have r:(onTheHeap (VY C)&&XX "BaseException.__getattribute__"==XX "object.__getattribute__")=false:=by rw[m];rfl
 have f:=ZD (M:=VW prog w) X h2;have i:=ZD (M:=VW prog w) X h3
 repeat (any_goals (first|assumption|(with_reducible refine Rb c ?_;rw[b])|with_reducible refine Looks.at f ?_|with_reducible refine Looks.at i ?_|wp_step))
 refine T5 YM.ga.plain F.entry_bexc_ga (EB e k c b (EC X j e l c b ?_))
 repeat (any_goals (first|assumption|wp_step))
def Ez(X:K.In h)(b:Yl K (.ref C) "__class__"=Z (Z (.builtin "object.__class__")))(h2:Yl K (.ref C) "__getattribute__"=Z (Z (.builtin "BaseException.__getattribute__")))(h3:Yl K (.ref C) "__getattr__"=Z Y)(e:h.get? C=Z (Wf nm q C N bs bm hdct sn sub ab col dd k0 k1 k2 k3 k5 newId))(f:bm.contains (.type "object")=J)(c:bm.contains (.type "BaseException")=J)(j:h.get? a=Z o)(i:o.cls=.ref C)(k:Q (Z (.ref C)) ⟨h,g,d,t+1,os⟩):VO (VW prog w) A (getAttr? (.ref a) "__class__") Q E ⟨h,g,d,t,os⟩:=by
 unfold getAttr? getAttrBy?
 repeat (any_goals (first|assumption|with_reducible apply EA X b h2 h3 e f c j i|wp_step))
structure Plain(K:Frag)(C:VU)(bm:List VI):Prop where
 a1:Yl K (.ref C) "__class__"=Z (Z (.builtin "object.__class__"))
 a2:Yl K (.ref C) "__getattribute__"=Z (Z (.builtin "BaseException.__getattribute__"))
 a3:Yl K (.ref C) "__getattr__"=Z Y
 G3:bm.contains (.type "object")=J
 yA:bm.contains (.type "BaseException")=J
def Jx(X:K.In h)(P:Plain K C bm)(i:h.get? C=Z (Wf nm q C N bs bm hdct sn sub ab col dd k0 k1 k2 k3 k5 newId))(n:h.get? a=Z o)(m:o.cls=.ref C)(s:∀{e:Wg}{b:VI->VL->Prop}{f},b (.type "type") ⟨h,g,d,t,os⟩->VO (VW prog w) e (XM c) b f ⟨h,g,d,t,os⟩)(r:∀{e:Wg}{b:Bool->VL->Prop}{f},b J ⟨h,g,d,t,os⟩->VO (VW prog w) e (isType c) b f ⟨h,g,d,t,os⟩)(j:(VY C::bm).contains c=VF)(k:Q (.done (.ret (.bool VF))) ⟨h,g,d,t+1,os⟩):VO (VW prog w) A (WN.«isinstance.nested» ⟨[.ref a,c,.int u tk],[]⟩) Q E ⟨h,g,d,t,os⟩:=by
 have l:∀{e:Wg}{b:VI->VL->Prop}{f},b (.ref C) ⟨h,g,d,t,os⟩->VO (VW prog w) e (XM (.ref a)) b f ⟨h,g,d,t,os⟩:=λ{e b f} z=>by
  unfold XM
  repeat (first|(with_reducible refine Rb n ?_;rw[m])|wp_step)
  exact z
 have p:¬(VY C==c)=true:=λz=>by
  rw[SJ]at j;have:=QC.mp z;subst this;simp at j
 unfold WN.«isinstance.nested»;refine PV (l ?_);rw[if_neg p];refine PV (s ?_);rw[if_pos ∅]
 k_delta "plainIsInstance"
 refine PV (PV (r ?_));simp only[RA,PZ,Qs];refine PV ?_;unfold isInstance;refine PV (l ?_);refine RP i ?_;rw[j];simp only[PZ,Qs];refine PV (Ez X P.a1 P.a2 P.a3 i P.G3 P.yA n m ?_);refine PV ?_;unfold isType loadHead;refine PV (Vq i (VG ?_));simp only[Wf,RA,PZ,Qs];refine PV (SF ?_);refine RP i ?_;rw[j]
 first
  |exact VG k
  |exact VG (VG k)
  |exact PV (VG (VG k))
def Hx(X:K.In s.heap)(P:Plain K C bm)(v:s.heap.get? x=Z i)(r:i.cls=.ref C)(m:s.heap.get? C=Z (Wf nm q C N bs bm hdct sn sub ab col dd k0 k1 k2 k3 k5 newId))(c:s.heap.get? D=Z e)(n:e.cls=.type "type")(p:∃f,e.data=.cls f)(u:(VY C::bm).contains (.ref D)=VF)(h:Q (.bool VF) { s with toks:=s.toks+1 }):VO (VW prog w) A (call (.builtin "isinstance") [.ref x,.ref D]) Q E s:=by
 refine Vi (S:=λ_ R s=>(K.In s.heap/\s.heap.get? x=Z i/\s.heap.get? C=Z (Wf nm q C N bs bm hdct sn sub ab col dd k0 k1 k2 k3 k5 newId)/\s.heap.get? D=Z e)/\R (.ok (.ret (.bool VF))) { s with toks:=s.toks+1 })
  (λ_ _ _ _ s' b=>U1 ?_ (by intro q;cases q)) ⟨⟨X,v,m,c⟩,h⟩
 obtain⟨h0,g,d,I,os⟩:=s';refine Jx b.1.1 P b.1.2.2.1 b.1.2.1 r (λ{j l k} z=>?_) (λ{j l k} z=>?_) u b.2
 .have c:=b.1.2.2.2;unfold XM
  repeat (first|(with_reducible refine Rb c ?_;rw[n])|wp_step)
  exact z
 .have c:=b.1.2.2.2;obtain⟨y,B,G,H⟩:=e;obtain⟨f,rfl⟩:=p;unfold isType loadHead;exact PV (Vq c (VG z))
end
end cI
end
section
namespace cI
open PySem
def Fx:entryFor table "proto.unchain"=Z WN.«proto.unchain»:=entryFor_of_tree (by kernel_rfl)
section
def Fu(t:A.handled=Z (.ref x))(g:s.heap.get? x=Z h)(B:h.data=.fields I)(z:I[2]?=Z .none)(p:x≠d)(f:s.heap.IsListIter d l i)(u:s.heap.IsList l C)(v:C[i]?=Y)(r:∀h',(∀b o,b≠d->s.heap.get? b=Z o->h'.get? b=Z o)->Q Y { s with heap:=h' }):VO (VW prog w) A (Xi (.ref d)) Q E s:=by
 obtain⟨o,j,M,k⟩:=id f;obtain⟨L,G,_,N,H⟩:=u;unfold Xi;refine PV (Tf (Rt (name:=Xc "__next__") f.typeIs slot_listiter_next (Rn slot_listiter_next f.typeIs entry_listiter_next ?_ (args_listiter_next _))));show VO _ _ (field (.ref d) 0>>=_) _ _ s;refine PV (RR j k (x:=.ref l) rfl ?_);show VO _ _ (if (VY l==Value.none)=J then _ else _) _ _ s;rw[if_neg (show ¬((VY l==Value.none)=J) by simp)];refine PV (RR j k (x:=.int i 0) rfl (PV (Vk G H ?_)));simp only[Ws,v];refine PV (SF (PV (RB j k (by simp) (PV ?_))));simp only[newExc,newTuple];refine PV (QA (PV (m:=W9 _ _) (Vl (a:=Value.none) (by first|rfl|(simp only[W9];rfl)) (QA ?_ (by size_fits)))) (by size_fits));simp only[raiseNew];refine PV (Vu ?_);rw[show A.in1.handled=Z (.ref x) from t];have K:x<s.heap.objs.size:=P7 g;generalize n:s.heap.update d (Wl λx=>x.setIfInBounds 0 Value.none)=h0;have O:h0.objs.size=s.heap.objs.size:=by rw[<- n];exact(Ry ..).1
 have k0:∀b o,b≠d->s.heap.get? b=Z o->h0.get? b=Z o:=λb o e q=>by rw[<- n];exact(Qt _ _ (Q8 e)).trans q
 generalize y:h0.push { cls:=Wj "tuple",data:=Data.seq #[] }=c;have k1:∀b o,b≠d->s.heap.get? b=Z o->c.get? b=Z o:=λb o e q=>by rw[<- y];exact PX _ (k0 b o e q)
 have D:x≠c.objs.size:=Ql (P7 (k1 x h p g));dsimp only;rw[if_pos (show(VY x != VY c.objs.size)=J by simp[D])];refine PV (RJ (Tz (Rk Fx ?_)));show VO _ _ (field (.ref x) 2>>=_) _ _ _;refine PV (RR (PX _ (k1 x h p g)) B z ?_);rw[if_pos ∅];refine VG ?_;show VO _ _ (updateField c.objs.size 2 (.ref x)>>=_) _ _ _;refine PV (RB (a:=c.objs.size) (i:=2) (x:=.ref x) (Qb c rfl) rfl (by simp;lia) (ZX ?_));refine PV (TS (T:="StopIteration") (b:=J) ⟨_,QE _ (Qb c rfl) rfl,rfl⟩ Vn ?_);refine VG (r _ λb o e q=>?_);have:=k1 b o e q;rw[Qt _ _ (Q8 (Ql (P7 this)))];exact PX _ this
def Pe(n:A.handled=Z (.ref x))(t:u.data=.fields y)(r:y[2]?=Z .none)(I d)(p:d≠I)(l:x≠I)(j):
  Walks prog w A I [I,d,x] [I] j.size (λi v=>j[i]?=Z v) (λi h=>(h.IsListIter I d i/\h.IsList d j)/\h.get? x=Z u) where
 sub:=λc g=>by simp at g;simp[g]
 frame:=λ_ _ _ st k=>⟨⟨st.1.1.at λo e=>k I (by simp) o e,st.1.2.at λo e=>k d (by simp) o e⟩,k x (by simp) _ st.2⟩
 item:=λi s Q E hi st f=>X8 st.1.1 st.1.2 (x:=j[i]) (by simp[hi]) λh' a b =>
  f _ h' s.toks (by simp[hi]) ⟨⟨a,st.1.2.extBut b.extBut p⟩,b.extBut x _ l st.2⟩ λc o g e=>b.extBut c o (λh=>g (by simp[h])) e
 done:=λs Q E st f=>Fu n st.2 t r l st.1.1 st.1.2 (by simp) λh' q=>f h' s.toks λb o m e=>q b o (λh=>m (by simp[h])) e
 self:=λ_ _ _ _ st f=>Yq st.1.1 f
end
end cI
end
section
namespace aD
open PySem PySem.Spec PyProof.Rows az
noncomputable abbrev D:=ζ.D
noncomputable abbrev ay:=ζ.ay
noncomputable abbrev aV:=ζ.R
noncomputable abbrev aR:=List (Option V)
def a7{α:Type}(r:aV α)(Q:α->Prop)(E:Nat->Prop):Prop:=match r with
 |.ok a=>Q a
 |.exc c=>E c
 |.bad=>False
def aC{α β:Type}{r:aV α}{f:α->aV β}{Q:β->Prop}:a7 (r>>=f) Q E<->a7 r (λa=>a7 (f a) Q E) E:=by
 cases r<;>exact Iff.rfl
def aS{α:Type}{r:aV α}{Q b:α->Prop}(h:a7 r Q E)(e:∀a,Q a->b a)(d:∀c,E c->v8 c):a7 r b v8:=by
 cases r with
 |ok a=>exact e a h
 |exc c=>exact d c h
 |bad=>exact h
abbrev eR(a:List (List Int×Int)):List (List Key×V):=a.map λp=>(p.1.map Wi,V.int p.2)
abbrev cV(G:ah):List (Int×Int×Int)->List (Key×V)->Prop
 |[],ys=>ys=[]
 |p::a,ys=>∃b r,ys=(Wi p.1,.ref b)::r/\G b=Z (.tup [.int p.2.1,.int p.2.2])/\cV G a r
theorem cV.mono(s:aF G c):∀{a:List (Int×Int×Int)}{ys:List (Key×V)},cV G a ys->cV c a ys
 |[],_,h=>h
 |p::a,_,⟨b,r,e,d,h2⟩=>⟨b,r,e,s _ _ d,h2.mono s⟩
def mu(G:ah):List (List Int)->List V->Prop
 |[],xs=>xs=[]
 |c::cs,xs=>∃b r,xs=.ref b::r/\G b=Z (.tup (c.map V.int))/\mu G cs r
mutual
noncomputable def Rep (K:W.Frag) (G:ah):D->V->Prop
 |.b0,v=>v=.b0
 |.ag b,v=>v=.ag b
 |.int i,v=>v=.int i
 |.str x,v=>v=.str x
 |.tup ds,v=>∃a xs,v=.ref a/\G a=Z (.tup xs)/\ax K G ds xs
 |.lst ds,v=>∃a xs,v=.ref a/\cz K G a xs/\ax K G ds xs
 |.aT c,v=>∃a e,v=.ref a/\G a=Z (.cx e (.cD (eR c)))
 |.aK c,v=>∃a e ys,v=.ref a/\G a=Z (.cx e (.cg ys))/\cV G c ys
 |.ee _,_=>False
 |.kt ds,v=>∃a xs,v=.ref a/\cW K (λ_=>Y) a xs/\ax K G ds xs
noncomputable def ax (K:W.Frag) (G:ah):List D->List V->Prop
 |[],xs=>xs=[]
 |d::ds,xs=>∃v r,xs=v::r/\Rep K G d v/\ax K G ds r
end
section
variable{K:W.Frag}{G cu H aE:ah}
def BO(s:aF G cu)(h:cW K G a xs):cW K cu a xs:=by
 rcases h with(h|⟨o,h⟩)|h
 .exact .inl (.inl (s _ _ h))
 .exact .inl (.inr ⟨o,s _ _ h⟩)
 .exact .inr h
def fW(s:aF G cu)(h:G a=Z (.tup xs)):cW K cu a xs:=.inl (.inl (s _ _ h))
def hM(s:aF G cu)(h:cz K G a xs):cz K cu a xs:=by
 rcases h with(h|⟨o,h⟩)|h
 .exact .inl (.inl (s _ _ h))
 .exact .inl (.inr ⟨o,s _ _ h⟩)
 .exact .inr h
def AJ(s:aF G cu)(h:fu G a u):fu cu a u:=by
 rcases h with h|⟨o,h⟩
 .exact .inl (s _ _ h)
 .exact .inr ⟨o,s _ _ h⟩
mutual
theorem Rep.mono (s:aF G cu):∀{d:D}{v:V},Rep K G d v->Rep K cu d v
 |.b0,_,h=>h
 |.ag _,_,h=>h
 |.int _,_,h=>h
 |.str _,_,h=>h
 |.tup ds,_,⟨a,xs,e,h,r⟩=>⟨a,xs,e,s _ _ h,ax.mono s r⟩
 |.lst ds,_,⟨a,xs,e,h,r⟩=>⟨a,xs,e,hM s h,ax.mono s r⟩
 |.aT _,_,⟨a,b,e,h⟩=>⟨a,b,e,s _ _ h⟩
 |.aK _,_,⟨a,b,ys,e,h,r⟩=>⟨a,b,ys,e,s _ _ h,r.mono s⟩
 |.ee _,_,h=>h
 |.kt ds,_,⟨a,xs,e,h,r⟩=>⟨a,xs,e,h,ax.mono s r⟩
theorem ax.mono (s:aF G cu):∀{ds:List D}{xs:List V},ax K G ds xs->ax K cu ds xs
 |[],_,h=>h
 |d::ds,_,⟨v,r,e,c,h2⟩=>⟨v,r,e,Rep.mono s c,ax.mono s h2⟩
end
theorem ax.length:∀{ds:List D}{xs:List V},ax K G ds xs->ds.length=xs.length
 |[],_,h=>by cases h;rfl
 |d::ds,_,⟨v,r,e,a,h2⟩=>by subst e;simp[ax.length h2]
theorem ax.append:∀{ds a:List D}{xs ys:List V},ax K G ds xs->ax K G a ys->ax K G (ds++a) (xs++ys)
 |[],_,_,_,h,q=>by cases h;exact q
 |d::ds,_,_,_,⟨v,r,e,b,h2⟩,q=>by subst e;exact⟨v,r++_,rfl,b,ax.append h2 q⟩
theorem ax.get:∀{ds:List D}{xs:List V}{i:Nat}{d:D},ax K G ds xs->ds[i]?=Z d->∃v,xs[i]?=Z v/\Rep K G d v
 |[],_,_,_,h,e=>by simp at e
 |d::ds,_,0,_,⟨v,r,e,a,h2⟩,q=>by subst e;simp at q;subst q;exact⟨v,rfl,a⟩
 |d::ds,_,i+1,_,⟨v,r,e,a,h2⟩,q=>by subst e;simpa using ax.get h2 ⇑q
theorem ax.drop:∀{ds:List D}{xs:List V}(n:Nat),ax K G ds xs->ax K G (ds.drop n) (xs.drop n)
 |_,_,0,h=>⇑h
 |[],_,n+1,h=>by cases h;simp[ax]
 |d::ds,_,n+1,⟨v,r,e,a,h2⟩=>by subst e;simpa using ax.drop n h2
theorem ax.take:∀{ds:List D}{xs:List V}(n:Nat),ax K G ds xs->ax K G (ds.take n) (xs.take n)
 |_,_,0,h=>by simp[ax]
 |[],_,n+1,h=>by cases h;simp[ax]
 |d::ds,_,n+1,⟨v,r,e,a,h2⟩=>by subst e;exact⟨v,r.take n,by simp,a,ax.take n h2⟩
def ax.snoc(h:ax K G ds xs)(q:Rep K G d v):ax K G (ds++[d]) (xs++[v]):=h.append ⟨v,[],rfl,q,rfl⟩
def View(K:W.Frag)(G H:ah):D->V->Prop
 |.aT b,v=>∃a,v=.ref a/\fu H a (.cD (eR b))
 |.aK b,v=>∃a ys,v=.ref a/\fu H a (.cg ys)/\cV G b ys
 |.lst ds,v=>∃a xs,v=.ref a/\cz K H a xs/\ax K G ds xs
 |d,v=>Rep K G d v
def Rep.view(s:aF G H):∀{d:D}{v:V},Rep K G d v->View K G H d v
 |.lst ds,_,⟨a,xs,e,h,r⟩=>⟨a,xs,e,hM s h,r⟩
 |.b0,_,h=>h
 |.ag _,_,h=>h
 |.int _,_,h=>h
 |.str _,_,h=>h
 |.tup _,_,h=>h
 |.aT _,_,⟨a,b,e,h⟩=>⟨a,e,.inr ⟨b,s _ _ h⟩⟩
 |.aK _,_,⟨a,b,ys,e,h,r⟩=>⟨a,ys,e,.inr ⟨b,s _ _ h⟩,r⟩
 |.ee _,_,h=>h
 |.kt _,_,h=>h
structure Ext(G H cu aE:ah):Prop where
 g:aF G cu
 h:aF H aE
 sub:aF cu aE
 new:∀a,G a=Y->H a≠Y->cu a=Y
 bB:∀b xs,aE b=Z (.tup xs)->H b=Z (.tup xs)\/cu b=Z (.tup xs)
theorem Ext.refl(s:aF G H):Ext G H G H:=⟨aF.refl G,aF.refl H,s,λ_ h _=>h,λ_ _ h=>.inl h⟩
theorem Ext.trans(x:Ext G H c d)(y:Ext c d cu aE):Ext G H cu aE :=
 ⟨x.g.trans y.g,x.h.trans y.h,y.sub,λa e h2=>y.new a (x.new a e h2) (λz=>by
  cases q:H a with
  |none=>exact h2 q
  |some o=>rw[x.h a o q]at z;cases z),λb xs z=>(y.bB b xs z).elim (λz=>(x.bB b xs z).imp id λz=>y.g _ _ z) .inr⟩
def d0(h:H a=Y):aF H (upd H a o):=λb u e=>by rw[bo (jt e h)];exact e
def View.ext(x:Ext G H b c):∀{d:D}{v:V},View K G H d v->View K b c d v
 |.lst ds,_,⟨a,xs,e,h,r⟩=>⟨a,xs,e,hM x.h h,r.mono x.g⟩
 |.b0,_,h=>h
 |.ag _,_,h=>h
 |.int _,_,h=>h
 |.str _,_,h=>h
 |.tup _,_,h=>Rep.mono (K:=K) x.g h
 |.aT _,_,⟨a,e,h⟩=>⟨a,e,AJ x.h h⟩
 |.aK _,_,⟨a,ys,e,h,r⟩=>⟨a,ys,e,AJ x.h h,r.mono x.g⟩
 |.ee _,_,h=>h
 |.kt _,_,h=>Rep.mono (K:=K) x.g h
def Ext.own(s:aF G H)(h:H a=Y)(d:∀xs,o≠.tup xs):Ext G H G (upd H a o):=⟨aF.refl G,d0 h,s.trans (d0 h),λ_ c _=>c,λb xs e=>by
 by_cases q:b=a
 .subst q;rw[b7]at e;cases e;exact absurd rfl (d xs)
 .rw[bo q]at e;exact .inl e⟩
def Ext.put(s:aF G H)(h:H a=Y):Ext G H (upd G a o) (upd H a o):=by
 have d:G a=none:=s.free h;refine⟨d0 d,d0 h,λb u e=>?_,λb c h2=>?_,λb xs e=>?_⟩
 .by_cases q:b=a
  .subst q;rw[b7]at e ⊢;exact e
  .rw[bo q]at e ⊢;exact s b u e
 .rw[bo (λq=>h2 (by rw[q];exact h))];exact c
 .by_cases q:b=a
  .subst q;rw[b7]at e ⊢;exact .inr e
  .rw[bo q]at e;exact .inl e
end
inductive dC where
 |view|val|fresh
def a8(K:W.Frag)(H b c:ah):dC->D->V->Prop
 |.view,d,v=>View K b c d v
 |.val,d,v=>Rep K b d v
 |.fresh,.lst ds,v=>∃a xs,v=.ref a/\c a=Z (.lst xs)/\H a=Y/\b a=Y/\ax K b ds xs
 |.fresh,.aT _,_=>False
 |.fresh,.aK _,_=>False
 |.fresh,d,v=>Rep K b d v
def eV:D->Bool
 |.lst _=>J
 |.aT _=>J
 |.aK _=>J
 |_=>VF
def gL(K:W.Frag)(G:ah):D->e8->Prop
 |.lst ds,o=>∃xs,o=.lst xs/\ax K G ds xs
 |.aT a,o=>o=.cD (eR a)
 |.aK a,o=>∃ys,o=.cg ys/\cV G a ys
 |_,_=>False
theorem gL.mono{K:W.Frag}(s:aF G a):∀{d:D}{o:e8},gL K G d o->gL K a d o
 |.lst _,_,⟨xs,e,r⟩=>⟨xs,e,r.mono s⟩
 |.aT _,_,h=>h
 |.aK _,_,⟨ys,e,r⟩=>⟨ys,e,r.mono s⟩
 |.b0,_,h=>h
 |.ag _,_,h=>h
 |.int _,_,h=>h
 |.str _,_,h=>h
 |.tup _,_,h=>h
 |.ee _,_,h=>h
 |.kt _,_,h=>h
structure cH(K:W.Frag)(aa:List Nat)(G H:ah)(ae:ay)(σ:aR):Prop where
 len:ae.length=σ.length
 sub:aF G H
 val:∀(i:Nat)(d:D),ae[i]?=Z (Z d)->i∉aa->∃v,σ[i]?=Z (Z v)/\Rep K G d v
 own:∀(i:Nat)(d:D),ae[i]?=Z (Z d)->i∈aa->eV d=VF->∃v,σ[i]?=Z (Z v)/\Rep K G d v
 lst:∀(i:Nat)(d:D),ae[i]?=Z (Z d)->i∈aa->eV d=J->∃a o,σ[i]?=Z (Z (V.ref a))/\H a=Z o/\G a=Y/\gL K G d o
 bB:∀b xs,H b=Z (.tup xs)->G b=Z (.tup xs)
 apart:∀(i j:Nat)(d e:D)(a b:VU),ae[i]?=Z (Z d)->ae[j]?=Z (Z e)->eV d=J->eV e=J->i∈aa->j∈aa->i≠j->σ[i]?=Z (Z (V.ref a))->σ[j]?=Z (Z (V.ref b))->a≠b
def cH.ext{K:W.Frag}(h:cH K l G H m n)(x:Ext G H g j):cH K l g j m n where
 len:=h.len
 sub:=x.sub
 val:=λi d e c=>let ⟨v,a,b⟩:=h.val i d e c;⟨v,a,b.mono x.g⟩
 own:=λi d e c f=>let ⟨v,a,b⟩:=h.own i d e c f;⟨v,a,b.mono x.g⟩
 lst:=λi d e c f=>let ⟨a,o,k,h2,h3,h4⟩:=h.lst i d e c f;⟨a,o,k,x.h _ _ h2,x.new a h3 (by rw[h2];exact λz=>nomatch z),h4.mono x.g⟩
 bB:=λb xs z=>(x.bB b xs z).elim (λz=>x.g _ _ (h.bB b xs z)) id
 apart:=h.apart
theorem cH.view{K:W.Frag}(h:cH K j G H k l){i:Nat}{d:D}(e:k[i]?=Z (Z d)):∃v,l[i]?=Z (Z v)/\View K G H d v:=by
 by_cases f:i∈j
 .cases c:eV d with
  |false=>obtain⟨v,b,h2⟩:=h.own i _ e f c;exact⟨v,b,h2.view h.sub⟩
  |true =>
   obtain⟨a,o,b,h2,h3,h4⟩:=h.lst i d e f c;cases d with
   |lst ds=>obtain⟨xs,rfl,r⟩:=h4;exact⟨_,b,a,xs,rfl,.inl (.inl h2),r⟩
   |aT g=>cases h4;exact⟨_,b,a,rfl,.inl h2⟩
   |aK g=>obtain⟨ys,rfl,r⟩:=h4;exact⟨_,b,a,ys,rfl,.inl h2,r⟩
   |_=>cases c
 .obtain⟨v,b,h2⟩:=h.val i d e f;exact⟨v,b,h2.view h.sub⟩
noncomputable abbrev cf:=Nat->VI->List VU->We->Prop
def fb(X:aq)(b:List (VU×WS))(H:ah)(a:VU):Prop :=
 H a=Y/\(a∈X.ex\/X.dT.heap.get? a=Y)/\a≠X.env.locals/\(∀x c,X.env.cells.lookup x=Z c->c≠a)/\∀p∈X.b6++b,p.1≠a
def fb.of{k:aR}(I:Inv X j k H s)(h:s.heap.get? a=Y)(h':i a=Y):fb X j i a:=by
 have f:∀{b:VU}{o:WS},s.heap.get? b=Z o->b≠a:=λq z=>by rw[z,h]at q;cases q
 refine⟨h',?_,λz=>?_,λx c q=>?_,λp q=>f (I.pin p q).1⟩
 .by_cases g:a∈X.ex
  .exact .inl g
  .refine .inr ?_;cases q:X.dT.heap.get? a with
   |none=>rfl
   |some o=>obtain⟨l,e⟩:=I.base.there a o q g;rw[h]at e;cases e
 .obtain⟨m,⟨o,_,_,d,_⟩,_⟩:=I.loc;exact f d z.symm
 .obtain⟨v,o,d,_⟩:=I.cell x c q;exact f d
def dy(xp:cf)(X:aq)(c:Nat)(H:ah):Prop:=∀(d:List (VU×WS))(f:aR)(b:ah)(s':VL)(e:VI)(l:List VU),Inv X d f b s'->aF H b->(∀a∈l,fb X d b a)->xp c e l s'.heap->X.a6 e s'
def dy.mono(h:dy xp X c H)(s:aF H aE):dy xp X c aE:=λb d a s' e l I q n x=>h b d a s' e l I (s.trans q) n x
def av(xp:cf)(X:aq)(g:List Nat)(m:dC)(f:ay->aV D):TE:=λh H Q =>
 ∃G e,cH X.K g G H e h/\a7 (f e) (λd=>∀v b a,Ext G H b a->a8 X.K H b a m d v->Q v a) (λc=>dy xp X c H)
theorem a8.view{K:W.Frag}(s:aF b c):∀{m:dC}{d:D}{v:V},a8 K H b c m d v->View K b c d v
 |.view,_,_,h=>h
 |.val,_,_,h=>Rep.view s h
 |.fresh,.lst ds,_,⟨a,xs,e,f,_,_,r⟩=>⟨a,xs,e,.inl (.inl f),r⟩
 |.fresh,.b0,_,h=>h
 |.fresh,.ag _,_,h=>h
 |.fresh,.int _,_,h=>h
 |.fresh,.str _,_,h=>h
 |.fresh,.tup _,_,h=>h
 |.fresh,.aT _,_,h=>h.elim
 |.fresh,.aK _,_,h=>h.elim
 |.fresh,.ee _,_,h=>h
 |.fresh,.kt _,_,h=>h
theorem ai.val(h:ai X e (av xp X n .fresh f)):ai X e (av xp X n .val f):=by
 rintro p s w H Q I ⟨G,u,m,hw⟩;refine h p s w H Q I ⟨G,u,m,aS hw (λd k v c g x r=>?_) λ_ q=>q⟩;cases d with
 |lst ds =>
  obtain⟨a,xs,rfl,l,h2,h3,h4⟩:=r;refine k _ (upd c a (.lst xs)) g ⟨x.g.trans (d0 h3),x.h,λb o q=>?_,λb t j=>?_,λb xs q=>(x.bB b xs q).imp id λz=>d0 h3 _ _ z⟩ ⟨a,xs,rfl,.inl (.inl b7),h4.mono (d0 h3)⟩
  .by_cases i:b=a
   .subst i;rw[b7]at q;rw[l];exact q
   .rw[bo i]at q;exact x.sub b o q
  .rw[bo (λz=>j (by rw[z];exact h2))];exact x.new b t j
 |aT _=>exact r.elim
 |aK _=>exact r.elim
 |_=>exact k v c g x r
theorem ai.view(h:ai X e (av xp X g m f)):ai X e (av xp X g .view f):=by
 rintro i s l H Q I ⟨G,j,c,hw⟩;exact h i s l H Q I ⟨G,j,c,aS hw (λd k v a b x r=>k v a b x (r.view x.sub)) λ_ q=>q⟩
section
def Bj(h:X.N[i]?=Z x)(j:dV X.env.scope x)(g:(x==("__debug__":V1))=VF)(h2:(x==("__classdict__":V1))=VF):ai X (.Name x p) (av xp X m .view λc=>ζ.ev pg Φ c (.var i)):=by
 rintro k s l H Q I ⟨G,c,f,hw⟩;dsimp only at hw;cases e:c[i]? with
 |none=>rw[ζ.pa,e]at hw;exact hw.elim
 |some o =>
  cases o with
  |none=>rw[ζ.pa,e]at hw;exact hw.elim
  |some d =>
   rw[ζ.pd i e]at hw;obtain⟨v,a,b⟩:=f.view e;exact eZ h j g h2 k s l H Q I ⟨v,a,hw v G H (Ext.refl f.sub) b⟩
def My(j:i∉l)(h:X.N[i]?=Z x)(k:dV X.env.scope x)(g:(x==("__debug__":V1))=VF)(h2:(x==("__classdict__":V1))=VF):ai X (.Name x p) (av xp X l .val λc=>ζ.ev pg Φ c (.var i)):=by
 rintro m s n H Q I ⟨G,c,f,hw⟩;dsimp only at hw;cases e:c[i]? with
 |none=>rw[ζ.pa,e]at hw;exact hw.elim
 |some o =>
  cases o with
  |none=>rw[ζ.pa,e]at hw;exact hw.elim
  |some d =>
   rw[ζ.pd i e]at hw;obtain⟨v,a,b⟩:=f.val i d e j;exact eZ h k g h2 m s n H Q I ⟨v,a,hw v G H (Ext.refl f.sub) b⟩
def Be{d:D}(h:ζ.litOk d c=J):ai X (.Constant c j p) (av xp X k m λf=>ζ.ev pg Φ f (.lit d)):=by
 rintro a s e H Q I ⟨G,f,g,hw⟩;dsimp only at hw;rw[ζ.tw]at hw;have fin:∀v,a8 X.K H G H m d v->Q v H:=λv r=>hw v G H (Ext.refl g.sub) r
 cases d with
 |b0=>cases c<;>simp[ζ.litOk]at h;exact Km a s e H Q I (fin _ (by cases m<;>rfl))
 |ag b =>
  cases c<;>simp[ζ.litOk]at h;subst h;exact Kb a s e H Q I (fin _ (by cases m<;>rfl))
 |int i =>
  cases c<;>simp[ζ.litOk]at h;subst h;exact Kk a s e H Q I (fin _ (by cases m<;>rfl))
 |str x =>
  cases c<;>simp[ζ.litOk]at h;subst h;exact Ak a s e H Q I (fin _ (by cases m<;>rfl))
 |_=>cases c<;>simp[ζ.litOk]at h
def iA(K:W.Frag)(g:D->D->aV D):fs:=λx y H Q=>∃G c e,aF G H/\View K G H c x/\View K G H e y/\a7 (g c e) (λd=>∀v b a,Ext G H b a->a8 K H b a .fresh d v->Q v a) (λ_=>False)
def a8.old{K:W.Frag}(s:aF H f):∀{m:dC}{d:D}{v:V},a8 K f b c m d v->a8 K H b c m d v
 |.view,_,_,h=>h
 |.val,_,_,h=>h
 |.fresh,.lst ds,_,⟨a,xs,e,g,h2,h3,r⟩=>⟨a,xs,e,g,s.free h2,h3,r⟩
 |.fresh,.b0,_,h=>h
 |.fresh,.ag _,_,h=>h
 |.fresh,.int _,_,h=>h
 |.fresh,.str _,_,h=>h
 |.fresh,.tup _,_,h=>h
 |.fresh,.aT _,_,h=>h
 |.fresh,.aK _,_,h=>h
 |.fresh,.ee _,_,h=>h
 |.fresh,.kt _,_,h=>h
def LS(A:∀x y c,g x y≠.exc c)(B:bP X (WG op) (iA X.K g))(w:ai X a (av xp X m .view t))(z:ai X b (av xp X m .view u)):
  ai X (.BinOp a op b pos) (av xp X m .fresh λe=>t e>>=λx=>u e>>=λy=>g x y):=by
 rintro C s R H Q I ⟨G,e,l,hw⟩;refine Kn B w z C s R H Q I ?_;refine⟨G,e,l,aS (aC.mp hw) (λi k v n S f E=>?_) λ_ q=>q⟩;refine⟨n,e,l.ext f,aS (aC.mp k) (λj k2 U o T h L=>?_) λ_ q=>q.mono f.h⟩;refine⟨o,i,j,h.sub,View.ext h E,L,?_⟩;cases q:g i j with
 |ok d =>
  rw[q]at k2;exact λN p r O M=>k2 N p r ((f.trans h).trans O) (M.old (f.h.trans h.h))
 |exc c=>exact absurd q (A _ _ _)
 |bad=>rw[q]at k2;exact k2
def jb{K:W.Frag}{Q:cc}(c:aF G H)(k:∀v b a,Ext G H b a->a8 K H b a .fresh d v->Q v a)(r:a8 K H G H .fresh d v):Q v H:=k v G H (Ext.refl c) r
def Fb:bP X (WG .Sub) (iA X.K (ζ.cA .sub)):=by
 rintro d s i H x y v u Q I e f ⟨G,a,b,c,g,h,hw⟩;cases a<;>cases b<;>first|exact hw.elim|skip
 exact JZ d s i H x y v u Q I e f ⟨_,_,g,h,jb c hw rfl⟩
def E7:bP X (WG .Mod) (iA X.K (ζ.cA .mod)):=by
 rintro pins s σ H x y v u Q I jB jC ⟨G,dt,kh,gY,jK,jL,hw⟩;cases dt<;>cases kh<;>first|exact hw.elim|skip
 rw[ζ.mod_int]at hw
 by_cases h:0<i_1
 .rw[if_pos h]at hw;exact JX pins s σ H x y v u Q I jB jC ⟨_,_,jK,jL,h,jb gY hw rfl⟩
 .rw[if_neg h]at hw;exact hw.elim
def E5:bP X (WG .FloorDiv) (iA X.K (ζ.cA .fdiv)):=by
 rintro pins s σ H x y v u Q I jB jC ⟨G,dt,kh,gY,jK,jL,hw⟩;cases dt<;>cases kh<;>first|exact hw.elim|skip
 rw[ζ.yb]at hw
 by_cases h:0<i_1/\i_1<1073741824
 .rw[if_pos h]at hw;exact JS pins s σ H x y v u Q I jB jC ⟨_,_,jK,jL,h,jb gY hw rfl⟩
 .rw[if_neg h]at hw;exact hw.elim
end
mutual
noncomputable def toPy:D->PyData
 |.b0=>.none
 |.ag b=>.bool b
 |.int i=>.int i
 |.str x=>.str x
 |.tup xs=>.tuple (fp xs)
 |.lst xs=>.list (fp xs)
 |.aT _=>.dict []
 |.aK _=>.dict []
 |.ee _=>.dict []
 |.kt _=>.dict []
noncomputable def fp:List D->List PyData
 |[]=>[]
 |d::ds=>toPy d::fp ds
end
mutual
theorem nc:∀a b:D,aag (toPy a) (toPy b)=ζ.eS a b
 |.b0,b=>by cases b<;>rfl
 |.ag _,b=>by cases b<;>rfl
 |.int _,b=>by cases b<;>rfl
 |.str _,b=>by cases b<;>rfl
 |.tup xs,b=>by
  cases b with
  |tup ys=>exact tq xs ys
  |_=>rfl
 |.lst xs,b=>by
  cases b with
  |lst ys=>exact tq xs ys
  |_=>rfl
 |.aT _,b=>by cases b<;>rfl
 |.aK _,b=>by cases b<;>rfl
 |.ee _,b=>by cases b<;>rfl
 |.kt _,b=>by cases b<;>rfl
theorem tq:∀a b:List D,XU (fp a) (fp b)=ζ.hr a b
 |[],[]=>rfl
 |[],_::_=>rfl
 |_::_,[]=>rfl
 |x::xs,y::ys=>by simp only[fp,XU,ζ.hr,nc x y,tq xs ys]
end
mutual
theorem me:∀(n:Nat)(d:D),ζ.bL n d=J->(toPy d).canLay0=J/\(toPy d).depth<=n
 |n,.b0,_=>⟨rfl,Qa _⟩
 |n,.ag _,_=>⟨rfl,Qa _⟩
 |n,.int _,_=>⟨rfl,Qa _⟩
 |0,.str x,h=>⟨h,Qa _⟩
 |n+1,.str x,h=>⟨h,Qa _⟩
 |0,.tup _,h=>by cases h
 |n+1,.tup xs,h=>by
  obtain⟨a,b⟩:=vh n xs h;exact⟨a,by show WX (fp xs)+1<=n+1;lia⟩
 |0,.lst _,h=>by cases h
 |n+1,.lst xs,h=>by
  obtain⟨a,b⟩:=vh n xs h;exact⟨a,by show WX (fp xs)+1<=n+1;lia⟩
 |0,.aT _,h=>by cases h
 |n+1,.aT _,h=>by cases h
 |0,.aK _,h=>by cases h
 |n+1,.aK _,h=>by cases h
 |0,.ee _,h=>by cases h
 |n+1,.ee _,h=>by cases h
 |0,.kt _,h=>by cases h
 |n+1,.kt _,h=>by cases h
theorem vh:∀(n:Nat)(ds:List D),ds.all (ζ.bL n)=J->WZ (fp ds)=J/\WX (fp ds)<=n
 |n,[],_=>⟨rfl,Qa _⟩
 |n,d::ds,h=>by
  simp only[WE,PW]at h;obtain⟨a,b⟩:=me n d h.1;obtain⟨c,e⟩:=vh n ds h.2;refine⟨by simp only[fp,WZ,a,c,Vt],?_⟩;show max (PyData.depth (toPy d)) (WX (fp ds))<=n;lia
end
def qJ{d:D}(h:ζ.bL 60 d=J):SeqAt.shaped (toPy d)=true:=by
 obtain⟨a,b⟩:=me 60 d h;unfold SeqAt.shaped;rw[a,XP];exact decide_eq_true ⋯
section
variable{xp:cf}{X:aq}{aa:List Nat}{pg:ζ.cw}{Φ:ζ.da}{pins:List (VU×WS)}{σ:aR}{G H:ah}{s:VL}
mutual
theorem AM (I:Inv X pins σ H s) (c:aF G H):∀(n:Nat){d:D}{v:V}{u:VI},ζ.bL n d=J->Rep X.K G d v->RelV v u->∃as,Reads s.heap u (toPy d) as
 |_,.b0,_,_,_,h,r=>by cases h;cases r;exact⟨_,.none⟩
 |_,.ag b,_,_,_,h,r=>by cases h;cases r;exact⟨_,.bool b⟩
 |_,.int i,_,_,_,h,r=>by cases h;obtain⟨t,rfl⟩:=r;exact⟨_,.int i t⟩
 |_,.str x,_,_,_,h,r=>by cases h;obtain⟨t,rfl⟩:=r;exact⟨_,.str x t⟩
 |0,.tup ds,_,_,z,_,_=>by cases z
 |n+1,.tup ds,_,_,z,g,r=>by
  obtain⟨a,xs,e,h,q⟩:=g;subst e;cases r;obtain⟨its,m,⟨o,l,j,y,k⟩,_⟩:=I.tuple (fW c h);obtain⟨as,f⟩:=l7 I c n z q m;exact⟨as,.tuple l j k ⇑f⟩
 |0,.lst ds,_,_,z,_,_=>by cases z
 |n+1,.lst ds,_,_,z,g,r=>by
  obtain⟨a,xs,e,h,q⟩:=g;subst e;cases r;obtain⟨its,m,⟨o,y,l,j,_,k⟩,_⟩:=I.list (hM c h);obtain⟨as,f⟩:=l7 I c n z q m;exact⟨a::as,.list l j k ⇑f⟩
 |0,.aT _,_,_,z,_,_=>by cases z
 |n+1,.aT _,_,_,z,_,_=>by cases z
 |0,.aK _,_,_,z,_,_=>by cases z
 |n+1,.aK _,_,_,z,_,_=>by cases z
 |_,.ee _,_,_,_,h,_=>h.elim
 |0,.kt _,_,_,z,_,_=>by cases z
 |n+1,.kt _,_,_,z,_,_=>by cases z
theorem l7 (I:Inv X pins σ H s) (c:aF G H):∀(n:Nat){ds:List D}{xs:List V}{p:List VI},ds.all (ζ.bL n)=J->ax X.K G ds xs->Vals xs p->∃as,ZC s.heap p (fp ds) as
 |_,[],_,_,_,h,r=>by cases h;cases r;exact⟨_,.nil⟩
 |n,d::ds,_,_,z,g,r=>by
  obtain⟨v,t,e,w,h2⟩:=g;subst e;simp only[WE,PW]at z;cases r with
  |cons A B =>
   obtain⟨as,f⟩:=AM I c n z.1 w A;obtain⟨bs,C⟩:=l7 I c n z.2 h2 B;exact⟨as++bs,.cons f C⟩
end
def l6(I:Inv X pins σ H s)(c:aF G H)(h:View X.K G H d v)(r:RelV v u)(b:ζ.bL 60 d=J):∃as,Reads s.heap u (toPy d) as:=by
 cases d with
 |aT i=>cases b
 |aK i=>cases b
 |lst ds =>
  obtain⟨a,xs,rfl,h,q⟩:=h;cases r;obtain⟨its,k,⟨o,n,g,e,_,f⟩,_⟩:=I.list h;obtain⟨as,j⟩:=l7 I c 59 b q k;exact⟨a::as,.list g e f ⇑j⟩
 |_=>exact AM I c 60 b h r
def e6(K:W.Frag)(g:D->D->aV Bool):fs:=λx y H Q=>∃G a c,aF G H/\View K G H a x/\View K G H c y/\a7 (g a c) (λb=>Q (.ag b) H) (λ_=>False)
def CP{r:aV Bool}:a7 (ζ.fT r) Q E<->a7 r (λb=>Q (!b)) E:=by cases r<;>exact Iff.rfl
def CN{x y:D}(h:a7 (ζ.dG x y) Q E):ζ.bL 60 x=J/\ζ.bL 60 y=J/\Q (ζ.eS x y):=by
 unfold ζ.dG at h;cases q:(ζ.bL 60 x&&ζ.bL 60 y) with
 |false=>rw[q]at h;exact h.elim
 |true =>
  rw[q]at h;simp only[PW]at q;exact⟨q.1,q.2,h⟩
def D8(c:X.A.units+64<WJ):bP X (Wa .Eq) (e6 X.K (ζ.cp .eq)):=by
 rintro pins s σ H x y v u Q I f g ⟨G,j,k,b,h,i,hw⟩;rw[ζ.sY]at hw;obtain⟨a,h2,q⟩:=CN hw;obtain⟨as,d⟩:=l6 I b h f a;obtain⟨bs,e⟩:=l6 I b i g h2;refine eq_dataH d e (qJ a) (qJ h2) c ?_;rw[nc];exact⟨.ag _,H,I,rfl,q⟩
def Ed(c:X.A.units+64<WJ):bP X (Wa .NotEq) (e6 X.K (ζ.cp .ne)):=by
 rintro pins s σ H x y v u Q I f g ⟨G,j,k,b,h,i,hw⟩;rw[ζ.sZ]at hw;obtain⟨a,h2,q⟩:=CN (CP.mp hw);obtain⟨as,d⟩:=l6 I b h f a;obtain⟨bs,e⟩:=l6 I b i g h2;refine ne_dataH d e (qJ a) (qJ h2) c ?_;rw[nc];exact⟨.ag _,H,I,rfl,q⟩
end
section
open Classical in
def i7 (h:We) (dt:D) (y:VI):Bool:=decide (∃(d:D)(as:List VU),Reads h y (toPy d) as/\ζ.bL 60 d=J/\ζ.eS d dt=J)
open Classical in
theorem xJ (r:Reads h y (toPy d) as) (hd:ζ.bL 60 d=J):i7 h dt y=ζ.eS d dt:=by
 unfold i7;cases q:ζ.eS d dt with
 |true=>exact decide_eq_true ⟨d,as,r,hd,q⟩
 |false =>
  refine decide_eq_false ?_;rintro⟨d',Pz,Lg,PG,AA⟩;have e:=SeqAt.Reads.unique _ _ _ _ _ (me 60 d hd).1 r Lg;rw[<- nc]at q AA;rw[e,AA]at q;cases q
theorem rG:∀{ds:List D}{b:List VI}{as:List VU},ZC h b (fp ds) as->ds.all (ζ.bL 60)=J->b.any (i7 h c)=ds.any λd=>ζ.eS d c
 |[],_,_,r,_=>by cases r;rfl
 |d::ds,_,_,r,a=>by
  cases r with
  |cons e f =>
   simp only[WE,PW]at a;simp only[WD,xJ e a.1,rG f a.2]
theorem tm{X:aq}(j:X.A.units+64<WJ)(g:Reads s.heap v (toPy c) bs)(e:ζ.bL 60 c=J):∀{ds:List D}{h:List VI}{as:List VU},ZC s.heap h (fp ds) as->ds.all (ζ.bL 60)=J->∀y,y∈h->Y8 X.A.in1 s y v (i7 s.heap c y)
 |[],_,_,r,_,y,b=>by cases r;simp at b
 |d::ds,_,_,r,a,y,b=>by
  cases r with
  |cons f k =>
   simp only[WE,PW]at a;rcases P1.mp b with rfl|b
   .rw[xJ f a.1,<- nc];refine ZP _ _ _ _ _ _ _ _ f g (me 60 _ a.1).1 (me 60 _ e).1 ?_;have i:=(me 60 _ a.1).2;show X.A.units+1+_<WJ;have:min (toPy d).depth (toPy c).depth<=60:=Qk (Sd _ _) i;lia
   .exact tm j g e k a.2 y b
def CO{x:D}{ys:List D}(h:a7 (ζ.gi x ys) Q E):ζ.bL 60 x=J/\ys.all (ζ.bL 60)=J/\Q (ζ.memD x ys):=by
 unfold ζ.gi at h;cases q:(ζ.bL 60 x&&ys.all (ζ.bL 60)) with
 |false=>rw[q]at h;exact h.elim
 |true =>
  rw[q]at h;simp only[PW]at q;exact⟨q.1,q.2,h⟩
def yL{j:aR}{ys:List D}(I:Inv X k j H s)(e:aF G H)(h:View X.K G H (.tup ys) y\/View X.K G H (.lst ys) y)(r:RelV y u)(i:ys.all (ζ.bL 60)=J):
  ∃(a:VU)(its:List VI)(as:List VU),u=.ref a/\ZC s.heap its (fp ys) as/\(s.heap.IsTuple a its.toArray\/s.heap.IsList a its.toArray):=by
 rcases h with⟨a,xs,rfl,h,q⟩|⟨a,xs,rfl,h,q⟩
 .cases r;obtain⟨its,g,⟨o,d,b,n,c⟩,_⟩:=I.tuple (fW e h);obtain⟨as,f⟩:=l7 I e 60 i q g;exact⟨a,its,as,rfl,f,.inl ⟨o,d,b,n,c⟩⟩
 .cases r;obtain⟨its,g,⟨o,n,d,b,_,c⟩,_⟩:=I.list h;obtain⟨as,f⟩:=l7 I e 60 i q g;exact⟨a,its,as,rfl,f,.inr ⟨o,d,b,n,c⟩⟩
def Ea(m:X.A.units+64<WJ):bP X (Wa .In) (e6 X.K (ζ.cp .mem)):=by
 rintro o s A H x y v u Q I r t ⟨G,c,l,h,w,k,hw⟩;have i:∀ys,(View X.K G H (.tup ys) y\/View X.K G H (.lst ys) y)->a7 (ζ.gi c ys) (λb=>Q (.ag b) H) (λ_=>False)->VO (VW X.prog X.w) X.A (Wa .In v u) (cU X o A Q) X.a6 s:=by
  intro ys n hw;obtain⟨f,h2,q⟩:=CO hw;obtain⟨bs,p⟩:=l6 I h w r f;obtain⟨a,its,as,rfl,j,d⟩:=yL I h n t h2;have e:its.toArray.any (i7 s.heap c)=ζ.memD c ys:=(by rw[ZU];exact rG j h2);have g:∀z,z∈its.toArray->Y8 X.A.in1 s z v (i7 s.heap c z):=λz hz=>tm m p f j h2 z ⇑hz
  rcases d with d|d
  .exact SeqAt.in_tupleAt _ d g (by rw[e];exact⟨.ag _,H,I,rfl,q⟩)
  .exact SeqAt.in_listAt _ d g (by rw[e];exact⟨.ag _,H,I,rfl,q⟩)
 cases l with
 |tup ys=>exact i ys (.inl k) hw
 |lst ys=>exact i ys (.inr k) hw
 |_=>cases c<;>exact hw.elim
def Ee(m:X.A.units+64<WJ):bP X (Wa .NotIn) (e6 X.K (ζ.cp .iv)):=by
 rintro o s A H x y v u Q I r t ⟨G,c,l,h,w,k,hw⟩;have i:∀ys,(View X.K G H (.tup ys) y\/View X.K G H (.lst ys) y)->a7 (ζ.fT (ζ.gi c ys)) (λb=>Q (.ag b) H) (λ_=>False)->VO (VW X.prog X.w) X.A (Wa .NotIn v u) (cU X o A Q) X.a6 s:=by
  intro ys n hw;obtain⟨f,h2,q⟩:=CO (CP.mp hw);obtain⟨bs,p⟩:=l6 I h w r f;obtain⟨a,its,as,rfl,j,d⟩:=yL I h n t h2;have e:its.toArray.any (i7 s.heap c)=ζ.memD c ys:=(by rw[ZU];exact rG j h2);have g:∀z,z∈its.toArray->Y8 X.A.in1 s z v (i7 s.heap c z):=λz hz=>tm m p f j h2 z ⇑hz
  rcases d with d|d
  .exact SeqAt.notIn_tupleAt _ d g (by rw[e];exact⟨.ag _,H,I,rfl,q⟩)
  .exact SeqAt.notIn_listAt _ d g (by rw[e];exact⟨.ag _,H,I,rfl,q⟩)
 cases l with
 |tup ys=>exact i ys (.inl k) hw
 |lst ys=>exact i ys (.inr k) hw
 |_=>cases c<;>exact hw.elim
end
section
variable{xp:cf}{X:aq}{aa:List Nat}{m:dC}{aW bU bY:ay->aV D}{a b c:V3}{pos:Xo}
def ur{d:D}(h:ζ.dP 0 d=J):∃i,d=.int i:=by
 cases d with
 |int i=>exact⟨i,rfl⟩
 |_=>cases h
theorem qa:∀{ds:List D},ds.all (ζ.dP 0)=J->∃ns:List Int,ds=ns.map ζ.D.int
 |[],_=>⟨[],rfl⟩
 |d::ds,h=>by
  simp only[WE,PW]at h;obtain⟨i,rfl⟩:=ur h.1;obtain⟨ns,rfl⟩:=qa h.2;exact⟨i::ns,rfl⟩
def zv{d:D}(h:ζ.dP 1 d=J):∃ns:List Int,d=.tup (ns.map ζ.D.int):=by
 cases d with
 |tup ds=>obtain⟨ns,rfl⟩:=qa h;exact⟨ns,rfl⟩
 |_=>cases h
theorem hJ{K:W.Frag}:∀{ns:List Int}{xs:List V},ax K G (ns.map ζ.D.int) xs->xs=ns.map V.int
 |[],_,h=>h
 |n::ns,_,⟨v,r,e,d,h2⟩=>by
  subst e;have d:v=.int n:=d;rw[d,hJ h2];rfl
theorem nE:∀a b:List Int,ζ.hD (a.map ζ.D.int) (b.map ζ.D.int)=Z (bu.lexLt a b)
 |[],[]=>rfl
 |[],_::_=>rfl
 |_::_,[]=>rfl
 |x::a,y::b=>by
  rw[show ζ.hD ((x::a).map ζ.D.int) ((y::b).map ζ.D.int)=if (x==y)=J then ζ.hD (a.map .int) (b.map .int) else Z (decide (x<y)) from rfl,nE a b];simp only[bu.lexLt]
  by_cases h:x=y<;>simp[h]
def Ec(z:X.A.units+64<WJ):bP X (Wa .Lt) (e6 X.K (ζ.cp .lt)):=by
 rintro h s p H x y v u Q I k l ⟨G,e,f,g,n,o,hw⟩;rw[ζ.xh]at hw;unfold ζ.p8 at hw;cases q:((ζ.dP 0 e&&ζ.dP 0 f)||(ζ.dP 1 e&&ζ.dP 1 f)) with
 |false=>rw[q]at hw;exact hw.elim
 |true =>
  rw[q]at hw;simp only[Q3]at hw;simp only[RC,PW]at q;rcases q with⟨d,h2⟩|⟨d,h2⟩
  .obtain⟨i,rfl⟩:=ur d;obtain⟨j,rfl⟩:=ur h2;exact JV h s p H x y v u Q I k l ⟨i,j,n,o,hw⟩
  .obtain⟨ns,rfl⟩:=zv d;obtain⟨r,rfl⟩:=zv h2;obtain⟨a,xs,e1,k1,t⟩:=n;obtain⟨b,ys,e2,k2,w⟩:=o;rw[hJ t]at k1;rw[hJ w]at k2;refine JW ⋯ h s p H x y v u Q I k l ⟨a,b,ns,r,e1,e2,fW g k1,fW g k2,?_⟩;simp only[ζ.hC,nE,ζ.uM]at hw;exact hw
def Eb:bP X (Wa .LtE) (e6 X.K (ζ.cp .le)):=by
 rintro f s k H x y v u Q I g h ⟨G,d,e,l,i,j,hw⟩;cases d<;>cases e<;>first|exact hw.elim|skip
 exact JU f s k H x y v u Q I g h ⟨_,_,i,j,hw⟩
def D9:bP X (Wa .Gt) (e6 X.K (ζ.cp .gt)):=by
 rintro f s k H x y v u Q I g h ⟨G,d,e,l,i,j,hw⟩;cases d<;>cases e<;>first|exact hw.elim|skip
 exact JT f s k H x y v u Q I g h ⟨_,_,i,j,hw⟩
theorem a8.ag{K:W.Frag}{b:Bool}:a8 K H d e m (.ag b) (.ag b):=by cases m<;>rfl
theorem a8.int{K:W.Frag}:a8 K H d e m (.int i) (.int i):=by cases m<;>rfl
def a8.qk{K:W.Frag}{b:Bool}(h:a8 K H d e m (.ag b) v):v=.ag b:=by cases m<;>exact h
def a8.ql{K:W.Frag}(h:a8 K H d e m (.int i) v):v=.int i:=by cases m<;>exact h
def s6(o:ζ.iN)(aW bU:ay->aV D):ay->aV D:=λd=>aW d>>=λx=>bU d>>=λy=>ζ.cp o x y>>=λk=>.ok (.ag k)
def kB{α:Type}:aV α->Bool
 |.exc _=>VF
 |_=>J
def zT{α:Type}{r:aV α}(h:kB r=J)(c):r≠.exc c:=λe=>by rw[e]at h;cases h
def ju{α:Type}{p:Prop}[Decidable p]{a b:aV α}(d:kB a=J)(e:kB b=J):kB (if p then a else b)=true:=by by_cases h:p<;>simp[h,d,e]
def zU(h:kB r=J):kB (ζ.fT r)=true:=by cases r<;>first|rfl|exact h
def JB(o):kB (ζ.uM o)=true:=by cases o<;>rfl
def sW(o)(x y:D)(c):ζ.cp o x y≠.exc c:=by
 refine zT ?_ c;cases o with
 |eq=>exact ju rfl rfl
 |ne=>exact zU (ju rfl rfl)
 |lt=>exact ju (JB _) rfl
 |mem=>cases y<;>first|rfl|exact ju rfl rfl
 |iv=>cases y<;>first|rfl|exact zU (ju rfl rfl)
 |gt=>cases x<;>cases y<;>rfl
 |le=>cases x<;>cases y<;>rfl
def jN{α:Type}{r:aV α}{Q:α->Prop}(h:a7 r Q E)(d:∀c,r≠.exc c):a7 r Q v8:=by
 cases r with
 |ok a=>exact h
 |exc c=>exact absurd rfl (d c)
 |bad=>exact h
def B2{n:aR}(h:av xp X aa m (s6 o aW bU) n H Q):og (e6 X.K (ζ.cp o)) (av xp X aa .view aW) (av xp X aa .view bU) n H Q:=by
 obtain⟨G,l,j,hw⟩:=h;refine⟨G,l,j,aS (aC.mp hw) (λg k v p u d s=>?_) λ_ q=>q⟩;refine⟨p,l,j.ext d,aS (aC.mp k) (λi k2 w f r e t=>?_) λ_ q=>q.mono d.h⟩;refine⟨f,g,i,e.sub,View.ext e s,t,?_⟩;exact aS (jN (aC.mp k2) (λc=>sW o g i c)) (λk q=>q (.ag k) f r (d.trans e) a8.ag) λ_ q=>q
def LW(g:bP X (Wa op) (e6 X.K (ζ.cp o)))(d:ai X a (av xp X aa .view aW))(e:ai X b (av xp X aa .view bU))(f:Xp op b=VF):
  ai X (.Compare a [op] [b] pos) (av xp X aa m (s6 o aW bU)):=λi s j H Q I h=>Kg g d e f i s j H Q I (B2 h)
def eH(xp:cf)(X:aq)(aa:List Nat)(f:ay->aV D):TT:=λh H Q =>
 ∃G e,cH X.K aa G H e h/\a7 (f e>>=ζ.dN) (λb=>∀g d,Ext G H g d->Q b d) (λc=>dy xp X c H)
def vz{g:aR}(h:eH xp X aa f g H Q):av xp X aa .view f g H (λx e=>∃k,x=.ag k/\Q k e):=by
 obtain⟨G,l,j,hw⟩:=h;refine⟨G,l,j,aS (aC.mp hw) (λd k v i e x r=>?_) λ_ q=>q⟩;cases d with
 |ag b=>exact⟨b,a8.qk r,k i e x⟩
 |_=>exact k.elim
def LZ(g:bP X (Wa op) (e6 X.K (ζ.cp o)))(d:ai X a (av xp X aa .view aW))(e:ai X b (av xp X aa .view bU))(f:Xp op b=VF):
  cy X (.Compare a [op] [b] pos) (eH xp X aa (s6 o aW bU)):=λi s j H Q I h=>K9 g d e f i s j H Q I (B2 (vz h))
def iE(h:ai X a (av xp X aa .view f))(e:∀d,Y6 a X.env d=(do let v <- d;standAt a.pos;Zl [v] (truthy v))):cy X a (eH xp X aa f):=λg s i H Q I hw=>Lb h e g s i H Q I (vz hw)
def wy(aW bU:ay->aV D):ay->aV D:=λd=>aW d>>=λx=>ζ.dN x>>=λk=>if k then bU d else .ok (.ag VF)
def z3(aW bU:ay->aV D):ay->aV D:=λd=>aW d>>=λx=>ζ.dN x>>=λk=>if k then .ok (.ag J) else bU d
def zZ(aW:ay->aV D):ay->aV D:=λd=>aW d>>=λx=>ζ.dN x>>=λk=>.ok (.ag (!k))
def a8.back{K:W.Frag}(s:aF H g)(h:a8 K g e f m d v):a8 K H e f m d v:=a8.old s h
def A6{rest:List V3}(o:ai X a (av xp X aa .view aW))(p:ai X (.BoolOp .And (b::rest) pos) (av xp X aa m bU)):ai X (.BoolOp .And (a::b::rest) pos) (av xp X aa m (wy aW bU)):=by
 rintro r s y H Q I ⟨G,h,g,hw⟩;refine uV o p r s y H Q I ?_;refine⟨G,h,g,aS (aC.mp hw) (λn k v f j e t=>?_) λ_ q=>q⟩;cases n with
 |ag b =>
  refine⟨b,a8.qk t,?_⟩;cases b with
  |true =>
   simp only[Q3];exact⟨f,h,g.ext e,aS k (λd q w i l x u=>q w i l (e.trans x) (a8.back e.h u)) λ_ q=>q.mono e.h⟩
  |false =>
   simp only[PZ,Qs];exact k (.ag VF) f j e a8.ag
 |_=>exact k.elim
def Bg{rest:List V3}(o:ai X a (av xp X aa .view aW))(p:ai X (.BoolOp .Or (b::rest) pos) (av xp X aa m bU)):ai X (.BoolOp .Or (a::b::rest) pos) (av xp X aa m (z3 aW bU)):=by
 rintro r s y H Q I ⟨G,h,g,hw⟩;refine Ko o p r s y H Q I ?_;refine⟨G,h,g,aS (aC.mp hw) (λn k v f j e t=>?_) λ_ q=>q⟩;cases n with
 |ag b =>
  refine⟨b,a8.qk t,?_⟩;cases b with
  |false =>
   simp only[PZ,Qs];exact⟨f,h,g.ext e,aS k (λd q w i l x u=>q w i l (e.trans x) (a8.back e.h u)) λ_ q=>q.mono e.h⟩
  |true =>
   simp only[Q3];exact k (.ag J) f j e a8.ag
 |_=>exact k.elim
def Mj(g:ai X a (av xp X aa .view aW)):ai X (.UnaryOp .Not a pos) (av xp X aa m (zZ aW)):=by
 rintro i s o H Q I ⟨G,n,h,hw⟩;refine Aj g i s o H Q I ?_;refine⟨G,n,h,aS (aC.mp hw) (λf k v d e l j=>?_) λ_ q=>q⟩;cases f with
 |ag b=>exact⟨b,a8.qk j,k (.ag (!b)) d e l a8.ag⟩
 |_=>exact k.elim
def A7{rest:List V3}(n:cy X a (eH xp X aa aW))(o:f6 X (.BoolOp .And (b::rest) pos) (eH xp X aa bU)):f6 X (.BoolOp .And (a::b::rest) pos) (eH xp X aa (wy aW bU)):=by
 rintro r p s u H Q I ⟨G,h,g,hw⟩;refine Lc n o r p s u H Q I ?_;refine⟨G,h,g,?_⟩;refine aC.mpr (aS (aC.mp (aC.mp hw)) (λv k=>aS (aC.mp k) (λb k2 f j e=>?_) λ_ q=>q) λ_ q=>q);cases b with
 |true =>
  simp only[Q3]at k2 ⊢;exact⟨f,h,g.ext e,aS (aC.mpr k2) (λd q i l t=>q i l (e.trans t)) λ_ q=>q.mono e.h⟩
 |false =>
  simp only[PZ,Qs]at k2 ⊢;exact k2 f j e
def Bh{rest:List V3}(n:cy X a (eH xp X aa aW))(o:f6 X (.BoolOp .Or (b::rest) pos) (eH xp X aa bU)):f6 X (.BoolOp .Or (a::b::rest) pos) (eH xp X aa (z3 aW bU)):=by
 rintro r p s u H Q I ⟨G,h,g,hw⟩;refine Le n o r p s u H Q I ?_;refine⟨G,h,g,?_⟩;refine aC.mpr (aS (aC.mp (aC.mp hw)) (λv k=>aS (aC.mp k) (λb k2 f j e=>?_) λ_ q=>q) λ_ q=>q);cases b with
 |false =>
  simp only[PZ,Qs]at k2 ⊢;exact⟨f,h,g.ext e,aS (aC.mpr k2) (λd q i l t=>q i l (e.trans t)) λ_ q=>q.mono e.h⟩
 |true =>
  simp only[Q3]at k2 ⊢;exact k2 f j e
def Mk(f:cy X a (eH xp X aa aW)):cy X (.UnaryOp .Not a pos) (eH xp X aa (zZ aW)):=by
 rintro h s l H Q I ⟨G,j,g,hw⟩;refine La f h s l H Q I ?_;refine⟨G,j,g,?_⟩;exact aC.mpr (aS (aC.mp (aC.mp hw)) (λn k=>aS (aC.mp k) (λb k2 d e i=>k2 d e i) λ_ q=>q) λ_ q=>q)
def sX(o f:ζ.iN)(aW bU bY:ay->aV D):ay->aV D:=λd=>aW d>>=λx=>bU d>>=λy=>ζ.cp o x y>>=λk=>if k then bY d>>=λz=>ζ.cp f y z>>=λe=>.ok (.ag e) else .ok (.ag VF)
def B3{u:aR}(h:av xp X aa m (sX o s aW bU bY) u H Q):vu (e6 X.K (ζ.cp o)) (e6 X.K (ζ.cp s)) (av xp X aa .view aW) (av xp X aa .view bU) (av xp X aa .view bY) u H Q:=by
 obtain⟨G,l,i,hw⟩:=h;refine⟨G,l,i,aS (aC.mp hw) (λp k v w C d A=>?_) λ_ q=>q⟩;refine⟨w,l,i.ext d,aS (aC.mp k) (λf k2 E g x e t=>?_) λ_ q=>q.mono d.h⟩;refine⟨g,p,f,e.sub,View.ext e A,t,?_⟩;refine aS (jN (aC.mp k2) (λc=>sW o p f c)) (λk q=>?_) λ_ q=>q
 refine⟨k,rfl,?_⟩;cases k with
 |false =>
  simp only[PZ,Qs]at q ⊢;exact q (.ag VF) g x (d.trans e) a8.ag
 |true =>
  simp only[Q3]at q ⊢;refine⟨g,l,(i.ext d).ext e,aS (aC.mp q) (λr k3 I n y j B=>?_) λ_ z=>(z.mono d.h).mono e.h⟩;refine⟨n,f,r,j.sub,View.ext j t,B,?_⟩;exact aS (jN (aC.mp k3) (λc=>sW s f r c)) (λk q=>q (.ag k) n y ((d.trans e).trans j) a8.ag) λ_ q=>q
def LX(i:bP X (Wa op) (e6 X.K (ζ.cp o)))(j:bP X (Wa op') (e6 X.K (ζ.cp k)))(d:ai X a (av xp X aa .view aW))(e:ai X b (av xp X aa .view bU))(f:ai X c (av xp X aa .view bY))(g:YS [op,op'] [b,c]=VF):
  ai X (.Compare a [op,op'] [b,c] pos) (av xp X aa m (sX o k aW bU bY)):=λl s n H Q I h=>Kf i j d e f g l s n H Q I (B3 h)
def LY(i:bP X (Wa op) (e6 X.K (ζ.cp o)))(j:bP X (Wa op') (e6 X.K (ζ.cp k)))(d:ai X a (av xp X aa .view aW))(e:ai X b (av xp X aa .view bU))(f:ai X c (av xp X aa .view bY))(g:YS [op,op'] [b,c]=VF):
  cy X (.Compare a [op,op'] [b,c] pos) (eH xp X aa (sX o k aW bU bY)):=λl s n H Q I h=>K8 i j d e f g l s n H Q I (B3 (vz h))
end
section
variable{xp:cf}{X:aq}{aa:List Nat}{m:dC}{aW bU bY:ay->aV D}{a b c:V3}{pos:Xo}{pins:List (VU×WS)}{σ:aR}{G H:ah}{s:VL}
def zR(I:Inv X pins σ H s)(f:aF G H)(r:Vals xs its)(q:ax X.K G ds xs)(hz:xs.length<=V5)(k:∀v d e,Ext G H d e->Rep X.K d (.tup ds) v->Q v e):cU X pins σ Q (.ref s.heap.objs.size) { s with heap:=s.heap.push { cls:=.type "tuple",data:=.seq its.toArray } }:=by
 refine⟨.ref s.heap.objs.size,_,I.laid (t':=s.toks) (o:=.tup xs) (λb g q=>PX _ q) (P0 _) ⟨hz,its,r,IsTup.new _ _⟩,rfl,?_⟩;exact k _ (upd G s.heap.objs.size (.tup xs)) _ (Ext.put f I.fresh) ⟨_,xs,rfl,b7,q.mono (d0 (f.free I.fresh))⟩
def zQ(I:Inv X pins σ H s)(f:aF G H)(r:Vals xs its)(q:ax X.K G ds xs)(hz:xs.length<=V5)(k:∀v e d,Ext G H e d->a8 X.K H e d .fresh (.lst ds) v->Q v d):cU X pins σ Q (.ref s.heap.objs.size) { s with heap:=s.heap.push { cls:=.type "list",data:=.seq its.toArray } }:=by
 refine⟨.ref s.heap.objs.size,_,I.zm (t':=s.toks) r hz,rfl,?_⟩;exact k _ G _ (Ext.own f I.fresh λ_ z=>nomatch z) ⟨_,xs,rfl,b7,I.fresh,f.free I.fresh,q⟩
def hh{ds:List D}(h:View X.K G H (.lst ds) v):∃a xs,v=.ref a/\cz X.K H a xs/\ax X.K G ds xs:=h
def BN{K:W.Frag}{a:VU}(h:cW K (λ_=>Y) a xs):cW K H a xs:=by
 rcases h with(h|⟨o,h⟩)|h
 .cases h
 .cases h
 .exact .inr h
def CE{ds:List D}(h:View X.K G H (.kt ds) v):∃a xs,v=.ref a/\cW X.K H a xs/\ax X.K G ds xs:=by
 obtain⟨a,xs,e,h,r⟩:=h;exact⟨a,xs,e,BN h,r⟩
def iJ(d:aF G H){ds:List D}(h:View X.K G H (.tup ds) v):∃a xs,v=.ref a/\cW X.K H a xs/\ax X.K G ds xs:=by
 obtain⟨a,xs,e,k,r⟩:=h;exact⟨a,xs,e,fW d k,r⟩
def mD:ζ.SZ=sizeLine:=by rw[V7];rfl
def E3:bP X (WG .Add) (iA X.K (ζ.cA .add)):=by
 rintro pins s σ H x y v u Q I N O ⟨G,a3,A,e,C,E,hw⟩;cases a3 with
 |int i =>
  cases A with
  |int j=>exact JR pins s σ H x y v u Q I N O ⟨_,_,C,E,jb e hw rfl⟩
  |_=>exact hw.elim
 |tup ds =>
  cases A with
  |tup B =>
   rw[ζ.k6]at hw
   by_cases h:ds.length+B.length<=ζ.SZ
   .rw[if_pos h]at hw;obtain⟨l,xs,rfl,k1,f⟩:=iJ e C;obtain⟨b,ys,rfl,k2,g⟩:=iJ e E;cases N;cases O;obtain⟨its,k,p1,_⟩:=I.tuple k1;obtain⟨w,o,p2,_⟩:=I.tuple k2;have hz:xs.length+ys.length<=sizeLine:=by rw[<- f.length,<- g.length,<- mD];exact h
    by_cases e0:its=[]
    .-- b2 left b1 aL aA
     subst e0;have:ds=[]:=by
      have d:=f.length;have h2:=k.length;simp at h2;rw[h2]at d;simp at d;exact d
     subst this;obtain⟨⟨a0,dd,a2,R⟩,T,p,n,r⟩:=id p1;obtain⟨⟨a1,L,data2,S⟩,U,q,M,t⟩:=id p2;simp only at p r q t;subst p r q t;refine U3 ⟨_,T,rfl⟩ ⟨_,U,rfl⟩ UR Vs Ts Tn (Td _ _)
      (tuple_addW0 l b _ w.toArray n M dd L R S rfl) ⟨T,U,?_⟩
     exact⟨.ref b,H,I,rfl,hw _ G H (Ext.refl e) E⟩
    .refine bu.Ei p1 p2 e0 (λz=>?_) (λz=>?_) (by rw[<- k.length,<- o.length];exact hz)
     .have:B=[]:=by
       have d:=g.length;have h2:=o.length;rw[z]at h2;simp at h2;rw[h2]at d;simp at d;exact d
      subst this;rw[QQ]at hw;exact⟨.ref l,H,I,rfl,hw _ G H (Ext.refl e) C⟩
     .exact zR I e (k.append o) (f.append g) (by rw[PY];exact hz) hw
   .rw[if_neg h]at hw;exact hw.elim
  |_=>exact hw.elim
 |lst ds =>
  cases A with
  |lst B =>
   rw[ζ.j2]at hw
   by_cases h:ds.length+B.length<=ζ.SZ
   .rw[if_pos h]at hw;obtain⟨l,xs,rfl,k1,f⟩:=hh C;obtain⟨b,ys,rfl,k2,g⟩:=hh E;cases N;cases O;obtain⟨its,k,⟨a5,n,e1,p,aG,r⟩,_⟩:=I.list k1;obtain⟨w,o,⟨aw,M,e2,q,aJ,t⟩,_⟩:=I.list k2;have hz:xs.length+ys.length<=sizeLine:=(by rw[<- f.length,<- g.length,<- mD];exact h);obtain⟨a0,dd,a2,R⟩:=a5;obtain⟨a1,L,data2,S⟩:=aw;simp only at p r q t;subst p r q t;refine U3 ⟨_,e1,rfl⟩ ⟨_,e2,rfl⟩ noFill_list_add seq_list_add F.slot_list_add F.entry_list_add (F.args_list_add_2 _ _)
     (list_addW l b its.toArray w.toArray n M dd L R S (by rw[P6,P6,<- k.length,<- o.length];exact hz)) ⟨e1,e2,?_⟩
    have a4:its.toArray++w.toArray=(its++w).toArray:=(by simp);rw[a4];exact zQ I e (k.append o) (f.append g) (by rw[PY];exact hz) hw
   .rw[if_neg h]at hw;exact hw.elim
  |_=>exact hw.elim
 |_=>cases A<;>exact hw.elim
end
end aD
end
section
namespace aD
open PySem PySem.Spec PyProof.Rows az PySem.MeetsSeq
section
variable{xp:cf}{X:aq}{aa:List Nat}{m:dC}{aW bU bY:ay->aV D}{a b c:V3}{pos:Xo}{pins:List (VU×WS)}{σ:aR}{G H:ah}{s:VL}
theorem ax.rep{K:W.Frag}(h:ax K G ds xs):∀k:Nat,ax K G (VV k ds).flatten (VV k xs).flatten
 |0=>by simp[ax]
 |k+1=>by rw[RN,RN,Se,Se];exact h.append (ax.rep h k)
def E8:bP X (WG .Mult) (iA X.K (ζ.cA .mul)):=by
 rintro pins s σ H x y v u Q I A B ⟨G,L,f,w,E,e,hw⟩;cases L with
 |int i =>
  cases f with
  |int j =>
   rw[ζ.mul_int]at hw
   by_cases h:(-ζ.eJ<i/\i<ζ.eJ)\/(-ζ.eJ<j/\j<ζ.eJ)
   .rw[if_pos h]at hw;exact JY pins s σ H x y v u Q I A B ⟨_,_,E,e,h,jb w hw rfl⟩
   .rw[if_neg h]at hw;exact hw.elim
  |_=>exact hw.elim
 |lst ds =>
  cases f with
  |int j =>
   have hw:a7 (if 0<=j/\j<=1000/\ds.length<=1000 then ζ.R.ok (ζ.D.lst (VV j.toNat ds).flatten) else .bad) _ _:=hw
   by_cases h:0<=j/\j<=1000/\ds.length<=1000
   .rw[if_pos h]at hw;obtain⟨h0,a3,h2⟩:=h;obtain⟨l,xs,rfl,k1,z⟩:=hh E;cases A;have e:y=.int j:=e;subst e;obtain⟨t,rfl⟩:=B;obtain⟨its,g,⟨⟨a1,dd,a2,C⟩,n,d,p,_,q⟩,_⟩:=I.list k1;simp only at p q;subst p q;have R:its.length=ds.length:=(by rw[<- g.length,<- z.length]);have r:its.toArray.size*j.toNat<=sizeLine:=by
     rw[P6,R,V7];exact Qk (Nat.mul_le_mul h2 (show j.toNat<=1000 by lia)) ∅
    have N:¬its.toArray.size*j.toNat>(2 ^ 63-1) / 8:=by
     have:(V5:Nat)<=(2 ^ 63-1) / 8:=∅;lia
    have O:¬(!Builtin.List.listFitsIndex j)=true:=by
     rw[fitsIndex_both ⋯ ⋯];exact QV
    have S:¬W0 (its.toArray.size*j.toNat)=true:=by
     rw[zW r];exact QV
    have a0:aab (λk o=>k++o) #[] (VV (if its.toArray.isEmpty=J then 0 else j.toNat) its.toArray)=(VV j.toNat its).flatten.toArray:=by
     have M:∀m:Nat,aab (λk o=>k++o) #[] (VV m its.toArray)=(VV m its).flatten.toArray:=λm=>by
      have:=foldl_rep its m [];rw[WV]at this;exact this
     rw[M];cases its with
     |nil=>simp
     |cons _ _=>rfl
    refine wpAny_binaryOp_repeat_ref (T:="list") (U:="int") ∅ ⟨_,d,rfl⟩ (λs'=>typeIs_int s' j t) noFill_list_mul F.fills_int_mul F.slot_int_rmul repeat_list F.slot_int_index.lookup
     (U4 F.slot_int_rmul (typeIs_int s j t) F.entry_int_rmul (F.args_int_rmul_2 _ _) (lm_int_rmul_list_any j t l its.toArray n dd C)
      ⟨d,rfl,⟨_,d,rfl⟩,U4 F.slot_list_mul ⟨_,d,rfl⟩ F.entry_list_mul (F.args_list_mul_2 _ _) (lm_list_mul_any l its.toArray n dd C j t O N S) ⟨d,?_⟩⟩)
    rw[a0];exact zQ I w (g.rep j.toNat) (z.rep j.toNat) (by rw[len_rep,Nat.mul_comm,g.length];simpa using r) hw
   .rw[if_neg h]at hw;exact hw.elim
  |_=>exact hw.elim
 |_=>cases f<;>exact hw.elim
end
end aD
end
section
namespace aD
open PySem PySem.Spec PyProof.Rows az
section
variable{xp:cf}{X:aq}{aa:List Nat}{m:dC}{f aW bU bY:ay->aV D}{bj:ay->aV (List D)}{a b c e:V3}{aB:List V3}{pos:Xo}{pins:List (VU×WS)}{σ:aR}{G H:ah}{s:VL}
def Bf(l:ai X a (av xp X aa .view aW)):ai X (.UnaryOp .USub a pos) (av xp X aa m λd=>aW d>>=λx=>ζ.en x>>=λi=>.ok (.int (-i))):=by
 rintro pins s σ H Q I ⟨G,d,n,hw⟩;refine Kr OT l pins s σ H Q I ?_;refine⟨G,d,n,aS (aC.mp hw) (λj k v g h p o=>?_) λ_ q=>q⟩;cases j with
 |int i=>exact⟨i,a8.ql o,k (.int (-i)) g h p a8.int⟩
 |_=>exact k.elim
def jF(xp:cf)(X:aq)(aa:List Nat)(f:ay->aV (List D)):d4:=λσ H Q =>
 ∃G i,cH X.K aa G H i σ/\a7 (f i) (λds=>∀h d g,Ext G H d g->ax X.K d ds h->Q h g) (λc=>dy xp X c H)
def Mh:dU X [] (jF xp X aa λ_=>.ok []):=by
 rintro p pins s σ H Q I ⟨G,g,d,hw⟩;exact kE p pins s σ H Q I (hw [] G H (Ext.refl d.sub) rfl)
def L0(r:ai X e (av xp X aa .val f))(t:dU X aB (jF xp X aa bj))(u:V4 (e::aB) X.env=(VF,Wx e X.env)::V4 aB X.env):dU X (e::aB) (jF xp X aa λd=>f d>>=λx=>bj d>>=λxs=>.ok (x::xs)):=by
 rintro p pins s σ H Q I ⟨G,d,h,hw⟩;refine hG r t u p pins s σ H Q I ?_;refine⟨G,d,h,aS (aC.mp hw) (λA k v l z g w=>?_) λ_ q=>q⟩;refine⟨l,d,h.ext g,aS (aC.mp k) (λds k2 i n o j y=>?_) λ_ q=>q.mono g.h⟩;exact k2 (v::i) n o (g.trans j) ⟨v,i,rfl,Rep.mono j.g w,y⟩
def Mw(h:dU X aB (jF xp X aa bj))(o:∀d ds,bj d=.ok ds->ds.length<=V5):ai X (.Tuple aB j pos) (av xp X aa .val λd=>bj d>>=λds=>.ok (.tup ds)):=by
 rintro pins s σ H Q I ⟨G,d,r,hw⟩;refine Kq h pins s σ H Q I ?_;refine⟨G,d,r,?_⟩;have hw:=aC.mp hw;cases q:bj d with
 |ok ds =>
  rw[q]at hw;intro l n t g k;refine⟨by rw[<- k.length];exact o d ds q,λp i=>?_⟩;exact hw (.ref p) (upd n p (.tup l)) _ (g.trans (Ext.put g.sub i)) ⟨p,l,rfl,b7,k.mono (d0 (g.sub.free i))⟩
 |exc c=>rw[q]at hw;exact hw
 |bad=>rw[q]at hw;exact hw
def Mf(h:dU X aB (jF xp X aa bj))(l:∀d ds,bj d=.ok ds->ds.length<=V5):ai X (.List aB pos) (av xp X aa .fresh λd=>bj d>>=λds=>.ok (.lst ds)):=by
 rintro pins s σ H Q I ⟨G,d,n,hw⟩;refine Ah h pins s σ H Q I ?_;refine⟨G,d,n,?_⟩;have hw:=aC.mp hw;cases q:bj d with
 |ok ds =>
  rw[q]at hw;intro o k r g j;refine⟨by rw[<- j.length];exact l d ds q,λp i=>?_⟩;exact hw (.ref p) k _ (g.trans (Ext.own g.sub i λ_ z=>nomatch z)) ⟨p,o,rfl,b7,g.h.free i,g.sub.free i,j⟩
 |exc c=>rw[q]at hw;exact hw
 |bad=>rw[q]at hw;exact hw
def yV(n)(i):ζ.eu n i=az.eu n i:=by
 unfold ζ.eu az.eu
 by_cases h:0<=i
 .rw[if_pos h,if_pos h]
 .rw[if_neg h,if_neg h]
  by_cases q:0<=i+(n:Int)
  .rw[if_pos q,if_pos ⋯]
  .rw[if_neg q,if_neg ⋯]
def tL{K:W.Frag}(r:ax K G ds xs)(h:ζ.fj ds i=Z d):∃v,j6 xs i=Z v/\Rep K G d v:=by
 unfold ζ.fj at h;rw[yV,r.length]at h;unfold j6;cases q:az.eu xs.length i with
 |none=>rw[q]at h;cases h
 |some j =>
  rw[q]at h;obtain⟨v,e,z⟩:=r.get (i:=j) h;exact⟨v,e,z⟩
def Mc(E:ai X a (av xp X aa .view aW))(L:ai X b (av xp X aa .view bU))(M:rx b):ai X (.Subscript a b pos) (av xp X aa .val λo=>aW o>>=λx=>bU o>>=λy=>ζ.c4 x y):=by
 rintro pins s σ H Q I ⟨G,o,A,hw⟩;refine Kl HJ E L M pins s σ H Q I ?_;refine⟨G,o,A,aS (aC.mp hw) (λC k v B N j g=>?_) λ_ q=>q⟩;refine⟨B,o,A.ext j,aS (aC.mp k) (λp k2 O t u n z=>?_) λ_ q=>q.mono j.h⟩;have g:=View.ext n g;cases C with
 |lst ds =>
  cases p with
  |int i =>
   simp only[ζ.nr]at k2;cases q:ζ.fj ds i with
   |none=>rw[q]at k2;exact k2.elim
   |some d =>
    rw[q]at k2;obtain⟨l,xs,rfl,e,r⟩:=hh g;obtain⟨w,e2,h⟩:=tL r q;exact .inl ⟨l,xs,i,w,rfl,z,e,e2,k2 w t u (j.trans n) h⟩
  |_=>exact k2.elim
 |tup ds =>
  cases p with
  |int i =>
   simp only[ζ.yJ]at k2;cases q:ζ.fj ds i with
   |none=>rw[q]at k2;exact k2.elim
   |some d =>
    rw[q]at k2;obtain⟨l,xs,rfl,e,r⟩:=iJ n.sub g;obtain⟨w,e2,h⟩:=tL r q;exact .inr (.inl ⟨l,xs,i,w,rfl,z,e,e2,k2 w t u (j.trans n) h⟩)
  |_=>exact k2.elim
 |kt ds =>
  cases p with
  |int i =>
   simp only[ζ.Hg]at k2;cases q:ζ.fj ds i with
   |none=>rw[q]at k2;exact k2.elim
   |some d =>
    rw[q]at k2;obtain⟨l,xs,rfl,e,r⟩:=CE g;obtain⟨w,e2,h⟩:=tL r q;exact .inr (.inl ⟨l,xs,i,w,rfl,z,e,e2,k2 w t u (j.trans n) h⟩)
  |_=>exact k2.elim
 |_=>cases p<;>exact k2.elim
def hI(K:W.Frag)(m:dC)(g:D->aV D):List V->ah->cc->Prop:=λxs H Q=>∃G x d,xs=[x]/\aF G H/\View K G H d x/\a7 (g d) (λd'=>∀v i h,Ext G H i h->a8 K H i h m d' v->Q v h) (λ_=>False)
def jw(d:ai X e h)(g:V4 [e] X.env=[(VF,Wx e X.env)]):dU X [e] (qU h vx):=hG d kE g
def mb{id:String}(y:∀d c,g d≠.exc c)(u:ei X (.builtin id) (hI X.K m g))(z:cN X x)(A:X.ao x=Y)(E:Wu x=Z (.builtin id))(t:ai X e (av xp X aa .view f))(B:x≠"__name__")(w:(x==("__debug__":V1))=VF)(l:V4 [e] X.env=[(VF,Wx e X.env)]):ai X (.Call (.Name x p) [e] [] pos) (av xp X aa m λi=>f i>>=λd=>g d):=by
 rintro pins s σ H Q I ⟨G,i,C,hw⟩;refine nS u z A E (jw t l) B w l rfl pins s σ H Q I ?_;refine⟨G,i,C,aS (aC.mp hw) (λj k v n R h L=>?_) λ_ q=>q⟩;refine⟨n,v,j,rfl,h.sub,L,?_⟩;exact aS (jN k (y j)) (λd q N o r O M=>q N o r (h.trans O) (M.old h.h)) λ_ q=>q
def Bb(y:∀d c,g d≠.exc c)(u:ei X (.type T) (hI X.K m g))(z:cN X x)(A:X.ao x=Y)(E:Wu x=Z (.type T))(t:ai X e (av xp X aa .view f))(B:x≠"__name__")(w:(x==("__debug__":V1))=VF)(l:V4 [e] X.env=[(VF,Wx e X.env)]):ai X (.Call (.Name x p) [e] [] pos) (av xp X aa m λi=>f i>>=λd=>g d):=by
 rintro pins s σ H Q I ⟨G,i,C,hw⟩;refine Ke u z A E (jw t l) B w l rfl pins s σ H Q I ?_;refine⟨G,i,C,aS (aC.mp hw) (λj k v n R h L=>?_) λ_ q=>q⟩;refine⟨n,v,j,rfl,h.sub,L,?_⟩;exact aS (jN k (y j)) (λd q N o r O M=>q N o r (h.trans O) (M.old h.h)) λ_ q=>q
def f_len:ei X (.builtin "len") (hI X.K m ζ.hB):=by
 rintro pins s σ H xs h Q I r ⟨G,x,d,j,g,i,hw⟩;subst j;cases d with
 |tup ds =>
  obtain⟨a,ys,rfl,k,q⟩:=iJ g i;refine w3 pins s σ H _ h Q I r ⟨a,ys,rfl,.inr k,?_⟩;rw[<- q.length];exact hw _ G H (Ext.refl g) a8.int
 |lst ds =>
  obtain⟨a,ys,rfl,k,q⟩:=hh i;refine w3 pins s σ H _ h Q I r ⟨a,ys,rfl,.inl k,?_⟩;rw[<- q.length];exact hw _ G H (Ext.refl g) a8.int
 |_=>exact hw.elim
def f_list:ei X (.type "list") (hI X.K .fresh λd=>ζ.cL d>>=λds=>.ok (.lst ds)):=by
 rintro pins s σ H xs i Q I r ⟨G,x,d,n,h,j,hw⟩;subst n;cases d with
 |tup ds =>
  obtain⟨a,ys,rfl,k,q⟩:=iJ h j;exact w4 pins s σ H _ i Q I r ⟨a,ys,rfl,.inr k,λl g=>hw _ G _ (Ext.own h g λ_ z=>nomatch z) ⟨l,ys,rfl,b7,g,h.free g,q⟩⟩
 |lst ds =>
  obtain⟨a,ys,rfl,k,q⟩:=hh j;exact w4 pins s σ H _ i Q I r ⟨a,ys,rfl,.inl k,λl g=>hw _ G _ (Ext.own h g λ_ z=>nomatch z) ⟨l,ys,rfl,b7,g,h.free g,q⟩⟩
 |_=>exact hw.elim
def Gv:ei X (.type "tuple") (hI X.K .val λd=>ζ.cL d>>=λds=>.ok (.tup ds)):=by
 rintro pins s σ H xs j Q I r ⟨G,x,d,n,g,h,hw⟩;subst n;cases d with
 |tup ds =>
  obtain⟨a,ys,rfl,k,q⟩:=iJ g h;exact w5 pins s σ H _ j Q I r ⟨a,ys,rfl,.inr ⟨k,hw _ G H (Ext.refl g) h⟩⟩
 |lst ds =>
  obtain⟨a,ys,rfl,k,q⟩:=hh h;exact w5 pins s σ H _ j Q I r ⟨a,ys,rfl,.inl ⟨k,λl i=>hw _ (upd G l (.tup ys)) _ (Ext.put g i) ⟨l,ys,rfl,b7,q.mono (d0 (g.free i))⟩⟩⟩
 |_=>exact hw.elim
end
def u5{c:aR}(I:Inv X d c H s)(h:(∃ys,fu H a (.cg ys))\/∃ys,fu H a (.cD ys)):∃o,s.heap.get? a=Z o/\o.cls=.type "dict":=by
 rcases h with⟨ys,h|⟨b,h⟩⟩|⟨ys,h|⟨b,h⟩⟩
 .obtain⟨_,_,_,_,o,_,_,e,x,_⟩:=(show b8 X.prog X.w H s.heap a (.cg ys) from I.aM a _ h);exact⟨o,e,x.1⟩
 .obtain⟨_,_,_,_,_,o,_,_,e,x,_⟩:=(show b8 X.prog X.w H s.heap a (.cx b (.cg ys)) from I.aM a _ h);exact⟨o,e,x.1⟩
 .obtain⟨_,_,_,_,o,_,_,e,x,_⟩:=(show b8 X.prog X.w H s.heap a (.cD ys) from I.aM a _ h);exact⟨o,e,x.1⟩
 .obtain⟨_,_,_,_,_,o,_,_,e,x,_⟩:=(show b8 X.prog X.w H s.heap a (.cx b (.cD ys)) from I.aM a _ h);exact⟨o,e,x.1⟩
section
variable{xp:cf}{X:aq}{aa:List Nat}{m:dC}{f aW bU bY:ay->aV D}{bj:ay->aV (List D)}{a b c e:V3}{aB:List V3}{pos:Xo}{pins:List (VU×WS)}{σ:aR}{G H:ah}{s:VL}
def OS:D->String
 |.b0=>"NoneType"
 |.ag _=>"bool"
 |.int _=>"int"
 |.str _=>"str"
 |.tup _=>"tuple"
 |.lst _=>"list"
 |.aT _=>"dict"
 |.aK _=>"dict"
 |.ee _=>""
 |.kt _=>"tuple"
abbrev mj:ζ.Ty->String
 |.int=>"int"|.bool=>"bool"|.str=>"str"|.tuple=>"tuple"|.cls _=>""
def H3(K)(up)(d:D)(t)(h:∀c,t≠.cls c)(g:∀c,d≠.ee c):∃b,ζ.lI up d t=.ok b/\PySem.W.kitOne K (.type (OS d)) (.type (mj t))=Z b:=by
 cases t with
 |cls c=>exact absurd rfl (h c)
 |int=>cases d<;>first|exact absurd rfl (g _)|exact⟨_,rfl,by kernel_rfl⟩
 |bool=>cases d<;>first|exact absurd rfl (g _)|exact⟨_,rfl,by kernel_rfl⟩
 |str=>cases d<;>first|exact absurd rfl (g _)|exact⟨_,rfl,by kernel_rfl⟩
 |tuple=>cases d<;>first|exact absurd rfl (g _)|exact⟨_,rfl,by kernel_rfl⟩
def Pk(I:Inv X pins σ H s)(v:aF G H)(w:∀c,t≠.cls c)(g:View X.K G H d x)(l:RelV x u)(hw:a7 (ζ.lI up d t) (λb=>Q (.ag b) H) (λ_=>False)):
  VO (VW X.prog X.w) X.A (call (.builtin "isinstance") [u,.type (mj t)]) (cU X pins σ Q) X.a6 s:=by
 have p:∀c,d≠.ee c:=λc e=>by subst e;exact g.elim
 obtain⟨b,e1,e2⟩:=H3 X.K up d t w p;rw[e1]at hw;have fin:∀tk,cU X pins σ Q (.bool b) { s with toks:=tk }:=λtk=>⟨.ag b,H,I.tok tk,rfl,hw⟩
 cases d with
 |b0=>cases g;exact pS I l .b0 e2 fin
 |ag y=>cases g;exact pS I l (.ag y) e2 fin
 |int i=>cases g;exact pS I l (.int i) e2 fin
 |str y=>cases g;exact pS I l (.str y) e2 fin
 |tup ds =>
  obtain⟨a,ys,rfl,k,q⟩:=iJ v g;cases l;obtain⟨its,r,⟨o,j,h2,_⟩,hz⟩:=I.tuple k;exact QK Uk I.dQ ⟨o,j,h2⟩ e2 (λz=>nomatch z) fin
 |lst ds =>
  obtain⟨a,ys,rfl,k,q⟩:=hh g;cases l;obtain⟨its,r,⟨o,n,j,h2,_⟩,z⟩:=I.list k;exact QK UE I.dQ ⟨o,j,h2⟩ e2 (λz=>nomatch z) fin
 |aT A =>
  obtain⟨a,rfl,h⟩:=g;cases l;obtain⟨o,j,h2⟩:=u5 I (.inr ⟨_,h⟩);exact QK Tr I.dQ ⟨o,j,h2⟩ e2 (λz=>nomatch z) fin
 |aK A =>
  obtain⟨a,ys,rfl,h,_⟩:=g;cases l;obtain⟨o,j,h2⟩:=u5 I (.inl ⟨_,h⟩);exact QK Tr I.dQ ⟨o,j,h2⟩ e2 (λz=>nomatch z) fin
 |ee c=>exact absurd rfl (p c)
 |kt ds =>
  obtain⟨a,ys,rfl,k,q⟩:=CE (H:=H) g;cases l;obtain⟨its,r,⟨o,j,h2,_⟩,hz⟩:=I.tuple k;exact QK Uk I.dQ ⟨o,j,h2⟩ e2 (λz=>nomatch z) fin
def Hr{d:D}{c:Nat}:ζ.lI up d t≠.exc c:=by
 intro h;cases t<;>first|(cases h;done)|skip
 cases d<;>cases h
def Md(U:∀c,t≠.cls c)(L:cN X x)(N:X.ao x=Y)(a0:Wu x=Z (.builtin "isinstance"))(M:cN X y)(O:X.ao y=Y)(a1:Wu y=Z (.type (mj t)))(A:ai X e (av xp X aa .view f))(R:x≠"__name__")(C:(x==("__debug__":V1))=VF)(S:y≠"__name__")(E:(y==("__debug__":V1))=VF)(l:V4 [e,.Name y h] X.env=(VF,Wx e X.env)::V4 [.Name y h] X.env):
  ai X (.Call (.Name x p) [e,.Name y h] [] pos) (av xp X aa m λi=>f i>>=λd=>ζ.lI up d t>>=λb=>.ok (.ag b)):=by
 rintro pins s σ H Q I ⟨G,i,g,hw⟩;have B:ei X (.builtin "isinstance") (λxs H Q=>∃G x d,xs=[x,.ty (mj t)]/\aF G H/\View X.K G H d x/\a7 (ζ.lI up d t) (λb=>Q (.ag b) H) (λ_=>False)):=by
  rintro pins s σ H xs aA Q I r ⟨G,x,d,z,g,a5,hw⟩;subst z;obtain⟨u,aw,rfl,a3,a4⟩:=vals2 r;cases a4;exact Pk I g U a5 a3 hw
 have T:dU X [e,.Name y h] (qU (av xp X aa .view f) (qU (jG (.ty (mj t))) vx)):=hG A (hG (Ad M O a1 rfl S E) kE rfl) l;refine nS B L N a0 T R C l rfl pins s σ H Q I ?_;refine⟨G,i,g,aS (aC.mp hw) (λw k v j o n a2=>?_) λ_ q=>q⟩;refine⟨j,v,w,rfl,n.sub,a2,?_⟩;exact aS (jN (aC.mp k) (λc=>Hr)) (λb q=>q (.ag b) j o n a8.ag) λ_ q=>q
end
def gG(P:Wd)(w:Wo)(xp:cf):iL:=λouter H s E e s' =>
 ∃(c:Nat)(b:ah)(l:List VU),s'.os=s.os/\Xx s'.gens/\dz (ef outer) [] H b s.heap s'.heap/\cC P w b s'.heap/\aF H b/\(∀a∈l,s.heap.get? a=Y/\b a=Y)/\xp c e l s'.heap/\E (.int c 0) Y b
def kL(K:W.Frag)(g:List D->aV D)(n:Nat):kY:=λf H Q E =>
 f.length=n/\∃G ds,aF G H/\(∀b xs,H b=Z (.tup xs)->G b=Z (.tup xs))/\ax K G ds f/\a7 (g ds) (λd=>∀v e a,Ext G H e a->Rep K e d v->Q v a) (λc=>∀a,aF H a->E (.int c 0) Y a)
section
variable{xp:cf}{X:aq}{aa:List Nat}{m:dC}{f aW bU bY:ay->aV D}{bj:ay->aV (List D)}{a b c e:V3}{aB:List V3}{pos:Xo}{pins:List (VU×WS)}{σ:aR}{G H:ah}{s:VL}
abbrev xF(xp:cf)(X:aq):gM:=λu _ d=>∀c:Nat,u=.int c 0->dy xp X c d
def Ka:Passes (gG X.prog X.w xp) X (xF xp X):=by
 rintro pins σ H s e s' I ⟨c,d,l,os,j,p,n,q,h,o,k⟩;have i:Inv X pins σ d s':=I.w2 os p n j (λb z=>absurd z (by simp));exact k c rfl pins σ d s' e l i (aF.refl _) (λa g=>.of I (h a g).1 (h a g).2) o
end
section
variable{prog:Wd}{w:Wo}{A:Wg}{R:Result->VL->Prop}{s:VL}
def EN{f d o:V3}{g:List V3}{p:Xr}{pos:Xo}{b e:VI}{env:Env}(I:Nat->VL->Prop)(turn:∀n s,I n s->VO (VW prog w) A (Xi b) (λr i=>match r with
   |none=>R (.ok .next) i
   |some v=>VO (VW prog w) A (Xt d b v) (λ_ u=>VO (VW prog w) A (ZE d env v) (λ_ y =>
     VO (VW prog w) A (forIn g J λc r=>if r=J then do let a <- Y6 c env (Wx c env);pure (WW a) else pure (WW r)) (λa j =>
      if a=J then VO (VW prog w) A (Wx f env) (λx B =>
       VO (VW prog w) A (call (.builtin "list.append") [e,x]) (λ_ C=>∃m,m<n/\I m C) (λ_ _=>False) B) (λ_ _=>False) j
      else ∃m,m<n/\I m j) (λ_ _=>False) y) (λ_ _=>False) u) (λ_ _=>False) i) (λ_ _=>False) s)(n:Nat)(h:I n s):
  Xy (VW prog w) A (.compLoop (.ListComp f [⟨d,o,g,0⟩] p pos) 0 b e env) R s:=by
 have up:∀{α:Type}{t:Z0 α}{Q:α->VL->Prop}{E:VI->VL->Prop}{s:VL},VO (VW prog w) A t Q (λ_ _=>False) s->VO (VW prog w) A t Q E s:=λh=>Q2 h (λ_ _ q=>q) λ_ _ z=>z.elim
 refine codeAny_loop rfl I (λn s G=>?_) n h;show VO _ A ((compTurn (.ListComp f [⟨d,o,g,0⟩] p pos) 0 b e env).onRaise (λx=>do noteFrame x env;theTreesLotGoes x)) _ _ s;refine wpAny_noted ?_;rw[compTurn_list];refine PV (wpAny_standAt (PV (Q2 (turn n s G) (λr i k=>?_) λ_ _ z=>z.elim)));cases r with
 |none=>exact VG k
 |some v =>
  refine PV (Q2 k (λ_ u H=>?_) λ_ _ z=>z.elim);refine PV (Q2 H (λ_ y L=>PV (Q2 L (λa j l=>?_) λ_ _ z=>z.elim)) λ_ _ z=>z.elim);cases a with
  |false=>exact VG ⟨rfl,l⟩
  |true =>
   refine PV (PV (Q2 l (λx B M=>PV (Q2 M (λ_ C N=>?_) λ_ _ z=>z.elim)) λ_ _ z=>z.elim));exact VG (VG ⟨rfl,N⟩)
end
def er(env:Env):List (V1×W2)->List (V1×VU)->List (V1×VU)
 |[],cs=>cs
 |(n,k)::r,cs=>if k==.free then er env r ((n,(env.cells.lookup n).getD 0)::cs) else er env r cs
def Ex(h:∀x∈f.names,x.2=.free->∃c,env.cells.lookup x.1=Z c):closureFor f env=pure (er env f.names []):=by
 have j:∀(l:List (V1×W2))(cs:List (V1×VU)),(∀x∈l,x.2=.free->∃c,env.cells.lookup x.1=Z c) ->
   (forIn l cs λ(x:V1×W2)(r:List (V1×VU))=>(match x with
    |(name,m)=>if (m==V9)=J then do let a <- cellOf env name;pure (WW ((name,a)::r)) else pure (WW r):Z0 (ForInStep (List (V1×VU)))))=(pure (er env l cs):Z0 _):=by
  intro l
  induction l with
  |nil=>intro cs _;rfl
  |cons x l g =>
   intro cs b;obtain⟨n,k⟩:=x;simp only[List.forIn_cons,er];cases q:(k==V9) with
   |false =>
    simp only[PZ,Qs,pure_bind];exact g cs λy d=>b y (VJ _ d)
   |true =>
    have i:k=.free:=⇑q;obtain⟨c,e⟩:=b (n,k) VE i;simp only at e;simp only[Q3,cellOf,e,pure_bind,Option.getD_some];exact g _ λy d=>b y (VJ _ d)
 unfold closureFor;have:=j f.names [] h;simp only[bind_pure];exact this
theorem sV:∀(l:List (V1×W2))(cs:List (V1×VU)),(er env l cs).lookup x=Z c->cs.lookup x=Z c\/(∃y∈l,y.1=x/\y.2=.free/\c=(env.cells.lookup x).getD 0)
 |[],cs,h=>.inl h
 |(n,k)::r,cs,h=>by
  unfold er at h;cases q:(k==V9) with
  |false =>
   rw[q]at h;rcases sV r cs h with a|⟨y,b,a⟩
   .exact .inl a
   .exact .inr ⟨y,VJ _ b,a⟩
  |true =>
   rw[q]at h;have d:k=.free:=⇑q;rcases sV r _ h with a|⟨y,b,a⟩
   .rw[QG]at a;cases z:(x==n) with
    |false=>rw[z]at a;exact .inl a
    |true =>
     rw[z]at a;have e:x=n:=⇑z;subst e;exact .inr ⟨(x,k),VE,rfl,d,(Qy a).symm⟩
   .exact .inr ⟨y,VJ _ b,a⟩
theorem sU:∀(l:List (V1×W2))(cs:List (V1×VU)),((∃y∈l,y.1=x/\y.2=.free)\/(cs.lookup x).isSome=J)->((er env l cs).lookup x).isSome=J
 |[],cs,h=>by
  rcases h with⟨y,a,_⟩|h
  .simp at a
  .exact h
 |(n,k)::r,cs,h=>by
  unfold er;cases q:(k==V9) with
  |false =>
   refine sU r cs ?_;rcases h with⟨y,a,b,h2⟩|h
   .rcases P1.mp a with e|a
    .subst e;simp only at h2;rw[h2]at q;cases q
    .exact .inl ⟨y,a,b,h2⟩
   .exact .inr h
  |true =>
   refine sU r _ ?_;rcases h with⟨y,a,b,h2⟩|h
   .rcases P1.mp a with e|a
    .subst e;simp only at b;subst b;exact .inr (by simp)
    .exact .inl ⟨y,a,b,h2⟩
   .refine .inr ?_;rw[QG];cases z:(x==n)
    .exact h
    .rfl
theorem jn{env:Env}{x:V1}:∀{names:List (V1×W2)}{k:W2},(names.map λ(n,k)=>if (k==V9&&env.scope.kind==.function&&env.kindOf n==Z .cell) then(n,WO) else(n,k)).lookup x=Z k ->
  names.lookup x=Z k\/(names.lookup x=Z .free/\k=.cell)
 |[],_,h=>by simp at h
 |(n,j)::r,k,h=>by
  have h:YN x ((if (j==V9&&env.scope.kind==.function&&env.kindOf n==Z .cell)=J then(n,WO) else(n,j))::(r.map λ(n,k)=>if (k==V9&&env.scope.kind==.function&&env.kindOf n==Z .cell) then(n,WO) else(n,k)))=Z k:=h;rw[QG];cases b:x==n with
  |true =>
   by_cases a:(j==V9&&env.scope.kind==.function&&env.kindOf n==Z .cell)=J
   .rw[if_pos a,QG]at h;simp only[b]at h;have c:j=.free:=(by simp only[PW,QC]at a;exact a.1.1);exact .inr ⟨by rw[c],(Qy h).symm⟩
   .rw[if_neg a,QG]at h;simp only[b]at h;exact .inl h
  |false =>
   by_cases a:(j==V9&&env.scope.kind==.function&&env.kindOf n==Z .cell)=J
   .rw[if_pos a,QG]at h;simp only[b]at h;exact jn h
   .rw[if_neg a,QG]at h;simp only[b]at h;exact jn h
theorem qz{env:Env}{x:V1}{k:W2}:∀{e:List (V1×W2)},e.lookup x=Z k->k≠.free->(e.map λ(n,k)=>if (k==V9&&env.scope.kind==.function&&env.kindOf n==Z .cell) then(n,WO) else(n,k)).lookup x=Z k
 |[],h,_=>by simp at h
 |(n,j)::r,h,c=>by
  show YN x ((if (j==V9&&env.scope.kind==.function&&env.kindOf n==Z .cell)=J then(n,WO) else(n,j))::_)=_;rw[QG]at h;cases a:x==n with
  |true =>
   simp only[a]at h;have f:j=k:=Qy h;subst f;have b:¬(j==V9&&env.scope.kind==.function&&env.kindOf n==Z .cell)=true:=by
    intro z;simp only[PW,QC]at z;exact c z.1.1
   rw[if_neg b,QG];simp only[a]
  |false =>
   simp only[a]at h;have d:=qz (env:=env) h c
   by_cases b:(j==V9&&env.scope.kind==.function&&env.kindOf n==Z .cell)=J
   .rw[if_pos b,QG];simp only[a];exact d
   .rw[if_neg b,QG];simp only[a];exact d
theorem u7{env:Env}{x:V1}:∀{c:List (V1×W2)},c.lookup x=Z .free->(c.map λ(n,k)=>if (k==V9&&env.scope.kind==.function&&env.kindOf n==Z .cell) then(n,WO) else(n,k)).lookup x=Z .cell\/(c.map λ(n,k)=>if (k==V9&&env.scope.kind==.function&&env.kindOf n==Z .cell) then(n,WO) else(n,k)).lookup x=Z .free
 |[],h=>by simp at h
 |(n,j)::r,h=>by
  show YN x ((if (j==V9&&env.scope.kind==.function&&env.kindOf n==Z .cell)=J then(n,WO) else(n,j))::_)=_\/YN x ((if (j==V9&&env.scope.kind==.function&&env.kindOf n==Z .cell)=J then(n,WO) else(n,j))::_)=_;rw[QG]at h;cases a:x==n with
  |true =>
   simp only[a]at h
   by_cases b:(j==V9&&env.scope.kind==.function&&env.kindOf n==Z .cell)=J
   .rw[if_pos b,QG];simp[a]
   .rw[if_neg b,QG];simp only[a];exact .inr h
  |false =>
   simp only[a]at h;have d:=u7 (env:=env) h
   by_cases b:(j==V9&&env.scope.kind==.function&&env.kindOf n==Z .cell)=J
   .rw[if_pos b,QG];simp only[a];exact d
   .rw[if_neg b,QG];simp only[a];exact d
def j9(X:aq)(c:Env)(b:List V1)(s3:VL)(a:ah)(d:List VU)(e:List (VU×WS)):aq :=
 { X with N:=b,dT:=s3,mx:=a,env:=c,outer:=X.stack,ex:=d,fn:=λ_=>VF,b6:=X.b6++e,a6:=λ_ _=>False }
structure jO(X:aq)(scope:Xr)(xs cS:List V1):Prop where
 kind:scope.kind=.function
 jv:∀y∈scope.names,y.2≠.cell
 names:∀y∈scope.names,y.2=.local->scope.names.lookup y.1=Z .local
 loc:∀y,scope.names.lookup y=Z .local->y∈xs\/y=(".0":V1)
 dv:∀y∈xs,scope.names.lookup y=Z .local
 fr:∀y∈scope.names,y.2=.free->X.env.scope.names.lookup y.1=Z .cell\/X.env.scope.names.lookup y.1=Z .free
 len:cS.length=X.N.length+xs.length
 old:∀(i:Nat) y,i<X.N.length->cS[i]?=Z y->(scope.names.lookup y).isSome=J->X.N[i]?=Z y/\y∉xs/\y≠(".0":V1)
 new:∀(j:Nat),cS[X.N.length+j]?=xs[j]?
 eG:cS.Nodup
section
def D0{A:aR}(I:Inv X pins A H s)(Q:∀b∈a3,gI X pins H b)(S:∀b∈a3,∃o,s.heap.get? b=Z o)(B:jO X a xs a0)(b1:a4.Ns s.heap.objs.size (λ_=>Y))(t:∀b o,s.heap.get? b=Z o->a4.get? b=Z o):
  Inv (j9 X (X5 a (er X.env a.names []) s.heap.objs.size X.env) a0 s H a3 pins) [] (A++VV xs.length Y) H { s with heap:=a4,toks:=tk }:=by
 have g:∀y c,(er X.env a.names []).lookup y=Z c->X.env.cells.lookup y=Z c:=λy c e=>by
  rcases sV _ _ e with h|⟨z,hz,e1,e2,e3⟩
  .simp at h
  .have:=B.fr z hz e2;rw[e1]at this;obtain⟨x,j⟩:=I.ok.has y (by rcases this with q|q;exact .inl q;exact .inr q);rw[j]at e3;simp at e3;rw[j,e3]
 have O:∀y,a.names.lookup y=Z .free->∃c,(er X.env a.names []).lookup y=Z c:=λy e =>
  XJ.mp (sU _ _ (.inl ⟨(y,.free),QX e,rfl,rfl⟩))
 have bw:∀y c,X.env.cells.lookup y=Z c->c<s.heap.objs.size:=λy c e=>by
  obtain⟨v,q⟩:=I.cell y c e;exact q.lt
 have a5:∀b,b<s.heap.objs.size->b≠s.heap.objs.size:=λb f=>Ql f
 refine⟨⟨I.ok.mod,B.kind,I.ok.glob,I.ok.blt,P0 _,λy z c e1 e2=>I.ok.inj y z c (g y c e1) (g z c e2),λy U=>?_,λy c q _=>Bool.noConfusion q,I.ok.hd,I.ok.frames,.inl rfl,λb f=>?_,I.bs,Qk I.ok.ka I.e7,λb o e f=>?_,λb f aG=>?_,I.stack,I.vr⟩,
  rfl,I.bare,dz.kept t,⟨_,b1,λi y v e1 e2 e3=>?_⟩,λy c e=>?_,I.fresh,λy c e=>I.fi y c (g y c e),λp T=>?_,I.aM.kept t,?_⟩
 .-- O
  have U:(relabel a X.env).names.lookup y=Z .cell\/(relabel a X.env).names.lookup y=Z .free:=U;have:a.names.lookup y=Z .free:=by
   rcases U with q|q
   .rcases jn q with z|z
    .exact absurd rfl (B.jv _ (QX z))
    .exact z.1
   .rcases jn q with z|z
    .exact z
    .exact z.1
  exact O y this
 .-- bq
  obtain⟨a1,C,E,G,L,a2⟩:=Q b f;obtain⟨o,S⟩:=S b f;exact⟨a5 b (P7 S),λy c e=>L y c (g y c e)⟩
 .-- dq
  obtain⟨a1,C,E,G,L,a2⟩:=Q b f;rcases G with q|q
  .exact I.ok.nL b o e q
  .have:=P7 (I.ok.bs b o e).1;exact absurd (P2 this q) (Rm _)
 .-- bH
  obtain⟨a1,C,E,G,L,a2⟩:=Q b f;rcases P1.mp (I.kO b aG) with q|q
  .exact C q
  .exact E q
 .-- bg cO
  have hi:i<A.length:=by
   by_cases hi:i<A.length
   .exact hi
   .rw[QD ⋯,RT]at e2
    split at e2<;>cases e2
  rw[Qj hi]at e2;have aJ:i<X.N.length:=(by rw[<- I.len];exact hi);have e3:dV (relabel a X.env) y:=e3;have b2:(a.names.lookup y).isSome=true:=by
   rcases e3 with q|q|q
   all_goals
    rcases jn q with z|z
    .rw[z];rfl
    .rw[z.1];rfl
  obtain⟨aw,bp,h0⟩:=B.old i y aJ e1 b2;have R:a.names.lookup y=Z .free:=by
   rcases e3 with q|q|q
   .rcases jn q with z|z
    .rcases B.loc y z with w|w
     .exact absurd w bp
     .exact absurd w h0
    .exact z.1
   .rcases jn q with z|z
    .exact absurd rfl (B.jv _ (QX z))
    .exact z.1
   .rcases jn q with z|z
    .exact z
    .exact z.1
  have N:=B.fr (y,.free) (QX R) rfl;obtain⟨m,bI,aL⟩:=I.loc;obtain⟨u,r,l⟩:=aL i y v aw e2 (by rcases N with q|q;exact .inr (.inl q);exact .inr (.inr q));refine⟨u,r,.inr ⟨?_,?_⟩⟩
  .exact u7 R
  .rcases l with⟨k,_⟩|⟨_,c,aA,z⟩
   .exfalso;have k:X.env.scope.names.lookup y=Z .local:=k;simp only at N;rcases N with q|q<;>rw[k]at q<;>cases q
   .obtain⟨x,j⟩:=O y R;have e:x=c:=(by have:=g y x j;rw[aA]at this;exact(Qy this).symm);subst e;obtain⟨o,M,h2⟩:=z;exact⟨x,j,o,t _ _ M,h2⟩
 .-- bk
  obtain⟨v,o,M,h2⟩:=I.cell y c (g y c e);exact⟨v,o,t _ _ M,h2⟩
 .-- pins
  have T:p∈X.b6++pins:=(by simpa[j9] using T);obtain⟨e,n,bf,bh,d⟩:=I.pin p T;refine⟨t _ _ e,n,a5 _ (P7 e),λf=>?_,d⟩;rcases P1.mp (I.kO p.1 f) with q|q
  .exact bf q
  .exact bh q
 .show _=a0.length;rw[PY,Rp,B.len,I.len]
end
abbrev jD:List Nat->List V->aR->aR
 |i::b,v::c,a=>jD b c (a.set i (Z v))
 |_,_,a=>a
def tI:List Nat->iV
 |[]=>yr
 |i::a=>yp (tH i) (tI a)
theorem yq:∀(ts:List Nat)(a:List V)(b:aR)(H:ah)(Q:aR->ah->Prop),a.length=ts.length->Q (jD ts a b) H->tI ts a b H Q
 |[],[],b,H,Q,_,q=>⟨rfl,q⟩
 |[],_::_,_,_,_,h,_=>by simp at h
 |_::_,[],_,_,_,h,_=>by simp at h
 |i::c,v::a,b,H,Q,h,q=>⟨v,a,rfl,yq c a _ H Q ⇑h q⟩
def tG(K:W.Frag)(k:Nat)(ts:List Nat):h1:=λv c H Q=>∃G d,aF G H/\Rep K G d v/\a7 (ζ.ep k d) (λos=>∀(b:List D)(a:List V),os=b.map Z->ax K G b a->Q (jD ts a c) H) (λ_=>False)
section
theorem Ap(g:X.N.Nodup):∀(ts:List Nat)(ys:List V1)(d:List V3),ζ.namesOf d=Z ys->ts.length=ys.length->(∀(j i:Nat) y,ts[j]?=Z i->ys[j]?=Z y->X.N[i]?=Z y/\Loc X.env.scope y/\(X.fn y=J\/X.env.scope.names.lookup y=Z .local)) ->
  mB X d (tI ts)/\(W7 d X.env).length=ts.length/\(W7 d X.env).findIdx? (·.1)=Y
 |ts,ys,[],h,f,_=>by
  simp only[ζ.namesOf,Q9]at h;subst h;have:ts=[]:=⇑f;subst this;exact⟨Kz,rfl,rfl⟩
 |ts,ys,e::d,h,f,k=>by
  simp only[ζ.namesOf]at h;cases e with
  |Name x p =>
   cases q:ζ.namesOf d with
   |none=>simp only[ζ.nameOf,q]at h;cases h
   |some n =>
    simp only[ζ.nameOf,q,Q9]at h;subst h;cases ts with
    |nil=>simp at f
    |cons i l =>
     obtain⟨a,b,c⟩:=k 0 i x rfl rfl;obtain⟨m,h2,h3⟩:=Ap g l n d q ⇑f λj i y e1 e2=>k (j+1) i y ⇑e1 ⇑e2
     refine⟨Ky (An g a b c) m rfl,?_,?_⟩
     .show(W7 d X.env).length+1=l.length+1;rw[h2]
     .show((VF,ZE (.Name x p) X.env)::W7 d X.env).findIdx? (·.1)=Y;rw[List.findIdx?_cons];simp only[PZ,Qs];rw[h3];rfl
  |_=>simp only[ζ.nameOf]at h;cases h
def Ao(O:X.calm=J)(z:X.N.Nodup)(f:ζ.dv k t=Z ys)(l:ts.length=ys.length)(C:∀(j i:Nat) y,ts[j]?=Z i->ys[j]?=Z y->X.N[i]?=Z y/\Loc X.env.scope y/\(X.fn y=J\/X.env.scope.names.lookup y=Z .local)):gp X t (tG X.K k ts):=by
 cases k with
 |zero =>
  cases t with
  |Name x p =>
   simp only[ζ.dv,Q9]at f;subst f;obtain⟨i,rfl⟩:∃i,ts=[i]:=by
    match ts,l with
    |[i],_=>exact⟨i,rfl⟩
   obtain⟨a,b,c⟩:=C 0 i x rfl rfl;rintro m s g H v u Q I r ⟨G,d,B,o,hw⟩;refine An z a b c m s g H v u Q I r ?_;exact hw [d] [v] rfl ⟨v,[],rfl,o,rfl⟩
  |_=>simp only[ζ.dv]at f;cases f
 |succ k =>
  cases t with
  |Tuple w j p =>
   simp only[ζ.dv]at f;cases q:ζ.namesOf w with
   |none=>rw[q]at f;cases f
   |some L =>
    rw[q]at f;simp only at f
    by_cases hz:L.length=k+1
    .rw[if_pos hz]at f;simp only[Q9]at f;subst f;obtain⟨M,h2,h3⟩:=Ap z ts L w q l C;rintro m s g H v u Q I r ⟨G,d,B,o,hw⟩;refine Kx (n:=ts.length) O M h2 h3 m s g H v u Q I r ?_;cases d with
     |tup ds =>
      obtain⟨a,xs,e,R,E⟩:=o;have N:ζ.ep (k+1) (.tup ds)=if ds.length=k+1 then .ok (ds.map Z) else .bad:=rfl;rw[N]at hw
      by_cases h:ds.length=k+1
      .rw[if_pos h]at hw;have A:xs.length=ts.length:=(by rw[<- E.length,h,l,hz]);exact⟨a,xs,e,fW B R,A,yq ts xs g H Q A (hw ds xs rfl E)⟩
      .rw[if_neg h]at hw;exact hw.elim
     |_=>exact hw.elim
    .rw[if_neg hz]at f;cases f
  |_=>simp only[ζ.dv]at f;cases f
end
structure iS(K:W.Frag)(P:ah->ah->Prop)(jV:hk)(ds:List D):Prop where
 go:∀(i:Nat) b3 H1,P b3 H1->i<ds.length->jV.go i H1
 hV:∀(i:Nat) b3 H1 x eL d,P b3 H1->aF b3 H1->ds[i]?=Z d->jV.hV i H1 x eL->∃oA,Ext b3 H1 oA eL/\Rep K oA d x
 stop:∀b3 H1,P b3 H1->jV.stop ds.length H1
abbrev kW(m:dC)(G H:ah):ah->ah->Prop:=λa b=>aF G a/\(match m with|.view=>aF H b|_=>aF a b)
def ha(xp:cf)(X:aq)(g:List Nat)(m:dC)(f:ay->aV (List D)):TI:=λh H R =>
 ∃G e,cH X.K g G H e h/\a7 (f e) (λds=>∀d b a,Ext G H b a->iS X.K (kW m b a) d ds->ds.length<=16777216->R d a) (λc=>dy xp X c H)
def uI{α:Type}{r:aV α}{Q:α->Prop}(h:a7 (ζ.ir r) Q E):∃a,r=.ok a/\Q a:=by
 cases r with
 |ok a=>exact⟨a,rfl,h⟩
 |exc c=>exact h.elim
 |bad=>exact h.elim
def cH.more{K:W.Frag}(h:cH K s G H k B)(g:∀i∈s,i<k.length)(r:ax K G t A):cH K s G H (k++t.map Z) (B++A.map Z) where
 len:=by rw[PY,PY,h.len,VH,VH,r.length]
 sub:=h.sub
 val:=λi d e c=>by
  by_cases hi:i<k.length
  .rw[Qj hi]at e;obtain⟨v,a,b⟩:=h.val i d e c;exact⟨v,by rw[Qj (by rw[<- h.len];exact hi)];exact a,b⟩
  .rw[QD ⋯,Qh]at e;cases q:t[i-k.length]? with
   |none=>rw[q]at e;cases e
   |some w =>
    rw[q]at e;simp only[WB,Q9]at e;subst e;obtain⟨v,a,b⟩:=r.get q;exact⟨v,by rw[QD (by rw[<- h.len];lia),Qh,<- h.len,a];rfl,b⟩
 own:=λi d e c l=>by
  have hi:=g i c;rw[Qj hi]at e;obtain⟨v,a,b⟩:=h.own i d e c l;exact⟨v,by rw[Qj (by rw[<- h.len];exact hi)];exact a,b⟩
 lst:=λi d e c l=>by
  have hi:=g i c;rw[Qj hi]at e;obtain⟨a,o,f,h2⟩:=h.lst i d e c l;exact⟨a,o,by rw[Qj (by rw[<- h.len];exact hi)];exact f,h2⟩
 bB:=h.bB
 apart:=λi j ds y a b e1 e2 u x hi n z f h2=>by
  have m:=g i hi;have p:=g j n;rw[Qj m]at e1;rw[Qj p]at e2;rw[Qj (by rw[<- h.len];exact m)]at f;rw[Qj (by rw[<- h.len];exact p)]at h2;exact h.apart i j ds y a b e1 e2 u x hi n z f h2
theorem Bp:∀(b:List V)(a gn:aR)(n:Nat),n=a.length->gn.length=b.length->jD (List.range' n b.length) b (a++gn)=a++b.map Z
 |[],a,gn,n,d,c=>by
  have:gn=[]:=⇑c;subst this;rfl
 |v::b,a,gn,n,d,c=>by
  cases gn with
  |nil=>simp at c
  |cons t gn =>
   rw[VX,List.range'_succ,jD];have e:(a++t::gn).set n (Z v)=(a++[Z v])++gn:=by
    rw[TL _ _ ⋯,d];simp
   rw[e,Bp b (a++[Z v]) gn (n+1) (by simp[d]) ⇑c];simp
section
def gc(k:Nat)(e:ay->aV Bool)(f:ay->aV D)(c:ay)(d:D):aV (Option D):=ζ.ep k d>>=λa=>e (c++a)>>=λb=>if b then f (c++a)>>=λy=>.ok (Z y) else .ok Y
def eA(X:aq)(a:Xr)(c:List V1)(s3:VL)(b:ah)(d:List VU)(e:List (VU×WS)):aq:=j9 X (X5 a (er X.env a.names []) s3.heap.objs.size X.env) c s3 b d e
def DT{d:D}{os:List (Option D)}(h:ζ.ep k d=.ok os):∃c:List D,os=c.map some:=by
 cases k with
 |zero=>cases h;exact⟨[d],rfl⟩
 |succ k =>
  cases d with
  |tup ds =>
   have b:ζ.ep (k+1) (.tup ds)=if ds.length=k+1 then .ok (ds.map Z) else .bad:=rfl;rw[b]at h
   by_cases a:ds.length=k+1
   .rw[if_pos a]at h;cases h;exact⟨ds,rfl⟩
   .rw[if_neg a]at h;cases h
  |_=>cases h
end
section
variable{xp:cf}{X:aq}{aa:List Nat}{pj:ay->aV (List D)}{fQ:ay->aV D}{bY:ay->aV Bool}{elt target iter:V3}{ifs:List V3}{scope:Xr}{pos:Xo}{xs cS:List V1}{k:Nat}
def kZ(xp:cf)(X:aq)(aa:List Nat)(scope:Xr)(cS:List V1)(ifs:List V3)(bY:ay->aV Bool):Prop :=
 (ifs=[]/\bY=λ_=>.ok J)\/∃(c:V3)(b:ay->aV D),ifs=[c]/\(bY=λf=>b f>>=ζ.dN)/\∀s3 a d e,cy (eA X scope cS s3 a d e) c (eH xp (eA X scope cS s3 a d e) aa b)
def OC(v:kZ xp X aa scope cS ifs bY){l:aR}(I:Inv (eA X scope cS s3 f g j) q l H s)(p:cH X.K aa G H m l)(i:bY m=.ok b)(o:∀s' a d,Inv (eA X scope cS s3 f g j) q l d s'->Ext G H a d->Q b s'):
  VO (VW X.prog X.w) X.A (forIn ifs J λc r=>if r=J then do let w <- Y6 c (eA X scope cS s3 f g j).env (Wx c (eA X scope cS s3 f g j).env);pure (WW w) else pure (WW r)) Q (λ_ _=>False) s:=by
 rcases v with⟨rfl,rfl⟩|⟨c,u,rfl,rfl,h⟩
 .cases i;exact wpAny_tests_nil (o s G H I (Ext.refl p.sub))
 .refine wpAny_tests_one (Q2 (h s3 f g j q s l H (λn d=>n=b/\∃a,Ext G H a d) I ⟨G,m,p,?_⟩) (λn s' ⟨d,t,e,a,x⟩=>?_) λ_ _ z=>z)
  .have i:(u m>>=ζ.dN)=.ok b:=i;rw[i];exact λa d x=>⟨rfl,a,x⟩
  .subst e;exact o s' a d t x
def DU{d:D}{os:List (Option D)}(a:ζ.dv k target=Z xs)(h:ζ.ep k d=.ok os):os.length=xs.length:=by
 cases k with
 |zero =>
  cases h;cases target with
  |Name x p=>simp only[ζ.dv,Q9]at a;subst a;rfl
  |_=>simp only[ζ.dv]at a;cases a
 |succ k =>
  have f:xs.length=k+1:=by
   cases target with
   |Tuple c j p =>
    simp only[ζ.dv]at a;cases q:ζ.namesOf c with
    |none=>rw[q]at a;cases a
    |some g =>
     rw[q]at a;simp only at a
     by_cases hz:g.length=k+1
     .rw[if_pos hz]at a;cases a;exact hz
     .rw[if_neg hz]at a;cases a
   |_=>simp only[ζ.dv]at a;cases a
  cases d with
  |tup ds =>
   have e:ζ.ep (k+1) (.tup ds)=if ds.length=k+1 then .ok (ds.map Z) else .bad:=rfl;rw[e]at h
   by_cases b:ds.length=k+1
   .rw[if_pos b]at h;cases h;rw[VH,b,f]
   .rw[if_neg b]at h;cases h
  |_=>cases h
def IW{a b:List D}(h:a.map Z=b.map Z):a=b:=by
 induction a generalizing b with
 |nil=>cases b with|nil=>rfl|cons _ _=>simp at h
 |cons x a c=>cases b with
  |nil=>simp at h
  |cons y b=>simp only[VP,List.cons.injEq,Q9]at h;rw[h.1,c h.2]
def rg(X:aq)(e:List (VU×WS))(f:aR)(G H:ah)(use:Option (VI->Z0 Unit))(Qc:VI->VL->Prop)(ys:List D):Prop :=
 ∀(b:VL)(a d:ah)(C c:VU)(m4:V1->Option VI),Ext G H d a->a8 X.K H d a .fresh (.lst ys) (.ref c)->b.heap.Ns C m4->gI X e a C->(∀h',Wr C b.heap h'->Inv X e f a { b with heap:=h' }) ->
  compPost (VW X.prog X.w) X.A X.a6 use Qc (.ref c) C (.ok .next) b
structure CS(X Y:aq)(f:D->aV (Option D))(iI:Nat->We->Prop)(jc:List VU)(ds ys:List D)(xs:List V1)(σ:aR)(oA eL:ah)(v7:VU)(n:Nat)(s':VL)(i:Nat)(gn:aR)(aE cu:ah)(vZ rest:List D)(fz:List V):Prop where
 aI:n=ds.length-i
 h2:i<=ds.length
 h3:gn.length=xs.length
 h4:Inv Y [] (σ++gn) aE s'
 h5:iI i s'.heap
 jg:∀b∈jc,aE b=none
 cP:Ext oA eL cu aE
 gW:aE v7=Z (.lst fz)
 gX:cu v7=none
 PC:ax X.K cu vZ fz
 PD:vZ.length<=i
 PE:ζ.bx f (ds.drop i)=.ok rest
 PF:ys=vZ++rest
def Ft{d:D}{r rest:List D}(h:ζ.bx (gc k bY fQ f) (d::r)=.ok rest):∃(e:List D)(b:Bool)(l:List D),ζ.ep k d=.ok (e.map Z)/\bY (f++e.map Z)=.ok b /\
  ζ.bx (gc k bY fQ f) r=.ok l/\((b=VF/\rest=l)\/∃y,b=J/\fQ (f++e.map Z)=.ok y/\rest=y::l):=by
 simp only[ζ.bx]at h;cases a:gc k bY fQ f d with
 |exc c=>rw[a]at h;cases h
 |bad=>rw[a]at h;cases h
 |ok o =>
 rw[a]at h;simp only[ζ.R.eX]at h;cases m:ζ.bx (gc k bY fQ f) r with
 |exc c=>rw[m]at h;cases h
 |bad=>rw[m]at h;cases h
 |ok l =>
 rw[m]at h;simp only[ζ.R.eX]at h;unfold gc at a;cases i:ζ.ep k d with
 |exc c=>rw[i]at a;cases a
 |bad=>rw[i]at a;cases a
 |ok os =>
 rw[i]at a;simp only[ζ.R.eX]at a;obtain⟨e,rfl⟩:=DT i;cases g:bY (f++e.map Z) with
 |exc c=>rw[g]at a;cases a
 |bad=>rw[g]at a;cases a
 |ok b =>
 rw[g]at a;simp only[ζ.R.eX]at a;cases b with
 |false=>cases a;cases h;exact⟨e,VF,_,rfl,g,rfl,.inl ⟨rfl,rfl⟩⟩
 |true =>
  simp only[Q3]at a;cases j:fQ (f++e.map Z) with
  |exc c=>rw[j]at a;cases a
  |bad=>rw[j]at a;cases a
  |ok y =>
  rw[j]at a;cases a;cases h;exact⟨e,J,_,rfl,g,rfl,.inr ⟨y,rfl,j,rfl⟩⟩
def EP(pn:X.calm=J)(l1:∀i∈aa,i<X.N.length)(B:jO X scope xs cS)(jd:ζ.dv k target=Z xs)(ny:∀s3 eE h s,ai (eA X scope cS s3 eE h s) elt (av xp (eA X scope cS s3 eE h s) aa .val fQ))(H5:kZ xp X aa scope cS ifs bY){σ:aR}(jg:σ.length=X.N.length)(h5:cH X.K aa G H Q σ)(T:Turn X.prog X.w X.K target t6 h gW ed){s2 s3:VL}(pK:ed 0 s2.heap)(e4:∀b∈h,gI X s g b)(a5:Ext G H E g)(dW:iS X.K (kW .view E g) t6 ds)(hz:ds.length<=16777216)(m0:ζ.bx (gc k bY fQ Q) ds=.ok ys)(fin:rg X s σ G H use Qc ys)(bH:Inv X s σ (upd g f (.lst [])) s3)(b2:g f=Y)(HM:∀b∈h,b≠f)(jf:∀b o,s2.heap.get? b=Z o->s3.heap.get? b=Z o)(l4:pD.Ns s3.heap.objs.size (λ_=>Y))(je:∀b o,s3.heap.get? b=Z o->pD.get? b=Z o):
  Xy (VW X.prog X.w) X.A (Code.compStart (elt.ListComp [{ target:=target,iter:=iter,ifs:=ifs,is_async:=0 }] scope pos) 0 (VY gW) (VY f) (X5 scope (er X.env scope.names []) s3.heap.objs.size X.env))
   (compPost (VW X.prog X.w) X.A X.a6 use Qc (VY f) s3.heap.objs.size) { s3 with heap:=pD,toks:=tk }:=by
 have bp:∀b∈h,gI X s (upd g f (.lst [])) b:=λb a=>⟨by rw[bo (HM b a)];exact(e4 b a).1,(e4 b a).2⟩
 have l5:∀b∈h,∃o,s3.heap.get? b=Z o:=λb a=>by
  obtain⟨o,e,_⟩:=T.obj _ _ pK b a;exact⟨o,jf b o e⟩
 have b1:=D0 (tk:=tk) bH bp l5 B l4 je;generalize l:j9 X (X5 scope (er X.env scope.names []) s3.heap.objs.size X.env) cS s3 (upd g f (.lst [])) h s=w at b1;have pL:ed 0 pD:=T.keep _ _ _ pK λb a o e=>je b o (jf b o e)
 have Js:cH X.K aa E g Q σ:=h5.ext a5;have l2:∀i∈aa,i<Q.length:=λi hi=>by rw[h5.len,jg];exact l1 i hi
 have bg:∀{aE:ah},(∀b∈h,aE b=Y)->∀b∈h,gI w [] aE b:=λl3 b a=>by
  obtain⟨ua,e3,ub,e5,gb,dq⟩:=bp b a;obtain⟨e1,e2⟩:=b1.ok.tA b (by rw[<- l];exact a);refine⟨l3 b a,e1,b1.ok.ly b (by rw[<- l];exact a),.inl (by rw[<- l];exact a),e2,λp h3=>?_⟩;rw[<- l]at h3;exact dq p (by simpa[j9] using h3)
 have nq:Xy (VW X.prog X.w) X.A (.compLoop (.ListComp elt [⟨target,iter,ifs,0⟩] scope pos) 0 (.ref gW) (.ref f) (X5 scope (er X.env scope.names []) s3.heap.objs.size X.env))
   (compPost (VW X.prog X.w) X.A X.a6 use Qc (VY f) s3.heap.objs.size) { s3 with heap:=pD,toks:=tk }:=by
  refine EN (λn s'=>∃(i:Nat)(R:aR)(aE C:ah)(aG rest:List D)(fz:List V),CS X w (gc k bY fQ Q) ed h ds ys xs σ E g f n s' i R aE C aG rest fz) ?_ ds.length
   ⟨0,VV xs.length Y,_,E,[],ys,[],by simp,Qa _,by simp,b1,pL,λb a=>(bp b a).1,Ext.own a5.sub b2 (λ_ z=>nomatch z),b7,a5.sub.free b2,rfl,P0 _,⇑m0,rfl⟩
  rintro n s' ⟨i,R,aE,C,aG,rest,fz,rfl,o0,IP,e0,pJ,fP,a4,bJ,f8,eD,PM,a1,bf⟩;have dg:kW .view E g C aE:=⟨a4.g,a4.h⟩;have g3:w.calm=true:=(by rw[<- l];exact pn);have dr:w.prog=X.prog:=(by rw[<- l];rfl);have cZ:w.w=X.w:=(by rw[<- l];rfl);have g2:w.K=X.K:=(by rw[<- l];rfl);have g1:w.A=X.A:=by rw[<- l];rfl
  by_cases kl:i<ds.length
  .have dh:ds[i]?=Z ds[i]:=P4 kl;generalize ds[i]=d at dh;have k5:ds.drop i=d::ds.drop (i+1):=by
    have:=Qp.mp dh;obtain⟨k1,h2⟩:=this;rw[<- h2];exact QY k1
   rw[k5]at a1;have gX:=T.item w dr cZ g2 g3 i [] s' (σ++R) aE (λ_ _=>False) e0 (bg fP) pJ (dW.go i C aE dg kl);rw[g1]at gX;refine aP gX λr M t=>?_
   obtain⟨u,a0,h4⟩:=t;subst a0;refine aP h4 λ_ js t=>?_
   obtain⟨x,bq,tS,IS,Jv,a3,k0⟩:=t;obtain⟨S,aA,IT⟩:=dW.hV i C aE x bq d dg a4.sub dh Jv;have tZ:=tS.pinned (bg k0) (T.obj _ _ a3);obtain⟨bk,b,g5,pG,m5,pF,a⟩:=Ft a1;have kp:bk.length=xs.length:=(by have:=DU jd pG;simpa using this);subst l;have HN:gp (j9 X (X5 scope (er X.env scope.names []) s3.heap.objs.size X.env) cS s3 (upd g f (.lst [])) h s) target (tG X.K k (List.range' X.N.length xs.length)):=by
    refine Ao (X:=j9 X (X5 scope (er X.env scope.names []) s3.heap.objs.size X.env) cS s3 (upd g f (.lst [])) h s) pn B.eG jd (by simp) λj PN y e1 e2=>?_
    rw[List.getElem?_range' (Qp.mp e2).1]at e1;have H6:y∈xs:=Rd e2;have ni:(relabel scope X.env).names.lookup y=Z .local:=qz (B.dv y H6) ∅;cases e1;refine⟨?_,.inl ni,.inr ni⟩;show cS[X.N.length+1*j]?=Z y;rw[Nat.one_mul,B.new j];exact e2
   refine aP (HN _ js (σ++R) bq x u (λpM mw=>∃m:List V,pM=σ++m.map Z/\m.length=xs.length/\mw=bq/\ax X.K S bk m) tZ IS ⟨S,d,aA.sub,IT,?_⟩) λ_ PO t=>?_
   .rw[pG];intro PR m e r;have e:=IW e;subst e;have di:m.length=xs.length:=(by rw[<- r.length,kp]);refine⟨m,?_,di,rfl,r⟩;rw[<- di];exact Bp m σ R X.N.length (jg.symm) (by rw[IP,di])
   obtain⟨pM,mw,t2,m,t7,cP,t9,Jo⟩:=t;subst t7;subst t9;have et:Ext E g S mw:=a4.trans aA;have pI:cH X.K aa S mw (Q++bk.map Z) (σ++m.map Z):=(Js.ext et).more l2 Jo;have ht:mw f=Z (.lst fz):=aA.h _ _ bJ;have k3:S f=none:=aA.new f f8 (by rw[bJ];exact λz=>nomatch z);refine OC H5 t2 pI m5 λJp U aJ aL N=>?_
   have cY:aJ f=Z (.lst fz):=N.h _ _ ht;have hu:U f=none:=N.new f k3 (by rw[ht];exact λz=>nomatch z);have pH:ax X.K U aG fz:=(eD.mono aA.g).mono N.g;rcases a with⟨rfl,rfl⟩|⟨y,rfl,IQ,rfl⟩
   .simp only[PZ,Qs];refine⟨ds.length-(i+1),⋯,i+1,m.map Z,aJ,U,aG,rest,fz,rfl,⋯,by rw[VH];exact cP,aL.ml,T.keep _ _ _ a3 λb a o e=>(aL.pin (b,o) (Qd _ (Qd _ (lP a e)))).1,λb a=>?_,et.trans N,cY,hu,pH,⋯,pF,bf⟩;obtain⟨eC,e,_⟩:=T.obj _ _ a3 b a;exact(aL.pin (b,eC) (Qd _ (Qd _ (lP a e)))).2.1
   .simp only[Q3];refine aP (ny s3 (upd g f (.lst [])) h s _ Jp (σ++m.map Z) aJ (λv jT=>∃A,Ext U aJ A jT/\Rep X.K A y v) aL ⟨U,Q++bk.map Z,pI.ext N,by rw[IQ];exact λv A jT O ec=>⟨A,O,ec⟩⟩) λJt Jq t=>?_
    obtain⟨bw,jT,t4,ec,A,O,IU⟩:=t;have k2:jT f=Z (.lst fz):=O.h _ _ cY;have gx:A f=none:=O.new f hu (by rw[cY];exact λz=>nomatch z);have l0:fz.length<sizeLine:=(by rw[<- eD.length,V7];lia);refine aP (zJ (X:=eA X scope cS s3 (upd g f (.lst [])) h s) _ Jq (σ++m.map Z) jT (.ref f) [bw] (.ref f) [Jt] (λ_ eQ=>eQ=upd jT f (.lst (fz++[bw]))) t4 rfl (.cons ec .nil) ⟨f,fz,bw,rfl,rfl,k2,l0,rfl⟩) λ_ PQ t=>?_
    obtain⟨_,eQ,bI,_,t8⟩:=t;subst t8;have aw:Ext E g A jT:=(et.trans N).trans O;refine⟨ds.length-(i+1),⋯,i+1,m.map Z,_,A,aG++[y],g5,fz++[bw],rfl,⋯,by rw[VH];exact cP,bI.ml,T.keep _ _ _ a3 λb a o e=>(bI.pin (b,o) (Qd _ (Qd _ (lP a e)))).1,λb a=>?_,
     ⟨aw.g,λb o e=>?_,λb o e=>?_,aw.new,λb xs e=>aw.bB b xs (by
      by_cases q:b=f
      .subst q;rw[b7]at e;cases e
      .rw[bo q]at e;exact e)⟩,b7,gx,(pH.mono O.g).snoc IU,by rw[PY,V8];lia,pF,by rw[bf,Qi];rfl⟩
    .obtain⟨eC,e,_⟩:=T.obj _ _ a3 b a;exact(bI.pin (b,eC) (Qd _ (Qd _ (lP a e)))).2.1
    .rw[bo (jt e b2)];exact aw.h b o e
    .rw[bo (jt e gx)];exact aw.sub b o e
  .have HO:i=ds.length:=⋯;subst HO;have a0:rest=[]:=by
    rw[TV]at a1;simp only[ζ.bx]at a1;cases a1;rfl
   subst a0;rw[QQ]at bf;subst bf;have done:=T.done w dr cZ g2 g3 ds.length [] s' (σ++R) aE (λ_ _=>False) e0 (bg fP) pJ (dW.stop C aE dg);rw[g1]at done;refine aP done λr M t=>?_
   obtain⟨a0,I⟩:=t;subst a0;obtain⟨m4,h0,_⟩:=I.loc;have cO:w.env.locals=s3.heap.objs.size:=(by rw[<- l];rfl);rw[cO]at h0;refine fin M aE C s3.heap.objs.size f m4 (a5.trans a4) ⟨f,fz,rfl,bJ,a5.h.free b2,f8,eD⟩ h0 (bH.nh (P0 _) (by have:=I.free;rw[cO]at this;exact this)) λh' bh=>?_
   have hs:aE s3.heap.objs.size=none:=(by have:=I.free;rw[cO]at this;exact this);have L:dz (ef X.stack) h (upd g f (.lst [])) aE s3.heap M.heap:=(by have:=I.base;rw[<- l]at this;exact this);have es:∀b o,s3.heap.get? b=Z o->b≠s3.heap.objs.size:=λb o e=>Ql (P7 e)
   have Ju:dz (ef X.stack) h (upd g f (.lst [])) aE s3.heap h' :=
    ⟨λb o e n a a2=>(bh.2 b (es b o e)).trans (L.keep b o e n a a2),λb o e n a a2=>by obtain⟨Jr,q⟩:=L.slot b o e n a a2;exact⟨Jr,(bh.2 b (es b o e)).trans q⟩,L.free,
     λb o e a2=>by obtain⟨m2,q⟩:=L.there b o e a2;exact⟨m2,(bh.2 b (es b o e)).trans q⟩,L.hS,L.gV,L.hQ⟩
   have H4:cC X.prog X.w aE h':=λb o e=>by
    have q:=I.aM b o e;rw[dr,cZ]at q;refine q.iG (λc v yZ q=>(bh.2 c ?_).trans q) (λ_ q=>q) λ_ _ q=>q
    rcases yZ with z|z
    .rw[z];rintro rfl;rw[hs]at e;cases e
    .rintro rfl;rw[hs]at z;cases z
   have m3:M.os=s3.os:=(by have:=I.os;rw[<- l]at this;exact this);have t5:Inv X s σ aE { M with heap:=h' }:=bH.w2 (s':={ M with heap:=h' }) m3 Ju H4 I.bare λb a=>by
    obtain⟨ua,e3,ub,e5,gb,dq⟩:=bp b a;exact⟨e5,e3,gb,dq⟩
   exact t5
 refine codeAny_compStart_list nq (T.self _ _ _ _ _ pL nq)
def xl(C:X.calm=J)(N:∀i∈aa,i<X.N.length)(B:jO X scope xs cS)(M:ζ.dv k target=Z xs)(R:∀x,WI iter X.env x=pure x)(hi:fK X target iter (ha xp X aa .view pj))(L:∀s3 n l a,ai (eA X scope cS s3 n l a) elt (av xp (eA X scope cS s3 n l a) aa .val fQ))(S:kZ xp X aa scope cS ifs bY){d:aR}(I:Inv X a d H s)(r:cH X.K aa G H g d)(hw:a7 (pj g>>=λds=>ζ.ir (ζ.bx (gc k bY fQ g) ds)) (rg X a d G H use Qc) (λc=>dy xp X c H)):
  VO (VW X.prog X.w) X.A (comprehension (.ListComp elt [⟨target,iter,ifs,0⟩] scope pos) scope X.env aJ (newList []) VF (Wx iter X.env) use) Qc X.a6 s:=by
 have E:closureFor scope X.env=pure (er X.env scope.names []):=Ex λx U e=>by
  have:=B.fr x U e;exact I.ok.has x.1 (by rcases this with q|q;exact .inl q;exact .inr q)
 refine wpAny_comprehension_free (use:=use) rfl R E B.kind B.names ?_;refine aP (hi a s d H (λj h=>∃f ds ys,Ext G H f h/\iS X.K (kW .view f h) j ds/\ds.length<=16777216/\ζ.bx (gc k bY fQ g) ds=.ok ys/\rg X a d G H use Qc ys) I
  ⟨G,g,r,aS (aC.mp hw) (λds a2 j f h x m hz=>?_) λ_ q=>q⟩) λv aL w=>aP w λaG s2 h2=>?_
 .obtain⟨ys,e,q⟩:=uI a2;exact⟨f,ds,ys,x,m,hz,e,q⟩
 obtain⟨aA,l,b1,j,a5,rfl,p,T,t,u,a4,ds,ys,a3,m,hz,a1,fin⟩:=h2;refine QA (wpAny_newFunctionEnv B.jv (by intro y a0;simp at a0) (λaw O Q=>?_) B.kind);refine EP (s2:=s2) (s3:={ s2 with heap:=s2.heap.push { cls:=.type "list",data:=.seq ([]:List VI).toArray } }) (tk:=s2.toks) C N B M L S I.len r T t u a3 m hz a1 fin (p.zm (t':=s2.toks) (ys:=[]) (its:=[]) .nil (Qa _)) p.fresh (λb A z=>?_) (λb o e=>PX _ e) ⇑O λb o e=>Q.extBut b o (Ql (P7 e)) (PX _ e)
 obtain⟨o,e,_⟩:=T.obj _ _ t b A;have:=P7 e;rw[z]at this;exact absurd this (Rm _)
def vc(h:X.calm=J)(m:∀i∈aa,i<X.N.length)(B:jO X scope xs cS)(l:ζ.dv k target=Z xs)(p:∀x,WI iter X.env x=pure x)(hi:fK X target iter (ha xp X aa .view pj))(j:∀s3 d e a,ai (eA X scope cS s3 d e a) elt (av xp (eA X scope cS s3 d e a) aa .val fQ))(t:kZ xp X aa scope cS ifs bY):
  ai X (.ListComp elt [⟨target,iter,ifs,0⟩] scope pos) (av xp X aa .fresh λb=>pj b>>=λds=>ζ.ir (ζ.bx (gc k bY fQ b) ds)>>=λys=>.ok (.lst ys)):=by
 rintro a s w H Q I ⟨G,b,o,hw⟩;rw[eval_ListComp];refine xl h m B l p hi j t I o (use:=Y) (Qc:=cU X a w Q) ?_;have hw:=aC.mp hw;refine aC.mpr (aS hw (λds k1=>?_) λ_ q=>q);refine aS (aC.mp k1) (λys k2 z c g C f m4 x r n y u=>?_) λ_ q=>q
 exact⟨m4,n,λh' v=>⟨.ref f,c,u h' v,rfl,k2 _ g c x r⟩⟩
end
section
def KC(m:ai X l u):fK X y l (λj H R=>u j H λx f=>∃a xs,x=.ref a/\((cz X.K f a xs/\(xs.length<=V5->R (rm X.K a) f))\/(cW X.K f a xs/\(xs.length<=V5->R (rn X.K a) f)))):=by
 intro n s j H R I h;refine aP (m n s j H _ I h) λv c w=>?_
 obtain⟨x,f,d,k,r⟩:=w;obtain⟨a,xs,e,⟨i,q⟩|⟨i,q⟩⟩:=r
 .subst e;cases k;obtain⟨its,t,p,hz⟩:=d.list i;refine Tx p.isList ?_;refine⟨c.heap.objs.size,[c.heap.objs.size],_,_,f,rfl,d.kept (t':=c.toks) λb o e=>PX _ e,OP a _,⟨_,Qb _ rfl,rfl,rfl⟩,λb g=>?_,q hz⟩;have e:b=c.heap.objs.size:=⇑g;subst e;exact d.nh (P0 _) (d.aM.fresh (P0 _))
 .subst e;cases k;obtain⟨its,t,p,hz⟩:=d.tuple i;refine Up (show c.heap.IsTuple a its.toArray from p) ?_;refine⟨c.heap.objs.size,[c.heap.objs.size],_,_,f,rfl,d.kept (t':=c.toks) λb o e=>PX _ e,OR a _,⟨_,Qb _ rfl,rfl,rfl⟩,λb g=>?_,q hz⟩;have e:b=c.heap.objs.size:=⇑g;subst e;exact d.nh (P0 _) (d.aM.fresh (P0 _))
def yS{K:W.Frag}(f:∀b c,P b c->aF G b/\cz K c a xs)(r:ax K G ds xs):iS K P (rm K a) ds where
 go:=λi b c h hi=>by
  obtain⟨_,q⟩:=f b c h;have m:i<xs.length:=(by rw[<- r.length];exact hi);exact⟨xs,xs[i],q,P4 m⟩
 hV:=λi b c x o d h l k n=>by
  obtain⟨e,y⟩:=n;obtain⟨g,q⟩:=f b c h;subst e;obtain⟨v,j,h2⟩:=r.get k;have:=y xs q;rw[j]at this;cases this;exact⟨b,Ext.refl l,h2.mono g⟩
 stop:=λb c h=>⟨xs,(f b c h).2,by rw[r.length];exact P0 _⟩
def yT{K:W.Frag}(f:∀b c,P b c->aF G b/\cW K c a xs)(r:ax K G ds xs):iS K P (rn K a) ds where
 go:=λi b c h hi=>by
  obtain⟨_,q⟩:=f b c h;have m:i<xs.length:=(by rw[<- r.length];exact hi);exact⟨xs,xs[i],q,P4 m⟩
 hV:=λi b c x o d h l k n=>by
  obtain⟨e,y⟩:=n;obtain⟨g,q⟩:=f b c h;subst e;obtain⟨v,j,h2⟩:=r.get k;have:=y xs q;rw[j]at this;cases this;exact⟨b,Ext.refl l,h2.mono g⟩
 stop:=λb c h=>⟨xs,(f b c h).2,by rw[r.length];exact P0 _⟩
def p0{K:W.Frag}(r:ax K G ds xs)(h:xs.length<=V5):ds.length<=16777216:=by rw[r.length,<- V7];exact h
def Bd(j:m=.view\/m=.val)(w:ai X l (av xp X y m f)):fK X B l (ha xp X y m λt=>f t>>=λd=>ζ.md d):=by
 rintro z s A H R I ⟨G,t,x,hw⟩;refine KC w z s A H R I ?_;refine⟨G,t,x,aS (aC.mp hw) (λd k v c i h g=>?_) λ_ q=>q⟩;cases d with
 |lst ds =>
  rcases j with rfl|rfl
  .obtain⟨a,xs,rfl,b,r⟩:=hh (X:=X) g;exact⟨a,xs,rfl,.inl ⟨b,λhz=>k _ c i h (yS (G:=c) (λn o ⟨e,h2⟩=>⟨e,hM h2 b⟩) r) (p0 r hz)⟩⟩
  .obtain⟨a,xs,rfl,b,r⟩:=g;exact⟨a,xs,rfl,.inl ⟨hM h.sub b,λhz=>k _ c i h (yS (G:=c) (λn o ⟨e,h2⟩=>⟨e,hM h2 (hM e b)⟩) r) (p0 r hz)⟩⟩
 |tup ds =>
  have g:Rep X.K c (.tup ds) v:=(by rcases j with rfl|rfl<;>exact g);obtain⟨a,xs,rfl,b,r⟩:=g;refine⟨a,xs,rfl,.inr ⟨fW h.sub b,λhz=>k _ c i h (yT (G:=c) (λn o p=>?_) r) (p0 r hz)⟩⟩;obtain⟨e,h2⟩:=p;rcases j with rfl|rfl
  .exact⟨e,BO h2 (fW h.sub b)⟩
  .exact⟨e,BO h2 (fW e b)⟩
 |kt ds =>
  have g:Rep X.K c (.kt ds) v:=(by rcases j with rfl|rfl<;>exact g);obtain⟨a,xs,rfl,b,r⟩:=g;have b:∀u,cW X.K u a xs:=λu=>BN b
  refine⟨a,xs,rfl,.inr ⟨b _,λhz=>k _ c i h (yT (G:=c) (λn o p=>?_) r) (p0 r hz)⟩⟩;obtain⟨e,h2⟩:=p;exact⟨e,b _⟩
 |_=>exact k.elim
def Me(c:m=.view\/m=.val)(b:ai X l (av xp X g m f)):fK X j l (ha xp X g m λa=>f a>>=λd=>ζ.cL d):=by
 rintro h s i H R I ⟨G,a,e,hw⟩;refine Bd c b h s i H R I ⟨G,a,e,aC.mpr (aS (aC.mp hw) (λd k=>?_) λ_ q=>q)⟩;cases d<;>first|exact k|exact k.elim
def HB{K:W.Frag}{lo hi:Int}:iS K P (my lo (hi-lo).toNat) (ζ.dk lo hi) where
 go:=λi b c _ f=>by
  show i<(hi-lo).toNat;unfold ζ.dk at f;simpa using f
 hV:=λi b c x l d _ h a j=>by
  obtain⟨e,y⟩:=j;subst e;unfold ζ.dk at a;rw[Qh]at a;cases q:(VN (hi-lo).toNat)[i]? with
  |none=>rw[q]at a;cases a
  |some k =>
   rw[q]at a;have g:k=i:=by
    have:=Qp.mp q;obtain⟨_,e⟩:=this;rw[<- e];simp
   subst g;cases a;exact⟨b,Ext.refl h,y⟩
 stop:=λb c _=>by
  show(hi-lo).toNat<=_;unfold ζ.dk;simp
def AX{Q:List D->Prop}(h:a7 (ζ.iD i j) Q E):(-(2 ^ 62)<=i/\i<2 ^ 62/\-(2 ^ 62)<=j/\j<2 ^ 62)/\(ζ.dk i j).length<=16777216/\Q (ζ.dk i j):=by
 unfold ζ.iD at h;cases q:(ζ.kG i&&ζ.kG j&&decide ((j-i).toNat<=1000000)) with
 |false=>rw[q]at h;exact h.elim
 |true =>
  rw[q]at h;simp only[PW,ζ.kG,Qn]at q;obtain⟨⟨⟨a1,a2⟩,a3,a4⟩,a5⟩:=q;refine⟨⟨⋯,⋯,⋯,⋯⟩,?_,h⟩;unfold ζ.dk;rw[VH,Wy];lia
def Ms{x:V1}(o:x="range")(j:cN X x)(l:X.ao x=Y)(h:ai X a (av xp X r .view g))(c:V4 [a] X.env=[(VF,Wx a X.env)]):
  fK X z (.Call (.Name x p) [a] [] pos) (ha xp X r m λb=>g b>>=λd=>ζ.en d>>=λi=>ζ.iD 0 i):=by
 subst o;rintro t s y H R I ⟨G,b,n,hw⟩;refine KA j l (jw h c) c t s y H R I ?_;refine⟨G,b,n,aS (aC.mp hw) (λd k v e f w u=>?_) λ_ q=>q⟩;have k:=aC.mp k;cases d with
 |int i =>
  obtain⟨⟨_,_,b1,b2⟩,hz,q⟩:=AX k;refine⟨i,by rw[a8.ql u],b1,b2,?_⟩;have:=q (my 0 (i-0).toNat) e f w HB hz;rw[Int.sub_zero]at this;exact this
 |_=>exact k.elim
end
section
variable{xp:cf}{X:aq}{aa:List Nat}{m:dC}{f aW bU:ay->aV D}{l a b eI:V3}{pos p:Xo}{pins:List (VU×WS)}{σ:aR}{G H:ah}{s:VL}
theorem sD{K:W.Frag}:∀{ds:List D}{bs:List Bool}{xs:List V},ζ.fM ds=Z bs->ax K G ds xs->xs=bs.map V.ag
 |[],bs,xs,h,r=>by cases h;exact r
 |d::ds,bs,xs,h,⟨v,t,e,c,g⟩=>by
  subst e;cases d with
  |ag b =>
   simp only[ζ.fM]at h;cases q:ζ.fM ds with
   |none=>rw[q]at h;cases h
   |some cs =>
    rw[q]at h;simp only[WB,Q9]at h;subst h;have c:v=.ag b:=c;rw[c,sD q g];rfl
  |_=>simp only[ζ.fM]at h;cases h
theorem q5:∀{bs:List Bool}{c:List VI},Vals (bs.map V.ag) c->c=bs.map WK
 |[],_,r=>by cases r;rfl
 |b::bs,_,r=>by
  cases r with
  |cons d e=>rw[q5 e,(show _=WK b from d)];rfl
def wZ(M:X.calm=J)(I:Inv X pins σ H s){a:VU}{bs:List Bool}(h:cz X.K H a (bs.map V.ag)\/cW X.K H a (bs.map V.ag)){Q:VI->VL->Prop}{r:List Nat->(Nat->Bool)->Bool}(z:∀h' tk,Inv X pins σ H { s with heap:=h',toks:=tk }->Q (.bool (r (VN bs.length) λi=>bs.getD i VF)) { s with heap:=h',toks:=tk }):
  VO (VW X.prog X.w) X.A.in1 (X7 (.ref a)) (λN x=>∃I L C n P St A,N=.ref I/\Walks X.prog X.w X.A.in1 I L C n P St/\St 0 x.heap/\TruthOf X.prog X.w X.A.in1 P A /\
   ∀h' tk,(∀b o,b∉C->x.heap.get? b=Z o->h'.get? b=Z o)->Q (.bool (r (VN n) A)) { x with heap:=h',toks:=tk }) X.a6 s:=by
 have y:X.A.in1.handled=none:=I.ok.hd M;have B:∀its:List VI,its=bs.map WK->TruthOf X.prog X.w X.A.in1 (λi v=>its.toArray[i]?=Z v) λi=>bs.getD i false:=by
  intro its e i v s Q E d j;subst e;have d:(bs.map WK)[i]?=Z v:=⇑d;rw[Qh]at d;cases q:bs[i]? with
  |none=>rw[q]at d;cases d
  |some b =>
   rw[q]at d;cases d;refine Rq ?_;have:bs.getD i VF=b:=(by simp[Wt,q]);have j:Q (bs.getD i VF) s:=j;rw[this]at j;exact j
 rcases h with h|h
 .obtain⟨its,w,g,hz⟩:=I.list h;have e:=q5 w;have t:its.toArray.size=bs.length:=(by rw[P6,e,VH]);refine Tx g.isList ?_;have u:a≠s.heap.objs.size:=(by obtain⟨o,n,c,_⟩:=g;exact Ql (P7 c));refine⟨s.heap.objs.size,_,_,_,_,_,λi=>bs.getD i VF,rfl,Walks.list y _ a u its.toArray,⟨⟨_,Qb _ rfl,rfl,rfl⟩,(let ⟨o,c,r⟩:=g.isList;⟨o,PX _ c,r⟩)⟩,B its e,λh' tk k=>?_⟩;rw[t];refine z h' tk (I.kept λb o e=>k b o (by simp;exact Ql (P7 e)) (PX _ e))
 .obtain⟨its,w,g,hz⟩:=I.tuple h;have e:=q5 w;have t:its.toArray.size=bs.length:=(by rw[P6,e,VH]);refine Up (show s.heap.IsTuple a its.toArray from g) ?_;have u:a≠s.heap.objs.size:=(by obtain⟨o,c,_⟩:=g;exact Ql (P7 c));refine⟨s.heap.objs.size,_,_,_,_,_,λi=>bs.getD i VF,rfl,Walks.tuple y _ a u its.toArray,⟨⟨_,Qb _ rfl,rfl,rfl⟩,(let ⟨o,c,r⟩:=g;⟨o,PX _ c,r⟩)⟩,B its e,λh' tk k=>?_⟩;rw[t];refine z h' tk (I.kept λb o e=>k b o (by simp;exact Ql (P7 e)) (PX _ e))
def range_getD(bs):(VN bs.length).map (λi=>bs.getD i VF)=bs:=by
 apply RU;intro i;rw[Qh]
 by_cases h:i<bs.length
 .rw[Rx h];simp[Wt,h]
 .rw[Qu ⇑h,Qu ⇑h];rfl
def all_range(bs:List Bool):(VN bs.length).all (λi=>bs.getD i VF)=bs.all id:=by
 conv=>rhs;rw[<- range_getD bs]
 rw[WY];rfl
def any_range(bs:List Bool):(VN bs.length).any (λi=>bs.getD i VF)=bs.any id:=by
 conv=>rhs;rw[<- range_getD bs]
 rw[Zn];rfl
def qG(e:aF G H)(c:View X.K G H d x){Q:List D->Prop}(h:a7 (ζ.cL d) Q E):∃ds a xs,x=.ref a/\(cz X.K H a xs\/cW X.K H a xs)/\ax X.K G ds xs/\Q ds:=by
 cases d with
 |tup ds =>
  obtain⟨a,ys,rfl,k,q⟩:=iJ e c;exact⟨ds,a,ys,rfl,.inr k,q,h⟩
 |lst ds =>
  obtain⟨a,ys,rfl,k,q⟩:=hh c;exact⟨ds,a,ys,rfl,.inl k,q,h⟩
 |_=>exact h.elim
def CM{ds:List D}{Q:Bool->Prop}{E:Nat->Prop}{r:List Bool->Bool}(h:a7 (match ζ.fM ds with|some bs=>ζ.R.ok (r bs)|none=>.bad) Q E):∃bs,ζ.fM ds=Z bs/\Q (r bs):=by
 cases q:ζ.fM ds with
 |none=>rw[q]at h;exact h.elim
 |some bs=>rw[q]at h;exact⟨bs,rfl,h⟩
def Gp(j:X.calm=J):ei X (.builtin "all") (hI X.K m λd=>ζ.cL d>>=λxs=>ζ.iW xs>>=λb=>.ok (.ag b)):=by
 rintro pins s σ H xs o Q I r ⟨G,x,d,i,g,n,hw⟩;subst i;obtain⟨u,rfl,k⟩:=vals1 r;obtain⟨ds,a,ys,rfl,c,rs,hw⟩:=qG g n (aC.mp hw);obtain⟨bs,e,hw⟩:=CM (r:=λbs=>bs.all id) (aC.mp hw);rw[sD e rs]at c;cases k;refine call_all_walk (wZ j I c (r:=λl t=>l.all t) λh' tk h=>?_);rw[all_range];exact⟨.ag _,H,h,rfl,hw _ G H (Ext.refl g) a8.ag⟩
def Gq(j:X.calm=J):ei X (.builtin "any") (hI X.K m λd=>ζ.cL d>>=λxs=>ζ.iX xs>>=λb=>.ok (.ag b)):=by
 rintro pins s σ H xs o Q I r ⟨G,x,d,i,g,n,hw⟩;subst i;obtain⟨u,rfl,k⟩:=vals1 r;obtain⟨ds,a,ys,rfl,c,rs,hw⟩:=qG g n (aC.mp hw);obtain⟨bs,e,hw⟩:=CM (r:=λbs=>bs.any id) (aC.mp hw);rw[sD e rs]at c;cases k;refine call_any_walk (wZ j I c (r:=λl t=>l.any t) λh' tk h=>?_);rw[any_range];exact⟨.ag _,H,h,rfl,hw _ G H (Ext.refl g) a8.ag⟩
end
section
def GR{lo hi:Option Int}(b:IsTup s.heap t a)(c:s.heap.IsSliceOf d l m .none)(j:Ya l lo)(k:Ya m hi)(hw:bu.aQ a.size 0 lo=0/\bu.aQ a.size a.size hi=a.size)(h:Q (.ref t) s):VO (VW prog w) A (XA (.ref t) (.ref d)) Q E s:=by
 obtain⟨os,g,f,n⟩:=id c;have e:s.TypeIs (.ref d) "slice":=⟨os,g,f⟩;unfold XA
 try with_reducible refine RJ ?_
 first|refine PV (VG ?_)|skip
 refine PV (wpAny_sequenceKey b.typeIs ∅ ?_);refine PV (Rt (name:=Xc "__getitem__") b.typeIs Q4
  (Rn Q4 b.typeIs YV ?_ (args_tuple_getitem _ _)))
 show VO _ _ (XD (.ref t)>>=_) _ _ s;refine PV (PyProof.Rows.tupleItemsOf_ b ?_);refine PV (Sx e ?_);rw[if_pos ∅];refine PV (bu.BC c j k ?_);have i:(((bu.aQ a.size 0 lo:Nat):Int)==0&&(1:Int)==1&&(bu.aQ a.size a.size hi-bu.aQ a.size 0 lo)==a.size)=true:=by
  rw[hw.1,hw.2];simp
 show VO _ _ (if (((bu.aQ a.size 0 lo:Nat):Int)==0&&(1:Int)==1&&(bu.aQ a.size a.size hi-bu.aQ a.size 0 lo)==a.size)=J then _ else _) _ _ s;rw[if_pos i];unfold Builtin.Tuple.tupleIsExact;refine PV (PV (Sx b.typeIs (VG ?_)));rw[if_pos ∅];refine PV (SF (VG ⟨_,rfl,VG h⟩))
end
section
variable{xp:cf}{X:aq}{aa:List Nat}{m:dC}{f aW bU:ay->aV D}{yg yd:ay->aV (Option Int)}{a b eI:V3}{lo hi:Option V3}{pos p p2:Xo}{pins:List (VU×WS)}{σ:aR}{G H:ah}{s:VL}
def qB(n d)(o):ζ.aQ n d o=bu.aQ n d o:=by
 cases o with
 |none=>rfl
 |some i =>
  simp only[ζ.aQ,bu.aQ]
  by_cases h:i<0
  .rw[if_pos h,if_pos h];split<;>lia
  .rw[if_neg h,if_neg h];split<;>lia
def xo{K:W.Frag}(r:ax K G ds xs)(lo hi):ax K G (ζ.cut ds lo hi) (h8 xs lo hi):=by
 unfold ζ.cut h8;rw[qB,qB,r.length];exact(r.drop _).take _
abbrev mi(xp:cf)(X:aq)(aa:List Nat)(f:ay->aV (Option Int)):h6:=λσ H Q =>
 ∃G e,cH X.K aa G H e σ/\a7 (f e) (λo=>∀g d,Ext G H g d->Q o d) (λc=>dy xp X c H)
def Mi:hn X Y (mi xp X aa λ_=>.ok Y):=by
 rintro pins s σ H Q I ⟨G,d,c,hw⟩;exact KL pins s σ H Q I (hw G H (Ext.refl c.sub))
def Ml(h:ai X a (av xp X aa .view aW)):hn X (Z a) (mi xp X aa λc=>aW c>>=λx=>ζ.en x>>=λi=>.ok (Z i)):=by
 rintro pins s σ H Q I ⟨G,c,j,hw⟩;refine KN h pins s σ H Q I ?_;refine⟨G,c,j,aS (aC.mp hw) (λd k v e g n l=>?_) λ_ q=>q⟩;cases d with
 |int i=>exact⟨i,a8.ql l,k e g n⟩
 |_=>exact k.elim
def Lm(K:W.Frag):V->Option Int->Option Int->ah->cc->Prop:=λx lo hi H Q =>
 ∃G d,aF G H/\View K G H d x/\a7 (ζ.hL d lo hi) (λd'=>∀v e c,Ext G H e c->a8 K H e c .fresh d' v->Q v c) (λ_=>False)
def MX:mE X (λx lo hi H Q=>∃a xs,x=.ref a/\cW X.K H a xs/\(bu.aQ xs.length 0 lo=0/\bu.aQ xs.length xs.length hi=xs.length)/\Q (.ref a) H):=by
 intro pins s σ H x v n o lo hi l Q I k e i j h;obtain⟨a,xs,rfl,g,hw,q⟩:=h;cases k;obtain⟨its,r,c,hz⟩:=I.tuple g;have d:its.toArray.size=xs.length:=by rw[P6];exact r.length.symm
 refine⟨"tuple",_,Q4.lookup,c.typeIs,?_⟩;exact GR c e i j (by rw[d];exact hw) ⟨.ref a,H,I,rfl,q⟩
def EX{ds:List D}{lo hi:Option Int}(h:bu.aQ ds.length 0 lo=0/\bu.aQ ds.length ds.length hi=ds.length):ζ.cut ds lo hi=ds:=by
 unfold ζ.cut;rw[qB,qB,h.1,h.2];simp
def MW:mE X (Lm X.K):=by
 rintro pins s σ H x v o q lo hi n Q I l h i j ⟨G,d,e,t,hw⟩;cases d with
 |tup ds =>
  obtain⟨a,xs,rfl,k,r⟩:=iJ e t
  by_cases g:bu.aQ xs.length 0 lo=0/\bu.aQ xs.length xs.length hi=xs.length
  .refine MX pins s σ H _ v o q lo hi n Q I l h i j ⟨a,xs,rfl,k,g,?_⟩;rw[ζ.qK,EX (by rw[r.length];exact g)]at hw;exact hw _ G H (Ext.refl e) t
  .refine M0 pins s σ H _ v o q lo hi n Q I l h i j ⟨a,xs,rfl,k,g,λp c=>?_⟩;rw[ζ.qK]at hw;exact hw _ (upd G p (.tup (h8 xs lo hi))) _ (Ext.put e c) ⟨p,_,rfl,b7,(xo r lo hi).mono (d0 (e.free c))⟩
 |lst ds =>
  obtain⟨a,xs,rfl,k,r⟩:=hh t;refine MY pins s σ H _ v o q lo hi n Q I l h i j ⟨a,xs,rfl,k,λp c=>?_⟩;rw[ζ.BE]at hw;exact hw _ G _ (Ext.own e c λ_ z=>nomatch z) ⟨p,_,rfl,b7,c,e.free c,xo r lo hi⟩
 |_=>exact hw.elim
def MZ{d:D}{lo hi:Option Int}:ζ.hL d lo hi≠.exc c:=by cases d<;>simp[ζ.hL]
def Mu(z:ai X a (av xp X aa .view aW))(B:hn X lo (mi xp X aa yg))(A:hn X hi (mi xp X aa yd)):
  ai X (.Subscript a (.Slice lo hi Y p2) pos) (av xp X aa .fresh λe=>aW e>>=λx=>yg e>>=λl=>yd e>>=λh=>ζ.hL x l h):=by
 rintro pins s σ H Q I ⟨G,e,n,hw⟩;refine Kp MW z B A pins s σ H Q I ?_;refine⟨G,e,n,aS (aC.mp hw) (λy C v o O g E=>?_) λ_ q=>q⟩;refine⟨o,e,n.ext g,aS (aC.mp C) (λl k r R i=>?_) λ_ q=>q.mono g.h⟩;refine⟨r,e,(n.ext g).ext i,aS (aC.mp k) (λh k2 t S j=>?_) λ_ q=>(q.mono g.h).mono i.h⟩;refine⟨t,y,j.sub,View.ext j (View.ext i E),?_⟩;exact aS (jN k2 (λc=>MZ)) (λd q M u w N L=>q M u w (((g.trans i).trans j).trans N) (((L.old j.h).old i.h).old g.h)) λ_ q=>q
end
section
def wj(prog:Wd)(w:Wo)(A:Wg)(a:List VI)(d:VL)(Q:VI->VL->Prop):Prop :=
 ∃(κ:Xa)(lt:Nat->Nat->Bool),Tm.Ord lt/\(∀i j,i<a.length->j<a.length->a.getD i Value.none=a.getD j Value.none->∀k,lt i k=lt j k/\lt k i=lt k j)/\a.length<1000 /\
   (2<=a.length->∀(h':We),(∀b o,d.heap.get? b=Z o->h'.get? b=Z o)->∀e:Xa->VL->Prop,e κ { d with heap:=h' }->VO (VW prog w) A (Zz a.toArray) e (λ_ _=>False) { d with heap:=h' }) /\
   (2<=a.length->∀(h':We),(∀b o,d.heap.get? b=Z o->h'.get? b=Z o)->∀(i j:Nat)(C:Bool->VL->Prop),i<a.length->j<a.length->C (lt i j) { d with heap:=h' }->PySem.W.kas_ask prog w A κ a i j C { d with heap:=h' }) /\
   ∀p:List Nat,p.Perm (VN a.length)->p.Pairwise (λi j=>lt j i=VF)->∀(h':We)(c:Nat),(∀b o,d.heap.get? b=Z o->h'.get? b=Z o)->h'.get? d.heap.objs.size=Z (WM "list" (p.map λi=>a.getD i Value.none).toArray c)->Q (.ref d.heap.objs.size) { d with heap:=h' }
def vm(j:VO (VW prog w) A.in1 (YU y) (λd a=>wj prog w A.in1.in1 d a Q) (λ_ _=>False) s):VO (VW prog w) A (call (.builtin "sorted") [y]) Q E s:=by
 refine Calls.call_function_entry kind_sorted plain_sorted entry_sorted (args_sorted1 _) ?_;unfold WN.«sorted»;refine PV (m:=checkCount "sorted" 1 1 _) (VG ?_);refine PV (Q2 j (λd a x=>?_) λ_ _ z=>z.elim);obtain⟨κ,lt,i,v,h,r,l,u⟩:=x;refine PV (Vv ?_ (by rw[V7];lia));have f:(a.heap.push (WM "list" d.toArray 0)).get? a.heap.objs.size=Z (WM "list" d.toArray 0):=Qb _ rfl;have e:∀{h':We},(∀b o,b≠a.heap.objs.size->(a.heap.push (WM "list" d.toArray 0)).get? b=Z o->h'.get? b=Z o)->∀b o,a.heap.get? b=Z o->h'.get? b=Z o:=λt b o q =>
  t b o (Ql (P7 q)) (PX _ q)
 show VO _ _ _ _ _ { a with heap:=a.heap.push (WM "list" d.toArray 0) };refine PV (RJ (Rn slot_list_sort ⟨_,f,rfl⟩ entry_list_sort ?body (args_list_sort _)))
 case body =>
  refine Tm.ID (s:={ a with heap:=a.heap.push (WM "list" d.toArray 0) }) (κ:=κ) (lt:=lt) i v f h (λh2 h' k g q=>?_) (λh2 h' k=>l h2 h' (e k)) λp p1 p2 h' c k n=>?_
  .exact Q2 (r h2 h' (e k) g q) (λ_ _ z=>z) λ_ _ z=>z.elim
  .exact⟨_,rfl,VG ⟨_,rfl,u p p1 p2 h' c (e k) n⟩⟩
end
noncomputable abbrev g9(c:List Int):D:=aH.af c
def ints_of{ds:List D}(h:ds.all (ζ.dP 0)=J):∃ns:List Int,ds=ns.map ζ.D.int:=qa h
theorem q0:∀{ds:List D},ds.all ζ.ig=J->∃a:List (List Int),ds=a.map g9/\∀k∈a,k≠[]
 |[],_=>⟨[],rfl,by simp⟩
 |d::ds,h=>by
  simp only[WE,PW]at h;obtain⟨a,rfl,f⟩:=q0 h.2;cases d with
  |tup xs =>
   cases xs with
   |nil=>cases h.1
   |cons x xs =>
    have b:(ζ.dP 0 x&&xs.all (ζ.dP 0))=true:=h.1;have b:(x::xs).all (ζ.dP 0)=true:=b;obtain⟨ns,e⟩:=qa b;refine⟨ns::a,by rw[e];rfl,λk c=>?_⟩;rcases P1.mp c with rfl|c
    .rintro rfl;cases e
    .exact f k c
  |_=>cases h.1
section
theorem vI{y:aR}(I:Inv X A y H s)(d:aF G H):∀{b:List (List Int)}{xs:List V}{g:List VI},(∀k∈b,k≠[])->ax X.K G (b.map g9) xs->Vals xs g->dw.ea s.heap g b
 |[],_,_,_,r,v=>by cases r;cases v;exact trivial
 |k::b,_,_,c,⟨x,t,e,m,p⟩,v=>by
  subst e;cases v with
  |cons u w =>
   obtain⟨a,ys,rfl,h,q⟩:=m;cases u;obtain⟨its,f,⟨o,l,i,n,j⟩,_⟩:=I.tuple (fW d h);rw[hJ q]at f;exact⟨⟨a,o,its.toArray,n,rfl,l,i,j,by simpa using intsAre_of f,c k VE⟩,vI I d (λz hz=>c z (VJ _ hz)) p w⟩
theorem w7:∀{ds:List D},ds.all ζ.kn=J->∃cs:List (List (List Int)),ds=cs.map aH.mQ/\(∀c∈cs,c≠[])/\∀c∈cs,∀k∈c,k≠[]
 |[],_=>⟨[],rfl,by simp,by simp⟩
 |d::ds,h=>by
  simp only[WE,PW]at h;obtain⟨cs,rfl,b,h2⟩:=w7 h.2;cases d with
  |tup xs =>
   cases xs with
   |nil=>cases h.1
   |cons x xs =>
    have h3:(x::xs).all ζ.ig=true:=h.1;obtain⟨c,e,h4⟩:=q0 h3;refine⟨c::cs,by rw[e];rfl,λk a=>?_,λk a=>?_⟩
    .rcases P1.mp a with rfl|a
     .rintro rfl;cases e
     .exact b k a
    .rcases P1.mp a with rfl|a
     .exact h4
     .exact h2 k a
  |_=>cases h.1
theorem Cj{A:aR}(I:Inv X B A H s)(b:aF G H):∀{cs:List (List (List Int))}{xs:List V}{g:List VI},(∀c∈cs,c≠[])->(∀c∈cs,∀k∈c,k≠[])->ax X.K G (cs.map aH.mQ) xs->Vals xs g->dw.f7 s.heap g cs
 |[],_,_,_,_,r,v=>by cases r;cases v;exact trivial
 |c::cs,_,_,f,d,⟨x,t,e,m,p⟩,v=>by
  subst e;cases v with
  |cons w y =>
   obtain⟨a,ys,rfl,h,q⟩:=m;cases w;obtain⟨its,u,⟨o,l,i,n,j⟩,_⟩:=I.tuple (fW b h);exact⟨⟨a,o,its.toArray,n,rfl,l,i,j,by simpa using vI I b (d c VE) q u,f c VE⟩,Cj I b (λz hz=>f z (VJ _ hz)) (λz hz=>d z (VJ _ hz)) p y⟩
theorem AS{K:W.Frag}(r:ax K G ds xs)(v:Vals xs a):∀{p:List Nat},(∀i∈p,i<ds.length) ->
  ∃ys,ax K G (p.map λi=>ds.getD i .b0) ys/\Vals ys (p.map λi=>a.getD i Value.none)
 |[],_=>⟨[],rfl,.nil⟩
 |i::p,h=>by
  obtain⟨ys,b,h2⟩:=AS r v (p:=p) λj c=>h j (VJ _ c)
  have hi:=h i VE;have e:ds[i]?=Z (ds.getD i .b0):=(by rw[P4 hi];simp[Wt,P4 hi]);obtain⟨y,k1,k2⟩:=r.get e;obtain⟨u,k3,d⟩:=v.get k1;have e2:a.getD i Value.none=u:=(by simp[Wt,k3]);exact⟨y::ys,⟨y,ys,rfl,k2,b⟩,by rw[VP,e2];exact .cons d h2⟩
def va{K:W.Frag}{κ:Type}{f:κ->D}{lt:κ->κ->Bool}(L:aH.eM lt)(h:∀a b,ζ.hC (f a) (f b)=Z (lt a b))(z){c:List κ}(r:ax K G (c.map f) xs)(v:Vals xs g){p:List Nat}(d:p.Perm (VN g.length))(h2:p.Pairwise (λi j=>dw.ltI lt z c j i=VF)):
  ∃ys,ax K G (ζ.fH (c.map f)) ys/\Vals ys (p.map λi=>g.getD i Value.none):=by
 have k:g.length=c.length:=by rw[<- v.length,<- r.length,VH]
 rw[k]at d;rw[aH.mg h,<- dw.M8 L z c d h2,VR];obtain⟨ys,k1,k2⟩:=AS r v (p:=p) λi hi=>by
  have:=d.mem_iff.mp hi;rw[VH];simpa using this
 refine⟨ys,?_,k2⟩;have e:(p.map λi=>(c.map f).getD i .b0)=p.map (f ∘ λi=>c.getD i z):=by
  apply Qq;intro i hi;have hi:i<c.length:=(by simpa using d.mem_iff.mp hi);simp[Wt,Qh,P4 hi]
 rw[<- e];exact k1
def vl{E:aR}(a1:X.A.handled=Y)(a2:X.A.units+64<WJ)(I:Inv X N E H s)(u:aF G H)(r:ax X.K G ds xs)(v:Vals xs l)(y:(ζ.jq ds||ds.all ζ.kn)=J)(a0:ds.length<=255)(k:∀v L w,Ext G H L w->a8 X.K H L w .fresh (.lst (ζ.fH ds)) v->Q v w):wj X.prog X.w X.A.in1.in1 l s (cU X N E Q):=by
 have R:l.length=ds.length:=by rw[<- v.length,<- r.length]
 have fin:∀{t:List VI}{ys:List V}(h':We)(c:Nat),ax X.K G (ζ.fH ds) ys->Vals ys t->t.length=l.length->(∀b o,s.heap.get? b=Z o->h'.get? b=Z o)->h'.get? s.heap.objs.size=Z (WM "list" t.toArray c)->cU X N E Q (.ref s.heap.objs.size) { s with heap:=h' }:=λ{t ys} h' c U O T g e=>by
  refine⟨.ref s.heap.objs.size,_,I.laid (t':=s.toks) (o:=.lst ys) g (P0 _) ⟨by rw[O.length,T,R,V7];lia,t,c,O,e⟩,rfl,?_⟩;exact k _ G _ (Ext.own u I.fresh λ_ z=>nomatch z) ⟨_,ys,rfl,b7,I.fresh,u.free I.fresh,U⟩
 have B:∀{p:List Nat},p.Perm (VN l.length)->(p.map λi=>l.getD i Value.none).length=l.length:=λh=>by rw[VH,h.length_eq,Wy]
 unfold ζ.jq at y;rw[RC,RC]at y;rcases y with(h|h)|h
 .obtain⟨ns,rfl⟩:=ints_of h;have x:Wk l ns:=(by rw[hJ r]at v;exact intsAre_of v);refine⟨oneType',dw.ltI aH.ltI 0 ns,dw.uT aH.ip 0 ns,dw.uO (dw.HS x),⋯,λh2 h' _ M q=>dw.HZ x h2 q,λh2 h' _ i j C hi m q=>dw.DF x i j C hi m q,λp p1 p2 h' c g e=>?_⟩;obtain⟨ys,k1,k2⟩:=va aH.ip (f:=ζ.D.int) (λ_ _=>rfl) 0 r v p1 p2;exact fin h' c k1 k2 (B p1) g e
 .obtain⟨n,rfl,A⟩:=q0 h;have d:=vI I u A r v;refine⟨ZA J,dw.ltI aH.lexLt [] n,dw.uT aH.il [] n,dw.uO (dw.HX d),⋯,λh2 h' k M q=>dw.H0 (s:={ s with heap:=h' }) (d.kept k) h2 q,λh2 h' k i j C hi m q=>dw.DG (s:={ s with heap:=h' }) (d.kept k) i j C hi m q,λp p1 p2 h' c g e=>?_⟩;obtain⟨ys,k1,k2⟩:=va aH.il (f:=g9) (λa b=>aH.nD a b) [] r v p1 p2;exact fin h' c k1 k2 (B p1) g e
 .obtain⟨n,rfl,A,S⟩:=w7 h;have d:=Cj I u A S r v;refine⟨ZA VF,dw.ltI aH.dZ [] n,dw.uT aH.zj [] n,dw.uO (dw.HY d),⋯,λh2 h' k M q=>dw.H2 (s:={ s with heap:=h' }) (d.kept k) h2 q,λh2 h' k i j C hi m q=>dw.DH (s:={ s with heap:=h' }) (by show X.A.units+1+1+2<WJ;lia) (d.kept k) i j C hi m q,λp p1 p2 h' c g e=>?_⟩;obtain⟨ys,k1,k2⟩:=va aH.zj (f:=aH.mQ) (λa b=>aH.IK a b) [] r v p1 p2;exact fin h' c k1 k2 (B p1) g e
end
section
def Ph{ds:List D}{Q:D->Prop}(h:a7 (ζ.sorted ds) Q E):(ζ.jq ds||ds.all ζ.kn)=J/\ds.length<=255/\Q (.lst (ζ.fH ds)):=by
 unfold ζ.sorted at h;cases q:((ζ.jq ds||ds.all ζ.kn)&&decide (ds.length<=255)) with
 |false=>rw[q]at h;exact h.elim
 |true =>
  rw[q]at h;rw[PW,Qn]at q;exact⟨q.1,q.2,h⟩
def Gs(t:X.calm=J)(l:X.A.units+64<WJ):ei X (.builtin "sorted") (hI X.K .fresh λd=>ζ.cL d>>=λxs=>ζ.sorted xs):=by
 rintro m s n H xs y Q I r ⟨G,x,d,p,g,w,hw⟩;subst p;obtain⟨u,rfl,v⟩:=vals1 r;obtain⟨ds,a,ys,rfl,c,rs,hw⟩:=qG g w (aC.mp hw);obtain⟨k,i,hw⟩:=Ph hw;have j:X.A.handled=none:=I.ok.hd t;cases v;rcases c with c|c
 .obtain⟨its,e,h,hz⟩:=I.list c;refine vm (collect_list h.isList ?_ (by rw[<- e.length];exact hz));have f:Inv X m n H { s with heap:=(s.heap.push (WM "list" #[] 0)).update s.heap.objs.size (Wh (·++its.toArray)) }:=I.kept (t':=s.toks) λb o q=>(Qt _ _ (Q8 (Ql (P7 q)))).trans (PX _ q)
  exact vl j l f g rs e k i hw
 .obtain⟨its,e,h,hz⟩:=I.tuple c;refine vm (Pv.EM (show s.heap.IsTuple a its.toArray from h) ?_ (by rw[<- e.length];exact hz));have f:Inv X m n H { s with heap:=(s.heap.push (WM "list" #[] 0)).update s.heap.objs.size (Wh (·++its.toArray)) }:=I.kept (t':=s.toks) λb o q=>(Qt _ _ (Q8 (Ql (P7 q)))).trans (PX _ q)
  exact vl j l f g rs e k i hw
end
structure cb(K:W.Frag)(aa:List Nat)(cR bV G H:ah)(ae:ay)(σ:aR):Prop where
 aY:cH K aa G H ae σ
 ext:Ext cR bV G H
 own:∀(i:Nat)(d:D)(a:VU),ae[i]?=Z (Z d)->eV d=J->i∈aa->σ[i]?=Z (Z (V.ref a))->bV a=Y
def fg(K:W.Frag)(e:List Nat)(a b:ah)(T:Ends):ζ.cB->Prop
 |.aN f=>∀c G H,cb K e a b G H f c->T.aN c H
 |.bl d=>∀v G H,Ext a b G H->Rep K G d v->T.bl v H
def bA(xp:cf)(X:aq)(d:List Nat)(f:ay->aV ζ.cB):ek:=λT g H =>
 ∃b a G e,cb X.K d b a G H e g/\a7 (f e) (fg X.K d b a T) (λc=>dy xp X c a)
def c2{α:Type}{l:List α}{a:α}(h:i≠j):(l.set i a)[j]?=l[j]?:=T3 h
def get_eq{α:Type}{l:List α}{a b:α}(h:(l.set i a)[i]?=Z b):i<l.length/\b=a:=by
 rw[List.getElem?_set_self']at h;cases q:l[i]? with
 |none=>rw[q]at h;cases h
 |some c=>rw[q]at h;exact⟨(Qp.mp q).1,(Qy h).symm⟩
def n5{α:Type}{l:List α}{a:α}(h:i<l.length):(l.set i a)[i]?=Z a:=by simp[h]
section
variable{K:W.Frag}{aa:List Nat}{cR bV G H cu aE:ah}{ae:ay}{σ:aR}{i:Nat}{d:D}{v:V}
def cH.n7(h:cH K aa G H ae σ)(g:i∉aa)(r:Rep K G d v):cH K aa G H (ae.set i (Z d)) (σ.set i (Z v)) where
 len:=by rw[WA,WA];exact h.len
 sub:=h.sub
 val:=λj e q f=>by
  by_cases c:i=j
  .subst c;obtain⟨l,h2⟩:=get_eq q;cases h2;exact⟨v,n5 (by rw[<- h.len];exact l),r⟩
  .rw[c2 c]at q ⊢;exact h.val j e q f
 own:=λj e q f m=>by
  have c:i≠j:=λz=>g (z▸f)
  rw[c2 c]at q ⊢;exact h.own j e q f m
 lst:=λj e q f m=>by
  have c:i≠j:=λz=>g (z▸f)
  rw[c2 c]at q;obtain⟨a,o,l,h2⟩:=h.lst j e q f m;exact⟨a,o,by rw[c2 c];exact l,h2⟩
 bB:=h.bB
 apart:=λj k d e a b p s u w f n x e1 e2=>by
  have c:i≠j:=λz=>g (z▸f)
  have t:i≠k:=λz=>g (z▸n)
  rw[c2 c]at p e1;rw[c2 t]at s e2;exact h.apart j k d e a b p s u w f n x e1 e2
def cH.set_own(h:cH K aa G H ae σ)(x:i∈aa)(p:eV d=VF)(r:Rep K G d v):cH K aa G H (ae.set i (Z d)) (σ.set i (Z v)) where
 len:=by rw[WA,WA];exact h.len
 sub:=h.sub
 val:=λj e q f=>by
  have c:i≠j:=λz=>f (z▸x)
  rw[c2 c]at q ⊢;exact h.val j e q f
 own:=λj e q f l=>by
  by_cases c:i=j
  .subst c;obtain⟨g,h2⟩:=get_eq q;cases h2;exact⟨v,n5 (by rw[<- h.len];exact g),r⟩
  .rw[c2 c]at q ⊢;exact h.own j e q f l
 lst:=λj e q f l=>by
  by_cases c:i=j
  .subst c;obtain⟨g,h2⟩:=get_eq q;cases h2;rw[p]at l;cases l
  .rw[c2 c]at q;obtain⟨a,o,g,h2⟩:=h.lst j e q f l;exact⟨a,o,by rw[c2 c];exact g,h2⟩
 bB:=h.bB
 apart:=λj k d e a b s t m n f w y e1 e2=>by
  have c:i≠j:=λz=>by subst z;obtain⟨g,h2⟩:=get_eq s;cases h2;rw[p]at m;cases m
  have u:i≠k:=λz=>by subst z;obtain⟨g,h2⟩:=get_eq t;cases h2;rw[p]at n;cases n
  rw[c2 c]at s e1;rw[c2 u]at t e2;exact h.apart j k d e a b s t m n f w y e1 e2
def cH.ML(h:cH K aa G H ae σ)(I:i∈aa)(E:eV d=J)(C:H a=Z o)(B:G a=Y)(r:gL K G d o)(x:∀(j:Nat)(e:D),j≠i->j∈aa->eV e=J->ae[j]?=Z (Z e)->σ[j]?≠Z (Z (V.ref a))):cH K aa G H (ae.set i (Z d)) (σ.set i (Z (.ref a))) where
 len:=by rw[WA,WA];exact h.len
 sub:=h.sub
 val:=λj e q g=>by
  have c:i≠j:=λz=>g (z▸I)
  rw[c2 c]at q ⊢;exact h.val j e q g
 own:=λj e q g n=>by
  by_cases c:i=j
  .subst c;obtain⟨l,h2⟩:=get_eq q;cases h2;rw[E]at n;cases n
  .rw[c2 c]at q ⊢;exact h.own j e q g n
 lst:=λj e q g n=>by
  by_cases c:i=j
  .subst c;obtain⟨l,h2⟩:=get_eq q;cases h2;exact⟨a,o,n5 (by rw[<- h.len];exact l),C,B,r⟩
  .rw[c2 c]at q;obtain⟨b,L,l,h2⟩:=h.lst j e q g n;exact⟨b,L,by rw[c2 c];exact l,h2⟩
 bB:=h.bB
 apart:=λj k e f b A p s t u g w y e1 e2=>by
  by_cases c:i=j
  .subst c;have m:i≠k:=y;obtain⟨l,h2⟩:=get_eq e1;cases h2;rw[c2 m]at s e2;intro z;exact x k f (Q8 m) w u s (by rw[z];exact e2)
  .by_cases m:i=k
   .subst m;obtain⟨l,h2⟩:=get_eq e2;cases h2;rw[c2 c]at p e1;intro z;exact x j e (Q8 c) g t p (by rw[<- z];exact e1)
   .rw[c2 c]at p e1;rw[c2 m]at s e2;exact h.apart j k e f b A p s t u g w y e1 e2
def gL.nt:∀{d:D},gL K G d o->∀xs,o≠.tup xs
 |.lst _,⟨_,e,_⟩,_,z=>by rw[e]at z;cases z
 |.aT _,e,_,z=>by rw[show o=_ from e]at z;cases z
 |.aK _,⟨_,e,_⟩,_,z=>by rw[e]at z;cases z
def cb.step(h:cb K aa cR bV G H ae σ)(x:Ext G H cu aE):cb K aa cR bV cu aE ae σ:=⟨h.aY.ext x,h.ext.trans x,h.own⟩
theorem cb.n7(h:cb K aa cR bV G H ae σ)(f:i∉aa)(r:Rep K G d v):cb K aa cR bV G H (ae.set i (Z d)) (σ.set i (Z v)) :=
 ⟨h.aY.n7 f r,h.ext,λj e a q g b z=>by
  have c:i≠j:=λz=>f (z▸b)
  rw[c2 c]at q z;exact h.own j e a q g b z⟩
def cb.n6(h:cb K aa cR bV G H ae σ)(x:Ext G H cu aE)(n:i∈aa)(l:eV d=J)(k:aE a=Z o)(h2:H a=Y)(h3:cu a=Y)(r:gL K cu d o):cb K aa cR bV cu aE (ae.set i (Z d)) (σ.set i (Z (.ref a))):=by
 have h':=h.step x;refine⟨h'.aY.ML n l k h3 r λj e g m f q z=>?_,h'.ext,λj e b q f g z=>?_⟩
 .obtain⟨b,s,k1,k2,k3,p⟩:=h.aY.lst j e q m f;rw[k1]at z;cases z;rw[h2]at k2;cases k2
 .by_cases c:i=j
  .subst c;obtain⟨_,w⟩:=get_eq z;cases w;exact h.ext.h.free h2
  .rw[c2 c]at q z;exact h.own j e b q f g z
def cb.Br(h:cb K aa cR bV G H ae σ)(x:Ext G H cu aE)(k:i∈aa)(r:a8 K H cu aE .fresh d v):cb K aa cR bV cu aE (ae.set i (Z d)) (σ.set i (Z v)):=by
 have l:eV d=VF->Rep K cu d v->cb K aa cR bV cu aE (ae.set i (Z d)) (σ.set i (Z v)):=λg r=>by
  refine⟨(h.step x).aY.set_own k g r,(h.step x).ext,λj e b q f n z=>?_⟩
  by_cases c:i=j
  .subst c;obtain⟨_,w⟩:=get_eq q;cases w;rw[g]at f;cases f
  .rw[c2 c]at q z;exact h.own j e b q f n z
 cases d with
 |lst ds =>
  obtain⟨a,xs,rfl,m,h2,h3,h4⟩:=r;exact h.n6 x k rfl m h2 h3 ⟨xs,rfl,h4⟩
 |aT o=>exact r.elim
 |aK o=>exact r.elim
 |_=>exact l rfl r
def cb.write (h : cb K aa cR bV G H ae σ) (x : i ∈ aa) (q : ae[i]? = Z (Z d)) (t : eV d = J) (N : eV e = J) (z : σ[i]? = Z (Z (V.ref a))) (A : G a = Y) (r : gL K G e s) :
    cb K aa cR bV G (upd H a s) (ae.set i (Z e)) σ := by
  have h0 : bV a = none := h.own i d a q t x z
  have hi : i < ae.length := (Qp.mp q).1
  have a0 : ∀ (j : Nat) (f : D), j ≠ i -> j ∈ aa -> eV f = J -> ae[j]? = Z (Z f) -> σ[j]? ≠ Z (Z (V.ref a)) := fun j f m Q u a5 p => h.aY.apart j i f d a a a5 q u t Q x m p z rfl
  have C : aF G (upd H a s) := fun b o z => by
    have : b ≠ a := fun w => by rw [w, A] at z; cases z
    rw [bo this]; exact h.aY.sub b o z
  have B : cH K aa G (upd H a s) (ae.set i (Z e)) σ := by
    refine ⟨by rw [WA]; exact h.aY.len, C, fun j f l m => ?_, fun j f l m n => ?_, fun j f l m n => ?_, fun b xs w => ?_, fun j k f g b E a1 a3 I L m R U e1 e2 => ?_⟩
    · have c : i ≠ j := fun z => m (z ▸ x)
      rw [c2 c] at l; exact h.aY.val j f l m
    · by_cases c : i = j
      · subst c
        obtain ⟨_, w⟩ := get_eq l
        cases w
        rw [N] at n; cases n
      · rw [c2 c] at l; exact h.aY.own j f l m n
    · by_cases c : i = j
      · subst c
        obtain ⟨_, w⟩ := get_eq l
        cases w
        exact ⟨a, s, z, b7, A, r⟩
      · rw [c2 c] at l
        obtain ⟨b, X, k1, k2, k3, S⟩ := h.aY.lst j f l m n
        have : b ≠ a := fun w => a0 j f (Q8 c) m n l (by rw [k1, w])
        exact ⟨b, X, k1, by rw [bo this]; exact k2, k3, S⟩
    · by_cases c : b = a
      · subst c; rw [b7] at w; cases w; exact absurd rfl (r.nt xs)
      · rw [bo c] at w; exact h.aY.bB b xs w
    · have y : ∀ (k : Nat) (g : D), eV g = J -> (ae.set i (Z e))[k]? = Z (Z g) -> ∃ g', eV g' = J /\ ae[k]? = Z (Z g') := fun k g O z => by
        by_cases c : i = k
        · subst c; exact ⟨d, t, q⟩
        · rw [c2 c] at z; exact ⟨g, O, z⟩
      obtain ⟨M, T, a2⟩ := y j f I a1
      obtain ⟨g', m2, a4⟩ := y k g L a3
      exact h.aY.apart j k M g' b E a2 a4 T m2 m R U e1 e2
  refine ⟨B, ⟨h.ext.g, fun b o z => ?_, C, h.ext.new, fun b xs w => .inr (B.bB b xs w)⟩, fun j f b l u m p => ?_⟩
  · have : b ≠ a := fun w => by rw [w, h0] at z; cases z
    rw [bo this]; exact h.ext.h b o z
  · by_cases c : i = j
    · subst c; rw [z] at p; cases p; exact h0
    · rw [c2 c] at l; exact h.own j f b l u m p
end
section
variable{xp:cf}{X:aq}{aa:List Nat}{m:dC}{f aW bU bY:ay->aV D}{g g1 g2:ay->aV ζ.cB}{a b c e eI:V3}{aB:List V3}{pos p1 p2 p3 p4:Xo}{st:Wn}{oc c5 c8:List Wn}{i:Nat}{x:V1}
def A8(t:i∉aa)(o:X.N.Nodup)(hi:X.N[i]?=Z x)(w:Loc X.env.scope x)(p:ai X e (av xp X aa .val f))(u:Xb e (Z (.Name x p1)) pos.line X.env=pure VF)(r:X.fn x=J\/X.env.scope.names.lookup x=Z .local):
  bF X (.Assign [.Name x p1] e pos) (bA xp X aa λh=>f h>>=λd=>.ok (.aN (h.set i (Z d)))):=by
 rintro y s B H T I ⟨C,E,G,h,j,hw⟩;refine nY o hi w p u r y s B H T I ?_;refine⟨G,h,j.aY,aS (aC.mp hw) (λd k v l n A z=>?_) λ_ q=>q.mono j.ext.h⟩;exact k _ l n ((j.step A).n7 t z)
def A9(t:i∈aa)(o:X.N.Nodup)(hi:X.N[i]?=Z x)(w:Loc X.env.scope x)(p:ai X e (av xp X aa .fresh f))(u:Xb e (Z (.Name x p1)) pos.line X.env=pure VF)(r:X.fn x=J\/X.env.scope.names.lookup x=Z .local):
  bF X (.Assign [.Name x p1] e pos) (bA xp X aa λh=>f h>>=λd=>.ok (.aN (h.set i (Z d)))):=by
 rintro y s B H T I ⟨C,E,G,h,j,hw⟩;refine nY o hi w p u r y s B H T I ?_;refine⟨G,h,j.aY,aS (aC.mp hw) (λd k v l n A z=>?_) λ_ q=>q.mono j.ext.h⟩;exact k _ l n (j.Br A t z)
def L7(o:ai X e (av xp X aa .view f))(p:Xb e Y pos.line X.env=pure VF):bF X (.Expr e pos) (bA xp X aa λh=>f h>>=λ_=>.ok (.aN h)):=by
 rintro r s u H T I ⟨w,y,G,h,j,hw⟩;refine qu o p r s u H T I ?_;refine⟨G,h,j.aY,aS (aC.mp hw) (λd k v l n t z=>?_) λ_ q=>q.mono j.ext.h⟩;exact k _ l n (j.step t)
def Mo(o:ai X e (av xp X aa .val f)):bF X (.Return (Z e) pos) (bA xp X aa λj=>f j>>=λd=>.ok (.bl d)):=by
 rintro p s u H T I ⟨w,y,G,j,h,hw⟩;refine nX o p s u H T I ?_;refine⟨G,j,h.aY,aS (aC.mp hw) (λd k v l n t r=>?_) λ_ q=>q.mono h.ext.h⟩;exact k v l n (h.ext.trans t) r
def Mq(l:i∈aa)(u:X.N[i]?=Z x)(v:dV X.env.scope x)(t:(x==("__debug__":V1))=VF)(h2:(x==("__classdict__":V1))=VF):
  bF X (.Return (Z (.Name x p1)) pos) (bA xp X aa λj=>ζ.p7 j[i]?>>=λd=>.ok (.bl d)):=by
 rintro B s p H T I ⟨r,k,G,j,h,hw⟩;refine nX (eZ u v t h2) B s p H T I ?_;dsimp only at hw;have A:∀ds,j[i]?=Z (Z (.lst ds))->fg X.K aa r k T (.bl (.lst ds))->jH i p H T.bl:=λds q hw=>by
  obtain⟨a,o,k1,k2,k3,xs,rfl,y⟩:=h.aY.lst i (.lst ds) q l rfl;refine⟨_,k1,?_⟩;have h0:k a=none:=h.own i (.lst ds) a q rfl l k1;refine hw _ (upd G a (.lst xs)) H ⟨h.ext.g.trans (d0 k3),h.ext.h,λb o z=>?_,λb C n=>?_,λb xs z=>.inr (d0 k3 _ _ (h.aY.bB b xs z))⟩ ⟨a,xs,rfl,.inl (.inl b7),y.mono (d0 k3)⟩
  .by_cases c:b=a
   .subst c;rw[b7]at z;rw[k2];exact z
   .rw[bo c]at z;exact h.aY.sub b o z
  .have:b≠a:=λw=>n (by rw[w];exact h0)
   rw[bo this];exact h.ext.new b C n
 cases q:j[i]? with
 |none=>rw[q]at hw;exact hw.elim
 |some o =>
  cases o with
  |none=>rw[q]at hw;exact hw.elim
  |some d =>
   rw[q]at hw;cases d with
   |lst ds=>exact A ds q hw
   |_=>exact hw.elim
abbrev MG(g1 g2:ay->aV ζ.cB):ay->aV ζ.cB:=λh=>g1 h>>=λr=>match r with
 |.aN j=>g2 j
 |.bl d=>.ok (.bl d)
def ve:d3 X [] (bA xp X aa λd=>.ok (.aN d)):=by
 rintro k s h H T I ⟨l,n,G,d,j,hw⟩;exact K7 k s h H T I (hw h G H j)
def vd(n:bF X st (bA xp X aa g1))(h2:d3 X oc (bA xp X aa g2)):d3 X (st::oc) (bA xp X aa (MG g1 g2)):=by
 rintro t s w H T I ⟨h,j,G,u,o,hw⟩;refine Ax n h2 t s w H T I ?_;refine⟨h,j,G,u,o,aS (aC.mp hw) (λr k=>?_) λ_ q=>q⟩;cases r with
 |aN v=>exact λz l y p=>⟨h,j,l,v,p,k⟩
 |bl d=>exact k
def Bc(u:cy X c (eH xp X aa bY))(r:d3 X c5 (bA xp X aa g1))(t:d3 X c8 (bA xp X aa g2)):bF X (.If c c5 c8 pos) (bA xp X aa λh=>bY h>>=λx=>ζ.dN x>>=λk=>if k then g1 h else g2 h):=by
 rintro w s y H T I ⟨l,o,G,h,j,hw⟩;refine K4 u r t w s y H T I ?_;refine⟨G,h,j.aY,?_⟩;refine aC.mpr (aS (aC.mp hw) (λd k=>aS (aC.mp k) (λv q n z p=>?_) λ_ q=>q.mono j.ext.h) λ_ q=>q.mono j.ext.h);cases v with
 |true=>simp only[Q3]at q ⊢;exact⟨l,o,n,h,j.step p,q⟩
 |false=>simp only[PZ,Qs]at q ⊢;exact⟨l,o,n,h,j.step p,q⟩
end
theorem nx:∀{a:List VI}{k:List Int},Wk a k->ItemsAre (intKind prog w) k a
 |_,_,.nil=>.nil
 |_,_,.cons n t r=>.cons (by show Xq n (.int n t)=J;simp[Xq]) (nx r)
theorem wz:∀{k:List Int}{a:List VI},ItemsAre (intKind prog w) k a->Wk a k
 |_,_,.nil=>.nil
 |_,_,.cons h r=>by
  obtain⟨t,rfl⟩:=UB h;exact .cons _ t (wz r)
theorem yP:∀{c:List VI}{a b:List Int},Wk c a->Wk c b->a=b
 |_,_,_,.nil,.nil=>rfl
 |_,_,_,.cons n t r,.cons _ _ q=>by rw[yP r q]
def zD{κ:Type}[DecidableEq κ](a:List κ)(h:i<=a.length):(Pv.met a i).length<=(aH.b4 a).length :=
 aH.iu (Pv.nH a i) λz hz=>(aH.iq z a).mpr (S2 ((Pv.qe a i h z).mp hz))
def MM{κ:Type}[DecidableEq κ]{lt:κ->κ->Bool}(L:aH.eM lt){b r a:List κ}(c:b.Perm r)(h2:r.Perm (Pv.met a a.length)):aH.bz lt b=aH.bz lt (aH.b4 a):=by
 have h:=c.trans h2;have d:b.Nodup:=h.nodup_iff.mpr (Pv.nH a _);refine aH.j5 L (aH.k7 L d) (aH.k7 L (aH.lS a)) λz=>?_
 rw[aH.jr,aH.jr,aH.iq,h.mem_iff,Pv.qe a _ (P0 _),List.take_length]
def MK{κ:Type}[DecidableEq κ]{b r a:List κ}(c:b.Perm r)(h2:r.Perm (Pv.met a a.length)):b.length<=(aH.b4 a).length:=by
 rw[(c.trans h2).length_eq];exact zD a (P0 _)
def HC(h:ItemsOf P a l.length)(b:∀i v,P i v->l[i]?=Z v):a.toList=l:=by
 obtain⟨d,h2⟩:=h;apply RU;intro i
 by_cases hi:i<l.length
 .have c:i<a.size:=⋯;have e:a[i]?=Z a[i]:=P9 c;have:=b i _ (h2 i _ e);rw[this];simpa using e
 .rw[Qu (by simp;lia),Qu ⋯]
section
variable{X:aq}{pins:List (VU×WS)}{σ:aR}{G H:ah}{s:VL}
def rq(K:W.Frag)(G:ah)(v:VI):Prop:=∃b k,v=.ref b/\Rep K G (g9 k) (V.ref b)
theorem A3(I:Inv X pins σ H s)(c:aF G H):∀{b:List (List Int)}{xs:List V}{g:List VI},ax X.K G (b.map g9) xs->Vals xs g->Paired ((Pv.y0 (rq X.K G) X.prog X.w).Row s.heap) g b
 |[],_,_,r,v=>by cases r;cases v;exact .nil
 |k::b,_,_,w,v=>by
  obtain⟨x,t,e,d,m⟩:=w;subst e;cases v with
  |cons p u =>
   obtain⟨a,ys,rfl,h,q⟩:=id d;cases p;obtain⟨its,f,⟨o,l,i,n,j⟩,_⟩:=I.tuple (fW c h);rw[hJ q]at f;exact .cons ⟨a,rfl,⟨o,its.toArray,n,l,i,j,nx (by simpa using intsAre_of f)⟩,a,k,rfl,d⟩ (A3 I c m u)
theorem Bs(I:Inv X pins σ H s)(i:aF G H):∀{c:List (Int×VI)}{d:List (List Int)},Paired (λe k=>Pv.f3 X.prog X.w s.heap e k/\rq X.K G e.2) c d->∃xs,ax X.K G (d.map g9) xs/\Vals xs (c.map (·.2))
 |_,_,.nil=>⟨[],rfl,.nil⟩
 |e::c,k::d,.cons B t=>by
  obtain⟨⟨b,e1,_,o,L,n,x,E,u,v⟩,C,y,e2,r⟩:=B;obtain⟨xs,z,A⟩:=Bs I i t;rw[e1]at e2;injection e2 with e2;subst e2;have w:y=k:=by
   obtain⟨a,ys,m,h,q⟩:=id r;cases m;obtain⟨its,j,⟨N,g,_,M,f⟩,_⟩:=I.tuple (fW i h);rw[x]at g;cases g;rw[u]at f;injection f with l _;rw[hJ q]at j;have p:=intsAre_of j;have h2:=wz v;rw[l]at h2;exact yP ⇑p ⇑h2
  subst w;exact⟨V.ref b::xs,⟨_,_,rfl,r,z⟩,by rw[VP,e1];exact .cons rfl A⟩
end
section
variable{xp:cf}{X:aq}{aa:List Nat}{m:dC}{f:ay->aV D}{e:V3}{pos pos' p z5:Xo}{x y:V1}{pins:List (VU×WS)}{σ:aR}{G H:ah}{s:VL}
def Pj{ds:List D}{Q:D->Prop}(h:a7 (ζ.d8 ds) Q E):ds.all ζ.ig=J/\(ζ.h9 ds).length<=255/\Q (.lst (ζ.fH (ζ.h9 ds))):=by
 unfold ζ.d8 at h;cases q:(ds.all ζ.ig&&decide ((ζ.h9 ds).length<=255)) with
 |false=>rw[q]at h;exact h.elim
 |true =>
  rw[q]at h;simp only[PW,Qn]at q;exact⟨q.1,q.2,h⟩
def Inv.grown(I:Inv X pins σ H s)(g:Pv.oB s s'):Inv X pins σ H s':=by
 obtain⟨h',g',d',b,a⟩:=s';obtain⟨k,e1,e2,e3⟩:=g;have e1:g'=s.gens:=e1;have e2:d'=s.drawn:=e2;have e3:a=s.os:=e3;subst e1 e2 e3;exact I.kept k
def Na(n:X.A.handled=Y)(L:X.A.units+64<WJ)(I:Inv X pins σ H s)(E:aF G H)(C:s.heap.get? a=Z o)(O:Pv.j0 X.w o b c t)(r:ax X.K G ds xs)(v:Vals xs ((Pv.eg X.w a b c).toList.map (·.2)))(B:ζ.jq ds=J)(u:ds.length<=255)(k:∀v j d,Ext G H j d->a8 X.K H j d .fresh (.lst (ζ.fH ds)) v->Q v d):VO (VW X.prog X.w) X.A (call (.builtin "sorted") [.ref a]) (cU X pins σ Q) X.a6 s:=by
 have hsz:(Pv.eg X.w a b c).size=b.size:=by have:=(Pv.nQ X.w a b c).length_eq;simpa using this
 have N:b.size<=255:=by
  have h:=v.length;have h2:=r.length;simp only[VH,VK]at h;lia
 refine vm (Pv.EL (A:=X.A.in1) n C O (by rw[V7];lia) λs' q g w=>?_);have e:q.toList=(Pv.eg X.w a b c).toList.map (·.2):=by
  refine HC (P:=λi v=>∃x,(Pv.eg X.w a b c)[i]?=Z x/\v=x.2) (l:=(Pv.eg X.w a b c).toList.map (·.2)) (by simpa[hsz] using w) λi v M=>?_
  obtain⟨z,h,h2⟩:=M;rw[Qh,Qm,h,h2];rfl
 rw[e];exact vl n L (Inv.grown I g) E r v (by rw[B,Bool.true_or]) u k
def Pm(B:X.calm=J)(a0:X.A.units+64<WJ)(I:Inv X pins σ H s)(l:aF G H)(bg:View X.K G H d z)(cO:RelV z u)(hw:a7 (ζ.cL d>>=λxs=>ζ.d8 xs) (λd'=>∀v O A,Ext G H O A->a8 X.K H O A .fresh d' v->Q v A) (λ_=>False)):
  VO (VW X.prog X.w) X.A (call (.type "set") [u]) (λw dq=>VO (VW X.prog X.w) X.A (call (.builtin "sorted") [w]) (cU X pins σ Q) X.a6 dq) X.a6 s:=by
 obtain⟨ds,a,ys,rfl,j,rs,hw⟩:=qG l bg (aC.mp hw);obtain⟨b1,S,hw⟩:=Pj hw;have U:X.A.handled=none:=I.ok.hd B;cases cO;obtain⟨its,k,T,a2,a3,a1,aA,bp⟩:∃(its:List VI),Vals ys its/\∃T a2 a3 a1,(T="list"\/T="tuple")/\s.heap.get? a=Z { cls:=.type T,dict:=a2,data:=.seq its.toArray a1,slots:=a3 }:=by
  rcases j with j|j
  .obtain⟨its,k,⟨⟨cls,dd,data,N⟩,n,h,g,_,h3⟩,_⟩:=I.list j;simp only at g h3;subst g h3;exact⟨its,k,"list",dd,N,n,.inl rfl,h⟩
  .obtain⟨its,k,⟨⟨cls,dd,data,N⟩,h,g,n,h3⟩,_⟩:=I.tuple j;simp only at g h3;subst g h3;exact⟨its,k,"tuple",dd,N,n,.inr rfl,h⟩
 have bw:∀{h':We}{tk:Nat},(∀b o,b<s.heap.objs.size->s.heap.get? b=Z o->h'.get? b=Z o)->Inv X pins σ H { s with heap:=h',toks:=tk }:=λC=>I.kept λb o q=>C b o (P7 q) q
 .obtain⟨L,rfl,b2⟩:=q0 b1;rw[aH.td (f:=g9) aH.m9]at S hw;rw[VH]at S;refine Pv.Eg (Pv.y0 (rq X.K G) X.prog X.w) aA U a0 bp (by simpa using A3 I l rs k) (λi hi=>by have:=zD L (QM hi);lia) λh' tk r aw E C=>?_
  obtain⟨o,a5,a4,t,h,aJ,aG,el,_,_,bh,aL,bf,bJ⟩:=aw;obtain⟨bk,M,bq⟩:=Pv.Paired.perm (Pv.nQ X.w s.heap.objs.size a5 a4) bf;have R:Inv X pins σ H { s with heap:=h',toks:=tk }:=bw C;obtain⟨xs,bH,bI⟩:=Bs R l bq;have e:ζ.fH (bk.map g9)=ζ.fH ((aH.b4 L).map g9):=by
   rw[aH.mg (f:=g9) (lt:=aH.lexLt) aH.nD,aH.mg (f:=g9) (lt:=aH.lexLt) aH.nD,MM aH.il M E]
  refine Na (s:={ s with heap:=h',toks:=tk }) U a0 R l h ⟨aJ,aG,el,bh,aL⟩ bH bI ?_ ?_ (by rw[e];exact hw)
  .unfold ζ.jq;rw[aH.tb λc B=>b2 c ?_,TG];have:=((M.trans E).mem_iff).mp B;exact S2 ((Pv.qe L _ (P0 _) c).mp this)
  .rw[VH];have:=MK M E;lia
def Mv(E:X.calm=J)(S:X.A.units+64<WJ)(U:x="sorted")(a0:y="set")(L:cN X x)(N:X.ao x=Y)(M:cN X y)(O:X.ao y=Y)(C:ai X e (av xp X aa .view f))(o:V4 [e] X.env=[(VF,Wx e X.env)]):
  ai X (.Call (.Name x p) [.Call (.Name y z5) [e] [] pos'] [] pos) (av xp X aa .fresh λl=>f l>>=λd=>ζ.cL d>>=λxs=>ζ.d8 xs):=by
 subst U a0;rintro pins s σ H Q I ⟨G,l,R,hw⟩;refine R2 (jl I L N (u:=.builtin "sorted") (by kernel_rfl) ?_);refine TN ?_ rfl rfl;show VO _ _ (spliced ((VF,Wx (.Call (.Name "set" z5) [e] [] pos') X.env)::[])) _ _ s;refine Ul ?_;refine R2 (jl I M O (u:=.type "set") (by kernel_rfl) ?_);refine RI (aP (jw C o pos' pins s σ H (λr b=>∃v d a,r=[v]/\Ext G H a b/\View X.K a b d v/\a7 (ζ.cL d>>=λxs=>ζ.d8 xs) (λd'=>∀v n h,Ext a b n h->a8 X.K b n h .fresh d' v->Q v h) (λ_=>False)) I
  ⟨G,l,R,aS (aC.mp hw) (λd k v a b g j=>?_) λ_ q=>q⟩) λaL aJ aA=>?_) o rfl
 .refine⟨v,d,a,rfl,g,j,?_⟩;refine aS (jN k λc=>?_) (λd' q a4 t A aw a2=>q a4 t A (g.trans aw) (a2.old g.h)) λ_ q=>q
  intro z;cases i:ζ.cL d with
  |ok ds=>rw[i]at z;have z:ζ.d8 ds=.exc c:=z;unfold ζ.d8 at z;split at z<;>cases z
  |exc aG=>cases d<;>cases i
  |bad=>rw[i]at z;cases z
 .obtain⟨r,b,B,j,a1⟩:=aA;obtain⟨v,d,a,e1,g,a5,T⟩:=a1;subst e1;obtain⟨u,rfl,a3⟩:=vals1 j;refine aP (Pm E S B g.sub a5 a3 T) λw s2 h2=>?_
  exact UG h2
end
section
variable{xp:cf}{X:aq}{aa:List Nat}{m:dC}{f aW bU:ay->aV D}{a b e eI:V3}{pos p p2 p3 p4:Xo}{pins:List (VU×WS)}{σ:aR}{G H:ah}{s:VL}{x:V1}
def Ba(h:∀c,t c=.bad):ai X e (av xp X aa m t):=by
 rintro pins s σ H Q I ⟨G,c,d,hw⟩;rw[h]at hw;exact hw.elim
def O8 (lo) : ∀ {n : Nat} {l : List VI}, l.length = n -> (∀ (i : Nat) v, l[i]? = Z v -> ∃ t, v = .int (lo + i * 1) t) -> Vals ((VN n).map fun (k : Nat) => V.int (lo + (k : Nat))) l := by
  intro n l c h
  subst c
  induction l generalizing lo with
  | nil => exact .nil
  | cons v l d =>
    rw [VX, TC, VP, VR]
    refine .cons ?_ ?_
    · obtain ⟨t, e⟩ := h 0 v rfl
      exact ⟨t, by rw [e]; simp⟩
    · have := d (lo + 1) fun i w hw => by
        obtain ⟨t, e⟩ := h (i + 1) w ⇑hw
        exact ⟨t, by rw [e]; congr 1; push_cast; lia⟩
      have e2 : ((fun (k : Nat) => V.int (lo + (k : Nat))) ∘ Nat.succ) = fun (k : Nat) => V.int (lo + 1 + (k : Nat)) := by
        funext k; simp only [XO]; congr 1; push_cast; lia
      rw [e2]; exact this
theorem AU{K:W.Frag}(lo):∀(l:List Nat),ax K G (l.map λ(k:Nat)=>ζ.D.int (lo+(k:Nat))) (l.map λ(k:Nat)=>V.int (lo+(k:Nat)))
 |[]=>rfl
 |k::l=>⟨_,_,rfl,rfl,AU lo l⟩
def Pl(L:cN X "range")(M:X.ao "range"=Y)(C:ai X a (av xp X aa .view aW))(z:V4 [a] X.env=[(VF,Wx a X.env)])(I:Inv X pins σ H s)(O:cH X.K aa G H B σ){Q:List D->Prop}(hw:a7 (aW B>>=λd=>ζ.en d>>=λi=>ζ.iD 0 i) Q (λc=>dy xp X c H))(k:∀(j:VL)(h g:ah)(n:Int)(r:VU)(t u v:Tok)(h':We)(tk:Nat),Inv X pins σ g j->Ext G H h g->Q (ζ.dk 0 n)->(-(2 ^ 62)<=n/\n<2 ^ 62/\(ζ.dk 0 n).length<=16777216)->Inv X pins σ g { j with heap:=h',toks:=tk }->IsRange h' r 0 n 1 t u v->R (.ref r) { j with heap:=h',toks:=tk }):
  VO (VW X.prog X.w) X.A (Wx (.Call (.Name "range" p) [a] [] pos) X.env) R X.a6 s:=by
 refine Call_ (jl I L M boot_range (RI (aP (jw C z pos pins s σ H (λA g=>∃n h,A=[.int n]/\Ext G H h g/\Q (ζ.dk 0 n)/\(-(2 ^ 62)<=n/\n<2 ^ 62/\(ζ.dk 0 n).length<=16777216)) I
  ⟨G,B,O,aS (aC.mp hw) (λd q v h g w l=>?_) λ_ q=>q⟩) λU j T=>?_) z rfl))
 .have q:=aC.mp q;cases d with
  |int i =>
   obtain⟨⟨_,_,b1,b2⟩,hz,q⟩:=AX q;exact⟨i,h,by rw[a8.ql l],w,q,b1,b2,hz⟩
  |_=>exact q.elim
 .obtain⟨A,g,y,l,n,h,e1,w,N,E⟩:=T;subst e1;obtain⟨u,rfl,S⟩:=vals1 l;obtain⟨t,rfl⟩:=S;refine call_range_1 ?_;exact k j h g n _ _ _ _ _ _ y w N E (y.kept λb o e=>PX _ e) (IsRange.new ..)
def LA(n):Xg 0 n 1=((ζ.dk 0 n).length:Int):=by
 unfold ζ.dk;rw[VH,Wy,rangeSize_one]
 split<;>lia
def Lp(n):(ζ.dk 0 n).length=n.toNat:=by unfold ζ.dk;rw[VH,Wy];congr 1;lia
def LB(h:ItemsOf (λi v=>∃t,v=.int (0+i*1) t) c (ζ.dk 0 n).length):∃xs,ax X.K G (ζ.dk 0 n) xs/\Vals xs c.toList:=by
 have d:c.toList.length=n.toNat:=by rw[VK,h.1,Lp]
 have v:=O8 0 d λi v g=>h.2 i v ⇑g
 have e:ζ.dk 0 n=(VN n.toNat).map λ(k:Nat)=>ζ.D.int (0+(k:Nat)):=by
  unfold ζ.dk;rw[Int.sub_zero]
 exact⟨_,by rw[e];exact AU 0 _,v⟩
def Mx{y:V1}(N:X.calm=J)(aw:x="range")(aA:y="tuple")(O:cN X x)(U:X.ao x=Y)(S:cN X y)(a0:X.ao y=Y)(M:ai X a (av xp X aa .view aW))(a5:V4 [a] X.env=[(VF,Wx a X.env)]):
  ai X (.Call (.Name y p2) [.Call (.Name x p) [a] [] pos] [] p3) (av xp X aa .val λo=>(aW o>>=λd=>ζ.en d>>=λi=>ζ.iD 0 i)>>=λds=>.ok (.tup ds)):=by
 subst aw aA;rintro pins s σ H Q I ⟨G,o,a4,hw⟩;refine R2 (jl I S a0 (u:=.type "tuple") (by kernel_rfl) ?_);refine RI ?_ rfl rfl;show VO _ _ (spliced ((VF,Wx (.Call (.Name "range" p) [a] [] pos) X.env)::[])) _ _ s;refine Ul ?_;refine Pl O U M a5 I a4 (aC.mp hw) λbk z b2 n r t u v h' tk bp l a2 j k a3=>UG ?_
 have T:X.A.handled=none:=k.ok.hd N;have a1:=LA n;have aG:Meets (WN.«tuple.__new__» ⟨[.type "tuple",.ref r],[]⟩) (λA R s'=>A.handled=Y/\IsRange s'.heap r 0 n 1 t u v /\
   ∀(s2:VL)(acc:Array VI),Pv.oB s' s2->ItemsOf (λi v=>∃t,v=.int (0+i*1) t) acc (ζ.dk 0 n).length->R (.ok (.ret (.ref s2.heap.objs.size))) { s2 with heap:=s2.heap.push { cls:=.type "tuple",data:=.seq acc } }) :=
  .of_wp λprog w A R s' h=>by
   obtain⟨E,h2,h3⟩:=h;have bw:=sub_tuple_self;have bf:=init_tuple_lookup;have bh:=madeHere_tuple;have L:s'.TypeIs (.ref r) "range":=⟨_,h2,rfl⟩;have h4:A.in1.handled=none:=E
   wp_walk using Sx L,Pv.EK (A:=A.in1) h4 h2 (small_one ⋯ ⋯ j.1 j.2.1) a1 j.2.2
   intro s2 acc g c;have e:acc.toList.toArray=acc:=(by simp);refine PV (m:=WC acc.toList.toArray) (QA (VG ⟨_,rfl,?_⟩) (show acc.toList.toArray.size<=V5 by rw[e,c.1,V7];exact j.2.2));rw[e];exact h3 s2 acc g c
 refine callType_new F.called_tuple ∅ (F.typeCall_tuple_1 _) (F.newCall_tuple_1 _) (λaJ=>F.args_object_init_2 aJ _) F.entry_tuple_new aG ⟨T,a3,λs2 acc g c=>⟨⟨_,Qb _ rfl,rfl⟩,?_⟩⟩;obtain⟨xs,k1,k2⟩:=LB (X:=X) (G:=z) c;have C:=Inv.grown k g;have e:acc=acc.toList.toArray:=by simp
 rw[e];exact zR C l.sub k2 k1 (by rw[k2.length,VK,c.1,V7];exact j.2.2) λv q B b1 aL=>a2 v q B (l.trans b1) aL
def Ma{d:D}{v:V}{u:VI}(g:cN X x)(h:X.ao x=Z u)(r:RelV v u)(j:∀G,Rep X.K G d v)(c:(x==("__debug__":V1))=VF):ai X (.Name x p) (av xp X aa .val λ_=>.ok d):=by
 rintro pins s σ H Q I ⟨G,k,i,hw⟩;exact Ag g h r c pins s σ H Q I (hw v G H (Ext.refl i.sub) (j G))
end
def vY:∀x y:Nat,(x ^^^ y)+2*(x &&& y)=x+y:=by
 intro x
 induction x using Yn with
 |ind x e =>
  intro y
  by_cases h:x=0
  .subst h;simp
  .have d:=e (x / 2) ⋯ (y / 2);have e1:(x ^^^ y) / 2=x / 2 ^^^ y / 2:=Vd;have e2:(x &&& y) / 2=x / 2 &&& y / 2:=T9;have e3:(x ^^^ y)%2=(x%2+y%2)%2:=by
    have:=@Tv x y;rcases Qg x with a|a<;>rcases Qg y with b|b<;>rcases Qg (x ^^^ y) with c|c<;>simp[a,b,c]at this ⊢
   have e4:(x &&& y)%2=(x%2)*(y%2):=by
    have:=@Sy x y;rcases Qg x with a|a<;>rcases Qg y with b|b<;>rcases Qg (x &&& y) with c|c<;>simp[a,b,c]at this ⊢
   rw[<- e1,<- e2]at d;revert d e3 e4;generalize x ^^^ y=p;generalize x &&& y=q;intro d e3 e4;rcases Qg x with a|a<;>rcases Qg y with b|b<;>rw[a,b]at e3 e4<;>lia
def wu(hi:0<=i)(a:0<=j):Xk i j=((i.toNat &&& j.toNat:Nat):Int):=by
 unfold Xk;rw[decide_eq_true hi,decide_eq_true a]
def Dd(hi:0<=i)(a:¬0<=j):Xk i j=i-((i.toNat &&& (-j-1).toNat:Nat):Int):=by
 unfold Xk;rw[decide_eq_true hi,decide_eq_false a];rfl
def Pr(hi:0<=i)(a:0<=j):aaa i j=((i.toNat ^^^ j.toNat:Nat):Int):=by
 rw[bitXor_and,wu hi a];have:=vY i.toNat j.toNat;lia
section
variable{xp:cf}{X:aq}{aa:List Nat}{m:dC}{f aW bU bY:ay->aV D}{a b c e:V3}{pos:Xo}{pins:List (VU×WS)}{σ:aR}{G H:ah}{s:VL}
def E4:bP X (WG .BitAnd) (iA X.K (ζ.cA .and)):=by
 rintro pins s σ H x y v u Q I jB jC ⟨G,dt,kh,gY,jK,jL,hw⟩;cases dt<;>cases kh<;>first|exact hw.elim|skip
 have hw:a7 (ζ.j4 i i_1) _ _:=hw;unfold ζ.j4 at hw
 by_cases h:0<=i
 .rw[if_pos h]at hw
  by_cases h2:0<=i_1
  .rw[if_pos h2]at hw;exact z1 pins s σ H x y v u Q I jB jC ⟨_,_,jK,jL,by dsimp only;rw[wu h h2];exact jb gY hw rfl⟩
  .rw[if_neg h2]at hw;exact z1 pins s σ H x y v u Q I jB jC ⟨_,_,jK,jL,by dsimp only;rw[Dd h h2];exact jb gY hw rfl⟩
 .rw[if_neg h]at hw;exact hw.elim
def Fc:bP X (WG .BitXor) (iA X.K (ζ.cA .xor)):=by
 rintro pins s σ H x y v u Q I jB jC ⟨G,dt,kh,gY,jK,jL,hw⟩;cases dt<;>cases kh<;>first|exact hw.elim|skip
 have hw:a7 (ζ.ou i i_1) _ _:=hw;unfold ζ.ou at hw
 by_cases h:0<=i/\0<=i_1
 .rw[if_pos h]at hw;exact J0 pins s σ H x y v u Q I jB jC ⟨_,_,jK,jL,by dsimp only;rw[Pr h.1 h.2];exact jb gY hw rfl⟩
 .rw[if_neg h]at hw;exact hw.elim
def Mg{x:V1}(R:X.calm=J)(a0:x="max")(S:cN X x)(U:X.ao x=Y)(N:ai X a (av xp X aa .view aW))(O:ai X b (av xp X aa .view bU))(z:V4 [a,b] X.env=[(VF,Wx a X.env),(VF,Wx b X.env)])(l:V4 [b] X.env=[(VF,Wx b X.env)]):
  ai X (.Call (.Name x p) [a,b] [] pos) (av xp X aa m λg=>aW g>>=λx=>ζ.en x>>=λi=>bU g>>=λy=>ζ.en y>>=λj=>.ok (.int (if i<j then j else i))):=by
 subst a0;rintro pins s σ H Q I ⟨G,g,o,hw⟩;have M:ei X (.builtin "max") (λxs H Q=>∃i j,xs=[.int i,.int j]/\Q (.int (if i<j then j else i)) H):=by
  rintro pins s σ H xs a4 Q I r ⟨i,j,e,q⟩;subst e;cases r with
  |cons h d =>
   cases d with
   |cons d a1 =>
    cases a1;obtain⟨t,rfl⟩:=h;obtain⟨u,rfl⟩:=d;refine max_two_ints (I.ok.hd R) λh' tk T=>?_
    refine⟨_,H,I.kept T,?_,q⟩
    by_cases c:i<j
    .rw[if_pos c,if_pos c];exact⟨u,rfl⟩
    .rw[if_neg c,if_neg c];exact⟨t,rfl⟩
 refine nS M S U (by kernel_rfl) (hG N (jw O l) (by rw[z,l])) ∅ ∅ (by rw[z,l]) (by rw[l];rfl) pins s σ H Q I ?_;refine⟨G,g,o,aS (aC.mp hw) (λE k v A a3 n h=>?_) λ_ q=>q⟩;cases E with
 |int i =>
  have k:a7 (bU g>>=λy=>ζ.en y>>=λj=>.ok (ζ.D.int (if i<j then j else i))) _ _:=k;refine⟨A,g,o.ext n,aS (aC.mp k) (λL k2 w B C a2 d=>?_) λ_ q=>q.mono n.h⟩;cases L with
  |int j =>
   have h:v=.int i:=h;have d:w=.int j:=d;subst h d;exact⟨i,j,rfl,k2 _ B C (n.trans a2) a8.int⟩
  |_=>exact k2.elim
 |_=>exact k.elim
theorem nv:∀{ds:List D}{k:List Int},ζ.intsOf ds=Z k->ds=k.map .int
 |[],_,h=>by cases h;rfl
 |.int i::ds,k,h=>by
  cases q:ζ.intsOf ds with
  |none=>simp[ζ.intsOf,q]at h
  |some d =>
   simp only[ζ.intsOf,q,WB,Q9]at h;subst h;rw[nv q];rfl
 |.b0::_,_,h=>by cases h
 |.ag _::_,_,h=>by cases h
 |.str _::_,_,h=>by cases h
 |.tup _::_,_,h=>by cases h
 |.lst _::_,_,h=>by cases h
 |.aT _::_,_,h=>by cases h
 |.aK _::_,_,h=>by cases h
 |.ee _::_,_,h=>by cases h
 |.kt _::_,_,h=>by cases h
def ints_list(I:Inv X pins σ H s){K:W.Frag}(l:aF G H)(k:View X.K G H (.lst (ns.map .int)) z)(j:RelV z u):∃(a:VU)(xs:Array (Int×Tok)),u=.ref a/\s.heap.IsList a (intItems xs)/\xs.toList.map (·.1)=ns:=by
 obtain⟨a,ys,rfl,g,rs⟩:=k;cases j;rw[hJ rs]at g;obtain⟨its,i,h,hz⟩:=I.list g;have hi:Wk its ns:=intsAre_of i;obtain⟨xs,d⟩:=hi.allInts.items;refine⟨a,xs,rfl,by rw[<- d];exact h.isList,?_⟩;rw[<- nums_intItems,<- d];exact hi.numsOf
def Gu(k:X.calm=J):ei X (.builtin "sum") (hI X.K m λd=>ζ.lM d>>=λxs=>ζ.hO xs):=by
 rintro pins s σ H xs t Q I r ⟨G,z,d,j,h,p,hw⟩;subst j;obtain⟨u,rfl,o⟩:=vals1 r;cases d with
 |lst ds =>
  have g:a7 (ζ.hO ds) _ _:=hw;clear hw;unfold ζ.hO at g;cases q:ζ.intsOf ds with
  |none=>rw[q]at g;exact g.elim
  |some ns =>
   rw[q]at g;cases nv q;obtain⟨a,xs,rfl,n,i⟩:=ints_list (K:=X.K) I h p o;refine sum_intListG (I.ok.hd k) n λh' tk t' l=>?_
   refine⟨.int ns.sum,H,I.kept l,⟨t',?_⟩,g _ G H (Ext.refl h) a8.int⟩;rw[preSum_eq,Rh (by simp),i]
 |_=>exact hw.elim
theorem wA(g:Nat->Int):∀k,g (argBest (λi j=>decide (g i>g j)) k)=((VN k).map λi=>g (i+1)).foldl (λm x=>if x>m then x else m) (g 0)
 |0=>rfl
 |k+1=>by
  rw[List.range_succ,VT,Wc,<- wA g k];show g (if decide (g (k+1)>g (argBest (λi j=>decide (g i>g j)) k))=J then k+1 else argBest (λi j=>decide (g i>g j)) k)=_;simp only[VP,S3,W4,List.foldl_nil]
  by_cases h:g (k+1)>g (argBest (λi j=>decide (g i>g j)) k)
  .rw[if_pos (decide_eq_true h),if_pos h]
  .rw[if_neg ⇑h,if_neg h]
def JJ(xs)(n)(ns)(h:xs.toList.map (·.1)=n::ns):numAt xs 0=n/\(VN (xs.size-1)).map (λi=>numAt xs (i+1))=ns:=by
 have d:∀i,numAt xs i=((n::ns)[i]?).getD 0:=λi=>by
  unfold numAt;rw[<- h,Qh,Qm]
 have hz:xs.size=ns.length+1:=by
  have:=Rc XH h;simpa using this
 refine⟨by rw[d];rfl,?_⟩;rw[hz,R5];apply RU;intro i;rw[Qh]
 by_cases hi:i<ns.length
 .rw[Rx hi,WB,d,X0,P4 hi];rfl
 .rw[Qu ⇑hi,Qu ⇑hi];rfl
def Gr(k:X.calm=J):ei X (.builtin "max") (hI X.K m λd=>ζ.lM d>>=λxs=>ζ.hE xs):=by
 rintro pins s σ H xs A Q I r ⟨G,z,d,j,i,y,hw⟩;subst j;obtain⟨u,rfl,w⟩:=vals1 r;cases d with
 |lst ds =>
  have g:a7 (ζ.hE ds) _ _:=hw;clear hw;unfold ζ.hE at g;cases q:ζ.intsOf ds with
  |none=>rw[q]at g;exact g.elim
  |some ns =>
   rw[q]at g;cases ns with
   |nil=>exact g.elim
   |cons n ns =>
    cases nv q;obtain⟨a,xs,rfl,o,h⟩:=ints_list (K:=X.K) I i y w;obtain⟨e0,e1⟩:=JJ xs n ns h;have hz:0<xs.size:=by
     have:=Rc XH h;simp at this;lia
    refine max_intList (I.ok.hd k) o hz λv h' tk p l=>?_
    obtain⟨t,rfl⟩:=intItems_at p;refine⟨.int (ns.foldl (λm x=>if x>m then x else m) n),H,I.kept l,⟨t,?_⟩,g _ G H (Ext.refl i) a8.int⟩;rw[wA (numAt xs),e0,e1]
 |_=>exact hw.elim
end
section
variable{xp:cf}{X:aq}{aa:List Nat}{m:dC}{f:ay->aV D}{e eI iter:V3}{pos p1 p4 ap gr:Xo}{i:Nat}{x n:V1}{oc:List Wn}
def xb{o:Option (Option D)}(h:a7 (ζ.fN o) Q E):∃ds,o=Z (Z (.lst ds))/\Q ():=by
 cases o with
 |none=>exact h.elim
 |some o =>
  cases o with
  |none=>exact h.elim
  |some d =>
   cases d with
   |lst ds=>exact⟨ds,rfl,h⟩
   |_=>exact h.elim
def yE(a:V4 [e] X.env=[(VF,Wx e X.env)]):((Xe gr (V4 [e] X.env)).all (λx=>!x.1)&&(backToKw gr (YD [] X.env)).all (λx=>x.1.isSome)&&decide ([e].length+([]:List Xz).length+(if ([]:List Xz).isEmpty then 0 else 1)<30))=true:=by
 rw[a];rfl
def LQ(l:i∈aa)(M:n="append")(B:X.N[i]?=Z x)(N:dV X.env.scope x)(u:(x==("__debug__":V1))=VF)(h2:(x==("__classdict__":V1))=VF)(L:(ap.endLine==gr.line)=J)(E:ai X e (av xp X aa .val f))(h:V4 [e] X.env=[(VF,Wx e X.env)]):
  bF X (.Expr (.Call (.Attribute (.Name x p1) n ap) [e] [] gr) p4) (bA xp X aa λb=>ζ.fN b[i]?>>=λ_=>f b>>=λd=>ζ.mH b[i]? d>>=λy=>.ok (.aN (b.set i (Z y)))):=by
 subst M;rintro O s r H T I ⟨R,S,G,b,c,hw⟩;refine qu (Ae Tp PySem.F.slot_list_append PySem.F.type_list_append zJ (eZ B N u h2) (jw E h) rfl (yE h) L h rfl) rfl O s r H T I ?_;obtain⟨ds,q,hw⟩:=xb (aC.mp hw);obtain⟨a,o,k1,k2,k3,xs,rfl,p⟩:=c.aY.lst i (.lst ds) q l rfl;refine⟨_,k1,.inl ⟨rfl,xs,cz.of k2⟩,?_⟩;refine⟨G,b,c.aY,aS (aC.mp hw) (λd k v j t g Q=>?_) λ_ z=>z.mono c.ext.h⟩;have C:=c.step g;rw[q,ζ.oJ]at k;have k:=aC.mp k
 by_cases hz:ds.length<ζ.SZ
 .rw[if_pos hz]at k;have A:t a=Z (.lst xs):=g.h _ _ k2;have w:j a=none:=g.new a k3 (by rw[k2];exact λz=>nomatch z);refine⟨a,xs,v,rfl,rfl,A,by rw[<- p.length,<- mD];exact hz,?_⟩;exact k r j _ (C.write (d:=.lst ds) (e:=.lst (ds++[d])) l q rfl rfl k1 w ⟨_,rfl,(p.mono g.g).snoc Q⟩)
 .rw[if_neg hz]at k;exact k.elim
abbrev fk(b c:ah):ah:=λa=>match b a with
 |some o=>Z o
 |none=>c a
def jk(h:b a=Z o):fk b c a=Z o:=by unfold fk;rw[h]
def gA(h:b a=Y):fk b c a=c a:=by unfold fk;rw[h]
variable{K:W.Frag}{cR bV b3 H1 G H:ah}{ae:ay}{σ:aR}
def Bk(x:Ext cR bV b3 H1):aF bV (fk b3 bV):=λa o h=>by
 cases q:b3 a with
 |none=>rw[gA q];exact h
 |some b =>
  rw[jk q];have e1:=x.sub a b q;have e2:=x.h a o h;rw[e1]at e2;exact e2
def Gn(x:Ext cR bV b3 H1)(y:Ext cR bV G H)(s:aF b3 G):Ext b3 (fk b3 bV) G H where
 g:=s
 h:=λa o e=>by
  cases q:b3 a with
  |some c=>rw[jk q]at e;cases e;exact y.sub a o (s a o q)
  |none=>rw[gA q]at e;exact y.h a o e
 sub:=y.sub
 new:=λa e1 e2=>by
  rw[gA e1]at e2;refine y.new a ?_ e2;cases q:cR a with
  |none=>rfl
  |some o=>rw[x.g a o q]at e1;cases e1
 bB:=λb xs z=>(y.bB b xs z).elim (λw=>.inl (by
  cases q:b3 b with
  |none=>rw[gA q];exact w
  |some o=>rw[jk q];rw[y.sub b o (s b o q)]at z;exact z)) .inr
def x8(x:Ext cR bV b3 H1)(y:Ext b3 (fk b3 bV) G H):Ext cR bV G H where
 g:=x.g.trans y.g
 h:=(Bk x).trans y.h
 sub:=y.sub
 new:=λa e1 e2=>by
  have q:=x.new a e1 e2;exact y.new a q (by rw[gA q];exact e2)
 bB:=λb xs z=>(y.bB b xs z).elim (λw=>by
  cases q:b3 b with
  |none=>rw[gA q]at w;exact .inl w
  |some o=>rw[jk q]at w;exact .inr (y.g _ _ (q.trans w))) .inr
def cb.re(x:Ext cR bV b3 H1)(h:cb K aa cR bV G H ae σ)(s:aF b3 G):cb K aa b3 (fk b3 bV) G H ae σ:=by
 refine⟨h.aY,Gn x h.ext s,λi ds a q c hi e=>?_⟩;obtain⟨b,xs,k1,k2,k3,d⟩:=h.aY.lst i ds q hi c;rw[k1]at e;cases e;have:b3 a=none:=by
  cases z:b3 a with
  |none=>rfl
  |some o=>rw[s a o z]at k3;cases k3
 rw[gA this];exact h.own i ds a q c hi k1
def cb.back(x:Ext cR bV b3 H1)(h:cb K aa b3 (fk b3 bV) G H ae σ):cb K aa cR bV G H ae σ:=by
 refine⟨h.aY,x8 x h.ext,λi ds a q b hi e=>?_⟩;have:=h.own i ds a q b hi e;cases z:b3 a with
 |some o=>rw[jk z]at this;cases this
 |none=>rw[gA z]at this;exact this
theorem cb.Bq:∀{ts:List Nat}{b:List D}{a:List V}{ae:ay}{σ:aR},(∀t∈ts,t∉aa)->cb K aa cR bV G H ae σ->ax K G b a->cb K aa cR bV G H (ζ.iF ts (b.map Z) ae) (jD ts a σ)
 |[],b,a,ae,σ,_,h,r=>by simpa[ζ.iF,jD] using h
 |t::ts,[],a,ae,σ,_,h,r=>by cases r;simpa[ζ.iF,jD] using h
 |t::ts,w::b,a,ae,σ,c,h,⟨v,r,e,d,g⟩=>by
  subst e;exact cb.Bq (ts:=ts) (λz hz=>c z (VJ _ hz)) (h.n7 (c t VE) d) g
def GF(g:D->ay->aV ζ.cB)(d:D)(ds:List D)(ae:ay):ζ.forL g (d::ds) ae=g d ae>>=λr=>match r with
  |.aN a=>ζ.forL g ds a
  |.bl x=>.ok (.bl x):=rfl
def L9(aL:YR (VW X.prog X.w) X.A X.env X.a6)(aA:X.calm=J)(b2:∀t∈ts,t∉aa)(hi:fK X eI iter (ha xp X aa .val a4))(aJ:gp X eI (tG X.K k ts))(a5:d3 X oc (bA xp X aa B))(b1:∀z,WI iter X.env z=pure z):bF X (.For eI iter oc [] pos) (bA xp X aa λae=>a4 ae>>=λds=>ζ.forL (λd b=>ζ.ep k d>>=λh=>B (ζ.iF ts h b)) ds ae):=by
 rintro bh s σ H T I ⟨cR,bV,G,ae,u,hw⟩;refine K3 aL aA hi aJ a5 b1 bh s σ H T I ?_;refine⟨G,ae,u.aY,aS (aC.mp hw) (λds bf bJ b3 H1 S L hz=>?_) λ_ q=>q.mono u.ext.h⟩;have w:Ext cR bV b3 H1:=u.ext.trans S;have cO:=Bk w;refine⟨λj m N aE=>j+m=ds.length/\∃g b,cb X.K aa b3 (fk b3 bV) g aE b N/\a7 (ζ.forL (λd b=>ζ.ep k d>>=λh=>B (ζ.iF ts h b)) (ds.drop j) b) (fg X.K aa cR bV T) (λc=>dy xp X c bV),
  ⟨ds.length,⋯,b3,ae,cb.re w (u.step S) (aF.refl _),⇑bf⟩,?_⟩
 rintro j m N aE ⟨cY,g,b,l,a⟩;have C:kW .val b3 H1 g aE:=⟨l.ext.g,l.aY.sub⟩
 by_cases E:j<ds.length
 .refine .inr ⟨L.go j g aE C E,λa0 p=>(j+1)+(m-1)=ds.length/\∃o y,cb X.K aa b3 (fk b3 bV) o p y a0/\a7 (ζ.forL (λd b=>ζ.ep k d>>=λh=>B (ζ.iF ts h b)) (ds.drop (j+1)) y) (fg X.K aa cR bV T) (λc=>dy xp X c bV),
   λa0 p h2=>⟨m-1,⋯,h2⟩,λv p bp=>?_⟩
  have aG:ds[j]?=Z ds[j]:=P4 E;obtain⟨o,U,bk⟩:=L.hV j g aE v p ds[j] C l.aY.sub aG bp;have bH:=l.step U;have a1:ds.drop j=ds[j]::ds.drop (j+1):=QY E;rw[a1,GF]at a;have a:=aC.mp (aC.mp a);refine⟨o,ds[j],U.sub,bk,?_⟩;cases q:ζ.ep k ds[j] with
  |bad=>rw[q]at a;exact a
  |exc c =>
   exfalso;cases k with
   |zero=>cases q
   |succ k =>
    cases Q:ds[j] with
    |tup M =>
     rw[Q]at q;have aw:ζ.ep (k+1) (.tup M)=if M.length=k+1 then .ok (M.map Z) else .bad:=rfl;rw[aw]at q
     split at q<;>cases q
    |_=>rw[Q]at q;cases q
  |ok os =>
   rw[q]at a;intro dg h a3 bq;subst a3;refine⟨b3,fk b3 bV,o,_,cb.Bq b2 bH bq,aS a (λr R=>?_) λc z=>z.mono cO⟩;cases r with
   |aN y=>exact λdr A O bI=>⟨⋯,A,y,bI,R⟩
   |bl d=>exact λdq A O bg bw=>R dq A O (x8 w bg) bw
 .have a2:j=ds.length:=⋯;subst a2;refine .inl ⟨L.stop g aE C,?_⟩;rw[TV]at a;exact a N g aE (cb.back w l)
end
def tV(a k:List Int):decide (a.map (Wi (β:=V1))=k.map Wi)=decide (a=k):=by
 by_cases h:a=k
 .simp[h]
 .have:a.map (Wi (β:=V1))≠k.map Sum.inl:=λz=>h ((List.map_inj_right (λa b=>UC)).mp z)
  simp[h,this]
def Fj(a)(k):fX (eR a) (k.map Wi)=(ζ.kR a k).map V.int:=by
 induction a with
 |nil=>rfl
 |cons p a b =>
  unfold fX ζ.kR eR at b ⊢;rw[VP,Wq,Wq];dsimp only;rw[tV]
  by_cases h:p.1=k
  .simp[h]
  .simp only[decide_eq_false h];exact b
def Fi(a)(k)(n):putK (eR a) (k.map Wi) (V.int n)=eR (ζ.putN a k n):=by
 have e1:((eR a).any λb=>decide (b.1=k.map Wi))=a.any λp=>decide (p.1=k):=by
  induction a with
  |nil=>rfl
  |cons p a c=>unfold eR at c ⊢;rw[VP,WD,WD,c,tV]
 have e2:(eR a).map (λb=>if b.1=k.map Wi then(b.1,V.int n) else b)=eR (a.map λp=>if p.1=k then(p.1,n) else p):=by
  unfold eR;rw[VR,VR];refine Qq λp _=>?_
  have:=tV p.1 k
  by_cases h:p.1=k
  .simp[h]
  .have h':¬p.1.map (Wi (β:=V1))=k.map Sum.inl:=(by simpa[h] using this);simp[h,h']
 unfold putK ζ.putN;rw[e1]
 split
 .exact e2
 .unfold eR;rw[VT];rfl
def y1(k:List Int):(k.map (Wi (β:=V1))).map bQ=k.map V.int:=by rw[VR];rfl
def mZ{o:Option (Option D)}(h:ζ.hq o=Z a):o=Z (Z (.aT a)):=by
 unfold ζ.hq at h
 split at h
 .cases h;rfl
 .cases h
def o2{o:Option (Option D)}(h:ζ.gs o=Z a):o=Z (Z (.aK a)):=by
 unfold ζ.gs at h
 split at h
 .cases h;rfl
 .cases h
def k8{α:Type}{f:D->Option α}{o:Option (Option D)}{a:α}(h:ζ.eo f o=Z a):∃d,o=Z (Z d)/\f d=Z a:=by
 unfold ζ.eo at h
 split at h
 .exact⟨_,rfl,h⟩
 .cases h
def pP{d:D}(h:ζ.intD d=Z i):d=.int i:=by
 unfold ζ.intD at h
 split at h
 .cases h;rfl
 .cases h
def Ci{d:D}(h:ζ.hc d=Z k):d=.tup (k.map .int):=by
 unfold ζ.hc at h
 split at h
 .rw[nv h]
 .cases h
def A1{d:D}(h:ζ.rowOf d=Z r):d=ζ.kH r:=by
 unfold ζ.rowOf at h
 split at h
 .split at h
  .rename_i e;cases h;rw[nv e];rfl
  .cases h
 .cases h
theorem ints_rep{K:W.Frag}:∀ns:List Int,ax K G (ns.map ζ.D.int) (ns.map V.int)
 |[]=>rfl
 |n::ns=>⟨.int n,ns.map V.int,rfl,rfl,ints_rep ns⟩
section
variable{G:ah}
theorem cV.val:∀{a:List (Int×Int×Int)}{ys:List (Key×V)},cV G a ys->∀{k:Int}{r:Int×Int},ζ.jJ a k=Z r->∃b,fX ys (Wi k)=Z (.ref b)/\G b=Z (.tup [.int r.1,.int r.2])
 |[],_,_,k,r,e=>by cases e
 |p::a,_,⟨b,t,e,f,h2⟩,k,r,q=>by
  subst e;unfold ζ.jJ at q;unfold fX;rw[Wq]at q ⊢
  by_cases c:p.1=k
  .simp only[c,decide_true,WB,Q9]at q ⊢;subst q;exact⟨b,rfl,f⟩
  .have d:¬(Wi p.1:Key)=Wi k:=λz=>c (UC z)
   simp only[c,d,decide_false]at q ⊢;exact cV.val h2 q
theorem cV.any:∀{a:List (Int×Int×Int)}{ys:List (Key×V)},cV G a ys->∀k:Int,(ys.any λf=>decide (f.1=Wi k))=a.any λp=>decide (p.1=k)
 |[],_,h,k=>by cases h;rfl
 |p::a,_,⟨b,t,e,g,h2⟩,k=>by
  subst e;rw[WD,WD,cV.any h2 k];congr 1
  by_cases c:p.1=k
  .simp[c]
  .have d:¬(Wi p.1:Key)=Wi k:=λz=>c (UC z)
   simp[c,d]
theorem cV.map(a:G b=Z (.tup [.int r.1,.int r.2])):∀{f:List (Int×Int×Int)}{ys:List (Key×V)},cV G f ys->cV G (f.map λp=>if p.1=k then(p.1,r) else p) (ys.map λd=>if d.1=Wi k then(d.1,.ref b) else d)
 |[],_,h=>by cases h;rfl
 |p::f,_,⟨g,t,e,i,h2⟩=>by
  subst e;rw[VP,VP]
  by_cases c:p.1=k
  .rw[if_pos c,if_pos (by rw[c])];exact⟨b,_,rfl,a,cV.map a h2⟩
  .rw[if_neg c,if_neg λz=>c (UC z)];exact⟨g,_,rfl,i,cV.map a h2⟩
theorem cV.snoc(c:G b=Z (.tup [.int q.2.1,.int q.2.2])):∀{a:List (Int×Int×Int)}{ys:List (Key×V)},cV G a ys->cV G (a++[q]) (ys++[(Wi q.1,.ref b)])
 |[],_,h=>by cases h;exact⟨b,[],rfl,c,rfl⟩
 |p::a,_,⟨d,t,e,f,h2⟩=>by subst e;exact⟨d,_,rfl,f,cV.snoc c h2⟩
def cV.put(h:cV G c ys)(k)(a:G b=Z (.tup [.int r.1,.int r.2])):cV G (ζ.iz c k r) (putK ys (Wi k) (.ref b)):=by
 unfold ζ.iz putK;rw[h.any k]
 split
 .exact h.map a
 .exact h.snoc (q:=(k,r)) a
theorem cV.len:∀{a:List (Int×Int×Int)}{ys:List (Key×V)},cV G a ys->ys.length=a.length
 |[],_,h=>by cases h;rfl
 |p::a,_,⟨b,t,e,c,h2⟩=>by subst e;rw[VX,VX,cV.len h2]
def A2{K:W.Frag}(h:Rep K G (ζ.kH r) v):∃b,v=.ref b/\G b=Z (.tup [.int r.1,.int r.2]):=by
 obtain⟨b,xs,e,a,h2⟩:=h;rw[hJ (ns:=[r.1,r.2]) h2]at a;exact⟨b,e,a⟩
def LI{K:W.Frag}(h:G b=Z (.tup [.int r.1,.int r.2])):Rep K G (ζ.kH r) (.ref b):=⟨b,_,rfl,h,.int r.1,_,rfl,rfl,.int r.2,_,rfl,rfl,rfl⟩
end
section
variable{X:aq}{pins:List (VU×WS)}{σ:aR}{G H:ah}{s:VL}
def freeze(I:Inv X pins σ H s)(d:H a=Z u)(h:(∃ys,u=.cg ys)\/∃ys,u=.cD ys):∃g,Inv X pins σ (upd H a (.cx g u)) s:=by
 obtain⟨g,l,_⟩:=u5 I (a:=a) (by rcases h with⟨ys,rfl⟩|⟨ys,rfl⟩;exact .inl ⟨ys,.inl d⟩;exact .inr ⟨ys,.inl d⟩);have f:∀{b:VU},H b=Y->b≠a:=λq z=>by rw[z,d]at q;cases q
 have nt:∀{b:VU}{v:e8},H b=Z v->(∀ys,v≠.cg ys)->(∀ys,v≠.cD ys)->b≠a:=λq k h2 z=>by
  rw[z,d]at q;cases q;rcases h with⟨ys,e⟩|⟨ys,e⟩
  .exact k ys e
  .exact h2 ys e
 have i:∀{b:VU}{v:e8},b8 X.prog X.w H s.heap b v->b8 X.prog X.w (upd H a (.cx g u)) s.heap b v:=λq=>q.iG (λ_ _ _ z=>z)
  (λc z=>by rw[bo (nt z (λ_ w=>nomatch w) λ_ w=>nomatch w)];exact z) λc xs z=>by rw[bo (nt z (λ_ w=>nomatch w) λ_ w=>nomatch w)];exact z
 refine⟨g,I.ok,I.os,I.bare,⟨I.base.keep,I.base.slot,λb o e n r=>?_,I.base.there,λb xs e=>?_,λb o v e=>?_,λb y e=>?_⟩,I.loc,I.cell,?_,λx c e=>?_,λp m=>?_,λb v e=>?_,I.len⟩
 .have q:=I.base.free b o e n r;rw[bo (f q)];exact q
 .have q:=I.base.hS b xs e;rw[bo (nt q (λ_ w=>nomatch w) λ_ w=>nomatch w)];exact q
 .have q:=I.base.gV b o v e;rw[bo (nt q (λ_ w=>nomatch w) λ_ w=>nomatch w)];exact q
 .obtain⟨t,q⟩:=I.base.hQ b y e;exact⟨t,by rw[bo (nt q (λ_ w=>nomatch w) λ_ w=>nomatch w)];exact q⟩
 .rw[bo (f I.free)];exact I.free
 .rw[bo (f (I.fi x c e))];exact I.fi x c e
 .obtain⟨A,j,B⟩:=I.pin p m;exact⟨A,by rw[bo (f j)];exact j,B⟩
 .by_cases c:b=a
  .subst c;rw[b7]at e;cases e;exact⟨l,i (I.aM b u d)⟩
  .rw[bo c]at e;exact i (I.aM b v e)
def uW(h:ai X e l):ai X e (λσ H Q=>l σ H λv b=>∃a u,v=.ref a/\b a=Z u/\((∃ys,u=.cg ys)\/∃ys,u=.cD ys)/\∀c,Q v (upd b a (.cx c u))):=by
 intro pins s σ H Q I q;refine Q2 (h pins s σ H _ I q) (λw n m=>?_) λ_ _ z=>z
 obtain⟨v,b,d,j,a,u,e,g,i,k⟩:=m;obtain⟨c,f⟩:=freeze d g i;exact⟨v,_,f,j,k c⟩
end
section
variable{xp:cf}{X:aq}{aa:List Nat}{m:dC}{f:ay->aV D}{val:V3}{pos p1 p2 p3 p4 nR:Xo}{i j:Nat}{x y:V1}{pins:List (VU×WS)}{σ:aR}{G H:ah}{s:VL}{ae:ay}
def Gl(d:aF G H)(c:H a=Y)(e:∀xs,b≠.tup xs):Ext G H (upd G a b) (upd (upd H a o) a b):=by rw[vM];exact Ext.put d c
def L3(e:i∈aa)(c:X.N.Nodup)(hi:X.N[i]?=Z x)(g:Loc X.env.scope x)(d:X.fn x=J\/X.env.scope.names.lookup x=Z .local):bF X (.Assign [.Name x p1] (.Dict [] [] nR) pos) (bA xp X aa λae=>.ok (.aN (ae.set i (Z (.aT []))))):=by
 rintro pins s σ H T I ⟨h,k,G,ae,a,hw⟩;refine nY c hi g Kj rfl d pins s σ H T I ?_;intro p b;exact hw _ G _ (a.n6 (Ext.own a.aY.sub b λ_ z=>nomatch z) e rfl b7 b (a.aY.sub.free b) rfl)
def L4(e:i∈aa)(c:X.N.Nodup)(hi:X.N[i]?=Z x)(g:Loc X.env.scope x)(d:X.fn x=J\/X.env.scope.names.lookup x=Z .local):bF X (.Assign [.Name x p1] (.Dict [] [] nR) pos) (bA xp X aa λae=>.ok (.aN (ae.set i (Z (.aK []))))):=by
 rintro pins s σ H T I ⟨h,k,G,ae,a,hw⟩;refine nY c hi g Af rfl d pins s σ H T I ?_;intro p b;exact hw _ G _ (a.n6 (Ext.own a.aY.sub b λ_ z=>nomatch z) e rfl b7 b (a.aY.sub.free b) ⟨[],rfl,rfl⟩)
def L5:ai X (.Dict [] [] nR) (av xp X aa .val λ_=>.ok (.aK [])):=by
 rintro pins s σ H Q I ⟨G,ae,b,hw⟩;refine uW Af pins s σ H Q I λp a=>⟨p,_,rfl,b7,.inl ⟨_,rfl⟩,λc=>?_⟩
 exact hw (.ref p) _ _ (Gl b.sub a λ_ z=>nomatch z) ⟨p,c,[],rfl,b7,rfl⟩
def BJ(a:cH X.K aa G H ae σ)(d:j∉aa){k:List Int}(h:ae[j]?=Z (Z (.tup (k.map .int)))):∃b,σ[j]?=Z (Z (V.ref b))/\H b=Z (.tup ((k.map (Wi (β:=V1))).map bQ)):=by
 obtain⟨v,c,b,ys,rfl,h2,h3⟩:=a.val j _ h d;rw[hJ h3]at h2;exact⟨b,c,by rw[y1];exact a.sub _ _ h2⟩
def L2(hi:i∉aa)(u:j∉aa)(o:X.N[i]?=Z x)(v:dV X.env.scope x)(g:(x==("__debug__":V1))=VF)(h2:(x==("__classdict__":V1))=VF)(q:X.N[j]?=Z y)(w:dV X.env.scope y)(h:(y==("__debug__":V1))=VF)(l:(y==("__classdict__":V1))=VF):ai X (.Dict [Z (.Name x p1)] [.Name y p2] pos) (av xp X aa .val λae=>ζ.m6 ae[i]? ae[j]?):=by
 rintro pins s σ H Q I ⟨G,ae,a,hw⟩;dsimp only at hw;unfold ζ.m6 at hw;cases e1:ζ.eo ζ.intD ae[i]? with
 |none=>rw[e1]at hw;exact hw.elim
 |some k =>
  cases e2:ζ.eo ζ.rowOf ae[j]? with
  |none=>rw[e1,e2]at hw;exact hw.elim
  |some r =>
   rw[e1,e2]at hw;obtain⟨N,A,B⟩:=k8 e1;obtain⟨O,C,E⟩:=k8 e2;cases pP B;cases A1 E;obtain⟨L,k1,c⟩:=a.val i _ A hi;have c:L=.int k:=c;subst c;obtain⟨R,k2,M⟩:=a.val j _ C u;obtain⟨b,rfl,t⟩:=A2 M;refine uW (Ki (KQ (eZ o v g h2) (eZ q w h l) KR) rfl rfl (λz=>nomatch z) (by simp)) pins s σ H Q I λp d=>?_
   refine⟨_,k1,_,k2,b7,[(Wi k,.ref b)],rfl,by simp,p,_,rfl,b7,.inl ⟨_,rfl⟩,λe=>?_⟩;have n:=a.sub.free d;refine hw (.ref p) (upd G p (.cx e (.cg (lQ [] [(Wi k,.ref b)])))) _ (by rw[vM,vM];exact Ext.put a.sub d) ⟨p,e,_,rfl,b7,b,[],rfl,d0 n _ _ t,rfl⟩
def L1(U:X.A.units+64<WJ)(u:j∉aa)(L:X.N[i]?=Z x)(N:dV X.env.scope x)(B:(x==("__debug__":V1))=VF)(h2:(x==("__classdict__":V1))=VF)(M:X.N[j]?=Z y)(O:dV X.env.scope y)(C:(y==("__debug__":V1))=VF)(E:(y==("__classdict__":V1))=VF):ai X (.Subscript (.Name x p1) (.Name y p2) pos) (av xp X aa m λae=>ζ.ib ae[i]? ae[j]?):=by
 rintro pins s σ H Q I ⟨G,ae,g,hw⟩;refine Kh ⋯ (eZ L N B h2) (eZ M O C E) (λ_ _=>rfl) pins s σ H Q I ?_;dsimp only at hw;have S:∀e k,ζ.hq ae[i]?=Z e->ζ.eo ζ.hc ae[j]?=Z k->vv (jH i) (jH j) σ H Q:=λe k e1 e2=>by
  rw[ζ.ib,e1,e2]at hw;dsimp only at hw;obtain⟨v,k1,a,rfl,k2⟩:=g.view (mZ e1);obtain⟨w,o,p⟩:=k8 e2;cases Ci p;obtain⟨b,l,k5⟩:=BJ g u o;cases e3:ζ.kR e k with
  |none=>rw[e3]at hw;exact hw.elim
  |some n =>
   rw[e3]at hw;refine⟨_,k1,_,l,a,.int n,rfl,.inr ⟨_,_,b,k2,rfl,k5,by rw[Fj,e3];rfl⟩,hw _ G H (Ext.refl g.sub) (by cases m<;>rfl)⟩
 have R:∀e k,ζ.gs ae[i]?=Z e->ζ.eo ζ.intD ae[j]?=Z k->a7 (match ζ.jJ e k with|some r=>.ok (ζ.kH r)|none=>.bad) (λd=>∀v t h,Ext G H t h->a8 X.K H t h m d v->Q v h) (λc=>dy xp X c H)->vv (jH i) (jH j) σ H Q:=λe k e1 e2 hw=>by
  obtain⟨v,k1,a,ys,rfl,k2,k3⟩:=g.view (o2 e1);obtain⟨w,o,p⟩:=k8 e2;cases pP p;obtain⟨T,l,q⟩:=g.val j _ o u;have q:T=.int k:=q;subst q;cases e3:ζ.jJ e k with
  |none=>rw[e3]at hw;exact hw.elim
  |some r =>
   rw[e3]at hw;obtain⟨b,z,A⟩:=k3.val e3;refine⟨_,k1,_,l,a,.ref b,rfl,.inl ⟨ys,Wi k,k2,rfl,z.symm⟩,hw _ G H (Ext.refl g.sub) ?_⟩;have:=LI (K:=X.K) A;cases m<;>exact this
 cases e1:ζ.hq ae[i]? with
 |some e =>
  cases e2:ζ.eo ζ.hc ae[j]? with
  |some k=>exact S e k e1 e2
  |none =>
   rw[ζ.ib,e1,e2]at hw;have:ζ.gs ae[i]?=none:=(by rw[mZ e1];rfl);rw[this]at hw;exact hw.elim
 |none =>
  rw[ζ.ib,e1]at hw;dsimp only at hw;cases e3:ζ.gs ae[i]? with
  |none=>rw[e3]at hw;exact hw.elim
  |some e =>
   cases e4:ζ.eo ζ.intD ae[j]? with
   |none=>rw[e3,e4]at hw;exact hw.elim
   |some k=>rw[e3,e4]at hw;exact R e k e3 e4 hw
def L6(bh:X.A.units+64<WJ)(p:i∈aa)(S:j∉aa)(a5:X.N[i]?=Z x)(aL:dV X.env.scope x)(a2:(x==("__debug__":V1))=VF)(h2:(x==("__classdict__":V1))=VF)(aw:X.N[j]?=Z y)(b1:dV X.env.scope y)(a3:(y==("__debug__":V1))=VF)(a4:(y==("__classdict__":V1))=VF)(aG:ai X val (av xp X aa .val f))(aJ:Xb val (Z (.Subscript (.Name x p1) (.Name y p2) p3)) pos.line X.env=pure VF):
  bF X (.Assign [.Subscript (.Name x p1) (.Name y p2) p3] val pos) (bA xp X aa λae=>f ae>>=λd=>ζ.lr ae[i]? ae[j]? d>>=λz=>.ok (.aN (ae.set i (Z z)))):=by
 rintro pins s σ H T I ⟨B,l,G,ae,L,hw⟩;refine K2 ⋯ (eZ a5 aL a2 h2) (eZ aw b1 a3 a4) aG aJ pins s σ H T I ?_;refine⟨G,ae,L.aY,aS (aC.mp hw) (λd k v R C bf A=>?_) λ_ z=>z.mono L.ext.h⟩;have h:=L.step bf;have k:=aC.mp k;have a1:∀g fl n,ζ.hq ae[i]?=Z g->ζ.eo ζ.hc ae[j]?=Z fl->d=.int n->g.length<1000->fg X.K aa B l T (.aN (ae.set i (Z (.aT (ζ.putN g fl n)))))->∃w,σ[i]?=Z (Z w)/\∃u,σ[j]?=Z (Z u)/\∃a iQ,w=.ref a/\gH C a u v iQ/\T.aN σ iQ:=λg fl n e1 e2 E hz q=>by
  subst E;have A:v=.int n:=A;subst A;obtain⟨a,o,k1,k2,k3,t⟩:=h.aY.lst i _ (mZ e1) p rfl;cases t;obtain⟨U,M,N⟩:=k8 e2;cases Ci N;obtain⟨b,k5,b2⟩:=BJ h.aY S M;refine⟨_,k1,_,k5,a,_,rfl,gH.t k2 b2 (by unfold eR;rw[VH,V7];lia),?_⟩;rw[Fi];exact q σ R _ (h.write (d:=.aT g) (e:=.aT (ζ.putN g fl n)) p (mZ e1) rfl rfl k1 k3 rfl)
 have a0:∀g fl r,ζ.gs ae[i]?=Z g->ζ.eo ζ.intD ae[j]?=Z fl->d=ζ.kH r->g.length<1000->fg X.K aa B l T (.aN (ae.set i (Z (.aK (ζ.iz g fl r)))))->∃w,σ[i]?=Z (Z w)/\∃u,σ[j]?=Z (Z u)/\∃a iQ,w=.ref a/\gH C a u v iQ/\T.aN σ iQ:=λg fl r e1 e2 E hz q=>by
  subst E;obtain⟨c,rfl,aA⟩:=A2 A;obtain⟨a,o,k1,k2,k3,ys,rfl,t⟩:=h.aY.lst i _ (o2 e1) p rfl;obtain⟨U,M,N⟩:=k8 e2;cases pP N;obtain⟨bp,k5,Q⟩:=h.aY.val j _ M S;have Q:bp=.int fl:=Q;subst Q;refine⟨_,k1,_,k5,a,_,rfl,gH.k (k:=Wi fl) k2 (by rw[t.len,V7];lia),?_⟩;exact q σ R _ (h.write (d:=.aK g) (e:=.aK (ζ.iz g fl r)) p (o2 e1) rfl rfl k1 k3 ⟨_,rfl,t.put fl aA⟩)
 have O:a7 (match ζ.gs ae[i]?,ζ.eo ζ.intD ae[j]?,ζ.rowOf d with|some g,Z k,Z r=>if g.length<1000 then .ok (ζ.D.aK (ζ.iz g k r)) else .bad|_,_,_=>.bad) (λz=>a7 (.ok (ζ.cB.aN (ae.set i (Z z)))) (fg X.K aa B l T) (λc=>dy xp X c l)) (λc=>dy xp X c l)->∃w,σ[i]?=Z (Z w)/\∃u,σ[j]?=Z (Z u)/\∃a iQ,w=.ref a/\gH C a u v iQ/\T.aN σ iQ:=λk=>by
  cases e1:ζ.gs ae[i]? with
  |none=>rw[e1]at k;exact k.elim
  |some g =>
   cases e2:ζ.eo ζ.intD ae[j]? with
   |none=>rw[e1,e2]at k;exact k.elim
   |some fl =>
    cases e3:ζ.rowOf d with
    |none=>rw[e1,e2,e3]at k;exact k.elim
    |some r =>
     rw[e1,e2,e3]at k;dsimp only at k
     by_cases hz:g.length<1000
     .rw[if_pos hz]at k;exact a0 g fl r e1 e2 (A1 e3) hz k
     .rw[if_neg hz]at k;exact k.elim
 unfold ζ.lr at k;cases e1:ζ.hq ae[i]? with
 |none=>rw[e1]at k;exact O k
 |some g =>
  cases e2:ζ.eo ζ.hc ae[j]? with
  |none=>rw[e1,e2]at k;exact O k
  |some fl =>
   cases e3:ζ.intD d with
   |none=>rw[e1,e2,e3]at k;exact O k
   |some n =>
    rw[e1,e2,e3]at k;dsimp only at k
    by_cases hz:g.length<1000
    .rw[if_pos hz]at k;exact a1 g fl n e1 e2 (pP e3) hz k
    .rw[if_neg hz]at k;exact k.elim
def Mp(A:i∈aa)(N:X.N[i]?=Z x)(R:dV X.env.scope x)(M:(x==("__debug__":V1))=VF)(h2:(x==("__classdict__":V1))=VF):
  bF X (.Return (Z (.Name x p1)) pos) (bA xp X aa λae=>ζ.m1 ae[i]?>>=λd=>.ok (.bl d)):=by
 rintro pins s σ H T I ⟨L,l,G,ae,k,hw⟩;refine nX (uW (eZ N R M h2)) pins s σ H T I ?_;dsimp only at hw;have C:∀d,ae[i]?=Z (Z d)->eV d=J->(∀o,gL X.K G d o->(∃ys,o=.cg ys)\/∃ys,o=.cD ys)->(∀a o h,gL X.K G d o->G a=Y->Rep X.K (upd G a (.cx h o)) d (.ref a))->fg X.K aa L l T (.bl d)->jH i σ H (λv n=>∃a u,v=.ref a/\n a=Z u/\((∃ys,u=.cg ys)\/∃ys,u=.cD ys)/\∀h,T.bl v (upd n a (.cx h u))):=λd q p O Q hw=>by
  obtain⟨a,o,k1,k2,k3,B⟩:=k.aY.lst i d q A p;have h0:l a=none:=k.own i d a q p A k1;have t:=O o B;have nt:∀xs,o≠.tup xs:=λxs z=>by rcases t with⟨_,e⟩|⟨_,e⟩<;>rw[e]at z<;>cases z
  refine⟨_,k1,a,o,rfl,k2,t,λh=>?_⟩;refine hw _ (upd G a (.cx h o)) (upd H a (.cx h o)) ⟨k.ext.g.trans (d0 k3),λb v z=>?_,λb v z=>?_,λb U E=>?_,λb xs z=>.inr ?_⟩ (Q a o h B k3)
  .have:b≠a:=λw=>by rw[w,h0]at z;cases z
   rw[bo this];exact k.ext.h b v z
  .by_cases c:b=a
   .subst c;rw[b7]at z ⊢;exact z
   .rw[bo c]at z ⊢;exact k.aY.sub b v z
  .have:b≠a:=λw=>E (by rw[w];exact h0)
   rw[bo this];exact k.ext.new b U E
  .have c:b≠a:=λw=>by rw[w,b7]at z;cases z
   rw[bo c]at z ⊢;exact k.aY.bB b xs z
 cases q:ae[i]? with
 |none=>rw[q]at hw;exact hw.elim
 |some o =>
  cases o with
  |none=>rw[q]at hw;exact hw.elim
  |some d =>
   rw[q]at hw;cases d with
   |aT S=>exact C _ q rfl (λo e=>.inr ⟨_,e⟩) (λa o h e g=>by cases e;exact⟨a,h,rfl,b7⟩) hw
   |aK S=>exact C _ q rfl (λo ⟨ys,e,_⟩=>.inl ⟨ys,e⟩) (λa o h ⟨ys,e,r⟩ g=>by subst e;exact⟨a,h,ys,rfl,b7,r.mono (d0 g)⟩) hw
   |_=>exact hw.elim
end
abbrev wb(d:VU)(o:e8)(a:List V):hk :=
 ⟨λi H=>H d=Z o/\i<a.length,λi H v b=>b=H/\a[i]?=Z v,λi H=>H d=Z o/\a.length=i⟩
def OO{K:W.Frag}(d it)(G:ey.data=.dict f a0)(B:Vals g (f.toList.map (·.key))):
  Turn P w K a3 (wb d (.cx ey u) g) [it] it (λi h=>h.IsKeyIter it d i f.size a0) where
 mem:=by simp
 obj:=λi h st b a=>by
  have e:b=it:=⇑a;subst e;obtain⟨o,e,c,d⟩:=st;exact⟨o,e,λv z=>by rw[d]at z;cases z⟩
 keep:=λi h h' st k=>st.at λo e=>k it (by simp) o e
 item:=by
  intro X t hw r C i O s R H E I j st x;subst t hw r;obtain⟨A,hi⟩:=x;have y:s.heap.get? d=Z ey:=(show b8 X.prog X.w H s.heap d (.cx ey u) from I.aM d _ A).1;have L:g.length=f.size:=(by rw[B.length,VH,VK]);have N:g[i]?=Z g[i]:=P4 hi;obtain⟨v,k1,k2⟩:=B.get N;obtain⟨l,m,a1,n,p,q⟩:=j it (by simp);have M:i<f.size:=⋯;refine Pv.E2 st y G M λh' Q a2=>?_
  have S:Inv X O R H { s with heap:=h' }:=I.turned (t':=s.toks) (λb o a e=>(a2.2 b a).trans e) l m n p q;have U:f[i].key=v:=by
   rw[Qh,Qm,P9 M]at k1;exact Qy k1
  obtain⟨o,e,c,dd⟩:=id Q;exact⟨_,rfl,pw (s:={ s with heap:=h' }) e c dd ∅ ⟨g[i],H,S,by rw[U];exact k2,⟨rfl,N⟩,Q,λb a=>(j b a).1⟩⟩
 done:=by
  intro X t hw r C i O s R H E I j st x;subst t hw r;obtain⟨A,hi⟩:=x;have y:s.heap.get? d=Z ey:=(show b8 X.prog X.w H s.heap d (.cx ey u) from I.aM d _ A).1;have L:g.length=f.size:=(by rw[B.length,VH,VK]);obtain⟨l,m,a1,n,p,q⟩:=j it (by simp);subst hi;rw[L]at st;exact Pv.E0 (I.ok.hd C) st y G λh' T=>⟨rfl,I.turned (t':=s.toks) (λb o a e=>T b o a e) l m n p q⟩
 self:=λ_ _ _ _ _ st h=>wpAny_pyIter_keyiter st h
def HA{K:W.Frag}(c:∀a b,P a b->aF G a/\b d=Z o)(r:ax K G ds l):iS K P (wb d o l) ds where
 go:=λi a b h hi=>⟨(c a b h).2,by rw[<- r.length];exact hi⟩
 hV:=λi a b x n d h k j m=>by
  obtain⟨e,y⟩:=m;obtain⟨g,q⟩:=c a b h;subst e;obtain⟨v,f,h2⟩:=r.get j;rw[f]at y;cases y;exact⟨a,Ext.refl k,h2.mono g⟩
 stop:=λa b h=>⟨(c a b h).2,r.length.symm⟩
section
theorem xv{G H:ah}(c:∀b xs,H b=Z (.tup xs)->G b=Z (.tup xs)){K:W.Frag}:∀{a:List (List Int×Int)}{xs:List (List Key×VU×VI)},Paired (λ(p:List Key×V)(q:List Key×VU×VI)=>p.1=q.1/\H q.2.1=Z (.tup (p.1.map bQ))/\RelV p.2 q.2.2) (eR a) xs ->
  ax K G (a.map λp=>.tup (p.1.map .int)) (xs.map λq=>V.ref q.2.1)
 |[],_,h=>by cases h;rfl
 |p::a,_,h=>by
  cases h with
  |@cons _ q _ xs d h2 =>
   refine⟨V.ref q.2.1,_,rfl,⟨q.2.1,p.1.map V.int,rfl,c _ _ ?_,?_⟩,xv c h2⟩
   .have:=d.2.1;dsimp only at this;rw[y1]at this;exact this
   .exact ints_rep p.1
theorem CD:∀xs:List (List Key×VU×VI),Vals (xs.map λq=>V.ref q.2.1) (xs.map λq=>VY q.2.1)
 |[]=>.nil
 |q::xs=>.cons (show RelV (V.ref q.2.1) (VY q.2.1) from rfl) (CD xs)
end
theorem xu{K:W.Frag}:∀{a:List (Int×Int×Int)}{ys:List (Key×V)}{g:List (Key×VI)}{f:List DictEntry},cV G a ys->de ys g->Pairs (fm P w) f g ->
  ax K G (a.map λp=>.int p.1) (a.map λp=>V.int p.1)/\Vals (a.map λp=>V.int p.1) (f.map (·.key))
 |[],_,_,_,h,h2,h3=>by cases h;cases h2;cases h3;exact⟨rfl,.nil⟩
 |p::a,_,_,_,⟨b,t,e,o,j⟩,h2,h3=>by
  subst e;cases h2 with
  |@cons _ q _ r c m =>
   cases h3 with
   |@cons e0 _ n _ k1 k2 k3 =>
    obtain⟨k,l⟩:=xu (K:=K) j m k3;have c:=c.1;dsimp only at c;rw[<- c]at k1;refine⟨⟨.int p.1,_,rfl,rfl,k⟩,.cons ?_ l⟩;have k1:Xq p.1 e0.key=true:=k1;cases d:e0.key with
    |int i t=>rw[d]at k1;exact⟨t,by show e0.key=_;rw[d,(show i=p.1 by simpa[Xq] using k1)]⟩
    |_=>rw[d]at k1;cases k1
section
def Mb(a5:m=.view\/m=.val)(hi:i∉b1)(a2:X.N[i]?=Z x)(aA:dV X.env.scope x)(a1:(x==("__debug__":V1))=VF)(h2:(x==("__classdict__":V1))=VF):fK X bp (.Name x p1) (ha xp X b1 m λt=>ζ.ll t[i]?):=by
 rintro T s L H R I ⟨G,t,g,hw⟩;dsimp only at hw;have O:∀{d:VU}{ey:WS}{u:e8}{z:List V}{ds:List D}{l:Array DictEntry}{r:Nat},L[i]?=Z (Z (.ref d))->G d=Z (.cx ey u)->(d==WQ)=VF->ey.ExactDict->ey.data=.dict l r->ax X.K G ds z->Vals z (l.toList.map (·.key))->ds.length<=16777216 ->
   (∀N M y,Ext G H M y->iS X.K (kW m M y) N ds->ds.length<=16777216->R N y)->VO (VW X.prog X.w) X.A (Wx (.Name x p1) X.env) (λv f=>VO (VW X.prog X.w) X.A (X7 v) (rv X T L bp R) X.a6 f) X.a6 s:=λ{d ey u z ds l r} k1 k2 k3 aG k5 aJ aL a4 k=>by
  refine aP (eZ a2 aA a1 h2 T s L H (λv j=>v=.ref d/\j=H) I ⟨_,k1,rfl,rfl⟩) λv f bf=>?_
  obtain⟨w,j,q,A,e1,e2⟩:=bf;subst e1 e2;cases A;have Q:=g.sub _ _ k2;have n:f.heap.get? d=Z ey:=(show b8 X.prog X.w j f.heap d (.cx ey u) from q.aM d _ Q).1;refine Pv.E1 k3 n aG k5 ?_;refine⟨f.heap.objs.size,[f.heap.objs.size],_,_,j,rfl,q.kept (t':=f.toks) λb o e=>PX _ e,OO (u:=u) d _ k5 aL,⟨_,Qb _ rfl,rfl,rfl⟩,λb a3=>?_,k _ G j (Ext.refl g.sub) (HA (G:=G) (o:=.cx ey u) (λbh bw ⟨c,h⟩=>⟨c,?_⟩) aJ) a4⟩
  .have e:b=f.heap.objs.size:=⇑a3;subst e;exact q.nh (P0 _) (q.aM.fresh (P0 _))
  .rcases a5 with rfl|rfl
   .exact h _ _ Q
   .exact h _ _ (c _ _ k2)
 unfold ζ.ll at hw;cases e1:ζ.hq t[i]? with
 |some S =>
  rw[e1]at hw;obtain⟨v,k1,a,ey,rfl,k2⟩:=g.val i _ (mZ e1) hi;obtain⟨n,c,h,xs,B,o,l,r,p,C,E,U,a0⟩:=(show b8 X.prog X.w H s.heap a (.cx ey (.cD (eR S))) from I.aM a _ (g.sub _ _ k2));rw[n]at p;cases p;have aw:=xv (K:=X.K) g.bB B;refine O k1 k2 h C E aw (by rw[U,VR];exact CD xs) ?_ hw;rw[VH];unfold eR at c;rw[VH,V7]at c;exact c
 |none =>
  rw[e1]at hw;dsimp only at hw;cases e2:ζ.gs t[i]? with
  |none =>
   rw[e2]at hw;exact hw.elim
  |some S =>
   rw[e2]at hw;obtain⟨v,k1,a,ey,ys,rfl,k2,k3⟩:=g.val i _ (o2 e2) hi;obtain⟨n,c,h,bk,B,o,l,r,p,C,E,U,a0,bq⟩:=(show b8 X.prog X.w H s.heap a (.cx ey (.cg ys)) from I.aM a _ (g.sub _ _ k2));rw[n]at p;cases p;obtain⟨A,b2⟩:=xu (K:=X.K) k3 B a0;refine O k1 k2 h C E A b2 ?_ hw;rw[VH,<- k3.len];rw[V7]at c;exact c
end
section
def IB(a:f.cls=.type "list"\/f.cls=.type "tuple")(j:f.data=.seq e B)(y:¬(!c.isEmpty&&W0 (c.size+e.size))=J)(hz:c.size<=V5)(k:c.size+e.size<=V5+1):
  Meets (WN.«list.extend» ⟨[.ref l,.ref b],[]⟩) λ_ R s=>s.heap.get? l=Z { cls:=.type "list",dict:=Y,data:=.seq c n,slots:=#[] }/\s.heap.get? b=Z f /\
   R (.ok (.ret Value.none)) { s with heap:=s.heap.update l (Wh λx=>x++e),toks:=s.toks }:=by
 refine .of_wp λprog w A R s h=>?_
 obtain⟨z,g,d,tk,os⟩:=s;obtain⟨m,o,p,C⟩:=f;cases j;obtain⟨e1,e2,h⟩:=h;have q:=AutoSeq1.idx_int;have r:=AutoSeq1.sub_list_list;have t:=AutoSeq1.sub_list_tuple;have u:=UO;have v:=AutoSeq1.sub_tuple_list;have i:(c++e).size<=V5+1:=by rw[RL];exact k
 rcases a with a|a
 .cases a
  wp_walk using (Ua e1 rfl (hz:=hz) (_hz':=i)),Sp e1,Sp e2
  exact⟨_,rfl,h⟩
 .cases a
  wp_walk using (Ua e1 rfl (hz:=hz) (_hz':=i)),Sp e1,Sp e2
  exact⟨_,rfl,h⟩
def Li(K:W.Frag):V->List V->ah->cc->Prop:=λx c H Q=>∃l b xs a,x=.ref l/\c=[.ref b]/\H l=Z (.lst xs)/\(cz K H b a\/cW K H b a)/\xs.length+a.length<=V5/\Q .b0 (upd H l (.lst (xs++a)))
def Jk:rr X "list.extend" (Li X.K):=by
 intro y s C H x B v A Q I o m h;obtain⟨l,b,xs,p,rfl,rfl,j,i,hz,q⟩:=h;cases o;obtain⟨u,rfl,k⟩:=m.one;cases k;obtain⟨z,its,n,r,t,e⟩:=I.uq j;obtain⟨a,c,js,d,e2,f,g⟩:∃a c js,Vals p a/\s.heap.get? b=Z c/\(c.cls=.type "list"\/c.cls=.type "tuple")/\c.data=.seq a.toArray js:=by
  rcases i with i|i
  .obtain⟨a,d,⟨c,js,e2,f,_,g⟩,_⟩:=I.list i;exact⟨a,c,js,d,e2,.inl f,g⟩
  .obtain⟨a,d,⟨c,e2,f,js,g⟩,_⟩:=I.tuple i;exact⟨a,c,js,d,e2,.inr f,g⟩
 have w:=d.length;have hsz:its.toArray.size+a.toArray.size<=sizeLine:=by rw[P6,P6];lia
 refine U4 F.slot_list_extend ⟨_,e,rfl⟩ F.entry_list_extend (F.args_list_extend_2 _ _) (IB f g (by rw[zW hsz,WH];exact QV) (by rw[P6];lia) ⋯) ⟨e,e2,?_⟩;refine⟨.b0,_,I.uo (its':=its++a) j e (by simp) (r.append d) ?_,rfl,q⟩;rw[PY];lia
def L8{x n:V1}(u:i∈L)(a0:n="extend")(R:X.N[i]?=Z x)(a1:dV X.env.scope x)(Q:(x==("__debug__":V1))=VF)(h2:(x==("__classdict__":V1))=VF)(U:(N.endLine==O.line)=J)(S:ai X e (av xp X L .val f))(w:V4 [e] X.env=[(VF,Wx e X.env)]):
  bF X (.Expr (.Call (.Attribute (.Name x p1) n N) [e] [] O) p4) (bA xp X L λh=>ζ.fN h[i]?>>=λ_=>f h>>=λd=>ζ.ph h[i]? d>>=λy=>.ok (.aN (h.set i (Z y)))):=by
 subst a0;rintro a2 s B H T I ⟨a3,a4,G,h,l,hw⟩;refine qu (Ae Tp PySem.F.slot_list_extend PySem.F.type_list_extend Jk (eZ R a1 Q h2) (jw S w) rfl (yE w) U w rfl) rfl a2 s B H T I ?_;obtain⟨ds,q,hw⟩:=xb (aC.mp hw);obtain⟨a,o,k1,k2,k3,xs,rfl,m⟩:=l.aY.lst i (.lst ds) q u rfl;refine⟨_,k1,.inl ⟨rfl,xs,cz.of k2⟩,?_⟩;refine⟨G,h,l.aY,aS (aC.mp hw) (λd k v j C g M=>?_) λ_ z=>z.mono l.ext.h⟩;have E:=l.step g;rw[q]at k;cases d with
 |lst c =>
  have k:a7 ((if ds.length+c.length<=ζ.SZ then ζ.R.ok (ζ.D.lst (ds++c)) else .bad)>>=λy=>.ok (ζ.cB.aN (h.set i (Z y)))) _ _:=k;have k:=aC.mp k
  by_cases hz:ds.length+c.length<=ζ.SZ
  .rw[if_pos hz]at k;obtain⟨b,A,rfl,t,hR⟩:=M;have r:C a=Z (.lst xs):=g.h _ _ k2;have p:j a=none:=g.new a k3 (by rw[k2];exact λz=>nomatch z);refine⟨a,b,xs,A,rfl,rfl,r,(.inl (hM g.sub t)),by rw[<- m.length,<- hR.length,<- mD];exact hz,?_⟩;exact k B j _ (E.write (d:=.lst ds) (e:=.lst (ds++c)) u q rfl rfl k1 p ⟨_,rfl,(m.mono g.g).append hR⟩)
  .rw[if_neg hz]at k;exact k.elim
 |tup c =>
  have k:a7 ((if ds.length+c.length<=ζ.SZ then ζ.R.ok (ζ.D.lst (ds++c)) else .bad)>>=λy=>.ok (ζ.cB.aN (h.set i (Z y)))) _ _:=k;have k:=aC.mp k
  by_cases hz:ds.length+c.length<=ζ.SZ
  .rw[if_pos hz]at k;obtain⟨b,A,rfl,t,hR⟩:=M;have r:C a=Z (.lst xs):=g.h _ _ k2;have p:j a=none:=g.new a k3 (by rw[k2];exact λz=>nomatch z);refine⟨a,b,xs,A,rfl,rfl,r,(.inr (fW g.sub t)),by rw[<- m.length,<- hR.length,<- mD];exact hz,?_⟩;exact k B j _ (E.write (d:=.lst ds) (e:=.lst (ds++c)) u q rfl rfl k1 p ⟨_,rfl,(m.mono g.g).append hR⟩)
  .rw[if_neg hz]at k;exact k.elim
 |_=>exact k.elim
end
section
variable{xp:cf}{X:aq}{aa:List Nat}{m:dC}{f bY:ay->aV D}{e val c:V3}{body:List Wn}{pos p1 p2 p3 p4 ap gr:Xo}{i j:Nat}{x y n:V1}
def Mr(C:i∈aa)(U:ai X e (av xp X (aa.filter λj=>!(j==i)) .val f)):bF X (.Return (Z e) pos) (bA xp X aa λr=>ζ.fN r[i]?>>=λ_=>f r>>=λd=>.ok (.bl d)):=by
 rintro L s σ H T I ⟨E,A,G,r,g,hw⟩;have t:∀{j:Nat},(j∈aa.filter λj=>!(j==i))<->j∈aa/\j≠i:=λ{j}=>by rw[QH];simp
 have a2:∀ds,r[i]?=Z (Z (.lst ds))->a7 (f r>>=λd=>.ok (.bl d)) (fg X.K aa E A T) (λc=>dy xp X c A)->VO (VW X.prog X.w) X.A (exec (.Return (Z e) pos) X.env) (jZ X L T) X.a6 s:=λds q hw=>by
  obtain⟨a,o,k1,k2,k3,xs,rfl,a1⟩:=g.aY.lst i (.lst ds) q C rfl;have h0:A a=none:=g.own i (.lst ds) a q rfl C k1;have u:aF G (upd G a (.lst xs)):=d0 k3;have sub:aF (upd G a (.lst xs)) H:=λb v z=>by
   by_cases c:b=a
   .subst c;rw[b7]at z;rw[k2];exact z
   .rw[bo c]at z;exact g.aY.sub b v z
  have M:∀b ys,H b=Z (.tup ys)->upd G a (.lst xs) b=Z (.tup ys):=λb ys z=>u _ _ (g.aY.bB b ys z)
  have aw:cH X.K (aa.filter λj=>!(j==i)) (upd G a (.lst xs)) H r σ:=by
   refine⟨g.aY.len,sub,λj d e h=>?_,λj d e h B=>?_,λj d e h B=>?_,M,λj k d e b Q a3 a4 R S h a0=>g.aY.apart j k d e b Q a3 a4 R S (t.mp h).1 (t.mp a0).1⟩
   .by_cases c:j=i
    .subst c;rw[q]at e;cases e;exact⟨_,k1,a,xs,rfl,.inl (.inl b7),a1.mono u⟩
    .obtain⟨v,l,p⟩:=g.aY.val j d e λw=>h (t.mpr ⟨w,c⟩)
     exact⟨v,l,p.mono u⟩
   .obtain⟨v,l,p⟩:=g.aY.own j d e (t.mp h).1 B;exact⟨v,l,p.mono u⟩
   .obtain⟨b,o,l,p,aG,aJ⟩:=g.aY.lst j d e (t.mp h).1 B;have c:b≠a:=g.aY.apart j i d (.lst ds) b a e q B rfl (t.mp h).1 C (t.mp h).2 l k1;exact⟨b,o,l,p,by rw[bo c];exact aG,aJ.mono u⟩
  have ext:Ext E A (upd G a (.lst xs)) H:=by
   refine⟨g.ext.g.trans u,g.ext.h,sub,λb l p=>?_,λb ys z=>.inr (M b ys z)⟩;have:b≠a:=λw=>p (by rw[w];exact h0)
   rw[bo this];exact g.ext.new b l p
  refine nX U L s σ _ T I ⟨_,r,aw,aS (aC.mp hw) (λd k v N O aA a5=>?_) λ_ z=>z.mono ext.h⟩;exact k v N O (ext.trans aA) a5
 dsimp only at hw;cases q:r[i]? with
 |none=>rw[q]at hw;exact hw.elim
 |some o =>
  cases o with
  |none=>rw[q]at hw;exact hw.elim
  |some d =>
   rw[q]at hw;cases d with
   |lst ds=>exact a2 ds q hw
   |_=>exact hw.elim
def Mz(U:YR (VW X.prog X.w) X.A X.env X.a6)(S:cy X c (eH xp X aa bY))(Q:d3 X body (bA xp X aa v))(n):bF X (.While c body [] pos) (bA xp X aa λA=>ζ.hT (λa=>bY a>>=λx=>ζ.dN x) v n A):=by
 rintro a0 s a2 H T I ⟨g,b,G,A,R,hw⟩;refine K5 U S Q a0 s a2 H T I ?_;refine⟨λm B L=>∃p a,cb X.K aa g b p L a B/\a7 (ζ.hT (λa=>bY a>>=λx=>ζ.dN x) v m a) (fg X.K aa g b T) (λc=>dy xp X c b),⟨n,G,A,R,hw⟩,?_⟩;rintro m B L ⟨p,a,l,w⟩;cases m with
 |zero=>exact w.elim
 |succ m =>
  rw[ζ.hT]at w;refine⟨p,a,l.aY,aS (aC.mp w) (λk q E O N=>?_) λ_ z=>z.mono l.ext.h⟩;cases k with
  |false =>
   rw[if_neg ∅]at q ⊢;exact q B E O (l.step N)
  |true =>
   rw[if_pos rfl]at q ⊢;refine⟨λC u=>∃t o,cb X.K aa g b t u o C/\a7 (ζ.hT (λa=>bY a>>=λx=>ζ.dN x) v m o) (fg X.K aa g b T) (λc=>dy xp X c b),λC u h=>⟨m,Rw m,h⟩,g,b,E,a,l.step N,aS (aC.mp q) (λr M=>?_) λ_ z=>z⟩;cases r with
   |aN o=>exact λC t u a1=>⟨t,o,a1,M⟩
   |bl d=>exact M
theorem ax.set{K:W.Frag}(q:Rep K G d v):∀{ds:List D}{xs:List V}(n:Nat),ax K G ds xs->ax K G (ds.set n d) (xs.set n v)
 |[],_,_,h=>by cases h;rfl
 |_::_,_,0,⟨w,r,e,a,h2⟩=>by subst e;exact⟨v,r,rfl,q,h2⟩
 |_::_,_,n+1,⟨w,r,e,a,h2⟩=>by subst e;exact⟨w,r.set n v,rfl,a,ax.set q n h2⟩
def Mt{Q:ay->aV D}(S:i∈aa)(aJ:X.N[i]?=Z x)(bp:dV X.env.scope x)(aG:(x==("__debug__":V1))=VF)(h2:(x==("__classdict__":V1))=VF)(aL:ai X val (av xp X aa .val f))(b1:ai X c (av xp X aa .view Q))(b2:Xb val (Z (.Subscript (.Name x p1) c p3)) pos.line X.env=pure VF):
  bF X (.Assign [.Subscript (.Name x p1) c p3] val pos) (bA xp X aa λb=>f b>>=λd=>ζ.fN b[i]?>>=λ_=>Q b>>=λk=>ζ.kJ b[i]? k d>>=λz=>.ok (.aN (b.set i (Z z)))):=by
 rintro M s h H T I ⟨O,A,G,b,R,hw⟩;refine Ye (aP (aL M s h H (λv B=>∃a ds d l,h[i]?=Z (Z (.ref a))/\b[i]?=Z (Z (.lst ds))/\Rep X.K l d v/\cb X.K aa O A l B b h/\a7 (Q b>>=λk=>ζ.kJ b[i]? k d>>=λz=>.ok (ζ.cB.aN (b.set i (Z z)))) (fg X.K aa O A T) (λc=>dy xp X c A)) I ?_) λr bk ⟨v,B,a3,bw,a,ds,d,l,k1,q,k5,g,p⟩=>?_) b2
 .refine⟨G,b,R.aY,aS (aC.mp hw) (λd k v l B bq bf=>?_) λ_ z=>z.mono R.ext.h⟩;have g:=R.step bq;cases q:b[i]? with
  |none=>rw[q]at k;exact k.elim
  |some o =>
   cases o with
   |none=>rw[q]at k;exact k.elim
   |some d' =>
    cases d' with
    |lst ds =>
     obtain⟨a,o,k1,k2,k3,xs,rfl,U⟩:=g.aY.lst i (.lst ds) q S rfl;exact⟨a,ds,d,l,k1,rfl,bf,g,by rw[q]at k;exact k⟩
    |_=>rw[q]at k;exact k.elim
 .refine aP (eZ aJ bp aG h2 M bk h B (λw E=>w=.ref a/\E=B) a3 ⟨_,k1,rfl,rfl⟩) λu s2 ⟨w,E,a4,bh,e1,e2⟩=>?_
  subst e1 e2;refine aP (b1 M s2 h E (λw C=>∃k t,w=.int k/\Ext l E t C/\a7 (ζ.putAt ds k d>>=λz=>.ok (ζ.cB.aN (b.set i (Z z)))) (fg X.K aa O A T) (λc=>dy xp X c A)) a4 ⟨l,b,g.aY,aS (aC.mp p) (λaA z w t C N a0=>?_) λ_ z=>z.mono g.ext.h⟩) λcO s3 ⟨w,C,a5,a0,k,t,e1,N,p⟩=>?_
  .rw[q]at z;cases aA with
   |int k=>exact⟨k,t,a0,N,z⟩
   |_=>exact z.elim
  subst e1;have g:=g.step N;obtain⟨bH,o,a2,k2,k3,xs,rfl,U⟩:=g.aY.lst i (.lst ds) q S rfl;rw[k1]at a2;cases a2;unfold ζ.putAt at p;cases L:ζ.eu ds.length k with
  |none=>rw[L]at p;exact p.elim
  |some n =>
   rw[L]at p;rw[yV,U.length]at L;refine Q2 (set_list M s3 h C (.ref a) (.int k) v _ _ _ (λa1=>a1=upd C a (.lst (xs.set n v))) a5 bh a0 bw ⟨a,_,k,n,rfl,rfl,k2,L,rfl⟩) (λ_ bI ⟨a1,aw,e4⟩=>?_) λ_ _ z=>z
   subst e4;refine⟨h,_,aw,?_⟩;exact p h t _ (g.write (d:=.lst ds) (e:=.lst (ds.set n d)) S q rfl rfl k1 k3 ⟨_,rfl,ax.set (k5.mono N.g) n U⟩)
theorem ax.dropLast{K:W.Frag}(h:ax K G ds xs):ax K G ds.dropLast xs.dropLast:=by
 rw[YB,YB,<- h.length];exact h.take _
def s_pop(p:i∈aa)(B:n="pop")(w:X.N[i]?=Z x)(C:dV X.env.scope x)(v:(x==("__debug__":V1))=VF)(h2:(x==("__classdict__":V1))=VF)(z:(ap.endLine==gr.line)=J):
  bF X (.Expr (.Call (.Attribute (.Name x p1) n ap) [] [] gr) p4) (bA xp X aa λb=>ζ.qs b[i]?>>=λy=>.ok (.aN (b.set i (Z y)))):=by
 subst B;rintro L s k H T I ⟨t,u,G,b,l,hw⟩;refine qu (Kc Tp PySem.F.slot_list_pop PySem.F.type_list_pop Jl (eZ w C v h2) rfl z) rfl L s k H T I ?_;dsimp only at hw;have E:∀d ds,b[i]?=Z (Z (.lst (d::ds)))->fg X.K aa t u T (.aN (b.set i (Z (.lst (d::ds).dropLast))))->BX (BV X.K "list" AF (jH i)) T k H:=λd ds q hw=>by
  obtain⟨a,o,k1,k2,k3,xs,rfl,r⟩:=l.aY.lst i _ q p rfl;obtain⟨h,g,e,M,N⟩:=id r;subst e;have A:(h::g).length-1<(h::g).length:=(by simp);refine⟨_,k1,.inl ⟨rfl,_,cz.of k2⟩,a,h::g,_,rfl,rfl,k2,P4 A,?_⟩;exact hw k G _ (l.write (d:=.lst (d::ds)) (e:=.lst (d::ds).dropLast) p q rfl rfl k1 k3 ⟨_,rfl,ax.dropLast r⟩)
 cases q:b[i]? with
 |none=>rw[q]at hw;exact hw.elim
 |some o =>
  cases o with
  |none=>rw[q]at hw;exact hw.elim
  |some d =>
   rw[q]at hw;cases d with
   |lst ds =>
    cases ds with
    |nil=>exact hw.elim
    |cons d ds=>exact E d ds q hw
   |_=>exact hw.elim
end
def GH{K:W.Frag}(x:Ext G H c f)(r:a8 K H c f .fresh d v):∃e,Ext G H e f/\Rep K e d v:=by
 cases d with
 |lst ds =>
  obtain⟨a,xs,rfl,i,h2,h3,h4⟩:=r;refine⟨upd c a (.lst xs),⟨x.g.trans (d0 h3),x.h,λb o q=>?_,λb j h=>?_,λb xs q=>(x.bB b xs q).imp id λz=>d0 h3 _ _ z⟩,a,xs,rfl,.inl (.inl b7),h4.mono (d0 h3)⟩
  .by_cases g:b=a
   .subst g;rw[b7]at q;rw[i];exact q
   .rw[bo g]at q;exact x.sub b o q
  .rw[bo (λz=>h (by rw[z];exact h2))];exact x.new b j h
 |aT _=>exact r.elim
 |aK _=>exact r.elim
 |_=>exact⟨c,x,r⟩
section
def LR(L:X.calm=J)(Q:∀i∈f,i<X.N.length)(B:jO X c xs w)(O:ζ.dv k n=Z xs)(R:∀x,WI m X.env x=pure x)(hi:fK X n m (ha xp X f .view bI))(M:∀s3 a3 aG g,ai (eA X c w s3 a3 aG g) A (av xp (eA X c w s3 a3 aG g) f .val dq))(S:kZ xp X f c w a1 cO)(E:X.N.Nodup)(a0:X.N[i]?=Z y)(U:Loc X.env.scope y)(N:X.fn y=J\/X.env.scope.names.lookup y=Z .local):
  bF X (.Assign [.Name y p1] (.ListComp A [⟨n,m,a1,0⟩] c pos) p4) (bA xp X f λt=>(bI t>>=λds=>ζ.ir (ζ.bx (gc k cO dq t) ds)>>=λys=>.ok (.lst ys))>>=λd=>.ok (.aN (t.set i (Z d)))):=by
 have l:∃b:Bool,Xb (.ListComp A [⟨n,m,a1,0⟩] c pos) (Z (.Name y p1)) p4.line X.env=pure b:=⟨_,rfl⟩;obtain⟨b,l⟩:=l;cases b with
 |false =>
  by_cases j:i∈f
  .exact A9 j E a0 U (vc L Q B O R hi M S) l N
  .exact A8 j E a0 U (ai.val (vc L Q B O R hi M S)) l N
 |true =>
  rintro g s a2 H T I ⟨eC,ec,G,t,a,hw⟩;rw[exec_Assign_Name_used _ _ _ _ l];refine PV (wpAny_standAt (PV ?_));show VO _ X.A (do let _ <- comprehension (.ListComp A [⟨n,m,a1,0⟩] c pos) c X.env _ (newList []) VF (Wx m X.env) (Z (ZE (.Name y p1) X.env))) _ _ s;refine PV (Q2 (xl L Q B O R hi M S I a.aY (use:=Z (ZE (.Name y p1) X.env)) (Qc:=λ_ s'=>jZ X g T .next s') ?_) (λ_ s' cZ=>VG (VG cZ)) λ_ _ e=>e);have hw:=aC.mp (aC.mp hw);refine aC.mpr (aS hw (λds k1=>?_) λ_ q=>q.mono a.ext.h);refine aS (aC.mp k1) (λys k2 s4 h b1 C u m4 x r bJ bg dh=>?_) λ_ q=>q.mono a.ext.h
  have a4:Inv X g a2 h s4:=dh s4.heap (Zr _ _);obtain⟨nN,bh,bf,dg,aJ⟩:=id bJ;have cY:∀v,nN.data≠.cell v:=λv z=>by
   have:=aJ.1;rw[z]at this;cases this
  obtain⟨aw,aA,bw,bk,bq,bH⟩:=bg;have bp:Inv X (g++[(C,nN)]) a2 h s4:=a4.u0 λp dr=>by
   rcases P8.mp dr with z|z
   .exact a4.pin p (Qd _ z)
   .have z:=Qo.mp z;subst z;exact⟨dg,aw,aA,bw,cY⟩
  show VO _ X.A (ZE (.Name y p1) X.env (.ref u)) _ _ s4;refine wpAny_assign_Name (qQ bp E a0 U (v:=.ref u) rfl (λaL a5=>?_) N);have h5:aL.heap.get? C=Z nN:=(a5.pin (C,nN) (Qd _ (Qd _ (Qo.mpr rfl)))).1;refine⟨m4,⟨nN,bh,bf,h5,aJ⟩,λh' dW=>⟨a2.set i (Z (.ref u)),h,?_,?_⟩⟩
  .exact(a5.ml).turned (t':=aL.toks) (λb o a e=>(dW.2 b a).trans e) aw aA bk bq bH
  .by_cases j:i∈f
   .exact k2 _ b1 h (a.Br x j r)
   .obtain⟨b2,es,di⟩:=GH x r;exact k2 _ b2 h ((a.step es).n7 j di)
end
abbrev nice:V3->Bool
 |.Starred ..=>VF
 |.Set ..=>VF
 |.SetComp ..=>VF
 |.DictComp ..=>VF
 |.Slice ..=>VF
 |_=>J
def nn{α:Type}{a:α}{p:Prop}(h:Y=Z a):p:=nomatch h
def d2(h:ζ.dK x=Z y):∃p,x=.Name y p:=by
 cases x with
 |Name z p=>cases h;exact⟨p,rfl⟩
 |_=>exact nn h
def Cv(h:ζ.vR x=Z c):∃k p,x=.Constant c k p:=by
 cases x with
 |Constant z k p=>cases h;exact⟨k,p,rfl⟩
 |_=>exact nn h
def O6(h:ζ.Cz x=Z a):∃k p,x=.Tuple a k p:=by
 cases x with
 |Tuple z k p=>cases h;exact⟨k,p,rfl⟩
 |_=>exact nn h
def Cw(h:ζ.vU x=Z a):∃p,x=.List a p:=by
 cases x with
 |List z p=>cases h;exact⟨p,rfl⟩
 |_=>exact nn h
def O1(h:ζ.Cr x=Z (a,o,b)):∃p,x=.BinOp a o b p:=by
 cases x with
 |BinOp l o r p=>cases h;exact⟨p,rfl⟩
 |_=>exact nn h
def vV(h:ζ.mm x=Z (o,a)):∃p,x=.UnaryOp o a p:=by
 cases x with
 |UnaryOp o r p=>cases h;exact⟨p,rfl⟩
 |_=>exact nn h
def Cs{os:List CmpOp}(h:ζ.oq x=Z (a,os,ys)):∃p,x=.Compare a os ys p:=by
 cases x with
 |Compare l o r p=>cases h;exact⟨p,rfl⟩
 |_=>exact nn h
def oo(h:ζ.vBool x=Z (o,a,p)):x=.BoolOp o a p:=by
 cases x with
 |BoolOp o a p=>cases h;rfl
 |_=>exact nn h
def q4(h:ζ.ot x=Z (a,b)):∃p,x=.Subscript a b p:=by
 cases x with
 |Subscript l r p=>cases h;exact⟨p,rfl⟩
 |_=>exact nn h
def O5(h:ζ.Cy x=Z (a,b,c)):∃p,x=.Slice a b c p:=by
 cases x with
 |Slice l r t p=>cases h;exact⟨p,rfl⟩
 |_=>exact nn h
def vQ(h:ζ.q2 x=Z (f,a,b)):∃p,x=.Call f a b p:=by
 cases x with
 |Call l r t p=>cases h;exact⟨p,rfl⟩
 |_=>exact nn h
set_option tactic.hygienic true in
theorem hg (h:ζ.fq x=Z (y,a)):∃p q,x=.Call (.Name y p) a [] q:=by
 unfold ζ.fq at h
 split at h
 .rename_i f b e1;obtain⟨q,rfl⟩:=vQ e1
  split at h
  .rename_i z e2;obtain⟨p,rfl⟩:=d2 e2;cases h;exact⟨p,q,rfl⟩
  .cases h
 .cases h
def Cu(h:ζ.Ct x=Z (a,b,c)):∃p,x=.ListComp a b c p:=by
 cases x with
 |ListComp l r t p=>cases h;exact⟨p,rfl⟩
 |_=>exact nn h
def dR(h:ζ.bc g ct v e x=J):nice x=true:=by
 cases a:nice x with
 |true=>rfl
 |false =>
  exfalso;cases x<;>first|(cases a;done)|skip
  all_goals (cases e<;>exact QV h)
def kM(h:nice e=J):V4 (e::a) env=(VF,Wx e env)::V4 a env:=by
 cases e<;>first|rfl|cases h
def fI(h:nice e=J):V4 [e] env=[(VF,Wx e env)]:=kM h
def Nh(h:nice e=J)(h':nice a=J):V4 [e,a] env=[(VF,Wx e env),(VF,Wx a env)]:=by rw[kM h,fI h']
def KI(h:∀e∈a,nice e=J):(Xe pos (V4 a env)).any (·.1)=false:=by
 induction a with
 |nil=>rfl
 |cons e a b =>
  rw[kM (h e VE)];show(VF||(Xe pos (V4 a env)).any (·.1))=VF;rw[b λz hz=>h z (VJ _ hz)];rfl
def HI(h:nice b=J):rx b:=by
 intro o i;cases b<;>first|rfl|cases h
def set_plain(h:nice b=J):∀x,WI b env x=pure x:=by
 intro x;cases b<;>first|rfl|cases h
def zy(h:nice b=J):Xp op b=false:=by
 cases b<;>first|rfl|cases h
def qR(h:nice e=J)(a:ζ.nK e=J):Xb e t n env=pure false:=by
 cases e<;>first|rfl|(cases a;done)|(cases h;done)
def kU:List Str:=["len","isinstance","int","bool","str","tuple","sorted","set","range","sum","max","list","any","all"]
structure el(P:Wd)(w:Wo)(K:W.Frag)(ao:V1->Option VI)(base:We)(xp:cf)(k:Nat)(g:ζ.Gt)(pg:ζ.cw)(Φ:ζ.da):Prop where
 fn:∀(f:Nat)(x:V1),g.fns[f]?=Z x->∃aW fd d7,ao x=Z (.ref aW)/\W.keepIn K (.ref aW)=J/\Binds K fd d7 []/\hj P w K ao base (gG P w xp) k aW fd d7 (kL K (Φ f) d7.length)/\∀ds,ds.length≠d7.length->Φ f ds=.bad
 blt:∀x:V1,x∈kU->ao x=Y
 hx:∀(j:Nat)(x:V1)(d:D),g.hx[j]?=Z x->pg.cs[j]?=Z d->∃v u,ao x=Z u/\RelV v u/\∀G,Rep K G d v
structure bG(xp:cf)(k:Nat)(g:ζ.Gt)(pg:ζ.cw)(Φ:ζ.da)(X:aq)(ct:ζ.bE):Prop where
 bS:el X.prog X.w X.K X.ao X.base xp k g pg Φ
 room:d9 k X.A
 units:X.A.units+64<WJ
 calm:X.calm=J
 nm:X.N=ct.N
 eG:ct.N.Nodup
 aa:∀i∈ct.aa,i<ct.N.length
 lc:∀x,ct.sc.names.lookup x=Z .local->X.env.scope.names.lookup x=Z .local
 mS:∀x,(ct.sc.names.lookup x=Z .cell\/ct.sc.names.lookup x=Z .free)->(X.env.scope.names.lookup x=Z .cell\/X.env.scope.names.lookup x=Z .free)
 gl:∀x,ct.sc.names.lookup x=Z .globalImplicit->X.env.kindOf x=Z .globalImplicit
section
def bG.fY(h:bG xp k g pg Φ X ct)(q:ζ.gD ct.sc x=J):dV X.env.scope x:=by
 unfold ζ.gD at q;simp only[RC,QC]at q;rcases q with(q|q)|q
 .exact .inl (h.lc x q)
 .exact .inr (h.mS x (.inl q))
 .exact .inr (h.mS x (.inr q))
def bG.lD(h:bG xp k g pg Φ X ct)(q:ζ.gy ct.sc x=J):cN X x:=by
 unfold ζ.gy at q;exact h.gl x ⇑q
def d6(h:ζ.okN x=J):(x==("__debug__":V1))=VF/\(x==("__classdict__":V1))=VF/\x≠"__name__":=by
 unfold ζ.okN at h;simp only[PW,QU]at h;exact⟨h.1.1,h.1.2,λz=>by rw[z]at h;exact absurd h.2 ∅⟩
theorem bG.blt(h:bG xp k g pg Φ X ct)(q:ζ.cX g ct.sc x=J)(a:x∈kU):cN X x/\X.ao x=none:=by
 unfold ζ.cX at q;simp only[PW,QU]at q;exact⟨h.lD q.1.1.1,h.bS.blt x a⟩
end
abbrev ku(v:Bool):dC:=if v then .view else .val
structure Res(xp:cf)(X:aq)(aa:List Nat)(v fr:Bool)(x:V3)(f:ay->aV D):Prop where
 dB:ai X x (av xp X aa (ku v) f)
 fresh:fr=J->ai X x (av xp X aa .fresh f)
 pt:cy X x (eH xp X aa f)
 Az:(∃op aB p,x=.BoolOp op aB p)->f6 X x (eH xp X aa f)
section
theorem Res.view(h:Res xp X a v b x f):ai X x (av xp X a .view f):=ai.view h.dB
theorem Res.val(h:Res xp X a VF b x f):ai X x (av xp X a .val f):=h.dB
def Ai(h:ai X x (av xp X a .val f)):ai X x (av xp X a (ku v) f):=by
 cases v with
 |true=>exact ai.view h
 |false=>exact h
def Res.kD(h:ai X x (av xp X j .val f))(i:∀b,Y6 x X.env b=(do let v <- b;standAt x.pos;Zl [v] (truthy v)))(d:∀op a p,x≠.BoolOp op a p)(g:c=VF):Res xp X j v c x f :=
 ⟨Ai h,λz=>(by rw[g]at z;cases z),iE (ai.view h) i,λ⟨op,a,p,e⟩=>absurd e (d op a p)⟩
def Res.kC(h:ai X x (av xp X g .fresh f))(d:∀b,Y6 x X.env b=(do let v <- b;standAt x.pos;Zl [v] (truthy v)))(c:∀op a p,x≠.BoolOp op a p):Res xp X g v i x f :=
 ⟨Ai (ai.val h),λ_=>h,iE (ai.view h) d,λ⟨op,a,p,e⟩=>absurd e (c op a p)⟩
def Res.ix(h:∀m,ai X x (av xp X b m f))(d:cy X x (eH xp X b f))(c:∀op a p,x≠.BoolOp op a p):Res xp X b v g x f :=
 ⟨h _,λ_=>h _,d,λ⟨op,a,p,e⟩=>absurd e (c op a p)⟩
end
def nF(N xs):(ζ.mask N xs).length=N.length:=by unfold ζ.mask;rw[VH]
structure mr(ct:ζ.bE)(scope:Xr)(xs:List V1):Prop where
 kind:scope.kind=.function
 jv:∀y∈scope.names,y.2≠.cell
 names:∀y∈scope.names,y.2=.local->scope.names.lookup y.1=Z .local
 dv:∀y∈xs,scope.names.lookup y=Z .local
 loc:∀y∈scope.names,y.2=.local->y.1∈xs\/y.1=(".0":V1)
 fr:∀y∈scope.names,y.2=.free->ct.sc.names.lookup y.1=Z .cell\/ct.sc.names.lookup y.1=Z .free
 same:∀p∈(ζ.mask ct.N xs).zip ct.N,p.1=p.2\/scope.names.lookup p.1=Y
 eG:(ζ.mask ct.N xs++xs).Nodup
 dot:(".0":V1)∉ζ.mask ct.N xs++xs
section
def mr.block(c:bG xp k g pg Φ X ct)(b:mr ct m xs):jO X m xs (ζ.mask ct.N xs++xs) where
 kind:=b.kind
 jv:=b.jv
 names:=b.names
 loc:=λy h=>b.loc (y,.local) (QX h) rfl
 dv:=b.dv
 fr:=λy d e=>c.mS y.1 (b.fr y d e)
 len:=by rw[PY,nF,c.nm]
 old:=λi y hi e f=>by
  rw[c.nm]at hi ⊢;rw[Qj (by rw[nF];exact hi)]at e;have hz:((ζ.mask ct.N xs).zip ct.N)[i]?=Z (y,ct.N[i]):=by
   rw[XE];exact⟨e,P4 hi⟩
  have a:=b.same _ (Rd hz);have d:y∈ζ.mask ct.N xs:=Rd e;rcases a with a|a
  .refine⟨by have a:y=ct.N[i]:=a;rw[P4 hi,<- a],λl=>?_,λz=>b.dot (VZ _ (z▸d))⟩;exact(TF.mp b.eG).2.2 y d y l rfl
  .simp only at a;rw[a]at f;cases f
 new:=λj=>by
  rw[c.nm,QD (by rw[nF];lia),nF];congr 1;lia
 eG:=b.eG
def mr.ok(a:bG xp k g pg Φ X ct)(b:mr ct c xs)(s3)(d)(e)(f):bG xp k g pg Φ (eA X c (ζ.mask ct.N xs++xs) s3 d e f) ⟨ζ.mask ct.N xs++xs,c,ct.aa⟩ where
 bS:=a.bS
 room:=a.room
 units:=a.units
 calm:=a.calm
 nm:=rfl
 eG:=b.eG
 aa:=λi hi=>by
  have:=a.aa i hi;show i<(ζ.mask ct.N xs++xs).length;rw[PY,nF];lia
 lc:=λx h=>qz h ∅
 mS:=λx h=>by
  rcases h with h|h
  .exact absurd rfl (b.jv _ (QX h))
  .exact u7 h
 gl:=λx h=>qz h ∅
end
def DY(h:ζ.mO ct j xs=J):mr ct j xs:=by
 unfold ζ.mO at h;rw[PW,PW,PW,PW,PW,PW,PW,PW,PW]at h;obtain⟨⟨⟨⟨⟨⟨⟨⟨⟨b,h2⟩,h3⟩,h4⟩,_⟩,h5⟩,c⟩,d⟩,f⟩,g⟩:=h;exact {
  kind:=Sm b
  jv:=λy a=>by simpa using Qr.mp h2 y a
  names:=λy a e=>by
   have:=Qr.mp h3 y a;rw[e]at this;simpa using this
  dv:=λy a=>by
   have:=Qr.mp h4 y a;simp only[PW,QC]at this;exact this.1
  loc:=λy a e=>by
   have:=Qr.mp h5 y a;rw[e]at this;simpa using this
  fr:=λy a e=>by
   have:=Qr.mp c y a;rw[e]at this;simpa using this
  same:=λp i=>by
   have:=Qr.mp d p i;simpa using this
  eG:=Sm f
  dot:=by simpa using g }
section
def LV(F:hj X.prog X.w X.K X.ao X.base (gG X.prog X.w xp) k l w b (kL X.K h b.length))(S:d9 k X.A)(L:cN X x)(O:X.ao x=Z (.ref l))(M:W.keepIn X.K (.ref l)=J)(A:Binds X.K w b [])(y:dU X (e::a) (jF xp X T m))(N:∀ds,ds.length≠b.length->h ds=.bad)(B:(x==("__debug__":V1))=VF)(C:V4 (e::a) X.env=(VF,Wx e X.env)::V4 a X.env)(R:(Xe pos (V4 a X.env)).any (·.1)=VF):
  ai X (.Call (.Name x p) (e::a) [] pos) (av xp X T .val λg=>m g>>=λds=>h ds):=by
 rintro U s a2 H Q I ⟨G,g,o,hw⟩;refine Kd (dvs:=[]) (ds:=[]) (E:=xF xp X) F S L O M A .nil Ka y B C R U s a2 H Q I ?_;have hw:=aC.mp hw;refine⟨G,g,o,?_⟩;cases q:m g with
 |ok ds =>
  rw[q]at hw;intro a4 t a3 f r;rw[QQ]
  by_cases n:ds.length=b.length
  .refine⟨by rw[<- r.length];exact n,t,ds,f.sub,(o.ext f).bB,r,?_⟩;refine aS hw (λd k v u i a1 a0=>k v u i (f.trans a1) a0) λc z i h2 D7 j=>?_
   injection j with j _;have:c=D7:=⋯;subst this;exact(z.mono f.h).mono h2
  .have hw:a7 (h ds) _ _:=hw;rw[N ds n]at hw;exact hw.elim
 |exc c=>rw[q]at hw;exact hw
 |bad=>rw[q]at hw;exact hw
end
section
variable{xp:cf}{k:Nat}{g:ζ.Gt}{pg:ζ.cw}{Φ:ζ.da}
def DR(o)(x y:D)(c):ζ.cA o x y≠.exc c:=by
 refine zT ?_ c;cases o<;>cases x<;>first|rfl|(cases y<;>first|rfl|exact ju rfl rfl|exact ju (ju rfl rfl) rfl)
def Im(d:D)(c):ζ.hB d≠.exc c:=by
 intro h;cases d<;>simp only[ζ.hB]at h<;>first|(cases h;done)|(split at h<;>cases h)
def M9(d:D)(c):(ζ.cL d>>=λxs=>ζ.sorted xs)≠.exc c:=by
 intro h;have a:∀xs:List D,ζ.sorted xs≠.exc c:=λxs h=>by
  unfold ζ.sorted at h
  split at h<;>cases h
 cases d with
 |tup xs=>exact a xs h
 |lst xs=>exact a xs h
 |_=>cases h
def MF(d:D)(c):(ζ.cL d>>=λxs=>ζ.R.ok (ζ.D.tup xs))≠.exc c:=by
 intro h;cases d<;>cases h
def Nu(d:D)(c):(ζ.lM d>>=λxs=>ζ.hO xs)≠.exc c:=by
 intro h;cases d with
 |lst xs =>
  have h:ζ.hO xs=.exc c:=h;unfold ζ.hO at h
  split at h<;>cases h
 |_=>cases h
def I2(d:D)(c):(ζ.lM d>>=λxs=>ζ.hE xs)≠.exc c:=by
 intro h;cases d with
 |lst xs =>
  have h:ζ.hE xs=.exc c:=h;unfold ζ.hE at h
  split at h<;>cases h
 |_=>cases h
def C6(d:D)(c):(ζ.cL d>>=λxs=>ζ.iW xs>>=λb=>ζ.R.ok (ζ.D.ag b))≠.exc c:=by
 intro h;have a:∀xs:List D,(ζ.iW xs>>=λb=>ζ.R.ok (ζ.D.ag b))≠.exc c:=λxs h=>by
  unfold ζ.iW at h;cases q:ζ.fM xs<;>rw[q]at h<;>cases h
 cases d with
 |tup xs=>exact a xs h
 |lst xs=>exact a xs h
 |_=>cases h
def Dg(d:D)(c):(ζ.cL d>>=λxs=>ζ.iX xs>>=λb=>ζ.R.ok (ζ.D.ag b))≠.exc c:=by
 intro h;have a:∀xs:List D,(ζ.iX xs>>=λb=>ζ.R.ok (ζ.D.ag b))≠.exc c:=λxs h=>by
  unfold ζ.iX at h;cases q:ζ.fM xs<;>rw[q]at h<;>cases h
 cases d with
 |tup xs=>exact a xs h
 |lst xs=>exact a xs h
 |_=>cases h
def MC(d:D)(c):(ζ.cL d>>=λxs=>ζ.R.ok (ζ.D.lst xs))≠.exc c:=by
 intro h;cases d<;>cases h
def fL{x y:V1}(h:(x==y)=J):x=y:=⇑h
def Mm{m:dC}(a:bG xp k g pg Φ X ct)(l:ζ.nW p=J)(j:x=ζ.nV p)(h:ζ.cX g ct.sc x=J)(c:ai X e (av xp X n .view f))(i:nice e=J):
  ai X (.Call (.Name x q) [e] [] pos) (av xp X n .fresh λo=>f o>>=λd=>ζ.hH pg.up p d):=by
 cases p with
 |len =>
  subst j;obtain⟨b,h2⟩:=a.blt h ∅;exact mb (m:=.fresh) Im f_len b h2 (by kernel_rfl) c ∅ ∅ (fI i)
 |sorted =>
  subst j;obtain⟨b,h2⟩:=a.blt h ∅;exact mb (m:=.fresh) M9 (Gs a.calm a.units) b h2 (by kernel_rfl) c ∅ ∅ (fI i)
 |sum =>
  subst j;obtain⟨b,h2⟩:=a.blt h ∅;exact mb (m:=.fresh) Nu (Gu a.calm) b h2 (by kernel_rfl) c ∅ ∅ (fI i)
 |max =>
  subst j;obtain⟨b,h2⟩:=a.blt h ∅;exact mb (m:=.fresh) I2 (Gr a.calm) b h2 (by kernel_rfl) c ∅ ∅ (fI i)
 |all =>
  subst j;obtain⟨b,h2⟩:=a.blt h ∅;exact mb (m:=.fresh) C6 (Gp a.calm) b h2 (by kernel_rfl) c ∅ ∅ (fI i)
 |any =>
  subst j;obtain⟨b,h2⟩:=a.blt h ∅;exact mb (m:=.fresh) Dg (Gq a.calm) b h2 (by kernel_rfl) c ∅ ∅ (fI i)
 |inst t=>cases l
 |d8=>cases l
def mc(a:bG xp k g pg Φ X ct)(h:ζ.oU o op=J):bP X (Wa op) (e6 X.K (ζ.cp o)):=by
 cases o<;>cases op<;>first|(cases h;done)|skip
 .exact D8 a.units
 .exact Ed a.units
 .exact Ec a.units
 .exact Eb
 .exact D9
 .exact Ea a.units
 .exact Ee a.units
def LU(h:ζ.z0 o op=J):bP X (WG op) (iA X.K (ζ.cA o)):=by
 cases o<;>cases op<;>first|(cases h;done)|skip
 .exact E3
 .exact Fb
 .exact E8
 .exact E5
 .exact E7
 .exact E4
 .exact Fc
def H8(h:nice c=J):YS [op,op'] [b,c]=false:=zy h
def boot_isinstance:Wu "isinstance"=Z (.builtin "isinstance"):=by kernel_rfl
def D2(t)(a:∀c,t≠.cls c):Wu (ζ.tyName t)=Z (.type (mj t))/\ζ.tyName t≠"__name__"/\(ζ.tyName t==("__debug__":V1))=VF/\ζ.tyName t∈kU:=by
 cases t with
 |cls c=>exact absurd rfl (a c)
 |int=>exact⟨by kernel_rfl,∅,∅,∅⟩
 |bool=>exact⟨by kernel_rfl,∅,∅,∅⟩
 |str=>exact⟨by kernel_rfl,∅,∅,∅⟩
 |tuple=>exact⟨by kernel_rfl,∅,∅,∅⟩
end
section
variable{xp:cf}{k:Nat}{g:ζ.Gt}{pg:ζ.cw}{Φ:ζ.da}
variable(xp k g pg Φ) in
structure gE (n:Nat):Prop where
 e:∀(e:ζ.E)(x:V3)(ct:ζ.bE)(v:Bool)(X:aq),sizeOf e<n->bG xp k g pg Φ X ct->ζ.bc g ct v e x=J->Res xp X ct.aa v (ζ.gv e) x (λae=>ζ.ev pg Φ ae e)
 a:∀(a:ζ.A)(aB:List V3)(ct:ζ.bE)(X:aq),sizeOf a<n->bG xp k g pg Φ X ct->ζ.i0 g ct a aB=J->dU X aB (jF xp X ct.aa λae=>ζ.fF pg Φ ae a)/\(∀e∈aB,nice e=J)/\∀ae ds,ζ.fF pg Φ ae a=.ok ds->ds.length=aB.length
 o:∀(o:ζ.O)(x:Option V3)(ct:ζ.bE)(X:aq),sizeOf o<n->bG xp k g pg Φ X ct->ζ.mU g ct o x=J->hn X x (mi xp X ct.aa λae=>ζ.i9 pg Φ ae o)
 i:∀(s:ζ.I)(x:V3)(ct:ζ.bE)(v:Bool)(X:aq)(eI:V3),sizeOf s<n->bG xp k g pg Φ X ct->ζ.gQ g ct v s x=J->(ζ.jx s=J->∃elts j p,eI=.Tuple elts j p)->fK X eI x (ha xp X ct.aa (ku v) λae=>ζ.eT pg Φ ae s)/\nice x=J
def uv(v):ku v=.view\/ku v=.val:=by cases v<;>simp[ku]
def DA(l:bG xp k g pg Φ X ct)(h:(ct.N[i]?==Z x&&ζ.gD ct.sc x&&ζ.okN x&&(v||!ct.aa.contains i))=J):Res xp X ct.aa v (ζ.gv (.var i)) (.Name x p) (λae=>ζ.ev pg Φ ae (.var i)):=by
 simp only[PW,QC,RC,QU]at h;obtain⟨⟨⟨m,h2⟩,h3⟩,h4⟩:=h;obtain⟨b,c,q⟩:=d6 h3;have d:X.N[i]?=Z x:=by rw[l.nm];exact m
 have f:=l.fY h2;refine⟨?_,λz=>(by cases z),iE (Bj d f b c) λ_=>rfl,λ⟨_,_,_,z⟩=>(by cases z)⟩;cases v with
 |true=>exact Bj d f b c
 |false =>
  rcases h4 with h4|h4
  .cases h4
  .exact My (λz=>by rw[QW.mpr z]at h4;cases h4) d f b c
def Dq(b:bG xp k g pg Φ X ct)(h:(g.hx[j]?==Z x&&ζ.gy ct.sc x&&ζ.okN x)=J):Res xp X ct.aa v (ζ.gv (.glob j)) (.Name x p) (λae=>ζ.ev pg Φ ae (.glob j)):=by
 simp only[PW,QC]at h;obtain⟨⟨f,h2⟩,h3⟩:=h;obtain⟨c,l,r⟩:=d6 h3;cases q:pg.cs[j]? with
 |none =>
  have e:∀ae,ζ.ev pg Φ ae (.glob j)=.bad:=λae=>Rc ζ.tM q
  exact Res.ix (λm=>Ba e) (iE (Ba e) λ_=>rfl) λ_ _ _ z=>by cases z
 |some d =>
  obtain⟨w,u,e1,e2,e3⟩:=b.bS.hx j x d f q;have e:(λae=>ζ.ev pg Φ ae (.glob j))=λ_=>.ok d:=funext λae=>ζ.pb j q
  rw[e];exact Res.kD (Ma (b.lD h2) e1 e2 e3 c) (λ_=>rfl) (λ_ _ _ z=>by cases z) rfl
def Dl(m:gE xp k g pg Φ n)(b:bG xp k g pg Φ X ct)(l:sizeOf a<n)(h:(g.fns[f]?==Z x&&ζ.gy ct.sc x&&ζ.okN x&&!aB.isEmpty&&ζ.i0 g ct a aB)=J):
  Res xp X ct.aa v (ζ.gv (.call f a)) (.Call (.Name x p) aB [] pos) (λae=>ζ.ev pg Φ ae (.call f a)):=by
 simp only[PW,QC,QU]at h;obtain⟨⟨⟨⟨d,h2⟩,h3⟩,h4⟩,h5⟩:=h;obtain⟨c,q,r⟩:=d6 h3;obtain⟨p1,p2,p3⟩:=m.a a aB ct X l b h5;obtain⟨t,u,w,e1,e2,e3,e4,e5⟩:=b.bS.fn f x d;cases aB with
 |nil=>cases h4
 |cons e aB =>
  exact Res.kD (LV e4 b.room (b.lD h2) e1 e2 e3 p1 e5 c (kM (p2 e VE)) (KI λz hz=>p2 z (VJ _ hz))) (λ_=>rfl) (λ_ _ _ z=>by cases z) rfl
def Dr(M:gE xp k g pg Φ n)(d:bG xp k g pg Φ X ct)(L:∀c,t=.cls c->False)(H:sizeOf a<n)(h:(x==("isinstance":V1)&&ζ.cX g ct.sc x&&y==ζ.tyName t&&ζ.cX g ct.sc y&&ζ.bc g ct J a e)=J):
  Res xp X ct.aa v (ζ.gv (.prim (.inst t) a)) (.Call (.Name x p) [e,.Name y N] [] pos) (λae=>ζ.ev pg Φ ae (.prim (.inst t) a)):=by
 simp only[PW]at h;obtain⟨⟨⟨⟨b,h2⟩,h3⟩,h4⟩,h5⟩:=h;have b:=fL b;have h3:=fL h3;subst b h3;have f:∀c,t≠.cls c:=λc z=>L c z
 obtain⟨b1,b2,q,u⟩:=D2 t f;obtain⟨w,B⟩:=d.blt h2 ∅;obtain⟨C,G⟩:=d.blt h4 u;have r:=M.e a e ct J X H d h5;have l:∀m,ai X (.Call (.Name "isinstance" p) [e,.Name (ζ.tyName t) N] [] pos) (av xp X ct.aa m λae=>ζ.ev pg Φ ae (.prim (.inst t) a)):=λm =>
  Md (up:=pg.up) f w B boot_isinstance C G b1 r.view ∅ ∅ b2 q (kM (dR h5))
 exact Res.ix l (iE (l _) λ_=>rfl) λ_ _ _ z=>by cases z
def Ds(t:gE xp k g pg Φ n){v:Bool}(c:bG xp k g pg Φ X ct)(q:sizeOf s<=n)(h:(x==("list":V1)&&ζ.cX g ct.sc x&&ζ.Bn s&&ζ.gQ g ct J s e)=J):
  ai X (.Call (.Name x p) [e] [] pos) (av xp X ct.aa .fresh λae=>ζ.ev pg Φ ae (.gB s)):=by
 simp only[PW]at h;obtain⟨⟨⟨b,h2⟩,h3⟩,h4⟩:=h;have b:=fL b;subst b;obtain⟨f,l⟩:=c.blt h2 ∅;cases s with
 |seq a =>
  conv at h4=>lhs;whnf
  have r:=t.e a e ct J X ↥q c h4;have e1:(λae=>ζ.ev pg Φ ae (.gB (.seq a)))=λae=>ζ.ev pg Φ ae a>>=λd=>ζ.cL d>>=λds=>.ok (.lst ds):=funext λae=>by
   rw[ζ.nf,ζ.tu];cases ζ.ev pg Φ ae a<;>rfl
  rw[e1];exact Bb (m:=.fresh) MC f_list f l (by kernel_rfl) r.view ∅ ∅ (fI (dR h4))
 |_=>cases h3
set_option tactic.hygienic true in
theorem Et (h:ζ.gQ g ct v (.cF a) x=J):∃m p y pos,x=.Call (.Name m p) [y] [] pos/\m="range"/\ζ.cX g ct.sc m=J/\ζ.bc g ct J a y=true:=by
 conv at h=>lhs;whnf
 split at h
 .rename_i m y e1;obtain⟨p,pos,rfl⟩:=hg e1;simp only[PW]at h;exact⟨m,p,y,pos,rfl,fL h.1.1,h.1.2,h.2⟩
 .cases h
def Dt(t:gE xp k g pg Φ n){v:Bool}(b:bG xp k g pg Φ X ct)(q:sizeOf s<=n)(h:(x==("tuple":V1)&&ζ.cX g ct.sc x&&ζ.Bz s&&ζ.gQ g ct J s e)=J):
  ai X (.Call (.Name x p) [e] [] pos) (av xp X ct.aa .val λae=>ζ.ev pg Φ ae (.tupI s)):=by
 simp only[PW]at h;obtain⟨⟨⟨c,h2⟩,h3⟩,h4⟩:=h;have c:=fL c;subst c;obtain⟨f,l⟩:=b.blt h2 ∅;cases s with
 |seq a =>
  conv at h4=>lhs;whnf
  have r:=t.e a e ct J X ↥q b h4;have e1:(λae=>ζ.ev pg Φ ae (.tupI (.seq a)))=λae=>ζ.ev pg Φ ae a>>=λd=>ζ.cL d>>=λds=>.ok (.tup ds):=funext λae=>by
   rw[ζ.xY,ζ.tu];cases ζ.ev pg Φ ae a<;>rfl
  rw[e1];exact Bb (m:=.val) MF Gv f l (by kernel_rfl) r.view ∅ ∅ (fI (dR h4))
 |cF a =>
  obtain⟨m,z,y,B,rfl,k1,k2,k3⟩:=Et h4;obtain⟨u,w⟩:=b.blt k2 (by rw[k1];decide);have r:=t.e a y ct J X ↥q b k3;exact Mx b.calm k1 rfl u w f l r.view (fI (dR k3))
 |_=>cases h3
def wC(w:gE xp k g pg Φ n)(q:bG xp k g pg Φ X ct)(r:sizeOf e<n/\sizeOf s<n/\sizeOf c<n){pos:Xo}(G:ζ.dv j t=Z xs)(h:((!ζ.jx s||j==2)&&ζ.mO ct d xs&&ζ.gQ g ct J s y&&ζ.bc g ⟨ζ.mask ct.N xs++xs,d,ct.aa⟩ VF e x&&ζ.kc g ⟨ζ.mask ct.N xs++xs,d,ct.aa⟩ c u)=J):
  jO X d xs (ζ.mask ct.N xs++xs)/\(∀z,WI y X.env z=pure z)/\fK X t y (ha xp X ct.aa .view λae=>ζ.eT pg Φ ae s)/\(∀s3 f l m,ai (eA X d (ζ.mask ct.N xs++xs) s3 f l m) x (av xp (eA X d (ζ.mask ct.N xs++xs) s3 f l m) ct.aa .val λae=>ζ.ev pg Φ ae e)) /\
   kZ xp X ct.aa d (ζ.mask ct.N xs++xs) u (λae=>ζ.i8 pg Φ ae c)/\(λae=>ζ.ev pg Φ ae (.comp e j s c))=λae=>ζ.eT pg Φ ae s>>=λds=>ζ.ir (ζ.bx (gc j (λae=>ζ.i8 pg Φ ae c) (λae=>ζ.ev pg Φ ae e) ae) ds)>>=λys=>.ok (.lst ys):=by
 simp only[PW]at h;obtain⟨⟨⟨⟨h0,H⟩,L⟩,M⟩,b⟩:=h;have B:=DY H;have R:ζ.jx s=J->∃elts j p,t=.Tuple elts j p:=λQ=>by
  rw[Q]at h0;have N:j=2:=⇑h0;subst N;cases t with
  |Tuple elts j p=>exact⟨elts,j,p,rfl⟩
  |_=>simp only[ζ.dv]at G;cases G
 obtain⟨S,T⟩:=w.i s y ct J X t r.2.1 q L R;refine⟨B.block q,set_plain T,S,λs3 f l m=>(w.e e x _ VF _ r.1 (B.ok q s3 f l m) M).dB,?_,rfl⟩;cases c with
 |none =>
  cases u with
  |nil=>exact .inl ⟨rfl,rfl⟩
  |cons _ _=>unfold ζ.kc at b;cases b
 |some e2 =>
  match u,b with
  |[],b=>unfold ζ.kc at b;cases b
  |[C],b =>
   refine .inr ⟨C,λae=>ζ.ev pg Φ ae e2,rfl,rfl,λs3 f l m=>?_⟩;have b:ζ.bc g ⟨ζ.mask ct.N xs++xs,d,ct.aa⟩ J e2 C=true:=(by unfold ζ.kc at b;exact b);exact(w.e e2 C _ J _ (by have:=r.2.2;simp at this;lia) (B.ok q s3 f l m) b).pt
  |_::_::_,b=>unfold ζ.kc at b;cases b
end
end aD
end
section
namespace aD
set_option tactic.hygienic true
open PySem PySem.Spec PyProof.Rows az
section
variable{xp:cf}{k:Nat}{g:ζ.Gt}{pg:ζ.cw}{Φ:ζ.da}{n:Nat}
def y6{a:List V3}(h:a.length<=1000):a.length<=sizeLine:=by rw[V7];lia
def Pa(h:ζ.mq g ct x t a y=Z e):a=e/\∃m p,y=.Name m p/\(x==("isinstance":V1))=J/\ζ.cX g ct.sc x=J/\((∀c,t≠.cls c)->(m==ζ.tyName t&&ζ.cX g ct.sc m)=J):=by
 unfold ζ.mq at h
 split at h
 .rename_i m e2;obtain⟨p,rfl⟩:=d2 e2
  split at h
  .rename_i b;cases h;rw[PW,PW]at b;exact⟨rfl,m,p,rfl,b.1.1,b.1.2,λd=>by cases t<;>first|exact b.2|exact(d _ rfl).elim⟩
  .cases h
 .cases h
def O9(h:ζ.mq g ct x (.cls c) a y=Z e):False:=by
 unfold ζ.mq at h
 split at h
 .rw[if_neg]at h
  .cases h
  .simp[ζ.tyP]
 .cases h
def Pb(h:ζ.q6 g ct x a=Z e):∃y p q,a=.Call (.Name y p) [e] [] q/\(x==("sorted":V1))=J/\ζ.cX g ct.sc x=J/\(y==("set":V1))=J/\ζ.cX g ct.sc y=true:=by
 unfold ζ.q6 at h
 split at h
 .rename_i y b e2;obtain⟨d,p1,rfl⟩:=hg e2
  split at h
  .rename_i c;cases h;simp only[PW]at c;exact⟨y,d,p1,rfl,c.1.1.1,c.1.1.2,c.1.2,c.2⟩
  .cases h
 .cases h
def mn{ct:ζ.bE}{x:V1}{q:ζ.cT}{c:List V3}{e:V3}(h:(match c with|[e]=>if ζ.nW q&&x==ζ.nV q&&ζ.cX g ct.sc x then Z e else Y|_=>Y)=Z e):c=[e]/\ζ.nW q=J/\(x==ζ.nV q)=J/\ζ.cX g ct.sc x=true:=by
 match c,h with
 |[a],h =>
  simp only at h
  split at h
  .rename_i b;cases h;simp only[PW]at b;exact⟨rfl,b.1.1,b.1.2,b.2⟩
  .cases h
def Dv(u:gE xp k g pg Φ n)(d:bG xp k g pg Φ X ct)(r:sizeOf a<n)(b:ζ.CF g ct x w j=Z e)(h:ζ.bc g ct J a e=J):
  Res xp X ct.aa v (ζ.gv (.prim w a)) (.Call (.Name x p) j [] pos) (λB=>ζ.ev pg Φ B (.prim w a)):=by
 have i:∀{q:ζ.cT},j=[e]/\ζ.nW q=J/\(x==ζ.nV q)=J/\ζ.cX g ct.sc x=J->Res xp X ct.aa v (ζ.gv (.prim q a)) (.Call (.Name x p) j [] pos) (λB=>ζ.ev pg Φ B (.prim q a)):=λ{q} ⟨h0,f,h2,h3⟩=>by
  subst h0;have A:=u.e a e ct J X r d h;exact Res.kC (Mm (m:=.fresh) d f (fL h2) h3 A.view (dR h)) (λ_=>rfl) (λ_ _ _ z=>by cases z)
 cases w with
 |d8 =>
  match j,b with
  |[l],b =>
   have b:ζ.q6 g ct x l=Z e:=b;obtain⟨y,p1,p2,rfl,f,h2,h3,h4⟩:=Pb b;obtain⟨C,E⟩:=d.blt h2 (by rw[fL f];decide);obtain⟨G,H⟩:=d.blt h4 (by rw[fL h3];decide);have A:=u.e a e ct J X r d h;exact Res.kC (Mv d.calm d.units (fL f) (fL h3) C E G H A.view (fI (dR h))) (λ_=>rfl) (λ_ _ _ z=>by cases z)
 |len=>exact i (mn b)
 |sorted=>exact i (mn b)
 |sum=>exact i (mn b)
 |max=>exact i (mn b)
 |all=>exact i (mn b)
 |any=>exact i (mn b)
 |inst t =>
  match j,b with
  |[l,y],b =>
   have b:ζ.mq g ct x t l y=Z e:=b;obtain⟨rfl,m,I,rfl,f,h2,h3⟩:=Pa b
   by_cases s:∃c,t=.cls c
   .obtain⟨c,rfl⟩:=s;exact(O9 b).elim
   .refine Dr u d (λc o=>s ⟨c,o⟩) r ?_;have h3:=h3 λc o=>s ⟨c,o⟩
    rw[PW]at h3;simp only[PW];exact⟨⟨⟨⟨f,h2⟩,h3.1⟩,h3.2⟩,h⟩
def Cx{n k:V1}(h:ζ.q3 z=Z (n,k)):∃p1 p2 pos,z=.Subscript (.Name n p1) (.Name k p2) pos:=by
 unfold ζ.q3 at h
 split at h
 .rename_i x y e1;obtain⟨pos,rfl⟩:=q4 e1
  split at h
  .rename_i b a e2 e3;cases h;obtain⟨p1,rfl⟩:=d2 e2;obtain⟨p2,rfl⟩:=d2 e3;exact⟨p1,p2,pos,rfl⟩
  .cases h
 .cases h
def O3(h:ζ.vT z=Z (a,b)):∃p,z=.Dict a b p:=by
 cases z with
 |Dict a b pos=>cases h;exact⟨_,rfl⟩
 |_=>exact nn h
def O2{n k:V1}(h:ζ.vS z=Z (n,k)):∃p1 p2 pos,z=.Dict [Z (.Name n p1)] [.Name k p2] pos:=by
 unfold ζ.vS at h;rcases e:ζ.vT z with _|⟨_|⟨_|a,_|⟨_,_⟩⟩,_|⟨b,_|⟨_,_⟩⟩⟩<;>rw[e]at h<;>first|(cases h;done)|dsimp only at h
 rcases c:ζ.dK a with _|i<;>rcases d:ζ.dK b with _|f<;>rw[c,d]at h<;>first|(cases h;done)|skip
 cases h;obtain⟨p1,rfl⟩:=d2 c;obtain⟨p2,rfl⟩:=d2 d;obtain⟨p,rfl⟩:=O3 e;exact⟨_,_,_,rfl⟩
def tX(h:ζ.pR z=J):∃nR,z=.Dict [] [] nR:=by
 unfold ζ.pR at h
 split at h
 .exact⟨_,rfl⟩
 .cases h
def nJ{n:V1}(h:ζ.kA ct i n=J):ct.N[i]?=Z n/\ζ.gD ct.sc n=J/\ζ.okN n=J/\i∈ct.aa:=by
 unfold ζ.kA at h;simp only[PW,QC]at h;exact⟨h.1.1.1,h.1.1.2,h.1.2,QW.mp h.2⟩
def nU{n:V1}(h:ζ.kF ct i n=J):ct.N[i]?=Z n/\ζ.gD ct.sc n=J/\ζ.okN n=J/\i∉ct.aa:=by
 unfold ζ.kF at h;simp only[PW,QC,QU]at h;exact⟨h.1.1.1,h.1.1.2,h.1.2,λz=>by rw[QW.mpr z]at h;cases h.2⟩
def C9{n:V1}(h:ζ.rD ct i n=J):ct.N[i]?=Z n/\ζ.gD ct.sc n=J/\ζ.okN n=true:=by
 unfold ζ.rD at h;simp only[PW,QC]at h;exact⟨h.1.1,h.1.2,h.2⟩
def Cq{n:V1}(h:ζ.vP x=Z (o,n,p)):x=.Attribute o n p:=by
 cases x with
 |Attribute o n p=>cases h;rfl
 |_=>exact nn h
def O0{x n:V1}(h:ζ.vO z=Z (x,n,a,y)):∃p gr,z=.Call (.Attribute (.Name x p) n a) [y] [] gr:=by
 unfold ζ.vO at h
 split at h
 .rename_i f e e1;obtain⟨gr,rfl⟩:=vQ e1
  split at h
  .rename_i o c b e2;obtain rfl:=Cq e2
   split at h
   .rename_i d e3;obtain⟨p,rfl⟩:=d2 e3;cases h;exact⟨p,gr,rfl⟩
   .cases h
  .cases h
 .cases h
def Nk(E:gE xp k g pg Φ n)(e)(x)(ct)(v)(X)(C:sizeOf e<n+1)(A:bG xp k g pg Φ X ct)(h:ζ.bc g ct v e x=J):Res xp X ct.aa v (ζ.gv e) x (λL=>ζ.ev pg Φ L e):=by
 cases e with
 |var i =>
  conv at h=>lhs;whnf
  split at h
  .rename_i y e1;obtain⟨p,rfl⟩:=d2 e1;exact DA A h
  .cases h
 |lit d =>
  conv at h=>lhs;whnf
  split at h
  .rename_i c e1;obtain⟨dg,p,rfl⟩:=Cv e1;exact Res.ix (λm=>Be h) (iE (Be h) λ_=>rfl) λ_ _ _ z=>by cases z
  .cases h
 |tup a =>
  conv at h=>lhs;whnf
  split at h
  .rename_i M e1;obtain⟨j,p,rfl⟩:=O6 e1;simp only[PW,Qn]at h;obtain⟨p1,p2,p3⟩:=E.a a M ct X ↥C A h.1;exact Res.kD (Mw p1 λL ds q=>by rw[p3 L ds q];exact y6 h.2) (λ_=>rfl) (λ_ _ _ z=>by cases z) rfl
  .cases h
 |lst a =>
  conv at h=>lhs;whnf
  split at h
  .rename_i M e1;obtain⟨p,rfl⟩:=Cw e1;simp only[PW,Qn]at h;obtain⟨p1,p2,p3⟩:=E.a a M ct X ↥C A h.1;exact Res.kC (Mf p1 λL ds q=>by rw[p3 L ds q];exact y6 h.2) (λ_=>rfl) (λ_ _ _ z=>by cases z)
  .cases h
 |bin op a b =>
  conv at h=>lhs;whnf
  split at h
  .rename_i x o y e1;obtain⟨p,rfl⟩:=O1 e1;simp only[PW]at h;have G:=E.e a x ct J X ↥C A h.1.2;have H:=E.e b y ct J X ↥C A h.2;exact Res.kC (LS (DR op) (LU h.1.1) G.view H.view) (λ_=>rfl) (λ_ _ _ z=>by cases z)
  .cases h
 |not a =>
  conv at h=>lhs;whnf
  rcases e1:ζ.mm x with _|⟨_|_|_|_,x⟩<;>rw[e1]at h<;>first|(cases h;done)|skip
  .obtain⟨p,rfl⟩:=vV e1;have G:=E.e a x ct J X ↥C A h;exact Res.ix (λm=>Mj G.view) (Mk G.pt) λ_ _ _ z=>by cases z
 |cmp op a b =>
  conv at h=>lhs;whnf
  rcases e1:ζ.oq x with _|⟨x,_|⟨o,_|⟨_,_⟩⟩,_|⟨y,_|⟨_,_⟩⟩⟩<;>rw[e1]at h<;>first|(cases h;done)|skip
  .obtain⟨p,rfl⟩:=Cs e1;simp only[PW]at h;have G:=E.e a x ct J X ↥C A h.1.2;have H:=E.e b y ct J X ↥C A h.2;have O:=zy (op:=o) (dR h.2);exact Res.ix (λm=>LW (mc A h.1.1) G.view H.view O) (LZ (mc A h.1.1) G.view H.view O) λ_ _ _ z=>by cases z
 |and a b =>
  conv at h=>lhs;whnf
  rcases e1:ζ.vBool x with _|⟨_|_,_|⟨x,_|⟨y,_|⟨z,r⟩⟩⟩,p⟩<;>rw[e1]at h<;>first|(cases h;done)|skip
  .obtain rfl:=oo e1;simp only[PW]at h;have G:=E.e a x ct J X ↥C A h.1;have H:=E.e b y ct v X ↥C A h.2;have I:=A7 (pos:=p) G.pt (Ld H.pt);exact⟨A6 G.view (uY H.dB),λz=>(by cases z),I.pt,λ_=>I⟩
  .obtain rfl:=oo e1;simp only[PW]at h;have G:=E.e a x ct J X ↥C A h.1;have H:=E.e b _ ct v X ↥C A h.2;have I:=A7 (pos:=p) G.pt (H.Az ⟨_,_,_,rfl⟩);exact⟨A6 G.view H.dB,λz=>(by cases z),I.pt,λ_=>I⟩
 |or a b =>
  conv at h=>lhs;whnf
  rcases e1:ζ.vBool x with _|⟨_|_,_|⟨x,_|⟨y,_|⟨z,r⟩⟩⟩,p⟩<;>rw[e1]at h<;>first|(cases h;done)|skip
  .obtain rfl:=oo e1;simp only[PW]at h;have G:=E.e a x ct J X ↥C A h.1;have H:=E.e b y ct v X ↥C A h.2;have I:=Bh (pos:=p) G.pt (Lf H.pt);exact⟨Bg G.view (uY H.dB),λz=>(by cases z),I.pt,λ_=>I⟩
  .obtain rfl:=oo e1;simp only[PW]at h;have G:=E.e a x ct J X ↥C A h.1;have H:=E.e b _ ct v X ↥C A h.2;have I:=Bh (pos:=p) G.pt (H.Az ⟨_,_,_,rfl⟩);exact⟨Bg G.view H.dB,λz=>(by cases z),I.pt,λ_=>I⟩
 |idx a b =>
  conv at h=>lhs;whnf
  split at h
  .rename_i x y e1;obtain⟨p,rfl⟩:=q4 e1;simp only[PW]at h;have G:=E.e a x ct J X ↥C A h.1;have H:=E.e b y ct J X ↥C A h.2;exact Res.kD (Mc G.view H.view (HI (dR h.2))) (λ_=>rfl) (λ_ _ _ z=>by cases z) rfl
  .cases h
 |slice a lo hi =>
  conv at h=>lhs;whnf
  split at h
  .rename_i x y e1;obtain⟨p,rfl⟩:=q4 e1
   split at h
   .rename_i l u e2;obtain⟨dr,rfl⟩:=O5 e2;simp only[PW]at h;have G:=E.e a x ct J X ↥C A h.1.1;have bg:=E.o lo l ct X ↥C A h.1.2;have dq:=E.o hi u ct X ↥C A h.2;exact Res.kC (Mu G.view bg dq) (λ_=>rfl) (λ_ _ _ z=>by cases z)
   .cases h
  .cases h
 |call f a =>
  conv at h=>lhs;whnf
  split at h
  .rename_i x M e1;obtain⟨p,q,rfl⟩:=hg e1;exact Dl E A ↥C h
  .cases h
 |prim dh a =>
  conv at h=>lhs;whnf
  split at h
  .rename_i x M e1;obtain⟨p,q,rfl⟩:=hg e1
   split at h
   .rename_i e e2;exact Dv E A ↥C e2 h
   .cases h
  .cases h
 |fO i j =>
  conv at h=>lhs;whnf
  split at h
  .rename_i aG aA e1;obtain⟨p1,p2,pos,rfl⟩:=Cx e1;rw[PW]at h;obtain⟨a1,a2,a3⟩:=C9 h.1;obtain⟨b1,b2,R,S⟩:=nU h.2;obtain⟨T,U,_⟩:=d6 a3;obtain⟨a0,a5,_⟩:=d6 R;have Q:∀m,ai X (.Subscript (.Name aG p1) (.Name aA p2) pos) (av xp X ct.aa m λL=>ζ.ib L[i]? L[j]?):=λm=>L1 A.units S (by rw[A.nm];exact a1) (A.fY a2) T U (by rw[A.nm];exact b1) (A.fY b2) a0 a5
   exact Res.ix Q (iE (Q .view) λ_=>rfl) λ_ _ _ z=>by cases z
  .cases h
 |glob j =>
  conv at h=>lhs;whnf
  split at h
  .rename_i y e1;obtain⟨p,rfl⟩:=d2 e1;exact Dq A h
  .cases h
 |max2 a b =>
  conv at h=>lhs;whnf
  rcases e1:ζ.fq x with _|⟨x,_|⟨y,_|⟨w,_|⟨_,_⟩⟩⟩⟩<;>rw[e1]at h<;>first|(cases h;done)|skip
  .obtain⟨p,q,rfl⟩:=hg e1;simp only[PW]at h;obtain⟨⟨⟨N,h2⟩,h3⟩,h4⟩:=h;obtain⟨aL,bh⟩:=A.blt h2 (by rw[fL N];decide);have G:=E.e a y ct J X ↥C A h3;have H:=E.e b w ct J X ↥C A h4;have Q:∀m,ai X (.Call (.Name x p) [y,w] [] q) (av xp X ct.aa m λL=>ζ.ev pg Φ L (.max2 a b)):=λm=>Mg A.calm (fL N) aL bh G.view H.view (Nh (dR h3) (dR h4)) (fI (dR h4))
   exact Res.ix Q (iE (Q .view) λ_=>rfl) λ_ _ _ z=>by cases z
 |mW op op' a b c =>
  conv at h=>lhs;whnf
  rcases e1:ζ.oq x with _|⟨x,_|⟨o,_|⟨cO,_|⟨_,_⟩⟩⟩,_|⟨y,_|⟨z,_|⟨_,_⟩⟩⟩⟩<;>rw[e1]at h<;>first|(cases h;done)|skip
  .obtain⟨p,rfl⟩:=Cs e1;simp only[PW]at h;obtain⟨⟨⟨⟨N,h2⟩,h3⟩,h4⟩,h5⟩:=h;have G:=E.e a x ct J X ↥C A h3;have H:=E.e b y ct J X ↥C A h4;have aJ:=E.e c z ct J X ↥C A h5;have O:=H8 (op:=o) (op':=cO) (b:=y) (dR h5);exact Res.ix (λm=>LX (mc A N) (mc A h2) G.view H.view aJ.view O) (LY (mc A N) (mc A h2) G.view H.view aJ.view O) λ_ _ _ z=>by cases z
 |gB s =>
  conv at h=>lhs;whnf
  rcases e1:ζ.fq x with _|⟨x,_|⟨e,_|⟨_,_⟩⟩⟩<;>rw[e1]at h<;>first|(cases h;done)|skip
  .obtain⟨p,q,rfl⟩:=hg e1;exact Res.kC (Ds (v:=v) E A ↥C h) (λ_=>rfl) (λ_ _ _ z=>by cases z)
 |lp i j =>
  conv at h=>lhs;whnf
  split at h
  .rename_i aG aA e1;obtain⟨p1,p2,pos,rfl⟩:=O2 e1;rw[PW]at h;obtain⟨a1,a2,a3,a4⟩:=nU h.1;obtain⟨b1,b2,R,S⟩:=nU h.2;obtain⟨T,U,_⟩:=d6 a3;obtain⟨a0,a5,_⟩:=d6 R;exact Res.kD (L2 a4 S (by rw[A.nm];exact a1) (A.fY a2) T U (by rw[A.nm];exact b1) (A.fY b2) a0 a5) (λ_=>rfl) (λ_ _ _ z=>by cases z) rfl
  .cases h
 |lq =>
  conv at h=>lhs;whnf
  obtain⟨cZ,rfl⟩:=tX h;exact Res.kD L5 (λ_=>rfl) (λ_ _ _ z=>by cases z) rfl
 |neg a =>
  conv at h=>lhs;whnf
  rcases e1:ζ.mm x with _|⟨_|_|_|_,x⟩<;>rw[e1]at h<;>first|(cases h;done)|skip
  .obtain⟨p,rfl⟩:=vV e1;have G:=E.e a x ct J X ↥C A h;exact Res.ix (λm=>Bf G.view) (iE (Bf G.view) λ_=>rfl) λ_ _ _ z=>by cases z
 |tupI s =>
  conv at h=>lhs;whnf
  rcases e1:ζ.fq x with _|⟨x,_|⟨e,_|⟨_,_⟩⟩⟩<;>rw[e1]at h<;>first|(cases h;done)|skip
  .obtain⟨p,q,rfl⟩:=hg e1;exact Res.kD (Dt (v:=v) E A ↥C h) (λ_=>rfl) (λ_ _ _ z=>by cases z) rfl
 |comp e j s c =>
  conv at h=>lhs;whnf
  split at h
  .rename_i x t cY bJ di e1;obtain⟨p,rfl⟩:=Cu e1
   split at h
   .rename_i xs aw;obtain⟨B,bw,bk,bq,bH,bI⟩:=wC (pos:=p) E A ↥C aw h;rw[bI];exact Res.kC (vc A.calm (by rw[A.nm];exact A.aa) B aw bw bk bq bH) (λ_=>rfl) (λ_ _ _ z=>by cases z)
   .cases h
  .cases h
def Ni(o:gE xp k g pg Φ n)(a)(f)(ct)(X)(m:sizeOf a<n+1)(l:bG xp k g pg Φ X ct)(h:ζ.i0 g ct a f=J):dU X f (jF xp X ct.aa λb=>ζ.fF pg Φ b a)/\(∀e∈f,nice e=J)/\∀b ds,ζ.fF pg Φ b a=.ok ds->ds.length=f.length:=by
 unfold ζ.i0 at h
 split at h
 .exact⟨Mh,by simp,λb ds q=>by rw[ζ.tr]at q;cases q;rfl⟩
 .rename_i e a x xs;simp only[PW]at h;have r:=o.e e x ct VF X ↥m l h.1;obtain⟨p1,p2,p3⟩:=o.a a xs ct X ↥m l h.2;refine⟨L0 r.val p1 (kM (dR h.1)),λz hz=>?_,λb ds q=>?_⟩
  .rcases P1.mp hz with rfl|hz
   .exact dR h.1
   .exact p2 z hz
  .rw[ζ.xS]at q;cases j:ζ.ev pg Φ b e with
   |ok d =>
    rw[j]at q;simp only[ζ.R.eX]at q;cases i:ζ.fF pg Φ b a with
    |ok p=>rw[i]at q;cases q;simp[p3 b p i]
    |exc c=>rw[i]at q;cases q
    |bad=>rw[i]at q;cases q
   |exc c=>rw[j]at q;cases q
   |bad=>rw[j]at q;cases q
 .cases h
def Nl(c:gE xp k g pg Φ n)(o)(x)(ct)(X)(b:sizeOf o<n+1)(a:bG xp k g pg Φ X ct)(h:ζ.mU g ct o x=J):hn X x (mi xp X ct.aa λd=>ζ.i9 pg Φ d o):=by
 unfold ζ.mU at h
 split at h
 .exact Mi
 .rename_i e x;exact Ml (c.e e x ct J X ↥b a h).view
 .cases h
def stepI(d:gE xp k g pg Φ n)(s)(x)(ct)(v)(X)(l)(c:sizeOf s<n+1)(b:bG xp k g pg Φ X ct)(h:ζ.gQ g ct v s x=J)(z:ζ.jx s=J->∃q j p,l=.Tuple q j p):
  fK X l x (ha xp X ct.aa (ku v) λw=>ζ.eT pg Φ w s)/\nice x=true:=by
 cases s with
 |seq e =>
  conv at h=>lhs;whnf
  exact⟨Me (uv v) (d.e e x ct v X ↥c b h).dB,dR h⟩
 |ko e =>
  conv at h=>lhs;whnf
  exact⟨Bd (uv v) (d.e e x ct v X ↥c b h).dB,dR h⟩
 |cF a =>
  conv at h=>lhs;whnf
  rcases e1:ζ.fq x with _|⟨x,_|⟨y,_|⟨_,_⟩⟩⟩<;>rw[e1]at h<;>first|(cases h;done)|skip
  .obtain⟨B,p,rfl⟩:=hg e1;simp only[PW]at h;obtain⟨⟨f,h2⟩,h3⟩:=h;obtain⟨r,t⟩:=b.blt h2 (by rw[fL f];decide);have u:=d.e a y ct J X ↥c b h3;exact⟨Ms (fL f) r t u.view (fI (dR h3)),rfl⟩
 |i3 i =>
  conv at h=>lhs;whnf
  split at h
  .rename_i A e1;obtain⟨p,rfl⟩:=d2 e1;obtain⟨a1,a2,a3,a4⟩:=nU h;obtain⟨m,o,_⟩:=d6 a3;exact⟨Mb (uv v) a4 (by rw[b.nm];exact a1) (b.fY a2) m o,rfl⟩
  .cases h
theorem j3:∀n,gE xp k g pg Φ n
 |0=>⟨λ_ _ _ _ _ h=>⋯,λ_ _ _ _ h=>⋯,λ_ _ _ _ h=>⋯,λ_ _ _ _ _ _ h=>⋯⟩
 |n+1=>⟨Nk (j3 n),Ni (j3 n),Nl (j3 n),stepI (j3 n)⟩
def gC(a:bG xp k g pg Φ X ct)(h:ζ.bc g ct v e x=J):Res xp X ct.aa v (ζ.gv e) x (λb=>ζ.ev pg Φ b e):=(j3 (sizeOf e+1)).e e x ct v X (Rw _) a h
end
set_option tactic.hygienic false
end aD
end
section
namespace aD
open PySem PySem.Spec PyProof.Rows az
def JQ(x:b8 P w H h a o):∃u,h.get? a=Z u:=by
 cases o with
 |lst xs=>obtain⟨_,_,_,_,e⟩:=x;exact⟨_,e⟩
 |tup xs=>obtain⟨_,_,_,o,e,_⟩:=x;exact⟨_,e⟩
 |cg c=>obtain⟨_,_,_,_,o,_,_,e,_⟩:=x;exact⟨_,e⟩
 |cD c=>obtain⟨_,_,_,_,o,_,_,e,_⟩:=x;exact⟨_,e⟩
 |set S n=>obtain⟨o,_,_,_,e,_⟩:=x;exact⟨_,e⟩
 |ins C d b=>obtain⟨_,_,_,e,_⟩:=x;exact⟨_,e⟩
 |own y=>exact x
 |q8 b=>obtain⟨_,⟨_,_,_,e,_⟩,_⟩:=x;exact⟨_,e⟩
 |cF lo hi=>obtain⟨_,_,_,e⟩:=x;exact⟨_,e⟩
 |cx g u=>obtain⟨e,_⟩:=x;exact⟨_,e⟩
 |jI i=>exact⟨_,x⟩
 |met f y=>exact⟨_,x⟩
 |ext j=>exact x.2.1
def uN(x:cC P w H h)(e:h.get? a=Y):H a=none:=by
 cases q:H a with
 |none=>rfl
 |some o=>obtain⟨u,z⟩:=JQ (x a o q);rw[e]at z;cases z
section
def uK{Q:aR}{l:List VU}(I:Inv X O Q H s)(j:∀a∈l,fb X O H a)(w:∀b o,s.heap.get? b=Z o->b∉l->b∉ef X.stack->h'.get? b=Z o)(a2:∀b o,s.heap.get? b=Z o->b∈ef X.stack->∃h,h'.get? b=Z { o with slots:=h }):Inv X O Q H { s with heap:=h',toks:=t' }:=by
 have t:∀b o,s.heap.get? b=Z o->b∉l->∃h,h'.get? b=Z { o with slots:=h }:=λb o e n=>by
  by_cases f:b∈ef X.stack
  .exact a2 b o e f
  .exact⟨o.slots,w b o e n f⟩
 have C:∀b o,X.dT.heap.get? b=Z o->b∉X.ex->b∉l:=λb o e g f=>by
  rcases(j b f).2.1 with z|z
  .exact g z
  .rw[e]at z;cases z
 have U:∀b o,X.dT.heap.get? b=Z o->b∉X.bj->b∉ef X.stack:=λb o e f q=>by
  rcases P1.mp (I.kO b q) with z|z
  .exact absurd (P2 (P7 e) I.ok.above) (by rw[z];exact Rm _)
  .exact f z
 have E:∀x c,X.env.cells.lookup x=Z c->∀v,s.heap.IsCell c v->h'.IsCell c v:=λx c e v a3=>by
  obtain⟨o,B,A⟩:=a3;obtain⟨h,q⟩:=t c o B λz=>(j c z).2.2.2.1 x c e rfl
  exact⟨_,q,A⟩
 refine⟨I.ok,I.os,I.bare,⟨λb o e n f g=>?_,λb o e n f g=>?_,I.base.free,λb o e g=>?_,I.base.hS,I.base.gV,I.base.hQ⟩,?_,λx c e=>?_,I.free,I.fi,λp L=>?_,λa o e=>?_,I.len⟩
 .exact w b o (I.base.keep b o e n f g) (C b o e g) (U b o e f)
 .obtain⟨h,e1⟩:=I.base.slot b o e n f g;obtain⟨a1,e2⟩:=t b _ e1 (C b o e g);exact⟨a1,e2⟩
 .obtain⟨a0,e1⟩:=I.base.there b o e g;obtain⟨h,e2⟩:=t b a0 e1 (C b o e g);exact⟨_,e2⟩
 .obtain⟨m,⟨o,S,R,B,A,r⟩,T⟩:=I.loc;obtain⟨h,e⟩:=t _ o B λz=>(j _ z).2.2.1 rfl
  refine⟨m,⟨_,S,R,e,A,r⟩,λi x v e1 e2 e3=>?_⟩;obtain⟨u,r,q⟩:=T i x v e1 e2 e3;refine⟨u,r,?_⟩;rcases q with q|⟨k,c,e,z⟩
  .exact .inl q
  .exact .inr ⟨k,c,e,E x c e _ z⟩
 .obtain⟨v,z⟩:=I.cell x c e;exact⟨v,E x c e v z⟩
 .obtain⟨e,n,M,N,d⟩:=I.pin p L;exact⟨w p.1 p.2 e (λz=>(j _ z).2.2.2.2 p L rfl) (λz=>(P1.mp (I.kO _ z)).elim M N),n,M,N,d⟩
 .refine(I.aM a o e).iG (λb u f q=>?_) (λ_ q=>q) λ_ _ q=>q
  have G:H b≠none:=by
   rcases f with z|z
   .rw[z,e];exact λy=>nomatch y
   .rw[z];exact λy=>nomatch y
  exact w b u q (λz=>G (j b z).1) λz=>G (I.vr b z)
end
abbrev oO:List Value:=[.type "ValueError",.type "Exception",.type "BaseException",.type "object"]
structure kV(ao:V1->Option VI)(base:We)(cl:Nat->Option VU)(c:Nat)(x:V1)(C:VU):Prop where
 at_:cl c=Z C
 ao:ao x=Z (.ref C)
 dS:∃(newId:String)(bm:List VI)(N:VU)(nm q:V1)(bs:List VI)(hdct:Bool)(sn:List V1)(sub:List VI)(ab:Bool)(col:Option Bool)(dd:Option VU)(k0 k1 k2 k3 k5:Option VI),
  base.get? C=Z (Wf nm q C N bs bm hdct sn sub ab col dd k0 k1 k2 k3 k5 newId)/\bm.contains (.type "BaseException")=J
structure jY(K:W.Frag)(base:We)(cl:Nat->Option VU)(up:Nat->List Nat)(C:VU):Prop where
 at_:cl 1=Z C
 kS:(up 1).contains 1000=J
 dS:∃(newId v5 Hl:String)(D1 bm:List VI)(N:VU)(nm q:V1)(bs:List VI)(hdct:Bool)(sn:List V1)(sub:List VI)(ab:Bool)(col:Option Bool)(dd:Option VU)(k0 k1 k2 k3 k5:Option VI)(mN:V1->Option VI),
  ExcBaseFacts v5 newId Hl D1/\oO.contains (.type v5)=J/\base.get? C=Z (Wf nm q C N bs bm hdct sn sub ab col dd k0 k1 k2 k3 k5 newId)/\base.Ns N mN/\mN "__init__"=Y/\OwnTail base oO bm/\cI.Plain K C bm /\
  ∀k D,cl k=Z D->(VY C::bm).contains (.ref D)=(up 1).contains k
section
variable{X:aq}{pins:List (VU×WS)}{σ:aR}{H:ah}{s:VL}{h':We}{l:List VU}{cl:Nat->Option VU}{up:Nat->List Nat}{x n:V1}{C:VU}{aa:List Nat}{np p dE pos:Xo}
def Mn(k:kV X.ao X.base cl 1 x C)(O:jY X.K X.base cl up C)(w:X.calm=J)(z:cN X x)(y:(x==("__debug__":V1))=VF):
  bF X (.Raise (Z (.Call (.Name x np) [.Constant (.str t) j p] [] dE)) Y pos) (bA (cI.d5 cl) X aa λ_=>.exc 1):=by
 rintro pins s σ H T I ⟨L,M,G,U,v,hw⟩;obtain⟨S,E,R,Q,bm,N,nm,q,bs,hdct,sn,sub,ab,col,dd,k0,k1,k2,k3,k5,mN,i,m,o,u,A,g,_⟩:=O.dS;refine wpAny_Raise_call_subU (C:=C) (nm:=nm) (q:=q) (N:=N) (bs:=bs) (bm:=bm) (hdct:=hdct) (sn:=sn) (sub:=sub) (ab:=ab) (col:=col) (dd:=dd) (k0:=k0) (k1:=k1) (k2:=k2) (k3:=k3) (k5:=k5)
  i m YO (mN:=mN) (g.hasType rfl) (I.ok.hd w) rfl A (pZ I z k.ao ⟨rfl,?_⟩ y)
 have f:=(hG Ak kE:dU X [.Constant (.str t) j p] _) dE pins s σ H (λh d=>h.length=1/\d=H) I ⟨rfl,rfl⟩;refine YE (aP f λB s2 ⟨h,d,b,r,e⟩=>⟨rfl,by show B.length<=V5;rw[<- r.length,e.1];decide,b.fc _ _ o,u.keeps b.fc,g.keeps b.fc,λh' dA c=>?_⟩)
 .obtain⟨_,rfl⟩:=e;exact hw pins σ d { s2 with heap:=h' } (.ref dA) [dA] (b.kept (t':=s2.toks) c.keeps) v.ext.h (λa f=>by
   obtain rfl:a=dA:=⇑f;exact .of b c.new (uN b.aM c.new)) (cI.made O.at_ c)
abbrev NG(j:Nat)(b:VU)(v:V):TE:=λσ H Q=>σ[j]?=Z (Z (.ref b))/\∀a,aF H a->Q v a
abbrev NH(j:Nat)(b:VU)(c:List V):d4:=λσ H Q=>σ[j]?=Z (Z (.ref b))/\∀a,aF H a->Q c a
abbrev BY(j:Nat)(b:VU)(v:V):ek:=λT σ H=>σ[j]?=Z (Z (.ref b))/\∀a,aF H a->T.bl v a
def wa(a:V1->Option VI)(base:We)(cl:Nat->Option VU)(up:Nat->List Nat)(v:V)(b:Bool):Prop:=(v=.ty "ValueError"/\b=J)\/∃k y D,v=.ref D/\kV a base cl k y D/\b=(up 1).contains k
def Ef(O:jY X.K X.base cl up C)(z:(i,j)∈X.b6)(f:j.cls=.ref C):
  ei X (.builtin "isinstance") (λxs H Q=>∃v b,xs=[.ref i,v]/\wa X.ao X.base cl up v b/\Q (.ag b) H):=by
 rintro pins s σ H xs a2 Q I r ⟨v,b,t,A,q⟩;subst t;obtain⟨u,a1,rfl,B,m⟩:=vals2 r;cases B;have g:=(I.pin (i,j) (VZ _ z)).1;obtain⟨U,E,T,L,bm,N,nm,a0,bs,hdct,sn,sub,ab,col,dd,k0,k1,k2,k3,k5,mN,G,M,a,R,S,o,P,w⟩:=O.dS;have a:=I.fc _ _ a;rcases A with⟨rfl,rfl⟩|⟨k,y,D,rfl,h,rfl⟩
 .cases m;exact cI.Hz g f a (by kernel_rfl) (o.hasType rfl) ⟨.ag J,H,I,rfl,q⟩
 .cases m;obtain⟨_,_,_,_,_,_,_,_,_,_,_,_,_,_,_,_,_,c,_⟩:=h.dS;have c:=I.fc _ _ c;have d:=w k D h.at_;cases e:(up 1).contains k with
  |true =>
   rw[e]at d q;exact cI.Hy g f a c rfl ⟨_,rfl⟩ d ⟨.ag J,H,I,rfl,q⟩
  |false =>
   rw[e]at d q;exact cI.Hx I.dQ P g f a c rfl ⟨_,rfl⟩ d ⟨.ag VF,H,I.tok _,rfl,q⟩
def OJ{bs:List Bool}:TruthOf P w A (λi v=>(bs.map WK).toArray[i]?=Z v) λi=>bs.getD i false:=by
 intro i v s Q E a c;have a:(bs.map WK)[i]?=Z v:=⇑a
 rw[Qh]at a;cases q:bs[i]? with
 |none=>rw[q]at a;cases a
 |some b =>
  rw[q]at a;cases a;refine Rq ?_;have:bs.getD i VF=b:=(by simp[Wt,q]);have c:Q (bs.getD i VF) s:=c;rw[this]at c;exact c
def Df(y:(c,j)∈X.b6)(m:X.A.handled=Z (.ref c))(t:j.data=.fields L)(h2:L[2]?=Z .none):
  ei X (.builtin "any") (λxs H Q=>∃(a:VU)(bs:List Bool),xs=[.ref a]/\cz X.K H a (bs.map V.ag)/\Q (.ag (bs.any id)) H):=by
 rintro pins s σ H xs M Q I r ⟨a,bs,k,h,q⟩;subst k;obtain⟨u,rfl,G⟩:=vals1 r;cases G;have g:=(I.pin (c,j) (VZ _ y)).1;obtain⟨its,E,f,hz⟩:=I.list h;obtain rfl:=q5 E;have w:(bs.map WK).toArray.size=bs.length:=by rw[P6,VH]
 have z:a≠s.heap.objs.size:=by obtain⟨o,n,d,_⟩:=f;exact Ql (P7 d)
 have B:c≠s.heap.objs.size:=Ql (P7 g);refine call_any_walk (Tx f.isList ⟨s.heap.objs.size,_,_,_,_,_,λi=>bs.getD i VF,rfl,cI.Pe (A:=X.A.in1) m t h2 _ a z B (bs.map WK).toArray,⟨⟨⟨_,Qb _ rfl,rfl,rfl⟩,(let ⟨o,d,r⟩:=f.isList;⟨o,PX _ d,r⟩)⟩,PX _ g⟩,OJ,λh' tk v=>?_⟩);rw[w,any_range];exact⟨.ag _,H,I.kept λb o e=>v b o (by simp;exact Ql (P7 e)) (PX _ e),rfl,q⟩
variable{g:ζ.Gt}{ct:ζ.bE}
structure rk(X:aq)(g:ζ.Gt)(ct:ζ.bE)(cl:Nat->Option VU):Prop where
 gl:∀x,ζ.gy ct.sc x=J->cN X x
 ag:∀x,ζ.cX g ct.sc x=J->x∈kU->cN X x/\X.ao x=Y
 kS:X.ao "ValueError"=Y
 own:∀(c:Nat)(x:V1),g.cls[c]?=Z x->∃C,kV X.ao X.base cl c x C
set_option tactic.hygienic true in
theorem uX (O:jY X.K X.base cl up C) (b:rk X g ct cl) (E:(r,R)∈X.b6) (w:R.cls=.ref C) (A:X.N[j]?=Z n) (M:dV X.env.scope n) (B:ζ.okN n=J)
  (h:ζ.mT g ct n k z=J):ai X z (NG j r (.ag ((up 1).contains k)))/\nice z=true:=by
 unfold ζ.mT at h
 split at h
 .rename_i f e d e1;obtain⟨a3,a1,rfl⟩:=hg e1
  split at h
  .rename_i y t e2 e3;obtain⟨p1,rfl⟩:=d2 e2;obtain⟨p2,rfl⟩:=d2 e3;simp only[PW,QC]at h;obtain⟨⟨⟨⟨rfl,h2⟩,rfl⟩,h4⟩,h5⟩:=h;obtain⟨b1,b2⟩:=b.ag _ h2 ∅;obtain⟨o,q,a2⟩:=d6 B;have L:∃v,ai X (.Name t p2) (jG v)/\wa X.ao X.base cl up v ((up 1).contains k):=by
    simp only[ζ.tyB,PW]at h4;obtain⟨⟨m,u⟩,a⟩:=h4;obtain⟨U,a4,a5⟩:=d6 u
    by_cases c:k=1000
    .rw[if_pos c]at a;simp only[PW,QC]at a;obtain⟨rfl,_⟩:=a;subst c;exact⟨.ty "ValueError",Ad (b.gl _ m) b.kS (by kernel_rfl) rfl,.inl ⟨rfl,O.kS⟩⟩
    .rw[if_neg c]at a;obtain⟨D,i⟩:=b.own k t ⇑a;exact⟨.ref D,Ag (b.gl _ m) i.ao rfl U,.inr ⟨k,t,D,rfl,i,rfl⟩⟩
   obtain⟨v,G,N⟩:=L;refine⟨λpins s σ H Q I a0=>?_,rfl⟩;obtain⟨S,T⟩:=a0;refine nS (Ef O E w) b1 b2 boot_isinstance (hG (eZ A M o q) (hG G kE)) ∅ ∅ rfl rfl pins s σ H Q I ?_;exact⟨_,S,v,_,rfl,N,T H (aF.refl H)⟩
  .cases h
 .cases h
theorem z8(O:jY X.K X.base cl up C)(e:rk X g ct cl)(o:(u,w)∈X.b6)(f:w.cls=.ref C)(i:X.N[j]?=Z n)(q:dV X.env.scope n)(m:ζ.okN n=J):
  ∀{a:List Nat}{d:List V3},ζ.oQ g ct n a d=J->dU X d (NH j u (a.map λk=>V.ag ((up 1).contains k)))
 |[],[],_=>λpos pins s σ H Q I ⟨b,c⟩=>kE pos pins s σ H Q I (c H (aF.refl H))
 |[],_::_,h=>by cases h
 |_::_,[],h=>by cases h
 |k::a,z::d,h=>by
  simp only[ζ.oQ,PW]at h;obtain⟨r,v⟩:=uX O e o f i q m h.1;have y:=z8 O e o f i q m h.2;rintro pos pins s σ H Q I ⟨b,c⟩;exact hG r y (kM v) pos pins s σ H Q I ⟨b,λB s3=>⟨b,λt A=>c t (s3.trans A)⟩⟩
end
section
variable{X:aq}{pins:List (VU×WS)}{σ:aR}{H:ah}{s:VL}{h':We}{l:List VU}{cl:Nat->Option VU}{up:Nat->List Nat}{c:Nat}{x n:V1}{C:VU}{aa:List Nat}{np p dE pos:Xo}
def GG(I:Inv X pins σ H s)(A:h'.Ns X.env.locals m)(G:Wr X.env.locals s.heap h'):Inv X pins (VV X.N.length Y) H { s with heap:=h',toks:=t' }:=by
 have k:∀b o,X.dT.heap.get? b=Z o->b≠X.env.locals:=λb o e=>Ql (P2 (P7 e) I.ok.above)
 have f:∀b o,b≠X.env.locals->s.heap.get? b=Z o->h'.get? b=Z o:=λb o L e=>by rw[G.2 b L];exact e
 refine⟨I.ok,I.os,I.bare,⟨λb o e n g j=>?_,λb o e n g j=>?_,I.base.free,λb o e j=>?_,I.base.hS,I.base.gV,I.base.hQ⟩,⟨m,A,λi x v e1 e2 e3=>?_⟩,λx c e=>?_,I.free,I.fi,λp E=>?_,λa o e=>?_,by simp⟩
 .exact f b o (k b o e) (I.base.keep b o e n g j)
 .obtain⟨N,e1⟩:=I.base.slot b o e n g j;exact⟨N,f b _ (k b o e) e1⟩
 .obtain⟨t,e1⟩:=I.base.there b o e j;exact⟨t,f b t (k b o e) e1⟩
 .rw[RT]at e2
  split at e2<;>cases e2
 .obtain⟨v,o,B,y⟩:=I.cell x c e;exact⟨v,o,f c o (I.oV x c e) B,y⟩
 .obtain⟨e,n,r,M,d⟩:=I.pin p E;exact⟨f _ _ r e,n,r,M,d⟩
 .refine(I.aM a o e).iG (λb u g q=>f b u (λz=>?_) q) (λ_ q=>q) λ_ _ q=>q
  have h:=I.free;rw[<- z]at h;rcases g with w|w
  .rw[w,e]at h;cases h
  .rw[w]at h;cases h
noncomputable abbrev km(X:aq)(e:VI)(b6:List (VU×WS)):aq:={ X with A:=X.A.mark (Z e),calm:=VF,b6:=b6,a6:=λ_ _=>False }
noncomputable abbrev jj(X:aq)(b6:List (VU×WS))(E:VI->VL->Prop):aq:={ X with b6:=b6,a6:=E }
def OE(I:Inv X pins σ H s)(a:∀p∈b,s.heap.get? p.1=Z p.2/\H p.1=Y/\p.1≠X.env.locals/\p.1∉X.bj/\∀v,p.2.data≠.cell v):Inv (km X e b) [] σ H s :=
 ⟨⟨I.ok.mod,I.ok.kind,I.ok.glob,I.ok.blt,I.ok.above,I.ok.inj,I.ok.has,I.ok.mP,(λz=>nomatch z),I.ok.frames,I.ok.kN,I.ok.tA,I.ok.bs,I.ok.ka,I.ok.nL,I.ok.ly,I.ok.gw,I.ok.lC⟩,I.os,I.bare,I.base,I.loc,I.cell,I.free,I.fi,λp q=>a p ⇑q,I.aM,I.len⟩
def JL(a:X.Ok)(I:Inv (km X e d) f σ H s)(b:∀p∈X.b6++pins,p∈d):Inv X pins σ H s :=
 ⟨a,I.os,I.bare,I.base,I.loc,I.cell,I.free,I.fi,λp q=>I.pin p (VZ _ (b p q)),I.aM,I.len⟩
def OF(I:Inv X pins σ H s)(a:∀p∈b,p∈X.b6++pins):Inv (jj X b E) [] σ H s :=
 ⟨⟨I.ok.mod,I.ok.kind,I.ok.glob,I.ok.blt,I.ok.above,I.ok.inj,I.ok.has,I.ok.mP,I.ok.hd,I.ok.frames,I.ok.kN,I.ok.tA,I.ok.bs,I.ok.ka,I.ok.nL,I.ok.ly,I.ok.gw,I.ok.lC⟩,I.os,I.bare,I.base,I.loc,I.cell,I.free,I.fi,λp q=>I.pin p (a p ⇑q),I.aM,I.len⟩
def nO(a:X.Ok)(I:Inv (jj X d E) e σ H s)(b:∀p∈X.b6++pins,p∈d):Inv X pins σ H s :=
 ⟨a,I.os,I.bare,I.base,I.loc,I.cell,I.free,I.fi,λp q=>I.pin p (VZ _ (b p q)),I.aM,I.len⟩
def fb.qi(I:Inv X pins σ H s)(h:fb X pins H a):a∉X.bj:=λb=>by
 rcases h.2.1 with z|z
 .exact I.ok.ly a z b
 .obtain⟨_,o,d,_⟩:=I.ok.gw.mem b;rw[z]at d;cases d
def fb.JI(I:Inv X pins σ H s)(h:fb X pins H a):a∉ef X.stack:=λb=>by
 rcases P1.mp (I.kO a b) with z|z
 .exact h.2.2.1 z
 .exact fb.qi I h z
def v9(X:aq)(cl:Nat->Option VU)(e:List Y3)(bv:Bool):Prop:=∀(pins:List (VU×WS))(s:VL)(σ:aR)(H:ah)(T:Ends)(d:VI)(l:List VU),Inv X pins σ H s->(∀a∈l,fb X pins H a)->cI.d5 cl 1 d l s.heap->(∀b,aF H b->T.bl (.ag bv) b) ->
 VO (VW X.prog X.w) X.A (handleBy d X.env e) (jZ X pins T) X.a6 s
def Ar(I:Inv X pins σ H s)(e:fb X pins H b)(f:d.data=.fields h)(g:s.heap.get? b=Z d):Inv (km X (.ref b) (X.b6++pins++[(b,d)])) [] σ H s:=OE I λp a=>by
 rcases P8.mp a with a|a
 .exact I.pin p a
 .obtain rfl:p=(b,d):=⇑a;exact⟨g,e.1,e.2.2.1,fb.qi I e,λv=>by show d.data≠_;rw[f];exact λz=>nomatch z⟩
section
variable{k:Nat}{D:VU}{aL:Wn}{st:List Wn}{tR:Xo}{bv:Bool}(O:jY X.K X.base cl up C)(oD:kV X.ao X.base cl k x D)(yG:(up 1).contains k=J)(yF:cN X x)(yD:(x==("__debug__":V1))=VF)
include O oD yG yF yD
def G4(aJ:X.N.Nodup)(Q:X.N[j]?=Z n)(A:X.env.scope.names.lookup n=Z .local)(aG:∀(d:VU)(e:WS)(i:Array VI)(S:List (VU×WS)),e.cls=.ref C->e.data=.fields i->i[2]?=Z .none->(d,e)∈S->d3 (km X (.ref d) S) (aL::st) (BY j d (.ag bv))):v9 X cl [.ExceptHandler (Z (.Name x np)) (Z n) (aL::st) tR] bv:=by
 intro pins s σ H T dg l I h R fin;have bq:=R;obtain⟨d,U,e,i,rfl,b2,t,L,r,h2,bw⟩:=R;have M:d∈l:=by rcases bw with⟨rfl,_⟩|⟨T,_,_,rfl,_⟩<;>simp
 obtain rfl:U=C:=Qy (b2.symm.trans O.at_);obtain⟨ec,dq,es,cY,bm,N,nm,q,bs,hdct,sn,sub,ab,col,dd,k0,k1,k2,k3,k5,mN,bg,cZ,aw,dh,dW,bJ,_,g⟩:=O.dS;obtain⟨_,_,_,_,_,_,_,_,_,_,_,_,_,_,_,_,_,aA,a5⟩:=oD.dS;refine wpAny_handleBy_cons (codeAny_handlers_test (pZ (X:=km X (.ref d) (X.b6++pins++[(d,e)])) (Ar I (h d M) r t) yF oD.ao ?_ yD)) (by intro q;cases q);obtain⟨di,a3,a2,tk,os⟩:=s;refine cI.I0 (I.fc _ _ aw) (I.fc _ _ aA) t L a5 ((g k D oD.at_).trans yG) (codeAny_handlers_suite_as (cI.Gy bq λa4 l1 y w=>?_));have a0:Inv X pins σ H { heap:=a4,gens:=a3,drawn:=a2,toks:=tk,os:=os }:=uK (t':=tk) I (l:=l1) (λa b1=>h a (y a b1).1) (λb o q g _=>w b o q g) λb o q g=>⟨o.slots,w b o q λz=>fb.JI I (h b (y b z).1) g⟩
 refine qQ (X:=km X (.ref d) (X.b6++pins++[(d,e)])) (Ar a0 (h d M) r (w d e t λz=>(y d z).2 rfl)) aJ Q (.inl A) (v:=.ref d) rfl (λbI a1=>?_) (.inr A);refine Q2 (aG d e i _ L r h2 (by simp) [] bI _ H { aN:=λ_ _=>False,bl:=λv B=>v=.ag bv/\aF H B } a1 ⟨?_,λB z=>⟨rfl,z⟩⟩) (λf eD q=>?_) λ_ _ z=>z.elim
 .have bp:j<σ.length:=(by rw[I.len];exact(Qp.mp Q).1);exact n5 bp
 .cases f with
  |ret u =>
   obtain⟨v,ed,E,G,bH,rfl,cO⟩:=q;obtain⟨m,bf,_⟩:=id G.loc;refine wpAny_nameGoes (env:=X.env) (m:=m) A bf (by rw[I.ok.kind];rfl) λdr eC bh bk=>?_
   exact⟨.ag bv,_,E,GG (JL I.ok G λp tR=>VZ _ tR) bh bk,bH,fin E cO⟩
  |next=>obtain⟨_,_,_,z⟩:=q;exact z.elim
  |brk=>obtain⟨_,_,_,z⟩:=q;exact z.elim
  |cont=>obtain⟨_,_,_,z⟩:=q;exact z.elim
end
abbrev lR(a d e:ah):ah:=λb=>match a b with
 |some o=>Z o
 |none=>match d b,e b with
  |none,Z (.tup xs)=>Z (.tup xs)
  |_,_=>Y
set_option tactic.hygienic true in
theorem Gm (f:aF d rj) (h2:aF a rj):Ext a d (lR a d rj) rj:=by
 refine⟨λb o e=>by unfold lR;rw[e],f,λb o e=>?_,λb i j=>?_,λb xs e=>?_⟩
 .unfold lR at e;cases q:a b with
  |some k=>rw[q]at e;cases e;exact h2 b _ q
  |none =>
   rw[q]at e;dsimp only at e
   split at e
   .rename_i xs _ h;cases e;exact h
   .cases e
 .unfold lR;rw[i];dsimp only
  split
  .rename_i q _;exact absurd q j
  .rfl
 .cases q:d b with
  |some o=>have:=f b o q;rw[e]at this;cases this;exact .inl rfl
  |none =>
   refine .inr ?_;unfold lR;cases g:a b with
   |some o=>have:=h2 b o g;rw[e]at this;cases this;rfl
   |none=>rw[q,e]
def Bi(O:X.stack=X.env::X.outer/\X.env.frame=Z X.env.locals)(bI:∀(aG:List (VU×WS))(E:VI->VL->Prop),bF (jj X aG E) a (bA (cI.d5 cl) (jj X aG E) aa λk=>ζ.ex pg Φ k Q))(dq:∀c,c≠1->ζ.gd pg c k0 N=.bad)(R:ζ.gd pg 1 k0 N=.bad\/ζ.gd pg 1 k0 N=.ok (.bl (.ag bv))/\v9 X cl [h0] bv):
  bF X (.Try [a] [h0] [] [] pos) (bA (cI.d5 cl) X aa λk=>ζ.ex pg Φ k (.kQ Q k0 N)):=by
 rintro pins s σ H T I ⟨i,m,G,k,d,hw⟩;refine wpAny_Try_except ?_;have a2:∀(M w:ah)(L:VI->VL->Prop),cb X.K aa M w G H k σ->a7 (ζ.ex pg Φ k Q) (fg X.K aa M w T) (λc=>dy (cI.d5 cl) (jj X (X.b6++pins) L) c w) ->
   VO (VW X.prog X.w) X.A (execs [a] X.env) (λf a0=>match f with|.next=>VO (VW X.prog X.w) X.A (execs [] X.env) (jZ X pins T) X.a6 a0|f=>jZ X pins T f a0) L s:=λM w L bH bJ=>by
  refine Q2 (Ay (bI (X.b6++pins) L) [] s σ H T (OF I λ_ z=>z) ⟨M,w,G,k,bH,bJ⟩) (λf a0 q=>?_) λ_ _ q=>q
  cases f with
  |next=>obtain⟨j,g,h,q⟩:=q;exact Tg ⟨j,g,nO I.ok h λ_ z=>z,q⟩
  |ret u=>obtain⟨v,j,g,h,r,q⟩:=q;exact⟨v,j,g,nO I.ok h λ_ z=>z,r,q⟩
  |brk=>obtain⟨j,g,h,q⟩:=q;exact⟨j,g,nO I.ok h λ_ z=>z,q⟩
  |cont=>obtain⟨j,g,h,q⟩:=q;exact⟨j,g,nO I.ok h λ_ z=>z,q⟩
 dsimp only at hw;rw[ζ.x7]at hw;replace hw:a7 (ζ.qZ pg (ζ.ex pg Φ k Q) k0 N) (fg X.K aa i m T) (λc=>dy (cI.d5 cl) X c m):=hw;cases q:ζ.ex pg Φ k Q with
 |ok r =>
  rw[q,ζ.OK]at hw;exact a2 i m _ d (by rw[q];exact hw)
 |bad=>rw[q]at hw;exact hw.elim
 |exc c =>
  rw[q,ζ.Cf]at hw
  by_cases a3:c=1
  .subst a3;rcases R with S|⟨S,R⟩
   .rw[S]at hw;exact hw.elim
   rw[S]at hw;have bw:aF i (fk i m):=λb o e=>jk e
   have bk:aF m (fk i m):=λb o e=>by
    cases z:i b with
    |none=>rw[gA z];exact e
    |some U =>
     have e1:=d.ext.sub b U (d.ext.g b U z);rw[d.ext.h b o e]at e1;cases e1;exact jk z
   have bq:cb X.K aa i (fk i m) G H k σ:=by
    refine⟨d.aY,⟨d.ext.g,λb o e=>?_,d.ext.sub,λb A B=>?_,λb xs e=>.inr (d.aY.bB b xs e)⟩,λaw ds b A aL B b1=>?_⟩
    .cases z:i b with
     |none=>rw[gA z]at e;exact d.ext.h b o e
     |some U=>rw[jk z]at e;cases e;exact d.ext.sub b _ (d.ext.g b _ z)
    .rw[gA A]at B;exact d.ext.new b A B
    .obtain⟨cZ,xs,k1,k2,k3,dh⟩:=d.aY.lst aw ds A B aL;rw[k1]at b1;cases b1;rw[gA (d.ext.g.free k3)];exact d.own aw ds _ A aL B k1
   refine a2 i (fk i m) _ bq ?_;rw[q];intro di j g s' bf l b2 aJ y cY;have h:Inv X pins j g s':=nO I.ok b2 λ_ z=>z
   have aA:∀a∈l,fb X pins g a:=λa t=>⟨(y a t).1,(y a t).2.1,(y a t).2.2.1,(y a t).2.2.2.1,λp bg=>(y a t).2.2.2.2 p (VZ _ bg)⟩
   have e1:cI.fr (X.env::X.outer)=ef X.stack:=(by rw[O.1];rfl);refine cI.note (base:=X.base) (outer:=X.outer) (by rw[h.ok.frames,O.1]) (by rw[<- O.1];exact h.stack) O.2 cY λbh l1 dg cO a4 a5=>?_
   rw[e1]at a4 a5;have bp:Inv X pins j g { s' with heap:=bh }:=uK (t':=s'.toks) h aA a4 a5;have dr:∀a∈l1,fb X pins g a:=λa t=>(cO a t).elim (aA a) λz=>.of h z (uN h.aM z)
   exact R pins _ j g T bf l1 bp dr dg λa1 s3=>hw (.ag bv) (lR i m a1) a1 (Gm ((bk.trans aJ).trans s3) ((bw.trans aJ).trans s3)) rfl
  .rw[dq c a3]at hw;exact hw.elim
end
end aD
end
section
namespace aD
set_option tactic.hygienic true
open PySem PySem.Spec PyProof.Rows az
def mh(h:ζ.gm x=Z (ts,y)):∃p,x=.Assign ts y p:=by
 cases x with
 |Assign a b p=>cases h;exact⟨p,rfl⟩
 |_=>exact nn h
def vw(h:ζ.qV x=Z y):∃p,x=.Expr y p:=by
 cases x with
 |Expr a p=>cases h;exact⟨p,rfl⟩
 |_=>exact nn h
def oh(h:ζ.hb x=Z y):∃p,x=.Return y p:=by
 cases x with
 |Return a p=>cases h;exact⟨p,rfl⟩
 |_=>exact nn h
def BZ(h:ζ.oe x=Z (t,a,b)):∃p,x=.If t a b p:=by
 cases x with
 |If t a b p=>cases h;exact⟨p,rfl⟩
 |_=>exact nn h
def NF(h:ζ.od x=Z (t,c,a,b)):∃p,x=.For t c a b p:=by
 cases x with
 |For t c a b p=>cases h;exact⟨p,rfl⟩
 |_=>exact nn h
structure iM(xp:cf)(g:ζ.Gt)(pg:ζ.cw)(K:W.Frag)(ao:V1->Option VI)(base:We):Prop where
 ex:∃cl C,xp=cI.d5 cl/\(∀(c:Nat)(x:V1),g.cls[c]?=Z x->∃C,kV ao base cl c x C)/\jY K base cl pg.up C
 lo:∀k,k<2->(pg.up 1).contains k=J
 kS:ao "ValueError"=Y
structure hZ(xp:cf)(g:ζ.Gt)(pg:ζ.cw)(X:aq)(ct:ζ.bE):Prop where
 cls:iM xp g pg X.K X.ao X.base
 kN:X.stack=X.env::X.outer/\X.env.frame=Z X.env.locals
 loc:∀x,ζ.gZ ct.sc x=J->Loc X.env.scope x
 fn:∀x,X.fn x=J
 pass:YR (VW X.prog X.w) X.A X.env X.a6
section
variable{xp:cf}{k:Nat}{g:ζ.Gt}{pg:ζ.cw}{Φ:ζ.da}
def Es(h:ζ.bc g ct v e (.ListComp x i f pos)=J):∃a j s c t d b xs,e=.comp a j s c/\i=[⟨t,d,b,0⟩]/\ζ.dv j t=Z xs /\
  ((!ζ.jx s||j==2)&&ζ.mO ct f xs&&ζ.gQ g ct J s d&&ζ.bc g ⟨ζ.mask ct.N xs++xs,f,ct.aa⟩ VF a x&&ζ.kc g ⟨ζ.mask ct.N xs++xs,f,ct.aa⟩ c b)=true:=by
 cases e with
 |comp a j s c =>
  conv at h=>lhs;whnf
  split at h
  .rename_i n t d b m e1;obtain⟨p,e2⟩:=Cu e1;cases e2
   split at h
   .rename_i xs l;exact⟨a,j,s,c,t,d,b,xs,rfl,rfl,l,h⟩
   .cases h
  .cases h
 |_=>exact(QV h).elim
def EO(x):(∃y a b pos,x=.ListComp y a b pos)\/ζ.nK x=true:=by
 cases x<;>first|exact .inr rfl|exact .inl ⟨_,_,_,_,rfl⟩
def Dj (b : bG xp k g pg Φ X ct) (H : ∀ x, ζ.gZ ct.sc x = J -> Loc X.env.scope x) (C : ∀ x, X.fn x = J) (h : (ct.N[i]? == Z x && ζ.gZ ct.sc x && ζ.okN x && (!ct.aa.contains i || ζ.gv e) && ζ.bc g ct VF e y) = J) :
    bF X (.Assign [.Name x p] y pos) (bA xp X ct.aa fun a => ζ.ex pg Φ a (.asg i e)) := by
  simp only [PW, QC, RC, QU] at h
  obtain ⟨⟨⟨⟨w, h2⟩, h3⟩, h4⟩, h5⟩ := h
  have l : X.N.Nodup := by rw [b.nm]; exact b.eG
  have hi : X.N[i]? = Z x := by rw [b.nm]; exact w
  have q := H x h2
  have m : X.fn x = J \/ X.env.scope.names.lookup x = Z .local := .inl (C x)
  rcases EO y with ⟨z, R, U, Q, rfl⟩ | A
  · obtain ⟨f, j, s, c, t, T, S, xs, rfl, rfl, u, G⟩ := Es h5
    obtain ⟨B, I, L, M, N, O⟩ := wC (pos := Q) (j3 (xp := xp) (k := k) (pg := pg) (Φ := Φ) (sizeOf (ζ.E.comp f j s c))) b (by simp only [ζ.E.comp.sizeOf_spec]; lia) u G
    have e1 : (fun a => ζ.ex pg Φ a (.asg i (.comp f j s c))) = fun a => (ζ.eT pg Φ a s >>= fun ds => ζ.ir (ζ.bx (gc j (fun a => ζ.i8 pg Φ a c) (fun a => ζ.ev pg Φ a f) a) ds) >>= fun ys => .ok (.lst ys)) >>= fun d => .ok (.aN (a.set i (Z d))) := by
      funext a
      have := congrFun O a
      rw [ζ.x3]
      rw [this]
    rw [e1]
    exact LR b.calm (by rw [b.nm]; exact b.aa) B u I L M N l hi q m
  · have r := gC b h5
    have v := qR (t := Z (.Name x p)) (n := pos.line) (env := X.env) (dR h5) A
    by_cases o : i ∈ ct.aa
    · have E : ζ.gv e = true := by
        rcases h4 with h4 | h4
        · rw [QW.mpr o] at h4; cases h4
        · exact h4
      exact A9 o l hi q (r.fresh E) v m
    · exact A8 o l hi q r.val v m
def Dk(a:bG xp k g pg Φ X ct)(c:∀x,ζ.gZ ct.sc x=J->Loc X.env.scope x)(b:∀x,X.fn x=J){st:Wn}(h:ζ.sH g ct i e st=J):
  bF X st (bA xp X ct.aa λd=>ζ.ex pg Φ d (.asg i e)):=by
 unfold ζ.sH at h;rcases e1:ζ.gm st with _|⟨_|⟨t,_|⟨_,_⟩⟩,y⟩<;>rw[e1]at h<;>first|(cases h;done)|dsimp only at h
 .obtain⟨pos,rfl⟩:=mh e1
  split at h
  .rename_i x e2;obtain⟨p,rfl⟩:=d2 e2;exact Dj a c b h
  .cases h
def wF{st:Wn}(h:ζ.oR g ct i e nm st=J):∃x n a y p1 b p4,st=.Expr (.Call (.Attribute (.Name x p1) n a) [y] [] b) p4/\(a.endLine==b.line)=J/\ct.N[i]?=Z x/\ζ.gD ct.sc x=J/\ζ.okN x=J/\i∈ct.aa/\n=nm/\ζ.bc g ct VF e y=true:=by
 unfold ζ.oR at h
 split at h
 .rename_i c e1;obtain⟨pos,rfl⟩:=vw e1
  split at h
  .rename_i x n a y e2;obtain⟨p1,b,rfl⟩:=O0 e2;simp only[PW,QC]at h;obtain⟨⟨⟨⟨⟨⟨h0,d⟩,h2⟩,h3⟩,h4⟩,h5⟩,f⟩:=h;have h0:a.endLine=b.line:=h0;exact⟨x,n,a,y,p1,b,pos,rfl,⇑h0,d,h2,h3,QW.mp h4,h5,f⟩
  .cases h
 .cases h
def NR(h:ζ.B0 x=Z y):∃p,x=.Raise (Z y) Y p:=by
 cases x with
 |Raise e c p =>
  rcases e with _|e<;>rcases c with _|c<;>first|(cases h;done)|skip
  cases h;exact⟨_,rfl⟩
 |_=>exact nn h
def NU(q:ζ.vA x=Z (a,h,e,f)):∃p,x=.Try a h e f p:=by
 cases x with
 |Try a h e f p=>cases q;exact⟨p,rfl⟩
 |_=>exact nn q
def Dw(d:bG xp k g pg Φ X ct)(i:hZ xp g pg X ct){st:Wn}(h:ζ.sO g ct c st=J):bF X st (bA xp X ct.aa λm=>ζ.ex pg Φ m (.raise c)):=by
 unfold ζ.sO at h
 split at h
 .rename_i y e1;obtain⟨pos,rfl⟩:=NR e1
  split at h
  .rename_i x a e2;obtain⟨q,o,rfl⟩:=hg e2
   split at h
   .rename_i t e3;obtain⟨j,p,rfl⟩:=Cv e3;simp only[PW,QC]at h;obtain⟨⟨⟨rfl,f⟩,h2⟩,h3⟩:=h;obtain⟨n,C,rfl,l,O⟩:=i.cls.ex;obtain⟨e,b⟩:=l 1 x f;obtain rfl:e=C:=Qy (b.at_.symm.trans O.at_);exact Mn b O d.calm (d.lD h2) (d6 h3).1
   .cases h
  .cases h
 .cases h
def K6(O:jY X.K X.base a1 up C)(b:rk X g ct a1)(d:(m,E)∈X.b6)(q:E.cls=.ref C)(bk:E.data=.fields f0)(h2:f0[2]?=Z .none)(bh:X.A.handled=Z (.ref m))(nm:X.N=ct.N)(dq:X.N.Nodup)(cO:∀x,ct.sc.names.lookup x=Z .local->X.env.scope.names.lookup x=Z .local)(r:X.N[j]?=Z n)(bq:X.env.scope.names.lookup n=Z .local)(t:ζ.okN n=J)(h:ζ.sL g ct j i n z k5 bI fP gT=J)(u:ζ.pC up z k5 bI=J):
  i≠j/\i<X.N.length/\d3 X [fP,gT] (BY j m (.ag J)):=by
 unfold ζ.sL at h
 split at h
 .rename_i kk l e1;obtain⟨p1,rfl⟩:=mh e1
  split at h
  .rename_i x e2;obtain⟨p2,rfl⟩:=d2 e2
   split at h
   .rename_i hu e3;obtain⟨p3,rfl⟩:=Cw e3
    split at h
    .rename_i f4 e4;obtain⟨p4,rfl⟩:=oh e4
     split at h
     .rename_i hs ht f8 R e5;obtain rfl:=oo e5
      split at h
      .rename_i w a4;obtain⟨p5,rfl⟩:=vV a4
       split at h
       .rename_i f c a5;obtain⟨bJ,cZ,rfl⟩:=hg a5;simp only[PW,QC,bne_iff_ne,Qn]at h;obtain⟨⟨⟨⟨⟨⟨⟨⟨⟨⟨a,aJ⟩,h3⟩,h4⟩,h5⟩,aL⟩,bp⟩,rfl⟩,bf⟩,aA⟩,aG⟩:=h;obtain⟨dh,rfl⟩:=d2 aA;have v:dV X.env.scope n:=.inl bq;have y:=cO x aJ;rw[<- nm]at a;have B:i<X.N.length:=(Qp.mp a).1;obtain⟨a2,a3,f2⟩:=d6 h3;obtain⟨b1,b2⟩:=b.ag _ bf ∅;have eD:=z8 O b d q r v t h5;obtain⟨ed,m5⟩:=uX O b d q r v t aL;obtain⟨et,lB⟩:=uX O b d q r v t bp;have eE:=nS (pos:=cZ) (p:=bJ) (Df d bh bk h2) b1 b2 (show Wu "any"=Z (.builtin "any") by kernel_rfl) (hG (eZ (pos:=dh) a (.inl y) a2 a3) kE) ∅ ∅ rfl rfl;have eQ:=uV (pos:=R) ed (uV et (uY (Aj (pos:=p5) eE)));unfold ζ.pC at u;simp only[PW]at u;obtain⟨S,U,a0⟩:=u;refine⟨h4,B,λdi s e H T I ⟨G,ec⟩=>?_⟩;refine Ax (nY dq a (.inl y) (Ah eD) rfl (.inr y)) (Ay (nX eQ)) di s e H T I ?_;refine⟨G,λf1 s3=>⟨by rw[VH];exact Qk aG ∅,λp bg=>?_⟩⟩;have bH:i<e.length:=(by rw[I.len];exact B);have A:(e.set i (Z (V.ref p)))[j]?=Z (Z (V.ref m)):=(by rw[c2 h4];exact G);have aw:(e.set i (Z (V.ref p)))[i]?=Z (Z (V.ref p)):=n5 bH;have e0:=s3.trans (d0 (o:=.lst (z.map λk=>V.ag ((up 1).contains k))) bg);refine⟨A,λN L=>⟨_,rfl,?_⟩⟩;have bw:cz X.K N p ((z.map λk=>(up 1).contains k).map V.ag):=cz.of (by rw[VR];exact L _ _ b7);rw[S,if_pos rfl];refine⟨A,λQ M=>⟨_,rfl,?_⟩⟩;rw[U,if_pos rfl];refine⟨_,aw,p,_,rfl,hM M bw,_,rfl,?_⟩;rw[a0];exact ec Q ((e0.trans L).trans M)
       .cases h
      .cases h
     .cases h
    .cases h
   .cases h
  .cases h
 .cases h
def Ep(h:ζ.sI g ct b t=J):∃x a,t=.Name x a/\g.cls[b]?=Z x/\ζ.gy ct.sc x=J/\ζ.okN x=true:=by
 unfold ζ.sI at h
 split at h
 .rename_i x e1;obtain⟨a,rfl⟩:=d2 e1;simp only[PW,QC]at h;exact⟨x,a,rfl,h.1.1,h.1.2,h.2⟩
 .cases h
def wD(a:bG xp k g pg Φ X ct){st:Wn}(h:ζ.oP g ct e st=J):bF X st (bA xp X ct.aa λb=>ζ.ex pg Φ b (.expr e)):=by
 unfold ζ.oP at h
 split at h
 .rename_i y e1;obtain⟨pos,rfl⟩:=vw e1;rw[PW]at h;exact L7 (gC a h.2).view (qR (dR h.2) h.1)
 .cases h
theorem rI(d:bG xp k g pg Φ X ct):∀(f:ζ.S){st:Wn},ζ.oS g ct f st=J->bF X st (bA xp X ct.aa λi=>ζ.ex pg Φ i f)
 |.expr e,_,h=>wD d h
 |.iff c (.cons a .nil) (.cons b .nil),st,h=>by
  conv at h=>lhs;whnf
  rcases e1:ζ.oe st with _|⟨t,_|⟨x,_|⟨_,_⟩⟩,_|⟨y,_|⟨_,_⟩⟩⟩<;>rw[e1]at h<;>first|(cases h;done)|dsimp only at h
  .obtain⟨pos,rfl⟩:=BZ e1;simp only[PW]at h;exact Bc (gC d h.1.1).pt (vd (rI d a h.1.2) ve) (vd (rI d b h.2) ve)
def Dz(b:bG xp k g pg Φ X ct)(i:hZ xp g pg X ct){st:Wn}(h:ζ.sS g ct y j e st=J):bF X st (bA xp X ct.aa λp=>ζ.ex pg Φ p (.kQ y j e)):=by
 unfold ζ.sS at h;rcases e3:ζ.vA st with _|⟨_|⟨a,_|⟨_,_⟩⟩,_|⟨N,_|⟨_,_⟩⟩,_|⟨_,_⟩,_|⟨_,_⟩⟩<;>rw[e3]at h<;>first|(cases h;done)|dsimp only at h
 .obtain⟨pos,rfl⟩:=NU e3;simp only[PW,Qn]at h;obtain⟨⟨h2,h3⟩,h4⟩:=h;obtain⟨A,C,rfl,r,O⟩:=i.cls.ex;have s:=i.cls.lo j h3;have B:∀(f:List (VU×WS))(E:VI->VL->Prop),bF (jj X f E) a (bA (cI.d5 A) (jj X f E) ct.aa λp=>ζ.ex pg Φ p y):=λf E=>rI (X:=jj X f E) ⟨b.bS,b.room,b.units,b.calm,b.nm,b.eG,b.aa,b.lc,b.mS,b.gl⟩ _ h2
  have w:X.N.Nodup:=(by rw[b.nm];exact b.eG);have v:∀c,c≠1->ζ.gd pg c j e=.bad:=λc M=>by unfold ζ.gd;rw[beq_false_of_ne M];rfl
  cases l:ζ.pC pg.up e.a9 e.k5 e.ny with
  |false=>exact Bi (bv:=J) i.kN B v (.inl (by unfold ζ.gd;rw[l,WH,WH];rfl))
  |true =>
   have R:ζ.gd pg 1 j e=.ok (.bl (.ag J)):=(by unfold ζ.gd;rw[s,l];rfl);obtain⟨t,nm,body,a3⟩:=N;unfold ζ.xd at h4
   split at h4
   .rename_i t' e5;have e5:t=Z t':=e5;subst e5;simp only[PW]at h4;obtain⟨h5,d⟩:=h4;obtain⟨x,a4,rfl,H,I,L⟩:=Ep h5;obtain⟨D,z⟩:=r j x H;replace d:ζ.sM g ct e nm body=true:=d;unfold ζ.sM at d
    split at d
    .rename_i n;simp only[PW,QC]at d;obtain⟨⟨⟨m,S⟩,T⟩,o⟩:=d
     split at o
     .rename_i aw aA;have u:=b.lc n S;rw[<- b.nm]at m;exact Bi i.kN B v (.inr ⟨R,G4 O z s (b.lD I) (d6 L).1 w m u λG a5 aG f U a0 a1 a2=>(K6 (X:=km X (.ref G) f) (g:=g) (ct:=ct) O ⟨λx q=>b.lD q,λx q Q=>b.blt q Q,i.cls.kS,r⟩ a2 U a0 a1 rfl b.nm w b.lc m u T o l).2.2⟩)
     .cases o
    .cases d
   .cases h4
theorem xe:∀{ts:List Nat}{xs:List V1},ζ.lh ct ts xs=J->ts.length=xs.length/\(∀t∈ts,t∉ct.aa)/\∀(j i:Nat) y,ts[j]?=Z i->xs[j]?=Z y->ct.N[i]?=Z y/\ζ.gZ ct.sc y=J
 |[],[],_=>⟨rfl,by simp,λj i y e=>by simp at e⟩
 |[],_::_,h=>by unfold ζ.lh at h;cases h
 |_::_,[],h=>by unfold ζ.lh at h;cases h
 |t::ts,x::xs,h=>by
  unfold ζ.lh at h;simp only[PW,QC,QU]at h;obtain⟨⟨⟨⟨a,h2⟩,h3⟩,h4⟩,h5⟩:=h;obtain⟨b,c,d⟩:=xe h5;refine⟨by simp[b],λz hz=>?_,λj i y e1 e2=>?_⟩
  .rcases P1.mp hz with rfl|hz
   .intro w;rw[QW.mpr w]at h4;cases h4
   .exact c z hz
  .cases j with
   |zero=>simp at e1 e2;subst e1 e2;exact⟨a,h2⟩
   |succ j=>exact d j i y ⇑e1 ⇑e2
variable(xp k g pg Φ) in
structure dM (n:Nat):Prop where
 s:∀(s:ζ.S)(st:Wn)(ct:ζ.bE)(X:aq),sizeOf s<n->bG xp k g pg Φ X ct->hZ xp g pg X ct->ζ.sQ g ct s st=J->bF X st (bA xp X ct.aa λae=>ζ.ex pg Φ ae s)
 b:∀(b:ζ.B)(st:List Wn)(ct:ζ.bE)(X:aq),sizeOf b<n->bG xp k g pg Φ X ct->hZ xp g pg X ct->ζ.gP g ct b st=J->d3 X st (bA xp X ct.aa λae=>ζ.dj pg Φ ae b)
variable{n:Nat}
def Dm(a:bG xp k g pg Φ X ct)(c:hZ xp g pg X ct){st:Wn}(h:ζ.lg ct i st=J):bF X st (bA xp X ct.aa λae=>ζ.ex pg Φ ae (.kf i)):=by
 unfold ζ.lg at h;rcases e1:ζ.gm st with _|⟨_|⟨t,_|⟨_,_⟩⟩,y⟩<;>rw[e1]at h<;>first|(cases h;done)|dsimp only at h
 .obtain⟨pos,rfl⟩:=mh e1
  split at h
  .rename_i x e2;obtain⟨p1,rfl⟩:=d2 e2;simp only[PW,QC]at h;obtain⟨⟨⟨⟨d,h2⟩,h3⟩,h4⟩,h5⟩:=h;obtain⟨e,rfl⟩:=tX h5;exact L3 (QW.mp h4) (by rw[a.nm];exact a.eG) (by rw[a.nm];exact d) (c.loc x h2) (.inl (c.fn x))
  .cases h
def Dn(a:bG xp k g pg Φ X ct)(c:hZ xp g pg X ct){st:Wn}(h:ζ.lg ct i st=J):bF X st (bA xp X ct.aa λae=>ζ.ex pg Φ ae (.kg i)):=by
 unfold ζ.lg at h;rcases e1:ζ.gm st with _|⟨_|⟨t,_|⟨_,_⟩⟩,y⟩<;>rw[e1]at h<;>first|(cases h;done)|dsimp only at h
 .obtain⟨pos,rfl⟩:=mh e1
  split at h
  .rename_i x e2;obtain⟨p1,rfl⟩:=d2 e2;simp only[PW,QC]at h;obtain⟨⟨⟨⟨d,h2⟩,h3⟩,h4⟩,h5⟩:=h;obtain⟨e,rfl⟩:=tX h5;exact L4 (QW.mp h4) (by rw[a.nm];exact a.eG) (by rw[a.nm];exact d) (c.loc x h2) (.inl (c.fn x))
  .cases h
def Dp(a:bG xp k g pg Φ X ct){st:Wn}(h:ζ.sJ g ct i j e st=J):bF X st (bA xp X ct.aa λae=>ζ.ex pg Φ ae (.gR i j e)):=by
 unfold ζ.sJ at h;rcases e1:ζ.gm st with _|⟨_|⟨t,_|⟨_,_⟩⟩,v⟩<;>rw[e1]at h<;>first|(cases h;done)|dsimp only at h
 .obtain⟨pos,rfl⟩:=mh e1
  split at h
  .rename_i x y e2;obtain⟨p1,p2,p3,rfl⟩:=Cx e2;simp only[PW]at h;obtain⟨⟨⟨p,h2⟩,h3⟩,h4⟩:=h;obtain⟨a1,a2,a3,a4⟩:=nJ p;obtain⟨b1,b2,c,d⟩:=nU h2;obtain⟨f,l,_⟩:=d6 a3;obtain⟨m,o,_⟩:=d6 c;exact L6 a.units a4 d (by rw[a.nm];exact a1) (a.fY a2) f l (by rw[a.nm];exact b1) (a.fY b2) m o (gC a h4).val (qR (dR h4) h3)
  .cases h
def NY(h:ζ.vB x=Z (t,a,b)):∃p,x=.While t a b p:=by
 cases x with
 |While t a b p=>cases h;exact⟨p,rfl⟩
 |_=>exact nn h
def Dy(a:bG xp k g pg Φ X ct){st:Wn}(h:ζ.sR g ct i j e st=J):bF X st (bA xp X ct.aa λae=>ζ.ex pg Φ ae (.hK i j e)):=by
 unfold ζ.sR at h;rcases e1:ζ.gm st with _|⟨_|⟨t,_|⟨_,_⟩⟩,v⟩<;>rw[e1]at h<;>first|(cases h;done)|dsimp only at h
 .obtain⟨pos,rfl⟩:=mh e1
  split at h
  .rename_i x y e2;obtain⟨p3,rfl⟩:=q4 e2
   split at h
   .rename_i l e3;obtain⟨p1,rfl⟩:=d2 e3;simp only[PW]at h;obtain⟨⟨⟨f,h3⟩,h4⟩,h5⟩:=h;obtain⟨a1,a2,a3,a4⟩:=nJ f;obtain⟨c,d,_⟩:=d6 a3;exact Mt a4 (by rw[a.nm];exact a1) (a.fY a2) c d (gC a h4).val (gC a h5).view (qR (dR h4) h3)
   .cases h
  .cases h
def Du(d:bG xp k g pg Φ X ct){st:Wn}(h:ζ.sN ct i st=J):bF X st (bA xp X ct.aa λae=>ζ.ex pg Φ ae (.pop i)):=by
 unfold ζ.sN at h
 split at h
 .rename_i c e1;obtain⟨p4,rfl⟩:=vw e1
  split at h
  .rename_i m e2;obtain⟨f,rfl⟩:=vQ e2
   split at h
   .rename_i o p e e3;obtain rfl:=Cq e3
    split at h
    .rename_i x e4;obtain⟨p1,rfl⟩:=d2 e4;simp only[PW,QC]at h;obtain⟨⟨h0,a⟩,h2⟩:=h;obtain⟨a1,a2,a3,a4⟩:=nJ h2;obtain⟨j,l,_⟩:=d6 a3;have a:e.endLine=f.line:=a;exact s_pop a4 h0 (by rw[d.nm];exact a1) (d.fY a2) j l ⇑a
    .cases h
   .cases h
  .cases h
 .cases h
def Dx(a:bG xp k g pg Φ X ct){st:Wn}(h:ζ.sP g ct i e st=J):bF X st (bA xp X ct.aa λae=>ζ.ex pg Φ ae (.ma i e)):=by
 unfold ζ.sP at h
 split at h
 .rename_i y e1;obtain⟨pos,rfl⟩:=oh e1;simp only[PW]at h;have c:bG xp k g pg Φ X ⟨ct.N,ct.sc,ct.aa.filter λj=>!(j==i)⟩:={ a with aa:=λj d=>a.aa j (QH.mp d).1 };exact Mr (QW.mp h.1) (gC c h.2).val
 .cases h
def Nm(u:dM xp k g pg Φ n)(s)(st)(ct)(X)(r:sizeOf s<n+1)(d:bG xp k g pg Φ X ct)(f:hZ xp g pg X ct)(h:ζ.sQ g ct s st=J):bF X st (bA xp X ct.aa λae=>ζ.ex pg Φ ae s):=by
 cases s with
 |asg i e=>exact Dk d f.loc f.fn h
 |app i e =>
  obtain⟨x,n,C,y,p1,I,p4,rfl,o,h2,h3,h4,h5,w,q⟩:=wF (nm:="append") h;obtain⟨l,m,L⟩:=d6 h4;exact LQ h5 w (by rw[d.nm];exact h2) (d.fY h3) l m o (gC d q).val (fI (dR q))
 |ret e =>
  conv at h=>lhs;whnf
  rcases e1:ζ.hb st with _|_|y<;>rw[e1]at h<;>first|(cases h;done)|dsimp only at h
  .obtain⟨pos,rfl⟩:=oh e1;exact Mo (gC d h).val
 |jz i =>
  conv at h=>lhs;whnf
  rcases e1:ζ.hb st with _|_|y<;>rw[e1]at h<;>first|(cases h;done)|dsimp only at h
  .obtain⟨pos,rfl⟩:=oh e1
   split at h
   .rename_i x e2;obtain⟨p1,rfl⟩:=d2 e2;obtain⟨a1,a2,a3,a4⟩:=nJ h;obtain⟨l,m,_⟩:=d6 a3;exact Mq a4 (by rw[d.nm];exact a1) (d.fY a2) l m
   .cases h
 |l9 i =>
  conv at h=>lhs;whnf
  rcases e1:ζ.hb st with _|_|y<;>rw[e1]at h<;>first|(cases h;done)|dsimp only at h
  .obtain⟨pos,rfl⟩:=oh e1
   split at h
   .rename_i x e2;obtain⟨p1,rfl⟩:=d2 e2;obtain⟨a1,a2,a3,a4⟩:=nJ h;obtain⟨l,m,_⟩:=d6 a3;exact Mp a4 (by rw[d.nm];exact a1) (d.fY a2) l m
   .cases h
 |kf i=>exact Dm d f h
 |kg i=>exact Dn d f h
 |gR i j e=>exact Dp d h
 |hK i j e=>exact Dy d h
 |pop i=>exact Du d h
 |ma i e=>exact Dx d h
 |jM c b =>
  conv at h=>lhs;whnf
  rcases e1:ζ.vB st with _|⟨t,x,_|⟨_,_⟩⟩<;>rw[e1]at h<;>first|(cases h;done)|dsimp only at h
  .obtain⟨pos,rfl⟩:=NY e1;simp only[PW]at h;exact Mz f.pass (gC d h.1).pt (u.b b x ct X ↥r d f h.2) 200
 |raise c=>exact Dw d f h
 |expr e=>exact wD d h
 |kQ b1 aL aJ=>exact Dz d f h
 |ext i e =>
  obtain⟨x,n,C,y,p1,I,p4,rfl,o,h2,h3,h4,h5,w,q⟩:=wF (nm:="extend") h;obtain⟨l,m,L⟩:=d6 h4;exact L8 h5 w (by rw[d.nm];exact h2) (d.fY h3) l m o (gC d q).val (fI (dR q))
 |iff c a b =>
  conv at h=>lhs;whnf
  split at h
  .rename_i t x y e1;obtain⟨pos,rfl⟩:=BZ e1;simp only[PW]at h;have aw:=u.b a x ct X ↥r d f h.1.2;have A:=u.b b y ct X ↥r d f h.2;exact Bc (gC d h.1.1).pt aw A
  .cases h
 |dX j ts s b =>
  conv at h=>lhs;whnf
  rcases e1:ζ.od st with _|⟨t,a5,x,_|⟨_,_⟩⟩<;>rw[e1]at h<;>first|(cases h;done)|dsimp only at h
  .obtain⟨pos,rfl⟩:=NF e1
   split at h
   .rename_i xs z;simp only[PW]at h;obtain⟨⟨⟨⟨h0,o⟩,_⟩,h3⟩,h4⟩:=h;have M:=And.intro h3 h4;obtain⟨E,G,H⟩:=xe o;have N:X.N.Nodup:=(by rw[d.nm];exact d.eG);have T:ζ.jx s=J->∃v j p,t=.Tuple v j p:=λR=>by
     rw[R]at h0;have Q:j=2:=⇑h0;subst Q;cases t with
     |Tuple v j p=>exact⟨v,j,p,rfl⟩
     |_=>simp only[ζ.dv]at z;cases z
    have O:=Ao d.calm N z E λj i y e1 e2=>by
     obtain⟨aA,aG⟩:=H j i y e1 e2;exact⟨by rw[d.nm];exact aA,f.loc y aG,.inl (f.fn y)⟩
    obtain⟨h3,h4⟩:=M;obtain⟨U,a0⟩:=(j3 (xp:=xp) (k:=k) (g:=g) (pg:=pg) (Φ:=Φ) (sizeOf s+1)).i s a5 ct VF X t (Rw _) d h3 T;have A:=u.b b x ct X ↥r d f h4;exact L9 f.pass d.calm G U O A (set_plain a0)
   .cases h
def Nj(e:dM xp k g pg Φ n)(b)(st)(ct)(X)(d:sizeOf b<n+1)(c:bG xp k g pg Φ X ct)(a:hZ xp g pg X ct)(h:ζ.gP g ct b st=J):d3 X st (bA xp X ct.aa λae=>ζ.dj pg Φ ae b):=by
 unfold ζ.gP at h
 split at h
 .exact ve
 .rename_i s b x xs;simp only[PW]at h;have f:=e.s s x ct X ↥d c a h.1;have i:=e.b b xs ct X ↥d c a h.2;exact vd f i
 .cases h
theorem rC:∀n,dM xp k g pg Φ n
 |0=>⟨λ_ _ _ _ h=>⋯,λ_ _ _ _ h=>⋯⟩
 |n+1=>⟨Nm (rC n),Nj (rC n)⟩
def JP{st:List Wn}(c:bG xp k g pg Φ X ct)(a:hZ xp g pg X ct)(h:ζ.gP g ct b st=J):d3 X st (bA xp X ct.aa λae=>ζ.dj pg Φ ae b):=(rC (sizeOf b+1)).b b st ct X (Rw _) c a h
end
set_option tactic.hygienic false
end aD
end
section
namespace aD
open PySem PySem.Spec PyProof.Rows az
def BQ{ds:List D}{i:Nat}{d:D}(h:(ζ.start b ds)[i]?=Z (Z d)):ds[i]?=Z d/\i<ds.length:=by
 unfold ζ.start at h
 by_cases hi:i<ds.length
 .rw[Qj ⇑hi,Qh]at h;refine⟨?_,hi⟩;cases e:ds[i]? with
  |none=>rw[e]at h;cases h
  |some a=>rw[e]at h;cases h;rfl
 .rw[QD ⇑hi,RT]at h
  split at h<;>cases h
def Ng{i:Nat}(h:a[i]?=Z v):(az.start N a)[i]?=Z (Z v):=by
 have hi:=(Qp.mp h).1;unfold az.start;rw[Qj ⇑hi,Qh,h];rfl
def M5{K:W.Frag}(g:aF G H)(n:∀b xs,H b=Z (.tup xs)->G b=Z (.tup xs))(r:ax K G ds o)(s:N.length=c.np+c.nl)(p:ds.length=c.np)(m:∀i∈k,c.np<=i):
  cb K k G H G H (ζ.start c ds) (az.start N o):=by
 have f:∀{i:Nat}{d:D},(ζ.start c ds)[i]?=Z (Z d)->i∈k->False:=λh q=>by
  have:=(BQ h).2;have:=m _ q;lia
 refine⟨⟨?_,g,λi d h _=>?_,λi d h q=>(f h q).elim,λi d h q=>(f h q).elim,n,λi j d e a b h _ _ _ q=>(f h q).elim⟩,Ext.refl g,λi d a h _ q=>(f h q).elim⟩
 .unfold ζ.start az.start;rw[PY,PY,VH,VH,Rp,Rp,<- r.length];lia
 .obtain⟨v,l,h2⟩:=r.get (BQ h).1;exact⟨v,Ng l,h2⟩
def ox(K:W.Frag)(d:V1->Option VI)(g:ζ.Gt)(fds:List ζ.hW)(f:Nat)(x:V1):Prop :=
 ∃b N st a c,fds[f]?=Z b/\ζ.i1 g N b st=J/\d x=Z (.ref a)/\az.mv K x x st a c/\Binds K c ((fe st).args.map (·.arg)) []
section
variable{P:Wd}{w:Wo}{K:W.Frag}{ao:V1->Option VI}{base:We}{xp:cf}{g:ζ.Gt}{pg:ζ.cw}{fds:List ζ.hW}
set_option tactic.hygienic true in
theorem xc {st:Wn} (h:ζ.i1 g N a st=J):((fe st).args.map (·.arg)).length=a.np/\ri N ((fe st).args.map (·.arg)) (ff st)/\N.length=a.np+a.nl/\(∀i∈ζ.g0 a.body,a.np<=i/\i<N.length) /\
  ζ.gP g ⟨N,ff st,ζ.g0 a.body⟩ a.body (ia st)=true:=by
 unfold ζ.i1 at h
 split at h
 .rename_i name args body e bind pos;simp only[PW,QC,QU,Qr,bne_iff_ne,ne_eq,Qn]at h;obtain⟨⟨⟨⟨⟨⟨⟨⟨⟨⟨⟨⟨⟨⟨⟨f,h2⟩,h3⟩,h4⟩,h5⟩,c⟩,_⟩,_⟩,_⟩,_⟩,_⟩,_⟩,k⟩,l⟩,m⟩,j⟩:=h;have d:(args.args.map (·.arg)).length=a.np:=(by rw[c,QI];lia);refine⟨d,⟨f,h2,h3,h4,?_,λx b=>?_,l⟩,h5,m,j⟩
  .show N.take (args.args.map (·.arg)).length=args.args.map (·.arg);rw[d,c]
  .have b:x∈args.args.map (·.arg):=b;rw[c]at b;have:=k x b;unfold ζ.gZ at this;have this:e.names.lookup x=Z .local\/e.names.lookup x=Z .cell:=⇑this;exact this
 .cases h
def yk(t:iM xp g pg K ao base)(T:el P w K ao base xp n g pg (ζ.run pg fds n)){st:Wn}(e:fds[f]?=Z j)(X:ζ.i1 g N j st=J)(F:az.mv K x x st m a1):
  hj P w K ao base (gG P w xp) (n+1) m a1 ((fe st).args.map (·.arg)) (kL K (ζ.run pg fds (n+1) f) ((fe st).args.map (·.arg)).length):=by
 obtain⟨aL,S,aw,y,a4⟩:=xc X;have b2:∀ds,ζ.run pg fds (n+1) f ds=ζ.bb pg (ζ.run pg fds n) j ds:=λds=>by rw[ζ.n3,e]
 obtain⟨cY,dg,bQ,bJ,cZ,bg,p,ct,dr,rfl,lk,aG⟩:=F.ex;refine GC lk aG S (λdq H Q E h=>h.1) λA outer s H dq Q E B ⟨bh,G,ds,bp,cO,r,hw⟩=>?_
 have u:ds.length=j.np:=by rw[r.length,bh,aL]
 rw[b2]at hw;unfold ζ.bb at hw;rw[if_pos u]at hw;refine⟨bA xp (i2 (gG P w xp) P w K ao base N x (ff st) m p A outer s H E) (ζ.g0 j.body) λR=>ζ.dj pg (ζ.run pg fds n) R j.body,?_,?_⟩
 .refine JP (ct:=⟨N,ff st,ζ.g0 j.body⟩) (k:=n) (g:=g) (Φ:=ζ.run pg fds n) ⟨T,B,B.units,rfl,rfl,S.eG,λi hi=>(y i hi).2,λx h=>h,λx h=>h,λx h=>h⟩ ⟨t,⟨rfl,rfl⟩,λx h=>?_,λ_=>rfl,PassesOwn.leaving⟩ a4;unfold ζ.gZ at h;have h:(ff st).names.lookup x=Z .local\/(ff st).names.lookup x=Z .cell:=⇑h;exact h
 .refine⟨G,H,G,ζ.start j ds,M5 bp cO r aw u λi hi=>(y i hi).1,?_⟩;show a7 (ζ.dj pg (ζ.run pg fds n) (ζ.start j ds) j.body) _ _;generalize ζ.dj pg (ζ.run pg fds n) (ζ.start j ds) j.body=bH at hw ⊢;have hR:∀c:Nat,(∀b,aF H b->E (.int c 0) Y b)->dy xp (i2 (gG P w xp) P w K ao base N x (ff st) m p A outer s H E) c H:=λc a5 M U b s' e l I O L bw=>by
   obtain⟨a0,_,rfl,_⟩:=t.ex;refine cI.leave (base:=base) (outer:=outer) I.ok.frames I.stack rfl bw λa3 l1 bk b1 aJ bf=>?_
   have q:Inv _ M U b { s' with heap:=a3 }:=uK (t':=s'.toks) I L aJ bf;refine⟨c,b,l1,I.os,I.bare,q.base,q.aM,O,λa aA=>?_,bk,a5 b O⟩;have C:fb (i2 (gG P w (cI.d5 a0)) P w K ao base N x (ff st) m p A outer s H E) M b a:=(b1 a aA).elim (L a) λz=>.of I z (uN I.aM z)
   exact⟨C.2.1.elim (λz=>nomatch z) id,C.1⟩
  cases bH with
  |bad=>exact hw.elim
  |exc c=>exact hR c hw
  |ok a2 =>
   cases a2 with
   |aN R=>exact λU o b bI=>hw .b0 o b bI.ext rfl
   |bl d=>exact λv o b ext bq=>hw v o b ext bq
def OB(h:iM xp g pg K ao base)(T:el P w K ao base xp n g pg (ζ.run pg fds n))(i:∀f x,g.fns[f]?=Z x->ox K ao g fds f x):el P w K ao base xp (n+1) g pg (ζ.run pg fds (n+1)):=by
 refine⟨λf x m=>?_,T.blt,T.hx⟩;obtain⟨o,N,st,b,c,e,a,l,F,d⟩:=i f x m;obtain⟨k,_⟩:=xc a;exact⟨b,c,_,l,F.pV,d,yk h T e a F,λds j=>by rw[ζ.n3,e];unfold ζ.bb;exact if_neg (by rw[<- k];exact j)⟩
theorem Ca(c:iM xp g pg K ao base)(b:∀f x,g.fns[f]?=Z x->ox K ao g fds f x)(a:∀x:V1,x∈kU->ao x=Y)(i:∀(j:Nat)(x:V1)(d:D),g.hx[j]?=Z x->pg.cs[j]?=Z d->∃v u,ao x=Z u/\RelV v u/\∀G,Rep K G d v):
  ∀n,el P w K ao base xp n g pg (ζ.run pg fds n)
 |0=>⟨λf x o=>by
   obtain⟨r,N,st,k,l,e,q,m,F,a⟩:=b f x o;exact⟨k,l,_,m,F.pV,a,⟨λp H Q E h=>h.1,λA outer s H args t p Q E _ _ _ _ ⟨_,_,_,_,_,_,h⟩=>h.elim⟩,λ_ _=>rfl⟩,a,i⟩
 |n+1=>OB c (Ca c b a i n) b
end
abbrev kT(Q:Nat->V1->Prop):Nat->List V1->Prop
 |_,[]=>True
 |n,x::xs=>Q n x/\kT Q (n+1) xs
theorem kT.get:∀{xs:List V1}{n f:Nat}{x:V1},kT Q n xs->xs[f]?=Z x->Q (n+f) x
 |[],_,_,_,_,h=>by simp at h
 |y::xs,n,0,x,q,h=>by simp at h;subst h;exact q.1
 |y::xs,n,f+1,x,q,h=>by
  have:=kT.get (n:=n+1) (f:=f) q.2 ⇑h;rwa[R6,RK]at this
def F4{b:List VI}(h:b.length=1):∃a,b=[a]:=List.length_eq_one_iff.mp h
def F5{d:List VI}(h:d.length=2):∃a b,d=[a,b]:=by
 rcases d with _|⟨a,_|⟨b,_|⟨c,r⟩⟩⟩<;>first|exact⟨_,_,rfl⟩|(simp at h)
def F6{e:List VI}(h:e.length=3):∃a b c,e=[a,b,c]:=by
 rcases e with _|⟨a,_|⟨b,_|⟨c,_|⟨d,r⟩⟩⟩⟩<;>first|exact⟨_,_,_,rfl⟩|(simp at h)
abbrev AllB(K:W.Frag):List V1->Prop
 |[]=>True
 |x::xs=>W.nsIn K V2 x=Z Y/\AllB K xs
theorem AllB.get{K:W.Frag}(X:K.In h)(G:h.Ns V2 b):∀{xs:List V1},AllB K xs->∀x∈xs,b x=Y
 |[],_,x,a=>by simp at a
 |y::ys,q,x,a=>by
  rcases P1.mp a with rfl|a
  .exact VB X G q.1
  .exact AllB.get X G q.2 x a
def oy(K:W.Frag)(x:V1)(st:Wn):Prop :=
 ∃(f:VU)(d:VI)(e:Option VU)(bQ c h:VI)(b:Option VU)(a ct:VI)(g:Array (Option VI)),W.nsIn K V2 x=Z (Z (.ref f)) /\
  K.lookup f=Z ⟨d,e,.func (W.fnOf x x (fe st) (ia st) (ff st) .none bQ c h b a ct),g⟩/\W.codeIn K a x=J/\W.keepIn K (.ref f)=J
def Fe{K:W.Frag}{st:Wn}{bQ d e:VI}(a:W.nsIn K V2 x=Z (Z (.ref f)))(l:K.lookup f=Z ⟨h,i,.func (W.fnOf x x (fe st) (ia st) (ff st) .none bQ d e g b ct),j⟩)(c:W.codeIn K b x=J)(k:W.keepIn K (.ref f)=J):oy K x st:=⟨f,h,i,bQ,d,e,g,b,ct,j,a,l,c,k⟩
def bW{K:W.Frag}{st:Wn}(X:K.In h)(G:h.Ns V2 s)(d:oy K x st)(r:fds[j]?=Z n)(p:ζ.i1 g N n st=J)(q:∀(bQ m o:VI)(e:Option VU)(i ct:VI)(b:List VI),b.length=((fe st).args.map (·.arg)).length->bindArgs (W.fnOf x x (fe st) (ia st) (ff st) .none bQ m o e i ct) ⟨b,[]⟩=pure (((fe st).args.map (·.arg)).zip b)):ox K s g fds j x:=by
 obtain⟨f,t,u,bQ,m,o,e,i,ct,v,a,l,c,k⟩:=d;have F:=yo l c k;exact⟨n,N,st,f,_,r,p,UQ X G a,F,F.binds q⟩
def f5(K:W.Frag)(x:V1)(d:D):Prop:=∃v u,W.nsIn K V2 x=Z (Z u)/\RelV v u/\∀G,Rep K G d v
def fy(o:WS)(a:List VI):Prop:=o.cls=.type "tuple"/\∃n,o.data=.seq a.toArray n
def fy.rep{K:W.Frag}(l:K.lookup a=Z o)(h:fy o b)(c:Vals xs b)(hz:b.length<=1000)(r:ax K G ds xs):Rep K G (.kt ds) (.ref a) :=
 ⟨a,xs,rfl,.inr ⟨o,b.toArray,h.2.choose,l,h.1,h.2.choose_spec,by rw[P6,V7];lia,by rw[List.toList_toArray];exact c⟩,r⟩
def GY{K:W.Frag}(g:W.nsIn K V2 x=Z (Z u))(e:u=.int i t):f5 K x (.int i):=⟨.int i,u,g,⟨t,e⟩,λ_=>rfl⟩
def ue{K:W.Frag}(l:K.lookup a=Z o)(h:fy o [.int i t]):∀G,Rep K G (.kt [.int i]) (.ref a):=λG=>fy.rep (xs:=[.int i]) l h (.cons ⟨t,rfl⟩ .nil) (by simp) ⟨_,_,rfl,rfl,rfl⟩
def GW{K:W.Frag}(g:W.nsIn K V2 x=Z (Z (.ref a)))(l:K.lookup a=Z o)(h:fy o [.int 1 t,.ref b])(l2:K.lookup b=Z d)(h2:fy d [.ref c])(l3:K.lookup c=Z e)(h3:fy e [.int 0 f]):f5 K x (.kt [.int 1,.kt [.kt [.int 0]]]) :=
 ⟨.ref a,_,g,rfl,λG=>fy.rep (xs:=[.int 1,.ref b]) l h (.cons ⟨t,rfl⟩ (.cons rfl .nil)) (by simp) ⟨_,_,rfl,rfl,_,_,rfl,fy.rep (xs:=[.ref c]) l2 h2 (.cons rfl .nil) (by simp) ⟨_,_,rfl,ue l3 h3 G,rfl⟩,rfl⟩⟩
def GX{K:W.Frag}(g:W.nsIn K V2 x=Z (Z (.ref a)))(l:K.lookup a=Z o)(h:fy o [.int 2 t,.ref b])(l2:K.lookup b=Z d)(h2:fy d [.ref c,.ref e])(l3:K.lookup c=Z f)(h3:fy f [.int 0 j])(l4:K.lookup e=Z i)(h4:fy i [.int 1 k]):f5 K x (.kt [.int 2,.kt [.kt [.int 0],.kt [.int 1]]]) :=
 ⟨.ref a,_,g,rfl,λG=>fy.rep (xs:=[.int 2,.ref b]) l h (.cons ⟨t,rfl⟩ (.cons rfl .nil)) (by simp) ⟨_,_,rfl,rfl,_,_,rfl,fy.rep (xs:=[.ref c,.ref e]) l2 h2 (.cons rfl (.cons rfl .nil)) (by simp) ⟨_,_,rfl,ue l3 h3 G,_,_,rfl,ue l4 h4 G,rfl⟩,rfl⟩⟩
def GZ{K:W.Frag}{g:ζ.Gt}{pg:ζ.cw}(X:K.In h)(G:h.Ns V2 k)(e1:g.hx=[s,t,w])(e2:pg.cs=[l,m,o])(p:f5 K s l)(q:f5 K t m)(r:f5 K w o)(j:Nat)(x:V1)(d:D)(e:g.hx[j]?=Z x)(f:pg.cs[j]?=Z d):∃v u,k x=Z u/\RelV v u/\∀G,Rep K G d v:=by
 have i:f5 K x d->∃v u,k x=Z u/\RelV v u/\∀G,Rep K G d v:=λ⟨v,u,a,b,c⟩=>⟨v,u,UQ X G a,b,c⟩;rw[e1]at e;rw[e2]at f
 match j,e,f with
 |0,e,f=>cases e;cases f;exact i p
 |1,e,f=>cases e;cases f;exact i q
 |2,e,f=>cases e;cases f;exact i r
 |n+3,e,_=>cases e
theorem AR{K:W.Frag}:∀ns:List Int,ax K G (ns.map ζ.D.int) (ns.map V.int)
 |[]=>rfl
 |n::ns=>⟨.int n,ns.map V.int,rfl,rfl,AR ns⟩
def Nc{K:W.Frag}{ns:List Int}(b:cz K H a (ns.map V.int))(c:d [.lst (ns.map .int)]=.ok (.ag J)):kL K d 1 [.ref a] H (λv _=>v=.ag J) λ_ _ _=>False:=by
 refine⟨rfl,H,[.lst (ns.map .int)],aF.refl H,λ_ _ z=>z,⟨.ref a,[],rfl,⟨a,_,rfl,b,AR ns⟩,rfl⟩,?_⟩;rw[c];exact λv e f _ r=>r
def EZ:gG P w xp outer H s (λ_ _ _=>False) e s'->False:=by rintro⟨_,_,_,_,_,_,_,_,_,_,h⟩;exact h
abbrev hp(K:W.Frag)(g:ζ.Gt)(c:Nat):Option Addr:=match g.cls[c]? with
 |some x=>(match W.nsIn K V2 x with|some (Z (.ref C))=>Z C|_=>Y)
 |none=>Y
def Ew{K:W.Frag}(h:g.cls[c]?=Z x)(e:W.nsIn K V2 x=Z (Z (.ref C))):hp K g c=Z C:=by
 unfold hp;rw[h];dsimp only;rw[e]
def iR(o:WS)(C N:VU)(bm:List VI)(a:String):Prop:=∃(nm q:V1)(bs:List VI)(hdct:Bool)(sn:List V1)(sub:List VI)(ab:Bool)(col:Option Bool)(dd:Option VU)(k0 k1 k2 k3 k5:Option VI),o=Wf nm q C N bs bm hdct sn sub ab col dd k0 k1 k2 k3 k5 a
def jP(K:W.Frag)(x:V1)(C:VU)(bm:List VI):Prop:=∃o N i,W.nsIn K V2 x=Z (Z (.ref C))/\K.lookup C=Z o/\iR o C N bm i/\bm.contains (.type "BaseException")=J
def rf(K:W.Frag)(x:V1)(C:VU)(bm:List VI):Prop:=∃o N,W.nsIn K V2 x=Z (Z (.ref C))/\K.lookup C=Z o/\iR o C N bm "ValueError.__new__"/\PySem.W.nsOkIn K N=J/\W.nsIn K N "__init__"=Z Y/\PySem.W.tailIn K oO bm=J/\cI.Plain K C bm
def ow(K:W.Frag)(k l m n o p:V1):Prop:=∃b a c d e f g b1 b2 h i j,(jP K k b g/\rf K l a b1/\jP K m c b2/\jP K n d h/\jP K o e i/\jP K p f j) /\
 (VY a::b1).contains (.ref b)=J/\(VY a::b1).contains (.ref c)=VF/\(VY a::b1).contains (.ref d)=VF/\(VY a::b1).contains (.ref e)=VF/\(VY a::b1).contains (.ref f)=VF
def Eu{K:W.Frag}(a0:W.nsIn K V2 u=Z (Z (.ref b)))(l0:K.lookup b=Z m)(e0:iR m b z h G)(h0:h.contains (.type "BaseException")=J)(a1:W.nsIn K V2 v=Z (Z (.ref a)))(l1:K.lookup a=Z o)(e1:iR o a g b1 "ValueError.__new__")(a2:W.nsIn K V2 w=Z (Z (.ref c)))(l2:K.lookup c=Z p)(e2:iR p c A b2 H)(h2:b2.contains (.type "BaseException")=J)(a3:W.nsIn K V2 x=Z (Z (.ref d)))(l3:K.lookup d=Z q)(e3:iR q d B j I)(h3:j.contains (.type "BaseException")=J)(a4:W.nsIn K V2 y=Z (Z (.ref e)))(l4:K.lookup e=Z r)(e4:iR r e C k L)(h4:k.contains (.type "BaseException")=J)(a5:W.nsIn K V2 Pn=Z (Z (.ref f)))(l5:K.lookup f=Z s)(e5:iR s f E l M)(h5:l.contains (.type "BaseException")=J)(n:PySem.W.nsOkIn K g=J)(i:W.nsIn K g "__init__"=Z Y)(t:PySem.W.tailIn K oO b1=J)(p1:PySem.W.findIn K (.ref a) "__class__"=Z (Z (.builtin "object.__class__")))(p2:PySem.W.findIn K (.ref a) "__getattribute__"=Z (Z (.builtin "BaseException.__getattribute__")))(p3:PySem.W.findIn K (.ref a) "__getattr__"=Z Y)(p4:b1.contains (.type "object")=J)(p5:b1.contains (.type "BaseException")=J)(m0:(VY a::b1).contains (.ref b)=J)(m2:(VY a::b1).contains (.ref c)=VF)(m3:(VY a::b1).contains (.ref d)=VF)(m4:(VY a::b1).contains (.ref e)=VF)(m5:(VY a::b1).contains (.ref f)=VF):ow K u v w x y Pn :=
 ⟨b,a,c,d,e,f,h,b1,b2,j,k,l,⟨⟨_,_,_,a0,l0,e0,h0⟩,⟨_,_,a1,l1,e1,n,i,t,⟨p1,p2,p3,p4,p5⟩⟩,⟨_,_,_,a2,l2,e2,h2⟩,⟨_,_,_,a3,l3,e3,h3⟩,⟨_,_,_,a4,l4,e4,h4⟩,⟨_,_,_,a5,l5,e5,h5⟩⟩,m0,m2,m3,m4,m5⟩
section
variable{K:W.Frag}{h:We}{ao:V1->Option VI}{g:ζ.Gt}{pg:ζ.cw}{c:Nat}{x:V1}{C:VU}{bm:List VI}
def lV(X:K.In h)(G:h.Ns V2 ao)(d:g.cls[c]?=Z x)(q:jP K x C bm):kV ao h (hp K g) c x C:=by
 obtain⟨o,N,i,a,l,⟨nm,q,bs,hdct,sn,sub,ab,col,dd,k0,k1,k2,k3,k5,rfl⟩,b⟩:=q;exact⟨Ew d a,UQ X G a,_,_,_,_,_,_,_,_,_,_,_,_,_,_,_,_,_,X _ _ l,b⟩
def rf.s(q:rf K x C bm):jP K x C bm:=by
 obtain⟨o,N,a,l,e,n,i,t,P⟩:=q;exact⟨o,N,_,a,l,e,P.yA⟩
def Ey(X:K.In h)(G:h.Ns V2 ao)(b:g.cls=[L,M,O,Q,R,S])(y:W.nsIn K V2 "ValueError"=Z Y)(q:ow K L M O Q R S)(d:pg.up 1=[1,0,1000]):iM (cI.d5 (hp K g)) g pg K ao h:=by
 obtain⟨T,v,U,a0,a1,a2,a3,b1,b2,a4,a5,aw,⟨A,u,B,E,H,I⟩,m0,m2,m3,m4,m5⟩:=q;have j:=lV (c:=0) X G (by rw[b];rfl) A;have f:=lV (c:=1) X G (by rw[b];rfl) u.s;have m:=lV (c:=2) X G (by rw[b];rfl) B;have p:=lV (c:=3) X G (by rw[b];rfl) E;have r:=lV (c:=4) X G (by rw[b];rfl) H;have s:=lV (c:=5) X G (by rw[b];rfl) I;refine⟨⟨_,v,rfl,λc z e=>?_,f.at_,by rw[d];rfl,?_⟩,λk w=>?_,VB X G y⟩
 .rw[b]at e
  match c,e with
  |0,e=>cases e;exact⟨_,j⟩
  |1,e=>cases e;exact⟨_,f⟩
  |2,e=>cases e;exact⟨_,m⟩
  |3,e=>cases e;exact⟨_,p⟩
  |4,e=>cases e;exact⟨_,r⟩
  |5,e=>cases e;exact⟨_,s⟩
  |n+6,e=>cases e
 .obtain⟨o,N,a,l,⟨nm,q,bs,hdct,sn,sub,ab,col,dd,k0,k1,k2,k3,k5,rfl⟩,n,i,t,P⟩:=u;refine⟨_,_,_,_,b1,N,nm,q,bs,hdct,sn,sub,ab,col,dd,k0,k1,k2,k3,k5,_,YO,rfl,X _ _ l,.of_isNs (PySem.W.isNs_of_in X n),PySem.W.nsMap_none_of_in X n i,PySem.W.tail_of_in X t,P,λk D e=>?_⟩;rw[d]
  match k,e with
  |0,e=>cases j.at_.symm.trans e;exact m0
  |1,e=>cases f.at_.symm.trans e;simp
  |2,e=>cases m.at_.symm.trans e;exact m2
  |3,e=>cases p.at_.symm.trans e;exact m3
  |4,e=>cases r.at_.symm.trans e;exact m4
  |5,e=>cases s.at_.symm.trans e;exact m5
  |n+6,e=>unfold hp at e;rw[b]at e;cases e
 .rw[d]
  match k,w with
  |0,_=>rfl
  |1,_=>rfl
end
def Ig{l:PySem.W.OpenLaw}{K:W.Frag}{st:Wn}(X:K.In h)(G:h.Ns V2 b)(z:b "law"=Z (.ref t))(dl:oy K "law" st)(y:fds[f]?=Z d)(r:ζ.i1 g N d st=J)(A:(fe st).args.map (·.arg)=[x])(v:∀(bQ m o:VI)(i:Option VU)(j ct:VI)(s:VL)(u:VI),X9 s (W.fnOf "law" "law" (fe st) (ia st) (ff st) .none bQ m o i j ct) ⟨[u],[]⟩ [(x,u)])(T:∀base:We,K.In base->base.Ns V2 b->iM xp g pg K b base/\el l.prog w K b base xp n g pg (ζ.run pg fds n)):
  ∃d:Xs,(∀(s:VL)(u:VI),X9 s d ⟨[u],[]⟩ [(x,u)])/\∀base:We,K.In base->base.Ns V2 b->hj l.prog w K b base (gG l.prog w xp) (n+1) t d [x] (kL K (ζ.run pg fds (n+1) f) 1):=by
 obtain⟨C,E,H,bQ,m,o,i,j,ct,I,a,B,c,k⟩:=dl;have e:=z.symm.trans (UQ X G a);cases e;refine⟨_,v bQ m o i j ct,λbase p q=>?_⟩;have F:=yo B c k;have:=yk (T base p q).1 (T base p q).2 (f:=f) y r F;rw[A]at this;exact this
def walk{l:PySem.W.OpenLaw}{cf:(V1->Option VI)->We->Prop}{K:Params->W.Frag}(p:l.most=Z 63)(o:d.params.defaults=[])(r:n<=40)(t:∀ns:List Int,ζ.run pg fds n f [.lst (ns.map .int)]=.ok (.ag J))(m:∀(w:Wo)(h:We),i w h->(K w.params).In h)(F:∀(w:Wo)(b:V1->Option VI)(c:VU)(h:We),(K w.params).In h->h.Ns V2 b->b d.name=Z (.ref c) ->
   ∃e:Xs,(∀(s:VL)(u:VI),X9 s e ⟨[u],[]⟩ [(x,u)])/\∀base:We,(K w.params).In base->base.Ns V2 b->hj l.prog w (K w.params) b base (gG l.prog w (cI.d5 (hp (K w.params) g))) n c e [x] (kL (K w.params) (ζ.run pg fds n f) 1)):
  PySem.W.WalkO q y cf i l.row.toRowW d [] (λf v=>PySem.call f v) :=
 az.Pc (n:=63) (k:=n) (x:=x) (CX:=λw=>gG l.prog w (cI.d5 (hp (K w.params) g))) (sp:=λw=>kL (K w.params) (ζ.run pg fds n f) 1) p ∅ o (d9.mono (⟨rfl,∅,∅⟩:d9 40 Yd) r) m F (λw H a ns _ _ j=>Nc j (t ns)) λ_ _ _ _ _ z=>EZ z
end aD
end
section
namespace oC
open PySem PySem.Spec PyProof.Rows az aD
abbrev bZ:List Nat:=[1,11,12,13,14,15,16,17,18,22,23,24,25,26,27,29,30,31,32,33,34,35,36,37,38,40,41,43,44,45,46,47,48,49,50,51,52,53,54,55,56,57]
def st(j:Nat):Stmt:=PySem.Challenge.pw_holeyard_k32_whole_beside_and_over.main.body.getD (bZ.getD j 0) (.Pass ⟨0,0,0,0⟩)
def Er:((VN 42).all λj=>ζ.i1 dp.gt (dp.zS.getD j []) (dp.fds.getD j ⟨0,0,.nil⟩) (st j))=true:=by decide +kernel
def bT(j:Nat)(h:j<42):ζ.i1 dp.gt (dp.zS.getD j []) (dp.fds.getD j ⟨0,0,.nil⟩) (st j)=true:=Qr.mp Er j (V0.mpr h)
structure Txt(K:W.Frag):Prop where
 ds:kT (λj x=>oy K x (st j)) 0 dp.gt.fns
 ag:AllB K kU
 kS:W.nsIn K V2 "ValueError"=Z Y
 cl:ow K "HoleError" "NoRoom" "NoNet" "NoText" "NoRound" "NotFree"
 gx:f5 K "MOST_CORNERS" (.int 8)
 g1:f5 K "ONE_CORNER" (.kt [.int 1,.kt [.kt [.int 0]]])
 g2:f5 K "TWO_CORNERS" (.kt [.int 2,.kt [.kt [.int 0],.kt [.int 1]]])
section
variable{K:W.Frag}{h:We}{ao:V1->Option VI}
theorem fns(X:K.In h)(G:h.Ns V2 ao)(t:Txt K):kT (ox K ao dp.gt dp.fds) 0 dp.gt.fns:=by
 obtain⟨b,c,o,A,R,U,a0,a1,a2,a3,d,e,f,g,i,j,k,l,m,n,p,q,r,s,u,v,w,x,y,z,B,C,E,H,I,L,M,N,O,Q,S,T,-⟩:=t.ds;refine⟨bW X G b rfl (bT 0 ∅) ?_,bW X G c rfl (bT 1 ∅) ?_,bW X G o rfl (bT 2 ∅) ?_,bW X G A rfl (bT 3 ∅) ?_,bW X G R rfl (bT 4 ∅) ?_,bW X G U rfl (bT 5 ∅) ?_,bW X G a0 rfl (bT 6 ∅) ?_,bW X G a1 rfl (bT 7 ∅) ?_,bW X G a2 rfl (bT 8 ∅) ?_,bW X G a3 rfl (bT 9 ∅) ?_,bW X G d rfl (bT 10 ∅) ?_,bW X G e rfl (bT 11 ∅) ?_,bW X G f rfl (bT 12 ∅) ?_,bW X G g rfl (bT 13 ∅) ?_,bW X G i rfl (bT 14 ∅) ?_,bW X G j rfl (bT 15 ∅) ?_,bW X G k rfl (bT 16 ∅) ?_,bW X G l rfl (bT 17 ∅) ?_,bW X G m rfl (bT 18 ∅) ?_,bW X G n rfl (bT 19 ∅) ?_,bW X G p rfl (bT 20 ∅) ?_,bW X G q rfl (bT 21 ∅) ?_,bW X G r rfl (bT 22 ∅) ?_,bW X G s rfl (bT 23 ∅) ?_,bW X G u rfl (bT 24 ∅) ?_,bW X G v rfl (bT 25 ∅) ?_,bW X G w rfl (bT 26 ∅) ?_,bW X G x rfl (bT 27 ∅) ?_,bW X G y rfl (bT 28 ∅) ?_,bW X G z rfl (bT 29 ∅) ?_,bW X G B rfl (bT 30 ∅) ?_,bW X G C rfl (bT 31 ∅) ?_,bW X G E rfl (bT 32 ∅) ?_,bW X G H rfl (bT 33 ∅) ?_,bW X G I rfl (bT 34 ∅) ?_,bW X G L rfl (bT 35 ∅) ?_,bW X G M rfl (bT 36 ∅) ?_,bW X G N rfl (bT 37 ∅) ?_,bW X G O rfl (bT 38 ∅) ?_,bW X G Q rfl (bT 39 ∅) ?_,bW X G S rfl (bT 40 ∅) ?_,bW X G T rfl (bT 41 ∅) ?_,trivial⟩<;>intro _ _ _ _ _ _ a4 a<;>first|(obtain⟨_,rfl⟩:=F4 a;rfl)|(obtain⟨_,_,rfl⟩:=F5 a;rfl)|(obtain⟨_,_,_,rfl⟩:=F6 a;rfl)
def bS{P:Wd}{w:Wo}(X:K.In h)(G:h.Ns V2 ao)(t:Txt K)(base:We)(b:K.In base)(c:base.Ns V2 ao):iM (cI.d5 (hp K dp.gt)) dp.gt dp.pg K ao base/\el P w K ao base (cI.d5 (hp K dp.gt)) 20 dp.gt dp.pg (ζ.run dp.pg dp.fds 20):=by
 have a:iM (cI.d5 (hp K dp.gt)) dp.gt dp.pg K ao base:=Ey b c rfl t.kS t.cl rfl;exact⟨a,Ca a (λf x e=>by have:=(fns X G t).get e;rwa[Sf]at this) (AllB.get X G t.ag) (GZ b c rfl rfl t.gx t.g1 t.g2) _⟩
end
end oC
abbrev PySem.W.Fast.tw3783349209890290249:=PySem.Challenge.pw_holeyard_k32_whole_beside_and_over
theorem PySem.W.Fast.te3783349209890290249:PySem.Challenge.pw_holeyard_k32_whole_beside_and_over=PySem.W.Fast.tw3783349209890290249:=rfl
namespace PySem.W.Fast
def tw15433783829960054452:=P0
def tw12868031847039979939:=P0
def tw4141954305002042590:=P0
def tw17751483961723089281:=P0
def tw11908565797092730246:=P0
def tw16954755837254307556:=P0
def tw14709209937499137023:=P0
def tw11805559833035558482:=P0
def tw13924164723727281706:=P0
def tw5155816703172679937:=P0
def tw3618839066364855875:=P0
def tw16243121305304550299:=P0
def tw16286382296442869396:=P0
def tw8731223831291675843:=P0
def tw15048779727132425905:=P0
def tw17012007879007306178:=P0
def tw16022456419188742239:=P0
def tw8977078921319169652:=P0
def tw11785744630311202176:=P0
def tw8392399174918063968:=P0
def tw13873080693017272152:=P0
def tw16296376732008815004:=P0
def tw5246096820121901034:=P0
def tw9074583198748012103:=P0
def tw12153896415769467826:=P0
def tw14351032626530588215:=P0
def tw16612403419422400464:=P0
def tw16858178358588323235:=P0
def tw16623706892889772740:=P0
def tw11993697315114048552:=P0
def tw6620728065835318216:=P0
def tw10055761448457209387:=P0
def tw4912742560918709327:=P0
def tw8314617994252364232:=P0
def tw21348395587426384:=P0
def tw18250334757950365242:=P0
def tw4087447317716915085:=P0
def tw14371408301454716929:=P0
def tw14079043193120930712:=P0
def tw4523877954037490399:=P0
def tw11307218117681851118:=P0
def tw10879052322884530083:=P0
def tw18223343838022157619:=P0
def tw8426450680978574418:=P0
def tw10488361717483696433:=P0
def tw539999158023849927:=P0
def tw371273068302210715:=P0
def tw10776358719221768388:=P0
def tw4665400257424166865:=P0
def tw6591193669355079301:=P0
def tw2215295487326379434:=P0
def tw5876027564131038574:=P0
def tw15739449175204314846:=P0
def tw6821426124992997395:=P0
def tw14834572395696416562:=P0
def tw1076896463535600419:=P0
def tw14700613887469127762:=P0
def tw10315533633000621773:=P0
def tw11818411426515709007:=P0
def tw15761686704110120305:=P0
def tw5012614683467356844:=P0
def tw16891501356812497027:=P0
def tw892961449596885264:=P0
def tw16751039206708760565:=P0
def tw18079653452811131213:=P0
def tw15534450830338698381:=P0
def tw6335619520015410479:=P0
def tw13222032049525169970:=P0
def tw7911815426932396382:=P0
def tw11594352628206282231:=P0
def tw9808822968013049826:=P0
def tw10280274046066651279:=P0
def tw15357105910503797616:=P0
def tw8111529448807644890:=P0
def tw5433282362550763860:=P0
def tw3701643234779752987:=P0
def tw17297445053145268339:=P0
def tw5581257687410005891:=P0
def tw16717573961503733397:=P0
def tw7709278854803955706:=P0
def tw1780060172611063735:=P0
def tw17511173831350983546:=P0
def tw13188095014440157545:=P0
def tw14395674209680541513:=P0
def tw8116309878027903753:=P0
def tw11135607009821654257:=P0
def tw1765678869085311691:=P0
def tw2114847857606576497:=P0
def tw90350442947730597:=P0
def tw4770802895949466671:=P0
def tw18256653565450336118:=P0
def tw1135168589667576842:=P0
def tw3771082751051657514:=P0
def tw6711439834244444451:=P0
def tw17101125981132030603:=P0
def tw3658870109225714108:=P0
def tw6062615023864590515:=P0
def tw12390473671301804889:=P0
def tw12773280774095274731:=P0
def tw5612569311904719511:=P0
def tw9650704486710503484:=P0
def tw11184773188855841387:=P0
def tw6331222164880444115:=P0
def tw4107361795750562263:=P0
def tw11270171301439864731:=P0
def tw13642053588607805664:=P0
def tw8926225940692528221:=P0
def tw960452132772507507:=P0
def tw9361196026695775969:=P0
def tw13667182355223931215:=P0
def tw10298010258598583946:=P0
def tw5907976993232543564:=P0
def tw3268129621507591659:=P0
def tw11251184896408309923:=P0
def tw7599326823009902889:=P0
def tw12634598326554511666:=P0
def tw13880426677626197580:=P0
def tw1466928394109893676:=P0
def tw2331856170599090987:=P0
def tw18443755509525847430:=P0
def tw8592327633241864669:=P0
def tw17136835676024008029:=P0
def tw16706089264255481531:=P0
def tw1571607850278353287:=P0
def tw7031360415442463835:=P0
def tw16981958370441540226:=P0
def tw15411914324315677926:=P0
def tw7230740778439009350:=P0
def tw17724890985933168690:=P0
def tw1070565689418272315:=P0
def tw4526588482023506886:=P0
def tw13616545777233450988:=P0
def tw12463159399471151525:=P0
def tw13607531224403479558:=P0
def tw6228731236052898609:=P0
def tw8421783174119594736:=P0
def tw6912125283432184172:=P0
def tw13366703028576325061:=P0
def tw11493621665275731336:=P0
def tw15938416014524202666:=P0
end PySem.W.Fast
open PySem PySem.W PyProof.Rows
set_option maxRecDepth 100000 in
set_option maxHeartbeats 0 in
theorem PySem.Challenge.cw_holeyard_k32_whole_beside_and_over_holds : PySem.Challenge.rw_holeyard_k32_whole_beside_and_over.Holds := by
 w_on;o_law;k_head;(case hw=>w_witness2)
 k_fill
 refine aD.walk (g:=dp.gt) (l:=PySem.Challenge.rw_holeyard_k32_whole_beside_and_over) (pg:=dp.pg) (fds:=dp.fds) (n:=21) (f:=41) (x:="_law_script") rfl rfl ∅ wg.Oa (λw h Y=>PySem.W.kIn_of Y) ?F
 case F =>
  intro w ao aW h jW G Ha;have cl:aD.ow (az.hl jW) "HoleError" "NoRoom" "NoNet" "NoText" "NoRound" "NotFree":=by
   dsimp only[az.hl];refine' aD.Eu ?a0 ?l0 ?e0 ?h0 ?a1 ?l1 ?e1 ?a2 ?l2 ?e2 ?h2 ?a3 ?l3 ?e3 ?h3 ?a4 ?l4 ?e4 ?h4 ?a5 ?l5 ?e5 ?h5 ?n ?i ?t ?p1 ?p2 ?p3 ?p4 ?p5 ?m0 ?m2 ?m3 ?m4 ?m5
   (case a0=>k_is);(case l0=>k_is);(case e0=>exact⟨_,_,_,_,_,_,_,_,_,_,_,_,_,_,rfl⟩);(case h0=>rfl);(case a1=>k_is);(case l1=>k_is);(case e1=>exact⟨_,_,_,_,_,_,_,_,_,_,_,_,_,_,rfl⟩);(case a2=>k_is);(case l2=>k_is);(case e2=>exact⟨_,_,_,_,_,_,_,_,_,_,_,_,_,_,rfl⟩);(case h2=>rfl);(case a3=>k_is);(case l3=>k_is);(case e3=>exact⟨_,_,_,_,_,_,_,_,_,_,_,_,_,_,rfl⟩);(case h3=>rfl);(case a4=>k_is);(case l4=>k_is);(case e4=>exact⟨_,_,_,_,_,_,_,_,_,_,_,_,_,_,rfl⟩);(case h4=>rfl);(case a5=>k_is);(case l5=>k_is);(case e5=>exact⟨_,_,_,_,_,_,_,_,_,_,_,_,_,_,rfl⟩);(case h5=>rfl);(case n=>kernel_rfl);(case i=>k_is);(case t=>kernel_rfl);(case p1=>k_is);(case p2=>k_is);(case p3=>k_is);(case p4=>rfl);(case p5=>rfl);(case m0=>rfl);(case m2=>rfl);(case m3=>rfl);(case m4=>rfl);(case m5=>rfl)
  have gx:aD.f5 (az.hl jW) "MOST_CORNERS" (.int 8):=by
   dsimp only[az.hl];refine' aD.GY ?g ?e;(case g=>k_is);(case e=>rfl)
  have g1:aD.f5 (az.hl jW) "ONE_CORNER" (.kt [.int 1,.kt [.kt [.int 0]]]):=by
   dsimp only[az.hl];refine' aD.GW ?g ?l ?h ?l2 ?h2 ?l3 ?h3;(case g=>k_is);(case l=>k_is);(case h=>exact⟨rfl,_,rfl⟩);(case l2=>k_is);(case h2=>exact⟨rfl,_,rfl⟩);(case l3=>k_is);(case h3=>exact⟨rfl,_,rfl⟩)
  have g2:aD.f5 (az.hl jW) "TWO_CORNERS" (.kt [.int 2,.kt [.kt [.int 0],.kt [.int 1]]]):=by
   dsimp only[az.hl];refine' aD.GX ?g ?l ?h ?l2 ?h2 ?l3 ?h3 ?l4 ?h4;(case g=>k_is);(case l=>k_is);(case h=>exact⟨rfl,_,rfl⟩);(case l2=>k_is);(case h2=>exact⟨rfl,_,rfl⟩);(case l3=>k_is);(case h3=>exact⟨rfl,_,rfl⟩);(case l4=>k_is);(case h4=>exact⟨rfl,_,rfl⟩)
  have t:oC.Txt (az.hl jW):=by
   refine⟨⟨?_,?_,?_,?_,?_,?_,?_,?_,?_,?_,?_,?_,?_,?_,?_,?_,?_,?_,?_,?_,?_,?_,?_,?_,?_,?_,?_,?_,?_,?_,?_,?_,?_,?_,?_,?_,?_,?_,?_,?_,?_,?_,trivial⟩,⟨?_,?_,?_,?_,?_,?_,?_,?_,?_,?_,?_,?_,?_,?_,trivial⟩,?_,cl,gx,g1,g2⟩<;>dsimp only[az.hl]<;>first|(refine' aD.Fe ?a ?l ?c ?k;(case a=>k_is);(case l=>k_is);(case c=>k_is);(case k=>k_is))|k_is
  exact aD.Ig jW G Ha (t.ds.get (f:=41) rfl) rfl (oC.bT 41 ∅) rfl (λ_ _ _ _ _ _ s u=>.of_eq rfl) (oC.bS jW G t)
end
end
