import PyProof.Rows.All
import Wide.All
import OpenK.AllK
import PySem.Challenge.RW_holeyard_k03_whole_read
set_option Elab.async false
set_option linter.all false
set_option maxRecDepth 100000
def NZ:=@PySem.wpAny_bind
def N0:=@Bool.and_eq_true
def N1:=@PySem.Heap.get?_push_of_some
def N2:=@Nat.le_refl
def N3.{u}:=@List.mem_cons.{u}
def N4:=@Bool.false_eq_true
def N5:=@PySem.Heap.lt_size
def N6:=@PySem.Heap.get?_push_size
def N7.{u}:=@List.length_append.{u}
def N8.{u}:=@List.getElem?_eq_getElem.{u}
def N9.{u}:=@Array.getElem?_eq_getElem.{u}
def Oa:=@Nat.lt_of_lt_of_le
def Ob:=@PyProof.Rows.wpS_bind
def Oc.{u}:=@List.size_toArray.{u}
def Od:=@Nat.zero_le
def Oe.{u}:=@List.append_assoc.{u}
def Of:=@PyProof.Rows.wpS_pure
def Og.{u}:=@List.getElem?_eq_some_iff.{u}
def Oh.{u}:=@List.getElem?_append_left.{u}
def Oi.{u}:=@List.all_eq_true.{u}
def Oj:=@Nat.ne_of_lt
def Ol:=@Nat.le_trans
def Om.{u}:=@List.pairwise_append.{u}
def Oo.{u}:=@List.mem_append_right.{u}
def Oq.{u}:=@Array.getElem?_toList.{u}
def Ot.{u,v}:=@List.getElem?_map.{u,v}
def Ou.{u}:=@List.mem_singleton.{u}
def Ov:=@decide_eq_true_eq
def Ow:=@Nat.le_add_right
def Ox.{u}:=@if_false.{u}
def Oy:=@PySem.Heap.get?_update_other
def Oz.{u}:=@List.mem_append.{u}
def OA.{u}:=@List.pairwise_cons.{u}
def OB.{u}:=@Array.getElem?_eq_some_iff.{u}
def OC:=@PySem.wpAny_newObj_type
def OD:=@PySem.Heap.get?_update_self
def OE.{u}:=@List.getElem?_eq_none.{u}
def OF:=@List.mem_range
def OG.{u}:=@List.mem_append_left.{u}
def OH.{u}:=@Array.size_push.{u}
def OI.{u}:=@Option.some.inj.{u}
def OJ.{u}:=@beq_iff_eq.{u}
def OK:=@PySem.wpAny_callSpecial?_slot
def OL:=@Bool.false_ne_true
def OM:=@PySem.wpAny_call_entry
def ON:=@Nat.lt_of_le_of_lt
def OO.{u,v}:=@List.lookup_cons.{u,v}
def OP.{u}:=@List.getElem?_append_right.{u}
def OQ:=@PySem.wpAny_field
def OR:=@PySem.W.kia_one
def OS:=@PySem.Heap.SameBut.update
def OT:=@Nat.le_of_lt
def OU:=@PyProof.Rows.callWith_type1
def OV.{u,v}:=@List.mem_map.{u,v}
def OW:=@Nat.le_sub_one_of_lt
def OX:=@Nat.max_eq_right
def OY:=@Bool.not_eq_true'
def OZ:=@Nat.mod_two_eq_zero_or_one
def O0:=@PySem.mem_of_lookup
def O1.{u}:=@List.length_take.{u}
def O2.{u}:=@List.mem_of_getElem?.{u}
def O3:=@Nat.lt_trans
def O4.{u}:=@Option.some.injEq.{u}
def O5:=@PySem.wpAny_mono
def O6.{u}:=@if_true.{u}
def O7.{u,v}:=@congrArg.{u,v}
def O8:=@PyProof.Rows.slot_tuple_getitem
def O9.{u}:=@List.contains_iff_mem.{u}
def Pa:=@PySem.wpAny_loadPart_at
def Pb.{u}:=@Array.size_extract.{u}
def Pc:=@PyProof.Rows.wpS_forRange
def Pd.{u}:=@List.nodup_cons.{u}
def Pe:=@Nat.min_eq_left
def Pf.{u}:=@Array.getElem?_setIfInBounds.{u}
def Pg:=@PySem.codeAny_builtin
def Ph.{u}:=@Array.getInternal_eq_getElem.{u}
def Pj.{u}:=@Ne.symm.{u}
def Pk.{u}:=@List.take_append_drop.{u}
def Pl:=@PySem.wpAny_truthy_bool
def Pm.{u}:=@Array.getD_eq_getD_getElem?.{u}
def Pn:=@PySem.wpAny_setState_of
def Po:=@Nat.le_of_lt_succ
def Pp:=@Nat.add_sub_of_le
def Pq:=@PySem.wpAny_setField
def Pr:=@PySem.Obj.data_mapFields
def Pt:=@Nat.lt_irrefl
def Pu:=@PySem.wpAny_holding
def Pw.{u}:=@List.take_of_length_le.{u}
def Px.{u,v}:=@List.map_congr_left.{u,v}
def Py:=@PySem.wpAny_seqItems
def Pz.{u}:=@List.append_nil.{u}
def PA:=@PySem.F.slot_dict_keyiterator_next
def PB:=@Nat.lt_of_le_of_ne
def PC.{u}:=@List.length_drop.{u}
def PD.{u}:=@List.mem_iff_getElem.{u}
def PE:=@PySem.Around.under_plainId
def PF:=@Nat.add_sub_cancel_left
def PG:=@Bool.not_true
def PH:=@PyProof.Rows.wpS_mono
def PI:=@PySem.Str.length_append
def PJ.{u}:=@beq_eq_false_iff_ne.{u}
def PK.{u}:=@List.replicate_succ.{u}
def PL:=@Nat.add_lt_add_left
def PM:=@PySem.wpAny_isSubtype_exc
def PN.{u}:=@List.length_set.{u}
def PO.{u}:=@List.drop_eq_getElem_cons.{u}
def PQ:=@PySem.wpAny_Call_Name_kw
def PR:=@PySem.wpAny_rule
def PS:=@Nat.lt_succ_self
def PT:=@PySem.Heap.size_push
def PU:=@PySem.wpAny_typeNameOfWhole_keyiter
def PV.{u}:=@List.pairwise_singleton.{u}
def PW.{u}:=@Array.size_append.{u}
def PX:=@of_decide_eq_true
def PY.{u}:=@List.mem_filter.{u}
def PZ:=@PyProof.Rows.wpS_modify
def P0:=@Bool.or_eq_true
def P1:=@PyProof.Rows.F.plain_set_update_loop
def P2:=@Nat.add_le_add_left
def P4.{u}:=@Array.getElem?_eq_none.{u}
def P5:=@Nat.min_le_right
def P6.{u,v}:=@List.mem_filterMap.{u,v}
def P7:=@PySem.F.slot_tuple_iterator_next
def P8:=@PySem.wpAny_setField_rec
def P9:=@PySem.StrLaws.join_split
def Qa.{u}:=@List.Perm.append_left.{u}
def Qb:=@PySem.Obj.isFreed_of_fields
def Qd:=@Nat.sub_lt_left_of_lt_add
def Qe:=@PySem.wpAny_passesOwn
def Qf:=@Nat.min_le_left
def Qg:=@Nat.pow_le_pow_right
def Qh.{u,v}:=@List.pairwise_map.{u,v}
def Qi.{u}:=@List.ext_getElem?.{u}
def Qj.{u}:=@bne_self_eq_false.{u}
def Qk.{u}:=@Array.toList_reverse.{u}
def Ql:=@PySem.wpAny_attempt
def Qm:=@PySem.wpAny_typeNameOf_keyiter
def Qn:=@Nat.add_assoc
def Qo:=@PySem.AutoSeq1.wpAny_loadPart'
def Qp:=@List.getElem?_range
def Qq.{u}:=@List.getElem?_replicate.{u}
def Qr.{u}:=@List.not_mem_nil.{u}
def Qs.{u}:=@Array.toList_inj.{u}
def Qt:=@Nat.sub_le
def Qu:=@PySem.wpAny_typeOf
def Qv.{u,v}:=@List.map_nil.{u,v}
def Qw:=@PySem.wpAny_pyIter_tuple
def Qx:=@PySem.F.called_set
def Qy:=@Nat.not_lt
def Qz.{u}:=@List.Perm.append_right.{u}
def QA.{u}:=@List.drop_eq_nil_of_le.{u}
def QB.{u}:=@List.getElem?_drop.{u}
def QC:=@decide_eq_true_iff
def QD.{u}:=@List.contains_cons.{u}
def QE:=@Bool.eq_iff_iff
def QF.{u}:=@List.length_replicate.{u}
def QG.{u}:=@List.getElem?_toArray.{u}
def QH:=@Nat.add_le_of_le_sub'
def QI.{u}:=@List.perm_append_comm.{u}
def QJ:=@Nat.add_lt_of_lt_sub'
def QK.{u}:=@List.length_filter_le.{u}
def QL.{u}:=@Array.toList_push.{u}
def QM.{u}:=@List.mem_of_mem_take.{u}
def QN:=@Nat.ne_of_gt
def QO:=@PySem.wpAny_askSetting
def QP:=@PySem.wpAny_isInstance
def QQ.{u}:=@List.pairwise_iff_getElem.{u}
def QR:=@PyProof.Rows.F.entry_set_update_loop
def QS.{u}:=@List.reverse_append.{u}
def QT.{u}:=@List.flatten_append.{u}
def QU.{u}:=@Option.isSome_iff_exists.{u}
def QV:=@PySem.F.args_tuple_add_2
def QW.{u}:=@List.Pairwise.imp_of_mem.{u}
def QX:=@PySem.wpAny_execs_nil
def QY:=@Nat.le_add_left
def QZ:=@PySem.Calls.spliced_cons
def Q0:=@PySem.call_meets
def Q1:=@PySem.F.entry_tuple_add
def Q2:=@PySem.Str.length_append
def Q3:=@PySem.F.plainAttrs_list
def Q4:=@PySem.W.kitx_dict
def Q5:=@PySem.Calls.spliced_nil
def Q6:=@PySem.F.slot_tuple_add
def Q7.{u}:=@List.nodup_nil.{u}
def Q8:=@List.pairwise_lt_range
def Q9:=@PySem.wpAny_storeSet_of
def Ra:=@PySem.wpAny_pyIter_list
def Rb:=@PySem.wpAny_runValue
def Rc:=@PySem.wpAny_pyIter_slot
def Rd:=@PySem.F.plain_list_iadd
def Rf.{u}:=@List.getElem_take.{u}
def Rg:=@List.range_succ_eq_map
def Rh.{u,v}:=@List.flatMap_cons.{u,v}
def Ri:=@PySem.F.plainAttrs_str
def Rj:=@PySem.builtinLookup_eq_fast
def Rk:=@Nat.le_sub_of_add_le'
def Rl:=@Nat.add_sub_add_right
def Rm.{u}:=@List.set_append_right.{u}
def Rn.{u}:=@List.eq_nil_or_concat.{u}
def Ro.{u}:=@List.concat_eq_append.{u}
def Rp:=@PySem.F.typeOf_object_class
def Rq:=@PyProof.Rows.callWith_builtin1
def Rr:=@PySem.wpAny_forIn_list
def Rt:=@PySem.putSet_of
def Ru:=@PySem.F.args_dict_keyiterator_next_1
def Rv.{u}:=@List.drop_length.{u}
def Rw.{u}:=@List.getElem_mem.{u}
def Rx:=@PyProof.Rows.reverseSlice'_eq
def Ry:=@PySem.F.slot_str_ascii_iterator_iter
def Rz:=@Bool.and_self
def RA:=@PySem.plainId_quiet
def RB:=@PySem.wpAny_onRaise
def RC.{u}:=@List.getElem?_set_ne.{u}
def RD:=@PySem.codeAny_call_builtin
def RE:=@PySem.F.entry_dict_keyiterator_next
def RF:=@PySem.wpAny_updateSeq_pair
def RG:=@Nat.sub_lt_sub_right
def RH.{u}:=@Array.toList_extract.{u}
def RI:=@PySem.wpAny_ite_split
def RJ:=@PySem.wpAny_updateSeq
def RK:=@PySem.F.args_tuple_iterator_next_1
def RL:=@PySem.F.slot_zip_next
def RM:=@PySem.wpAny_setEntries_of
def RN:=@Nat.sub_le_sub_left
def RO.{u,v,w}:=@Function.comp_apply.{u,v,w}
def RP:=@ne_true_of_eq_false
def RQ:=@PySem.codeAny_mono
def RR:=@Nat.zero_add
def RS:=@PySem.F.entry_tuple_iterator_next
def RT:=@PyProof.Rows.wpS_get
def RU:=@Bool.or_true
def RV:=@PySem.Calls.Name_function_global
def RW:=@PySem.W.kitx_tuple
def RX:=@PySem.typeIs_str
def RY:=@Bool.not_false
def RZ.{u}:=@List.Perm.refl.{u}
def R0:=@PySem.Code.quiet_builtin
def R1:=@PySem.isSubtype_type
def R2:=@PySem.wpAny_fieldsOf
def R3:=@PySem.isSubtype_stop
def R4:=@Nat.add_right_comm
def R5.{u}:=@List.take_zero.{u}
def R6:=@Nat.sub_add_cancel
def R7.{u}:=@Array.toList_setIfInBounds.{u}
def R8:=@Nat.add_sub_cancel
def R9.{u}:=@Array.perm_iff_toList_perm.{u}
def Sa:=@PySem.F.args_str_split_2
def Sb:=@Classical.byContradiction
def Sd:=@Nat.lt_of_add_lt_add_left
def Se:=@PySem.Value.isInt_shape
def Sf.{u,v}:=@Sum.inl.inj.{u,v}
def Sg.{u}:=@List.any_eq_false.{u}
def Sh:=@PySem.W.kitx_list
def Si.{u}:=@List.Pairwise.imp.{u}
def Sj:=@PySem.Heap.SameBut.refl
def Sk:=@PySem.wpAny_of_eq
def Sl:=@PySem.wpAny_throw
def Sm:=@PySem.wpAny_dictEntries
def Sn:=@PySem.Obj.cls_mapFields
def So:=@Nat.lt_succ_of_le
def Sp.{u}:=@dif_pos.{u}
def Sq.{u}:=@List.getElem_drop.{u}
def Sr:=@PySem.F.entry_str_split
def Ss:=@PySem.AutoSeq1.sub_tuple_tuple
def Su:=@Bool.and_true
def Sv:=@PySem.wpAny_handled
def Sw:=@PyProof.Rows.listUpdate_at
def Sx:=@PySem.StrLaws.join_shift
def Sy:=@PySem.W.mg_of
def Sz:=@PySem.noFill_tuple_add
def SA:=@Int.eq_ofNat_of_zero_le
def SD:=@Nat.min_eq_right
def SE:=@Nat.le_of_not_lt
def SF:=@PyProof.Rows.wpS_lift
def SG:=@Nat.exists_eq_add_of_le
def SH:=@PySem.isinstance_outer
def SI:=@PySem.F.slot_str_split
def SJ:=@PySem.W.cellsFrom_some
def SK:=@PySem.concat_meets
def SM:=@Nat.succ_mul
def SN:=@Nat.le_of_eq
def SO:=@Nat.sub_self
def SP:=@PySem.wpAny_specialOf
def SQ:=@PySem.typeLookup_type
def SR:=@PySem.wpAny_dictEpoch
def SS:=@Nat.le_antisymm
def SU:=@PySem.call_isinstance
def SV:=@Nat.add_le_add_right
def SW:=@Nat.le_sub_of_add_le
def SX.{u}:=@List.drop_drop.{u}
def SY.{u}:=@List.drop_zero.{u}
def S0:=@Nat.add_sub_add_left
def S1:=@PySem.wpAny_loadPart
def S2:=@Nat.sub_lt_sub_left
def S3:=@PySem.Paired.length
def S4:=@PySem.seq_tuple_add
def S5:=@PySem.wpAny_newList
def S6:=@PySem.F.slot_gs_get
def S7:=@PySem.wpAny_load
def S8:=@Int.natCast_nonneg
def S9:=@Nat.mod_lt
def Ta:=@Int.emod_lt_of_pos
def Tb:=@Bool.not_eq_false'
def Tc:=@Nat.sub_lt
def Td:=@PySem.W.mg_none_of
def Te:=@or_false
noncomputable section
local macro_rules|`(abbrev $i:declId $s:optDeclSig $v:declVal)=>`(noncomputable def $i:declId $s:optDeclSig $v:declVal)
local macro_rules|`(⇑$x)=>`(by simpa using $x)
open Array renaming length_toList->Tn,toList_append->TK,getD->UB,size_setIfInBounds->VH,getElem?_extract->V4,replicate->Wc,mem_toList_iff->Wt,getElem?_map->W7,forIn_toList->W8,size_reverse->Xb,toList_map->XI,all_toList->XO
open Bool renaming false->Th,false_and->TP,and_false->TR,true_and->Uv,true->J
open False renaming elim->UY
open ForInStep renaming yield->UN
open Function renaming comp->Yx
open Int renaming toNat_natCast->Un,max_eq_right->XB,min_eq_left->X0,emod_nonneg->X1
open List renaming length_map->Tj,mem_cons_self->To,mem_cons_of_mem->Tp,map_cons->Tr,length_cons->Tt,range->TB,replicate->TJ,length_nil->TQ,length_singleton->TS,filterMap_cons->TY,map_map->T2,all_cons->Ua,flatten_cons->Ud,all_map->Ue,map_append->Uk,getD->Uo,find?_cons->Up,any_cons->Uu,extract_eq_drop_take->UM,length_range->UP,cons_append->UT,nil_append->UU,length->Vm,foldl_cons->Vp,getElem?_eq_none_iff->VB,getElem?_zip_eq_some->VC,getElem?_take_of_lt->VE,length_erase_of_mem->VG,eraseIdx_cons_succ->VO,getElem?_cons_succ->VP,length_eq_zero_iff->VR,zipIdx_cons->VS,flatten_nil->VT,getElem?_set_self->VU,any_map->V3,getElem_cons_drop->V6,drop_of_length_le->V8,length_eq_one_iff->V9,of_mem_zip->Wb,forIn_cons->Wf,mem_iff_getElem?->Wj,dropLast_eq_take->Wr,mem_of_mem_drop->WA,reverse_reverse->WB,getElem?_append->WC,lookup->WE,flatMap_append->WT,filter_sublist->WU,mem_map_of_mem->WV,map_drop->W0,zip_cons_cons->W5,findIdx?_cons->W9,getElem?_take->Xc,filter_append->Xd,foldl_append->Xv,nodup_range->XD,any_eq_true->XK,mem_flatten->XM,any_toArray->XP,map_id->XY,range'->XZ,zipIdx_nil->X6,foldl->Yg,forIn_nil->Yq,drop_left->Yu,take_left->Yv
open List.Pairwise renaming nil->VD,sublist->Wq
open List.Perm renaming trans->Vr,cons->Wx,swap->Wy
open Nat renaming not_lt_zero->U6,pow_succ->Xi,lt_succ_of_lt->Xk,sub_pos_of_lt->Xp,lt_of_succ_lt->Xq,add_sub_assoc->Xr,le_of_not_le->XH,strongRecOn->X2,zero_lt_one->X7
open Option renaming map_some->Uq,bind_eq_bind->WR,isSome_some->W6,isSome_map->Xh,getD_none->XC,bind_some->XE,pure_def->X3,some->Z,none->Y
open Prod renaming fst->Ys
open PyProof.Rows renaming arrOf->Tv,Keyed->Tx,SortSt->TM,IntsAre->T1,pendingOf->Uh,failedOf->Ul,seqObj->UC,elem'->UJ,SortKind->UZ,mirror->Vs,AllBare->Vt,reverseSlice'->VK,subscriptTail_builtinR->VZ,get?_update_seq->Wd,wpS->Wo,entry_tuple_getitem->WQ,subscriptTail->WX,envOfC->W3,listItems_at->Xm,keyKind'->Xs,tuples'->Xt,seqEpoch_at->XX,IsTup->Yb,ltAt'->YE
open PyProof.Rows.IsTup renaming new->YC
open PyProof.Rows.SortSt renaming mk'->Yr
open PySem renaming wpAny_pure->Tg,Value->Ti,Shared->Tq,wpAny->Ts,Addr->Tu,model->Tw,Str->Tz,mainGlobals->TC,starEach->TF,Expr->TG,sizeLine->TH,sizeLine_eq->TL,compareOp->TN,Heap->TU,Program->TV,excClassObj->TX,Around->T3,bootBuiltins->Ub,eval->Uc,World->Ug,Stmt->Ui,binaryOp->Ur,hashInt->Uw,foldedSetIterable->Ux,Builtin->Uy,cLine->UD,sysModules->UH,firstArgMember->UI,Obj->UK,NameKind->US,assignEach->UW,rawInt->UX,intKind->U0,swapsWith->U1,pyNext->U3,compEnvC->U5,backTo->U7,IsPair->U8,sliceBounds->Va,Pos->Vb,ofAClassStatement->Vd,Scope->Ve,noteFrame->Vg,behindInMarks->Vh,getItem->Vi,attributeBase->Vj,FuncData->Vl,hashByValue->Vn,letOwnedTupleGo->Vo,codeAny->Vu,Keyword->Vv,SetTable->Vz,typeOf->VF,setSearchFrom->VI,checkBuiltinCall->VQ,pyIter->VV,wpAny_pyNext_list_item->VW,BindsTo->VX,IsPart->VY,callerA->V1,wpAny_Assign_Subscript->V2,setAddHashed->V5,IsZip->We,wpAny_pyIter_listiter->Wg,wpAny_eqIsQuiet_tuple->Wh,wpAny_isSame_ref_self->Wi,wpAny_isOneOf_keyiter->Wl,subscripted->Wu,keywordEach->Wv,field->Wz,compPost->WG,tupleKind->WJ,PassesOwn->WK,lastMarks->WL,valueAt->WM,collect->WN,setFlight->WO,ExceptHandler->WY,signature?_of->WZ,isTrue->W2,isInstance->Xa,Model->Xe,holding->Xf,seqIndex_neg->Xg,ReadsAll->Xu,Sem->Xy,assign->Xz,rule->XA,pickOrder->XF,newExc->XG,strValues->XQ,seqIndex_of->XR,atKey->XS,unsupported->XU,wpAny_letGo->XW,spliced->X8,newList->X9,ItemsOf->Ya,bindL->Yd,bindC->Ye,backToKw->Yf,stored->Yh,setAdd->Yj,entryFor->Yl,argsOk->Ym,newTuple->Yn,raiseNew->Yo,setField->Yp,Env->YA,again->YB,Reads->YF
open PySem.Builtin renaming bitAnd->Vc,bitXor->Yc
open PySem.Builtin.Dict renaming showsAll->Wk
open PySem.Builtin.Dict_items renaming ownsTuple->Vq
open PySem.Builtin.Frozenset renaming updateFrom->X5,newClass->Yk,addrOf->Yy,sizeOf->Yz,slot0->YD
open PySem.Builtin.List renaming listExtendWith->Um,listTooLong->UR,listLengthHint->Vw,listSameRef->VJ
open PySem.Builtin.Range renaming rangeSize->U9
open PySem.Builtin.Slice renaming slicePlaces->UL,sliceAdjust->U2,sliceApplied->Vx
open PySem.Builtin.SmallTypes renaming nextOf->T5,ownedTupleIsFree->U4,ownedTupleHandOut->WS
open PySem.Builtin.Str renaming occurrences->Uz,strKind->UE,partsBetween->VN
open PySem.Builtin.Tuple renaming tupleExact->Ut,tupleItemsOf->Vy
open PySem.Calls renaming callWith_builtin->V0,evalArgs_plain->Ww
open PySem.EntryCells renaming newEntry->WW
open PySem.F renaming entry_proto_collect->Wm,plain_proto_collect->Wn,excAttr_ValueError->WD,excBase_ValueError->WH,entry_list_iadd->Xn,args_zip_next_1->Xo
open PySem.Heap renaming SameBut->TZ,get?_none_of_le->Ws,ExtBut->XT
open PySem.IsRange renaming new->YI
open PySem.IsTupleKey renaming typeIs->Xj
open PySem.NameKind renaming free->TO,cell->UG
open PySem.Obj renaming mapSeq->T4,mapFields->T9,putSet->Us
open PySem.PyData renaming depthAll->UO,canLayAll0->UQ,eqvAll->VL,eqv->Yt,depth->YH
open PySem.SeqAt renaming EqAt->W4,eqAt_reads->XJ
open PySem.SetFound renaming there->Yi
open PySem.SetTable renaming tooFull->Vf,fresh->VA,relaid->X4
open PySem.Str renaming ofString->Tf,join->T8,append_assoc->XN
open PySem.StrLaws renaming subAt_one->Xw
open PySem.Value renaming ref->TA,type->T7,int->Uj,bool->UA,isInt->Vk,builtin->VM,isStrOf->Yw
open PySem.W renaming kas_ask->V7,findIn->Wa,looks_findIn->Xx
open PySem.W.KatTups renaming cons->YG,nil->YJ
open PySem.pickOrder renaming go->Xl
open Sum renaming inl->T6,inr->WI
set_option tactic.hygienic false
set_option bootstrap.genMatcherCode false
set_option compiler.extract_closed false
namespace Nat
def Zq0{a b c:Nat}(h:a<b):a<c+b:=Nat.lt_of_lt_of_le h (Nat.le_add_left ..)
def Zq1{a b c:Nat}(h:a<b):a<b+c:=Nat.lt_of_lt_of_le h (Nat.le_add_right ..)
def Zq2{a b c:Nat}(h:c+a<=b):a<=b:=Nat.le_trans (Nat.le_add_left ..) h
def Zq3{a b c:Nat}(h:a+c<=b):a<=b:=Nat.le_trans (Nat.le_add_right ..) h
def Zq4{a b c:Nat}(h:a<b):a-c<b:=Nat.lt_of_le_of_lt (Nat.sub_le ..) h
def Zq5{a b c:Nat}(h:a<=b):a-c<=b:=Nat.le_trans (Nat.sub_le ..) h
def Zq6{a b c:Nat}(h:a<=b):c+a<=c+b:=Nat.add_le_add_left h _
def Zq7{a b c:Nat}(h:a<b):c+a<c+b:=Nat.add_lt_add_left h _
def Zq8{a:Nat}(h:0<a):a-1<a:=Nat.sub_lt h (by decide)
def ZqA{a b:Nat}(h:0<a)(i:a<=b):a-1<b:=Nat.lt_of_lt_of_le (Zq8 h) i
def ZqB{a b:Nat}(h:1<a)(i:a<=b):a-1<b:=ZqA (Nat.lt_of_succ_lt h) i
def ZqC{a b:Nat}(h:a<=b):0+a<=b:=by rwa [Nat.zero_add]
def ZqD{a b:Nat}:min a b<=a:=Nat.min_le_left ..
def ZqE{a b:Nat}(h:¬a<=b):b<a:=Nat.not_le.mp h
def ZqF{a b:Nat}(h:¬a<b):b<=a:=Nat.not_lt.mp h
def Zq9{a b:Nat}{C:Prop}(h:a<b)(i:b<=a):C:=absurd h (Nat.not_lt.mpr i)
end Nat
local macro_rules|`(tactic|lia)=>do
 let t<-("le_trans lt_of_lt_of_le lt_of_le_of_lt lt_trans le_antisymm Zq9 ZqA ZqB pos_of_ne_zero min_eq_left add_sub_of_le Zq0 Zq1 Zq2 Zq3 Zq4 Zq5 Zq6 Zq7 Zq8 ZqC ZqD le_sub_one_of_lt sub_succ_lt_self lt_succ_of_le le_of_succ_le_succ le_succ_of_le le_of_lt ZqE ZqF".splitOn " ").foldlM (λt n=>`(tactic|first|(with_reducible apply $(Lean.mkIdent (.str `Nat n))<;>assumption)|$t:tactic)) (<-`(tactic|first|lia -verbose|omega))
 `(tactic|first|decide|assumption|exact Nat.le_trans ‹_› (by decide)|exact Int.le_trans ‹_› (by decide)|(simp +arith only;done)|$t:tactic)
local macro_rules|`(↥$x)=>`(by simp at $x:term;lia)
local macro_rules|`(⋯)=>`(by lia)
local macro_rules|`(∅)=>`(by decide)
section
namespace aC
open PySem PySem.Spec PyProof.Rows
noncomputable abbrev Key:=Sum Int Tz
abbrev kN:Key->Ti->Bool
 |.inl k,v=>Vk k v
 |.inr x,v=>Yw x v
abbrev Gd(w:Ug):Key->Int
 |.inl k=>Uw k
 |.inr x=>hashStr w x
def hN:∀{k:Key}{v:Ti},kN k v=J->(∃i t,k=T6 i/\v=Uj i t)\/(∃x t,k=WI x/\v=Value.str x t)
 |.inl i,v,h=>by
  obtain⟨t,e⟩:=Se (k:=i) (v:=v) h;exact .inl ⟨i,t,rfl,e⟩
 |.inr x,v,h=>by
  obtain⟨t,e⟩:=Value.isStrOf_shape (x:=x) (v:=v) h;exact .inr ⟨x,t,rfl,e⟩
def Ge(i)(t):kN (.inl i) (.int i t)=true:=by simp[kN,Vk]
def Gf(x)(t):kN (.inr x) (.str x t)=true:=by simp[kN,Yw]
def Gh(a b):decide ((T6 a:Key)=T6 b)=(a==b):=by
 by_cases e:a=b
 .subst e;simp
 .have h:¬(T6 a:Key)=T6 b:=λq=>e (Sf q)
  rw[decide_eq_false h];exact(PJ.mpr e).symm
def Gk(a b):decide ((WI a:Key)=WI b)=decide (a=b):=by
 by_cases e:a=b
 .subst e;simp
 .have h:¬(WI a:Key)=WI b:=λq=>e (Sum.inr.inj q)
  rw[decide_eq_false h,decide_eq_false e]
def Gi(a)(b):decide ((T6 a:Key)=WI b)=false:=decide_eq_false (λq=>nomatch q)
def Gj(a)(b):decide ((WI a:Key)=T6 b)=false:=decide_eq_false (λq=>nomatch q)
def e9(prog)(w):PySem.KeyKind prog w Key where
 is:=kN
 hash:=Gd w
 inj:=λv a b f d=>by
  rcases hN f with⟨i,t,rfl,rfl⟩|⟨x,t,rfl,rfl⟩
  .rcases hN d with⟨j,u,rfl,e⟩|⟨y,u,rfl,e⟩
   .injection e with e1 _;rw[e1]
   .exact nomatch e
  .rcases hN d with⟨j,u,rfl,e⟩|⟨y,u,rfl,e⟩
   .exact nomatch e
   .injection e with e1 _;rw[e1]
 byValue:=λk v h=>by
  rcases hN h with⟨i,t,rfl,rfl⟩|⟨x,t,rfl,rfl⟩<;>rfl
 pyHash:=λc h=>by
  rcases hN c with⟨i,t,rfl,rfl⟩|⟨x,t,rfl,rfl⟩
  .exact wpAny_pyHash_int h
  .exact wpAny_pyHash_str h
 eqBool:=λg c h=>by
  rcases hN g with⟨i,t,rfl,rfl⟩|⟨x,t,rfl,rfl⟩
  .rcases hN c with⟨j,u,rfl,rfl⟩|⟨y,u,rfl,rfl⟩
   .rw[Gh]at h;exact wpAny_eqBool_int h
   .rw[Gi]at h;exact SeqAt.EqAt.int_str i t y u _ _ _ _ h
  .rcases hN c with⟨j,u,rfl,rfl⟩|⟨y,u,rfl,rfl⟩
   .rw[Gj]at h;exact SeqAt.EqAt.str_int x t j u _ _ _ _ h
   .rw[Gk]at h;exact wpAny_eqBool_str h
 «strs»:=λk x t v h=>by
  rcases hN h with⟨i,u,rfl,e⟩|⟨y,u,rfl,e⟩
  .exact nomatch e
  .injection e with e1 _;subst e1;cases v<;>rfl
def Hr(prog)(w)(i)(t):(e9 prog w).is (.inl i) (.int i t)=true:=Ge i t
def Hs(prog)(w)(x)(t):(e9 prog w).is (.inr x) (.str x t)=true:=Gf x t
end aC
namespace aC
open PySem PySem.Spec PyProof.Rows
inductive V where
 |az|ag (b:Bool)|int (i:Int)|str (x:Tz)|rg (b:Array UInt8)|kH (b:UInt64)|ref (a:Tu)|ty (n:String)
 deriving DecidableEq
abbrev RelV:V->Ti->Prop
 |.az,u=>u=Value.none
 |.ag b,u=>u=UA b
 |.int i,u=>∃t,u=Uj i t
 |.str x,u=>∃t,u=Value.str x t
 |.rg b,u=>∃t,u=Value.bytes b t
 |.kH b,u=>∃t,u=Value.float b t
 |.ref a,u=>u=TA a
 |.ty n,u=>u=T7 n
noncomputable abbrev Vals:List V->List Ti->Prop:=Paired RelV
theorem Vals.length(r:Vals xs a):xs.length=a.length:=S3 r
theorem Vals.get:∀{xs:List V}{a:List Ti}{i:Nat}{x:V},Vals xs a->xs[i]?=Z x->∃u,a[i]?=Z u/\RelV x u
 |_,_,_,_,.nil,e=>by simp at e
 |_,_,0,_,.cons r _,e=>by simp at e;subst e;exact⟨_,rfl,r⟩
 |_,_,i+1,x,.cons _ t,e=>by
  obtain⟨u,b,h2⟩:=Vals.get (i:=i) (x:=x) t ⇑e;exact⟨u,⇑b,h2⟩
theorem Vals.set(r:RelV x u):∀{xs:List V}{a:List Ti}(i:Nat),Vals xs a->Vals (xs.set i x) (a.set i u)
 |_,_,_,.nil=>.nil
 |_,_,0,.cons _ t=>.cons r t
 |_,_,i+1,.cons q t=>.cons q (Vals.set r i t)
theorem Vals.append:∀{xs ys:List V}{a ws:List Ti},Vals xs a->Vals ys ws->Vals (xs++ys) (a++ws)
 |_,_,_,_,.nil,s=>s
 |_,_,_,_,.cons r t,s=>.cons r (Vals.append t s)
theorem Vals.take:∀{xs:List V}{a:List Ti}(n:Nat),Vals xs a->Vals (xs.take n) (a.take n)
 |_,_,0,_=>.nil
 |_,_,_+1,.nil=>.nil
 |_,_,n+1,.cons r t=>.cons r (Vals.take n t)
theorem Vals.drop:∀{xs:List V}{a:List Ti}(n:Nat),Vals xs a->Vals (xs.drop n) (a.drop n)
 |_,_,0,r=>r
 |_,_,_+1,.nil=>.nil
 |_,_,n+1,.cons _ t=>Vals.drop n t
def Vals.none_of:∀{xs:List V}{a:List Ti}{i:Nat},Vals xs a->xs[i]?=Y->a[i]?=none:=λ{xs a i} r e=>by
 have b:=r.length;have h2:xs.length<=i:=VB.mp e;exact VB.mpr ⋯
def gw:Option V->Option Ti->Prop
 |some v,Z u=>RelV v u
 |none,Y=>True
 |_,_=>False
def c3{κ:Type}:List (κ×V)->List (κ×Ti)->Prop:=Paired λ(p:κ×V)(q:κ×Ti)=>p.1=q.1/\RelV p.2 q.2
abbrev bH:Key->V
 |.inl i=>.int i
 |.inr x=>.str x
inductive eL where
  |lst (xs:List V)
  |tup (xs:List V)
  |bZ (hO:List (Key×V))|cz (hO:List (List Key×V))
  |set (S:Int->Bool) (n:Nat)
  |ins (C dg:Tu) (bp:List (Tz×V))
  |own (x:Tu)
  |qc (bp:List (Tz×V))
  |met (f x:Tu)
  |c8 (lo hi:Int)
  |cm (o:UK) (u:eL)
  |jb (d8:Array Ti)
  |ext (NY:TU->Prop)
noncomputable abbrev ah:=Tu->Option eL
abbrev upd(H:ah)(a:Tu)(o:eL):ah:=λb=>if b=a then Z o else H b
def bE:upd H a o a=Z o:=by unfold upd;rw[if_pos rfl]
def aZ(h:b≠a):upd H a o b=H b:=by unfold upd;rw[if_neg h]
def uh:upd (upd H a o) a u=upd H a u:=by
 funext b;unfold upd;split<;>rfl
def HJ{H:ah}(h:H a=Z o)(h':H b=Z u)(d:o≠u):a≠b:=by
 intro e;subst e;rw[h]at h';exact d (OI h')
def fU{H:ah}(h:H a=Z o)(h':H b=Y):a≠b:=by
 intro e;subst e;rw[h]at h';cases h'
section
variable(P:TV)(w:Ug)
def bN(H:ah)(h:TU)(a:Tu):eL->Prop
 |.lst xs=>xs.length<=TH/\∃(its:List Ti)(n:Nat),Vals xs its/\h.get? a=Z { cls:=.type "list",data:=.seq its.toArray n }
 |.tup xs=>xs.length<=TH/\∃its:List Ti,Vals xs its/\Yb h a its.toArray
 |.bZ d=>d.length<=TH/\(a==UH)=Th/\∃k,c3 d k/\h.DictOf (e9 P w) a k
 |.cz d=>d.length<=TH/\(a==UH)=Th/\∃xs:List (List Key×Tu×Ti),
   Paired (λ(p:List Key×V)(q:List Key×Tu×Ti)=>p.1=q.1/\H q.2.1=Z (.tup (p.1.map bH))/\RelV p.2 q.2.2) d xs /\
   ∃o i l,h.get? a=Z o/\o.ExactDict/\o.data=.dict i l/\i.toList=xs.map (entryOfKey (WJ (e9 P w)))/\(xs.map (·.1)).Nodup
 |.set S n=>h.SetOf (U0 P w) a S n
 |.ins C e c=>H e=Z (.own a)/\c.length<=1000/\e≠a/\h.get? a=Z (PySem.W.instObj C e) /\
   ∃b,h.Ns1 e b/\(∀f,gw (c.lookup f) (b f))/\PySem.Within b (c.map (·.1))
 |.own _=>∃o,h.get? a=Z o
 |.qc c=>∃b,h.Ns1 a b/\∀f,gw (c.lookup f) (b f)
 |.c8 lo hi=>∃t u v,h.get? a=Z { cls:=.type "range",data:=.fields #[.int lo t,.int hi u,.int 1 v] }
 |.cm o u=>h.get? a=Z o/\bN H h a u
 |.jb m=>h.get? a=Z { cls:=.none,data:=.fields m }
 |.met f x=>h.get? a=Z (PySem.W.methodObj (.ref f) (.ref x))
 |.ext g=>g h/\(∃o,h.get? a=Z o)/\∀j h2:TU,g j->(∀o,j.get? a=Z o->h2.get? a=Z o)->g h2
def cn(H:ah)(h:TU):Prop:=∀a o,H a=Z o->bN P w H h a o
end
section
variable{P:TV}{w:Ug}{H aK:ah}{h h':TU}{a:Tu}{o:eL}
theorem bN.lt(x:bN P w H h a o):a<h.objs.size:=by
 cases o with
 |lst xs=>obtain⟨_,_,_,_,e⟩:=x;exact N5 e
 |tup xs=>obtain⟨_,_,_,p⟩:=x;exact p.lt
 |bZ c=>obtain⟨_,_,_,_,o,_,_,e,_⟩:=x;exact N5 e
 |cz c=>obtain⟨_,_,_,_,o,_,_,e,_⟩:=x;exact N5 e
 |set S n=>obtain⟨o,_,_,_,e,_⟩:=x;exact N5 e
 |ins C d b=>obtain⟨_,_,_,e,_⟩:=x;exact N5 e
 |own y=>obtain⟨_,e⟩:=x;exact N5 e
 |qc b=>obtain⟨_,⟨_,_,_,e,_⟩,_⟩:=x;exact N5 e
 |c8 lo hi=>obtain⟨_,_,_,e⟩:=x;exact N5 e
 |cm g u=>obtain⟨e,_⟩:=x;exact N5 e
 |jb i=>exact N5 (show h.get? a=Z _ from x)
 |met f y=>exact N5 (show h.get? a=Z _ from x)
 |ext j=>obtain⟨_,⟨_,e⟩,_⟩:=x;exact N5 e
theorem Paired.sU{α β:Type}{F G:α->β->Prop}:∀{c:List α}{d:List β},Paired F c d->(∀a b,F a b->G a b)->Paired G c d
 |_,_,.nil,_=>.nil
 |_,_,.cons r t,f=>.cons (f _ _ r) (Paired.sU t f)
def bN.gk(x:bN P w H h a o)(k:∀b u,(b=a\/H b=Z (.own a))->h.get? b=Z u->h'.get? b=Z u)(B:∀b,H b=Z (.own a)->aK b=Z (.own a))(D:∀b xs,H b=Z (.tup xs)->aK b=Z (.tup xs)):bN P w aK h' a o:=by
 induction o with
 |lst xs=>obtain⟨z,its,n,r,e⟩:=x;exact⟨z,its,n,r,k _ _ (.inl rfl) e⟩
 |tup xs=>obtain⟨z,its,r,g,e,c⟩:=x;exact⟨z,its,r,g,k _ _ (.inl rfl) e,c⟩
 |bZ G=>obtain⟨z,y,L,r,g,j,i,e,c⟩:=x;exact⟨z,y,L,r,g,j,i,k _ _ (.inl rfl) e,c⟩
 |cz G =>
  obtain⟨z,y,xs,r,g,j,i,e,c⟩:=x;exact⟨z,y,xs,Paired.sU r λp q z=>⟨z.1,D _ _ z.2.1,z.2.2⟩,g,j,i,k _ _ (.inl rfl) e,c⟩
 |set S n=>obtain⟨g,j,i,t,e,c⟩:=x;exact⟨g,j,i,t,k _ _ (.inl rfl) e,c⟩
 |ins C M A =>
  obtain⟨d,z,I,e,l,⟨m,j,i,e2,c⟩,r⟩:=x;exact⟨B _ d,z,I,k _ _ (.inl rfl) e,l,⟨m,j,i,k _ _ (.inr d) e2,c⟩,r⟩
 |own y=>obtain⟨g,e⟩:=x;exact⟨g,k _ _ (.inl rfl) e⟩
 |qc A=>obtain⟨l,⟨m,j,i,e,c⟩,r⟩:=x;exact⟨l,⟨m,j,i,k _ _ (.inl rfl) e,c⟩,r⟩
 |c8 lo hi=>obtain⟨t,u,v,e⟩:=x;exact⟨t,u,v,k _ _ (.inl rfl) e⟩
 |cm g u E=>obtain⟨e,q⟩:=x;exact⟨k _ _ (.inl rfl) e,E q⟩
 |jb s =>
  have e:h.get? a=Z { cls:=.none,data:=.fields s }:=x;show h'.get? a=Z { cls:=.none,data:=.fields s };exact k a _ (.inl rfl) e
 |met f y =>
  have e:h.get? a=Z (PySem.W.methodObj (.ref f) (.ref y)):=x;show h'.get? a=Z (PySem.W.methodObj (.ref f) (.ref y));exact k a _ (.inl rfl) e
 |ext N=>obtain⟨p,⟨o,e⟩,st⟩:=x;exact⟨st _ _ p λo q=>k _ _ (.inl rfl) q,⟨o,k _ _ (.inl rfl) e⟩,st⟩
theorem cn.lt(x:cn P w H h)(e:H a=Z o):a<h.objs.size:=(x a o e).lt
def cn.fresh(x:cn P w H h)(e:h.objs.size<=a):H a=none:=by
 cases q:H a with
 |none=>rfl
 |some u=>exact absurd (Oa (x.lt q) e) (Pt _)
def cn.kept(x:cn P w H h)(k:∀b u,h.get? b=Z u->h'.get? b=Z u):cn P w H h':=λa o e =>
 (x a o e).gk (λb u _ q=>k b u q) (λ_ q=>q) λ_ _ q=>q
def cn.laid(x:cn P w H h)(k:∀b u,h.get? b=Z u->h'.get? b=Z u)(g:h.objs.size<=a)(i:bN P w (upd H a o) h' a o):cn P w (upd H a o) h':=λb u e=>by
 have f:=x.fresh g
 by_cases d:b=a
 .subst d;rw[bE]at e;cases e;exact i
 .rw[aZ d]at e;exact(x b u e).gk (λc v _ q=>k c v q) (λc q=>by rw[aZ (fU q f)];exact q) λc xs q=>by rw[aZ (fU q f)];exact q
end
def fe(H:ah)(a:Tu)(u:eL):Prop:=H a=Z u\/∃o,H a=Z (.cm o u)
def fe.ok(r:fe H a u)(x:cn P w H h):bN P w H h a u:=by
 rcases r with r|⟨o,r⟩
 .exact x a u r
 .obtain⟨_,q⟩:=x a _ r;exact q
def lI:Option eL->Prop
 |some (.lst _)=>True
 |some (.bZ _)=>True
 |some (.cz _)=>True
 |some (.set _ _)=>True
 |some (.ins _ _ _)=>True
 |some (.ext _)=>True
 |_=>False
section
variable{P:TV}{w:Ug}{H:ah}{h h':TU}{x e:Tu}{mO:eL}
def cn.write (s : cn P w H h) (g : lI (H x)) (i : e = x \/ H e = Z (.own x)) (k : ∀ b u, b ≠ e -> h.get? b = Z u -> h'.get? b = Z u) (m : ∃ u, h'.get? e = Z u)
    (o : bN P w (upd H x mO) h' x mO) : cn P w (upd H x mO) h' := fun b u q => by
  have j : ∀ c y, H c = Z (.own y) -> c ≠ x := fun c y r z => by subst z; rw [r] at g; exact g
  have p : ∀ c xs, H c = Z (.tup xs) -> c ≠ x := fun c xs r z => by subst z; rw [r] at g; exact g
  by_cases a : b = x
  · subst a; rw [bE] at q; cases q; exact o
  · rw [aZ a] at q
    by_cases d : b = e
    · have l : H b = Z (.own x) := by
        rcases i with z | z
        · exact absurd (d.trans z) a
        · rw [d]; exact z
      rw [q] at l; cases l
      obtain ⟨v, n⟩ := m
      exact ⟨v, by rw [d]; exact n⟩
    · refine (s b u q).gk (fun c v f r => k c v ?_ r) (fun c r => by rw [aZ (j c b r)]; exact r) fun c xs r => by rw [aZ (p c xs r)]; exact r
      rcases f with rfl | f
      · exact d
      · rintro rfl
        rcases i with z | z
        · exact j c b f z
        · rw [f] at z; cases z; exact a rfl
end
structure cX(bp ex:List Tu)(H aK:ah)(h h':TU):Prop where
 keep:∀b o,h.get? b=Z o->H b=Y->b∉bp->b∉ex->h'.get? b=Z o
 slot:∀b o,h.get? b=Z o->H b=Y->b∈bp->b∉ex->∃Lg,h'.get? b=Z { o with slots:=Lg }
 free:∀b o,h.get? b=Z o->H b=Y->b∉ex->aK b=Y
 there:∀b o,h.get? b=Z o->b∉ex->∃mO,h'.get? b=Z mO
 gn:∀b xs,H b=Z (.tup xs)->aK b=Z (.tup xs)
 fS:∀b o u,H b=Z (.cm o u)->aK b=Z (.cm o u)
 gm:∀b d8,H b=Z (.jb d8)->∃more,aK b=Z (.jb (d8++more))
section
variable{bp ER ex NH:List Tu}{H H1 eK:ah}{h aI h2 h':TU}{a x e:Tu}{o:eL}
def cX.any(u:cX bp ex H H1 h aI)(q:h.get? b=Z c)(n:H b=Y)(f:b∉ex):∃g,aI.get? b=Z { c with slots:=g }:=by
 by_cases d:b∈bp
 .exact u.slot b c q n d f
 .exact⟨c.slots,u.keep b c q n d f⟩
def cX.kept(k:∀b u,h.get? b=Z u->h'.get? b=Z u):cX bp ex H H h h' :=
 ⟨λb c q _ _ _=>k b c q,λb c q _ _ _=>⟨c.slots,k b c q⟩,λ_ _ _ n _=>n,λb c q _=>⟨c,k b c q⟩,λ_ _ q=>q,λ_ _ _ q=>q,λ_ d q=>⟨#[],by rw[q];simp⟩⟩
def cX.refl:cX bp ex H H h h:=cX.kept λ_ _ q=>q
def cX.laid(k:∀b u,h.get? b=Z u->h'.get? b=Z u)(d:h.objs.size<=a)(c:H a=Y):cX bp ex H (upd H a o) h h' where
 keep:=λb u q _ _ _=>k b u q
 slot:=λb u q _ _ _=>⟨u.slots,k b u q⟩
 free:=λb u q n _=>by rw[aZ (Oj (Oa (N5 q) d))];exact n
 there:=λb u q _=>⟨u,k b u q⟩
 gn:=λb xs q=>by rw[aZ (fU q c)];exact q
 fS:=λb u xs q=>by rw[aZ (fU q c)];exact q
 gm:=λb f q=>⟨#[],by rw[aZ (fU q c),q];simp⟩
def cX.write(c:lI (H x))(j:e=x\/H e=Z (.own x))(k:∀b u,b≠e->h.get? b=Z u->h'.get? b=Z u)(l:∃u,h'.get? e=Z u):cX bp ex H (upd H x o) h h':=by
 have i:∀b,H b=Y->b≠x:=λb n z=>by subst z;rw[n]at c;exact c
 have f:∀b,H b=Y->b≠e:=λb n z=>by
  subst z;rcases j with r|r
  .exact i b n r
  .rw[n]at r;cases r
 have d:∀b u,H b=Z u->¬lI (Z u)->b≠x:=λb u q nm z=>by subst z;rw[q]at c;exact nm c
 refine⟨λb u q n _ _=>k b u (f b n) q,λb u q n _ _=>⟨u.slots,k b u (f b n) q⟩,λb u q n _=>by rw[aZ (i b n)];exact n,λb u q _=>?_,
  λb xs q=>by rw[aZ (d b _ q λz=>z)];exact q,λb u xs q=>by rw[aZ (d b _ q λz=>z)];exact q,λb m q=>⟨#[],by rw[aZ (d b _ q λz=>z),q];simp⟩⟩
 by_cases g:b=e
 .subst g;exact l
 .exact⟨u,k b u g q⟩
end
abbrev pT(h:TU)(H:ah):List Addr:=(TB h.objs.size).filter λa=>(H a).isSome
def hM(h:TU)(H:ah):Heap:=PySem.W.hideAll h (pT h H)
def Fd(h)(H):(hM h H).objs.size=h.objs.size:=PySem.W.hideAll_size _ _
def Fc(e:h.get? b=Z o)(n:H b=Y):(hM h H).get? b=Z o :=
 PySem.W.hideAll_get _ e λa=>by
  have q:(H b).isSome=true:=(PY.mp a).2;rw[n]at q;simp at q
def H5(e:(hM h H).get? b=Z o):h.get? b=Z o/\H b=none:=by
 have a:h.get? b=Z o:=PySem.W.of_hideAll (pT h H) e;refine⟨a,?_⟩;cases q:H b with
 |none=>rfl
 |some x =>
  have c:b∈pT h H:=PY.mpr ⟨OF.mpr (N5 a),by simp[q]⟩;have z:(hM h H).get? b=none:=PySem.W.hideAll_none (pT h H) c;rw[z]at e;cases e
abbrev A9(g h:TU)(L:Tu):List (Tu×UK):=(TB h.objs.size).filterMap λa=>if a=L\/(g.get? a).isSome=J then Y else(h.get? a).map λo=>(a,o)
def rest(g h:TU)(L d:Tu):List (Tu×UK):=(A9 g h L).filter λp=>decide (p.1≠d)
end aC
namespace aC
open PySem PySem.Spec PyProof.Rows
structure Mod(K:W.Frag)(aj:Tz->Option Ti)(base:TU):Prop where
 mC:K.In base
 glob:base.Ns TC aj
 blt:∃xP,base.Ns builtinsNs xP/\∀x:Tz,x≠"__name__"->xP x=Ub x
 nolimit:base.NoLimit
structure ao where
 prog:TV
 w:Ug
 K:W.Frag
 aj:Tz->Option Ti
 base:TU
 A:T3
 N:List Tz
 dE:Tq
 lG:ah
 env:YA
 outer:List YA
 stack:List YA
 ex:List Tu
 fn:Tz->Bool
 calm:Bool
 bP:List (Tu×UK)
 aV:Ti->Tq->Prop
abbrev dB(l:List YA):List Addr:=l.filterMap (·.frame)
noncomputable abbrev ao.bp(X:ao):List Addr:=dB X.outer
def dN(a:Ve)(x:Tz):Prop:=a.names.lookup x=Z .local\/a.names.lookup x=Z .cell\/a.names.lookup x=Z .free
def Loc(a:Ve)(x:Tz):Prop:=a.names.lookup x=Z .local\/a.names.lookup x=Z .cell
def Look(env:YA)(h:TU)(m:Tz->Option Ti)(x:Tz)(u:Ti):Prop :=
 (env.kindOf x=Z .local/\m x=Z u)\/((env.kindOf x=Z .cell\/env.kindOf x=Z .free)/\∃c,env.cells.lookup x=Z c/\h.IsCell c (Z u))
structure ao.Ok(X:ao):Prop where
 mod:Mod X.K X.aj X.base
 kind:X.env.scope.kind=.function
 glob:X.env.globals=TC
 blt:X.env.builtins=builtinsNs
 above:X.dE.heap.objs.size<=X.env.locals
 inj:∀x y c,X.env.cells.lookup x=Z c->X.env.cells.lookup y=Z c->x=y
 has:∀x,(X.env.kindOf x=Z .cell\/X.env.kindOf x=Z .free)->∃c,X.env.cells.lookup x=Z c
 kA:∀x c,X.fn x=J->X.env.cells.lookup x=Z c->X.dE.heap.objs.size<=c
 hd:X.calm=J->X.A.handled=Y
 frames:X.A.frames=Z X.stack
 i7:X.stack=X.outer\/(X.stack=X.env::X.outer/\X.env.frame=Z X.env.locals)
 oo:∀b∈X.ex,b≠X.env.locals/\∀x c,X.env.cells.lookup x=Z c->c≠b
 bs:∀b o,X.base.get? b=Z o->X.dE.heap.get? b=Z o/\X.lG b=Y
 iC:X.base.objs.size<=X.dE.heap.objs.size
 i0:∀b o,X.base.get? b=Z o->b∉X.ex
 jE:∀b∈X.ex,b∉X.bp
 fT:X.dE.heap.FunFrames X.base X.outer
 jH:∀b∈X.bp,X.lG b=Y
structure Inv(X:ao)(pins:List (Tu×UK))(σ:List (Option V))(H:ah)(s:Tq):Prop where
 ok:X.Ok
 os:s.os=X.dE.os
 bare:Vt s.gens
 base:cX X.bp X.ex X.lG H X.dE.heap s.heap
 loc:∃m,s.heap.Ns X.env.locals m/\∀(i:Nat)(x:Tz)(v:V),X.N[i]?=Z x->σ[i]?=Z (Z v)->dN X.env.scope x->∃u,RelV v u/\Look X.env s.heap m x u
 cell:∀x c,X.env.cells.lookup x=Z c->∃v,s.heap.IsCell c v
 free:H X.env.locals=Y
 el:∀x c,X.env.cells.lookup x=Z c->H c=Y
 pin:∀p∈X.bP++pins,s.heap.get? p.1=Z p.2/\H p.1=Y/\p.1≠X.env.locals/\p.1∉X.bp/\∀v,p.2.data≠.cell v
 aJ:cn X.prog X.w H s.heap
 len:σ.length=X.N.length
section
variable{X:ao}{pins:List (Tu×UK)}{σ:List (Option V)}{H aK:ah}{s:Tq}{h':TU}
def ao.Ok.HR(c:X.Ok)(e:X.base.get? b=Z o):b∉X.bp:=λa=>by
 have:=(c.fT.mem a).1;rw[e]at this;cases this
theorem Inv.bs(I:Inv X pins σ H s):∀b o,X.base.get? b=Z o->s.heap.get? b=Z o/\H b=none:=λb o e =>
 ⟨I.base.keep b o (I.ok.bs b o e).1 (I.ok.bs b o e).2 (I.ok.HR e) (I.ok.i0 b o e),I.base.free b o (I.ok.bs b o e).1 (I.ok.bs b o e).2 (I.ok.i0 b o e)⟩
def Inv.eU(I:Inv X pins σ H s):∀b o,X.base.get? b=Z o->s.heap.get? b=Z o:=λb o e=>(I.bs b o e).1
theorem Inv.mod(I:Inv X pins σ H s):Mod X.K X.aj X.base:=I.ok.mod
def Inv.dT(I:Inv X pins σ H s):X.K.In s.heap:=I.ok.mod.mC.keeps I.eU
theorem Inv.lt(I:Inv X pins σ H s):X.env.locals<s.heap.objs.size:=let ⟨_,a,_⟩:=I.loc;a.lt
def Inv.ef(I:Inv X pins σ H s):X.dE.heap.objs.size<=s.heap.objs.size:=Ol I.ok.above (OT I.lt)
def Inv.o4(I:Inv X pins σ H s){a:Tu}(h:s.heap.objs.size<=a):a∉X.bp:=λb=>by
 obtain⟨_,o,c,_⟩:=I.ok.fT.mem b;exact absurd (Oa (N5 c) (Ol I.ef h)) (Pt _)
def Inv.od(I:Inv X pins σ H s):∀x c,X.env.cells.lookup x=Z c->c≠X.env.locals:=λx c e z=>by
 obtain⟨v,o,b,a⟩:=I.cell x c e;obtain⟨m,⟨i,h,g,f,d,_⟩,_⟩:=I.loc;rw[z,f]at b;cases b;rw[d]at a;cases a
theorem Inv.fT(I:Inv X pins σ H s):s.heap.FunFrames X.base X.outer:=by
 have all:∀(l:List YA),(∀b∈dB l,b∈X.bp)->X.dE.heap.FunFrames X.base l->s.heap.FunFrames X.base l:=by
  intro l
  induction l with
  |nil=>intro _ _;trivial
  |cons env r n =>
   intro f i;obtain⟨h,⟨L,o,d,j,k,g⟩,m⟩:=i;have a:L∈X.bp:=f L (by unfold dB;rw[TY,d];exact To);obtain⟨p,e⟩:=I.base.slot L o k (I.ok.jH L a) a λz=>I.ok.jE L z a
   exact⟨h,⟨L,_,d,j,e,g⟩,n (λb c=>f b (by unfold dB;rw[TY,d];exact Tp _ c)) m⟩
 exact all X.outer (λ_ c=>c) I.ok.fT
theorem Inv.stack(I:Inv X pins σ H s):s.heap.FunFrames X.base X.stack:=by
 rcases I.ok.i7 with e|⟨e,a⟩
 .rw[e];exact I.fT
 .rw[e];obtain⟨m,b,_⟩:=I.loc;refine .cons (by rw[I.ok.kind];decide) a b ?_ I.fT;exact Ws (Ol I.ok.iC I.ok.above)
def Inv.j7(I:Inv X pins σ H s):∀b∈dB X.stack,b∈X.env.locals::X.bp:=λb a=>by
 rcases I.ok.i7 with e|⟨e,c⟩
 .rw[e]at a;exact Tp _ a
 .rw[e]at a;unfold dB at a;rw[TY,c]at a;exact a
def Inv.tY(I:Inv X pins σ H s):∀b∈dB X.stack,H b=none:=λb a=>by
 rcases N3.mp (I.j7 b a) with e|a
 .rw[e];exact I.free
 .obtain⟨_,o,c,_⟩:=I.ok.fT.mem a;exact I.base.free b o c (I.ok.jH b a) λz=>I.ok.jE b z a
def Inv.step{ch:List Tu}(I:Inv X pins σ H s)(h:∀b∈ch,(b∈X.ex\/X.dE.heap.objs.size<=b)/\b≠X.env.locals/\(∀x c,X.env.cells.lookup x=Z c->c≠b)/\∀p∈X.bP++pins,p.1≠b)(B:∀b o,b≠X.env.locals->b∉X.bp->b∉ch->s.heap.get? b=Z o->H b=Y->h'.get? b=Z o)(O:∀b o,b≠X.env.locals->b∈X.bp->b∉ch->s.heap.get? b=Z o->H b=Y->∃C,h'.get? b=Z { o with slots:=C })(free:∀b o,b∉ch->s.heap.get? b=Z o->H b=Y->aK b=Y)(a3:∀b o,b∉ch->s.heap.get? b=Z o->∃t,h'.get? b=Z t)(a4:∀b xs,H b=Z (.tup xs)->aK b=Z (.tup xs))(Q:∀b o u,H b=Z (.cm o u)->aK b=Z (.cm o u))(a2:∀b y,H b=Z (.jb y)->∃a0,aK b=Z (.jb (y++a0)))(ns:∀m,s.heap.Ns X.env.locals m->h'.Ns X.env.locals m)(aJ:cn X.prog X.w aK h')(R:Vt g'):
  Inv X pins σ aK { s with heap:=h',gens:=g',drawn:=d',toks:=t' }:=by
 have M:∀b o,X.dE.heap.get? b=Z o->b≠X.env.locals:=λb o e=>Oj (Oa (N5 e) I.ok.above)
 have w:∀b o,X.dE.heap.get? b=Z o->b∉X.ex->b∉ch:=λb o e a f=>by
  rcases(h b f).1 with z|z
  .exact a z
  .exact absurd (Oa (N5 e) z) (Pt _)
 have D:∀x c,X.env.cells.lookup x=Z c->∀v,s.heap.IsCell c v->h'.IsCell c v:=λx c e v a5=>by
  obtain⟨o,g,A⟩:=a5;have j:c∉ch:=λz=>(h c z).2.2.1 x c e rfl
  by_cases E:c∈X.bp
  .obtain⟨C,q⟩:=O c o (I.od x c e) E j g (I.el x c e);exact⟨_,q,A⟩
  .exact⟨o,B c o (I.od x c e) E j g (I.el x c e),A⟩
 refine⟨I.ok,I.os,R,⟨λb o e n f a=>?_,λb o e n f a=>?_,λb o e n a=>?_,λb o e a=>?_,λb xs e=>a4 b xs (I.base.gn b xs e),λb o xs e=>Q b o xs (I.base.fS b o xs e),λb y e=>?_⟩,?_,λx c e=>?_,?_,λx c e=>?_,λp G=>?_,aJ,I.len⟩
 .exact B b o (M b o e) f (w b o e a) (I.base.keep b o e n f a) (I.base.free b o e n a)
 .obtain⟨C,e1⟩:=I.base.slot b o e n f a;obtain⟨a1,e2⟩:=O b _ (M b o e) f (w b o e a) e1 (I.base.free b o e n a);exact⟨a1,e2⟩
 .obtain⟨t,e1⟩:=I.base.there b o e a;exact free b t (w b o e a) e1 (I.base.free b o e n a)
 .obtain⟨t,e1⟩:=I.base.there b o e a;exact a3 b t (w b o e a) e1
 .obtain⟨U,e1⟩:=I.base.gm b y e;obtain⟨m2,e2⟩:=a2 b _ e1;exact⟨U++m2,by rw[e2,Array.append_assoc]⟩
 .obtain⟨m,T,S⟩:=I.loc;refine⟨m,ns m T,λi x v e1 e2 e3=>?_⟩;obtain⟨u,r,l⟩:=S i x v e1 e2 e3;refine⟨u,r,?_⟩;rcases l with l|⟨k,c,e,z⟩
  .exact .inl l
  .exact .inr ⟨k,c,e,D x c e _ z⟩
 .obtain⟨v,z⟩:=I.cell x c e;exact⟨v,D x c e v z⟩
 .obtain⟨m,⟨o,_,_,g,_⟩,_⟩:=I.loc;exact free _ o (λz=>(h _ z).2.1 rfl) g I.free
 .obtain⟨v,o,g,A⟩:=I.cell x c e;exact free c o (λz=>(h c z).2.2.1 x c e rfl) g (I.el x c e)
 .obtain⟨e,n,L,N,d⟩:=I.pin p G;have j:p.1∉ch:=λz=>(h p.1 z).2.2.2 p G rfl
  exact⟨B p.1 p.2 L N j e n,free p.1 p.2 j e n,L,N,d⟩
def Inv.un(I:Inv X pins σ H s)(u:cX X.bp [] H aK s.heap h')(aJ:cn X.prog X.w aK h'):Inv X pins σ aK { s with heap:=h',toks:=t' }:=by
 obtain⟨m,⟨o,l,k,c,r⟩,_⟩:=id I.loc;obtain⟨t,h⟩:=u.any c I.free (by simp);exact I.step (g':=s.gens) (d':=s.drawn) (ch:=[]) (λ_ z=>nomatch z) (λb o _ a _ e n=>u.keep b o e n a (by simp)) (λb o _ a _ e n=>u.slot b o e n a (by simp)) (λb o _ e n=>u.free b o e n (by simp)) (λb o _ e=>u.there b o e (by simp)) u.gn u.fS u.gm (λp i=>by
  obtain⟨q,g,f,d,j⟩:=i;rw[c]at d;cases d;exact⟨_,g,f,h,j⟩) aJ I.bare
def Inv.call(I:Inv X pins σ H s)(u:cX (dB X.stack) ch H aK s.heap h')(aJ:cn X.prog X.w aK h')(l:Vt g')(f:∀b∈ch,(b∈X.ex\/X.dE.heap.objs.size<=b)/\b≠X.env.locals/\(∀x c,X.env.cells.lookup x=Z c->c≠b)/\∀p∈X.bP++pins,p.1≠b):
  Inv X pins σ aK { s with heap:=h',gens:=g',drawn:=d',toks:=t' }:=by
 obtain⟨m,⟨o,w,v,g,r⟩,_⟩:=id I.loc;obtain⟨B,d⟩:=u.any g I.free λz=>(f _ z).2.1 rfl
 exact I.step (ch:=ch) f (λb o d k a e n=>u.keep b o e n (λz=>(N3.mp (I.j7 b z)).elim d k) a) (λb o _ _ a e n=>u.any e n a) (λb o a e n=>u.free b o e n a) (λb o a e=>u.there b o e a) u.gn u.fS u.gm (λy q=>by
  obtain⟨A,j,i,h,t⟩:=q;rw[g]at h;cases h;exact⟨_,j,i,d,t⟩) aJ l
def Inv.turned(I:Inv X pins σ H s)(k:∀b o,b≠it->s.heap.get? b=Z o->h'.get? b=Z o)(t:H it=Y)(d:it≠X.env.locals)(i:it∈X.ex\/X.dE.heap.objs.size<=it)(h2:∀x c,X.env.cells.lookup x=Z c->c≠it)(h3:∀p∈X.bP++pins,p.1≠it):Inv X pins σ H { s with heap:=h',toks:=t' }:=by
 have f:∀b u,H b=Z u->b≠it:=λb u e z=>by rw[z,t]at e;cases e
 refine I.step (g':=s.gens) (d':=s.drawn) (ch:=[it]) (λb j=>?_) (λb o _ _ a e _=>k b o (λz=>a (by simp[z])) e) (λb o _ _ a e _=>⟨o.slots,k b o (λz=>a (by simp[z])) e⟩) (λ_ _ _ _ n=>n)
  (λb o a e=>⟨o,k b o (λz=>a (by simp[z])) e⟩) (λ_ _ e=>e) (λ_ _ _ e=>e) (λb y e=>⟨#[],by rw[e];simp⟩) (λm l=>?_) (λb u e=>?_) I.bare
 .have e:b=it:=⇑j;subst e;exact⟨i,d,h2,h3⟩
 .obtain⟨o,h,g,w,r⟩:=l;exact⟨o,h,g,k _ o (Pj d) w,r⟩
 .refine(I.aJ b u e).gk (λc v a q=>k c v ?_ q) (λ_ q=>q) λ_ _ q=>q
  rcases a with z|z
  .rw[z];exact f b u e
  .exact f c _ z
def Inv.tok(I:Inv X pins σ H s)(t):Inv X pins σ H { s with toks:=t }:=I.un (h':=s.heap) (t':=t) cX.refl I.aJ
theorem Inv.kept(I:Inv X pins σ H s)(k:∀b u,s.heap.get? b=Z u->h'.get? b=Z u):Inv X pins σ H { s with heap:=h',toks:=t' }:=I.un (cX.kept k) (I.aJ.kept k)
theorem Inv.laid{a:Tu}(I:Inv X pins σ H s)(k:∀b u,s.heap.get? b=Z u->h'.get? b=Z u)(c:s.heap.objs.size<=a)(d:bN X.prog X.w (upd H a o) h' a o):
  Inv X pins σ (upd H a o) { s with heap:=h',toks:=t' }:=I.un (cX.laid k c (I.aJ.fresh c)) (I.aJ.laid k c d)
theorem Inv.write(I:Inv X pins σ H s)(d:lI (H x))(a:e=x\/H e=Z (.own x))(k:∀b u,b≠e->s.heap.get? b=Z u->h'.get? b=Z u)(c:∃u,h'.get? e=Z u)(f:bN X.prog X.w (upd H x o) h' x o):Inv X pins σ (upd H x o) { s with heap:=h',toks:=t' }:=I.un (cX.write d a k c) (I.aJ.write d a k c f)
def Inv.tr(I:Inv X pins σ H s)(h:∀p∈b,s.heap.get? p.1=Z p.2/\H p.1=Y/\p.1≠X.env.locals/\p.1∉X.bp/\∀v,p.2.data≠.cell v):Inv X b σ H s :=
 ⟨I.ok,I.os,I.bare,I.base,I.loc,I.cell,I.free,I.el,λp a=>(Oz.mp a).elim (λz=>I.pin p (OG _ z)) (h p),I.aJ,I.len⟩
def x6{N:List Tz}(c:N.Nodup){i j:Nat}(a:N[i]?=Z x)(b:N[j]?=Z x):i=j:=by
 obtain⟨d,e1⟩:=Og.mp a;obtain⟨h2,e2⟩:=Og.mp b;exact(List.getElem_inj c).mp (e1.trans e2.symm)
def LL(I:Inv X pins σ H s)(a3:X.N.Nodup)(hi:X.N[i]?=Z x)(l:Loc X.env.scope x)(r:RelV v u)(h:∀s',Inv X pins (σ.set i (Z v)) H s'->(∃a,TZ a s.heap s'.heap/\(a=X.env.locals\/X.env.cells.lookup x=Z a))->Q () s')(a6:X.fn x=J\/X.env.scope.names.lookup x=Z .local):Ts M A (storeName X.env x u) Q E s:=by
 obtain⟨m,O,aw⟩:=id I.loc;have a9:(X.env.scope.kind==.class||(X.env.scope.kind==.module&&X.env.locals != X.env.globals))=false:=by rw[I.ok.kind];rfl
 have au:i<σ.length:=by rw[I.len];exact(Og.mp hi).1
 have L:=I.od;have b1:∀{a:Tu}{h':TU},(∃o,s.heap.get? a=Z o/\H a=Y)->TZ a s.heap h'->cn X.prog X.w H h':=λ{a h'} b2 f b bl e=>by
  obtain⟨_,_,aq⟩:=b2;refine(I.aJ b bl e).gk (λc G g q=>(f.2 c ?_).trans q) (λ_ q=>q) λ_ _ q=>q
  rintro rfl;rcases g with rfl|g
  .rw[aq]at e;cases e
  .rw[aq]at g;cases g
 rcases l with t|t
 .refine wpAny_storeName_local t O (λh' bc f=>?_) a9;obtain⟨bj,_,_,a7,_⟩:=id O;refine h _ ⟨I.ok,I.os,I.bare,⟨λb o e n w l=>?_,λb o e n w l=>?_,I.base.free,λb o e l=>?_,I.base.gn,I.base.fS,I.base.gm⟩,⟨_,bc,λj y a2 e1 e2 e3=>?_⟩,λy c e=>?_,I.free,I.el,λp R=>?_,b1 ⟨bj,a7,I.free⟩ f,⇑I.len⟩ ⟨_,f,.inl rfl⟩
  .exact(f.2 b (Oj (Oa (N5 e) I.ok.above))).trans (I.base.keep b o e n w l)
  .obtain⟨a0,e1⟩:=I.base.slot b o e n w l;exact⟨a0,(f.2 b (Oj (Oa (N5 e) I.ok.above))).trans e1⟩
  .obtain⟨T,e1⟩:=I.base.there b o e l;exact⟨T,(f.2 b (Oj (Oa (N5 e) I.ok.above))).trans e1⟩
  .by_cases B:j=i
   .subst B;rw[hi]at e1;cases e1;rw[VU au]at e2;cases e2;exact⟨u,r,.inl ⟨t,by simp⟩⟩
   .rw[RC (Pj B)]at e2;obtain⟨a1,U,q⟩:=aw j y a2 e1 e2 e3;refine⟨a1,U,?_⟩;rcases q with⟨k,e⟩|⟨k,c,e,z⟩
    .refine .inl ⟨k,?_⟩;have:y≠x:=λe=>B (x6 a3 e1 (e▸hi))
     simp[this,e]
    .exact .inr ⟨k,c,e,z.sameBut f (L y c e)⟩
  .obtain⟨G,z⟩:=I.cell y c e;exact⟨G,z.sameBut f (L y c e)⟩
  .obtain⟨e,n,D,S,d⟩:=I.pin p R;exact⟨(f.2 p.1 D).trans e,n,D,S,d⟩
 .have N:X.fn x=true:=by
   rcases a6 with z|z
   .exact z
   .rw[z]at t;cases t
  obtain⟨c,g⟩:=I.ok.has x (.inl t);obtain⟨G,z⟩:=I.cell x c g;refine wpAny_storeName_cell I.ok.kind t g z (λh' a4 f=>?_);obtain⟨aF,ay,ba⟩:=id z;refine h { s with heap:=h' } ⟨I.ok,I.os,I.bare,⟨λb o e n w l=>?_,λb o e n w l=>?_,I.base.free,λb o e l=>?_,I.base.gn,I.base.fS,I.base.gm⟩,⟨m,O.sameBut f (Pj (L x c g)),λj y a2 e1 e2 e3=>?_⟩,λy C e=>?_,I.free,I.el,λp R=>?_,b1 ⟨aF,ay,I.el x c g⟩ f,⇑I.len⟩ ⟨c,f,.inr g⟩
  .exact(f.2 b (Oj (Oa (N5 e) (I.ok.kA x c N g)))).trans (I.base.keep b o e n w l)
  .obtain⟨a0,e1⟩:=I.base.slot b o e n w l;exact⟨a0,(f.2 b (Oj (Oa (N5 e) (I.ok.kA x c N g)))).trans e1⟩
  .obtain⟨T,e1⟩:=I.base.there b o e l;exact⟨T,(f.2 b (Oj (Oa (N5 e) (I.ok.kA x c N g)))).trans e1⟩
  .by_cases B:j=i
   .subst B;rw[hi]at e1;cases e1;rw[VU au]at e2;cases e2;exact⟨u,r,.inr ⟨.inl t,c,g,a4⟩⟩
   .rw[RC (Pj B)]at e2;obtain⟨a1,U,q⟩:=aw j y a2 e1 e2 e3;refine⟨a1,U,?_⟩;rcases q with q|⟨k,C,e,cu⟩
    .exact .inl q
    .refine .inr ⟨k,C,e,cu.sameBut f ?_⟩;rintro rfl;exact B (x6 a3 e1 (I.ok.inj _ _ _ e g▸hi))
  .by_cases a5:C=c
   .subst a5;exact⟨_,a4⟩
   .obtain⟨cq,bO⟩:=I.cell y C e;exact⟨cq,bO.sameBut f a5⟩
  .obtain⟨e,n,D,S,d⟩:=I.pin p R;refine⟨(f.2 p.1 ?_).trans e,n,D,S,d⟩;intro q;rw[q,ay]at e;have bq:aF=p.2:=OI e;exact d G (by rw[<- bq];exact ba)
def pL{M:Xe}{A:T3}{E:Ti->Tq->Prop}{i:Nat}{x:Tz}{v:V}{u:Ti}{Q:Unit->Tq->Prop}(I:Inv X pins σ H s)(b:X.N.Nodup)(hi:X.N[i]?=Z x)(d:Loc X.env.scope x)(r:RelV v u)(h:∀s',Inv X pins (σ.set i (Z v)) H s'->Q () s')(c:X.fn x=J\/X.env.scope.names.lookup x=Z .local:=by first|exact .inl rfl|exact .inr rfl|assumption):Ts M A (storeName X.env x u) Q E s :=
 LL I b hi d r (λs' a _=>h s' a) c
def Inv.rh(I:Inv X pins σ H s)(f:s'.os=s.os)(u:cX (dB X.stack) ch H aK s.heap s'.heap)(aJ:cn X.prog X.w aK s'.heap)(d:Vt s'.gens)(a:∀b∈ch,(b∈X.ex\/X.dE.heap.objs.size<=b)/\b≠X.env.locals/\(∀x c,X.env.cells.lookup x=Z c->c≠b)/\∀p∈X.bP++pins,p.1≠b):Inv X pins σ aK s':=by
 obtain⟨h',g',d',t',g⟩:=s';have e:g=s.os:=f;subst e;exact I.call (g':=g') (t':=t') (d':=d') u aJ d a
end
noncomputable abbrev gy:=Ti->Option Tu->ah->Prop
noncomputable abbrev St:=List (Option V)
noncomputable abbrev bK:=V->ah->Prop
noncomputable abbrev TE:=St->ah->bK->Prop
noncomputable abbrev TT:=St->ah->(Bool->ah->Prop)->Prop
noncomputable abbrev dM:=St->ah->(List V->ah->Prop)->Prop
structure Ends where
 aS:St->ah->Prop
 bt:bK
 eU:St->ah->Prop:=λ_ _=>False
 ct:St->ah->Prop:=λ_ _=>False
noncomputable abbrev eh:=Ends->St->ah->Prop
def cJ(X:ao)(b:List (Tu×UK))(c:St)(Q:bK)(u:Ti)(s':Tq):Prop:=∃v a,Inv X b c a s'/\RelV v u/\Q v a
def lL(X:ao)(c:List (Tu×UK))(d:St)(Q:Bool->ah->Prop)(b:Bool)(s':Tq):Prop:=∃a,Inv X c d a s'/\Q b a
def AU(X:ao)(c:List (Tu×UK))(e:St)(Q:List V->ah->Prop)(d:List Ti)(s':Tq):Prop:=∃b a,Inv X c e a s'/\Vals b d/\Q b a
def js(X:ao)(c:List (Tu×UK))(D:Ends)(f:Flow)(s':Tq):Prop :=
 match f with
 |.next=>∃b a,Inv X c b a s'/\D.aS b a
 |.brk=>∃b a,Inv X c b a s'/\D.eU b a
 |.cont=>∃b a,Inv X c b a s'/\D.ct b a
 |.ret u=>∃v b a,Inv X c b a s'/\RelV v u/\D.bt v a
def ai(X:ao)(e:TG)(t:TE):Prop :=
 ∀(b:List (Tu×UK))(s:Tq)(a:St)(H:ah)(Q:bK),Inv X b a H s->t a H Q->Ts (Tw X.prog X.w) X.A (Uc e X.env) (cJ X b a Q) X.aV s
def cp(X:ao)(e:TG)(t:TT):Prop :=
 ∀(b:List (Tu×UK))(s:Tq)(a:St)(H:ah)(Q:Bool->ah->Prop),Inv X b a H s->t a H Q->Ts (Tw X.prog X.w) X.A (W2 e X.env (Uc e X.env)) (lL X b a Q) X.aV s
def fO(X:ao)(e:TG)(t:TT):Prop :=
 ∀(c:Xy Ti)(b:List (Tu×UK))(s:Tq)(a:St)(H:ah)(Q:Bool->ah->Prop),Inv X b a H s->t a H Q->Ts (Tw X.prog X.w) X.A (W2 e X.env c) (lL X b a Q) X.aV s
def fO.pt(h:fO X e t):cp X e t:=h _
def dK(X:ao)(c:List TG)(t:dM):Prop :=
 ∀(pos:Vb)(b:List (Tu×UK))(s:Tq)(a:St)(H:ah)(Q:List V->ah->Prop),Inv X b a H s->t a H Q->Ts (Tw X.prog X.w) X.A (X8 (U7 pos (TF c X.env))) (AU X b a Q) X.aV s
def bA(X:ao)(st:Ui)(t:eh):Prop :=
 ∀(a:List (Tu×UK))(s:Tq)(b:St)(H:ah)(D:Ends),Inv X a b H s->t D b H->Ts (Tw X.prog X.w) X.A (exec st X.env) (js X a D) X.aV s
def d4(X:ao)(st:List Ui)(t:eh):Prop :=
 ∀(a:List (Tu×UK))(s:Tq)(b:St)(H:ah)(D:Ends),Inv X a b H s->t D b H->Ts (Tw X.prog X.w) X.A (execs st X.env) (js X a D) X.aV s
def aN{α:Type}{t:Xy α}{Q b:α->Tq->Prop}(h:Ts M A t Q E s)(c:∀a s,Q a s->b a s):Ts M A t b E s:=O5 h c λ_ _ x=>x
end aC
namespace aC
open PySem PySem.Spec PyProof.Rows
section
variable{X:ao}
def bin(l:ai X a A)(m:ai X b B){d:St}{R:V->V->ah->Prop}(I:Inv X g d H s)(h:A d H λx e=>B d e λy c=>R x y c){α:Type}{Q:α->Tq->Prop}{f:Ti->Ti->Xy α}(n:∀v u s2 x y c,Inv X g d c s2->RelV x v->RelV y u->R x y c->Ts (Tw X.prog X.w) X.A (f v u) Q X.aV s2):
  Ts (Tw X.prog X.w) X.A (Uc a X.env) (λv w=>Ts (Tw X.prog X.w) X.A (Uc b X.env) (λu z=>Ts (Tw X.prog X.w) X.A (f v u) Q X.aV z) X.aV w) X.aV s:=by
 refine aN (l g s d H _ I h) λv t i=>?_
 obtain⟨x,e,j,q,o⟩:=i;refine aN (m g t d e _ j o) λu s2 i=>?_
 obtain⟨y,c,k,r,p⟩:=i;exact n v u s2 x y c k q r p
abbrev ja(i:Nat):TE:=λa H Q=>∃v,a[i]?=Z (Z v)/\Q v H
abbrev i9(v:V):TE:=λ_ H Q=>Q v H
def eG{i:Nat}{x:Tz}{pos:Vb}(g:X.N[i]?=Z x)(p:dN X.env.scope x)(b:(x==("__debug__":Tz))=false:=by decide)(j:(x==("__classdict__":Tz))=false:=by decide):ai X (.Name x pos) (ja i):=by
 intro q s t H Q I h;obtain⟨v,e,h⟩:=h;obtain⟨m,o,k⟩:=I.loc;obtain⟨u,r,l⟩:=k i x v g e p;have fin:cJ X q t Q u s:=⟨v,H,I,r,h⟩;rcases l with⟨a,n⟩|⟨a,c,d,f⟩
 .exact wpAny_Name (wpAny_loadName_local I.ok.kind a o n fin) b
 .rcases a with a|a
  .exact wpAny_Name (wpAny_loadName_cell I.ok.kind a d f fin) b
  .exact wpAny_Name (wpAny_loadName_free I.ok.kind a d f fin j) b
def II{i j pos}:ai X (.Constant (.int i) j pos) (i9 (.int i)):=λ_ _ _ H _ I h=>wpAny_Constant_int ⟨.int i,H,I.tok _,⟨_,rfl⟩,h⟩
def IA{b j pos}:ai X (.Constant (.bool b) j pos) (i9 (.ag b)):=λ_ _ _ H _ I h=>Constant_bool ⟨.ag b,H,I,rfl,h⟩
def yv{j pos}:ai X (.Constant .none j pos) (i9 .az):=λ_ _ _ H _ I h=>Constant_none ⟨.az,H,I,rfl,h⟩
def yx{x j pos}:ai X (.Constant (.str x) j pos) (i9 (.str x)):=λ_ _ _ H _ I h=>Calls.Constant_str ⟨.str x,H,I.tok _,⟨_,rfl⟩,h⟩
def b9(X:ao)(x:Tz):Prop:=X.env.kindOf x=Z .globalImplicit
def oQ{E:Ti->Tq->Prop}{d:List (Tu×UK)}{s:Tq}{e:St}{H:ah}{x:Tz}{u:Ti}{pos:Vb}{Q:Ti->Tq->Prop}(I:Inv X d e H s)(b:b9 X x)(c:X.aj x=Z u)(h:Q u s)(a:(x==("__debug__":Tz))=false:=by decide):Ts (Tw X.prog X.w) X.A (Uc (.Name x pos) X.env) Q E s :=
 RV I.ok.kind b (Calls.loadGlobal_global (by rw[I.ok.glob];exact I.mod.glob.keeps I.eU) c h) a
def gG{E:Ti->Tq->Prop}{g:List (Tu×UK)}{s:Tq}{i:St}{H:ah}{x:Tz}{u:Ti}{pos:Vb}{Q:Ti->Tq->Prop}(I:Inv X g i H s)(c:b9 X x)(d:X.aj x=Y)(f:Ub x=Z u)(h:Q u s)(e:x≠"__name__":=by decide)(b:(x==("__debug__":Tz))=false:=by decide):Ts (Tw X.prog X.w) X.A (Uc (.Name x pos) X.env) Q E s:=by
 obtain⟨j,a,h2⟩:=I.mod.blt;exact RV I.ok.kind c (Calls.loadGlobal_builtin (by rw[I.ok.glob];exact I.mod.glob.keeps I.eU) d (by rw[I.ok.blt];exact a.keeps I.eU) ((h2 x e).trans f) h) b
def yr{x:Tz}{v:V}{u:Ti}{pos:Vb}(b:b9 X x)(c:X.aj x=Z u)(r:RelV v u)(a:(x==("__debug__":Tz))=false:=by decide):ai X (.Name x pos) (i9 v) :=
 λ_ _ _ H _ I h=>oQ I b c ⟨v,H,I,r,h⟩ a
def yo{x:Tz}{v:V}{u:Ti}{pos:Vb}(b:b9 X x)(c:X.aj x=Y)(e:Ub x=Z u)(r:RelV v u)(d:x≠"__name__":=by decide)(a:(x==("__debug__":Tz))=false:=by decide):ai X (.Name x pos) (i9 v) :=
 λ_ _ _ H _ I h=>gG I b c e ⟨v,H,I,r,h⟩ d a
variable{a b:TG}{bI bJ:TE}{pos:Vb}
def nX(X:ao)(op:CmpOp)(a b:TG)(t:TE):Prop :=
 ∀(d:List (Tu×UK))(s:Tq)(c:St)(H:ah)(Q:bK),Inv X d c H s->t c H Q ->
  Ts (Tw X.prog X.w) X.A (Uc a X.env) (λv e=>Ts (Tw X.prog X.w) X.A (Uc b X.env) (λu f=>Ts (Tw X.prog X.w) X.A (TN op v u) (cJ X d c Q) X.aV f) X.aV e) X.aV s
abbrev LR(t:TE):TT:=λe H Q=>t e H λx d=>∃c,x=.ag c/\Q c d
def Jw{e:TG}{t:TE}(h:ai X e t)(i:∀c,W2 e X.env c=(do let v <- c;standAt e.pos;Xf [v] (truthy v)):=by intro _;rfl):cp X e (LR t):=by
 intro j s n H Q I hw;refine isTrue_plain (aN (h j s n H _ I hw) λv o m=>?_) (i _);obtain⟨x,f,g,l,k⟩:=m;obtain⟨d,rfl,q⟩:=k;cases l;exact Pl ⟨f,g,q⟩
variable{ho pO:TT}{rest:List TG}
abbrev LP(t u:TT):TT:=λe H Q=>t e H λc d=>if c=J then u e d Q else Q Th d
abbrev L6(t u:TT):TT:=λe H Q=>t e H λc d=>if c=J then Q J d else u e d Q
abbrev L4(t:TT):TT:=λe H Q=>t e H λc d=>Q (!c) d
def Jy(d:cp X a ho):fO X (.BoolOp .And [a] pos) ho:=by
 intro j f s g H Q I h;refine isTrue_and (aN (d f s g H Q I h) λc i e=>?_);cases c with
 |true=>exact isTrue_and_nil e
 |false=>exact e
def JA(d:cp X a ho):fO X (.BoolOp .Or [a] pos) ho:=by
 intro j f s g H Q I h;refine isTrue_or (aN (d f s g H Q I h) λc i e=>?_);cases c with
 |false=>exact isTrue_or_nil e
 |true=>exact e
def Jx(j:cp X a ho)(k:fO X (.BoolOp .And (b::rest) pos) pO):fO X (.BoolOp .And (a::b::rest) pos) (LP ho pO):=by
 intro m f s i H Q I h;refine isTrue_and (aN (j f s i H _ I h) λc l n=>?_);obtain⟨d,e,g⟩:=n;cases c with
 |true=>exact k m f l i d Q e g
 |false=>exact⟨d,e,g⟩
def Jz(j:cp X a ho)(k:fO X (.BoolOp .Or (b::rest) pos) pO):fO X (.BoolOp .Or (a::b::rest) pos) (L6 ho pO):=by
 intro m f s i H Q I h;refine isTrue_or (aN (j f s i H _ I h) λc l n=>?_);obtain⟨d,e,g⟩:=n;cases c with
 |true=>exact⟨d,e,g⟩
 |false=>exact k m f l i d Q e g
def Jv(e:cp X a ho):cp X (.UnaryOp .Not a pos) (L4 ho):=by
 intro f s g H Q I h;exact isTrue_not (e f s g H (λc d=>Q (!c) d) I h)
abbrev LQ(bI bJ:TE):TE:=λe H Q=>bI e H λx d=>∃c,x=.ag c/\if c=J then bJ e d Q else Q (.ag Th) d
abbrev L7(bI bJ:TE):TE:=λe H Q=>bI e H λx d=>∃c,x=.ag c/\if c=J then Q (.ag J) d else bJ e d Q
abbrev L5(bI:TE):TE:=λe H Q=>bI e H λx d=>∃c,x=.ag c/\Q (.ag (!c)) d
def tq{op}(h:ai X a t):ai X (.BoolOp op [a] pos) t:=λc s d H Q I hw=>BoolOp_one (h c s d H Q I hw)
def tl(j:ai X a bI)(k:ai X (.BoolOp .And (b::rest) pos) bJ):ai X (.BoolOp .And (a::b::rest) pos) (LQ bI bJ):=by
 intro g s i H Q I h;refine BoolOp_and (aN (j g s i H _ I h) λv m n=>?_);obtain⟨x,e,f,l,d⟩:=n;obtain⟨c,rfl,d⟩:=d;cases l;refine Pl ?_;cases c with
 |true=>exact k g m i e Q f d
 |false=>exact⟨.ag Th,e,f,rfl,d⟩
def IK(j:ai X a bI)(k:ai X (.BoolOp .Or (b::rest) pos) bJ):ai X (.BoolOp .Or (a::b::rest) pos) (L7 bI bJ):=by
 intro g s i H Q I h;refine BoolOp_or (aN (j g s i H _ I h) λv m n=>?_);obtain⟨x,e,f,l,d⟩:=n;obtain⟨c,rfl,d⟩:=d;cases l;refine Pl ?_;cases c with
 |false=>exact k g m i e Q f d
 |true=>exact⟨.ag J,e,f,rfl,d⟩
def yw(g:ai X a bI):ai X (.UnaryOp .Not a pos) (L5 bI):=by
 intro i s l H Q I h;refine UnaryOp_ (aN (g i s l H _ I h) λv m k=>?_);obtain⟨x,e,f,j,d⟩:=k;obtain⟨c,rfl,d⟩:=d;cases j;exact not_of (Pl ⟨.ag (!c),e,f,rfl,d⟩)
abbrev nv(t:TT)(bI bJ:TE):TE:=λd H Q=>t d H λc e=>if c=J then bI d e Q else bJ d e Q
end
end aC
namespace aC
open PySem PySem.Spec PyProof.Rows
def cb(K:W.Frag)(H:ah)(a:Tu)(xs:List V):Prop :=
 fe H a (.lst xs) \/
  ∃(o:UK)(its:Array Ti)(n:Nat),K.lookup a=Z o/\o.cls=.type "list"/\o.dict=Y/\o.data=.seq its n/\its.size<=TH/\Vals xs its.toList
def bT(K:W.Frag)(H:ah)(a:Tu)(xs:List V):Prop :=
 fe H a (.tup xs) \/
  ∃(o:UK)(its:Array Ti)(n:Nat),K.lookup a=Z o/\o.cls=.type "tuple"/\o.data=.seq its n/\its.size<=TH/\Vals xs its.toList
abbrev A3:Ti->Option V
 |.none=>Z .az
 |.bool b=>Z (.ag b)
 |.int i _=>Z (.int i)
 |.str x _=>Z (.str x)
 |.bytes b _=>Z (.rg b)
 |.float b _=>Z (.kH b)
 |.ref a=>Z (.ref a)
 |.type n=>Z (.ty n)
 |_=>Y
def RelV.abs(r:RelV x u):A3 u=Z x:=by
 cases x with
 |az=>cases r;rfl
 |ag _=>cases r;rfl
 |int _=>obtain⟨t,rfl⟩:=r;rfl
 |str _=>obtain⟨t,rfl⟩:=r;rfl
 |rg _=>obtain⟨t,rfl⟩:=r;rfl
 |kH _=>obtain⟨t,rfl⟩:=r;rfl
 |ref _=>cases r;rfl
 |ty _=>cases r;rfl
def RelV.inj(r:RelV x u)(q:RelV y u):x=y:=OI (r.abs.symm.trans q.abs)
theorem Vals.inj:∀{xs ys:List V}{a:List Ti},Vals xs a->Vals ys a->xs=ys:=by
 intro xs ys a h
 induction h generalizing ys with
 |nil=>intro q;cases q;rfl
 |cons r t b=>intro q;cases q with
  |cons c t'=>rw[r.inj c,b t']
section
variable{X:ao}{pins:List (Tu×UK)}{σ:St}{H:ah}{s:Tq}{a:Tu}{xs ys:List V}
def cb.of{K:W.Frag}(h:H a=Z (.lst xs)):cb K H a xs:=.inl (.inl h)
def Inv.list(I:Inv X pins σ H s)(h:cb X.K H a xs):∃its:List Ti,Vals xs its/\PlainL s.heap a its.toArray/\xs.length<=sizeLine:=by
 rcases h with h|⟨o,its,n,d,b,c,f,hz,r⟩
 .obtain⟨z,its,n,r,e⟩:=h.ok I.aJ;exact⟨its,r,⟨_,n,e,rfl,rfl,rfl⟩,z⟩
 .refine⟨its.toList,r,⟨o,n,I.dT a o d,b,c,⇑f⟩,?_⟩;have e:=r.length;simp only[Tn]at e;lia
def Inv.tuple(I:Inv X pins σ H s)(h:bT X.K H a xs):∃its:List Ti,Vals xs its/\Yb s.heap a its.toArray/\xs.length<=sizeLine:=by
 rcases h with h|⟨o,its,n,c,b,d,hz,r⟩
 .obtain⟨z,its,r,p⟩:=h.ok I.aJ;exact⟨its,r,p,z⟩
 .refine⟨its.toList,r,⟨o,I.dT a o c,b,n,⇑d⟩,?_⟩;have e:=r.length;simp only[Tn]at e;lia
def Inv.GY(I:Inv X pins σ H s)(h:cb X.K H a xs)(h':cb X.K H a ys):xs=ys:=by
 obtain⟨its,r,⟨o,n,e,_,_,d⟩,_⟩:=I.list h;obtain⟨its',f,⟨i,g,b,_,_,d'⟩,_⟩:=I.list h';rw[e]at b;cases b;rw[d]at d';injection d' with c _;have:its=its':=by simpa using O7 Array.toList c
 subst this;exact r.inj f
def Inv.ub(I:Inv X pins σ H s)(h:bT X.K H a xs)(h':bT X.K H a ys):xs=ys:=by
 obtain⟨its,r,⟨o,e,_,n,d⟩,_⟩:=I.tuple h;obtain⟨its',f,⟨i,b,_,g,d'⟩,_⟩:=I.tuple h';rw[e]at b;cases b;rw[d]at d';injection d' with c _;have:its=its':=by simpa using O7 Array.toList c
 subst this;exact r.inj f
end
section
variable{X:ao}{st:Ui}{rest:List Ui}{t u:eh}{e:TG}{er:TE}{pos:Vb}
abbrev L2:eh:=λD a H=>D.aS a H
abbrev Mb(t u:eh):eh:=λD a H=>t { D with aS:=u D } a H
def Js:d4 X [] L2:=λ_ _ a H _ I h=>QX ⟨a,H,I,h⟩
def tx(d:bA X st t)(h2:d4 X rest u):d4 X (st::rest) (Mb t u):=by
 intro a s i H D I h;refine wpAny_execs_cons (aN (d a s i H { D with aS:=u D } I h) λf g q=>?_);cases f with
 |next =>
  obtain⟨j,b,c,q⟩:=q;exact h2 a g j b D c q
 |ret v=>exact q
 |brk=>exact q
 |cont=>exact q
def yL(a:bA X st t):d4 X [st] t:=by
 intro b s c H D I h;refine wpAny_execs_cons (aN (a b s c H D I h) λf d q=>?_);cases f with
 |next=>exact QX q
 |ret v=>exact q
 |brk=>exact q
 |cont=>exact q
def Inv.quiet{a:St}(I:Inv X b a H s):interactive X.env=false:=by simp[interactive,I.ok.kind]
abbrev z1(er:TE):eh:=λD a H=>er a H λ_ b=>D.aS a b
def pl(d:ai X e er)(f:U1 e Y pos.line X.env=pure false:=by rfl):bA X (.Expr e pos) (z1 er):=by
 intro g s a H D I h;exact wpAny_Expr_any (aN (d g s a H _ I h) λv k ⟨x,b,c,j,i⟩=>⟨a,b,c,i⟩) I.quiet f
abbrev gO(er:TE):eh:=λD a H=>er a H D.bt
def mX(d:ai X e er):bA X (.Return (Z e) pos) (gO er):=by
 intro f s a H D I h;exact wpAny_Return_some (aN (d f s a H _ I h) λv j ⟨x,b,c,i,g⟩=>⟨x,a,b,c,i,g⟩)
abbrev L0(c:TT)(t u:eh):eh:=λD a H=>c a H λb d=>if b=J then t D a d else u D a d
def Jp(o:cp X c p)(m:d4 X a t)(n:d4 X b u):bA X (.If c a b pos) (L0 p t u):=by
 intro f s g H D I h;refine wpAny_If (aN (o f s g H _ I h) λd l q=>?_);obtain⟨i,j,k⟩:=q;cases d with
 |true=>exact m f l g i D j k
 |false=>exact n f l g i D j k
end
noncomputable abbrev hy:=V->St->ah->(St->ah->Prop)->Prop
noncomputable abbrev iy:=List V->St->ah->(St->ah->Prop)->Prop
def fX(X:ao)(e:TG)(t:hy):Prop :=
 ∀(b:List (Tu×UK))(s:Tq)(c:St)(H:ah)(v:V)(u:Ti)(Q:St->ah->Prop),Inv X b c H s->RelV v u->t v c H Q ->
  Ts (Tw X.prog X.w) X.A (Xz e X.env u) (λ_ s'=>∃d a,Inv X b d a s'/\Q d a) X.aV s
def lJ(X:ao)(ts:List TG)(t:iy):Prop :=
 ∀(b:List (Tu×UK))(s:Tq)(e:St)(H:ah)(d:List V)(c:List Ti)(Q:St->ah->Prop),Inv X b e H s->Vals d c->t d e H Q ->
  Ts (Tw X.prog X.w) X.A (assignInOrder ((UW ts X.env).map (·.2)) c) (λ_ s'=>∃f a,Inv X b f a s'/\Q f a) X.aV s
noncomputable abbrev A2:=V->V->V->ah->(ah->Prop)->Prop
def A0(X:ao)(t:A2):Prop :=
 ∀(d:List (Tu×UK))(s:Tq)(e:St)(H:ah)(o i v:V)(c b u:Ti)(Q:ah->Prop),Inv X d e H s->RelV o c->RelV i b->RelV v u->t o i v H Q ->
  Ts (Tw X.prog X.w) X.A (setItem c b u) (λ_ s'=>∃a,Inv X d e a s'/\Q a) X.aV s
section
variable{X:ao}{pos:Vb}
abbrev r9(i:Nat):hy:=λv a H Q=>Q (a.set i (Z v)) H
def yC{i:Nat}{x:Tz}(b:X.N.Nodup)(hi:X.N[i]?=Z x)(d:Loc X.env.scope x)(c:X.fn x=J\/X.env.scope.names.lookup x=Z .local:=by first|exact .inl rfl|exact .inr rfl|assumption):fX X (.Name x pos) (r9 i):=by
 intro e s f H v u Q I r h;exact wpAny_assign_Name (pL I b hi d r (λs' a=>⟨_,H,a,h⟩) c)
abbrev wJ:iy:=λa b H Q=>a=[]/\Q b H
abbrev wH(t:hy)(u:iy):iy:=λb c H Q=>∃v r,b=v::r/\t v c H λd a=>u r d a Q
def I2:lJ X [] wJ:=by
 intro b s a H d c Q I r h;obtain⟨e,h⟩:=h;subst e;cases r;exact assignInOrder_nil ⟨a,H,I,h⟩
def I1{e:TG}{a:List TG}{t:hy}{u:iy}(f:fX X e t)(h2:lJ X a u)(g:(UW (e::a) X.env).map (·.2)=Xz e X.env::(UW a X.env).map (·.2):=by rfl):lJ X (e::a) (wH t u):=by
 intro b s m H q o Q I r h;obtain⟨v,p,e1,h⟩:=h;subst e1;cases r with
 |cons r j =>
  rw[g];refine assignInOrder_cons (aN (f b s m H _ _ _ I r h) λ_ k l=>?_);obtain⟨n,c,d,i⟩:=l;exact h2 b k n c _ _ Q d j i
abbrev ES(K:W.Frag)(n:Nat)(t:iy):hy:=λv b H Q=>∃a xs,v=.ref a/\bT K H a xs/\xs.length=n/\t xs b H Q
def I0{c:List TG}{k:Nat}{t:iy}{n:Nat}(j:X.calm=J)(h:lJ X c t)(m:(UW c X.env).length=n:=by rfl)(q:(UW c X.env).findIdx? (·.1)=none:=by rfl):fX X (.Tuple c k pos) (ES X.K n t):=by
 intro d s g H v u Q I r hw;obtain⟨a,xs,e1,p,l,hw⟩:=hw;subst e1;cases r;obtain⟨its,f,w,hz⟩:=I.tuple p;refine assign_Tuple_tuple (I.ok.hd j) w (by simp[m,<- l,f.length]) q λh' x=>?_
 have i:Inv X d g H { s with heap:=h' }:=I.kept (t':=s.toks) λb o e=>x b o (Oj (N5 e)) e
 exact h d _ g H xs _ Q i ⇑f hw
abbrev fG(c:TE)(g:hy):eh:=λD a H=>c a H λx b=>g x a b D.aS
def kY{i:Nat}{x:Tz}{e:TG}{b:TE}{a:Vb}(g:X.N.Nodup)(hi:X.N[i]?=Z x)(m:Loc X.env.scope x)(j:ai X e b)(l:U1 e (Z (.Name x a)) pos.line X.env=pure false:=by rfl)(k:X.fn x=J\/X.env.scope.names.lookup x=Z .local:=by first|exact .inl rfl|exact .inr rfl|assumption):
  bA X (.Assign [.Name x a] e pos) (fG b (r9 i)):=by
 intro n s r H D I h;refine wpAny_Assign_Name (aN (j n s r H _ I h) λv t q=>?_) l;obtain⟨y,c,d,p,o⟩:=q;exact pL d g hi m p (λs2 f=>⟨_,c,f,o⟩) k
end
section
variable{X:ao}{pos:Vb}
abbrev Mg(c:TT)(h:eh):eh:=λD a H=>∃W:Nat->St->ah->Prop,(∃m,W m a H)/\∀m a H,W m a H ->
 c a H λb e=>if b=J then ∃N:St->ah->Prop,(∀g d,N g d->∃f,f<m/\W f g d)/\h { D with aS:=N,ct:=N,eU:=D.aS } a e else D.aS a e
def Jq(x:WK (Tw X.prog X.w) X.A X.env X.aV)(B:cp X c G)(A:d4 X body E):bA X (.While c body [] pos) (Mg G E):=by
 intro o s Q H D I h;obtain⟨W,⟨m0,L⟩,turn⟩:=h;refine wpAny_While (codeAny_whileLoop (λn s'=>∃y q,Inv X o y q s'/\W n y q) ?_ m0 ⟨Q,H,I,L⟩);rintro n C ⟨i,r,z,M⟩;refine Qe x (aN (B o C i r _ z (turn n i r M)) λb s2 O=>?_);obtain⟨t,u,e⟩:=O;cases b with
 |true =>
  obtain⟨N,w,e⟩:=e;rw[if_pos rfl];refine Qe x (aN (A o s2 i t _ u e) λf s3 g=>?_);cases f with
  |next =>
   obtain⟨d,a,j,m⟩:=g;obtain⟨l,k,p⟩:=w d a m;exact⟨l,k,d,a,j,p⟩
  |cont =>
   obtain⟨d,a,j,m⟩:=g;obtain⟨l,k,p⟩:=w d a m;exact⟨l,k,d,a,j,p⟩
  |brk=>exact g
  |ret v=>exact g
 |false =>
  rw[if_neg OL];exact QX ⟨i,t,u,e⟩
end
structure fN where
 go:Nat->ah->Prop
 gq:Nat->ah->V->ah->Prop
 stop:Nat->ah->Prop
def fy(X:ao)(a:List (Tu×UK))(H:ah)(b:Tu):Prop :=
 H b=Y/\b≠X.env.locals/\b∉X.bp/\(b∈X.ex\/X.dE.heap.objs.size<=b)/\(∀x c,X.env.cells.lookup x=Z c->c≠b)/\∀p∈X.bP++a,p.1≠b
def Inv.jG{i:St}{b:Tu}(I:Inv X h i H s)(a:s.heap.objs.size<=b)(f:d b=Y):fy X h d b:=by
 refine⟨f,QN (Oa I.lt a),I.o4 a,.inr (Ol I.ef a),λx c e z=>?_,λp g z=>?_⟩
 .obtain⟨v,q⟩:=I.cell x c e;exact absurd (Oa q.lt (by rw[z];exact a)) (Pt _)
 .exact absurd (Oa (N5 (I.pin p g).1) (by rw[z];exact a)) (Pt _)
structure Turn(P:TV)(w:Ug)(K:W.Frag)(es:TG)(jo:fN)(c6:List Tu)(it:Tu)(ib:Nat->TU->Prop):Prop where
 mem:it∈c6
 obj:∀i h,ib i h->∀b∈c6,∃o,h.get? b=Z o/\∀v,o.data≠.cell v
 keep:∀i h h',ib i h->(∀b∈c6,∀o,h.get? b=Z o->h'.get? b=Z o)->ib i h'
 item:∀(X:ao),X.prog=P->X.w=w->X.K=K->X.calm=J->∀(i:Nat)(pins:List (Tu×UK))(s:Tq)(σ:St)(H:ah)(E:Ti->Tq->Prop),Inv X pins σ H s->(∀b∈c6,fy X pins H b)->ib i s.heap->jo.go i H ->
  Ts (Tw P w) X.A (U3 (.ref it)) (λr s1=>∃u,r=Z u /\
   Ts (Tw P w) X.A (Vo es (.ref it) u) (λ_ s2=>∃x aK,Inv X pins σ aK s2/\RelV x u/\jo.gq i H x aK/\ib (i+1) s2.heap/\∀b∈c6,aK b=Y) E s1) E s
 done:∀(X:ao),X.prog=P->X.w=w->X.K=K->X.calm=J->∀(i:Nat)(pins:List (Tu×UK))(s:Tq)(σ:St)(H:ah)(E:Ti->Tq->Prop),Inv X pins σ H s->(∀b∈c6,fy X pins H b)->ib i s.heap->jo.stop i H ->
  Ts (Tw P w) X.A (U3 (.ref it)) (λr s1=>r=Y/\Inv X pins σ H s1) E s
 self:∀(A:T3)(i:Nat)(s:Tq)(Q:Ti->Tq->Prop)(E:Ti->Tq->Prop),ib i s.heap->Q (.ref it) s->Ts (Tw P w) A (VV (.ref it)) Q E s
noncomputable abbrev TI:=St->ah->(fN->ah->Prop)->Prop
def qv(X:ao)(f:List (Tu×UK))(j:St)(i:TG)(R:fN->ah->Prop)(h:Ti)(s2:Tq):Prop :=
 ∃(e:Tu)(d:List Tu)(g:Nat->TU->Prop)(c:fN)(a:ah),h=.ref e/\Inv X f j a s2/\Turn X.prog X.w X.K i c d e g/\g 0 s2.heap/\(∀b∈d,fy X f a b)/\R c a
def ey(X:ao)(e c:TG)(f:TI):Prop :=
 ∀(b:List (Tu×UK))(s:Tq)(a:St)(H:ah)(R:fN->ah->Prop),Inv X b a H s->f a H R ->
  Ts (Tw X.prog X.w) X.A (Uc c X.env) (λv d=>Ts (Tw X.prog X.w) X.A (VV v) (qv X b a e R) X.aV d) X.aV s
def ml (e : s.heap.get? f = Z o) (b : o.cls = .type n) (c : o.data = .fields i)
    (d : ["enumerate", "zip", "dict_itemiterator", "dict_reverseitemiterator", "odict_iterator", "itertools.zip_longest", "itertools.pairwise"].contains n = Th) (a : Q () s) : Ts M A (Vo g (.ref f) u) Q E s := by
  unfold Vo
  cases g <;> first
    | exact Tg a
    | (cases u <;> first
        | exact Tg a
        | (refine NZ (S7 e ?_)
           rw [b, c]
           show Ts M A (if (["enumerate", "zip", "dict_itemiterator", "dict_reverseitemiterator", "odict_iterator", "itertools.zip_longest", "itertools.pairwise"].contains n && i[0]? == Z (UX _)) = J then _ else _) Q E s
           rw [if_neg (by intro h; rw [d, TP] at h; cases h)]
           exact Tg a))
abbrev qm(K:W.Frag)(a:Tu):fN :=
 ⟨λi H=>∃xs x,cb K H a xs/\xs[i]?=Z x,λi H x b=>b=H/\∀xs,cb K H a xs->xs[i]?=Z x,λi H=>∃xs,cb K H a xs/\xs.length<=i⟩
abbrev qn(K:W.Frag)(a:Tu):fN :=
 ⟨λi H=>∃xs x,bT K H a xs/\xs[i]?=Z x,λi H x b=>b=H/\∀xs,bT K H a xs->xs[i]?=Z x,λi H=>∃xs,bT K H a xs/\xs.length<=i⟩
abbrev ki(lo:Int)(n:Nat):fN:=⟨λi _=>i<n,λi H x a=>a=H/\x=.int (lo+i),λi _=>n<=i⟩
def MV{K:W.Frag}(a it):Turn P w K a1 (qm K a) [it] it (λi h=>h.IsListIter it a i) where
 mem:=by simp
 obj:=λi h st b f=>by
  have e:b=it:=⇑f;subst e;obtain⟨o,e,c,d⟩:=st;exact⟨o,e,λv z=>by rw[d]at z;cases z⟩
 keep:=λi h h' st k=>st.at λo e=>k it (by simp) o e
 item:=by
  intro X y hw t D i G s M H E I g st A;subst y hw t;obtain⟨xs,x,j,B⟩:=A;obtain⟨its,C,p,hz⟩:=I.list j;obtain⟨u,R,T⟩:=C.get B;obtain⟨l,m,Q,n,q,r⟩:=g it (by simp);refine VW st p.isList (x:=u) ⇑R λh' L U=>?_
  have N:Inv X G M H { s with heap:=h' }:=I.turned (t':=s.toks) (λb o f e=>(U.2 b f).trans e) l m n q r;obtain⟨o,e,c,d⟩:=id L;exact⟨u,rfl,ml (s:={ s with heap:=h' }) e c d ∅ ⟨x,H,N,T,⟨rfl,λys S=>by rw[I.GY S j];exact B⟩,L,λb f=>(g b f).1⟩⟩
 done:=by
  intro X y hw t D i G s M H E I g st A;subst y hw t;obtain⟨xs,j,B⟩:=A;obtain⟨its,C,p,hz⟩:=I.list j;obtain⟨l,m,Q,n,q,r⟩:=g it (by simp);have a0:=C.length;exact wpAny_pyNext_list_end (I.ok.hd D) st p.isList (by simp;lia) λh' O=>⟨rfl,I.turned (t':=s.toks) (λb o f e=>O b o f e) l m n q r⟩
 self:=λ_ _ _ _ _ st h=>Wg st h
def MY{K:W.Frag}(a it):Turn P w K a1 (qn K a) [it] it (λi h=>h.IsTupleIter it a i) where
 mem:=by simp
 obj:=λi h st b f=>by
  have e:b=it:=⇑f;subst e;obtain⟨o,e,c,d⟩:=st;exact⟨o,e,λv z=>by rw[d]at z;cases z⟩
 keep:=λi h h' st k=>st.at λo e=>k it (by simp) o e
 item:=by
  intro X y hw t D i G s M H E I g st A;subst y hw t;obtain⟨xs,x,j,B⟩:=A;obtain⟨its,C,p,hz⟩:=I.tuple j;obtain⟨u,R,T⟩:=C.get B;obtain⟨l,m,Q,n,q,r⟩:=g it (by simp);refine wpAny_pyNext_tuple_item st (show s.heap.IsTuple a its.toArray from p) (x:=u) ⇑R λh' L U=>?_
  have N:Inv X G M H { s with heap:=h' }:=I.turned (t':=s.toks) (λb o f e=>(U.2 b f).trans e) l m n q r;obtain⟨o,e,c,d⟩:=id L;exact⟨u,rfl,ml (s:={ s with heap:=h' }) e c d ∅ ⟨x,H,N,T,⟨rfl,λys S=>by rw[I.ub S j];exact B⟩,L,λb f=>(g b f).1⟩⟩
 done:=by
  intro X y hw t D i G s M H E I g st A;subst y hw t;obtain⟨xs,j,B⟩:=A;obtain⟨its,C,p,hz⟩:=I.tuple j;obtain⟨l,m,Q,n,q,r⟩:=g it (by simp);have a0:=C.length;exact wpAny_pyNext_tuple_end (I.ok.hd D) st (show s.heap.IsTuple a its.toArray from p) (by simp;lia) λh' O=>⟨rfl,I.turned (t':=s.toks) (λb o f e=>O b o f e) l m n q r⟩
 self:=λ_ _ _ _ _ st h=>wpAny_pyIter_tupleiter st h
def MW{K:W.Frag}(it)(lo)(n):Turn P w K M (ki lo n) [it] it (λi h=>IsRangeIter h it (lo+(i:Nat)*1) ((n:Int)-(i:Nat)) 1) where
 mem:=by simp
 obj:=λi h st b a=>by
  have e:b=it:=⇑a;subst e;exact⟨_,st,λv z=>by
   have L:Data.fields _=Data.cell v:=z;cases L⟩
 keep:=λi h h' st k=>k it (by simp) _ st
 item:=by
  intro X p hw m q i u s y H E I c st r;subst p hw m;obtain⟨d,f,C,g,j,l⟩:=c it (by simp);have W:=Walks.range (prog:=X.prog) (w:=X.w) (I.ok.hd q) it lo 1 n;refine W.item i s _ _ r st λv h' tk D x G=>?_
  obtain⟨t,rfl⟩:=D;have A:Inv X u y H { s with heap:=h',toks:=tk }:=I.turned (λb o a e=>G b o ⇑a e) d f g j l;refine⟨_,rfl,ml (s:={ s with heap:=h',toks:=tk }) (n:="range_iterator") x rfl rfl ∅ ⟨.int (lo+i),H,A,⟨t,?_⟩,⟨rfl,rfl⟩,x,λb a=>(c b a).1⟩⟩;rw[Int.mul_one]
 done:=by
  intro X p hw m q i u s y H E I c st r;subst p hw m;obtain⟨d,f,C,g,j,l⟩:=c it (by simp);exact wpAny_pyNext_range_end (I.ok.hd q) st (by have:n<=i:=r;lia) λh' B=>⟨rfl,I.turned (t':=s.toks) (λb o a e=>B b o a e) d f g j l⟩
 self:=λ_ _ _ _ _ st h=>wpAny_pyIter_rangeiter st h
end aC
namespace aC
open PySem PySem.Spec PyProof.Rows
section
variable{X:ao}{es:TG}
def yU{c:St}{lo hi:Int}(I:Inv X d c H s)(f:-(2 ^ 62)<=lo)(h2:lo<2 ^ 62)(h3:-(2 ^ 62)<=hi)(h4:hi<2 ^ 62)(q:R (ki lo (hi-lo).toNat) H):Ts (Tw X.prog X.w) X.A (VV (.ref s.heap.objs.size)) (qv X d c es R) E { s with heap:=s.heap.push { cls:=.type "range",data:=.fields #[.int lo t,.int hi u,.int 1 v] },toks:=tk }:=by
 refine wpAny_pyIter_range (YI ..) (small_one f h2 h3 h4) ?_;have a:Inv X d c H { s with heap:=s.heap.push { cls:=.type "range",data:=.fields #[.int lo t,.int hi u,.int 1 v] },toks:=tk }:=I.kept λb o e=>N1 _ e
 refine⟨(s.heap.push { cls:=.type "range",data:=.fields #[.int lo t,.int hi u,.int 1 v] }).objs.size,[(s.heap.push { cls:=.type "range",data:=.fields #[.int lo t,.int hi u,.int 1 v] }).objs.size],_,_,H,rfl,
  a.kept (t':=tk) λb o e=>N1 _ e,MW _ lo (hi-lo).toNat,?_,λb g=>?_,q⟩
 .have e1:lo+((0:Nat):Int)*1=lo:=(by simp);have e2:(((hi-lo).toNat:Nat):Int)-((0:Nat):Int)=U9 lo hi 1:=(by rw[rangeSize_one];split<;>lia);show IsRangeIter _ _ (lo+((0:Nat):Int)*1) ((((hi-lo).toNat:Nat):Int)-((0:Nat):Int)) 1;rw[e1,e2];exact N6 _ rfl
 .have e:b=(s.heap.push { cls:=.type "range",data:=.fields #[.int lo t,.int hi u,.int 1 v] }).objs.size:=⇑g;subst e;exact a.jG (N2 _) (a.aJ.fresh (N2 _))
def Fh(b:dM):TI:=λd H R=>b d H λc a=>∃j:Int,c=[.int j]/\-(2 ^ 62)<=j/\j<2 ^ 62/\R (ki 0 j.toNat) a
def Fi(b:dM):TI:=λd H R=>b d H λc a=>∃i j:Int,c=[.int i,.int j]/\(-(2 ^ 62)<=i/\i<2 ^ 62/\-(2 ^ 62)<=j/\j<2 ^ 62)/\R (ki i (j-i).toNat) a
def I3{a:TG}{c:dM}{p pos:Vb}(g:b9 X "range")(i:X.aj "range"=Y)(f:dK X [a] c)(k:TF [a] X.env=[(Th,Uc a X.env)]:=by rfl):ey X es (.Call (.Name "range" p) [a] [] pos) (Fh c):=by
 intro l s v H R I h;refine Call_ (gG I g i boot_range (OU (aN (f pos l s v H _ I h) λy x u=>?_) k rfl));obtain⟨z,w,d,n,b⟩:=u;obtain⟨j,e,b,m,q⟩:=b;subst e;cases n with
 |cons r o =>
  cases o;obtain⟨t,rfl⟩:=r;exact call_range_1 (yU d ⋯ ⋯ b m ⇑q)
def I4{a b:TG}{g:dM}{p pos:Vb}(m:b9 X "range")(n:X.aj "range"=Y)(l:dK X [a,b] g)(o:TF [a,b] X.env=[(Th,Uc a X.env),(Th,Uc b X.env)]:=by rfl)(f:TF [b] X.env=[(Th,Uc b X.env)]:=by rfl):
  ey X es (.Call (.Name "range" p) [a,b] [] pos) (Fi g):=by
 intro u s B H R I h;refine Call_ (gG I m n boot_range (OU (aN (l pos u s B H _ I h) λE D A=>?_) (by rw[o,f]) (by rw[f];rfl)));obtain⟨G,C,k,z,c⟩:=A;obtain⟨i,j,e,⟨c,v,w,x⟩,q⟩:=c;subst e;cases z with
 |cons r d =>
  cases d with
  |cons y d =>
   cases d;obtain⟨t,rfl⟩:=r;obtain⟨t',rfl⟩:=y;exact call_range_2 (yU k c v w x q)
abbrev nu(k:TI)(g:hy)(j:eh):eh:=λD a H=>k a H λc f=>∃W:Nat->Nat->St->ah->Prop,(∃m,W 0 m a f)/\∀i m a H,W i m a H ->
 (c.stop i H/\D.aS a H)\/(c.go i H/\∃N:St->ah->Prop,(∀e b,N e b->∃d,d<m/\W (i+1) d e b)/\∀x b,c.gq i H x b->g x a b λl h=>j { D with aS:=N,ct:=N,eU:=D.aS } l h)
abbrev ph(a:List Tu)(h:TU):List (Tu×UK):=a.filterMap λb=>(h.get? b).map λo=>(b,o)
def kQ(c:b∈a)(e:h.get? b=Z o):(b,o)∈ph a h:=P6.mpr ⟨b,c,by rw[e];rfl⟩
def H6(f:p∈ph c h):p.1∈c/\h.get? p.1=Z p.2:=by
 obtain⟨b,d,e⟩:=P6.mp f;cases q:h.get? b with
 |none=>rw[q]at e;cases e
 |some o =>
  rw[q]at e;have a:(b,o)=p:=OI e;subst a;exact⟨d,q⟩
def Inv.pinned{h:St}(I:Inv X g h H s)(l:∀b∈c,fy X g H b)(m:∀b∈c,∃o,s.heap.get? b=Z o/\∀v,o.data≠.cell v):Inv X (g++ph c s.heap) h H s :=
 I.tr λp n=>(Oz.mp n).elim (λz=>I.pin p (Oo _ z)) λz=>by
  obtain⟨f,e⟩:=H6 z;obtain⟨i,j,k,_⟩:=l p.1 f;obtain⟨o,a,d⟩:=m p.1 f;rw[e]at a;cases a;exact⟨e,i,j,k,d⟩
def Inv.ly{a:St}(I:Inv X (c++d) a H s):Inv X c a H s:=I.tr λp b=>I.pin p (Oo _ (OG _ b))
def Jo{E:TG}{body:List Ui}{a4:TI}{g:hy}{a2:eh}{pos:Vb}(w:WK (Tw X.prog X.w) X.A X.env X.aV)(U:X.calm=J)(hi:ey X es E a4)(ba:fX X es g)(j:d4 X body a2)(bq:∀x,Ux E X.env x=pure x:=by intro _;rfl):bA X (.For es E body [] pos) (nu a4 g a2):=by
 intro p s a5 H D I h;refine wpAny_For (aN (hi p s a5 H _ I h) λv dY bc=>aN bc λdP s2 h2=>?_) bq;obtain⟨dz,t,a3,dy,aq,e,aw,T,cw,R,W,⟨m0,cH⟩,turn⟩:=h2;subst e;have M:∀{aK:ah},(∀b∈t,aK b=Y)->∀b∈t,fy X p aK b:=λbl b j=>⟨bl b j,(R b j).2⟩
 refine codeAny_forLoop_any (λn s'=>∃i z aK,Inv X p z aK s'/\a3 i s'.heap/\(∀b∈t,aK b=Y)/\W i n z aK) ?_ m0 ⟨0,a5,aq,aw,cw,λb j=>(R b j).1,cH⟩;rintro n s3 ⟨i,A,B,Q,a1,S,cN⟩;rcases turn i n A B cN with⟨stop,bO⟩|⟨a6,N,a7,step⟩
 .refine Qe w (aN (T.done X rfl rfl rfl U i p s3 A B X.aV Q (M S) a1 stop) λr cL q=>?_);obtain⟨C,ay⟩:=q;subst C;exact QX ⟨A,B,ay,bO⟩
 .refine Qe w (aN (T.item X rfl rfl rfl U i p s3 A B X.aV Q (M S) a1 a6) λr cL q=>?_);obtain⟨u,C,h4⟩:=q;subst C;refine Qe w (aN h4 λ_ a0 q=>?_);obtain⟨x,O,aF,b0,de,L,a9⟩:=q;have b1:=aF.pinned (M a9) (T.obj _ _ L);refine Qe w (aN (ba _ a0 A O x u _ b1 b0 (step x O de)) λ_ cM q=>?_);obtain⟨df,au,b2,cu⟩:=q;refine Qe w (aN (j _ cM df au _ b2 cu) λf G l=>?_);have YB:∀{k:St}{a:ah},Inv X (p++ph t a0.heap) k a G->N k a->∃m,m<n/\∃i z aK,Inv X p z aK G/\a3 i G.heap/\(∀b∈t,aK b=Y)/\W i m z aK:=λ{k a} c y=>by
   obtain⟨cq,bj,c4⟩:=a7 k a y;refine⟨cq,bj,i+1,k,a,c.ly,T.keep _ _ _ L λb j o e=>(c.pin (b,o) (Oo _ (Oo _ (kQ j e)))).1,λb j=>?_,c4⟩;obtain⟨o,e,d⟩:=T.obj _ _ L b j;exact(c.pin (b,o) (Oo _ (Oo _ (kQ j e)))).2.1
  cases f with
  |next=>obtain⟨k,a,c,y⟩:=l;exact YB c y
  |cont=>obtain⟨k,a,c,y⟩:=l;exact YB c y
  |brk=>obtain⟨k,a,c,l⟩:=l;exact⟨k,a,c.ly,l⟩
  |ret v=>obtain⟨dc,k,a,c,cv,l⟩:=l;exact⟨dc,k,a,c.ly,cv,l⟩
end
end aC
namespace aC
open PySem PySem.Spec PyProof.Rows
noncomputable abbrev fc:=V->V->ah->bK->Prop
def bu(X:ao)(f:Ti->Ti->Xy Ti)(r:fc):Prop :=
 ∀(a:List (Tu×UK))(s:Tq)(b:St)(H:ah)(x y:V)(v u:Ti)(Q:bK),Inv X a b H s->RelV x v->RelV y u->r x y H Q ->
  Ts (Tw X.prog X.w) X.A (f v u) (cJ X a b Q) X.aV s
def qx(X:ao)(f:Ti->Xy Ti)(r:V->ah->bK->Prop):Prop :=
 ∀(a:List (Tu×UK))(s:Tq)(b:St)(H:ah)(x:V)(v:Ti)(Q:bK),Inv X a b H s->RelV x v->r x H Q ->
  Ts (Tw X.prog X.w) X.A (f v) (cJ X a b Q) X.aV s
def dv(X:ao)(f:Ti)(r:List V->ah->bK->Prop):Prop :=
 ∀(a:List (Tu×UK))(s:Tq)(c:St)(H:ah)(xs:List V)(b:List Ti)(Q:bK),Inv X a c H s->Vals xs b->r xs H Q ->
  Ts (Tw X.prog X.w) X.A (call f b) (cJ X a c Q) X.aV s
abbrev nx(r:fc)(d e:TE):TE:=λa H Q=>d a H λx b=>e a b λy c=>r x y c Q
abbrev Mf(r:V->ah->bK->Prop)(b:TE):TE:=λc H Q=>b c H λx a=>r x a Q
abbrev pn(C:Int->Int->Prop)(g:Int->Int->V):fc:=λx y H Q=>∃i j,x=.int i/\y=.int j/\C i j/\Q (g i j) H
abbrev hg(g:Int->Int->V):fc:=λx y H Q=>∃i j,x=.int i/\y=.int j/\Q (g i j) H
abbrev yT(g:Int->V):V->ah->bK->Prop:=λx H Q=>∃i,x=.int i/\Q (g i) H
section
variable{X:ao}{a b c:TG}{bI bJ kb:TE}{pos:Vb}
def rb(m:ai X a bI)(n:ai X b bJ){e:St}{R:V->V->ah->Prop}(I:Inv X i e H s)(h:bI e H λx g=>bJ e g λy d=>R x y d){f:Ti->Ti->Xy Ti}(o:∀v u s2 x y d,Inv X i e d s2->RelV x v->RelV y u->R x y d->Ts (Tw X.prog X.w) X.A (f v u) Q X.aV s2):
  Ts (Tw X.prog X.w) X.A (Uc a X.env) (λv z=>Ts (Tw X.prog X.w) X.A (Uc b X.env) (λu A=>Ts (Tw X.prog X.w) X.A (f v u) Q X.aV A) X.aV z) X.aV s:=by
 refine aN (m i s e H _ I h) λv w j=>?_
 obtain⟨x,g,k,r,p⟩:=j;refine aN (n i w e g _ k p) λu s2 j=>?_
 obtain⟨y,d,l,t,q⟩:=j;exact o v u s2 x y d l r t q
def IJ(i:bu X (Ur op) r)(f:ai X a bI)(g:ai X b bJ):ai X (.BinOp a op b pos) (nx r bI bJ):=by
 intro j s m H Q I h;exact wpAny_BinOp (rb f g I h λv u s2 x y d e k l q=>i j s2 m d x y v u Q e k l q)
def IP(j:qx X (unaryOp op) r)(i:ai X a bI):ai X (.UnaryOp op a pos) (Mf r bI):=by
 intro d s e H Q I h;exact UnaryOp_ (aN (i d s e H _ I h) λv m ⟨x,f,g,l,k⟩=>j d m e f x v Q g l k)
def th{g:Int->Int->Int}(XA:∀(i j:Int)(t u:Tok)(s:Tq)(Q E:Ti->Tq->Prop),C i j->Q (.int (g i j) s.toks) { s with toks:=s.toks+1 }->Ts (Tw X.prog X.w) X.A (f (.int i t) (.int j u)) Q E s):
  bu X f (pn C λi j=>.int (g i j)):=by
 intro l s m H x y v u Q I e k h;obtain⟨i,j,rfl,rfl,d,q⟩:=h;obtain⟨t,rfl⟩:=e;obtain⟨t',rfl⟩:=k;exact XA i j t t' s _ _ d ⟨.int (g i j),H,I.tok _,⟨_,rfl⟩,q⟩
def pa{g:Int->Int->Int}(XA:∀(i j:Int)(t u:Tok)(s:Tq)(Q E:Ti->Tq->Prop),Q (.int (g i j) s.toks) { s with toks:=s.toks+1 }->Ts (Tw X.prog X.w) X.A (f (.int i t) (.int j u)) Q E s):
  bu X f (hg λi j=>.int (g i j)):=by
 intro k s l H x y v u Q I d e h;obtain⟨i,j,rfl,rfl,q⟩:=h;obtain⟨t,rfl⟩:=d;obtain⟨t',rfl⟩:=e;exact XA i j t t' s _ _ ⟨.int (g i j),H,I.tok _,⟨_,rfl⟩,q⟩
def o9{g:Int->Int->Bool}(XA:∀(i j:Int)(t u:Tok)(s:Tq)(Q E:Ti->Tq->Prop),Q (.bool (g i j)) s->Ts (Tw X.prog X.w) X.A (f (.int i t) (.int j u)) Q E s):
  bu X f (hg λi j=>.ag (g i j)):=by
 intro k s l H x y v u Q I d e h;obtain⟨i,j,rfl,rfl,q⟩:=h;obtain⟨t,rfl⟩:=d;obtain⟨t',rfl⟩:=e;exact XA i j t t' s _ _ ⟨.ag (g i j),H,I,rfl,q⟩
def AV(i j:Int):Prop:=0<j/\j<1073741824
def qg(i j:Int):Prop:=(-(2 ^ 64)<i/\i<2 ^ 64)\/(-(2 ^ 64)<j/\j<2 ^ 64)
def qg.ok(h:qg i j):IntMulOk i j:=by
 rcases h with⟨d,h2⟩|⟨d,h2⟩
 .exact .of_left (intBits_le_64 d h2)
 .exact .of_right (intBits_le_64 d h2)
def Ia:bu X (Ur .Add) (hg λi j=>.int (i+j)):=pa λ_ _ _ _ _ _ _ q=>add_int q
def Im:bu X (Ur .Sub) (hg λi j=>.int (i-j)):=pa λ_ _ _ _ _ _ _ q=>sub_int q
def Il:bu X (Ur .Mult) (pn qg λi j=>.int (i*j)):=th λ_ _ _ _ _ _ _ d q=>mul_int q d.ok
def Ic:bu X (Ur .FloorDiv) (pn AV λi j=>.int (i / j)):=th λi j _ _ _ _ _ d q=>by
 have e:(0:Int)<j:=d.1;have h2:j<1073741824:=d.2;exact floordiv_int ⋯ (by rw[Int.fdiv_eq_ediv_of_nonneg i ⋯];exact q) (.inl (PyProof.noPylong_small ⋯))
def Ik:bu X (Ur .Mod) (pn (λ_ j=>0<j) λi j=>.int (i%j)):=th λi j _ _ _ _ _ d q=>by
 have e:(0:Int)<j:=d;exact mod_int' ⋯ (by rw[Int.fmod_eq_emod_of_nonneg i ⋯];exact q)
def yc:bu X (Ur .BitAnd) (hg λi j=>.int (Vc i j)):=pa λ_ _ _ _ _ _ _ q=>and_int q
def Io:bu X (Ur .BitXor) (hg λi j=>.int (Yc i j)):=pa λ_ _ _ _ _ _ _ q=>xor_int q
def pX{g:Int->Int}(XA:∀(i:Int)(t:Tok)(s:Tq)(Q E:Ti->Tq->Prop),Q (.int (g i) s.toks) { s with toks:=s.toks+1 }->Ts (Tw X.prog X.w) X.A (f (.int i t)) Q E s):
  qx X f (yT λi=>.int (g i)):=by
 intro e s j H x v Q I d h;obtain⟨i,rfl,q⟩:=h;obtain⟨t,rfl⟩:=d;exact XA i t s _ _ ⟨.int (g i),H,I.tok _,⟨_,rfl⟩,q⟩
def M4:qx X (unaryOp .USub) (yT λi=>.int (-i)):=pX λ_ _ _ _ _ q=>neg_int q
end
section
variable{X:ao}{a b c:TG}{bI bJ kb:TE}{pos:Vb}
def Ii:bu X (TN .Lt) (hg λi j=>.ag (decide (i<j))):=o9 λ_ _ _ _ _ _ _ q=>lt_int q
def Ih:bu X (TN .LtE) (hg λi j=>.ag (decide (i<=j))):=o9 λ_ _ _ _ _ _ _ q=>le_int q
def Ig:bu X (TN .Gt) (hg λi j=>.ag (decide (j<i))):=o9 λ_ _ _ _ _ _ _ q=>gt_int q
def Ie:bu X (TN .GtE) (hg λi j=>.ag (decide (j<=i))):=o9 λ_ _ _ _ _ _ _ q=>ge_int q
def IE(j:bu X (TN op) r)(f:ai X a bI)(g:ai X b bJ)(i:Vh op b=Th):ai X (.Compare a [op] [b] pos) (nx r bI bJ):=by
 intro k s n H Q I h;exact wpAny_Compare1 (rb f g I h λv u s2 x y d e l m q=>j k s2 n d x y v u Q e l m q) i
abbrev z5(t:TE):TT:=λe H Q=>t e H λx d=>∃k,x=.ag k/\Q k d
def Ju(t:bu X (TN op) r)(o:ai X a bI)(p:ai X b bJ)(q:Vh op b=Th):cp X (.Compare a [op] [b] pos) (z5 (nx r bI bJ)):=by
 intro d s f H Q I h;refine wpAny_isTrue_Compare1 (aN (o d s f H _ I h) λv G ⟨x,g,l,C,w⟩=>aN (p d G f g _ l w) λu s2 ⟨y,i,m,D,A⟩ =>
  aN (t d s2 f i x y v u _ m C D A) λc s3 ⟨z,j,n,E,k,e,B⟩=>?_) q
 subst e;cases E;exact Pl ⟨j,n,B⟩
abbrev tZ(r i:fc)(bI bJ kb:TE):TE:=λd H Q=>bI d H λx f=>bJ d f λy g=>r x y g λz e=>∃k,z=.ag k /\
 (if k=J then kb d e λj h=>i y j h Q else Q (.ag Th) e)
def ID{op op':CmpOp}{r m:fc}(G:bu X (TN op) r)(L:bu X (TN op') m)(B:ai X a bI)(C:ai X b bJ)(D:ai X c kb)(E:WL [op,op'] [b,c]=false:=by with_unfolding_all rfl):ai X (.Compare a [op,op'] [b,c] pos) (tZ r m bI bJ kb):=by
 intro f s g H Q I h;refine Compare_chain (aN (B f s g H _ I h) λv U ⟨x,o,t,R,M⟩=>chain_link (aN (C f U g o _ t M) λu s2 ⟨y,p,w,n,N⟩ =>
  aN (G f s2 g p x y v u _ w R n N) λd s3 ⟨z,i,j,S,k,e,l⟩=>?_)) E
 subst e;cases S;refine Pl ?_;cases k with
 |false=>exact ite_ff ⟨.ag Th,i,j,rfl,l⟩
 |true=>exact ite_tt (chain_last (aN (D f s3 g i _ j l) λa1 a0 ⟨a2,q,A,T,O⟩=>L f a0 g q y a2 u a1 Q A n T O))
def Jt{op op':CmpOp}{r m:fc}(N:bu X (TN op) r)(O:bu X (TN op') m)(E:ai X a bI)(G:ai X b bJ)(L:ai X c kb)(M:WL [op,op'] [b,c]=false:=by with_unfolding_all rfl):cp X (.Compare a [op,op'] [b,c] pos) (z5 (tZ r m bI bJ kb)):=by
 intro f s g H Q I h;refine isTrue_chain (aN (E f s g H _ I h) λv a5 ⟨x,o,w,a1,S⟩=>test_link (aN (G f a5 g o _ w S) λu s2 ⟨y,p,A,n,T⟩ =>
  aN (N f s2 g p x y v u _ A a1 n T) λd s3 ⟨z,i,j,a2,k,e,l⟩=>?_)) M
 subst e;cases a2;refine Pl ?_;cases k with
 |false =>
  obtain⟨ay,D,R⟩:=l;cases D;exact ite_ff ⟨i,j,R⟩
 |true =>
  refine ite_tt (test_last (aN (L f s3 g i _ j l) λau aq ⟨aw,q,B,a3,U⟩=>aN (O f aq g q y aw u au _ B n a3 U) λd' aF ⟨b1,t,C,a4,k2,e2,a0⟩=>?_));subst e2;cases a4;exact Pl ⟨t,C,a0⟩
def kO:(TH:Nat)<2 ^ 63:=by rw[TL];decide
def Ib:bu X (Ur .Add) (λx y H Q=>∃i j,x=.str i/\y=.str j/\i.length+j.length<=TH/\Q (.str (i++j)) H):=by
 intro f s g H x y v u Q I d e h;obtain⟨i,j,rfl,rfl,hz,q⟩:=h;obtain⟨t,rfl⟩:=d;obtain⟨t',rfl⟩:=e;exact add_str (λt' tk=>⟨.str (i++j),H,I.tok _,⟨_,rfl⟩,q⟩) hz
def vals1(r:Vals [x] f):∃u,f=[u]/\RelV x u:=by
 cases r with
 |cons d e=>cases e;exact⟨_,rfl,d⟩
def vals2(r:Vals [x,y] h):∃u AJ,h=[u,AJ]/\RelV x u/\RelV y AJ:=by
 cases r with
 |cons d e =>
  cases e with
  |cons f g=>cases g;exact⟨_,_,rfl,d,f⟩
def vd:dv X (.type "int") (λxs H Q=>(∃i,xs=[.int i]/\Q (.int i) H)\/∃k,xs=[.ag k]/\Q (.int (if k then 1 else 0)) H):=by
 intro e s g H xs f Q I r h;rcases h with⟨i,rfl,q⟩|⟨k,rfl,q⟩
 .obtain⟨u,rfl,t,rfl⟩:=vals1 r;exact call_int_int ⟨.int i,H,I,⟨_,rfl⟩,q⟩
 .obtain⟨u,rfl,d⟩:=vals1 r;cases d;exact call_int_bool ⟨.int (if k then 1 else 0),H,I.tok _,⟨_,rfl⟩,q⟩
def Cr:dv X (.type "str") (λxs H Q=>∃i,xs=[.int i]/\i.natAbs.log2<1920/\Q (.str (toString i)) H):=by
 intro d s f H xs e Q I r h;obtain⟨i,rfl,hz,q⟩:=h;obtain⟨u,rfl,t,rfl⟩:=vals1 r;exact PySem.P.str_of_int hz ⟨.str _,H,I.tok _,⟨_,rfl⟩,q⟩
end
end aC
namespace aC
open PySem PySem.Spec PyProof.Rows
structure qt(h:TU)(x dg C:Tu)(xN:Tz->Option Ti):Prop where
 obj:h.get? x=Z (PySem.W.instObj C dg)
 ns:h.Ns1 dg xN
 ne:dg≠x
set_option tactic.hygienic true in
theorem G0 {h:TU} (n:h.Ns1 f p):∃c,h.get? f=Z c/\∀name,PySem.W.lookIn name c=Z (p name):=by
 obtain⟨o,b,r,l,g,i,_,k⟩:=n;refine⟨o,l,λname=>?_⟩;have e:=k name;unfold nsFind findBy at e;rw[<- Array.find?_toList]at e;unfold PySem.W.lookIn;rw[g];dsimp only
 split
 .rename_i y q;rw[q]at e;exact O7 Z e
 .rename_i q;rw[q]at e;have a:b.toList.any (·.refKey)=false:=by
   rw[Sg];intro y m;obtain⟨z,t,j⟩:=i y (Wt.mp m);simp[DictEntry.refKey,j]
  have d:¬b.toList.any (·.refKey)=true:=(by rw[a];exact OL);rw[if_neg d];exact O7 Z e
def qt.look(I:qt h x b C e):∃a,PySem.W.InstAt h x (PySem.W.instObj C b) C (Z a)/\∀name,PySem.W.lookIn name a=Z (e name) :=
 let ⟨a,d,c⟩:=G0 I.ns
 ⟨a,⟨I.obj,rfl,rfl,d⟩,c⟩
def gw.some_of(r:gw (Z v) o):∃u,o=Z u/\RelV v u:=by
 cases o with
 |none=>exact(show False from r).elim
 |some u=>exact⟨u,rfl,r⟩
section
variable{P:TV}{w:Ug}{H aK:ah}{h h':TU}{a C dg:Tu}{bp ER:List (Tz×V)}
def oE(c:cn P w H h)(e:H a=Z (.ins C dg bp)):∃b,qt h a dg C b/\(∀f,gw (bp.lookup f) (b f))/\PySem.Within b (bp.map (·.1))/\bp.length<=1000/\H dg=Z (.own a):=by
 obtain⟨d,z,g,i,b,n,r,q⟩:=(show bN P w H h a (.ins C dg bp) from c a _ e);exact⟨b,⟨i,n,g⟩,r,q,z,d⟩
end
structure lD(K:W.Frag)(C:Tu):Prop where
 pg:PySem.W.plainGet K C Str.empty=J
 hd:PySem.W.hasDictIn K C=J
 po:PySem.W.plainOver K C=J
 cU:PySem.W.findIn K (.ref C) "__setattr__"=Z (Z (.builtin "object.__setattr__"))
def lD.get{K:W.Frag}(c:lD K C)(f):PySem.W.plainGet K C f=true:=c.pg
structure NB(K:W.Frag)(C:Tu)(f:Tz)(v:V)(u:Ti):Prop where
 at_:PySem.W.findIn K (.ref C) f=Z (Z u)
 rel:RelV v u
 get:PySem.W.specialIn K u "__get__"=Z Y
 ej:PySem.W.copiedNames.contains f=Th
structure Meth(K:W.Frag)(C:Tu)(m:Tz)(f:Tu):Prop where
 at_:PySem.W.findIn K (.ref C) m=Z (Z (.ref f))
 fn:PySem.W.isFn K (.ref f)=J
 oM:W.keepIn K (.ref f)=J
section
variable{X:ao}{pins:List (Tu×UK)}{σ:St}{H:ah}{s:Tq}{A:T3}{E Q:Ti->Tq->Prop}{c:Ti}{b:Bool}
inductive fZ(K:W.Frag)(H:ah):V->Ti->Prop where
 |az:fZ K H .az (.type "NoneType")
 |ag (x:Bool):fZ K H (.ag x) (.type "bool")
 |int (i:Int):fZ K H (.int i) (.type "int")
 |str (x:Tz):fZ K H (.str x) (.type "str")
 |kH (x:UInt64):fZ K H (.kH x) (.type "float")
 |lst {a:Tu} {xs:List V} (e:H a=Z (.lst xs)):fZ K H (.ref a) (.type "list")
 |cm {a:Tu} {o:UK} {xs:List V} (e:H a=Z (.cm o (.lst xs))):fZ K H (.ref a) (.type "list")
 |tup {a:Tu} {xs:List V} (e:H a=Z (.tup xs)):fZ K H (.ref a) (.type "tuple")
 |bZ {a:Tu} {hO:List (Key×V)} (e:H a=Z (.bZ hO)):fZ K H (.ref a) (.type "dict")
 |cz {a:Tu} {hO:List (List Key×V)} (e:H a=Z (.cz hO)):fZ K H (.ref a) (.type "dict")
 |ins {a C dg:Tu} {bp:List (Tz×V)} (e:H a=Z (.ins C dg bp)) (cl:lD K C) (NL:PySem.W.findIn K (.ref C) "__class__"=Z (Z (.builtin "object.__class__")))
   (NN:PySem.W.specialIn K (.builtin "object.__class__") "__get__"=Z (Z (.builtin "getset_descriptor.__get__"))) (NO:PySem.W.takesIn K (.builtin "object.__class__")=Z J)
   (hm:PySem.W.mroIn K C (.type "object")=Z J):fZ K H (.ref a) (.ref C)
def oI(I:Inv X pins σ H s)(f:RelV x u)(L:fZ X.K H x t)(e:PySem.W.kitOne X.K t c=Z b)(h:∀tk,Q (.bool b) { s with toks:=tk }):
  Ts (Tw X.prog X.w) A (call (.builtin "isinstance") [u,c]) Q E s:=by
 cases L with
 |az=>cases (show u=Value.none from f);exact OR PySem.W.kitx_none I.dT True.intro e (λz=>nomatch z) h
 |ag y=>cases (show u=UA y from f);exact OR PySem.W.kitx_bool I.dT True.intro e (λz=>nomatch z) h
 |int i=>obtain⟨t,q⟩:=(show ∃t,u=Uj i t from f);cases q;exact OR PySem.W.kitx_int I.dT True.intro e (λz=>nomatch z) h
 |str y=>obtain⟨t,q⟩:=(show ∃t,u=Value.str y t from f);cases q;exact OR PySem.W.kitx_str I.dT True.intro e (λz=>nomatch z) h
 |kH y=>obtain⟨t,q⟩:=(show ∃t,u=Value.float y t from f);cases q;exact OR PySem.W.kitx_float I.dT True.intro e (λz=>nomatch z) h
 |@lst a xs d =>
  cases (show u=TA a from f);obtain⟨_,_,n,_,g⟩:=(show bN X.prog X.w H s.heap a (.lst xs) from I.aJ a _ d);exact OR Sh I.dT ⟨_,g,rfl⟩ e (λz=>nomatch z) h
 |@cm a G xs d =>
  cases (show u=TA a from f);obtain⟨_,_,_,n,_,g⟩:=(show bN X.prog X.w H s.heap a (.cm G (.lst xs)) from I.aJ a _ d);exact OR Sh I.dT ⟨_,g,rfl⟩ e (λz=>nomatch z) h
 |@tup a xs d =>
  cases (show u=TA a from f);obtain⟨_,_,_,p⟩:=(show bN X.prog X.w H s.heap a (.tup xs) from I.aJ a _ d);obtain⟨o,g,h2,_⟩:=p;exact OR RW I.dT ⟨o,g,h2⟩ e (λz=>nomatch z) h
 |@bZ a j d =>
  cases (show u=TA a from f);obtain⟨_,_,T,_,p⟩:=(show bN X.prog X.w H s.heap a (.bZ j) from I.aJ a _ d);obtain⟨o,r,m,g,h2,_⟩:=p;exact OR Q4 I.dT ⟨o,g,h2.1⟩ e (λz=>nomatch z) h
 |@cz a j d =>
  cases (show u=TA a from f);obtain⟨_,_,xs,_,o,r,m,g,h2,_⟩:=(show bN X.prog X.w H s.heap a (.cz j) from I.aJ a _ d);exact OR Q4 I.dT ⟨o,g,h2.1⟩ e (λz=>nomatch z) h
 |@ins a C M N d k v B D w =>
  cases (show u=TA a from f);obtain⟨R,O,_⟩:=oE I.aJ d;obtain⟨S,l,_⟩:=O.look;exact OR (PySem.W.kitx_own (k.get _) k.hd v B D w) I.dT l e (λz=>nomatch z) h
end
end aC
namespace aC
open PySem PySem.Spec PyProof.Rows
structure ea(k:Nat)(A:T3):Prop where
 hd:A.handled=Y
 iG:A.depth+3*k+5<recursionLimit
 un:A.units+16*k+200<UD
def ea.mono(r:ea k A)(h:j<=k):ea j A:=⟨r.hd,by have:=r.iG;lia,by have:=r.un;lia⟩
theorem ea.deeper(r:ea (k+1) A)(env):ea k (A.deeper env) :=
 ⟨r.hd,by have:=r.iG;show A.depth+1+3*k+5<_;lia,by have:=r.un;show A.units+3+16*k+200<_;lia⟩
theorem ea.depth(r:ea k A):A.depth<recursionLimit:=by have:=r.iG;lia
theorem ea.units(r:ea k A):A.units+64<cLine:=by have:=r.un;lia
abbrev pQ:dM:=λ_ H Q=>Q [] H
abbrev nr(d:TE)(e:dM):dM:=λa H Q=>d a H λx b=>e a b λxs c=>Q (x::xs) c
section
variable{X:ao}{e:TG}{aA:List TG}{er:TE}{t:dM}{pos:Vb}
def hc:dK X [] pQ:=λ_ _ _ _ H Q I h=>Q5 ⟨[],H,I,.nil,h⟩
def fv(i:ai X e er)(j:dK X aA t)(k:TF (e::aA) X.env=(Th,Uc e X.env)::TF aA X.env:=by rfl):dK X (e::aA) (nr er t):=by
 intro pos a s b H Q I h;rw[k];show Ts _ _ (X8 ((Th,Uc e X.env)::U7 pos (TF aA X.env))) _ _ s;refine QZ (aN (i a s b H _ I h) λu p q=>?_);obtain⟨x,c,f,n,l⟩:=q;exact aN (j pos a p b c _ f l) λr s2 ⟨xs,d,g,o,m⟩=>⟨x::xs,d,g,.cons n o,m⟩
def Me(t:dM):TE:=λb H Q=>t b H λxs a=>xs.length<=TH/\∀p,a p=Y->Q (.ref p) (upd a p (.tup xs))
def L1(t:dM):TE:=λb H Q=>t b H λxs a=>xs.length<=TH/\∀p,a p=Y->Q (.ref p) (upd a p (.lst xs))
def yy{x1}(h:dK X aA t):ai X (.Tuple aA x1 pos) (Me t):=by
 intro i s k H Q I g;refine wpAny_Tuple_spliced (aN (h pos i s k H _ I g) λj a ⟨xs,c,d,r,z,q⟩=>⟨by rw[<- r.length];exact z,?_⟩);have f:c a.heap.objs.size=none:=d.aJ.fresh (N2 _);refine⟨.ref a.heap.objs.size,upd c a.heap.objs.size (.tup xs),d.laid (t':=a.toks) (λb u e=>N1 _ e) (N2 _) ?_,rfl,q _ f⟩;exact⟨z,j,r,⟨_,N6 _ rfl,rfl,_,rfl⟩⟩
def tp(h:dK X aA t):ai X (.List aA pos) (L1 t):=by
 intro i s k H Q I g;refine wpAny_List_spliced (aN (h pos i s k H _ I g) λj a ⟨xs,c,d,r,z,q⟩=>⟨by rw[<- r.length];exact z,?_⟩);have f:c a.heap.objs.size=none:=d.aJ.fresh (N2 _);refine⟨.ref a.heap.objs.size,upd c a.heap.objs.size (.lst xs),d.laid (t':=a.toks) (λb u e=>N1 _ e) (N2 _) ?_,rfl,q _ f⟩;exact⟨z,j,0,r,N6 _ rfl⟩
end
noncomputable abbrev fY:=List V->ah->bK->gy->Prop
noncomputable abbrev ih:=List YA->ah->Tq->gy->Ti->Tq->Prop
structure nP(P:TV)(w:Ug)(K:W.Frag)(aj:Tz->Option Ti)(base:TU)(A:T3)(outer:List YA)(s:Tq)(H:ah):Prop where
 frames:A.frames=Z outer
 mod:Mod K aj base
 bs:∀b o,base.get? b=Z o->s.heap.get? b=Z o/\H b=Y
 iC:base.objs.size<=s.heap.objs.size
 fT:s.heap.FunFrames base outer
 jH:∀b∈dB outer,H b=Y
 aJ:cn P w H s.heap
 bare:Vt s.gens
def qf(outer:List YA)(P:TV)(w:Ug)(H:ah)(s:Tq)(Q:bK)(u:Ti)(s':Tq):Prop :=
 ∃v a,s'.os=s.os/\Vt s'.gens/\cX (dB outer) [] H a s.heap s'.heap/\cn P w a s'.heap/\RelV v u/\Q v a
def AX(CX:ih)(outer:List YA)(P:TV)(w:Ug)(H:ah)(s:Tq)(Q:bK)(E:gy)(r:Result)(s':Tq):Prop :=
 match r with
 |.ok (.ret u)=>qf outer P w H s Q u s'
 |.ok _=>False
 |.error e=>CX outer H s E e s'
structure gQ(P:TV)(w:Ug)(K:W.Frag)(aj:Tz->Option Ti)(base:TU)(CX:ih)(k:Nat)(f:Tu)(fd:Vl)(d8:List Tz)(sp:fY):Prop where
 len:∀fL H Q E,sp fL H Q E->fL.length=d8.length
 run:∀(A:T3)(outer:List YA)(s:Tq)(H:ah)(args:Args)(us:List Ti)(fL:List V)(Q:bK)(E:gy),ea k A->nP P w K aj base A outer s H->VX s fd args (d8.zip us)->Vals fL us->sp fL H Q E ->
  Vu (Tw P w) A (.call (.ref f) args) (AX CX outer P w H s Q E) s
section
variable{X:ao}{pins:List (Tu×UK)}{σ:St}{H:ah}{s s':Tq}
def Inv.DK(I:Inv X pins σ H s):nP X.prog X.w X.K X.aj X.base X.A X.stack s H :=
 ⟨I.ok.frames,I.ok.mod,I.bs,Ol I.ok.iC I.ef,I.stack,I.tY,I.aJ,I.bare⟩
def Inv.after(I:Inv X pins σ H s)(h:qf X.stack X.prog X.w H s Q u s'):cJ X pins σ Q u s':=by
 obtain⟨v,a,os,bare,un,aJ,r,q⟩:=h;obtain⟨c,g,d,t,e⟩:=s';obtain rfl:e=s.os:=os;exact⟨v,a,I.call (h':=c) (g':=g) (d':=d) (t':=t) (ch:=[]) un aJ bare (λb z=>absurd z (by simp)),r,q⟩
end
abbrev LS(sp:fY)(dvs:List V)(E:gy)(t:dM):TE:=λc H Q=>t c H λb a=>sp (b++dvs) a Q E
def Binds(K:W.Frag)(c:Vl)(b:List Tz)(ds:List Ti):Prop :=
 ∀(s:Tq)(a:List Ti),K.In s.heap->(a++ds).length=b.length->VX s c ⟨a,[]⟩ (b.zip (a++ds))
def Binds.all{K:W.Frag}(h:∀a:List Ti,a.length=c.length->bindArgs d ⟨a,[]⟩=pure (c.zip a)):Binds K d c []:=λs a _ b=>by
 rw[Pz]at b ⊢;exact .of_eq (h a b)
def Passes(CX:ih)(X:ao)(E:gy):Prop:=∀(a:List (Tu×UK))(b:St)(H:ah)(s:Tq)(e:Ti)(s':Tq),Inv X a b H s->CX X.stack H s E e s'->X.aV e s'
section
variable{X:ao}{CX:ih}{k:Nat}{f C:Tu}{fd:Vl}{d8:List Tz}{sp:fY}{dvs:List V}{ds:List Ti}{E:gy}{x m:Tz}{p pos apos:Vb}{e o:TG}{aA:List TG}{bI:TE}{t:dM}
def JZ{d:St}(F:gQ X.prog X.w X.K X.aj X.base CX k f fd d8 sp)(v:ea k X.A)(l:Binds X.K fd d8 ds)(n:Vals dvs ds)(w:Passes CX X E)(I:Inv X g d H s)(r:Vals c a)(h:sp (c++dvs) H Q E):Ts (Tw X.prog X.w) X.A (call (.ref f) a) (cJ X g d Q) X.aV s:=by
 have i:Vals (c++dvs) (a++ds):=r.append n;have q:(a++ds).length=d8.length:=by rw[<- i.length];exact F.len _ _ _ _ h
 refine wpAny_call (RQ (F.run X.A X.stack s H ⟨a,[]⟩ (a++ds) (c++dvs) Q E v I.DK (l s a I.dT q) i h) λr s' b=>?_);cases r with
 |error e=>exact w g d H s e s' I b
 |ok j =>
  cases j with
  |ret u=>exact I.after b
  |next=>exact UY b
  |brk=>exact UY b
  |cont=>exact UY b
def IC(F:gQ X.prog X.w X.K X.aj X.base CX k f fd d8 sp)(v:ea k X.A)(j:b9 X x)(n:X.aj x=Z (.ref f))(l:W.keepIn X.K (.ref f)=J)(c:Binds X.K fd d8 ds)(d:Vals dvs ds)(w:Passes CX X E)(b:dK X (e::aA) t)(g:(x==("__debug__":Tz))=false:=by decide)(i:TF (e::aA) X.env=(Th,Uc e X.env)::TF aA X.env:=by rfl)(u:(U7 pos (TF aA X.env)).any (·.1)=false:=by rfl):
  ai X (.Call (.Name x p) (e::aA) [] pos) (LS sp dvs E t):=by
 intro y s z H Q I h;refine PQ (oQ I j n ?_ g);refine PySem.W.callWith_K (h₀:=X.base) I.ok.mod.mC l (aN (b pos y s z H _ I h) λD B ⟨G,A,a,r,q⟩=>⟨a.dT,?_⟩) i u;exact JZ F v c d w a r q
structure ew(K:W.Frag)(C f:Tu):Prop where
 makes:PySem.W.makesIn K C=J
 init:PySem.W.findIn K (.ref C) "__init__"=Z (Z (.ref f))
 fn:PySem.W.isFn K (.ref f)=J
 oM:W.keepIn K (.ref C)=J
end
section
variable{X:ao}{CX:ih}{k:Nat}{f C:Tu}{fd:Vl}{d8 aX:List Tz}{sp:fY}{E:gy}{x m:Tz}{p pos apos NP:Vb}{e o:TG}{aA:List TG}{NQ:List Vv}{er bI:TE}{t tk:dM}{nm:Option Tz}
structure NC(K:W.Frag)(fd:Vl)(d8 aX:List Tz)(g:List Ti->List Ti->List Ti)(wK:List V->List V->List V):Prop where
 to:∀(s:Tq)(us ws:List Ti),K.In s.heap->(g us ws).length=d8.length->VX s fd ⟨us,aX.zip ws⟩ (d8.zip (g us ws))
 rel:∀{fL:List V}{us:List Ti}{zs:List V}{ws:List Ti},Vals fL us->Vals zs ws->Vals (wK fL zs) (g us ws)
variable{g:List Ti->List Ti->List Ti}{wK:List V->List V->List V}
end
structure qj(N P:List Tz)(sc:Ve):Prop where
 kind:sc.kind=.function
 co:sc.isCoroutine=Th
 gen:sc.isGenerator=Th
 eE:N.Nodup
 pre:N.take P.length=P
 par:∀x∈P,sc.names.lookup x=Z .local\/sc.names.lookup x=Z .cell
 HS:∀y∈sc.names,y.2≠.free
theorem u9{kindOf:Tz->Option US}:∀{a:List (Tz×Ti)}{m:Tz->Option Ti},(∀v,(x,v)∉a)->Yd kindOf a m x=m x
 |[],_,_=>rfl
 |(n,v)::r,m,h=>by
  unfold Yd;rw[u9 λw hw=>h w (Tp _ hw)]
  split
  .have:x≠n:=(by rintro rfl;exact h v To);simp[this]
  .rfl
theorem u6{kindOf:Tz->Option US}:∀{a:List (Tz×Ti)}{m:Tz->Option Ti},(∀v,(x,v)∉a)->Ye kindOf a m x=m x
 |[],_,_=>rfl
 |(n,v)::r,m,h=>by
  unfold Ye;rw[u6 λw hw=>h w (Tp _ hw)]
  split
  .rfl
  .have:x≠n:=(by rintro rfl;exact h v To);simp[this]
theorem u7{kindOf:Tz->Option US}:∀{P:List Tz}{a:List Ti}{i:Nat}{m:Tz->Option Ti},P.Nodup->P[i]?=Z x->a[i]?=Z v->kindOf x=Z .local ->
  Yd kindOf (P.zip a) m x=Z v
 |[],_,_,_,_,h,_,_=>by simp at h
 |_::_,[],_,_,_,_,h,_=>by simp at h
 |p::P,w::a,0,m,d,b,h2,c=>by
  simp at b h2;subst b;subst h2;show Yd kindOf ((p,w)::P.zip a) m p=_;unfold Yd;rw[u9 λv e=>(Pd.mp d).1 (Wb e).1,if_pos c];simp
 |p::P,w::a,i+1,m,d,b,h2,c=>by
  show Yd kindOf ((p,w)::P.zip a) m x=_;unfold Yd;exact u7 (i:=i) (Pd.mp d).2 ⇑b ⇑h2 c
theorem u5{kindOf:Tz->Option US}:∀{P:List Tz}{a:List Ti}{i:Nat}{m:Tz->Option Ti},P.Nodup->P[i]?=Z x->a[i]?=Z v->kindOf x≠Z .local ->
  Ye kindOf (P.zip a) m x=Z v
 |[],_,_,_,_,h,_,_=>by simp at h
 |_::_,[],_,_,_,_,h,_=>by simp at h
 |p::P,w::a,0,m,d,b,h2,c=>by
  simp at b h2;subst b;subst h2;show Ye kindOf ((p,w)::P.zip a) m p=_;unfold Ye;rw[u6 λv e=>(Pd.mp d).1 (Wb e).1,if_neg c];simp
 |p::P,w::a,i+1,m,d,b,h2,c=>by
  show Ye kindOf ((p,w)::P.zip a) m x=_;unfold Ye;exact u5 (i:=i) (Pd.mp d).2 ⇑b ⇑h2 c
abbrev start(N:List Tz)(a:List V):St:=a.map Z++TJ (N.length-a.length) Y
def iF(CX:ih)(P:TV)(w:Ug)(K:W.Frag)(aj:Tz->Option Ti)(base:TU)(N:List Tz)(b:Tz)(c:Ve)(f:Tu)(a:Ti)(A:T3)(outer:List YA)(s:Tq)(H:ah)(E:gy):ao where
 prog:=P
 w:=w
 K:=K
 aj:=aj
 base:=base
 A:=A.deeper (W3 b c s.heap.objs.size f a)
 N:=N
 dE:=s
 lG:=H
 env:=W3 b c s.heap.objs.size f a
 outer:=outer
 stack:=W3 b c s.heap.objs.size f a::outer
 ex:=[]
 calm:=J
 fn:=λ_=>J
 bP:=[]
 aV:=λe s'=>Ts (Tw P w) (A.deeper (W3 b c s.heap.objs.size f a)) (leaving (W3 b c s.heap.objs.size f a) e) (λ_ d=>CX outer H s E e d) (λg d=>CX outer H s E g d) s'
def vl{a:Ve}(h:a.names.lookup x=Z .cell):∃c,(cellsFrom n a.names []).lookup x=Z c:=by
 have q:=SJ a.names n [] (.inl h);exact QU.mp q
def Fy{K:W.Frag}(S:qj N j d)(Q:A.handled=Y)(e0:nP P w K I base A outer s H)(T:l.length=j.length)(r:Vals l M)(x:InCallC s s.heap.objs.size (Yd (W3 C d s.heap.objs.size f t).kindOf (j.zip M) λ_=>Y) (cellsFrom (s.heap.objs.size+1) d.names []) (Ye (W3 C d s.heap.objs.size f t).kindOf (j.zip M) λ_=>Y) s1):
  Inv (iF CX P w K I base N C d f t A outer s H E) [] (start N l) H s1:=by
 have U:j.length<=N.length:=by have:=O7 Vm S.pre;rw[O1]at this;lia
 obtain⟨o,tk,rfl,D⟩:=x.done;have B:∀b:Tu,b∉(iF CX P w K I base N C d f t A outer s H E).ex:=λb z=>absurd (show b∈([]:List Tu) from z) (by simp)
 refine⟨⟨e0.mod,S.kind,rfl,rfl,N2 _,λy z c o h2=>?_,λy g=>?_,λy c _ h=>?_,λ_=>Q,Around.frames_deeper e0.frames,.inr ⟨rfl,rfl⟩,λb z=>absurd z (B b),e0.bs,e0.iC,λb _ _=>B b,λb z=>absurd z (B b),e0.fT,e0.jH⟩,
  rfl,e0.bare,cX.kept D,⟨_,x.toInCall.ns,λi y v o h2 h3=>?_⟩,λy c h=>⟨_,x.cell y c h⟩,e0.aJ.fresh (N2 _),λy c h=>?_,λp m=>absurd (show p∈([]:List (Tu×UK)) from m) (by simp),e0.aJ.kept D,?_⟩
 .exact name_of_addr x.apart (O0 o) (O0 h2)
 .have g:d.names.lookup y=Z .cell\/d.names.lookup y=Z .free:=g;rcases g with g|g
  .exact vl g
  .exact absurd rfl (S.HS _ (O0 g))
 .exact OT (x.above y c (O0 h))
 .have hi:i<l.length:=by
   unfold start at h2
   by_cases hi:i<l.length
   .exact hi
   .rw[OP ⇑hi]at h2;rw[Qq]at h2
    split at h2<;>cases h2
  have O:l[i]?=Z v:=by
   unfold start at h2;rw[Oh ⇑hi,Ot]at h2;cases e:l[i]? with
   |none=>rw[e]at h2;cases h2
   |some a=>rw[e]at h2;cases h2;rfl
  obtain⟨u,G,R⟩:=r.get O;have m:j[i]?=Z y:=by
   rw[<- S.pre,VE ⋯];exact o
  have L:j.Nodup:=(by rw[<- S.pre];exact S.eE.sublist (List.take_sublist _ _));refine⟨u,R,?_⟩;rcases S.par y (O2 m) with k|k
  .exact .inl ⟨k,u7 L m G k⟩
  .obtain⟨c,e⟩:=vl (n:=s.heap.objs.size+1) k;refine .inr ⟨.inl k,c,e,?_⟩;have q:=x.cell y c e;rw[u5 L m G (by show d.names.lookup y≠_;rw[k];decide)]at q;exact q
 .exact e0.aJ.fresh (OT (x.above y c (O0 h)))
 .unfold start;show _=N.length;rw[N7,Tj,QF];lia
def EJ{K:W.Frag}{D bH G O h ct aw:Ti}(lk:K.lookup f=Z ⟨aw,b1,.func (W.fnOf name j ay body a D bH G O R h ct),b2⟩)(a0:W.codeIn K h j=J)(S:qj N z a)(M:∀c H Q E,sp c H Q E->c.length=z.length)(X:∀(A:T3)(outer:List YA)(s:Tq)(H:ah)(c:List V)(Q:bK)(E:gy),ea k (A.deeper (W3 j a s.heap.objs.size f h))->sp c H Q E ->
   ∃t,d4 (iF CX P w K p base N j a f h A outer s H E) body t/\t { aS:=λ_ d=>Q .az d,bt:=Q } (start N c) H):
  gQ P w K p base CX (k+1) f (W.fnOf name j ay body a D bH G O R h ct) z sp:=by
 refine⟨M,λA outer s H args aF c Q E m e0 U r L=>?_⟩;have a3:=M _ _ _ _ L;have C:K.In s.heap:=e0.mod.mC.keeps λb o e=>(e0.bs b o e).1
 have au:s.heap.NoLimit:=e0.mod.nolimit.keeps λb o e=>(e0.bs b o e).1
 have a2:∀y∈z.zip aF,a.names.lookup y.1=Z .local\/(a.names.lookup y.1=Z .cell/\((cellsFrom (s.heap.objs.size+1) a.names []).lookup y.1).isSome=J):=λ⟨n,v⟩ aq=>by
  rcases S.par n (Wb aq).1 with q|q
  .exact .inl q
  .exact .inr ⟨q,SJ _ _ _ (.inl q)⟩
 refine codeAny_call_function m.depth (C _ _ lk) rfl S.co S.gen rfl (PySem.W.codeRec_of C a0) (U _ _ _ _ ?_);refine wpAny_newFunctionEnv_cells S.kind a2 λenv a1 s1 x=>?_
 subst a1;refine⟨au.keeps x.toInCall.keep,codeAny_func ?_⟩;obtain⟨t,a5,a4⟩:=X A outer s H c Q E (m.deeper _) L;have I:Inv (iF CX P w K p base N j a f h A outer s H E) [] (start N c) H s1:=Fy S m.hd e0 a3 r x;refine O5 (a5 [] s1 (start N c) H _ I a4) (λT s' i=>?_) λe s' i=>i
 have fin:∀{l:St}{d:ah}{v:V}{u:Ti},Inv (iF CX P w K p base N j a f h A outer s H E) [] l d s'->RelV v u->Q v d->qf outer P w H s Q u s' :=
  λ{l d v u} g B q=>⟨v,d,g.os,g.bare,g.base,g.aJ,B,q⟩
 cases T with
 |ret u =>
  obtain⟨v,l,d,g,B,q⟩:=i;exact fin g B q
 |next =>
  obtain⟨l,d,g,q⟩:=i;exact fin (v:=V.az) (u:=Value.none) g rfl q
 |brk =>
  obtain⟨_,_,_,q⟩:=i;exact UY q
 |cont =>
  obtain⟨_,_,_,q⟩:=i;exact UY q
end aC
namespace aC
open PySem PySem.Spec PyProof.Rows
section
variable{X:ao}{x:Tz}{p pos:Vb}{e:TG}{aA:List TG}{t:dM}{id T:String}{r:List V->ah->bK->Prop}
abbrev z0(r:List V->ah->bK->Prop)(t:dM):TE:=λc H Q=>t c H λb a=>r b a Q
def mT(g:dv X (.builtin id) r)(k:b9 X x)(l:X.aj x=Y)(o:Ub x=Z (.builtin id))(f:dK X (e::aA) t)(m:x≠"__name__":=by decide)(i:(x==("__debug__":Tz))=false:=by decide)(j:TF (e::aA) X.env=(Th,Uc e X.env)::TF aA X.env:=by rfl)(n:(U7 pos (TF aA X.env)).any (·.1)=false:=by rfl):ai X (.Call (.Name x p) (e::aA) [] pos) (z0 r t):=by
 intro a s b H Q I h;refine PQ (gG I k l o ?_ m i);exact Rq (aN (f pos a s b H _ I h) λw v ⟨y,c,d,u,q⟩=>g a v b c y w Q d u q) j n
def yp(g:dv X (.type T) r)(k:b9 X x)(l:X.aj x=Y)(o:Ub x=Z (.type T))(f:dK X (e::aA) t)(m:x≠"__name__":=by decide)(i:(x==("__debug__":Tz))=false:=by decide)(j:TF (e::aA) X.env=(Th,Uc e X.env)::TF aA X.env:=by rfl)(n:(U7 pos (TF aA X.env)).any (·.1)=false:=by rfl):ai X (.Call (.Name x p) (e::aA) [] pos) (z0 r t):=by
 intro a s b H Q I h;refine PQ (gG I k l o ?_ m i);exact OU (aN (f pos a s b H _ I h) λw v ⟨y,c,d,u,q⟩=>g a v b c y w Q d u q) j n
end
end aC
namespace bx
open PySem PyProof.Rows
abbrev lexLt:List Int->List Int->Bool
 |[],[]=>Th
 |[],_::_=>J
 |_::_,[]=>Th
 |x::xs,y::ys=>if x=y then lexLt xs ys else decide (x<y)
def GR(x y)(xs ys):lexLt (x::xs) (y::ys)=if x=y then lexLt xs ys else decide (x<y):=rfl
def GV:lexLt [] []=false:=rfl
def GU(y)(ys):lexLt [] (y::ys)=true:=rfl
def GS(x)(xs):lexLt (x::xs) []=false:=rfl
def DL(A)(s)(a)(t)(c)(u):∃e,W4 A s (.int a t) (.int c u) e/\(e=J<->a=c) :=
 ⟨(a==c),SeqAt.EqAt.int_int a t c u,by simp⟩
def JP(A)(s)(a)(t)(c)(u)(prog)(w)(E)(Q)(h:Q (.bool (decide (a<c))) s):
  Ts (Tw prog w) A (richCompare .Lt (.int a t) (.int c u)) Q E s :=
 (PyProof.Rows.lt_int h:Ts (Tw prog w) A (TN .Lt (.int a t) (.int c u)) Q E s)
section
open PySem.SeqAt
open PySem.AutoSeq1 (wpAny_loadPart')
open PySem.MeetsSeq PySem.MeetsSeq2 PySem.MeetsSeq3
def MR(l b)(f i)(n X)(dd H)(a0 a1)(ns r)(hi:T1 f.toList ns)(D:T1 i.toList r):
  Meets (Uy.«tuple.__lt__» ⟨[.ref l,.ref b],[]⟩)
   (λ_ R s=>s.heap.get? l=Z { cls:=.type "tuple",dict:=dd,data:=.seq f n,slots:=a0 }/\s.heap.get? b=Z { cls:=.type "tuple",dict:=H,data:=.seq i X,slots:=a1 } /\
    R (.ok (.ret (.bool (lexLt ns r)))) s) :=
 .of_wp λprog w A R s h=>by
  obtain⟨o,g,d,tk,os⟩:=s;obtain⟨M,I,h⟩:=h;have a2:=Ss;have a3:f.size=ns.length:=(by rw[<- hi.length];simp);have a4:i.size=r.length:=by rw[<- D.length];simp
  wp_walk using wpAny_loadPart' M,wpAny_loadPart' I,Rr _ (λG b s'=>b.1=Y/\s'=⟨o,g,d,tk,os⟩/\∃(v ws:List Ti)(k j:List Int),G=v.zip ws /\
   T1 v k/\T1 ws j/\k.length+i.size=j.length+f.size/\R (.ok (.ret (.bool (lexLt k j)))) ⟨o,g,d,tk,os⟩) _
  case turn =>
   rintro⟨y,x⟩ G b s' ⟨z,rfl,v,ws,k,j,hz,B,p,m,hR⟩;cases B with
   |nil=>rw[List.zip_nil_left]at hz;cases hz
   |cons a t Q =>
    cases p with
    |nil=>rw[List.zip_nil_right]at hz;cases hz
    |cons c u S =>
     rw[W5]at hz;injection hz with V N;injection V with U T;subst U T;rw[GR]at hR;simp only[Tt]at m;obtain⟨e,L,C⟩:=DL A.in1 ⟨o,g,d,tk,os⟩ a t c u;refine NZ (L prog w _ _ ?_);cases e with
     |true =>
      rw[if_pos (C.mp rfl)]at hR
      wp_walk
      exact⟨rfl,rfl,_,_,_,_,N,Q,S,⋯,hR⟩
     |false =>
      rw[if_neg (λq=>absurd (C.mpr q) OL)]at hR;have O:=JP A.in1 ⟨o,g,d,tk,os⟩ a t c u prog w
      wp_walk using O
      exact⟨_,rfl,⇑hR⟩
  case fin =>
   rintro⟨b1,b2⟩ s' ⟨z,rfl,v,ws,k,j,hz,B,p,m,hR⟩;simp only at z;subst z;have E:lexLt k j=decide (f.size<i.size):=by
    cases B with
    |nil =>
     cases p with
     |nil =>
      simp only[TQ]at m;rw[GV];exact(decide_eq_false ⋯).symm
     |cons c u hw =>
      simp only[TQ,Tt]at m;rw[GU];exact(decide_eq_true ⋯).symm
    |cons a t E =>
     cases p with
     |nil =>
      simp only[TQ,Tt]at m;rw[GS];exact(decide_eq_false ⋯).symm
     |cons c u hw =>
      rw[W5]at hz;cases hz
   rw[E]at hR
   wp_walk
   exact⟨_,rfl,by simpa[Builtin.Tuple.tupleCompareSizes] using hR⟩
  case h =>
   exact⟨rfl,rfl,f.toList,i.toList,ns,r,rfl,hi,D,⋯,h⟩
end
section
variable{prog:TV}{w:Ug}{A:T3}{E:Ti->Tq->Prop}{s:Tq}
def xJ(q:Yb s.heap l j)(o:Yb s.heap b k)(hi:T1 j.toList ns)(p:T1 k.toList a)(r:A.units<UD)(h:Q (.bool (lexLt ns a)) s):Ts (Tw prog w) A (TN .Lt (.ref l) (.ref b)) Q E s:=by
 obtain⟨⟨y,dd,B,u⟩,g,c,n,e⟩:=id q;obtain⟨⟨z,m,data2,v⟩,i,d,t,f⟩:=id o;simp only at c e d f;subst c e d f;exact richCompare_meets_room (op:=.Lt) ⟨_,g,rfl⟩ ⟨_,i,rfl⟩ PySem.F.slot_tuple_lt PySem.F.entry_tuple_lt (PySem.F.args_tuple_lt_2 _ _) (MR l b j k n t dd m u v ns a hi p)
  ⟨g,i,show UA (lexLt ns a)≠Value.notImplemented/\Q (.bool (lexLt ns a)) s from⟨(λx=>nomatch x),h⟩⟩ r
def Cs(r:Yb s.heap t a.toArray)(q:Yb s.heap b ws.toArray)(k:a≠[])(p:ws=[]->Q (.ref t) s)(h2:ws≠[]->Q (.ref s.heap.objs.size) { s with heap:=s.heap.push { cls:=.type "tuple",data:=.seq (a++ws).toArray } })(hsz:a.length+ws.length<=TH):Ts (Tw prog w) A (Ur .Add (.ref t) (.ref b)) Q E s:=by
 obtain⟨⟨cls,dd,data,m⟩,c,g,n,i⟩:=id r;obtain⟨⟨u,f,data2,o⟩,d,h,l,j⟩:=id q;simp only at g i h j;subst g i h j;have e:a.toArray++ws.toArray=(a++ws).toArray:=by simp
 by_cases hw:ws=[]
 .exact SK ⟨_,c,rfl⟩ ⟨_,d,rfl⟩ Sz S4 Q6 Q1 (QV _ _)
   (tuple_addW1 t b a.toArray ws.toArray n l dd f m o ⇑k (by simp[hw])) ⟨c,d,p hw⟩
 .refine SK ⟨_,c,rfl⟩ ⟨_,d,rfl⟩ Sz S4 Q6 Q1 (QV _ _)
   (tuple_addW2 t b a.toArray ws.toArray n l dd f m o ⇑k ⇑hw (by rw[Oc,Oc];exact hsz)) ⟨c,d,?_⟩
  rw[e];exact h2 hw
abbrev aR(n d:Nat):Option Int->Nat
 |none=>d
 |some v=>if v<0 then(v+(n:Int)).toNat else min v.toNat n
def tJ(n d)(b:d<=n)(o):aR n d o<=n:=by
 cases o with
 |none=>exact b
 |some v =>
  show(if v<0 then(v+(n:Int)).toNat else min v.toNat n)<=n
  by_cases a:v<0
  .rw[if_pos a];lia
  .rw[if_neg a];exact P5 _ _
def vu(v)(n d:Nat):(if v<0 then max (v+(n:Int)) 0 else min v (n:Int))=((aR n d (Z v):Nat):Int):=by
 show(if v<0 then max (v+(n:Int)) 0 else min v (n:Int))=(((if v<0 then(v+(n:Int)).toNat else min v.toNat n):Nat):Int)
 by_cases a:v<0
 .simp only[if_pos a];lia
 .simp only[if_neg a];lia
def A6(lo hi)(n:Nat):U2 lo hi 1 (n:Int)=(((aR n 0 lo:Nat):Int),((aR n n hi:Nat):Int)):=by
 have a:¬((1:Int)<0):=by lia
 unfold U2;simp only[a,Ox];refine Prod.ext ?_ ?_
 .cases lo with
  |none=>rfl
  |some v=>exact vu v n 0
 .cases hi with
  |none=>rfl
  |some v=>exact vu v n n
def I8(i j:Nat):UL (i:Int) (j:Int) 1=j-i:=by
 unfold UL;have a:(1:Int)>0:=by lia
 simp only[a,O6,Int.ediv_one]
 split<;>lia
def zK(p:VY v o)(h:Q o s):Ts (Tw prog w) A (Builtin.Slice.slicePartIndex v) Q E s:=by
 cases p with
 |none=>exact slicePart_none h
 |int i t=>exact slicePart_int h
def zJ{lo hi:Option Int}{n:Nat}(e:s.heap.IsSliceOf i c d .none)(f:VY c lo)(g:VY d hi)(h:Q (((aR n 0 lo:Nat):Int),1,aR n n hi-aR n 0 lo) s):Ts (Tw prog w) A (Vx (.ref i) (pure (n:Int))) Q E s:=by
 obtain⟨os,b,j,a⟩:=id e;unfold Vx Builtin.Slice.sliceFields;refine NZ (NZ (OQ b a (x:=c) rfl (NZ (OQ b a (x:=d) rfl (NZ (OQ b a (x:=.none) rfl (Tg ?_)))))));refine NZ (slicePart_none ?_);show Ts _ _ (if ((1:Int)==0)=J then _ else _) _ _ s;rw[if_neg ∅];refine NZ (zK f (NZ (zK g (NZ (Tg ?_)))));show Ts _ _ (match U2 lo hi 1 (n:Int) with|(lo,hi)=>pure (lo,(1:Int),UL lo hi 1)) _ _ s;rw[A6 lo hi n];show Ts _ _ (pure (((aR n 0 lo:Nat):Int),(1:Int),UL ((aR n 0 lo:Nat):Int) ((aR n n hi:Nat):Int) 1)) _ _ s;rw[I8];exact Tg h
def I6(xs:Array Ti)(i k:Nat):((TB k).filterMap λ(m:Nat)=>xs[((i:Int)+(m:Int)*1).toNat]?).toArray=((xs.toList.drop i).take k).toArray:=by
 have e:(λ(m:Nat)=>xs[((i:Int)+(m:Int)*1).toNat]?)=λm=>xs[i+m]?:=by
  funext m;have:((i:Int)+(m:Int)*1).toNat=i+m:=⋯;rw[this]
 rw[e];have:=pick_run xs i k;rw[List.filterMap_map]at this;have e2:((λx=>xs[x]?) ∘ λx=>i+x)=λm=>xs[i+m]?:=rfl
 rw[e2]at this;rw[this]
def E0{lo hi:Option Int}(b:Yb s.heap t a)(d:s.heap.IsSliceOf e n o .none)(k:VY n lo)(l:VY o hi)(hw:¬(aR a.size 0 lo=0/\aR a.size a.size hi=a.size))(h:Q (.ref s.heap.objs.size) { s with heap:=s.heap.push { cls:=.type "tuple",data:=.seq ((a.toList.drop (aR a.size 0 lo)).take (aR a.size a.size hi-aR a.size 0 lo)).toArray } })(hsz:a.size<=TH):Ts (Tw prog w) A (Vi (.ref t) (.ref e)) Q E s:=by
 have c:sizeOk (.seq ((a.toList.drop (aR a.size 0 lo)).take (aR a.size a.size hi-aR a.size 0 lo)).toArray):=by
  show((a.toList.drop (aR a.size 0 lo)).take (aR a.size a.size hi-aR a.size 0 lo)).toArray.size<=TH;rw[Oc,O1,PC,Tn];exact Ol (P5 ..) (Ol (Qt ..) hsz)
 have r:aR a.size a.size hi<=a.size:=tJ _ _ (N2 _) hi;obtain⟨os,j,g,p⟩:=id d;have f:s.TypeIs (.ref e) "slice":=⟨os,j,g⟩;unfold Vi
 try with_reducible refine Pu ?_
 first|refine NZ (Tg ?_)|skip
 refine NZ (wpAny_sequenceKey b.typeIs ∅ ?_);refine NZ (OK (name:=Tf "__getitem__") b.typeIs O8
  (OM O8 b.typeIs WQ ?_ (args_tuple_getitem _ _)))
 show Ts _ _ (Vy (.ref t)>>=_) _ _ s;refine NZ (tupleItemsOf_ b ?_);refine NZ (Qu f ?_);rw[if_pos ∅];refine NZ (zJ d k l ?_);have i:¬((((aR a.size 0 lo:Nat):Int)==0&&(1:Int)==1&&(aR a.size a.size hi-aR a.size 0 lo)==a.size)=J):=by
  intro q;rw[N0,N0]at q;have u:((aR a.size 0 lo:Nat):Int)=0:=eq_of_beq q.1.1;have v:aR a.size a.size hi-aR a.size 0 lo=a.size:=eq_of_beq q.2;exact hw ⟨⋯,⋯⟩
 show Ts _ _ (if (((aR a.size 0 lo:Nat):Int)==0&&(1:Int)==1&&(aR a.size a.size hi-aR a.size 0 lo)==a.size)=J then _ else _) _ _ s;rw[if_neg i,I6]
 first
  |exact NZ (m:=Ut _) (OC (Tg ⟨_,rfl,Tg h⟩) c)
  |exact NZ (m:=Ut _) (OC (NZ (Tg (Tg ⟨_,rfl,Tg h⟩))) c)
  |exact NZ (NZ (m:=Ut _) (OC (Tg (Tg ⟨_,rfl,Tg h⟩)) c))
  |exact NZ (NZ (m:=Ut _) (OC (Tg ⟨_,rfl,Tg h⟩) c))
end
end bx
namespace aC
open PySem PySem.Spec PyProof.Rows
noncomputable abbrev hA:=St->ah->(Option Int->ah->Prop)->Prop
def gR(X:ao)(e:Option TG)(t:hA):Prop :=
 ∀(c:List (Tu×UK))(s:Tq)(a:St)(H:ah)(Q:Option Int->ah->Prop),Inv X c a H s->t a H Q ->
  Ts (Tw X.prog X.w) X.A (evalPart e X.env) (λu s'=>∃o b,Inv X c a b s'/\VY u o/\Q o b) X.aV s
abbrev L3:hA:=λ_ H Q=>Q Y H
abbrev L8(t:TE):hA:=λb H Q=>t b H λx a=>∃i,x=.int i/\Q (Z i) a
def intsAre_of:∀{a:List Ti},Vals (ns.map V.int) a->T1 a ns:=by
 induction ns with
 |nil=>intro a r;rw[Qv]at r;cases r;exact .nil
 |cons n ns b =>
  intro a r;rw[Tr]at r;cases r with
  |cons c d =>
   obtain⟨t,e⟩:=c;subst e;exact .cons n t (b d)
section
variable{X:ao}{e:TG}{er:TE}{lo hi:Option TG}{ia pS:hA}{pos p2:Vb}
def Jb:gR X Y L3:=by
 intro a s b H Q I h;rw[evalPart_none];exact Tg ⟨Y,H,I,.none,h⟩
def Jc(h:ai X e er):gR X (Z e) (L8 er):=by
 intro c s j H Q I hw;rw[evalPart_some];refine aN (h c s j H _ I hw) λu k g=>?_
 obtain⟨x,a,b,f,d⟩:=g;obtain⟨i,rfl,q⟩:=d;obtain⟨t,rfl⟩:=f;exact⟨Z i,a,b,.int i t,q⟩
def ko(X:ao)(r:V->Option Int->Option Int->ah->bK->Prop):Prop :=
 ∀(a:List (Tu×UK))(s:Tq)(f:St)(H:ah)(x:V)(v c d:Ti)(lo hi:Option Int)(b:Tu)(Q:bK),Inv X a f H s->RelV x v->s.heap.IsSliceOf b c d .none->VY c lo->VY d hi->r x lo hi H Q ->
  ∃T id,typeLookup (.type T) "__getitem__"=pure (Z (.builtin id))/\s.TypeIs v T/\Ts (Tw X.prog X.w) X.A (Vi v (.ref b)) (cJ X a f Q) X.aV s
def Mc(r:V->Option Int->Option Int->ah->bK->Prop)(er:TE)(ia pS:hA):TE:=λa H Q=>er a H λx b=>ia a b λl c=>pS a c λu d=>r x l u d Q
def IM(z:ko X r)(t:ai X e er)(y:gR X lo ia)(B:gR X hi pS):ai X (.Subscript e (.Slice lo hi Y p2) pos) (Mc r er ia pS):=by
 intro a s c H Q I h;refine Subscript_ (aN (t a s c H _ I h) λv N O=>?_);obtain⟨x,i,k,M,E⟩:=O;refine wpAny_Slice (aN (y a N c i _ k E) λd s2 ⟨l,j,m,C,G⟩=>aN (B a s2 c j _ m G) λf s3 ⟨u,g,n,D,L⟩=>?_);rw[evalPart_none];refine Tg ?_;have o:Inv X a c g { s3 with heap:=s3.heap.push { cls:=.type "slice",data:=.fields #[d,f,.none] } }:=n.kept (t':=s3.toks) λb R q=>N1 _ q
 obtain⟨T,id,p,A,w⟩:=z a { s3 with heap:=s3.heap.push { cls:=.type "slice",data:=.fields #[d,f,.none] } } c g x v d f l u s3.heap.objs.size Q o M (Heap.IsSliceOf.new ..) C D L;show Ts (Tw X.prog X.w) X.A (WX e (.Slice lo hi Y p2) v (.ref s3.heap.objs.size)) (cJ X a c Q) X.aV { s3 with heap:=s3.heap.push { cls:=.type "slice",data:=.fields #[d,f,.none] } };exact tail_any (ops:=[.ref s3.heap.objs.size,v]) A p w (by with_unfolding_all rfl)
def hE(xs:List V)(lo hi:Option Int):List V:=(xs.drop (bx.aR xs.length 0 lo)).take (bx.aR xs.length xs.length hi-bx.aR xs.length 0 lo)
def vE(xs)(lo hi):(hE xs lo hi).length<=xs.length:=by
 unfold hE;rw[O1,PC];lia
def JK(K:W.Frag):V->Option Int->Option Int->ah->bK->Prop:=λx lo hi H Q=>∃a xs,x=.ref a/\bT K H a xs /\
 ¬(bx.aR xs.length 0 lo=0/\bx.aR xs.length xs.length hi=xs.length)/\∀p,H p=Y->Q (.ref p) (upd H p (.tup (hE xs lo hi)))
def Lm:ko X (JK X.K):=by
 intro m s u H x v p t lo hi n Q I k f i j h;obtain⟨a,xs,rfl,g,hw,q⟩:=h;cases k;obtain⟨its,r,d,hz⟩:=I.tuple g;have c:its.toArray.size=xs.length:=by rw[Oc];exact r.length.symm
 refine⟨"tuple",_,O8.lookup,d.typeIs,?_⟩;refine bx.E0 d f i j (by rw[c];exact hw) ?_ (by rw[c];exact hz);rw[c];refine⟨.ref s.heap.objs.size,_,I.laid (t':=s.toks) (o:=.tup (hE xs lo hi)) (λb l q=>N1 _ q) (N2 _) ?_,rfl,q _ (I.aJ.fresh (N2 _))⟩;exact⟨Ol (vE xs lo hi) hz,_,(r.drop (bx.aR xs.length 0 lo)).take (bx.aR xs.length xs.length hi-bx.aR xs.length 0 lo),YC _ _⟩
def JG(K:W.Frag):fc:=λx y H Q=>∃a b ns c,x=.ref a/\y=.ref b/\bT K H a (ns.map V.int)/\bT K H b (c.map V.int)/\Q (.ag (bx.lexLt ns c)) H
def Ij(f:X.A.units<UD):bu X (TN .Lt) (JG X.K):=by
 intro o s p H x y v u Q I m n h;obtain⟨a,b,ns,ms,rfl,rfl,c,d,q⟩:=h;cases m;cases n;obtain⟨its,k,p1,_⟩:=I.tuple c;obtain⟨j,l,p2,_⟩:=I.tuple d;have g:T1 its.toArray.toList ns:=intsAre_of k;have i:T1 j.toArray.toList ms:=intsAre_of l;exact bx.xJ p1 p2 g i f ⟨.ag (bx.lexLt ns ms),H,I,rfl,q⟩
end
end aC
namespace aC
open PySem PySem.Spec PyProof.Rows
abbrev eo(n:Nat)(i:Int):Option Nat:=if 0<=i then(if i<n then Z i.toNat else Y) else if -(n:Int)<=i then Z (i+n).toNat else Y
def iB{α:Type}(xs:List α)(i:Int):Option α:=(eo xs.length i).bind λj=>xs[j]?
def xe(h:eo n i=Z j):seqIndex? i n=Z j/\j<n/\-(n:Int)<=i/\i<n:=by
 unfold eo at h
 by_cases h0:0<=i
 .rw[if_pos h0]at h
  by_cases a:i<n
  .rw[if_pos a]at h;have e:i.toNat=j:=OI h;exact⟨by rw[XR h0 a,e],⋯,⋯,a⟩
  .rw[if_neg a]at h;cases h
 .rw[if_neg h0]at h
  by_cases a:-(n:Int)<=i
  .rw[if_pos a]at h;have e:(i+n).toNat=j:=OI h;exact⟨by rw[Xg ⋯ a,e],⋯,a,⋯⟩
  .rw[if_neg a]at h;cases h
def qG{α:Type}{xs:List α}{v:α}(h:iB xs i=Z v):∃j,seqIndex? i xs.length=Z j/\xs[j]?=Z v/\j<xs.length/\-(xs.length:Int)<=i/\i<xs.length:=by
 unfold iB at h;cases e:eo xs.length i with
 |none=>rw[e]at h;cases h
 |some j =>
  rw[e]at h;obtain⟨a,h2,h3,h4⟩:=xe e;exact⟨j,a,h,h2,h3,h4⟩
def qw(b:TG):Prop:=∀o i,Wu b Th o i=operate [o,i] (Vi o i)
def ht(X:ao)(r:fc):Prop :=
 ∀(d b:TG)(a:List (Tu×UK))(s:Tq)(c:St)(H:ah)(x y:V)(v u:Ti)(Q:bK),Inv X a c H s->RelV x v->RelV y u->r x y H Q ->
  Wu b Th v u=operate [v,u] (Vi v u)->Ts (Tw X.prog X.w) X.A (WX d b v u) (cJ X a c Q) X.aV s
def lH(X:ao)(id:String)(r:V->List V->ah->bK->Prop):Prop :=
 ∀(a:List (Tu×UK))(s:Tq)(c:St)(H:ah)(x:V)(xs:List V)(v:Ti)(b:List Ti)(Q:bK),Inv X a c H s->RelV x v->Vals xs b->r x xs H Q ->
  Ts (Tw X.prog X.w) X.A (call (.builtin id) (v::b)) (cJ X a c Q) X.aV s
section
variable{X:ao}{a b:TG}{bI bJ:TE}{pos:Vb}
def ht.or(h:ht X r)(h':ht X k):ht X (λx y H Q=>r x y H Q\/k x y H Q):=by
 intro i g d s j H x y v u Q I e f q c;rcases q with q|q
 .exact h i g d s j H x y v u Q I e f q c
 .exact h' i g d s j H x y v u Q I e f q c
def yt(g:ht X r)(e:ai X a bI)(f:ai X b bJ)(i:qw b):ai X (.Subscript a b pos) (nx r bI bJ):=by
 intro j s m H Q I h;exact Subscript_ (rb e f I h λv u s2 x y c d k l q=>g a b j s2 m c x y v u Q d k l q (i _ _))
abbrev yP(K:W.Frag):fc:=λx y H Q=>∃p xs i v,x=.ref p/\y=.int i/\cb K H p xs/\iB xs i=Z v/\Q v H
abbrev yR(K:W.Frag):fc:=λx y H Q=>∃p xs i v,x=.ref p/\y=.int i/\bT K H p xs/\iB xs i=Z v/\Q v H
abbrev yQ:fc:=λx y H Q=>∃z i c,x=.str z/\y=.int i/\z.length<=TH/\iB z.cps.toList i=Z c/\Q (.str ⟨#[c]⟩) H
def FR:ht X (yP X.K):=by
 intro G E k s l H x y v u Q I B C h g;obtain⟨p,xs,i,z,rfl,rfl,o,m,q⟩:=h;cases B;obtain⟨t,rfl⟩:=C;obtain⟨its,r,e,hz⟩:=I.list o;obtain⟨j,c,h2,h3,h4,h5⟩:=qG m;obtain⟨w,f,A⟩:=r.get h2;have n:=r.length;have D:=kO;have fin:cJ X k l Q w s:=⟨z,H,I,A,q⟩
 by_cases h0:0<=i
 .have d:i.toNat=j:=by
   rw[XR h0 h5]at c;exact OI c
  exact item_listR e.isList h0 ⋯ (by rw[d];simpa using f) fin g
 .have d:(i+(its.toArray.size:Int)).toNat=j:=by
   rw[Xg ⋯ h4]at c;rw[Oc,<- n];exact OI c
  exact VZ (x:=w) e.isList.typeIs slot_list_getitem.lookup
   (wpAny_getItem_list_neg (Q:=λr s'=>r=w/\cJ X k l Q r s') e.isList ⋯ (by rw[Oc]<;>lia) ⋯ (by rw[d];simpa using f) ⟨rfl,fin⟩) g
def FV:ht X (yR X.K):=by
 intro E D c s e H x y v u Q I A B h n;obtain⟨p,xs,i,z,rfl,rfl,m,k,q⟩:=h;cases A;obtain⟨t,rfl⟩:=B;obtain⟨its,r,d,hz⟩:=I.tuple m;obtain⟨j,g,h2,h3,h4,h5⟩:=qG k;obtain⟨w,f,o⟩:=r.get h2;have l:=r.length;have C:=kO;have fin:cJ X c e Q w s:=⟨z,H,I,o,q⟩;exact VZ (x:=w) d.typeIs slot_tuple_getitem.lookup
  (getItem_tuple (j:=j) (Q:=λr s'=>r=w/\cJ X c e Q r s') d ⋯ ⋯ (by rw[Oc,<- l];exact g) ⇑f ⟨rfl,fin⟩) n
def FU:ht X yQ:=by
 intro p o n s r H x y v u Q I k l h g;obtain⟨z,i,c,rfl,rfl,hz,e,q⟩:=h;obtain⟨t,rfl⟩:=k;obtain⟨t',rfl⟩:=l;obtain⟨j,d,h2,h3,h4,h5⟩:=qG e;have f:z.cps.toList.length=z.length:=by simp[Str.length]
 rw[f]at d h4 h5;have m:=kO;exact tail_any (RX s z t) slot_str_getitem.lookup (getItem_str (c:=c) (by
  have e1:decide (i < -(2 ^ 63:Int))=false:=decide_eq_false ⋯;have e2:decide (i>=2 ^ 63)=false:=decide_eq_false ⋯;rw[e1,e2,Bool.or_false]) (by rw[d];simpa using h2) ⟨.str ⟨#[c]⟩,H,I.tok _,⟨_,rfl⟩,q⟩) g
def JF(K:W.Frag):fc:=λx y H Q=>yP K x y H Q\/yR K x y H Q\/yQ x y H Q
def xf:ht X (JF X.K):=FR.or (FV.or FU)
def G9(its:List Ti)(n j)(u):T4 (·.setIfInBounds j u) { cls:=.type "list",data:=.seq its.toArray n }={ cls:=.type "list",data:=.seq (its.set j u).toArray n }:=by
 simp[T4]
theorem Inv.lst{c:St}{H:ah}{s:Tq}{p:Tu}{xs:List V}(I:Inv X d c H s)(h:H p=Z (.lst xs)):
  ∃(its:List Ti)(n:Nat),Vals xs its/\s.heap.get? p=Z { cls:=.type "list",data:=.seq its.toArray n }/\xs.length<=sizeLine:=by
 obtain⟨z,its,n,r,e⟩:=I.aJ p _ h;exact⟨its,n,r,e,z⟩
def Inv.G2{g:St}{its its':List Ti}(I:Inv X k g H s)(h:H p=Z (.lst xs))(j:s.heap.get? p=Z { cls:=.type "list",data:=.seq its.toArray n })(c:f { cls:=.type "list",data:=.seq its.toArray n }={ cls:=.type "list",data:=.seq its'.toArray d })(r:Vals ys its')(hz:ys.length<=TH)(t):
  Inv X k g (upd H p (.lst ys)) { s with heap:=s.heap.update p f,toks:=t }:=by
 have e:(s.heap.update p f).get? p=Z { cls:=.type "list",data:=.seq its'.toArray d }:=by
  rw[OD f j (by rw[c]<;>rfl),c]
 refine I.write (x:=p) (e:=p) (by rw[h];trivial) (.inl rfl) (λb u i q=>(Oy _ _ (Pj i)).trans q) ⟨_,e⟩ ?_;exact⟨hz,its',d,r,e⟩
def JH:V->V->V->ah->(ah->Prop)->Prop:=λo i v H Q=>∃p xs k j,o=.ref p/\i=.int k/\H p=Z (.lst xs)/\eo xs.length k=Z j/\Q (upd H p (.lst (xs.set j v)))
def set_list:A0 X JH:=by
 intro w s A H o i v D C u Q I y x z h;obtain⟨p,xs,k,j,rfl,rfl,l,m,q⟩:=h;cases y;obtain⟨t,rfl⟩:=x;obtain⟨its,n,r,f,hz⟩:=I.lst l;obtain⟨c,h2,h3,h4⟩:=xe m;have e:=r.length;have B:=kO;have g:Inv X w A (upd H p (.lst (xs.set j v))) { s with heap:=s.heap.update p (T4 (·.setIfInBounds j u)) } :=
  I.G2 l f (G9 its n j u) (r.set z j) (by rw[PN];exact hz) s.toks
 by_cases h0:0<=k
 .have d:k.toNat=j:=by
   rw[XR h0 h4]at c;exact OI c
  exact PySem.W.ki_setAt f h0 ⋯ (by rw[Oc,<- e];exact h4) (by rw[d];exact⟨_,g,q⟩)
 .have d:(k+(its.toArray.size:Int)).toNat=j:=by
   rw[Xg ⋯ h3]at c;rw[Oc,<- e];exact OI c
  exact PySem.W.ki_setBack f ⋯ (by rw[Oc,<- e];exact h3) ⋯ (by rw[d];exact⟨_,g,q⟩)
def zH{i:Int}{n:Nat}(h:i<0):max 0 (min (i+↑n) ↑n)=((i+↑n).toNat:Int):=by
 rw[X0 ⋯,Int.max_comm,Int.toNat_eq_max]
def zI{i:Int}{n:Nat}(h:¬i<0):max 0 (min i ↑n)=((min i.toNat n:Nat):Int):=by
 obtain⟨k,rfl⟩:=SA (Int.not_lt.mp h);rw[Un];rcases Nat.le_total k n with q|q
 .rw[Pe q,X0 (Int.ofNat_le.mpr q)];exact XB (S8 _)
 .rw[SD q,Int.min_eq_right (Int.ofNat_le.mpr q)];exact XB (S8 _)
def Lo(lo hi)(n):(Va lo hi Y n).1=((bx.aR n 0 lo:Nat):Int)/\(Va lo hi Y n).2.1=((bx.aR n n hi:Nat):Int)/\(Va lo hi Y n).2.2=1:=by
 refine⟨?_,?_,rfl⟩
 .cases lo with
  |none=>simp[Va,bx.aR]
  |some i =>
   simp only[Va,bx.aR,XC,show(1:Int)>0 by decide,O6]
   by_cases h:i<0
   .simp only[h,O6]<;>first|exact zH h|lia
   .simp only[h,Ox]<;>first|exact zI h|lia
 .cases hi with
  |none=>simp[Va,bx.aR]
  |some i =>
   simp only[Va,bx.aR,XC,show(1:Int)>0 by decide,O6]
   by_cases h:i<0
   .simp only[h,O6]<;>first|exact zH h|lia
   .simp only[h,Ox]<;>first|exact zI h|lia
def Ln(its:List Ti)(lo hi):slicePick its.toArray lo hi Y=((its.drop (bx.aR its.length 0 lo)).take (bx.aR its.length its.length hi-bx.aR its.length 0 lo)).toArray:=by
 obtain⟨c,h2,h3⟩:=Lo lo hi its.toArray.size;unfold slicePick;rw[c,h2,h3];simp only[sliceRange_one,pick_run,Oc]<;>rfl
def JJ(K:W.Frag):V->Option Int->Option Int->ah->bK->Prop:=λx lo hi H Q=>∃a xs,x=.ref a/\cb K H a xs/\∀p,H p=Y->Q (.ref p) (upd H p (.lst (hE xs lo hi)))
def Lj:ko X (JJ X.K):=by
 intro l s t H x v n p lo hi m Q I j e g i h;obtain⟨a,xs,rfl,f,q⟩:=h;cases j;obtain⟨its,r,c,hz⟩:=I.list f;have d:=r.length;refine⟨"list",_,slot_list_getitem.lookup,c.isList.typeIs,?_⟩;refine wpAny_getItem_list_slice c.isList e g i .none (by simp) ?_ (by rw[Oc]<;>lia);rw[Ln,<- d];refine⟨.ref s.heap.objs.size,_,I.laid (t':=s.toks) (o:=.lst (hE xs lo hi)) (λb k q=>N1 _ q) (N2 _) ?_,rfl,q _ (I.aJ.fresh (N2 _))⟩;exact⟨Ol (vE xs lo hi) hz,_,0,(r.drop (bx.aR xs.length 0 lo)).take (bx.aR xs.length xs.length hi-bx.aR xs.length 0 lo),N6 _ rfl⟩
def ve:dv X (.builtin "len") (λxs H Q=>∃p ys,xs=[.ref p]/\(cb X.K H p ys\/bT X.K H p ys)/\Q (.int ys.length) H):=by
 intro j s l H xs k Q I r h;obtain⟨p,ys,rfl,c,q⟩:=h;obtain⟨u,rfl,g⟩:=vals1 r;cases g;have i:=kO;rcases c with c|c
 .obtain⟨its,f,e,hz⟩:=I.list c;have d:=f.length;exact Calls.call_len_list e.isList (by simp only[Oc]<;>lia) ⟨.int ys.length,H,I.tok _,⟨s.toks+1,by rw[Oc,d]⟩,q⟩
 .obtain⟨its,f,e,hz⟩:=I.tuple c;have d:=f.length;exact len_tuple e (by simp only[Oc]<;>lia) ⟨.int ys.length,H,I.tok _,⟨s.toks+1,by rw[Oc,d]⟩,q⟩
def Cq:dv X (.builtin "len") (λxs H Q=>∃z,xs=[.str z]/\z.length<=TH/\Q (.int z.length) H):=by
 intro d s f H xs e Q I r h;obtain⟨z,rfl,hz,q⟩:=h;obtain⟨u,rfl,t,rfl⟩:=vals1 r;have c:=kO;exact len_str ⋯ ⟨.int z.length,H,I.tok _,⟨_,rfl⟩,q⟩
def vf:dv X (.type "list") (λxs H Q=>∃p ys,xs=[.ref p]/\(cb X.K H p ys\/bT X.K H p ys)/\∀l,H l=Y->Q (.ref l) (upd H l (.lst ys))):=by
 intro w s y H xs z Q I r h;obtain⟨p,ys,rfl,f,q⟩:=h;obtain⟨u,rfl,x⟩:=vals1 r;cases x;have fin:∀(its:List Ti),Vals ys its->ys.length<=TH->∀(h':TU)(c:Nat),(∀b t,s.heap.get? b=Z t->h'.get? b=Z t) ->
   h'.get? s.heap.objs.size=Z { cls:=.type "list",dict:=Y,data:=.seq its.toArray c,slots:=#[] }->cJ X w y Q (.ref s.heap.objs.size) { s with heap:=h' }:=λits d hz h' c g e =>
  ⟨.ref s.heap.objs.size,_,I.laid (t':=s.toks) g (N2 _) (show bN X.prog X.w _ h' _ (.lst ys) from⟨hz,its,c,d,e⟩),rfl,q _ (I.aJ.fresh (N2 _))⟩
 rcases f with f|f
 .obtain⟨its,d,m,hz⟩:=I.list f;have v:=d.length;obtain⟨o,k,i,n,j⟩:=m.isList;exact call_list_seq p (.inl rfl) k i j (λh' c g e=>fin its d hz h' c g e) (by simp only[Oc]<;>lia)
 .obtain⟨its,d,m,hz⟩:=I.tuple f;have v:=d.length;obtain⟨o,k,i,n,j⟩:=m;exact call_list_seq p (.inr rfl) k i j (λh' c g e=>fin its d hz h' c g e) (by simp only[Oc]<;>lia)
def vh:dv X (.type "tuple") (λxs H Q=>∃p ys,xs=[.ref p]/\((cb X.K H p ys/\∀l,H l=Y->Q (.ref l) (upd H l (.tup ys)))\/(bT X.K H p ys/\Q (.ref p) H))):=by
 intro i s j H xs v Q I r h;obtain⟨p,ys,rfl,h⟩:=h;obtain⟨u,rfl,n⟩:=vals1 r;cases n;rcases h with⟨c,q⟩|⟨c,q⟩
 .obtain⟨its,f,d,hz⟩:=I.list c;have t:=f.length;refine call_tuple_list d.isList (λh' m=>?_) (by simp only[Oc]<;>lia);have g:Inv X i j H { s with heap:=h' }:=I.kept (t':=s.toks) m;have k:Inv X i j (upd H h'.objs.size (.tup ys)) { s with heap:=h'.push { cls:=.type "tuple",data:=.seq its.toArray } } :=
   g.laid (t':=s.toks) (λb o e=>N1 _ e) (N2 _) (show bN X.prog X.w _ _ _ (.tup ys) from⟨hz,its,f,YC _ _⟩)
  exact⟨.ref h'.objs.size,_,k,rfl,q _ (g.aJ.fresh (N2 _))⟩
 .obtain⟨its,f,d,hz⟩:=I.tuple c;exact call_tuple_same d ⟨.ref p,H,I,rfl,q⟩
def uf(K:W.Frag)(T:String)(x:V)(H:ah):Prop:=match x with
 |.str _=>T="str"
 |.int _=>T="int"
 |.ref p=>(T="list"/\∃xs,cb K H p xs)\/(T="tuple"/\∃o,K.lookup p=Z o/\o.cls=.type "tuple"/\o.dict=Y) \/
   (T="dict"/\((∃c,H p=Z (.bZ c))\/∃c,H p=Z (.cz c)))\/(T="set"/\∃S n,H p=Z (.set S n))
 |_=>False
def As{u:St}(I:Inv X w u H s)(r:RelV x v)(g:uf X.K T x H):
  s.TypeIs v T/\∀a,v=.ref a->∃j,s.heap.get? a=Z j/\j.dict=none:=by
 cases x with
 |str z =>
  obtain⟨t,rfl⟩:=r;cases (show T="str" from g);exact⟨RX s z t,λ_ e=>nomatch e⟩
 |int i =>
  obtain⟨t,rfl⟩:=r;cases (show T="int" from g);exact⟨typeIs_int s i t,λ_ e=>nomatch e⟩
 |ref p =>
  cases r;rcases g with⟨rfl,xs,m⟩|⟨rfl,o,d,l,h⟩|⟨rfl,d⟩|⟨rfl,S,n,d⟩
  .obtain⟨its,_,k,_⟩:=I.list m;refine⟨k.isList.typeIs,λa e=>?_⟩;cases e;obtain⟨o,n,e,c,h,_⟩:=k;exact⟨o,e,h⟩
  .refine⟨⟨o,I.dT p o d,l⟩,λa e=>?_⟩;cases e;exact⟨o,I.dT _ o d,h⟩
  .have z:∃o,s.heap.get? p=Z o/\o.ExactDict:=by
    rcases d with⟨q,d⟩|⟨q,d⟩
    .obtain⟨_,_,_,_,o,_,_,e,f,_⟩:=I.aJ p _ d;exact⟨o,e,f⟩
    .obtain⟨_,_,_,_,o,_,_,e,f,_⟩:=I.aJ p _ d;exact⟨o,e,f⟩
   obtain⟨o,e,f⟩:=z;refine⟨⟨o,e,f.1⟩,λa e2=>?_⟩;cases e2;exact⟨o,e,f.2.1⟩
  .obtain⟨o,_,_,_,e,f,_⟩:=I.aJ p _ d;refine⟨⟨o,e,f.1⟩,λa e2=>?_⟩;cases e2;exact⟨o,e,f.2.1⟩
 |_=>exact UY g
abbrev zZ(K:W.Frag)(T:String)(r:V->List V->ah->bK->Prop)(d:TE):TE:=λe H Q=>d e H λx c=>uf K T x c/\r x [] c Q
abbrev zY(K:W.Frag)(T:String)(r:V->List V->ah->bK->Prop)(f:TE)(t:dM):TE:=λd H Q=>f d H λx c=>uf K T x c/\t d c λxs e=>r x xs e Q
variable{o e:TG}{aA:List TG}{to:TE}{t:dM}{name:Tz}{apos dx:Vb}{T id:String}{r:V->List V->ah->bK->Prop}
def IB(q:PlainAttrs T)(y:Slot T name id)(p:VF (.builtin id)=pure (.type "method_descriptor"))(m:lH X id r)(n:ai X o to)(k:Vj o name X.env (Uc o X.env)=Uc o X.env:=by rfl)(l:(apos.endLine==dx.line)=true:=by rfl):ai X (.Call (.Attribute o name apos) [] [] dx) (zZ X.K T r to):=by
 intro d s g H Q I h;refine wpAny_Call_method0_late k l (aN (n d s g H _ I h) λv w A=>?_);obtain⟨x,i,c,f,z,u⟩:=A;obtain⟨j,h2⟩:=As c f z;exact⟨T,id,q,y,p,j,h2,V0 rfl (PySem.evalArgs_none (m d w g i x [] v [] Q c f .nil u))⟩
def mS(C:PlainAttrs T)(M:Slot T name id)(B:VF (.builtin id)=pure (.type "method_descriptor"))(w:lH X id r)(y:ai X o to)(n:dK X (e::aA) t)(p:Vj o name X.env (Uc o X.env)=Uc o X.env:=by rfl)(q:((U7 dx (TF (e::aA) X.env)).all (λx=>!x.1)&&(Yf dx (Wv [] X.env)).all (λx=>x.1.isSome)
   && decide ((e::aA).length+([]:List Vv).length+(if ([]:List Vv).isEmpty then 0 else 1)<30))=true:=by rfl)(u:(apos.endLine==dx.line)=true:=by rfl)(A:TF (e::aA) X.env=(Th,Uc e X.env)::TF aA X.env:=by rfl)(z:(U7 dx (TF aA X.env)).any (·.1)=false:=by rfl):
  ai X (.Call (.Attribute o name apos) (e::aA) [] dx) (zY X.K T r to t):=by
 intro c s d H Q I h;refine wpAny_Call_method_late p q u rfl (aN (y c s d H _ I h) λv L S=>?_);obtain⟨x,j,f,i,N,D⟩:=S;obtain⟨m,h2⟩:=As f i N;refine⟨T,id,C,M,B,m,h2,?_⟩;have g:=n dx c L d j _ f D;rw[A]at g ⊢;refine V0 (by show(Th||(U7 dx (TF aA X.env)).any (·.1))=Th;rw[z]<;>rfl) (Ww ?_);exact aN g λO s2 ⟨R,k,l,G,E⟩=>w c s2 d k x R v O Q l i G E
end
end aC
namespace aC
open PySem PySem.Spec PyProof.Rows
def qr(X:ao)(id:String)(r:V->List V->ah->bK->Prop):Prop :=
 ∀(a:List (Tu×UK))(s:Tq)(c:St)(H:ah)(x:V)(xs:List V)(v:Ti)(b:List Ti)(Q:bK),Inv X a c H s->RelV x v->Vals xs b->r x xs H Q ->
  Ts (Tw X.prog X.w) X.A (call (.builtin id) (v::b)) (cJ X a c Q) X.aV s
def Vals.one:∀{x:V}{a:List Ti},Vals [x] a->∃u,a=[u]/\RelV x u:=by
 intro x a h;cases h with
 |cons r h=>cases h;exact⟨_,rfl,r⟩
def Vals.zero:∀{a:List Ti},Vals [] a->a=[]
 |_,.nil=>rfl
theorem Vals.dropLast(h:Vals xs b):Vals xs.dropLast b.dropLast:=by
 induction h with
 |nil=>exact .nil
 |cons r t a =>
  cases t with
  |nil=>exact .nil
  |cons q t'=>exact .cons r a
theorem Vals.rep(h:Vals xs a):∀k:Nat,Vals (TJ k xs).flatten (TJ k a).flatten
 |0=>.nil
 |k+1=>by
  rw[PK,PK,Ud,Ud];exact Vals.append h (Vals.rep h k)
def DR{α:Type}(l:List α):l.eraseIdx (l.length-1)=l.dropLast:=by
 induction l with
 |nil=>rfl
 |cons a r c =>
  cases r with
  |nil=>rfl
  |cons b r =>
   have e:(a::b::r).length-1=((b::r).length-1)+1:=by
    have d:(a::b::r).length=r.length+2:=rfl;have h2:(b::r).length=r.length+1:=rfl;lia
   rw[e,VO,c]
   all_goals rfl
theorem foldl_rep(its):∀(k:Nat)(a:List Ti),
  Yg (λx1 b=>x1++b) a.toArray (TJ k its.toArray)=(a++(TJ k its).flatten).toArray
 |0,a=>by simp
 |k+1,a=>by
  have e:a.toArray++its.toArray=(a++its).toArray:=(by simp);have e2:(a++its)++(TJ k its).flatten=a++(TJ (k+1) its).flatten:=by
   rw[PK,Ud,Oe]
  rw[<- e2,<- foldl_rep its k (a++its),<- e,PK,Vp]
section
variable{X:ao}{pins:List (Tu×UK)}{σ:St}{H:ah}{s:Tq}{l b:Tu}{xs ys zs:List V}
def Inv.sR{its its':List Ti}(I:Inv X pins σ H s)(a:H l=Z (.lst xs))(e:s.heap.get? l=Z { cls:=.type "list",data:=.seq its.toArray n })(d:f its.toArray=its'.toArray)(h:Vals ys its')(hz:ys.length<=TH):
  Inv X pins σ (upd H l (.lst ys)) { s with heap:=s.heap.update l (T4 f),toks:=t' }:=by
 have q:=PySem.IsL.update e f;rw[d]at q;refine I.write (x:=l) (e:=l) (by rw[a];exact trivial) (.inl rfl) (λi u c g=>(Oy s.heap (T4 f) (Pj c)).trans g) ⟨_,q⟩ ?_;exact⟨hz,its',_,h,q⟩
def Inv.xG(I:Inv X pins σ H s)(a:Vals ys its)(hz:ys.length<=TH):
  Inv X pins σ (upd H s.heap.objs.size (.lst ys)) { s with heap:=s.heap.push { cls:=.type "list",data:=.seq its.toArray },toks:=t' } :=
 I.laid (λ_ _ q=>N1 _ q) (N2 _) ⟨hz,its,0,a,N6 _ rfl⟩
theorem Inv.fresh(I:Inv X pins σ H s):H s.heap.objs.size=none:=I.aJ.fresh (N2 _)
def Inv.sS(I:Inv X pins σ H s)(a:H l=Z (.lst xs)):xs.length<=TH/\∃(its:List Ti)(n:Nat),Vals xs its/\xs.length=its.length/\s.heap.get? l=Z { cls:=.type "list",data:=.seq its.toArray n }:=by
 obtain⟨z,its,n,r,e⟩:=I.aJ l _ a;exact⟨z,its,n,r,r.length,e⟩
def x7(h:n<=TH):UR n=false:=by
 unfold UR;exact decide_eq_false ⋯
end
section
variable{X:ao}
def JC:V->List V->ah->bK->Prop:=λx a H Q=>∃l xs y,x=.ref l/\a=[y]/\H l=Z (.lst xs)/\xs.length<TH/\Q .az (upd H l (.lst (xs++[y])))
def xV:qr X "list.append" JC:=by
 intro g s k H x j v i Q I d c h;obtain⟨l,xs,y,rfl,rfl,a,hz,q⟩:=h;cases d;obtain⟨u,rfl,b⟩:=c.one;obtain⟨z,its,n,r,f,e⟩:=I.sS a;refine Q0 F.slot_list_append ⟨_,e,rfl⟩ F.entry_list_append (F.args_list_append_2 _ _) (PySem.list_append l its.toArray n u (by rw[Oc];lia)) ⟨e,?_⟩;refine⟨.az,_,I.sR (its':=its++[u]) a e (by simp) (r.append (.cons b .nil)) ?_,rfl,q⟩;rw[N7,TS];lia
def yS:V->List V->ah->bK->Prop:=λx a H Q=>∃l xs y,x=.ref l/\a=[]/\H l=Z (.lst xs)/\xs[xs.length-1]?=Z y/\Q y (upd H l (.lst xs.dropLast))
def HA:qr X "list.pop" yS:=by
 intro m s t H x p v o Q I k j h;obtain⟨l,xs,y,rfl,rfl,a,f,q⟩:=h;cases k;have d:=j.zero;subst d;obtain⟨z,its,n,r,b,e⟩:=I.sS a;obtain⟨u,c,i⟩:=r.get f;have g:its.toArray[its.toArray.size-1]?=Z u:=by
  show its.toArray[its.length-1]?=Z u;rw[<- Oq,<- b];exact c
 refine Q0 F.slot_list_pop ⟨_,e,rfl⟩ F.entry_list_pop (F.args_list_pop_1 _) (MeetsSeq.list_pop_last l its.toArray n u g (by rw[Oc];lia)) ⟨e,?_⟩;refine⟨y,_,I.sR (its':=its.dropLast) a e ?_ r.dropLast ?_,i,q⟩
 .show its.toArray.eraseIdxIfInBounds (its.toArray.size-1)=its.dropLast.toArray;rw[Oc,List.eraseIdxIfInBounds_toArray,DR]
 .rw[List.length_dropLast];lia
def len_rep{α:Type}(xs:List α)(k):(TJ k xs).flatten.length=k*xs.length:=by
 induction k with
 |zero=>simp
 |succ k a=>rw[PK,Ud,N7,a,SM,Nat.add_comm]
end
end aC
namespace uB
open PySem PySem.W PySem.Calls PyProof.Rows
def Fx:∀(ns:List Int)(c:List Ti),WellAll P h c (ns.map WData.int)->T1 c ns:=by
 intro ns
 induction ns with
 |nil =>
  intro c w;rw[Qv]at w;cases w;exact .nil
 |cons n ns d =>
  intro c w;rw[Tr]at w;cases w with
  |cons a b =>
   cases a;exact .cons _ _ (d _ b)
def KY{l:OpenLaw}(j:l.most=Z n)(c:l.row.toRowW.claim.pre args=J)(o:WellAll P h s args):
  ∃a e ns,s=[TA a]/\args=[WData.list (ns.map WData.int)]/\h.get? a=Z { cls:=.type "list",data:=.seq e.toArray }/\T1 e ns/\ns.length<=n:=by
 have m:WShape.hasAll [] args [.list .int]=true:=(pre_splitW c).1;have b:l.pre.holds [] { args:=args }=true:=(pre_splitW c).2;obtain⟨d,r,rfl,f,h2⟩:=hasAllW_cons m;obtain rfl:=hasAllW_nil h2;obtain⟨xs,rfl,h3⟩:=hasW_list f;obtain⟨ns,rfl⟩:=items_int h3;have i:ns.length<=n:=by
  unfold OpenLaw.pre at b;have h4:(WTm.not (.lt (.lit (.int (n:Int))) (.len (.arg 0)))).holds [] { args:=[.list (ns.map .int)] }=true:=by
   have h4:=(holds_andW b).1;rw[j]at h4;exact h4
  have h5:=condW_of h4 (w_not (w_lt w_lit (w_len_list (w_arg rfl))));rw[Tj]at h5;refine SE λq=>?_
  have p:(n:Int)<((ns.length:Nat):Int):=by lia
  first
   |(rw[decide_eq_true p]at h5;exact absurd h5 ∅)
   |(simp at h5;lia)
 cases o with
 |cons t u =>
  cases u;cases t with
  |list k g=>exact⟨_,_,ns,rfl,rfl,k,Fx ns _ g,i⟩
def Jd(l:OpenLaw)(args):l.row.toRowW.claim.post args (.bool J) args=true :=
 postW_of (r:=l.row.toRowW) (X:=(J==J))
  (show WShape.has [] (.bool J) .bool=J by first|rfl|decide|simp[WShape.has,WShape.arms,WShape.armsAll])
  (show(WTm.eq .res (.lit (.bool J))).value [] { args:=args,res:=Z (.bool J),after:=args }=Z (.bool (J==J)) from w_eq_bool (w_res rfl) w_lit) rfl
def BP{l:OpenLaw}(H:l.most=Z n)(z:d.params.defaults=[])(call:∀(w:Ug)(m b:Tq)(h j:Tz->Option Ti)(e:Tu)(o:UK)(k g i:Ti)(a:Tu)(c:List Ti)(ns:List Int),
   Ground q T [] s w m h j b.heap->u w b.heap ->
   b.heap.get? e=Z o->o.data=.func (docDef d.name d.params d.body d.scope k g i)->b.heap.CodeRec g d.name->h d.name=Z (.ref e) ->
   b.heap.get? a=Z { cls:=.type "list",data:=.seq c.toArray }->T1 c ns->ns.length<=n->b.gens=#[] ->
   Vu (Tw l.prog w) V1 (.call (.ref e) ⟨[.ref a],[]⟩) (λr s'=>r=.ok (.ret (.bool J))/\OldK b.heap s'.heap/\s'.os=b.os/\Vt s'.gens) b):
  WalkO q T s u l.row.toRowW d [] (λf c=>PySem.call f c):=by
 intro w m b h j G t e o k g i v Q I y x p E A args a1 as M U a0 O V;obtain rfl:v=.none:=Dflts.none p z;obtain rfl:Q=.none:=Dflts.noKw p;obtain⟨a,c,ns,rfl,rfl,L,B,C⟩:=KY H M O;refine enter_call (RQ (call w m b h j e o k g i a c ns G t I (fd_plain y) x E L B C A) λr s' N=>?_);obtain⟨rfl,h2,h3,h4⟩:=N;exact⟨.inl ⟨.bool J,.bool J,[],rfl,λ_=>rfl,.bool J,Jd l _,λ_=>⟨VD,λ_ D=>(nomatch D)⟩⟩,h2,h3,h4⟩
end uB
namespace aC
open PySem PySem.Spec PyProof.Rows
theorem AE:∀{a:List Ti}{ns:List Int},T1 a ns->Vals (ns.map V.int) a
 |_,_,.nil=>.nil
 |_,_,.cons n t h=>.cons ⟨t,rfl⟩ (AE h)
def qu(H:ah):Prop:=∀b,H b=Y\/∃o xs,H b=Z (.cm o (.lst xs))
def GB{K:W.Frag}(A:K.In dF.heap)(M:dF.heap.Ns TC l)(c:dF.heap.Ns builtinsNs O)(a4:∀x:Tz,x≠"__name__"->O x=Ub x)(au:dF.heap.NoLimit)(aq:dF.gens=#[])(j:dF.heap.get? a=Z { cls:=.type "list",data:=.seq f.toArray })(hi:T1 f ns)(L:ns.length<=TH)(ay:ea k V1)(F:∀base:TU,K.In base->base.Ns TC l->gQ P w K l base CX k D T [x] sp)(a5:∀(s:Tq)(u:Ti),VX s T ⟨[u],[]⟩ [(x,u)])(aF:∀H:ah,qu H->cb K H a (ns.map V.int)->sp [.ref a] H (λv _=>v=.ag J) λ_ _ _=>False)(a0:∀H e s',CX [] H dF (λ_ _ _=>False) e s'->False):
  Vu (Tw P w) V1 (.call (.ref D) ⟨[.ref a],[]⟩) (λr s'=>r=.ok (.ret (.bool J))/\OldK dF.heap s'.heap/\s'.os=dF.os/\Vt s'.gens) dF:=by
 have Q:=AE hi;have b1:=hi.length;have C:∀H:ah,qu H->cb K H a (ns.map V.int)->cn P w H dF.heap->(∀b,H b≠Y->b=a)->(H a≠Y->K.lookup a=Y) ->
   Vu (Tw P w) V1 (.call (.ref D) ⟨[.ref a],[]⟩) (λr s'=>r=.ok (.ret (.bool J))/\OldK dF.heap s'.heap/\s'.os=dF.os/\Vt s'.gens) dF:=by
  intro H I a3 N E a1;have B:∀{b:Tu}{o:UK},dF.heap.get? b=Z o->H b=Y->(hM dF.heap H).get? b=Z o:=λe n=>Fc e n
  have a9:∀{b:Tu}{o:UK}{g:Array DictEntry}{gE:Nat},dF.heap.get? b=Z o->o.data=.dict g gE->H b=none:=λ{b o g gE} e d=>by
   cases q:H b with
   |none=>rfl
   |some u =>
    have t:b=a:=E b (by rw[q];simp);subst t;rw[j]at e;cases e;have d':Data.seq f.toArray _=Data.dict g gE:=d;cases d'
  have p:∀{b:Tu}{m:Tz->Option Ti},dF.heap.Ns b m->(hM dF.heap H).Ns b m:=λ{b m} ⟨o,g,gE,e,d,r⟩=>⟨o,g,gE,B e (a9 e d),d,r⟩;have G:K.In (hM dF.heap H):=λb o e=>B (A b o e) (by
   cases q:H b with
   |none=>rfl
   |some u =>
    have t:b=a:=E b (by rw[q];simp);subst t;rw[a1 (by rw[q];simp)]at e;cases e)
  have a2:Mod K l (hM dF.heap H):=⟨G,p M,⟨O,p c,a4⟩,let ⟨b2,X,h2⟩:=au;⟨b2,p X,h2⟩⟩;have e0:nP P w K l (hM dF.heap H) V1 [] dF H:=⟨rfl,a2,λb o e=>H5 e,SN (Fd _ _),trivial,λb c=>absurd (show b∈([]:List Tu) from c) (by simp),N,.of_eq aq⟩;refine RQ ((F _ G (p M)).run V1 [] dF H ⟨[.ref a],[]⟩ [.ref a] [.ref a] _ _ ay e0 (a5 dF (.ref a)) (.cons rfl .nil) (aF H I a3)) λr s' h=>?_
  cases r with
  |error e=>exact(a0 H e s' h).elim
  |ok U =>
   cases U with
   |next=>exact UY h
   |brk=>exact UY h
   |cont=>exact UY h
   |ret u =>
    obtain⟨v,bj,os,S,R,aw,a7,q⟩:=h;have bc:v=.ag true:=q;subst bc;obtain rfl:u=UA true:=a7;refine⟨rfl,OldK.of_keep λb o e=>?_,os,S⟩;cases q:H b with
    |none=>exact R.keep b o e q (by intro z;exact absurd (show b∈([]:List Tu) from z) (by simp)) (by simp)
    |some u =>
     rcases I b with z|⟨a6,xs,z⟩
     .rw[q]at z;cases z
     .have ba:=R.fS b a6 _ z;obtain⟨e1,_⟩:=N b _ z;obtain⟨e2,_⟩:=aw b _ ba;rw[e]at e1;cases e1;exact e2
 cases y:K.lookup a with
 |some o =>
  have e:=A a o y;rw[j]at e;cases e;refine C (λ_=>Y) (λ_=>.inl rfl) (.inr ⟨_,f.toArray,_,y,rfl,rfl,rfl,by rw[Oc,b1];exact L,⇑Q⟩) (λb u z=>by have i:(Y:Option eL)=Z u:=z;cases i) (λb z=>absurd rfl z) λz=>absurd rfl z
 |none =>
  refine C (λb=>if b=a then Z (.cm { cls:=.type "list",data:=.seq f.toArray } (.lst (ns.map V.int))) else Y) (λb=>?_) (.inl (.inr ⟨{ cls:=.type "list",data:=.seq f.toArray },if_pos rfl⟩)) (λb u z=>?_) (λb z=>?_) λ_=>y
  .by_cases c:b=a
   .exact .inr ⟨_,_,if_pos c⟩
   .exact .inl (if_neg c)
  .by_cases c:b=a
   .have i:=(if_pos c).symm.trans z;cases i;subst c;exact⟨j,by rw[Tj];exact L,f,_,Q,j⟩
   .have i:=(if_neg c).symm.trans z;cases i
  .by_cases c:b=a
   .exact c
   .exact absurd (if_neg c) z
end aC
namespace aC
open PySem PySem.Spec PyProof.Rows
noncomputable abbrev iu{K:W.Frag}(_:K.In h):W.Frag:=K
def Nm{l:PySem.W.OpenLaw}{K:Params->W.Frag}{CX:Ug->ih}{sp:Ug->fY}(M:l.most=Z n)(N:n<=TH)(D:d.params.defaults=[])(Q:ea k V1)(B:∀(w:Ug)(h:TU),r w h->(K w.params).In h)(F:∀(w:Ug)(b:Tz->Option Ti)(c:Tu)(h:TU),(K w.params).In h->h.Ns TC b->b d.name=Z (.ref c) ->
   ∃g:Vl,(∀(s:Tq)(u:Ti),VX s g ⟨[u],[]⟩ [(x,u)]) /\
    ∀base:TU,(K w.params).In base->base.Ns TC b->gQ l.prog w (K w.params) b base (CX w) k c g [x] (sp w))(R:∀(w:Ug)(H:ah)(a:Tu)(ns:List Int),ns.length<=n->qu H->cb (K w.params) H a (ns.map V.int)->sp w [.ref a] H (λv _=>v=.ag J) λ_ _ _=>False)(t:∀(w:Ug)(H:ah)(s:Tq)(e:Ti)(s':Tq),CX w [] H s (λ_ _ _=>False) e s'->False):
  PySem.W.WalkO q a3 T r l.row.toRowW d [] (λf m=>PySem.call f m):=by
 refine uB.BP M D λw aq S b a4 c o a5 U X a m ns G p a2 a1 a0 L O I j E=>?_
 have i:=B w _ p;obtain⟨g,C,y⟩:=F w b c _ i G.T.g L;exact GB i G.T.g G.T.b G.T.builtins G.T.nolimit E O I (Ol j N) Q y C (λH z A=>R w H a ns j z A) λH e s'=>t w H S e s'
end aC
namespace aC
open PySem PySem.Spec PyProof.Rows
abbrev eV(s:Ui):Arguments:=match s with
 |.FunctionDef _ a _ _ _ _ _ _ _ _=>a
 |_=>{ posonlyargs:=[],args:=[],vararg:=Y,kwonlyargs:=[],kw_defaults:=[],kwarg:=Y,defaults:=[] }
abbrev hG(s:Ui):List Stmt:=match s with
 |.FunctionDef _ _ b _ _ _ _ _ _ _=>b
 |_=>[]
abbrev eW(s:Ui):Scope:=match s with
 |.FunctionDef _ _ _ _ _ _ a _ _ _=>a
 |_=>{ kind:=.function,names:=[],isGenerator:=Th,isCoroutine:=Th }
structure lE(K:W.Frag)(x qual:Tz)(st:Ui)(f:Tu)(fd:Vl):Prop where
 ex:∃(H2:Ti)(ep:Option Tu)(bH doc pm:Ti)(an:Option Tu)(vk ct:Ti)(Ir:Array (Option Ti)),
  fd=W.fnOf x qual (eV st) (hG st) (eW st) .none bH doc pm an vk ct/\K.lookup f=Z ⟨H2,ep,.func fd,Ir⟩/\W.codeIn K vk qual=J
 oM:W.keepIn K (.ref f)=J
section
variable{P:TV}{w:Ug}{K:W.Frag}{aj:Tz->Option Ti}{base:TU}
def lE.binds{st:Ui}(F:lE K x j st f i)(h:∀(bH c d:Ti)(a:Option Tu)(b ct:Ti)(e:List Ti),e.length=g.length->bindArgs (W.fnOf x j (eV st) (hG st) (eW st) .none bH c d a b ct) ⟨e,[]⟩=pure (g.zip e)):Binds K i g []:=by
 obtain⟨l,m,bH,c,d,a,b,ct,n,rfl,lk,k⟩:=F.ex;exact .all (h bH c d a b ct)
def wG{st:Ui}{bH b d a ct:Ti}(l:K.lookup f=Z ⟨h,i,.func (W.fnOf x e (eV st) (hG st) (eW st) .none bH b d g a ct),j⟩)(c:W.codeIn K a e=J)(k:W.keepIn K (.ref f)=J):lE K x e st f (W.fnOf x e (eV st) (hG st) (eW st) .none bH b d g a ct):=⟨⟨h,i,bH,b,d,g,a,ct,j,rfl,l,c⟩,k⟩
end
def aD(H a:ah):Prop:=∀b o,H b=Z o->a b=Z o
def aD.refl(H):aD H H:=λ_ _ h=>h
def aD.trans(a:aD H d)(b:aD d eK):aD H eK:=λc o h=>b c o (a c o h)
def aD.free(e:aD H a)(h:a l=Option.none):H l=Option.none:=by
 cases q:H l with
 |none=>rfl
 |some o =>
  rw[e l o q]at h;cases h
end aC
end
section
namespace aC
open PySem PySem.Spec PyProof.Rows
section
variable{κ:Type}[DecidableEq κ]
abbrev fJ(b:List (κ×V))(k:κ):Option V:=(b.find? λa=>decide (a.1=k)).map (·.2)
abbrev putK(b:List (κ×V))(k:κ)(v:V):List (κ×V) :=
 if (b.any λa=>decide (a.1=k))=J then b.map (λa=>if a.1=k then(a.1,v) else a) else b++[(k,v)]
def uw{k:κ}(e:p.1=k):fJ (p::r) k=Z p.2:=by simp[fJ,Up,e]
def uv{k:κ}(e:¬p.1=k):fJ (p::r) k=fJ r k:=by simp[fJ,Up,e]
theorem AD(k):∀a:List (κ×V),(a.any λb=>decide (b.1=k))=(fJ a k).isSome
 |[]=>rfl
 |p::r=>by
  rw[Uu]
  by_cases e:p.1=k
  .simp only[uw e,decide_eq_true e,Bool.true_or,W6]
  .rw[uv e,decide_eq_false e,Bool.false_or];exact AD k r
def sM(a)(k:κ)(v):(putK a k v).length<=a.length+1:=by
 unfold putK
 split
 .rw[Tj];lia
 .rw[N7,Tt,TQ];lia
def gw.Fz(r:gw o u):o.isSome=u.isSome:=by
 cases o with
 |none=>cases u with
  |none=>rfl
  |some _=>exact(show False from r).elim
 |some _=>cases u with
  |none=>exact(show False from r).elim
  |some _=>rfl
def c3.val(r:c3 f g)(k:κ):gw (fJ f k) (WM g k):=by
 unfold c3 at r
 induction r with
 |nil=>exact True.intro
 |@cons p q i qs h t d =>
  obtain⟨c,h2⟩:=h
  by_cases e:p.1=k
  .have a:q.1=k:=c.symm.trans e;have b:WM (q::qs) k=Z q.2:=(by simp[WM,Up,a]);rw[uw e,b];exact h2
  .have a:¬q.1=k:=λz=>e (c.trans z)
   have b:WM (q::qs) k=WM qs k:=(by simp[WM,Up,a]);rw[uv e,b];exact d
theorem c3.any(r:c3 c d)(k:κ):(c.any λa=>decide (a.1=k))=d.any λa=>decide (a.1=k):=by
 unfold c3 at r
 induction r with
 |nil=>rfl
 |cons h t b=>rw[Uu,Uu,b,h.1]
def c3.tD(r:c3 d g)(k:κ)(f:RelV y u):
  c3 (d.map λa=>if a.1=k then(a.1,y) else a) (g.map λa=>if a.1=k then(a.1,u) else a):=by
 unfold c3 at r ⊢
 induction r with
 |nil=>exact .nil
 |@cons p q i qs h t c =>
  rw[Tr,Tr];refine .cons ?_ c;obtain⟨b,h2⟩:=h
  by_cases e:p.1=k
  .rw[if_pos e,if_pos (b.symm.trans e)];exact⟨b,f⟩
  .rw[if_neg e,if_neg (λz=>e (b.trans z))];exact⟨b,h2⟩
def c3.put(r:c3 d b)(k:κ)(a:RelV y u):c3 (putK d k y) (Yh b k u):=by
 unfold putK Yh;rw[r.any k]
 by_cases e:(b.any λc=>decide (c.1=k))=J
 .rw[if_pos e,if_pos e];exact r.tD k a
 .rw[if_neg e,if_neg e];exact Paired.snoc r ⟨rfl,a⟩
theorem c3.length{a:List (κ×V)}(r:c3 a b):a.length=b.length:=S3 r
end
def oL(r:RelV (bH k) u):(e9 P w).is k u=true:=by
 cases k with
 |inl i=>obtain⟨t,e⟩:=(show ∃t,u=Uj i t from r);subst e;exact Hr P w i t
 |inr x=>obtain⟨t,e⟩:=(show ∃t,u=Value.str x t from r);subst e;exact Hs P w x t
theorem mz:∀{a:List Key}{b:List Ti},Vals (a.map bH) b->ItemsAre (e9 P w) a b
 |[],_,r=>by rw[Qv]at r;cases r;exact .nil
 |k::a,_,r=>by
  rw[Tr]at r;cases r with
  |cons h t=>exact .cons (oL h) (mz t)
noncomputable abbrev KT(H:ah):List (List Key×V)->List (List Key×Tu×Ti)->Prop:=Paired λp q=>p.1=q.1/\H q.2.1=Z (.tup (p.1.map bH))/\RelV p.2 q.2.2
def KT.val(r:KT H f xs)(k):gw (fJ f k) ((XS xs k).map (·.2)):=by
 induction r with
 |nil=>exact True.intro
 |@cons p q g qs h t d =>
  obtain⟨c,_,h2⟩:=h
  by_cases e:p.1=k
  .have a:q.1=k:=c.symm.trans e;have b:XS (q::qs) k=Z q.2:=(by simp[XS,Up,a]);rw[uw e,b];exact h2
  .have a:¬q.1=k:=λz=>e (c.trans z)
   have b:XS (q::qs) k=XS qs k:=(by simp[XS,Up,a]);rw[uv e,b];exact d
def KT.tD(r:KT H d xs)(k)(f:RelV y u):
  KT H (d.map λb=>if b.1=k then(b.1,y) else b) (xs.map (putAt k u)):=by
 induction r with
 |nil=>exact .nil
 |@cons p q g qs h t c =>
  rw[Tr,Tr];refine .cons ?_ c;obtain⟨a,h2,h3⟩:=h;unfold putAt
  by_cases e:p.1=k
  .rw[if_pos e,if_pos (a.symm.trans e)];exact⟨a,h2,f⟩
  .rw[if_neg e,if_neg (λz=>e (a.trans z))];exact⟨a,h2,h3⟩
def KT.put(r:KT H a xs)(k)(d:H b=Z (.tup (k.map bH)))(c:RelV y u):
  KT H (putK a k y) (storedH xs k b u):=by
 have e:(a.any λf=>decide (f.1=k))=(XS xs k).isSome:=by
  rw[AD,(r.val k).Fz,Xh]
 unfold putK storedH;rw[e]
 by_cases q:(XS xs k).isSome=J
 .rw[if_pos q,if_pos q];exact r.tD k c
 .rw[if_neg q,if_neg q];exact Paired.snoc r ⟨rfl,d,c⟩
def KT.keeps(r:KT H d xs)(c:∀b ys,H b=Z (.tup ys)->a b=Z (.tup ys)):KT a d xs :=
 Paired.sU r λ_ _ z=>⟨z.1,c _ _ z.2.1,z.2.2⟩
section
variable{P:TV}{w:Ug}{H:ah}{h:TU}{a:Tu}
def yX(b:cn P w H h)(e:fe H a u):bN P w H h a u:=e.ok b
def rM(c:cn P w H h)(e:fe H a (.bZ b)):b.length<=TH/\(a==UH)=Th/\∃fL,c3 b fL/\h.DictOf (e9 P w) a fL :=
 show bN P w H h a (.bZ b) from yX c e
def vM(c:cn P w H h)(e:H a=Z (.bZ b)):b.length<=TH/\(a==UH)=Th/\∃fL,c3 b fL/\h.DictOf (e9 P w) a fL:=rM c (.inl e)
def sI(d:cn P w H h)(e:H a=Z (.tup (b.map bH))):(WJ (e9 P w)).is h b a:=by
 obtain⟨_,its,r,o,c,h2,n,h3⟩:=(show bN P w H h a (.tup (b.map bH)) from d a _ e);exact⟨o,its.toArray,n,c,h2,h3,by simpa using mz r⟩
def rR(f:cn P w H h)(e:fe H a (.cz c)):c.length<=TH/\(a==UH)=Th /\
  ∃xs,KT H c xs/\h.DictOfH (WJ (e9 P w)) a xs:=by
 obtain⟨z,y,xs,r,o,i,g,j,h2,h3,h4,h5⟩:=(show bN P w H h a (.cz c) from yX f e);refine⟨z,y,xs,r,o,i,g,j,h2,h3,h4,λx b=>?_,h5⟩;have all:∀{l:List (List Key×V)}{m:List (List Key×Tu×Ti)},KT H l m->∀x∈m,(WJ (e9 P w)).is h x.1 x.2.1:=by
  intro l m q
  induction q with
  |nil=>intro x b;exact nomatch b
  |@cons p q n qs d t k =>
   intro x b;rcases N3.mp b with e|b
   .subst e;exact sI f (by rw[<- d.1];exact d.2.1)
   .exact k x b
 exact all r x b
def Dx(c:cn P w H h)(e:H a=Z (.cz b)):b.length<=TH/\(a==UH)=Th /\
  ∃xs,KT H b xs/\h.DictOfH (WJ (e9 P w)) a xs:=rR c (.inl e)
end
def qi(H:ah)(a:Tu)(y:V)(r:Option V):Prop :=
 (∃c k,fe H a (.bZ c)/\y=bH k/\r=fJ c k)\/∃c k b,fe H a (.cz c)/\y=.ref b/\H b=Z (.tup (k.map bH))/\r=fJ c k
def gv(H:ah)(a:Tu)(y v:V)(d:ah):Prop :=
 (∃c k,H a=Z (.bZ c)/\y=bH k/\c.length<TH/\d=upd H a (.bZ (putK c k v))) \/
 ∃c k b,H a=Z (.cz c)/\y=.ref b/\H b=Z (.tup (k.map bH))/\c.length<TH/\d=upd H a (.cz (putK c k v))
theorem gv.k{k:Key}(e:H a=Z (.bZ b))(c:b.length<TH):gv H a (bH k) v (upd H a (.bZ (putK b k v))):=.inl ⟨b,k,e,rfl,c,rfl⟩
def gv.t{k:List Key}(e:H a=Z (.cz c))(d:H b=Z (.tup (k.map bH)))(f:c.length<TH):
  gv H a (.ref b) v (upd H a (.cz (putK c k v))):=.inr ⟨c,k,b,e,rfl,d,f,rfl⟩
section
variable{X:ao}{pins:List (Tu×UK)}{σ:St}{H:ah}{s:Tq}{a:Tu}{y v:V}{u r:Ti}{o:Option V}{A:T3}{E:Ti->Tq->Prop}
def Inv.big(I:Inv X pins σ H s):UH<s.heap.objs.size:=by
 have h:TC<s.heap.objs.size:=(I.mod.glob.keeps I.eU).lt;exact O3 ∅ h
def Di(w:A.units+1<UD)(I:Inv X pins σ H s)(g:qi H a y (Z v))(j:RelV y u)(h:∀c s',Inv X pins σ H s'->RelV v c->Q c s'):
  Ts (Tw X.prog X.w) A (Vi (.ref a) u) Q E s:=by
 rcases g with⟨x,k,e,d,l⟩|⟨x,k,b,e,d,m,l⟩
 .subst d;obtain⟨z,n,B,f,dd⟩:=rM I.aJ e;obtain⟨c,hw,i⟩:=gw.some_of (v:=v) (o:=WM B k) (by rw[l];exact f.val k);exact wpAny_getItem_of (oL j) dd.mapOf hw (h c _ (I.tok _) i)
 .subst d;cases (show u=TA b from j);obtain⟨z,n,xs,f,dd⟩:=rR I.aJ e;obtain⟨c,hw,i⟩:=gw.some_of (v:=v) (o:=(XS xs k).map (·.2)) (by rw[l];exact f.val k);obtain⟨p,q,t⟩:=Option.map_eq_some_iff.mp hw;refine wpAny_getItem_heap (tupleKind_room_in1 w) (sI I.aJ m) dd q ?_;rw[t];exact h c _ (I.tok _) i
def rG(I:Inv X pins σ H s)(h:lI (H a))(g:TZ a s.heap h')(f:∃q,h'.get? a=Z q)(i:bN X.prog X.w (upd H a c) h' a c):
  Inv X pins σ (upd H a c) { s with heap:=h',toks:=t' } :=
 I.write (x:=a) (e:=a) h (.inl rfl) (λb q d z=>(g.2 b d).trans z) f i
def vL(z:b.length<=TH)(d:(a==UH)=Th)(e:c3 b c)(dd:h'.DictOf (e9 P w) a c):
  bN P w f h' a (.bZ b):=⟨z,d,c,e,dd⟩
def Dl(O:A.units+1<UD)(I:Inv X pins σ H s)(g:gv H a y v G)(D:RelV y u)(C:RelV v r)(h:∀s',Inv X pins σ G s'->Q () s'):
  Ts (Tw X.prog X.w) A (setItem (.ref a) u r) Q E s:=by
 rcases g with⟨d,k,e,n,l,m⟩|⟨d,k,b,e,n,x,l,m⟩
 .subst n m;obtain⟨z,p,R,f,dd⟩:=vM I.aJ e;have hz:R.length<=sizeLine:=(by rw[<- f.length];exact z);have t:(putK d k v).length<=sizeLine:=(by have:=sM d k v;lia);refine wpAny_setItem_pairs (hsz:=hz) (oL D) dd λh' i w=>h _ ?_
  have N:∃q,h'.get? a=Z q:=let ⟨q,_,_,j,_⟩:=i;⟨q,j⟩
  exact rG I (by rw[e];exact True.intro) w N (vL t p (f.put k C) i)
 .subst n m;cases (show u=TA b from D);obtain⟨z,p,xs,f,dd⟩:=Dx I.aJ e;have hz:xs.length<=sizeLine:=(by rw[<- S3 f];exact z);have t:(putK d k v).length<=sizeLine:=(by have:=sM d k v;lia);refine wpAny_setItem_heap (hsz:=hz) (tupleKind_room_in1 O) (sI I.aJ x) dd λh' i w=>h _ ?_
  obtain⟨q,M,L,j,h2,h3,h4,_,h5⟩:=i;refine rG I (by rw[e];exact True.intro) w ⟨q,j⟩ ⟨t,p,_,(f.put k x C).keeps λc ys B=>?_,q,M,L,j,h2,h3,h4,h5⟩;rw[aZ (HJ B e (λz=>nomatch z))];exact B
end
def uI(i:TG):Prop:=∀b a,Wu i Th b a=operate [b,a] (Vi b a)
def LN{T id:String}(g:typeLookup (.type T) "__getitem__"=pure (Z (.builtin id)))(j:uI b)(h:Ts (Tw prog w) A (Uc f env) (λo d=>Ts (Tw prog w) A (Uc b env) (λi pN=>pN.TypeIs o T/\Ts (Tw prog w) A (Vi o i) Q E pN) E d) E s):
  Ts (Tw prog w) A (Uc (.Subscript f b pos) env) Q E s:=by
 refine Subscript_ (O5 h (λo d k=>O5 k (λi pN a=>?_) λ_ _ x=>x) λ_ _ x=>x);obtain⟨c,a⟩:=a;unfold WX;refine NZ ?_;rw[getitemInPython_of_ne c.not_modules];refine NZ (SP c g ?_);have fin:Ts (Tw prog w) A (Wu b Th o i) (λr e=>Ts (Tw prog w) A (letTemporaryGo f o r>>=λ_=>pure r) Q E e) E pN:=by
  rw[j o i];exact wpAny_operating (O5 a (λr e l=>NZ (wpAny_letTemporaryGo (Tg l))) λ_ _ x=>x)
 first
  |exact Tg (NZ fin)
  |exact NZ (Tg (NZ fin))
  |exact NZ fin
def Dq{d:St}(I:Inv X f d H s)(g:qi H a y o):s.TypeIs (.ref a) "dict":=by
 rcases g with⟨c,k,e,_,_⟩|⟨c,k,b,e,_,_,_⟩
 .obtain⟨_,_,h,_,dd⟩:=rM I.aJ e;exact dd.typeIs
 .obtain⟨_,_,xs,_,dd⟩:=rR I.aJ e;exact dd.typeIs
abbrev t2(e f:TE):TE:=λc H Q=>e c H λx d=>f c d λy b=>∃a v,x=.ref a/\qi b a y (Z v)/\Q v b
abbrev J1(g i h:TE):eh:=λD b H=>h b H λv d=>g b d λx e=>i b e λy f=>∃a c,x=.ref a/\gv f a y v c/\D.aS b c
section
variable{X:ao}{o i e value:TG}{pos pos' MO:Vb}{nB ty ud:TE}
def IF(q:X.A.units+1<UD)(n:ai X o nB)(hi:ai X i ty)(p:uI i):ai X (.Subscript o i pos) (t2 nB ty):=by
 intro c s d H Q I h;refine LN PySem.F.slot_dict_getitem.lookup p (aN (n c s d H _ I h) λu B ⟨x,f,k,z,r⟩=>aN (hi c B d f _ k r) λC s2 ⟨y,j,b,A,a,v,m,g,t⟩=>?_);subst m;obtain rfl:u=TA a:=z;exact⟨Dq b g,Di q b g A λD s3 l w=>⟨v,j,l,w,t⟩⟩
def Jn(w:X.A.units+1<UD)(q:ai X o nB)(hi:ai X i ty)(z:ai X value ud)(t:U1 value (Z (.Subscript o i pos')) pos.line X.env=pure Th):
  bA X (.Assign [.Subscript o i pos'] value pos) (J1 nB ty ud):=by
 intro c s b H D I h;refine V2 (aN (z c s b H _ I h) λr M ⟨v,d,k,E,A⟩=>aN (q c M b d _ k A) λu s2 ⟨x,f,l,G,B⟩=>aN (hi c s2 b f _ l B) λO s3 ⟨y,N,m,L,a,j,p,g,C⟩=>?_) t;subst p;obtain rfl:u=TA a:=G;exact Dl w m g L E λQ n=>⟨b,j,n,C⟩
end
def vK(h:TU)(a:UH<h.objs.size):bN P w H (h.push { cls:=.type "dict",data:=.dict #[] }) h.objs.size (.bZ []) :=
 ⟨Od _,PJ.mpr (Pj (Oj a)),[],.nil,Heap.DictOf.new h⟩
def Dw(h:TU)(a:UH<h.objs.size):bN P w H (h.push { cls:=.type "dict",data:=.dict #[] }) h.objs.size (.cz []) :=
 ⟨Od _,PJ.mpr (Pj (Oj a)),[],.nil,_,#[],0,N6 _ rfl,⟨rfl,rfl,rfl⟩,rfl,rfl,Q7⟩
def LU:TE:=λ_ H Q=>∀p,H p=Y->Q (.ref p) (upd H p (.bZ []))
def LV:TE:=λ_ H Q=>∀p,H p=Y->Q (.ref p) (upd H p (.cz []))
section
variable{X:ao}{pos:Vb}
def yq:ai X (.Dict [] [] pos) LU:=λb s c H Q I h =>
 wpAny_Dict_empty ⟨.ref s.heap.objs.size,_,I.laid (a:=s.heap.objs.size) (o:=.bZ []) (t':=s.toks) (λ_ _ q=>N1 _ q) (N2 _) (vK s.heap I.big),rfl,h _ (I.aJ.fresh (N2 _))⟩
def IH:ai X (.Dict [] [] pos) LV:=λb s c H Q I h =>
 wpAny_Dict_empty ⟨.ref s.heap.objs.size,_,I.laid (a:=s.heap.objs.size) (o:=.cz []) (t':=s.toks) (λ_ _ q=>N1 _ q) (N2 _) (Dw s.heap I.big),rfl,h _ (I.aJ.fresh (N2 _))⟩
end
abbrev t5:List (TE×TE)->St->ah->(List (V×V)->ah->Prop)->Prop
 |[],_,H,Q=>Q [] H
 |(tk,f)::r,a,H,Q=>tk a H λx b=>f a b λy c=>t5 r a c λe d=>Q ((x,y)::e) d
noncomputable abbrev uN:List (V×V)->List (Ti×Ti)->Prop:=Paired λp q=>RelV p.1 q.1/\RelV p.2 q.2
def nZ(X:ao)(pos:Vb)(e:List (Option TG))(g:List TG)(f:List (TE×TE)):Prop :=
 ∀(c:List (Tu×UK))(s:Tq)(a:St)(H:ah)(Q:List (V×V)->ah->Prop),Inv X c a H s->t5 f a H Q ->
  Ts (Tw X.prog X.w) X.A (evalPairs (pairTrees e g X.env pos)) (λh s'=>∃d b,Inv X c a b s'/\uN d h/\Q d b) X.aV s
def Jf:nZ X pos [] [] []:=λa s b H Q I h=>pairTrees_nil_walk ⟨[],H,I,.nil,h⟩
def Je(j:ai X k tk)(m:ai X v C)(l:nZ X pos n D B):
  nZ X pos (Z k::n) (v::D) ((tk,C)::B):=λa s b H Q I h =>
 pairTrees_cons_walk (aN (j a s b H _ I h) λu A ⟨x,c,f,w,p⟩=>aN (m a A b c _ f p) λE s2 ⟨y,d,g,z,q⟩ =>
  aN (l a s2 b d _ g q) λws s3 ⟨o,e,i,t,r⟩=>⟨(x,y)::o,e,i,.cons ⟨w,z⟩ t,r⟩)
def kS(c d:List (Key×V)):List (Key×V):=d.foldl (λb a=>putK b a.1 a.2) c
def c3.merge:∀{c:List (Key×V)}{d:List (Key×Ti)}{a:List (Key×V)}{b:List (Key×Ti)},c3 c d->c3 a b->c3 (kS a c) (merged b d):=by
 intro c d a b r;unfold c3 at r
 induction r generalizing a b with
 |nil=>intro q;exact q
 |@cons p q i qs h t f =>
  intro g;have e:c3 (putK a p.1 p.2) (Yh b q.1 q.2):=by
   have:=g.put p.1 h.2;rw[<- h.1];exact this
  exact f e
theorem xu:∀(b a:List (Key×V)),(kS a b).length<=a.length+b.length
 |[],a=>by show a.length<=a.length+0;lia
 |p::r,a=>by
  have c:=xu r (putK a p.1 p.2);have h2:=sM a p.1 p.2;show(kS (putK a p.1 p.2) r).length<=_;rw[Tt];lia
theorem vi:∀{e:List (Key×V)}{ws:List (Ti×Ti)},uN (e.map λf=>(bH f.1,f.2)) ws->∃d,Carries (e9 P w) ws d/\c3 e d
 |[],_,r=>by rw[Qv]at r;cases r;exact⟨[],True.intro,.nil⟩
 |p::e,_,r=>by
  rw[Tr]at r;cases r with
  |@cons a b as bs h t =>
   obtain⟨d,c,q⟩:=vi (P:=P) (w:=w) t;obtain⟨b1,b2⟩:=b;exact⟨(p.1,b2)::d,⟨oL h.1,rfl,c⟩,.cons ⟨rfl,h.2⟩ q⟩
def LW(e:List (TE×TE)):TE:=λf H Q=>∀p,H p=Y->t5 e f (upd H p (.bZ [])) λd b=>b p=Z (.bZ [])/\∃a:List (Key×V),d=a.map (λc=>(bH c.1,c.2))/\a.length<=15/\Q (.ref p) (upd b p (.bZ (kS [] a)))
def IG(h:nZ X pos b i G)(n:b.all (·.isSome)=J)(t:b.length=i.length)(h0:b≠[])(m:b.length<=15):ai X (.Dict b i pos) (LW G):=by
 intro y s M H Q I q;have u:=I.aJ.fresh (N2 s.heap.objs.size);have j:=I.laid (a:=s.heap.objs.size) (o:=.bZ []) (h':=s.heap.push { cls:=.type "dict",data:=.dict #[] }) (t':=s.toks) (λ_ _ q=>N1 _ q) (N2 _) (vK s.heap I.big);refine wpAny_Dict_walk (knd:=e9 X.prog X.w) n t h0 m (aN (h y _ M _ _ j (q _ u)) λws s2 L=>?_);obtain⟨O,N,d,C,e,g,k,lk,A⟩:=L;subst k;obtain⟨E,c,D⟩:=vi (P:=X.prog) (w:=X.w) C;obtain⟨z,p,R,B,dd⟩:=vM d.aJ e;cases B;refine⟨E,c,dd,λh' f x=>⟨.ref s.heap.objs.size,_,?_,rfl,A⟩⟩;have hz:(kS [] g).length<=sizeLine:=by
  have l:=xu g [];rw[TQ]at l;rw[TL];lia
 have r:∃q,h'.get? s.heap.objs.size=Z q:=let ⟨q,_,_,v,_⟩:=f;⟨q,v⟩
 exact rG d (by rw[e];exact True.intro) x r (vL hz p (D.merge .nil) f)
structure ND(X:ao)(o:TG)(m:Tz)(apos:Vb)(e:TG)(dx:Vb):Prop where
 base:Vj o m X.env (Uc o X.env)=Uc o X.env
 wj:((U7 dx (TF [e] X.env)).all (λx=>!x.1)&&(Yf dx (Wv [] X.env)).all (λx=>x.1.isSome)
  && decide (([e]:List TG).length+([]:List Vv).length+(if ([]:List Vv).isEmpty then 0 else 1)<30))=J
 line:(apos.endLine==dx.line)=J
 trees:U7 dx (TF [e] X.env)=[(Th,Uc e X.env)]
structure M2(X:ao)(o:TG)(m:Tz)(apos:Vb)(e f:TG)(dx:Vb):Prop where
 base:Vj o m X.env (Uc o X.env)=Uc o X.env
 wj:((U7 dx (TF [e,f] X.env)).all (λx=>!x.1)&&(Yf dx (Wv [] X.env)).all (λx=>x.1.isSome)
  && decide (([e,f]:List TG).length+([]:List Vv).length+(if ([]:List Vv).isEmpty then 0 else 1)<30))=J
 line:(apos.endLine==dx.line)=J
 trees:U7 dx (TF [e,f] X.env)=[(Th,Uc e X.env),(Th,Uc f X.env)]
end aC
end
set_option genInjectivity false
set_option autoImplicit true
set_option maxHeartbeats 8000000
section
namespace ζ
open PySem
inductive R(α:Type) where
 |ok (a:α)
 |exc (c:Nat)
 |bad
def R.bind{α β:Type}:R α->(α->R β)->R β
 |.ok a,f=>f a
 |.exc c,_=>.exc c
 |.bad,_=>.bad
noncomputable instance:Monad R where
 pure:=R.ok
 bind:=R.bind
def ak{α:Type}{a b:α}(h:a=b):a=b:=h
@[simp] theorem R.hb {α β:Type} (a) (f:α->R β):(R.ok a>>=f)=f a:=ak rfl
@[simp] theorem R.Eu {α β:Type} (c) (f:α->R β):(R.exc c>>=f)=R.exc c:=ak rfl
@[simp] theorem R.NG {α β:Type} (f:α->R β):(R.bad>>=f)=R.bad:=ak rfl
@[simp] theorem R.NW {α:Type} (a):(pure a:R α)=R.ok a:=rfl
set_option genInjectivity true in
inductive D where
 |az
 |ag (b:Bool)
 |int (i:Int)
 |str (x:Tz)
 |tup (xs:List D)
 |lst (xs:List D)
 |bU (hO:List (List Int×Int))
 |bG (hO:List (Int×Int×Int))
 |d7 (c:Nat)
 |kt (xs:List D)
mutual
noncomputable def ek:D->D->Bool
 |.az,.az=>J
 |.ag a,.ag b=>a==b
 |.ag a,.int j=>(if a then 1 else 0)==j
 |.int i,.ag b=>i==(if b then 1 else 0)
 |.int i,.int j=>i==j
 |.str x,.str y=>x==y
 |.tup xs,.tup ys=>gY xs ys
 |.lst xs,.lst ys=>gY xs ys
 |_,_=>Th
noncomputable def gY:List D->List D->Bool
 |[],[]=>J
 |x::xs,y::ys=>ek x y&&gY xs ys
 |_,_=>Th
end
mutual
noncomputable def g6:D->D->Option Bool
 |.int i,.int j=>Z (decide (i<j))
 |.tup xs,.tup ys=>g7 xs ys
 |_,_=>Y
noncomputable def g7:List D->List D->Option Bool
 |[],[]=>Z Th
 |[],_::_=>Z J
 |_::_,[]=>Z Th
 |x::xs,y::ys=>if ek x y then g7 xs ys else g6 x y
end
abbrev dS:Nat->D->Bool
 |0,.int _=>J
 |n+1,.tup xs=>xs.all (dS n)
 |_,_=>Th
def oD(x:D):List D->List D
 |[]=>[x]
 |y::ys=>if g6 y x=Z J then y::oD x ys else x::y::ys
def fx:List D->List D
 |[]=>[]
 |x::xs=>oD x (fx xs)
def hF:List D->List D
 |[]=>[]
 |x::xs=>if xs.any (ek x) then hF xs else x::hF xs
def kM:D->Bool
 |.tup (x::xs)=>dS 0 x&&xs.all (dS 0)
 |_=>Th
def mw:D->Bool
 |.tup (x::xs)=>kM x&&xs.all kM
 |_=>Th
def ft(xs:List D):Bool:=xs.all (dS 0)||xs.all kM
abbrev SZ:Nat:=16777216
abbrev dJ:Int:=18446744073709551616
def sorted(xs:List D):R D:=if (ft xs||xs.all mw)&&xs.length<=255 then .ok (.lst (fx xs)) else .bad
def dV(xs:List D):R D:=if ft xs&&(hF xs).length<=255 then .ok (.lst (fx (hF xs))) else .bad
inductive Op where
 |add|sub|mul|fdiv|mod|and|xor
inductive ik where
 |eq|ne|lt|le|gt|ge|is|oJ|mem|gg
abbrev qB(i j:Int):R D:=if 0<=i then(if 0<=j then .ok (.int (i.toNat &&& j.toNat:Nat)) else .ok (.int (i-(i.toNat &&& (-j-1).toNat:Nat)))) else .bad
abbrev uz(i j:Int):R D:=if 0<=i/\0<=j then .ok (.int (i.toNat ^^^ j.toNat:Nat)) else .bad
def dq:Op->D->D->R D
 |.and,.int i,.int j=>qB i j
 |.xor,.int i,.int j=>uz i j
 |.add,.int i,.int j=>.ok (.int (i+j))
 |.add,.str x,.str y=>if x.length+y.length<=SZ then .ok (.str (x++y)) else .bad
 |.add,.tup xs,.tup ys=>if xs.length+ys.length<=SZ then .ok (.tup (xs++ys)) else .bad
 |.add,.lst xs,.lst ys=>if xs.length+ys.length<=SZ then .ok (.lst (xs++ys)) else .bad
 |.sub,.int i,.int j=>.ok (.int (i-j))
 |.mul,.lst xs,.int j=>if 0<=j/\j<=1000/\xs.length<=1000 then .ok (.lst (TJ j.toNat xs).flatten) else .bad
 |.mul,.int i,.int j=>if (-dJ<i/\i<dJ)\/(-dJ<j/\j<dJ) then .ok (.int (i*j)) else .bad
 |.fdiv,.int i,.int j=>if 0<j/\j<1073741824 then .ok (.int (i / j)) else .bad
 |.mod,.int i,.int j=>if 0<j then .ok (.int (i%j)) else .bad
 |_,_,_=>.bad
abbrev fE:R Bool->R Bool
 |.ok b=>.ok (!b)
 |.exc c=>.exc c
 |.bad=>.bad
abbrev bg:Nat->D->Bool
 |_,.az=>J
 |_,.ag _=>J
 |_,.int _=>J
 |_,.str x=>x.cps.all (· < 0x110000)
 |n+1,.tup xs=>xs.all (bg n)
 |n+1,.lst xs=>xs.all (bg n)
 |_,_=>Th
def c5(x y:D):R Bool:=if bg 60 x&&bg 60 y then .ok (ek x y) else .bad
def memD(x:D)(xs:List D):Bool:=xs.any λy=>ek y x
def eC(x:D)(ys:List D):R Bool:=if bg 60 x&&ys.all (bg 60) then .ok (memD x ys) else .bad
abbrev tf:Option Bool->R Bool
 |some b=>.ok b
 |none=>.bad
def jQ(x y:D):R Bool:=if (dS 0 x&&dS 0 y)||(dS 1 x&&dS 1 y) then tf (g6 x y) else .bad
abbrev iQ:D->Bool
 |.az=>J
 |_=>Th
def my(x:D):D->R Bool
 |.az=>.ok (iQ x)
 |_=>.bad
def bL:ik->D->D->R Bool
 |.eq,x,y=>c5 x y
 |.ne,x,y=>fE (c5 x y)
 |.lt,x,y=>jQ x y
 |.le,.int i,.int j=>.ok (decide (i<=j))
 |.ge,.int i,.int j=>.ok (decide (j<=i))
 |.gt,.int i,.int j=>.ok (decide (j<i))
 |.is,x,y=>my x y
 |.oJ,x,y=>fE (my x y)
 |.mem,x,.tup ys=>eC x ys
 |.mem,x,.lst ys=>eC x ys
 |.gg,x,.tup ys=>fE (eC x ys)
 |.gg,x,.lst ys=>fE (eC x ys)
 |.gg,x,.kt ys=>fE (eC x ys)
 |_,_,_=>.bad
abbrev eo(n:Nat)(i:Int):Option Nat:=if 0<=i then(if i<n then Z i.toNat else Y) else(if 0<=i+n then Z (i+n).toNat else Y)
def c7{α:Type}(xs:List α)(i:Int):Option α:=(eo xs.length i).bind (xs[·]?)
def dR:D->D->R D
 |.tup xs,.int i=>match c7 xs i with|some d=>.ok d|none=>.bad
 |.lst xs,.int i=>match c7 xs i with|some d=>.ok d|none=>.bad
 |.kt xs,.int i=>match c7 xs i with|some d=>.ok d|none=>.bad
 |.str x,.int i=>if x.length<=SZ then(match c7 x.cps.toList i with|some c=>.ok (.str ⟨#[c]⟩)|none=>.bad) else .bad
 |_,_=>.bad
abbrev aR(n d:Nat):Option Int->Nat
 |none=>d
 |some i=>if i<0 then(if i+n<0 then 0 else(i+n).toNat) else(if (n:Int)<i then n else i.toNat)
def cut{α:Type}(xs:List α)(lo hi:Option Int):List α:=(xs.drop (aR xs.length 0 lo)).take (aR xs.length xs.length hi-aR xs.length 0 lo)
def h7(d:D)(lo hi:Option Int):R D:=match d with
 |.tup xs=>.ok (.tup (cut xs lo hi))
 |.lst xs=>.ok (.lst (cut xs lo hi))
 |.str x=>if x.length<=SZ then .ok (.str (Txt.slice x lo hi)) else .bad
 |_=>.bad
def hP:D->R D
 |.tup xs=>.ok (.int xs.length)
 |.lst xs=>.ok (.int xs.length)
 |.str x=>if x.length<=SZ then .ok (.int x.length) else .bad
 |_=>.bad
inductive Ty where
 |int|bool|str|tuple|cls (c:Nat)
noncomputable abbrev fg:=Nat->List Nat
def gc(up:fg)(d:D):Ty->R Bool
 |.int=>.ok (match d with|.int _=>J|.ag _=>J|_=>Th)
 |.bool=>.ok (match d with|.ag _=>J|_=>Th)
 |.str=>.ok (match d with|.str _=>J|_=>Th)
 |.tuple=>.ok (match d with|.tup _=>J|.kt _=>J|_=>Th)
 |.cls c=>match d with|.d7 k=>.ok ((up k).contains c)|_=>.bad
abbrev cf:D->R (List D)
 |.tup xs=>.ok xs
 |.lst xs=>.ok xs
 |_=>.bad
abbrev zw:D->R (List D)
 |.tup xs=>.ok xs
 |.lst xs=>.ok xs
 |.kt xs=>.ok xs
 |_=>.bad
def pA:D->R (List D)
 |.str x=>if x.cps.all (· < 128)&&decide (x.length<=SZ) then .ok (x.cps.toList.map λc=>.str ⟨#[c]⟩) else .bad
 |_=>.bad
abbrev et:List D->List D->List D
 |x::xs,y::ys=>.tup [x,y]::et xs ys
 |_,_=>[]
def qe:D->D->R (List D)
 |.tup xs,.tup ys=>.ok (et xs ys)
 |_,_=>.bad
abbrev h9(i:Int):R D:=if i.natAbs<10000000000 then .ok (.str (Tf (toString i))) else .bad
abbrev intOf:D->R D
 |.ag b=>.ok (.int (if b then 1 else 0))
 |.str x=>(match x.cps.toList with|[c]=>if 48<=c/\c<=57 then .ok (.int ((c-48:Nat):Int)) else .bad|_=>.bad)
 |_=>.bad
abbrev strsOf:List D->Option (List Tz)
 |[]=>Z []
 |.str x::xs=>(strsOf xs).map (x::·)
 |_=>Y
abbrev j8(a:List Tz):Nat:=(a.map (·.length)).sum
def iR(b:Tz)(xs:List D):R D:=match strsOf xs with
 |some a=>if j8 a+a.length*b.length<=SZ then .ok (.str (T8 b a)) else .bad
 |none=>.bad
def hl(x y:Tz):R D:=if y.length≠0/\x.length+2<=SZ then .ok (.lst ((Txt.split x y).map .str)) else .bad
inductive kk where
 |join|split|find
def hS:kk->Tz->D->R D
 |.join,x,.lst xs=>iR x xs
 |.split,x,.str y=>hl x y
 |.find,x,.str y=>.ok (.int (Txt.find x y))
 |_,_,_=>.bad
abbrev n4:D->R Tz
 |.str x=>.ok x
 |_=>.bad
abbrev cP(lo hi:Int):List D:=(TB (hi-lo).toNat).map λk=>.int (lo+(k:Nat))
abbrev hj(i:Int):Bool:=decide (-4611686018427387904<=i/\i<4611686018427387904)
def fw(i j:Int):R (List D):=if hj i&&hj j&&decide ((j-i).toNat<=1000000) then .ok (cP i j) else .bad
inductive dp where
 |len|inst (t:Ty)|str|int|all|any|sorted|dV|sum|max
mutual
inductive E where
 |var (i:Nat)
 |lit (d:D)
 |tup (a:A)
 |lst (a:A)
 |bin (op:Op) (a b:E)
 |not (a:E)
 |neg (a:E)
 |cmp (op:ik) (a b:E)
 |jA (op op':ik) (a b c:E)
 |and (a b:E)
 |or (a b:E)
 |idx (a b:E)
 |slice (a:E) (lo hi:O)
 |call (f:Nat) (a:A)
 |prim (p:dp) (a:E)
 |tupI (s:I)
 |gH (s:I)
 |comp (elt:E) (k:Nat) (s:I) (c:O)
 |max2 (a b:E)
 |glob (j:Nat)
 |fu (m:kk) (a b:E)
 |rI (i j:Nat)
 |rN (i j:Nat)
 |rP
inductive A where
 |nil
 |cons (e:E) (a:A)
inductive O where
 |none
 |some (e:E)
inductive I where
 |seq (e:E)
 |sJ (e:E)
 |nd (e:E)
 |c8 (a:E)
 |k9 (a b:E)
 |zip (a b:E)
 |rK (i:Nat)
end
noncomputable abbrev aB:=List (Option D)
noncomputable abbrev c2:=Nat->List D->R D
abbrev dX:Nat->D->R (List (Option D))
 |0,d=>.ok [Z d]
 |k,.tup xs=>if xs.length=k then .ok (xs.map Z) else .bad
 |_,_=>.bad
abbrev bf(f:D->R (Option D)):List D->R (List D)
 |[]=>.ok []
 |d::ds=>f d>>=λo=>bf f ds>>=λr=>match o with|some x=>.ok (x::r)|none=>.ok r
def hU{α:Type}:R α->R α
 |.exc _=>.bad
 |r=>r
abbrev fA:List D->Option (List Bool)
 |[]=>Z []
 |.ag b::xs=>(fA xs).map (b::·)
 |_=>Y
def hB(xs:List D):R Bool:=match fA xs with
 |some bs=>.ok (bs.all id)
 |none=>.bad
def iA(xs:List D):R Bool:=match fA xs with
 |some bs=>.ok (bs.any id)
 |none=>.bad
abbrev intsOf:List D->Option (List Int)
 |[]=>Z []
 |.int i::xs=>(intsOf xs).map (i::·)
 |_=>Y
abbrev kP:D->R (List D)
 |.lst xs=>.ok xs
 |_=>.bad
def j9(xs:List D):R D:=match intsOf xs with
 |some ns=>.ok (.int ns.sum)
 |none=>.bad
def jR(xs:List D):R D:=match intsOf xs with
 |some (n::ns)=>.ok (.int (ns.foldl (λm x=>if x>m then x else m) n))
 |_=>.bad
def gK(up:fg):dp->D->R D
 |.len,d=>hP d
 |.sorted,d=>cf d>>=λxs=>sorted xs
 |.dV,d=>cf d>>=λxs=>dV xs
 |.sum,d=>kP d>>=λxs=>j9 xs
 |.max,d=>kP d>>=λxs=>jR xs
 |.inst t,d=>gc up d t>>=λb=>.ok (.ag b)
 |.str,d=>(match d with|.int i=>h9 i|_=>.bad)
 |.int,d=>intOf d
 |.all,d=>cf d>>=λxs=>hB xs>>=λb=>.ok (.ag b)
 |.any,d=>cf d>>=λxs=>iA xs>>=λb=>.ok (.ag b)
abbrev p7(a:List (List Int×Int))(k:List Int):Option Int:=(a.find? λp=>decide (p.1=k)).map (·.2)
abbrev putN(a:List (List Int×Int))(k:List Int)(n:Int):List (List Int×Int):=if (a.any λp=>decide (p.1=k))=J then a.map (λp=>if p.1=k then(p.1,n) else p) else a++[(k,n)]
abbrev la(r:Int×Int):D:=.tup [.int r.1,.int r.2]
abbrev nJ(a:List (Int×Int×Int))(k:Int):Option (Int×Int):=(a.find? λp=>decide (p.1=k)).map (·.2)
abbrev k6(a:List (Int×Int×Int))(k:Int)(r:Int×Int):List (Int×Int×Int):=if (a.any λp=>decide (p.1=k))=J then a.map (λp=>if p.1=k then(p.1,r) else p) else a++[(k,r)]
abbrev gW:Option (Option D)->Option (List (List Int×Int))
 |some (Z (.bU a))=>Z a
 |_=>Y
abbrev f5:Option (Option D)->Option (List (Int×Int×Int))
 |some (Z (.bG a))=>Z a
 |_=>Y
def rowOf:D->Option (Int×Int)
 |.tup ds=>(match intsOf ds with|some [a,b]=>Z (a,b)|_=>Y)
 |_=>Y
abbrev intD:D->Option Int
 |.int i=>Z i
 |_=>Y
def je:D->Option (List Int)
 |.tup ds=>intsOf ds
 |_=>Y
def ei{α:Type}(f:D->Option α):Option (Option D)->Option α
 |some (Z d)=>f d
 |_=>Y
def kE(o p:Option (Option D)):R D:=match gW o,ei je p with
 |some a,Z k=>(match p7 a k with|some n=>.ok (.int n)|none=>.bad)
 |_,_=>(match f5 o,ei intD p with|some a,Z k=>(match nJ a k with|some r=>.ok (la r)|none=>.bad)|_,_=>.bad)
def rQ(o p:Option (Option D))(d:D):R D:=match gW o,ei je p,intD d with
 |some a,Z k,Z n=>if a.length<1000 then .ok (.bU (putN a k n)) else .bad
 |_,_,_=>(match f5 o,ei intD p,rowOf d with|some a,Z k,Z r=>if a.length<1000 then .ok (.bG (k6 a k r)) else .bad|_,_,_=>.bad)
def rO(p q:Option (Option D)):R D:=match ei intD p,ei rowOf q with
 |some k,Z r=>.ok (.bG [(k,r)])
 |_,_=>.bad
def rL(o:Option (Option D)):R (List D):=match gW o with
 |some a=>.ok (a.map λp=>.tup (p.1.map .int))
 |none=>(match f5 o with|some a=>.ok (a.map λp=>.int p.1)|none=>.bad)
abbrev oT:Option (Option D)->R D
 |some (Z (.lst ds))=>.ok (.lst ds)
 |_=>.bad
abbrev vJ:Option (Option D)->R D
 |some (Z (.bU a))=>.ok (.bU a)
 |some (Z (.bG a))=>.ok (.bG a)
 |_=>.bad
abbrev dW:D->R Bool
 |.ag b=>.ok b
 |_=>.bad
abbrev dw:D->R Int
 |.int i=>.ok i
 |_=>.bad
abbrev sh:Option (Option D)->R D
 |some (Z d)=>.ok d
 |_=>.bad
abbrev sg:Option D->R D
 |some d=>.ok d
 |none=>.bad
structure ck where
 up:fg
 cs:List D
section
variable(pg:ck)(Φ:c2)
mutual
noncomputable def ev (g:aB):E->R D
 |.var i=>sh g[i]?
 |.lit d=>.ok d
 |.tup a=>fm g a>>=λds=>.ok (.tup ds)
 |.lst a=>fm g a>>=λds=>.ok (.lst ds)
 |.bin op a b=>ev g a>>=λx=>ev g b>>=λy=>dq op x y
 |.neg a=>ev g a>>=λx=>dw x>>=λi=>.ok (.int (-i))
 |.not a=>ev g a>>=λx=>dW x>>=λb=>.ok (.ag (!b))
 |.cmp op a b=>ev g a>>=λx=>ev g b>>=λy=>bL op x y>>=λc=>.ok (.ag c)
 |.jA op op' a b c=>ev g a>>=λx=>ev g b>>=λy=>bL op x y>>=λk=>if k then ev g c>>=λz=>bL op' y z>>=λo=>.ok (.ag o) else .ok (.ag Th)
 |.and a b=>ev g a>>=λx=>dW x>>=λk=>if k then ev g b else .ok (.ag Th)
 |.or a b=>ev g a>>=λx=>dW x>>=λk=>if k then .ok (.ag J) else ev g b
 |.max2 a b=>ev g a>>=λx=>dw x>>=λi=>ev g b>>=λy=>dw y>>=λj=>.ok (.int (if i<j then j else i))
 |.glob j=>sg pg.cs[j]?
 |.fu m a b=>ev g a>>=λx=>n4 x>>=λz=>ev g b>>=λy=>hS m z y
 |.idx a b=>ev g a>>=λx=>ev g b>>=λy=>dR x y
 |.slice a lo hi=>ev g a>>=λx=>iI g lo>>=λl=>iI g hi>>=λh=>h7 x l h
 |.call f a=>fm g a>>=λds=>Φ f ds
 |.prim p a=>ev g a>>=λx=>gK pg.up p x
 |.gH s=>eA g s>>=λds=>.ok (.lst ds)
 |.tupI s=>eA g s>>=λds=>.ok (.tup ds)
 |.rI i j=>kE g[i]? g[j]?
 |.rN i j=>rO g[i]? g[j]?
 |.rP=>.ok (.bG [])
 |.comp e k s c=>eA g s>>=λds=>bf (λd=>dX k d>>=λn=>hU (hI (g++n) c)>>=λb=>if b then ev (g++n) e>>=λy=>.ok (Z y) else .ok Y) ds>>=λys=>.ok (.lst ys)
noncomputable def fm (g:aB):A->R (List D)
 |.nil=>.ok []
 |.cons e a=>ev g e>>=λx=>fm g a>>=λxs=>.ok (x::xs)
noncomputable def iI (g:aB):O->R (Option Int)
 |.none=>.ok Y
 |.some e=>ev g e>>=λx=>dw x>>=λi=>.ok (Z i)
noncomputable def hI (g:aB):O->R Bool
 |.none=>.ok J
 |.some e=>ev g e>>=λx=>dW x
noncomputable def eA (g:aB):I->R (List D)
 |.seq e=>ev g e>>=λx=>cf x
 |.sJ e=>ev g e>>=λx=>zw x
 |.nd e=>ev g e>>=λx=>pA x
 |.c8 a=>ev g a>>=λx=>dw x>>=λi=>fw 0 i
 |.k9 a b=>ev g a>>=λx=>dw x>>=λi=>ev g b>>=λy=>dw y>>=λj=>fw i j
 |.zip a b=>ev g a>>=λx=>ev g b>>=λy=>qe x y
 |.rK i=>rL g[i]?
end
end
structure eK where
 j:Nat
 i:Nat
 g:Nat
 aX:List Nat
 k5:Nat
 mA:Nat
def oB(up:fg)(b:List Nat)(k5 a:Nat):Bool:=(up 1).contains k5&&((up 1).contains a&&!(b.map λk=>(up 1).contains k).any id)
mutual
inductive S where
 |asg (i:Nat) (e:E)
 |app (i:Nat) (e:E)
 |md (i:Nat)
 |m6 (i:Nat)
 |tF (i:Nat)
 |me (i:Nat)
 |mf (i j:Nat) (e:E)
 |qb (c:E) (b:B)
 |h6 (i:Nat) (j e:E)
 |pop (i:Nat)
 |ps (i:Nat) (e:E)
 |raise (c:Nat)
 |expr (e:E)
 |jc (s:S) (k:Nat) (h:eK)
 |ext (i:Nat) (e:E)
 |ret (e:E)
 |iff (c:E) (a b:B)
 |fo (k:Nat) (ts:List Nat) (s:I) (b:B)
inductive B where
 |nil
 |cons (s:S) (b:B)
end
inductive cx where
 |aS (ae:aB)
 |bt (d:D)
abbrev h1:List Nat->List (Option D)->aB->aB
 |i::b,v::c,a=>h1 b c (a.set i v)
 |_,_,a=>a
abbrev forL(f:D->aB->R cx):List D->aB->R cx
 |[],a=>.ok (.aS a)
 |d::ds,a=>f d a>>=λr=>match r with
  |.aS b=>forL f ds b
  |.bt x=>.ok (.bt x)
abbrev lB(c:aB->R Bool)(f:aB->R cx):Nat->aB->R cx
 |0,_=>.bad
 |n+1,a=>c a>>=λk=>if k then f a>>=λr=>(match r with
  |.aS b=>lB c f n b
  |.bt x=>.ok (.bt x)) else .ok (.aS a)
def putAt(ds:List D)(j:Int)(d:D):R D:=match eo ds.length j with
 |some n=>.ok (.lst (ds.set n d))
 |none=>.bad
def nc:Option (Option D)->D->D->R D
 |some (Z (.lst ds)),.int j,d=>putAt ds j d
 |_,_,_=>.bad
abbrev yH:Option (Option D)->R D
 |some (Z (.lst (d::ds)))=>.ok (.lst (d::ds).dropLast)
 |_=>.bad
def fQ(pg:ck)(c k:Nat)(h:eK):R cx:=if c==1&&((pg.up c).contains k&&oB pg.up h.aX h.k5 h.mA) then .ok (.bt .az) else .bad
abbrev Ak:R cx->(Nat->R cx)->R cx
 |.ok r,_=>.ok r
 |.exc c,f=>f c
 |.bad,_=>.bad
def n3:Option (Option D)->D->R D
 |some (Z (.lst xs)),d=>if xs.length<SZ then .ok (.lst (xs++[d])) else .bad
 |_,_=>.bad
def wd:Option (Option D)->D->R D
 |some (Z (.lst xs)),.lst ys=>if xs.length+ys.length<=SZ then .ok (.lst (xs++ys)) else .bad
 |some (Z (.lst xs)),.tup ys=>if xs.length+ys.length<=SZ then .ok (.lst (xs++ys)) else .bad
 |_,_=>.bad
abbrev f3:Option (Option D)->R Unit
 |some (Z (.lst _))=>.ok ()
 |_=>.bad
section
variable(pg:ck)(Φ:c2)
mutual
noncomputable def ex (f:aB):S->R cx
 |.asg i e=>ev pg Φ f e>>=λd=>.ok (.aS (f.set i (Z d)))
 |.app i e=>f3 f[i]?>>=λ_=>ev pg Φ f e>>=λd=>n3 f[i]? d>>=λx=>.ok (.aS (f.set i (Z x)))
 |.ret e=>ev pg Φ f e>>=λd=>.ok (.bt d)
 |.m6 i=>oT f[i]?>>=λd=>.ok (.bt d)
 |.tF i=>vJ f[i]?>>=λd=>.ok (.bt d)
 |.md i=>.ok (.aS (f.set i (Z (.bU []))))
 |.me i=>.ok (.aS (f.set i (Z (.bG []))))
 |.mf i j e=>ev pg Φ f e>>=λd=>rQ f[i]? f[j]? d>>=λx=>.ok (.aS (f.set i (Z x)))
 |.qb c b=>lB (λg=>ev pg Φ g c>>=λx=>dW x) (λg=>cY g b) 200 f
 |.h6 i j e=>ev pg Φ f e>>=λd=>f3 f[i]?>>=λ_=>ev pg Φ f j>>=λk=>nc f[i]? k d>>=λx=>.ok (.aS (f.set i (Z x)))
 |.pop i=>yH f[i]?>>=λx=>.ok (.aS (f.set i (Z x)))
 |.ps i e=>f3 f[i]?>>=λ_=>ev pg Φ f e>>=λd=>.ok (.bt d)
 |.raise c=>.exc c
 |.expr e=>ev pg Φ f e>>=λ_=>.ok (.aS f)
 |.jc s k h=>Ak (ex f s) λc=>fQ pg c k h
 |.ext i e=>f3 f[i]?>>=λ_=>ev pg Φ f e>>=λd=>wd f[i]? d>>=λx=>.ok (.aS (f.set i (Z x)))
 |.iff c a b=>ev pg Φ f c>>=λx=>dW x>>=λk=>if k then cY f a else cY f b
 |.fo k ts s b=>eA pg Φ f s>>=λds=>forL (λd g=>dX k d>>=λl=>cY (h1 ts l g) b) ds f
noncomputable def cY (f:aB):B->R cx
 |.nil=>.ok (.aS f)
 |.cons s b=>ex f s>>=λr=>match r with
  |.aS g=>cY g b
  |.bt d=>.ok (.bt d)
end
end
structure hr where
 np:Nat
 nl:Nat
 body:B
abbrev start(a:hr)(ds:List D):aB:=ds.map Z++TJ a.nl Y
abbrev hH:R cx->R D
 |.ok (.bt d)=>.ok d
 |.ok (.aS _)=>.ok .az
 |.exc c=>.exc c
 |.bad=>.bad
def bV(pg:ck)(Φ:c2)(a:hr)(ds:List D):R D:=if ds.length=a.np then hH (cY pg Φ (start a ds) a.body) else .bad
def run(pg:ck)(fds:List hr):Nat->c2
 |0=>λ_ _=>.bad
 |n+1=>λf ds=>match fds[f]? with
  |some a=>bV pg (run pg fds n) a ds
  |none=>.bad
def m7(pg:ck)(fds:List hr)(n f:Nat)(ds:List D):run pg fds (n+1) f ds=(match fds[f]? with|some a=>bV pg (run pg fds n) a ds|none=>.bad):=rfl
structure Gt where
 fns:List Tz
 cls:List Tz
 g4:List Tz
structure bw where
 N:List Tz
 sc:Ve
 aa:List Nat
abbrev gp(a:Ve)(x:Tz):Bool:=a.names.lookup x==Z .local||a.names.lookup x==Z .cell||a.names.lookup x==Z .free
abbrev gf(a:Ve)(x:Tz):Bool:=a.names.lookup x==Z .local||a.names.lookup x==Z .cell
abbrev gb(a:Ve)(x:Tz):Bool:=a.names.lookup x==Z .globalImplicit
abbrev okN(x:Tz):Bool:=!(x==("__debug__":Tz))&&!(x==("__classdict__":Tz))&&!(x==("__name__":Tz))
abbrev yb:Op->Operator->Bool
 |.add,.Add=>J|.sub,.Sub=>J|.mul,.Mult=>J|.fdiv,.FloorDiv=>J|.mod,.Mod=>J|.and,.BitAnd=>J|.xor,.BitXor=>J
 |_,_=>Th
def oc:ik->CmpOp->Bool
 |.mem,.In=>J|.gg,.NotIn=>J|.eq,.Eq=>J|.ne,.NotEq=>J|.lt,.Lt=>J|.le,.LtE=>J|.gt,.Gt=>J|.ge,.GtE=>J|.is,.Is=>J|.oJ,.IsNot=>J 
 |_,_=>Th
abbrev litOk:D->Const->Bool
 |.az,.none=>J
 |.ag a,.bool b=>a==b
 |.int i,.int j=>i==j
 |.str x,.str y=>x==y
 |_,_=>Th
abbrev tyName:Ty->Tz
 |.int=>"int"|.bool=>"bool"|.str=>"str"|.tuple=>"tuple"|.cls _=>""
def mV:dp->Tz
 |.len=>"len"|.sorted=>"sorted"|.sum=>"sum"|.max=>"max"|.all=>"all"|.any=>"any"|.str=>"str"|.int=>"int"|_=>""
def mW:dp->Bool
 |.len=>J|.sorted=>J|.sum=>J|.max=>J|.all=>J|.any=>J|.str=>J|.int=>J|_=>Th
abbrev nameOf:TG->Option Tz
 |.Name x _=>Z x
 |_=>Y
def namesOf:List TG->Option (List Tz)
 |[]=>Z []
 |e::a=>match nameOf e,namesOf a with|some x,Z xs=>Z (x::xs)|_,_=>Y
def dh:Nat->TG->Option (List Tz)
 |0,.Name x _=>Z [x]
 |k+1,.Tuple a _ _=>match namesOf a with|some xs=>if xs.length=k+1 then Z xs else Y|none=>Y
 |_,_=>Y
abbrev mask(N xs:List Tz):List Str:=N.map λn=>if xs.contains n then(((".":Tz))++n) else n
abbrev i2:I->Bool
 |.zip _ _=>J
 |_=>Th
abbrev pE:I->Bool
 |.seq _=>J
 |.c8 _=>J
 |_=>Th
abbrev mM:TG->Bool
 |.ListComp ..=>Th
 |_=>J
def cD(g:Gt)(a:Ve)(x:Tz):Bool:=gb a x&&!(g.fns.contains x)&&!(g.cls.contains x)&&!(g.g4.contains x)
abbrev di:TG->Option Tz
 |.Name x _=>Z x
 |_=>Y
abbrev nG:TG->Option Const
 |.Constant c _ _=>Z c
 |_=>Y
abbrev p6:TG->Option (List TG)
 |.Tuple a _ _=>Z a
 |_=>Y
abbrev nH:TG->Option (List TG)
 |.List a _=>Z a
 |_=>Y
abbrev Av:TG->Option (TG×Operator×TG)
 |.BinOp x o y _=>Z (x,o,y)
 |_=>Y
abbrev lz:TG->Option (UnaryOp×TG)
 |.UnaryOp o x _=>Z (o,x)
 |_=>Y
abbrev nF:TG->Option (TG×List CmpOp×List TG)
 |.Compare x os ys _=>Z (x,os,ys)
 |_=>Y
abbrev vBool:TG->Option (BoolOp×List TG×Vb)
 |.BoolOp o a p=>Z (o,a,p)
 |_=>Y
abbrev kd:TG->Option (TG×TG)
 |.Subscript x y _=>Z (x,y)
 |_=>Y
abbrev AA:TG->Option (Option TG×Option TG×Option TG)
 |.Slice l h t _=>Z (l,h,t)
 |_=>Y
abbrev nE:TG->Option (TG×List TG×List Vv)
 |.Call f a b _=>Z (f,a,b)
 |_=>Y
def d2(x:TG):Option (Tz×List TG):=match nE x with
 |some (f,a,[])=>(match di f with|some y=>Z (y,a)|none=>Y)
 |_=>Y
abbrev pY:TG->Option (TG×Tz×Vb)
 |.Attribute o n p=>Z (o,n,p)
 |_=>Y
abbrev Ax:TG->Option (TG×List Comprehension×Ve)
 |.ListComp x a b _=>Z (x,a,b)
 |_=>Y
def tyB(g:Gt)(ct:bw)(n:Tz):Ty->Bool
 |.cls c=>gb ct.sc n&&okN n&&(if c=1000 then n==("ValueError":Tz)&&cD g ct.sc n else g.cls[c]?==Z n)
 |t=>n==tyName t&&cD g ct.sc n
def tyP(g:Gt)(ct:bw)(n:Tz):Ty->Bool
 |.cls _=>Th
 |t=>n==tyName t&&cD g ct.sc n
def lA(g:Gt)(ct:bw)(x:Tz)(t:Ty)(e y:TG):Option Expr:=match di y with
 |some n=>if x==("isinstance":Tz)&&cD g ct.sc x&&tyP g ct n t then Z e else Y
 |none=>Y
def p9(g:Gt)(ct:bw)(x:Tz)(e:TG):Option Expr:=match d2 e with
 |some (y,[a])=>if x==("sorted":Tz)&&cD g ct.sc x&&y==("set":Tz)&&cD g ct.sc y then Z a else Y
 |_=>Y
def AI(g:Gt)(ct:bw)(x:Tz)(p:dp)(a:List TG):Option Expr:=match p with
 |.dV=>(match a with|[e]=>p9 g ct x e|_=>Y)
 |.inst t=>(match a with|[e,y]=>lA g ct x t e y|_=>Y)
 |p=>(match a with|[e]=>if mW p&&x==mV p&&cD g ct.sc x then Z e else Y|_=>Y)
def lU(ct:bw)(a:Ve)(xs:List Tz):Bool:=decide (a.kind=.function)&&a.names.all (λy=>y.2 != .cell)&&a.names.all (λy=>y.2 != .local||a.names.lookup y.1==Z .local)
 && xs.all (λy=>a.names.lookup y==Z .local&&okN y)&&decide xs.Nodup&&a.names.all (λy=>y.2 != .local||xs.contains y.1||y.1==(".0":Tz))
 && a.names.all (λy=>y.2 != .free||(ct.sc.names.lookup y.1==Z .cell||ct.sc.names.lookup y.1==Z .free))&&((mask ct.N xs).zip ct.N).all (λp=>p.1==p.2||a.names.lookup p.1==Y)&&decide (mask ct.N xs++xs).Nodup&&!((mask ct.N xs++xs).contains (".0":Tz))
abbrev oH:TG->Bool
 |.Dict [] [] _=>J
 |_=>Th
abbrev uo:TG->Option (List (Option TG)×List TG)
 |.Dict a b _=>Z (a,b)
 |_=>Y
def um(z:TG):Option (Tz×Tz):=match uo z with
 |some ([Z a],[b])=>(match di a,di b with|some n,Z k=>Z (n,k)|_,_=>Y)
 |_=>Y
def qA(ct:bw)(i:Nat)(n:Tz):Bool:=ct.N[i]?==Z n&&gp ct.sc n&&okN n
def jT(ct:bw)(i:Nat)(n:Tz):Bool:=ct.N[i]?==Z n&&gp ct.sc n&&okN n&&ct.aa.contains i
def j1(ct:bw)(i:Nat)(n:Tz):Bool:=ct.N[i]?==Z n&&gp ct.sc n&&okN n&&!ct.aa.contains i
def p0(z:TG):Option (Tz×Tz):=match kd z with
 |some (x,y)=>(match di x,di y with|some n,Z k=>Z (n,k)|_,_=>Y)
 |none=>Y
def ui(z:TG):Option (Tz×Tz×Vb×TG):=match nE z with
 |some (f,[y],[])=>(match pY f with
  |some (o,n,a)=>(match di o with|some x=>Z (x,n,a,y)|none=>Y)
  |none=>Y)
 |_=>Y
abbrev s9:TG->Bool
 |.Call ..=>Th
 |_=>J
abbrev xU:kk->Tz
 |.join=>"join"|.split=>"split"|.find=>"find"
def ur(z:TG):Option (TG×Tz×Vb×TG):=match nE z with
 |some (f,[y],[])=>(match pY f with|some (o,n,a)=>Z (o,n,a,y)|none=>Y)
 |_=>Y
section
variable(g:Gt)
mutual
noncomputable def a8 (ct:bw) (v:Bool):E->TG->Bool
 |.var i,z=>(match di z with|some x=>ct.N[i]?==Z x&&gp ct.sc x&&okN x&&(v||!ct.aa.contains i)|none=>Th)
 |.lit d,z=>(match nG z with|some c=>litOk d c|none=>Th)
 |.tup a,z=>(match p6 z with|some q=>iD ct a q&&decide (q.length<=1000)|none=>Th)
 |.lst a,z=>(match nH z with|some q=>iD ct a q&&decide (q.length<=1000)|none=>Th)
 |.bin op a b,z=>(match Av z with|some (x,o,y)=>yb op o&&a8 ct J a x&&a8 ct J b y|none=>Th)
 |.neg a,z=>(match lz z with|some (.USub,x)=>a8 ct J a x|_=>Th)
 |.not a,z=>(match lz z with|some (.Not,x)=>a8 ct J a x|_=>Th)
 |.cmp op a b,z=>(match nF z with|some (x,[o],[y])=>oc op o&&a8 ct J a x&&a8 ct J b y|_=>Th)
 |.jA op op' a b c,z=>(match nF z with|some (x,[o,K],[y,w])=>oc op o&&oc op' K&&a8 ct J a x&&a8 ct J b y&&a8 ct J c w|_=>Th)
 |.and a b,z=>(match vBool z with|some (.And,[x,y],_)=>a8 ct J a x&&a8 ct v b y|some (.And,x::y::w::r,p)=>a8 ct J a x&&a8 ct v b (.BoolOp .And (y::w::r) p)|_=>Th)
 |.or a b,z=>(match vBool z with|some (.Or,[x,y],_)=>a8 ct J a x&&a8 ct v b y|some (.Or,x::y::w::r,p)=>a8 ct J a x&&a8 ct v b (.BoolOp .Or (y::w::r) p)|_=>Th)
 |.idx a b,z=>(match kd z with|some (x,y)=>a8 ct J a x&&a8 ct J b y|none=>Th)
 |.slice a lo hi,z=>(match kd z with|some (x,y)=>(match AA y with|some (l,h,Y)=>a8 ct J a x&&lY ct lo l&&lY ct hi h|_=>Th)|none=>Th)
 |.call f a,z=>(match d2 z with|some (x,q)=>g.fns[f]?==Z x&&gb ct.sc x&&okN x&&!q.isEmpty&&iD ct a q|none=>Th)
 |.prim p a,z=>(match d2 z with|some (x,q)=>(match AI g ct x p q with|some e=>a8 ct J a e|none=>Th)|none=>Th)
 |.gH s,z=>(match d2 z with|some (x,[e])=>x==("list":Tz)&&cD g ct.sc x&&pE s&&gC ct J s e|_=>Th)
 |.tupI s,z=>(match d2 z with|some (x,[e])=>x==("tuple":Tz)&&cD g ct.sc x&&pE s&&gC ct J s e|_=>Th)
 |.comp e k s c,z=>(match Ax z with
   |some (x,[⟨t,H,G,0⟩],u)=>(match dh k t with
    |some xs=>(!i2 s||k==2)&&lU ct u xs&&gC ct J s H&&a8 ⟨mask ct.N xs++xs,u,ct.aa⟩ Th e x&&jz ⟨mask ct.N xs++xs,u,ct.aa⟩ c G
    |none=>Th)
   |_=>Th)
 |.rI i j,z=>(match p0 z with|some (n,k)=>qA ct i n&&j1 ct j k|none=>Th)
 |.fu m a b,z=>(match ur z with|some (o,n,C,y)=>n==xU m&&(C.endLine==z.pos.line)&&s9 o&&a8 ct J a o&&a8 ct J b y|none=>Th)
 |.glob j,z=>(match di z with|some x=>g.g4[j]?==Z x&&gb ct.sc x&&okN x|none=>Th)
 |.max2 a b,z=>(match d2 z with|some (x,[y,w])=>x==("max":Tz)&&cD g ct.sc x&&a8 ct J a y&&a8 ct J b w|_=>Th)
 |.rN i j,z=>(match um z with|some (n,k)=>j1 ct i n&&j1 ct j k|none=>Th)
 |.rP,z=>oH z
noncomputable def iD (ct:bw):A->List TG->Bool
 |.nil,[]=>J
 |.cons e a,x::xs=>a8 ct Th e x&&iD ct a xs
 |_,_=>Th
noncomputable def lY (ct:bw):O->Option TG->Bool
 |.none,Y=>J
 |.some e,Z x=>a8 ct J e x
 |_,_=>Th
noncomputable def jz (ct:bw):O->List TG->Bool
 |.none,[]=>J
 |.some e,[x]=>a8 ct J e x
 |_,_=>Th
noncomputable def gC (ct:bw) (v:Bool):I->TG->Bool
 |.seq e,z=>a8 ct v e z
 |.sJ e,z=>a8 ct v e z
 |.nd e,z=>a8 ct v e z
 |.k9 a b,z=>(match d2 z with|some (x,[y,w])=>x==("range":Tz)&&cD g ct.sc x&&a8 ct J a y&&a8 ct J b w|_=>Th)
 |.zip a b,z=>(match d2 z with|some (x,[y,w])=>x==("zip":Tz)&&cD g ct.sc x&&a8 ct v a y&&a8 ct v b w|_=>Th)
 |.c8 a,z=>(match d2 z with|some (x,[y])=>x==("range":Tz)&&cD g ct.sc x&&a8 ct J a y|_=>Th)
 |.rK i,z=>(match di z with|some n=>j1 ct i n|none=>Th)
end
def f9:E->Bool
 |.lst _=>J
 |.comp ..=>J
 |.bin .add _ _=>J
 |.bin .mul _ _=>J
 |.prim .sorted _=>J
 |.prim .dV _=>J
 |.gH _=>J
 |_=>Th
def kD(ct:bw):List Nat->List Tz->Bool
 |[],[]=>J
 |i::a,x::xs=>ct.N[i]?==Z x&&gf ct.sc x&&okN x&&!ct.aa.contains i&&kD ct a xs
 |_,_=>Th
abbrev fG:Ui->Option (List TG×TG)
 |.Assign ts y _=>Z (ts,y)
 |_=>Y
abbrev pP:Ui->Option TG
 |.Expr y _=>Z y
 |_=>Y
abbrev gO:Ui->Option (Option TG)
 |.Return y _=>Z y
 |_=>Y
abbrev nv:Ui->Option (TG×List Ui×List Ui)
 |.If t x y _=>Z (t,x,y)
 |_=>Y
abbrev nu:Ui->Option (TG×TG×List Ui×List Ui)
 |.For t a x y _=>Z (t,a,x,y)
 |_=>Y
abbrev z4:Ui->Option TG
 |.Raise (Z y) Y _=>Z y
 |_=>Y
abbrev t7:Ui->Option (List Ui×List WY×List Ui×List Ui)
 |.Try a h e f _=>Z (a,h,e,f)
 |_=>Y
abbrev Nd:WY->Option TG×Option Tz×List Ui
 |.ExceptHandler t n b _=>(t,n,b)
def n6(ct:bw)(i:Nat)(e:E)(z:Ui):Bool:=match fG z with
 |some ([t],y)=>(match di t with|some x=>ct.N[i]?==Z x&&gf ct.sc x&&okN x&&(!ct.aa.contains i||f9 e)&&a8 g ct Th e y|none=>Th)
 |_=>Th
def n9(ct:bw)(i:Nat)(e:E)(nm:Tz)(z:Ui):Bool:=match pP z with
 |some c=>(match ui c with|some (x,n,a,y)=>(a.endLine==c.pos.line)&&ct.N[i]?==Z x&&gp ct.sc x&&okN x&&ct.aa.contains i&&n==nm&&a8 g ct Th e y|none=>Th)
 |none=>Th
def kC(ct:bw)(i:Nat)(z:Ui):Bool:=match fG z with
 |some ([t],y)=>(match di t with|some x=>ct.N[i]?==Z x&&gf ct.sc x&&okN x&&ct.aa.contains i&&oH y|none=>Th)
 |_=>Th
abbrev t8:Ui->Option (TG×List Ui×List Ui)
 |.While t x y _=>Z (t,x,y)
 |_=>Y
def rt(ct:bw)(i:Nat)(j e:E)(z:Ui):Bool:=match fG z with
 |some ([t],v)=>(match kd t with
  |some (x,y)=>(match di x with|some n=>jT ct i n&&mM v&&a8 g ct Th e v&&a8 g ct J j y|none=>Th)
  |none=>Th)
 |_=>Th
def ro(ct:bw)(i:Nat)(z:Ui):Bool:=match pP z with
 |some c=>(match nE c with
  |some (f,[],[])=>(match pY f with
   |some (o,n,a)=>(match di o with|some x=>n==("pop":Tz)&&(a.endLine==c.pos.line)&&jT ct i x|none=>Th)
   |none=>Th)
  |_=>Th)
 |none=>Th
def rq(ct:bw)(i:Nat)(e:E)(z:Ui):Bool:=match gO z with
 |some (Z y)=>ct.aa.contains i&&a8 g ⟨ct.N,ct.sc,ct.aa.filter λj=>!(j==i)⟩ Th e y
 |_=>Th
def rk(ct:bw)(i j:Nat)(e:E)(z:Ui):Bool:=match fG z with
 |some ([t],v)=>(match p0 t with|some (x,y)=>jT ct i x&&j1 ct j y&&mM v&&a8 g ct Th e v|none=>Th)
 |_=>Th
def rp(ct:bw)(c:Nat)(z:Ui):Bool:=match z4 z with
 |some y=>(match d2 y with
  |some (x,[a])=>(match nG a with|some (.str _)=>c==1&&g.cls[c]?==Z x&&gb ct.sc x&&okN x|_=>Th)
  |_=>Th)
 |none=>Th
def lX(ct:bw)(n:Tz)(k:Nat)(z:TG):Bool:=match d2 z with
 |some (x,[e,d])=>(match di e,di d with|some y,Z t=>x==("isinstance":Tz)&&cD g ct.sc x&&y==n&&tyB g ct t (.cls k)&&(k==1000||decide (k<g.cls.length))|_,_=>Th)
 |_=>Th
def rj(ct:bw)(k:Nat)(t:TG):Bool:=match di t with
 |some x=>g.cls[k]?==Z x&&gb ct.sc x&&okN x
 |none=>Th
def n8(ct:bw)(n:Tz):List Nat->List TG->Bool
 |[],[]=>J
 |k::a,z::b=>lX g ct n k z&&n8 ct n a b
 |_,_=>Th
def rn(ct:bw)(y:Tz)(z:TG):Bool:=match kd z with
 |some (l,w)=>(match nH l with
  |some [a,b]=>(match p6 a,nG b with
   |some [],Z .none=>(match d2 w with
    |some (f,[c])=>f==("int":Tz)&&cD g ct.sc f&&di c==Z y
    |_=>Th)
   |_,_=>Th)
  |_=>Th)
 |none=>Th
def rl (ct : bw) (j i g' : Nat) (n : Tz) (b : List Nat) (k5 d : Nat) (e h k : Ui) : Bool := match fG e with
  | some ([m], l) => (match di m with
    | some x => (match nH l with
      | some t => (match fG h with
        | some ([o], y) => (match di o with
          | some a => (match vBool y with
            | some (.And, [p, q, s], _) => (match lz s with
              | some (.Not, w) => (match d2 w with
                | some (f, [c]) => (match gO k with
                  | some (Z r) => ct.N[i]? == Z x && ct.sc.names.lookup x == Z .local && okN x && i != j && n8 g ct n b t && lX g ct n k5 p && lX g ct n d q && f == ("any" : Tz) && cD g ct.sc f && di c == Z x && decide (b.length <= 1000)
                      && ct.N[g']? == Z a && ct.sc.names.lookup a == Z .local && okN a && g' != j && g' != i && rn g ct a r
                  | _ => Th)
                | _ => Th)
              | _ => Th)
            | _ => Th)
          | none => Th)
        | _ => Th)
      | none => Th)
    | none => Th)
  | _ => Th
def rm(ct:bw)(h:eK)(n:Option Tz)(st:List Ui):Bool:=match n with
 |some n=>ct.N[h.j]?==Z n&&ct.sc.names.lookup n==Z .local&&okN n&&(match st with|[a,b,c]=>rl g ct h.j h.i h.g n h.aX h.k5 h.mA a b c|_=>Th)
 |none=>Th
def vq(ct:bw)(k:Nat)(h:eK)(q:Option TG×Option Tz×List Ui):Bool:=match q.1 with
 |some t=>rj g ct k t&&rm g ct h q.2.1 q.2.2
 |none=>Th
def n7(ct:bw)(e:E)(z:Ui):Bool:=match pP z with
 |some y=>mM y&&a8 g ct J e y
 |none=>Th
def oa(ct:bw):S->Ui->Bool
 |.expr e,z=>n7 g ct e z
 |.asg i e,z=>n6 g ct i e z
 |.iff c (.cons a .nil) (.cons b .nil),z=>(match nv z with|some (t,[x],[y])=>a8 g ct J c t&&oa ct a x&&oa ct b y|_=>Th)
 |_,_=>Th
def ru(ct:bw)(s:S)(k:Nat)(h:eK)(z:Ui):Bool:=match t7 z with
 |some ([a],[b],[],[])=>oa g ct s a&&decide (k<2)&&vq g ct k h (Nd b)
 |_=>Th
mutual
noncomputable def rr (ct:bw):S->Ui->Bool
 |.asg i e,z=>n6 g ct i e z
 |.app i e,z=>n9 g ct i e "append" z
 |.ret e,z=>(match gO z with|some (Z y)=>a8 g ct Th e y|_=>Th)
 |.m6 i,z=>(match gO z with|some (Z y)=>(match di y with|some x=>jT ct i x|none=>Th)|_=>Th)
 |.tF i,z=>(match gO z with|some (Z y)=>(match di y with|some x=>jT ct i x|none=>Th)|_=>Th)
 |.iff c a b,z=>(match nv z with|some (t,x,y)=>a8 g ct J c t&&gB ct a x&&gB ct b y|none=>Th)
 |.fo k ts s b,z=>(match nu z with|some (t,d,x,[])=>(match dh k t with|some xs=>(!i2 s||k==2)&&kD ct ts xs&&decide ts.Nodup&&gC g ct Th s d&&gB ct b x|none=>Th)|_=>Th)
 |.md i,z=>kC ct i z
 |.me i,z=>kC ct i z
 |.mf i j e,z=>rk g ct i j e z
 |.qb c b,z=>(match t8 z with|some (t,x,[])=>a8 g ct J c t&&gB ct b x|_=>Th)
 |.h6 i j e,z=>rt g ct i j e z
 |.pop i,z=>ro ct i z
 |.ps i e,z=>rq g ct i e z
 |.raise c,z=>rp g ct c z
 |.expr e,z=>n7 g ct e z
 |.jc s k h,z=>ru g ct s k h z
 |.ext i e,z=>n9 g ct i e "extend" z
noncomputable def gB (ct:bw):B->List Ui->Bool
 |.nil,[]=>J
 |.cons s b,x::xs=>rr ct s x&&gB ct b xs
 |_,_=>Th
end
mutual
noncomputable def HC:S->List Nat
 |.app j _=>[j]
 |.md j=>[j]
 |.me j=>[j]
 |.qb _ b=>gI b
 |.h6 j _ _=>[j]
 |.pop j=>[j]
 |.mf j _ _=>[j]
 |.ext j _=>[j]
 |.iff _ a b=>gI a++gI b
 |.fo _ _ _ b=>gI b
 |_=>[]
noncomputable def gI:B->List Nat
 |.nil=>[]
 |.cons s b=>HC s++gI b
end
def iE(N:List Tz)(a:hr):Ui->Bool
 |.FunctionDef name args body [] Y [] b Y bind _ =>
   decide (b.kind=.function)&&!b.isCoroutine&&!b.isGenerator&&decide N.Nodup&&N.length==a.np+a.nl
   && (args.args.map (·.arg))==N.take a.np&&args.posonlyargs.isEmpty&&args.vararg.isNone&&args.kwonlyargs.isEmpty&&args.kwarg.isNone&&args.defaults.isEmpty&&args.kw_defaults.isEmpty
   && (N.take a.np).all (λx=>gf b x)&&b.names.all (λy=>y.2 != .free)
   && (gI a.body).all (λi=>decide (a.np<=i)&&decide (i<N.length))&&gB g ⟨N,b,gI a.body⟩ a.body body
 |_=>Th
end
end ζ
end
local macro_rules|`({$x:term})=>`(.cons $x .nil)|`({$x:term,$y:term,*})=>`(.cons $x ({$y:term,*}))
local macro_rules(kind:=scientific)|`($n:scientific)=>match n.getScientific with|(m,_,0)=>`(.var $(Lean.quote m))|(m,_,_)=>`(.lit (.int $(Lean.quote m)))
section
namespace aG
open PySem ζ
abbrev u4 :B:={.ret (.and (.prim (.inst .int) 0e0) (.not (.prim (.inst .bool) 0e0)))}
abbrev qM(a b:Nat):B:={.ret (.and (.call a {0e0}) (.jA .le .le 1e1 0e0 (.glob b)))}
abbrev qO :B:={.ret (.prim .all (.comp (.cmp .lt 1e0 2e0) 2 (.zip 0e0 (.slice 0e0 (.some 1e1) .none)) .none))}
abbrev qL(b a:Nat):B:={.iff (.or (.not (.prim (.inst .tuple) 0e0)) (.not (.call a {1e0}))) {.ret (.lit (.ag Th))} .nil,.iff (.or (.cmp .eq (.prim .len 0e0) 0e1) (.not (.prim .all (.comp (.call a {2e0}) 0 (.seq 0e0) .none)))) {.ret (.lit (.ag Th))} .nil,.ret (.and (.cmp .ge (.idx 0e0 0e1) 0e1) (.and (.cmp .lt (.idx 0e0 (.neg 1e1)) 1e0) (.call b {0e0})))}
abbrev qK(a:Nat):B:={.ret (.and (.prim (.inst .tuple) 0e0) (.prim .all (.comp (.call a {2e0,1e0}) 0 (.seq 0e0) .none)))}
abbrev q3 :B:={.ret (.prim .all (.comp (.cmp .mem 2e0 1e0) 0 (.seq 0e0) .none))}
abbrev q4(a:Nat):B:={.ret (.prim .any (.comp (.call a {0e0,2e0}) 0 (.seq 1e0) .none))}
abbrev q9(a:Nat):B:={.asg 1 (.prim .dV 0e0),.asg 2 (.lst .nil),.fo 0 [3] (.seq 1e0) {.asg 4 (.comp 5e0 0 (.seq 1e0) (.some (.cmp .gt (.prim .len 5e0) (.prim .len 3e0)))),.iff (.not (.call a {3e0,4e0})) {.app 2 3e0} .nil},.ret (.tupI (.seq 2e0))}
abbrev q5(a:Nat):B:={.ret (.prim .all (.comp (.call a {.tup {2e0},0e0}) 0 (.c8 1e0) .none))}
abbrev qN(c d a b:Nat):B:={.iff (.or (.not (.prim (.inst .tuple) 0e0)) (.cmp .ne (.prim .len 0e0) 2e1)) {.ret (.lit (.ag Th))} .nil,.asg 1 (.idx 0e0 0e1),.asg 2 (.idx 0e0 1e1),.iff (.or (.not (.call b {1e0})) (.not (.call a {2e0,1e0}))) {.ret (.lit (.ag Th))} .nil,.ret (.and (.cmp .eq 2e0 (.call d {2e0})) (.call c {2e0,1e0}))}
abbrev q6(b a:Nat):B:={.iff (.cmp .gg 0e0 (.glob b)) {.raise a} .nil,.ret (.prim .int 0e0)}
abbrev q7(a:Nat):B:={.ret (.tupI (.seq (.comp (.call a {1e0}) 0 (.seq (.fu .split 0e0 (.lit (.str (Tf " "))))) .none)))}
abbrev q8(b d c a:Nat):B:={.iff (.not (.prim (.inst .str) 0e0)) {.raise a} .nil,.asg 1 (.fu .split 0e0 (.lit (.str (Tf " cell ")))),.asg 2 (.fu .split (.idx 1e0 0e1) (.lit (.str (Tf " ")))),.iff (.or (.cmp .ne (.prim .len 2e0) 2e1) (.cmp .ne (.idx 2e0 0e1) (.lit (.str (Tf "net"))))) {.raise a} .nil,.asg 3 (.tup {.call c {.idx 2e0 1e1},.tupI (.seq (.comp (.call d {4e0}) 0 (.seq (.slice 1e0 (.some 1e1) .none)) .none))}),.iff (.not (.call b {3e0})) {.raise a} .nil,.ret 3e0}
def qQ :B:={.iff (.cmp .lt 1e0 (.prim .len 0e0)) {.ret (.idx 0e0 1e0)} .nil,.ret 0e1}
abbrev qW(a:Nat):B:={.asg 2 (.bin .mod (.bin .mul (.bin .add (.bin .add (.call a {0e0,1e0}) (.bin .mul 7919e1 1e0)) 1e1) 48271e1) 2147483647e1),.ret (.bin .mod (.bin .add (.bin .add (.bin .mul 2e0 2e0) (.bin .mul 7e1 2e0)) 1e0) 2147483629e1)}
abbrev qS :B:={.asg 2 (.bin .mod (.bin .mul (.bin .add (.bin .add 0e0 (.bin .mul 104729e1 1e0)) 17e1) 69621e1) 2147483647e1),.ret (.bin .mod (.bin .add (.bin .add (.bin .mul 2e0 2e0) (.bin .mul 3e1 2e0)) 1e0) 2147483629e1)}
abbrev qV :B:={.ret (.cmp .eq (.comp 2e0 0 (.seq 0e0) (.some (.cmp .gg 2e0 1e0))) (.lst .nil))}
def q1(a:Nat):B:={.asg 1 (.lst .nil),.fo 0 [2] (.seq (.prim .dV 0e0)) {.iff (.cmp .eq (.comp 3e0 0 (.seq 0e0) (.some (.and (.cmp .ne 2e0 3e0) (.call a {2e0,3e0})))) (.lst .nil)) {.app 1 2e0} .nil},.ret (.tupI (.seq 1e0))}
abbrev ky(a:Nat):B:={.iff (.cmp .eq 1e0 0e1) {.ret (.lst {.tup .nil})} .nil,.asg 2 (.lst .nil),.fo 0 [3] (.c8 (.prim .len 0e0)) {.asg 2 (.bin .add 2e0 (.comp (.bin .add (.tup {.idx 0e0 3e0}) 4e0) 0 (.seq (.call a {.slice 0e0 (.some (.bin .add 3e0 1e1)) .none,.bin .sub 1e0 1e1})) .none))},.ret 2e0}
abbrev q0(a:Nat):B:={.asg 2 (.comp (.tup {6e0}) 0 (.c8 1e0) .none),.fo 0 [3] (.c8 (.bin .mod 0e0 9e1)) {.asg 4 (.call a {0e0,3e0}),.asg 5 (.tupI (.seq (.comp 6e0 0 (.c8 1e0) (.some (.cmp .lt (.bin .mod (.call a {4e0,6e0}) 5e1) (.bin .add 2e1 (.bin .mod 4e0 2e1))))))),.iff (.cmp .ne 5e0 (.tup .nil)) {.app 2 5e0} .nil},.m6 2}
abbrev qX(c a b:Nat):B:={.asg 2 (.bin .add 1e1 (.bin .mod 0e0 1e0)),.asg 3 (.bin .mod (.bin .fdiv 0e0 12e1) 8e1),.iff (.cmp .eq 3e0 0e1) {.asg 4 (.call a {.tupI (.c8 2e0),.bin .add 1e1 (.bin .mod (.bin .fdiv 0e0 96e1) 2e0)})} {.iff (.and (.cmp .eq 3e0 1e1) (.cmp .gt 1e0 5e1)) {.asg 2 6e1,.asg 4 (.comp (.tup {0e1,.bin .add 1e1 5e0,.bin .add 1e1 (.bin .mod (.bin .add 5e0 1e1) 5e1)}) 0 (.c8 5e1) .none),.asg 4 (.bin .add 4e0 (.comp (.tup {.bin .add 1e1 5e0,.bin .add 1e1 (.bin .mod (.bin .add 5e0 1e1) 5e1),.bin .add 1e1 (.bin .mod (.bin .add 5e0 3e1) 5e1)}) 0 (.c8 5e1) .none))} {.iff (.and (.cmp .eq 3e0 2e1) (.cmp .gt 1e0 6e1)) {.asg 2 7e1,.asg 4 (.comp (.tup {5e0,.bin .mod (.bin .add 5e0 1e1) 7e1,.bin .mod (.bin .add 5e0 3e1) 7e1}) 0 (.c8 7e1) .none),.asg 4 (.bin .add 4e0 (.comp (.tup {5e0,.bin .mod (.bin .add 5e0 2e1) 7e1,.bin .mod (.bin .add 5e0 3e1) 7e1}) 0 (.c8 7e1) .none))} {.asg 4 (.call b {.bin .fdiv 0e0 96e1,2e0})}}},.ret (.tup {2e0,.call c {.comp (.tupI (.seq (.prim .sorted 5e0))) 0 (.seq 4e0) .none}})}
abbrev qY :B:={.ret (.and (.prim (.inst .int) 0e0) (.and (.not (.prim (.inst .bool) 0e0)) (.jA .le .le 1e0 0e0 2e0)))}
abbrev qU(a:Nat):B:={.iff (.or (.not (.prim (.inst .tuple) 0e0)) (.cmp .eq 0e0 (.tup .nil))) {.ret (.lit (.ag Th))} .nil,.iff (.cmp .ne (.comp 2e0 0 (.seq 0e0) (.some (.not (.call a {2e0,0e1,.bin .sub 1e0 1e1})))) (.lst .nil)) {.ret (.lit (.ag Th))} .nil,.ret (.cmp .eq (.comp 2e0 0 (.k9 1e1 (.prim .len 0e0)) (.some (.cmp .ge (.idx 0e0 (.bin .sub 2e0 1e1)) (.idx 0e0 2e0)))) (.lst .nil))}
abbrev lT(c a b:Nat):B:={.iff (.or (.not (.prim (.inst .tuple) 0e0)) (.or (.cmp .ne (.prim .len 0e0) 2e1) (.not (.call b {.idx 0e0 0e1,1e1,8e1})))) {.ret (.lit (.ag Th))} .nil,.iff (.or (.not (.prim (.inst .tuple) (.idx 0e0 1e1))) (.cmp .ne (.comp 3e0 0 (.seq (.idx 0e0 1e1)) (.some (.not (.call a {3e0,.idx 0e0 0e1})))) (.lst .nil))) {.ret (.lit (.ag Th))} .nil,.iff (.cmp .ne (.idx 0e0 1e1) (.call c {.idx 0e0 1e1})) {.ret (.lit (.ag Th))} .nil,.asg 1 (.lst .nil),.fo 0 [2] (.seq (.idx 0e0 1e1)) {.asg 1 (.bin .add 1e0 (.gH (.seq 2e0)))},.ret (.cmp .eq (.prim .dV 1e0) (.gH (.c8 (.idx 0e0 0e1))))}
abbrev q2 :B:={.asg 1 (.bin .add (.lit (.str (Tf "net "))) (.prim .str (.idx 0e0 0e1))),.fo 0 [2] (.seq (.idx 0e0 1e1)) {.asg 1 (.bin .add 1e0 (.lit (.str (Tf " cell")))),.fo 0 [3] (.seq 2e0) {.asg 1 (.bin .add (.bin .add 1e0 (.lit (.str (Tf " ")))) (.prim .str 3e0))}},.ret 1e0}
abbrev qR :B:={.asg 2 (.fu .split 0e0 (.lit (.str (Tf " ")))),.asg 3 (.bin .mod (.bin .fdiv 1e0 8e1) (.prim .len 2e0)),.asg 4 (.bin .mod (.bin .fdiv 1e0 8e1) (.bin .add (.prim .len 0e0) 1e1)),.asg 5 (.bin .mod 1e0 8e1),.iff (.cmp .eq 5e0 0e1) {.ret (.bin .add (.slice 0e0 .none (.some 4e0)) (.slice 0e0 (.some (.bin .add 4e0 1e1)) .none))} .nil,.iff (.cmp .lt 5e0 3e1) {.asg 6 (.idx (.lit (.str (Tf " 0123578cn-+\n"))) (.bin .mod (.bin .fdiv 1e0 7e1) 13e1)),.ret (.bin .add (.bin .add (.slice 0e0 .none (.some 4e0)) 6e0) (.slice 0e0 (.some (.bin .sub (.bin .add 4e0 5e0) 1e1)) .none))} .nil,.iff (.cmp .eq 5e0 3e1) {.ret (.fu .join (.lit (.str (Tf " "))) (.bin .add (.slice 2e0 .none (.some 3e0)) (.slice 2e0 (.some (.bin .add 3e0 1e1)) .none)))} .nil,.iff (.cmp .eq 5e0 4e1) {.ret (.fu .join (.lit (.str (Tf " "))) (.bin .add (.bin .add (.slice 2e0 .none (.some 3e0)) (.slice 2e0 (.some 3e0) (.some (.bin .add 3e0 1e1)))) (.slice 2e0 (.some 3e0) .none)))} .nil,.iff (.cmp .eq 5e0 5e1) {.asg 7 (.bin .add (.slice 2e0 (.some (.bin .add 3e0 1e1)) (.some (.bin .add 3e0 2e1))) (.slice 2e0 (.some 3e0) (.some (.bin .add 3e0 1e1)))),.ret (.fu .join (.lit (.str (Tf " "))) (.bin .add (.bin .add (.slice 2e0 .none (.some 3e0)) 7e0) (.slice 2e0 (.some (.bin .add 3e0 2e1)) .none)))} .nil,.asg 8 (.fu .split (.lit (.str (Tf "net cell 0 1 2 3 4 5 6 7 8 00 9 -1"))) (.lit (.str (Tf " ")))),.ret (.fu .join (.lit (.str (Tf " "))) (.bin .add (.bin .add (.slice 2e0 .none (.some 3e0)) (.lst {.idx 8e0 (.bin .mod (.bin .fdiv 1e0 7e1) 14e1)})) (.slice 2e0 (.some (.bin .add 3e0 1e1)) .none)))}
def qZ :B:={.iff (.or (.not (.jA .le .le 1e1 (.prim .len 0e0) 1e0)) (.cmp .ne (.comp 2e0 0 (.nd 0e0) (.some (.cmp .lt (.fu .find (.lit (.str (Tf "0123456789"))) 2e0) 0e1))) (.lst .nil))) {.ret (.lit .az)} .nil,.ret (.prim .int 0e0)}
abbrev qT(c b a:Nat):B:={.asg 1 (.fu .split 0e0 (.lit (.str (Tf " ")))),.iff (.or (.cmp .lt (.prim .len 1e0) 2e1) (.cmp .ne (.idx 1e0 0e1) (.lit (.str (Tf "net"))))) {.ret (.lit .az)} .nil,.asg 2 (.lst .nil),.fo 0 [3] (.seq (.slice 1e0 (.some 2e1) .none)) {.iff (.cmp .eq 3e0 (.lit (.str (Tf "cell")))) {.app 2 (.tup .nil)} {.iff (.or (.cmp .eq 2e0 (.lst .nil)) (.cmp .is (.call a {3e0,1e1}) (.lit .az))) {.ret (.lit .az)} {.h6 2 (.neg 1e1) (.bin .add (.idx 2e0 (.neg 1e1)) (.tup {.prim .int 3e0}))}}},.asg 4 (.tup {.call a {.idx 1e0 1e1,1e1},.tupI (.seq 2e0)}),.iff (.or (.not (.call b {4e0})) (.cmp .ne (.call c {4e0}) 0e0)) {.ret (.lit .az)} .nil,.ret 4e0}
abbrev BQ(g e b d f c a:Nat):B:={.jc (.asg 1 (.call g {0e0})) e ⟨2,3,4,[b,d,f,c],a,1000⟩,.ret (.idx (.lst {1e0,.tup .nil}) (.prim .int (.cmp .is 1e0 (.lit .az))))}
abbrev qP(g f a d e c b h:Nat):B:={.asg 1 (.call h {.call b {0e0,0e1},8e1}),.asg 2 (.call c {1e0}),.asg 3 (.call b {0e0,1e1}),.iff (.cmp .eq (.bin .mod (.bin .fdiv 3e0 6e1) 9e1) 5e1) {.ret (.cmp .is (.call a {.call c {.tup {9e1,.tup {.tupI (.c8 9e1)}}}}) (.lit .az))} .nil,.fo 0 [4] (.c8 (.bin .mul (.bin .mod 3e0 3e1) (.bin .add 1e1 (.bin .mod (.bin .fdiv 3e0 3e1) 2e1)))) {.asg 2 (.call d {2e0,.call e {3e0,4e0}})},.asg 5 (.call a {2e0}),.ret (.and (.cmp .eq 5e0 (.call f {2e0})) (.or (.cmp .is 5e0 (.lit .az)) (.call g {5e0})))}
end aG
end
section
namespace da
open PySem ζ
abbrev fds:List hr:=[
 ⟨1,0,aG.u4⟩,
 ⟨1,0,aG.qM 0 0⟩,
 ⟨1,0,aG.qO⟩,
 ⟨2,0,aG.qL 2 0⟩,
 ⟨2,0,aG.qK 3⟩,
 ⟨2,0,aG.q3⟩,
 ⟨2,0,aG.q4 5⟩,
 ⟨1,4,aG.q9 6⟩,
 ⟨2,0,aG.q5 6⟩,
 ⟨1,2,aG.qN 8 7 4 1⟩,
 ⟨1,0,aG.q6 1 1⟩,
 ⟨1,0,aG.q7 10⟩,
 ⟨1,3,aG.q8 9 11 10 1⟩,
 ⟨2,0,aG.qQ⟩,
 ⟨2,1,aG.qW 13⟩,
 ⟨2,1,aG.qS⟩,
 ⟨2,0,aG.qV⟩,
 ⟨1,2,aG.q1 16⟩,
 ⟨2,2,aG.ky 18⟩,
 ⟨2,4,aG.q0 15⟩,
 ⟨2,3,aG.qX 17 18 19⟩,
 ⟨3,0,aG.qY⟩,
 ⟨2,0,aG.qU 21⟩,
 ⟨1,2,aG.lT 17 22 21⟩,
 ⟨1,3,aG.q2⟩,
 ⟨2,7,aG.qR⟩,
 ⟨2,0,aG.qZ⟩,
 ⟨1,4,aG.qT 24 23 26⟩,
 ⟨1,4,aG.BQ 12 1 2 3 4 5 0⟩,
 ⟨1,5,aG.qP 23 27 28 25 15 24 14 20⟩]
abbrev cs:List D:=[.int 8,.kt [.str (Tf "0"),.str (Tf "1"),.str (Tf "2"),.str (Tf "3"),.str (Tf "4"),.str (Tf "5"),.str (Tf "6"),.str (Tf "7"),.str (Tf "8")]]
abbrev up:fg:=λc=>match c with|0=>[0,1000]|1=>[1,0,1000]|2=>[2,0,1000]|3=>[3,0,1000]|4=>[4,0,1000]|5=>[5,0,1000]|_=>[]
def pg:ck:=⟨up,cs⟩
abbrev x3:List (List Tz):=[
 (["thing"]:List Tz),
 (["thing"]:List Tz),
 (["row"]:List Tz),
 (["thing","many"]:List Tz),
 (["thing","many"]:List Tz),
 (["cell","other"]:List Tz),
 (["cell","others"]:List Tz),
 (["some","distinct","tops","cell","longer"]:List Tz),
 (["some","many"]:List Tz),
 (["thing","many","tops"]:List Tz),
 (["word"]:List Tz),
 (["text"]:List Tz),
 (["text","parts","head","net"]:List Tz),
 (["_law_script","_law_k"]:List Tz),
 (["_law_script","_law_k","_law_drawn_here"]:List Tz),
 (["_law_number_here","_law_k","_law_drawn_here"]:List Tz),
 (["_law_cell","_law_other"]:List Tz),
 (["_law_some_here","_law_found_here","_law_cell"]:List Tz),
 (["_law_cell","_law_size","_law_found_here","_law_at"]:List Tz),
 (["_law_number_here","_law_many","_law_found_here","_law_k","_law_drawn_here","_law_cell"]:List Tz),
 (["_law_number_here","_law_most","_law_many","_law_kind","_law_some_here"]:List Tz),
 (["_law_thing","_law_low","_law_high"]:List Tz),
 (["_law_thing","_law_many"]:List Tz),
 (["_law_thing","_law_corners","_law_top"]:List Tz),
 (["_law_net_here","_law_found_here","_law_top","_law_corner"]:List Tz),
 (["_law_text","_law_number_here","_law_words","_law_at","_law_place","_law_kind","_law_sign","_law_turned","_law_some_here"]:List Tz),
 (["_law_word","_law_most"]:List Tz),
 (["_law_text","_law_words","_law_tops_here","_law_word","_law_found_here"]:List Tz),
 (["_law_text","_law_found_here","e","_law_some_here","_law_good"]:List Tz),
 (["_law_script","_law_net_here","_law_text","_law_number_here","_law_k","_law_found_here"]:List Tz)]
abbrev gt:Gt:=⟨[("is_whole":Tz),("is_many":Tz),("is_rising":Tz),("is_cell":Tz),("are_cells":Tz),("lies_in":Tz),("lies_in_one":Tz),("uppermost":Tz),("meet_all_corners":Tz),("is_net":Tz),("number_of":Tz),("numbers_of":Tz),("read":Tz),("_law_cell_at":Tz),("_law_mixed":Tz),("_law_drawn":Tz),("_law_lies":Tz),("_law_tops":Tz),("_law_parts":Tz),("_law_some":Tz),("_law_net":Tz),("_law_number":Tz),("_law_is_cell":Tz),("_law_is_net":Tz),("_law_written":Tz),("_law_changed":Tz),("_law_number_of":Tz),("_law_due":Tz),("_law_found":Tz),("law":Tz)],["HoleError","NoText","NoNet","NoRound","NotFree","NoRoom"],["MOST_CORNERS","DIGITS"]⟩
end da
end
section
namespace ζ
open PySem
section
variable{pg:ck}{Φ:c2}{ae:aB}
def qC(pg:ck)(Φ:c2)(ae:aB)(r:R D)(b:E):R D:=r>>=λx=>dW x>>=λk=>if k then ev pg Φ ae b else .ok (.ag Th)
def pz(pg:ck)(Φ:c2)(r:R cx)(b:B):R cx:=r>>=λx=>match x with
 |.aS a=>cY pg Φ a b
 |.bt d=>.ok (.bt d)
def sA(pg:ck)(Φ:c2)(ae:aB)(r:R D)(a b:B):R cx:=r>>=λx=>dW x>>=λk=>if k then cY pg Φ ae a else cY pg Φ ae b
def turn(pg:ck)(Φ:c2)(k:Nat)(ts:List Nat)(b:B)(d:D)(ae:aB):R cx:=dX k d>>=λa=>cY pg Φ (h1 ts a ae) b
def elem(pg:ck)(Φ:c2)(ae:aB)(e:E)(k:Nat)(c:O)(d:D):R (Option D):=dX k d>>=λa=>hU (hI pg Φ (ae++a) c)>>=λb=>if b then ev pg Φ (ae++a) e>>=λy=>.ok (Z y) else .ok Y
def wa(i:Nat){d:D}(h:ae[i]?=Z (Z d)):ev pg Φ ae (.var i)=.ok d:=O7 sh h
def oj(i:Nat):ev pg Φ ae (.var i)=sh ae[i]?:=ak rfl
def Ee{d:D}{r:aB}:ev pg Φ (Z d::r) (.var 0)=.ok d:=ak rfl
def Ef{o:Option D}{r:aB}{i:Nat}:ev pg Φ (o::r) (.var (i+1))=ev pg Φ r (.var i):=ak rfl
def v7(d:D):ev pg Φ ae (.lit d)=.ok d:=ak rfl
def Ed(a:A):ev pg Φ ae (.tup a)=fm pg Φ ae a>>=λds=>.ok (.tup ds):=ak rfl
def D7(a:A):ev pg Φ ae (.lst a)=fm pg Φ ae a>>=λds=>.ok (.lst ds):=ak rfl
def D1(op:Op)(a b:E):ev pg Φ ae (.bin op a b)=ev pg Φ ae a>>=λx=>ev pg Φ ae b>>=λy=>dq op x y:=ak rfl
def D8(a:E):ev pg Φ ae (.neg a)=ev pg Φ ae a>>=λx=>dw x>>=λi=>.ok (.int (-i)):=ak rfl
def D9(a:E):ev pg Φ ae (.not a)=ev pg Φ ae a>>=λx=>dW x>>=λb=>.ok (.ag (!b)):=ak rfl
def D3(op:ik)(a b:E):ev pg Φ ae (.cmp op a b)=ev pg Φ ae a>>=λx=>ev pg Φ ae b>>=λy=>bL op x y>>=λc=>.ok (.ag c):=ak rfl
def D0(a b:E):ev pg Φ ae (.and a b)=qC pg Φ ae (ev pg Φ ae a) b:=ak rfl
def D6(a b:E):ev pg Φ ae (.idx a b)=ev pg Φ ae a>>=λx=>ev pg Φ ae b>>=λy=>dR x y:=ak rfl
def Ec(a:E)(lo hi:O):ev pg Φ ae (.slice a lo hi)=ev pg Φ ae a>>=λx=>iI pg Φ ae lo>>=λl=>iI pg Φ ae hi>>=λh=>h7 x l h:=ak rfl
def D2(f:Nat)(a:A):ev pg Φ ae (.call f a)=fm pg Φ ae a>>=λds=>Φ f ds:=ak rfl
def Eb(p:dp)(a:E):ev pg Φ ae (.prim p a)=ev pg Φ ae a>>=λx=>gK pg.up p x:=ak rfl
def v9(s:I):ev pg Φ ae (.tupI s)=eA pg Φ ae s>>=λds=>.ok (.tup ds):=ak rfl
def D5(e:E)(k:Nat)(s:I)(c:O):ev pg Φ ae (.comp e k s c)=eA pg Φ ae s>>=λds=>bf (elem pg Φ ae e k c) ds>>=λys=>.ok (.lst ys):=ak rfl
def x5{α:Type}(a:α):hU (.ok a)=.ok a:=ak rfl
def v5:fm pg Φ ae .nil=.ok []:=ak rfl
def v3(e:E)(a:A):fm pg Φ ae (.cons e a)=ev pg Φ ae e>>=λx=>fm pg Φ ae a>>=λxs=>.ok (x::xs):=ak rfl
def DY:iI pg Φ ae .none=.ok none:=ak rfl
def DZ(e:E):iI pg Φ ae (.some e)=ev pg Φ ae e>>=λx=>dw x>>=λi=>.ok (Z i):=ak rfl
def DS:hI pg Φ ae .none=.ok true:=ak rfl
def DT(e:E):hI pg Φ ae (.some e)=ev pg Φ ae e>>=λx=>dW x:=ak rfl
def rY(e:E):eA pg Φ ae (.seq e)=ev pg Φ ae e>>=λx=>cf x:=ak rfl
def DU(a:E):eA pg Φ ae (.c8 a)=ev pg Φ ae a>>=λx=>dw x>>=λi=>fw 0 i:=ak rfl
def om(j:Nat){d:D}(h:pg.cs[j]?=Z d):ev pg Φ ae (.glob j)=.ok d:=O7 sg h
def Et(i:Nat)(j e:E):ex pg Φ ae (.h6 i j e)=ev pg Φ ae e>>=λd=>f3 ae[i]?>>=λ_=>ev pg Φ ae j>>=λk=>nc ae[i]? k d>>=λx=>.ok (.aS (ae.set i (Z x))):=ak rfl
def Ld(ds:List D)(j:Int)(d:D):nc (Z (Z (.lst ds))) (.int j) d=putAt ds j d:=ak rfl
def Jg(up:fg)(d:D):gK up .all d=cf d>>=λxs=>hB xs>>=λb=>.ok (.ag b):=ak rfl
def Jh(up:fg)(d:D):gK up .any d=cf d>>=λxs=>iA xs>>=λb=>.ok (.ag b):=ak rfl
def Fl(xs:List D)(i:Int):dR (.kt xs) (.int i)=(match c7 xs i with|some d=>.ok d|none=>.bad):=ak rfl
def hJ(m:kk)(a b:E):ev pg Φ ae (.fu m a b)=ev pg Φ ae a>>=λx=>n4 x>>=λz=>ev pg Φ ae b>>=λy=>hS m z y:=ak rfl
def gU(x:Tz):n4 (.str x)=.ok x:=ak rfl
def DW(e:E):eA pg Φ ae (.nd e)=ev pg Φ ae e>>=λx=>pA x:=ak rfl
def DV(a b:E):eA pg Φ ae (.k9 a b)=ev pg Φ ae a>>=λx=>dw x>>=λi=>ev pg Φ ae b>>=λy=>dw y>>=λj=>fw i j:=ak rfl
def DX(a b:E):eA pg Φ ae (.zip a b)=ev pg Φ ae a>>=λx=>ev pg Φ ae b>>=λy=>qe x y:=ak rfl
def CJ(i j:Int):bL .ge (.int i) (.int j)=.ok (decide (j<=i)):=ak rfl
def lZ(x:D):bL .is x .az=.ok (iQ x):=ak rfl
def CN(x:D)(ys:List D):bL .gg x (.kt ys)=fE (eC x ys):=ak rfl
def w0(x:Tz)(i:Int):dR (.str x) (.int i)=if x.length<=SZ then(match c7 x.cps.toList i with|some c=>.ok (.str ⟨#[c]⟩)|none=>.bad) else .bad:=ak rfl
def pF(x:Tz)(lo hi:Option Int):h7 (.str x) lo hi=if x.length<=SZ then .ok (.str (Txt.slice x lo hi)) else .bad:=ak rfl
def len_str(x:Tz):hP (.str x)=if x.length<=SZ then .ok (.int x.length) else .bad:=ak rfl
def add_str(x y:Tz):dq .add (.str x) (.str y)=if x.length+y.length<=SZ then .ok (.str (x++y)) else .bad:=ak rfl
def Jm(up:fg)(i:Int):gK up .str (.int i)=h9 i:=ak rfl
def pk(up:fg)(d:D):gK up .int d=intOf d:=ak rfl
def Nz(xs ys:List D):qe (.tup xs) (.tup ys)=.ok (et xs ys):=ak rfl
def BY(x y:D):dX 2 (.tup [x,y])=.ok [Z x,Z y]:=ak rfl
def JY{a:Nat}{b:B}(x y z:D):bV pg Φ ⟨3,a,b⟩ [x,y,z]=hH (cY pg Φ (Z x::Z y::Z z::TJ a Y) b):=ak rfl
def DD(ae:aB):hH (.ok (.aS ae))=.ok .az:=ak rfl
def CL(x:D)(ys:List D):bL .mem x (.lst ys)=eC x ys:=ak rfl
def DM(i j:Bool):c5 (.ag i) (.ag j)=.ok (i==j):=ak rfl
def MT(i j:Nat)(b:B)(x y:D):turn pg Φ 2 [i,j] b (.tup [x,y]) ae=cY pg Φ ((ae.set i (Z x)).set j (Z y)) b:=ak rfl
def DA(e:E)(c:O)(x y:D):elem pg Φ ae e 2 c (.tup [x,y])=hU (hI pg Φ (ae++[Z x,Z y]) c)>>=λb=>if b then ev pg Φ (ae++[Z x,Z y]) e>>=λy=>.ok (Z y) else .ok none:=ak rfl
def Ft(up:fg)(xs:List D):gc up (.tup xs) .tuple=.ok true:=ak rfl
def Fq(up:fg)(d:D):gc up d .int=.ok (match d with|.int _=>J|.ag _=>J|_=>Th):=ak rfl
def BC(b:Bool):dW (.ag b)=.ok b:=ak rfl
def BD(i:Int):dw (.int i)=.ok i:=ak rfl
def K5(xs:List D):cf (.tup xs)=.ok xs:=ak rfl
def K4(xs:List D):cf (.lst xs)=.ok xs:=ak rfl
def BX(d:D):dX 0 d=.ok [Z d]:=ak rfl
def Be(b:E):qC pg Φ ae (.ok (.ag J)) b=ev pg Φ ae b:=ak rfl
def Bd(b:E):qC pg Φ ae (.ok (.ag Th)) b=.ok (.ag Th):=ak rfl
def Ek:cY pg Φ ae .nil=.ok (.aS ae):=ak rfl
def Ej(s:S)(b:B):cY pg Φ ae (.cons s b)=pz pg Φ (ex pg Φ ae s) b:=ak rfl
def K1(b:B):pz pg Φ (.ok (.aS ae)) b=cY pg Φ ae b:=ak rfl
def K2(d:D)(b:B):pz pg Φ (.ok (.bt d)) b=.ok (.bt d):=ak rfl
def wb(i:Nat)(e:E):ex pg Φ ae (.asg i e)=ev pg Φ ae e>>=λd=>.ok (.aS (ae.set i (Z d))):=ak rfl
def ti(pg:ck)(Φ:c2)(ae:aB)(r:R D)(b:E):R D:=r>>=λx=>dW x>>=λk=>if k then .ok (.ag J) else ev pg Φ ae b
def Ea(a b:E):ev pg Φ ae (.or a b)=ti pg Φ ae (ev pg Φ ae a) b:=ak rfl
def Iq(b:E):ti pg Φ ae (.ok (.ag J)) b=.ok (.ag J):=ak rfl
def Ip(b:E):ti pg Φ ae (.ok (.ag Th)) b=ev pg Φ ae b:=ak rfl
def Ep(c:Nat):ex pg Φ ae (.raise c)=.exc c:=ak rfl
def pV(pg:ck)(r:R cx)(k:Nat)(h:eK):R cx:=Ak r λc=>fQ pg c k h
def wc(s:S)(k:Nat)(h:eK):ex pg Φ ae (.jc s k h)=pV pg (ex pg Φ ae s) k h:=ak rfl
def Em(e:E):ex pg Φ ae (.expr e)=ev pg Φ ae e>>=λ_=>.ok (.aS ae):=ak rfl
def Aj(x:cx)(k:Nat)(h:eK):pV pg (.ok x) k h=.ok x:=ak rfl
def Ai(c k:Nat)(h:eK):pV pg (.exc c) k h=fQ pg c k h:=ak rfl
def v8(s:I):ev pg Φ ae (.gH s)=eA pg Φ ae s>>=λds=>.ok (.lst ds):=ak rfl
def D4(op op':ik)(a b c:E):ev pg Φ ae (.jA op op' a b c)=ev pg Φ ae a>>=λx=>ev pg Φ ae b>>=λy=>bL op x y>>=λk=>if k then ev pg Φ ae c>>=λz=>bL op' y z>>=λd=>.ok (.ag d) else .ok (.ag Th):=ak rfl
def CK(i j:Int):bL .le (.int i) (.int j)=.ok (decide (i<=j)):=ak rfl
def Ji(up:fg)(t:Ty)(d:D):gK up (.inst t) d=gc up d t>>=λb=>.ok (.ag b):=ak rfl
def K0(c:Nat)(b:B):pz pg Φ (.exc c) b=.exc c:=ak rfl
def DC(c:Nat):hH (.exc c)=.exc c:=ak rfl
def El(i:Nat)(e:E):ex pg Φ ae (.app i e)=f3 ae[i]?>>=λ_=>ev pg Φ ae e>>=λd=>n3 ae[i]? d>>=λx=>.ok (.aS (ae.set i (Z x))):=ak rfl
def Es(i:Nat):ex pg Φ ae (.m6 i)=oT ae[i]?>>=λd=>.ok (.bt d):=ak rfl
def G1(ds:List D):oT (Z (Z (.lst ds)))=.ok (.lst ds):=ak rfl
def Er(e:E):ex pg Φ ae (.ret e)=ev pg Φ ae e>>=λd=>.ok (.bt d):=ak rfl
def Eo(c:E)(a b:B):ex pg Φ ae (.iff c a b)=sA pg Φ ae (ev pg Φ ae c) a b:=ak rfl
def Fn(a b:B):sA pg Φ ae (.ok (.ag J)) a b=cY pg Φ ae a:=ak rfl
def Fm(a b:B):sA pg Φ ae (.ok (.ag Th)) a b=cY pg Φ ae b:=ak rfl
def En(k:Nat)(ts:List Nat)(s:I)(b:B):ex pg Φ ae (.fo k ts s b)=eA pg Φ ae s>>=λds=>forL (turn pg Φ k ts b) ds ae:=ak rfl
def JW{a:Nat}{b:B}(x:D):bV pg Φ ⟨1,a,b⟩ [x]=hH (cY pg Φ (Z x::TJ a Y) b):=ak rfl
def JX{a:Nat}{b:B}(x y:D):bV pg Φ ⟨2,a,b⟩ [x,y]=hH (cY pg Φ (Z x::Z y::TJ a Y) b):=ak rfl
def DE(d:D):hH (.ok (.bt d))=.ok d:=ak rfl
def Jj(up:fg)(d:D):gK up .len d=hP d:=ak rfl
def Jk(up:fg)(d:D):gK up .sorted d=cf d>>=λxs=>sorted xs:=ak rfl
def Jl(up:fg)(d:D):gK up .dV d=cf d>>=λxs=>dV xs:=ak rfl
def xt(xs:List D):hP (.tup xs)=.ok (.int xs.length):=ak rfl
def GP(xs:List D):hP (.lst xs)=.ok (.int xs.length):=ak rfl
def vv(x y:D):bL .eq x y=c5 x y:=ak rfl
def vw(x y:D):bL .ne x y=fE (c5 x y):=ak rfl
def rA(x y:D):bL .lt x y=jQ x y:=ak rfl
def cmp_gt(i j:Int):bL .gt (.int i) (.int j)=.ok (decide (j<i)):=ak rfl
def CM(x:D)(ys:List D):bL .mem x (.tup ys)=eC x ys:=ak rfl
def CP(x:D)(ys:List D):bL .gg x (.tup ys)=fE (eC x ys):=ak rfl
def CO(x:D)(ys:List D):bL .gg x (.lst ys)=fE (eC x ys):=ak rfl
def xI(i j:Int):jQ (.int i) (.int j)=.ok (decide (i<j)):=ak rfl
def HU(b:Bool):fE (.ok b)=.ok (!b):=ak rfl
def DO(i j:Int):c5 (.int i) (.int j)=.ok (i==j):=ak rfl
def vV{x y:D}(h:bg 60 x=J)(h':bg 60 y=J):c5 x y=.ok (ek x y):=by simp only[c5,h,h',Rz,O6]
def Hi{x:D}{ys:List D}(h:bg 60 x=J)(h':ys.all (bg 60)=J):eC x ys=.ok (memD x ys):=by simp only[eC,h,h',Rz,O6]
def add_int(i j:Int):dq .add (.int i) (.int j)=.ok (.int (i+j)):=ak rfl
def sub_int(i j:Int):dq .sub (.int i) (.int j)=.ok (.int (i-j)):=ak rfl
def qy(xs ys:List D):dq .add (.tup xs) (.tup ys)=if xs.length+ys.length<=SZ then .ok (.tup (xs++ys)) else .bad:=ak rfl
def kr(xs ys:List D):dq .add (.lst xs) (.lst ys)=if xs.length+ys.length<=SZ then .ok (.lst (xs++ys)) else .bad:=ak rfl
def mul_int(i j:Int):dq .mul (.int i) (.int j)=if (-dJ<i/\i<dJ)\/(-dJ<j/\j<dJ) then .ok (.int (i*j)) else .bad:=ak rfl
def wi(i j:Int):dq .fdiv (.int i) (.int j)=if 0<j/\j<1073741824 then .ok (.int (i / j)) else .bad:=ak rfl
def mod_int(i j:Int):dq .mod (.int i) (.int j)=if 0<j then .ok (.int (i%j)) else .bad:=ak rfl
def g5(xs:List D)(i:Int):dR (.tup xs) (.int i)=(match c7 xs i with|some d=>.ok d|none=>.bad):=ak rfl
def jL(xs:List D)(i:Int):dR (.lst xs) (.int i)=(match c7 xs i with|some d=>.ok d|none=>.bad):=ak rfl
def pG(xs:List D)(lo hi:Option Int):h7 (.tup xs) lo hi=.ok (.tup (cut xs lo hi)):=ak rfl
def lq(xs:List D)(lo hi:Option Int):h7 (.lst xs) lo hi=.ok (.lst (cut xs lo hi)):=ak rfl
def ri(xs:List D):f3 (Z (Z (.lst xs)))=.ok ():=ak rfl
def lO(xs:List D)(d:D):n3 (Z (Z (.lst xs))) d=if xs.length<SZ then .ok (.lst (xs++[d])) else .bad:=ak rfl
def K8{o v:Option D}{r:aB}:(o::r:aB).set 0 v=v::r:=ak rfl
def Lb{o v:Option D}{r:aB}{i:Nat}:(o::r:aB).set (i+1) v=o::r.set i v:=ak rfl
def EV{o:Option D}{r:aB}:(o::r:aB)[0]?=Z o:=ak rfl
def E1{o:Option D}{r:aB}{i:Nat}:(o::r:aB)[i+1]?=r[i]?:=ak rfl
def JS{α:Type}(x:α):TJ 0 x=[]:=ak rfl
def JT{α:Type}(n:Nat)(x:α):TJ (n+1) x=x::TJ n x:=ak rfl
def MS(i:Nat)(b:B)(d:D):turn pg Φ 0 [i] b d ae=cY pg Φ (ae.set i (Z d)) b:=ak rfl
def Dz(e:E)(c:O)(d:D):elem pg Φ ae e 0 c d=hU (hI pg Φ (ae++[Z d]) c)>>=λb=>if b then ev pg Φ (ae++[Z d]) e>>=λy=>.ok (Z y) else .ok none:=ak rfl
end
end ζ
end
section
def ζ.DNA:=And.intro (And.intro (And.intro (And.intro (And.intro (And.intro (@ζ.Ee) (And.intro (@ζ.Ef) (@ζ.v7))) (And.intro (And.intro (@ζ.Ed) (@ζ.D7)) (And.intro (@ζ.D1) (@ζ.D9)))) (And.intro (And.intro (@ζ.D3) (And.intro (@ζ.D0) (@ζ.D6))) (And.intro (And.intro (@ζ.Ec) (@ζ.D2)) (And.intro (@ζ.Eb) (@ζ.v9))))) (And.intro (And.intro (And.intro (@ζ.D5) (And.intro (@ζ.x5) (@ζ.v5))) (And.intro (And.intro (@ζ.v3) (@ζ.DY)) (And.intro (@ζ.DZ) (@ζ.DS)))) (And.intro (And.intro (And.intro (@ζ.DT) (@ζ.rY)) (And.intro (@ζ.DU) (@ζ.BC))) (And.intro (And.intro (@ζ.BD) (@ζ.K5)) (And.intro (@ζ.K4) (@ζ.BX)))))) (And.intro (And.intro (And.intro (And.intro (@ζ.Be) (And.intro (@ζ.Bd) (@ζ.Ek))) (And.intro (And.intro (@ζ.Ej) (@ζ.K1)) (And.intro (@ζ.K2) (@ζ.wb)))) (And.intro (And.intro (@ζ.El) (And.intro (@ζ.ri) (@ζ.Er))) (And.intro (And.intro (@ζ.Es) (@ζ.G1)) (And.intro (@ζ.Eo) (@ζ.Fn))))) (And.intro (And.intro (And.intro (@ζ.Fm) (And.intro (@ζ.En) (@ζ.JW))) (And.intro (And.intro (@ζ.JX) (@ζ.DE)) (And.intro (@ζ.Jj) (@ζ.Jk)))) (And.intro (And.intro (And.intro (@ζ.Jl) (@ζ.Jg)) (And.intro (@ζ.Jh) (@ζ.Nz))) (And.intro (And.intro (@ζ.BY) (@ζ.JY)) (And.intro (@ζ.DD) (@ζ.CL))))))) (And.intro (And.intro (And.intro (And.intro (And.intro (@ζ.DM) (And.intro (@ζ.MT) (@ζ.DA))) (And.intro (And.intro (@ζ.Ft) (@ζ.D8)) (And.intro (@ζ.D4) (@ζ.Ea)))) (And.intro (And.intro (@ζ.v8) (And.intro (@ζ.DV) (@ζ.DX))) (And.intro (And.intro (@ζ.Iq) (@ζ.Ip)) (And.intro (@ζ.K0) (@ζ.Em))))) (And.intro (And.intro (And.intro (@ζ.Ep) (And.intro (@ζ.wc) (@ζ.Aj))) (And.intro (And.intro (@ζ.Ai) (@ζ.DC)) (And.intro (@ζ.Ji) (@ζ.Jm)))) (And.intro (And.intro (And.intro (@ζ.CK) (@ζ.CJ)) (And.intro (@ζ.xt) (@ζ.GP))) (And.intro (And.intro (@ζ.vv) (@ζ.vw)) (And.intro (@ζ.rA) (@ζ.cmp_gt)))))) (And.intro (And.intro (And.intro (And.intro (@ζ.CM) (And.intro (@ζ.CP) (@ζ.CO))) (And.intro (And.intro (@ζ.xI) (@ζ.HU)) (And.intro (@ζ.DO) (@ζ.add_int)))) (And.intro (And.intro (And.intro (@ζ.sub_int) (@ζ.pG)) (And.intro (@ζ.lq) (@ζ.K8))) (And.intro (And.intro (@ζ.Lb) (@ζ.EV)) (And.intro (@ζ.E1) (@ζ.JS))))) (And.intro (And.intro (And.intro (@ζ.JT) (And.intro (@ζ.MS) (@ζ.Dz))) (And.intro (And.intro (@ζ.R.hb) (@ζ.R.Eu)) (And.intro (@UT.{0}) (@UU.{0})))) (And.intro (And.intro (And.intro (@Tt.{0}) (@TQ.{0})) (And.intro (@RR) (@O6.{1}))) (And.intro (And.intro (@PG) (@RY)) (And.intro (@N4) (@Ox.{1})))))))
end
local macro_rules | `(tactic| simp![$xs,*] $[$l]?) => `(tactic| simp only [ζ.DNA, Nat.reduceAdd, $xs,*] $[$l]?)
local macro_rules | `(tactic| simp! $[$l:location]?) => `(tactic| simp only [ζ.DNA, Nat.reduceAdd] $[$l]?)
section
namespace aH
open ζ
theorem l6:∀{ds:List D},(∀d∈ds,f d=.ok (g d))->bf f ds=.ok (ds.filterMap g)
 |[],_=>rfl
 |d::ds,h=>by
  have a:=h d To;have h2:=l6 (f:=f) (g:=g) (ds:=ds) λx b=>h x (Tp _ b)
  unfold bf;rw[a];simp only[R.hb];rw[h2];simp only[R.hb,TY];cases g d<;>rfl
def vA(h:∀d∈ds,f d=.ok (Z (g d))):bf f ds=.ok (ds.map g):=by
 rw[l6 (g:=λd=>Z (g d)) h];congr 1
 induction ds with
 |nil=>rfl
 |cons d ds a=>simp
theorem rd{α:Type}(p):∀xs:List α,fA (xs.map λx=>.ag (p x))=Z (xs.map p)
 |[]=>rfl
 |x::xs=>by simp only[Tr,fA,rd p xs,Uq]
def jv{α:Type}(p)(xs:List α):hB (xs.map λx=>.ag (p x))=.ok (xs.all p):=by
 unfold hB;rw[rd];simp only[Ue];rfl
def Bg{α:Type}(p)(xs:List α):iA (xs.map λx=>.ag (p x))=.ok (xs.any p):=by
 unfold iA;rw[rd];simp only[V3];rfl
theorem wD{α:Type}{f:α->D}(I:List α->aB->Prop)(all):∀(xs pre:List α)(a:aB),all=pre++xs->I pre a ->
  (∀pre x post a,all=pre++x::post->I pre a->∃b,g (f x) a=.ok (.aS b)/\I (pre++[x]) b)->∃b,forL g (xs.map f) a=.ok (.aS b)/\I all b
 |[],pre,a,e,h,_=>⟨a,rfl,by rw[e];simpa using h⟩
 |x::xs,pre,a,e,h,c=>by
  obtain⟨j,e1,d⟩:=c pre x xs a e h;obtain⟨k,e2,i⟩:=wD I all xs (pre++[x]) j (by rw[e];simp) d c;refine⟨k,?_,i⟩;simp only[Tr,forL,e1,R.hb];exact e2
def iL{α:Type}{f:α->D}(I:List α->aB->Prop)(xs)(a)(h:I [] a)(b:∀pre x post a,xs=pre++x::post->I pre a->∃nL,g (f x) a=.ok (.aS nL)/\I (pre++[x]) nL):∃nL,forL g (xs.map f) a=.ok (.aS nL)/\I xs nL :=
 wD I xs xs [] a rfl h b
abbrev af(c:List Int):D:=.tup (c.map .int)
theorem rW:∀a b:List Int,gY (a.map .int) (b.map .int)=decide (a=b)
 |[],[]=>rfl
 |[],_::_=>rfl
 |_::_,[]=>rfl
 |x::a,y::b=>by
  show(x==y&&gY (a.map .int) (b.map .int))=_;rw[rW a b]
  by_cases c:x=y
  .subst c;by_cases h2:a=b<;>simp[h2]
  .simp[c]
def mg(a b):ek (af a) (af b)=decide (a=b):=rW a b
theorem rV:∀a b:List (List Int),gY (a.map af) (b.map af)=decide (a=b)
 |[],[]=>rfl
 |[],_::_=>rfl
 |_::_,[]=>rfl
 |x::a,y::b=>by
  show(ek (af x) (af y)&&gY (a.map af) (b.map af))=_;rw[mg,rV a b]
  by_cases c:x=y
  .subst c;by_cases h2:a=b<;>simp[h2]
  .simp[c]
abbrev lexLt:List Int->List Int->Bool
 |[],[]=>Th
 |[],_::_=>J
 |_::_,[]=>Th
 |x::xs,y::ys=>if x=y then lexLt xs ys else decide (x<y)
theorem mH:∀a b:List Int,g7 (a.map .int) (b.map .int)=Z (lexLt a b)
 |[],[]=>rfl
 |[],_::_=>rfl
 |_::_,[]=>rfl
 |x::a,y::b=>by
  show(if (x==y)=J then g7 (a.map .int) (b.map .int) else Z (decide (x<y)))=Z (if x=y then lexLt a b else decide (x<y));rw[mH a b]
  by_cases h:x=y<;>simp[h]
def mG(a b):g6 (af a) (af b)=Z (lexLt a b):=mH a b
def Hg(x)(xs:List Int):memD (.int x) (xs.map .int)=decide (x∈xs):=by
 unfold memD
 induction xs with
 |nil=>simp
 |cons y ys a =>
  rw[Tr,Uu,a];show(y==x||_)=_
  by_cases h:y=x
  .subst h;simp
  .have:¬x=y:=λe=>h e.symm
   simp[h,this]
theorem sO:∀a:List Int,lexLt a a=Th
 |[]=>rfl
 |x::a=>by simp[lexLt,sO a]
theorem sP:∀{a b c:List Int},lexLt a b=J->lexLt b c=J->lexLt a c=J
 |[],[],_,h,_=>by simp[lexLt]at h
 |[],_::_,[],_,h=>by simp[lexLt]at h
 |[],_::_,_::_,_,_=>rfl
 |_::_,[],_,h,_=>by simp[lexLt]at h
 |_::_,_::_,[],_,h=>by simp[lexLt]at h
 |x::a,y::b,z::c,d,h2=>by
  simp only[lexLt]at *
  split at d<;>split at h2
  .rename_i e1 e2;subst e1;subst e2;rw[if_pos rfl];exact sP d h2
  .rename_i e1 e2;subst e1;rw[if_neg e2];exact h2
  .rename_i e1 e2;subst e2;rw[if_neg e1];exact d
  .rename_i e1 e2;simp only[Ov]at d h2;rw[if_neg ⋯];simp;lia
theorem sN:∀a b:List Int,a≠b->lexLt a b=J\/lexLt b a=J
 |[],[],h=>absurd rfl h
 |[],_::_,_=>.inl rfl
 |_::_,[],_=>.inr rfl
 |x::a,y::b,h=>by
  simp only[lexLt]
  by_cases e:x=y
  .subst e;have h':a≠b:=λe=>h (by rw[e])
   simpa using sN a b h'
  .have c:¬y=x:=λz=>e z.symm
   rw[if_neg e,if_neg c];simp only[Ov];lia
section
variable{α:Type}
abbrev ins(lt:α->α->Bool)(x:α):List α->List α
 |[]=>[x]
 |y::ys=>if lt y x=J then y::ins lt x ys else x::y::ys
def bo(lt:α->α->Bool):List α->List α
 |[]=>[]
 |x::xs=>ins lt x (bo lt xs)
abbrev br[DecidableEq α]:List α->List α
 |[]=>[]
 |x::xs=>if x∈xs then br xs else x::br xs
variable{lt:α->α->Bool}
theorem w2(h:∀a b,g6 (f a) (f b)=Z (lt a b))(x):∀ys:List α,oD (f x) (ys.map f)=(ins lt x ys).map f
 |[]=>rfl
 |y::ys=>by
  simp only[Tr,oD,ins,h,O4]
  split
  .simp[w2 h x ys]
  .rfl
theorem h8(h:∀a b,g6 (f a) (f b)=Z (lt a b)):∀xs:List α,fx (xs.map f)=(bo lt xs).map f
 |[]=>rfl
 |x::xs=>by simp only[Tr,fx,bo,h8 h xs,w2 h]
theorem l9[DecidableEq α](h:∀a b,ek (f a) (f b)=decide (a=b)):∀xs:List α,hF (xs.map f)=(br xs).map f
 |[]=>rfl
 |x::xs=>by
  have e:(xs.map f).any (ek (f x))=decide (x∈xs):=by
   rw[V3]
   induction xs with
   |nil=>simp
   |cons y ys c=>simp only[Uu,c,Yx,h,N3];by_cases q:x=y<;>simp[q]
  simp only[Tr,hF,br,e,l9 h xs,Ov]
  split<;>rfl
theorem oY(x z):∀ys:List α,z∈ins lt x ys<->z=x\/z∈ys
 |[]=>by simp[ins]
 |y::ys=>by
  unfold ins
  split
  .simp only[N3,oY x z ys];constructor
   .rintro(h|h|h)
    .exact .inr (.inl h)
    .exact .inl h
    .exact .inr (.inr h)
   .rintro(h|h|h)
    .exact .inr (.inl h)
    .exact .inl h
    .exact .inr (.inr h)
  .simp
theorem iU(z):∀xs:List α,z∈bo lt xs<->z∈xs
 |[]=>by simp[bo]
 |x::xs=>by unfold bo;rw[oY,iU z xs];simp
theorem xr(x):∀ys:List α,(ins lt x ys).length=ys.length+1
 |[]=>rfl
 |y::ys=>by unfold ins;split<;>simp[xr x ys]
theorem mE:∀xs:List α,(bo lt xs).length=xs.length
 |[]=>rfl
 |x::xs=>by unfold bo;rw[xr,mE xs];simp
theorem g8[DecidableEq α](z):∀xs:List α,z∈br xs<->z∈xs
 |[]=>by simp[br]
 |x::xs=>by
  unfold br
  split
  .rename_i h;rw[g8 z xs,N3];exact⟨.inr,λq=>q.elim (λe=>e▸h) id⟩
  .simp[g8 z xs]
theorem jY[DecidableEq α]:∀xs:List α,(br xs).Nodup
 |[]=>Q7
 |x::xs=>by
  unfold br
  split
  .exact jY xs
  .rename_i h;exact Pd.mpr ⟨λq=>h ((g8 x xs).mp q),jY xs⟩
structure eu(lt:α->α->Bool):Prop where
 en:∀a,lt a a=Th
 cB:∀{a b c},lt a b=J->lt b c=J->lt a c=J
 conn:∀a b,a≠b->lt a b=J\/lt b a=J
def c1(lt:α->α->Bool)(xs:List α):Prop:=xs.Pairwise λa b=>lt a b=J
theorem u0(L:eu lt)(x):∀{ys:List α},c1 lt ys->x∉ys->c1 lt (ins lt x ys)
 |[],_,_=>PV _ _
 |y::ys,h,b=>by
  obtain⟨a,h2⟩:=OA.mp h;have d:x≠y:=λe=>b (by simp[e])
  unfold ins
  split
  .rename_i q;refine OA.mpr ⟨λz hz=>?_,u0 L x h2 λq=>b (Tp _ q)⟩;rcases(oY x z ys).mp hz with e|e
   .subst e;exact q
   .exact a z e
  .rename_i q;have c:lt x y=true:=(L.conn x y d).resolve_right q;refine OA.mpr ⟨λz hz=>?_,h⟩;rcases N3.mp hz with e|e
   .subst e;exact c
   .exact L.cB c (a z e)
theorem ku(L:eu lt):∀{xs:List α},xs.Nodup->c1 lt (bo lt xs)
 |[],_=>VD
 |x::xs,h=>u0 L x (ku L (Pd.mp h).2) λq=>(Pd.mp h).1 ((iU x xs).mp q)
def c1.nodup(L:eu lt)(h:c1 lt xs):xs.Nodup:=Si (λ{a b} q e=>by subst e;rw[L.en]at q;cases q) h
theorem ks(L:eu lt):∀{xs ys:List α},c1 lt xs->c1 lt ys->(∀z,z∈xs<->z∈ys)->xs=ys
 |[],[],_,_,_=>rfl
 |[],y::_,_,_,h=>absurd ((h y).mpr To) (by simp)
 |x::_,[],_,_,h=>absurd ((h x).mp To) (by simp)
 |x::xs,y::ys,f,g,h=>by
  obtain⟨x1,k⟩:=OA.mp f;obtain⟨d,l⟩:=OA.mp g;have e:x=y:=by
   rcases N3.mp ((h x).mp To) with e|e
   .exact e
   .rcases N3.mp ((h y).mpr To) with c|c
    .exact c.symm
    .have a:=d x e;have b:=x1 y c;have:=L.cB a b;rw[L.en]at this;cases this
  subst e;have i:x∉xs:=λq=>by have:=x1 x q;rw[L.en]at this;cases this
  have j:x∉ys:=λq=>by have:=d x q;rw[L.en]at this;cases this
  rw[ks L k l λz=>?_];constructor
  .intro hz;rcases N3.mp ((h z).mp (Tp _ hz)) with e|e
   .subst e;exact absurd hz i
   .exact e
  .intro hz;rcases N3.mp ((h z).mpr (Tp _ hz)) with e|e
   .subst e;exact absurd hz j
   .exact e
def LB(L:eu lt)(h:c1 lt xs):bo lt xs=xs:=ks L (ku L (h.nodup L)) h λz=>iU z xs
theorem rH[DecidableEq α]:∀xs:List α,(br xs).length<=xs.length
 |[]=>N2 _
 |x::xs=>by unfold br;have:=rH xs;split<;>simp<;>lia
theorem jZ[DecidableEq α]:∀{xs ys:List α},xs.Nodup->(∀z∈xs,z∈ys)->xs.length<=ys.length
 |[],_,_,_=>Od _
 |x::xs,ys,h,a=>by
  obtain⟨c,h2⟩:=Pd.mp h;have b:=a x To;have:=jZ (xs:=xs) (ys:=ys.erase x) h2 λz hz=>by
   have d:z≠x:=λe=>c (e▸hz)
   exact(List.mem_erase_of_ne d).mpr (a z (Tp _ hz))
  rw[VG b]at this;have f:0<ys.length:=List.length_pos_of_mem b;simp only[Tt];lia
end
def mF:eu lexLt:=⟨sO,sP,sN⟩
abbrev ltI(a b:Int):Bool:=decide (a<b)
def fD:eu ltI:=⟨λa=>by simp[ltI],λc h2=>by simp[ltI]at *;lia,λa b h=>by simp[ltI];lia⟩
def oU(a:List Int):(a.map D.int).all (dS 0)=true:=by simp[Ue,dS]
def vG{cs:List (List Int)}(b:∀c∈cs,c≠[]):(cs.map af).all kM=true:=by
 rw[Ue,Oi];intro c a;cases c with
 |nil=>exact absurd rfl (b [] a)
 |cons x c=>show(dS 0 (.int x)&&(c.map D.int).all (dS 0))=J;rw[oU];rfl
def Ls(h:cs.length<=255):sorted (cs.map .int)=.ok (.lst ((bo ltI cs).map .int)):=by
 unfold sorted ft;rw[oU];simp[h8 (f:=D.int) (lt:=ltI) λa b=>rfl,h]
def zU{cs:List (List Int)}(a:∀c∈cs,c≠[])(h:(br cs).length<=255):dV (cs.map af)=.ok (.lst ((bo lexLt (br cs)).map af)):=by
 unfold dV ft;rw[vG a,l9 mg,h8 (lt:=lexLt) mG];simp[h]
def vT(a b):ek (.int a) (.int b)=decide (a=b):=Bool.beq_eq_decide_eq a b
def LC(h:(br cs).length<=255):dV (cs.map .int)=.ok (.lst ((bo ltI (br cs)).map .int)):=by
 unfold dV ft;rw[oU,l9 (f:=D.int) vT,h8 (f:=D.int) (lt:=ltI) λa b=>rfl];simp[h]
def ll(n)(i):bg n (.int i)=true:=by cases n<;>rfl
def pC(n)(c:List Int):(c.map D.int).all (bg n)=true:=by simp[Ue,ll]
def tO(n)(c):bg (n+1) (af c)=true:=pC n c
def nf(n)(cs:List (List Int)):(cs.map af).all (bg (n+1))=true:=by simp[Ue,tO]
def xQ(x)(c:List Int):eC (.int x) (c.map .int)=.ok (decide (x∈c)):=by
 unfold eC;rw[ll,pC,Hg];rfl
def DN(a b):c5 (af a) (af b)=.ok (decide (a=b)):=by unfold c5;rw[tO,tO,mg];rfl
def vW(a b:List (List Int)):c5 (.tup (a.map af)) (.tup (b.map af))=.ok (decide (a=b)):=by
 have h:∀a:List (List Int),bg 60 (.tup (a.map af))=true:=λa=>nf 58 a
 unfold c5;rw[h,h];exact O7 R.ok (rV a b)
def DP(a b:List Int):c5 (.lst (a.map .int)) (.lst (b.map .int))=.ok (decide (a=b)):=by
 have h:∀a:List Int,bg 60 (.lst (a.map .int))=true:=λa=>pC 59 a
 unfold c5;rw[h,h];exact O7 R.ok (rW a b)
def jD(h:ys.all (bg 59)=J):c5 (.lst ys) (.lst [])=.ok ys.isEmpty:=by
 have a:bg 60 (.lst ys)=true:=h;have h2:bg 60 (.lst [])=true:=rfl;unfold c5;rw[a,h2];cases ys<;>rfl
def vX(h:ys.all (bg 59)=J):c5 (.tup ys) (.tup [])=.ok ys.isEmpty:=by
 have a:bg 60 (.tup ys)=true:=h;have h2:bg 60 (.tup [])=true:=rfl;unfold c5;rw[a,h2];cases ys<;>rfl
section
variable{α:Type}{lt:α->α->Bool}
def kq(lt:α->α->Bool)(xs:List α):Prop:=xs.Pairwise λa b=>lt b a=Th
theorem yz(x):∀ys:List α,(ins lt x ys).Perm (x::ys)
 |[]=>RZ _
 |y::ys=>by
  unfold ins
  split
  .exact(Wx y (yz x ys)).trans (Wy x y ys)
  .exact RZ _
theorem yA:∀xs:List α,(bo lt xs).Perm xs
 |[]=>RZ _
 |x::xs=>(yz x (bo lt xs)).trans (Wx x (yA xs))
def xF(L:eu lt){a b:α}(h:lt a b=J):lt b a=false:=by
 cases q:lt b a with
 |false=>rfl
 |true=>have:=L.cB h q;rw[L.en]at this;cases this
def xE(L:eu lt){a b c:α}(d:lt b a=Th)(h2:lt c b=Th):lt c a=false:=by
 cases q:lt c a with
 |false=>rfl
 |true =>
  by_cases e:a=b
  .subst e;rw[h2]at q;cases q
  .rcases L.conn a b e with w|w
   .have:=L.cB q w;rw[h2]at this;cases this
   .rw[d]at w;cases w
theorem AK(L:eu lt)(x):∀{ys:List α},kq lt ys->kq lt (ins lt x ys)
 |[],_=>PV _ _
 |y::ys,h=>by
  obtain⟨a,h2⟩:=OA.mp h;unfold ins
  split
  .rename_i c;refine OA.mpr ⟨λz hz=>?_,AK L x h2⟩;rcases(oY x z ys).mp hz with rfl|hz
   .exact xF L c
   .exact a z hz
  .rename_i c;refine OA.mpr ⟨λz hz=>?_,h⟩;have c:lt y x=false:=⇑c;rcases N3.mp hz with rfl|hz
   .exact c
   .exact xE L c (a z hz)
theorem AL(L:eu lt):∀xs:List α,kq lt (bo lt xs)
 |[]=>.nil
 |x::xs=>AK L x (AL L xs)
theorem AM(L:eu lt):∀{xs ys:List α},kq lt xs->kq lt ys->xs.Perm ys->xs=ys
 |[],ys,_,_,p=>(List.Perm.nil_eq p)
 |x::xs,[],_,_,p=>by have:=p.length_eq;simp at this
 |x::xs,y::ys,b,d,p=>by
  obtain⟨x1,g⟩:=OA.mp b;obtain⟨h,i⟩:=OA.mp d;have e:x=y:=by
   apply Sb;intro a;have c:y∈xs:=by
    rcases N3.mp (p.mem_iff.mpr To) with q|q
    .exact absurd q.symm a
    .exact q
   have f:x∈ys:=by
    rcases N3.mp (p.mem_iff.mp To) with q|q
    .exact absurd q a
    .exact q
   rcases L.conn x y a with w|w
   .rw[h x f]at w;cases w
   .rw[x1 y c]at w;cases w
  subst e;rw[AM L g i (List.Perm.cons_inv p)]
end
end aH
end
section
namespace d5
open PySem PySem.SetTable
def ix(xs:Array Nat):Prop:=∀(i j a b:Nat),i<j->xs[i]?=Z a->xs[j]?=Z b->a<b
def qp(xs:Array Nat)(j p:Nat):Prop:=∀(q a:Nat),q<p->xs[q]?=Z a->a<j
def ql(xs:Array Nat)(j p:Nat):Prop:=∀(q a:Nat),p<=q->xs[q]?=Z a->j<=a
theorem sk(g:ix xs)(j):∀(fuel lo hi:Nat),hi-lo<=fuel->lo<=hi->hi<=xs.size->qp xs j lo->ql xs j hi ->
  below.go xs j fuel lo hi<=xs.size/\qp xs j (below.go xs j fuel lo hi)/\ql xs j (below.go xs j fuel lo hi)
 |0,lo,hi,l,h2,h3,f,d=>by
  have e:lo=hi:=⋯;subst e;exact⟨h3,f,d⟩
 |fuel+1,lo,hi,l,h2,h3,f,d=>by
  unfold below.go
  by_cases i:lo<hi
  .rw[if_pos i];have k:(lo+hi) / 2<xs.size:=⋯;have c:xs[(lo+hi) / 2]?=Z xs[(lo+hi) / 2]:=N9 k;have m:xs.getD ((lo+hi) / 2) j=xs[(lo+hi) / 2]:=(by simp[UB,k]);simp only[m]
   by_cases h:xs[(lo+hi) / 2]<j
   .rw[if_pos h];refine sk g j fuel _ _ ⋯ ⋯ h3 ?_ d;intro q a n b
    by_cases e:q=(lo+hi) / 2
    .subst e;rw[c]at b;cases b;exact h
    .have:=g q ((lo+hi) / 2) a _ ⋯ b c;lia
   .rw[if_neg h];refine sk g j fuel _ _ ⋯ ⋯ ⋯ f ?_;intro q a n b
    by_cases e:q=(lo+hi) / 2
    .subst e;rw[c]at b;cases b;lia
    .have:=g ((lo+hi) / 2) q _ a ⋯ c b;lia
  .rw[if_neg i];have e:lo=hi:=⋯;subst e;exact⟨h3,f,d⟩
def ra(d:ix xs)(j):below xs j<=xs.size/\qp xs j (below xs j)/\ql xs j (below xs j):=by
 unfold below;refine sk d j _ _ _ ⋯ ⋯ ⋯ (λq a c _=>⋯) (λq a c b=>?_);have:=(OB.mp b).1;lia
def below_at(d:ix xs)(h:xs[i]?=Z j):below xs j=i:=by
 obtain⟨g,h2,h3⟩:=ra d j
 by_cases e:i<below xs j
 .exact absurd (h2 i j e h) (Pt _)
 .by_cases f:below xs j=i
  .exact f
  .have hi:=(OB.mp h).1;have c:xs[below xs j]?=Z (xs[below xs j]'⋯):=N9 ⋯;have a:=h3 _ _ (N2 _) c;have b:=d (below xs j) i _ _ ⋯ c h;lia
def j3{t:Vz}(a:ix t.place)(h:t.place[i]?=Z j):t.slot j=.live i:=by
 unfold slot;rw[below_at a h];simp[h]
def Lp{t:Vz}(a:t.dummies=#[])(h:∀i:Nat,t.place[i]?≠Z j):t.slot j=.empty:=by
 unfold slot has;have h0:(t.place[below t.place j]?==Z j)=false:=by
  rw[PJ];exact h _
 simp only[h0,a];simp
abbrev fz(m:Nat)(p:Probe):Probe :=
 if p.more>0 then { p with j:=p.j+1,more:=p.more-1 } else
 { p with j:=(leap m p.i p.perturb).1,more:=runEnd m (leap m p.i p.perturb).1-(leap m p.i p.perturb).1,i:=(leap m p.i p.perturb).1,perturb:=(leap m p.i p.perturb).2 }
def A7(t:Vz)(p):t.advance p=fz t.mask p:=rfl
abbrev Fp(m:Nat)(h:Int):Probe:={ j:=bits h%(m+1),more:=runEnd m (bits h%(m+1))-bits h%(m+1),i:=bits h%(m+1),perturb:=bits h,dummy:=Y }
def pr(m:Nat)(h:Int):Nat->Probe
 |0=>Fp m h
 |n+1=>fz m (pr m h n)
def bk(m:Nat)(h:Int)(n:Nat):Nat:=(pr m h n).j
theorem yI(m)(h):∀n,(pr m h n).dummy=Y
 |0=>rfl
 |n+1=>by
  have a:=yI m h n;show(fz m (pr m h n)).dummy=Y;unfold fz
  split<;>exact a
def pv(h:i<=m):runEnd m i<=m/\i<=runEnd m i/\runEnd m i<=i+9:=by
 unfold runEnd;split<;>lia
def xo(m i p):(leap m i p).1<=m:=by
 unfold leap;have:(i*5+1+p / 32)%(m+1)<m+1:=S9 _ ⋯;show(i*5+1+p / 32)%(m+1)<=m;lia
theorem yJ(m)(h):∀n,(pr m h n).j+(pr m h n).more<=m
 |0=>by
  have:bits h%(m+1)<m+1:=S9 _ ⋯;have:=pv (m:=m) (i:=bits h%(m+1)) ⋯;show bits h%(m+1)+(runEnd m (bits h%(m+1))-bits h%(m+1))<=m;lia
 |n+1=>by
  have a:=yJ m h n;show(fz m (pr m h n)).j+(fz m (pr m h n)).more<=m;unfold fz
  split
  .show(pr m h n).j+1+((pr m h n).more-1)<=m;lia
  .have:=xo m (pr m h n).i (pr m h n).perturb;have:=pv this;show(leap m (pr m h n).i (pr m h n).perturb).1+(runEnd m (leap m (pr m h n).i (pr m h n).perturb).1-(leap m (pr m h n).i (pr m h n).perturb).1)<=m;lia
def tU(m)(h)(n):bk m h n<=m:=by have:=yJ m h n;unfold bk;lia
abbrev run(m:Nat)(h:Int):Nat->Nat×Nat
 |0=>(bits h%(m+1),bits h)
 |r+1=>leap m (run m h r).1 (run m h r).2
def tI(m)(h):∀r,(run m h r).1<=m
 |0=>by have:bits h%(m+1)<m+1:=S9 _ ⋯;show bits h%(m+1)<=m;lia
 |r+1=>xo _ _ _
def st(m:Nat)(h:Int)(r d:Nat):Probe:={ j:=(run m h r).1+d,more:=runEnd m (run m h r).1-(run m h r).1-d,i:=(run m h r).1,perturb:=(run m h r).2,dummy:=Y }
def len(m:Nat)(h:Int)(r:Nat):Nat:=runEnd m (run m h r).1-(run m h r).1
def GO(m)(h)(r):len m h r<=9:=by have:=pv (tI m h r);unfold len;lia
def uP(a:d<len m h r):fz m (st m h r d)=st m h r (d+1):=by
 unfold fz;have:(st m h r d).more>0:=by show runEnd m (run m h r).1-(run m h r).1-d>0;unfold len at a;lia
 rw[if_pos this];show Probe.mk _ _ _ _ _=Probe.mk _ _ _ _ _;congr 1
def A8:fz m (st m h r (len m h r))=st m h (r+1) 0:=by
 unfold fz;have:¬(st m h r (len m h r)).more>0:=by show ¬(runEnd m (run m h r).1-(run m h r).1-len m h r>0);unfold len;lia
 rw[if_neg this];rfl
theorem qI(m)(h):∀r:Nat,∃n,n<=10*r/\pr m h n=st m h r 0/\∀k,k<n->∃f d',f<r/\d'<=len m h f/\pr m h k=st m h f d'
 |0=>⟨0,N2 _,rfl,λk g=>absurd g (U6 k)⟩
 |r+1=>by
  obtain⟨n,p,e,g⟩:=qI m h r;have walk:∀d,d<=len m h r->pr m h (n+d)=st m h r d:=by
   intro d
   induction d with
   |zero=>intro _;exact e
   |succ d i =>
    intro j;show fz m (pr m h (n+d))=_;rw[i ⋯];exact uP ⋯
  have o:=GO m h r;refine⟨n+len m h r+1,⋯,?_,λk l=>?_⟩
  .show fz m (pr m h (n+len m h r))=_;rw[walk _ (N2 _)];exact A8
  .by_cases c:k<n
   .obtain⟨f,d',a,b,c⟩:=g k c;exact⟨f,d',⋯,b,c⟩
   .refine⟨r,k-n,⋯,⋯,?_⟩;have:=walk (k-n) ⋯;rw[show n+(k-n)=k by lia]at this;exact this
def BN(m)(h)(r d)(g:d<=len m h r):∃n,n<=10*r+d/\pr m h n=st m h r d/\∀k,k<n->∃f d',d'<=len m h f/\(f<r\/(f=r/\d'<d))/\pr m h k=st m h f d':=by
 obtain⟨n,o,e,i⟩:=qI m h r;have walk:∀d,d<=len m h r->pr m h (n+d)=st m h r d:=by
  intro d
  induction d with
  |zero=>intro _;exact e
  |succ d j =>
   intro g;show fz m (pr m h (n+d))=_;rw[j ⋯];exact uP ⋯
 refine⟨n+d,⋯,walk d g,λk l=>?_⟩
 by_cases c:k<n
 .obtain⟨f,d',a,b,c⟩:=i k c;exact⟨f,d',b,.inl a,c⟩
 .refine⟨r,k-n,⋯,.inr ⟨rfl,⋯⟩,?_⟩;have:=walk (k-n) ⋯;rw[show n+(k-n)=k by lia]at this;exact this
def B2(h):bits h<2 ^ 64:=by
 unfold bits;have a:=X1 h (show(2 ^ 64:Int)≠0 by decide);have h2:=Ta h (show(0:Int)<2 ^ 64 by decide);have e:((2:Int) ^ 64)=18446744073709551616:=by decide
 rw[e]at a h2 ⊢;lia
theorem yB(m)(h):∀r,(run m h r).2=bits h / 32 ^ r
 |0=>by simp[run]
 |r+1=>by
  show(run m h r).2 / 32=_;rw[yB m h r,Nat.div_div_eq_div_mul,Xi]
def IZ(m)(h)(r)(a:13<=r):(run m h r).2=0:=by
 rw[yB];refine Nat.div_eq_of_lt (Oa (B2 h) (Ol (show 2 ^ 64<=32 ^ 13 by decide) (Qg ∅ a)))
abbrev eF(m:Nat):Nat->Nat->Nat
 |0,i=>i
 |n+1,i=>(eF m n i*5+1)%(m+1)
theorem zd(m)(h):∀n,(run m h (13+n)).1=eF m n (run m h 13).1
 |0=>rfl
 |n+1=>by
  show(leap m (run m h (13+n)).1 (run m h (13+n)).2).1=_;rw[zd m h n,IZ m h (13+n) ⋯];rfl
abbrev pb(m:Nat):Nat->Nat->List Nat
 |0,_=>[]
 |n+1,i=>i::pb m n ((i*5+1)%(m+1))
theorem yd(m):∀n i,eF m n ((i*5+1)%(m+1))=eF m (n+1) i
 |0,i=>rfl
 |n+1,i=>by
  show(eF m n ((i*5+1)%(m+1))*5+1)%(m+1)=(eF m (n+1) i*5+1)%(m+1);rw[yd m n i]
theorem pd(m):∀a b i,eF m (a+b) i=eF m b (eF m a i)
 |a,0,i=>rfl
 |a,b+1,i=>by
  show(eF m (a+b) i*5+1)%(m+1)=_;rw[pd m a b i];rfl
theorem xS(m):∀n i j,j∈pb m n i->∃k,k<n/\eF m k i=j
 |0,i,j,h=>by simp[pb]at h
 |n+1,i,j,h=>by
  rcases N3.mp h with e|h
  .exact⟨0,⋯,e.symm⟩
  .obtain⟨k,a,e⟩:=xS m n _ j h;exact⟨k+1,⋯,by rw[<- yd];exact e⟩
def ew(m:Nat):Prop:=m=7\/m=31\/m=127\/m=511
def l7(m:Nat):Bool:=(TB (m+1)).all λj=>(pb m (m+1) 0).contains j
def C3:l7 7=true:=by decide +kernel
def C1:l7 31=true:=by decide +kernel
def C0:l7 127=true:=by decide +kernel
def C2:l7 511=true:=by decide +kernel
def IV:eF 511 512 0=0:=by decide +kernel
def IW:eF 7 8 0=0:=by decide +kernel
def IU:eF 31 32 0=0:=by decide +kernel
def IT:eF 127 128 0=0:=by decide +kernel
def ew.dr(h:ew m):l7 m=J/\eF m (m+1) 0=0:=by
 rcases h with rfl|rfl|rfl|rfl
 .exact⟨C3,IW⟩
 .exact⟨C1,IU⟩
 .exact⟨C0,IT⟩
 .exact⟨C2,IV⟩
def ew.yY(h:ew m)(a:j<=m):∃k,k<m+1/\eF m k 0=j:=by
 have:=Oi.mp h.dr.1 j (OF.mpr ⋯);exact xS m (m+1) 0 j ⇑this
def ew.reach(h:ew m)(hi:i<=m)(f:j<=m):∃k,k<m+1/\eF m k i=j:=by
 obtain⟨a,g,d⟩:=h.yY hi;obtain⟨b,l,e⟩:=h.yY f
 by_cases c:a<=b
 .refine⟨b-a,⋯,?_⟩;rw[<- d,<- pd,show a+(b-a)=b by lia];exact e
 .refine⟨m+1-a+b,⋯,?_⟩;rw[<- d,<- pd,show a+(m+1-a+b)=(m+1)+b by lia,pd,h.dr.2];exact e
def ew.met(b:ew m)(h)(a:j<=m):∃r,r<m+14/\(run m h r).1=j:=by
 obtain⟨k,c,e⟩:=b.reach (tI m h 13) a;exact⟨13+k,⋯,by rw[zd];exact e⟩
def ew.Hl(c:ew m)(h)(b:j<=m):∃n,n<10*turns m/\bk m h n=j:=by
 obtain⟨r,f,e⟩:=c.met h b;obtain⟨n,d,a,_⟩:=qI m h r;refine⟨n,by unfold turns;lia,?_⟩;unfold bk;rw[a];show(run m h r).1+0=j;lia
def least{P:Nat->Prop}(n)(h:P n):∃k,k<=n/\P k/\∀q,q<k->¬P q:=by
 induction n using X2 with
 |ind n g =>
  by_cases c:∃q,q<n/\P q
  .obtain⟨q,f,e⟩:=c;obtain⟨k,a,b,d⟩:=g q f e;exact⟨k,⋯,b,d⟩
  .exact⟨n,N2 _,h,λq f e=>c ⟨q,f,e⟩⟩
def hole(l:ix xs)(p:xs.size<=m):∃j,j<=m/\∀i:Nat,xs[i]?≠Z j:=by
 by_cases c:∃j,j<=m/\∀i:Nat,xs[i]?≠Z j
 .exact c
 .exfalso;have all:∀j,j<=m->∃i:Nat,xs[i]?=Z j:=λj f=>by
   by_cases d:∃i:Nat,xs[i]?=Z j
   .exact d
   .exact absurd ⟨j,f,λi e=>d ⟨i,e⟩⟩ c
  have k:∀j,j<=m->∀i:Nat,xs[i]?=Z j->j<=i:=by
   intro j
   induction j with
   |zero=>intro _ i _;lia
   |succ j n =>
    intro f i hi;obtain⟨b,a⟩:=all j ⋯;have:=n ⋯ b a
    by_cases g:i<b
    .have:=l i b _ _ g hi a;lia
    .by_cases h:i=b
     .subst h;rw[hi]at a;injection a with e;lia
     .omega
  obtain⟨i,hi⟩:=all m (N2 _);have o:=k m (N2 _) i hi;have h2:=(OB.mp hi).1;lia
def wq{t:Vz}(f:ew t.mask)(l:ix t.place)(a:t.dummies=#[])(m:t.place.size<=t.mask)(h):
  ∃N,N<10*turns t.mask/\t.slot (bk t.mask h N)=.empty/\(∀i:Nat,t.place[i]?≠Z (bk t.mask h N))/\∀k,k<N->∃i:Nat,t.place[i]?=Z (bk t.mask h k):=by
 obtain⟨j,b,g⟩:=hole l m;obtain⟨n,p,e⟩:=f.Hl h b;obtain⟨N,o,h2,h3⟩:=least (P:=λn=>∀i:Nat,t.place[i]?≠Z (bk t.mask h n)) n (by rw[e];exact g);refine⟨N,⋯,Lp a h2,h2,λk d=>?_⟩
 by_cases c:∃i:Nat,t.place[i]?=Z (bk t.mask h k)
 .exact c
 .exact absurd (λi e=>c ⟨i,e⟩) (h3 k d)
theorem tv(o:ix t.place)(r:t.slot (bk t.mask h N)=.empty)(s:∀k,k<N->∃i:Nat,t.place[i]?=Z (bk t.mask h k)):
  ∀(fuel n:Nat),n<=N->N-n<fuel ->
   (∃k i,n<=k/\k<N/\t.place[i]?=Z (bk t.mask h k)/\hashAt i=h/\(∀l,n<=l->l<k->∀j:Nat,t.place[j]?=Z (bk t.mask h l)->hashAt j≠h)/\probe.go t hashAt h fuel (pr t.mask h n)=Z (.candidate (bk t.mask h k) i (pr t.mask h (k+1))))
   \/ ((∀l,n<=l->l<N->∀j:Nat,t.place[j]?=Z (bk t.mask h l)->hashAt j≠h)/\probe.go t hashAt h fuel (pr t.mask h n)=Z (.empty (bk t.mask h N) Y))
 |0,n,v,h2=>by lia
 |fuel+1,n,v,h2=>by
  unfold probe.go
  by_cases c:n=N
  .subst c;have e:t.slot (pr t.mask h n).j=.empty:=r;rw[e];refine .inr ⟨λl a b=>⋯,?_⟩;show Z (Met.empty _ (pr t.mask h n).dummy)=_;rw[yI];rfl
  .obtain⟨i,hi⟩:=s n ⋯;have e:t.slot (pr t.mask h n).j=.live i:=j3 o hi;rw[e]
   by_cases q:hashAt i=h
   .refine .inl ⟨n,i,N2 _,⋯,hi,q,λl a b=>⋯,?_⟩;simp only[q,beq_self_eq_true,O6];rfl
   .have y:(hashAt i==h)=false:=(by rw[PJ];exact q);simp only[y,N4,Ox];have u:∀j:Nat,t.place[j]?=Z (bk t.mask h n)->hashAt j≠h:=λj w=>by
     have m:=j3 o w;rw[j3 o hi]at m;injection m with m;rw[<- m];exact q
    rw[A7];show(∃k i,_/\_/\_/\_/\_/\probe.go t hashAt h fuel (pr t.mask h (n+1))=_)\/(_/\probe.go t hashAt h fuel (pr t.mask h (n+1))=_);rcases tv o r s fuel (n+1) ⋯ ⋯ with⟨k,x,a,b,d,e1,f,g⟩|⟨f,g⟩
    .refine .inl ⟨k,x,⋯,b,d,e1,λl p1 p2 j p3=>?_,g⟩
     by_cases p:l=n
     .subst p;exact u j p3
     .exact f l ⋯ p2 j p3
    .refine .inr ⟨λl p1 p2 j p3=>?_,g⟩
     by_cases p:l=n
     .subst p;exact u j p3
     .exact f l ⋯ p2 j p3
def oE{α:Type}(xs)(p)(x:α)(d:p<=xs.size)(i):
  (insertAt xs p x)[i]?=if i<p then xs[i]? else if i=p then Z x else xs[i-1]?:=by
 unfold insertAt;rw[Array.getElem?_append,Array.getElem?_push,V4,V4,OH,Pb];have e:min p xs.size-0=p:=by lia
 rw[e,RR]
 by_cases a:i<p
 .simp only[if_pos (show i<p+1 by lia),if_neg (show ¬i=p by lia),if_pos a]
 .by_cases b:i=p
  .simp only[if_pos (show i<p+1 by lia),if_neg a,if_pos b]
  .simp only[if_neg (show ¬i<p+1 by lia),if_neg a,if_neg b,Nat.min_self];have e2:min p xs.size=p:=by lia
   by_cases c:i-(p+1)<xs.size-p
   .rw[if_pos c];congr 1;lia
   .rw[if_neg c];rw[P4 ⋯]
def kL{α:Type}(xs)(p)(x:α)(a:p<=xs.size):(insertAt xs p x).size=xs.size+1:=by
 unfold insertAt;rw[PW,OH,Pb,Pb];lia
def w3{α:Type}(xs)(p)(x:α)(a:p<=xs.size):(insertAt xs p x).toList.Perm (x::xs.toList):=by
 have e:(insertAt xs p x).toList=xs.toList.take p++x::xs.toList.drop p:=by
  unfold insertAt;simp[UM];rw[Pw (by simp)]
 rw[e];refine(List.perm_middle).trans (Wx x ?_);rw[Pk]
structure Tab{α:Type}(aA:Array (Int×α))(t:Vz):Prop where
 fF:ix t.place
 le:∀i j:Nat,t.place[i]?=Z j->j<=t.mask
 ef:t.place.size=aA.size
 mc:t.dummies=#[]
 hT:ew t.mask
 full:t.place.size<=t.mask
 path:∀(i j:Nat)(e:Int×α),t.place[i]?=Z j->aA[i]?=Z e->∃n,bk t.mask e.1 n=j/\∀k,k<n->∃Fg:Nat,t.place[Fg]?=Z (bk t.mask e.1 k)
section
variable{α:Type}{aA:Array (Int×α)}{t:Vz}
theorem Tab.fill(T:Tab aA t):t.fill=aA.size:=by unfold SetTable.fill;rw[T.mc,T.ef];simp
def Tab.met(T:Tab aA t)(b:∀i:Nat,t.place[i]?≠Z (bk t.mask h N)){i:Nat}(hi:aA[i]?=Z e)(j:e.1=h):∃k,k<N/\t.place[i]?=Z (bk t.mask h k):=by
 have f:=(OB.mp hi).1;rw[<- T.ef]at f;have a:t.place[i]?=Z t.place[i]:=N9 f;obtain⟨n,d,m⟩:=T.path i _ e a hi;subst j;refine⟨n,?_,by rw[d];exact a⟩
 by_cases c:n<N
 .exact c
 .exfalso
  by_cases g:n=N
  .subst g;exact b i (by rw[d];exact a)
  .obtain⟨o,l⟩:=m N ⋯;exact b o l
theorem Tab.put(T:Tab aA t)(B:∀i:Nat,t.place[i]?≠Z (bk t.mask h N))(M:∀k,k<N->∃i:Nat,t.place[i]?=Z (bk t.mask h k))(K:t.place.size+1<=t.mask):
  Tab (insertAt aA (t.put (bk t.mask h N)).2 (h,x)) (t.put (bk t.mask h N)).1/\(t.put (bk t.mask h N)).2<=aA.size/\(t.put (bk t.mask h N)).1.mask=t.mask/\(t.put (bk t.mask h N)).1.plain=t.plain/\(t.put (bk t.mask h N)).1.led=t.led
   /\ (t.put (bk t.mask h N)).1.place.size=aA.size+1:=by
 obtain⟨b1,b2,w⟩:=ra T.fF (bk t.mask h N);generalize C:bk t.mask h N=j at B b1 b2 w ⊢;have I:has t.dummies j=false:=by unfold has;rw[T.mc];simp
 have e1:t.put j=({ t with place:=insertAt t.place (below t.place j) j },below t.place j):=by
  unfold SetTable.put;simp only[I];rfl
 rw[e1];generalize below t.place j=p at b1 b2 w;have y:p<=aA.size:=by rw[<- T.ef];exact b1
 have pg:=oE t.place p j b1;have H:=oE aA p (h,x) y;have G:∀(q a:Nat),p<=q->t.place[q]?=Z a->j<a:=λq a R f=>by
  have:=w q a R f;have:j≠a:=λe=>B q (by rw[e];exact f)
  lia
 have D:∀v i:Nat,t.place[i]?=Z v->∃l:Nat,(insertAt t.place p j)[l]?=Z v:=λv i hi=>by
  by_cases c:i<p
  .exact⟨i,by rw[pg,if_pos c];exact hi⟩
  .exact⟨i+1,by rw[pg,if_neg (show ¬i+1<p by lia),if_neg (show ¬i+1=p by lia)];exact hi⟩
 refine⟨⟨?_,?_,?_,T.mc,T.hT,?_,?_⟩,y,rfl,rfl,rfl,?_⟩
 .intro i l a b L f g;dsimp only at f g;rw[pg]at f g
  by_cases o:i<p
  .rw[if_pos o]at f
   by_cases r:l<p
   .rw[if_pos r]at g;exact T.fF i l a b L f g
   .rw[if_neg r]at g
    by_cases s:l=p
    .rw[if_pos s]at g;injection g with g;subst g;exact b2 i a o f
    .rw[if_neg s]at g;exact T.fF i (l-1) a b ⋯ f g
  .rw[if_neg o]at f;rw[if_neg (show ¬l<p by lia),if_neg (show ¬l=p by lia)]at g
   by_cases s:i=p
   .rw[if_pos s]at f;injection f with f;subst f;exact G (l-1) b ⋯ g
   .rw[if_neg s]at f;exact T.fF (i-1) (l-1) a b ⋯ f g
 .intro i v d;dsimp only at d ⊢;rw[pg]at d
  split at d
  .exact T.le _ _ d
  .split at d
   .injection d with d;rw[<- d,<- C];exact tU _ _ _
   .exact T.le _ _ d
 .show(insertAt t.place p j).size=(insertAt aA p (h,x)).size;rw[kL _ _ _ b1,kL _ _ _ y,T.ef]
 .show(insertAt t.place p j).size<=t.mask;rw[kL _ _ _ b1];exact K
 .intro i v e d m;dsimp only at d ⊢;rw[pg]at d;rw[H]at m;have E:∀u:Nat,t.place[u]?=Z v->aA[u]?=Z e->∃n,bk t.mask e.1 n=v/\∀k,k<n->∃l:Nat,(insertAt t.place p j)[l]?=Z (bk t.mask e.1 k):=λu a b=>by
   obtain⟨n,O,Q⟩:=T.path u v e a b;exact⟨n,O,λk A=>let ⟨l,z⟩:=Q k A;D _ _ z⟩
  by_cases o:i<p
  .rw[if_pos o]at d m;exact E i d m
  .rw[if_neg o]at d m
   by_cases r:i=p
   .rw[if_pos r]at d m;injection d with d;injection m with m;subst m;exact⟨N,by rw[C];exact d,λk A=>let ⟨l,z⟩:=M k A;D _ _ z⟩
   .rw[if_neg r]at d m;exact E _ d m
 .show(insertAt t.place p j).size=aA.size+1;rw[kL _ _ _ b1,T.ef]
end
theorem tc:∀(k:Nat)(l:List Nat),l.Nodup->(∀x∈l,x<k)->l.length<=k
 |0,l,_,h=>by
  cases l with
  |nil=>simp
  |cons a r=>exact absurd (h a To) (U6 a)
 |k+1,l,d,h=>by
  by_cases c:k∈l
  .have f:=tc k (l.erase k) (d.erase k) λx b=>by
    have:=(d.mem_erase_iff).mp b;have:=h x this.2;lia
   rw[VG c]at f;lia
  .have:=tc k l d λx b=>by
    have:=h x b;have:x≠k:=λe=>c (e▸b)
    lia
   lia
def iw(a:Array (Option Nat))(j:Nat):Prop:=∃q,a[j]?=Z (Z q)
theorem wF(hz:g.size=m+1):∀(fuel r:Nat),(∃l,r<=l/\l<r+fuel/\g[(run m h l).1]?=Z Y) ->
  (∀f d,d<=len m h f->f<r->iw g ((run m h f).1+d)) ->
  ∃n p,p<=len m h n/\layClean.free m g fuel (run m h r).1 (run m h r).2=Z ((run m h n).1+p)/\g[(run m h n).1+p]?=Z Y/\∀f d,d<=len m h f->(f<n\/(f=n/\d<p))->iw g ((run m h f).1+d)
 |0,r,⟨l,a,b,_⟩,_=>by lia
 |fuel+1,r,⟨l,a,b,c⟩,u=>by
  unfold layClean.free;have z:=pv (tI m h r);have get:∀d,d<=len m h r->∃o,g[(run m h r).1+d]?=Z o/\g.getD ((run m h r).1+d) (Z 0)=o:=λd i=>by
   unfold len at i;have j:(run m h r).1+d<g.size:=(by rw[hz];lia);exact⟨g[(run m h r).1+d],N9 j,by simp[UB,j]⟩
  cases v:(TB (runEnd m (run m h r).1+1-(run m h r).1)).find? λk=>(g.getD ((run m h r).1+k) (Z 0)).isNone with
  |some k =>
   obtain⟨t,h2,h3⟩:=List.find?_range_eq_some.mp v;have w:k<=len m h r:=(by have:=OF.mp h2;unfold len;lia);refine⟨r,k,w,rfl,?_,λf d i j=>?_⟩
   .obtain⟨o,e1,e2⟩:=get k w;rw[e2]at t;rw[e1];cases o with
    |none=>rfl
    |some _=>simp at t
   .rcases j with j|⟨rfl,j⟩
    .exact u f d i j
    .obtain⟨o,e1,e2⟩:=get d i;have:=h3 d j;rw[e2]at this;cases o with
     |none=>simp at this
     |some q=>exact⟨q,e1⟩
  |none =>
   have y:=List.find?_range_eq_none.mp v;have s:∀d,d<=len m h r->iw g ((run m h r).1+d):=λd i=>by
    obtain⟨o,e1,e2⟩:=get d i;have:=y d (by unfold len at i;lia);rw[e2]at this;cases o with
    |none=>simp at this
    |some q=>exact⟨q,e1⟩
   have A:l≠r:=λe=>by
    subst e;obtain⟨q,x⟩:=s 0 (Od _);rw[Nat.add_zero,c]at x;cases x
   show ∃n p,_/\layClean.free m g fuel (run m h (r+1)).1 (run m h (r+1)).2=_/\_;refine wF hz fuel (r+1) ⟨l,⋯,⋯,c⟩ λf d i j=>?_
   by_cases e:f=r
   .subst e;exact s d i
   .exact u f d i ⋯
structure Own(m:Nat)(gF:List Int)(eP:Array (Option Nat)):Prop where
 size:eP.size=m+1
 lt:∀j q:Nat,eP[j]?=Z (Z q)->q<gF.length
 inj:∀j xg q:Nat,eP[j]?=Z (Z q)->eP[xg]?=Z (Z q)->j=xg
 all:∀(q:Nat)(h:Int),gF[q]?=Z h->∃n,eP[bk m h n]?=Z (Z q)/\∀k,k<n->iw eP (bk m h k)
def Own.hole(O:Own m i d)(y:i.length<=m):∃j,j<=m/\d[j]?=Z none:=by
 by_cases c:∃j,j<=m/\d[j]?=Z Y
 .exact c
 .exfalso;have o:∀j,j<=m->iw d j:=λj f=>by
   have h:d[j]?=Z (d[j]'(by rw[O.size];lia)):=N9 (by rw[O.size];lia);cases e:d[j]'(by rw[O.size];lia) with
   |none=>exact absurd ⟨j,f,by rw[h,e]⟩ c
   |some q=>exact⟨q,by rw[h,e]⟩
  have r:=tc i.length ((TB (m+1)).map λj=>(d.getD j Y).getD 0) ?_ ?_
  .simp at r;lia
  .have l:∀j,j<=m->d[j]?=Z (Z ((d.getD j Y).getD 0)):=λj f=>by
    obtain⟨q,g⟩:=o j f;have:d.getD j Y=Z q:=(by rw[Pm,g];rfl);rw[this];exact g
   rw[List.Nodup,Qh];refine QW ?_ (XD (n:=m+1));intro a b s u t e;have w:=l a (by have:=OF.mp s;lia);have k:=l b (by have:=OF.mp u;lia);rw[<- e]at k;exact t (O.inj a b _ w k)
  .intro x v;obtain⟨j,f,e⟩:=OV.mp v;obtain⟨q,g⟩:=o j (by have:=OF.mp f;lia);have:d.getD j Y=Z q:=(by rw[Pm,g];rfl);rw[this]at e;have p:q=x:=e;rw[<- p];exact O.lt j q g
def Own.step(D:ew m)(O:Own m g l)(B:g.length<=m)(h):
  ∃j,layClean.free m l (turns m) (bits h%(m+1)) (bits h)=Z j/\Own m (g++[h]) (l.setIfInBounds j (Z g.length)):=by
 obtain⟨N,z,e0⟩:=O.hole B;obtain⟨L,M,w⟩:=D.met h z;obtain⟨v,c4,y,p,r,G⟩:=wF (h:=h) O.size (turns m) 0 ⟨L,Od _,by unfold turns;lia,by rw[w];exact e0⟩ (λu d _ C=>absurd C (U6 _));obtain⟨n,_,E,A⟩:=BN m h v c4 y;have x:bk m h n=(run m h v).1+c4:=by unfold bk;rw[E];rfl
 rw[<- x]at p r;have I:∀k,k<n->iw l (bk m h k):=λk i=>by
  obtain⟨u,d',a,b,c⟩:=A k i;unfold bk;rw[c];exact G u d' a b
 refine⟨bk m h n,p,?_,?_,?_,?_⟩
 .rw[VH];exact O.size
 .intro j q f;rw[Pf]at f;rw[N7,TS]
  split at f
  .split at f
   .injection f with f;injection f with f;lia
   .cases f
  .have:=O.lt j q f;lia
 .intro j s q a b;rw[Pf]at a b
  split at a
  .rename_i e1
   split at b
   .rename_i e2;rw[<- e1,<- e2]
   .split at a
    .injection a with a;injection a with a;have:=O.lt s q b;lia
    .cases a
  .split at b
   .split at b
    .injection b with b;injection b with b;have:=O.lt j q a;lia
    .cases b
   .exact O.inj j s q a b
 .intro q h' f;have t:∀j,iw l j->iw (l.setIfInBounds (bk m h n) (Z g.length)) j:=λj ⟨K,o⟩=>by
   by_cases c:bk m h n=j
   .refine⟨g.length,?_⟩;rw[Pf,if_pos c,if_pos (by rw[O.size];have:=tU m h n;lia)]
   .exact⟨K,by rw[Pf,if_neg c];exact o⟩
  by_cases c:q<g.length
  .rw[Oh c]at f;obtain⟨H,a,b⟩:=O.all q h' f;refine⟨H,?_,λk i=>t _ (b k i)⟩;rw[Pf,if_neg]
   .exact a
   .intro e;rw[<- e,r]at a;cases a
  .have o:=(Og.mp f).1;rw[N7,TS]at o;have e:q=g.length:=⋯;subst e;rw[OP (N2 _),SO]at f;simp at f;subst f;refine⟨n,?_,λk i=>t _ (I k i)⟩;rw[Pf,if_pos rfl,if_pos (by rw[O.size];have:=tU m h n;lia)]
def It(m):Own m [] (Wc (m+1) Y):=by
 have b:∀j q:Nat,(Wc (m+1) (Y:Option Nat))[j]?≠Z (Z q):=λj q a=>by
  rw[Array.getElem?_replicate]at a
  split at a<;>cases a
 exact⟨by simp,λj q a=>absurd a (b j q),λj c q a=>absurd a (b j q),λq h a=>by simp at a⟩
def GJ (n : ew m) (b) (i : b.size <= m) : ∃ eP, layClean m b = Z eP /\ Own m b.toList eP := by
  unfold layClean
  rw [<- Array.foldl_toList]
  have main : ∀ (a done : List Int) (eP : Array (Option Nat)), Own m done eP -> (done ++ a).length <= m ->
      ∃ pe, a.foldl (fun (f : Option (Array (Option Nat) × Nat)) h => do
        let (owner, k) <- f
        let j <- layClean.free m owner (turns m) (bits h % (m + 1)) (bits h)
        pure (owner.setIfInBounds j (Z k), k + 1)) (Z (eP, done.length)) = Z (pe, (done ++ a).length) /\ Own m (done ++ a) pe := by
    intro a
    induction a with
    | nil => intro done eP O _; exact ⟨eP, by simp, by simpa using O⟩
    | cons h r o =>
      intro done eP O l
      rw [N7, Tt] at l
      obtain ⟨j, g, c⟩ := O.step n ⋯ h
      have := o (done ++ [h]) _ c (by simp; lia)
      rw [Oe] at this
      simp only [List.singleton_append, N7, Tt, TQ, RR] at this
      obtain ⟨pe, e, d⟩ := this
      refine ⟨pe, ?_, d⟩
      rw [Vp]
      simp only [WR, XE, g, X3] at e ⊢
      rw [e]
      simp only [N7, Tt]
  obtain ⟨eP, e, O⟩ := main b.toList [] (Wc (m + 1) Y) (It m) ⇑i
  refine ⟨eP, ?_, by simpa using O⟩
  simp only [TQ] at e
  rw [e]; rfl
theorem r7{α β:Type}(f:α->Option β):∀(l:List α),(∀x∈l,(f x).isSome=J)->∀i:Nat,(l.filterMap f)[i]?=l[i]?.bind f
 |[],_,i=>by simp
 |x::r,h,i=>by
  have a:=h x To;cases e:f x with
  |none=>rw[e]at a;cases a
  |some y =>
   rw[TY,e];cases i with
   |zero=>simp[e]
   |succ i =>
    simp only[VP];exact r7 f r (λz hz=>h z (Tp _ hz)) i
theorem wz{α β:Type}(f:α->Option β):∀(l:List α),(∀x∈l,(f x).isSome=J)->(l.filterMap f).length=l.length
 |[],_=>rfl
 |x::r,h=>by
  have a:=h x To;cases e:f x with
  |none=>rw[e]at a;cases a
  |some y=>rw[TY,e,Tt,Tt,wz f r λz hz=>h z (Tp _ hz)]
def xl{α:Type}(K:ew m)(d:Array (Int×α))(I:d.size<=m)(f Q)(led H):
  ∃t' x,laid m f Q led H (d.map (·.1))=Z (t',x)/\t'.mask=m/\t'.led=led/\t'.plain=H/\(x.filterMap (d[·]?)).size=d.size/\Tab (x.filterMap (d[·]?)) t'/\(x.filterMap (d[·]?)).toList.Perm d.toList/\x.toList.Perm (TB d.size):=by
 obtain⟨v,e,O⟩:=GJ K (d.map (·.1)) ⇑I;have a5:(d.map (·.1)).toList.length=d.size:=by simp
 generalize C:(TB (m+1)).filterMap (λj=>(v.getD j Y).map (j,·))=L;have u:∀j q,(j,q)∈L<->v[j]?=Z (Z q):=λj q=>by
  rw[<- C,P6];constructor
  .rintro⟨N,a9,gD⟩;cases h0:v.getD N Y with
   |none=>rw[h0]at gD;cases gD
   |some S =>
    rw[h0]at gD;injection gD with gD;injection gD with e1 e2;subst e1;subst e2;rw[Pm]at h0;cases r:v[N]? with
    |none=>rw[r]at h0;cases h0
    |some o=>rw[r]at h0;exact O7 Z h0
  .intro h;refine⟨j,OF.mpr ?_,?_⟩
   .have:=(OB.mp h).1;rw[O.size]at this;exact this
   .rw[Pm,h];rfl
 have T:L.Pairwise (λa b=>a.1<b.1):=by
  rw[<- C];refine List.Pairwise.filterMap _ ?_ (Q8 (n:=m+1));intro a V aq b g b1 y;cases h0:v.getD a Y with
  |none=>rw[h0]at g;cases g
  |some q =>
   cases r:v.getD V Y with
   |none=>rw[r]at y;cases y
   |some S =>
    rw[h0]at g;rw[r]at y;cases g;cases y;exact aq
 have lt:∀p∈L,p.2<d.size:=λp t=>by
  have:=O.lt p.1 p.2 ((u p.1 p.2).mp t);rw[a5]at this;exact this
 have aw:(L.map (·.2)).Nodup:=by
  rw[List.Nodup,Qh];refine QW ?_ T;intro a b s g b2 gD;have:=O.inj a.1 b.1 a.2 ((u _ _).mp s) (by rw[gD];exact(u _ _).mp g);lia
 have G:(L.map (·.2)).Perm (TB d.size):=by
  refine(List.perm_ext_iff_of_nodup aw XD).mpr λq=>?_
  rw[OF,OV];constructor
  .rintro⟨p,t,rfl⟩;exact lt p t
  .intro w;obtain⟨n,a,_⟩:=O.all q (d[q].1) (by rw[Oq,W7,N9 w];rfl);exact⟨(_,q),(u _ _).mpr a,rfl⟩
 have E:L.length=d.size:=by have:=G.length_eq;simpa using this
 have R:∀q∈L.map (·.2),(d[q]?).isSome=true:=λq w=>by
  obtain⟨p,t,rfl⟩:=OV.mp w;rw[N9 (lt p t)];rfl
 have ay:∀q∈TB d.size,(d[q]?).isSome=true:=λq w=>by
  rw[N9 (OF.mp w)];rfl
 have B:((L.map (·.2)).toArray.filterMap (d[·]?)).toList=(L.map (·.2)).filterMap (d[·]?):=by simp
 have a0:∀(i:Nat),((L.map (·.2)).toArray.filterMap (d[·]?))[i]?=(L[i]?).bind λp=>d[p.2]?:=by
  intro i;rw[<- Oq,B,r7 _ _ R,Ot];cases L[i]?<;>rfl
 have U:((L.map (·.2)).toArray.filterMap (d[·]?)).size=d.size:=by
  rw[<- Tn,B,wz _ _ R,Tj,E]
 have aF:((L.map (·.2)).toArray.filterMap (d[·]?)).toList.Perm d.toList:=by
  rw[B];refine(G.filterMap (d[·]?)).trans (List.Perm.of_eq ?_);refine Qi λi=>?_
  rw[r7 _ _ ay]
  by_cases c:i<d.size
  .rw[Qp c];simp
  .rw[OE ⇑c,OE ⇑c];rfl
 refine⟨{ mask:=m,place:=(L.map (·.1)).toArray,dummies:=#[],finger:=f,led,moves:=Q,plain:=H },(L.map (·.2)).toArray,?_,rfl,rfl,rfl,U,⟨?_,?_,?_,rfl,K,?_,?_⟩,aF,⇑G⟩
 .unfold laid;rw[e];simp only[WR,XE,X3,C]
 .intro i j a b a3 s g;simp only[QG,Ot]at s g;cases z:L[i]? with
  |none=>rw[z]at s;cases s
  |some a6 =>
   cases A:L[j]? with
   |none=>rw[A]at g;cases g
   |some bc =>
    rw[z]at s;rw[A]at g;cases s;cases g;obtain⟨r,e1⟩:=Og.mp z;obtain⟨h2,e2⟩:=Og.mp A;have:=QQ.mp T i j r h2 a3;rw[e1,e2]at this;exact this
 .intro i j hi;simp only[QG,Ot]at hi;cases l:L[i]? with
  |none=>rw[l]at hi;cases hi
  |some p =>
   rw[l]at hi;cases hi;have:=(u p.1 p.2).mp (O2 l);have:=(OB.mp this).1;rw[O.size]at this;show p.1<=m;lia
 .show(L.map (·.1)).toArray.size=_;rw[U];simp[E]
 .show(L.map (·.1)).toArray.size<=m;simp[E];exact I
 .intro i j gD hi D;simp only[QG,Ot]at hi;rw[a0]at D;cases l:L[i]? with
  |none=>rw[l]at hi;cases hi
  |some p =>
   rw[l]at hi D;cases hi;have t:=(u p.1 p.2).mp (O2 l);have a1:d[p.2]?=Z gD:=D;obtain⟨n,a,b⟩:=O.all p.2 gD.1 (by rw[Oq,W7,a1];rfl);refine⟨n,O.inj _ _ _ a t,λk a4=>?_⟩;obtain⟨S,au⟩:=b k a4;obtain⟨M,a2,X⟩:=PD.mp ((u _ _).mpr au);refine⟨M,?_⟩;show(L.map (·.1)).toArray[M]?=_;simp only[QG,Ot];rw[N8 a2,X];rfl
end d5
end
section
namespace Pv
open PySem d5 PySem.SetTable
section
variable{prog:TV}{w:Ug}{A:T3}{E:Ti->Tq->Prop}{s:Tq}
def eT(prog:TV)(w:Ug)(h:TU)(a:List Int)(b:Tu):Prop:=IsTupleKey (U0 prog w) h a b
abbrev dQ(prog:TV)(w:Ug)(a:List Int):Int:=tupleKeyHash (U0 prog w) a
def hq(prog:TV)(w:Ug)(h:TU)(e:Int×Ti)(a:List Int):Prop:=∃b,e.2=.ref b/\e.1=dQ prog w a/\eT prog w h a b
def eT.kept(x:eT prog w h d b)(k:∀o,h.get? b=Z o->h'.get? b=Z o):eT prog w h' d b :=
 let ⟨o,c,n,a,r⟩:=x;⟨o,c,n,k o a,r⟩
def eT.ne{f e t}(x:eT prog w h k b)(i:h.get? a=Z o)(g:o.data=.set f e t):b≠a:=by
 rintro rfl;obtain⟨l,j,n,d,_,c,_⟩:=x;rw[i]at d;cases d;rw[g]at c;cases c
def vt(f:eT prog w s.heap q a)(h:Q Th s):Ts M A (Vd 8 (.ref a)) Q E s:=by
 have i:s.TypeIs (.ref a) "tuple":=Xj f;obtain⟨o,p,n,k,_,j,hi⟩:=f;unfold Vd;refine NZ (Qu i ?_);dsimp only;rw[if_pos (by rfl)];refine NZ (Tg ?_);simp only[PG,N4,Ox];refine NZ (Py k j ?_);dsimp only;refine NZ ?_;rw[<- W8];refine Rr _ (λg r s'=>r.1=Y/\s'=s/\∀v∈g,carriedByValue v=J) _ ?_ ?_ _ _ ⟨rfl,rfl,hi.byValue⟩
 .rintro v g r s' ⟨c,rfl,d⟩;have m:=d v To;have e:Vd 7 v=pure false:=by
   cases v with
   |ref b=>simp[carriedByValue]at m
   |_=>unfold Vd;rfl
  rw[e];refine NZ (Tg ?_);simp only[N4,Ox];exact Tg ⟨rfl,rfl,λu l=>d u (Tp _ l)⟩
 .rintro⟨t,x⟩ s' ⟨c,rfl,_⟩;simp only at c;subst c;exact Tg h
def KZ{Yh:List Ti}(i:eT prog w s.heap m b)(k:∀v∈Yh,∃c a,v=.ref c/\eT prog w s.heap a c)(h:Q Th s):
  Ts (Tw prog w) A (searchCouldBeSeen (.ref b) Yh) Q E s:=by
 unfold searchCouldBeSeen;refine NZ ?_;refine Rr _ (λe r s'=>r.1=Y/\s'=s/\∀v∈e,∃c a,v=.ref c/\eT prog w s.heap a c) _ ?_ ?_ _ _ ⟨rfl,rfl,k⟩
 .rintro v e r s' ⟨d,rfl,f⟩;obtain⟨c,a,rfl,g⟩:=f v To;have j:∀v∈e,∃c a,v=.ref c/\eT prog w s'.heap a c:=λu l=>f u (Tp _ l)
  dsimp only
  split
  .exact Tg ⟨rfl,rfl,j⟩
  .refine NZ (Wh i ?_);simp only[PG,N4,Ox];refine NZ (Wh g ?_);simp only[PG,N4,Ox];refine NZ (vt i ?_);simp only[N4,Ox];refine NZ (vt g ?_);simp only[N4,Ox];exact Tg ⟨rfl,rfl,j⟩
 .rintro⟨n,o⟩ s' ⟨d,rfl,_⟩;simp only at d;subst d;exact Tg h
def Cb(j:eT prog w s.heap B a)(h:Q J s):Ts (Tw prog w) A (Vn 8 (.ref a)) Q E s:=by
 have x:s.TypeIs (.ref a) "tuple":=Xj j;obtain⟨o,f,n,m,_,g,hi⟩:=j;unfold Vn;refine NZ (SP x F.slot_tuple_hash.lookup ?_);dsimp only;refine NZ (Py m g ?_);refine NZ ?_;show Ts _ _ (forIn f _ _) _ _ s;rw[<- W8];have c:∀v∈f.toList,∃i t,v=Uj i t:=by
  clear g m;generalize f.toList=l at hi
  induction hi with
  |nil=>intro v b;simp at b
  |@cons k H C I q _ z =>
   intro v b;rcases N3.mp b with rfl|b
   .obtain⟨t,e⟩:=Se q;exact⟨_,t,e⟩
   .exact z v b
 refine Rr _ (λp r s'=>r.1=Y/\s'=s/\∀v∈p,∃i t,v=Uj i t) _ ?_ ?_ _ _ ⟨rfl,rfl,c⟩
 .rintro v p r s' ⟨d,rfl,c⟩;obtain⟨i,t,rfl⟩:=c v To;have e:Vn 7 (Uj i t)=pure true:=(by unfold Vn;rfl);rw[e];refine NZ (Tg ?_);simp only[PG,N4,Ox];exact Tg ⟨rfl,rfl,λu y=>c u (Tp _ y)⟩
 .rintro⟨D,G⟩ s' ⟨d,rfl,_⟩;simp only at d;subst d;exact Tg h
theorem Tab.fits{a:Array (Int×Ti)}(T:Tab a t):t.fits a.size=true:=by
 unfold SetTable.fits;have b:=T.ef;have h2:=T.fill;have h3:=T.full;simp only[N0,OJ,Ov];exact⟨b,by rw[h2,<- b];exact h3⟩
def Tab.EU{a:Array (Int×Ti)}(T:Tab a t):t.gaveWay=false:=by
 unfold SetTable.gaveWay;rcases T.hT with e|e|e|e<;>rw[e]<;>rfl
theorem zv (cw : A.units < UD)
    (ba : s.heap.get? a = Z o) (aw : o.data = .set d eY t) (T : Tab d t) (D : Paired (hq prog w s.heap) d.toList bq) (ay : eT prog w s.heap aX b)
    (dy : N < 10 * turns t.mask) (Q : t.slot (bk t.mask (dQ prog w aX) N) = .empty) (S : ∀ i : Nat, t.place[i]? ≠ Z (bk t.mask (dQ prog w aX) N)) (a0 : ∀ k, k < N -> ∃ i : Nat, t.place[i]? = Z (bk t.mask (dQ prog w aX) k))
    (U : aX ∉ bq -> R (.free (bk t.mask (dQ prog w aX) N) Th) s) (z : aX ∈ bq -> ∀ r, R (.there r) s) :
    ∀ (fuel n : Nat) (a5 : Option Probe), n <= N -> N - n < fuel -> a5.getD (t.probeStart (dQ prog w aX)) = pr t.mask (dQ prog w aX) n ->
      (∀ k, k < n -> ∀ (i : Nat) (e : Int × Ti), t.place[i]? = Z (bk t.mask (dQ prog w aX) k) -> d[i]? = Z e -> ¬ hq prog w s.heap e aX) ->
      Ts (Tw prog w) A (VI a (.ref b) (dQ prog w aX) G fuel a5) R E s
  | 0, n, a5, p, h2, _, _ => by lia
  | fuel + 1, n, a5, p, h2, dY, a3 => by
    unfold VI
    refine NZ (Pn ba aw (Tab.fits T) ?_)
    dsimp only
    rw [Tab.EU T]
    simp only [N4, Ox]
    rw [dY]
    have O : ∀ (i : Nat) (e : Int × Ti), d[i]? = Z e -> (fun i => (d[i]?.map (·.1)).getD 0) i = e.1 := fun i e h => by simp [h]
    generalize cv : t.probe _ (dQ prog w aX) (pr t.mask (dQ prog w aX) n) = X
    have bO : ∀ (i : Nat) (e : Int × Ti), d[i]? = Z e -> ∃ fs, fs ∈ bq /\ hq prog w s.heap e fs := fun i e h => by
      have f : e ∈ d.toList := by rw [<- Oq] at h; exact O2 h
      clear O a3 S a0 Q z U
      generalize d.toList = l at D f
      induction D with
      | nil => simp at f
      | cons p _ bl =>
        rcases N3.mp f with rfl | f
        · exact ⟨_, To, p⟩
        · obtain ⟨fs, a1, a2⟩ := bl f
          exact ⟨fs, Tp _ a1, a2⟩
    rcases tv (h := dQ prog w aX) (hashAt := fun i => (d[i]?.map (·.1)).getD 0) T.fF Q a0 (10 * turns t.mask) n p ⋯ with ⟨k, i, b1, b2, H, e5, I, K⟩ | ⟨I, K⟩
    · have L : X = _ := cv.symm.trans K
      rw [L]
      dsimp only
      have hi : i < d.size := by rw [<- T.ef]; exact (OB.mp H).1
      have u : d[i]? = Z d[i] := N9 hi
      obtain ⟨fs, aF, c, au, C, cL⟩ := bO i _ u
      have cH : Ts (Tw prog w) A (do
          let Z (_, y) := d[i]? | unsupported "internal:set-entry"
          let b0 <- Xf [y] (eqBool y (.ref b))
          let (de, _, t') <- setState a
          if G && b0 then return Yi Y
          let Z same := t'.sameMemory t.moves t.mask | unsupported "set.changed-during-lookup:is-the-new-block-at-the-old-address"
          let e3 <- match (if same then t'.slot (bk t.mask (dQ prog w aX) k) else .empty) with
            | .live g => match de[g]? with
              | some (_, e4) => do pure (if <- isSame e4 y then Z g else Y)
              | none => pure Y
            | _ => pure Y
          match e3 with
          | none => XA "set.search.anew"; VI a (.ref b) (dQ prog w aX) G fuel Y
          | some g => if b0 then return Yi (Z g) else VI a (.ref b) (dQ prog w aX) G fuel (Z (pr t.mask (dQ prog w aX) (k + 1)))) R E s := by
        rw [u]
        generalize f0 : d[i] = df at au C u
        obtain ⟨eX, fk⟩ := df
        dsimp only at au C ⊢
        subst au
        refine NZ (Pu (wpAny_eqBool_tuple cw cL ay ?_))
        refine NZ (Pn ba aw (Tab.fits T) ?_)
        dsimp only
        have same : t.sameMemory t.moves t.mask = Z true := by unfold SetTable.sameMemory; simp
        by_cases q : fs = aX
        · subst q
          simp only [decide_true, Su]
          cases G
          · simp only [N4, Ox]
            rw [same]
            dsimp only
            rw [if_pos rfl, j3 T.fF H]
            dsimp only
            rw [u]
            dsimp only
            refine NZ (Wi (NZ (Tg ?_)))
            rw [if_pos rfl]
            dsimp only
            first | exact Tg (z aF _) | (rw [if_pos trivial]; exact Tg (z aF _))
          · simp only [O6]
            exact Tg (z aF _)
        · simp only [decide_eq_false q, TR, N4, Ox]
          rw [same]
          dsimp only
          rw [if_pos rfl, j3 T.fF H]
          dsimp only
          rw [u]
          dsimp only
          refine NZ (Wi (NZ (Tg ?_)))
          rw [if_pos rfl]
          dsimp only
          refine zv cw ba aw T D ay dy Q S a0 U z fuel (k + 1) _ ⋯ ⋯ rfl fun a4 f1 g M bj m B => ?_
          by_cases cN : a4 < n
          · exact a3 a4 cN g M bj m B
          · by_cases aq : a4 = k
            · subst aq
              have e1 : g = i := by
                have := j3 T.fF bj
                rw [j3 T.fF H] at this
                injection this with this
                exact this.symm
              subst e1
              rw [u] at m
              cases m
              obtain ⟨fB, c4, _, dz⟩ := B
              cases c4
              exact q (IsTupleKey.inj cL dz)
            · obtain ⟨_, _, dc, _⟩ := B
              exact I a4 ⋯ ⋯ g bj ((O g M m).trans dc)
      cases f2 : t.led
      · simp only [RY, O6]
        refine NZ (KZ ay (fun v d6 => ?_) ?_)
        · obtain ⟨e, m, rfl⟩ := OV.mp d6
          have f : e ∈ d.toList := by
            rw [Array.toList_filter] at m
            exact (PY.mp m).1
          obtain ⟨j, x⟩ := Wj.mp f
          obtain ⟨e0, _, aq, e2, _, h2⟩ := bO j e (by rw [<- Oq]; exact x)
          exact ⟨aq, e0, e2, h2⟩
        · simp only [N4, Ox]
          exact cH
      · simp only [PG, N4, Ox]
        exact cH
    · have L : X = _ := cv.symm.trans K
      rw [L]
      dsimp only
      refine Tg (U fun V => ?_)
      obtain ⟨e, f, B⟩ : ∃ e ∈ d.toList, hq prog w s.heap e aX := by
        clear O a3 S a0 Q z U bO I K L
        generalize d.toList = l at D
        induction D with
        | nil => simp at V
        | @cons M fs _ _ p _ bl =>
          rcases N3.mp V with rfl | V
          · exact ⟨M, To, p⟩
          · obtain ⟨e, a1, a2⟩ := bl V
            exact ⟨e, Tp _ a1, a2⟩
      obtain ⟨j, x⟩ := Wj.mp f
      rw [Oq] at x
      obtain ⟨_, _, C, _⟩ := id B
      obtain ⟨k, dP, cM⟩ := T.met S x C
      by_cases c : k < n
      · exact a3 k c j e cM x B
      · exact I k ⋯ dP j cM ((O j e x).trans C)
def kn(M:Ti->Prop)(prog:TV)(w:Ug)(h:TU)(a:Tu)(c:List (List Int)):Prop :=
 ∃o b d t,h.get? a=Z o/\o.ExactSet/\o.data=.set b d t/\Tab b t/\b.size*5<t.mask*3/\t.plain=J/\(t.led=J<->w.params.followText "set-order"=Th)/\Paired (λe f=>hq prog w h e f/\M e.2) b.toList c/\c.Nodup
def Paired.perm{α β:Type}{F:α->β->Prop}{l1 l2:List α}(p:l1.Perm l2):∀{a:List β},Paired F l2 a->∃fs,fs.Perm a/\Paired F l1 fs:=by
 induction p with
 |nil=>intro a h;cases h;exact⟨[],.refl _,.nil⟩
 |cons x _ c =>
  intro a h;cases h with
  |cons b t =>
   obtain⟨fs,f,h'⟩:=c t;exact⟨_::fs,f.cons _,.cons b h'⟩
 |swap x y l =>
  intro a h;cases h with
  |cons b t =>
   cases t with
   |cons h2 t=>exact⟨_::_::_,Wy _ _ _,.cons h2 (.cons b t)⟩
 |trans _ _ d e =>
  intro a h;obtain⟨k1,p1,b⟩:=e h;obtain⟨k2,p2,h2⟩:=d b;exact⟨k2,p2.trans p1,h2⟩
theorem Paired.len{α β:Type}{F:α->β->Prop}:∀{l:List α}{a:List β},Paired F l a->l.length=a.length
 |_,_,.nil=>rfl
 |_,_,.cons _ t=>by simp[Paired.len t]
theorem Paired.mp{α β:Type}{F G:α->β->Prop}(f:∀a b,F a b->G a b):∀{l:List α}{c:List β},Paired F l c->Paired G l c
 |_,_,.nil=>.nil
 |_,_,.cons h t=>.cons (f _ _ h) (Paired.mp f t)
def A5(iK:A.units<UD)(dP:kn M prog w s.heap a p)(R:eT prog w s.heap g b)(dy:M (.ref b))(iM:p.length<256)(h:∀h' u r,TZ a s.heap h'->kn M prog w h' a u->u.Perm (if g∈p then p else g::p)->Q r { s with heap:=h' }):
  Ts (Tw prog w) A (V5 a (.ref b) (dQ prog w g)) Q E s:=by
 obtain⟨o,l,L,t,q,O,n,T,z,I,S,H,ay⟩:=dP;obtain⟨N,dz,e5,a4,aq⟩:=wq T.hT T.fF T.mc T.full (dQ prog w g);have g3:l.size=p.length:=by have:=Paired.len H;simpa using this
 unfold V5 setAddHashedIn;refine Pu (NZ (Pn q n (Tab.fits T) ?_));dsimp only;have d6:byScan (.ref b) l=false:=by unfold byScan;simp[Value.scannable]
 rw[d6];simp only[N4,Ox];refine NZ ?_;unfold setSearch;refine zv iK q n T (Paired.mp (λ_ _ x=>x.1) H) R dz e5 a4 aq (λa7=>?_) (λeY r=>?_) 100000 0 Y (Od _) ?_ rfl (λk fk=>absurd fk (U6 k))
 .-- iO iN jI
  dsimp only;have fB:t.place.size+1<=t.mask:=by
   rw[T.ef];rcases T.hT with e|e|e|e<;>rw[e]at z ⊢<;>lia
  obtain⟨y,b1,b2,B,D,a2⟩:=T.put (x:=TA b) a4 aq fB;refine NZ (Pn q n (Tab.fits T) ?_);dsimp only;generalize g1:t.put (bk t.mask (dQ prog w g) N)=P at y b1 b2 B D a2;obtain⟨f,p1⟩:=P;dsimp only at y b1 b2 B D a2 ⊢;rw[B,I];simp only[O6];refine NZ (Cb R ?_);simp only[O6];have ba:=w3 l p1 (dQ prog w g,TA b) b1;have V:(insertAt l p1 (dQ prog w g,TA b)).size=l.size+1:=kL _ _ _ b1;have e0:Paired (λe g=>hq prog w s.heap e g/\M e.2) ((dQ prog w g,TA b)::l.toList) (g::p):=.cons ⟨⟨b,rfl,rfl,R⟩,dy⟩ H;obtain⟨bl,a0,a1⟩:=Paired.perm ba e0;have aF:bl.Nodup:=(a0.nodup_iff).mpr (Pd.mpr ⟨a7,ay⟩);generalize g2:insertAt l p1 (dQ prog w g,TA b)=d at y ba V a1;refine NZ (Q9 q n ?_ (by rw[V];have:TH=2 ^ 40\/True:=.inr trivial;rw[TL];lia));have G:(s.heap.update a (Us d f)).get? a=Z { o with data:=.set d (L+1) f }:=by
   have:=OD (Us d f) q (by rw[Rt d f n];rfl);rw[Rt d f n]at this;exact this
  have U:=OS s.heap a (Us d f);have bq:∀{h':TU},TZ a s.heap h'->∀(e:Int×Ti)(X:List Int),(hq prog w s.heap e X/\M e.2)->(hq prog w h' e X/\M e.2):=λ{h'} iJ e X ⟨⟨c,e1,e2,e3⟩,e4⟩ =>
   ⟨⟨c,e1,e2,e3.kept λjJ f1=>(iJ.2 c (e3.ne q n)).trans f1⟩,e4⟩
  have a3:∀h' u,TZ a s.heap h'->kn M prog w h' a u->u.Perm (g::p)->Q J { s with heap:=h' }:=λh' u f8 f7 fp=>h h' u J f8 f7 (by rw[if_neg a7];exact fp)
  have a5:f.fill=d.size:=y.fill
  by_cases C:f.tooFull=J
  .simp only[C,RY,Rz,O6];have dY:∃m,ew m/\sizeAbove (grown d.size)-1=m/\d.size*5<m*3/\sizeAbove (grown d.size)<=512:=by
    unfold Vf at C;rw[a5,b2]at C;have i:d.size*5>=t.mask*3:=⇑C;rcases T.hT with e|e|e|e
    .rw[e]at i z;have:d.size=5:=⋯;rw[this];exact⟨31,.inr (.inl rfl),∅,∅,∅⟩
    .rw[e]at i z;have:d.size=19:=⋯;rw[this];exact⟨127,.inr (.inr (.inl rfl)),∅,∅,∅⟩
    .rw[e]at i z;have:d.size=77:=⋯;rw[this];exact⟨511,.inr (.inr (.inr rfl)),∅,∅,∅⟩
    .rw[e]at i z;lia
   obtain⟨m,au,f0,aw,kI⟩:=dY;refine NZ ?_;unfold setRelay;refine NZ (Pn G rfl (Tab.fits y) ?_);dsimp only;rw[<- V];have f4:¬sizeAbove (grown d.size)>sizeLine:=(by rw[TL];lia);rw[if_neg f4];obtain⟨j,v,cH,cN,c4,dc,K,de,df,_⟩:=xl (α:=Ti) au d (by
    rcases au with e|e|e|e<;>rw[e]at aw ⊢<;>lia) f.finger (f.movedTo m) f.led f.plain
   have f2:f.relaid (d.map (·.1)) (grown d.size)=Z (j,v):=by
    unfold X4;rw[f0];exact cH
   refine NZ ?_;rw[f2];show Ts (Tw prog w) A (if ((v.filterMap (d[·]?)).size != d.size)=J then _ else pure (v.filterMap (d[·]?),j)) _ E _;rw[if_neg (by rw[K];simp)];refine Tg ?_;dsimp only;refine Q9 G rfl ?_ (by rw[K,TL];lia);obtain⟨fR,cw,f6⟩:=Paired.perm df a1;have eX:((s.heap.update a (Us d f)).update a (Us (v.filterMap (d[·]?)) j)).get? a=Z { o with data:=.set (v.filterMap (d[·]?)) (L+1+1) j }:=by
    have:=OD (Us (v.filterMap (d[·]?)) j) G (by rw[Rt _ j rfl];rfl);rw[Rt _ j rfl]at this;exact this
   have bj:=U.trans (OS _ a (Us (v.filterMap (d[·]?)) j));refine Tg (a3 _ fR bj ⟨_,_,_,j,eX,O,rfl,de,by rw[K,cN];exact aw,by rw[dc,B];exact I,by rw[c4,D];exact S,Paired.mp (bq bj) f6,(cw.nodup_iff).mpr aF⟩ (cw.trans a0))
  .have i:f.tooFull=false:=⇑C;simp only[i,TR,N4,Ox];refine Tg (a3 _ bl U ⟨_,_,_,f,G,O,rfl,y,?_,by rw[B];exact I,by rw[D];exact S,Paired.mp (bq U) a1,aF⟩ a0);unfold Vf at i;rw[a5]at i;have:¬d.size*5>=f.mask*3:=⇑i;lia
 .dsimp only;exact Tg (h s.heap p Th (Sj a s.heap) ⟨o,l,L,t,q,O,n,T,z,I,S,H,ay⟩ (by rw[if_pos eY]))
 .have:turns t.mask<=526:=(by unfold turns;rcases T.hT with e|e|e|e<;>rw[e]<;>lia);lia
def La(f:A.units<UD)(j:kn M prog w s.heap a c)(e:eT prog w s.heap g b)(i:M (.ref b))(k:c.length<256)(h:∀h' tk d r,s.toks<=tk->TZ a s.heap h'->kn M prog w h' a d->d.Perm (if g∈c then c else g::c)->Q r { s with heap:=h',toks:=tk }):
  Ts (Tw prog w) A (Yj a (.ref b)) Q E s:=by
 unfold Yj;refine Pu (NZ (wpAny_pyHash_tuple f e ?_));exact A5 (s:={ s with toks:=_ }) f j e i k λh' d r l m n=>h h' _ d r (Ow _ _) l m n
def hp(e:Int×Ti)(k:Int):Prop:=e.1=Uw k/\∃t,e.2=.int k t
def km(w:Ug)(h:TU)(a:Tu)(c:List Int):Prop :=
 ∃o b d t,h.get? a=Z o/\o.ExactSet/\o.data=.set b d t/\Tab b t/\b.size*5<t.mask*3/\t.plain=J/\(t.led=J<->w.params.followText "set-order"=Th)/\Paired hp b.toList c/\c.Nodup
def mr(prog)(w)(i)(t):(U0 prog w).is i (.int i t)=true:=by show Vk i (.int i t)=J;simp[Vk]
def hp.elems(c:Paired hp aA g):ElemsOf (U0 prog w) aA:=by
 intro e a
 induction c with
 |nil=>simp at a
 |@cons f k _ _ b _ d =>
  rcases N3.mp a with rfl|a
  .obtain⟨h2,t,e2⟩:=b;refine⟨⟨k,?_,h2⟩,?_⟩
   .rw[e2];exact mr _ _ _ _
   .rw[e2];rfl
  .exact d a
def hp.find(h:Paired hp d aX)(k):(d.findIdx? λe=>(U0 prog w).is k e.2).isSome=J<->k∈aX:=by
 induction h with
 |nil=>simp
 |@cons b a _ _ f _ i =>
  obtain⟨_,t,e2⟩:=f;have g:(U0 prog w).is k b.2=decide (k=a):=by
   rw[e2];exact KeyKind.is_eq_decide (mr prog w a t) k
  rw[W9,g]
  by_cases c:k=a
  .subst c;simp
  .simp only[decide_eq_false c];simp only[N4,Ox,Xh];rw[i];simp[c]
def A4(df:km w s.heap a aX)(fp:aX.length<256)(h:∀h' l r,TZ a s.heap h'->km w h' a l->l.Perm (if k∈aX then aX else k::aX)->Q r { s with heap:=h' }):
  Ts (Tw prog w) A (V5 a (.int k tk) (Uw k)) Q E s:=by
 obtain⟨o,d,H,t,v,I,p,T,q,G,M,y,a5⟩:=df;obtain⟨N,iK,dY,d6,a2⟩:=wq T.hT T.fF T.mc T.full (Uw k);have f8:d.size=aX.length:=by have:=Paired.len y;simpa using this
 have a0:ElemsOf (U0 prog w) d.toList:=hp.elems y;have eX:d.size<scanBound:=by unfold scanBound;lia
 unfold V5 setAddHashedIn;refine Pu (NZ (Pn v p (Tab.fits T) ?_));dsimp only;rw[byScan_of (knd:=U0 prog w) (x:=.int k tk) rfl eX a0];simp only[O6];unfold setAddByScan;refine NZ ?_;refine NZ (PR ?_);refine NZ (wpAny_setScan_of (knd:=U0 prog w) (k:=k) (mr _ _ _ _) v p (Tab.fits T) a0 ?_);have D:=hp.find (prog:=prog) (w:=w) y k;cases ay:List.findIdx? (λe=>(U0 prog w).is k e.2) d.toList with
 |some j =>
  dsimp only;rw[ay]at D;have e3:k∈aX:=D.mp rfl;refine Tg (Tg ?_);exact h s.heap aX _ (Sj a s.heap) ⟨o,d,H,t,v,I,p,T,q,G,M,y,a5⟩ (by rw[if_pos e3])
 |none =>
  dsimp only;rw[ay]at D;have au:k∉aX:=λz=>by have:=D.mpr z;cases this
  have e0:t.place.size+1<=t.mask:=by
   rw[T.ef];rcases T.hT with e|e|e|e<;>rw[e]at q ⊢<;>lia
  obtain⟨i,b1,b2,u,C,S⟩:=T.put (x:=Uj k tk) d6 a2 e0;have e1:t.freeSlot (Uw k)=Z (bk t.mask (Uw k) N,Th):=by
   unfold SetTable.freeSlot;rcases tv (h:=Uw k) (hashAt:=λ_=>Uw k+1) T.fF dY a2 (10*turns t.mask) 0 (Od _) ⋯ with⟨_,_,_,_,_,z,_⟩|⟨_,z⟩
   .exact absurd z ⋯
   .have f1:t.probe (λ_=>Uw k+1) (Uw k) (t.probeStart (Uw k))=_:=z;rw[f1];rfl
  have e4:layNew t d (Uw k) (.int k tk)=(insertAt d (t.put (bk t.mask (Uw k) N)).2 (Uw k,.int k tk),(t.put (bk t.mask (Uw k) N)).1,Th,Th):=by
   unfold layNew;rw[e1];dsimp only;have K:=Tab.fits i;generalize t.put (bk t.mask (Uw k) N)=P at i b1 K;obtain⟨c,p1⟩:=P;dsimp only at K ⊢;unfold SetTable.orStandIn;rw[K];rfl
  rw[e4];dsimp only;generalize fR:t.put (bk t.mask (Uw k) N)=P at i b1 b2 u C S;obtain⟨c,p1⟩:=P;dsimp only at i b1 b2 u C S ⊢;refine NZ (Tg ?_);rw[u,G];simp only[O6];rw[show Vn 8 (Uj k tk)=pure J from by unfold Vn;rfl];refine NZ (Tg ?_);simp only[O6];have aw:=w3 d p1 (Uw k,Uj k tk) b1;have a7:(insertAt d p1 (Uw k,Uj k tk)).size=d.size+1:=kL _ _ _ b1;have dP:Paired hp ((Uw k,Uj k tk)::d.toList) (k::aX):=.cons ⟨rfl,_,rfl⟩ y;obtain⟨ba,O,R⟩:=Paired.perm aw dP;have aq:ba.Nodup:=(O.nodup_iff).mpr (Pd.mpr ⟨au,a5⟩);generalize f6:insertAt d p1 (Uw k,Uj k tk)=b at i aw a7 R;refine NZ (Q9 v p ?_ (by rw[a7,TL];lia));have L:(s.heap.update a (Us b c)).get? a=Z { o with data:=.set b (H+1) c }:=by
   have:=OD (Us b c) v (by rw[Rt b c p];rfl);rw[Rt b c p]at this;exact this
  have aF:=OS s.heap a (Us b c);have X:∀h' l,TZ a s.heap h'->km w h' a l->l.Perm (k::aX)->Q J { s with heap:=h' }:=λh' l f2 iJ f4=>h h' l J f2 iJ (by rw[if_neg au];exact f4)
  have a1:c.fill=b.size:=i.fill
  by_cases B:c.tooFull=J
  .simp only[B,RY,Rz,O6];have dz:∃m,ew m/\sizeAbove (grown b.size)-1=m/\b.size*5<m*3/\sizeAbove (grown b.size)<=512:=by
    unfold Vf at B;rw[a1,b2]at B;have f:b.size*5>=t.mask*3:=⇑B;rcases T.hT with e|e|e|e
    .rw[e]at f q;have:b.size=5:=⋯;rw[this];exact⟨31,.inr (.inl rfl),∅,∅,∅⟩
    .rw[e]at f q;have:b.size=19:=⋯;rw[this];exact⟨127,.inr (.inr (.inl rfl)),∅,∅,∅⟩
    .rw[e]at f q;have:b.size=77:=⋯;rw[this];exact⟨511,.inr (.inr (.inr rfl)),∅,∅,∅⟩
    .rw[e]at f q;lia
   obtain⟨m,a3,e5,a4,f7⟩:=dz;obtain⟨g,n,bl,bq,cH,cN,U,V,c4,dc⟩:=xl (α:=Ti) a3 b (by
    rcases a3 with e|e|e|e<;>rw[e]at a4 ⊢<;>lia) c.finger (c.movedTo m) c.led c.plain
   have fB:c.relaid (b.map (·.1)) (grown b.size)=Z (g,n):=by
    unfold X4;rw[e5];exact bl
   have dy:relayAll c b (grown b.size)=(n.filterMap (b[·]?),g,Th):=by
    unfold relayAll;rw[fB];dsimp only;have de:coversAll n b.size=true:=(by unfold coversAll;exact List.isPerm_iff.mpr dc);rw[de,Tab.fits V];rfl
   rw[dy];dsimp only;refine NZ (Tg ?_);refine NZ (Q9 L rfl ?_ (by rw[U,TL];lia));obtain⟨fk,bj,f0⟩:=Paired.perm c4 R;have e2:((s.heap.update a (Us b c)).update a (Us (n.filterMap (b[·]?)) g)).get? a=Z { o with data:=.set (n.filterMap (b[·]?)) (H+1+1) g }:=by
    have:=OD (Us (n.filterMap (b[·]?)) g) L (by rw[Rt _ g rfl];rfl);rw[Rt _ g rfl]at this;exact this
   have eY:=aF.trans (OS _ a (Us (n.filterMap (b[·]?)) g));exact Tg (Tg (X _ fk eY ⟨_,_,_,g,e2,I,rfl,V,by rw[U,bq];exact a4,by rw[cN,u];exact G,by rw[cH,C];exact M,f0,(bj.nodup_iff).mpr aq⟩ (bj.trans O)))
  .have f:c.tooFull=false:=⇑B;simp only[f,TR,N4,Ox];refine Tg (Tg (X _ ba aF ⟨_,_,_,c,L,I,rfl,i,?_,by rw[u];exact G,by rw[C];exact M,R,aq⟩ O));unfold Vf at f;rw[a1]at f;have:¬b.size*5>=c.mask*3:=⇑f;lia
def K9(e:km w s.heap a b)(f:b.length<256)(h:∀h' d c r,s.toks<=d->TZ a s.heap h'->km w h' a c->c.Perm (if k∈b then b else k::b)->Q r { s with heap:=h',toks:=d }):
  Ts (Tw prog w) A (Yj a (.int k tk)) Q E s:=by
 unfold Yj;refine Pu (NZ ((U0 prog w).pyHash (k:=k) (mr _ _ _ _) ?_));exact A4 (s:={ s with toks:=s.toks+1 }) e f λh' g r i j l=>h h' _ g r (Nat.le_succ _) i j l
end
end Pv
end
section
namespace Pv
open PySem PySem.Spec PyProof.Rows d5 PySem.SetTable
section
variable{prog:TV}{w:Ug}
structure n0(prog:TV)(w:Ug)(κ:Type)[DecidableEq κ] where
 Row:TU->Ti->κ->Prop
 Set:TU->Tu->List κ->Prop
 fresh:∀(h:TU)(a:Tu),h.get? a=Z { cls:=.type "set",dict:=Y,data:=.set #[] 0 (.fresh 0 0 (!w.params.followText "set-order")) }->Set h a []
 moved:∀{h h':TU}{a:Tu}{aX:List κ},Set h a aX->(∀o,h.get? a=Z o->h'.get? a=Z o)->(∀b o,h.get? b=Z o->o.cls=.type "tuple"->h'.get? b=Z o)->Set h' a aX
 tH:∀{h h':TU}{v:Ti}{k:κ},Row h v k->(∀b o,h.get? b=Z o->o.cls=.type "tuple"->h'.get? b=Z o)->Row h' v k
 td:∀{h:TU}{a:Tu}{aX:List κ},Set h a aX->∀o,h.get? a=Z o->o.cls≠.type "tuple"
 add:∀{A:T3}{E:Ti->Tq->Prop}{s:Tq}{a:Tu}{v:Ti}{k:κ}{aX:List κ}{Q:Bool->Tq->Prop},A.units<UD->Set s.heap a aX->Row s.heap v k->aX.length<256 ->
  (∀h' tk fs r,s.toks<=tk->TZ a s.heap h'->Set h' a fs->fs.Perm (if k∈aX then aX else k::aX)->Q r { s with heap:=h',toks:=tk })->Ts (Tw prog w) A (Yj a v) Q E s
section
variable{κ:Type}[DecidableEq κ]
abbrev met(a:List κ):Nat->List κ
 |0=>[]
 |i+1=>match a[i]? with
  |some k=>if k∈met a i then met a i else k::met a i
  |none=>met a i
theorem o1(a:List κ):∀(i:Nat),i<=a.length->∀k,k∈met a i<->k∈a.take i
 |0,_,k=>by simp[met]
 |i+1,hi,k=>by
  have d:=o1 a i ⋯ k;have b:a[i]?=Z a[i]:=N8 ⋯;have e:a.take (i+1)=a.take i++[a[i]]:=(by rw[List.take_succ,b];rfl);unfold met;rw[b,e,Oz,<- d,Ou];dsimp only
  split
  .rename_i c;constructor
   .exact .inl
   .rintro(h|h)
    .exact h
    .rw[h];exact c
  .rw[N3];exact⟨λh=>h.symm,λh=>h.symm⟩
theorem mK(a:List κ):∀i,(met a i).Nodup
 |0=>Q7
 |i+1=>by
  unfold met
  split
  .split
   .exact mK a i
   .rename_i c;exact Pd.mpr ⟨c,mK a i⟩
  .exact mK a i
def IX{a:List κ}(h:l.Perm m)(h':a.Perm (if k∈l then l else k::l)):a.Perm (if k∈m then m else k::m):=by
 by_cases c:k∈l
 .rw[if_pos c]at h';rw[if_pos (h.mem_iff.mp c)];exact h'.trans h
 .rw[if_neg c]at h';rw[if_neg (λz=>c (h.mem_iff.mpr z))];exact h'.trans (h.cons k)
def M5{St:Nat->Tq->Prop}(K:n0 prog w κ)(W:WalksS prog w A.in1 I L wr G n P St)(S)(y:S∉L)(a3:A.in1.units<UD)(j)(h0)(E:∀i s,St i s->∀b∈wr,∀o,s.heap.get? b=Z o->o.cls≠.type "tuple")(a4:∀i v,P i v->∃k,j[i]?=Z k/\K.Row h0 v k)(c:∀i,i<n->(met j i).length<256):
  ∀(k i:Nat)(s:Tq),n-i=k->i<=n->St i s->(∀b o,h0.get? b=Z o->o.cls=.type "tuple"->s.heap.get? b=Z o)->(∃l,K.Set s.heap S l/\l.Perm (met j i)) ->
   (∀s' l,Moved (S::wr) G s s'->K.Set s'.heap S l->l.Perm (met j n)->R (.ok (.ret .none)) s') ->
   Vu (Tw prog w) A (.builtin "set.update.loop" ⟨[.ref S,.ref I],[]⟩) R s:=by
 have z:S∉wr:=λh=>y (W.sub _ h)
 have D:∀b∈wr,b∈S::wr:=λb c=>Tp _ c
 intro k
 induction k with
 |zero =>
  intro i s T hi f B ⟨l,m,g⟩ hR;have Q:i=n:=⋯;subst Q;refine Pg QR ?_;rw[PE P1 _];show Ts _ A.in1 (U3 (.ref I)>>=_) _ _ s;refine NZ (W.done s _ _ f λs' d=>?_);show Ts _ A.in1 (ret Value.none) _ _ s';exact Tg (hR s' l (d.mono D) (K.moved m (λo e=>d.heap S o z e) λb o e a=>d.heap b o (λp=>E _ s f b p o e a) e) g)
 |succ k a5 =>
  intro i s T hi f B ⟨l,m,g⟩ hR;have q:i<n:=⋯;refine Pg QR ?_;rw[PE P1 _];show Ts _ A.in1 (U3 (.ref I)>>=_) _ _ s;refine NZ (W.item i s _ _ q f λv s' M a2 d=>?_);obtain⟨key,V,O⟩:=a4 i v M;have tk:∀b o,s.heap.get? b=Z o->o.cls=.type "tuple"->s'.heap.get? b=Z o:=λb o e a=>d.heap b o (λp=>E _ s f b p o e a) e
  have x:K.Set s'.heap S l:=K.moved m (λo e=>d.heap S o z e) tk;have C:∀b o,h0.get? b=Z o->o.cls=.type "tuple"->s'.heap.get? b=Z o:=λb o e a=>tk b o (B b o e a) a
  have U:K.Row s'.heap v key:=K.tH O C;show Ts _ A.in1 (Xf [v] (Yj S v)>>=_) _ _ s';refine NZ (Pu (K.add a3 x U (by rw[g.length_eq];exact c i q) λh' b1 aq r H t ay aF=>?_));have a1:∀b o,s'.heap.get? b=Z o->o.cls=.type "tuple"->b≠S:=λb o e a=>by
   rintro rfl;exact K.td x o e a
  refine Tg ⟨RA P1 _,a5 (i+1) _ ⋯ q (W.frame _ s' _ _ a2 H λb c o e=>?_) (λb o e a=>?_) ⟨aq,ay,?_⟩ λaw au a0 N X=>?_⟩
  .rw[t.2 b (λh:b=S=>y (by rw[<- h];exact c))];exact e
  .have u:=C b o e a;show h'.get? b=Z o;rw[t.2 b (a1 b o u a)];exact u
  .unfold met;rw[V];exact IX g aF
  .refine hR aw au (Moved.trans W.gtrans ((d.mono D).then_heap H λb o c e=>?_) a0) N X;rw[t.2 b (λh:b=S=>c (by rw[h];exact To))];exact e
end
def m8(a)(h:Q₁ (.ref s.heap.objs.size) { s with heap:=s.heap.push { cls:=.type "set",dict:=Y,data:=.set #[] 0 (.fresh 0 0 (!w.params.followText "set-order")) } }):
  Vu (Tw prog w) A (.call (.builtin "set.__new__") ⟨[.type "set",a],[]⟩) (wants Q₁ E) s:=by
 refine codeAny_of_tree ?_;show Ts _ A.in1 (do VQ "set.__new__" ⟨[.type "set",a],[]⟩;YB (.builtin "set.__new__" ⟨[.type "set",a],[]⟩)) _ _ s;refine NZ (Sk (F.newCall_set_1 a) (Tg ⟨RA F.plain_set_new _,Pg F.entry_set_new ?_⟩));rw[PE F.plain_set_new _];unfold Uy.«set.__new__» Yk;have c:=sub_set_self;obtain⟨b,g,d,tk,os⟩:=s;dsimp only
 wp_walk
 refine QO (Tg ?_);dsimp only;simp only[newObj];refine NZ (wpAny_alloc (Tg ?_));exact Tg h
def Af(led):Tab (α:=Ti) #[] (VA 0 0 led):=by
 refine⟨λi j a b _ h=>?_,λi j h=>?_,rfl,rfl,.inl rfl,Od _,λi j e h=>?_⟩
 .simp[VA]at h
 .simp[VA]at h
 .simp[VA]at h
theorem yk{α β:Type}{F:α->β->Prop}:∀{l:List α}{b:List β},Paired F l b->∀(i:Nat)(v:α),l[i]?=Z v->∃k,b[i]?=Z k/\F v k
 |_,_,.nil,i,v,h=>by simp at h
 |_,_,.cons a t,0,v,h=>by simp at h;subst h;exact⟨_,rfl,a⟩
 |_,_,.cons a t,i+1,v,h=>by
  have:=yk t i v ⇑h;simpa using this
def Nn(k:A.handled=Y)(n:T="list"\/T="tuple")(d:h.get? l=Z { cls:=.type T,dict:=r,data:=.seq items g,slots:=t }):
  ∃(j:UK)(St:Nat->TU->Prop),j.cls≠.type "tuple"/\(∀(f:T3)(E:Ti->Tq->Prop)(s:Tq)(Q:Ti->Tq->Prop),s.heap=h->Q (.ref h.objs.size) { s with heap:=h.push j }->Ts (Tw prog w) f (VV (.ref l)) Q E s) /\
   Walks prog w A h.objs.size [h.objs.size,l] [h.objs.size] items.size (λi v=>items[i]?=Z v) St/\St 0 (h.push j)/\∀i h',St i h'->∀o,h'.get? h.objs.size=Z o->o.cls≠.type "tuple":=by
 have m:l<h.objs.size:=N5 d;rcases n with rfl|rfl
 .have b:h.IsList l items:=⟨_,d,rfl,g,rfl⟩;refine⟨{ cls:=.type "list_iterator",data:=.fields #[.ref l,.int 0 0] },_,by show T7 _≠T7 _;decide,λf E s Q e q=>?_,Walks.list k h.objs.size l (Oj m) items,⟨⟨_,N6 _ rfl,rfl,rfl⟩,b.push _⟩,λi h' st o e=>?_⟩
  .subst e;exact Ra b q
  .obtain⟨⟨p,a,c,_⟩,_⟩:=st;rw[e]at a;cases a;rw[c];decide
 .have b:h.IsTuple l items:=⟨_,d,rfl,g,rfl⟩;refine⟨{ cls:=.type "tuple_iterator",data:=.fields #[.ref l,.int 0 0] },_,by show T7 _≠T7 _;decide,λf E s Q e q=>?_,Walks.tuple k h.objs.size l (Oj m) items,⟨⟨_,N6 _ rfl,rfl,rfl⟩,⟨_,N1 _ d,rfl,g,rfl⟩⟩,λi h' st o e=>?_⟩
  .subst e;exact Qw b q
  .obtain⟨⟨p,a,c,_⟩,_⟩:=st;rw[e]at a;cases a;rw[c];decide
def vg {κ : Type} [DecidableEq κ] (K : n0 prog w κ) {s : Tq} {a : List κ} (g : T = "list" \/ T = "tuple")
    (O : A.handled = Y) (cL : A.units + 64 < UD) (t : s.heap.get? l = Z { cls := .type T, dict := aw, data := .seq k au, slots := aF }) (hi : Paired (K.Row s.heap) k.toList a) (d : ∀ i, i < a.length -> (met a i).length < 256)
    (h : ∀ (h' : TU) (tk : Nat) (r : List κ), K.Set h' s.heap.objs.size r -> r.Perm (met a a.length) ->
      (∀ b o, b < s.heap.objs.size -> s.heap.get? b = Z o -> h'.get? b = Z o) -> Q (.ref s.heap.objs.size) { s with heap := h', toks := tk }) :
    Ts (Tw prog w) A (call (.type "set") [.ref l]) Q E s := by
  obtain ⟨c, cw, bq⟩ := Qx.mro
  have bl := Qx.made
  have cv := Qx.sub
  refine wpAny_call (codeAny_of_tree ?_)
  show Ts _ _ (callAny (.type "set") _) _ _ _
  refine Tg ⟨R0 _ (by decide +kernel), Pg F.entry_type_call ?_⟩
  rw [Around.under_plain (weight_type_call_type "set" [.ref l] []) rfl]
  have a6 := Qx.notType
  have h2 := Qx.canCreate
  have a7 := F.typeCall_set_1 (.ref l)
  repeat (any_goals (first | assumption | wp_step))
  refine RQ (m8 (.ref l) (E := E) (Q₁ := fun u x => ∃ led : Bool, led = (!w.params.followText "set-order") /\ u = .ref s.heap.objs.size /\ x = { s with heap := s.heap.push { cls := .type "set", dict := Y, data := .set #[] 0 (.fresh 0 0 led) } }) ⟨_, rfl, rfl, rfl⟩) fun r x n => ?_
  cases r with
  | error e => exact n
  | ok D =>
    cases D with
    | ret u =>
      obtain ⟨led, a0, rfl, rfl⟩ := n
      have q : (s.heap.push { cls := .type "set", dict := Y, data := .set #[] 0 (.fresh 0 0 led) }).get? s.heap.objs.size = Z { cls := .type "set", dict := Y, data := .set #[] 0 (.fresh 0 0 led) } := N6 _ rfl
      have L : Shared.TypeIs { s with heap := s.heap.push { cls := .type "set", dict := Y, data := .set #[] 0 (.fresh 0 0 led) } } (.ref s.heap.objs.size) "set" := ⟨_, q, rfl⟩
      have bj := Qx.init.lookup
      have bc := Qx.init.bind (.ref s.heap.objs.size)
      repeat (any_goals (first | assumption | wp_step))
      refine RQ (RD (R := wants (fun r y => r = .none /\ ∃ h' tk f, y = { s with heap := h', toks := tk } /\ K.Set h' s.heap.objs.size f /\ f.Perm (met a a.length) /\
          (∀ b o, b < s.heap.objs.size -> s.heap.get? b = Z o -> h'.get? b = Z o)) E) Qx.init.plain F.entry_set_init (check_set_init_1 L ?_)) fun b1 y p => ?_
      · have a3 : (s.heap.push { cls := .type "set", dict := Y, data := .set #[] 0 (.fresh 0 0 led) }).get? l = Z { cls := .type T, dict := aw, data := .seq k au, slots := aF } := N1 _ t
        have b0 : isSubtype (.type T) (.type "set") = pure false := by rcases g with rfl | rfl; exact F.sub_list_set; exact F.sub_tuple_set
        have bO : isSubtype (.type T) (.type "frozenset") = pure false := by rcases g with rfl | rfl; exact F.sub_list_frozenset; exact F.sub_tuple_frozenset
        have cq : (T7 T == T7 "dict") = false := by rcases g with rfl | rfl <;> decide
        have S : A.in1.in1.in1.handled = none := by simp [O]
        obtain ⟨cM, St, cu, U, W, st0, a2⟩ := Nn (prog := prog) (w := w) S g a3
        unfold Uy.«set.__init__» noKeywords X5
        generalize H : VV = a9
        wp_walk
        subst H
        refine U _ _ _ _ rfl ?_
        refine NZ (Rb ?_)
        have X : l < s.heap.objs.size := N5 t
        have I : s.heap.objs.size ∉ [(s.heap.push { cls := .type "set", dict := Y, data := .set #[] 0 (.fresh 0 0 led) }).objs.size, l] := by
          rw [PT]; simp only [N3, Ou, Qr, Te, not_or]
          exact ⟨Oj (PS _), QN X⟩
        have a1 : k.size = a.length := by have := Paired.len hi; simpa using this
        refine M5 K (W.toS) s.heap.objs.size I ?hu2 a s.heap (fun i s' st b d o e => ?nt) (fun i v aq => ?val) (fun i ba => d i ⋯) (k.size - 0) 0 _ ⋯ (Od _)
          st0 (fun b o e _ => N1 _ (N1 _ e)) ⟨[], ?hS0, .refl _⟩ ?hR
        case hu2 => first | (show A.units + 1 + 1 + 1 + 1 < UD; lia) | (show A.units + 1 + 1 + 1 < UD; lia) | (simp [Around.in1]; lia)
        case nt =>
          rw [Ou] at d
          subst d
          exact a2 i _ st o e
        case val => exact yk hi i v (by rw [Oq]; exact aq)
        case hS0 =>
          refine K.fresh _ _ ?_
          rw [<- a0]
          exact N1 _ q
        case hR =>
          intro s' f j m a4
          obtain ⟨h', g', d', b2, ay⟩ := s'
          have B : g' = s.gens := j.gens
          have z : d' = s.drawn := j.drawn
          have C : ay = s.os := j.os
          subst B; subst z; subst C
          show Ts _ _ _ _ _ _
          refine Tg ?_
          show Ts _ _ (ret Value.none) _ _ _
          refine Tg ⟨rfl, h', b2, f, rfl, m, by rw [<- a1]; exact a4, fun b o d e => ?_⟩
          have M : b ≠ s.heap.objs.size := Oj d
          have N : b ≠ (s.heap.push { cls := .type "set", dict := Y, data := .set #[] 0 (.fresh 0 0 led) }).objs.size := by
            rw [PT]; exact Oj (Xk d)
          exact j.heap b o (by simp only [N3, Ou, Qr, Te, not_or]; exact ⟨M, N⟩) (N1 _ (N1 _ e))
      · cases b1 with
        | error e => exact p
        | ok G =>
          cases G with
          | ret r =>
            obtain ⟨rfl, h', tk, f, rfl, m, a5, V⟩ := p
            repeat (any_goals (first | assumption | wp_step))
            exact h _ _ f m a5 V
          | _ => exact p.elim
    | _ => exact n.elim
end
section
def xh(M:Ti->Prop)(prog)(w):n0 prog w (List Int) where
 Row:=λh v g=>∃b,v=.ref b/\eT prog w h g b/\M v
 Set:=kn M prog w
 fresh:=λh a e=>⟨_,#[],0,_,e,⟨rfl,rfl,rfl⟩,rfl,Af _,by show 0*5<7*3;decide,rfl,by show(!w.params.followText "set-order")=J<->_;simp,.nil,Q7⟩
 moved:=λ{h h' a a4} x N k=>by
  obtain⟨o,u,q,t,H,R,S,T,U,V,X,a0,a1⟩:=x;refine⟨o,u,q,t,N _ H,R,S,T,U,V,X,Paired.mp (λe g ⟨⟨b,e1,e2,e3⟩,e4⟩=>⟨⟨b,e1,e2,?_⟩,e4⟩) a0,a1⟩;obtain⟨f,j,n,y,h2,h3⟩:=e3;exact⟨f,j,n,k b f y h2,h2,h3⟩
 tH:=λx k=>by
  obtain⟨b,e,⟨f,j,m,l,i,d⟩,a3⟩:=x;exact⟨b,e,⟨f,j,m,k b f l i,i,d⟩,a3⟩
 td:=λx o e=>by
  obtain⟨a5,_,_,_,p,C,_⟩:=x;rw[e]at p;cases p;rw[C.1];decide
 add:=λ{A E s a v k g Q} L B I G h=>by
  obtain⟨b,rfl,D,z⟩:=I;refine La L B D z G λh' tk O r a2 l i d=>h h' tk O r a2 l i ?_
  by_cases c:k∈g
  .rw[if_pos c]at d ⊢;exact d
  .rw[if_neg c]at d ⊢;exact d
abbrev Gb(prog)(w):n0 prog w Int where
 Row:=λ_ v k=>∃t,v=.int k t
 Set:=km w
 fresh:=λh a e=>⟨_,#[],0,_,e,⟨rfl,rfl,rfl⟩,rfl,Af _,by show 0*5<7*3;decide,rfl,by show(!w.params.followText "set-order")=J<->_;simp,.nil,Q7⟩
 moved:=λ{h h' a D} x p k=>by
  obtain⟨o,g,f,t,m,r⟩:=x;exact⟨o,g,f,t,p _ m,r⟩
 tH:=λx _=>x
 td:=λx o e=>by
  obtain⟨G,_,_,_,d,j,_⟩:=x;rw[e]at d;cases d;rw[j.1];decide
 add:=λ{A E s a v k q Q} C i n l h=>by
  obtain⟨t,rfl⟩:=n;refine K9 i l λh' tk u r y z B b=>h h' tk u r y z B ?_
  by_cases c:k∈q
  .rw[if_pos c]at b ⊢;exact b
  .rw[if_neg c]at b ⊢;exact b
end
def lr:Slot "set_iterator" "__next__" "set_iterator.__next__" :=
 .of (owner:="set_iterator") (n:="__next__") (by rw[SQ,Rj];kernel_rfl) (by decide +kernel) (by decide +kernel) (by decide +kernel)
  (by first|exact .inl (by decide +kernel)|exact .inr (by decide +kernel)) (by rw[R1];kernel_rfl)
def vS:Yl table "set_iterator.__next__"=Z Uy.«set_iterator.__next__»:=entryFor_of_tree (by kernel_rfl)
def yf:Manifest.owners.lookup (String.ofList ['r','o','t','a','r','e','t','i','_','t','e','s'].reverse)=Z Manifest.sig_set_iterator:=by kernel_rfl
def uV(a):Ym "set_iterator.__next__" ⟨[a],[]⟩:=by
 unfold Ym;rw[WZ (id:="set_iterator.__next__") (n:=['_','_','t','x','e','n','_','_']) (o:=['r','o','t','a','r','e','t','i','_','t','e','s']) (by kernel_rfl) yf];kernel_rfl
def zM:Slot "set_iterator" "__iter__" "set_iterator.__iter__" :=
 .of (owner:="set_iterator") (n:="__iter__") (by rw[SQ,Rj];kernel_rfl) (by decide +kernel) (by decide +kernel) (by decide +kernel)
  (by first|exact .inl (by decide +kernel)|exact .inr (by decide +kernel)) (by rw[R1];kernel_rfl)
def Bl(a):Ym "set_iterator.__iter__" ⟨[a],[]⟩:=by
 unfold Ym;rw[WZ (id:="set_iterator.__iter__") (n:=['_','_','r','e','t','i','_','_']) (o:=['r','o','t','a','r','e','t','i','_','t','e','s']) (by kernel_rfl) yf];kernel_rfl
def zL:Slot "set" "__iter__" "set.__iter__" :=
 .of (owner:="set") (n:="__iter__") (by rw[SQ,Rj];kernel_rfl) (by decide +kernel) (by decide +kernel) (by decide +kernel)
  (by first|exact .inl (by decide +kernel)|exact .inr (by decide +kernel)) (by rw[R1];kernel_rfl)
def Bk(a):Ym "set.__iter__" ⟨[a],[]⟩:=by
 unfold Ym;rw[WZ (id:="set.__iter__") (n:=['_','_','r','e','t','i','_','_']) (o:=['t','e','s']) (by kernel_rfl) PySem.F.owner_set];kernel_rfl
def DG:Yl table "set.__iter__"=Z Uy.«frozenset.__iter__»:=entryFor_alias (id':="frozenset.__iter__") (by kernel_rfl) rfl (by decide +kernel) (by kernel_rfl)
def DH:Yl table "set_iterator.__iter__"=Z Uy.«dict_keyiterator.__iter__»:=entryFor_alias (id':="dict_keyiterator.__iter__") (by kernel_rfl) rfl (by decide +kernel) (by kernel_rfl)
theorem vZ{α:Type}:∀(l:List α)(i:Nat)(h:i<l.length),(l[i]::l.eraseIdx i).Perm l
 |x::r,0,_=>by simp
 |x::r,i+1,h=>by
  simp only[List.getElem_cons_succ,VO];exact(Wy _ _ _).trans ((vZ r i ⇑h).cons x)
theorem yF{α:Type}(next):∀(fuel k:Nat)(left:List α)(a:Array α),left.length<=fuel->(Xl next fuel k left a).toList.Perm (a.toList++left)
 |0,k,left,a,h=>by
  have:left=[]:=VR.mp ⋯;subst this;simp[Xl]
 |fuel+1,k,left,a,h=>by
  unfold Xl;cases left with
  |nil=>simp
  |cons x r =>
   have b:next k%(x::r).length<(x::r).length:=S9 _ (by simp)
   have c:(x::r)[next k%(x::r).length]?=Z (x::r)[next k%(x::r).length]:=N8 b;rw[c];refine(yF next fuel (k+1) _ _ (by rw[List.length_eraseIdx_of_lt b];simp only[Tt]at h ⊢;lia)).trans ?_;rw[QL,Oe];exact Qa _ (vZ _ _ b)
def I7{α:Type}(next)(xs:Array α):(XF next xs).toList.Perm xs.toList:=by
 unfold XF;have:=yF next xs.size 0 xs.toList #[] (by simp)
 simpa using this
section
variable{prog:TV}{w:Ug}
structure jt(w:Ug)(o:UK)(aA:Array (Int×Ti))(gE:Nat)(t:Vz):Prop where
 ex:o.ExactSet
 data:o.data=.set aA gE t
 tab:Tab aA t
 plain:t.plain=J
 led:t.led=J<->w.params.followText "set-order"=Th
abbrev ed(w:Ug)(a:Tu)(b:Array (Int×Ti))(c:Nat):Array (Int×Ti):=if w.params.followText "set-order"=J then XF (w.params.setOrder a c) b else b
def kW(w)(a)(b)(c):(ed w a b c).toList.Perm b.toList:=by
 unfold ed;split
 .exact I7 _ _
 .exact .refl _
abbrev slotAt(w:Ug)(t:Vz)(i:Nat):Nat:=if w.params.followText "set-order"=J then 0 else match i with
 |0=>0
 |j+1=>t.place.getD j 0+1
def jn(h:TU)(c a:Tu)(slot i n b:Nat):Prop:=∃o,h.get? c=Z o/\o.cls=.type "set_iterator"/\o.data=.fields #[.int slot 0,.int i 0,.ref a,.int n 0,.int b 0]
def jn.typeIs{s:Tq}{slot i n b:Nat}(h:jn s.heap e a slot i n b):s.TypeIs (.ref e) "set_iterator":=let ⟨o,d,c,_⟩:=h;⟨o,d,c⟩
def BS{b:Array (Int×Ti)}(T:Tab b t)(hw:w.params.followText "set-order"=Th)(hi:i<=b.size):below t.place (slotAt w t i)=i:=by
 unfold slotAt;rw[if_neg (by rw[hw];decide)];obtain⟨a,h2,h3⟩:=ra T.fF (match i with|0=>0|j+1=>t.place.getD j 0+1);rw[T.ef]at a;cases i with
 |zero =>
  dsimp only at a h2 h3
  by_cases c:below t.place 0=0
  .exact c
  .exfalso;have m:0<t.place.size:=(by rw[T.ef];lia);have:=h2 0 _ ⋯ (N9 m);lia
 |succ j =>
  have f:j<t.place.size:=(by rw[T.ef];lia);have d:t.place[j]?=Z t.place[j]:=N9 f;have k:t.place.getD j 0=t.place[j]:=(by simp[UB,f]);dsimp only at a h2 h3 ⊢;rw[k]at a h2 h3 ⊢
  by_cases g:below t.place (t.place[j]+1)<=j
  .exfalso;have:=h3 j _ g d;lia
  .by_cases h:j+1<below t.place (t.place[j]+1)
   .exfalso;have l:j+1<t.place.size:=(by rw[T.ef];lia);have e:t.place[j+1]?=Z t.place[j+1]:=N9 l;have a1:=h2 (j+1) _ h e;have a2:=T.fF j (j+1) _ _ ⋯ d e;lia
   .omega
def zx(g:s.heap.get? a=Z o)(O:jt w o aA b t)(hi:i<=aA.size)(h:Q ((ed w a aA b)[i]?.map λe=>(e.2,slotAt w t (i+1))) s):Ts (Tw prog w) A (setNext a (slotAt w t i) i b) Q E s:=by
 unfold setNext;refine NZ (Pn g O.data (Tab.fits O.tab) ?_);dsimp only;unfold setsByText;refine NZ (NZ (QO (Tg ?_)));cases hw:w.params.followText "set-order" with
 |true =>
  have d:(Tw prog w).w.params.followText "set-order"=true:=hw;simp only[d,O6];simp only[Qj,N4,Ox];refine NZ ?_;unfold setWalk;refine NZ (Pn g O.data (Tab.fits O.tab) ?_);unfold setsByText;refine NZ (NZ (QO (Tg ?_)));simp only[d,O6];refine NZ (QO (Tg ?_));have e1:ed w a aA b=XF (w.params.setOrder a b) aA:=(by unfold ed;rw[if_pos hw]);have e2:∀i,slotAt w t i=0:=λi=>by unfold slotAt;rw[if_pos hw]
  rw[e1]at h;refine Tg ?_;simp only[e2]at h ⊢;exact h
 |false =>
  have d:(Tw prog w).w.params.followText "set-order"=false:=hw;simp only[d,N4,Ox];have l:(!t.plain&&decide (aA.size>1))=false:=(by rw[O.plain];rfl);show Ts (Tw prog w) A (if (!t.plain&&decide (aA.size>1))=J then _ else _) Q E s;rw[l];simp only[N4,Ox];have m:t.led=true:=O.led.mpr hw;refine NZ ?_;show Ts (Tw prog w) A (if (!t.led&&!aA.isEmpty)=J then _ else pure ()) _ E s;rw[m];simp only[PG,TP,N4,Ox];refine Tg ?_;rw[BS O.tab hw hi];have e1:ed w a aA b=aA:=(by unfold ed;rw[if_neg (by rw[hw];decide)]);rw[e1]at h;refine Tg ?_
  by_cases c:i<aA.size
  .have f:aA[i]?=Z aA[i]:=N9 c;have j:i<t.place.size:=(by rw[O.tab.ef];exact c);have k:t.place[i]?=Z t.place[i]:=N9 j;rw[f]at h ⊢;rw[k];have e3:slotAt w t (i+1)=t.place[i]+1:=(by unfold slotAt;rw[if_neg (by rw[hw];decide)];simp[UB,j]);rw[e3]at h;exact h
  .have f:aA[i]?=none:=P4 ⋯;rw[f]at h ⊢;exact h
def next_item(u:s.heap.get? a=Z o)(O:jt w o e g t)(r:jn s.heap p a (slotAt w t i) i e.size g)(z:(ed w a e g)[i]?=Z x)(B:∀h',jn h' p a (slotAt w t (i+1)) (i+1) e.size g->TZ p s.heap h'->Q (Z x.2) { s with heap:=h' }):Ts (Tw prog w) A (U3 (.ref p)) Q E s:=by
 obtain⟨h,k,y,b⟩:=id r;have hsz:(ed w a e g).size=e.size:=by have:=(kW w a e g).length_eq;simpa using this
 have hi:i<=e.size:=by rw[<- hsz];exact OT (OB.mp z).1
 have D:p≠a:=by
  rintro rfl;rw[u]at k;cases k;rw[O.data]at b;cases b
 unfold U3;refine NZ (Ql (OK (name:=Tf "__next__") r.typeIs lr
  (OM lr r.typeIs vS ?_ (uV _))))
 unfold Uy.«set_iterator.__next__»;refine NZ (m:=slotArgs _ _ _) (Tg ?_);refine NZ (R2 k b ?_);dsimp only;refine NZ (RM u O.data (Tab.fits O.tab) ?_);simp only[Qj,N4,Ox];simp only[Un];refine NZ (zx u O hi ?_);rw[z];simp only[Uq];have q:=OD (T9 (·.setIfInBounds 0 (UX (slotAt w t (i+1):Nat)))) k (by obtain⟨c,d,j,l⟩:=h;simp only at b;subst b;rfl);refine NZ (Pq k b (by simp) ?_);have f:(T9 (·.setIfInBounds 0 (UX (slotAt w t (i+1):Nat))) h).data=.fields #[.int (slotAt w t (i+1):Nat) 0,.int i 0,.ref a,.int e.size 0,.int g 0]:=by
  obtain⟨c,d,j,l⟩:=h;simp only at b;subst b;rfl
 have n:(T9 (·.setIfInBounds 0 (UX (slotAt w t (i+1):Nat))) h).cls=.type "set_iterator":=by
  obtain⟨c,d,j,l⟩:=h;simp only at b y;subst b;exact y
 generalize T9 (·.setIfInBounds 0 (UX (slotAt w t (i+1):Nat))) h=v at q f n;refine NZ (Pq q f (by simp) ?_);have C:=OD (T9 (·.setIfInBounds 1 (UX ((i:Int)+1)))) q (by obtain⟨c,d,j,l⟩:=v;simp only at f;subst f;rfl);refine Tg ?_;refine⟨_,rfl,Tg ?_⟩;refine B _ ⟨_,C,?_,?_⟩ ((OS ..).trans (OS ..))
 .obtain⟨c,d,j,l⟩:=v;simp only at f n;subst f;exact n
 .obtain⟨c,d,j,l⟩:=v;simp only at f n;subst f;rfl
def next_end(k:A.handled=Y)(g:s.heap.get? a=Z o)(O:jt w o c d t)(e:jn s.heap i a (slotAt w t c.size) c.size c.size d)(j:∀h',XT i s.heap h'->Q Y { s with heap:=h' }):Ts (Tw prog w) A (U3 (.ref i)) Q E s:=by
 obtain⟨n,h,l,f⟩:=id e;have hsz:(ed w a c d).size=c.size:=by have:=(kW w a c d).length_eq;simpa using this
 unfold U3;refine NZ (Ql (OK (name:=Tf "__next__") e.typeIs lr
  (OM lr e.typeIs vS ?_ (uV _))))
 unfold Uy.«set_iterator.__next__»;refine NZ (m:=slotArgs _ _ _) (Tg ?_);refine NZ (R2 h f ?_);dsimp only;refine NZ (RM g O.data (Tab.fits O.tab) ?_);simp only[Qj,N4,Ox];simp only[Un];refine NZ (zx g O (N2 _) ?_);rw[P4 ⋯];simp only[Option.map_none];refine NZ (Pq h f (by simp) ?_);show Ts _ _ (XG (.type "StopIteration") []>>=_) _ _ _;refine NZ ?_;simp only[XG,Yn];refine NZ (OC ?_ (by size_fits));refine NZ (m:=UI _ _) (Sk (a:=Value.none) (by first|rfl|(simp only[UI];rfl)) ?_);refine OC ?_ (by size_fits);simp only[Yo];refine NZ (Sv ?_);rw[show A.in1.handled=Y from k];refine NZ (Tg (Sl ?_));refine NZ (QP (T:="StopIteration") (b:=J) ⟨_,N6 _ rfl,rfl⟩ R3 ?_);exact Tg (j _ (((OS ..).extBut.push _).push _))
def FO{slot i n d:Nat}(b:jn s.heap c a slot i n d)(h:Q (.ref c) s):Ts (Tw prog w) A (VV (.ref c)) Q E s:=by
 refine Rc b.typeIs zM (OM zM b.typeIs DH ?_ (Bl _));show Ts _ _ (ret (.ref c)) _ _ s;exact Tg ⟨_,rfl,"set_iterator",_,b.typeIs,lr.lookup,h⟩
def FP(c:s.heap.get? a=Z o)(O:jt w o d f t)(g:Q (.ref s.heap.objs.size) { s with heap:=s.heap.push { cls:=.type "set_iterator",data:=.fields #[.int 0 0,.int 0 0,.ref a,.int d.size 0,.int f 0] } }):Ts (Tw prog w) A (VV (.ref a)) Q E s:=by
 have e:s.TypeIs (.ref a) "set":=⟨o,c,O.ex.1⟩;refine Rc e zL (OM zL e DG ?_ (Bk _));unfold Uy.«frozenset.__iter__» YD slotArgs;simp only[List.isEmpty_nil,PG,N4,↓reduceIte,bind_assoc,TQ,Qj];unfold Yy Yz;simp only[pure_bind,bind_assoc];refine NZ (RM c O.data (Tab.fits O.tab) ?_);unfold setDrawn;simp only[bind_assoc];refine NZ (Pn c O.data (Tab.fits O.tab) ?_);unfold setsByText;simp only[bind_assoc];refine NZ (QO ?_);simp only[pure_bind];have h:∀b:Bool,(!b&&(!t.plain&&decide (d.size>1)))=false:=λb=>by rw[O.plain];simp
 show Ts (Tw prog w) A.in1 (if (!(Tw prog w).w.params.followText "set-order"&&(!t.plain&&decide (d.size>1)))=J then _ else _) _ _ s;rw[h];simp only[N4,Ox,pure_bind];unfold setEpoch;simp only[bind_assoc,pure_bind];refine NZ (Pn c O.data (Tab.fits O.tab) ?_);dsimp only;refine NZ (OC (Tg ⟨_,rfl,"set_iterator",_,⟨_,N6 _ rfl,rfl⟩,lr.lookup,?_⟩));exact g
def Nq(p:A.handled=Y)(q:a≠I)(O:jt w o c d t):
  Walks prog w A I [I,a] [I] c.size (λi v=>∃x,(ed w a c d)[i]?=Z x/\v=x.2) (λi h=>jn h I a (slotAt w t i) i c.size d/\h.get? a=Z o) where
 sub:=λb f=>by simp at f;simp[f]
 frame:=λi h h' st k=>⟨let ⟨g,e,r⟩:=st.1;⟨g,k I (by simp) g e,r⟩,k a (by simp) o st.2⟩
 item:=λi s Q E hi st j=>by
  have hsz:(ed w a c d).size=c.size:=(by have:=(kW w a c d).length_eq;simpa using this);have l:(ed w a c d)[i]?=Z (ed w a c d)[i]:=N9 ⋯;exact next_item st.2 O st.1 l λh' u m=>j _ h' s.toks ⟨_,l,rfl⟩ ⟨u,(m.2 a q).trans st.2⟩ λb g f e=>m.extBut b g (λh=>f (by simp[h])) e
 done:=λs Q E st j=>next_end p st.2 O st.1 λh' n=>j h' s.toks λb g f e=>n b g (λh=>f (by simp[h])) e
 self:=λi s Q E st j=>FO st.1 j
def Fe(a:s.TypeIs (.ref r) "set")(h:Q Th s):Ts (Tw prog w) A (Vw (.ref r)) Q E s:=by
 unfold Vw;refine NZ (SP a PySem.F.slot_set_len.lookup ?_);generalize d:("set.__len__":String)=e
 wp_delta
 rw[show splitId e=Z ("set","__len__") from by subst d;decide +kernel];subst d;refine NZ (QP (T:="set") (b:=J) a (by rw[R1];kernel_rfl) ?_);refine RI (λc=>absurd c ∅) (λ_=>?_);refine RI (λ_=>?_) (λc=>absurd (by decide +kernel) c);refine NZ (Qu a ?_);exact Tg h
end
end Pv
end
section
namespace Pv
open PySem PySem.Spec PyProof.Rows PySem.W
section
def Dc(i:(d==UH)=Th)(b:s.heap.get? d=Z c)(j:c.ExactDict)(e:c.data=.dict g f)(h:Q (.ref s.heap.objs.size) { s with heap:=s.heap.push { cls:=.type "dict_keyiterator",data:=.fields #[.ref d,.int 0 0,.int g.size 0,.int f 0] } }):Ts (Tw prog w) A (VV (.ref d)) Q E s:=by
 have a:s.TypeIs (.ref d) "dict":=⟨c,b,j.1⟩;refine Rc a F.slot_dict_iter (OM F.slot_dict_iter a F.entry_dict_iter ?_ (F.args_dict_iter_1 _));unfold Uy.«dict.__iter__»;refine NZ ?_;unfold Builtin.Dict.dictSlotNone;refine NZ (wpAny_notOrdered_dict a ?_);show Ts _ _ (pure (TA d)) _ _ s;refine Tg ?_;show Ts _ _ (Wk d>>=_) _ _ s;unfold Wk;rw[if_neg (by rw[i];exact OL)];refine NZ (Tg ?_);refine NZ (Sm b e ?_);refine NZ (SR b e ?_);refine NZ (OC (Tg ⟨_,rfl,"dict_keyiterator",_,⟨_,N6 _ rfl,rfl⟩,PA.lookup,?_⟩));simpa[UX] using h
def De(a:s.heap.IsKeyIter b d i c.size gE)(j:s.heap.get? d=Z n)(g:n.data=.dict c gE)(m:i<c.size)(k:∀h',h'.IsKeyIter b d (i+1) c.size gE->TZ b s.heap h'->Q (Z c[i].key) { s with heap:=h' }):Ts (Tw prog w) A (U3 (.ref b)) Q E s:=by
 obtain⟨o,f,l,e⟩:=id a;unfold U3;refine NZ (Ql (OK (name:=Tf "__next__") a.typeIs PA
  (OM PA a.typeIs RE ?_ (Ru _))))
 refine NZ (Tg ?_);refine NZ ?_;refine NZ ?_
 first|refine NZ (PU a.typeIs (Tg ?_))|refine NZ (Qm a.typeIs (Tg ?_))
 refine NZ (R2 f e ?_);simp only[show Vq "dict_keyiterator"=Th by decide,N4,Ox];show Ts _ _ (if (TA d==Value.none)=J then _ else _) _ _ s;rw[if_neg (show ¬((TA d==Value.none)=J) from OL)];refine NZ (Tg ?_);refine NZ (Sm j g ?_);rw[if_neg (by simp)];refine NZ (Tg ?_);refine NZ (SR j g ?_);rw[if_neg (by simp)];refine Tg ?_;simp only[show ¬((i:Int)<0) from by lia,Ox,Un,N9 m];refine NZ ?_
 first|refine NZ (PU a.typeIs (Tg ?_))|refine NZ (Qm a.typeIs (Tg ?_))
 refine NZ (Wl a.typeIs ?_);show Ts _ _ (Yp (.ref b) 1 (UX ((i:Int)+1))>>=_) _ _ s;refine NZ (Pq f e (by simp) ?_);have h:(s.heap.update b (T9 (·.setIfInBounds 1 (UX ((i:Int)+1))))).IsKeyIter b d (i+1) c.size gE :=
  ⟨_,OD _ f (Qb (Pr e _)),(Sn ..).trans l,by rw[Pr e];simp[UX]⟩
 refine NZ (Pu ?_);refine NZ (Wl (s:={ s with heap:=s.heap.update b (T9 (·.setIfInBounds 1 (UX ((i:Int)+1)))) }) h.typeIs ?_);show Ts _ _ (pure c[i].key) _ _ _;exact Tg (Tg ⟨_,rfl,Tg (k _ h (OS ..))⟩)
def C9(n:A.handled=Y)(c:s.heap.IsKeyIter f d e.size e.size k)(j:s.heap.get? d=Z p)(h:p.data=.dict e k)(l:∀h',XT f s.heap h'->Q Y { s with heap:=h' }):Ts (Tw prog w) A (U3 (.ref f)) Q E s:=by
 obtain⟨o,i,q,g⟩:=id c;unfold U3;refine NZ (Ql (OK (name:=Tf "__next__") c.typeIs PA
  (OM PA c.typeIs RE ?_ (Ru _))))
 refine NZ (Tg ?_);refine NZ ?_;refine NZ ?_
 first|refine NZ (PU c.typeIs (Tg ?_))|refine NZ (Qm c.typeIs (Tg ?_))
 refine NZ (R2 i g ?_);simp only[show Vq "dict_keyiterator"=Th by decide,N4,Ox];show Ts _ _ (if (TA d==Value.none)=J then _ else _) _ _ s;rw[if_neg (show ¬((TA d==Value.none)=J) from OL)];refine NZ (Tg ?_);refine NZ (Sm j h ?_);rw[if_neg (by simp)];refine NZ (Tg ?_);refine NZ (SR j h ?_);rw[if_neg (by simp)];refine Tg ?_;simp only[show ¬((e.size:Int)<0) from by lia,Ox,Un,P4 (N2 e.size)];refine NZ ?_
 first|refine NZ (PU c.typeIs (Tg ?_))|refine NZ (Qm c.typeIs (Tg ?_))
 show Ts _ _ (Yp (.ref f) 0 .none>>=_) _ _ s;refine NZ (Pq i g (by simp) ?_);show Ts _ _ (XG (.type "StopIteration") []>>=_) _ _ _;refine NZ ?_;simp only[XG,Yn];refine NZ (OC ?_ (by size_fits));refine NZ (m:=UI _ _) (Sk (a:=Value.none) (by first|rfl|(simp only[UI];rfl)) ?_);refine OC ?_ (by size_fits);simp only[Yo];refine NZ (Sv ?_);rw[show A.in1.handled=Y from n];refine NZ (Tg (Sl ?_));refine NZ (QP (T:="StopIteration") (b:=J) ⟨_,N6 _ rfl,rfl⟩ R3 ?_);exact Tg (l _ (((OS ..).extBut.push _).push _))
end
end Pv
end
section
namespace Pv
open PySem PySem.Spec PyProof.Rows d5 PySem.SetTable
section
def CS (e : s.heap.IsTuple l a.toArray)
    (h : Q a { s with heap := (s.heap.push (UC "list" #[] 0)).update s.heap.objs.size (T4 (· ++ a.toArray)) }) (hsz : a.length <= TH) :
    Ts (Tw prog w) A (WN (.ref l)) Q E s := by
  obtain ⟨o, f, c, n, d⟩ := id e
  unfold WN
  refine NZ (Rb (Pg entry_proto_collect' ?_))
  show Ts _ _ (do YB (.builtin "list.__iadd__" ⟨[<- X9 [], .ref l], []⟩)) _ _ s
  refine NZ (S5 (Tg ⟨R0 _ (by decide +kernel), Pg entry_list_iadd' ?_⟩))
  show Ts _ _ (Um (.ref s.heap.objs.size) (.ref l) (.ref s.heap.objs.size)) _ _ { s with heap := s.heap.push (UC "list" #[] 0) }
  unfold Um
  have b : (s.heap.push (UC "list" #[] 0)).get? l = Z o := N1 _ f
  refine NZ (Qu (T := "tuple") ⟨o, b, c⟩ ?_)
  have g : (T7 "tuple" == T7 "tuple") = true := by rfl
  rw [if_pos (by rw [g]; simp)]
  refine NZ (Xm b d ?_)
  refine NZ (Xm (xs := #[]) (n := 0) (N6 _ rfl) rfl ?_)
  rw [if_neg (by simp)]
  refine NZ (Sw (xs := #[]) (n := 0) (N6 _ rfl) rfl ?_ (Od _) (by show (#[] ++ a.toArray).size <= TH + 1; simp only [PW, Oc, TQ]; lia))
  refine Tg ?_
  show Ts (Tw prog w) A (do
      let o <- load s.heap.objs.size
      match o.data with
      | .seq xs _ => pure xs.toList
      | _ => XU "internal:collect") Q E { s with heap := (s.heap.push (UC "list" #[] 0)).update s.heap.objs.size (T4 (· ++ a.toArray)) }
  refine NZ (S7 (Wd (N6 _ rfl) _) ?_)
  show Ts _ _ (pure ((#[] : Array Ti) ++ a.toArray).toList) Q E _
  rw [show ((#[] : Array Ti) ++ a.toArray).toList = a by simp]
  exact Tg h
def nR(s s':Tq):Prop:=(∀b o,s.heap.get? b=Z o->s'.heap.get? b=Z o)/\s'.gens=s.gens/\s'.drawn=s.drawn/\s'.os=s.os
def CQ{n:Nat}(m:A.handled=Y)(y:IsRange s.heap r a b c t u v)(z:Builtin.Range.small a b c=J)(x:U9 a b c=n)(q:n<=2 ^ 24)(g:∀s' d,nR s s'->Ya (λi v=>∃t,v=.int (a+i*c) t) d n->Q d.toList s'):Ts (Tw prog w) A (WN (.ref r)) Q E s:=by
 unfold WN;refine NZ (Rb (Pg Wm ?_));rw[PE Wn _];show Ts _ A.in1 (X9 []>>=λl=>YB (.builtin "list.__iadd__" ⟨[l,.ref r],[]⟩)) _ _ s;refine NZ (OC ?_);refine Tg ⟨RA Rd _,Pg Xn ?_⟩;rw[PE Rd _];show Ts _ A.in1 (Um (.ref s.heap.objs.size) (.ref r) (.ref s.heap.objs.size)) _ _ _;have h:(s.heap.push { cls:=.type "list",data:=.seq ([]:List Ti).toArray }).get? s.heap.objs.size=Z { cls:=.type "list",data:=.seq ([]:List Ti).toArray }:=N6 _ rfl;refine wpAny_extend_range (A:=A) (R:=wants _ E) (s:={ s with heap:=s.heap.push { cls:=.type "list",data:=.seq ([]:List Ti).toArray } }) m (N1 _ y) z x q s.heap.objs.size (.ref s.heap.objs.size) 0 h λh' tk f B p j k=>?_
 show Ts _ A (load s.heap.objs.size>>=_) _ _ _;refine NZ (S7 j ?_);exact Tg (g _ f ⟨λb o e=>p b o (Oj (N5 e)) (N1 _ e),rfl,rfl,rfl⟩ k)
def CR(X:A.handled=Y)(I:s.heap.get? a=Z o)(O:jt w o c n t)(a3:c.size<=TH)(N:∀s' z,nR s s'->Ya (λi v=>∃x,(ed w a c n)[i]?=Z x/\v=x.2) z c.size->Q z.toList s'):Ts (Tw prog w) A (WN (.ref a)) Q E s:=by
 have r:a<s.heap.objs.size:=N5 I;unfold WN;refine NZ (Rb (Pg Wm ?_));rw[PE Wn _];show Ts _ A.in1 (X9 []>>=λl=>YB (.builtin "list.__iadd__" ⟨[l,.ref a],[]⟩)) _ _ s;refine NZ (OC ?_);refine Tg ⟨RA Rd _,Pg Xn ?_⟩;rw[PE Rd _];show Ts _ A.in1 (Um (.ref s.heap.objs.size) (.ref a) (.ref s.heap.objs.size)) _ _ _;unfold Um;have m:(s.heap.push { cls:=.type "list",data:=.seq ([]:List Ti).toArray }).get? a=Z o:=N1 _ I;refine NZ (Qu (T:="set") ⟨o,m,O.ex.1⟩ ?_);have M:VJ (.ref s.heap.objs.size) (.ref a)=false:=by
  have u:s.heap.objs.size≠a:=Pj (Oj r);simp[VJ,u]
 have h2:(T7 "set"==T7 "list")=false:=by decide
 have h3:(T7 "set"==T7 "tuple")=false:=by decide
 simp only[M,h2,h3,Bool.or_false,N4,Ox];refine NZ (FP (s:={ s with heap:=s.heap.push { cls:=.type "list",data:=.seq ([]:List Ti).toArray } }) m O ?_);generalize p:s.heap.push { cls:=.type "list",data:=.seq ([]:List Ti).toArray }=H at *;have q:H.objs.size=s.heap.objs.size+1:=by rw[<- p,PT]
 have a2:a<H.objs.size:=by rw[q];exact Xk r
 refine NZ (Pu (Fe ⟨o,N1 _ m,O.ex.1⟩ ?_));rw[if_pos ∅];have u:a≠H.objs.size:=Oj a2;have C:s.heap.objs.size≠H.objs.size:=by rw[q];exact Oj (PS _)
 have D:s.heap.objs.size≠a:=Pj (Oj r);have S:s.heap.objs.size∉[H.objs.size,a]:=λd=>by
  rcases N3.mp d with e|e
  .exact C e
  .exact D (Ou.mp e)
 generalize g:H.push { cls:=.type "set_iterator",data:=.fields #[.int 0 0,.int 0 0,.ref a,.int c.size 0,.int n 0] }=f;have B:f.get? s.heap.objs.size=Z { cls:=.type "list",data:=.seq ([]:List Ti).toArray }:=g▸N1 _ (p▸N6 _ rfl);have a4:f.get? a=Z o:=g▸N1 _ m;have a1:f.get? H.objs.size=Z { cls:=.type "set_iterator",data:=.fields #[.int 0 0,.int 0 0,.ref a,.int c.size 0,.int n 0] }:=g▸N6 _ rfl;have a0:A.in1.handled=none:=X;have st0:slotAt w t 0=0:=by unfold slotAt;split<;>rfl
 refine NZ (PR ?_);refine NZ ?_;show Ts _ A.in1 (updateSeq s.heap.objs.size (·.push .none)>>=λ_=>updateSeq s.heap.objs.size (·.pop)) _ _ _;refine NZ (RJ B rfl ?_);have G:=OD (T4 (·.push Value.none)) B rfl;refine RJ G rfl ?_;have U:=OD (T4 (·.pop)) G rfl;have y:∀b dU,b≠s.heap.objs.size->f.get? b=Z dU->((f.update s.heap.objs.size (T4 (·.push Value.none))).update s.heap.objs.size (T4 (·.pop))).get? b=Z dU :=
  λb dU j e=>(Oy _ _ (Pj j)).trans ((Oy _ _ (Pj j)).trans e)
 refine Tg ⟨RA F.plain_extend_loop _,codeAny_extend_loopS (Nq (prog:=prog) (A:=A.in1) a0 u O).toS a3 _ S _ c.size 0 _ _ _ rfl (Od _) ⟨⟨_,y _ _ (Pj C) a1,rfl,by rw[st0];rfl⟩,y _ _ (Pj D) a4⟩ U (ItemsOf.nil _) λs' L a5 d R V=>?_⟩;show Ts _ A (load s.heap.objs.size>>=_) _ _ s';refine NZ (S7 R ?_);refine Tg (N s' L ⟨λb dU e=>d.heap b dU (λj=>?_) (y b dU (Oj (N5 e)) (g▸N1 _ (p▸N1 _ e))),d.gens,d.drawn,d.os⟩ V);have k:=N5 e;rcases N3.mp j with h|h
 .rw[h]at k;exact Pt _ k
 .rw[Ou.mp h,q]at k;exact absurd k (Qy.mpr (Nat.le_succ _))
end
end Pv
end
section
namespace n2
open PySem
section
variable{prog:TV}{w:Ug}{A:T3}{E:Ti->Tq->Prop}{s:Tq}
def tX{j t:Tu}{n:Nat}{d:Array Ti}{v:Ti}{Q:Ti->Tq->Prop}(c:s.heap.IsTupleIter j t n)(T:s.heap.IsTuple t d)(f:d[n]?=Z v)(k:∀g,g.IsTupleIter j t (n+1)->TZ j s.heap g->Q v { s with heap:=g }):Ts (Tw prog w) A (T5 (.ref j)) Q E s:=by
 obtain⟨p,b,i,a⟩:=id c;obtain⟨q,e,_,m,l⟩:=T;have h:¬((TA t==Value.none)=J):=OL;refine NZ (OK (name:=Tf "__next__") c.typeIs P7 (OM P7 c.typeIs RS ?_ (RK _)));refine NZ (m:=Wz (.ref j) 0) (OQ b a (x:=.ref t) rfl ?_);refine(RI (λz=>absurd z h) λ_=>?_);refine NZ (m:=Wz (.ref j) 1) (OQ b a (x:=.int n 0) rfl ?_);refine NZ (m:=seqItems? (.ref t)) (Py e l ?_);simp only[Un,f];refine NZ (Pq b a (by simp) (Tg ⟨v,rfl,Tg (k _ ⟨_,OD _ b (Qb (Pr a _)),(Sn ..).trans i,?_⟩ (OS ..))⟩));rw[Pr a];simp[UX]
def xm{j t:Tu}{n:Nat}{h:Array Ti}{Q:Ti->Tq->Prop}(f:A.handled=Y)(b:s.heap.IsTupleIter j t n)(T:s.heap.IsTuple t h)(l:h[n]?=Y)(k:∀g e,XT j s.heap g->(∃o,g.get? e=Z o/\o.cls=.type "StopIteration")->E (.ref e) { s with heap:=g }):Ts (Tw prog w) A (T5 (.ref j)) Q E s:=by
 obtain⟨p,c,v,d⟩:=id b;obtain⟨q,i,_,m,u⟩:=T;have r:¬((TA t==Value.none)=J):=OL;refine NZ (OK (name:=Tf "__next__") b.typeIs P7 (OM P7 b.typeIs RS ?_ (RK _)));refine NZ (m:=Wz (.ref j) 0) (OQ c d (x:=.ref t) rfl ?_);refine(RI (λz=>absurd z r) λ_=>?_);refine NZ (m:=Wz (.ref j) 1) (OQ c d (x:=.int n 0) rfl ?_);refine NZ (m:=seqItems? (.ref t)) (Py i u ?_);simp only[Un,l];refine NZ (PR (NZ (Pq c d (by simp) (NZ (m:=XG (.type "StopIteration") []) ?_))));unfold XG Yn;refine NZ (OC (NZ (m:=UI _ _) (Sk (a:=Value.none) (by first|rfl|(simp only[UI];rfl)) (OC ?_ (by size_fits)))) (by size_fits));unfold Yo;refine NZ (Sv ?_)
 first|rw[show A.in1.handled=Y from f]|rw[f]
 refine NZ (Tg (Sl (k _ _ (((OS ..).extBut.push _).push _) ⟨_,N6 _ rfl,rfl⟩)))
noncomputable abbrev uA:=ZipApart
def next_item{z a b i j p q:Tu}{n:Nat}{xs ys:Array Ti}{x y u v:Ti}{Q:Option Ti->Tq->Prop}(D:uA z a b i j p q)(h:We s.heap z a b .none)(aw:U8 s.heap a (.ref i) (.ref j))(ay:U8 s.heap b u v)(I:s.heap.IsTupleIter i p n)(a4:s.heap.IsTupleIter j q n)(P:s.heap.IsTuple p xs)(R:s.heap.IsTuple q ys)(a7:xs[n]?=Z x)(ba:ys[n]?=Z y)(k:∀g,We g z a b (UX s.heap.objs.size)->U8 g b x y->g.IsTupleIter i p (n+1)->g.IsTupleIter j q (n+1)->U8 g s.heap.objs.size x y->g.objs.size=s.heap.objs.size+1 ->
   (∀c o,c≠z->c≠b->c≠i->c≠j->s.heap.get? c=Z o->g.get? c=Z o)->Q (Z (.ref s.heap.objs.size)) { s with heap:=g }):Ts (Tw prog w) A (U3 (.ref z)) Q E s:=by
 have a1:s.TypeIs (.ref z) "zip":=⟨_,h,rfl⟩;refine NZ (Ql (OK (name:=Tf "__next__") a1 RL (OM RL a1 F.entry_zip_next ?_ (Xo _))));refine NZ (m:=Wz (.ref z) 2) (OQ h rfl (x:=.bool Th) rfl ?_);refine NZ (m:=Wz (.ref z) 3) (OQ h rfl (x:=.ref a) rfl (NZ (Py aw rfl ?_)));refine NZ (m:=U4 (.ref z)) ?_;refine NZ (m:=Wz (.ref z) 0) (OQ h rfl (x:=.none) rfl (Tg ?_));simp only[O6];refine NZ (PR (NZ (OQ h rfl (x:=.ref b) rfl (NZ (P8 h (by simp) λb1 G e1=>?_)))));replace G:We b1 z a b .ellipsis:=G;simp only[VS,X6,Wf,Yq];refine NZ (NZ (NZ (RB (NZ (m:=T5 (.ref i)) (tX (I.extBut e1.extBut D.i1z) (P.extBut e1.extBut D.l1z) a7 λb2 a2 e2=>Tg ?_)))));have O:U8 b2 b u v:=e2.extBut _ _ D.TOi1 (e1.extBut _ _ D.TOz ay);refine NZ (Py O rfl (NZ (RF O λa9 C e3=>NZ (XW (Tg ?_)))));replace C:U8 a9 b x v:=C;refine NZ (NZ (RB (NZ (m:=T5 (.ref j)) (tX (((a4.extBut e1.extBut D.i2z).extBut e2.extBut D.i12.symm).extBut e3.extBut D.TOi2.symm) (((R.extBut e1.extBut D.l2z).extBut e2.extBut D.l2i1).extBut e3.extBut D.l2TO) ba λa6 a5 e4=>Tg ?_))));have S:U8 a6 b x v:=e4.extBut _ _ D.TOi2 C;refine NZ (Py S rfl (NZ (RF S λd r e5=>NZ (XW (Tg (Tg ?_))))));replace r:U8 d b x y:=r;refine NZ (Py r rfl (NZ (wpAny_newTuple ?_)));have a0:d.objs.size=s.heap.objs.size:=by rw[e5.1,e4.1,e3.1,e2.1,e1.1]
 have U:We d z a b .ellipsis:=e5.extBut _ _ D.TOz.symm (e4.extBut _ _ D.i2z.symm (e3.extBut _ _ D.TOz.symm (e2.extBut _ _ D.i1z.symm G)));have au:∀c o,c≠z->c≠b->c≠i->c≠j->s.heap.get? c=Z o->d.get? c=Z o:=λc o f B K L e =>
  e5.extBut _ _ B (e4.extBut _ _ L (e3.extBut _ _ B (e2.extBut _ _ K (e1.extBut _ _ f e))))
 have a3:d.IsTupleIter i p (n+1):=((a2.extBut e3.extBut D.TOi1.symm).extBut e4.extBut D.i12).extBut e5.extBut D.TOi1.symm;have aq:d.IsTupleIter j q (n+1):=a5.extBut e5.extBut D.TOi2.symm;have V:z<d.objs.size:=N5 U;refine NZ (m:=WS (.ref z) (.ref d.objs.size)) ?_;have aF:We (d.push { cls:=.type "tuple",data:=.seq #[x,y] }) z a b .ellipsis:=N1 _ U;refine NZ (m:=Yp (.ref z) 0 (UX d.objs.size)) (P8 aF (by simp) λbc H M=>?_);replace H:We bc z a b (UX d.objs.size):=H;refine P8 H (by simp) λl t N=>?_
 replace t:We l z a b (UX d.objs.size):=t;have up:∀c o,c≠z->d.get? c=Z o->l.get? c=Z o:=λc o f e=>N.extBut _ _ f (M.extBut _ _ f (N1 _ e))
 have T:U8 l d.objs.size x y:=N.extBut _ _ (QN V) (M.extBut _ _ (QN V) (N6 _ rfl));have X:l.objs.size=d.objs.size+1:=by rw[N.1,M.1,PT]
 rw[a0]at t T X;refine Tg ⟨_,rfl,?_⟩;have fin:Q (Z (.ref s.heap.objs.size)) { s with heap:=l }:=k l t (up _ _ D.TOz r) (a3.at λo e=>up _ o D.i1z e) (aq.at λo e=>up _ o D.i2z e) T X λc o f B K L e=>up c o f (au c o f B K L e)
 rw[<- a0]at fin;exact Tg fin
def next_end{z a b i j p q:Tu}{n:Nat}{xs ys:Array Ti}{u v:Ti}{Q:Option Ti->Tq->Prop}(X:A.handled=Y)(D:uA z a b i j p q)(f:We s.heap z a b .none)(a2:U8 s.heap a (.ref i) (.ref j))(a3:U8 s.heap b u v)(I:s.heap.IsTupleIter i p n)(a1:s.heap.IsTupleIter j q n)(P:s.heap.IsTuple p xs)(R:s.heap.IsTuple q ys)(aF:xs[n]?=Y\/ys[n]?=Y)(k:∀g,(∀c o,c≠z->c≠b->c≠i->c≠j->s.heap.get? c=Z o->g.get? c=Z o)->Q Y { s with heap:=g }):Ts (Tw prog w) A (U3 (.ref z)) Q E s:=by
 have a0:s.TypeIs (.ref z) "zip":=⟨_,f,rfl⟩;have stop:∀(g:TU)(e:Tu),(∃o,g.get? e=Z o/\o.cls=.type "StopIteration")->(∀c o,c≠z->c≠b->c≠i->c≠j->s.heap.get? c=Z o->g.get? c=Z o) ->
   Ts (Tw prog w) A (Xa (.ref e) (.type "StopIteration")>>=λr=>if r=J then pure Y else throw (.ref e)) Q E { s with heap:=g }:=λg e ⟨o,b1,ay⟩ K =>
  NZ (QP (T:="StopIteration") (b:=J) ⟨o,b1,ay⟩ R3 (Tg (k g K)))
 refine NZ (Ql (OK (name:=Tf "__next__") a0 RL (OM RL a0 F.entry_zip_next ?_ (Xo _))));refine NZ (m:=Wz (.ref z) 2) (OQ f rfl (x:=.bool Th) rfl ?_);refine NZ (m:=Wz (.ref z) 3) (OQ f rfl (x:=.ref a) rfl (NZ (Py a2 rfl ?_)));refine NZ (m:=U4 (.ref z)) ?_;refine NZ (m:=Wz (.ref z) 0) (OQ f rfl (x:=.none) rfl (Tg ?_));simp only[O6];refine NZ (PR (NZ (OQ f rfl (x:=.ref b) rfl (NZ (P8 f (by simp) λaq B e1=>?_)))));replace B:We aq z a b .ellipsis:=B;simp only[VS,X6,Wf,Yq];cases L:xs[n]? with
 |none =>
  refine NZ (NZ (NZ (RB (NZ (m:=T5 (.ref i)) (xm X (I.extBut e1.extBut D.i1z) (P.extBut e1.extBut D.l1z) L λG e e2 H=>?_)))));obtain⟨N,d,t⟩:=H;have S:We G z a b .ellipsis:=e2 _ _ D.i1z.symm B;have M:e≠z:=λw=>by subst w;rw[S]at d;cases d;simp at t
  exact P8 S (by simp) λV _ e3=>stop V e ⟨N,e3.extBut _ _ M d,t⟩ λc o l _ C _ y=>e3.extBut _ _ l (e2 _ _ C (e1.extBut _ _ l y))
 |some x =>
  have b2:ys[n]?=none:=(by rcases aF with h|h;rw[L]at h;cases h;exact h);refine NZ (NZ (NZ (RB (NZ (m:=T5 (.ref i)) (tX (I.extBut e1.extBut D.i1z) (P.extBut e1.extBut D.l1z) L λG a9 e2=>Tg ?_)))));have O:U8 G b u v:=e2.extBut _ _ D.TOi1 (e1.extBut _ _ D.TOz a3);refine NZ (Py O rfl (NZ (RF O λV a6 e3=>NZ (XW (Tg ?_)))));refine NZ (NZ (RB (NZ (m:=T5 (.ref j)) (xm X (((a1.extBut e1.extBut D.i2z).extBut e2.extBut D.i12.symm).extBut e3.extBut D.TOi2.symm) (((R.extBut e1.extBut D.l2z).extBut e2.extBut D.l2i1).extBut e3.extBut D.l2TO) b2 λau e e4 H=>?_))));obtain⟨N,d,t⟩:=H;have U:We au z a b .ellipsis:=e4 _ _ D.i2z.symm (e3.extBut _ _ D.TOz.symm (e2.extBut _ _ D.i1z.symm B));have M:e≠z:=λw=>by subst w;rw[U]at d;cases d;simp at t
  exact P8 U (by simp) λaw _ e5=>stop aw e ⟨N,e5.extBut _ _ M d,t⟩ λc o l a4 C a5 y=>e5.extBut _ _ l (e4 _ _ a5 (e3.extBut _ _ a4 (e2.extBut _ _ C (e1.extBut _ _ l y))))
def make{p q:Tu}{xs ys:Array Ti}{Q:Ti->Tq->Prop}(P:s.heap.IsTuple p xs)(R:s.heap.IsTuple q ys)(k:∀g,We g (s.heap.objs.size+4) (s.heap.objs.size+2) (s.heap.objs.size+3) .none->U8 g (s.heap.objs.size+2) (.ref s.heap.objs.size) (.ref (s.heap.objs.size+1))->U8 g (s.heap.objs.size+3) .none .none ->
   g.IsTupleIter s.heap.objs.size p 0->g.IsTupleIter (s.heap.objs.size+1) q 0->g.objs.size=s.heap.objs.size+5->(∀c o,s.heap.get? c=Z o->g.get? c=Z o)->Q (.ref (s.heap.objs.size+4)) { s with heap:=g }):
  Ts (Tw prog w) A (call (.type "zip") [.ref p,.ref q]) Q E s:=by
 have I:Meets (Uy.«zip.__new__» ⟨[.type "zip",.ref p,.ref q],[]⟩) (λ_ l s'=>s'.heap.IsTuple p xs/\s'.heap.IsTuple q ys /\
   ∀a h2 h3 h4 h5:TU,a=s'.heap.push { cls:=.type "tuple_iterator",data:=.fields #[.ref p,.int 0 0] }->h2=a.push { cls:=.type "tuple_iterator",data:=.fields #[.ref q,.int 0 0] }->h3=h2.push { cls:=.type "tuple",data:=.seq #[.ref s'.heap.objs.size,.ref a.objs.size] } ->
    h4=h3.push { cls:=.type "tuple",data:=.seq #[.none,.none] }->h5=h4.push { cls:=.type "zip",data:=.fields #[.none,.bool Th,.bool Th,.ref h2.objs.size,.ref h3.objs.size] }->l (.ok (.ret (.ref h4.objs.size))) { s' with heap:=h5 }) :=
  .of_wp λprog w A l s' h=>by
   obtain⟨t,g,d,tk,os⟩:=s';obtain⟨B,D,h⟩:=h;have M:=sub_zip;have C:Heap.IsTuple (Shared.heap ⟨t,g,d,tk,os⟩) p xs:=B;have G:Heap.IsTuple (Shared.heap ⟨t.push { cls:=.type "tuple_iterator",data:=.fields #[.ref p,.int 0 0] },g,d,tk,os⟩) q ys:=Heap.IsTuple.push D _
   wp_walk using Qw C,Qw G
   exact⟨_,rfl,h _ _ _ _ _ rfl rfl rfl rfl rfl⟩
 refine callType_new F.called_zip ∅ (F.typeCall_zip_2 _ _) (F.newCall_zip_2 _ _) (λK=>F.args_object_init_3 K _ _) F.entry_zip_new I ⟨P,R,λa h2 h3 h4 h5 e1 e2 e3 e4 e5=>?_⟩;have e:a.objs.size=s.heap.objs.size+1:=by rw[e1,PT]
 have f:h2.objs.size=s.heap.objs.size+2:=by rw[e2,PT,e]
 have i:h3.objs.size=s.heap.objs.size+3:=by rw[e3,PT,f]
 have j:h4.objs.size=s.heap.objs.size+4:=by rw[e4,PT,i]
 have L:h5.objs.size=s.heap.objs.size+5:=by rw[e5,PT,j]
 have z:∀{c o},h4.get? c=Z o->h5.get? c=Z o:=λy=>e5▸N1 _ y
 have x:∀{c o},h3.get? c=Z o->h5.get? c=Z o:=λy=>z (e4▸N1 _ y)
 have v:∀{c o},h2.get? c=Z o->h5.get? c=Z o:=λy=>x (e3▸N1 _ y)
 have u:∀{c o},a.get? c=Z o->h5.get? c=Z o:=λy=>v (e2▸N1 _ y)
 have b:h5.get? h4.objs.size=Z _:=e5▸N6 _ rfl;have r:h4.get? h3.objs.size=Z _:=e4▸N6 _ rfl;have n:h3.get? h2.objs.size=Z _:=e3▸N6 _ rfl;have m:h2.get? a.objs.size=Z _:=e2▸N6 _ rfl;have H:a.get? s.heap.objs.size=Z _:=e1▸N6 _ rfl;rw[f,i,j]at b;rw[i]at r;rw[e,f]at n;rw[e]at m;rw[j];exact⟨⟨_,b,rfl⟩,k h5 b (x n) (z r) ⟨_,u H,rfl,rfl⟩ ⟨_,v m,rfl,rfl⟩ L λc o y=>u (e1▸N1 _ y)⟩
end
end n2
end
section
namespace Tm
open PySem PyProof.Rows
abbrev fC:Bool->Tx->Array Tx->Nat->Nat->Nat->StateT TM Xy (Option Nat):=sortPriv% PySem.Builtin.gallop
abbrev BJ(left:Bool)(a x:Tx):StateT TM Xy (Option Bool):=if left then lt' x a else do return (<- lt' a x).map (!·)
def gA(left:Bool)(b:Tx)(a:Array Tx)(j:Nat):StateT TM Xy (Option Bool):=do
 let x <- UJ a j
 BJ left b x
def ET(left:Bool)(c:Tx)(a:Array Tx)(b n h:Nat):fC left c a b n h=(do
 let mut u:=0
 let mut v:=1
 let mut lo:=0
 let mut hi:=0
 let Z r <- gA left c a (b+h)|return Y
 if r then
  let d:=n-h
  for _ in [0:n] do
   if v>=d then break
   let Z q <- gA left c a (b+(h+v))|return Y
   if !q then break
   u:=v
   v:=2*v+1
  lo:=h+u+1
  hi:=h+min v d
 else
  let d:=h+1
  for _ in [0:n] do
   if v>=d then break
   let Z q <- gA left c a (b+(h-v))|return Y
   if q then break
   u:=v
   v:=2*v+1
  lo:=h+1-min v d
  hi:=h-u
 for _ in [0:n] do
  if lo>=hi then break
  let m:=lo+(hi-lo) / 2
  let Z q <- gA left c a (b+m)|return Y
  if q then lo:=m+1 else hi:=m
 return Z hi):=rfl
def bs(left:Bool)(c:Tx)(a:Array Tx)(b n lo hi:Nat):StateT TM Xy (Option Nat):=do
 let mut lo:=lo
 let mut hi:=hi
 for _ in [0:n] do
  if lo>=hi then break
  let m:=lo+(hi-lo) / 2
  let Z q <- gA left c a (b+m)|return Y
  if q then lo:=m+1 else hi:=m
 return Z hi
section
variable{M:Xe}{A:T3}{E:Ti->Tq->Prop}{s:Tq}{left:Bool}{key:Tx}{arr:Array Tx}{b n h:Nat}{p:Nat->Bool}{st:TM}{Q:Option Nat->TM->Prop}
def vb(v:∀j,j<n->∀Q:Option Bool->TM->Prop,Q (Z (p j)) st->Wo M A E s (gA left key arr (b+j)) Q st)(r:∀i j,i<=j->j<n->p j=J->p i=J)(w:∀k,k<=n->(∀i,i<k->p i=J)->(∀i,k<=i->i<n->p i=Th)->Q (Z k) st){lo hi:Nat}(aI:lo<=hi)(h2:hi<=n)(u:∀i,i<lo->p i=J)(y:∀i,hi<=i->i<n->p i=Th):Wo M A E s (bs left key arr b n lo hi) Q st:=by
 unfold bs;refine Ob (PH (Pc (I:=λx (c:Option (Option Nat)×Nat×Nat) f=>f=st/\c.1=Y/\c.2.1<=c.2.2/\c.2.2<=n/\(∀i,i<c.2.1->p i=J)/\(∀i,c.2.2<=i->i<n->p i=Th)/\c.2.2-c.2.1+x<=n)
  (Q:=λ(c:Option (Option Nat)×Nat×Nat) f=>f=st/\c.1=Y/\c.2.2<=n/\(∀i,i<c.2.2->p i=J)/\∀i,c.2.2<=i->i<n->p i=Th) ?step ?fin ⟨rfl,rfl,aI,h2,u,y,by show hi-lo+0<=n;lia⟩) ?post)
 case step =>
  rintro x ⟨o,lo,hi⟩ f _ z ⟨rfl,rfl,k1,k2,k3,d,k5⟩;dsimp only at k1 k2 k3 d k5 ⊢
  by_cases c:lo>=hi
  .rw[if_pos c];have e:lo=hi:=⋯;subst e;exact Of ⟨rfl,rfl,k2,k3,d⟩
  .rw[if_neg c];have g:lo+(hi-lo) / 2<hi:=⋯;have m:∀a,a<hi-lo->a+(x+1)<=n:=λa h=>Ol (by rw[<- Qn,R4];exact SV h x) k5
   refine Ob (v _ (Oa g k2) _ ?_);dsimp only;cases e:p (lo+(hi-lo) / 2) with
   |true =>
    rw[if_pos rfl];refine Of ⟨rfl,rfl,g,k2,λi l=>?_,d,m _ (S2 (Nat.not_le.mp c) (So (Ow ..)))⟩;exact r i _ (Po l) (Oa g k2) e
   |false =>
    rw[if_neg (by simp)];refine Of ⟨rfl,rfl,Ow ..,Ol (OT g) k2,k3,λi l t=>?_,m _ (RG (Ow ..) g)⟩;cases q:p i with
    |false=>rfl
    |true=>rw[r _ i l t q]at e;cases e
 case fin =>
  rintro⟨o,lo,hi⟩ f ⟨rfl,rfl,k1,k2,k3,d,k5⟩;dsimp only at k1 k2 k3 d k5 ⊢;have e:lo=hi:=(by rw[OX (Od n)]at k5;lia);subst e;exact⟨rfl,rfl,k2,k3,d⟩
 case post =>
  rintro⟨o,lo,hi⟩ f ⟨rfl,rfl,k2,k3,d⟩;exact Of (w hi k2 k3 d)
def wL(m:∀j,j<n->∀Q:Option Bool->TM->Prop,Q (Z (p j)) st->Wo M A E s (gA left key arr (b+j)) Q st)(f:h<n)(r:∀i j,i<=j->j<n->p j=J->p i=J)(y:∀k,k<=n->(∀i,i<k->p i=J)->(∀i,k<=i->i<n->p i=Th)->Q (Z k) st):Wo M A E s (fC left key arr b n h) Q st:=by
 have w:∀i j,i<=j->j<n->p i=Th->p j=false:=λi j z B hi=>by
  cases q:p j with
  |false=>rfl
  |true=>rw[r i j z B q]at hi;cases hi
 rw[ET];refine Ob (m h f _ ?_);cases e:p h with
 |true =>
  dsimp only;rw[if_pos rfl];refine Ob (PH (Pc (I:=λx (c:Option (Option Nat)×Nat×Nat) d=>d=st/\c.1=Y/\c.2.1<c.2.2/\h+c.2.1<n/\p (h+c.2.1)=J/\x+1<=c.2.2)
   (Q:=λ(c:Option (Option Nat)×Nat×Nat) d=>d=st/\c.1=Y/\c.2.1<c.2.2/\h+c.2.1<n/\p (h+c.2.1)=J/\(n-h<=c.2.2\/p (h+c.2.2)=Th)) ?step ?fin ⟨rfl,rfl,X7,f,e,N2 _⟩) ?post)
  case step =>
   rintro x ⟨o,u,v⟩ d _ C ⟨rfl,rfl,k1,k2,k3,a⟩;dsimp only at k1 k2 k3 a ⊢
   by_cases c:v>=n-h
   .rw[if_pos c];exact Of ⟨rfl,rfl,k1,k2,k3,.inl c⟩
   .rw[if_neg c];refine Ob (m _ ⋯ _ ?_);dsimp only;cases l:p (h+v) with
    |true=>rw[if_neg (by simp)];exact Of ⟨rfl,rfl,by dsimp only;lia,by dsimp only;lia,l,by dsimp only;lia⟩
    |false=>rw[if_pos (by simp)];exact Of ⟨rfl,rfl,k1,k2,k3,.inr l⟩
  case fin =>
   rintro⟨o,u,v⟩ d ⟨rfl,rfl,k1,k2,k3,a⟩;rw[OX (Od n)]at a;exact⟨rfl,rfl,k1,k2,k3,.inl (by dsimp only at a ⊢;lia)⟩
  case post =>
   rintro⟨o,u,v⟩ d ⟨rfl,rfl,k1,k2,k3,a⟩;dsimp only at k1 k2 k3 a;refine vb (p:=p) m r y (lo:=h+u+1) (hi:=h+min v (n-h)) (by rw[Qn];exact P2 (Nat.le_min.mpr ⟨k1,Rk k2⟩) h) (QH (OT f) (P5 ..)) (λi hi=>r i _ (Po hi) k2 k3) λi hi t=>?_
   have g:n-h<=v->p i=false:=λk=>by rw[SD k,Pp (OT f)]at hi;exact absurd t (Qy.mpr hi)
   rcases a with a|a
   .exact g a
   .by_cases c:v<=n-h
    .rw[Pe c]at hi;exact w _ i hi t a
    .exact g (XH c)
 |false =>
  dsimp only;rw[if_neg (by simp)];refine Ob (PH (Pc (I:=λx (c:Option (Option Nat)×Nat×Nat) d=>d=st/\c.1=Y/\c.2.1<c.2.2/\c.2.1<=h/\p (h-c.2.1)=Th/\x+1<=c.2.2)
   (Q:=λ(c:Option (Option Nat)×Nat×Nat) d=>d=st/\c.1=Y/\c.2.1<c.2.2/\c.2.1<=h/\p (h-c.2.1)=Th/\(h+1<=c.2.2\/p (h-c.2.2)=J)) ?step ?fin ⟨rfl,rfl,X7,Od _,e,N2 _⟩) ?post)
  case step =>
   rintro x ⟨o,u,v⟩ d _ C ⟨rfl,rfl,k1,k2,k3,a⟩;dsimp only at k1 k2 k3 a ⊢
   by_cases c:v>=h+1
   .rw[if_pos c];exact Of ⟨rfl,rfl,k1,k2,k3,.inl c⟩
   .rw[if_neg c];refine Ob (m _ ⋯ _ ?_);dsimp only;cases l:p (h-v) with
    |true=>rw[if_pos rfl];exact Of ⟨rfl,rfl,k1,k2,k3,.inr l⟩
    |false=>rw[if_neg (by simp)];exact Of ⟨rfl,rfl,by dsimp only;lia,by dsimp only;lia,l,by dsimp only;lia⟩
  case fin =>
   rintro⟨o,u,v⟩ d ⟨rfl,rfl,k1,k2,k3,a⟩;rw[OX (Od n)]at a;exact⟨rfl,rfl,k1,k2,k3,.inl (by dsimp only at a ⊢;lia)⟩
  case post =>
   rintro⟨o,u,v⟩ d ⟨rfl,rfl,k1,k2,k3,a⟩;dsimp only at k1 k2 k3 a;refine vb (p:=p) m r y (lo:=h+1-min v (h+1)) (hi:=h-u) (by rw[<- Rl h 1 u];exact RN (Nat.le_min.mpr ⟨k1,Nat.succ_le_succ k2⟩) _) (Ol (Qt ..) (OT f)) (λi hi=>?_) λi hi t=>w _ i hi t k3
   have g:h+1<=v->p i=true:=λk=>by rw[SD k,SO]at hi;cases hi
   rcases a with a|a
   .exact g a
   .by_cases c:v<=h+1
    .rw[Pe c]at hi;exact r i _ (SW (Po (Nat.add_lt_of_lt_sub hi))) (ON (Qt ..) f) a
    .exact g (XH c)
end
abbrev sZ:Array Tx->Array Tx->StateT TM Xy (Array Tx):=sortPriv% PySem.Builtin.mergeLo
noncomputable abbrev setG(st:TM)(g:Nat):SortSt:=Yr (kindOf st) (Tv st) (Uh st) g (Ul st)
def Hu(a b:Array Tx):sZ a b=(do
 XA "list.sort.merge-lo"
 let d:=a.size+b.size
 let fin (r:Array Tx) (i j:Nat):=r++a.extract i a.size++b.extract j b.size
 let c (r:Array Tx) (i j:Nat):=r++b.extract j b.size++a.extract i a.size
 let mut r:Array Keyed:=#[<- UJ b 0]
 let mut i:=0
 let mut j:=1
 if j==b.size then return fin r i j
 if i+1==a.size then return c r i j
 let mut aj:=gallopOf (<- get)
 for _ in [0:d] do
  let mut ca:=0
  let mut cR:=0
  for _ in [0:d] do
   let Z w <- lt' (<- UJ b j) (<- UJ a i)|return fin r i j
   if w then
    r:=r.push (<- UJ b j);j:=j+1;cR:=cR+1;ca:=0
    if j==b.size then return fin r i j
    if cR>=aj then break
   else
    r:=r.push (<- UJ a i);i:=i+1;ca:=ca+1;cR:=0
    if i+1==a.size then return c r i j
    if ca>=aj then break
  XA "list.sort.gallop"
  aj:=aj+1
  for _ in [0:d] do
   if aj>1 then aj:=aj-1
   modify λs=>setG s aj
   let Z k <- fC Th (<- UJ b j) a i (a.size-i) 0|return fin r i j
   ca:=k
   if k>0 then
    r:=r++a.extract i (i+k);i:=i+k
    if i+1==a.size then return c r i j
    if i==a.size then return fin r i j
   r:=r.push (<- UJ b j);j:=j+1
   if j==b.size then return fin r i j
   let Z k <- fC J (<- UJ a i) b j (b.size-j) 0|return fin r i j
   cR:=k
   if k>0 then
    r:=r++b.extract j (j+k);j:=j+k
    if j==b.size then return fin r i j
   r:=r.push (<- UJ a i);i:=i+1
   if i+1==a.size then return c r i j
   if ca<7&&cR<7 then break
  aj:=aj+1
  modify λs=>setG s aj
 XU "internal:list.sort.merge-bound"):=rfl
structure cW(M:Xe)(A:T3)(E:Ti->Tq->Prop)(s:Tq)(κ:UZ)(S:Tx->Prop)(lt:Tx->Tx->Bool):Prop where
 ask:∀(x y:Tx)(st:TM)(Q:Option Bool->TM->Prop),S x->S y->kindOf st=κ->Q (Z (lt x y)) st->Wo M A E s (lt' x y) Q st
 fj:∀x y,S x->S y->lt x y=J->lt y x=Th
 cB:∀x y z,S x->S y->S z->lt y x=Th->lt z y=Th->lt z x=Th
@[reducible]def le(lt:Tx->Tx->Bool)(x y:Tx):Prop:=lt y x=Th
def aQ(st a:TM):Prop:=kindOf a=kindOf st/\Tv a=Tv st/\Uh a=Uh st/\Ul a=Ul st
def aQ.refl(st):aQ st st:=⟨rfl,rfl,rfl,rfl⟩
def aQ.set{st a:TM}(h:aQ st a)(g):aQ st (setG a g):=h
section
variable{M:Xe}{A:T3}{E:Ti->Tq->Prop}{s:Tq}{κ:UZ}{S:Tx->Prop}{lt:Tx->Tx->Bool}{a b:Array Tx}{st LD:TM}
def dA(h:i<a.size)(q:Q a[i] st):Wo M A E s (UJ a i) Q st:=by
 rw[elem'_eq,N9 h];exact Of q
def BU(O:cW M A E s κ S lt)(e:kindOf st=κ)(h:j<a.size)(f:S c)(d:S a[j])(q:Q (Z (!lt c a[j])) st):Wo M A E s (gA Th c a j) Q st:=by
 unfold gA;refine Ob (dA h ?_);show Wo M A E s (do return (<- lt' c a[j]).map (!·)) Q st;exact Ob (O.ask _ _ _ _ f d e (Of q))
def BV(O:cW M A E s κ S lt)(e:kindOf st=κ)(h:j<a.size)(f:S c)(d:S a[j])(q:Q (Z (lt a[j] c)) st):Wo M A E s (gA J c a j) Q st:=by
 unfold gA;refine Ob (dA h ?_);show Wo M A E s (lt' a[j] c) Q st;exact O.ask _ _ _ _ d f e q
def ff(lt:Tx->Tx->Bool)(a:Array Tx)(i n:Nat):Prop:=∀x y (c:x<a.size) (d:y<a.size),i<=x->x<=y->y<i+n->le lt a[x] a[y]
def sb(O:cW M A E s κ S lt)(l:kindOf st=κ)(f:∀x (c:x<a.size),S a[x])(r:S d)(z:i+n<=a.size)(t:h<n)(v:ff lt a i n)(u:∀k,k<=n->(∀x (c:x<a.size),i<=x->x<i+k->le lt a[x] d)->(∀x (c:x<a.size),i+k<=x->x<i+n->lt d a[x]=J)->Q (Z k) st):Wo M A E s (fC Th d a i n h) Q st:=by
 refine wL (p:=λx=>!lt d (a.getD (i+x) d)) (λj w Q q=>?_) t (λx y B C q=>?_) λk l aI h2=>?_
 .have g:i+j<a.size:=⋯;refine BU O l g r (f _ g) ?_;simp only[UB,g,Sp]at q;exact q
 .have m:i+x<a.size:=⋯;have o:i+y<a.size:=⋯;simp only[UB,m,o,Sp,OY,Ph]at q ⊢;exact O.cB _ _ _ (f _ m) (f _ o) r (v _ _ m o ⋯ ⋯ ⋯) q
 .refine u k l (λx c l1 l2=>?_) λx c l1 l2=>?_
  .have:=aI (x-i) (Qd l1 l2);have e:=Pp l1;simp only[e,UB,c,Sp,OY,Ph]at this;exact this
  .have l0:=Ol (Ow ..) l1;have:=h2 (x-i) (Rk l1) (Qd l0 l2);have e:=Pp l0;simp only[e,UB,c,Sp,Tb,Ph]at this;exact this
def sd(O:cW M A E s κ S lt)(l:kindOf st=κ)(f:∀x (c:x<a.size),S a[x])(r:S d)(z:i+n<=a.size)(t:h<n)(v:ff lt a i n)(u:∀k,k<=n->(∀x (c:x<a.size),i<=x->x<i+k->lt a[x] d=J)->(∀x (c:x<a.size),i+k<=x->x<i+n->le lt d a[x])->Q (Z k) st):Wo M A E s (fC J d a i n h) Q st:=by
 refine wL (p:=λx=>lt (a.getD (i+x) d) d) (λj w Q q=>?_) t (λx y B C q=>?_) λk l aI h2=>?_
 .have g:i+j<a.size:=⋯;refine BV O l g r (f _ g) ?_;simp only[UB,g,Sp]at q;exact q
 .have m:i+x<a.size:=⋯;have o:i+y<a.size:=⋯;simp only[UB,m,o,Sp,Ph]at q ⊢;cases e:lt a[i+x] d with
  |true=>rfl
  |false=>rw[O.cB _ _ _ r (f _ m) (f _ o) e (v _ _ m o ⋯ ⋯ ⋯)]at q;cases q
 .refine u k l (λx c l1 l2=>?_) λx c l1 l2=>?_
  .have:=aI (x-i) (Qd l1 l2);have e:=Pp l1;simp only[e,UB,c,Sp,Ph]at this;exact this
  .have l0:=Ol (Ow ..) l1;have:=h2 (x-i) (Rk l1) (Qd l0 l2);have e:=Pp l0;simp only[e,UB,c,Sp,Ph]at this;exact this
end
structure b6(lt:Tx->Tx->Bool)(a b r:List Tx)(i j:Nat):Prop where
 perm:(r++(a.drop i++b.drop j)).Perm (a++b)
 mZ:(r++a.drop i).Pairwise (le lt)
 k7:(r++b.drop j).Pairwise (le lt)
def dm(lt:Tx->Tx->Bool)(a b r:List Tx):Prop:=r.Perm (a++b)/\r.Pairwise (le lt)
section
def b6.nz(h:b6 lt a b r i j)(k)(m:∀x∈(a.drop i).take k,∀y∈b.drop j,le lt x y):b6 lt a b (r++(a.drop i).take k) (i+k) j:=by
 have e:a.drop i=(a.drop i).take k++a.drop (i+k):=by rw[<- SX,Pk]
 refine⟨?_,?_,?_⟩
 .rw[Oe,<- Oe ((a.drop i).take k),<- e];exact h.perm
 .rw[Oe,<- e];exact h.mZ
 .have f:=Om.mp h.k7;have d:=Om.mp h.mZ;rw[e]at d;have l:=Om.mp d.2.1;rw[Oe];refine Om.mpr ⟨f.1,Om.mpr ⟨l.1,f.2.1,m⟩,λx g y c=>?_⟩;rcases Oz.mp c with c|c
  .exact d.2.2 x g y (OG _ c)
  .exact f.2.2 x g y c
def b6.nA(h:b6 lt a b r i j)(k)(m:∀x∈(b.drop j).take k,∀y∈a.drop i,le lt x y):b6 lt a b (r++(b.drop j).take k) i (j+k):=by
 have e:b.drop j=(b.drop j).take k++b.drop (j+k):=by rw[<- SX,Pk]
 refine⟨?_,?_,?_⟩
 .have p1:(r++(b.drop j).take k++(a.drop i++b.drop (j+k))).Perm (r++(a.drop i++b.drop j)):=by
   rw[Oe];refine Qa r ?_;rw[<- Oe]
   conv=>rhs;rw[e,<- Oe]
   exact Qz _ QI
  exact p1.trans h.perm
 .have d:=Om.mp h.mZ;have f:=Om.mp h.k7;rw[e]at f;have l:=Om.mp f.2.1;rw[Oe];refine Om.mpr ⟨d.1,Om.mpr ⟨l.1,d.2.1,m⟩,λx g y c=>?_⟩;rcases Oz.mp c with c|c
  .exact f.2.2 x g y (OG _ c)
  .exact d.2.2 x g y c
 .rw[Oe,<- e];exact h.k7
def b6.r2(h:b6 lt a b r i b.length):dm lt a b (r++a.drop i):=by
 have:=h.perm;rw[Rv,Pz]at this;exact⟨this,h.mZ⟩
def b6.r3(h:b6 lt a b r a.length j):dm lt a b (r++b.drop j):=by
 have:=h.perm;rw[Rv,UU]at this;exact⟨this,h.k7⟩
def b6.last(h:b6 lt a b r i j)(hi:i+1=a.length)(k:∀y∈b,∀x,a[a.length-1]?=Z x->le lt y x):dm lt a b (r++b.drop j++a.drop i):=by
 have e:∃x,a.drop i=[x]/\a[a.length-1]?=Z x:=by
  have c:i<a.length:=⋯;refine⟨a[i],?_,?_⟩
  .rw[PO c,QA ⋯]
  .rw[show a.length-1=i by lia];exact N8 c
 obtain⟨x,e,f⟩:=e;have g:=Om.mp h.mZ;have l:=Om.mp h.k7;refine⟨?_,?_⟩
 .refine Vr ?_ h.perm;rw[Oe];exact Qa r QI
 .refine Om.mpr ⟨h.k7,by rw[e];simp,λz hz y d=>?_⟩;rw[e]at d;have:y=x:=⇑d;subst this;rcases Oz.mp hz with hz|hz
  .exact g.2.2 z hz y (by rw[e];simp)
  .exact k z (WA hz) y f
end
def wg(a:Array Tx)(i k):(a.extract i (i+k)).toList=(a.toList.drop i).take k:=by
 rw[RH,UM,PF]
def kG(a:Array Tx)(i):(a.extract i a.size).toList=a.toList.drop i:=by
 rw[RH,UM,<- Tn,Pw (by rw[PC];exact N2 _)]
def xR{l:List Tx}(h:x∈(l.drop i).take k):∃n,∃(a:n<l.length),i<=n/\n<i+k/\x=l[n]:=by
 obtain⟨n,a,rfl⟩:=PD.mp h;rw[O1,PC]at a;exact⟨i+n,QJ (Oa a (P5 ..)),Ow ..,PL (Oa a (Qf ..)) i,by rw[Rf,Sq]⟩
def oX{l:List Tx}(h:x∈l.drop i):∃n,∃(a:n<l.length),i<=n/\x=l[n]:=by
 obtain⟨n,a,rfl⟩:=PD.mp h;rw[PC]at a;exact⟨i+n,QJ a,Ow ..,by rw[Sq]⟩
def take1{l:List Tx}(h:i<l.length):(l.drop i).take 1=[l[i]]:=by
 rw[PO h];rfl
noncomputable abbrev jl(a b r:Array Tx)(i j:Nat):Array Keyed:=r++a.extract i a.size++b.extract j b.size
noncomputable abbrev cx(a b r:Array Tx)(i j:Nat):Array Keyed:=r++b.extract j b.size++a.extract i a.size
@[reducible]def TT:Type:=Option (Array Tx)×Array Tx×Nat×Nat×Nat×Nat×Nat
abbrev p3(a b r:Array Tx)(i j e c d:Nat):StateT TM Xy (ForInStep TT):=do
 let x <- UJ a i
 if i+1+1==a.size then pure (.done (Z (cx a b (r.push x) (i+1) j),r.push x,i+1,j,e,c,d))
 else if c<7&&d<7 then pure (.done (Y,r.push x,i+1,j,e,c,d)) else pure (.yield (Y,r.push x,i+1,j,e,c,d))
def p2(a b r:Array Tx)(i j d c e:Nat):StateT TM Xy (ForInStep TT):=do
 let y <- UJ b j
 if j+1==b.size then pure (.done (Z (jl a b (r.push y) i (j+1)),r.push y,i,j+1,d,c,e))
 else do
  let x <- UJ a i
  let q <- fC J x b (j+1) (b.size-(j+1)) 0
  match q with
  |some k =>
   if k>0 then
    if j+1+k==b.size then pure (.done (Z (jl a b (r.push y++b.extract (j+1) (j+1+k)) i (j+1+k)),r.push y++b.extract (j+1) (j+1+k),i,j+1+k,d,c,k))
    else p3 a b (r.push y++b.extract (j+1) (j+1+k)) i (j+1+k) d c k
   else p3 a b (r.push y) i (j+1) d c k
  |_=>pure (.done (Z (jl a b (r.push y) i (j+1)),r.push y,i,j+1,d,c,e))
def p1(a b r:Array Tx)(i j c e d:Nat):StateT TM Xy (ForInStep TT):=do
 modify λs=>setG s c
 let y <- UJ b j
 let q <- fC Th y a i (a.size-i) 0
 match q with
 |some k =>
  if k>0 then
   if i+k+1==a.size then pure (.done (Z (cx a b (r++a.extract i (i+k)) (i+k) j),r++a.extract i (i+k),i+k,j,c,k,d))
   else if i+k==a.size then pure (.done (Z (jl a b (r++a.extract i (i+k)) (i+k) j),r++a.extract i (i+k),i+k,j,c,k,d))
   else p2 a b (r++a.extract i (i+k)) (i+k) j c k d
  else p2 a b r i j c k d
 |_=>pure (.done (Z (jl a b r i j),r,i,j,c,e,d))
section
variable{M:Xe}{A:T3}{E:Ti->Tq->Prop}{s:Tq}{κ:UZ}{S:Tx->Prop}{lt:Tx->Tx->Bool}{a b r:Array Tx}{st0 st:TM}{i j aj ca cR N:Nat}
structure Pre(S:Tx->Prop)(lt:Tx->Tx->Bool)(a b:Array Tx):Prop where
 cU:∀x (mq:x<a.size),S a[x]
 c0:∀x (mq:x<b.size),S b[x]
 hV:ff lt a 0 a.size
 dU:ff lt b 0 b.size
 last:∀y∈b.toList,∀x,a.toList[a.toList.length-1]?=Z x->le lt y x
def eS(lt:Tx->Tx->Bool)(a b:Array Tx)(N:Nat)(r:Array Tx)(i j:Nat):Prop:=b6 lt a.toList b.toList r.toList i j/\i+1<a.size/\j<b.size/\r.size=i+j/\N<=r.size
def cp(lt:Tx->Tx->Bool)(a b:Array Tx)(N:Nat)(t:TT):Prop:=match t.1 with
 |some c=>dm lt a.toList b.toList c.toList
 |none=>eS lt a b N t.2.1 t.2.2.1 t.2.2.2.1
def nY(lt:Tx->Tx->Bool)(a b:Array Tx)(N:Nat)(st0:TM)(f:ForInStep TT)(st:TM):Prop:=aQ st0 st/\match f with
 |.done t=>cp lt a b N t
 |.yield t=>t.1=Y/\cp lt a b N t
def ov(P:Pre S lt a b)(h:b6 lt a.toList b.toList r.toList i j)(hi:i+1=a.size):dm lt a.toList b.toList (cx a b r i j).toList:=by
 show dm _ _ _ (r++b.extract j b.size++a.extract i a.size).toList;rw[TK,TK,kG,kG];exact h.last (by rw[Tn];exact hi) P.last
def ou(h:b6 lt a.toList b.toList r.toList i j)(c:j=b.size):dm lt a.toList b.toList (jl a b r i j).toList:=by
 show dm _ _ _ (r++a.extract i a.size++b.extract j b.size).toList;subst c;have e:b.toList.drop b.size=[]:=QA (by rw[Tn];exact N2 _);rw[TK,TK,kG,kG,e,Pz];exact b6.r2 (by rw[Tn];exact h)
def EG(h:b6 lt a.toList b.toList r.toList i j)(hi:i=a.size):dm lt a.toList b.toList (jl a b r i j).toList:=by
 show dm _ _ _ (r++a.extract i a.size++b.extract j b.size).toList;subst hi;have e:a.toList.drop a.size=[]:=QA (by rw[Tn];exact N2 _);rw[TK,TK,kG,kG,e,Pz];exact b6.r3 (by rw[Tn];exact h)
def b6.kZ(h:b6 lt a.toList b.toList r.toList i j)(hi:i<a.size)(g:∀y (f:y<b.size),j<=y->le lt a[i] b[y]):b6 lt a.toList b.toList (r.push a[i]).toList (i+1) j:=by
 have c:i<a.toList.length:=by rw[Tn];exact hi
 have:=h.nz 1 (λx e y f=>by
  rw[take1 c]at e;obtain rfl:x=a.toList[i]:=⇑e;obtain⟨n,d,l1,rfl⟩:=oX f;exact g n (by rw[Tn]at d;exact d) l1)
 rw[take1 c]at this;rw[QL];exact this
def b6.k4(h:b6 lt a.toList b.toList r.toList i j)(g:j<b.size)(k:∀y (f:y<a.size),i<=y->le lt b[j] a[y]):b6 lt a.toList b.toList (r.push b[j]).toList i (j+1):=by
 have c:j<b.toList.length:=by rw[Tn];exact g
 have:=h.nA 1 (λx e y f=>by
  rw[take1 c]at e;obtain rfl:x=b.toList[j]:=⇑e;obtain⟨n,d,l1,rfl⟩:=oX f;exact k n (by rw[Tn]at d;exact d) l1)
 rw[take1 c]at this;rw[QL];exact this
def b6.rZ(h:b6 lt a.toList b.toList r.toList i j)(g:∀x (e:x<a.size) y (f:y<b.size),i<=x->x<i+k->j<=y->le lt a[x] b[y]):b6 lt a.toList b.toList (r++a.extract i (i+k)).toList (i+k) j:=by
 rw[TK,wg];refine h.nz k λx e y f=>?_
 obtain⟨n,d,l1,l2,rfl⟩:=xR e;obtain⟨m,c,l3,rfl⟩:=oX f;rw[Tn]at d c;exact g n d m c l1 l2 l3
def b6.r0(h:b6 lt a.toList b.toList r.toList i j)(g:∀x (e:x<b.size) y (f:y<a.size),j<=x->x<j+k->i<=y->le lt b[x] a[y]):b6 lt a.toList b.toList (r++b.extract j (j+k)).toList i (j+k):=by
 rw[TK,wg];refine h.nA k λx e y f=>?_
 obtain⟨n,d,l1,l2,rfl⟩:=xR e;obtain⟨m,c,l3,rfl⟩:=oX f;rw[Tn]at d c;exact g n d m c l1 l2 l3
def yi(P:Pre S lt a b)(g:aQ st0 st)(h:b6 lt a.toList b.toList r.toList i j)(hi:i+1<a.size)(k:j<b.size)(m:r.size=i+j)(f:N<=r.size+1)(l:∀y (n:y<b.size),j<=y->le lt a[i] b[y]):
  Wo M A E s (p3 a b r i j aj ca cR) (nY lt a b N st0) st:=by
 unfold p3;have e:i<a.size:=by lia
 refine Ob (dA e ?_);have h':=h.kZ e l
 split
 .rename_i c;have c:i+1+1=a.size:=⇑c;exact Of ⟨g,ov P h' c⟩
 .rename_i c;have c:¬i+1+1=a.size:=⇑c;have d:eS lt a b N (r.push a[i]) (i+1) j:=⟨h',⋯,k,by rw[OH];lia,by rw[OH];exact f⟩
  split
  .exact Of ⟨g,d⟩
  .exact Of ⟨g,rfl,d⟩
def yh(O:cW M A E s κ S lt)(v:kindOf st0=κ)(P:Pre S lt a b)(g:aQ st0 st)(h:b6 lt a.toList b.toList r.toList i j)(hi:i+1<a.size)(l:j<b.size)(B:r.size=i+j)(z:N<=r.size+2)(w:∀y (d:y<a.size),i<=y->le lt b[j] a[y]):
  Wo M A E s (p2 a b r i j aj ca cR) (nY lt a b N st0) st:=by
 unfold p2;have f:i<a.size:=by lia
 refine Ob (dA l ?_);have h':=h.k4 l w
 split
 .rename_i c;have c:j+1=b.size:=⇑c;exact Of ⟨g,ou h' c⟩
 .rename_i c;have c:¬j+1=b.size:=⇑c;have n:=Pp l;refine Ob (dA f ?_);refine Ob (sd O (g.1.trans v) P.c0 (P.cU _ f) (SN n) (Xp (PB l c)) (λx y m d l1 l2 l3=>P.dU x y m d (Od _) l2 ⋯) λk u t o=>?_);dsimp only;have p:=QH l u;have h2:b6 lt a.toList b.toList (r.push b[j]++b.extract (j+1) (j+1+k)).toList i (j+1+k):=h'.r0 λx m y d l1 l2 l3 =>
   O.cB _ _ _ (P.c0 _ m) (P.cU _ f) (P.cU _ d) (O.fj _ _ (P.c0 _ m) (P.cU _ f) (t x m l1 l2)) (P.hV i y f d (Od _) l3 ⋯)
  have q:(r.push b[j]++b.extract (j+1) (j+1+k)).size=i+(j+1+k):=by
   rw[PW,OH,Pb,Pe p,PF];lia
  split
  .split
   .rename_i e;have e:j+1+k=b.size:=⇑e;exact Of ⟨g,ou h2 e⟩
   .rename_i e;have e:¬j+1+k=b.size:=⇑e;exact yi P g h2 hi (PB p e) q (by rw[q];lia) λy d l1=>o y d l1 (by rw[n];exact d)
  .have k0:k=0:=⋯;subst k0;exact yi P g h' hi ⋯ (by rw[OH];lia) (by rw[OH];lia) λy d l1=>o y d l1 (by rw[n];exact d)
def Iv(O:cW M A E s κ S lt)(n:kindOf st0=κ)(P:Pre S lt a b)(g:aQ st0 st)(h:b6 lt a.toList b.toList r.toList i j)(hi:i+1<a.size)(f:j<b.size)(B:r.size=i+j)(w:N<=r.size+2):
  Wo M A E s (p1 a b r i j aj ca cR) (nY lt a b N st0) st:=by
 unfold p1;refine Ob (PZ ?_);have g:=g.set aj;have m:=Xq hi;have o:=Pp (OT m);refine Ob (dA f ?_);refine Ob (sb O (g.1.trans n) P.cU (P.c0 _ f) (SN o) (Xp m) (λx y l d l1 l2 l3=>P.hV x y l d (Od _) l2 ⋯) λk z u v=>?_);dsimp only;have p:=QH (OT m) z;have h2:b6 lt a.toList b.toList (r++a.extract i (i+k)).toList (i+k) j:=h.rZ λx l y d l1 l2 l3 =>
  O.cB _ _ _ (P.cU _ l) (P.c0 _ f) (P.c0 _ d) (u x l l1 l2) (P.dU j y f d (Od _) l3 ⋯)
 have t:(r++a.extract i (i+k)).size=i+k+j:=by
  rw[PW,Pb,Pe p,PF];lia
 have q:∀y (d:y<a.size),i+k<=y->le lt b[j] a[y]:=λy d l1=>O.fj _ _ (P.c0 _ f) (P.cU _ d) (v y d l1 (by rw[o];exact d))
 split
 .split
  .rename_i c;have c:i+k+1=a.size:=⇑c;exact Of ⟨g,ov P h2 c⟩
  .rename_i c;have c:¬i+k+1=a.size:=⇑c
   split
   .rename_i e;have e:i+k=a.size:=⇑e;exact Of ⟨g,EG h2 e⟩
   .rename_i e;have e:¬i+k=a.size:=⇑e;exact yh O n P g h2 (PB (PB p e) c) f t (by rw[t];lia) q
 .have k0:k=0:=⋯;subst k0;exact yh O n P g h hi f B w q
end
@[reducible]def dM:Type:=Option (Array Tx)×Array Tx×Nat×Nat×Nat×Nat
@[reducible]def hA:Type:=Option (Array Tx)×Array Tx×Nat×Nat×Nat
def zP{A B C D E:Type}{P:A×B×C×D×E->Prop}(h:∀a b c d e,P (a,b,c,d,e)):∀c,P c:=λ_=>h _ _ _ _ _
def pH{A B C D E F:Type}{P:A×B×C×D×E×F->Prop}(h:∀a b c d e f,P (a,b,c,d,e,f)):∀c,P c:=λ_=>h _ _ _ _ _ _
def zQ{A B C D E F G:Type}{P:A×B×C×D×E×F×G->Prop}(h:∀a b c d e f g,P (a,b,c,d,e,f,g)):∀c,P c:=λ_=>h _ _ _ _ _ _ _
section
def b5{st:TM}{α:Type}{c:Prop}[Decidable c]{t e:StateT TM Xy α}{Q:α->TM->Prop}(aI:c->Wo M A E s t Q st)(h2:¬c->Wo M A E s e Q st):Wo M A E s (if c then t else e) Q st:=by
 by_cases h:c
 .rw[if_pos h];exact aI h
 .rw[if_neg h];exact h2 h
def eS.less(h:eS lt a b N r i j)(d:c<=N):eS lt a b c r i j:=⟨h.1,h.2.1,h.2.2.1,h.2.2.2.1,Ol d h.2.2.2.2⟩
def eS.no(h:eS lt a b N r i j)(c:a.size+b.size<=N):False:=by
 obtain⟨_,aI,h2,h3,h4⟩:=h;lia
theorem cp.less(h:cp lt a b N t)(d:c<=N):cp lt a b c t:=by
 obtain⟨o,t⟩:=t;cases o with
 |some e=>exact h
 |none=>exact eS.less h d
def nk(h:ff lt a 0 a.size):a.toList.Pairwise (le lt):=by
 rw[QQ];intro x y b c d;rw[Tn]at b c;exact h x y b c (Od _) (OT d) ⋯
def Hv{st:TM}(O:cW M A E s κ S lt)(a4:kindOf st=κ)(P:Pre S lt a b)(ay:0<a.size)(a3:0<b.size)(h0:∀y (w:y<a.size),le lt b[0] a[y])(V:∀u d,aQ st d->dm lt a.toList b.toList u.toList->Q u d):
  Wo M A E s (sZ a b) Q st:=by
 rw[Hu];refine Ob (SF (PR ⟨rfl,?_⟩));refine Ob (dA a3 ?_);have m0:b6 lt a.toList b.toList (#[]:Array Tx).toList 0 0:=⟨RZ _,nk P.hV,nk P.dU⟩;have X:b6 lt a.toList b.toList (#[b[0]]:Array Tx).toList 0 1:=m0.k4 a3 λy w _=>h0 y w
 refine b5 (λk=>?_) λk=>?_
 .have c:=k;have c:1=b.size:=⇑c;exact Of (V _ _ (.refl st) (ou X c))
 .have c:=k;have c:¬1=b.size:=⇑c;refine b5 (λk=>?_) λk=>?_
  .have G:=k;have G:0+1=a.size:=⇑G;exact Of (V _ _ (.refl st) (ov P X G))
  .have G:=k;have G:¬0+1=a.size:=⇑G;refine Ob (RT ?_);refine Ob (PH (Pc (I:=λx (c:hA) d=>aQ st d/\c.1=Y/\eS lt a b (x+1) c.2.1 c.2.2.1 c.2.2.2.1) (Q:=λ(c:hA) d=>aQ st d/\∃u,c.1=Z u/\dm lt a.toList b.toList u.toList)
    ?step ?fin ⟨.refl st,rfl,X,by show 0+1<a.size;lia,by show 1<b.size;lia,rfl,N2 _⟩) ?post)
   case fin =>
    rintro⟨o,r,i,j,D⟩ d ⟨g,_,N⟩;exact(N.no (by rw[OX (Od _)];lia)).elim
   case post =>
    rintro⟨o,r,i,j,D⟩ d ⟨g,u,rfl,m⟩;exact Of (V u d g m)
   case step =>
    refine λx=>zP λo r i j D b1 _ aF h=>?_
    have au:=h.1;have a1:=h.2.2;dsimp only at a1;refine Ob (PH (Pc (I:=λy (c:dM) d=>aQ st d/\c.1=Y/\eS lt a b (x+1+y) c.2.1 c.2.2.1 c.2.2.2.1)
     (Q:=λ(c:dM) d=>aQ st d/\cp lt a b (x+2) (c.1,c.2.1,c.2.2.1,c.2.2.2.1,0,0,0)) ?step2 ?fin2 ⟨au,rfl,a1⟩) ?post2)
    case fin2 =>
     rintro⟨o,r,i,j,H,L⟩ d ⟨g,_,N⟩;exact(N.no (by rw[OX (Od _)];lia)).elim
    case step2 =>
     refine λy=>pH λo r i j H L aw _ w h=>?_
     have v:=h.1;have B:=h.2.2;dsimp only at B;have m2:=B.1;have U:=B.2.1;have n:=B.2.2.1;have a0:=B.2.2.2.1;have aq:=B.2.2.2.2;have C:i<a.size:=⋯;refine Ob (dA n (Ob (dA C ?_)));refine Ob (O.ask _ _ _ _ (P.c0 _ n) (P.cU _ C) (v.1.trans a4) ?_);cases e:lt b[j] a[i] with
     |true =>
      refine b5 (λ_=>?_) λh=>absurd rfl h
      refine Ob (dA n ?_);have m3:=m2.k4 n λy w l1=>O.cB _ _ _ (P.c0 _ n) (P.cU _ C) (P.cU _ w) (O.fj _ _ (P.c0 _ n) (P.cU _ C) e) (P.hV i y C w (Od _) l1 ⋯)
      refine b5 (λk=>?_) λk=>?_
      .have l:=k;have l:j+1=b.size:=⇑l;exact Of ⟨v,ou m3 l⟩
      .have l:=k;have l:¬j+1=b.size:=⇑l;have R:eS lt a b (x+1+(y+1)) (r.push b[j]) i (j+1):=⟨m3,U,⋯,by rw[OH];lia,by rw[OH];lia⟩;refine b5 (λk=>?_) λk=>?_
       .exact Of ⟨v,eS.less R ⋯⟩
       .exact Of ⟨v,rfl,R⟩
     |false =>
      refine b5 (λh=>nomatch h) λ_=>?_
      refine Ob (dA C ?_);have m3:=m2.kZ C λy w l1=>O.cB _ _ _ (P.cU _ C) (P.c0 _ n) (P.c0 _ w) e (P.dU j y n w (Od _) l1 ⋯)
      refine b5 (λk=>?_) λk=>?_
      .have l:=k;have l:i+1+1=a.size:=⇑l;exact Of ⟨v,ov P m3 l⟩
      .have l:=k;have l:¬i+1+1=a.size:=⇑l;have R:eS lt a b (x+1+(y+1)) (r.push a[i]) (i+1) j:=⟨m3,⋯,n,by rw[OH];lia,by rw[OH];lia⟩;refine b5 (λk=>?_) λk=>?_
       .exact Of ⟨v,eS.less R ⋯⟩
       .exact Of ⟨v,rfl,R⟩
    case post2 =>
     refine pH λo r i j H L aw h=>?_
     have v:=h.1;have p:=h.2;cases o with
     |some u=>exact Of ⟨v,u,rfl,p⟩
     |none =>
      have B:eS lt a b (x+2) r i j:=p;refine Ob (SF (PR ⟨rfl,?_⟩));refine Ob (PH (Pc (I:=λz (c:TT) d=>aQ st d/\c.1=Y/\eS lt a b (x+2+z) c.2.1 c.2.2.1 c.2.2.2.1) (Q:=λ(c:TT) d=>aQ st d/\cp lt a b (x+2) c)
       ?step3 ?fin3 ⟨v,rfl,B⟩) ?post3)
      case fin3 =>
       rintro⟨o,r,i,j,D,H,L⟩ d ⟨g,_,N⟩;exact(N.no (by rw[OX (Od _)];lia)).elim
      case step3 =>
       refine λz=>zQ λo r i j D H L dD _ hz h=>?_
       have T:=h.1;have h:=h.2.2;have m3:=h.1;have U:=h.2.1;have n:=h.2.2.1;have a0:=h.2.2.2.1;have aq:=h.2.2.2.2;dsimp only at m3 U n a0 aq;have a2:∀a5,Wo M A E s (p1 a b r i j a5 H L) (nY lt a b (x+2+(z+1)) st) dD:=λa5=>Iv O a4 P T m3 U n a0 ⋯
       refine b5 (λ_=>?_) λ_=>?_
       .refine PH (a2 (D-1)) λf d q=>?_
        cases f with
        |done t=>exact⟨q.1,cp.less q.2 ⋯⟩
        |yield t =>
         obtain⟨o,t⟩:=t;obtain⟨g',rfl,q⟩:=q;exact⟨g',rfl,q⟩
       .refine PH (a2 D) λf d q=>?_
        cases f with
        |done t=>exact⟨q.1,cp.less q.2 ⋯⟩
        |yield t =>
         obtain⟨o,t⟩:=t;obtain⟨g',rfl,q⟩:=q;exact⟨g',rfl,q⟩
      case post3 =>
       rintro⟨o,r,i,j,D,H,L⟩ dD ⟨T,p⟩;cases o with
       |some u=>exact Of ⟨T,u,rfl,p⟩
       |none=>exact Ob (PZ (Of ⟨T.set _,rfl,p⟩))
end
abbrev sY:Array Tx->Array Tx->StateT TM Xy (Array Tx):=sortPriv% PySem.Builtin.mergeHi
def Ho(a b:Array Tx):sY a b=(do
 XA "list.sort.merge-hi"
 let d:=a.size+b.size
 let fin (r:Array Tx) (i j:Nat):=a.extract 0 i++b.extract 0 j++r.reverse
 let c (r:Array Tx) (i j:Nat):=b.extract 0 j++a.extract 0 i++r.reverse
 let mut i:=a.size-1
 let mut j:=b.size
 let mut r:Array Keyed:=#[<- UJ a i]
 if i==0 then return fin r i j
 if j==1 then return c r i j
 let mut aj:=gallopOf (<- get)
 for _ in [0:d] do
  let mut ca:=0
  let mut cR:=0
  for _ in [0:d] do
   let Z w <- lt' (<- UJ b (j-1)) (<- UJ a (i-1))|return fin r i j
   if w then
    i:=i-1;r:=r.push (<- UJ a i);ca:=ca+1;cR:=0
    if i==0 then return fin r i j
    if ca>=aj then break
   else
    j:=j-1;r:=r.push (<- UJ b j);cR:=cR+1;ca:=0
    if j==1 then return c r i j
    if cR>=aj then break
  XA "list.sort.gallop"
  aj:=aj+1
  for _ in [0:d] do
   if aj>1 then aj:=aj-1
   modify λs=>setG s aj
   let Z q <- fC Th (<- UJ b (j-1)) a 0 i (i-1)|return fin r i j
   let k:=i-q
   ca:=k
   if k>0 then
    r:=r++(a.extract q i).reverse;i:=q
    if i==0 then return fin r i j
   j:=j-1;r:=r.push (<- UJ b j)
   if j==1 then return c r i j
   let Z q <- fC J (<- UJ a (i-1)) b 0 j (j-1)|return fin r i j
   let k:=j-q
   cR:=k
   if k>0 then
    r:=r++(b.extract q j).reverse;j:=q
    if j==1 then return c r i j
    if j==0 then return fin r i j
   i:=i-1;r:=r.push (<- UJ a i)
   if i==0 then return fin r i j
   if ca<7&&cR<7 then break
  aj:=aj+1
  modify λs=>setG s aj
 XU "internal:list.sort.merge-bound"):=rfl
structure cj(lt:Tx->Tx->Bool)(a b t:List Tx)(i j:Nat):Prop where
 perm:(a.take i++b.take j++t).Perm (a++b)
 bI:(a.take i++t).Pairwise (le lt)
 bJ:(b.take j++t).Pairwise (le lt)
section
def pR(l:List Tx)(h:q<=i):l.take i=l.take q++(l.take i).drop q:=by
 conv=>lhs;rw[<- Pk q (l.take i)]
 rw[List.take_take,Pe h]
def cj.nz(h:cj lt a b t i j)(m:q<=i)(l:∀x∈b.take j,∀y∈(a.take i).drop q,le lt x y):cj lt a b ((a.take i).drop q++t) q j:=by
 have e:=pR a m;refine⟨?_,?_,?_⟩
 .refine Vr ?_ h.perm
  conv=>rhs;rw[e]
  rw[Oe,Oe,Oe];refine Qa _ ?_;rw[<- Oe,<- Oe];exact Qz t QI
 .rw[<- Oe,<- e];exact h.bI
 .have f:=Om.mp h.bJ;have d:=h.bI;rw[e,Oe]at d;have k:=(Om.mp d).2.1;refine Om.mpr ⟨f.1,k,λx g y c=>?_⟩;rcases Oz.mp c with c|c
  .exact l x g y c
  .exact f.2.2 x g y c
def cj.nA(h:cj lt a b t i j)(m:q<=j)(l:∀x∈a.take i,∀y∈(b.take j).drop q,le lt x y):cj lt a b ((b.take j).drop q++t) i q:=by
 have e:=pR b m;refine⟨?_,?_,?_⟩
 .refine Vr ?_ h.perm
  conv=>rhs;rw[e]
  rw[Oe,Oe,Oe]
 .have d:=Om.mp h.bI;have f:=h.bJ;rw[e,Oe]at f;have k:=(Om.mp f).2.1;refine Om.mpr ⟨d.1,k,λx g y c=>?_⟩;rcases Oz.mp c with c|c
  .exact l x g y c
  .exact d.2.2 x g y c
 .rw[<- Oe,<- e];exact h.bJ
def cj.r2(h:cj lt a b t 0 j):dm lt a b (b.take j++t):=by
 have:=h.perm;rw[R5,UU]at this;exact⟨this,h.bJ⟩
def cj.r3(h:cj lt a b t i 0):dm lt a b (a.take i++t):=by
 have:=h.perm;rw[R5,Pz]at this;exact⟨this,h.bI⟩
def cj.first(h:cj lt a b t i 1)(f:∀x∈b.take 1,∀y∈a,le lt x y):dm lt a b (b.take 1++a.take i++t):=by
 have d:=Om.mp h.bJ;refine⟨?_,?_⟩
 .refine Vr ?_ h.perm;exact Qz t QI
 .rw[Oe];refine Om.mpr ⟨d.1,h.bI,λx e y c=>?_⟩;rcases Oz.mp c with c|c
  .exact f x e y (QM c)
  .exact d.2.2 x e y c
end
def jF(a:Array Tx)(q i):(a.extract q i).toList=(a.toList.take i).drop q:=by
 rw[RH,UM,List.drop_take]
def kF(a:Array Tx)(i):(a.extract 0 i).toList=a.toList.take i:=by rw[jF,SY]
def oZ{l:List Tx}(h:x∈(l.take i).drop q):∃n,∃(a:n<l.length),q<=n/\n<i/\x=l[n]:=by
 obtain⟨n,a,rfl⟩:=PD.mp h;rw[PC,O1]at a;have a:=QJ a;exact⟨q+n,Oa a (P5 ..),Ow ..,Oa a (Qf ..),by rw[Sq,Rf]⟩
def mJ{l:List Tx}(h:x∈l.take i):∃n,∃(a:n<l.length),n<i/\x=l[n]:=by
 obtain⟨n,a,rfl⟩:=PD.mp h;rw[O1]at a;exact⟨n,Oa a (P5 ..),Oa a (Qf ..),by rw[Rf]⟩
def oO{l:List Tx}{i:Nat}(h0:0<i)(h:i<=l.length):(l.take i).drop (i-1)=[l[i-1]'⋯]:=by
 have a:(l.take i).length=i:=by rw[O1];lia
 rw[PO (by rw[a];lia),QA (by rw[a];lia),Rf]
noncomputable abbrev jm(a b r:Array Tx)(i j:Nat):Array Keyed:=a.extract 0 i++b.extract 0 j++r.reverse
noncomputable abbrev b9(a b r:Array Tx)(i j:Nat):Array Keyed:=b.extract 0 j++a.extract 0 i++r.reverse
@[reducible]def ju:Type:=Option (Array Tx)×Nat×Nat×Array Tx×Nat×Nat×Nat
abbrev h3(a b r:Array Tx)(i j e c d:Nat):StateT TM Xy (ForInStep ju):=do
 let x <- UJ a (i-1)
 if i-1==0 then pure (.done (Z (jm a b (r.push x) (i-1) j),i-1,j,r.push x,e,c,d))
 else if c<7&&d<7 then pure (.done (Y,i-1,j,r.push x,e,c,d)) else pure (.yield (Y,i-1,j,r.push x,e,c,d))
def h2(a b r:Array Tx)(i j d c e:Nat):StateT TM Xy (ForInStep ju):=do
 let y <- UJ b (j-1)
 if j-1==1 then pure (.done (Z (b9 a b (r.push y) i (j-1)),i,j-1,r.push y,d,c,e))
 else do
  let x <- UJ a (i-1)
  let o <- fC J x b 0 (j-1) (j-1-1)
  match o with
  |some q =>
   if j-1-q>0 then
    if q==1 then pure (.done (Z (b9 a b (r.push y++(b.extract q (j-1)).reverse) i q),i,q,r.push y++(b.extract q (j-1)).reverse,d,c,j-1-q))
    else if q==0 then pure (.done (Z (jm a b (r.push y++(b.extract q (j-1)).reverse) i q),i,q,r.push y++(b.extract q (j-1)).reverse,d,c,j-1-q))
    else h3 a b (r.push y++(b.extract q (j-1)).reverse) i q d c (j-1-q)
   else h3 a b (r.push y) i (j-1) d c (j-1-q)
  |_=>pure (.done (Z (jm a b (r.push y) i (j-1)),i,j-1,r.push y,d,c,e))
def aI(a b r:Array Tx)(i j c e d:Nat):StateT TM Xy (ForInStep ju):=do
 modify λs=>setG s c
 let y <- UJ b (j-1)
 let o <- fC Th y a 0 i (i-1)
 match o with
 |some q =>
  if i-q>0 then
   if q==0 then pure (.done (Z (jm a b (r++(a.extract q i).reverse) q j),q,j,r++(a.extract q i).reverse,c,i-q,d))
   else h2 a b (r++(a.extract q i).reverse) q j c (i-q) d
  else h2 a b r i j c (i-q) d
 |_=>pure (.done (Z (jm a b r i j),i,j,r,c,e,d))
section
variable{M:Xe}{A:T3}{E:Ti->Tq->Prop}{s:Tq}{κ:UZ}{S:Tx->Prop}{lt:Tx->Tx->Bool}{a b r:Array Tx}{st0 st:TM}{i j aj ca cR N:Nat}
structure lK(S:Tx->Prop)(lt:Tx->Tx->Bool)(a b:Array Tx):Prop where
 cU:∀x (mq:x<a.size),S a[x]
 c0:∀x (mq:x<b.size),S b[x]
 hV:ff lt a 0 a.size
 dU:ff lt b 0 b.size
 first:∀x∈b.toList.take 1,∀y∈a.toList,le lt x y
@[reducible]def eg(lt:Tx->Tx->Bool)(a b r:Array Tx)(i j:Nat):Prop:=cj lt a.toList b.toList r.toList.reverse i j
def eR(lt:Tx->Tx->Bool)(a b:Array Tx)(N:Nat)(r:Array Tx)(i j:Nat):Prop:=eg lt a b r i j/\0<i/\i<=a.size/\1<j/\j<=b.size/\r.size+i+j=a.size+b.size/\N<=r.size
def hu(lt:Tx->Tx->Bool)(a b:Array Tx)(N:Nat)(t:ju):Prop:=match t.1 with
 |some c=>dm lt a.toList b.toList c.toList
 |none=>eR lt a b N t.2.2.2.1 t.2.1 t.2.2.1
def fX(lt:Tx->Tx->Bool)(a b:Array Tx)(N:Nat)(st0:TM)(f:ForInStep ju)(st:TM):Prop:=aQ st0 st/\match f with
 |.done t=>hu lt a b N t
 |.yield t=>t.1=Y/\hu lt a b N t
def oy(P:lK S lt a b)(h:eg lt a b r i j)(c:j=1):dm lt a.toList b.toList (b9 a b r i j).toList:=by
 subst c;show dm _ _ _ (b.extract 0 1++a.extract 0 i++r.reverse).toList;rw[TK,TK,kF,kF,Qk];exact cj.first h P.first
def ow(h:eg lt a b r i j)(hi:i=0):dm lt a.toList b.toList (jm a b r i j).toList:=by
 subst hi;show dm _ _ _ (a.extract 0 0++b.extract 0 j++r.reverse).toList;rw[TK,TK,kF,kF,Qk,R5,UU];exact cj.r2 h
def E2(h:eg lt a b r i j)(c:j=0):dm lt a.toList b.toList (jm a b r i j).toList:=by
 subst c;show dm _ _ _ (a.extract 0 i++b.extract 0 0++r.reverse).toList;rw[TK,TK,kF,kF,Qk,R5,Pz];exact cj.r3 h
def cj.rZ(h:eg lt a b r i j)(k:q<=i)(g:∀x (e:x<b.size) y (f:y<a.size),x<j->q<=y->y<i->le lt b[x] a[y]):eg lt a b (r++(a.extract q i).reverse) q j:=by
 show cj lt a.toList b.toList (r++(a.extract q i).reverse).toList.reverse q j;rw[TK,Qk,QS,WB,jF];refine cj.nz h k λx e y f=>?_
 obtain⟨n,d,l1,rfl⟩:=mJ e;obtain⟨m,c,l2,l3,rfl⟩:=oZ f;rw[Tn]at d c;exact g n d m c l1 l2 l3
def cj.r0(h:eg lt a b r i j)(k:q<=j)(g:∀x (e:x<a.size) y (f:y<b.size),x<i->q<=y->y<j->le lt a[x] b[y]):eg lt a b (r++(b.extract q j).reverse) i q:=by
 show cj lt a.toList b.toList (r++(b.extract q j).reverse).toList.reverse i q;rw[TK,Qk,QS,WB,jF];refine cj.nA h k λx e y f=>?_
 obtain⟨n,d,l1,rfl⟩:=mJ e;obtain⟨m,c,l2,l3,rfl⟩:=oZ f;rw[Tn]at d c;exact g n d m c l1 l2 l3
def cj.kZ(h:eg lt a b r i j)(h0:0<i)(hi:i<=a.size)(f:∀x (d:x<b.size),x<j->le lt b[x] (a[i-1]'⋯)):eg lt a b (r.push (a[i-1]'⋯)) (i-1) j:=by
 have jK:i-1<a.toList.length:=by rw[Tn];lia
 have:=cj.nz (q:=i-1) h ⋯ (λx d y e=>by
  rw[oO h0 (by rw[Tn];exact hi)]at e;obtain rfl:y=a.toList[i-1]'jK:=⇑e;obtain⟨n,c,l1,rfl⟩:=mJ d;exact f n (by rw[Tn]at c;exact c) l1)
 rw[oO h0 (by rw[Tn];exact hi)]at this;show cj lt a.toList b.toList (r.push (a[i-1]'⋯)).toList.reverse (i-1) j;rw[QL,QS];exact this
def cj.k4(h:eg lt a b r i j)(h0:0<j)(c:j<=b.size)(g:∀x (e:x<a.size),x<i->le lt a[x] (b[j-1]'⋯)):eg lt a b (r.push (b[j-1]'⋯)) i (j-1):=by
 have jK:j-1<b.toList.length:=by rw[Tn];lia
 have:=cj.nA (q:=j-1) h ⋯ (λx e y f=>by
  rw[oO h0 (by rw[Tn];exact c)]at f;obtain rfl:y=b.toList[j-1]'jK:=⇑f;obtain⟨n,d,l1,rfl⟩:=mJ e;exact g n (by rw[Tn]at d;exact d) l1)
 rw[oO h0 (by rw[Tn];exact c)]at this;show cj lt a.toList b.toList (r.push (b[j-1]'⋯)).toList.reverse i (j-1);rw[QL,QS];exact this
def wR(P:lK S lt a b)(g:aQ st0 st)(h:eg lt a b r i j)(f:0<i)(hi:i<=a.size)(k:1<j)(l:j<=b.size)(n:r.size+i+j=a.size+b.size)(e:N<=r.size+1)(m:∀x (o:x<b.size),x<j->le lt b[x] (a[i-1]'⋯)):
  Wo M A E s (h3 a b r i j aj ca cR) (fX lt a b N st0) st:=by
 unfold h3;refine Ob (dA ⋯ ?_);have h':=cj.kZ h f hi m;refine b5 (λc=>?_) λc=>?_
 .have c:i-1=0:=⇑c;exact Of ⟨g,ow h' c⟩
 .have c:¬i-1=0:=⇑c;have d:eR lt a b N (r.push (a[i-1]'⋯)) (i-1) j:=⟨h',⋯,⋯,k,l,by rw[OH];lia,by rw[OH];exact e⟩;refine b5 (λ_=>?_) λ_=>?_
  .exact Of ⟨g,d⟩
  .exact Of ⟨g,rfl,d⟩
def wQ(O:cW M A E s κ S lt)(B:kindOf st0=κ)(P:lK S lt a b)(g:aQ st0 st)(h:eg lt a b r i j)(o:0<i)(hi:i<=a.size)(p:1<j)(t:j<=b.size)(H:r.size+i+j=a.size+b.size)(G:N<=r.size+2)(C:∀x (d:x<a.size),x<i->le lt a[x] (b[j-1]'⋯)):Wo M A E s (h2 a b r i j aj ca cR) (fX lt a b N st0) st:=by
 unfold h2;refine Ob (dA ⋯ ?_);have h':=cj.k4 h ⋯ t C;refine b5 (λc=>?_) λc=>?_
 .have c:j-1=1:=⇑c;exact Of ⟨g,oy P h' c⟩
 .have c:¬j-1=1:=⇑c;refine Ob (dA ⋯ ?_);refine Ob (sd O (g.1.trans B) P.c0 (P.cU _ ⋯) ⋯ ⋯ (λx y d m l1 l2 l3=>P.dU x y d m (Od _) l2 ⋯) λq l w z=>?_);have I:=R6 (OT p);have u:=Ol (Qt j 1) t;have L:q<j:=ON l (Tc (Xq p) ∅);have h4:eg lt a b (r.push (b[j-1]'⋯)++(b.extract q (j-1)).reverse) i q:=cj.r0 h' l λx d y m l1 l2 l3 =>
   O.cB _ _ _ (P.cU _ d) (P.cU _ ⋯) (P.c0 _ m) (P.hV x (i-1) d ⋯ (Od _) ⋯ ⋯) (z y m ⋯ ⋯)
  have D:(r.push (b[j-1]'⋯)++(b.extract q (j-1)).reverse).size+i+q=a.size+b.size:=by
   have:=R6 l;rw[PW,OH,Xb,Pb,Pe u];lia
  have v:∀x (d:x<b.size),x<q->le lt b[x] (a[i-1]'⋯):=λx d l1=>O.fj _ _ (P.c0 _ d) (P.cU _ ⋯) (w x d (Od _) ⋯)
  refine b5 (λn=>?_) λn=>?_
  .refine b5 (λf=>?_) λf=>?_
   .have f:q=1:=⇑f;exact Of ⟨g,oy P h4 f⟩
   .have f:¬q=1:=⇑f;refine b5 (λk=>?_) λk=>?_
    .have k:q=0:=⇑k;exact Of ⟨g,E2 h4 k⟩
    .have k:¬q=0:=⇑k;exact wR P g h4 o hi ⋯ (Ol l u) D (by clear l;lia) v
  .have e:=SS l (Nat.sub_eq_zero_iff_le.mp (Nat.eq_zero_of_not_pos n));subst e;exact wR P g h' o hi ⋯ ⋯ (by rw[OH];lia) (by rw[OH];lia) v
def E8(O:cW M A E s κ S lt)(l:kindOf st0=κ)(P:lK S lt a b)(g:aQ st0 st)(h:eg lt a b r i j)(w:0<i)(hi:i<=a.size)(m:1<j)(n:j<=b.size)(z:r.size+i+j=a.size+b.size)(v:N<=r.size+2):
  Wo M A E s (aI a b r i j aj ca cR) (fX lt a b N st0) st:=by
 unfold aI;refine Ob (PZ ?_);have g:=g.set aj;refine Ob (dA ⋯ ?_);refine Ob (sb O (g.1.trans l) P.cU (P.c0 _ ⋯) ⋯ ⋯ (λx y d k l1 l2 l3=>P.hV x y d k (Od _) l2 ⋯) λq o t u=>?_);have h4:eg lt a b (r++(a.extract q i).reverse) q j:=cj.rZ h o λx d y k l1 l2 l3 =>
  O.cB _ _ _ (P.c0 _ d) (P.c0 _ ⋯) (P.cU _ k) (P.dU x (j-1) d ⋯ (Od _) ⋯ ⋯) (O.fj _ _ (P.c0 _ ⋯) (P.cU _ k) (u y k ⋯ ⋯))
 have B:(r++(a.extract q i).reverse).size+q+j=a.size+b.size:=by
  have:=R6 o;rw[PW,Xb,Pb,Pe hi];lia
 have p:∀x (d:x<a.size),x<q->le lt a[x] (b[j-1]'⋯):=λx d l1=>t x d (Od _) ⋯
 refine b5 (λc=>?_) λc=>?_
 .refine b5 (λf=>?_) λf=>?_
  .have f:q=0:=⇑f;exact Of ⟨g,ow h4 f⟩
  .have f:¬q=0:=⇑f;exact wQ O l P g h4 ⋯ ⋯ m n B ⋯ p
 .have e:q=i:=⋯;subst e;exact wQ O l P g h w hi m n z v p
end
@[reducible]def uM:Type:=Option (Array Tx)×Nat×Nat×Array Tx×Nat×Nat
@[reducible]def lL:Type:=Option (Array Tx)×Nat×Nat×Array Tx×Nat
section
variable{M:Xe}{A:T3}{E:Ti->Tq->Prop}{s:Tq}{κ:UZ}{S:Tx->Prop}{lt:Tx->Tx->Bool}{a b r:Array Tx}{st0 st:TM}{i j aj ca cR N:Nat}
def eR.less(h:eR lt a b N r i j)(d:c<=N):eR lt a b c r i j:=⟨h.1,h.2.1,h.2.2.1,h.2.2.2.1,h.2.2.2.2.1,h.2.2.2.2.2.1,Ol d h.2.2.2.2.2.2⟩
def eR.no(h:eR lt a b N r i j)(d:a.size+b.size<=N):False:=by
 obtain⟨_,aI,h2,h3,h4,h5,c⟩:=h;lia
theorem hu.less(h:hu lt a b N t)(d:c<=N):hu lt a b c t:=by
 obtain⟨o,t⟩:=t;cases o with
 |some e=>exact h
 |none=>exact eR.less h d
def Hp{Q:Array Tx->TM->Prop}(O:cW M A E s κ S lt)(a5:kindOf st=κ)(P:lK S lt a b)(ay:0<a.size)(b1:0<b.size)(h0:∀x (B:x<b.size),le lt b[x] (a[a.size-1]'⋯))(V:∀n d,aQ st d->dm lt a.toList b.toList n.toList->Q n d):
  Wo M A E s (sY a b) Q st:=by
 rw[Ho];refine Ob (SF (PR ⟨rfl,?_⟩));refine Ob (dA ⋯ ?_);have a2:a.toList.take a.size=a.toList:=Pw (by rw[Tn];exact N2 _);have a3:b.toList.take b.size=b.toList:=Pw (by rw[Tn];exact N2 _);have m0:eg lt a b #[] a.size b.size:=by
  refine⟨?_,?_,?_⟩
  .rw[a2,a3];simp
  .rw[a2];simpa using nk P.hV
  .rw[a3];simpa using nk P.dU
 have X:eg lt a b #[a[a.size-1]'⋯] (a.size-1) b.size:=cj.kZ m0 ay (N2 _) λx B _=>h0 x B
 refine b5 (λc=>?_) λc=>?_
 .have c:a.size-1=0:=⇑c;exact Of (V _ _ (.refl st) (ow X c))
 .have c:¬a.size-1=0:=⇑c;refine b5 (λC=>?_) λC=>?_
  .have C:b.size=1:=⇑C;exact Of (V _ _ (.refl st) (oy P X C))
  .have C:¬b.size=1:=⇑C;refine Ob (RT ?_);refine Ob (PH (Pc (I:=λx (c:lL) d=>aQ st d/\c.1=Y/\eR lt a b (x+1) c.2.2.2.1 c.2.1 c.2.2.1) (Q:=λ(c:lL) d=>aQ st d/\∃n,c.1=Z n/\dm lt a.toList b.toList n.toList)
    ?step ?fin ⟨.refl st,rfl,X,by show 0<a.size-1;lia,by show a.size-1<=a.size;lia,by show 1<b.size;lia,N2 _,by show 1+(a.size-1)+b.size=a.size+b.size;lia,N2 _⟩) ?post)
   case fin =>
    rintro⟨o,i,j,r,aj⟩ d ⟨g,_,D⟩;exact(D.no (by rw[OX (Od _)];lia)).elim
   case post =>
    rintro⟨o,i,j,r,aj⟩ d ⟨g,n,rfl,m⟩;exact Of (V n d g m)
   case step =>
    refine λx=>zP λo i j r aj a9 _ B h=>?_
    have aw:=h.1;have a1:=h.2.2;dsimp only at a1;refine Ob (PH (Pc (I:=λy (c:uM) d=>aQ st d/\c.1=Y/\eR lt a b (x+1+y) c.2.2.2.1 c.2.1 c.2.2.1)
     (Q:=λ(c:uM) d=>aQ st d/\hu lt a b (x+2) (c.1,c.2.1,c.2.2.1,c.2.2.2.1,0,0,0)) ?step2 ?fin2 ⟨aw,rfl,a1⟩) ?post2)
    case fin2 =>
     rintro⟨o,i,j,r,ca,cR⟩ d ⟨g,_,D⟩;exact(D.no (by rw[OX (Od _)];lia)).elim
    case step2 =>
     refine λy=>pH λo i j r ca cR aF _ b2 h=>?_
     have u:=h.1;have q:=h.2.2;dsimp only at q;have m2:=q.1;have H:=q.2.1;have L:=q.2.2.1;have U:=q.2.2.2.1;have R:=q.2.2.2.2.1;have a0:=q.2.2.2.2.2.1;have au:=q.2.2.2.2.2.2;have v:i-1<a.size:=⋯;have w:j-1<b.size:=⋯;refine Ob (dA w (Ob (dA v ?_)));refine Ob (O.ask _ _ _ _ (P.c0 _ w) (P.cU _ v) (u.1.trans a5) ?_);cases e:lt (b[j-1]'w) (a[i-1]'v) with
     |true =>
      refine b5 (λ_=>?_) λh=>absurd rfl h
      refine Ob (dA v ?_);have m3:=cj.kZ m2 H L λx B l1=>O.cB _ _ _ (P.c0 _ B) (P.c0 _ w) (P.cU _ v) (P.dU x (j-1) B w (Od _) ⋯ ⋯) (O.fj _ _ (P.c0 _ w) (P.cU _ v) e)
      refine b5 (λk=>?_) λk=>?_
      .have k:i-1=0:=⇑k;exact Of ⟨u,ow m3 k⟩
      .have k:¬i-1=0:=⇑k;have G:eR lt a b (x+1+(y+1)) (r.push (a[i-1]'v)) (i-1) j:=⟨m3,⋯,⋯,U,R,by rw[OH];lia,by rw[OH];lia⟩;refine b5 (λ_=>?_) λ_=>?_
       .exact Of ⟨u,eR.less G ⋯⟩
       .exact Of ⟨u,rfl,G⟩
     |false =>
      refine b5 (λh=>nomatch h) λ_=>?_
      refine Ob (dA w ?_);have m3:=cj.k4 m2 ⋯ R λx B l1=>O.cB _ _ _ (P.cU _ B) (P.cU _ v) (P.c0 _ w) (P.hV x (i-1) B v (Od _) ⋯ ⋯) e
      refine b5 (λk=>?_) λk=>?_
      .have k:j-1=1:=⇑k;exact Of ⟨u,oy P m3 k⟩
      .have k:¬j-1=1:=⇑k;have G:eR lt a b (x+1+(y+1)) (r.push (b[j-1]'w)) i (j-1):=⟨m3,H,L,⋯,⋯,by rw[OH];lia,by rw[OH];lia⟩;refine b5 (λ_=>?_) λ_=>?_
       .exact Of ⟨u,eR.less G ⋯⟩
       .exact Of ⟨u,rfl,G⟩
    case post2 =>
     refine pH λo i j r ca cR aF h=>?_
     have u:=h.1;have p:=h.2;cases o with
     |some n=>exact Of ⟨u,n,rfl,p⟩
     |none =>
      have q:eR lt a b (x+2) r i j:=p;refine Ob (SF (PR ⟨rfl,?_⟩));refine Ob (PH (Pc (I:=λz (c:ju) d=>aQ st d/\c.1=Y/\eR lt a b (x+2+z) c.2.2.2.1 c.2.1 c.2.2.1) (Q:=λ(c:ju) d=>aQ st d/\hu lt a b (x+2) c)
       ?step3 ?fin3 ⟨u,rfl,q⟩) ?post3)
      case fin3 =>
       rintro⟨o,i,j,r,aj,ca,cR⟩ d ⟨g,_,D⟩;exact(D.no (by rw[OX (Od _)];lia)).elim
      case step3 =>
       refine λz=>zQ λo i j r aj ca cR dD _ hz h=>?_
       have T:=h.1;have h:=h.2.2;have m3:=h.1;have H:=h.2.1;have L:=h.2.2.1;have U:=h.2.2.2.1;have R:=h.2.2.2.2.1;have a0:=h.2.2.2.2.2.1;have au:=h.2.2.2.2.2.2;dsimp only at m3 H L U R a0 au;have a4:∀aq,Wo M A E s (aI a b r i j aq ca cR) (fX lt a b (x+2+(z+1)) st) dD:=λaq=>E8 O a5 P T m3 H L U R a0 ⋯
       refine b5 (λ_=>?_) λ_=>?_
       .refine PH (a4 (aj-1)) λf d l=>?_
        cases f with
        |done t=>exact⟨l.1,hu.less l.2 ⋯⟩
        |yield t =>
         obtain⟨o,t⟩:=t;obtain⟨g',rfl,l⟩:=l;exact⟨g',rfl,l⟩
       .refine PH (a4 aj) λf d l=>?_
        cases f with
        |done t=>exact⟨l.1,hu.less l.2 ⋯⟩
        |yield t =>
         obtain⟨o,t⟩:=t;obtain⟨g',rfl,l⟩:=l;exact⟨g',rfl,l⟩
      case post3 =>
       rintro⟨o,i,j,r,aj,ca,cR⟩ dD ⟨T,p⟩;cases o with
       |some n=>exact Of ⟨T,n,rfl,p⟩
       |none=>exact Ob (PZ (Of ⟨T.set _,rfl,p⟩))
end
def Hb(i:Nat):mergeAt' i=(do
 let s <- get
 let (Z (u,n,c),Z (v,m,_)):=((Uh s)[i]?,(Uh s)[i+1]?)|unsupported "internal:list.sort.pending"
 set (setPending s (((Uh s).setIfInBounds i (u,n+m,c)).eraseIdxIfInBounds (i+1)))
 let Z k <- fC Th (<- UJ (Tv s) v) (Tv s) u n 0|return Th
 let (u,n):=(u+k,n-k)
 if n==0 then return J
 let Z m <- fC J (<- UJ (Tv s) (u+n-1)) (Tv s) v m (m-1)|return Th
 if m==0 then return J
 let x:=(Tv s).extract u v
 let y:=(Tv s).extract v (v+m)
 let b <- if n<=m then sZ x y else sY x y
 modify λs=>setArr s (b.toList.zipIdx.foldl (λa (p,j)=>a.setIfInBounds (u+j) p) (Tv s))
 return (Ul (<- get)).isNone):=rfl
theorem wC:∀(m:List Tx)(b:Array Tx)(k o:Nat),k+o+m.length<=b.size->((m.zipIdx o).foldl (λa (p:Tx×Nat)=>a.setIfInBounds (k+p.2) p.1) b).toList=b.toList.take (k+o)++m++b.toList.drop (k+o+m.length)
 |[],b,k,o,h=>by simp
 |x::m,b,k,o,h=>by
  rw[VS,Vp];rw[Tt]at h;rw[wC m _ k (o+1) (by rw[VH];lia)];rw[R7];dsimp only;have c:k+o<b.toList.length:=(by rw[Tn];lia);rw[show k+(o+1)=k+o+1 by lia,List.take_set,List.drop_set_of_lt ⋯,Tt];have e:(b.toList.take (k+o+1)).set (k+o) x=b.toList.take (k+o)++[x]:=by
   rw[List.take_succ_eq_append_getElem c];rw[Rm _ _ (by rw[O1];lia)];congr 1;rw[O1,Pe ⋯,SO];rfl
  rw[e,show k+o+1+m.length=k+o+(m.length+1) by lia];simp only[Oe,UT,UU]
def EK(m)(b:Array Tx)(k)(h:k+m.length<=b.size):(m.zipIdx.foldl (λa (p:Tx×Nat)=>a.setIfInBounds (k+p.2) p.1) b).toList=b.toList.take k++m++b.toList.drop (k+m.length):=wC m b k 0 h
section
def g0{a:Array Tx}(h:x<(a.extract p q).size):∃(h':p+x<a.size),(a.extract p q)[x]=a[p+x]:=by
 rw[Pb]at h;exact⟨Oa (QJ h) (P5 ..),Array.getElem_extract ..⟩
def cW.en(O:cW M A E s κ S lt)(h:S x):lt x x=false:=by
 cases e:lt x x with
 |false=>rfl
 |true=>exact(O.fj x x h h e▸e).symm▸rfl
def get3{α:Type}(A R a:List α)(x):(A++R++a)[x]?=if x<A.length then A[x]? else if x<A.length+R.length then R[x-A.length]? else a[x-(A.length+R.length)]?:=by
 rw[WC,N7,WC]
 by_cases aI:x<A.length
 .rw[if_pos ⋯,if_pos aI,if_pos aI]
 .rw[if_neg aI,if_neg aI]
def IQ{α:Type}(p q)(x y:α):(p++x::y::q).toArray[p.length]?=Z x/\(p++x::y::q).toArray[p.length+1]?=Z y:=by
 constructor<;>simp[OP]
def IS{α:Type}(p q)(x y z:α):((p++x::y::q).toArray.setIfInBounds p.length z).eraseIdxIfInBounds (p.length+1)=(p++z::q).toArray:=by
 apply Qs.mp;rw[Array.toList_eraseIdxIfInBounds,R7];show((p++x::y::q).set p.length z).eraseIdx (p.length+1)=p++z::q;rw[Rm _ _ (N2 _),SO,List.eraseIdx_append_of_length_le (Ow _ _),PF];rfl
def Hc{st:TM}(O:cW M A E s κ S lt)(aw:kindOf st=κ)(fR:Ul st=Y)(f8:Uh st=(p++(u,n,bO)::(u+n,m,mm)::q).toArray)(d6:0<n)(oA:0<m)(hz:u+n+m<=(Tv st).size)(o:∀x (f:x<(Tv st).size),S (Tv st)[x])(aI:ff lt (Tv st) u n)(h2:ff lt (Tv st) (u+n) m)(a9:∀U,kindOf U=κ->Ul U=Y->Uh U=(p++(u,n+m,bO)::q).toArray->(Tv U).toList.Perm (Tv st).toList->(∀k,(k<u\/u+n+m<=k)->(Tv U)[k]?=(Tv st)[k]?)->ff lt (Tv U) u (n+m)->Q J U):Wo M A E s (mergeAt' p.length) Q st:=by
 rw[Hb];refine Ob (RT ?_);simp only[f8,IQ,IS];have jI:∀{Q:PUnit->TM->Prop}{x:TM},Q ⟨⟩ x->Wo M A E s (set x:StateT TM Xy PUnit) Q st:=λ{Q x} h=>by
  unfold Wo;rw[StateT.run_set];exact Tg ⟨rfl,h⟩
 refine Ob (jI ?_);generalize e1:setPending st (p++(u,n+m,bO)::q).toArray=V;have k1:kindOf V=κ:=by rw[<- e1];exact aw
 have bj:Ul V=none:=by rw[<- e1];exact fR
 have p1:Uh V=(p++(u,n+m,bO)::q).toArray:=by rw[<- e1]
 have a1:Tv V=Tv st:=by rw[<- e1]
 generalize Tv st=c at hz o aI h2 a9 a1 ⊢;generalize a6:u+n=v at *;have B:v<c.size:=by lia
 refine Ob (dA B ?_);refine Ob (sb O k1 o (o _ B) ⋯ d6 aI λk aw dz f4=>?_);have all:(∀x (f:x<c.size),u<=x->x<v->le lt c[x] c[v])->ff lt c u (n+m):=λiK x y f r h0 L ay=>by
  by_cases au:y<v
  .exact aI x y f r h0 L ⋯
  .by_cases a3:x<v
   .exact O.cB _ _ _ (o _ f) (o _ B) (o _ r) (iK x f h0 a3) (h2 v y B r (N2 _) ⋯ ⋯)
   .exact h2 x y f r ⋯ L ⋯
 refine b5 (λR=>?_) λR=>?_
 .have R:n-k=0:=⇑R;refine Of (a9 V k1 bj p1 (by rw[a1]) (λ_ _=>by rw[a1]) (by rw[a1];exact all λx f l0 l=>dz x f l0 ⋯))
 .have R:¬n-k=0:=⇑R;have ay:u+k+(n-k)-1=v-1:=(by rw[Qn,Pp aw,a6]);have iO:0<v:=Oa d6 (a6▸QY ..);have eX:v-1<u+n:=(by rw[a6];exact Tc iO ∅);rw[ay];have T:v-1<c.size:=ON (Qt ..) B;refine Ob (dA T ?_);refine Ob (sd O k1 o (o _ T) ⋯ ⋯ h2 λcc f6 H dP=>?_);refine b5 (λa0=>?_) λa0=>?_
  .have a0:cc=0:=⇑a0;have hw:=all λx f l0 l=>O.cB _ _ _ (o _ f) (o _ T) (o _ B) (aI x (v-1) f T l0 (OW l) eX) (dP v B (by rw[a0];exact N2 v) ⋯)
   exact Of (a9 V k1 bj p1 (by rw[a1]) (λ_ _=>by rw[a1]) (by rw[a1];exact hw))
  .have a0:¬cc=0:=⇑a0;generalize dY:u+k=b at *;have b1:u<=b:=⋯;have b2:b<v:=(by rw[<- dY,<- a6];exact PL (Nat.lt_of_sub_ne_zero R) u);obtain⟨d,bl⟩:=Nat.exists_eq_add_of_lt b2;have aq:b+(d+1+cc)=v+cc:=(by rw[bl];simp only[Qn]);have fB:v+cc<=v+m:=P2 f6 v;clear ay R dY aw;have I:(c.extract b v).size=d+1:=(by rw[Pb,Pe (OT B),bl,Qn,PF]);have X:(c.extract v (v+cc)).size=cc:=(by rw[Pb,Pe (Ol fB hz),PF]);have cw:∀x (f:x<(c.extract b v).size),S (c.extract b v)[x]:=λx f=>by obtain⟨h',e⟩:=g0 f;rw[e];exact o _ h'
   have cH:∀x (f:x<(c.extract v (v+cc)).size),S (c.extract v (v+cc))[x]:=λx f=>by obtain⟨h',e⟩:=g0 f;rw[e];exact o _ h'
   have cL:ff lt (c.extract b v) 0 (c.extract b v).size:=λx y f r _ L _=>by
    obtain⟨G,e1⟩:=g0 f;obtain⟨b0,e2⟩:=g0 r;rw[e1,e2];exact aI _ _ G b0 ⋯ ⋯ (by rw[I]at r;lia)
   have cM:ff lt (c.extract v (v+cc)) 0 (c.extract v (v+cc)).size:=λx y f r _ L _=>by
    obtain⟨G,e1⟩:=g0 f;obtain⟨b0,e2⟩:=g0 r;rw[e1,e2];exact h2 _ _ G b0 ⋯ ⋯ (by rw[X]at r;lia)
   have c4:∀y (r:y<(c.extract v (v+cc)).size),le lt (c.extract v (v+cc))[y] c[v-1]:=λy r=>by
    obtain⟨G,e1⟩:=g0 r;rw[e1];exact O.fj _ _ (o _ G) (o _ T) (H _ G ⋯ (by rw[X]at r;lia))
   have e4:∀z,(c.extract b v).toList[(c.extract b v).toList.length-1]?=Z z->z=c[v-1]:=λz hz=>by
    rw[Tn,I,R8,Oq,N9 (by rw[I];exact PS d)]at hz;obtain⟨G,e1⟩:=g0 (a:=c) (p:=b) (q:=v) (x:=d) (by rw[I];exact PS d);rw[e1]at hz;cases hz;congr 1;rw[bl];rfl
   have dy:∀x (f:x<(c.extract b v).size),le lt c[v] (c.extract b v)[x]:=λx f=>by
    obtain⟨G,e1⟩:=g0 f;rw[e1];exact O.fj _ _ (o _ B) (o _ G) (f4 _ G ⋯ (by rw[I]at f;lia))
   have eY:(c.extract v (v+cc))[0]'(by rw[X];lia)=c[v]:=by
    obtain⟨G,e1⟩:=g0 (a:=c) (p:=v) (q:=v+cc) (x:=0) (by rw[X];lia);rw[e1];rfl
   have fin:∀(w:Array Tx)(gM:TM),aQ V gM->dm lt (c.extract b v).toList (c.extract v (v+cc)).toList w.toList->Wo M A E s (do
     modify λs=>setArr s (w.toList.zipIdx.foldl (λa (p,j)=>a.setIfInBounds (b+j) p) (Tv s))
     return (Ul (<- get)).isNone) Q gM:=λw gM g bc=>by
    refine Ob (PZ (Ob (RT (Of ?_))));have df:Ul gM=none:=g.2.2.2.trans bj;have f0:Tv gM=c:=g.2.1.trans a1;have aF:w.toList.length=d+1+cc:=(by rw[bc.1.length_eq,N7,Tn,Tn,I,X]);have a4:(w.toList.zipIdx.foldl (λa (p:Tx×Nat)=>a.setIfInBounds (b+p.2) p.1) (Tv gM)).toList=c.toList.take b++w.toList++c.toList.drop (v+cc):=by
     rw[f0,EK _ _ _ (by rw[aF,aq];exact Ol fB hz),aF,aq]
    have e0:c.toList=c.toList.take b++((c.extract b v).toList++(c.extract v (v+cc)).toList)++c.toList.drop (v+cc):=by
     rw[jF,jF];have iM:c.toList.take v=c.toList.take b++(c.toList.take v).drop b:=pR _ (OT b2);have iN:c.toList.take (v+cc)=c.toList.take v++(c.toList.take (v+cc)).drop v:=pR _ (Ow ..);rw[<- Oe,<- iM,<- iN,Pk]
    show Q (Ul gM).isNone _;rw[df];have e3:(c.toList.take b).length=b:=(by rw[O1,Tn];exact Pe (OT (O3 b2 B)));refine a9 _ (g.1.trans k1) df (g.2.2.1.trans p1) ?_ ?_ ?_
    .show(w.toList.zipIdx.foldl (λa (p:Tx×Nat)=>a.setIfInBounds (b+p.2) p.1) (Tv gM)).toList.Perm _;rw[a4]
     conv=>rhs;rw[e0]
     exact Qz _ (Qa _ bc.1)
    .intro x f;show(w.toList.zipIdx.foldl (λa (p:Tx×Nat)=>a.setIfInBounds (b+p.2) p.1) (Tv gM))[x]?=_;rw[<- Oq,<- Oq,a4,get3,e3,aF,aq]
     by_cases a7:x<b
     .rw[if_pos a7,Xc,if_pos a7]
     .have dc:v+cc<=x:=⋯;rw[if_neg a7,if_neg (Qy.mpr dc),QB,Pp dc]
    .show ff lt (w.toList.zipIdx.foldl (λa (p:Tx×Nat)=>a.setIfInBounds (b+p.2) p.1) (Tv gM)) u (n+m);generalize w.toList.zipIdx.foldl (λa (p:Tx×Nat)=>a.setIfInBounds (b+p.2) p.1) (Tv gM)=a2 at a4;have bq:∀x∈w.toList,∃i,∃(hi:i<c.size),b<=i/\i<v+cc/\x=c[i]:=λx f=>by
      rcases Oz.mp (bc.1.mem_iff.mp f) with f|f
      .rw[jF]at f;obtain⟨i,hi,l1,l2,rfl⟩:=oZ f;rw[Tn]at hi;exact⟨i,hi,l1,Oa l2 (Ow ..),rfl⟩
      .rw[jF]at f;obtain⟨i,hi,l1,l2,rfl⟩:=oZ f;rw[Tn]at hi;exact⟨i,hi,Ol (OT b2) l1,l2,rfl⟩
     have fp:∀i j (hi:i<c.size) (t:j<c.size),u<=i->i<b->b<=j->j<v+m->le lt c[i] c[j]:=λi j hi t l0 l1 l2 l3=>by
      by_cases oz:j<v
      .exact aI i j hi t l0 ⋯ ⋯
      .exact O.cB _ _ _ (o _ hi) (o _ B) (o _ t) (dz i hi l0 ⋯) (h2 v j B t (N2 _) ⋯ ⋯)
     have e5:∀i j (hi:i<c.size) (t:j<c.size),u<=i->i<v+cc->v+cc<=j->j<v+m->le lt c[i] c[j]:=λi j hi t l0 l1 l2 l3=>by
      by_cases f2:i<v
      .exact O.cB _ _ _ (o _ hi) (o _ T) (o _ t) (aI i (v-1) hi T l0 (OW f2) eX) (dP j t l2 l3)
      .exact h2 i j hi t ⋯ ⋯ ⋯
     have cN:∀x (f:x<a2.size),c.toList.take b++w.toList++c.toList.drop (v+cc)=a2.toList->(x<b->∃(h:x<c.size),a2[x]=c[x])/\(v+cc<=x->∃(h:x<c.size),a2[x]=c[x])/\(b<=x->x<v+cc->∃(h:x-b<w.toList.length),a2[x]=w.toList[x-b]):=λx f iJ=>by
      have H:=get3 (c.toList.take b) w.toList (c.toList.drop (v+cc)) x;rw[iJ,e3,aF,aq,Oq,N9 f]at H;refine⟨λl=>?_,λl=>?_,λl f7=>?_⟩
      .rw[if_pos l,Xc,if_pos l,Oq,N9 (O3 l (O3 b2 B))]at H;exact⟨_,OI H⟩
      .rw[if_neg ⋯,if_neg (Qy.mpr l),QB,Pp l,Oq]at H;obtain⟨h,e⟩:=OB.mp H.symm;exact⟨h,e.symm⟩
      .rw[if_neg (Qy.mpr l),if_pos f7]at H;obtain⟨h,e⟩:=Og.mp H.symm;exact⟨h,e.symm⟩
     intro x y f r h0 L ay;obtain⟨x1,jJ,h4⟩:=cN x f a4.symm;obtain⟨h5,cv,fk⟩:=cN y r a4.symm
     by_cases au:x<b
     .obtain⟨N,a5⟩:=x1 au;rw[a5]
      by_cases a3:y<b
      .obtain⟨C,D⟩:=h5 a3;rw[D];exact aI x y N C h0 L ⋯
      .by_cases ba:y<v+cc
       .obtain⟨C,D⟩:=fk ⋯ ba;rw[D];obtain⟨j,t,l1,l2,e⟩:=bq _ (Rw C);rw[e];exact fp x j N t h0 au l1 ⋯
       .obtain⟨C,D⟩:=cv ⋯;rw[D];exact e5 x y N C h0 ⋯ ⋯ ⋯
     .by_cases ba:x<v+cc
      .obtain⟨N,a5⟩:=h4 ⋯ ba;rw[a5]
       by_cases a3:y<v+cc
       .obtain⟨C,D⟩:=fk ⋯ a3;rw[D]
        by_cases de:x=y
        .subst de;obtain⟨j,t,l1,l2,e⟩:=bq _ (Rw C);rw[e];exact O.en (o _ t)
        .exact QQ.mp bc.2 _ _ N C (RG (Qy.mp au) (PB L de))
       .obtain⟨C,D⟩:=cv ⋯;rw[D];obtain⟨j,t,l1,l2,e⟩:=bq _ (Rw N);rw[e];exact e5 j y t C ⋯ l2 ⋯ ⋯
      .obtain⟨N,a5⟩:=jJ ⋯;obtain⟨C,D⟩:=cv ⋯;rw[a5,D];exact h2 x y N C ⋯ L ⋯
   refine b5 (λ_=>?_) λ_=>?_
   .refine Ob (Hv O k1 ⟨cw,cH,cL,cM,λy r z hz=>?_⟩ (by rw[I];lia) (by rw[X];lia) (λx f=>by rw[eY];exact dy x f) fin);rw[e4 z hz];obtain⟨i,hi,rfl⟩:=PD.mp r;rw[Tn]at hi;exact c4 i hi
   .refine Ob (Hp O k1 ⟨cw,cH,cL,cM,λz hz y r=>?_⟩ (by rw[I];lia) (by rw[X];lia) (λx f=>?_) fin)
    .obtain⟨i,hi,l1,rfl⟩:=mJ hz;obtain rfl:i=0:=⋯;obtain⟨j,t,rfl⟩:=PD.mp r;rw[Tn]at t;have:=dy j t;rw[<- eY]at this;exact this
    .have:=c4 x f;have e:=e4 ((c.extract b v)[(c.extract b v).size-1]'(by rw[I];lia)) (by rw[Tn,Oq];exact N9 _);rw[e];exact this
end
def eD{i j x:Nat}(h:i<=x)(h':x<j):i<=i+j-1-x/\i+j-1-x<j:=by lia
def Hq{i j x y:Nat}(h:x<=y):i+j-1-y<=i+j-1-x:=RN h _
def pj{l n:Nat}(h:0<n):l+n-1<l+n:=Tc (Oa h (QY ..)) ∅
noncomputable abbrev at_(c:Array Tx)(x:Nat):Keyed:=c.getD x (Value.none,Value.none)
def jx(h:x<c.size):at_ c x=c[x]:=by
 show c.getD x _=_;unfold UB;rw[Sp h];rfl
def jy(h:c[x]?=d[y]?):at_ c x=at_ d y:=by
 show c.getD x _=d.getD y _;rw[Pm,Pm,h]
def gz(d:j<=c.size)(k):at_ (Vs c i j ((j-i) / 2)) k=if i<=k/\k<j then at_ c (i+j-1-k) else at_ c k:=by
 have h:=getElem?_mirror (i:=i) d ((j-i) / 2) ⋯ k
 by_cases a:(i<=k/\k<i+(j-i) / 2)\/(j-(j-i) / 2<=k/\k<j)
 .rw[if_pos a]at h;rw[if_pos ⋯];exact jy h
 .rw[if_neg a]at h
  by_cases b:i<=k/\k<j
  .rw[if_pos b];have:i+j-1-k=k:=⋯;rw[this];exact jy h
  .rw[if_neg b];exact jy h
def qH(f:k<c.size)(e:d<=k)(x):at_ (bubble c k d) x=if x=k-d then at_ c k else if k-d<x/\x<=k then at_ c (x-1) else at_ c x:=by
 have h:=getElem?_bubble f d e x
 by_cases a:x=k-d
 .rw[if_pos a]at h ⊢;exact jy h
 .rw[if_neg a]at h ⊢
  by_cases b:k-d<x/\x<=k
  .rw[if_pos b]at h ⊢;exact jy h
  .rw[if_neg b]at h ⊢;exact jy h
def c9(lt:Tx->Tx->Bool)(c:Array Tx)(l n:Nat):Prop:=∀x y,l<=x->x<=y->y<l+n->le lt (at_ c x) (at_ c y)
def Dec(lt:Tx->Tx->Bool)(c:Array Tx)(l n:Nat):Prop:=∀x y,l<=x->x<=y->y<l+n->le lt (at_ c y) (at_ c x)
structure bX(c d:Array Tx)(l h:Nat):Prop where
 size:d.size=c.size
 perm:d.toList.Perm c.toList
 out:∀k,(k<l\/h<=k)->at_ d k=at_ c k
theorem bX.refl(c)(l h):bX c c l h:=⟨rfl,.refl _,λ_ _=>rfl⟩
theorem bX.trans(x:bX c d l h)(y:bX d e l h):bX c e l h:=⟨y.size.trans x.size,y.perm.trans x.perm,λk q=>(y.out k q).trans (x.out k q)⟩
def bX.mono(x:bX c d l h)(a:e<=l)(b:h<=h'):bX c d e h':=⟨x.size,x.perm,λk q=>x.out k ⋯⟩
def bX.rev(a:j<=c.size):bX c (Vs c i j ((j-i) / 2)) i j :=
 ⟨mirror_size ..,R9.mp (mirror_perm ..),λk q=>by rw[gz a,if_neg ⋯]⟩
def bX.B9(b:k<c.size)(a:d<=k):bX c (bubble c k d) (k-d) (k+1) :=
 ⟨bubble_size ..,R9.mp (bubble_perm ..),λx q=>by rw[qH b a,if_neg ⋯,if_neg ⋯]⟩
section
variable{M:Xe}{A:T3}{E:Ti->Tq->Prop}{s:Tq}{κ:UZ}{S:Tx->Prop}{lt:Tx->Tx->Bool}{st LD:TM}{c d:Array Tx}{l h n:Nat}
@[reducible]def dI(S:Tx->Prop)(c:Array Tx):Prop:=∀x∈c.toList,S x
theorem dI.at_(h:dI S c){x:Nat}(a:x<c.size):S (at_ c x):=by rw[jx a];exact h _ (by simp)
def dI.perm(h:dI S c)(p:d.toList.Perm c.toList):dI S d:=λx a=>h x (p.mem_iff.mp a)
def lS(O:cW M A E s κ S lt)(e:kindOf st=κ)(a:dI S (Tv st))(hi:i<(Tv st).size)(b:j<(Tv st).size)(q:Q (Z (lt (at_ (Tv st) i) (at_ (Tv st) j))) st):Wo M A E s (YE i j) Q st:=by
 rw[ltAt'_eq];refine Ob (RT ?_);show Wo _ _ _ _ (do let x <- UJ (Tv st) i;let y <- UJ (Tv st) j;lt' x y) Q st;refine Ob (dA hi (Ob (dA b ?_)));rw[jx hi,jx b]at q;exact O.ask _ _ _ _ (a _ (by simp)) (a _ (by simp)) e q
def c9.snoc(O:cW M A E s κ S lt)(a:dI S c)(b:l+n<c.size)(h0:0<n)(h:c9 lt c l n)(q:le lt (at_ c (l+n-1)) (at_ c (l+n))):c9 lt c l (n+1):=by
 intro x y aI h2 h3
 by_cases e:y=l+n
 .subst e
  by_cases e2:x=l+n
  .subst e2;exact O.en (a.at_ b)
  .have w:=pj (l:=l) h0;have f:=OW (PB h2 e2);have g:=O3 w b;have i:=ON h2 b;exact O.cB _ _ _ (a.at_ ⋯) (a.at_ ⋯) (a.at_ b) (h x (l+n-1) aI ⋯ ⋯) q
 .exact h x y aI h2 ⋯
def Dec.snoc(O:cW M A E s κ S lt)(a:dI S c)(b:l+n<c.size)(h0:0<n)(h:Dec lt c l n)(q:le lt (at_ c (l+n)) (at_ c (l+n-1))):Dec lt c l (n+1):=by
 intro x y aI h2 h3
 by_cases e:y=l+n
 .subst e
  by_cases e2:x=l+n
  .subst e2;exact O.en (a.at_ b)
  .have w:=pj (l:=l) h0;have f:=OW (PB h2 e2);have g:=O3 w b;have i:=ON h2 b;exact O.cB _ _ _ (a.at_ b) (a.at_ ⋯) (a.at_ ⋯) q (h x (l+n-1) aI ⋯ ⋯)
 .exact h x y aI h2 ⋯
def c9.one(O:cW M A E s κ S lt)(a:dI S c)(b:l<c.size):c9 lt c l 1:=λx y aI h2 h3=>by
 obtain rfl:x=l:=by lia
 obtain rfl:y=x:=by lia
 exact O.en (a.at_ b)
def Dec.rev(h:Dec lt c l n)(a:l+n<=c.size):c9 lt (Vs c l (l+n) ((l+n-l) / 2)) l n:=by
 intro x y aI h2 h3;have k1:=ON h2 h3;have k2:=Ol aI h2;rw[gz a,gz a,if_pos ⟨aI,k1⟩,if_pos ⟨k2,h3⟩];exact h _ _ (eD k2 h3).1 (Hq h2) (eD aI k1).2
def c9.H4(h:c9 lt c l n)(p:bX c d a b)(q:l+n<=a\/b<=l):c9 lt d l n:=λx y aI h2 h3=>by
 rw[p.out x ⋯,p.out y ⋯];exact h x y aI h2 h3
def c9.bo(h:c9 lt c l n):ff lt c l n:=λx y a b aI h2 h3=>by
 have:=h x y aI h2 h3;rw[jx a,jx b]at this;exact this
end
abbrev ia(l z a:Nat):StateT TM Xy (Option Nat):=do
 VK l (l+a)
 let mut n:=a
 for _ in [n:z] do
  let Z q <- YE (l+n) (l+n-1)|return Y
  if q then break
  n:=n+1
 return Z n
def iG(l z a:Nat):StateT TM Xy (Option Nat):=do
 XA "list.sort.descending-run"
 let mut n:=a+1
 let mut e:=0
 for _ in [n:z] do
  let Z q <- YE (l+n) (l+n-1)|return Y
  if q then
   if e>0 then VK (l+n-(e+1)) (l+n)
   e:=0
  else
   let Z g <- YE (l+n-1) (l+n)|return Y
   if g then break
   e:=e+1
  n:=n+1
 if e>0 then VK (l+n-(e+1)) (l+n)
 ia l z n
def C5(l z:Nat):countRun' l z=(do
 let mut n:=1
 for _ in [1:z] do
  let Z q <- YE (l+n) (l+n-1)|return Y
  if q then break
  n:=n+1
 if n==z then return Z n
 if n>1 then
  let Z g <- YE l (l+n-1)|return Y
  if g then return Z n
  VK l (l+n)
 iG l z n):=by
 rw[countRun'_eq];unfold iG ia;rfl
def gT(st a:TM):Prop:=kindOf a=kindOf st/\Uh a=Uh st/\Ul a=Ul st
section
variable{M:Xe}{A:T3}{E:Ti->Tq->Prop}{s:Tq}{κ:UZ}{S:Tx->Prop}{lt:Tx->Tx->Bool}{st st0:TM}{l z n gJ:Nat}
def nX(lt:Tx->Tx->Bool)(l z:Nat)(st0:TM)(o:Option Nat)(a:TM):Prop:=∃m,o=Z m/\1<=m/\m<=z/\gT st0 a/\bX (Tv st0) (Tv a) l (l+z)/\c9 lt (Tv a) l m
def u1(O:cW M A E s κ S lt)(i:kindOf st=κ)(d:dI S (Tv st))(hz:l+z<=(Tv st).size)(aI:1<=gJ)(b:gJ<=z)(h:c9 lt (Tv st) l gJ){Q:Option (Option Nat)×Nat->TM->Prop}(f:∀n,gJ<=n->n<=z->c9 lt (Tv st) l n->(n=z\/lt (at_ (Tv st) (l+n)) (at_ (Tv st) (l+n-1))=J)->Q (Y,n) st):Wo M A E s (forIn [gJ:z] ((Y:Option (Option Nat)),gJ) λx __s=>do
   let __x <- YE (l+__s.snd) (l+__s.snd-1)
   match __x with
    |some q=>if q=J then pure (ForInStep.done (Y,__s.snd)) else pure (UN (Y,__s.snd+1))
    |x=>pure (ForInStep.done (Z Y,__s.snd))) Q st:=by
 refine Pc (I:=λx (c:Option (Option Nat)×Nat) a=>a=st/\c.1=Y/\c.2=x/\gJ<=x/\x<=z/\c9 lt (Tv st) l x) ?step ?fin ⟨rfl,rfl,rfl,N2 _,b,h⟩
 case fin =>
  rintro⟨o,n⟩ a ⟨rfl,rfl,rfl,k1,k2,k3⟩;rw[OX b]at k3 ⊢;exact f z b (N2 _) k3 (.inl rfl)
 case step =>
  rintro x ⟨o,n⟩ a _ j ⟨rfl,rfl,e,k1,k2,k3⟩;dsimp only at e ⊢;subst e;have g:l+n<(Tv a).size:=⋯;refine Ob (lS O i d g (ON (Qt ..) g) ?_);cases e:lt (at_ (Tv a) (l+n)) (at_ (Tv a) (l+n-1)) with
  |true=>dsimp only;rw[if_pos rfl];exact Of (f n k1 k2 k3 (.inr e))
  |false=>dsimp only;rw[if_neg (by simp)];exact Of ⟨rfl,rfl,rfl,⋯,⋯,k3.snoc O d ⋯ ⋯ e⟩
def Ah(O:cW M A E s κ S lt)(c:kindOf st0=κ)(hS0:dI S (Tv st0))(e:gT st0 st)(a:bX (Tv st0) (Tv st) l (l+z))(hz:l+z<=(Tv st0).size)(aI:1<=n)(d:n<=z)(h:Dec lt (Tv st) l n):Wo M A E s (ia l z n) (nX lt l z st0) st:=by
 unfold ia;rw[Rx];refine Ob (PZ ?_);have g:l+z<=(Tv st).size:=by rw[a.size];exact hz
 generalize e1:setArr st (Vs (Tv st) l (l+n) ((l+n-l) / 2))=pK;have a1:Tv pK=Vs (Tv st) l (l+n) ((l+n-l) / 2):=by rw[<- e1]
 have b:gT st0 pK:=by rw[<- e1];exact e
 have p1:bX (Tv st0) (Tv pK) l (l+z):=by rw[a1];exact a.trans ((bX.rev ⋯).mono (N2 _) ⋯)
 have f:c9 lt (Tv pK) l n:=by rw[a1];exact h.rev ⋯
 refine Ob (u1 O (b.1.trans c) (hS0.perm p1.perm) (by rw[p1.size];exact hz) aI d f λm k1 k2 k3 _=>?_);exact Of ⟨m,rfl,⋯,k2,b,p1,k3⟩
def B4(O:cW M A E s κ S lt)(g:dI S c)(d:l+n<=c.size)(i:e+1<=n)(h:Dec lt c l n)(f:∀x y,l+n-(e+1)<=x->x<l+n->l+n-(e+1)<=y->y<l+n->le lt (at_ c x) (at_ c y)):
  Dec lt (Vs c (l+n-(e+1)) (l+n) ((l+n-(l+n-(e+1))) / 2)) l n:=by
 intro x y aI h2 h3;rw[gz d,gz d]
 by_cases a:l+n-(e+1)<=x
 .have k1:=ON h2 h3;have k2:=Ol a h2;rw[if_pos ⟨k2,h3⟩,if_pos ⟨a,k1⟩];exact f _ _ (eD k2 h3).1 (eD k2 h3).2 (eD a k1).1 (eD a k1).2
 .rw[if_neg (show ¬(l+n-(e+1)<=x/\x<l+n) from λz=>a z.1)]
  by_cases b:l+n-(e+1)<=y
  .rw[if_pos ⟨b,h3⟩];exact h _ _ aI (Ol (OT (Nat.not_le.mp a)) (eD b h3).1) (eD b h3).2
  .rw[if_neg λz=>b z.1];exact h _ _ aI h2 h3
structure il(lt:Tx->Tx->Bool)(S:Tx->Prop)(l z:Nat)(st0 st:TM)(n e:Nat):Prop where
 ss:gT st0 st
 cZ:bX (Tv st0) (Tv st) l (l+z)
 dec:Dec lt (Tv st) l n
 len:e+1<=n
 o6:n<=z
 eq:∀x y,l+n-(e+1)<=x->x<l+n->l+n-(e+1)<=y->y<l+n->le lt (at_ (Tv st) x) (at_ (Tv st) y)
def il.turn(O:cW M A E s κ S lt)(hS0:dI S (Tv st0))(hz:l+z<=(Tv st0).size)(h:il lt S l z st0 st n e):il lt S l z st0 (setArr st (Vs (Tv st) (l+n-(e+1)) (l+n) ((l+n-(l+n-(e+1))) / 2))) n 0:=by
 have aI:=h.len;have h2:=h.o6;have a:l+n<=(Tv st).size:=by rw[h.cZ.size];lia
 have w:l<=l+n-(e+1):=SW (P2 aI l);refine⟨h.ss,h.cZ.trans ((bX.rev a).mono ⋯ ⋯),B4 O (hS0.perm h.cZ.perm) a aI h.dec h.eq,⋯,h.o6,λx y k1 k2 k3 d=>?_⟩;have b:=SS (OW k2) k1;have c:=SS (OW d) k3;subst b c;have cZ:bX (Tv st0) (Vs (Tv st) (l+n-(e+1)) (l+n) ((l+n-(l+n-(e+1))) / 2)) l (l+z):=h.cZ.trans ((bX.rev a).mono ⋯ ⋯);exact O.en ((hS0.perm cZ.perm).at_ (by rw[cZ.size];lia))
def vP(O:cW M A E s κ S lt)(t:kindOf st0=κ)(hS0:dI S (Tv st0))(V:gT st0 st)(v:bX (Tv st0) (Tv st) l (l+z))(hz:l+z<=(Tv st0).size)(U:n<z)(h:Dec lt (Tv st) l (n+1)):Wo M A E s (iG l z n) (nX lt l z st0) st:=by
 unfold iG;refine Ob (SF (PR ⟨rfl,?_⟩));have T:il lt S l z st0 st (n+1) 0:=by
  refine⟨V,v,h,⋯,U,λx y k1 k2 k3 H=>?_⟩;have p:x=l+n:=⋯;have r:y=l+n:=⋯;subst p r;exact O.en ((hS0.perm v.perm).at_ (by rw[v.size];lia))
 refine Ob (PH (Pc (I:=λx (c:Option (Option Nat)×Nat×Nat) i=>c.1=Y/\c.2.1=x/\il lt S l z st0 i x c.2.2) (Q:=λ(c:Option (Option Nat)×Nat×Nat) i=>c.1=Y/\il lt S l z st0 i c.2.1 c.2.2) ?step ?fin ⟨rfl,rfl,T⟩) ?post)
 case fin =>
  rintro⟨o,bS,e⟩ i ⟨rfl,rfl,D⟩;exact⟨rfl,D⟩
 case post =>
  rintro⟨o,bS,e⟩ i ⟨rfl,D⟩;dsimp only at D ⊢;refine b5 (λ_=>?_) λ_=>?_
  .rw[Rx];have d:=D.turn O hS0 hz;exact Ob (PZ (Ah O t hS0 d.ss d.cZ hz (by have:=d.len;lia) d.o6 d.dec))
  .exact Ah O t hS0 D.ss D.cZ hz (by have:=D.len;lia) D.o6 D.dec
 case step =>
  rintro x ⟨o,bS,e⟩ b a1 a0 ⟨rfl,e1,D⟩;dsimp only at e1 D ⊢;subst e1;have aI:=D.len;have a2:l+z<=(Tv b).size:=(by rw[D.cZ.size];exact hz);have a:=hS0.perm D.cZ.perm;have G:=D.ss.1.trans t;have gJ:0<bS:=Oa (Nat.succ_pos e) aI;have k:l+bS<(Tv b).size:=⋯;have g:=pj (l:=l) gJ;have X:=O3 g k;have j:l+bS-(e+1)<=l+bS-1:=RN (QY ..) _;refine Ob (lS O G a ⋯ ⋯ ?_);cases e2:lt (at_ (Tv b) (l+bS)) (at_ (Tv b) (l+bS-1)) with
  |true =>
   dsimp only;rw[if_pos rfl];have next:∀f,il lt S l z st0 f bS 0->le lt (at_ (Tv f) (l+bS)) (at_ (Tv f) (l+bS-1))->il lt S l z st0 f (bS+1) 0:=λf d q=>by
    have a3:l+z<=(Tv f).size:=(by rw[d.cZ.size];exact hz);have C:=hS0.perm d.cZ.perm;have a5:l+bS<(Tv f).size:=⋯;refine⟨d.ss,d.cZ,d.dec.snoc O C ⋯ ⋯ q,⋯,⋯,λx y k1 k2 k3 H=>?_⟩;have p:x=l+bS:=⋯;have r:y=l+bS:=⋯;subst p r;exact O.en (C.at_ ⋯)
   have L:=O.fj _ _ (a.at_ ⋯) (a.at_ ⋯) e2;refine b5 (λc=>?_) λc=>?_
   .rw[Rx];refine Ob (PZ (Of ⟨rfl,rfl,next _ (D.turn O hS0 hz) ?_⟩));show le lt (at_ (Vs (Tv b) (l+bS-(e+1)) (l+bS) ((l+bS-(l+bS-(e+1))) / 2)) (l+bS)) (at_ (Vs (Tv b) (l+bS-(e+1)) (l+bS) ((l+bS-(l+bS-(e+1))) / 2)) (l+bS-1));rw[gz ⋯,gz ⋯,if_neg ⋯,if_pos ⟨j,g⟩];exact O.cB _ _ _ (a.at_ k) (a.at_ X) (a.at_ (O3 (eD j g).2 k)) L (D.eq _ _ j g (eD j g).1 (eD j g).2)
   .have e0:e=0:=⋯;subst e0;exact Of ⟨rfl,rfl,next b D L⟩
  |false =>
   dsimp only;rw[if_neg (by simp)];refine Ob (lS O G a ⋯ ⋯ ?_);cases e3:lt (at_ (Tv b) (l+bS-1)) (at_ (Tv b) (l+bS)) with
   |true=>dsimp only;rw[if_pos rfl];exact Of ⟨rfl,D⟩
   |false =>
    dsimp only;rw[if_neg (by simp)];refine Of ⟨rfl,rfl,D.ss,D.cZ,D.dec.snoc O a ⋯ ⋯ e3,by show e+1+1<=bS+1;lia,⋯,λx y k1 k2 k3 H=>?_⟩;have k1:l+bS-(e+1)<=x:=(by rw[<- Rl (l+bS) 1];exact k1);have k3:l+bS-(e+1)<=y:=(by rw[<- Rl (l+bS) 1];exact k3);have N:∀u,l+bS-(e+1)<=u->u<l+bS->le lt (at_ (Tv b) u) (at_ (Tv b) (l+bS))/\le lt (at_ (Tv b) (l+bS)) (at_ (Tv b) u):=λu R w =>
     have a4:=O3 w k;⟨O.cB _ _ _ (a.at_ ⋯) (a.at_ ⋯) (a.at_ ⋯) (D.eq u (l+bS-1) R w ⋯ ⋯) e2,O.cB _ _ _ (a.at_ ⋯) (a.at_ ⋯) (a.at_ ⋯) e3 (D.eq (l+bS-1) u ⋯ ⋯ R w)⟩
    by_cases B:x=l+bS
    .by_cases m:y=l+bS
     .subst B m;exact O.en (a.at_ ⋯)
     .subst B;exact(N y ⋯ ⋯).2
    .by_cases m:y=l+bS
     .subst m;exact(N x ⋯ ⋯).1
     .exact D.eq x y ⋯ ⋯ ⋯ ⋯
def C6(O:cW M A E s κ S lt)(k:kindOf st=κ)(a:dI S (Tv st))(hz:l+z<=(Tv st).size)(aI:1<=z):Wo M A E s (countRun' l z) (nX lt l z st) st:=by
 rw[C5];refine Ob (u1 O k a hz (N2 1) aI (c9.one O a ⋯) λn k1 k2 k3 u=>?_);dsimp only;refine b5 (λc=>?_) λc=>?_
 .exact Of ⟨n,rfl,k1,k2,⟨rfl,rfl,rfl⟩,.refl ..,k3⟩
 .have c:¬n=z:=⇑c;have w:n<z:=PB k2 c;have h:l+n<(Tv st).size:=Oa (PL w l) hz;have f:=pj (l:=l) k1;have B:=O3 f h;have C:l<(Tv st).size:=ON (Ow ..) h;have j:l<=l+n-1:=OW (Nat.lt_add_of_pos_right k1);have q:=O.fj _ _ (a.at_ ⋯) (a.at_ ⋯) (u.resolve_left c);refine b5 (λt=>?_) λt=>?_
  .refine Ob (lS O k a ⋯ ⋯ ?_);cases e:lt (at_ (Tv st) l) (at_ (Tv st) (l+n-1)) with
   |true=>dsimp only;rw[if_pos rfl];exact Of ⟨n,rfl,k1,k2,⟨rfl,rfl,rfl⟩,.refl ..,k3⟩
   |false =>
    dsimp only;rw[if_neg (by simp),Rx];refine Ob (PZ ?_);have i:l+n<=(Tv st).size:=⋯;have o:bX (Tv st) (Vs (Tv st) l (l+n) ((l+n-l) / 2)) l (l+z):=(bX.rev i).mono (N2 _) ⋯;have p:∀x y,l<=x->x<l+n->l<=y->y<l+n->le lt (at_ (Tv st) x) (at_ (Tv st) y):=λx y b g d r =>
     have D:=O3 g h;have G:=O3 r h;O.cB _ _ _ (a.at_ ⋯) (a.at_ ⋯) (a.at_ ⋯) (k3 x (l+n-1) b (OW g) f)
      (O.cB _ _ _ (a.at_ ⋯) (a.at_ ⋯) (a.at_ ⋯) e (k3 l y (N2 _) d r))
    refine vP (st0:=st) O k a ⟨rfl,rfl,rfl⟩ o hz ⋯ ?_;show Dec lt (Vs (Tv st) l (l+n) ((l+n-l) / 2)) l (n+1);have m:Dec lt (Vs (Tv st) l (l+n) ((l+n-l) / 2)) l n:=λx y b g d=>by
     have k1:=ON g d;have k2:=Ol b g;rw[gz i,gz i,if_pos ⟨k2,d⟩,if_pos ⟨b,k1⟩];exact p _ _ (eD k2 d).1 (eD k2 d).2 (eD b k1).1 (eD b k1).2
    refine m.snoc O (a.perm o.perm) (by rw[o.size];lia) ⋯ ?_;rw[gz i,gz i,if_neg ⋯,if_pos ⟨j,f⟩];exact O.cB _ _ _ (a.at_ h) (a.at_ B) (a.at_ (O3 (eD j f).2 h)) q (p _ _ j f (eD j f).1 (eD j f).2)
  .have v:n=1:=⋯;subst v;refine vP (st0:=st) O k a ⟨rfl,rfl,rfl⟩ (.refl ..) hz ⋯ ?_;have m:Dec lt (Tv st) l 1:=λx y b g d=>by
    obtain rfl:x=l:=⋯;obtain rfl:y=x:=⋯;exact O.en (a.at_ ⋯)
   exact m.snoc O a ⋯ ⋯ q
end
section
def Ca(O:cW M A E s κ S lt)(q:dI S c)(g:l+k<c.size)(r:p<=k)(h:c9 lt c l k)(aI:∀x,x<p->le lt (at_ c (l+x)) (at_ c (l+k)))(h2:∀x,p<=x->x<k->le lt (at_ c (l+k)) (at_ c (l+x))):c9 lt (bubble c (l+k) (k-p)) l (k+1):=by
 intro x y i f e;have m:k-p<=l+k:=Ol (Qt ..) (QY ..);rw[qH g m,qH g m,Xr (Qt ..),Nat.sub_sub_self r];have n:∀u,l<=u->u<l+p->le lt (at_ c u) (at_ c (l+k)):=λu a b=>by
  obtain⟨w,rfl⟩:=SG a;exact aI w (Sd b)
 have o:∀u,l+p<=u->u<l+k->le lt (at_ c (l+k)) (at_ c u):=λu a b=>by
  obtain⟨w,rfl⟩:=SG (Ol (Ow ..) a);exact h2 w (Nat.le_of_add_le_add_left a) (Sd b)
 have j:l+p<y->y-1<l+k:=λz=>Oa (Tc (Nat.zero_lt_of_lt z) ∅) (Po e)
 by_cases a:x=l+p
 .rw[if_pos a]
  by_cases b:y=l+p
  .rw[if_pos b];exact O.en (q.at_ g)
  .have d:l+p<y:=⋯;rw[if_neg b,if_pos ⟨d,Po e⟩];exact o _ (OW d) (j d)
 .rw[if_neg a]
  by_cases a2:l+p<x
  .have d:=Oa a2 f;rw[if_pos ⟨a2,Ol f (Po e)⟩,if_neg ⋯,if_pos ⟨d,Po e⟩];exact h _ _ (OW (ON (Ow ..) a2)) (Nat.sub_le_sub_right f 1) (j d)
  .rw[if_neg λz=>a2 z.1]
   by_cases b:y=l+p
   .rw[if_pos b];exact n _ i ⋯
   .rw[if_neg b]
    by_cases b2:l+p<y
    .rw[if_pos ⟨b2,Po e⟩];exact h _ _ i (OW (ON (Qy.mp a2) b2)) (j b2)
    .rw[if_neg λz=>b2 z.1];exact h _ _ i f ⋯
def B8{st:TM}(O:cW M A E s κ S lt)(a0:kindOf st=κ)(hS0:dI S (Tv st))(hz:l+n<=(Tv st).size)(aI:1<=H)(T:H<=n)(h:c9 lt (Tv st) l H)(a1:∀d,gT st d->bX (Tv st) (Tv d) l (l+n)->c9 lt (Tv d) l n->Q J d):Wo M A E s (binarySort' l n H) Q st:=by
 rw[binarySort'_eq];rw[Nat.max_eq_left aI];refine Ob (PH (Pc (I:=λk (c:Option Bool×Unit) d=>c=(Y,())/\k<=n/\gT st d/\bX (Tv st) (Tv d) l (l+n)/\c9 lt (Tv d) l k)
  (Q:=λ(c:Option Bool×Unit) d=>c=(Y,())/\gT st d/\bX (Tv st) (Tv d) l (l+n)/\c9 lt (Tv d) l n) ?step ?fin ⟨rfl,T,⟨rfl,rfl,rfl⟩,.refl ..,h⟩) ?post)
 case fin =>
  rintro c d ⟨rfl,k1,k2,k3,B⟩;rw[OX T]at B;exact⟨rfl,k2,k3,B⟩
 case post =>
  rintro c d ⟨rfl,k2,k3,B⟩;exact Of (a1 d k2 k3 B)
 case step =>
  rintro k c f a3 a4 ⟨rfl,aq,X,L,N⟩;have a5:l+n<=(Tv f).size:=(by rw[L.size];exact hz);have g:=hS0.perm L.perm;have a2:=X.1.trans a0;refine Ob (PH (Pc (I:=λx (c:Option Bool×Nat×Nat) d=>d=f/\c.1=Y/\c.2.1<=c.2.2/\c.2.2<=k/\(∀x,x<c.2.1->le lt (at_ (Tv f) (l+x)) (at_ (Tv f) (l+k)))/\(∀x,c.2.2<=x->x<k->le lt (at_ (Tv f) (l+k)) (at_ (Tv f) (l+x)))/\c.2.2-c.2.1+x<=k)
   (Q:=λ(c:Option Bool×Nat×Nat) d=>d=f/\c.1=Y/\c.2.1<=k/\(∀x,x<c.2.1->le lt (at_ (Tv f) (l+x)) (at_ (Tv f) (l+k)))/\∀x,c.2.1<=x->x<k->le lt (at_ (Tv f) (l+k)) (at_ (Tv f) (l+x))) ?step2 ?fin2
   ⟨rfl,rfl,Od _,N2 _,λx U=>absurd U (U6 _),λx r C=>absurd C (by dsimp only at r;lia),by show k-0+0<=k;lia⟩) ?post2)
  case fin2 =>
   rintro⟨o,a,b⟩ d ⟨rfl,rfl,R,i,j,q,v⟩;dsimp only at R i j q v;rw[OX (Od _)]at v;have e:a=b:=⋯;subst e;exact⟨rfl,rfl,i,j,q⟩
  case step2 =>
   rintro x ⟨o,a,b⟩ d _ U ⟨rfl,rfl,R,i,j,q,v⟩;dsimp only at R i j q v ⊢;refine b5 (λc=>?_) λc=>?_
   .have e:a=b:=⋯;subst e;exact Of ⟨rfl,rfl,i,j,q⟩
   .have w:(a+b) / 2<b:=⋯;have z:a<=(a+b) / 2:=⋯;generalize (a+b) / 2=m at *;have G:=Oa w i;have V:∀u,u<b-a->u+(x+1)<=k:=λa h=>Ol (by rw[<- Qn,R4];exact SV h x) v
    have t:l+k<(Tv d).size:=⋯;have D:=O3 (PL G l) t;refine Ob (lS O a2 g ⋯ ⋯ ?_);cases e:lt (at_ (Tv d) (l+k)) (at_ (Tv d) (l+m)) with
    |true =>
     dsimp only;rw[if_pos rfl];refine Of ⟨rfl,rfl,z,OT G,j,λy r C=>?_,V _ (RG z w)⟩;exact O.cB _ _ _ (g.at_ t) (g.at_ D) (g.at_ (O3 (PL C l) t)) (O.fj _ _ (g.at_ t) (g.at_ D) e) (N _ _ (Ow ..) (P2 r l) (PL C l))
    |false =>
     dsimp only;rw[if_neg (by simp)];refine Of ⟨rfl,rfl,w,i,λy r=>?_,q,V _ (S2 (ON z w) (So z))⟩;have r:=P2 (Po r) l;exact O.cB _ _ _ (g.at_ (ON r D)) (g.at_ D) (g.at_ t) (N _ _ (Ow ..) r (PL G l)) e
  case post2 =>
   rintro⟨o,p,b⟩ d ⟨rfl,rfl,i,j,q⟩;dsimp only at i j q ⊢;rw[moveDown'_eq];have t:l+k<(Tv d).size:=⋯;refine Ob (PZ (Of ⟨rfl,⋯,X,?_,?_⟩))
   .show bX (Tv st) (bubble (Tv d) (l+k) (l+k-(l+p))) l (l+n);rw[S0];exact L.trans ((bX.B9 t (Ol (Qt ..) (QY ..))).mono (by rw[Xr (Qt ..)];exact Ow ..) ⋯)
   .show c9 lt (bubble (Tv d) (l+k) (l+k-(l+p))) l (k+1);rw[S0];exact Ca O g t i N j q
end
abbrev Runs(lt:Tx->Tx->Bool)(c:Array Tx):Nat->List (Nat×Nat×Nat)->Nat->Prop
 |a,[],b=>a=b
 |a,r::P,b=>r.1=a/\0<r.2.1/\c9 lt c a r.2.1/\Runs lt c (a+r.2.1) P b
def Hw{α:Type}(P:List α)(r:α)(g:α->α):(P++[r]).toArray.modify ((P++[r]).toArray.size-1) g=(P++[g r]).toArray:=by
 apply Qs.mp;rw[Array.toList_modify];show(P++[r]).modify ((P++[r]).length-1) g=P++[g r];rw[N7,TS,R8]
 induction P with
 |nil=>rfl
 |cons x P a=>exact O7 (x::·) a
section
variable{lt:Tx->Tx->Bool}{c d:Array Tx}
theorem Runs.len:∀{P:List (Nat×Nat×Nat)}{a b:Nat},Runs lt c a P b->a+P.length<=b
 |[],_,_,h=>SN h
 |r::P,a,b,⟨_,aI,_,h⟩=>by have:=Runs.len h;rw[Tt];lia
theorem Runs.app:∀{P Q:List (Nat×Nat×Nat)}{a b:Nat},Runs lt c a (P++Q) b<->∃m,Runs lt c a P m/\Runs lt c m Q b
 |[],_,a,b=>⟨λh=>⟨a,rfl,h⟩,λ⟨m,aI,h2⟩=>by cases (show a=m from aI);exact h2⟩
 |r::P,_,a,b=>⟨λ⟨aI,h2,h3,h⟩=>let ⟨m,e,f⟩:=Runs.app.mp h;⟨m,⟨aI,h2,h3,e⟩,f⟩,λ⟨m,⟨aI,h2,h3,e⟩,f⟩=>⟨aI,h2,h3,Runs.app.mpr ⟨m,e,f⟩⟩⟩
theorem Runs.same:∀{P:List (Nat×Nat×Nat)}{a b:Nat},Runs lt c a P b->(∀k,a<=k->k<b->at_ d k=at_ c k)->Runs lt d a P b
 |[],_,_,h,_=>h
 |r::P,a,b,⟨aI,h2,h3,h⟩,e=>by
  have:=h.len;exact⟨aI,h2,λx y g f i=>by rw[e x ⋯ ⋯,e y ⋯ ⋯];exact h3 x y g f i,h.same λk g f=>e k ⋯ f⟩
end
section
variable{M:Xe}{A:T3}{E:Ti->Tq->Prop}{s:Tq}{κ:UZ}{S:Tx->Prop}{lt:Tx->Tx->Bool}{st st0:TM}
def xT{Q:Bool->TM->Prop}{i b:Nat}{P:List (Nat×Nat×Nat)}(O:cW M A E s κ S lt)(f:kindOf st=κ)(D:Ul st=Y)(H:Uh st=P.toArray)(hi:i+1<P.length)(R:Runs lt (Tv st) 0 P b)(a2:b<=(Tv st).size)(C:dI S (Tv st))(I:∀a c,kindOf a=κ->Ul a=Y->Uh a=c.toArray->c.length+1=P.length->bX (Tv st) (Tv a) 0 b->Runs lt (Tv a) 0 c b->Q J a):Wo M A E s (mergeAt' i) Q st:=by
 obtain⟨p,x,y,q,e,G⟩:∃p x y q,P=p++x::y::q/\p.length=i:=⟨P.take i,P[i],P[i+1],P.drop (i+2),by
  rw[V6,V6,Pk],by rw[O1];lia⟩
 subst e G;obtain⟨u,n,N⟩:=x;obtain⟨v,m,a4⟩:=y;obtain⟨m0,B,j,l,o,r,t,w,d⟩:=Runs.app.mp R;dsimp only at j l o r t w d;subst j r;have L:=d.len;refine Hc O f D H l t ⋯ (λx a3=>C _ (by simp)) o.bo w.bo λa U V X z a0 a1=>?_
 have T:(Tv a).size=(Tv st).size:=by rw[<- Tn,<- Tn];exact z.length_eq
 have g:bX (Tv st) (Tv a) u (u+n+m):=⟨T,z,λk f=>jy (a0 k f)⟩;refine I a (p++(u,n+m,N)::q) U V X (by simp only[N7,Tt];lia) (g.mono (Od _) ⋯) (Runs.app.mpr ⟨u,B.same λk _ h=>g.out k (.inl h),rfl,by dsimp only;lia,λx y aI h2 h3=>?_,?_⟩)
 .dsimp only at h3;rw[jx ⋯,jx ⋯];exact a1 x y _ _ aI h2 h3
 .dsimp only;rw[<- Qn];exact d.same λk h _=>g.out k (.inr h)
def uJ(lt:Tx->Tx->Bool)(st0:TM)(N x:Nat)(c:Option Unit×Nat)(st:TM):Prop:=c.1=Y/\kindOf st=kindOf st0/\Ul st=Y/\bX (Tv st0) (Tv st) 0 N/\(x<=c.2\/c.2=N)/\c.2<=N/\∃P,Uh st=P.toArray/\Runs lt (Tv st) 0 P c.2
def uK(lt:Tx->Tx->Bool)(st0:TM)(b:Nat)(st:TM):Prop:=kindOf st=kindOf st0/\Ul st=Y/\bX (Tv st0) (Tv st) 0 b/\∃P,P≠[]/\Uh st=P.toArray/\Runs lt (Tv st) 0 P b
def Lw{A B:Type}{P:A×B->Prop}(h:∀a b,P (a,b)):∀c,P c:=λ_=>h _ _
def J0 {Q : Unit -> TM -> Prop} (O : cW M A E s κ S lt) (cq : kindOf st = κ) (cH : Ul st = Y) (cN : Uh st = #[]) (a6 : dI S (Tv st)) (h2 : 2 <= (Tv st).size)
    (c4 : ∀ a, Ul a = Y -> (Tv a).toList.Perm (Tv st).toList -> (Tv a).toList.Pairwise (le lt) -> Q () a) : Wo M A E s sortRuns' Q st := by
  rw [sortRuns'_eq]
  refine Ob (RT ?_)
  dsimp only
  generalize eY : minRun' (Tv st).size (Tv st).size 0 = s7
  generalize a0 : (Tv st).size = N at h2 ⊢
  refine Ob (PH (Pc (I := uJ lt st N) (Q := fun (c : Option Unit × Nat) a => uJ lt st N 0 c a /\ c.2 = N) ?step ?fin ⟨rfl, rfl, cH, .refl .., .inl (N2 _), Od _, [], cN, rfl⟩) ?post)
  case fin =>
    rintro c a ⟨G, j, i, H, X, L, dy⟩
    rw [OX (Od _)] at X
    exact ⟨⟨G, j, i, H, .inl (Od _), L, dy⟩, by lia⟩
  case step =>
    refine fun x => Lw fun o lo n _ fk h => ?_
    have k1 := h.2.1
    have k2 := h.2.2.1
    have k3 := h.2.2.2.1
    have dc := h.2.2.2.2.1
    have k5 := h.2.2.2.2.2.1
    obtain ⟨P, h⟩ := h.2.2.2.2.2.2
    have V := h.1
    have B := h.2
    dsimp only at dc k5 V B ⊢
    have C : kindOf n = κ := k1.trans cq
    have a4 := a6.perm k3.perm
    have hsz : (Tv n).size = N := k3.size.trans a0
    refine b5 (fun c => Of ⟨⟨rfl, k1, k2, k3, .inl (Od _), k5, P, V, B⟩, by dsimp only; lia⟩) fun c => ?_
    refine' (fun (b0 : ∀ (dD : TM) (d : Nat), gT n dD -> bX (Tv n) (Tv dD) lo (lo + (N - lo)) -> c9 lt (Tv dD) lo d -> 1 <= d -> d <= N - lo -> (_ : TM -> Nat -> Prop) dD d) => ?main) ?pf
    case main =>
      refine Ob (PH (C6 (l := lo) (z := N - lo) O C a4 (by rw [hsz]; lia) ⋯) ?_)
      rintro o cv ⟨m, rfl, au, m2, s2, p2, a5⟩
      refine b5 (fun aF => ?b1) fun aF => ?b2
      case b1 =>
        refine Ob (SF (PR ⟨rfl, ?_⟩))
        refine Ob (B8 O (s2.1.trans C) (a4.perm p2.perm) (by rw [p2.size, hsz]; exact QH k5 (Qf ..)) au ⋯ a5 fun dD s3 p3 p => ?_)
        rw [if_neg (by simp)]
        have g : gT n dD := ⟨s3.1.trans s2.1, s3.2.1.trans s2.2.1, s3.2.2.trans s2.2.2⟩
        have u : bX (Tv n) (Tv dD) lo (lo + (N - lo)) := p2.trans (p3.mono (N2 _) (P2 (Qf ..) _))
        have t : 1 <= min (N - lo) s7 := by lia
        have D : min (N - lo) s7 <= N - lo := Qf ..
        clear s2 p2 a5 s3 p3 au m2 aF
        clear cv
        revert t D p
        generalize min (N - lo) s7 = d
        intro p t D
        exact b0 dD d g u p t D
      case b2 =>
        clear aF
        have h := And.intro s2 (And.intro p2 (And.intro a5 (And.intro au m2)))
        clear s2 p2 a5 au m2
        revert h
        generalize m = d
        generalize cv = dD
        rintro ⟨g, u, p, t, D⟩
        exact b0 dD d g u p t D
    case pf =>
      intro dD d g u p t D
      refine Ob (RT ?_)
      have R : Uh dD = P.toArray := g.2.1.trans V
      have fB : (Tv dD).size = N := u.size.trans hsz
      have ay : Runs lt (Tv dD) 0 P lo := B.same fun k _ h => u.out k (.inl h)
      have P3 : bX (Tv st) (Tv dD) 0 N := k3.trans (u.mono (Od _) ⋯)
      rcases Rn P with rfl | ⟨cL, ⟨a1, a2, a3⟩, rfl⟩
      · rw [R]
        cases (show 0 = lo from ay)
        refine Ob (PZ (Of ⟨rfl, g.1.trans k1, g.2.2.trans k2, P3, by dsimp only; lia, by dsimp only; lia, [(0, d, 0)], ?_, rfl, t, p, rfl⟩))
        show (Uh dD).push _ = _
        rw [R]
        rfl
      · rw [Ro] at R ay
        rw [R, show (cL ++ [(a1, a2, a3)]).toArray.back? = Z (a1, a2, a3) by simp]
        dsimp only
        generalize power' N (2 * a1 + a2) (2 * a1 + a2 + a2 + d) N = df
        refine Ob (PH (Pc (I := fun x (c : Option Unit × Unit) a => c = (Y, ()) /\ uK lt dD lo a) (Q := fun (c : Option Unit × Unit) a => c = (Y, ()) /\ uK lt dD lo a) ?a1 ?a2 ⟨rfl, rfl, g.2.2.trans k2, .refl .., _, by simp, R, ay⟩) ?a3)
        case a2 => exact fun c a h => h
        case a1 =>
          intro x c a _ _ h
          have T := h.2.1
          have U := h.2.2.1
          have q := h.2.2.2.1
          obtain ⟨f, h⟩ := h.2.2.2.2
          have aq := h.1
          have v := h.2.1
          have w := h.2.2
          refine Ob (RT ?_)
          rw [v]
          rcases bO : (if f.toArray.size > 1 then f.toArray[f.toArray.size - 2]? else Y) with _ | ⟨f1, f2, iJ⟩
          · exact Of ⟨rfl, T, U, q, f, aq, v, w⟩
          · have h2 : 1 < f.length := by
              by_cases h : f.toArray.size > 1
              · exact h
              · rw [if_neg h] at bO; cases bO
            refine b5 (fun _ => Of ⟨rfl, T, U, q, f, aq, v, w⟩) fun _ => ?_
            refine Ob (xT O (T.trans (g.1.trans C)) U v (show f.length - 2 + 1 < f.length by lia) w (by rw [q.size, fB]; lia) ((a4.perm u.perm).perm q.perm) fun e5 aw bc a7 ba bj bl bq => ?_)
            rw [if_neg (by simp)]
            exact Of ⟨rfl, bc.trans (g.1.trans C).symm, a7, q.trans bl, aw, fun e => by rw [e] at bj; rw [<- bj] at h2; exact absurd h2 ∅, ba, bq⟩
        case a3 =>
          rintro c a ⟨rfl, T, U, q, f, aq, v, w⟩
          rcases Rn f with rfl | ⟨cM, ⟨b1, b2, eX⟩, rfl⟩
          · exact absurd rfl aq
          rw [Ro] at v w
          obtain ⟨de, dz, dP, dY, d6, e0⟩ := Runs.app.mp w
          refine Ob (PZ (Ob (PZ (Of ⟨rfl, T.trans (g.1.trans k1), U, P3.trans (q.mono (N2 _) k5), by dsimp only; lia, by dsimp only; lia, (cM ++ [(b1, b2, df)]) ++ [(lo, d, 0)], ?_, Runs.app.mpr ⟨lo, Runs.app.mpr ⟨de, dz, dP, dY, d6, e0⟩, rfl, t, ?_, rfl⟩⟩))))
          · show ((Uh a).modify ((Uh a).size - 1) _).push _ = _
            rw [v, Hw]
            exact List.push_toArray _ _
          · exact p.H4 q (.inr (N2 _))
  case post =>
    rintro ⟨o, lo⟩ n ⟨⟨rfl, k1, k2, k3, -, -, P, V, B⟩, rfl⟩
    have C : kindOf n = κ := k1.trans cq
    have a4 := a6.perm k3.perm
    have hsz : (Tv n).size = lo := k3.size.trans a0
    refine Ob (PH (Pc (I := fun x (c : Option Unit × Unit) a => c = (Y, ()) /\ kindOf a = κ /\ Ul a = Y /\ bX (Tv st) (Tv a) 0 lo /\ ∃ P, (P.length <= 1 \/ P.length + x <= lo) /\ Uh a = P.toArray /\ Runs lt (Tv a) 0 P lo)
      (Q := fun (c : Option Unit × Unit) a => c = (Y, ()) /\ Ul a = Y /\ bX (Tv st) (Tv a) 0 lo /\ ∃ P, P.length <= 1 /\ Runs lt (Tv a) 0 P lo) ?step2 ?fin2 ⟨rfl, C, k2, k3, P, .inr (by have := B.len; lia), V, B⟩) ?post2)
    case fin2 =>
      rintro c a ⟨rfl, G, j, i, P, H, X, L⟩
      rw [OX (Od _)] at H
      exact ⟨rfl, j, i, P, by lia, L⟩
    case post2 =>
      rintro c a ⟨rfl, G, j, P, i, H⟩
      refine Of (c4 a G j.perm ?_)
      have hz : (Tv a).size = lo := j.size.trans a0
      match P, i, H with
      | [], _, e => cases (show 0 = lo from e); lia
      | [r], _, ⟨e1, e2, e3, e4⟩ =>
        have e4 : 0 + r.2.1 = lo := e4
        refine nk ?_
        rw [hz, <- e4, RR]
        exact e3.bo
    case step2 =>
      intro y c a _ f0 h
      have G := h.2.1
      have j := h.2.2.1
      have i := h.2.2.2.1
      obtain ⟨P, h⟩ := h.2.2.2.2
      have H := h.1
      have X := h.2.1
      have L := h.2.2
      refine Ob (RT ?_)
      rw [X]
      refine b5 (fun h => Of ⟨rfl, j, i, P, h, L⟩) fun h => ?_
      have h : ¬ P.length <= 1 := h
      refine Ob (xT O G j X ?_ L (by rw [i.size, a0]; lia) (a6.perm i.perm) fun e5 aw bc a7 ba bj bl bq => ?_)
      · have cw : ∀ b : Bool, (if b = J then P.length - 2 - 1 else P.length - 2) + 1 < P.length := fun b => by cases b <;> simp only [O6, N4, Ox] <;> lia
        exact cw _
      · rw [if_neg (by simp)]
        exact Of ⟨rfl, bc, a7, i.trans bl, aw, by lia, ba, bq⟩
end
end Tm
end
section
namespace Tm
open PySem PySem.W PyProof.Rows PySem.Calls
def IY{α β:Type}(f:α->β){a m:List β}(h:a.Perm m):∀l:List α,m=l.map f->∃p:List α,p.Perm l/\a=p.map f:=by
 induction h with
 |nil=>intro l e;cases l with
  |nil=>exact⟨[],.refl _,rfl⟩
  |cons=>cases e
 |cons x _ b =>
  intro l e;cases l with
  |nil=>cases e
  |cons y l =>
   rw[Tr]at e;injection e with e1 e2;obtain⟨p,aI,h2⟩:=b l e2;exact⟨y::p,aI.cons y,by rw[Tr,e1,h2]⟩
 |swap x y m =>
  intro l e
  match l,e with
  |u::v::l,e =>
   rw[Tr,Tr]at e;injection e with e1 e2;injection e2 with e2 e3;exact⟨v::u::l,.swap u v l,by rw[Tr,Tr,e1,e2,e3]⟩
 |trans _ _ c d =>
  intro l e;obtain⟨p,aI,h2⟩:=d l e;obtain⟨q,h3,h4⟩:=c p h2;exact⟨q,h3.trans aI,h4⟩
structure Ord(lt:Nat->Nat->Bool):Prop where
 en:∀x,lt x x=Th
 cB:∀x y z,lt y x=Th->lt z y=Th->lt z x=Th
 fj:∀x y,lt x y=J->lt y x=Th
section
variable{prog:TV}{w:Ug}{A:T3}{E:Ti->Tq->Prop}{s:Tq}
noncomputable abbrev pr(a:List Ti)(i:Nat):Keyed:=(a.getD i Value.none,a.getD i Value.none)
def NA(a:List Ti):(a.toArray.zip a.toArray).toList=(TB a.length).map (pr a):=by
 apply Qi;intro i;rw[Ot]
 by_cases h:i<a.length
 .rw[Qp h];simp[VC,Uo,N8 h]
 .rw[OE ⇑h,OE ⇑h];rfl
def GZ{a:Tu}{d:List Ti}{n:Nat}{κ:UZ}{lt:Nat->Nat->Bool}{P:PySem.Fin->Tq->Prop}(O:Ord lt)(T:∀i j,i<d.length->j<d.length->d.getD i Value.none=d.getD j Value.none->∀k,lt i k=lt j k/\lt k i=lt k j)(B:s.heap.get? a=Z (UC "list" d.toArray n))(bc:d.length<1000)(au:2<=d.length->∀(h':TU),(∀b o,b≠a->s.heap.get? b=Z o->h'.get? b=Z o)->∀Q:UZ->Tq->Prop,Q κ { s with heap:=h' }->Ts (Tw prog w) A (Xs d.toArray) Q E { s with heap:=h' })(a4:2<=d.length->∀(h':TU),(∀b o,b≠a->s.heap.get? b=Z o->h'.get? b=Z o)->∀(i j:Nat)(C:Bool->Tq->Prop),i<d.length->j<d.length->C (lt i j) { s with heap:=h' }->V7 prog w A κ d i j C { s with heap:=h' })(h:∀p:List Nat,p.Perm (TB d.length)->p.Pairwise (λi j=>lt j i=Th)->∀(h':TU)(c:Nat),(∀b o,b≠a->s.heap.get? b=Z o->h'.get? b=Z o)->h'.get? a=Z (UC "list" (p.map λi=>d.getD i Value.none).toArray c)->P (.done (.ret .none)) { s with heap:=h' }):
  Ts (Tw prog w) A (Uy.«list.sort» ⟨[.ref a],[]⟩) P E s:=by
 rw[list_sort_plain];have a7:a<s.heap.objs.size:=N5 B;refine NZ (Xm B rfl ?_);refine NZ (Sw B rfl ?_ (by rw[Oc,TL];lia) (Od _));obtain⟨e1,N⟩:∃e1,(s.heap.update a (T4 λ_=>(#[]:Array Ti))).get? a=Z (UC "list" #[] e1):=⟨_,Wd B λ_=>#[]⟩;refine NZ (XX N rfl ?_);refine NZ (wpAny_newTuple ?_ (by show d.length<=_;rw[TL];lia));refine NZ (S5 ?_ (Od _));refine Pu ?_;have l:(((s.heap.update a (T4 λ_=>(#[]:Array Ti))).push (UC "tuple" d.toArray 0)).push (UC "list" #[] 0)).get? a=Z (UC "list" #[] e1):=N1 _ (N1 _ N);have D:∀b o,b≠a->s.heap.get? b=Z o->(((s.heap.update a (T4 λ_=>(#[]:Array Ti))).push (UC "tuple" d.toArray 0)).push (UC "list" #[] 0)).get? b=Z o:=λb o g q =>
  N1 _ (N1 _ ((Oy _ _ (Pj g)).trans q))
 show Ts (Tw prog w) A _ P E { s with heap:=((s.heap.update a (T4 λ_=>(#[]:Array Ti))).push (UC "tuple" d.toArray 0)).push (UC "list" #[] 0) };generalize ((s.heap.update a (T4 λ_=>(#[]:Array Ti))).push (UC "tuple" d.toArray 0)).push (UC "list" #[] 0)=aI at l D;dsimp only;have fin:∀p:List Nat,p.Perm (TB d.length)->p.Pairwise (λi j=>lt j i=Th)->P (.done (.ret .none)) { s with heap:=aI.update a (T4 λ_=>(p.map λi=>d.getD i Value.none).toArray) }:=λp aF I=>by
  obtain⟨H,a5⟩:∃H,(aI.update a (T4 λ_=>(p.map λi=>d.getD i Value.none).toArray)).get? a=Z (UC "list" (p.map λi=>d.getD i Value.none).toArray H):=⟨_,Wd l λ_=>(p.map λi=>d.getD i Value.none).toArray⟩;exact h p aF I _ H (λb o g q=>(Oy _ _ (Pj g)).trans (D b o g q)) a5
 have hz:=NA d
 by_cases h2:d.toArray.size<2
 .rw[if_pos h2,if_pos h2];refine NZ (Tg ?_);rw[StateT.run_pure];refine NZ (Tg ?_);dsimp only;refine NZ (XX l rfl ?_);have e3:(Tv (Yr general' (d.toArray.zip d.toArray) #[] 7 Y)).map (·.2)=((TB d.length).map λi=>d.getD i Value.none).toArray:=by
   show(d.toArray.zip d.toArray).map (·.2)=_;apply Qs.mp;rw[XI,hz,T2];rfl
  rw[e3];refine NZ (Sw l rfl ?_ (Od _) (by rw[Oc,Tj,UP,TL];lia));simp only[Qj,N4,Ox];refine Tg (fin _ (.refl _) ?_);have t:d.length<2:=⇑h2;rcases(show d.length=0\/d.length=1 by lia) with e|e
  .rw[e];exact VD
  .rw[e];exact PV _ _
 .rw[if_neg h2,if_neg h2];have t:2<=d.length:=(by simp at h2;exact h2);refine NZ (au t aI D _ ?_);have U:∀x:Tx,∃i,(∃i,i<d.length/\x=pr d i)->i<d.length/\x=pr d i:=λx=>by
   by_cases c:∃i,i<d.length/\x=pr d i
   .obtain⟨i,hi⟩:=c;exact⟨i,λ_=>hi⟩
   .exact⟨0,λq=>absurd q c⟩
  obtain⟨f,u⟩:∃f:Tx->Nat,∀x,(∃i,i<d.length/\x=pr d i)->f x<d.length/\x=pr d (f x):=⟨λx=>(U x).choose,λx=>(U x).choose_spec⟩;have Or:cW (Tw prog w) A E { s with heap:=aI } κ (λx=>∃i,i<d.length/\x=pr d i) (λx y=>lt (f x) (f y)):=by
   refine⟨λx y st Q m b1 aw q=>?_,λx y _ _ q=>O.fj _ _ q,λx y z _ _ _ b2 a9=>O.cB _ _ _ b2 a9⟩;obtain⟨L,a2⟩:=u x m;obtain⟨M,a3⟩:=u y b1;rw[lt'_eq];refine Ob (RT ?_);refine Ob (SF (Ql ?_));have:=a4 t aI D (f x) (f y) (λb s'=>s'={ s with heap:=aI }/\b=lt (f x) (f y)) L M ⟨rfl,rfl⟩;unfold V7 at this;have e1:d.getD (f x) Value.none=x.1:=(O7 Ys a2).symm;have e2:d.getD (f y) Value.none=y.1:=(O7 Ys a3).symm;rw[e1,e2]at this;rw[aw];refine O5 this (λb s' ⟨I,g⟩=>⟨I,?_⟩) λ_ _ z=>z.elim
   subst g;exact Of q
  have run:=J0 (st:=Yr κ (d.toArray.zip d.toArray) #[] 7 Y) (Q:=λ_ r=>Ul r=Y/\∃p:List Nat,p.Perm (TB d.length)/\p.Pairwise (λi j=>lt j i=Th)/\(Tv r).toList=p.map (pr d)) Or rfl rfl rfl
   (λx m=>by
    have m:x∈(d.toArray.zip d.toArray).toList:=m;rw[hz]at m;obtain⟨i,hi,rfl⟩:=OV.mp m;exact⟨i,OF.mp hi,rfl⟩) (by show 2<=(d.toArray.zip d.toArray).size;rw[<- Tn,hz];simpa using t) λr a6 G V=>by
     have G:(Tv r).toList.Perm (d.toArray.zip d.toArray).toList:=G;rw[hz]at G;obtain⟨p,p1,p2⟩:=IY (pr d) G _ rfl;refine⟨a6,p,p1,?_,p2⟩;rw[p2,Qh]at V;refine QW (λ{i j} hi v q=>?_) V;have hi:=OF.mp (p1.mem_iff.mp hi);have v:=OF.mp (p1.mem_iff.mp v);obtain⟨L,a0⟩:=u (pr d i) ⟨i,hi,rfl⟩;obtain⟨M,a1⟩:=u (pr d j) ⟨j,v,rfl⟩;have q:lt (f (pr d j)) (f (pr d i))=false:=q;rw[(T j (f (pr d j)) v M (O7 Ys a1) i).1,(T i (f (pr d i)) hi L (O7 Ys a0) _).2];exact q
  refine NZ (O5 run ?_ λ_ _ e=>e);rintro⟨⟨⟩,r⟩ s' ⟨rfl,aq,p,p1,p2,p3⟩;have ay:(Tv r).map (·.2)=(p.map λi=>d.getD i Value.none).toArray:=by
   apply Qs.mp;rw[XI,p3,T2];rfl
  rw[ay];refine NZ (XX l rfl ?_);refine NZ (Sw l rfl ?_ (Od _) (by rw[Oc,Tj,p1.length_eq,UP,TL];lia));rw[aq];simp only[Qj,N4,Ox];exact Tg (fin p p1 p2)
end
end Tm
end
section
namespace dj
open PySem PySem.W PyProof.Rows PySem.Calls
section
def ltI{κ:Type}(lt:κ->κ->Bool)(z:κ)(a:List κ)(i j:Nat):Bool:=lt (a.getD i z) (a.getD j z)
def tj{κ:Type}{lt:κ->κ->Bool}(L:aH.eu lt)(z)(b):Tm.Ord (ltI lt z b) where
 en:=λx=>L.en _
 cB:=λx y z a h2=>aH.xE L a h2
 fj:=λx y h=>aH.xF L h
def EY{κ:Type}(z:κ)(aX):(TB aX.length).map (λi=>aX.getD i z)=aX:=by
 apply Qi;intro i;rw[Ot]
 by_cases h:i<aX.length
 .rw[Qp h];simp[Uo,h]
 .rw[OE ⇑h,OE ⇑h];rfl
def Lu{κ:Type}{lt:κ->κ->Bool}(L:aH.eu lt)(z)(aX){p:List Nat}(a:p.Perm (TB aX.length))(h2:p.Pairwise (λi j=>ltI lt z aX j i=Th)):(p.map λi=>aX.getD i z)=aH.bo lt aX:=by
 refine aH.AM L ?_ (aH.AL L aX) ?_
 .unfold aH.kq;rw[Qh];exact h2
 .refine((a.map λi=>aX.getD i z).trans ?_).trans (aH.yA aX).symm;rw[EY]
def tg{κ:Type}{lt:κ->κ->Bool}{z:κ}{b:List κ}{a:List Ti}(h:∀i j,i<a.length->j<a.length->a.getD i Value.none=a.getD j Value.none->b.getD i z=b.getD j z):
  ∀i j,i<a.length->j<a.length->a.getD i Value.none=a.getD j Value.none->∀k,ltI lt z b i k=ltI lt z b j k/\ltI lt z b k i=ltI lt z b k j:=λi j hi c e k=>by
 unfold ltI;rw[h i j hi c e];exact⟨rfl,rfl⟩
theorem ints_get:∀{a:List Ti}{ns:List Int}(h:T1 a ns)(i:Nat),i<a.length->∃t,a.getD i Value.none=.int (ns.getD i 0) t
 |_,_,.nil,i,h=>by simp at h
 |_,_,.cons n t _,0,_=>⟨t,rfl⟩
 |_,_,.cons n t r,i+1,h=>by
  obtain⟨u,e⟩:=ints_get r i ⇑h;exact⟨u,by simpa[Uo] using e⟩
theorem sD:∀{a:List Ti}{ns:List Int}(h:T1 a ns),ns.length=a.length
 |_,_,.nil=>rfl
 |_,_,.cons n t r=>by simp[sD r]
def Gg(h:T1 a ns):∀i j,i<a.length->j<a.length->a.getD i Value.none=a.getD j Value.none->ns.getD i 0=ns.getD j 0:=λi j hi b e=>by
 obtain⟨t,e1⟩:=ints_get h i hi;obtain⟨u,e2⟩:=ints_get h j b;rw[e1,e2]at e;injection e
def BK(b:T1 a ns)(i j)(C)(hi:i<a.length)(c:j<a.length)(h:C (ltI aH.ltI 0 ns i j) s):V7 prog w A oneType' a i j C s:=by
 obtain⟨t,e1⟩:=ints_get b i hi;obtain⟨u,e2⟩:=ints_get b j c;unfold V7;rw[e1,e2];exact kat_lt_int h
def Gn(c:T1 a ns)(h2:2<=a.length)(h:Q oneType' s):Ts (Tw prog w) A (Xs a.toArray) Q E s:=by
 obtain⟨qa,b,rest,rfl⟩:∃qa b rest,a=qa::b::rest:=by
  match a,h2 with
  |qa::b::rest,_=>exact⟨qa,b,rest,rfl⟩
 rw[keyKind_ints c];exact Tg h
abbrev eb(h:TU):List Ti->List (List Int)->Prop
 |[],[]=>True
 |v::c,k::b=>(∃a o xs n,v=.ref a/\h.get? a=Z o/\o.cls=.type "tuple"/\o.data=.seq xs n/\T1 xs.toList k/\k≠[])/\eb h c b
 |_,_=>False
theorem eb.kept(k:∀b o,h.get? b=Z o->h'.get? b=Z o):∀{d:List Ti}{c:List (List Int)},eb h d c->eb h' d c
 |[],[],_=>trivial
 |v::d,x::c,⟨⟨a,o,xs,n,e,f,r⟩,t⟩=>⟨⟨a,o,xs,n,e,k a o f,r⟩,t.kept k⟩
theorem eb.len:∀{b:List Ti}{a:List (List Int)},eb h b a->a.length=b.length
 |[],[],_=>rfl
 |v::b,x::a,⟨_,t⟩=>by simp[t.len]
theorem eb.get:∀{c:List Ti}{b:List (List Int)},eb h c b->∀i,i<c.length->∃a o xs n,c.getD i Value.none=.ref a/\h.get? a=Z o/\o.cls=.type "tuple"/\o.data=.seq xs n/\T1 xs.toList (b.getD i [])/\b.getD i []≠[]
 |[],[],_,i,hi=>by simp at hi
 |v::c,x::b,⟨q,t⟩,0,_=>q
 |v::c,x::b,d,i+1,hi=>by
  obtain⟨q,t⟩:=d;have:=t.get i ⇑hi;simpa[Uo] using this
def w6(h:T1 b xs):∀{ys:List Int},T1 b ys->xs=ys:=by
 induction h with
 |nil=>intro ys q;cases q;rfl
 |cons n t _ a =>
  intro ys q;cases q with
  |cons _ _ q=>rw[a q]
def Gl(H:eb h b c):∀i j,i<b.length->j<b.length->b.getD i Value.none=b.getD j Value.none->c.getD i []=c.getD j []:=λi j hi g e=>by
 obtain⟨a,o,xs,n,e1,k,_,l,m,_⟩:=H.get i hi;obtain⟨q,s,t,r,e2,d,_,f,p,_⟩:=H.get j g;rw[e1,e2]at e;injection e with e;subst e;rw[k]at d;cases d;rw[l]at f;cases f;exact w6 m p
theorem eb.mB:∀{d:List Ti}{f:List (List Int)},eb h d f->∃b:List Ti,KatTups h d b/\b.length=d.length/\∀v∈b,∃i t,v=Uj i t
 |[],[],_=>⟨[],YJ,rfl,by simp⟩
 |v::d,x::f,s=>by
  obtain⟨⟨a,o,xs,n,e,p,j,k,c,m⟩,t⟩:=s;subst e;obtain⟨b,g,h2,h3⟩:=t.mB;obtain⟨i,u,l⟩:∃i u,xs[0]?=Z (Uj i u):=by
   cases q:xs.toList with
   |nil=>rw[q]at c;cases c;exact absurd rfl m
   |cons y ys =>
    rw[q]at c;cases c with
    |cons n t r=>exact⟨n,t,(by have:xs.toList[0]?=Z (Uj n t):=(by rw[q];rfl);simpa using this)⟩
  refine⟨Uj i u::b,YG p j k l g,by simp[h2],λz hz=>?_⟩;rcases N3.mp hz with rfl|hz
  .exact⟨i,u,rfl⟩
  .exact h3 z hz
abbrev jO(fin:Bool):List Int->List Int->Bool
 |x::xs,y::ys=>if x=y then jO fin xs ys else decide (x<y)
 |_,_=>fin
theorem xA:∀(xs ys:List Int),jO (decide (xs.length<ys.length)) xs ys=aH.lexLt xs ys
 |[],[]=>rfl
 |[],_::_=>rfl
 |_::_,[]=>rfl
 |x::xs,y::ys=>by
  have e:decide ((x::xs).length<(y::ys).length)=decide (xs.length<ys.length):=(by simp);rw[e];simp only[jO,aH.lexLt,xA xs ys]
theorem xj:∀{a c:List Ti}{xs ys:List Int}(i:Nat),T1 a xs->T1 c ys->Q (jO fin xs ys) s->KatLex prog w A J fin Q (a.zip c) i s
 |_,_,_,_,i,.nil,_,h=>by simpa[jO] using kat_nil (prog:=prog) (w:=w) (A:=A) (b:=J) (i:=i) h
 |_,_,_,_,i,.cons x t r,.nil,h=>by simpa[jO] using kat_nil (prog:=prog) (w:=w) (A:=A) (b:=J) (i:=i) h
 |_,_,_,_,i,.cons x t r,.cons y u q,h=>by
  refine kat_cons (wpAny_eqBool_int ?_);simp only[jO]at h
  by_cases e:x=y
  .subst e;rw[if_pos rfl]at h;rw[show(x==x)=J by simp];exact kat_yes (xj (i+1) r q h)
  .rw[if_neg e]at h;rw[show(x==y)=Th by simpa using e];refine kat_no ?_;cases d:(J&&i==0) with
   |true=>exact oneLt_int h
   |false=>exact kat_one _ _ (lt_int (show W.BoolBack Q (UA (decide (x<y))) s from h))
def BL(g:eb s.heap d c)(i j)(C)(hi:i<d.length)(m:j<d.length)(h:C (ltI aH.lexLt [] c i j) s):V7 prog w A (Xt J) d i j C s:=by
 obtain⟨a,o,xs,n,e1,p,r,k,e,_⟩:=g.get i hi;obtain⟨b,v,ys,u,e2,q,t,l,f,_⟩:=g.get j m;unfold V7;rw[e1,e2];refine kat_lt p k q l (xj 0 e f ?_);have l1:(c.getD i []).length=xs.size:=by rw[sD e,Tn]
 have l2:(c.getD j []).length=ys.size:=by rw[sD f,Tn]
 rw[<- l1,<- l2,xA];exact h
def Gq(b:eb s.heap a e)(h2:2<=a.length)(h:Q (Xt J) s):Ts (Tw prog w) A (Xs a.toArray) Q E s:=by
 obtain⟨d,k1,k2,k3⟩:=b.mB;refine kat_kind (T:=T7 "int") k1 ⋯ (λv c=>?_) ∅ (by rw[show(T7 "int" != T7 "tuple")=J by decide];exact h);obtain⟨i,t,rfl⟩:=k3 v c;exact Looks.of_pure rfl
end
end dj
end
section
namespace aH
def dZ:List (List Int)->List (List Int)->Bool
 |[],[]=>Th
 |[],_::_=>J
 |_::_,[]=>Th
 |x::xs,y::ys=>if x=y then dZ xs ys else lexLt x y
theorem xw:∀a,dZ a a=Th
 |[]=>rfl
 |x::a=>by simp[dZ,xw a]
theorem xv:∀a b,a≠b->dZ a b=J\/dZ b a=J
 |[],[],h=>absurd rfl h
 |[],_::_,_=>.inl rfl
 |_::_,[],_=>.inr rfl
 |x::a,y::b,h=>by
  simp only[dZ]
  by_cases e:x=y
  .subst e;simp only[O6];exact xv a b λz=>h (by rw[z])
  .rw[if_neg e,if_neg (Pj e)];exact sN x y e
theorem xx:∀{a b c},dZ a b=J->dZ b c=J->dZ a c=J
 |[],[],_,h,_=>by simp[dZ]at h
 |[],_::_,[],_,h=>by simp[dZ]at h
 |[],_::_,_::_,_,_=>rfl
 |_::_,[],_,h,_=>by simp[dZ]at h
 |_::_,_::_,[],_,h=>by simp[dZ]at h
 |x::a,y::b,z::c,d,h2=>by
  simp only[dZ]at *
  by_cases e:x=y
  .subst e;rw[if_pos rfl]at d
   by_cases e2:x=z
   .subst e2;rw[if_pos rfl]at h2 ⊢;exact xx d h2
   .rw[if_neg e2]at h2 ⊢;exact h2
  .rw[if_neg e]at d
   by_cases e2:y=z
   .subst e2;rw[if_neg e];exact d
   .rw[if_neg e2]at h2;have t:=sP d h2
    by_cases e3:x=z
    .subst e3;rw[sO]at t;cases t
    .rw[if_neg e3];exact t
def xD:eu dZ:=⟨xw,xx,xv⟩
def lV(c:List (List Int)):ζ.D:=.tup (c.map af)
theorem xH:∀a b:List (List Int),ζ.g7 (a.map af) (b.map af)=Z (dZ a b)
 |[],[]=>rfl
 |[],_::_=>rfl
 |_::_,[]=>rfl
 |x::a,y::b=>by
  rw[show ζ.g7 ((x::a).map af) ((y::b).map af)=if ζ.ek (af x) (af y)=J then ζ.g7 (a.map af) (b.map af) else ζ.g6 (af x) (af y) from rfl,xH a b,mG,mg];simp only[dZ]
  by_cases h:x=y<;>simp[h]
def G3(a b):ζ.g6 (lV a) (lV b)=Z (dZ a b):=xH a b
end aH
namespace dj
open PySem PySem.W PyProof.Rows PySem.Calls
def fP(h:TU):List Ti->List (List (List Int))->Prop
 |[],[]=>True
 |v::c,k::b=>(∃a o xs n,v=.ref a/\h.get? a=Z o/\o.cls=.type "tuple"/\o.data=.seq xs n/\eb h xs.toList k/\k≠[])/\fP h c b
 |_,_=>False
theorem fP.kept(k:∀b o,h.get? b=Z o->h'.get? b=Z o):∀{d:List Ti}{c:List (List (List Int))},fP h d c->fP h' d c
 |[],[],_=>trivial
 |v::d,x::c,⟨⟨a,o,xs,n,e,l,g,i,f,j⟩,t⟩=>⟨⟨a,o,xs,n,e,k _ _ l,g,i,f.kept k,j⟩,t.kept k⟩
 |[],_::_,h=>h.elim
 |_::_,[],h=>h.elim
theorem fP.get:∀{c:List Ti}{b:List (List (List Int))},fP h c b->∀i,i<c.length->∃a o xs n,c.getD i Value.none=.ref a/\h.get? a=Z o/\o.cls=.type "tuple"/\o.data=.seq xs n/\eb h xs.toList (b.getD i [])/\b.getD i []≠[]
 |[],[],_,i,hi=>by simp at hi
 |v::c,x::b,⟨t,r⟩,0,_=>by simpa[Uo] using t
 |v::c,x::b,⟨t,r⟩,i+1,hi=>by simpa[Uo] using fP.get r i ⇑hi
 |[],_::_,h,_,_=>h.elim
 |_::_,[],h,_,_=>h.elim
theorem An:∀{b:List Ti}{xs ys:List (List Int)},eb h b xs->eb h b ys->xs=ys
 |[],[],[],_,_=>rfl
 |v::b,x::xs,y::ys,l,m=>by
  obtain⟨⟨a,o,w,n,e,k,q,j,g,_⟩,t⟩:=l;obtain⟨⟨p,u,z,s,f,d,r,c,i,_⟩,t'⟩:=m;subst e;cases f;rw[k]at d;cases d;rw[j]at c;cases c;rw[w6 g i,An t t']
 |[],_::_,_,h,_=>h.elim
 |[],[],_::_,_,h=>h.elim
 |_::_,[],_,h,_=>h.elim
 |_::_,_::_,[],_,h=>h.elim
def Gm(H:fP h b c):∀i j,i<b.length->j<b.length->b.getD i Value.none=b.getD j Value.none->c.getD i []=c.getD j []:=λi j hi g e=>by
 obtain⟨a,o,xs,n,l,k,_,p,q,_⟩:=H.get i hi;obtain⟨s,u,v,t,m,d,_,f,r,_⟩:=H.get j g;rw[l,m]at e;cases e;rw[k]at d;cases d;rw[p]at f;cases f;exact An q r
theorem fP.mB:∀{g:List Ti}{i:List (List (List Int))},fP h g i->∃d:List Ti,KatTups h g d/\d.length=g.length/\∀v∈d,∃a o,v=TA a/\h.get? a=Z o/\o.cls=.type "tuple"
 |[],[],_=>⟨[],YJ,rfl,by simp⟩
 |v::g,x::i,A=>by
  obtain⟨⟨a,o,xs,n,e,w,p,r,f,u⟩,t⟩:=A;subst e;obtain⟨d,j,h2,h3⟩:=t.mB;obtain⟨b,c,s,l,m⟩:∃b c,xs[0]?=Z (TA b)/\h.get? b=Z c/\c.cls=.type "tuple":=by
   cases q:xs.toList with
   |nil =>
    rw[q]at f;cases x with
    |nil=>exact absurd rfl u
    |cons _ _=>exact f.elim
   |cons y ys =>
    rw[q]at f;cases x with
    |nil=>exact f.elim
    |cons k x =>
     obtain⟨⟨b,c,C,B,e1,e2,e3,_⟩,_⟩:=f;exact⟨b,c,(by have:xs.toList[0]?=Z (TA b):=(by rw[q,e1];rfl);simpa using this),e2,e3⟩
  refine⟨TA b::d,YG w p r s j,by simp[h2],λz hz=>?_⟩;rcases N3.mp hz with rfl|hz
  .exact⟨b,c,rfl,l,m⟩
  .exact h3 z hz
 |[],_::_,h=>h.elim
 |_::_,[],h=>h.elim
section
def jP(fin:Bool):List (List Int)->List (List Int)->Bool
 |x::xs,y::ys=>if x=y then jP fin xs ys else aH.lexLt x y
 |_,_=>fin
theorem xy:∀(xs ys:List (List Int)),jP (decide (xs.length<ys.length)) xs ys=aH.dZ xs ys
 |[],[]=>rfl
 |[],_::_=>rfl
 |_::_,[]=>rfl
 |x::xs,y::ys=>by
  have e:decide ((x::xs).length<(y::ys).length)=decide (xs.length<ys.length):=(by simp);rw[e];simp only[jP,aH.dZ,xy xs ys]
theorem xB:∀a b:List Int,bx.lexLt a b=aH.lexLt a b
 |[],[]=>rfl
 |[],_::_=>rfl
 |_::_,[]=>rfl
 |x::a,y::b=>by simp only[bx.lexLt,aH.lexLt,xB a b]
abbrev mY(k:List Int):PyData:=.tuple (k.map .int)
theorem tB:∀{a:List Ti}{k:List Int},T1 a k->Xu h a (k.map .int) []
 |_,_,.nil=>.nil
 |_,_,.cons n t r=>.cons (as:=[]) (.int n t) (tB r)
theorem vY:∀a b:List Int,VL (a.map .int) (b.map .int)=decide (a=b)
 |[],[]=>rfl
 |[],_::_=>rfl
 |_::_,[]=>rfl
 |x::a,y::b=>by
  rw[Tr,Tr,VL,vY a b,Yt]
  by_cases h:x=y<;>simp[h]
theorem oP:∀a:List Int,UQ (a.map .int)=J/\UO (a.map .int)=0
 |[]=>⟨rfl,rfl⟩
 |x::a=>by
  obtain⟨b,h2⟩:=oP a;exact⟨by rw[Tr,UQ,b];rfl,by rw[Tr];show max (YH (.int x)) (UO (a.map .int))=0;rw[h2];rfl⟩
theorem xk(D:A.units+2<UD):∀{c d:List Ti}{xs ys:List (List Int)}(i:Nat),eb s.heap c xs->eb s.heap d ys->Q (jP fin xs ys) s->KatLex prog w A Th fin Q (c.zip d) i s
 |[],_,[],_,i,_,_,h=>by simpa[jP] using kat_nil (prog:=prog) (w:=w) (A:=A) (b:=Th) (i:=i) h
 |_::_,[],_::_,[],i,_,_,h=>by simpa[jP] using kat_nil (prog:=prog) (w:=w) (A:=A) (b:=Th) (i:=i) h
 |u::c,v::d,x::xs,y::ys,i,L,M,h=>by
  obtain⟨⟨a,o,as,n,e,z,m,q,j,_⟩,t⟩:=L;obtain⟨⟨b,G,bs,E,C,B,p,r,l,_⟩,t'⟩:=M;subst e C;have H:YF s.heap (.ref a) (mY x) []:=.tuple z m q (tB j);have I:YF s.heap (.ref b) (mY y) []:=.tuple B p r (tB l);have f:∀k:List Int,(mY k).depth=1:=λk=>by show UO (k.map .int)+1=1;rw[(oP k).2]
  have g:=XJ _ _ A s _ _ _ _ H I (show UQ (x.map .int)=J from(oP x).1) (show UQ (y.map .int)=J from(oP y).1) (by rw[f,f];show A.units+1<UD;lia);rw[show Yt (mY x) (mY y)=decide (x=y) from vY x y]at g;refine kat_cons (g prog w _ _ ?_);simp only[jP]at h
  by_cases e:x=y
  .rw[if_pos e]at h;rw[decide_eq_true e];exact kat_yes (xk D (i+1) t t' h)
  .rw[if_neg e]at h;rw[decide_eq_false e];refine kat_no (kat_one _ _ ?_);have p1:s.heap.IsTuple a as:=⟨o,z,m,n,q⟩;have p2:s.heap.IsTuple b bs:=⟨G,B,p,E,r⟩;exact bx.xJ p1 p2 j l ⋯ (by rw[xB];exact h)
 |[],_,_::_,_,_,h,_,_=>h.elim
 |_::_,_,[],_,_,h,_,_=>h.elim
 |_::_,[],_::_,_::_,_,_,h,_=>h.elim
 |_::_,_::_,_::_,[],_,_,h,_=>h.elim
def BM(r:A.units+2<UD)(g:fP s.heap d c)(i j)(C)(hi:i<d.length)(m:j<d.length)(h:C (ltI aH.dZ [] c i j) s):V7 prog w A (Xt Th) d i j C s:=by
 obtain⟨a,o,xs,n,e1,p,t,k,e,_⟩:=g.get i hi;obtain⟨b,x,ys,v,e2,q,u,l,f,_⟩:=g.get j m;unfold V7;rw[e1,e2];refine kat_lt p k q l (xk r 0 e f ?_);have l1:(c.getD i []).length=xs.size:=by rw[e.len,Tn]
 have l2:(c.getD j []).length=ys.size:=by rw[f.len,Tn]
 rw[<- l1,<- l2,xy];exact h
def Gr(c:fP s.heap b i)(h2:2<=b.length)(h:Q (Xt Th) s):Ts (Tw prog w) A (Xs b.toArray) Q E s:=by
 obtain⟨g,k1,k2,k3⟩:=c.mB;refine kat_kind (T:=T7 "tuple") k1 ⋯ (λv f=>?_) ∅ (by rw[show(T7 "tuple" != T7 "tuple")=Th by decide];exact h);obtain⟨a,o,rfl,e,d⟩:=k3 v f;rw[<- d];exact(Looks.ld e).andThen .now
end
end dj
end
section
namespace dp
open ζ aH
variable{pg:ck}{Φ:c2}
abbrev fq:D->Bool
 |.int _=>J
 |_=>Th
abbrev jN:D->Bool
 |.int i=>decide (1<=i)&&decide (i<=8)
 |_=>Th
section
variable{α:Type}{lt:α->α->Bool}
abbrev fi(lt:α->α->Bool):List α->Bool
 |a::b::r=>lt a b&&fi lt (b::r)
 |_=>J
theorem lN(L:eu lt):∀xs:List α,fi lt xs=J<->c1 lt xs
 |[]=>⟨λ_=>.nil,λ_=>rfl⟩
 |[a]=>⟨λ_=>PV _ _,λ_=>rfl⟩
 |a::b::r=>by
  simp only[fi,N0,lN L (b::r)];constructor
  .rintro⟨c,h2⟩;refine OA.mpr ⟨λz hz=>?_,h2⟩;rcases N3.mp hz with e|e
   .subst e;exact c
   .exact L.cB c ((OA.mp h2).1 z e)
  .intro h;exact⟨(OA.mp h).1 b To,(OA.mp h).2⟩
def tJ(h:k<=n):aR n d (Z (k:Int))=k:=by
 have a:¬((k:Int)<0):=by lia
 have h2:¬((n:Int)<(k:Int)):=by lia
 simp only[aR,if_neg a,if_neg h2];lia
def J3(h:n<k):aR n d (Z (k:Int))=n:=by
 have a:¬((k:Int)<0):=by lia
 have h2:((n:Int)<(k:Int)):=by lia
 simp only[aR,if_neg a,if_pos h2]
def rF{β:Type}(xs:List β)(k:Nat):cut xs (Z (k:Int)) Y=xs.drop k:=by
 unfold cut
 by_cases h:k<=xs.length
 .rw[tJ h];show List.take (xs.length-k) (xs.drop k)=_;rw[Pw (by simp)]
 .rw[J3 ⋯,V8 (N2 _),V8 ⋯];simp
def vD{β:Type}(xs:List β):cut xs (Z 1) Y=xs.drop 1:=rF xs 1
end
theorem oG:∀xs:List D,(∃c:List Int,xs=c.map .int)\/xs.all fq=Th
 |[]=>.inl ⟨[],rfl⟩
 |x::xs=>by
  rcases oG xs with⟨c,rfl⟩|h
  .cases x with
   |int i=>exact .inl ⟨i::c,rfl⟩
   |_=>exact .inr (by simp[fq])
  .exact .inr (by simp[h])
def IsCell(m:Int)(c:List Int):Prop:=c≠[]/\(∀x∈c,0<=x/\x<m)/\c1 ltI c
noncomputable instance (m:Int) (c:List Int):Decidable (IsCell m c):=by unfold IsCell c1;infer_instance
def dt(m:Int):D->Bool
 |.tup xs=>match xs.all fq with|true=>decide (IsCell m (xs.map λd=>match d with|.int i=>i|_=>0))|false=>Th
 |_=>Th
def w4(c:List Int):((c.map D.int).map λd=>match d with|.int i=>i|_=>0)=c:=by
 induction c with
 |nil=>rfl
 |cons x c a=>simp only[Tr,a]
def uQ(c:List Int):(c.map D.int).all fq=true:=by simp[Ue,fq]
def w7(h:xs.all fq=Th):dt m (.tup xs)=false:=by
 simp only[dt,h]
def mx(m)(c):dt m (af c)=decide (IsCell m c):=by
 simp only[dt,af,uQ,w4]
def sE(m)(d):dt m d=J<->∃c,d=af c/\IsCell m c:=by
 constructor
 .intro h;cases d with
  |tup xs =>
   rcases oG xs with⟨c,rfl⟩|q
   .have:=mx m c;unfold af at this;rw[this]at h;exact⟨c,rfl,PX h⟩
   .rw[w7 q]at h;cases h
  |_=>cases h
 .rintro⟨c,rfl,h⟩;rw[mx];exact decide_eq_true h
def BF:∀{c:List Int}(a:Int)(r:List Int),c=a::r->c1 ltI c->∀l,c.getLast?=Z l->0<=a->l<m->∀x∈c,0<=x/\x<m:=by
 intro c a r e h l b q s x d;subst e;obtain⟨j,h2⟩:=OA.mp h;constructor
 .rcases N3.mp d with e|e
  .omega
  .have:=j x e;simp[ltI]at this;lia
 .-- x t not p w u
  have n:∀(c:List Int),c1 ltI c->c.getLast?=Z l->∀x∈c,x<=l:=by
   intro c
   induction c with
   |nil=>intro _ h;simp at h
   |cons y ys g =>
    intro k b x d;obtain⟨i,f⟩:=OA.mp k;cases ys with
    |nil=>simp at b d;lia
    |cons z C =>
     rw[List.getLast?_cons_cons]at b;rcases N3.mp d with e|e
     .have v:=g f b z To;have o:=i z To;simp[ltI]at o;lia
     .exact g f b x e
  have:=n _ h b x d;lia
def EW{α:Type}(x:α)(xs):c7 (x::xs) (-1)=(x::xs).getLast?:=by
 have e:eo (x::xs).length (-1)=Z xs.length:=by
  unfold eo;have a:¬((0:Int)<=-1):=∅;have h2:(0:Int)<=-1+((x::xs).length:Nat):=(by simp only[Tt];lia);rw[if_neg a,if_pos h2];simp only[Tt];congr 1;lia
 unfold c7;rw[e];simp[List.getLast?_eq_getElem?]
def mj{α:Type}(xs:List α)(k:Nat):c7 xs (k:Int)=xs[k]?:=by
 unfold c7 eo;rw[if_pos ⋯]
 by_cases h:k<xs.length
 .rw[if_pos ⋯];simp
 .rw[if_neg ⋯];simp;lia
def se{α:Type}(x:α)(xs):c7 (x::xs) 0=Z x:=by have:=mj (x::xs) 0;simpa using this
def getLast?_map{α β:Type}(f:α->β)(xs:List α):(xs.map f).getLast?=xs.getLast?.map f:=by simp
def hC(m:Int):D->Bool
 |.tup xs=>xs.all (dt m)
 |_=>Th
def qE(m)(d):hC m d=J<->∃cs:List (List Int),d=.tup (cs.map af)/\∀c∈cs,IsCell m c:=by
 constructor
 .intro h;cases d with
  |tup xs =>
   have h:xs.all (dt m)=true:=h
   induction xs with
   |nil=>exact⟨[],rfl,by simp⟩
   |cons x xs f =>
    simp only[Ua,N0]at h;obtain⟨cs,e,a⟩:=f h.2 h.2;obtain⟨c,rfl,b⟩:=(sE m x).mp h.1;injection e with e;refine⟨c::cs,by rw[e];rfl,λz hz=>?_⟩;rcases N3.mp hz with rfl|hz
    .exact b
    .exact a z hz
  |_=>cases h
 .rintro⟨cs,rfl,h⟩;show(cs.map af).all (dt m)=J;rw[Ue,Oi];intro c a;exact(sE m _).mpr ⟨c,rfl,h c a⟩
abbrev lies(c o:List Int):Bool:=c.all λx=>decide (x∈o)
def sQ:lies c o=J<->∀x∈c,x∈o:=by simp[lies]
def vz{c:List Int}(h:∀x∈c,g (.int x)=.ok (Z (p x))):bf g (c.map .int)=.ok (c.map p):=by
 rw[l6 (g:=λd=>match d with|.int x=>Z (p x)|_=>Y)]
 .congr 1
  induction c with
  |nil=>rfl
  |cons x c f=>simp[f λy e=>h y (Tp _ e)]
 .intro d a;obtain⟨x,b,rfl⟩:=OV.mp a;exact h x b
def vx{cs:List (List Int)}(h:∀c∈cs,g (af c)=.ok (p c)):bf g (cs.map af)=.ok (cs.filterMap p):=by
 induction cs with
 |nil=>rfl
 |cons c cs b =>
  simp only[Tr,bf,h c To,R.hb,b λy a=>h y (Tp _ a),TY];cases p c<;>rfl
def wA{α β:Type}(f:α->β)(xs:List α):xs.filterMap (λx=>Z (f x))=xs.map f:=by
 induction xs with
 |nil=>rfl
 |cons x xs a=>simp
def wy{α β:Type}(q:α->Bool)(f:α->β)(xs:List α):xs.filterMap (λx=>if q x then Z (f x) else Y)=(xs.filter q).map f:=by
 induction xs with
 |nil=>rfl
 |cons x xs a=>cases h:q x<;>simp[h,a]
abbrev aL(m:Int):List Int:=(TB m.toNat).map λ(k:Nat)=>(k:Int)
def hh(m):cP 0 m=(aL m).map .int:=by
 unfold cP aL;rw[T2];have:(m-0).toNat=m.toNat:=by lia
 rw[this];apply Px;intro k _;simp
def g9:x∈aL m<->0<=x/\x<m:=by
 unfold aL;rw[OV];constructor
 .rintro⟨k,a,rfl⟩;have:=OF.mp a;lia
 .rintro⟨b,h2⟩;exact⟨x.toNat,OF.mpr ⋯,⋯⟩
def dr(m:Int)(ts:List (List Int)):Bool:=(aL m).all λk=>ts.any (lies [k])
def rE:dr m ts=J<->∀x,0<=x->x<m->∃t∈ts,x∈t:=by
 unfold dr;simp only[Oi,XK,sQ,g9,Ou,forall_eq];exact⟨λh x a b=>h x ⟨a,b⟩,λh x ab=>h x ab.1 ab.2⟩
def y6(h:-1000<=m)(h':m<=1000):hj m=true:=by unfold hj;simp;lia
def hk(a:-1000<=i)(h2:i<=1000)(h3:-1000<=j)(h4:j<=1000):fw i j=.ok (cP i j):=by
 have h5:(j-i).toNat<=1000000:=by lia
 unfold fw;rw[y6 a h2,y6 h3 h4,decide_eq_true h5];rfl
def wo{α:Type}{p:α->Bool}{c:α}(pre)(h:p c=J):(pre++[c]).filter p=pre.filter p++[c]:=by rw[Xd];simp[h]
def wm{α:Type}{p:α->Bool}{c:α}(pre)(h:p c=Th):(pre++[c]).filter p=pre.filter p:=by rw[Xd];simp[h]
def dG(cs:List (List Int)):List (List Int):=(bo lexLt (br cs)).filter λc=>!((bo lexLt (br cs)).filter λo=>decide (c.length<o.length)).any (lies c)
def cy:SZ=16777216:=rfl
def aP(m:Int)(ts:List (List Int)):D:=.tup [.int m,.tup (ts.map af)]
def b8:D->Bool
 |.tup [.int m,t]=>decide (1<=m)&&decide (m<=8)&&hC m t&&(match t with
  |.tup xs=>let cs:=xs.map λd=>match d with|.tup ys=>ys.map (λd=>match d with|.int i=>i|_=>0)|_=>[]
    decide (cs=dG cs)&&dr m cs
  |_=>Th)
 |_=>Th
def vC(cs:List (List Int)):((cs.map af).map λd=>match d with|.tup ys=>ys.map (λd=>match d with|.int i=>i|_=>0)|_=>[])=cs:=by
 induction cs with
 |nil=>rfl
 |cons c cs a=>rw[Tr,Tr,a];congr 1;exact w4 c
def sG(m)(ts)(h:∀c∈ts,IsCell m c):b8 (aP m ts)=(decide (1<=m)&&decide (m<=8)&&(decide (ts=dG ts)&&dr m ts)):=by
 have a:hC m (.tup (ts.map af))=true:=(qE m _).mpr ⟨ts,rfl,h⟩;simp only[b8,aP,a,vC,Su]
set_option tactic.hygienic true in
theorem w9 (d):b8 d=J<->∃m ts,d=aP m ts/\1<=m/\m<=8/\(∀c∈ts,IsCell m c)/\ts=dG ts/\dr m ts=true:=by
 constructor
 .intro h;unfold b8 at h
  split at h
  .rename_i m t;simp only[N0,Ov]at h;obtain⟨⟨⟨a,h2⟩,h3⟩,h4⟩:=h;obtain⟨ts,rfl,b⟩:=(qE m t).mp h3;simp only[vC,N0,Ov]at h4;exact⟨m,ts,rfl,a,h2,b,h4.1,h4.2⟩
  .cases h
 .rintro⟨m,ts,rfl,a,h2,b,h3,h4⟩;rw[sG m ts b,decide_eq_true a,decide_eq_true h2,decide_eq_true h3,h4];rfl
def wj(d:D):Prop:=∀m ts,d=aP m ts->(∀c∈ts,IsCell m c)->(br ts).length<=255
end dp
end
section
namespace dn
open ζ aH dp
variable{pg:ck}{Φ:c2}
abbrev ec(lo hi:Int):D->Bool
 |.int i=>decide (lo<=i)&&decide (i<=hi)
 |_=>Th
mutual
theorem Lf:∀(n:Nat)(d:D),bg n d=J->bg (n+1) d=J
 |n,.az,_=>rfl
 |n,.ag _,_=>rfl
 |n,.int _,_=>rfl
 |0,.str _,h=>h
 |n+1,.str _,h=>h
 |0,.tup _,h=>by cases h
 |n+1,.tup xs,h=>gj n xs h
 |0,.lst _,h=>by cases h
 |n+1,.lst xs,h=>gj n xs h
 |0,.bU _,h=>by cases h
 |0,.bG _,h=>by cases h
 |n+1,.bU _,h=>by cases h
 |n+1,.bG _,h=>by cases h
 |0,.d7 _,h=>by cases h
 |n+1,.d7 _,h=>by cases h
 |0,.kt _,h=>by cases h
 |n+1,.kt _,h=>by cases h
theorem gj:∀(n:Nat)(xs:List D),xs.all (bg n)=J->xs.all (bg (n+1))=J
 |_,[],_=>rfl
 |n,x::xs,h=>by
  simp only[Ua,N0]at h ⊢;exact⟨Lf n x h.1,gj n xs h.2⟩
end
def zG{xs:List D}(h:xs.all (bg 50)=J):xs.all (bg 59)=true:=by
 have:=gj 58 xs (gj 57 xs (gj 56 xs (gj 55 xs (gj 54 xs (gj 53 xs (gj 52 xs (gj 51 xs (gj 50 xs h))))))));exact this
def zF{xs:List D}{p:D->Bool}(h:xs.all (bg n)=J):(xs.filterMap λd=>if p d=J then Y else Z d).all (bg n)=true:=by
 rw[Oi]at h ⊢;intro d hd;obtain⟨x,a,e⟩:=P6.mp hd
 split at e
 .cases e
 .cases e;exact h _ a
def r6{α β:Type}(p:α->Option β)(xs:List α):(xs.filterMap p).isEmpty=xs.all λx=>(p x).isNone:=by
 induction xs with
 |nil=>rfl
 |cons x xs a=>simp only[TY,Ua];cases p x<;>simp[a]
def sz{c:List Int}{k:Nat}(h:c[k]?=Z x):dR (.tup (c.map .int)) (.int (k:Int))=.ok (.int x):=by
 rw[g5,mj,Ot,h];rfl
def JN(n:Nat):cP 1 (n:Int)=(TB (n-1)).map λ(k:Nat)=>D.int ((k:Int)+1):=by
 unfold cP;have:((n:Int)-1).toNat=n-1:=by lia
 rw[this];apply Px;intro k _;congr 1;lia
def CT{a:List Nat}(h:∀k∈a,g (f k)=.ok (p k)):bf g (a.map f)=.ok (a.filterMap p):=by
 induction a with
 |nil=>rfl
 |cons c cs d =>
  simp only[Tr,bf,h c To,R.hb,d λy b=>h y (Tp _ b),TY];cases p c<;>rfl
theorem uO:∀(c:List Int),fi ltI c=(TB (c.length-1)).all λk=>decide (c.getD k 0<c.getD (k+1) 0)
 |[]=>rfl
 |[_]=>rfl
 |a::b::r=>by
  have e:(a::b::r).length-1=(b::r).length-1+1:=(by simp);rw[e,Rg,Ua,Ue];simp only[fi,uO (b::r)];rfl
end dn
end
section
namespace dn
open ζ aH dp
def vy{α:Type}{p:α->Option D}{f:α->D}{a:List α}(h:∀k∈a,g (f k)=.ok (p k)):bf g (a.map f)=.ok (a.filterMap p):=by
 induction a with
 |nil=>rfl
 |cons c cs d =>
  simp only[Tr,bf,h c To,R.hb,d λy b=>h y (Tp _ b),TY];cases p c<;>rfl
def rC{α:Type}{q:α->Bool}{h f:α->D}{a:List α}(e:∀k∈a,g (f k)=.ok (if q k then Z (h k) else Y)):bf g (a.map f)=.ok ((a.filter q).map h):=by
 rw[vy e,wy]
def jB{α:Type}{h f:α->D}{a:List α}(e:∀k∈a,g (f k)=.ok (Z (h k))):bf g (a.map f)=.ok (a.map h):=by
 rw[vy (p:=λk=>Z (h k)) e,wA]
def tN(c):cf (af c)=.ok (c.map .int):=rfl
def wx{α:Type}(q)(xs:List α):(xs.filter q).isEmpty=xs.all λx=>!q x:=by
 induction xs with
 |nil=>rfl
 |cons x xs a=>cases h:q x<;>simp[h,a]
def s6{α β:Type}(f:α->β)(xs:List α):(xs.map f).isEmpty=xs.isEmpty:=by cases xs<;>rfl
def GF(c o):bV pg Φ ⟨2,0,aG.qV⟩ [af c,af o]=.ok (.ag (lies c o)):=by
 have e1:bf (elem pg Φ [Z (af c),Z (af o)] 2e0 0 (.some (.cmp .gg 2e0 1e0))) (c.map .int)=.ok ((c.filter λx=>!decide (x∈o)).map .int):=rC λx _=>by
  simp!;unfold af;simp![xQ];cases decide (x∈o)<;>simp!
 simp![aG.qV,tN,e1,jD (ys:=(c.filter λx=>!decide (x∈o)).map .int) (by simp[Ue,ll]),s6,wx,lies,Bool.not_not]
def hQ(cs:List (List Int)):List (List Int):=(bo lexLt (br cs)).filter λc=>cs.all λo=>!(!decide (c=o)&&lies c o)
def xn(b:∀c o:List Int,Φ f [af c,af o]=.ok (.ag (lies c o)))(hd:cf d=.ok (cs.map af))(l:∀c∈cs,c≠[])(a:(br cs).length<=255):
  bV pg Φ ⟨1,2,aG.q1 f⟩ [d]=.ok (.tup ((hQ cs).map af)):=by
 simp![aG.q1,hd,zU l a];have s:(bo lexLt (br cs)).length<=255:=by rw[mE];exact a
 unfold hQ;generalize bo lexLt (br cs)=ds at *;obtain⟨t,e,x,j⟩:=iL (f:=af) (g:=turn pg Φ 0 [2] {.iff (.cmp .eq (.comp 3e0 0 (.seq 0e0) (.some (.and (.cmp .ne 2e0 3e0) (.call f {2e0,3e0})))) (.lst .nil)) {.app 1 2e0} .nil})
  (λn h=>∃(x:Option D),h=[Z d,Z (.lst ((n.filter λc=>cs.all λo=>!(!decide (c=o)&&lies c o)).map af)),x])
  ds [Z d,Z (.lst []),Y] ⟨Y,rfl⟩ (λpre c post h m p=>by
   obtain⟨x,i⟩:=p;subst i;have e1:∀z,bf (elem pg Φ [Z d,z,Z (af c)] 3e0 0 (.some (.and (.cmp .ne 2e0 3e0) (.call f {2e0,3e0})))) (cs.map af)=.ok ((cs.filter λo=>!decide (c=o)&&lies c o).map af):=λz=>rC λo _=>by
    simp![DN,b];cases decide (c=o)<;>simp![b,TP,Uv];cases lies c o<;>simp!
   have k:((pre.filter λc=>cs.all λo=>!(!decide (c=o)&&lies c o)).map af).length<SZ:=by
    have r:=QK (λc=>cs.all λo=>!(!decide (c=o)&&lies c o)) pre;have h2:pre.length<=ds.length:=(by rw[m];simp);rw[Tj,cy];lia
   simp![hd,e1,jD (nf 58 _),s6,wx];cases q:(cs.all λo=>!(!decide (c=o)&&lies c o))
   .refine⟨_,by simp!;rfl,Z (af c),?_⟩;rw[wm pre (by rw[q])]
   .refine⟨_,by simp![lO,if_pos k];rfl,Z (af c),?_⟩;rw[wo pre (by rw[q]),Uk];rfl)
 rw[e,j];simp!
def BH(a:c1 ltI c)(d:c1 ltI o)(h:∀x∈c,x∈o)(e:c≠o):c.length<o.length:=by
 have f:c.length<=o.length:=jZ (a.nodup fD) h;rcases Nat.lt_or_ge c.length o.length with q|q
 .exact q
 .exfalso;apply e;refine ks fD a d λz=>⟨h z,λhz=>?_⟩
  by_cases b:z∈c
  .exact b
  .exfalso;have:(z::c).length<=o.length:=jZ (Pd.mpr ⟨b,a.nodup fD⟩) λw hw=>by
    rcases N3.mp hw with rfl|hw
    .exact hz
    .exact h w hw
   simp at this;lia
def xK(h:∀c∈cs,c1 ltI c):hQ cs=dG cs:=by
 unfold hQ dG;apply List.filter_congr;intro c b;have d:∀z,z∈bo lexLt (br cs)<->z∈cs:=λz=>by rw[iU,g8]
 have b:=(d c).mp b;rw[QE];simp only[Oi,OY,Bool.and_eq_false_iff,Tb,Ov,Sg,PY,d];constructor
 .rintro q o ⟨a,f⟩;rcases q o a with rfl|q
  .omega
  .rw[q];exact OL
 .intro q o a
  by_cases e:c=o
  .exact .inl e
  .refine .inr ?_;cases z:lies c o with
   |false=>rfl
   |true=>exact absurd z (q o ⟨a,BH (h c b) (h o a) (sQ.mp z) e⟩)
def C4(h0:0<=m)(h:∀c∈ts,IsCell m c):decide (bo ltI (br ts.flatten)=aL m)=dr m ts:=by
 have f:c1 ltI (aL m):=by
  unfold aL c1;rw[Qh];exact Si (λ{a b}(q:a<b)=>by simp[ltI];lia) Q8
 rw[QE,Ov,rE];have d:∀z,z∈bo ltI (br ts.flatten)<->∃t∈ts,z∈t:=λz=>by rw[iU,g8,XM]
 constructor
 .intro e x a b;have:x∈aL m:=g9.mpr ⟨a,b⟩;rw[<- e]at this;exact(d x).mp this
 .intro q;refine ks fD (ku fD (jY _)) f λz=>?_
  rw[d,g9];constructor
  .rintro⟨t,g,hz⟩;exact(h t g).2.1 z hz
  .rintro⟨a,b⟩;exact q z a b
def kB(h:IsCell m c):c.length<=m.toNat:=by
 have:c.length<=(aL m).length:=jZ (h.2.2.nodup fD) λz hz=>g9.mpr (h.2.1 z hz)
 simpa[aL] using this
theorem wu:∀{ts:List (List Int)},(∀c∈ts,c.length<=k)->ts.flatten.length<=ts.length*k
 |[],_=>by simp
 |t::ts,h=>by
  have:=wu (ts:=ts) λc a=>h c (Tp _ a)
  have b:=h t To;simp only[Ud,N7,Tt,SM];lia
def mv(h:m<=8):(aL m).length<=8:=by unfold aL;simp;lia
abbrev b3:Nat->List Int->List (List Int)
 |0,_=>[[]]
 |_+1,[]=>[]
 |s+1,x::r=>(b3 s r).map (x::·)++b3 (s+1) r
theorem sV:∀(s:Nat)(c z:List Int),z∈b3 s c<->z.length=s/\z.Sublist c
 |0,c,z=>by
  simp only[b3,Ou,VR];exact⟨λh=>⟨h,by subst h;exact List.nil_sublist _⟩,λh=>h.1⟩
 |s+1,[],z=>by
  simp only[b3,Qr,List.sublist_nil,false_iff];rintro⟨a,h2⟩;subst h2;simp at a
 |s+1,x::r,z=>by
  simp only[b3,Oz,OV,sV s r,sV (s+1) r,List.sublist_cons_iff];constructor
  .rintro(⟨y,⟨a,h2⟩,rfl⟩|⟨a,h2⟩)
   .exact⟨by simp[a],.inr ⟨y,rfl,h2⟩⟩
   .exact⟨a,.inl h2⟩
  .rintro⟨a,h2|⟨y,rfl,h2⟩⟩
   .exact .inr ⟨a,h2⟩
   .exact .inl ⟨y,⟨⇑a,h2⟩,rfl⟩
theorem oS:∀(s:Nat)(c:List Int),(b3 s c).length<=2 ^ c.length
 |0,c=>by simp only[b3,TS];exact Nat.one_le_two_pow
 |s+1,[]=>by simp[b3]
 |s+1,x::r=>by
  have a:=oS s r;have h2:=oS (s+1) r;simp only[b3,N7,Tj,Tt,Xi];lia
abbrev bP:Nat->Nat->Nat
 |0,_=>1
 |_+1,0=>0
 |s+1,n+1=>bP s n+bP (s+1) n
theorem tw:∀(s:Nat)(c:List Int),(b3 s c).length=bP s c.length
 |0,c=>by simp[b3,bP]
 |s+1,[]=>by simp[b3,bP]
 |s+1,x::r=>by simp only[b3,N7,Tj,Tt,bP,tw s r,tw (s+1) r]
theorem tu:∀{s n:Nat},n<s->bP s n=0
 |0,_,h=>by lia
 |s+1,0,_=>rfl
 |s+1,n+1,h=>by simp only[bP,tu (s:=s) (n:=n) ⋯,tu (s:=s+1) (n:=n) ⋯]
def Ja{s n:Nat}(h:n<=8):bP s n<=70:=by
 rcases Nat.lt_or_ge n s with q|q
 .rw[tu q];lia
 .have:∀n:Fin 9,∀s:Fin 9,bP s.val n.val<=70:=∅;exact this ⟨n,⋯⟩ ⟨s,⋯⟩
theorem yK:∀(s:Nat)(c:List Int),b3 (s+1) c=(TB c.length).flatMap λk=>(b3 s (c.drop (k+1))).map (c.getD k 0::·)
 |s,[]=>rfl
 |s,x::r=>by
  rw[Tt,Rg,Rh,List.flatMap_map];show _=(b3 s r).map (x::·)++(TB r.length).flatMap λk=>(b3 s (r.drop (k+1))).map (r.getD k 0::·)
  rw[<- yK s r];rfl
def Fj{c:List Int}(h:k<c.length):dR (.tup (c.map .int)) (.int (k:Int))=.ok (.int (c.getD k 0)):=sz (by rw[N8 h];simp[Uo,N8 h])
def JM(n:Nat):cP 0 (n:Int)=(TB n).map λ(k:Nat)=>D.int (k:Int):=by
 unfold cP;have:((n:Int)-0).toNat=n:=by lia
 rw[this];apply Px;intro k _;congr 1;lia
theorem r4{α β:Type}{f:α->List β}:∀{xs:List α},(∀x∈xs,(f x).length<=k)->(xs.flatMap f).length<=xs.length*k
 |[],_=>by simp
 |x::xs,h=>by
  have:=r4 (f:=f) (xs:=xs) λc a=>h c (Tp _ a)
  have b:=h x To;simp only[Rh,N7,Tt,SM];lia
def Iw(c):bV pg Φ ⟨2,2,aG.ky f⟩ [af c,.int 0]=.ok (.lst ((b3 0 c).map af)):=by
 have e:c5 (.int 0) (.int 0)=.ok true:=rfl;simp![aG.ky,e,b3];rfl
def Iy{s:Nat}(H:c.length<=8)(t:∀h:List Int,h.length<=8->Φ f [af h,.int (s:Int)]=.ok (.lst ((b3 s h).map af))):bV pg Φ ⟨2,2,aG.ky f⟩ [af c,.int ((s:Int)+1)]=.ok (.lst ((b3 (s+1) c).map af)):=by
 have h0:((s:Int)+1==0)=false:=by rw[PJ];lia
 have l:hP (af c)=.ok (.int (c.length:Int)):=by unfold af;rw[xt,Tj]
 simp![aG.ky,h0,l,hk (i:=0) (j:=(c.length:Int)) ⋯ ⋯ ⋯ ⋯,JM];have p:∀d:List Nat,d.length<=8->(d.flatMap λk=>(b3 s (c.drop (k+1))).map (c.getD k 0::·)).length<=2048:=λd m=>by
  have:=r4 (f:=λk=>(b3 s (c.drop (k+1))).map (c.getD k 0::·)) (k:=256) (xs:=d) λk _=>by
   have h2:=oS s (c.drop (k+1));have h3:(c.drop (k+1)).length<=8:=(by rw[PC];lia);have h4:2 ^ (c.drop (k+1)).length<=2 ^ 8:=Qg ∅ h3;rw[Tj];lia
  lia
 obtain⟨M,e,x,r⟩:=iL (f:=λk:Nat=>D.int (k:Int)) (g:=turn pg Φ 0 [3] {.asg 2 (.bin .add 2e0 (.comp (.bin .add (.tup {.idx 0e0 3e0}) 4e0) 0 (.seq (.call f {.slice 0e0 (.some (.bin .add 3e0 1e1)) .none,.bin .sub 1e0 1e1})) .none))})
  (λF o=>∃(x:Option D),o=[Z (af c),Z (.int ((s:Int)+1)),Z (.lst ((F.flatMap λk=>(b3 s (c.drop (k+1))).map (c.getD k 0::·)).map af)),x])
  (TB c.length) [Z (af c),Z (.int ((s:Int)+1)),Z (.lst []),Y] ⟨Y,rfl⟩ (λpre k post o n G=>by
   obtain⟨x,q⟩:=G;subst q;have m:k<c.length:=by
    have:k∈TB c.length:=(by rw[n];simp);exact OF.mp this
   have K:pre.length+1<=c.length:=by
    have:(TB c.length).length=(pre++k::post).length:=(by rw[n]);simp at this;lia
   have w:h7 (af c) (Z ((k:Int)+1)) Y=.ok (af (c.drop (k+1))):=by
    unfold af;rw[pG];have:((k:Int)+1)=((k+1:Nat):Int):=⋯;rw[this,rF,W0]
   have y:(s:Int)+1-1=(s:Int):=⋯;have hd:(c.drop (k+1)).length<=8:=(by rw[PC];lia);have e1:∀a b,bf (elem pg Φ [Z (af c),a,b,Z (D.int (k:Int))] (.bin .add (.tup {.idx 0e0 3e0}) 4e0) 0 .none) ((b3 s (c.drop (k+1))).map af)=.ok ((b3 s (c.drop (k+1))).map λz=>af (c.getD k 0::z)):=λa b=>jB λz hz=>by
    have hz:=(sV _ _ _).mp hz;have L:=hz.2.length_le;have C:=Fj m;have u:[D.int (c.getD k 0)].length+(z.map D.int).length<=SZ:=(by rw[Tj,cy];simp only[TS];lia);simp!;unfold af;simp![C,qy];rw[if_pos ⇑u];rfl
   have v:((pre.flatMap λk=>(b3 s (c.drop (k+1))).map (c.getD k 0::·)).map af).length+((b3 s (c.drop (k+1))).map λz=>af (c.getD k 0::z)).length<=SZ:=by
    have l:=p pre ⋯;have h2:=oS s (c.drop (k+1));have h4:2 ^ (c.drop (k+1)).length<=2 ^ 8:=Qg ∅ hd;rw[Tj,Tj,cy];lia
   refine⟨_,by simp![w,y,t _ hd,e1,kr,if_pos v];rfl,Z (.int (k:Int)),?_⟩;simp[WT])
 rw[e,r,<- yK];simp!
theorem yn(a:fds[f]?=Z ⟨2,2,aG.ky f⟩):∀(s n:Nat)(c:List Int),s<n->c.length<=8->run pg fds n f [af c,.int (s:Int)]=.ok (.lst ((b3 s c).map af))
 |0,0,c,h,_=>by lia
 |s+1,0,c,h,_=>by lia
 |0,n+1,c,_,_=>by rw[m7,a];exact Iw c
 |s+1,n+1,c,h,d=>by
  rw[m7,a];have:((s+1:Nat):Int)=(s:Int)+1:=⋯;rw[this];exact Iy d λb e=>yn a s n b ⋯ e
def BG(m):c1 ltI (aL m):=by
 unfold aL c1;rw[Qh];exact Si (λ{a b}(q:a<b)=>by simp[ltI];lia) Q8
abbrev pX:D->Int
 |.int i=>i
 |_=>0
def nC:D->List Int
 |.tup ys=>ys.map pX
 |_=>[]
def M3(c):nC (af c)=c:=by
 show(c.map D.int).map pX=c;rw[T2];exact(Px (λx _=>rfl)).trans (XY c)
def ug(cs:List (List Int)):(cs.map af).map nC=cs:=by
 rw[T2];exact(Px (λx _=>M3 x)).trans (XY cs)
def iV(i j)(h:(-dJ<i/\i<dJ)\/(-dJ<j/\j<dJ)):dq .mul (.int i) (.int j)=.ok (.int (i*j)):=by rw[mul_int,if_pos h]
def d0(i j)(h:0<j):dq .mod (.int i) (.int j)=.ok (.int (i%j)):=by rw[mod_int,if_pos h]
def gZ(i j)(h:0<j)(h':j<1073741824):dq .fdiv (.int i) (.int j)=.ok (.int (i / j)):=by rw[wi,if_pos ⟨h,h'⟩]
def ig:dJ=18446744073709551616:=rfl
abbrev iv:Int:=2147483629
def uH:iv=2147483629:=rfl
def fl(a){b:Int}(h:0<b):0<=a%b/\a%b<b:=⟨X1 a ⋯,Ta a h⟩
def Dv(i k):∃r:Int,0<=r/\r<iv/\bV pg Φ ⟨2,1,aG.qS⟩ [.int i,.int k]=.ok (.int r):=by
 have b1:=fl ((i+104729*k+17)*69621) (b:=2147483647) ∅;refine⟨((i+104729*k+17)*69621%2147483647*((i+104729*k+17)*69621%2147483647)+3*((i+104729*k+17)*69621%2147483647)+k)%2147483629,?_,?_,by
  simp![aG.qS,iV 104729 k (.inl (by rw[ig];lia)),iV _ 69621 (.inr (by rw[ig];lia)),d0 _ 2147483647 ∅,d0 _ 2147483629 ∅,
   iV ((i+104729*k+17)*69621%2147483647) ((i+104729*k+17)*69621%2147483647) (.inl (by rw[ig];lia)),iV 3 ((i+104729*k+17)*69621%2147483647) (.inl (by rw[ig];lia))]⟩
 .exact(fl _ ∅).1
 .rw[uH];exact(fl _ ∅).2
def Ct(a:List Int)(k:Nat):bV pg Φ ⟨2,0,aG.qQ⟩ [.lst (a.map .int),.int (k:Int)]=.ok (.int (a.getD k 0)):=by
 simp![aG.qQ,Tj]
 by_cases h:k<a.length
 .have h':(k:Int)<(a.length:Int):=⋯;have e:dR (.lst (a.map D.int)) (.int (k:Int))=.ok (.int (a.getD k 0)):=by
   rw[jL,mj,Ot,N8 h];simp[Uo,N8 h]
  simp![decide_eq_true h',e]
 .have h':¬(k:Int)<(a.length:Int):=⋯;have e:a.getD k 0=0:=(by simp[Uo,OE (SE h)]);simp![decide_eq_false h',e]
def Ht{a:List Int}(c:∀k:Nat,Φ f [.lst (a.map .int),.int (k:Int)]=.ok (.int (a.getD k 0)))(k:Nat):∃r:Int,0<=r/\r<iv/\bV pg Φ ⟨2,1,aG.qW f⟩ [.lst (a.map .int),.int (k:Int)]=.ok (.int r):=by
 have b1:=fl ((a.getD k 0+7919*(k:Int)+1)*48271) (b:=2147483647) ∅;refine⟨((a.getD k 0+7919*(k:Int)+1)*48271%2147483647*((a.getD k 0+7919*(k:Int)+1)*48271%2147483647)+7*((a.getD k 0+7919*(k:Int)+1)*48271%2147483647)+(k:Int))%2147483629,?_,?_,by
  simp![aG.qW,c,iV 7919 (k:Int) (.inl (by rw[ig];lia)),iV _ 48271 (.inr (by rw[ig];lia)),d0 _ 2147483647 ∅,d0 _ 2147483629 ∅,
   iV ((a.getD k 0+7919*(k:Int)+1)*48271%2147483647) ((a.getD k 0+7919*(k:Int)+1)*48271%2147483647) (.inl (by rw[ig];lia)),iV 7 ((a.getD k 0+7919*(k:Int)+1)*48271%2147483647) (.inl (by rw[ig];lia))]⟩
 .exact(fl _ ∅).1
 .rw[uH];exact(fl _ ∅).2
def Lr(l:∀i k:Int,∃r:Int,0<=r/\r<iv/\Φ f [.int i,.int k]=.ok (.int r))(i m)(o:1<=m)(p:m<=8):
  ∃cs:List (List Int),bV pg Φ ⟨2,4,aG.q0 f⟩ [.int i,.int m]=.ok (.lst (cs.map af))/\(∀c∈cs,IsCell m c)/\dr m cs=J/\cs.length<=16:=by
 have t:=hk (i:=0) (j:=m) ⋯ ⋯ ⋯ ⋯;have a1:=fl i (b:=9) ∅;have U:=hk (i:=0) (j:=i%9) ⋯ ⋯ ⋯ ⋯;have a2:cP 0 (i%9)=(aL (i%9)).map .int:=hh _;have e0:bf (elem pg Φ [Z (.int i),Z (.int m),Y,Y,Y,Y] (.tup {6e0}) 0 .none) ((aL m).map .int)=.ok ((aL m).map λk=>af [k]):=jB λk _=>by
  simp!;rfl
 simp![aG.q0,t,hh,e0,d0 i 9 ∅,U];have h0:∀k∈aL m,IsCell m [k]:=λk n=>⟨by simp,by simpa using g9.mp n,PV _ _⟩
 obtain⟨aq,e,cs,x,y,z,G,d,K⟩:=iL (f:=D.int) (g:=turn pg Φ 0 [3] {.asg 4 (.call f {0e0,3e0}),.asg 5 (.tupI (.seq (.comp 6e0 0 (.c8 1e0) (.some (.cmp .lt (.bin .mod (.call f {4e0,6e0}) 5e1) (.bin .add 2e1 (.bin .mod 4e0 2e1))))))),.iff (.cmp .ne 5e0 (.tup .nil)) {.app 2 5e0} .nil})
  (λX v=>∃(cs:List (List Int))(x y z:Option D),v=[Z (.int i),Z (.int m),Z (.lst (((aL m).map λk=>[k]).map af++cs.map af)),x,y,z]/\(∀c∈cs,IsCell m c)/\cs.length<=X.length)
  (aL (i%9)) [Z (.int i),Z (.int m),Z (.lst ((aL m).map λk=>af [k])),Y,Y,Y] ⟨[],Y,Y,Y,by simp[Function.comp_def],by simp,by simp⟩ (λpre k post v P a0=>by
   obtain⟨cs,x,y,z,C,d,K⟩:=a0;subst C;obtain⟨r,a4,a5,T⟩:=l i k;have ex:∃q:Int->Bool,∀x y z,bf (elem pg Φ [Z (.int i),Z (.int m),x,y,Z (.int r),z] 6e0 0 (.some (.cmp .lt (.bin .mod (.call f {4e0,6e0}) 5e1) (.bin .add 2e1 (.bin .mod 4e0 2e1))))) ((aL m).map .int)=.ok (((aL m).filter q).map .int):=by
    obtain⟨g,H⟩:∃g:Int->Int,∀k,Φ f [.int r,.int k]=.ok (.int (g k)):=⟨λk=>Classical.choose (l r k),λk=>(Classical.choose_spec (l r k)).2.2⟩;refine⟨λk=>decide (g k%5<2+r%2),λx y z=>rC λk _=>?_⟩;have V:=H k;simp![V,d0 _ 5 ∅,d0 _ 2 ∅]
    split<;>rfl
   obtain⟨q,Q⟩:=ex;have u:((aL m).filter q).Sublist (aL m):=WU;simp![T,t,hh,Q];have M:c5 (.tup (((aL m).filter q).map .int)) (.tup [])=.ok ((aL m).filter q).isEmpty:=by
    rw[vX (by simp[Ue,ll]),s6]
   simp![M];have a3:pre.length+1<=9:=by
    have o:(aL (i%9)).length=(pre++k::post).length:=(by rw[<- P]);have h2:(aL (i%9)).length<=9:=(by unfold aL;simp;lia);simp at o;lia
   cases s:((aL m).filter q).isEmpty
   .have N:(aL m).filter q≠[]:=(by intro z;rw[z]at s;cases s);have F:IsCell m ((aL m).filter q):=⟨N,λx W=>g9.mp (u.subset W),Wq u (BG m)⟩;have L:(((aL m).map λk=>[k]).map af++cs.map af).length<SZ:=by
     have:=mv p;simp only[N7,Tj,cy];lia
    refine⟨_,by simp![lO,if_pos L];rfl,cs++[(aL m).filter q],_,_,_,by simp only[Uk,Oe];rfl,λc h=>?_,by simp;lia⟩;rcases Oz.mp h with w|w
    .exact d c w
    .simp at w;subst w;exact F
   .exact⟨_,by simp!;rfl,cs,_,_,_,rfl,d,by simp;lia⟩)
 rw[e,G];simp!;refine⟨((aL m).map λk=>[k])++cs,by rw[Uk],λc h=>?_,?_,?_⟩
 .rcases Oz.mp h with w|w
  .obtain⟨k,n,rfl⟩:=OV.mp w;exact h0 k n
  .exact d c w
 .rw[rE];intro x a b;exact⟨[x],by simp[g9];exact .inl ⟨a,b⟩,by simp⟩
 .have:=mv p;have h2:(aL (i%9)).length<=8:=(by unfold aL;simp;lia);simp only[N7,Tj];lia
def kR:c∈dG cs<->c∈cs/\∀o∈cs,c.length<o.length->¬lies c o=true:=by
 unfold dG;simp only[PY,iU,g8,OY,Sg,Ov,and_imp]
def u2(cs):c1 lexLt (dG cs):=Wq WU (ku mF (jY _))
def M7(cs):dG (dG cs)=dG cs:=by
 refine ks mF (u2 _) (u2 _) λz=>?_
 rw[kR];refine⟨λh=>h.1,λh=>⟨h,λo b a=>(kR.mp h).2 o (kR.mp b).1 a⟩⟩
theorem Au(h:∀c∈cs,IsCell m c):∀(n:Nat)(c:List Int),c∈cs->m.toNat<=c.length+n->∃t∈dG cs,∀x∈c,x∈t
 |0,c,d,g=>⟨c,kR.mpr ⟨d,λo a e=>by have:=kB (h o a);lia⟩,λ_ b=>b⟩
 |n+1,c,d,g=>by
  by_cases q:∀o∈cs,c.length<o.length->¬lies c o=J
  .exact⟨c,kR.mpr ⟨d,q⟩,λ_ b=>b⟩
  .obtain⟨o,a,e,f⟩:∃o,o∈cs/\c.length<o.length/\lies c o=true:=by
    apply Sb;intro z;exact q λo a e f=>z ⟨o,a,e,f⟩
   obtain⟨t,j,i⟩:=Au h n o a ⋯;exact⟨t,j,λx b=>i x (sQ.mp f x b)⟩
structure Net(m:Int)(ts:List (List Int)):Prop where
 lo:1<=m
 hi:m<=8
 cell:∀c∈ts,IsCell m c
 top:ts=dG ts
 dr:dr m ts=J
def HL(f:1<=m)(g:m<=8)(d:∀c∈cs,IsCell m c)(e:dr m cs=J):Net m (dG cs) where
 lo:=f
 hi:=g
 cell:=λc h=>d c (kR.mp h).1
 top:=(M7 cs).symm
 dr:=by
  rw[rE]at e ⊢;intro x a b;obtain⟨c,h,k⟩:=e x a b;obtain⟨t,j,i⟩:=Au d m.toNat c h ⋯;exact⟨t,j,i x k⟩
def M6(cs):(dG cs).length<=cs.length:=by
 unfold dG;have a:=QK (λc=>!((bo lexLt (br cs)).filter λo=>decide (c.length<o.length)).any (lies c)) (bo lexLt (br cs));have h2:=rH cs;rw[mE]at a;lia
def o3{cs:List (List Int)}(l:∀cs:List (List Int),(∀c∈cs,c≠[])->(br cs).length<=255->Φ f [.lst (cs.map af)]=.ok (.tup ((hQ cs).map af)))(g:1<=m)(j:m<=8)(q:cs.length<=70)(h:∀c∈cs,c.length<=255)(k:∀c∈cs,IsCell m (bo ltI c))(p:dr m (cs.map (bo ltI))=J):
  ∃ts,hH (cY pg Φ [Z a,Z b,Z (.int m),Z c,Z (.lst (cs.map af))] {.ret (.tup {2e0,.call f {.comp (.tupI (.seq (.prim .sorted 5e0))) 0 (.seq 4e0) .none}})})=.ok (aP m ts)/\Net m ts/\ts.length<=70:=by
 have e:∀c∈cs.map (bo ltI),IsCell m c:=λc d=>by obtain⟨o,n,rfl⟩:=OV.mp d;exact k o n
 refine⟨dG (cs.map (bo ltI)),?_,HL g j e p,by have:=M6 (cs.map (bo ltI));rw[Tj]at this;lia⟩;have e1:bf (elem pg Φ [Z a,Z b,Z (.int m),Z c,Z (.lst (cs.map af))] (.tupI (.seq (.prim .sorted 5e0))) 0 .none) (cs.map af)=.ok (cs.map λc=>af (bo ltI c)):=jB λc d=>by
  simp![tN,Ls (h c d)];rfl
 have e2:(cs.map λc=>af (bo ltI c))=(cs.map (bo ltI)).map af:=by rw[T2];rfl
 have i:(br (cs.map (bo ltI))).length<=255:=by have:=rH (cs.map (bo ltI));rw[Tj]at this;lia
 simp![e1,e2,l _ (λc d=>(e c d).1) i,xK (λc d=>(e c d).2.2)];rfl
def tV(h:IsCell m c):bo ltI c=c:=LB fD h.2.2
def zT{cs:List (List Int)}(h:∀c∈cs,IsCell m c):cs.map (bo ltI)=cs:=by
 conv=>rhs;rw[<- XY cs]
 exact Px λc a=>tV (h c a)
def vn:Bool:=(TB 9).all λm=>(TB 9).all λs=>(decide (s=0)||decide (m<s))||((b3 s (aL (m:Int))).all (λc=>decide (IsCell (m:Int) c))&&dr (m:Int) (b3 s (aL (m:Int))))
def ri:vn=true:=by decide +kernel
def Bb{s:Nat}(d:1<=m)(f:m<=8)(g:1<=s)(i:(s:Int)<=m):(∀c∈b3 s (aL m),IsCell m c)/\dr m (b3 s (aL m))=true:=by
 have h:=ri;unfold vn at h;rw[Oi]at h;have h:=h m.toNat (OF.mpr ⋯);rw[Oi]at h;have h:=h s (OF.mpr ⋯);have e:((m.toNat:Nat):Int)=m:=by lia
 rw[e]at h;have a:¬s=0:=by lia
 have b:¬m.toNat<s:=by lia
 simp only[decide_eq_false a,decide_eq_false b,Bool.or_self,Bool.false_or,N0,Oi,Ov]at h;exact h
def band:List (List Int):=(aL 5).map (λk=>[0,1+k,1+(k+1)%5])++(aL 5).map λk=>[1+k,1+(k+1)%5,1+(k+3)%5]
def BR:(band.map (bo ltI)).all (λc=>decide (IsCell 6 c))&&dr 6 (band.map (bo ltI))&&decide (band.length<=70)&&band.all (λc=>decide (c.length<=255))=true:=by decide +kernel
def kc:List (List Int):=(aL 7).map (λk=>[k,(k+1)%7,(k+3)%7])++(aL 7).map λk=>[k,(k+2)%7,(k+3)%7]
def M1:(kc.map (bo ltI)).all (λc=>decide (IsCell 7 c))&&dr 7 (kc.map (bo ltI))&&decide (kc.length<=70)&&kc.all (λc=>decide (c.length<=255))=true:=by decide +kernel
def HM(M:Int)(a0:6<=M)(a1:M<=8)(o:∀cs:List (List Int),(∀c∈cs,c≠[])->(br cs).length<=255->Φ N [.lst (cs.map af)]=.ok (.tup ((hQ cs).map af)))(T:∀(s:Nat)(c:List Int),s<=8->c.length<=8->Φ K [af c,.int (s:Int)]=.ok (.lst ((b3 s c).map af)))(U:∀i m:Int,1<=m->m<=8->∃cs:List (List Int),Φ L [.int i,.int m]=.ok (.lst (cs.map af))/\(∀c∈cs,IsCell m c)/\dr m cs=J/\cs.length<=16)(i:Int)(h0:0<=i):
  ∃m ts,bV pg Φ ⟨2,3,aG.qX N K L⟩ [.int i,.int M]=.ok (aP m ts)/\Net m ts/\ts.length<=70:=by
 have W:=fl i (b:=M) ⋯;have H:decide ((5:Int)<M)=true:=decide_eq_true ⋯;simp![aG.qX,d0 i M ⋯,gZ i 12 ∅ ∅,d0 _ 8 ∅];cases k0:(i / 12%8==0)
 .cases k1:(i / 12%8==1)
  .by_cases k2:(i / 12%8==2)=J/\(6:Int)<M
   .have r:decide ((6:Int)<M)=true:=decide_eq_true k2.2;replace k2:=k2.1;have n:=M1;simp only[N0,Oi,Ov]at n;obtain⟨⟨⟨u,v⟩,F⟩,w⟩:=n;obtain⟨ts,e2,l,h⟩:=o3 (pg:=pg) (Φ:=Φ) (cs:=kc) (m:=7) (a:=.int i) (b:=.int M) (c:=.int (i / 12%8)) o ∅ ∅ F w (λc f=>u _ (WV f)) v;refine⟨7,ts,?_,l,h⟩;rw[<- e2];have C:=hk (i:=0) (j:=7) ⋯ ⋯ ⋯ ⋯;have p:∀a b c d e,bf (elem pg Φ [a,b,c,d,e] (.tup {5e0,.bin .mod (.bin .add 5e0 1e1) 7e1,.bin .mod (.bin .add 5e0 3e1) 7e1}) 0 .none) ((aL 7).map .int)=.ok ((aL 7).map λk=>af [k,(k+1)%7,(k+3)%7]):=λa b c d e=>jB λk _=>by
     simp![d0 _ 7 ∅];rfl
    have q:∀a b c d e,bf (elem pg Φ [a,b,c,d,e] (.tup {5e0,.bin .mod (.bin .add 5e0 2e1) 7e1,.bin .mod (.bin .add 5e0 3e1) 7e1}) 0 .none) ((aL 7).map .int)=.ok ((aL 7).map λk=>af [k,(k+2)%7,(k+3)%7]):=λa b c d e=>jB λk _=>by
     simp![d0 _ 7 ∅];rfl
    have t:kc.map af=(aL 7).map (λk=>af [k,(k+1)%7,(k+3)%7])++(aL 7).map λk=>af [k,(k+2)%7,(k+3)%7]:=by
     unfold kc;rw[Uk,T2,T2];rfl
    have x:((aL 7).map (λk=>af [k,(k+1)%7,(k+3)%7])).length+((aL 7).map λk=>af [k,(k+2)%7,(k+3)%7]).length<=SZ:=by
     have:=mv (m:=7) ∅;rw[Tj,Tj,cy];lia
    simp![k1,k2,r,C,hh,p,q,kr,if_pos x,<- t]
   .obtain⟨cs,e,g,y,a2⟩:=U (i / 96) (1+i%M) ⋯ ⋯;obtain⟨ts,e2,l,h⟩:=o3 (pg:=pg) (Φ:=Φ) (cs:=cs) (m:=1+i%M) (a:=.int i) (b:=.int M) (c:=.int (i / 12%8)) o ⋯ ⋯ ⋯ (λc f=>by have:=kB (g c f);lia) (λc f=>by rw[tV (g c f)];exact g c f) (by rw[zT g];exact y);refine⟨1+i%M,ts,?_,l,h⟩;rw[<- e2];cases k3:(i / 12%8==2)
    .simp![k1,k3,gZ i 96 ∅ ∅,e]
    .have r:decide ((6:Int)<M)=false:=decide_eq_false λz=>k2 ⟨k3,z⟩
     simp![k1,k3,r,gZ i 96 ∅ ∅,e]
  .have n:=BR;simp only[N0,Oi,Ov]at n;obtain⟨⟨⟨u,v⟩,F⟩,w⟩:=n;obtain⟨ts,e2,l,h⟩:=o3 (pg:=pg) (Φ:=Φ) (cs:=band) (m:=6) (a:=.int i) (b:=.int M) (c:=.int (i / 12%8)) o ∅ ∅ ⋯ w (λc f=>u _ (WV f)) v;refine⟨6,ts,?_,l,h⟩;rw[<- e2];have C:=hk (i:=0) (j:=5) ⋯ ⋯ ⋯ ⋯;have p:∀a b c d e,bf (elem pg Φ [a,b,c,d,e] (.tup {0e1,.bin .add 1e1 5e0,.bin .add 1e1 (.bin .mod (.bin .add 5e0 1e1) 5e1)}) 0 .none) ((aL 5).map .int)=.ok ((aL 5).map λk=>af [0,1+k,1+(k+1)%5]):=λa b c d e=>jB λk _=>by
    simp![d0 _ 5 ∅];rfl
   have q:∀a b c d e,bf (elem pg Φ [a,b,c,d,e] (.tup {.bin .add 1e1 5e0,.bin .add 1e1 (.bin .mod (.bin .add 5e0 1e1) 5e1),.bin .add 1e1 (.bin .mod (.bin .add 5e0 3e1) 5e1)}) 0 .none) ((aL 5).map .int)=.ok ((aL 5).map λk=>af [1+k,1+(k+1)%5,1+(k+3)%5]):=λa b c d e=>jB λk _=>by
    simp![d0 _ 5 ∅];rfl
   have t:band.map af=(aL 5).map (λk=>af [0,1+k,1+(k+1)%5])++(aL 5).map λk=>af [1+k,1+(k+1)%5,1+(k+3)%5]:=by
    unfold band;rw[Uk,T2,T2];rfl
   have x:((aL 5).map (λk=>af [0,1+k,1+(k+1)%5])).length+((aL 5).map λk=>af [1+k,1+(k+1)%5,1+(k+3)%5]).length<=SZ:=by
    have:=mv (m:=5) ∅;rw[Tj,Tj,cy];lia
   simp![k1,H,C,hh,p,q,kr,if_pos x,<- t]
 .have X:=fl (i / 96) (b:=1+i%M) ⋯;obtain⟨s,V⟩:∃s:Nat,(s:Int)=1+i / 96%(1+i%M):=⟨(1+i / 96%(1+i%M)).toNat,⋯⟩;obtain⟨g,y⟩:=Bb (m:=1+i%M) (s:=s) ⋯ ⋯ ⋯ ⋯;have P:(aL (1+i%M)).length<=8:=(by unfold aL;simp;lia);have Q:(b3 s (aL (1+i%M))).length<=70:=(by rw[tw];exact Ja P);obtain⟨ts,e2,l,h⟩:=o3 (pg:=pg) (Φ:=Φ) (cs:=b3 s (aL (1+i%M))) (m:=1+i%M) (a:=.int i) (b:=.int M) (c:=.int (i / 12%8)) o ⋯ ⋯ Q (λc f=>by have:=kB (g c f);lia) (λc f=>by rw[tV (g c f)];exact g c f) (by rw[zT g];exact y);refine⟨1+i%M,ts,?_,l,h⟩;rw[<- e2];have G:=T s (aL (1+i%M)) ⋯ ⋯;unfold af at G;simp![gZ i 96 ∅ ∅,d0 (i / 96) (1+i%M) ⋯,<- V,hk (i:=0) (j:=1+i%M) ⋯ ⋯ ⋯ ⋯,hh,G];rfl
end dn
end
section
namespace dp
open ζ aH dn
section
variable{pg:ck}{Φ:c2}
variable{α:Type}{lt:α->α->Bool}
def FF(d:D):bV pg Φ ⟨1,0,aG.u4⟩ [d]=.ok (.ag (fq d)):=by cases d<;>rfl
def FC{f g:Nat}(b:∀d,Φ f [d]=.ok (.ag (fq d)))(a:pg.cs[g]?=Z (.int 8))(d:D):bV pg Φ ⟨1,0,aG.qM f g⟩ [d]=.ok (.ag (jN d)):=by
 simp![aG.qM,b,om g a];cases d with
 |int i =>
  simp![fq,jN]
  by_cases h:1<=i
  .simp![decide_eq_true h,om g a,Uv]
  .simp![decide_eq_false h,TP]
 |_=>rfl
theorem AS{f:α->D}(h:∀a b,jQ (f a) (f b)=.ok (lt a b)){g:D->R (Option D)}(d:∀x y,g (.tup [x,y])=(bL .lt x y>>=λc=>.ok (Z (.ag c)))):∀xs:List α,
  ∃bs:List Bool,bf g (et (xs.map f) ((xs.drop 1).map f))=.ok (bs.map .ag)/\bs.all id=fi lt xs
 |[]=>⟨[],rfl,rfl⟩
 |[a]=>⟨[],rfl,rfl⟩
 |a::b::r=>by
  obtain⟨bs,i,e⟩:=AS h d (b::r);have e1:et ((a::b::r).map f) (((a::b::r).drop 1).map f)=.tup [f a,f b]::et ((b::r).map f) (((b::r).drop 1).map f):=by
   simp only[List.drop_succ_cons,SY,Tr,et]
  refine⟨lt a b::bs,?_,?_⟩
  .rw[e1];simp only[bf,d,rA,h,R.hb,i];rfl
  .simp only[Ua,id,fi,e]
def FE{f:α->D}(h:∀a b,jQ (f a) (f b)=.ok (lt a b))(xs:List α):bV pg Φ ⟨1,0,aG.qO⟩ [.tup (xs.map f)]=.ok (.ag (fi lt xs)):=by
 simp![aG.qO,vD];have e:(List.map f xs).drop 1=(xs.drop 1).map f:=by rw[W0]
 rw[e];obtain⟨bs,e1,e2⟩:=AS h (g:=elem pg Φ [Z (D.tup (List.map f xs))] (.cmp .lt (.var 1) (.var 2)) 2 .none) (λx y=>by
  simp!;cases jQ x y<;>rfl) xs
 have e3:hB (bs.map .ag)=.ok (bs.all id):=jv id bs;simp![e1,e3,e2]
def FA{f g:Nat}(o:∀d,Φ g [d]=.ok (.ag (fq d)))(s:∀c:List Int,Φ f [af c]=.ok (.ag (fi ltI c)))(d:D)(t:∀xs,d≠.kt xs)(m:Int):bV pg Φ ⟨2,0,aG.qL f g⟩ [d,.int m]=.ok (.ag (dt m d)):=by
 cases d with
 |tup xs =>
  have e1:bf (elem pg Φ [Z (D.tup xs),Z (D.int m)] (.call g (.cons (.var 2) .nil)) 0 .none) xs=.ok (xs.map λd=>.ag (fq d)):=vA λd _=>by simp![o]
  have u:fq (D.int m)=true:=rfl;simp![aG.qL,o,u,e1,jv];rcases oG xs with⟨c,rfl⟩|q
  .cases c with
   |nil=>rfl
   |cons a r =>
    have h0:(((((a::r).map D.int).length:Nat):Int)==0)=false:=(by simp;lia);rw[h0];simp![e1,jv,uQ];have v:dR (.tup ((a::r).map D.int)) (.int 0)=.ok (.int a):=(by rw[Tr,g5,se]);have k:=mx m (a::r);have n:=s (a::r);unfold af at k n;obtain⟨l,j⟩:∃l,(a::r).getLast?=Z l:=⟨_,List.getLast?_eq_some_getLast (by simp)⟩;have p:dR (.tup ((a::r).map D.int)) (.int (-1))=.ok (.int l):=by
     have:c7 ((a::r).map D.int) (-1)=Z (.int l):=by
      rw[Tr,EW,<- Tr,getLast?_map,j];rfl
     rw[g5,this]
    rw[k];simp![v];have fin:decide (IsCell m (a::r))=(decide (0<=a)&&(decide (l<m)&&fi ltI (a::r))):=by
     by_cases b:0<=a
     .by_cases e:l<m
      .by_cases i:fi ltI (a::r)=J
       .have:IsCell m (a::r):=⟨by simp,BF a r rfl ((lN fD _).mp i) l j b e,(lN fD _).mp i⟩;simp[b,e,i,this]
       .have:¬IsCell m (a::r):=λh=>i ((lN fD _).mpr h.2.2)
        simp[b,e,i,this]
      .have:¬IsCell m (a::r):=λh=>e (h.2.1 l (List.mem_of_getLast? j)).2
       simp[b,e,this]
     .have:¬IsCell m (a::r):=λh=>b (h.2.1 a To).1
      simp[b,this]
    rw[fin]
    by_cases b:0<=a
    .by_cases e:l<m
     .simp![decide_eq_true b,Uv,p,decide_eq_true e,n]
     .simp![decide_eq_true b,Uv,p,decide_eq_false e,TP]
    .simp![decide_eq_false b,TP]
  .rw[w7 q];cases w:(((xs.length:Nat):Int)==0)
   .simp![e1,jv,q]
   .rfl
 |kt xs=>exact absurd rfl (t xs)
 |_=>rfl
def Bj{f:Nat}(a:∀(c:List Int)(m:Int),Φ f [af c,.int m]=.ok (.ag (dt m (af c))))(cs:List (List Int))(m:Int):bV pg Φ ⟨2,0,aG.qK f⟩ [.tup (cs.map af),.int m]=.ok (.ag (hC m (.tup (cs.map af)))):=by
 have e1:bf (elem pg Φ [Z (D.tup (cs.map af)),Z (D.int m)] (.call f (.cons (.var 2) (.cons (.var 1) .nil))) 0 .none) (cs.map af)=.ok ((cs.map af).map λd=>.ag (dt m d)):=vA λd hd=>by
  obtain⟨c,_,rfl⟩:=OV.mp hd;simp![a]
 simp![aG.qK,e1,jv,hC]
def GW(c o:List Int):bV pg Φ ⟨2,0,aG.q3⟩ [af c,af o]=.ok (.ag (lies c o)):=by
 have e1:bf (elem pg Φ [Z (af c),Z (af o)] (.cmp .mem (.var 2) (.var 1)) 0 .none) (c.map .int)=.ok (c.map λx=>.ag (decide (x∈o))):=vz λx _=>by
  simp!;unfold af;simp![xQ]
 have e2:cf (af c)=.ok (c.map .int):=rfl;simp![aG.q3,e2,e1,jv,lies]
def xC{f:Nat}(b:∀c o:List Int,Φ f [af c,af o]=.ok (.ag (lies c o)))(c:List Int){d:D}{a:List (List Int)}(hd:cf d=.ok (a.map af)):bV pg Φ ⟨2,0,aG.q4 f⟩ [af c,d]=.ok (.ag (a.any (lies c))):=by
 have e1:bf (elem pg Φ [Z (af c),Z d] (.call f (.cons (.var 0) (.cons (.var 2) .nil))) 0 .none) (a.map af)=.ok (a.map λo=>.ag (lies c o)):=by
  rw[vx (p:=λo=>Z (.ag (lies c o))) λo _=>by simp![b],wA]
 simp![aG.q4,hd,e1,Bg]
def Hf{f:Nat}(b:∀(c:List Int)(a:List (List Int)),Φ f [af c,.tup (a.map af)]=.ok (.ag (a.any (lies c))))(ts:List (List Int)){m:Int}(h0:0<=m)(d:m<=8):bV pg Φ ⟨2,0,aG.q5 f⟩ [.tup (ts.map af),.int m]=.ok (.ag (dr m ts)):=by
 have e1:bf (elem pg Φ [Z (.tup (ts.map af)),Z (.int m)] (.call f (.cons (.tup (.cons (.var 2) .nil)) (.cons (.var 0) .nil))) 0 .none) ((aL m).map .int)=.ok ((aL m).map λk=>.ag (ts.any (lies [k]))):=vz λk _=>by
  have:=b [k] ts;unfold af at this ⊢;simp only[Tr,Qv]at this;simp![this]
 simp![aG.q5,hk (i:=0) (j:=m) ⋯ ⋯ ⋯ ⋯,hh,e1,jv,dr]
def M8{f:Nat}(l:∀(c:List Int)(h:List (List Int)),Φ f [af c,.lst (h.map af)]=.ok (.ag (h.any (lies c)))){d:D}{cs:List (List Int)}(hd:cf d=.ok (cs.map af))(n:∀c∈cs,c≠[])(b:(br cs).length<=255):
  bV pg Φ ⟨1,4,aG.q9 f⟩ [d]=.ok (.tup ((dG cs).map af)):=by
 simp![aG.q9,hd,zU n b];have u:(bo lexLt (br cs)).length<=255:=by rw[mE];exact b
 unfold dG;generalize bo lexLt (br cs)=ds at *;obtain⟨v,e,x,y,k⟩:=iL (f:=af) (g:=turn pg Φ 0 [3] (.cons (.asg 4 (.comp (.var 5) 0 (.seq (.var 1)) (.some (.cmp .gt (.prim .len (.var 5)) (.prim .len (.var 3)))))) (.cons (.iff (.not (.call f (.cons (.var 3) (.cons (.var 4) .nil)))) (.cons (.app 2 (.var 3)) .nil) .nil) .nil)))
  (λs i=>∃(x y:Option D),i=[Z d,Z (.lst (ds.map af)),Z (.lst ((s.filter λc=>!(ds.filter λo=>decide (c.length<o.length)).any (lies c)).map af)),x,y])
  ds [Z d,Z (.lst (ds.map af)),Z (.lst []),Y,Y] ⟨Y,Y,rfl⟩ (λpre c post i r ⟨x,y,j⟩=>by
   subst j;have e1:∀z,bf (elem pg Φ [Z d,Z (.lst (ds.map af)),z,Z (af c),y] (.var 5) 0 (.some (.cmp .gt (.prim .len (.var 5)) (.prim .len (.var 3))))) (ds.map af)=.ok ((ds.filter λo=>decide (c.length<o.length)).map af):=λz=>by
    rw[vx (p:=λo=>if decide (c.length<o.length) then Z (af o) else Y) λo _=>by
     simp![af,Tj]
     by_cases q:c.length<o.length
     .have a:((c.length:Nat):Int)<(o.length:Nat):=⋯;simp only[decide_eq_true q,decide_eq_true a,O6]
     .have a:¬((c.length:Nat):Int)<(o.length:Nat):=⋯;simp only[decide_eq_false q,decide_eq_false a,N4,Ox],wy]
   have m:((pre.filter λc=>!(ds.filter λo=>decide (c.length<o.length)).any (lies c)).map af).length<SZ:=by
    have t:=QK (λc=>!(ds.filter λo=>decide (c.length<o.length)).any (lies c)) pre;have h2:pre.length<=ds.length:=(by rw[r];simp);rw[Tj,cy];lia
   simp![e1,l];cases q:(ds.filter λo=>decide (c.length<o.length)).any (lies c)
   .refine⟨_,by simp![lO,if_pos m];rfl,Z (af c),Z (.lst ((ds.filter λo=>decide (c.length<o.length)).map af)),?_⟩;rw[wo pre (by rw[q];rfl),Uk];rfl
   .refine⟨_,by simp!;rfl,Z (af c),Z (.lst ((ds.filter λo=>decide (c.length<o.length)).map af)),?_⟩;rw[wm pre (by rw[q];rfl)])
 rw[e,k];simp!
def FD{j k i n:Nat}(w:∀d,Φ n [d]=.ok (.ag (jN d)))(s:∀(ts:List (List Int))(m:Int),Φ i [.tup (ts.map af),.int m]=.ok (.ag (hC m (.tup (ts.map af)))))(v:∀ts:List (List Int),(∀c∈ts,c≠[])->(br ts).length<=255->Φ k [.tup (ts.map af)]=.ok (.tup ((dG ts).map af)))(u:∀(ts:List (List Int))(m:Int),0<=m->m<=8->Φ j [.tup (ts.map af),.int m]=.ok (.ag (dr m ts)))(m:Int)(ts:List (List Int))(t:(∀c∈ts,IsCell m c)->(br ts).length<=255):bV pg Φ ⟨1,2,aG.qN j k i n⟩ [aP m ts]=.ok (.ag (b8 (aP m ts))):=by
 have h0:hP (aP m ts)=.ok (.int 2):=rfl;have q:dR (aP m ts) (.int 0)=.ok (.int m):=rfl;have r:dR (aP m ts) (.int 1)=.ok (.tup (ts.map af)):=rfl;have t0:gc pg.up (aP m ts) .tuple=.ok true:=rfl;have h2:((2:Int)==2)=true:=rfl;simp![aG.qN,t0,h0,h2,q,r,w]
 by_cases f:1<=m
 .by_cases b:m<=8
  .simp![jN,decide_eq_true f,decide_eq_true b,Uv,s];cases o:hC m (.tup (ts.map af))
   .simp!;have:b8 (aP m ts)=false:=(by unfold aP;simp only[b8,o,TR,TP]);rw[this]
   .obtain⟨a,e,g⟩:=(qE m _).mp o;have:a=ts:=by
     have e:ts.map af=a.map af:=D.tup.inj e;have:=O7 (λl=>l.map nC) e;simpa only[ug] using this.symm
    subst this;have e2:=v a (λc h=>(g c h).1) (t g);rw[sG m a g];simp![e2,vW]
    by_cases p:a=dG a
    .simp![decide_eq_true p,u a m ⋯ b,decide_eq_true f,decide_eq_true b,Uv]
    .simp![decide_eq_false p,TR,TP]
  .simp![jN,decide_eq_false b,TR];have:b8 (aP m ts)=false:=(by unfold aP;simp only[b8,decide_eq_false b,TR,TP]);rw[this]
 .simp![jN,decide_eq_false f,TP];have:b8 (aP m ts)=false:=(by unfold aP;simp only[b8,decide_eq_false f,TR,TP]);rw[this]
end
end dp
namespace dn
open ζ aH dp
section
variable{pg:ck}{Φ:c2}
def HZ(d:D)(lo hi:Int):bV pg Φ ⟨3,0,aG.qY⟩ [d,.int lo,.int hi]=.ok (.ag (ec lo hi d)):=by
 cases d with
 |int i =>
  simp![aG.qY,Fq,ec];have e:gc pg.up (.int i) .bool=.ok false:=rfl;simp![e]
  by_cases h:lo<=i
  .simp![decide_eq_true h,Uv]
  .simp![decide_eq_false h,TP]
 |_=>rfl
def JU{n:Nat}(h:n<=1000000):fw 1 ((n:Nat):Int)=.ok (cP 1 (n:Int)):=by
 have a:hj 1=true:=by decide
 have h2:hj (n:Int)=true:=by unfold hj;simp;lia
 have h5:((n:Int)-1).toNat<=1000000:=by lia
 unfold fw;rw[a,h2,decide_eq_true h5];rfl
def GA(c:List Int)(m:Int)(i:c.length<=1000000):ev pg Φ [Z (D.tup (c.map .int)),Z (D.int m)] (.cmp .eq (.comp 2e0 0 (.k9 1e1 (.prim .len 0e0)) (.some (.cmp .ge (.idx 0e0 (.bin .sub 2e0 1e1)) (.idx 0e0 2e0)))) (.lst .nil))=.ok (.ag (fi ltI c)):=by
 have e3:bf (elem pg Φ [Z (D.tup (c.map .int)),Z (D.int m)] 2e0 0 (.some (.cmp .ge (.idx 0e0 (.bin .sub 2e0 1e1)) (.idx 0e0 2e0)))) ((TB (c.length-1)).map λ(k:Nat)=>D.int ((k:Int)+1))
   = .ok ((TB (c.length-1)).filterMap λk=>if decide (c.getD k 0<c.getD (k+1) 0) then Y else Z (D.int ((k:Int)+1))):=CT λk a=>by
  have a:=OF.mp a;have g:c[k]?=Z (c.getD k 0):=(by rw[N8 ⋯];simp[Uo,N8 (show k<c.length by lia)]);have h:c[k+1]?=Z (c.getD (k+1) 0):=(by rw[N8 ⋯];simp[Uo,N8 (show k+1<c.length by lia)]);have l:=sz g;have n:=sz h;have e5:(k:Int)+1-1=(k:Int):=⋯;have f:(k:Int)+1=((k+1:Nat):Int):=⋯;simp![e5,l];rw[f,n];simp!
  by_cases z:c.getD k 0<c.getD (k+1) 0
  .have e:¬c.getD (k+1) 0<=c.getD k 0:=⋯;simp![decide_eq_true z,decide_eq_false e]
  .have e:c.getD (k+1) 0<=c.getD k 0:=⋯;simp![decide_eq_false z,decide_eq_true e]
 have j:=JU i;simp![Tj,j,JN,e3,jD (ys:=(TB (c.length-1)).filterMap λk=>if decide (c.getD k 0<c.getD (k+1) 0) then Y else Z (D.int ((k:Int)+1))) (by rw[Oi];intro d hd;obtain⟨k,_,a⟩:=P6.mp hd;split at a<;>cases a;exact ll _ _),r6];have e4:((TB (c.length-1)).all λk=>(if decide (c.getD k 0<c.getD (k+1) 0)=J then(Y:Option D) else Z (D.int ((k:Int)+1))).isNone)=fi ltI c:=by
  rw[uO];exact O7 (λp=>List.all (TB (c.length-1)) p) (funext λk=>by generalize decide (c.getD k 0<c.getD (k+1) 0)=b;cases b<;>rfl)
 rw[e4]
def GC{f:Nat}(n:∀d (lo hi:Int),Φ f [d,.int lo,.int hi]=.ok (.ag (ec lo hi d)))(d:D)(o:∀xs,d≠.kt xs)(m:Int)(a:∀xs,d=.tup xs->xs.length<=1000000/\xs.all (bg 50)=J):bV pg Φ ⟨2,0,aG.qU f⟩ [d,.int m]=.ok (.ag (dt m d)):=by
 cases d with
 |tup xs =>
  obtain⟨a,b⟩:=a xs rfl;simp![aG.qU,vX (zG b)];cases xs with
  |nil=>rfl
  |cons x xs =>
   have e0:(x::xs).isEmpty=false:=rfl;have e1:bf (elem pg Φ [Z (D.tup (x::xs)),Z (D.int m)] 2e0 0 (.some (.not (.call f {2e0,0e1,.bin .sub 1e0 1e1})))) (x::xs)=.ok ((x::xs).filterMap λd=>if ec 0 (m-1) d then Y else Z d) :=
    l6 λd _=>by
     simp![n];cases ec 0 (m-1) d<;>simp!
   simp![e0,e1,jD (zF (zG b)),r6];have e2:((x::xs).all λd=>(if ec 0 (m-1) d=J then(Y:Option D) else Z d).isNone)=(x::xs).all (ec 0 (m-1)):=by
    congr 1;funext d;cases ec 0 (m-1) d<;>rfl
   rw[e2];cases q:(x::xs).all (ec 0 (m-1))
   .-- v s t w u
    simp!;have:dt m (.tup (x::xs))=false:=by
     cases p:dt m (.tup (x::xs)) with
     |false=>rfl
     |true =>
      obtain⟨c,e,k⟩:=(sE _ _).mp p;unfold af at e;injection e with e;rw[e,Ue]at q;have:c.all (ec 0 (m-1) ∘ D.int)=true:=by
       rw[Oi];intro z hz;have:=k.2.1 z hz;simp[ec];lia
      rw[this]at q;cases q
    rw[this]
   .-- all r
    have j:(x::xs).all fq=true:=by
     rw[Oi]at q ⊢;intro z hz;have:=q z hz;cases z<;>simp[ec,fq]at *
    rcases oG (x::xs) with⟨c,e⟩|h
    .rw[e]at q a ⊢;have l:c≠[]:=(by rintro rfl;simp at e);rw[Tj]at a;simp![GA c m a];have g:dt m (.tup (c.map .int))=_:=mx m c;have i:decide (IsCell m c)=fi ltI c:=by
      rw[QE,lN fD,QC];refine⟨λh=>h.2.2,λh=>?_⟩;refine⟨l,λz hz=>?_,h⟩;rw[Ue,Oi]at q;have:=q z hz;simp[ec]at this;lia
     rw[g,i]
    .rw[j]at h;cases h
 |kt xs=>exact absurd rfl (o xs)
 |_=>rfl
def CZ{t0:D}(ts:List (List Int))(h:ts.flatten.length<=SZ):∃x,forL (turn pg Φ 0 [2] {.asg 1 (.bin .add 1e0 (.gH (.seq 2e0)))}) (ts.map af) [Z t0,Z (.lst []),Y]=.ok (.aS [Z t0,Z (.lst (ts.flatten.map .int)),x]):=by
 obtain⟨l,e,x,d⟩:=iL (f:=af) (g:=turn pg Φ 0 [2] {.asg 1 (.bin .add 1e0 (.gH (.seq 2e0)))})
  (λk a=>∃(x:Option D),a=[Z t0,Z (.lst (k.flatten.map .int)),x])
  ts [Z t0,Z (.lst []),Y] ⟨Y,rfl⟩ (λpre c post a j ⟨x,b⟩=>by
   subst b;have i:(pre.flatten.map D.int).length+(c.map D.int).length<=SZ:=by
    rw[j]at h;simp only[QT,Ud,N7]at h;rw[Tj,Tj];lia
   refine⟨_,by simp![tN,kr,if_pos i];rfl,Z (af c),?_⟩;simp[QT])
 exact⟨x,by rw[e,d]⟩
abbrev subs:List Int->List (List Int)
 |[]=>[[]]
 |x::xs=>subs xs++(subs xs).map (x::·)
theorem s8:∀l:List Int,[]∈subs l
 |[]=>Ou.mpr rfl
 |x::l=>OG _ (s8 l)
theorem sW:∀(l c:List Int),c1 ltI l->c1 ltI c->(∀x∈c,x∈l)->c∈subs l
 |[],c,_,_,h=>by
  cases c with
  |nil=>exact s8 []
  |cons y c=>exact absurd (h y To) (by simp)
 |x::l,[],_,_,_=>s8 _
 |x::l,y::c,g,b,h=>by
  obtain⟨l1,l2⟩:=OA.mp g;obtain⟨a,f⟩:=OA.mp b
  by_cases e:y=x
  .subst e;refine Oo _ (OV.mpr ⟨c,sW l c l2 f λz hz=>?_,rfl⟩);rcases N3.mp (h z (Tp _ hz)) with q|q
   .have:=a z hz;simp[ltI]at this;lia
   .exact q
  .refine OG _ (sW l (y::c) l2 b λz hz=>?_);have d:y∈l:=by
    rcases N3.mp (h y To) with q|q
    .exact absurd q e
    .exact q
   rcases N3.mp hz with q|q
   .subst q;exact d
   .rcases N3.mp (h z hz) with p|p
    .have a1:=a z q;have a2:=l1 y d;simp[ltI]at a1 a2;lia
    .exact p
def BE:c1 ltI (aL 8):=by unfold c1;decide +kernel
def GL:((subs (aL 8)).filter λc=>!c.isEmpty).length<=255:=by decide +kernel
def r1{m:Int}{ts:List (List Int)}(g:m<=8)(h:∀c∈ts,IsCell m c):(br ts).length<=255:=by
 refine Ol (jZ (ys:=(subs (aL 8)).filter λc=>!c.isEmpty) (jY _) λc d=>?_) GL;obtain⟨e,b,f⟩:=h c ((g8 _ _).mp d);refine PY.mpr ⟨sW _ _ BE f λx a=>g9.mpr ⟨(b x a).1,by have:=(b x a).2;lia⟩,?_⟩;cases c with
 |nil=>exact absurd rfl e
 |cons _ _=>rfl
def GG{c b a:Nat}(f:∀d (lo hi:Int),Φ a [d,.int lo,.int hi]=.ok (.ag (ec lo hi d)))(t:D):bV pg Φ ⟨1,2,aG.lT c b a⟩ [.tup [.az,t]]=.ok (.ag Th):=by
 have e:c7 [D.az,t] 0=Z .az:=rfl;have h0:(((2:Nat):Int)==2)=true:=rfl;simp![aG.lT,h0,g5,e,f,ec]
def GD {r n s : Nat} (K : ∀ d (lo hi : Int), Φ s [d, .int lo, .int hi] = .ok (.ag (ec lo hi d))) (g : ∀ (c : List Int) (m : Int), c.length <= 1000000 -> Φ n [af c, .int m] = .ok (.ag (dt m (af c))))
    (G : ∀ ts : List (List Int), (∀ c ∈ ts, c ≠ []) -> (br ts).length <= 255 -> Φ r [.tup (ts.map af)] = .ok (.tup ((hQ ts).map af))) (m : Int) (ts : List (List Int)) (C : ts.flatten.length <= 1000000) : bV pg Φ ⟨1, 2, aG.lT r n s⟩ [aP m ts] = .ok (.ag (b8 (aP m ts))) := by
  have H : ∀ c ∈ ts, c.length <= 1000000 := fun c g => by
    obtain ⟨a, b, rfl⟩ := List.append_of_mem g
    simp only [QT, Ud, N7] at C
    lia
  unfold aP
  have h0 : (((2 : Nat) : Int) == 2) = true := rfl
  have o : c7 [D.int m, .tup (ts.map af)] 0 = Z (.int m) := rfl
  have k : c7 [D.int m, .tup (ts.map af)] 1 = Z (.tup (ts.map af)) := rfl
  simp![aG.lT, h0, g5, o, k, K]
  by_cases l : 1 <= m
  · by_cases f : m <= 8
    · have e1 : bf (elem pg Φ [Z (.tup [.int m, .tup (ts.map af)]), Y, Y] 3e0 0 (.some (.not (.call n {3e0,.idx 0e0 0e1})))) (ts.map af) = .ok ((ts.map af).filterMap fun d => if dt m d then Y else Z d) :=
        l6 fun d hd => by
          obtain ⟨c, p, rfl⟩ := OV.mp hd
          simp![g5, o, g c m (H c p)]
          cases dt m (af c) <;> simp!
      have L : (ts.map af).all (bg 59) = true := nf 58 ts
      simp![ec, decide_eq_true l, decide_eq_true f, Uv, g5, k, e1, jD (zF L), r6]
      have e2 : ((ts.map af).all fun d => (if dt m d = J then (Y : Option D) else Z d).isNone) = (ts.map af).all (dt m) := by
        congr 1; funext d; cases dt m d <;> rfl
      rw [e2]
      have e3 : hC m (.tup (ts.map af)) = (ts.map af).all (dt m) := rfl
      cases q : (ts.map af).all (dt m)
      · have : b8 (.tup [.int m, .tup (ts.map af)]) = false := by simp only [b8, e3, q, TR, TP]
        rw [this]
        simp!
      · have e : ∀ c ∈ ts, IsCell m c := fun c p => by
          rw [Ue, Oi] at q
          have := q c p
          rw [RO, mx] at this
          exact PX this
        have y : ∀ c ∈ ts, c1 ltI c := fun c g => (e c g).2.2
        have e5 := G ts (fun c h => (e c h).1) (r1 f e)
        rw [xK y] at e5
        have v : b8 (.tup [.int m, .tup (ts.map af)]) = _ := sG m ts e
        rw [v]
        simp![g5, k, e5, vW]
        by_cases u : ts = dG ts
        · obtain ⟨x, w⟩ := CZ (pg := pg) (Φ := Φ) (t0 := .tup [.int m, .tup (ts.map af)]) ts (by rw [cy]; lia)
          have F : (br ts.flatten).length <= 255 := by
            have : (br ts.flatten).length <= (aL m).length := jZ (jY _) fun z hz => by
              rw [g8, XM] at hz
              obtain ⟨t, M, hz⟩ := hz
              exact g9.mpr ((e t M).2.1 z hz)
            have := mv f
            lia
          simp![decide_eq_true u, g5, o, k, w, LC F, hk (i := 0) (j := m) ⋯ ⋯ ⋯ ⋯, hh, DP, decide_eq_true l, decide_eq_true f, Uv]
          rw [C4 ⋯ e]
        · simp![decide_eq_false u, TR, TP]
    · simp![ec, decide_eq_false f, TR]
      have : b8 (.tup [.int m, .tup (ts.map af)]) = false := by simp only [b8, decide_eq_false f, TR, TP]
      rw [this]
  · simp![ec, decide_eq_false l, TP]
    have : b8 (.tup [.int m, .tup (ts.map af)]) = false := by simp only [b8, decide_eq_false l, TR, TP]
    rw [this]
end
end dn
end
section
namespace fY
open PySem PySem.StrLaws PySem.Builtin.Str
noncomputable abbrev L(x:Tz):List Nat:=x.cps.toList
def qo{x y:Tz}(h:L x=L y):x=y:=Str.ext' (Qs.mp h)
def jq(x y:Tz):L (x++y)=L x++L y:=by unfold L;rw[Str.cps_append,TK]
def fb(x:Tz):(L x).length=x.length:=by simp[L,Str.length]
def u3{x y:Tz}{o z k:Nat}(b:(L y)[o]?=Z z)(h:At x y x.length k):(L x)[k+o]?=Z z:=by
 have h2:=h.2;rw[subAt_eq,OJ]at h2;have a:o<(L y).length:=(Og.mp b).1;rw[fb]at a;have h3:(((L x).drop k).take y.length)[o]?=Z z:=by rw[h2];exact b
 rw[VE a,QB]at h3;exact h3
def at_of{x y:Tz}{k:Nat}{a b:List Nat}(h:L x=a++(L y++b))(c:k=a.length):At x y x.length k:=by
 refine⟨?_,?_⟩
 .have:=O7 Vm h;rw[fb]at this;simp only[N7,fb]at this;lia
 .rw[subAt_eq,OJ];show((L x).drop k).take y.length=L y;rw[h,c,Yu,<- fb y,Yv]
theorem ym(x y:Tz)(o z:Nat)(j:(L y)[o]?=Z z)(u:∀i,i<o->(L y)[i]?≠Z z):∀(qs:List Tz)(q:Tz)(a:Nat)(d:List Nat)(f:Nat),
  (∀w∈q::qs,z∉L w)->a<=x.length->(L x).drop a=L (T8 y (q::qs))->ChainG x y x.length a d f->(∀k,f<=k->¬At x y x.length k)->partsFrom x y.length a d=q::qs
 |[],q,a,d,f,hz,D,b,g,m=>by
  have b:(L x).drop a=L q:=b;cases d with
  |nil =>
   show [strSub x a x.length]=[q];congr 1;apply qo;unfold L;rw[strSub_toList];show((L x).drop a).take _=_;rw[Pw (by rw[PC,fb];lia)];exact b
  |cons c r =>
   have l:=u3 j g.2.1;have h2:((L x).drop a)[c-a+o]?=Z z:=(by rw[QB,<- l];congr 1;have:=g.1;lia);rw[b]at h2;exact absurd (O2 h2) (hz q To)
 |p::qs,q,a,d,f,hz,D,b,g,m=>by
  have b:(L x).drop a=L (q++y++T8 y (p::qs)):=b;rw[jq,jq,Oe]at b;have v:L x=((L x).take a++L q)++(L y++L (T8 y (p::qs))):=by
   rw[Oe,<- b,Pk]
  have s:((L x).take a).length=a:=(by rw[O1,fb];lia);have n:At x y x.length (a+q.length):=at_of v (by rw[N7,s,fb]);cases d with
  |nil =>
   have e:f=a:=g;exact absurd n (m _ ⋯)
  |cons c r =>
   obtain⟨G,A,B,C⟩:=g;have E:c<=a+q.length:=SE λh=>B _ ⋯ h n
   have H:c=a+q.length:=by
    rcases Nat.lt_or_eq_of_le E with h|h
    .have l:=u3 j A;have h2:((L x).drop a)[c-a+o]?=Z z:=(by rw[QB,<- l];congr 1;lia);rw[b]at h2
     by_cases h3:c-a+o<(L q).length
     .rw[Oh h3]at h2;exact absurd (O2 h2) (hz q To)
     .rw[OP ⋯]at h2;have h4:o<(L y).length:=(Og.mp j).1;rw[fb]at h3 h2;rw[Oh ⋯]at h2;exact absurd h2 (u _ ⋯)
    .exact h
   show strSub x a c::partsFrom x y.length (c+y.length) r=_;have e1:strSub x a c=q:=by
    apply qo;unfold L;rw[strSub_toList];show((L x).drop a).take _=_;rw[b,show c-a=(L q).length by rw[fb];lia,Yv]
   have t:=O7 Vm v;rw[fb]at t;simp only[N7,s,fb]at t;rw[e1,ym x y o z j u qs p (c+y.length) r f (λw hw=>hz w (Tp _ hw)) ⋯ (by
    rw[show c+y.length=a+(q.length+y.length) by lia,<- SX,b,<- Oe];rw[show q.length+y.length=(L q++L y).length by rw[N7,fb,fb],Yu]) C m]
set_option tactic.hygienic true in
theorem zS {x y : Tz} {o z : Nat} (d : UE y = 1) (hw : 1 <= y.length) (j : (L y)[o]? = Z z) (e : ∀ i, i < o -> (L y)[i]? ≠ Z z) {q : Tz} {qs : List Tz} (hz : ∀ w ∈ q :: qs, z ∉ L w) (k : x = T8 y (q :: qs)) : Txt.split x y = q :: qs := by
  obtain ⟨f, a, g⟩ := occ_tight x y hw
  have main := ym x y o z j e qs q 0 _ f hz (Od _) (by rw [SY, k]) a g
  unfold Txt.split
  split
  · rename_i h
    rw [P0, Ov, Ov] at h
    rcases h with h | h
    · have : occurrences x y 0 x.length (x.length + 1) = [] := by
        generalize occurrences x y 0 x.length (x.length + 1) = b at a
        cases b with
        | nil => rfl
        | cons c r => have := a.2.1.1; lia
      rw [this] at main
      rw [<- main]
      show [x] = [strSub x 0 x.length]
      rw [sub_whole]
    · exfalso
      rw [d] at h
      unfold UE at h
      split at h
      · lia
      · split at h <;> lia
  · split
    · rename_i h
      rw [List.isEmpty_iff.mp h] at main
      rw [<- main]
      show [x] = [strSub x 0 x.length]
      rw [sub_whole]
    · rw [partsBetween_eq, main]
def j5(x y:Tz):∃q qs,Txt.split x y=q::qs:=by
 unfold Txt.split
 split
 .exact⟨_,_,rfl⟩
 .split
  .exact⟨_,_,rfl⟩
  .rw[partsBetween_eq];exact partsFrom_ne _ _ _ _
end fY
end
section
namespace dn
open ζ aH dp fY
open PySem
section
variable{pg:ck}{Φ:c2}
def bh(x:Tz):Prop:=∀c∈L x,c<128
def aa(ws:List Tz):Nat:=j8 ws+ws.length
def jU(w:Tz)(ws:List Tz):aa (w::ws)=w.length+1+aa ws:=by
 unfold aa j8;simp only[Tr,List.sum_cons,Tt];lia
theorem dC:∀a b:List Tz,aa (a++b)=aa a+aa b
 |[],b=>by show aa b=0+aa b;lia
 |w::a,b=>by rw[UT,jU,jU,dC a b];lia
def HD(ws:List Tz)(lo hi:Option Int):aa (cut ws lo hi)<=aa ws:=by
 unfold cut;generalize aR ws.length 0 lo=a;generalize aR ws.length ws.length hi-a=b;have c:=dC (ws.take a) (ws.drop a);have h2:=dC ((ws.drop a).take b) ((ws.drop a).drop b);rw[Pk]at c h2;lia
def xW(ws:List Tz):ws.length<=aa ws:=by unfold aa;lia
def ni:((Tf " "):Tz).length=1:=by decide +kernel
theorem sL:∀(ws:List Tz)(q:Tz),(T8 (Tf " ") (q::ws)).length+1=aa (q::ws)
 |[],q=>by rw[jU];show q.length+1=q.length+1+0;lia
 |w::ws,q=>by
  rw[jU,<- sL ws w];show(q++(Tf " ")++T8 (Tf " ") (w::ws)).length+1=_;rw[PI,PI,ni];lia
def len_join_le(ws:List Tz):(T8 (Tf " ") ws).length<=aa ws:=by
 cases ws with
 |nil=>exact Od _
 |cons q ws=>have:=sL ws q;lia
def xX(T:Tz):aa (Txt.split T (Tf " "))=T.length+1:=by
 have h:=P9 T (Tf " ");obtain⟨q,qs,e⟩:=j5 T (Tf " ");rw[e]at h ⊢;rw[<- sL,h]
theorem mem_join{y:Tz}{c:Nat}:∀{ws:List Tz}{w:Tz},w∈ws->c∈L w->c∈L (T8 y ws)
 |[q],w,hw,a=>by rw[Ou.mp hw]at a;exact a
 |q::p::ws,w,hw,a=>by
  show c∈L (q++y++T8 y (p::ws));rw[jq,jq];rcases N3.mp hw with rfl|hw
  .exact OG _ (OG _ a)
  .exact Oo _ (mem_join hw a)
def lP{x y:Tz}(b:bh x)(d:bh y):bh (x++y):=λc a=>by
 rw[jq]at a;rcases Oz.mp a with h|h
 .exact b c h
 .exact d c h
theorem kv{y:Tz}(a:bh y):∀{ws:List Tz},(∀w∈ws,bh w)->bh (T8 y ws)
 |[],_=>λc b=>by cases b
 |[q],h=>h q (Ou.mpr rfl)
 |q::p::ws,h=>lP (lP (h q To) a) (kv a λw hw=>h w (Tp _ hw))
def lR{T y:Tz}(h:bh T):∀w∈Txt.split T y,bh w:=λw hw c a=>by
 refine h c ?_;rw[<- P9 T y];exact mem_join hw a
def BI{T:Tz}(h:bh T)(lo hi:Option Int):bh (Txt.slice T lo hi):=by
 unfold Txt.slice
 split
 .exact h
 .intro c a;unfold L at a;obtain⟨k,_,b⟩:=P6.mp a;refine h c ?_;unfold L;rw[Wt];exact Array.mem_of_getElem? b
def lQ:bh (Tf " "):=by unfold bh;decide +kernel
def oe{α β:Type}(f:α->β)(xs:List α)(lo hi:Option Int):cut (xs.map f) lo hi=(cut xs lo hi).map f:=by
 unfold cut;rw[Tj,List.map_take,W0]
def Hj{α:Type}{xs:List α}{lo hi:Option Int}{x:α}(h:x∈cut xs lo hi):x∈xs:=WA (QM h)
def kT(x y:Tz):hS .split x (.str y)=hl x y:=ak rfl
def o2(x:Tz)(xs:List D):hS .join x (.lst xs)=iR x xs:=ak rfl
def Hm(x y:Tz):hS .find x (.str y)=.ok (.int (Txt.find x y)):=ak rfl
def nj{T:Tz}(h:T.length<=1000000):hl T (Tf " ")=.ok (.lst ((Txt.split T (Tf " ")).map .str)):=by
 unfold hl;rw[if_pos ⟨by rw[ni];decide,by rw[cy];lia⟩]
theorem zW:∀ws:List Tz,strsOf (ws.map .str)=Z ws
 |[]=>rfl
 |w::ws=>by simp only[Tr,strsOf,zW ws,Uq]
def oK{ws:List Tz}(h:aa ws<=SZ):iR (Tf " ") (ws.map .str)=.ok (.str (T8 (Tf " ") ws)):=by
 unfold iR;rw[zW];dsimp only;rw[if_pos (by unfold aa at h;rw[ni];lia)]
def iz{a b:List Tz}(h:aa (a++b)<=SZ):dq .add (.lst (a.map .str)) (.lst (b.map .str))=.ok (.lst ((a++b).map .str)):=by
 have:=xW (a++b);rw[N7]at this;rw[kr,if_pos (by rw[Tj,Tj];lia),Uk]
def wM{α:Type}(xs:List α){i:Int}(h0:0<=i)(h:i<xs.length):∃x,x∈xs/\c7 xs i=Z x:=by
 obtain⟨k,rfl⟩:=SA h0;rw[mj];have a:k<xs.length:=by lia
 exact⟨xs[k],Rw a,N8 a⟩
abbrev nh:List Str:=[Tf "cell",Tf "0",Tf "1",Tf "2",Tf "3",Tf "4",Tf "5",Tf "6",Tf "7",Tf "8",Tf "00",Tf "9",Tf "-1"]
def Gp:UE (Tf " ")=1:=by decide +kernel
def EO:∀w∈Tf "net"::nh,32∉L w:=by decide +kernel
def F6:Tf "net cell 0 1 2 3 4 5 6 7 8 00 9 -1"=T8 (Tf " ") (Tf "net"::nh):=by decide +kernel
def BO:(L (Tf " "))[0]?=Z 32:=by decide +kernel
def pI{q:Tz}{qs:List Tz}(hz:∀w∈q::qs,32∉L w):Txt.split (T8 (Tf " ") (q::qs)) (Tf " ")=q::qs :=
 zS (o:=0) (z:=32) Gp (by rw[ni];decide) BO (λi h=>⋯) hz rfl
def Ly:Txt.split (Tf "net cell 0 1 2 3 4 5 6 7 8 00 9 -1") (Tf " ")=Tf "net"::nh:=by rw[F6,pI EO]
def H7:∀w∈Tf "net"::nh,(∀c∈L w,c<128)/\w.length<=4:=by decide +kernel
def ya:(∀c∈L (Tf " 0123578cn-+\n"),c<128)/\(Tf " 0123578cn-+\n").cps.toList.length=13:=by decide +kernel
def GN:(Tf "net cell 0 1 2 3 4 5 6 7 8 00 9 -1").length<=1000000:=by decide +kernel
def GK:(Tf " 0123578cn-+\n").length<=SZ:=by decide +kernel
def Cv{T:Tz}(o:bh T)(M:T.length<=1000000)(i:Int)(h0:0<=i):∃j,bV pg Φ ⟨2,7,aG.qR⟩ [.str T,.int i]=.ok (.str j)/\bh j/\j.length<=4*T.length+40:=by
 have s:=nj M;have p:=xX T;have t:=lR (y:=(Tf " ")) o;obtain⟨q,qs,r⟩:=j5 T (Tf " ");have N:0<(Txt.split T (Tf " ")).length:=by rw[r];simp
 clear r;generalize Txt.split T (Tf " ")=ws at s p t N;have Q:0<(((ws.map D.str).length:Nat):Int):=by rw[Tj];lia
 have U:0<((T.length:Nat):Int)+1:=by lia
 have k:T.length<=SZ:=by rw[cy];lia
 have u:=nj GN;rw[Ly]at u;obtain⟨kz,V,z⟩:=wM (Tf " 0123578cn-+\n").cps.toList (i:=i / 7%13) (fl _ ∅).1 (by rw[ya.2];exact(fl _ ∅).2);obtain⟨a2,X,C⟩:=wM ((Tf "net"::nh).map D.str) (i:=i / 7%14) (fl _ ∅).1 (fl _ ∅).2;obtain⟨g,a0,rfl⟩:=OV.mp X;obtain⟨v,a1⟩:=H7 g a0;have f:∀lo hi,aa (cut ws lo hi)<=T.length+1:=λlo hi=>p▸HD ws lo hi
 have ac:∀lo hi,∀w∈cut ws lo hi,bh w:=λlo hi w hw=>t w (Hj hw)
 have h:∀lo hi,(Txt.slice T lo hi).length<=T.length:=λlo hi=>Txt.slice_le T lo hi
 have as:∀lo hi,bh (Txt.slice T lo hi):=λlo hi=>BI o lo hi
 generalize G:i / 8%(((ws.map D.str).length:Nat):Int)=d;generalize H:i / 8%(((T.length:Nat):Int)+1)=e;simp![aG.qR,hJ,gU,kT,s,gZ i 8 ∅ ∅,gZ i 7 ∅ ∅,d0 _ 8 ∅,d0 _ _ Q,len_str,if_pos k,d0 _ _ U,G,H];cases k0:(i%8==0)
 .by_cases k1:i%8<3
  .have x1:(⟨#[kz]⟩:Tz).length=1:=rfl;have e1:(Txt.slice T Y (Z e)).length+(⟨#[kz]⟩:Tz).length<=SZ:=(by have:=h Y (Z e);rw[cy,x1];lia);have e2:(Txt.slice T Y (Z e)++⟨#[kz]⟩).length+(Txt.slice T (Z (e+i%8-1)) Y).length<=SZ:=by
    have:=h Y (Z e);have:=h (Z (e+i%8-1)) Y;rw[PI,cy,x1];lia
   refine⟨Txt.slice T Y (Z e)++⟨#[kz]⟩++Txt.slice T (Z (e+i%8-1)) Y,?_,lP (lP (as _ _) λc K=>?_) (as _ _),?_⟩
   .simp![decide_eq_true k1,gZ i 7 ∅ ∅,d0 _ 13 ∅,w0,if_pos GK,z,pF,if_pos k,add_str,if_pos e1,if_pos e2]
   .have:c=kz:=(by simpa[L] using K);rw[this];exact ya.1 kz V
   .have:=h Y (Z e);have:=h (Z (e+i%8-1)) Y;rw[PI,PI,x1];lia
  .cases k3:(i%8==3)
   .cases m:(i%8==4)
    .cases k5:(i%8==5)
     .have e0:=iz (a:=cut ws Y (Z d)) (b:=[g]) (by rw[dC,jU];have:=f Y (Z d);show _+(_+1+0)<=_;rw[cy];lia);have e1:=iz (a:=cut ws Y (Z d)++[g]) (b:=cut ws (Z (d+1)) Y) (by rw[dC,dC,jU];have:=f Y (Z d);have:=f (Z (d+1)) Y;show _+(_+1+0)+_<=_;rw[cy];lia);have l:aa (cut ws Y (Z d)++[g]++cut ws (Z (d+1)) Y)<=2*T.length+7:=(by rw[dC,dC,jU];have:=f Y (Z d);have:=f (Z (d+1)) Y;show _+(_+1+0)+_<=_;lia);refine⟨T8 (Tf " ") (cut ws Y (Z d)++[g]++cut ws (Z (d+1)) Y),?_,kv lQ λw hw=>?_,?_⟩
      .simp![decide_eq_false k1,k3,m,k5,hJ,gU,kT,u,gZ i 7 ∅ ∅,d0 _ 14 ∅,jL,C,lq,oe];have x:dq .add (.lst ((cut ws Y (Z d)).map .str)) (.lst [.str g])=_:=e0;simp![x,e1,o2,oK (by rw[cy];lia:aa (cut ws Y (Z d)++[g]++cut ws (Z (d+1)) Y)<=SZ)]
      .rcases Oz.mp hw with hw|hw
       .rcases Oz.mp hw with hw|hw
        .exact ac _ _ w hw
        .rw[Ou.mp hw];exact v
       .exact ac _ _ w hw
      .have:=len_join_le (cut ws Y (Z d)++[g]++cut ws (Z (d+1)) Y);lia
     .have n:=f Y (Z d);have m2:=f (Z (d+1)) (Z (d+2));have m3:=f (Z d) (Z (d+1));have m4:=f (Z (d+2)) Y;have e0:=iz (a:=cut ws (Z (d+1)) (Z (d+2))) (b:=cut ws (Z d) (Z (d+1))) (by rw[dC,cy];lia);have e1:=iz (a:=cut ws Y (Z d)) (b:=cut ws (Z (d+1)) (Z (d+2))++cut ws (Z d) (Z (d+1))) (by rw[dC,dC,cy];lia);have e2:=iz (a:=cut ws Y (Z d)++(cut ws (Z (d+1)) (Z (d+2))++cut ws (Z d) (Z (d+1)))) (b:=cut ws (Z (d+2)) Y) (by rw[dC,dC,dC,cy];lia);have l:aa (cut ws Y (Z d)++(cut ws (Z (d+1)) (Z (d+2))++cut ws (Z d) (Z (d+1)))++cut ws (Z (d+2)) Y)<=4*T.length+4:=(by rw[dC,dC,dC];lia);refine⟨_,?_,kv lQ (ws:=cut ws Y (Z d)++(cut ws (Z (d+1)) (Z (d+2))++cut ws (Z d) (Z (d+1)))++cut ws (Z (d+2)) Y) λw hw=>?_,?_⟩
      .simp![decide_eq_false k1,k3,m,k5,hJ,gU,lq,oe,e0,e1,e2,o2,oK (by rw[cy];lia:aa (cut ws Y (Z d)++(cut ws (Z (d+1)) (Z (d+2))++cut ws (Z d) (Z (d+1)))++cut ws (Z (d+2)) Y)<=SZ)]
      .simp only[Oz]at hw;rcases hw with(hw|hw|hw)|hw<;>exact ac _ _ w hw
      .have:=len_join_le (cut ws Y (Z d)++(cut ws (Z (d+1)) (Z (d+2))++cut ws (Z d) (Z (d+1)))++cut ws (Z (d+2)) Y);lia
    .have n:=f Y (Z d);have m2:=f (Z d) (Z (d+1));have m3:=f (Z d) Y;have e0:=iz (a:=cut ws Y (Z d)) (b:=cut ws (Z d) (Z (d+1))) (by rw[dC,cy];lia);have e1:=iz (a:=cut ws Y (Z d)++cut ws (Z d) (Z (d+1))) (b:=cut ws (Z d) Y) (by rw[dC,dC,cy];lia);have l:aa (cut ws Y (Z d)++cut ws (Z d) (Z (d+1))++cut ws (Z d) Y)<=3*T.length+3:=(by rw[dC,dC];lia);refine⟨_,?_,kv lQ (ws:=cut ws Y (Z d)++cut ws (Z d) (Z (d+1))++cut ws (Z d) Y) λw hw=>?_,?_⟩
     .simp![decide_eq_false k1,k3,m,hJ,gU,lq,oe,e0,e1,o2,oK (by rw[cy];lia:aa (cut ws Y (Z d)++cut ws (Z d) (Z (d+1))++cut ws (Z d) Y)<=SZ)]
     .simp only[Oz]at hw;rcases hw with(hw|hw)|hw<;>exact ac _ _ w hw
     .have:=len_join_le (cut ws Y (Z d)++cut ws (Z d) (Z (d+1))++cut ws (Z d) Y);lia
   .have n:=f Y (Z d);have m2:=f (Z (d+1)) Y;have e0:=iz (a:=cut ws Y (Z d)) (b:=cut ws (Z (d+1)) Y) (by rw[dC,cy];lia);have l:aa (cut ws Y (Z d)++cut ws (Z (d+1)) Y)<=2*T.length+2:=(by rw[dC];lia);refine⟨_,?_,kv lQ (ws:=cut ws Y (Z d)++cut ws (Z (d+1)) Y) λw hw=>?_,?_⟩
    .simp![decide_eq_false k1,k3,hJ,gU,lq,oe,e0,o2,oK (by rw[cy];lia:aa (cut ws Y (Z d)++cut ws (Z (d+1)) Y)<=SZ)]
    .simp only[Oz]at hw;rcases hw with hw|hw<;>exact ac _ _ w hw
    .have:=len_join_le (cut ws Y (Z d)++cut ws (Z (d+1)) Y);lia
 .have n:=h Y (Z e);have m2:=h (Z (e+1)) Y;have e1:(Txt.slice T Y (Z e)).length+(Txt.slice T (Z (e+1)) Y).length<=SZ:=(by rw[cy];lia);refine⟨_,?_,lP (as Y (Z e)) (as (Z (e+1)) Y),?_⟩
  .simp![pF,if_pos k,add_str,if_pos e1]
  .rw[PI];lia
end
end dn
end
section
namespace dn
open ζ aH dp fY
open PySem
section
variable{pg:ck}{Φ:c2}
abbrev bW(i:Int):Str:=Tf (toString i)
abbrev gl(a:Tz)(ws:List Tz):Str:=ws.foldl (λa w=>a++(Tf " ")++w) a
def E5(a:Tz):gl a []=a:=rfl
def kJ(a w:Tz)(ws:List Tz):gl a (w::ws)=gl (a++(Tf " ")++w) ws:=rfl
def si(a:Tz)(b ws:List Tz):gl a (b++ws)=gl (gl a b) ws:=Xv
theorem ox:∀(ws:List Tz)(a:Tz),T8 (Tf " ") (a::ws)=gl a ws
 |[],a=>rfl
 |w::ws,a=>by rw[kJ,<- ox ws,Sx];rfl
theorem wN:∀(ws:List Tz)(a b:Tz),gl (a++b) ws=a++gl b ws
 |[],a,b=>rfl
 |w::ws,a,b=>by
  rw[kJ,kJ,<- wN ws];simp only[XN]
theorem mD{k:Nat}:∀(ws:List Tz)(a:Tz),(∀w∈ws,w.length<=k)->(gl a ws).length<=a.length+ws.length*(k+1)
 |[],a,_=>by simp[E5]
 |w::ws,a,h=>by
  have b:=mD ws (a++(Tf " ")++w) λz hz=>h z (Tp _ hz)
  have h2:=h w To;rw[kJ];rw[Q2,Q2,ni]at b;simp only[Tt,SM];lia
def J2:((TB 10).all λk=>decide (L (bW (k:Int))=[48+k]))=true:=by decide +kernel
def hY{i:Int}(h0:0<=i)(h:i<=9):L (bW i)=[48+i.toNat]:=by
 have:=Oi.mp J2 i.toNat (OF.mpr ⋯);have e2:((i.toNat:Nat):Int)=i:=by lia
 rw[e2]at this;exact PX this
def lb{i:Int}(h0:0<=i)(h:i<=9):bh (bW i)/\(bW i).length<=4/\h9 i=.ok (.str (bW i)):=by
 have e:=hY h0 h;refine⟨λc a=>?_,?_,by unfold h9;rw[if_pos ⋯];rfl⟩
 .rw[e]at a;rw[Ou.mp a];lia
 .rw[<- fb,e];simp
def wT(t:List Int):List Str:=Tf "cell"::t.map bW
def ux(m:Int)(ts:List (List Int)):List Str:=bW m::ts.flatMap wT
def txt(m:Int)(ts:List (List Int)):Str:=gl (Tf "net") (ux m ts)
def Nl{m:Int}{t:List Int}(a:m<=9)(h:IsCell m t):∀w∈wT t,bh w/\w.length<=4/\32∉L w:=λw hw=>by
 rcases N3.mp hw with rfl|hw
 .exact⟨by unfold bh;decide +kernel,by decide +kernel,by decide +kernel⟩
 .obtain⟨i,hi,rfl⟩:=OV.mp hw;have:=h.2.1 i hi;have g:=lb (i:=i) ⋯ ⋯;refine⟨g.1,g.2.1,?_⟩;rw[hY ⋯ ⋯];simp;lia
def ot{m:Int}{ts:List (List Int)}(a:m<=9)(h:∀t∈ts,IsCell m t):∀w∈ts.flatMap wT,bh w/\w.length<=4/\32∉L w:=λw hw=>by
 obtain⟨t,b,hw⟩:=List.mem_flatMap.mp hw;exact Nl a (h t b) w hw
def wh{m:Int}{ts:List (List Int)}(b:m<=9)(h:∀t∈ts,IsCell m t):(ts.flatMap wT).length<=ts.length*10:=by
 refine r4 λt a=>?_
 have:=kB (h t a);unfold wT;rw[Tt,Tj];lia
def Cu:Tf " cell"=(Tf " ")++Tf "cell":=by decide +kernel
def HN:Tf "net "=(Tf "net")++(Tf " "):=by decide +kernel
def jW:bh (Tf "net")/\((Tf "net")).length=3/\32∉L (Tf "net")/\99∉L (Tf "net"):=by unfold bh;decide +kernel
def ue{m:Int}{ts:List (List Int)}(h0:0<=m)(a:m<=9)(h:∀t∈ts,IsCell m t):bh (txt m ts):=by
 unfold txt;rw[<- ox];refine kv lQ λw hw=>?_
 rcases N3.mp hw with rfl|hw
 .exact jW.1
 .rcases N3.mp hw with rfl|hw
  .exact(lb h0 a).1
  .exact(ot a h w hw).1
def Aq{m:Int}{ts:List (List Int)}(h0:0<=m)(b:m<=9)(h:∀t∈ts,IsCell m t):(txt m ts).length<=8+ts.length*50:=by
 have a:=mD (k:=4) (ux m ts) (Tf "net") λw hw=>by
  rcases N3.mp hw with rfl|hw
  .exact(lb h0 b).2.1
  .exact(ot b h w hw).2.1
 have h3:=wh b h;rw[jW.2.1]at a;unfold txt;unfold ux at a ⊢;simp only[Tt]at a;lia
def tS{m:Int}{ts:List (List Int)}(h0:0<=m)(a:m<=9)(h:∀t∈ts,IsCell m t):Txt.split (txt m ts) (Tf " ")=(Tf "net")::bW m::ts.flatMap wT:=by
 unfold txt;rw[<- ox];refine pI λw hw=>?_
 rcases N3.mp hw with rfl|hw
 .exact jW.2.2.1
 .rcases N3.mp hw with rfl|hw
  .rw[hY h0 a];simp;lia
  .exact(ot a h w hw).2.2
def GI{m:Int}{ts:List (List Int)}(h0:0<=m)(j:m<=9)(h:∀t∈ts,IsCell m t)(aw:ts.length<=255):bV pg Φ ⟨1,3,aG.q2⟩ [aP m ts]=.ok (.str (txt m ts)):=by
 have Q:dR (aP m ts) (.int 0)=.ok (.int m):=rfl;have T:dR (aP m ts) (.int 1)=.ok (.tup (ts.map af)):=rfl;obtain⟨a9,m2,m3⟩:=lb h0 j;have l4:(Tf "net ").length=4:=by decide +kernel
 have l5:(Tf " cell").length=5:=by decide +kernel
 have l1:(Tf " ").length=1:=by decide +kernel
 have a1:(Tf "net ").length+(bW m).length<=SZ:=by rw[l4,cy];lia
 simp![aG.q2,Q,T,m3,add_str,if_pos a1];have e0:Tf "net "++bW m=gl (Tf "net") [bW m]:=by rw[HN];rfl
 rw[e0];have u:∀a:List (List Int),(∀t∈a,IsCell m t)->a.length<=255->(gl (gl (Tf "net") [bW m]) (a.flatMap wT)).length<=13000:=λa s au=>by
  have r:=mD (k:=4) (a.flatMap wT) (gl (Tf "net") [bW m]) λw hw=>(ot j s w hw).2.1
  have h2:=mD (k:=4) [bW m] (Tf "net") λw hw=>by simp at hw;subst hw;exact m2
  have h3:=wh j s;have h4:(Tf "net").length=3:=(by decide +kernel);rw[h4]at h2;simp only[TS]at h2;lia
 obtain⟨bc,e,x,y,H⟩:=iL (f:=af) (g:=turn pg Φ 0 [2] {.asg 1 (.bin .add 1e0 (.lit (.str (Tf " cell")))),.fo 0 [3] (.seq 2e0) {.asg 1 (.bin .add (.bin .add 1e0 (.lit (.str (Tf " ")))) (.prim .str 3e0))}})
  (λp d=>∃(x y:Option D),d=[Z (aP m ts),Z (.str (gl (gl (Tf "net") [bW m]) (p.flatMap wT))),x,y])
  ts [Z (aP m ts),Z (.str (gl (Tf "net") [bW m])),Y,Y] ⟨Y,Y,rfl⟩ (λpre t post d l ⟨x,y,C⟩=>by
   subst C;have o:IsCell m t:=h t (by rw[l];simp);have ay:pre.length+1<=ts.length:=(by rw[l];simp);have M:∀t∈pre,IsCell m t:=λt N=>h t (by rw[l];simp[N])
   have r:=u pre M ⋯;generalize z:gl (gl (Tf "net") [bW m]) (pre.flatMap wT)=F at r ⊢;have a2:F.length+(Tf " cell").length<=SZ:=(by rw[l5,cy];lia);have e1:F++Tf " cell"=gl F [Tf "cell"]:=(by rw[Cu,<- PySem.Str.append_assoc];rfl);have U:cf (af t)=.ok (t.map .int):=rfl;simp![add_str,if_pos a2,U];rw[e1];obtain⟨a7,e2,X,K⟩:=iL (f:=D.int) (g:=turn pg Φ 0 [3] {.asg 1 (.bin .add (.bin .add 1e0 (.lit (.str (Tf " ")))) (.prim .str 3e0))})
    (λp d=>∃(x:Option D),d=[Z (aP m ts),Z (.str (gl F (Tf "cell"::p.map bW))),Z (af t),x])
    t [Z (aP m ts),Z (.str (gl F [Tf "cell"])),Z (af t),y] ⟨y,rfl⟩ (λb c a6 d n ⟨x,G⟩=>by
     subst G;have aq:=o.2.1 c (by rw[n];simp);obtain⟨a0,a5,v⟩:=lb (i:=c) ⋯ ⋯;have aF:b.length+1<=t.length:=(by rw[n];simp);have b2:=kB o;have b1:=mD (k:=4) (Tf "cell"::b.map bW) F λw hw=>by
      rcases N3.mp hw with rfl|hw
      .decide +kernel
      .obtain⟨i,hi,rfl⟩:=OV.mp hw;have hi:=o.2.1 i (by rw[n];simp[hi]);exact(lb (i:=i) ⋯ ⋯).2.1
     rw[Tt,Tj]at b1;have q:gl F (Tf "cell"::b.map bW)++Tf " "++bW c=gl F (Tf "cell"::(b++[c]).map bW):=by
      rw[Uk,<- UT,si];rfl
     generalize gl F (Tf "cell"::b.map bW)=V at b1 q;have a3:V.length+(Tf " ").length<=SZ:=(by rw[l1,cy];lia);have a4:(V++Tf " ").length+(bW c).length<=SZ:=(by rw[Q2,l1,cy];lia);refine⟨_,by simp![add_str,if_pos a3,v,if_pos a4];rfl,Z (.int c),by rw[q]⟩)
   rw[e2,K];refine⟨_,by simp!;rfl,Z (af t),X,?_⟩;rw[WT,si,z];simp[wT])
 rw[e,H];simp!;rfl
def bd(c:List Int):Str:=T8 (Tf " ") (c.map bW)
abbrev sj(a:Tz)(b:List Tz):Str:=b.foldl (λa p=>a++(Tf " cell ")++p) a
theorem wO:∀(ws:List Tz)(a:Tz),T8 (Tf " cell ") (a::ws)=sj a ws
 |[],a=>rfl
 |w::ws,a=>by
  show _=sj (a++(Tf " cell ")++w) ws;rw[<- wO ws,Sx];rfl
def CB:(Tf " cell ")=(Tf " ")++Tf "cell"++(Tf " "):=by decide +kernel
def E6(a:Tz){c:List Int}(h:c≠[]):gl a (wT c)=a++(Tf " cell ")++bd c:=by
 cases c with
 |nil=>exact absurd rfl h
 |cons x c =>
  unfold wT bd;rw[Tr,ox,kJ,kJ,wN,CB];simp only[XN]
theorem Ap:∀(ts:List (List Int))(a:Tz),(∀c∈ts,c≠[])->gl a (ts.flatMap wT)=sj a (ts.map bd)
 |[],a,_=>rfl
 |c::ts,a,h=>by
  rw[Rh,si,Ap ts _ λt b=>h t (Tp _ b),E6 a (h c To)];rfl
def hd(m:Int):Str:=T8 (Tf " ") [(Tf "net"),bW m]
def Ar(m:Int){ts:List (List Int)}(h:∀c∈ts,c≠[]):txt m ts=T8 (Tf " cell ") (hd m::ts.map bd):=by
 rw[wO,<- Ap ts (hd m) h];rfl
abbrev cS(k:Nat)(w:Tz):Option Int:=match L w with
 |[c]=>if 48<=c/\c<=k then Z ((c-48:Nat):Int) else Y
 |_=>Y
def mb{i:Int}{k:Nat}(h0:0<=i)(h:i<=9)(a:i+48<=k):cS k (bW i)=Z i:=by
 unfold cS;rw[hY h0 h];show(if _ then _ else _)=_;rw[if_pos ⟨⋯,⋯⟩];congr 1;lia
set_option tactic.hygienic true in
theorem ma {w:Tz} {i:Int} {k:Nat} (b:k<=57) (h:cS k w=Z i):w=bW i/\0<=i/\i+48<=k:=by
 unfold cS at h
 split at h
 .rename_i c e
  split at h
  .rename_i a;injection h with h;subst h;refine⟨qo ?_,⋯,⋯⟩;rw[e,hY ⋯ ⋯];congr 1;lia
  .cases h
 .cases h
set_option tactic.hygienic true in
theorem rJ {w:Tz} {i:Int} {k:Nat} (b:k<=57) (h:cS k w=Z i):intOf (.str w)=.ok (.int i):=by
 unfold cS at h
 split at h
 .rename_i c e
  split at h
  .rename_i a;injection h with h;have e:w.cps.toList=[c]:=e;simp only[intOf,e];rw[if_pos ⟨a.1,⋯⟩,h]
  .cases h
 .cases h
abbrev oh:List Str:=[Tf "0",Tf "1",Tf "2",Tf "3",Tf "4",Tf "5",Tf "6",Tf "7",Tf "8"]
def Ds:oh=(TB 9).map λ(k:Nat)=>bW (k:Int):=by decide +kernel
def Hk(w:Tz):decide (w∈oh)=(cS 56 w).isSome:=by
 rw[QE,QC,Ds,OV];constructor
 .rintro⟨k,a,rfl⟩;have:=OF.mp a;rw[mb ⋯ ⋯ ⋯];rfl
 .intro h;obtain⟨i,hi⟩:=QU.mp h;obtain⟨e,h0,b⟩:=ma ∅ hi;exact⟨i.toNat,OF.mpr ⋯,by rw[e];congr 1;lia⟩
def ng{x:Tz}(n:Nat)(h:bh x):bg n (.str x)=true:=by
 have:x.cps.all (· < 0x110000)=true:=by
  rw[<- XO,Oi];intro c a;have:=h c a;exact decide_eq_true ⋯
 cases n<;>exact this
def Le(n:Nat){ws:List Tz}(h:∀w∈ws,bh w):(ws.map D.str).all (bg n)=true:=by
 rw[Ue,Oi];exact λw hw=>ng n (h w hw)
def rU(x y:Tz):ek (.str x) (.str y)=decide (x=y):=by
 show(x==y)=_;rw[QE,OJ,QC]
def mh{x y:Tz}(h:bh x)(h':bh y):c5 (.str x) (.str y)=.ok (decide (x=y)):=by rw[vV (ng _ h) (ng _ h'),rU]
def Hh(x:Tz)(ws:List Tz):memD (.str x) (ws.map .str)=decide (x∈ws):=by
 unfold memD;rw[V3,QE,XK,QC];constructor
 .rintro⟨w,hw,h⟩;rw[RO,rU,QC]at h;exact h▸hw
 .intro h;exact⟨x,h,by rw[RO,rU];exact decide_eq_true rfl⟩
def Dr:∀w∈oh,bh w:=by unfold bh;decide +kernel
def ha{α:Type}(g:α->D):Option α->R D
 |some a=>.ok (g a)
 |none=>.exc 1
def HY{g:Nat}(a:pg.cs[g]?=Z (.kt (oh.map .str))){w:Tz}(hw:bh w):bV pg Φ ⟨1,0,aG.q6 g 1⟩ [.str w]=ha .int (cS 56 w):=by
 simp![aG.q6,om g a,CN,Hi (ng 60 hw) (Le 60 Dr),Hh,Hk];cases q:cS 56 w with
 |none=>rfl
 |some i=>simp![W6,pk,rJ ∅ q];rfl
def oN{β:Type}(g:β->D):Option (List β)->R (List D)
 |some bs=>.ok (bs.map g)
 |none=>.exc 1
def eQ{α β:Type}(f:α->Option β):List α->Option (List β)
 |[]=>Z []
 |a::as=>match f a,eQ f as with
  |some b,Z bs=>Z (b::bs)
  |_,_=>Y
theorem rD{α β:Type}{f:α->Option β}{g:β->D}{h:α->D}{F:D->R (Option D)}:∀{as:List α},(∀a∈as,F (h a)=(ha g (f a)>>=λy=>.ok (Z y)))->bf F (as.map h)=oN g (eQ f as)
 |[],_=>rfl
 |a::as,H=>by
  have c:=H a To;have h2:=rD (as:=as) λb d=>H b (Tp _ d)
  simp only[Tr,bf,c,h2,eQ];cases f a with
  |none=>rfl
  |some b =>
   simp only[ha,R.hb];cases eQ f as<;>rfl
set_option tactic.hygienic true in
theorem pU {α β:Type} {f:α->Option β} {g:β->α} (h:∀a b,f a=Z b->a=g b):∀{as:List α}{bs:List β},eQ f as=Z bs->as=bs.map g
 |[],bs,e=>by cases e;rfl
 |a::as,bs,e=>by
  unfold eQ at e
  split at e
  .rename_i b c e1 e2;cases e;rw[Tr,<- h a b e1,<- pU h e2]
  .cases e
theorem ua{α β:Type}{f:α->Option β}{g:β->α}:∀{bs:List β},(∀b∈bs,f (g b)=Z b)->eQ f (bs.map g)=Z bs
 |[],_=>rfl
 |b::bs,h=>by
  rw[Tr];unfold eQ;rw[h b To,ua λz hz=>h z (Tp _ hz)]
def nums(p:Tz):Option (List Int):=eQ (cS 56) (Txt.split p (Tf " "))
def H0{f:Nat}(a:∀w,bh w->Φ f [.str w]=ha .int (cS 56 w)){p:Tz}(c:bh p)(b:p.length<=1000000):bV pg Φ ⟨1,0,aG.q7 f⟩ [.str p]=ha af (nums p):=by
 have e1:bf (elem pg Φ [Z (.str p)] (.call f {1e0}) 0 .none) ((Txt.split p (Tf " ")).map .str)=oN .int (eQ (cS 56) (Txt.split p (Tf " "))):=rD λw hw=>by
  simp![a w (lR c w hw)]
 simp![aG.q7,hJ,gU,kT,nj b,e1];unfold nums;cases eQ (cS 56) (Txt.split p (Tf " "))<;>rfl
theorem yl{y:Tz}:∀{ws:List Tz}{w:Tz},w∈ws->w.length<=(T8 y ws).length
 |[q],w,hw=>by rw[Ou.mp hw];exact N2 _
 |q::p::ws,w,hw=>by
  show _<=(q++y++T8 y (p::ws)).length;rw[PI,PI];rcases N3.mp hw with rfl|hw
  .omega
  .have:=yl (y:=y) hw;lia
def split_len{T y w:Tz}(h:w∈Txt.split T y):w.length<=T.length:=by
 have:=yl (y:=y) h;rwa[P9]at this
def m1(c:Tz):Option Int:=match Txt.split c (Tf " ") with
 |[a,b]=>if a=(Tf "net") then cS 56 b else Y
 |_=>Y
def i3(T:Tz):Option (Int×List (List Int)):=match Txt.split T (Tf " cell ") with
 |[]=>Y
 |Iu::a=>match m1 Iu,eQ nums a with
  |some m,Z ts=>Z (m,ts)
  |_,_=>Y
def eH(T:Tz):R D:=match i3 T with
 |some (m,ts)=>if b8 (aP m ts) then .ok (aP m ts) else .exc 1
 |none=>.exc 1
def Lz{T:Tz}(h:T.length<=1000000):hl T (Tf " cell ")=.ok (.lst ((Txt.split T (Tf " cell ")).map .str)):=by
 have:((Tf " cell "):Tz).length≠0:=by decide +kernel
 unfold hl;rw[if_pos ⟨this,by rw[cy];lia⟩]
def JR{o n i:Nat}(v:∀(m:Int)(ts:List (List Int)),m<=8->Φ o [aP m ts]=.ok (.ag (b8 (aP m ts))))(C:∀p,bh p->p.length<=1000000->Φ i [.str p]=ha af (nums p))(u:∀w,bh w->Φ n [.str w]=ha .int (cS 56 w)){T:Tz}(s:bh T)(q:T.length<=1000000):
  bV pg Φ ⟨1,3,aG.q8 o i n 1⟩ [.str T]=eH T:=by
 have t0:gc pg.up (.str T) .str=.ok true:=rfl;have j:=lR (y:=(Tf " cell ")) s;have l:∀p∈Txt.split T (Tf " cell "),p.length<=1000000:=λp h=>Ol (split_len h) q
 simp![aG.q8,t0,hJ,gU,kT,Lz q];unfold eH i3;obtain⟨d,f,e⟩:=j5 T (Tf " cell ");rw[e]at j l ⊢;have G:dR (.lst ((d::f).map .str)) (.int 0)=.ok (.str d):=by rw[Tr,jL,se]
 have k:=lR (y:=(Tf " ")) (j d To);simp![G,gU,kT,nj (l d To)];unfold m1;obtain⟨a,r,e2⟩:=j5 d (Tf " ");rw[e2]at k ⊢;cases r with
 |nil=>rfl
 |cons b r =>
  cases r with
  |cons c r =>
   have h0:((((a::b::c::r).map D.str).length:Int)==2)=false:=by
    rw[PJ,Tj];simp only[Tt];lia
   simp![h0]
  |nil =>
   have h0:((([a,b].map D.str).length:Int)==2)=true:=rfl;have H:dR (.lst ([a,b].map .str)) (.int 0)=.ok (.str a):=rfl;have K:dR (.lst ([a,b].map .str)) (.int 1)=.ok (.str b):=rfl;simp![h0,H,mh (k a (by simp)) jW.1]
   by_cases g:a=(Tf "net")
   .simp![decide_eq_true g,K,u b (k b (by simp)),if_pos g];cases t:cS 56 b with
    |none=>rfl
    |some m =>
     have M:=(ma ∅ t).2;have z:cut ((d::f).map D.str) (Z 1) Y=f.map .str:=vD _;have e3:∀x,bf (elem pg Φ [Z (.str T),Z (.lst ((d::f).map .str)),x,Y] (.call i {4e0}) 0 .none) (f.map .str)=oN af (eQ nums f):=λx=>rD λp h=>by
      simp![C p (j p (Tp _ h)) (l p (Tp _ h))]
     simp![ha,z,e3];cases eQ nums f with
     |none=>rfl
     |some ts =>
      have e4:=v m ts ⋯;unfold aP at e4 ⊢;have e5:oN af (Z ts)=.ok (ts.map af):=rfl;simp![e5,e4];cases b8 (.tup [.int m,.tup (ts.map af)])<;>simp!
   .simp![decide_eq_false g,if_neg g]
set_option tactic.hygienic true in
theorem JQ {T:Tz} {m:Int} {ts:List (List Int)} (h:i3 T=Z (m,ts)):T=txt m ts:=by
 have l:=P9 T (Tf " cell ");unfold i3 at h;obtain⟨n,j,e⟩:=j5 T (Tf " cell ");rw[e]at h l;dsimp only at h
 split at h
 .rename_i cc o f h2;injection h with h;injection h with s k;subst s k;have u:n=hd cc:=by
   unfold m1 at f
   split at f
   .rename_i a b e1
    split at f
    .rename_i r;have:=P9 n (Tf " ");rw[e1,r,(ma ∅ f).1]at this;exact this.symm
    .cases f
   .cases f
  have k:∀p c,nums p=Z c->p=bd c:=λp c d=>by
   have:=P9 p (Tf " ");rw[pU (g:=bW) (λw i hw=>(ma ∅ hw).1) d]at this;exact this.symm
  have v:∀c∈o,c≠[]:=λc d t=>by
   have z:∀(j:List Tz)(ts:List (List Int)),eQ nums j=Z ts->∀c∈ts,∃p,nums p=Z c:=by
    intro j
    induction j with
    |nil=>intro ts h c d;cases h;cases d
    |cons p j y =>
     intro ts h c d;unfold eQ at h
     split at h
     .rename_i b bs e1 e2;cases h;rcases N3.mp d with rfl|d
      .exact⟨p,e1⟩
      .exact y bs e2 c d
     .cases h
   obtain⟨p,x⟩:=z j o h2 c d;have h3:=pU (g:=bW) (λw i hw=>(ma ∅ hw).1) x;obtain⟨q,qs,e5⟩:=j5 p (Tf " ");rw[e5,t]at h3;cases h3
  rw[Ar cc v,<- l,u,pU (g:=bd) k h2]
 .cases h
theorem tb{y:Tz}{z:Nat}(a:z∉L y):∀{ws:List Tz},(∀w∈ws,z∉L w)->z∉L (T8 y ws)
 |[],_=>λh=>by cases h
 |[q],h=>h q (Ou.mpr rfl)
 |q::p::ws,h=>by
  show z∉L (q++y++T8 y (p::ws));rw[jq,jq];intro hz;rcases Oz.mp hz with hz|hz
  .rcases Oz.mp hz with hz|hz
   .exact h q To hz
   .exact a hz
  .exact tb a (λw hw=>h w (Tp _ hw)) hz
def zR:99∉L (Tf " "):=by decide +kernel
def ob:UE (Tf " cell ")=1/\1<=((Tf " cell "):Tz).length/\(L (Tf " cell "))[1]?=Z 99/\(L (Tf " cell "))[0]?≠Z 99:=by decide +kernel
def tA{m:Int}{ts:List (List Int)}(h0:0<=m)(k:m<=8)(h:∀t∈ts,IsCell m t):i3 (txt m ts)=Z (m,ts):=by
 have g:∀i:Int,0<=i->i<=9->99∉L (bW i)/\32∉L (bW i):=λi a b=>by
  rw[hY a b];simp;lia
 have e:Txt.split (txt m ts) (Tf " cell ")=hd m::ts.map bd:=by
  refine zS (o:=1) (z:=99) ob.1 ob.2.1 ob.2.2.1 (λi hi=>by rw[show i=0 by lia];exact ob.2.2.2) (λw hw=>?_) (Ar m λc f=>(h c f).1);rcases N3.mp hw with rfl|hw
  .refine tb zR λw hw=>?_
   rcases N3.mp hw with rfl|hw
   .exact jW.2.2.2
   .rw[Ou.mp hw];exact(g m h0 ⋯).1
  .obtain⟨c,f,rfl⟩:=OV.mp hw;refine tb zR λw hw=>?_
   obtain⟨i,hi,rfl⟩:=OV.mp hw;have:=(h c f).2.1 i hi;exact(g i ⋯ ⋯).1
 unfold i3;rw[e];dsimp only;have e1:m1 (hd m)=Z m:=by
  unfold m1 hd;rw[pI (q:=(Tf "net")) (qs:=[bW m]) λw hw=>by
   rcases N3.mp hw with rfl|hw
   .exact jW.2.2.1
   .rw[Ou.mp hw];exact(g m h0 ⋯).2]
  dsimp only;rw[if_pos rfl,mb h0 ⋯ ⋯]
 have e2:eQ nums (ts.map bd)=Z ts:=ua λc f=>by
  have j:=h c f;have hi:∀i∈c,0<=i/\i<=8:=λi hi=>by have:=j.2.1 i hi;lia
  unfold nums bd;cases c with
  |nil=>exact absurd rfl j.1
  |cons x c =>
   rw[Tr,pI (q:=bW x) (qs:=c.map bW) (λw hw=>by
    rw[<- Tr]at hw;obtain⟨i,d,rfl⟩:=OV.mp hw;exact(g i (hi i d).1 (by have:=(hi i d).2;lia)).2),<- Tr]
   exact ua λi d=>mb (hi i d).1 (by have:=(hi i d).2;lia) (by have:=(hi i d).2;lia)
 rw[e1,e2]
def yV(T:Tz):(∃m ts,b8 (aP m ts)=J/\T=txt m ts/\eH T=.ok (aP m ts))\/((∀m ts,b8 (aP m ts)=J->T≠txt m ts)/\eH T=.exc 1):=by
 have g:∀m ts,b8 (aP m ts)=J->T=txt m ts->i3 T=Z (m,ts):=λm ts h e=>by
  obtain⟨d,f,b,k,i,j,_⟩:=(w9 _).mp h;have e1:d=m/\f=ts:=by
   unfold aP at b;injection b with b;injection b with c a;injection c with c;injection a with a;injection a with a;have:=O7 (λl=>l.map nC) a;simp only[ug]at this;exact⟨c.symm,this.symm⟩
  obtain⟨rfl,rfl⟩:=e1;rw[e];exact tA ⋯ i j
 unfold eH;cases q:i3 T with
 |none =>
  refine .inr ⟨λm ts h e=>?_,rfl⟩;rw[g m ts h e]at q;cases q
 |some mt =>
  obtain⟨m,ts⟩:=mt;dsimp only;cases p:b8 (aP m ts)
  .refine .inr ⟨λd f h e=>?_,rfl⟩;rw[g d f h e]at q;cases q;rw[p]at h;cases h
  .exact .inl ⟨m,ts,p,JQ q,rfl⟩
end
end dn
end
section
namespace dn
open ζ aH dp fY
open PySem
section
variable{pg:ck}{Φ:c2}
abbrev iX:Option Int->D
 |some i=>.int i
 |none=>.az
def MI:L (Tf "0123456789")=XZ 48 10:=by decide +kernel
def EH(c:Nat):decide (Txt.find (Tf "0123456789") ⟨#[c]⟩<0)=!decide (48<=c/\c<=57):=by
 have a:(!(Uz (Tf "0123456789") ⟨#[c]⟩ 0 ((Tf "0123456789"):Tz).length 1).isEmpty)=J<->(48<=c/\c<=57):=by
  rw[StrLaws.found_iff];have b:(∃i,i+(⟨#[c]⟩:Tz).length<=((Tf "0123456789"):Tz).length/\Builtin.Str.subAt (Tf "0123456789") ⟨#[c]⟩ i=J)<->c∈L (Tf "0123456789"):=by
   constructor
   .rintro⟨i,hi⟩;exact O2 ((Xw (Tf "0123456789") c i).mp hi)
   .intro h;obtain⟨i,hi⟩:=List.getElem?_of_mem h;exact⟨i,(Xw (Tf "0123456789") c i).mpr hi⟩
  rw[b,MI,List.mem_range'_1];exact⟨λh=>⟨h.1,Po h.2⟩,λh=>⟨h.1,So h.2⟩⟩
 unfold Txt.find;cases q:Uz (Tf "0123456789") ⟨#[c]⟩ 0 ((Tf "0123456789"):Tz).length 1 with
 |nil =>
  rw[q]at a;have h2:¬(48<=c/\c<=57):=λh=>by have:=a.mpr h;cases this
  rw[decide_eq_false h2];rfl
 |cons i r =>
  rw[q]at a;have h2:=a.mp rfl;rw[decide_eq_true h2];exact decide_eq_false (by show ¬((i:Int)<0);lia)
set_option tactic.hygienic true in
theorem HX {w:Tz} (hw:bh w) (g:w.length<=SZ):bV pg Φ ⟨2,0,aG.qZ⟩ [.str w,.int 1]=.ok (iX (cS 57 w)):=by
 have f:=fb w;simp![aG.qZ,len_str,if_pos g]
 by_cases h:w.length=1
 .have b:decide ((1:Int)<=((w.length:Nat):Int))=true:=decide_eq_true ⋯;have d:decide (((w.length:Nat):Int)<=1)=true:=decide_eq_true ⋯;obtain⟨c,a⟩:∃c,L w=[c]:=V9.mp ⋯;have e1:pA (.str w)=.ok [.str ⟨#[c]⟩]:=by
   have i:w.cps.all (· < 128)=true:=by
    rw[<- XO,Oi];exact λc a=>decide_eq_true (hw c a)
   show(if (w.cps.all (· < 128)&&decide (w.length<=SZ))=J then R.ok ((L w).map λc=>D.str ⟨#[c]⟩) else R.bad)=_;rw[i,decide_eq_true g];show R.ok ((L w).map _)=_;rw[a];rfl
  simp![b,d,DW,e1,bf,hJ,gU,Hm,EH];have e3:cS 57 w=if 48<=c/\c<=57 then Z ((c-48:Nat):Int) else none:=by
   unfold cS;rw[a]
  by_cases q:48<=c/\c<=57
  .rw[if_pos q]at e3;have e4:c5 (.lst []) (.lst [])=.ok true:=rfl;simp![decide_eq_true q,e4,pk,rJ ∅ e3];rw[e3];rfl
  .rw[if_neg q]at e3;have e4:c5 (.lst [.str ⟨#[c]⟩]) (.lst [])=.ok false:=by
    rw[jD]
    .rfl
    .have:bh ⟨#[c]⟩:=λx j=>hw x (by rw[a];exact j)
     simp only[Ua,List.all_nil,ng 59 this,Su]
   simp![decide_eq_false q,e4];rw[e3];rfl
 .have e3:cS 57 w=none:=by
   unfold cS
   split
   .rename_i c e;rw[e]at f;exact absurd f.symm h
   .rfl
  rw[e3]
  by_cases h2:w.length=0
  .have b:decide ((1:Int)<=((w.length:Nat):Int))=false:=decide_eq_false ⋯;simp![b];rfl
  .have b:decide ((1:Int)<=((w.length:Nat):Int))=true:=decide_eq_true ⋯;have d:decide (((w.length:Nat):Int)<=1)=false:=decide_eq_false ⋯;simp![b,d];rfl
def dl:List Tz->List (List Int)->Option (List (List Int))
 |[],ts=>Z ts
 |w::ws,ts=>if w=(Tf "cell") then dl ws (ts++[[]]) else match ts.getLast?,cS 57 w with
  |some l,Z i=>dl ws (ts.dropLast++[l++[i]])
  |_,_=>Y
def vm:bh (Tf "cell"):=by unfold bh;decide +kernel
theorem rS{h:Nat}{a b z:Option D}(j:∀w,bh w->w.length<=SZ->Φ h [.str w,.int 1]=.ok (iX (cS 57 w))):∀(ws:List Tz)(ts:List (List Int))(x:Option D),(∀w∈ws,bh w/\w.length<=SZ)->ts.length+ws.length<=1000001->ts.flatten.length+ws.length<=1000001 ->
  (∃e g,dl ws ts=Z e/\e.flatten.length<=ts.flatten.length+ws.length/\forL (turn pg Φ 0 [3] {.iff (.cmp .eq 3e0 (.lit (.str (Tf "cell")))) {.app 2 (.tup .nil)} {.iff (.or (.cmp .eq 2e0 (.lst .nil)) (.cmp .is (.call h {3e0,1e1}) (.lit .az))) {.ret (.lit .az)} {.h6 2 (.neg 1e1) (.bin .add (.idx 2e0 (.neg 1e1)) (.tup {.prim .int 3e0}))}}}) (ws.map .str) [a,b,Z (.lst (ts.map af)),x,z]=.ok (.aS [a,b,Z (.lst (e.map af)),g,z])) \/
  (dl ws ts=Y/\forL (turn pg Φ 0 [3] {.iff (.cmp .eq 3e0 (.lit (.str (Tf "cell")))) {.app 2 (.tup .nil)} {.iff (.or (.cmp .eq 2e0 (.lst .nil)) (.cmp .is (.call h {3e0,1e1}) (.lit .az))) {.ret (.lit .az)} {.h6 2 (.neg 1e1) (.bin .add (.idx 2e0 (.neg 1e1)) (.tup {.prim .int 3e0}))}}}) (ws.map .str) [a,b,Z (.lst (ts.map af)),x,z]=.ok (.bt .az))
 |[],ts,x,_,_,_=>.inl ⟨ts,x,rfl,by simp,rfl⟩
 |w::ws,ts,x,hw,o,h2=>by
  obtain⟨m,H⟩:=hw w To;have r:=λv u=>hw v (Tp _ u)
  simp only[Tt]at o h2;simp only[Tr,forL]
  by_cases f:w=(Tf "cell")
  .have a1:(ts.map af).length<SZ:=(by rw[Tj,cy];lia);have e1:ts.map af++[.tup []]=(ts++[[]]).map af:=(by simp[af]);have e2:dl (w::ws) ts=dl ws (ts++[[]]):=(by rw[dl,if_pos f]);have d:=rS (a:=a) (b:=b) (z:=z) j ws (ts++[[]]) (Z (.str w)) r (by simp;lia) (by rw[show(ts++[([]:List Int)]).flatten.length=ts.flatten.length from by simp];lia);simp![mh m vm,decide_eq_true f,lO,if_pos a1,e1,e2];have e3:(ts++[[]]).flatten.length=ts.flatten.length:=(by simp);rw[e3]at d;rcases d with⟨e,g,k,K,y⟩|d
   .exact .inl ⟨e,g,k,⋯,y⟩
   .exact .inr d
  .simp![mh m vm,decide_eq_false f,jD (nf 58 ts)];rcases Rn ts with rfl|⟨c,l,n⟩
   .refine .inr ⟨by rw[dl,if_neg f];rfl,?_⟩;rfl
   .rw[Ro]at n;subst n;have t:((c++[l]).map af).isEmpty=false:=(by simp);simp![t,j w m H,lZ];cases q:cS 57 w with
    |none =>
     refine .inr ⟨by rw[dl,if_neg f,q];simp,?_⟩;have:iQ (iX Y)=true:=rfl;simp![this]
    |some i =>
     have e0:iQ (iX (Z i))=false:=rfl;have p:eo ((c++[l]).map af).length (-1)=Z c.length:=by
      unfold eo;rw[if_neg ∅,if_pos (by simp;lia)];simp;lia
     have k:dR (.lst ((c++[l]).map af)) (.int (-1))=.ok (af l):=by
      rw[jL];unfold c7;rw[p];simp
     have s:(l.map D.int).length+[D.int i].length<=SZ:=by
      simp only[QT,Ud,VT,Pz,N7]at h2;rw[Tj,cy];simp only[Tt,TQ];lia
     have e1:dq .add (af l) (.tup [.int i])=.ok (af (l++[i])):=by
      unfold af;rw[qy,if_pos s];simp
     have e2:ζ.putAt ((c++[l]).map af) (-1) (af (l++[i]))=.ok (.lst ((c++[l++[i]]).map af)):=by
      unfold ζ.putAt;rw[p];simp
     have e3:dl (w::ws) (c++[l])=dl ws (c++[l++[i]]):=by
      rw[dl,if_neg f,q];simp
     have d:=rS (a:=a) (b:=b) (z:=z) j ws (c++[l++[i]]) (Z (.str w)) r (by simp at o ⊢;lia) (by simp at h2 ⊢;lia);simp![e0,Et,k,pk,rJ ∅ q,e1,Ld,e2,e3];have e4:(c++[l++[i]]).flatten.length=(c++[l]).flatten.length+1:=(by simp;lia);rw[e4]at d;rcases d with⟨e,g,C,M,G⟩|d
     .exact .inl ⟨e,g,C,⋯,G⟩
     .exact .inr d
theorem vN:∀(t l:List Int)(a:List (List Int))(ws:List Tz),(∀i∈t,0<=i/\i<=9)->dl (t.map bW++ws) (a++[l])=dl ws (a++[l++t])
 |[],l,a,ws,_=>by simp
 |i::t,l,a,ws,h=>by
  have hi:=h i To;have b:bW i≠(Tf "cell"):=λe=>by
   have e1:=O7 (λs=>(L s).length) e;simp only[hY hi.1 hi.2]at e1;have:(L (Tf "cell")).length=4:=(by decide +kernel);rw[this]at e1;cases e1
  rw[Tr,UT,dl,if_neg b,mb hi.1 hi.2 ⋯];simp only[List.getLast?_concat,List.dropLast_concat];rw[vN t _ a ws λj c=>h j (Tp _ c)];simp
theorem vO:∀(ts a:List (List Int)),(∀t∈ts,∀i∈t,0<=i/\i<=9)->dl (ts.flatMap wT) a=Z (a++ts)
 |[],a,_=>by simp[dl]
 |t::ts,a,h=>by
  have e1:dl ((t::ts).flatMap wT) a=dl (t.map bW++ts.flatMap wT) (a++[[]]):=by
   rw[Rh];unfold wT;rw[UT,dl,if_pos rfl]
  rw[e1,vN t [] a _ (h t To),vO ts _ λu b=>h u (Tp _ b)];simp
def oi(T b:Tz)(ts:List (List Int)):D:=match cS 57 b with
 |some m=>if b8 (aP m ts)=J/\txt m ts=T then aP m ts else .az
 |none=>.az
def gX(T:Tz):D:=match Txt.split T (Tf " ") with
 |a::b::ws=>if a=(Tf "net") then(match dl ws [] with|some ts=>oi T b ts|none=>.az) else .az
 |_=>.az
def jV{m:Int}{ts:List (List Int)}(h:b8 (aP m ts)=J):1<=m/\m<=8/\(∀c∈ts,IsCell m c)/\ts.length<=255:=by
 obtain⟨k,b,d,i,f,g,j,_⟩:=(w9 _).mp h;have e1:k=m/\b=ts:=by
  unfold aP at d;injection d with d;injection d with e a;injection e with e;injection a with a;injection a with a;have:=O7 (λl=>l.map nC) a;simp only[ug]at this;exact⟨e.symm,this.symm⟩
 obtain⟨rfl,rfl⟩:=e1;refine⟨i,f,g,?_⟩;have h2:=r1 f g;have h3:b.length<=(br b).length:=by
  conv=>lhs;rw[j]
  unfold dG;have:=QK (λc=>!((bo aH.lexLt (br b)).filter λo=>decide (c.length<o.length)).any (lies c)) (bo aH.lexLt (br b));rw[mE]at this;exact this
 lia
def Dy{n j l:Nat}(s:∀w,bh w->w.length<=SZ->Φ l [.str w,.int 1]=.ok (iX (cS 57 w)))(H:∀(m:Int)(ts:List (List Int)),ts.flatten.length<=1000000->Φ j [aP m ts]=.ok (.ag (b8 (aP m ts))))(v:∀t,Φ j [.tup [.az,t]]=.ok (.ag Th))(hw:∀(m:Int)(ts:List (List Int)),b8 (aP m ts)=J->Φ n [aP m ts]=.ok (.str (txt m ts))){T:Tz}(o:bh T)(C:T.length<=1000000):bV pg Φ ⟨1,4,aG.qT n j l⟩ [.str T]=.ok (gX T):=by
 have d:=lR (y:=(Tf " ")) o;have k:∀p∈Txt.split T (Tf " "),p.length<=SZ:=λp K=>by have:=split_len K;rw[cy];lia
 have G:=xX T;have g:=xW (Txt.split T (Tf " "));simp![aG.qT,hJ,gU,kT,nj C];unfold gX;obtain⟨a,r,e⟩:=j5 T (Tf " ");rw[e]at d k G g ⊢;cases r with
 |nil=>rfl
 |cons b ws =>
  have M:dR (.lst ((a::b::ws).map .str)) (.int 0)=.ok (.str a):=(by rw[Tr,jL,se]);have N:dR (.lst ((a::b::ws).map .str)) (.int 1)=.ok (.str b):=(by rw[jL];have:=mj ((a::b::ws).map D.str) 1;rw[show(1:Int)=((1:Nat):Int) from rfl,this];rfl);have l2:decide ((((a::b::ws).map D.str).length:Int)<2)=false:=decide_eq_false (by simp only[Tj,Tt];lia);have u:cut ((a::b::ws).map D.str) (Z 2) Y=ws.map .str:=rF _ 2;simp![l2,M,mh (d a To) jW.1]
  by_cases f:a=(Tf "net")
  .simp![decide_eq_true f,u,if_pos f];rcases rS (pg:=pg) (Φ:=Φ) (a:=Z (.str T)) (b:=Z (.lst ((a::b::ws).map .str))) (z:=Y) s ws [] Y (λw hw=>⟨d w (by simp[hw]),k w (by simp[hw])⟩) (by simp only[Tt,TQ]at g ⊢;lia) (by simp only[Tt,TQ,VT]at g ⊢;lia) with⟨ts,X,e1,e2,e3⟩|⟨e1,e3⟩
   .rw[Qv]at e3;rw[e1];simp![e3,N,s b (d b (by simp)) (k b (by simp))];unfold oi;have x:ts.flatten.length<=1000000:=(by simp only[Tt,TQ,VT]at g e2;lia);cases q:cS 57 b with
    |none =>
     have:=v (.tup (ts.map af));simp![iX,this]
    |some m =>
     have e4:=H m ts x;unfold aP at e4;simp![iX,e4];cases p:b8 (aP m ts)
     .have c:=p;unfold aP at c;simp![c,false_and]
     .have c:=p;have e5:=hw m ts p;unfold aP at c e5;obtain⟨U,V,Q,_⟩:=jV p;simp![c,e5,mh (ue ⋯ ⋯ Q) o]
      by_cases i:txt m ts=T
      .simp![decide_eq_true i,i,and_self];rfl
      .rw[if_neg λh=>i h.2];simp![decide_eq_false i]
   .rw[Qv]at e3;rw[e1];simp![e3]
  .simp![decide_eq_false f,if_neg f]
set_option tactic.hygienic true in
theorem vQ (T:Tz):(∃m ts,b8 (aP m ts)=J/\T=txt m ts/\gX T=aP m ts)\/((∀m ts,b8 (aP m ts)=J->T≠txt m ts)/\gX T=.az):=by
 by_cases h:∃m ts,b8 (aP m ts)=J/\T=txt m ts
 .obtain⟨m,ts,a,h2⟩:=h;refine .inl ⟨m,ts,a,h2,?_⟩;obtain⟨e,f,c,_⟩:=jV a;have e1:Txt.split T (Tf " ")=(Tf "net")::bW m::ts.flatMap wT:=(by rw[h2];exact tS ⋯ ⋯ c);have e2:dl (ts.flatMap wT) []=Z ts:=by
   rw[vO ts [] λt d i hi=>by have:=(c t d).2.1 i hi;lia];rfl
  unfold gX;rw[e1];dsimp only;rw[if_pos rfl,e2];unfold oi;rw[mb ⋯ ⋯ ⋯];dsimp only;rw[if_pos ⟨a,h2.symm⟩]
 .refine .inr ⟨λm ts a h2=>h ⟨m,ts,a,h2⟩,?_⟩;unfold gX
  split
  .split
   .split
    .unfold oi
     split
     .split
      .rename_i b;exact absurd ⟨_,_,b.1,b.2.symm⟩ h
      .rfl
     .rfl
    .rfl
   .rfl
  .rfl
def EN{a k:Nat}{c:List Nat}{k5:Nat}(e:fQ pg 1 k ⟨2,3,4,c,k5,1000⟩=.ok (.bt .az)){T:Tz}{d:D}(b:Φ a [.str T]=eH T)(hd:(∃m ts,eH T=.ok (aP m ts)/\d=aP m ts)\/(eH T=.exc 1/\d=.az)):
  hH (cY pg Φ (start ⟨1,4,.nil⟩ [.str T]) (.cons (.jc (.asg 1 (.call a {0e0})) k ⟨2,3,4,c,k5,1000⟩) {.ret (.idx (.lst {1e0,.tup .nil}) (.prim .int (.cmp .is 1e0 (.lit .az))))}))=.ok d:=by
 have e0:start ⟨1,4,.nil⟩ [.str T]=[Z (.str T),Y,Y,Y,Y]:=rfl;rw[e0];rcases hd with⟨m,ts,e1,rfl⟩|⟨e1,rfl⟩
 .have e2:iQ (aP m ts)=false:=rfl;have e3:intOf (.ag Th)=.ok (.int 0):=rfl;have e4:dR (.lst [aP m ts,.tup []]) (.int 0)=.ok (aP m ts):=rfl;simp![b,e1,lZ,e2,pk,e3,e4]
 .simp![b,e1,e]
def DQ(m:Int)(ts:List (List Int)):c5 (aP m ts) (aP m ts)=.ok true:=by
 have a:bg 60 (aP m ts)=true:=by
  show([.int m,.tup (ts.map af)]:List D).all (bg 59)=J;have:bg 59 (.tup (ts.map af))=true:=nf 57 ts;simp only[Ua,List.all_nil,ll,this,Su]
 rw[vV a a];have h2:=rV ts ts;rw[decide_eq_true rfl]at h2;show R.ok ((m==m)&&(gY (ts.map af) (ts.map af)&&J))=_;rw[h2];simp
end
end dn
end
section
namespace dn
open ζ aH dp fY
open PySem
section
variable{pg:ck}{Φ:c2}
def x2:IsCell 9 (aL 9):=by
 refine⟨∅,λx a=>g9.mp a,?_⟩;unfold c1;decide +kernel
def HO:eH (txt 9 [aL 9])=.exc 1:=by
 rcases yV (txt 9 [aL 9]) with⟨m,ts,a,h2,_⟩|h
 .exfalso;obtain⟨d,e,c,_⟩:=jV a;have e1:=tS (m:=9) (ts:=[aL 9]) ∅ ∅ λt b=>by rw[Ou.mp b];exact x2
  have e2:=tS (m:=m) (ts:=ts) ⋯ ⋯ c;rw[h2,e2]at e1;injection e1 with _ e1;injection e1 with e1 _;have e3:=O7 L e1;rw[hY ⋯ ⋯,hY ∅ ∅]at e3;injection e3 with e3 _;lia
 .exact h.2
def Gz{b2 aw ay U V X C au:Nat}{o:List Int}(d6:∀i:Int,0<=i->∃m ts,Φ au [.int i,.int 8]=.ok (aP m ts)/\Net m ts/\ts.length<=70)(bc:∀k:Nat,∃r:Int,0<=r/\r<iv/\Φ C [.lst (o.map .int),.int (k:Int)]=.ok (.int r))(df:∀i k:Int,∃r:Int,0<=r/\r<iv/\Φ V [.int i,.int k]=.ok (.int r))(a7:∀(m:Int)(ts:List (List Int)),0<=m->m<=9->(∀t∈ts,IsCell m t)->ts.length<=255->Φ X [aP m ts]=.ok (.str (txt m ts)))(de:∀(T:Tz)(i:Int),bh T->T.length<=1000000->0<=i->∃s,Φ U [.str T,.int i]=.ok (.str s)/\bh s/\s.length<=4*T.length+40)(a4:∀(T:Tz)(d:D),bh T->T.length<=1000000->((∃m ts,eH T=.ok (aP m ts)/\d=aP m ts)\/(eH T=.exc 1/\d=.az))->Φ ay [.str T]=.ok d)(a6:∀T:Tz,bh T->T.length<=1000000->Φ aw [.str T]=.ok (gX T))(dY:∀(m:Int)(ts:List (List Int)),ts.flatten.length<=1000000->Φ b2 [aP m ts]=.ok (.ag (b8 (aP m ts)))):
  bV pg Φ ⟨1,5,aG.qP b2 aw ay U V X C au⟩ [.lst (o.map .int)]=.ok (.ag J):=by
 obtain⟨bl,a0,g3,K⟩:=bc 0;obtain⟨r,a1,b1,M⟩:=bc 1;have K:Φ C [.lst (o.map .int),.int 0]=.ok (.int bl):=K;have M:Φ C [.lst (o.map .int),.int 1]=.ok (.int r):=M;obtain⟨m,ts,e1,w,iM⟩:=d6 bl a0;have l0:=w.lo;have iN:=w.hi;have e2:=a7 m ts ⋯ ⋯ w.cell ⋯;simp![aG.qP,K,M,e1,e2,gZ r 6 ∅ ∅,d0 _ 9 ∅];cases q:(r / 6%9==5)
 .have bm:=fl r (b:=3) ∅;have kI:=fl (r / 3) (b:=2) ∅;have dc:(-dJ<r%3/\r%3<dJ)\/(-dJ<1+r / 3%2/\1+r / 3%2<dJ):=.inl ⟨by unfold dJ;lia,by unfold dJ;lia⟩;have a2:0<=r%3*(1+r / 3%2)/\r%3*(1+r / 3%2)<=4:=by
   have:r / 3%2=0\/r / 3%2=1:=⋯;rcases this with h|h<;>rw[h]<;>lia
  simp![gZ r 3 ∅ ∅,d0 _ 3 ∅,d0 _ 2 ∅,mul_int,if_pos dc];generalize r%3*(1+r / 3%2)=c at a2;rw[hk ∅ ∅ ⋯ ⋯];simp![hh];have dP:(aL c).length<=4:=(by unfold aL;simp;lia);obtain⟨jJ,e,T,x,dy,a,l⟩:=iL (f:=D.int) (g:=turn pg Φ 0 [4] {.asg 2 (.call U {2e0,.call V {3e0,4e0}})})
   (λiK bO=>∃(T:Tz)(x:Option D),bO=[Z (.lst (o.map .int)),Z (aP m ts),Z (.str T),Z (.int r),x,Y]/\bh T/\T.length+14<=4 ^ iK.length*3650)
   (aL c) [Z (.lst (o.map .int)),Z (aP m ts),Z (.str (txt m ts)),Z (.int r),Y,Y] ⟨txt m ts,Y,rfl,ue ⋯ ⋯ w.cell,by have:=Aq (m:=m) (ts:=ts) ⋯ ⋯ w.cell;simp only[TQ,Nat.pow_zero];lia⟩ (λpre k post bO e0 ⟨T,x,cN,a,l⟩=>by
    subst cN;obtain⟨v,f7,_,fp⟩:=df r k;have e5:pre.length<=3:=by
     have:=O7 Vm e0;simp only[N7,Tt]at this;lia
    have a5:4 ^ pre.length<=4 ^ 3:=Qg ∅ e5;have cH:(4:Nat) ^ 3=64:=rfl;rw[cH]at a5;obtain⟨s,fR,f6,jI⟩:=de T v a ⋯ f7;refine⟨_,by simp![fp,fR],s,Z (.int k),rfl,f6,?_⟩;rw[N7,TS,Xi];lia)
  rw[e,dy];have a5:4 ^ (aL c).length<=4 ^ 4:=Qg ∅ dP;have cw:(4:Nat) ^ 4=256:=rfl;rw[cw]at a5;have l:T.length<=1000000:=⋯;rcases yV T with⟨p,jd,n,H,eX⟩|⟨n,H⟩
  .have Q:=a4 T (aP p jd) a l (.inl ⟨p,jd,eX,rfl⟩);have N:gX T=aP p jd:=by
    rcases vQ T with⟨m2,cu,y,z,ba⟩|⟨y,_⟩
    .obtain⟨f0,bj,aq,_⟩:=jV n;obtain⟨k1,eY,fk,_⟩:=jV y;have a9:=tA ⋯ bj aq;have G:=tA ⋯ eY fk;rw[<- H]at a9;rw[<- z,a9]at G;injection G with G;injection G with cL cM;rw[ba,cL,cM]
    .exact absurd H (y p jd n)
   obtain⟨f0,bj,aq,iO⟩:=jV n;have dz:jd.flatten.length<=1000000:=by
    have:=wu (k:=8) (ts:=jd) λc a2=>by have:=kB (aq c a2);lia
    lia
   have b0:=dY p jd dz;have u:iQ (aP p jd)=false:=rfl;simp![Q,a6 T a l,N,DQ,lZ,u,b0,n]
  .have Q:=a4 T .az a l (.inr ⟨H,rfl⟩);have N:gX T=.az:=by
    rcases vQ T with⟨m2,cu,y,z,ba⟩|⟨_,z⟩
    .exact absurd z (n m2 cu y)
    .exact z
   have u:iQ .az=true:=rfl;have cv:c5 .az .az=.ok true:=rfl;simp![Q,a6 T a l,N,cv,lZ,u]
 .have a3:∀t∈[aL 9],IsCell 9 t:=λt fB=>by rw[Ou.mp fB];exact x2
  have e3:=a7 9 [aL 9] ∅ ∅ a3 ∅;have f8:=Aq (m:=9) (ts:=[aL 9]) ∅ ∅ a3;simp only[TS]at f8;have e4:=a4 (txt 9 [aL 9]) .az (ue ∅ ∅ a3) ⋯ (.inr ⟨HO,rfl⟩);have u:iQ .az=true:=rfl;unfold aP at e3;have e3:Φ X [.tup [.int 9,.tup [.tup ((aL 9).map .int)]]]=_:=e3;simp![hk (i:=0) (j:=9) ∅ ∅ ∅ ∅,hh,e3,e4,lZ,u]
end
end dn
end
section
namespace P3
open ζ aH dp dn da
def cE{f:Nat}{a:hr}(h:fds[f]?=Z a)(n)(ds):run pg fds (n+1) f ds=bV pg (run pg fds n) a ds:=by rw[m7,h]
noncomputable abbrev b4(n:Nat):c2:=run pg fds n
def Ad(n)(d):b4 (n+1) 0 [d]=.ok (.ag (fq d)):=(cE (f:=0) rfl n _).trans (FF d)
def Mt(n)(d):b4 (n+2) 1 [d]=.ok (.ag (jN d)):=(cE (f:=1) rfl _ _).trans (FC (Ad n) rfl d)
def MC(n)(c:List Int):b4 (n+1) 2 [af c]=.ok (.ag (fi ltI c)):=(cE (f:=2) rfl _ _).trans (FE xI c)
def Mj(n)(c:List Int)(m:Int):b4 (n+2) 3 [af c,.int m]=.ok (.ag (dt m (af c))):=(cE (f:=3) rfl _ _).trans (FA (Ad n) (MC n) (af c) (λxs h=>by cases h) m)
def Mk(n)(cs:List (List Int))(m:Int):b4 (n+3) 4 [.tup (cs.map af),.int m]=.ok (.ag (hC m (.tup (cs.map af)))):=(cE (f:=4) rfl _ _).trans (Bj (Mj n) cs m)
def Aa(n)(c o):b4 (n+1) 5 [af c,af o]=.ok (.ag (lies c o)):=(cE (f:=5) rfl _ _).trans (GW c o)
def My(n)(c)(a:List (List Int)):b4 (n+2) 6 [af c,.tup (a.map af)]=.ok (.ag (a.any (lies c))):=(cE (f:=6) rfl _ _).trans (xC (Aa n) c rfl)
def Mz(n)(c)(a:List (List Int)):b4 (n+2) 6 [af c,.lst (a.map af)]=.ok (.ag (a.any (lies c))):=(cE (f:=6) rfl _ _).trans (xC (Aa n) c rfl)
def MG(n)(ts)(a:∀c∈ts,c≠[])(h:(br ts).length<=255):b4 (n+3) 7 [.tup (ts.map af)]=.ok (.tup ((dG ts).map af)):=(cE (f:=7) rfl _ _).trans (M8 (Mz n) rfl a h)
def Mu(n)(ts)(m:Int)(h0:0<=m)(a:m<=8):b4 (n+3) 8 [.tup (ts.map af),.int m]=.ok (.ag (dr m ts)):=(cE (f:=8) rfl _ _).trans (Hf (My n) ts h0 a)
def Mw(n)(m:Int)(ts)(a:m<=8):b4 (n+4) 9 [aP m ts]=.ok (.ag (b8 (aP m ts))):=(cE (f:=9) rfl _ _).trans (FD (Mt (n+1)) (Mk n) (MG n) (Mu n) m ts (r1 a))
def Ac(n)(w)(h:bh w):b4 (n+1) 10 [.str w]=ha .int (cS 56 w):=(cE (f:=10) rfl _ _).trans (HY rfl h)
def Mx(n)(p)(h:bh p)(a:p.length<=1000000):b4 (n+2) 11 [.str p]=ha af (nums p):=(cE (f:=11) rfl _ _).trans (H0 (Ac n) h a)
def MB(n)(T)(h:bh T)(a:T.length<=1000000):b4 (n+5) 12 [.str T]=eH T:=(cE (f:=12) rfl _ _).trans (JR (Mw n) (Mx (n+2)) (Ac (n+3)) h a)
def Mi(n)(a:List Int)(k:Nat):b4 (n+1) 13 [.lst (a.map .int),.int (k:Int)]=.ok (.int (a.getD k 0)):=(cE (f:=13) rfl _ _).trans (Ct a k)
def Mv(n)(c:List Int)(k:Nat):∃r:Int,0<=r/\r<iv/\b4 (n+2) 14 [.lst (c.map .int),.int (k:Int)]=.ok (.int r):=by
 obtain⟨r,a,b,e⟩:=Ht (pg:=pg) (Φ:=b4 (n+1)) (f:=13) (Mi n c) k;exact⟨r,a,b,(cE (f:=14) rfl _ _).trans e⟩
def z8(n)(i k:Int):∃r:Int,0<=r/\r<iv/\b4 (n+1) 15 [.int i,.int k]=.ok (.int r):=by
 obtain⟨r,a,b,e⟩:=Dv (pg:=pg) (Φ:=b4 n) i k;exact⟨r,a,b,(cE (f:=15) rfl _ _).trans e⟩
def Ab(n)(c o):b4 (n+1) 16 [af c,af o]=.ok (.ag (lies c o)):=(cE (f:=16) rfl _ _).trans (GF c o)
def ME(n)(cs:List (List Int))(a:∀c∈cs,c≠[])(h:(br cs).length<=255):b4 (n+2) 17 [.lst (cs.map af)]=.ok (.tup ((hQ cs).map af)):=(cE (f:=17) rfl _ _).trans (xn (Ab n) rfl a h)
def MF(n)(cs:List (List Int))(a:∀c∈cs,c≠[])(h:(br cs).length<=255):b4 (n+2) 17 [.tup (cs.map af)]=.ok (.tup ((hQ cs).map af)):=(cE (f:=17) rfl _ _).trans (xn (Ab n) rfl a h)
def MA(n)(s:Nat)(c:List Int)(b:s<=8)(a:c.length<=8):b4 (n+9) 18 [af c,.int (s:Int)]=.ok (.lst ((b3 s c).map af)):=yn (pg:=pg) (fds:=fds) (f:=18) rfl s (n+9) c ⋯ a
def MD(n)(i m:Int)(a:1<=m)(b:m<=8):∃cs:List (List Int),b4 (n+2) 19 [.int i,.int m]=.ok (.lst (cs.map af))/\(∀c∈cs,IsCell m c)/\dr m cs=J/\cs.length<=16:=by
 obtain⟨cs,e,r⟩:=Lr (pg:=pg) (Φ:=b4 (n+1)) (f:=15) (z8 n) i m a b;exact⟨cs,(cE (f:=19) rfl _ _).trans e,r⟩
def Mr(n)(i:Int)(h0:0<=i):∃m ts,b4 (n+10) 20 [.int i,.int 8]=.ok (aP m ts)/\Net m ts/\ts.length<=70:=by
 obtain⟨m,ts,e,r⟩:=HM (pg:=pg) (Φ:=b4 (n+9)) 8 ∅ ∅ (ME (n+7)) (MA n) (MD (n+7)) i h0;exact⟨m,ts,(cE (f:=20) rfl _ _).trans e,r⟩
def t9(n)(d)(lo hi:Int):b4 (n+1) 21 [d,.int lo,.int hi]=.ok (.ag (ec lo hi d)):=(cE (f:=21) rfl _ _).trans (HZ d lo hi)
def Mq(n)(c:List Int)(m:Int)(h:c.length<=1000000):b4 (n+2) 22 [af c,.int m]=.ok (.ag (dt m (af c))):=(cE (f:=22) rfl _ _).trans (GC (t9 n) (af c) (λxs h=>by cases h) m λxs e=>by
 unfold af at e;injection e with e;subst e;exact⟨by rw[Tj];exact h,pC 50 c⟩)
def z9(n)(m:Int)(ts)(h:ts.flatten.length<=1000000):b4 (n+3) 23 [aP m ts]=.ok (.ag (b8 (aP m ts))):=(cE (f:=23) rfl _ _).trans (GD (t9 (n+1)) (Mq n) (MF n) m ts h)
def Mo(n)(t:D):b4 (n+3) 23 [.tup [.az,t]]=.ok (.ag Th):=(cE (f:=23) rfl _ _).trans (GG (t9 (n+1)) t)
def Ae(n)(m:Int)(ts)(h0:0<=m)(a:m<=9)(h:∀t∈ts,IsCell m t)(b:ts.length<=255):b4 (n+1) 24 [aP m ts]=.ok (.str (txt m ts)):=(cE (f:=24) rfl _ _).trans (GI h0 a h b)
def Ml(n)(T:PySem.Str)(i:Int)(b:bh T)(c:T.length<=1000000)(h0:0<=i):∃a,b4 (n+1) 25 [.str T,.int i]=.ok (.str a)/\bh a/\a.length<=4*T.length+40:=by
 obtain⟨a,e,r⟩:=Cv (pg:=pg) (Φ:=b4 n) b c i h0;exact⟨a,(cE (f:=25) rfl _ _).trans e,r⟩
def Ms(n)(w:PySem.Str)(h:bh w)(a:w.length<=SZ):b4 (n+1) 26 [.str w,.int 1]=.ok (iX (cS 57 w)):=(cE (f:=26) rfl _ _).trans (HX h a)
def Mm(n)(T:PySem.Str)(h:bh T)(a:T.length<=1000000):b4 (n+4) 27 [.str T]=.ok (gX T):=(cE (f:=27) rfl _ _).trans (Dy (Ms (n+2)) (z9 n) (Mo n) (λm ts q=>by
 obtain⟨d,e,b,c⟩:=jV q;exact Ae (n+2) m ts ⋯ ⋯ b c) h a)
def mq:fQ pg 1 1 ⟨2,3,4,[2,3,4,5],0,1000⟩=.ok (.bt .az):=rfl
def Mn(n)(T:PySem.Str)(d:D)(h:bh T)(a:T.length<=1000000)(hd:(∃m ts,eH T=.ok (aP m ts)/\d=aP m ts)\/(eH T=.exc 1/\d=.az)):b4 (n+6) 28 [.str T]=.ok d:=(cE (f:=28) rfl _ _).trans (EN mq (MB n T h a) hd)
def Mp(a:List Int):run pg fds 21 29 [.lst (a.map .int)]=.ok (.ag J) :=
 (cE (f:=29) rfl _ _).trans (Gz (Φ:=b4 20) (Mr 10) (Mv 18 a) (z8 19) (Ae 19) (Ml 19) (Mn 14) (Mm 16) (z9 17))
end P3
end
section
namespace bb
open PySem
abbrev fr(l:List YA):List Addr:=l.filterMap (·.frame)
def lM(f:Nat->Option Tu)(c:Nat)(d T:Tu)(h:TU):Prop :=
 ∃C a b e ts,f c=Z C/\h.get? d=Z a/\a.cls=.ref C/\a.data=.fields b/\b[2]?=Z .none/\b[1]?=Z (.ref T)/\T≠d/\h.get? T=Z e/\e.data=.fields ts/\3<ts.size
def bC(f:Nat->Option Tu)(c:Nat)(e:Ti)(l:List Tu)(h:TU):Prop :=
 (∃a C b d,e=.ref a/\f c=Z C/\h.get? a=Z b/\b.cls=.ref C/\b.data=.fields d/\d[2]?=Z .none/\l=[a]/\d[1]?=Z .none)\/∃a T,e=.ref a/\l=[a,T]/\lM f c a T h
def bC.core(h:bC k c e l m):∃a C b d,e=.ref a/\k c=Z C/\m.get? a=Z b/\b.cls=.ref C/\b.data=.fields d/\d[2]?=Z .none/\a∈l:=by
 rcases h with⟨a,C,b,d,e,f,j,g,i,h2,rfl,n⟩|⟨a,T,e,rfl,C,b,d,o,ts,f,j,g,i,h2,_⟩
 .exact⟨a,C,b,d,e,f,j,g,i,h2,by simp⟩
 .exact⟨a,C,b,d,e,f,j,g,i,h2,by simp⟩
def MK{s:Tq}(d:s.heap.FunFrames base l)(c:s.heap.get? a=Z o)(b:o.data=.fields g):a∉fr l:=λe=>by
 obtain⟨_,h,q,f⟩:=d.mem e;rw[c]at q;cases q;exact f g b
def entry(p:A.frames=Z (env::outer))(h:s.heap.FunFrames base (env::outer))(n:env.frame=Z L)(g:s.heap.get? b7=Z te)(e:te.data=.fields v)(hz:1<v.size)(k:∀h' T j ts,h'.get? b7=Z (te.mapFields (·.setIfInBounds 1 (.ref T)))->T≠b7->s.heap.get? T=Y->h'.get? T=Z j->j.data=.fields ts->3<ts.size ->
   (∀b o,s.heap.get? b=Z o->b≠b7->b∉fr (env::outer)->h'.get? b=Z o)->(∀b o,s.heap.get? b=Z o->b≠b7->∃f,h'.get? b=Z { o with slots:=f })->Q () { s with heap:=h' }):
  Ts M A (do let a <- frameOf env;let l <- entryPlaceOf L z;let b <- WW y a .none (UX L) .none l;Yp (.ref b7) 1 b) Q E s:=by
 refine NZ (wpAny_frameOf_fun p h n λc ⟨w,m,x⟩=>NZ (wpAny_entryPlaceOf λl t=>?_));unfold WW newFields;have e1:c.get? b7=Z te:=(m b7 (MK h g e)).trans g;have i:c.objs.size≠b7:=QN (N5 e1);refine NZ (OC (Pq (N1 _ e1) e hz (k _ c.objs.size _ _ (OD _ (N1 _ e1) (Qb (Pr e _))) i ?_ ((Oy _ _ i.symm).trans (N6 c rfl)) rfl ?_ (λb o q d r=>?_) λb o q d=>?_)) (t.sizeOk5 _ _ _ _ _))
 .cases q:s.heap.get? c.objs.size with
  |none=>rfl
  |some o=>exact absurd (N5 q) (by rw[w];exact Pt _)
 .simp
 .rw[Oy _ _ (Pj d)];exact N1 _ ((m b r).trans q)
 .obtain⟨f,u⟩:=x b o q;exact⟨f,by rw[Oy _ _ (Pj d)];exact N1 _ u⟩
def x8(a0:A.frames=Z (env::outer))(R:s.heap.FunFrames base (env::outer))(O:env.frame=Z L)(aq:bC U c e l s.heap)(k:∀h' b7 T,e=.ref b7->lM U c b7 T h'->b7∈l->(T∈l\/s.heap.get? T=Y)->(∀b o,s.heap.get? b=Z o->b∉l->b∉fr (env::outer)->h'.get? b=Z o) ->
   (∀b o,s.heap.get? b=Z o->b∈fr (env::outer)->∃S,h'.get? b=Z { o with slots:=S })->Q () { s with heap:=h' }):
  Ts M A (Vg e env) Q E s:=by
 have V:∀b7 C i d,e=.ref b7->U c=Z C->s.heap.get? b7=Z i->i.cls=.ref C->i.data=.fields d->d[2]?=Z .none->∀{h0 g:TU}{T:Tu}{t:UK}{ts:Array Ti},(∀b o,s.heap.get? b=Z o->b∉l->h0.get? b=Z o)->b7∈l->g.get? b7=Z (i.mapFields (·.setIfInBounds 1 (.ref T)))->T≠b7->s.heap.get? T=Y->g.get? T=Z t->t.data=.fields ts->3<ts.size ->
   (∀b o,h0.get? b=Z o->b≠b7->b∉fr (env::outer)->g.get? b=Z o)->(∀b o,h0.get? b=Z o->b≠b7->∃S,g.get? b=Z { o with slots:=S })->(∀b,b∈l->∀o,s.heap.get? b=Z o->∃ws,o.data=.fields ws)->Q () { s with heap:=g }:=by
  intro b7 C i d a4 n h p f h2 h0 g T t ts k0 N v w x y B D G H ay;have hz:1<d.size:=O3 ∅ (OB.mp h2).1;have au:∀b o,s.heap.get? b=Z o->b∈fr (env::outer)->b∉l:=λb o q a I=>by
   obtain⟨_,b2,a2,u⟩:=R.mem a;rw[q]at a2;cases a2;obtain⟨ws,hw⟩:=ay b I o q;exact u ws hw
  refine k _ b7 T a4 ⟨C,_,_,t,ts,n,v,(Sn _ _).trans p,Pr f _,?_,?_,w,y,B,D⟩ N (.inr x) (λb o q a u=>?_) λb o q a=>?_
  .rw[Array.getElem?_setIfInBounds_ne ∅];exact h2
  .simp[hz]
  .exact G b o (k0 b o q a) (λz=>a (by rw[z];exact N)) u
  .have I:=au b o q a;exact H b o (k0 b o q I) λz=>I (by rw[z];exact N)
 unfold Vg;simp only[O];rcases aq with⟨b7,C,i,d,rfl,n,h,p,f,h2,rfl,g⟩|⟨b7,T,rfl,rfl,C,i,d,t,ts,n,h,p,f,h2,g,X,m,r,h3⟩
 .have hz:1<d.size:=O3 ∅ (OB.mp h2).1;refine NZ (OQ h f g ?_);rw[if_neg ∅];refine entry a0 R O h f hz λh' j aw b1 v w x y B D G H=>V b7 C i d rfl n h p f h2 (h0:=s.heap) (λb o q _=>q) (by simp) v w x y B D G H λb a o q=>?_
  obtain rfl:b=b7:=⇑a;rw[h]at q;cases q;exact⟨d,f⟩
 .have hz:1<d.size:=O3 ∅ (OB.mp h2).1;refine NZ (OQ h f g ?_);rw[if_pos (show(TA T != Value.none)=J from by simp)];refine NZ (OQ m r (N9 h3) ?_)
  by_cases a1:(ts[3]==UX L)=J
  .rw[if_pos a1];refine Tg (k s.heap b7 T rfl ⟨C,i,d,t,ts,n,h,p,f,h2,g,X,m,r,h3⟩ (by simp) (.inl (by simp)) (λb o q _ _=>q) λb o q _=>⟨o.slots,q⟩)
  rw[if_neg a1];refine NZ (Pq m r h3 ?_);have K:∀b,b≠T->(s.heap.update T (T9 (·.setIfInBounds 3 Value.none))).get? b=s.heap.get? b:=λb a=>Oy _ _ (Pj a)
  have aF:∀b,b∈[b7,T]->∀o,s.heap.get? b=Z o->∃ws,o.data=.fields ws:=λb a o q=>by
   rcases N3.mp a with rfl|a
   .rw[h]at q;cases q;exact⟨d,f⟩
   .obtain rfl:b=T:=⇑a;rw[m]at q;cases q;exact⟨ts,r⟩
  have a5:(s.heap.update T (T9 (·.setIfInBounds 3 Value.none))).FunFrames base (env::outer):=R.of_keeps λb o q u=>⟨o,(K b λz=>by rw[z,m]at q;cases q;exact u ts r).trans q,rfl⟩
  have a3:∀j,(s.heap.update T (T9 (·.setIfInBounds 3 Value.none))).get? j=Y->s.heap.get? j=none:=λj q=>by
   by_cases z:j=T
   .subst z;rw[OD _ m (Qb (Pr r _))]at q;cases q
   .rw[K j z]at q;exact q
  exact entry (s:={ s with heap:=s.heap.update T (T9 (·.setIfInBounds 3 Value.none)) }) a0 a5 O ((K b7 (Pj X)).trans h) f hz λh' j aw b1 v w x y B D G H =>
   V b7 C i d rfl n h p f h2 (h0:=s.heap.update T (T9 (·.setIfInBounds 3 Value.none))) (λb o q a=>(K b λz=>a (by simp[z])).trans q) (by simp) v w (a3 j x) y B D G H aF
def r5(q:lM m c a T s.heap)(k:∀h',lM m c a T h'->(∀b,b≠T->h'.get? b=s.heap.get? b)->Q () { s with heap:=h' }):Ts M A (WO (.ref a) f) Q E s:=by
 obtain⟨C,r,t,u,ts,o,j,p,i,h2,e,h,g,d,h3⟩:=q;unfold WO;refine NZ (OQ j i e ?_);rw[if_pos (show(TA T != Value.none)=J from by simp)];have l:∀(x:Ti) b,b≠T->(s.heap.update T (T9 (·.setIfInBounds 3 x))).get? b=s.heap.get? b:=λx b n=>Oy _ _ (Pj n)
 exact Pq g d h3 (k _ ⟨C,r,t,_,_,o,(l _ a (Pj h)).trans j,p,i,h2,e,h,OD _ g (Qb (Pr d _)),Pr d _,⇑h3⟩ (l _))
def HV(h:env.frame=DJ.frame):Vg e env=Vg e DJ:=by
 unfold Vg frameOf;rw[h]
def note(B:A.frames=Z (env::outer))(m:s.heap.FunFrames base (env::outer))(y:env.frame=Z L)(C:bC t c e l s.heap)(k:∀h' n,bC t c e n h'->(∀a∈n,a∈l\/s.heap.get? a=Y)->(∀b o,s.heap.get? b=Z o->b∉l->b∉fr (env::outer)->h'.get? b=Z o) ->
   (∀b o,s.heap.get? b=Z o->b∈fr (env::outer)->∃f,h'.get? b=Z { o with slots:=f })->Q () { s with heap:=h' }):
  Ts M A (Vg e env) (λ_ s2=>Ts M A (WO e Y) Q E s2) E s:=by
 refine x8 B m y C λh' i T u x v j H r=>?_
 subst u;have D:∀b o,s.heap.get? b=Z o->b∉l->b≠T:=λb o q d z=>by
  rcases j with w|w
  .exact d (z▸w)
  .rw[z,w]at q;cases q
 have G:∀b o,s.heap.get? b=Z o->b∈fr (env::outer)->b≠T:=λb o q d z=>by
  obtain⟨_,O,p,h⟩:=m.mem d;obtain⟨f,w⟩:=r b o q d;obtain⟨_,_,_,R,ts,_,_,_,_,_,_,_,I,K,_⟩:=x;rw[q]at p;cases p;rw[z,I]at w;cases w;exact h ts K
 refine r5 x λh2 N e2=>k h2 [i,T] (.inr ⟨i,T,rfl,rfl,N⟩) (λa g=>?_) (λb o q d h=>(e2 b (D b o q d)).trans (H b o q d h)) λb o q d=>?_
 .rcases N3.mp g with rfl|g
  .exact .inl v
  .obtain rfl:a=T:=⇑g;exact j
 .obtain⟨f,w⟩:=r b o q d;exact⟨f,(e2 b (G b o q d)).trans w⟩
def leave(h:A.frames=Z (env::outer))(i:s.heap.FunFrames base (env::outer))(g:env.frame=Z L)(j:bC f c e l s.heap)(k:∀h' d,bC f c e d h'->(∀a∈d,a∈l\/s.heap.get? a=Y)->(∀b o,s.heap.get? b=Z o->b∉l->b∉fr (env::outer)->h'.get? b=Z o) ->
   (∀b o,s.heap.get? b=Z o->b∈fr (env::outer)->∃m,h'.get? b=Z { o with slots:=m })->Q () { s with heap:=h' }):
  Ts M A (leaving env e) Q E s:=by
 unfold leaving;exact NZ (note h i g j k)
def EI(p:bC r c e l s.heap)(k:∀(h':TU)(d:List Tu),(∀a∈d,a∈l/\e≠.ref a)->(∀b o,s.heap.get? b=Z o->b∉d->h'.get? b=Z o)->Q () { s with heap:=h' }):Ts M A (WO e Y) Q E s:=by
 rcases p with⟨b7,C,v,w,rfl,t,n,u,m,h0,rfl,g⟩|⟨b7,T,rfl,rfl,x⟩
 .unfold WO;refine NZ (OQ n m g ?_);rw[if_neg ∅];exact Tg (k s.heap [] (λ_ z=>nomatch z) λb o q _=>q)
 .have h:T≠b7:=x.choose_spec.choose_spec.choose_spec.choose_spec.choose_spec.2.2.2.2.2.2.1;refine r5 x λh' y f=>k h' [T] (λa i=>?_) λb o q j=>(f b λz=>j (by simp[z])).trans q
  obtain rfl:a=T:=⇑i;exact⟨by simp,λz=>h (Value.ref.inj z).symm⟩
def made(b:a c=Z C)(f:Heap.MadeExcOf h h' e (.ref C) args):bC a c (.ref e) [e] h':=by
 obtain⟨t,d,_,_⟩:=f.there;exact .inl ⟨e,C,_,_,rfl,b,d,rfl,rfl,rfl,rfl,rfl⟩
section
def xa(p:s.heap.get? x=Z r)(l:r.cls=.ref C)(k:s.heap.get? C=Z (TX nm q C N bs bm hdct sn sub ab col dd k0 k1 k2 k3 k5 u))(o:∀{b:T3}{a:Ti->Tq->Prop}{e},a (.type "type") s->Ts (Tw prog w) b (VF c) a e s)(m:∀{b:T3}{a:Bool->Tq->Prop}{e},a J s->Ts (Tw prog w) b (isType c) a e s)(n:(TA C::bm).contains c=J)(h:Q (.done (.ret (.bool J))) s):Ts (Tw prog w) A (Uy.«isinstance.nested» ⟨[.ref x,c,.int t tk],[]⟩) Q E s:=by
 obtain⟨h0,g,d,j,os⟩:=s;have f:∀{b:T3}{a:Ti->Tq->Prop}{e},a (.ref C) ⟨h0,g,d,j,os⟩->Ts (Tw prog w) b (VF (.ref x)) a e ⟨h0,g,d,j,os⟩:=λ{b a e} z=>by
  unfold VF
  repeat (first|(with_reducible refine Pa p ?_;rw[l])|wp_step)
  exact z
 unfold Uy.«isinstance.nested»;refine NZ (f ?_)
 by_cases i:(TA C==c)=J
 .rw[if_pos i];show Ts (Tw prog w) A (pure _) Q E _;exact Tg h
 .rw[if_neg i];refine NZ (o ?_);rw[if_pos ∅]
  k_delta "plainIsInstance"
  refine NZ (NZ (m ?_));simp only[PG,N4,Ox];refine NZ ?_;unfold Xa;refine NZ (f ?_);refine PM k ?_;rw[n];simp only[O6]
  first
   |exact Tg h
   |exact Tg (Tg h)
   |exact NZ (Tg (Tg h))
def FH(r:s.heap.get? x=Z f)(o:f.cls=.ref C)(l:s.heap.get? C=Z (TX nm q C N bs bm hdct sn sub ab col dd k0 k1 k2 k3 k5 t))(a:s.heap.get? D=Z c)(m:c.cls=.type "type")(n:∃e,c.data=.cls e)(p:(TA C::bm).contains (.ref D)=J)(h:Q (.bool J) s):Ts (Tw prog w) A (call (.builtin "isinstance") [.ref x,.ref D]) Q E s:=by
 refine SU (S:=λ_ R s=>(s.heap.get? x=Z f/\s.heap.get? C=Z (TX nm q C N bs bm hdct sn sub ab col dd k0 k1 k2 k3 k5 t)/\s.heap.get? D=Z c)/\R (.ok (.ret (.bool J))) s)
  (λ_ _ _ _ _ b=>SH (xa b.1.1 o b.1.2.1 (λ{i k j} z=>?_) (λ{i k j} z=>?_) p b.2) (by intro q;cases q)) ⟨⟨r,l,a⟩,h⟩
 .have a:=b.1.2.2;rename_i s';obtain⟨h0,g,d,G,os⟩:=s';unfold VF
  repeat (first|(with_reducible refine Pa a ?_;rw[m])|wp_step)
  exact z
 .have a:=b.1.2.2;obtain⟨u,v,y,B⟩:=c;obtain⟨e,rfl⟩:=n;unfold isType loadHead;exact NZ (S1 a (Tg z))
def FI(k:s.heap.get? x=Z b)(g:b.cls=.ref C)(f:s.heap.get? C=Z (TX nm q C N bs bm hdct sn sub ab col dd k0 k1 k2 k3 k5 l))(j:VF (.type T)=pure (.type "type"))(i:bm.contains (.type T)=J)(h:Q (.bool J) s):Ts (Tw prog w) A (call (.builtin "isinstance") [.ref x,.type T]) Q E s:=by
 refine SU (S:=λ_ R s=>(s.heap.get? x=Z b/\s.heap.get? C=Z (TX nm q C N bs bm hdct sn sub ab col dd k0 k1 k2 k3 k5 l))/\R (.ok (.ret (.bool J))) s)
  (λ_ _ _ _ _ a=>SH (xa a.1.1 g a.1.2 (λ{c e d} z=>?_) (λ{c e d} z=>?_) (by rw[QD,i,RU]) a.2) (by intro q;cases q)) ⟨⟨k,f⟩,h⟩
 .rw[j];exact Tg z
 .exact Tg z
end
end bb
end
section
namespace bb
open PySem PySem.W
section
variable{prog:TV}{w:Ug}{A:T3}{E:Ti->Tq->Prop}{h:TU}{g:Array GenState}{d:Drawn}{t:Nat}{os:OsState}{a:Tu}{o:UK}{K:Frag}{nm q:Tz}{C N:Tu}{bs bm:List Ti}{hdct:Bool}{sn:List Tz}{sub:List Ti}{ab:Bool}{col:Option Bool}{dd:Option Tu}{k0 k1 k2 k3 k5:Option Ti}{newId:String}
def Hd(i:h.get? C=Z (TX nm q C N bs bm hdct sn sub ab col dd k0 k1 k2 k3 k5 newId))(c:h.get? D=Z (TX T U D s v b z V a0 u x y B G H I L O))(m:h.get? e=Z r)(l:r.cls=.ref C)(j:b.contains (.type "BaseException")=J)(n:(TA C::bm).contains (.ref D)=J)(p:Q J ⟨h,g,d,t,os⟩):Ts M A (excMatches (.ref e) (.ref D)) Q E ⟨h,g,d,t,os⟩:=by
 have k:(TA D::b).contains (.type "BaseException")=true:=by rw[QD,j,RU]
 have f:=tc_notTuple;unfold excMatches
 repeat (first|(with_reducible refine Pa m ?_;rw[l])|with_reducible refine Pa c ?_|(with_reducible refine PM c ?_;rw[k])|(with_reducible refine PM i ?_;rw[n])|wp_step)
 exact p
def CI(e:h.get? C=Z (TX nm q C N bs bm hdct sn sub ab col dd k0 k1 k2 k3 k5 newId))(f:bm.contains (.type "object")=J)(c:h.get? a=Z o)(b:o.cls=.ref C)(k:R (.ok (.ret (.ref C))) ⟨h,g,d,t,os⟩):
  Vu (Tw prog w) A (.call (.builtin "getset_descriptor.__get__") ⟨[.builtin "object.__class__",.ref a,.ref C],[]⟩) R ⟨h,g,d,t,os⟩:=by
 have i:(⟨h,g,d,t,os⟩:Tq).TypeIs (.builtin "object.__class__") "getset_descriptor":=Rp;have j:(TA C::bm).contains (.type (".".intercalate ("object.__class__".cutAt '.').dropLast))=true:=by
  rw[F.owner_object_class,QD,f,RU]
 refine RD S6.plain F.entry_gs_get (S6.check _ _ _ _ _ _ _ _ i (F.args_gs_get _ _ _) ?_)
 repeat (any_goals (first|assumption|(with_reducible refine Pa c ?_;rw[b])|(with_reducible refine PM e ?_;rw[j])|wp_step))
 refine⟨R0 _ (by decide +kernel),Pg F.entry_object_class ?_⟩
 repeat (any_goals (first|assumption|(with_reducible refine Pa c ?_;rw[b])|wp_step))
def CG(c:h.get? C=Z (TX nm q C N bs bm hdct sn sub ab col dd k0 k1 k2 k3 k5 newId))(b:bm.contains (.type "BaseException")=J)(l:h.get? a=Z o)(e:o.cls=.ref C)(j:Q () ⟨h,g,d,t,os⟩):Ts M A (VQ "BaseException.__getattribute__" ⟨[.ref a,m],[]⟩) Q E ⟨h,g,d,t,os⟩:=by
 have i:builtinKind "BaseException.__getattribute__"=Z .slot:=by decide +kernel
 have k:splitId "BaseException.__getattribute__"=Z ("BaseException","__getattribute__"):=by decide +kernel
 have f:(TA C::bm).contains (.type "BaseException")=true:=by rw[QD,b,RU]
 have n:=F.args_bexc_ga (.ref a) m;simp only[VQ,i,k];refine NZ ?_
 .unfold Xa
  repeat (first|(with_reducible refine Pa l ?_;rw[e])|(with_reducible refine PM c ?_;rw[f])|wp_step)
  exact j
def CH(X:K.In h)(f:Wa K (.ref C) "__class__"=Z (Z (.builtin "object.__class__")))(i:h.get? C=Z (TX nm q C N bs bm hdct sn sub ab col dd k0 k1 k2 k3 k5 newId))(j:bm.contains (.type "object")=J)(c:h.get? a=Z o)(b:o.cls=.ref C)(p:Q (.done (.ret (.ref C))) ⟨h,g,d,t,os⟩):
  Ts (Tw prog w) A (Uy.«object.__getattribute__» ⟨[.ref a,.str "__class__" tk],[]⟩) Q E ⟨h,g,d,t,os⟩:=by
 have n:(⟨h,g,d,t,os⟩:Tq).TypeIs (.builtin "object.__class__") "getset_descriptor":=Rp;have k:=Rp;have l:=S6.lookup;have m:=F.slot_gs_set.lookup;have e:=Xx (M:=Tw prog w) X f
 repeat (any_goals (first|assumption|(with_reducible refine Pa c ?_;rw[b])|with_reducible refine Looks.at e ?_|wp_step))
 refine CI i j c b ?_
 repeat (any_goals (first|assumption|wp_step))
def CF(X:K.In h)(j:Wa K (.ref C) "__class__"=Z (Z (.builtin "object.__class__")))(h2:Wa K (.ref C) "__getattribute__"=Z (Z (.builtin "BaseException.__getattribute__")))(h3:Wa K (.ref C) "__getattr__"=Z Y)(e:h.get? C=Z (TX nm q C N bs bm hdct sn sub ab col dd k0 k1 k2 k3 k5 newId))(l:bm.contains (.type "object")=J)(k:bm.contains (.type "BaseException")=J)(c:h.get? a=Z o)(b:o.cls=.ref C)(p:Q (.ref C) ⟨h,g,d,t,os⟩):Ts (Tw prog w) A (getAttrBy (.ref a) (.str "__class__" tk) Th) Q E ⟨h,g,d,t,os⟩:=by
 have n:=WD.ga.bind (.ref a);have m:(VM "BaseException.__getattribute__"==VM "object.__getattribute__")=false:=by decide +kernel
 have r:(onTheHeap (TA C)&&VM "BaseException.__getattribute__"==VM "object.__getattribute__")=false:=by rw[m];rfl
 have f:=Xx (M:=Tw prog w) X h2;have i:=Xx (M:=Tw prog w) X h3
 repeat (any_goals (first|assumption|(with_reducible refine Pa c ?_;rw[b])|with_reducible refine Looks.at f ?_|with_reducible refine Looks.at i ?_|wp_step))
 refine RD WD.ga.plain F.entry_bexc_ga (CG e k c b (CH X j e l c b ?_))
 repeat (any_goals (first|assumption|wp_step))
def CE(X:K.In h)(b:Wa K (.ref C) "__class__"=Z (Z (.builtin "object.__class__")))(h2:Wa K (.ref C) "__getattribute__"=Z (Z (.builtin "BaseException.__getattribute__")))(h3:Wa K (.ref C) "__getattr__"=Z Y)(e:h.get? C=Z (TX nm q C N bs bm hdct sn sub ab col dd k0 k1 k2 k3 k5 newId))(f:bm.contains (.type "object")=J)(c:bm.contains (.type "BaseException")=J)(j:h.get? a=Z o)(i:o.cls=.ref C)(k:Q (Z (.ref C)) ⟨h,g,d,t+1,os⟩):Ts (Tw prog w) A (getAttr? (.ref a) "__class__") Q E ⟨h,g,d,t,os⟩:=by
 unfold getAttr? getAttrBy?
 repeat (any_goals (first|assumption|with_reducible apply CF X b h2 h3 e f c j i|wp_step))
structure Plain(K:Frag)(C:Tu)(bm:List Ti):Prop where
 a1:Wa K (.ref C) "__class__"=Z (Z (.builtin "object.__class__"))
 a2:Wa K (.ref C) "__getattribute__"=Z (Z (.builtin "BaseException.__getattribute__"))
 a3:Wa K (.ref C) "__getattr__"=Z Y
 E9:bm.contains (.type "object")=J
 wU:bm.contains (.type "BaseException")=J
def HK(X:K.In h)(P:Plain K C bm)(i:h.get? C=Z (TX nm q C N bs bm hdct sn sub ab col dd k0 k1 k2 k3 k5 newId))(n:h.get? a=Z o)(m:o.cls=.ref C)(s:∀{e:T3}{b:Ti->Tq->Prop}{f},b (.type "type") ⟨h,g,d,t,os⟩->Ts (Tw prog w) e (VF c) b f ⟨h,g,d,t,os⟩)(r:∀{e:T3}{b:Bool->Tq->Prop}{f},b J ⟨h,g,d,t,os⟩->Ts (Tw prog w) e (isType c) b f ⟨h,g,d,t,os⟩)(j:(TA C::bm).contains c=Th)(k:Q (.done (.ret (.bool Th))) ⟨h,g,d,t+1,os⟩):Ts (Tw prog w) A (Uy.«isinstance.nested» ⟨[.ref a,c,.int u tk],[]⟩) Q E ⟨h,g,d,t,os⟩:=by
 have l:∀{e:T3}{b:Ti->Tq->Prop}{f},b (.ref C) ⟨h,g,d,t,os⟩->Ts (Tw prog w) e (VF (.ref a)) b f ⟨h,g,d,t,os⟩:=λ{e b f} z=>by
  unfold VF
  repeat (first|(with_reducible refine Pa n ?_;rw[m])|wp_step)
  exact z
 have p:¬(TA C==c)=true:=λz=>by
  rw[QD]at j;have:=OJ.mp z;subst this;simp at j
 unfold Uy.«isinstance.nested»;refine NZ (l ?_);rw[if_neg p];refine NZ (s ?_);rw[if_pos ∅]
 k_delta "plainIsInstance"
 refine NZ (NZ (r ?_));simp only[PG,N4,Ox];refine NZ ?_;unfold Xa;refine NZ (l ?_);refine PM i ?_;rw[j];simp only[N4,Ox];refine NZ (CE X P.a1 P.a2 P.a3 i P.E9 P.wU n m ?_);refine NZ ?_;unfold isType loadHead;refine NZ (S1 i (Tg ?_));simp only[TX,PG,N4,Ox];refine NZ (PR ?_);refine PM i ?_;rw[j]
 first
  |exact Tg k
  |exact Tg (Tg k)
  |exact NZ (Tg (Tg k))
def FG(X:K.In s.heap)(P:Plain K C bm)(v:s.heap.get? x=Z i)(r:i.cls=.ref C)(m:s.heap.get? C=Z (TX nm q C N bs bm hdct sn sub ab col dd k0 k1 k2 k3 k5 newId))(c:s.heap.get? D=Z e)(n:e.cls=.type "type")(p:∃f,e.data=.cls f)(u:(TA C::bm).contains (.ref D)=Th)(h:Q (.bool Th) { s with toks:=s.toks+1 }):Ts (Tw prog w) A (call (.builtin "isinstance") [.ref x,.ref D]) Q E s:=by
 refine SU (S:=λ_ R s=>(K.In s.heap/\s.heap.get? x=Z i/\s.heap.get? C=Z (TX nm q C N bs bm hdct sn sub ab col dd k0 k1 k2 k3 k5 newId)/\s.heap.get? D=Z e)/\R (.ok (.ret (.bool Th))) { s with toks:=s.toks+1 })
  (λ_ _ _ _ s' b=>SH ?_ (by intro q;cases q)) ⟨⟨X,v,m,c⟩,h⟩
 obtain⟨h0,g,d,I,os⟩:=s';refine HK b.1.1 P b.1.2.2.1 b.1.2.1 r (λ{j l k} z=>?_) (λ{j l k} z=>?_) u b.2
 .have c:=b.1.2.2.2;unfold VF
  repeat (first|(with_reducible refine Pa c ?_;rw[n])|wp_step)
  exact z
 .have c:=b.1.2.2.2;obtain⟨y,B,G,H⟩:=e;obtain⟨f,rfl⟩:=p;unfold isType loadHead;exact NZ (S1 c (Tg z))
end
end bb
end
section
namespace bb
open PySem
def DI:Yl table "proto.unchain"=Z Uy.«proto.unchain»:=entryFor_of_tree (by kernel_rfl)
section
def DF(t:A.handled=Z (.ref x))(g:s.heap.get? x=Z h)(B:h.data=.fields I)(z:I[2]?=Z .none)(p:x≠d)(f:s.heap.IsListIter d l i)(u:s.heap.IsList l C)(v:C[i]?=Y)(r:∀h',(∀b o,b≠d->s.heap.get? b=Z o->h'.get? b=Z o)->Q Y { s with heap:=h' }):Ts (Tw prog w) A (U3 (.ref d)) Q E s:=by
 obtain⟨o,j,M,k⟩:=id f;obtain⟨L,G,_,N,H⟩:=u;unfold U3;refine NZ (Ql (OK (name:=Tf "__next__") f.typeIs slot_listiter_next (OM slot_listiter_next f.typeIs entry_listiter_next ?_ (args_listiter_next _))));show Ts _ _ (Wz (.ref d) 0>>=_) _ _ s;refine NZ (OQ j k (x:=.ref l) rfl ?_);show Ts _ _ (if (TA l==Value.none)=J then _ else _) _ _ s;rw[if_neg (show ¬((TA l==Value.none)=J) by simp)];refine NZ (OQ j k (x:=.int i 0) rfl (NZ (Py G H ?_)));simp only[Un,v];refine NZ (PR (NZ (Pq j k (by simp) (NZ ?_))));simp only[XG,Yn];refine NZ (OC (NZ (m:=UI _ _) (Sk (a:=Value.none) (by first|rfl|(simp only[UI];rfl)) (OC ?_ (by size_fits)))) (by size_fits));simp only[Yo];refine NZ (Sv ?_);rw[show A.in1.handled=Z (.ref x) from t];have K:x<s.heap.objs.size:=N5 g;generalize n:s.heap.update d (T9 λx=>x.setIfInBounds 0 Value.none)=h0;have O:h0.objs.size=s.heap.objs.size:=by rw[<- n];exact(OS ..).1
 have k0:∀b o,b≠d->s.heap.get? b=Z o->h0.get? b=Z o:=λb o e q=>by rw[<- n];exact(Oy _ _ (Pj e)).trans q
 generalize y:h0.push { cls:=T7 "tuple",data:=Data.seq #[] }=c;have k1:∀b o,b≠d->s.heap.get? b=Z o->c.get? b=Z o:=λb o e q=>by rw[<- y];exact N1 _ (k0 b o e q)
 have D:x≠c.objs.size:=Oj (N5 (k1 x h p g));dsimp only;rw[if_pos (show(TA x != TA c.objs.size)=J by simp[D])];refine NZ (Pu (Rb (Pg DI ?_)));show Ts _ _ (Wz (.ref x) 2>>=_) _ _ _;refine NZ (OQ (N1 _ (k1 x h p g)) B z ?_);rw[if_pos ∅];refine Tg ?_;show Ts _ _ (updateField c.objs.size 2 (.ref x)>>=_) _ _ _;refine NZ (Pq (a:=c.objs.size) (i:=2) (x:=.ref x) (N6 c rfl) rfl (by simp;lia) (Sl ?_));refine NZ (QP (T:="StopIteration") (b:=J) ⟨_,OD _ (N6 c rfl) rfl,rfl⟩ R3 ?_);refine Tg (r _ λb o e q=>?_);have:=k1 b o e q;rw[Oy _ _ (Pj (Oj (N5 this)))];exact N1 _ this
def Np(n:A.handled=Z (.ref x))(t:u.data=.fields y)(r:y[2]?=Z .none)(I d)(p:d≠I)(l:x≠I)(j):
  Walks prog w A I [I,d,x] [I] j.size (λi v=>j[i]?=Z v) (λi h=>(h.IsListIter I d i/\h.IsList d j)/\h.get? x=Z u) where
 sub:=λc g=>by simp at g;simp[g]
 frame:=λ_ _ _ st k=>⟨⟨st.1.1.at λo e=>k I (by simp) o e,st.1.2.at λo e=>k d (by simp) o e⟩,k x (by simp) _ st.2⟩
 item:=λi s Q E hi st f=>VW st.1.1 st.1.2 (x:=j[i]) (by simp[hi]) λh' a b =>
  f _ h' s.toks (by simp[hi]) ⟨⟨a,st.1.2.extBut b.extBut p⟩,b.extBut x _ l st.2⟩ λc o g e=>b.extBut c o (λh=>g (by simp[h])) e
 done:=λs Q E st f=>DF n st.2 t r l st.1.1 st.1.2 (by simp) λh' q=>f h' s.toks λb o m e=>q b o (λh=>m (by simp[h])) e
 self:=λ_ _ _ _ st f=>Wg st.1.1 f
end
end bb
end
section
namespace aE
open PySem PySem.Spec PyProof.Rows aC
noncomputable abbrev D:=ζ.D
noncomputable abbrev aB:=ζ.aB
noncomputable abbrev aU:=ζ.R
noncomputable abbrev aQ:=List (Option V)
def aO{α:Type}(r:aU α)(Q:α->Prop)(E:Nat->Prop):Prop:=match r with
 |.ok a=>Q a
 |.exc c=>E c
 |.bad=>False
def av{α β:Type}{r:aU α}{f:α->aU β}{Q:β->Prop}:aO (r>>=f) Q E<->aO r (λa=>aO (f a) Q E) E:=by
 cases r<;>exact Iff.rfl
def aM{α:Type}{r:aU α}{Q b:α->Prop}(h:aO r Q E)(e:∀a,Q a->b a)(d:∀c,E c->uD c):aO r b uD:=by
 cases r with
 |ok a=>exact e a h
 |exc c=>exact d c h
 |bad=>exact h
abbrev eN(a:List (List Int×Int)):List (List Key×V):=a.map λp=>(p.1.map T6,V.int p.2)
abbrev cQ(G:ah):List (Int×Int×Int)->List (Key×V)->Prop
 |[],ys=>ys=[]
 |p::a,ys=>∃b r,ys=(T6 p.1,.ref b)::r/\G b=Z (.tup [.int p.2.1,.int p.2.2])/\cQ G a r
theorem cQ.mono(s:aD G c):∀{a:List (Int×Int×Int)}{ys:List (Key×V)},cQ G a ys->cQ c a ys
 |[],_,h=>h
 |p::a,_,⟨b,r,e,d,h2⟩=>⟨b,r,e,s _ _ d,h2.mono s⟩
def lD(G:ah):List (List Int)->List V->Prop
 |[],xs=>xs=[]
 |c::cs,xs=>∃b r,xs=.ref b::r/\G b=Z (.tup (c.map V.int))/\lD G cs r
mutual
noncomputable def Rep (K:W.Frag) (G:ah):D->V->Prop
 |.az,v=>v=.az
 |.ag b,v=>v=.ag b
 |.int i,v=>v=.int i
 |.str x,v=>v=.str x
 |.tup ds,v=>∃a xs,v=.ref a/\G a=Z (.tup xs)/\ax K G ds xs
 |.lst ds,v=>∃a xs,v=.ref a/\cb K G a xs/\ax K G ds xs
 |.bU c,v=>∃a e,v=.ref a/\G a=Z (.cm e (.cz (eN c)))
 |.bG c,v=>∃a e ys,v=.ref a/\G a=Z (.cm e (.bZ ys))/\cQ G c ys
 |.d7 _,_=>False
 |.kt ds,v=>∃a xs,v=.ref a/\bT K (λ_=>Y) a xs/\ax K G ds xs
noncomputable def ax (K:W.Frag) (G:ah):List D->List V->Prop
 |[],xs=>xs=[]
 |d::ds,xs=>∃v r,xs=v::r/\Rep K G d v/\ax K G ds r
end
section
variable{K:W.Frag}{G cg H aK:ah}
def pJ(s:aD G cg)(h:bT K G a xs):bT K cg a xs:=by
 rcases h with(h|⟨o,h⟩)|h
 .exact .inl (.inl (s _ _ h))
 .exact .inl (.inr ⟨o,s _ _ h⟩)
 .exact .inr h
def eI(s:aD G cg)(h:G a=Z (.tup xs)):bT K cg a xs:=.inl (.inl (s _ _ h))
def hn(s:aD G cg)(h:cb K G a xs):cb K cg a xs:=by
 rcases h with(h|⟨o,h⟩)|h
 .exact .inl (.inl (s _ _ h))
 .exact .inl (.inr ⟨o,s _ _ h⟩)
 .exact .inr h
def yW(s:aD G cg)(h:fe G a u):fe cg a u:=by
 rcases h with h|⟨o,h⟩
 .exact .inl (s _ _ h)
 .exact .inr ⟨o,s _ _ h⟩
mutual
theorem Rep.mono (s:aD G cg):∀{d:D}{v:V},Rep K G d v->Rep K cg d v
 |.az,_,h=>h
 |.ag _,_,h=>h
 |.int _,_,h=>h
 |.str _,_,h=>h
 |.tup ds,_,⟨a,xs,e,h,r⟩=>⟨a,xs,e,s _ _ h,ax.mono s r⟩
 |.lst ds,_,⟨a,xs,e,h,r⟩=>⟨a,xs,e,hn s h,ax.mono s r⟩
 |.bU _,_,⟨a,b,e,h⟩=>⟨a,b,e,s _ _ h⟩
 |.bG _,_,⟨a,b,ys,e,h,r⟩=>⟨a,b,ys,e,s _ _ h,r.mono s⟩
 |.d7 _,_,h=>h
 |.kt ds,_,⟨a,xs,e,h,r⟩=>⟨a,xs,e,h,ax.mono s r⟩
theorem ax.mono (s:aD G cg):∀{ds:List D}{xs:List V},ax K G ds xs->ax K cg ds xs
 |[],_,h=>h
 |d::ds,_,⟨v,r,e,c,h2⟩=>⟨v,r,e,Rep.mono s c,ax.mono s h2⟩
end
theorem ax.length:∀{ds:List D}{xs:List V},ax K G ds xs->ds.length=xs.length
 |[],_,h=>by cases h;rfl
 |d::ds,_,⟨v,r,e,a,h2⟩=>by subst e;simp[ax.length h2]
theorem ax.append:∀{ds a:List D}{xs ys:List V},ax K G ds xs->ax K G a ys->ax K G (ds++a) (xs++ys)
 |[],_,_,_,h,q=>by cases h;exact q
 |d::ds,_,_,_,⟨v,r,e,b,h2⟩,q=>by subst e;exact⟨v,r++_,rfl,b,ax.append h2 q⟩
theorem ax.get:∀{ds:List D}{xs:List V}{i:Nat}{d:D},ax K G ds xs->ds[i]?=Z d->∃v,xs[i]?=Z v/\Rep K G d v
 |[],_,_,_,h,e=>by simp at e
 |d::ds,_,0,_,⟨v,r,e,a,h2⟩,q=>by subst e;simp at q;subst q;exact⟨v,rfl,a⟩
 |d::ds,_,i+1,_,⟨v,r,e,a,h2⟩,q=>by subst e;simpa using ax.get h2 ⇑q
theorem ax.drop:∀{ds:List D}{xs:List V}(n:Nat),ax K G ds xs->ax K G (ds.drop n) (xs.drop n)
 |_,_,0,h=>⇑h
 |[],_,n+1,h=>by cases h;simp[ax]
 |d::ds,_,n+1,⟨v,r,e,a,h2⟩=>by subst e;simpa using ax.drop n h2
theorem ax.take:∀{ds:List D}{xs:List V}(n:Nat),ax K G ds xs->ax K G (ds.take n) (xs.take n)
 |_,_,0,h=>by simp[ax]
 |[],_,n+1,h=>by cases h;simp[ax]
 |d::ds,_,n+1,⟨v,r,e,a,h2⟩=>by subst e;exact⟨v,r.take n,by simp,a,ax.take n h2⟩
def ax.snoc(h:ax K G ds xs)(q:Rep K G d v):ax K G (ds++[d]) (xs++[v]):=h.append ⟨v,[],rfl,q,rfl⟩
def View(K:W.Frag)(G H:ah):D->V->Prop
 |.bU b,v=>∃a,v=.ref a/\fe H a (.cz (eN b))
 |.bG b,v=>∃a ys,v=.ref a/\fe H a (.bZ ys)/\cQ G b ys
 |.lst ds,v=>∃a xs,v=.ref a/\cb K H a xs/\ax K G ds xs
 |d,v=>Rep K G d v
def Rep.view(s:aD G H):∀{d:D}{v:V},Rep K G d v->View K G H d v
 |.lst ds,_,⟨a,xs,e,h,r⟩=>⟨a,xs,e,hn s h,r⟩
 |.az,_,h=>h
 |.ag _,_,h=>h
 |.int _,_,h=>h
 |.str _,_,h=>h
 |.tup _,_,h=>h
 |.bU _,_,⟨a,b,e,h⟩=>⟨a,e,.inr ⟨b,s _ _ h⟩⟩
 |.bG _,_,⟨a,b,ys,e,h,r⟩=>⟨a,ys,e,.inr ⟨b,s _ _ h⟩,r⟩
 |.d7 _,_,h=>h
 |.kt _,_,h=>h
structure Ext(G H cg aK:ah):Prop where
 g:aD G cg
 h:aD H aK
 sub:aD cg aK
 new:∀a,G a=Y->H a≠Y->cg a=Y
 cV:∀b xs,aK b=Z (.tup xs)->H b=Z (.tup xs)\/cg b=Z (.tup xs)
theorem Ext.refl(s:aD G H):Ext G H G H:=⟨aD.refl G,aD.refl H,s,λ_ h _=>h,λ_ _ h=>.inl h⟩
theorem Ext.trans(x:Ext G H c d)(y:Ext c d cg aK):Ext G H cg aK :=
 ⟨x.g.trans y.g,x.h.trans y.h,y.sub,λa e h2=>y.new a (x.new a e h2) (λz=>by
  cases q:H a with
  |none=>exact h2 q
  |some o=>rw[x.h a o q]at z;cases z),λb xs z=>(y.cV b xs z).elim (λz=>(x.cV b xs z).imp id λz=>y.g _ _ z) .inr⟩
def du(h:H a=Y):aD H (upd H a o):=λb u e=>by rw[aZ (fU e h)];exact e
def View.ext(x:Ext G H b c):∀{d:D}{v:V},View K G H d v->View K b c d v
 |.lst ds,_,⟨a,xs,e,h,r⟩=>⟨a,xs,e,hn x.h h,r.mono x.g⟩
 |.az,_,h=>h
 |.ag _,_,h=>h
 |.int _,_,h=>h
 |.str _,_,h=>h
 |.tup _,_,h=>Rep.mono (K:=K) x.g h
 |.bU _,_,⟨a,e,h⟩=>⟨a,e,yW x.h h⟩
 |.bG _,_,⟨a,ys,e,h,r⟩=>⟨a,ys,e,yW x.h h,r.mono x.g⟩
 |.d7 _,_,h=>h
 |.kt _,_,h=>Rep.mono (K:=K) x.g h
def Ext.own(s:aD G H)(h:H a=Y)(d:∀xs,o≠.tup xs):Ext G H G (upd H a o):=⟨aD.refl G,du h,s.trans (du h),λ_ c _=>c,λb xs e=>by
 by_cases q:b=a
 .subst q;rw[bE]at e;cases e;exact absurd rfl (d xs)
 .rw[aZ q]at e;exact .inl e⟩
def Ext.put(s:aD G H)(h:H a=Y):Ext G H (upd G a o) (upd H a o):=by
 have d:G a=none:=s.free h;refine⟨du d,du h,λb u e=>?_,λb c h2=>?_,λb xs e=>?_⟩
 .by_cases q:b=a
  .subst q;rw[bE]at e ⊢;exact e
  .rw[aZ q]at e ⊢;exact s b u e
 .rw[aZ (λq=>h2 (by rw[q];exact h))];exact c
 .by_cases q:b=a
  .subst q;rw[bE]at e ⊢;exact .inr e
  .rw[aZ q]at e;exact .inl e
end
inductive dk where
 |view|val|fresh
def aW(K:W.Frag)(H b c:ah):dk->D->V->Prop
 |.view,d,v=>View K b c d v
 |.val,d,v=>Rep K b d v
 |.fresh,.lst ds,v=>∃a xs,v=.ref a/\c a=Z (.lst xs)/\H a=Y/\b a=Y/\ax K b ds xs
 |.fresh,.bU _,_=>False
 |.fresh,.bG _,_=>False
 |.fresh,d,v=>Rep K b d v
abbrev eO:D->Bool
 |.lst _=>J
 |.bU _=>J
 |.bG _=>J
 |_=>Th
def gx(K:W.Frag)(G:ah):D->eL->Prop
 |.lst ds,o=>∃xs,o=.lst xs/\ax K G ds xs
 |.bU a,o=>o=.cz (eN a)
 |.bG a,o=>∃ys,o=.bZ ys/\cQ G a ys
 |_,_=>False
theorem gx.mono{K:W.Frag}(s:aD G a):∀{d:D}{o:eL},gx K G d o->gx K a d o
 |.lst _,_,⟨xs,e,r⟩=>⟨xs,e,r.mono s⟩
 |.bU _,_,h=>h
 |.bG _,_,⟨ys,e,r⟩=>⟨ys,e,r.mono s⟩
 |.az,_,h=>h
 |.ag _,_,h=>h
 |.int _,_,h=>h
 |.str _,_,h=>h
 |.tup _,_,h=>h
 |.d7 _,_,h=>h
 |.kt _,_,h=>h
structure cC(K:W.Frag)(aa:List Nat)(G H:ah)(ae:aB)(σ:aQ):Prop where
 len:ae.length=σ.length
 sub:aD G H
 val:∀(i:Nat)(d:D),ae[i]?=Z (Z d)->i∉aa->∃v,σ[i]?=Z (Z v)/\Rep K G d v
 own:∀(i:Nat)(d:D),ae[i]?=Z (Z d)->i∈aa->eO d=Th->∃v,σ[i]?=Z (Z v)/\Rep K G d v
 lst:∀(i:Nat)(d:D),ae[i]?=Z (Z d)->i∈aa->eO d=J->∃a o,σ[i]?=Z (Z (V.ref a))/\H a=Z o/\G a=Y/\gx K G d o
 cV:∀b xs,H b=Z (.tup xs)->G b=Z (.tup xs)
 apart:∀(i j:Nat)(d e:D)(a b:Tu),ae[i]?=Z (Z d)->ae[j]?=Z (Z e)->eO d=J->eO e=J->i∈aa->j∈aa->i≠j->σ[i]?=Z (Z (V.ref a))->σ[j]?=Z (Z (V.ref b))->a≠b
def cC.ext{K:W.Frag}(h:cC K l G H m n)(x:Ext G H g j):cC K l g j m n where
 len:=h.len
 sub:=x.sub
 val:=λi d e c=>let ⟨v,a,b⟩:=h.val i d e c;⟨v,a,b.mono x.g⟩
 own:=λi d e c f=>let ⟨v,a,b⟩:=h.own i d e c f;⟨v,a,b.mono x.g⟩
 lst:=λi d e c f=>let ⟨a,o,k,h2,h3,h4⟩:=h.lst i d e c f;⟨a,o,k,x.h _ _ h2,x.new a h3 (by rw[h2];exact λz=>nomatch z),h4.mono x.g⟩
 cV:=λb xs z=>(x.cV b xs z).elim (λz=>x.g _ _ (h.cV b xs z)) id
 apart:=h.apart
theorem cC.view{K:W.Frag}(h:cC K j G H k l){i:Nat}{d:D}(e:k[i]?=Z (Z d)):∃v,l[i]?=Z (Z v)/\View K G H d v:=by
 by_cases f:i∈j
 .cases c:eO d with
  |false=>obtain⟨v,b,h2⟩:=h.own i _ e f c;exact⟨v,b,h2.view h.sub⟩
  |true =>
   obtain⟨a,o,b,h2,h3,h4⟩:=h.lst i d e f c;cases d with
   |lst ds=>obtain⟨xs,rfl,r⟩:=h4;exact⟨_,b,a,xs,rfl,.inl (.inl h2),r⟩
   |bU g=>cases h4;exact⟨_,b,a,rfl,.inl h2⟩
   |bG g=>obtain⟨ys,rfl,r⟩:=h4;exact⟨_,b,a,ys,rfl,.inl h2,r⟩
   |_=>cases c
 .obtain⟨v,b,h2⟩:=h.val i d e f;exact⟨v,b,h2.view h.sub⟩
noncomputable abbrev bR:=Nat->Ti->List Tu->TU->Prop
def eM(X:ao)(b:List (Tu×UK))(H:ah)(a:Tu):Prop :=
 H a=Y/\(a∈X.ex\/X.dE.heap.get? a=Y)/\a≠X.env.locals/\(∀x c,X.env.cells.lookup x=Z c->c≠a)/\∀p∈X.bP++b,p.1≠a
def eM.of{k:aQ}(I:Inv X j k H s)(h:s.heap.get? a=Y)(h':i a=Y):eM X j i a:=by
 have f:∀{b:Tu}{o:UK},s.heap.get? b=Z o->b≠a:=λq z=>by rw[z,h]at q;cases q
 refine⟨h',?_,λz=>?_,λx c q=>?_,λp q=>f (I.pin p q).1⟩
 .by_cases g:a∈X.ex
  .exact .inl g
  .refine .inr ?_;cases q:X.dE.heap.get? a with
   |none=>rfl
   |some o=>obtain⟨l,e⟩:=I.base.there a o q g;rw[h]at e;cases e
 .obtain⟨m,⟨o,_,_,d,_⟩,_⟩:=I.loc;exact f d z.symm
 .obtain⟨v,o,d,_⟩:=I.cell x c q;exact f d
def cG(xp:bR)(X:ao)(c:Nat)(H:ah):Prop:=∀(d:List (Tu×UK))(f:aQ)(b:ah)(s':Tq)(e:Ti)(l:List Tu),Inv X d f b s'->aD H b->(∀a∈l,eM X d b a)->xp c e l s'.heap->X.aV e s'
def cG.mono(h:cG xp X c H)(s:aD H aK):cG xp X c aK:=λb d a s' e l I q n x=>h b d a s' e l I (s.trans q) n x
def ar(xp:bR)(X:ao)(g:List Nat)(m:dk)(f:aB->aU D):TE:=λh H Q =>
 ∃G e,cC X.K g G H e h/\aO (f e) (λd=>∀v b a,Ext G H b a->aW X.K H b a m d v->Q v a) (λc=>cG xp X c H)
theorem aW.view{K:W.Frag}(s:aD b c):∀{m:dk}{d:D}{v:V},aW K H b c m d v->View K b c d v
 |.view,_,_,h=>h
 |.val,_,_,h=>Rep.view s h
 |.fresh,.lst ds,_,⟨a,xs,e,f,_,_,r⟩=>⟨a,xs,e,.inl (.inl f),r⟩
 |.fresh,.az,_,h=>h
 |.fresh,.ag _,_,h=>h
 |.fresh,.int _,_,h=>h
 |.fresh,.str _,_,h=>h
 |.fresh,.tup _,_,h=>h
 |.fresh,.bU _,_,h=>h.elim
 |.fresh,.bG _,_,h=>h.elim
 |.fresh,.d7 _,_,h=>h
 |.fresh,.kt _,_,h=>h
theorem ai.val(h:ai X e (ar xp X n .fresh f)):ai X e (ar xp X n .val f):=by
 rintro p s w H Q I ⟨G,u,m,hw⟩;refine h p s w H Q I ⟨G,u,m,aM hw (λd k v c g x r=>?_) λ_ q=>q⟩;cases d with
 |lst ds =>
  obtain⟨a,xs,rfl,l,h2,h3,h4⟩:=r;refine k _ (upd c a (.lst xs)) g ⟨x.g.trans (du h3),x.h,λb o q=>?_,λb t j=>?_,λb xs q=>(x.cV b xs q).imp id λz=>du h3 _ _ z⟩ ⟨a,xs,rfl,.inl (.inl bE),h4.mono (du h3)⟩
  .by_cases i:b=a
   .subst i;rw[bE]at q;rw[l];exact q
   .rw[aZ i]at q;exact x.sub b o q
  .rw[aZ (λz=>j (by rw[z];exact h2))];exact x.new b t j
 |bU _=>exact r.elim
 |bG _=>exact r.elim
 |_=>exact k v c g x r
theorem ai.view(h:ai X e (ar xp X g m f)):ai X e (ar xp X g .view f):=by
 rintro i s l H Q I ⟨G,j,c,hw⟩;exact h i s l H Q I ⟨G,j,c,aM hw (λd k v a b x r=>k v a b x (r.view x.sub)) λ_ q=>q⟩
section
def zt(h:X.N[i]?=Z x)(j:dN X.env.scope x)(g:(x==("__debug__":Tz))=Th)(h2:(x==("__classdict__":Tz))=Th):ai X (.Name x p) (ar xp X m .view λc=>ζ.ev pg Φ c (.var i)):=by
 rintro k s l H Q I ⟨G,c,f,hw⟩;dsimp only at hw;cases e:c[i]? with
 |none=>rw[ζ.oj,e]at hw;exact hw.elim
 |some o =>
  cases o with
  |none=>rw[ζ.oj,e]at hw;exact hw.elim
  |some d =>
   rw[ζ.wa i e]at hw;obtain⟨v,a,b⟩:=f.view e;exact eG h j g h2 k s l H Q I ⟨v,a,hw v G H (Ext.refl f.sub) b⟩
def KW(j:i∉l)(h:X.N[i]?=Z x)(k:dN X.env.scope x)(g:(x==("__debug__":Tz))=Th)(h2:(x==("__classdict__":Tz))=Th):ai X (.Name x p) (ar xp X l .val λc=>ζ.ev pg Φ c (.var i)):=by
 rintro m s n H Q I ⟨G,c,f,hw⟩;dsimp only at hw;cases e:c[i]? with
 |none=>rw[ζ.oj,e]at hw;exact hw.elim
 |some o =>
  cases o with
  |none=>rw[ζ.oj,e]at hw;exact hw.elim
  |some d =>
   rw[ζ.wa i e]at hw;obtain⟨v,a,b⟩:=f.val i d e j;exact eG h k g h2 m s n H Q I ⟨v,a,hw v G H (Ext.refl f.sub) b⟩
def zm{d:D}(h:ζ.litOk d c=J):ai X (.Constant c j p) (ar xp X k m λf=>ζ.ev pg Φ f (.lit d)):=by
 rintro a s e H Q I ⟨G,f,g,hw⟩;dsimp only at hw;rw[ζ.v7]at hw;have fin:∀v,aW X.K H G H m d v->Q v H:=λv r=>hw v G H (Ext.refl g.sub) r
 cases d with
 |az=>cases c<;>simp[ζ.litOk]at h;exact yv a s e H Q I (fin _ (by cases m<;>rfl))
 |ag b =>
  cases c<;>simp[ζ.litOk]at h;subst h;exact IA a s e H Q I (fin _ (by cases m<;>rfl))
 |int i =>
  cases c<;>simp[ζ.litOk]at h;subst h;exact II a s e H Q I (fin _ (by cases m<;>rfl))
 |str x =>
  cases c<;>simp[ζ.litOk]at h;subst h;exact yx a s e H Q I (fin _ (by cases m<;>rfl))
 |_=>cases c<;>simp[ζ.litOk]at h
def hX(K:W.Frag)(g:D->D->aU D):fc:=λx y H Q=>∃G c e,aD G H/\View K G H c x/\View K G H e y/\aO (g c e) (λd=>∀v b a,Ext G H b a->aW K H b a .fresh d v->Q v a) (λ_=>False)
def aW.old{K:W.Frag}(s:aD H f):∀{m:dk}{d:D}{v:V},aW K f b c m d v->aW K H b c m d v
 |.view,_,_,h=>h
 |.val,_,_,h=>h
 |.fresh,.lst ds,_,⟨a,xs,e,g,h2,h3,r⟩=>⟨a,xs,e,g,s.free h2,h3,r⟩
 |.fresh,.az,_,h=>h
 |.fresh,.ag _,_,h=>h
 |.fresh,.int _,_,h=>h
 |.fresh,.str _,_,h=>h
 |.fresh,.tup _,_,h=>h
 |.fresh,.bU _,_,h=>h
 |.fresh,.bG _,_,h=>h
 |.fresh,.d7 _,_,h=>h
 |.fresh,.kt _,_,h=>h
def J6(z:∀x y c,g x y≠.exc c)(A:bu X (Ur op) (hX X.K g))(u:ai X a (ar xp X l .view r))(w:ai X b (ar xp X l .view t)):
  ai X (.BinOp a op b pos) (ar xp X l .fresh λe=>r e>>=λx=>t e>>=λy=>g x y):=by
 rintro B s O H Q I ⟨G,e,j,hw⟩;refine IJ A u w B s O H Q I ?_;refine⟨G,e,j,aM (av.mp hw) (λh k v m R x1 C=>?_) λ_ q=>q⟩;refine⟨m,e,j.ext x1,aM (av.mp k) (λi k2 T n S f E=>?_) λ_ q=>q.mono x1.h⟩;refine⟨n,h,i,f.sub,View.ext f C,E,?_⟩;cases q:g h i with
 |ok d =>
  rw[q]at k2;exact λM o p N L=>k2 M o p ((x1.trans f).trans N) (L.old (x1.h.trans f.h))
 |exc c=>exact absurd q (z _ _ _)
 |bad=>rw[q]at k2;exact k2
def hK{K:W.Frag}{Q:bK}(c:aD G H)(k:∀v b a,Ext G H b a->aW K H b a .fresh d v->Q v a)(r:aW K H G H .fresh d v):Q v H:=k v G H (Ext.refl c) r
def Dm:bu X (Ur .Sub) (hX X.K (ζ.dq .sub)):=by
 rintro d s i H x y v u Q I e f ⟨G,a,b,c,g,h,hw⟩;cases a<;>cases b<;>first|exact hw.elim|skip
 exact Im d s i H x y v u Q I e f ⟨_,_,g,h,hK c hw rfl⟩
def Dj:bu X (Ur .Mod) (hX X.K (ζ.dq .mod)):=by
 rintro pins s σ H x y v u Q I i4 i5 ⟨G,dg,jC,gF,jg,jh,hw⟩;cases dg<;>cases jC<;>first|exact hw.elim|skip
 rw[ζ.mod_int]at hw
 by_cases h:0<i_1
 .rw[if_pos h]at hw;exact Ik pins s σ H x y v u Q I i4 i5 ⟨_,_,jg,jh,h,hK gF hw rfl⟩
 .rw[if_neg h]at hw;exact hw.elim
def Dh:bu X (Ur .FloorDiv) (hX X.K (ζ.dq .fdiv)):=by
 rintro pins s σ H x y v u Q I i4 i5 ⟨G,dg,jC,gF,jg,jh,hw⟩;cases dg<;>cases jC<;>first|exact hw.elim|skip
 rw[ζ.wi]at hw
 by_cases h:0<i_1/\i_1<1073741824
 .rw[if_pos h]at hw;exact Ic pins s σ H x y v u Q I i4 i5 ⟨_,_,jg,jh,h,hK gF hw rfl⟩
 .rw[if_neg h]at hw;exact hw.elim
end
mutual
noncomputable def toPy:D->PyData
 |.az=>.none
 |.ag b=>.bool b
 |.int i=>.int i
 |.str x=>.str x
 |.tup xs=>.tuple (fa xs)
 |.lst xs=>.list (fa xs)
 |.bU _=>.dict []
 |.bG _=>.dict []
 |.d7 _=>.dict []
 |.kt _=>.dict []
noncomputable def fa:List D->List PyData
 |[]=>[]
 |d::ds=>toPy d::fa ds
end
mutual
theorem mi:∀a b:D,Yt (toPy a) (toPy b)=ζ.ek a b
 |.az,b=>by cases b<;>rfl
 |.ag _,b=>by cases b<;>rfl
 |.int _,b=>by cases b<;>rfl
 |.str _,b=>by cases b<;>rfl
 |.tup xs,b=>by
  cases b with
  |tup ys=>exact rX xs ys
  |_=>rfl
 |.lst xs,b=>by
  cases b with
  |lst ys=>exact rX xs ys
  |_=>rfl
 |.bU _,b=>by cases b<;>rfl
 |.bG _,b=>by cases b<;>rfl
 |.d7 _,b=>by cases b<;>rfl
 |.kt _,b=>by cases b<;>rfl
theorem rX:∀a b:List D,VL (fa a) (fa b)=ζ.gY a b
 |[],[]=>rfl
 |[],_::_=>rfl
 |_::_,[]=>rfl
 |x::xs,y::ys=>by simp only[fa,VL,ζ.gY,mi x y,rX xs ys]
end
mutual
theorem lp:∀(n:Nat)(d:D),ζ.bg n d=J->(toPy d).canLay0=J/\(toPy d).depth<=n
 |n,.az,_=>⟨rfl,Od _⟩
 |n,.ag _,_=>⟨rfl,Od _⟩
 |n,.int _,_=>⟨rfl,Od _⟩
 |0,.str x,h=>⟨h,Od _⟩
 |n+1,.str x,h=>⟨h,Od _⟩
 |0,.tup _,h=>by cases h
 |n+1,.tup xs,h=>by
  obtain⟨a,b⟩:=tP n xs h;exact⟨a,by show UO (fa xs)+1<=n+1;lia⟩
 |0,.lst _,h=>by cases h
 |n+1,.lst xs,h=>by
  obtain⟨a,b⟩:=tP n xs h;exact⟨a,by show UO (fa xs)+1<=n+1;lia⟩
 |0,.bU _,h=>by cases h
 |n+1,.bU _,h=>by cases h
 |0,.bG _,h=>by cases h
 |n+1,.bG _,h=>by cases h
 |0,.d7 _,h=>by cases h
 |n+1,.d7 _,h=>by cases h
 |0,.kt _,h=>by cases h
 |n+1,.kt _,h=>by cases h
theorem tP:∀(n:Nat)(ds:List D),ds.all (ζ.bg n)=J->UQ (fa ds)=J/\UO (fa ds)<=n
 |n,[],_=>⟨rfl,Od _⟩
 |n,d::ds,h=>by
  simp only[Ua,N0]at h;obtain⟨a,b⟩:=lp n d h.1;obtain⟨c,e⟩:=tP n ds h.2;refine⟨by simp only[fa,UQ,a,c,Rz],?_⟩;show max (YH (toPy d)) (UO (fa ds))<=n;lia
end
def pD{d:D}(h:ζ.bg 60 d=J):SeqAt.shaped (toPy d)=true:=by
 obtain⟨a,b⟩:=lp 60 d h;unfold SeqAt.shaped;rw[a,Uv];exact decide_eq_true ⋯
section
variable{xp:bR}{X:ao}{aa:List Nat}{pg:ζ.ck}{Φ:ζ.c2}{pins:List (Tu×UK)}{σ:aQ}{G H:ah}{s:Tq}
mutual
theorem yZ (I:Inv X pins σ H s) (c:aD G H):∀(n:Nat){d:D}{v:V}{u:Ti},ζ.bg n d=J->Rep X.K G d v->RelV v u->∃as,YF s.heap u (toPy d) as
 |_,.az,_,_,_,h,r=>by cases h;cases r;exact⟨_,.none⟩
 |_,.ag b,_,_,_,h,r=>by cases h;cases r;exact⟨_,.bool b⟩
 |_,.int i,_,_,_,h,r=>by cases h;obtain⟨t,rfl⟩:=r;exact⟨_,.int i t⟩
 |_,.str x,_,_,_,h,r=>by cases h;obtain⟨t,rfl⟩:=r;exact⟨_,.str x t⟩
 |0,.tup ds,_,_,z,_,_=>by cases z
 |n+1,.tup ds,_,_,z,g,r=>by
  obtain⟨a,xs,e,h,q⟩:=g;subst e;cases r;obtain⟨its,m,⟨o,l,j,y,k⟩,_⟩:=I.tuple (eI c h);obtain⟨as,f⟩:=j2 I c n z q m;exact⟨as,.tuple l j k ⇑f⟩
 |0,.lst ds,_,_,z,_,_=>by cases z
 |n+1,.lst ds,_,_,z,g,r=>by
  obtain⟨a,xs,e,h,q⟩:=g;subst e;cases r;obtain⟨its,m,⟨o,y,l,j,_,k⟩,_⟩:=I.list (hn c h);obtain⟨as,f⟩:=j2 I c n z q m;exact⟨a::as,.list l j k ⇑f⟩
 |0,.bU _,_,_,z,_,_=>by cases z
 |n+1,.bU _,_,_,z,_,_=>by cases z
 |0,.bG _,_,_,z,_,_=>by cases z
 |n+1,.bG _,_,_,z,_,_=>by cases z
 |_,.d7 _,_,_,_,h,_=>h.elim
 |0,.kt _,_,_,z,_,_=>by cases z
 |n+1,.kt _,_,_,z,_,_=>by cases z
theorem j2 (I:Inv X pins σ H s) (c:aD G H):∀(n:Nat){ds:List D}{xs:List V}{p:List Ti},ds.all (ζ.bg n)=J->ax X.K G ds xs->Vals xs p->∃as,Xu s.heap p (fa ds) as
 |_,[],_,_,_,h,r=>by cases h;cases r;exact⟨_,.nil⟩
 |n,d::ds,_,_,z,g,r=>by
  obtain⟨v,t,e,w,h2⟩:=g;subst e;simp only[Ua,N0]at z;cases r with
  |cons A B =>
   obtain⟨as,f⟩:=yZ I c n z.1 w A;obtain⟨bs,C⟩:=j2 I c n z.2 h2 B;exact⟨as++bs,.cons f C⟩
end
def k8(I:Inv X pins σ H s)(c:aD G H)(h:View X.K G H d v)(r:RelV v u)(b:ζ.bg 60 d=J):∃as,YF s.heap u (toPy d) as:=by
 cases d with
 |bU i=>cases b
 |bG i=>cases b
 |lst ds =>
  obtain⟨a,xs,rfl,h,q⟩:=h;cases r;obtain⟨its,k,⟨o,n,g,e,_,f⟩,_⟩:=I.list h;obtain⟨as,j⟩:=j2 I c 59 b q k;exact⟨a::as,.list g e f ⇑j⟩
 |_=>exact yZ I c 60 b h r
def ee(K:W.Frag)(g:D->D->aU Bool):fc:=λx y H Q=>∃G a c,aD G H/\View K G H a x/\View K G H c y/\aO (g a c) (λb=>Q (.ag b) H) (λ_=>False)
def uy{r:aU Bool}:aO (ζ.fE r) Q E<->aO r (λb=>Q (!b)) E:=by cases r<;>exact Iff.rfl
def AO{x y:D}(h:aO (ζ.c5 x y) Q E):ζ.bg 60 x=J/\ζ.bg 60 y=J/\Q (ζ.ek x y):=by
 unfold ζ.c5 at h;cases q:(ζ.bg 60 x&&ζ.bg 60 y) with
 |false=>rw[q]at h;exact h.elim
 |true =>
  rw[q]at h;simp only[N0]at q;exact⟨q.1,q.2,h⟩
def Cd(c:X.A.units+64<UD):bu X (TN .Eq) (ee X.K (ζ.bL .eq)):=by
 rintro pins s σ H x y v u Q I f g ⟨G,j,k,b,h,i,hw⟩;rw[ζ.vv]at hw;obtain⟨a,h2,q⟩:=AO hw;obtain⟨as,d⟩:=k8 I b h f a;obtain⟨bs,e⟩:=k8 I b i g h2;refine eq_dataH d e (pD a) (pD h2) c ?_;rw[mi];exact⟨.ag _,H,I,rfl,q⟩
def Cn(c:X.A.units+64<UD):bu X (TN .NotEq) (ee X.K (ζ.bL .ne)):=by
 rintro pins s σ H x y v u Q I f g ⟨G,j,k,b,h,i,hw⟩;rw[ζ.vw]at hw;obtain⟨a,h2,q⟩:=AO (uy.mp hw);obtain⟨as,d⟩:=k8 I b h f a;obtain⟨bs,e⟩:=k8 I b i g h2;refine ne_dataH d e (pD a) (pD h2) c ?_;rw[mi];exact⟨.ag _,H,I,rfl,q⟩
end
section
open Classical in
def iH (h:TU) (dg:D) (y:Ti):Bool:=decide (∃(d:D)(as:List Tu),YF h y (toPy d) as/\ζ.bg 60 d=J/\ζ.ek d dg=J)
open Classical in
theorem vU (r:YF h y (toPy d) as) (hd:ζ.bg 60 d=J):iH h dg y=ζ.ek d dg:=by
 unfold iH;cases q:ζ.ek d dg with
 |true=>exact decide_eq_true ⟨d,as,r,hd,q⟩
 |false =>
  refine decide_eq_false ?_;rintro⟨d',NF,JB,NM,yO⟩;have e:=SeqAt.Reads.unique _ _ _ _ _ (lp 60 d hd).1 r JB;rw[<- mi]at q yO;rw[e,yO]at q;cases q
theorem qD:∀{ds:List D}{b:List Ti}{as:List Tu},Xu h b (fa ds) as->ds.all (ζ.bg 60)=J->b.any (iH h c)=ds.any λd=>ζ.ek d c
 |[],_,_,r,_=>by cases r;rfl
 |d::ds,_,_,r,a=>by
  cases r with
  |cons e f =>
   simp only[Ua,N0]at a;simp only[Uu,vU e a.1,qD f a.2]
theorem rT{X:ao}(j:X.A.units+64<UD)(g:YF s.heap v (toPy c) bs)(e:ζ.bg 60 c=J):∀{ds:List D}{h:List Ti}{as:List Tu},Xu s.heap h (fa ds) as->ds.all (ζ.bg 60)=J->∀y,y∈h->W4 X.A.in1 s y v (iH s.heap c y)
 |[],_,_,r,_,y,b=>by cases r;simp at b
 |d::ds,_,_,r,a,y,b=>by
  cases r with
  |cons f k =>
   simp only[Ua,N0]at a;rcases N3.mp b with rfl|b
   .rw[vU f a.1,<- mi];refine XJ _ _ _ _ _ _ _ _ f g (lp 60 _ a.1).1 (lp 60 _ e).1 ?_;have i:=(lp 60 _ a.1).2;show X.A.units+1+_<UD;have:min (toPy d).depth (toPy c).depth<=60:=Ol (Qf _ _) i;lia
   .exact rT j g e k a.2 y b
def AP{x:D}{ys:List D}(h:aO (ζ.eC x ys) Q E):ζ.bg 60 x=J/\ys.all (ζ.bg 60)=J/\Q (ζ.memD x ys):=by
 unfold ζ.eC at h;cases q:(ζ.bg 60 x&&ys.all (ζ.bg 60)) with
 |false=>rw[q]at h;exact h.elim
 |true =>
  rw[q]at h;simp only[N0]at q;exact⟨q.1,q.2,h⟩
def tT{K:W.Frag}{a:Tu}{xs:List V}{H:ah}(h:bT K (λ_=>Y) a xs):bT K H a xs:=by
 rcases h with(h|⟨o,h⟩)|h
 .cases h
 .cases h
 .exact .inr h
def w1{j:aQ}{ys:List D}(I:Inv X k j H s)(g:aD G H)(h:(View X.K G H (.tup ys) y\/View X.K G H (.lst ys) y)\/View X.K G H (.kt ys) y)(r:RelV y u)(i:ys.all (ζ.bg 60)=J):
  ∃(a:Tu)(its:List Ti)(as:List Tu),u=.ref a/\Xu s.heap its (fa ys) as/\(s.heap.IsTuple a its.toArray\/s.heap.IsList a its.toArray):=by
 rcases h with(⟨a,xs,rfl,h,q⟩|⟨a,xs,rfl,h,q⟩)|⟨a,xs,rfl,h,q⟩
 .cases r;obtain⟨its,f,⟨o,d,b,n,c⟩,_⟩:=I.tuple (eI g h);obtain⟨as,e⟩:=j2 I g 60 i q f;exact⟨a,its,as,rfl,e,.inl ⟨o,d,b,n,c⟩⟩
 .cases r;obtain⟨its,f,⟨o,n,d,b,_,c⟩,_⟩:=I.list h;obtain⟨as,e⟩:=j2 I g 60 i q f;exact⟨a,its,as,rfl,e,.inr ⟨o,d,b,n,c⟩⟩
 .cases r;obtain⟨its,f,⟨o,d,b,n,c⟩,_⟩:=I.tuple (tT h);obtain⟨as,e⟩:=j2 I g 60 i q f;exact⟨a,its,as,rfl,e,.inl ⟨o,d,b,n,c⟩⟩
def Cg(m:X.A.units+64<UD):bu X (TN .In) (ee X.K (ζ.bL .mem)):=by
 rintro o s A H x y v u Q I r t ⟨G,c,l,h,w,k,hw⟩;have i:∀ys,((View X.K G H (.tup ys) y\/View X.K G H (.lst ys) y)\/View X.K G H (.kt ys) y)->aO (ζ.eC c ys) (λb=>Q (.ag b) H) (λ_=>False)->Ts (Tw X.prog X.w) X.A (TN .In v u) (cJ X o A Q) X.aV s:=by
  intro ys n hw;obtain⟨f,h2,q⟩:=AP hw;obtain⟨bs,p⟩:=k8 I h w r f;obtain⟨a,its,as,rfl,j,d⟩:=w1 I h n t h2;have e:its.toArray.any (iH s.heap c)=ζ.memD c ys:=(by rw[XP];exact qD j h2);have g:∀z,z∈its.toArray->W4 X.A.in1 s z v (iH s.heap c z):=λz hz=>rT m p f j h2 z ⇑hz
  rcases d with d|d
  .exact SeqAt.in_tupleAt _ d g (by rw[e];exact⟨.ag _,H,I,rfl,q⟩)
  .exact SeqAt.in_listAt _ d g (by rw[e];exact⟨.ag _,H,I,rfl,q⟩)
 cases l with
 |tup ys=>exact i ys (.inl (.inl k)) hw
 |lst ys=>exact i ys (.inl (.inr k)) hw
 |_=>cases c<;>exact hw.elim
def Co(m:X.A.units+64<UD):bu X (TN .NotIn) (ee X.K (ζ.bL .gg)):=by
 rintro o s A H x y v u Q I r t ⟨G,c,l,j,w,g,hw⟩;have f:∀ys,((View X.K G H (.tup ys) y\/View X.K G H (.lst ys) y)\/View X.K G H (.kt ys) y)->aO (ζ.fE (ζ.eC c ys)) (λb=>Q (.ag b) H) (λ_=>False)->Ts (Tw X.prog X.w) X.A (TN .NotIn v u) (cJ X o A Q) X.aV s:=by
  intro ys n hw;obtain⟨h,h2,q⟩:=AP (uy.mp hw);obtain⟨bs,p⟩:=k8 I j w r h;obtain⟨a,its,as,rfl,k,d⟩:=w1 I j n t h2;have e:its.toArray.any (iH s.heap c)=ζ.memD c ys:=(by rw[XP];exact qD k h2);have i:∀z,z∈its.toArray->W4 X.A.in1 s z v (iH s.heap c z):=λz hz=>rT m p h k h2 z ⇑hz
  rcases d with d|d
  .exact SeqAt.notIn_tupleAt _ d i (by rw[e];exact⟨.ag _,H,I,rfl,q⟩)
  .exact SeqAt.notIn_listAt _ d i (by rw[e];exact⟨.ag _,H,I,rfl,q⟩)
 cases l with
 |tup ys=>exact f ys (.inl (.inl g)) hw
 |lst ys=>exact f ys (.inl (.inr g)) hw
 |kt ys=>exact f ys (.inr g) hw
 |_=>cases c<;>exact hw.elim
def w8{K:W.Frag}(b:View K G H d x)(g:View K G H e y)(c:RelV x v)(f:RelV y u)(h:aO (ζ.my d e) Q E):
  u=.none/\Q (v==.none):=by
 cases e with
 |az =>
  cases g;cases f;refine⟨rfl,?_⟩;cases d with
  |az=>cases b;cases c;exact h
  |ag _=>cases b;cases c;exact h
  |int _=>cases b;obtain⟨t,rfl⟩:=c;exact h
  |str _=>cases b;obtain⟨t,rfl⟩:=c;exact h
  |tup _=>obtain⟨a,xs,rfl,_⟩:=b;cases c;exact h
  |lst _=>obtain⟨a,xs,rfl,_⟩:=b;cases c;exact h
  |bU _=>obtain⟨a,rfl,_⟩:=b;cases c;exact h
  |bG _=>obtain⟨a,_,rfl,_⟩:=b;cases c;exact h
  |d7 _=>exact b.elim
  |kt _=>obtain⟨a,xs,rfl,_⟩:=b;cases c;exact h
 |_=>exact h.elim
def Ci:bu X (TN .Is) (ee X.K (ζ.bL .is)):=by
 rintro h s i H x y v u Q I c d ⟨G,a,b,g,e,f,hw⟩;have hw:aO (ζ.my a b) _ _:=hw;obtain⟨rfl,q⟩:=w8 e f c d hw;exact is_none_gen ⟨.ag _,H,I,rfl,q⟩
def Cj:bu X (TN .IsNot) (ee X.K (ζ.bL .oJ)):=by
 rintro h s i H x y v u Q I c d ⟨G,a,b,g,e,f,hw⟩;have hw:aO (ζ.fE (ζ.my a b)) _ _:=hw;obtain⟨rfl,q⟩:=w8 e f c d (uy.mp hw);exact isnot_none_gen ⟨.ag _,H,I,rfl,q⟩
end
section
variable{xp:bR}{X:ao}{aa:List Nat}{m:dk}{aT bD bF:aB->aU D}{a b c:TG}{pos:Vb}
def sT{d:D}(h:ζ.dS 0 d=J):∃i,d=.int i:=by
 cases d with
 |int i=>exact⟨i,rfl⟩
 |_=>cases h
theorem oV:∀{ds:List D},ds.all (ζ.dS 0)=J->∃ns:List Int,ds=ns.map ζ.D.int
 |[],_=>⟨[],rfl⟩
 |d::ds,h=>by
  simp only[Ua,N0]at h;obtain⟨i,rfl⟩:=sT h.1;obtain⟨ns,rfl⟩:=oV h.2;exact⟨i::ns,rfl⟩
def xM{d:D}(h:ζ.dS 1 d=J):∃ns:List Int,d=.tup (ns.map ζ.D.int):=by
 cases d with
 |tup ds=>obtain⟨ns,rfl⟩:=oV h;exact⟨ns,rfl⟩
 |_=>cases h
theorem gL{K:W.Frag}:∀{ns:List Int}{xs:List V},ax K G (ns.map ζ.D.int) xs->xs=ns.map V.int
 |[],_,h=>h
 |n::ns,_,⟨v,r,e,d,h2⟩=>by
  subst e;have d:v=.int n:=d;rw[d,gL h2];rfl
theorem mH:∀a b:List Int,ζ.g7 (a.map ζ.D.int) (b.map ζ.D.int)=Z (bx.lexLt a b)
 |[],[]=>rfl
 |[],_::_=>rfl
 |_::_,[]=>rfl
 |x::a,y::b=>by
  rw[show ζ.g7 ((x::a).map ζ.D.int) ((y::b).map ζ.D.int)=if (x==y)=J then ζ.g7 (a.map .int) (b.map .int) else Z (decide (x<y)) from rfl,mH a b];simp only[bx.lexLt]
  by_cases h:x=y<;>simp[h]
def Cm(z:X.A.units+64<UD):bu X (TN .Lt) (ee X.K (ζ.bL .lt)):=by
 rintro h s p H x y v u Q I k l ⟨G,e,f,g,n,o,hw⟩;rw[ζ.rA]at hw;unfold ζ.jQ at hw;cases q:((ζ.dS 0 e&&ζ.dS 0 f)||(ζ.dS 1 e&&ζ.dS 1 f)) with
 |false=>rw[q]at hw;exact hw.elim
 |true =>
  rw[q]at hw;simp only[O6]at hw;simp only[P0,N0]at q;rcases q with⟨d,h2⟩|⟨d,h2⟩
  .obtain⟨i,rfl⟩:=sT d;obtain⟨j,rfl⟩:=sT h2;exact Ii h s p H x y v u Q I k l ⟨i,j,n,o,hw⟩
  .obtain⟨ns,rfl⟩:=xM d;obtain⟨r,rfl⟩:=xM h2;obtain⟨a,xs,e1,k1,t⟩:=n;obtain⟨b,ys,e2,k2,w⟩:=o;rw[gL t]at k1;rw[gL w]at k2;refine Ij ⋯ h s p H x y v u Q I k l ⟨a,b,ns,r,e1,e2,eI g k1,eI g k2,?_⟩;simp only[ζ.g6,mH,ζ.tf]at hw;exact hw
def Ck:bu X (TN .LtE) (ee X.K (ζ.bL .le)):=by
 rintro f s k H x y v u Q I g h ⟨G,d,e,l,i,j,hw⟩;cases d<;>cases e<;>first|exact hw.elim|skip
 exact Ih f s k H x y v u Q I g h ⟨_,_,i,j,hw⟩
def Ce:bu X (TN .GtE) (ee X.K (ζ.bL .ge)):=by
 rintro f s k H x y v u Q I g h ⟨G,d,e,l,i,j,hw⟩;cases d<;>cases e<;>first|exact hw.elim|skip
 exact Ie f s k H x y v u Q I g h ⟨_,_,i,j,hw⟩
def Cf:bu X (TN .Gt) (ee X.K (ζ.bL .gt)):=by
 rintro f s k H x y v u Q I g h ⟨G,d,e,l,i,j,hw⟩;cases d<;>cases e<;>first|exact hw.elim|skip
 exact Ig f s k H x y v u Q I g h ⟨_,_,i,j,hw⟩
theorem aW.ag{K:W.Frag}{b:Bool}:aW K H d e m (.ag b) (.ag b):=by cases m<;>rfl
theorem aW.int{K:W.Frag}:aW K H d e m (.int i) (.int i):=by cases m<;>rfl
def aW.o7{K:W.Frag}{b:Bool}(h:aW K H d e m (.ag b) v):v=.ag b:=by cases m<;>exact h
def aW.kV{K:W.Frag}(h:aW K H d e m (.int i) v):v=.int i:=by cases m<;>exact h
def rB(o:ζ.ik)(aT bD:aB->aU D):aB->aU D:=λd=>aT d>>=λx=>bD d>>=λy=>ζ.bL o x y>>=λk=>.ok (.ag k)
def jX{α:Type}:aU α->Bool
 |.exc _=>Th
 |_=>J
def x4{α:Type}{r:aU α}(h:jX r=J)(c):r≠.exc c:=λe=>by rw[e]at h;cases h
def iY{α:Type}{p:Prop}[Decidable p]{a b:aU α}(d:jX a=J)(e:jX b=J):jX (if p then a else b)=true:=by by_cases h:p<;>simp[h,d,e]
def ta(h:jX r=J):jX (ζ.fE r)=true:=by cases r<;>first|rfl|exact h
def HP(o):jX (ζ.tf o)=true:=by cases o<;>rfl
def ry(o)(x y:D)(c):ζ.bL o x y≠.exc c:=by
 refine x4 ?_ c;cases o with
 |eq=>exact iY rfl rfl
 |ne=>exact ta (iY rfl rfl)
 |lt=>exact iY (HP _) rfl
 |mem=>cases y<;>first|rfl|exact iY rfl rfl
 |gg=>cases y<;>first|rfl|exact ta (iY rfl rfl)
 |is=>cases y<;>rfl
 |oJ=>exact ta (by cases y<;>rfl)
 |gt=>cases x<;>cases y<;>rfl
 |ge=>cases x<;>cases y<;>rfl
 |le=>cases x<;>cases y<;>rfl
def ie{α:Type}{r:aU α}{Q:α->Prop}(h:aO r Q E)(d:∀c,r≠.exc c):aO r Q uD:=by
 cases r with
 |ok a=>exact h
 |exc c=>exact absurd rfl (d c)
 |bad=>exact h
def z6{l:aQ}(h:ar xp X aa m (rB o aT bD) l H Q):nx (ee X.K (ζ.bL o)) (ar xp X aa .view aT) (ar xp X aa .view bD) l H Q:=by
 obtain⟨G,j,i,hw⟩:=h;refine⟨G,j,i,aM (av.mp hw) (λf k v n t x1 r=>?_) λ_ q=>q⟩;refine⟨n,j,i.ext x1,aM (av.mp k) (λg k2 u e p d s=>?_) λ_ q=>q.mono x1.h⟩;refine⟨e,f,g,d.sub,View.ext d r,s,?_⟩;exact aM (ie (av.mp k2) (λc=>ry o f g c)) (λk q=>q (.ag k) e p (x1.trans d) aW.ag) λ_ q=>q
def J9(g:bu X (TN op) (ee X.K (ζ.bL o)))(d:ai X a (ar xp X aa .view aT))(e:ai X b (ar xp X aa .view bD))(f:Vh op b=Th):
  ai X (.Compare a [op] [b] pos) (ar xp X aa m (rB o aT bD)):=λi s j H Q I h=>IE g d e f i s j H Q I (z6 h)
def eJ(xp:bR)(X:ao)(aa:List Nat)(f:aB->aU D):TT:=λh H Q =>
 ∃G e,cC X.K aa G H e h/\aO (f e>>=ζ.dW) (λb=>∀g d,Ext G H g d->Q b d) (λc=>cG xp X c H)
def t6{g:aQ}(h:eJ xp X aa f g H Q):ar xp X aa .view f g H (λx e=>∃k,x=.ag k/\Q k e):=by
 obtain⟨G,l,j,hw⟩:=h;refine⟨G,l,j,aM (av.mp hw) (λd k v i e x r=>?_) λ_ q=>q⟩;cases d with
 |ag b=>exact⟨b,aW.o7 r,k i e x⟩
 |_=>exact k.elim
def Kc(g:bu X (TN op) (ee X.K (ζ.bL o)))(d:ai X a (ar xp X aa .view aT))(e:ai X b (ar xp X aa .view bD))(f:Vh op b=Th):
  cp X (.Compare a [op] [b] pos) (eJ xp X aa (rB o aT bD)):=λi s j H Q I h=>Ju g d e f i s j H Q I (z6 (t6 h))
def hZ(h:ai X a (ar xp X aa .view f))(e:∀d,W2 a X.env d=(do let v <- d;standAt a.pos;Xf [v] (truthy v))):cp X a (eJ xp X aa f):=λg s i H Q I hw=>Jw h e g s i H Q I (t6 hw)
def uS(aT bD:aB->aU D):aB->aU D:=λd=>aT d>>=λx=>ζ.dW x>>=λk=>if k then bD d else .ok (.ag Th)
def ye(aT bD:aB->aU D):aB->aU D:=λd=>aT d>>=λx=>ζ.dW x>>=λk=>if k then .ok (.ag J) else bD d
def x9(aT:aB->aU D):aB->aU D:=λd=>aT d>>=λx=>ζ.dW x>>=λk=>.ok (.ag (!k))
def aW.back{K:W.Frag}(s:aD H g)(h:aW K g e f m d v):aW K H e f m d v:=aW.old s h
def zf{rest:List TG}(n:ai X a (ar xp X aa .view aT))(o:ai X (.BoolOp .And (b::rest) pos) (ar xp X aa m bD)):ai X (.BoolOp .And (a::b::rest) pos) (ar xp X aa m (uS aT bD)):=by
 rintro p s x H Q I ⟨G,g,f,hw⟩;refine tl n o p s x H Q I ?_;refine⟨G,g,f,aM (av.mp hw) (λl k v e i x1 r=>?_) λ_ q=>q⟩;cases l with
 |ag b =>
  refine⟨b,aW.o7 r,?_⟩;cases b with
  |true =>
   simp only[O6];exact⟨e,g,f.ext x1,aM k (λd q u h j w t=>q u h j (x1.trans w) (aW.back x1.h t)) λ_ q=>q.mono x1.h⟩
  |false =>
   simp only[N4,Ox];exact k (.ag Th) e i x1 aW.ag
 |_=>exact k.elim
def zp{rest:List TG}(n:ai X a (ar xp X aa .view aT))(o:ai X (.BoolOp .Or (b::rest) pos) (ar xp X aa m bD)):ai X (.BoolOp .Or (a::b::rest) pos) (ar xp X aa m (ye aT bD)):=by
 rintro p s x H Q I ⟨G,g,f,hw⟩;refine IK n o p s x H Q I ?_;refine⟨G,g,f,aM (av.mp hw) (λl k v e i x1 r=>?_) λ_ q=>q⟩;cases l with
 |ag b =>
  refine⟨b,aW.o7 r,?_⟩;cases b with
  |false =>
   simp only[N4,Ox];exact⟨e,g,f.ext x1,aM k (λd q u h j w t=>q u h j (x1.trans w) (aW.back x1.h t)) λ_ q=>q.mono x1.h⟩
  |true =>
   simp only[O6];exact k (.ag J) e i x1 aW.ag
 |_=>exact k.elim
def KA(g:ai X a (ar xp X aa .view aT)):ai X (.UnaryOp .Not a pos) (ar xp X aa m (x9 aT)):=by
 rintro i s n H Q I ⟨G,l,h,hw⟩;refine yw g i s n H Q I ?_;refine⟨G,l,h,aM (av.mp hw) (λf k v d e x1 j=>?_) λ_ q=>q⟩;cases f with
 |ag b=>exact⟨b,aW.o7 j,k (.ag (!b)) d e x1 aW.ag⟩
 |_=>exact k.elim
def zg{rest:List TG}(l:cp X a (eJ xp X aa aT))(n:fO X (.BoolOp .And (b::rest) pos) (eJ xp X aa bD)):fO X (.BoolOp .And (a::b::rest) pos) (eJ xp X aa (uS aT bD)):=by
 rintro p o s t H Q I ⟨G,g,f,hw⟩;refine Jx l n p o s t H Q I ?_;refine⟨G,g,f,?_⟩;refine av.mpr (aM (av.mp (av.mp hw)) (λu k=>aM (av.mp k) (λb k2 e i x1=>?_) λ_ q=>q) λ_ q=>q);cases b with
 |true =>
  simp only[O6]at k2 ⊢;exact⟨e,g,f.ext x1,aM (av.mpr k2) (λd q h j r=>q h j (x1.trans r)) λ_ q=>q.mono x1.h⟩
 |false =>
  simp only[N4,Ox]at k2 ⊢;exact k2 e i x1
def zq{rest:List TG}(l:cp X a (eJ xp X aa aT))(n:fO X (.BoolOp .Or (b::rest) pos) (eJ xp X aa bD)):fO X (.BoolOp .Or (a::b::rest) pos) (eJ xp X aa (ye aT bD)):=by
 rintro p o s t H Q I ⟨G,g,f,hw⟩;refine Jz l n p o s t H Q I ?_;refine⟨G,g,f,?_⟩;refine av.mpr (aM (av.mp (av.mp hw)) (λu k=>aM (av.mp k) (λb k2 e i x1=>?_) λ_ q=>q) λ_ q=>q);cases b with
 |false =>
  simp only[N4,Ox]at k2 ⊢;exact⟨e,g,f.ext x1,aM (av.mpr k2) (λd q h j r=>q h j (x1.trans r)) λ_ q=>q.mono x1.h⟩
 |true =>
  simp only[O6]at k2 ⊢;exact k2 e i x1
def KC(f:cp X a (eJ xp X aa aT)):cp X (.UnaryOp .Not a pos) (eJ xp X aa (x9 aT)):=by
 rintro h s j H Q I ⟨G,i,g,hw⟩;refine Jv f h s j H Q I ?_;refine⟨G,i,g,?_⟩;exact av.mpr (aM (av.mp (av.mp hw)) (λl k=>aM (av.mp k) (λb k2 d e x1=>k2 d e x1) λ_ q=>q) λ_ q=>q)
def rz(o f:ζ.ik)(aT bD bF:aB->aU D):aB->aU D:=λd=>aT d>>=λx=>bD d>>=λy=>ζ.bL o x y>>=λk=>if k then bF d>>=λz=>ζ.bL f y z>>=λe=>.ok (.ag e) else .ok (.ag Th)
def z7{t:aQ}(h:ar xp X aa m (rz o r aT bD bF) t H Q):tZ (ee X.K (ζ.bL o)) (ee X.K (ζ.bL r)) (ar xp X aa .view aT) (ar xp X aa .view bD) (ar xp X aa .view bF) t H Q:=by
 obtain⟨G,j,g,hw⟩:=h;refine⟨G,j,g,aM (av.mp hw) (λn k v u B x1 y=>?_) λ_ q=>q⟩;refine⟨u,j,g.ext x1,aM (av.mp k) (λe k2 C f w d s=>?_) λ_ q=>q.mono x1.h⟩;refine⟨f,n,e,d.sub,View.ext d y,s,?_⟩;refine aM (ie (av.mp k2) (λc=>ry o n e c)) (λk q=>?_) λ_ q=>q
 refine⟨k,rfl,?_⟩;cases k with
 |false =>
  simp only[N4,Ox]at q ⊢;exact q (.ag Th) f w (x1.trans d) aW.ag
 |true =>
  simp only[O6]at q ⊢;refine⟨f,j,(g.ext x1).ext d,aM (av.mp q) (λp k3 E l x i A=>?_) λ_ z=>(z.mono x1.h).mono d.h⟩;refine⟨l,e,p,i.sub,View.ext i s,A,?_⟩;exact aM (ie (av.mp k3) (λc=>ry r e p c)) (λk q=>q (.ag k) l x ((x1.trans d).trans i) aW.ag) λ_ q=>q
def Ka(i:bu X (TN op) (ee X.K (ζ.bL o)))(j:bu X (TN op') (ee X.K (ζ.bL k)))(d:ai X a (ar xp X aa .view aT))(e:ai X b (ar xp X aa .view bD))(f:ai X c (ar xp X aa .view bF))(g:WL [op,op'] [b,c]=Th):
  ai X (.Compare a [op,op'] [b,c] pos) (ar xp X aa m (rz o k aT bD bF)):=λl s n H Q I h=>ID i j d e f g l s n H Q I (z7 h)
def Kb(i:bu X (TN op) (ee X.K (ζ.bL o)))(j:bu X (TN op') (ee X.K (ζ.bL k)))(d:ai X a (ar xp X aa .view aT))(e:ai X b (ar xp X aa .view bD))(f:ai X c (ar xp X aa .view bF))(g:WL [op,op'] [b,c]=Th):
  cp X (.Compare a [op,op'] [b,c] pos) (eJ xp X aa (rz o k aT bD bF)):=λl s n H Q I h=>Jt i j d e f g l s n H Q I (z7 (t6 h))
end
section
variable{xp:bR}{X:ao}{aa:List Nat}{m:dk}{aT bD bF:aB->aU D}{a b c:TG}{pos:Vb}{pins:List (Tu×UK)}{σ:aQ}{G H:ah}{s:Tq}
def xZ(I:Inv X pins σ H s)(f:aD G H)(r:Vals xs its)(q:ax X.K G ds xs)(hz:xs.length<=TH)(k:∀v d e,Ext G H d e->Rep X.K d (.tup ds) v->Q v e):cJ X pins σ Q (.ref s.heap.objs.size) { s with heap:=s.heap.push { cls:=.type "tuple",data:=.seq its.toArray } }:=by
 refine⟨.ref s.heap.objs.size,_,I.laid (t':=s.toks) (o:=.tup xs) (λb g q=>N1 _ q) (N2 _) ⟨hz,its,r,YC _ _⟩,rfl,?_⟩;exact k _ (upd G s.heap.objs.size (.tup xs)) _ (Ext.put f I.fresh) ⟨_,xs,rfl,bE,q.mono (du (f.free I.fresh))⟩
def xY(I:Inv X pins σ H s)(f:aD G H)(r:Vals xs its)(q:ax X.K G ds xs)(hz:xs.length<=TH)(k:∀v e d,Ext G H e d->aW X.K H e d .fresh (.lst ds) v->Q v d):cJ X pins σ Q (.ref s.heap.objs.size) { s with heap:=s.heap.push { cls:=.type "list",data:=.seq its.toArray } }:=by
 refine⟨.ref s.heap.objs.size,_,I.xG (t':=s.toks) r hz,rfl,?_⟩;exact k _ G _ (Ext.own f I.fresh λ_ z=>nomatch z) ⟨_,xs,rfl,bE,I.fresh,f.free I.fresh,q⟩
def gP{ds:List D}(h:View X.K G H (.lst ds) v):∃a xs,v=.ref a/\cb X.K H a xs/\ax X.K G ds xs:=h
def AH{ds:List D}(h:View X.K G H (.kt ds) v):∃a xs,v=.ref a/\bT X.K H a xs/\ax X.K G ds xs:=by
 obtain⟨a,xs,e,h,r⟩:=h;exact⟨a,xs,e,tT h,r⟩
def ic(d:aD G H){ds:List D}(h:View X.K G H (.tup ds) v):∃a xs,v=.ref a/\bT X.K H a xs/\ax X.K G ds xs:=by
 obtain⟨a,xs,e,k,r⟩:=h;exact⟨a,xs,e,eI d k,r⟩
def gS:ζ.SZ=sizeLine:=by rw[TL];rfl
def Df:bu X (Ur .Add) (hX X.K (ζ.dq .add)):=by
 rintro pins s σ H x y v u Q I L M ⟨G,a3,p,d,B,C,hw⟩;cases a3 with
 |int i =>
  cases p with
  |int j=>exact Ia pins s σ H x y v u Q I L M ⟨_,_,B,C,hK d hw rfl⟩
  |_=>exact hw.elim
 |str i =>
  cases p with
  |str j =>
   rw[ζ.add_str]at hw
   by_cases h:i.length+j.length<=ζ.SZ
   .rw[if_pos h]at hw;exact Ib pins s σ H x y v u Q I L M ⟨_,_,B,C,by rw[<- gS];exact h,hK d hw rfl⟩
   .rw[if_neg h]at hw;exact hw.elim
  |_=>exact hw.elim
 |tup ds =>
  cases p with
  |tup E =>
   rw[ζ.qy]at hw
   by_cases h:ds.length+E.length<=ζ.SZ
   .rw[if_pos h]at hw;obtain⟨l,xs,rfl,k1,f⟩:=ic d B;obtain⟨b,ys,rfl,k2,g⟩:=ic d C;cases L;cases M;obtain⟨its,k,p1,_⟩:=I.tuple k1;obtain⟨A,o,p2,_⟩:=I.tuple k2;have hz:xs.length+ys.length<=sizeLine:=by rw[<- f.length,<- g.length,<- gS];exact h
    by_cases e0:its=[]
    .-- b2 left b1 aF au
     subst e0;have:ds=[]:=by
      have e:=f.length;have h2:=k.length;simp at h2;rw[h2]at e;simp at e;exact e
     subst this;obtain⟨⟨a0,dd,a2,R⟩,T,q,n,t⟩:=id p1;obtain⟨⟨a1,N,data2,S⟩,U,r,O,w⟩:=id p2;simp only at q t r w;subst q t r w;refine SK ⟨_,T,rfl⟩ ⟨_,U,rfl⟩ Sz S4 Q6 Q1 (QV _ _)
      (tuple_addW0 l b _ A.toArray n O dd N R S rfl) ⟨T,U,?_⟩
     exact⟨.ref b,H,I,rfl,hw _ G H (Ext.refl d) C⟩
    .refine bx.Cs p1 p2 e0 (λz=>?_) (λz=>?_) (by rw[<- k.length,<- o.length];exact hz)
     .have:E=[]:=by
       have e:=g.length;have h2:=o.length;rw[z]at h2;simp at h2;rw[h2]at e;simp at e;exact e
      subst this;rw[Pz]at hw;exact⟨.ref l,H,I,rfl,hw _ G H (Ext.refl d) B⟩
     .exact xZ I d (k.append o) (f.append g) (by rw[N7];exact hz) hw
   .rw[if_neg h]at hw;exact hw.elim
  |_=>exact hw.elim
 |lst ds =>
  cases p with
  |lst E =>
   rw[ζ.kr]at hw
   by_cases h:ds.length+E.length<=ζ.SZ
   .rw[if_pos h]at hw;obtain⟨l,xs,rfl,k1,f⟩:=gP B;obtain⟨b,ys,rfl,k2,g⟩:=gP C;cases L;cases M;obtain⟨its,k,⟨a5,n,e1,q,aw,t⟩,_⟩:=I.list k1;obtain⟨A,o,⟨aq,O,e2,r,ay,w⟩,_⟩:=I.list k2;have hz:xs.length+ys.length<=sizeLine:=(by rw[<- f.length,<- g.length,<- gS];exact h);obtain⟨a0,dd,a2,R⟩:=a5;obtain⟨a1,N,data2,S⟩:=aq;simp only at q t r w;subst q t r w;refine SK ⟨_,e1,rfl⟩ ⟨_,e2,rfl⟩ noFill_list_add seq_list_add F.slot_list_add F.entry_list_add (F.args_list_add_2 _ _)
     (list_addW l b its.toArray A.toArray n O dd N R S (by rw[Oc,Oc,<- k.length,<- o.length];exact hz)) ⟨e1,e2,?_⟩
    have a4:its.toArray++A.toArray=(its++A).toArray:=(by simp);rw[a4];exact xY I d (k.append o) (f.append g) (by rw[N7];exact hz) hw
   .rw[if_neg h]at hw;exact hw.elim
  |_=>exact hw.elim
 |_=>cases p<;>exact hw.elim
end
end aE
end
section
namespace aE
open PySem PySem.Spec PyProof.Rows aC PySem.MeetsSeq
section
variable{xp:bR}{X:ao}{aa:List Nat}{m:dk}{aT bD bF:aB->aU D}{a b c:TG}{pos:Vb}{pins:List (Tu×UK)}{σ:aQ}{G H:ah}{s:Tq}
theorem ax.rep{K:W.Frag}(h:ax K G ds xs):∀k:Nat,ax K G (TJ k ds).flatten (TJ k xs).flatten
 |0=>by simp[ax]
 |k+1=>by rw[PK,PK,Ud,Ud];exact h.append (ax.rep h k)
def Dk:bu X (Ur .Mult) (hX X.K (ζ.dq .mul)):=by
 rintro pins s σ H x y v u Q I z A ⟨G,E,f,r,C,e,hw⟩;cases E with
 |int i =>
  cases f with
  |int j =>
   rw[ζ.mul_int]at hw
   by_cases h:(-ζ.dJ<i/\i<ζ.dJ)\/(-ζ.dJ<j/\j<ζ.dJ)
   .rw[if_pos h]at hw;exact Il pins s σ H x y v u Q I z A ⟨_,_,C,e,h,hK r hw rfl⟩
   .rw[if_neg h]at hw;exact hw.elim
  |_=>exact hw.elim
 |lst ds =>
  cases f with
  |int j =>
   have hw:aO (if 0<=j/\j<=1000/\ds.length<=1000 then ζ.R.ok (ζ.D.lst (TJ j.toNat ds).flatten) else .bad) _ _:=hw
   by_cases h:0<=j/\j<=1000/\ds.length<=1000
   .rw[if_pos h]at hw;obtain⟨h0,a2,h2⟩:=h;obtain⟨l,xs,rfl,k1,w⟩:=gP C;cases z;have e:y=.int j:=e;subst e;obtain⟨t,rfl⟩:=A;obtain⟨its,g,⟨⟨a0,dd,a1,B⟩,n,d,o,_,p⟩,_⟩:=I.list k1;simp only at o p;subst o p;have O:its.length=ds.length:=(by rw[<- g.length,<- w.length]);have q:its.toArray.size*j.toNat<=sizeLine:=by
     rw[Oc,O,TL];exact Ol (Nat.mul_le_mul h2 (show j.toNat<=1000 by lia)) ∅
    have M:¬its.toArray.size*j.toNat>(2 ^ 63-1) / 8:=by
     have:(TH:Nat)<=(2 ^ 63-1) / 8:=∅;lia
    have N:¬(!Builtin.List.listFitsIndex j)=true:=by
     rw[fitsIndex_both ⋯ ⋯];exact OL
    have R:¬UR (its.toArray.size*j.toNat)=true:=by
     rw[x7 q];exact OL
    have S:Yg (λx1 k=>x1++k) #[] (TJ (if its.toArray.isEmpty=J then 0 else j.toNat) its.toArray)=(TJ j.toNat its).flatten.toArray:=by
     have L:∀m:Nat,Yg (λx1 k=>x1++k) #[] (TJ m its.toArray)=(TJ m its).flatten.toArray:=λm=>by
      have:=foldl_rep its m [];rw[UU]at this;exact this
     rw[L];cases its with
     |nil=>simp
     |cons _ _=>rfl
    refine wpAny_binaryOp_repeat_ref (T:="list") (U:="int") ∅ ⟨_,d,rfl⟩ (λs'=>typeIs_int s' j t) noFill_list_mul F.fills_int_mul F.slot_int_rmul repeat_list F.slot_int_index.lookup
     (Q0 F.slot_int_rmul (typeIs_int s j t) F.entry_int_rmul (F.args_int_rmul_2 _ _) (lm_int_rmul_list_any j t l its.toArray n dd B)
      ⟨d,rfl,⟨_,d,rfl⟩,Q0 F.slot_list_mul ⟨_,d,rfl⟩ F.entry_list_mul (F.args_list_mul_2 _ _) (lm_list_mul_any l its.toArray n dd B j t N M R) ⟨d,?_⟩⟩)
    rw[S];exact xY I r (g.rep j.toNat) (w.rep j.toNat) (by rw[len_rep,Nat.mul_comm,g.length];simpa using q) hw
   .rw[if_neg h]at hw;exact hw.elim
  |_=>exact hw.elim
 |_=>cases f<;>exact hw.elim
end
end aE
end
section
namespace aE
open PySem PySem.Spec PyProof.Rows aC
section
variable{xp:bR}{X:ao}{aa:List Nat}{m:dk}{f aT bD bF:aB->aU D}{bp:aB->aU (List D)}{a b c e:TG}{aA:List TG}{pos:Vb}{pins:List (Tu×UK)}{σ:aQ}{G H:ah}{s:Tq}
def zo(l:ai X a (ar xp X aa .view aT)):ai X (.UnaryOp .USub a pos) (ar xp X aa m λd=>aT d>>=λx=>ζ.dw x>>=λi=>.ok (.int (-i))):=by
 rintro pins s σ H Q I ⟨G,d,n,hw⟩;refine IP M4 l pins s σ H Q I ?_;refine⟨G,d,n,aM (av.mp hw) (λj k v g h x1 o=>?_) λ_ q=>q⟩;cases j with
 |int i=>exact⟨i,aW.kV o,k (.int (-i)) g h x1 aW.int⟩
 |_=>exact k.elim
def i8(xp:bR)(X:ao)(aa:List Nat)(f:aB->aU (List D)):dM:=λσ H Q =>
 ∃G i,cC X.K aa G H i σ/\aO (f i) (λds=>∀h d g,Ext G H d g->ax X.K d ds h->Q h g) (λc=>cG xp X c H)
def Ky:dK X [] (i8 xp X aa λ_=>.ok []):=by
 rintro p pins s σ H Q I ⟨G,g,d,hw⟩;exact hc p pins s σ H Q I (hw [] G H (Ext.refl d.sub) rfl)
def Kd(o:ai X e (ar xp X aa .val f))(r:dK X aA (i8 xp X aa bp))(t:TF (e::aA) X.env=(Th,Uc e X.env)::TF aA X.env):dK X (e::aA) (i8 xp X aa λd=>f d>>=λx=>bp d>>=λxs=>.ok (x::xs)):=by
 rintro p pins s σ H Q I ⟨G,d,g,hw⟩;refine fv o r t p pins s σ H Q I ?_;refine⟨G,d,g,aM (av.mp hw) (λz k v j y x1 u=>?_) λ_ q=>q⟩;refine⟨j,d,g.ext x1,aM (av.mp k) (λds k2 h l n i w=>?_) λ_ q=>q.mono x1.h⟩;exact k2 (v::h) l n (x1.trans i) ⟨v,h,rfl,Rep.mono i.g u,w⟩
def KU(h:dK X aA (i8 xp X aa bp))(n:∀d ds,bp d=.ok ds->ds.length<=TH):ai X (.Tuple aA j pos) (ar xp X aa .val λd=>bp d>>=λds=>.ok (.tup ds)):=by
 rintro pins s σ H Q I ⟨G,d,o,hw⟩;refine yy h pins s σ H Q I ?_;refine⟨G,d,o,?_⟩;have hw:=av.mp hw;cases q:bp d with
 |ok ds =>
  rw[q]at hw;intro k l r x1 i;refine⟨by rw[<- i.length];exact n d ds q,λp g=>?_⟩;exact hw (.ref p) (upd l p (.tup k)) _ (x1.trans (Ext.put x1.sub g)) ⟨p,k,rfl,bE,i.mono (du (x1.sub.free g))⟩
 |exc c=>rw[q]at hw;exact hw
 |bad=>rw[q]at hw;exact hw
def Ku(h:dK X aA (i8 xp X aa bp))(k:∀d ds,bp d=.ok ds->ds.length<=TH):ai X (.List aA pos) (ar xp X aa .fresh λd=>bp d>>=λds=>.ok (.lst ds)):=by
 rintro pins s σ H Q I ⟨G,d,l,hw⟩;refine tp h pins s σ H Q I ?_;refine⟨G,d,l,?_⟩;have hw:=av.mp hw;cases q:bp d with
 |ok ds =>
  rw[q]at hw;intro n j o x1 i;refine⟨by rw[<- i.length];exact k d ds q,λp g=>?_⟩;exact hw (.ref p) j _ (x1.trans (Ext.own x1.sub g λ_ z=>nomatch z)) ⟨p,n,rfl,bE,x1.h.free g,x1.sub.free g,i⟩
 |exc c=>rw[q]at hw;exact hw
 |bad=>rw[q]at hw;exact hw
def sH(n)(i):ζ.eo n i=aC.eo n i:=by
 unfold ζ.eo aC.eo
 by_cases h:0<=i
 .rw[if_pos h,if_pos h]
 .rw[if_neg h,if_neg h]
  by_cases q:0<=i+(n:Int)
  .rw[if_pos q,if_pos ⋯]
  .rw[if_neg q,if_neg ⋯]
def sf{K:W.Frag}(r:ax K G ds xs)(h:ζ.c7 ds i=Z d):∃v,iB xs i=Z v/\Rep K G d v:=by
 unfold ζ.c7 at h;rw[sH,r.length]at h;unfold iB;cases q:aC.eo xs.length i with
 |none=>rw[q]at h;cases h
 |some j =>
  rw[q]at h;obtain⟨v,e,z⟩:=r.get (i:=j) h;exact⟨v,e,z⟩
def EX{c:Nat}(h:ζ.c7 xs i=Z c):iB xs i=Z c:=by
 unfold ζ.c7 at h;rw[sH]at h;exact h
def Kp(E:ai X a (ar xp X aa .view aT))(L:ai X b (ar xp X aa .view bD))(M:qw b):ai X (.Subscript a b pos) (ar xp X aa .val λo=>aT o>>=λx=>bD o>>=λy=>ζ.dR x y):=by
 rintro pins s σ H Q I ⟨G,o,A,hw⟩;refine yt xf E L M pins s σ H Q I ?_;refine⟨G,o,A,aM (av.mp hw) (λC k v B N x1 g=>?_) λ_ q=>q⟩;refine⟨B,o,A.ext x1,aM (av.mp k) (λj k2 O p t h u=>?_) λ_ q=>q.mono x1.h⟩;have g:=View.ext h g;cases C with
 |lst ds =>
  cases j with
  |int i =>
   simp only[ζ.jL]at k2;cases q:ζ.c7 ds i with
   |none=>rw[q]at k2;exact k2.elim
   |some d =>
    rw[q]at k2;obtain⟨l,xs,rfl,e,r⟩:=gP g;obtain⟨w,e2,n⟩:=sf r q;exact .inl ⟨l,xs,i,w,rfl,u,e,e2,k2 w p t (x1.trans h) n⟩
  |_=>exact k2.elim
 |tup ds =>
  cases j with
  |int i =>
   simp only[ζ.g5]at k2;cases q:ζ.c7 ds i with
   |none=>rw[q]at k2;exact k2.elim
   |some d =>
    rw[q]at k2;obtain⟨l,xs,rfl,e,r⟩:=ic h.sub g;obtain⟨w,e2,n⟩:=sf r q;exact .inr (.inl ⟨l,xs,i,w,rfl,u,e,e2,k2 w p t (x1.trans h) n⟩)
  |_=>exact k2.elim
 |kt ds =>
  cases j with
  |int i =>
   simp only[ζ.Fl]at k2;cases q:ζ.c7 ds i with
   |none=>rw[q]at k2;exact k2.elim
   |some d =>
    rw[q]at k2;obtain⟨l,xs,rfl,e,r⟩:=AH g;obtain⟨w,e2,n⟩:=sf r q;exact .inr (.inl ⟨l,xs,i,w,rfl,u,e,e2,k2 w p t (x1.trans h) n⟩)
  |_=>exact k2.elim
 |str z =>
  cases j with
  |int i =>
   rw[ζ.w0]at k2
   by_cases hz:z.length<=ζ.SZ
   .rw[if_pos hz]at k2;cases q:ζ.c7 z.cps.toList i with
    |none=>rw[q]at k2;exact k2.elim
    |some c =>
     rw[q]at k2;exact .inr (.inr ⟨z,i,c,g,u,by rw[<- gS];exact hz,EX q,k2 _ p t (x1.trans h) rfl⟩)
   .rw[if_neg hz]at k2;exact k2.elim
  |_=>exact k2.elim
 |_=>cases j<;>exact k2.elim
def gi(K:W.Frag)(m:dk)(g:D->aU D):List V->ah->bK->Prop:=λxs H Q=>∃G x d,xs=[x]/\aD G H/\View K G H d x/\aO (g d) (λd'=>∀v i h,Ext G H i h->aW K H i h m d' v->Q v h) (λ_=>False)
def fV(d:ai X e h)(g:TF [e] X.env=[(Th,Uc e X.env)]):dK X [e] (nr h pQ):=fv d hc g
def lg{id:String}(w:∀d c,g d≠.exc c)(t:dv X (.builtin id) (gi X.K m g))(y:b9 X x)(z:X.aj x=Y)(C:Ub x=Z (.builtin id))(r:ai X e (ar xp X aa .view f))(A:x≠"__name__")(u:(x==("__debug__":Tz))=Th)(j:TF [e] X.env=[(Th,Uc e X.env)]):ai X (.Call (.Name x p) [e] [] pos) (ar xp X aa m λh=>f h>>=λd=>g d):=by
 rintro pins s σ H Q I ⟨G,h,B,hw⟩;refine mT t y z C (fV r j) A u j rfl pins s σ H Q I ?_;refine⟨G,h,B,aM (av.mp hw) (λi k v l O x1 E=>?_) λ_ q=>q⟩;refine⟨l,v,i,rfl,x1.sub,E,?_⟩;exact aM (ie k (w i)) (λd q M n o N L=>q M n o (x1.trans N) (L.old x1.h)) λ_ q=>q
def px(w:∀d c,g d≠.exc c)(t:dv X (.type T) (gi X.K m g))(y:b9 X x)(z:X.aj x=Y)(C:Ub x=Z (.type T))(r:ai X e (ar xp X aa .view f))(A:x≠"__name__")(u:(x==("__debug__":Tz))=Th)(j:TF [e] X.env=[(Th,Uc e X.env)]):ai X (.Call (.Name x p) [e] [] pos) (ar xp X aa m λh=>f h>>=λd=>g d):=by
 rintro pins s σ H Q I ⟨G,h,B,hw⟩;refine yp t y z C (fV r j) A u j rfl pins s σ H Q I ?_;refine⟨G,h,B,aM (av.mp hw) (λi k v l O x1 E=>?_) λ_ q=>q⟩;refine⟨l,v,i,rfl,x1.sub,E,?_⟩;exact aM (ie k (w i)) (λd q M n o N L=>q M n o (x1.trans N) (L.old x1.h)) λ_ q=>q
def f_len:dv X (.builtin "len") (gi X.K m ζ.hP):=by
 rintro pins s σ H xs i Q I r ⟨G,x,d,j,h,g,hw⟩;subst j;cases d with
 |tup ds =>
  obtain⟨a,ys,rfl,k,q⟩:=ic h g;refine ve pins s σ H _ i Q I r ⟨a,ys,rfl,.inr k,?_⟩;rw[<- q.length];exact hw _ G H (Ext.refl h) aW.int
 |lst ds =>
  obtain⟨a,ys,rfl,k,q⟩:=gP g;refine ve pins s σ H _ i Q I r ⟨a,ys,rfl,.inl k,?_⟩;rw[<- q.length];exact hw _ G H (Ext.refl h) aW.int
 |str z =>
  rw[ζ.len_str]at hw
  by_cases hz:z.length<=ζ.SZ
  .rw[if_pos hz]at hw;have g:x=.str z:=g;subst g;exact Cq pins s σ H _ i Q I r ⟨z,rfl,by rw[<- gS];exact hz,hw _ G H (Ext.refl h) aW.int⟩
  .rw[if_neg hz]at hw;exact hw.elim
 |_=>exact hw.elim
def f_list:dv X (.type "list") (gi X.K .fresh λd=>ζ.cf d>>=λds=>.ok (.lst ds)):=by
 rintro pins s σ H xs i Q I r ⟨G,x,d,n,h,j,hw⟩;subst n;cases d with
 |tup ds =>
  obtain⟨a,ys,rfl,k,q⟩:=ic h j;exact vf pins s σ H _ i Q I r ⟨a,ys,rfl,.inr k,λl g=>hw _ G _ (Ext.own h g λ_ z=>nomatch z) ⟨l,ys,rfl,bE,g,h.free g,q⟩⟩
 |lst ds =>
  obtain⟨a,ys,rfl,k,q⟩:=gP j;exact vf pins s σ H _ i Q I r ⟨a,ys,rfl,.inl k,λl g=>hw _ G _ (Ext.own h g λ_ z=>nomatch z) ⟨l,ys,rfl,bE,g,h.free g,q⟩⟩
 |_=>exact hw.elim
def EF:dv X (.type "tuple") (gi X.K .val λd=>ζ.cf d>>=λds=>.ok (.tup ds)):=by
 rintro pins s σ H xs j Q I r ⟨G,x,d,n,g,h,hw⟩;subst n;cases d with
 |tup ds =>
  obtain⟨a,ys,rfl,k,q⟩:=ic g h;exact vh pins s σ H _ j Q I r ⟨a,ys,rfl,.inr ⟨k,hw _ G H (Ext.refl g) h⟩⟩
 |lst ds =>
  obtain⟨a,ys,rfl,k,q⟩:=gP h;exact vh pins s σ H _ j Q I r ⟨a,ys,rfl,.inl ⟨k,λl i=>hw _ (upd G l (.tup ys)) _ (Ext.put g i) ⟨l,ys,rfl,bE,q.mono (du (g.free i))⟩⟩⟩
 |_=>exact hw.elim
end
def eH{c:aQ}(I:Inv X d c H s)(h:(∃ys,fe H a (.bZ ys))\/∃ys,fe H a (.cz ys)):∃o,s.heap.get? a=Z o/\o.cls=.type "dict":=by
 rcases h with⟨ys,h|⟨b,h⟩⟩|⟨ys,h|⟨b,h⟩⟩
 .obtain⟨_,_,_,_,o,_,_,e,x,_⟩:=(show bN X.prog X.w H s.heap a (.bZ ys) from I.aJ a _ h);exact⟨o,e,x.1⟩
 .obtain⟨_,_,_,_,_,o,_,_,e,x,_⟩:=(show bN X.prog X.w H s.heap a (.cm b (.bZ ys)) from I.aJ a _ h);exact⟨o,e,x.1⟩
 .obtain⟨_,_,_,_,o,_,_,e,x,_⟩:=(show bN X.prog X.w H s.heap a (.cz ys) from I.aJ a _ h);exact⟨o,e,x.1⟩
 .obtain⟨_,_,_,_,_,o,_,_,e,x,_⟩:=(show bN X.prog X.w H s.heap a (.cm b (.cz ys)) from I.aJ a _ h);exact⟨o,e,x.1⟩
section
variable{xp:bR}{X:ao}{aa:List Nat}{m:dk}{f aT bD bF:aB->aU D}{bp:aB->aU (List D)}{a b c e:TG}{aA:List TG}{pos:Vb}{pins:List (Tu×UK)}{σ:aQ}{G H:ah}{s:Tq}
abbrev M0:D->String
 |.az=>"NoneType"
 |.ag _=>"bool"
 |.int _=>"int"
 |.str _=>"str"
 |.tup _=>"tuple"
 |.lst _=>"list"
 |.bU _=>"dict"
 |.bG _=>"dict"
 |.d7 _=>""
 |.kt _=>"tuple"
abbrev lx:ζ.Ty->String
 |.int=>"int"|.bool=>"bool"|.str=>"str"|.tuple=>"tuple"|.cls _=>""
def Gs(K)(up)(d:D)(t)(h:∀c,t≠.cls c)(g:∀c,d≠.d7 c):∃b,ζ.gc up d t=.ok b/\PySem.W.kitOne K (.type (M0 d)) (.type (lx t))=Z b:=by
 cases t with
 |cls c=>exact absurd rfl (h c)
 |int=>cases d<;>first|exact absurd rfl (g _)|exact⟨_,rfl,by kernel_rfl⟩
 |bool=>cases d<;>first|exact absurd rfl (g _)|exact⟨_,rfl,by kernel_rfl⟩
 |str=>cases d<;>first|exact absurd rfl (g _)|exact⟨_,rfl,by kernel_rfl⟩
 |tuple=>cases d<;>first|exact absurd rfl (g _)|exact⟨_,rfl,by kernel_rfl⟩
def Nu(I:Inv X pins σ H s)(v:aD G H)(w:∀c,t≠.cls c)(g:View X.K G H d x)(l:RelV x u)(hw:aO (ζ.gc up d t) (λb=>Q (.ag b) H) (λ_=>False)):
  Ts (Tw X.prog X.w) X.A (call (.builtin "isinstance") [u,.type (lx t)]) (cJ X pins σ Q) X.aV s:=by
 have p:∀c,d≠.d7 c:=λc e=>by subst e;exact g.elim
 obtain⟨b,e1,e2⟩:=Gs X.K up d t w p;rw[e1]at hw;have fin:∀tk,cJ X pins σ Q (.bool b) { s with toks:=tk }:=λtk=>⟨.ag b,H,I.tok tk,rfl,hw⟩
 cases d with
 |az=>cases g;exact oI I l .az e2 fin
 |ag y=>cases g;exact oI I l (.ag y) e2 fin
 |int i=>cases g;exact oI I l (.int i) e2 fin
 |str y=>cases g;exact oI I l (.str y) e2 fin
 |tup ds =>
  obtain⟨a,ys,rfl,k,q⟩:=ic v g;cases l;obtain⟨its,r,⟨o,j,h2,_⟩,hz⟩:=I.tuple k;exact OR RW I.dT ⟨o,j,h2⟩ e2 (λz=>nomatch z) fin
 |lst ds =>
  obtain⟨a,ys,rfl,k,q⟩:=gP g;cases l;obtain⟨its,r,⟨o,n,j,h2,_⟩,z⟩:=I.list k;exact OR Sh I.dT ⟨o,j,h2⟩ e2 (λz=>nomatch z) fin
 |bU A =>
  obtain⟨a,rfl,h⟩:=g;cases l;obtain⟨o,j,h2⟩:=eH I (.inr ⟨_,h⟩);exact OR Q4 I.dT ⟨o,j,h2⟩ e2 (λz=>nomatch z) fin
 |bG A =>
  obtain⟨a,ys,rfl,h,_⟩:=g;cases l;obtain⟨o,j,h2⟩:=eH I (.inl ⟨_,h⟩);exact OR Q4 I.dT ⟨o,j,h2⟩ e2 (λz=>nomatch z) fin
 |d7 c=>exact absurd rfl (p c)
 |kt ds =>
  obtain⟨a,ys,rfl,k,q⟩:=AH (H:=H) g;cases l;obtain⟨its,r,⟨o,j,h2,_⟩,hz⟩:=I.tuple k;exact OR RW I.dT ⟨o,j,h2⟩ e2 (λz=>nomatch z) fin
def Fs{d:D}{c:Nat}:ζ.gc up d t≠.exc c:=by
 intro h;cases t<;>first|(cases h;done)|skip
 cases d<;>cases h
def Kq(T:∀c,t≠.cls c)(E:b9 X x)(M:X.aj x=Y)(U:Ub x=Z (.builtin "isinstance"))(L:b9 X y)(N:X.aj y=Y)(a0:Ub y=Z (.type (lx t)))(z:ai X e (ar xp X aa .view f))(O:x≠"__name__")(B:(x==("__debug__":Tz))=Th)(R:y≠"__name__")(C:(y==("__debug__":Tz))=Th)(l:TF [e,.Name y h] X.env=(Th,Uc e X.env)::TF [.Name y h] X.env):
  ai X (.Call (.Name x p) [e,.Name y h] [] pos) (ar xp X aa m λi=>f i>>=λd=>ζ.gc up d t>>=λb=>.ok (.ag b)):=by
 rintro pins s σ H Q I ⟨G,i,g,hw⟩;have A:dv X (.builtin "isinstance") (λxs H Q=>∃G x d,xs=[x,.ty (lx t)]/\aD G H/\View X.K G H d x/\aO (ζ.gc up d t) (λb=>Q (.ag b) H) (λ_=>False)):=by
  rintro pins s σ H xs aq Q I r ⟨G,x,d,w,g,a4,hw⟩;subst w;obtain⟨u,a5,rfl,a2,a3⟩:=vals2 r;cases a3;exact Nu I g T a4 a2 hw
 have S:dK X [e,.Name y h] (nr (ar xp X aa .view f) (nr (i9 (.ty (lx t))) pQ)):=fv z (fv (yo L N a0 rfl R C) hc rfl) l;refine mT A E M U S O B l rfl pins s σ H Q I ?_;refine⟨G,i,g,aM (av.mp hw) (λo k v j n x1 a1=>?_) λ_ q=>q⟩;refine⟨j,v,o,rfl,x1.sub,a1,?_⟩;exact aM (ie (av.mp k) (λc=>Fs)) (λb q=>q (.ag b) j n x1 aW.ag) λ_ q=>q
end
def gu(P:TV)(w:Ug)(xp:bR):ih:=λouter H s E e s' =>
 ∃(c:Nat)(b:ah)(l:List Tu),s'.os=s.os/\Vt s'.gens/\cX (dB outer) [] H b s.heap s'.heap/\cn P w b s'.heap/\aD H b/\(∀a∈l,s.heap.get? a=Y/\b a=Y)/\xp c e l s'.heap/\E (.int c 0) Y b
def j4(K:W.Frag)(g:List D->aU D)(n:Nat):fY:=λf H Q E =>
 f.length=n/\∃G ds,aD G H/\(∀b xs,H b=Z (.tup xs)->G b=Z (.tup xs))/\ax K G ds f/\aO (g ds) (λd=>∀v e a,Ext G H e a->Rep K e d v->Q v a) (λc=>∀a,aD H a->E (.int c 0) Y a)
section
variable{xp:bR}{X:ao}{aa:List Nat}{m:dk}{f aT bD bF:aB->aU D}{bp:aB->aU (List D)}{a b c e:TG}{aA:List TG}{pos:Vb}{pins:List (Tu×UK)}{σ:aQ}{G H:ah}{s:Tq}
abbrev vR(xp:bR)(X:ao):gy:=λu _ d=>∀c:Nat,u=.int c 0->cG xp X c d
def Iz:Passes (gu X.prog X.w xp) X (vR xp X):=by
 rintro pins σ H s e s' I ⟨c,d,l,os,j,p,n,q,h,o,k⟩;have i:Inv X pins σ d s':=I.rh os p n j (λb z=>absurd z (by simp));exact k c rfl pins σ d s' e l i (aD.refl _) (λa g=>.of I (h a g).1 (h a g).2) o
end
section
variable{prog:TV}{w:Ug}{A:T3}{R:Result->Tq->Prop}{s:Tq}
def CU{f d o:TG}{g:List TG}{p:Ve}{pos:Vb}{b e:Ti}{env:YA}(I:Nat->Tq->Prop)(turn:∀n s,I n s->Ts (Tw prog w) A (U3 b) (λr i=>match r with
   |none=>R (.ok .next) i
   |some v=>Ts (Tw prog w) A (Vo d b v) (λ_ u=>Ts (Tw prog w) A (Xz d env v) (λ_ y =>
     Ts (Tw prog w) A (forIn g J λc r=>if r=J then do let a <- W2 c env (Uc c env);pure (UN a) else pure (UN r)) (λa j =>
      if a=J then Ts (Tw prog w) A (Uc f env) (λx B =>
       Ts (Tw prog w) A (call (.builtin "list.append") [e,x]) (λ_ C=>∃m,m<n/\I m C) (λ_ _=>False) B) (notedBy (Tw prog w) A env λx s=>R (.error x) s) j
      else ∃m,m<n/\I m j) (λ_ _=>False) y) (λ_ _=>False) u) (λ_ _=>False) i) (λ_ _=>False) s)(n:Nat)(h:I n s):
  Vu (Tw prog w) A (.compLoop (.ListComp f [⟨d,o,g,0⟩] p pos) 0 b e env) R s:=by
 have up:∀{α:Type}{t:Xy α}{Q:α->Tq->Prop}{E:Ti->Tq->Prop}{s:Tq},Ts (Tw prog w) A t Q (λ_ _=>False) s->Ts (Tw prog w) A t Q E s:=λh=>O5 h (λ_ _ q=>q) λ_ _ z=>z.elim
 refine codeAny_loop rfl I (λn s G=>?_) n h;show Ts _ A ((compTurn (.ListComp f [⟨d,o,g,0⟩] p pos) 0 b e env).onRaise (λx=>do Vg x env;theTreesLotGoes x)) _ _ s;refine wpAny_noted ?_;rw[compTurn_list];refine NZ (wpAny_standAt (NZ (O5 (turn n s G) (λr i k=>?_) λ_ _ z=>z.elim)));cases r with
 |none=>exact Tg k
 |some v =>
  refine NZ (O5 k (λ_ u H=>?_) λ_ _ z=>z.elim);refine NZ (O5 H (λ_ y L=>NZ (O5 L (λa j l=>?_) λ_ _ z=>z.elim)) λ_ _ z=>z.elim);cases a with
  |false=>exact Tg ⟨rfl,l⟩
  |true =>
   refine NZ (NZ (O5 l (λx B M=>NZ (O5 M (λ_ C N=>?_) λ_ _ z=>z.elim)) λ_ _ z=>z));exact Tg (Tg ⟨rfl,N⟩)
end
def dO(env:YA):List (Tz×US)->List (Tz×Tu)->List (Tz×Tu)
 |[],cs=>cs
 |(n,k)::r,cs=>if k==.free then dO env r ((n,(env.cells.lookup n).getD 0)::cs) else dO env r cs
def CC(h:∀x∈f.names,x.2=.free->∃c,env.cells.lookup x.1=Z c):closureFor f env=pure (dO env f.names []):=by
 have j:∀(l:List (Tz×US))(cs:List (Tz×Tu)),(∀x∈l,x.2=.free->∃c,env.cells.lookup x.1=Z c) ->
   (forIn l cs λ(x:Tz×US)(r:List (Tz×Tu))=>(match x with
    |(name,m)=>if (m==TO)=J then do let a <- cellOf env name;pure (UN ((name,a)::r)) else pure (UN r):Xy (ForInStep (List (Tz×Tu)))))=(pure (dO env l cs):Xy _):=by
  intro l
  induction l with
  |nil=>intro cs _;rfl
  |cons x l g =>
   intro cs b;obtain⟨n,k⟩:=x;simp only[Wf,dO];cases q:(k==TO) with
   |false =>
    simp only[N4,Ox,pure_bind];exact g cs λy d=>b y (Tp _ d)
   |true =>
    have i:k=.free:=⇑q;obtain⟨c,e⟩:=b (n,k) To i;simp only at e;simp only[O6,cellOf,e,pure_bind,Option.getD_some];exact g _ λy d=>b y (Tp _ d)
 unfold closureFor;have:=j f.names [] h;simp only[bind_pure];exact this
theorem rx:∀(l:List (Tz×US))(cs:List (Tz×Tu)),(dO env l cs).lookup x=Z c->cs.lookup x=Z c\/(∃y∈l,y.1=x/\y.2=.free/\c=(env.cells.lookup x).getD 0)
 |[],cs,h=>.inl h
 |(n,k)::r,cs,h=>by
  unfold dO at h;cases q:(k==TO) with
  |false =>
   rw[q]at h;rcases rx r cs h with a|⟨y,b,a⟩
   .exact .inl a
   .exact .inr ⟨y,Tp _ b,a⟩
  |true =>
   rw[q]at h;have d:k=.free:=⇑q;rcases rx r _ h with a|⟨y,b,a⟩
   .rw[OO]at a;cases z:(x==n) with
    |false=>rw[z]at a;exact .inl a
    |true =>
     rw[z]at a;have e:x=n:=⇑z;subst e;exact .inr ⟨(x,k),To,rfl,d,(OI a).symm⟩
   .exact .inr ⟨y,Tp _ b,a⟩
theorem rv:∀(l:List (Tz×US))(cs:List (Tz×Tu)),((∃y∈l,y.1=x/\y.2=.free)\/(cs.lookup x).isSome=J)->((dO env l cs).lookup x).isSome=J
 |[],cs,h=>by
  rcases h with⟨y,a,_⟩|h
  .simp at a
  .exact h
 |(n,k)::r,cs,h=>by
  unfold dO;cases q:(k==TO) with
  |false =>
   refine rv r cs ?_;rcases h with⟨y,a,b,h2⟩|h
   .rcases N3.mp a with e|a
    .subst e;simp only at h2;rw[h2]at q;cases q
    .exact .inl ⟨y,a,b,h2⟩
   .exact .inr h
  |true =>
   refine rv r _ ?_;rcases h with⟨y,a,b,h2⟩|h
   .rcases N3.mp a with e|a
    .subst e;simp only at b;subst b;exact .inr (by simp)
    .exact .inl ⟨y,a,b,h2⟩
   .refine .inr ?_;rw[OO];cases z:(x==n)
    .exact h
    .rfl
theorem iT{env:YA}{x:Tz}:∀{names:List (Tz×US)}{k:US},(names.map λ(n,k)=>if (k==TO&&env.scope.kind==.function&&env.kindOf n==Z .cell) then(n,UG) else(n,k)).lookup x=Z k ->
  names.lookup x=Z k\/(names.lookup x=Z .free/\k=.cell)
 |[],_,h=>by simp at h
 |(n,j)::r,k,h=>by
  have h:WE x ((if (j==TO&&env.scope.kind==.function&&env.kindOf n==Z .cell)=J then(n,UG) else(n,j))::(r.map λ(n,k)=>if (k==TO&&env.scope.kind==.function&&env.kindOf n==Z .cell) then(n,UG) else(n,k)))=Z k:=h;rw[OO];cases b:x==n with
  |true =>
   by_cases a:(j==TO&&env.scope.kind==.function&&env.kindOf n==Z .cell)=J
   .rw[if_pos a,OO]at h;simp only[b]at h;have c:j=.free:=(by simp only[N0,OJ]at a;exact a.1.1);exact .inr ⟨by rw[c],(OI h).symm⟩
   .rw[if_neg a,OO]at h;simp only[b]at h;exact .inl h
  |false =>
   by_cases a:(j==TO&&env.scope.kind==.function&&env.kindOf n==Z .cell)=J
   .rw[if_pos a,OO]at h;simp only[b]at h;exact iT h
   .rw[if_neg a,OO]at h;simp only[b]at h;exact iT h
theorem pq{env:YA}{x:Tz}{k:US}:∀{e:List (Tz×US)},e.lookup x=Z k->k≠.free->(e.map λ(n,k)=>if (k==TO&&env.scope.kind==.function&&env.kindOf n==Z .cell) then(n,UG) else(n,k)).lookup x=Z k
 |[],h,_=>by simp at h
 |(n,j)::r,h,c=>by
  show WE x ((if (j==TO&&env.scope.kind==.function&&env.kindOf n==Z .cell)=J then(n,UG) else(n,j))::_)=_;rw[OO]at h;cases a:x==n with
  |true =>
   simp only[a]at h;have f:j=k:=OI h;subst f;have b:¬(j==TO&&env.scope.kind==.function&&env.kindOf n==Z .cell)=true:=by
    intro z;simp only[N0,OJ]at z;exact c z.1.1
   rw[if_neg b,OO];simp only[a]
  |false =>
   simp only[a]at h;have d:=pq (env:=env) h c
   by_cases b:(j==TO&&env.scope.kind==.function&&env.kindOf n==Z .cell)=J
   .rw[if_pos b,OO];simp only[a];exact d
   .rw[if_neg b,OO];simp only[a];exact d
theorem tC{env:YA}{x:Tz}:∀{c:List (Tz×US)},c.lookup x=Z .free->(c.map λ(n,k)=>if (k==TO&&env.scope.kind==.function&&env.kindOf n==Z .cell) then(n,UG) else(n,k)).lookup x=Z .cell\/(c.map λ(n,k)=>if (k==TO&&env.scope.kind==.function&&env.kindOf n==Z .cell) then(n,UG) else(n,k)).lookup x=Z .free
 |[],h=>by simp at h
 |(n,j)::r,h=>by
  show WE x ((if (j==TO&&env.scope.kind==.function&&env.kindOf n==Z .cell)=J then(n,UG) else(n,j))::_)=_\/WE x ((if (j==TO&&env.scope.kind==.function&&env.kindOf n==Z .cell)=J then(n,UG) else(n,j))::_)=_;rw[OO]at h;cases a:x==n with
  |true =>
   simp only[a]at h
   by_cases b:(j==TO&&env.scope.kind==.function&&env.kindOf n==Z .cell)=J
   .rw[if_pos b,OO];simp[a]
   .rw[if_neg b,OO];simp only[a];exact .inr h
  |false =>
   simp only[a]at h;have d:=tC (env:=env) h
   by_cases b:(j==TO&&env.scope.kind==.function&&env.kindOf n==Z .cell)=J
   .rw[if_pos b,OO];simp only[a];exact d
   .rw[if_neg b,OO];simp only[a];exact d
def hD(X:ao)(c:YA)(b:List Tz)(s3:Tq)(a:ah)(d:List Tu)(e:List (Tu×UK))(E:Ti->Tq->Prop):ao :=
 { X with N:=b,dE:=s3,lG:=a,env:=c,outer:=X.stack,ex:=d,fn:=λ_=>Th,bP:=X.bP++e,aV:=E }
structure ji(X:ao)(scope:Ve)(xs cF:List Tz):Prop where
 kind:scope.kind=.function
 iZ:∀y∈scope.names,y.2≠.cell
 names:∀y∈scope.names,y.2=.local->scope.names.lookup y.1=Z .local
 loc:∀y,scope.names.lookup y=Z .local->y∈xs\/y=(".0":Tz)
 dh:∀y∈xs,scope.names.lookup y=Z .local
 fr:∀y∈scope.names,y.2=.free->X.env.scope.names.lookup y.1=Z .cell\/X.env.scope.names.lookup y.1=Z .free
 len:cF.length=X.N.length+xs.length
 old:∀(i:Nat) y,i<X.N.length->cF[i]?=Z y->(scope.names.lookup y).isSome=J->X.N[i]?=Z y/\y∉xs/\y≠(".0":Tz)
 new:∀(j:Nat),cF[X.N.length+j]?=xs[j]?
 eE:cF.Nodup
section
def B5{A:aQ}(I:Inv X pins A H s)(R:∀b∈a4,fy X pins H b)(T:∀b∈a4,∃o,s.heap.get? b=Z o)(B:ji X a xs a1)(b2:a5.Ns s.heap.objs.size (λ_=>Y))(t:∀b o,s.heap.get? b=Z o->a5.get? b=Z o):
  Inv (hD X (U5 a (dO X.env a.names []) s.heap.objs.size X.env) a1 s H a4 pins E) [] (A++TJ xs.length Y) H { s with heap:=a5,toks:=tk }:=by
 have g:∀y c,(dO X.env a.names []).lookup y=Z c->X.env.cells.lookup y=Z c:=λy c e=>by
  rcases rx _ _ e with h|⟨z,hz,e1,e2,e3⟩
  .simp at h
  .have:=B.fr z hz e2;rw[e1]at this;obtain⟨x,j⟩:=I.ok.has y (by rcases this with q|q;exact .inl q;exact .inr q);rw[j]at e3;simp at e3;rw[j,e3]
 have Q:∀y,a.names.lookup y=Z .free->∃c,(dO X.env a.names []).lookup y=Z c:=λy e =>
  QU.mp (rv _ _ (.inl ⟨(y,.free),O0 e,rfl,rfl⟩))
 have ba:∀y c,X.env.cells.lookup y=Z c->c<s.heap.objs.size:=λy c e=>by
  obtain⟨v,q⟩:=I.cell y c e;exact q.lt
 have aq:∀b,b<s.heap.objs.size->b≠s.heap.objs.size:=λb f=>Oj f
 refine⟨⟨I.ok.mod,B.kind,I.ok.glob,I.ok.blt,N2 _,λy z c e1 e2=>I.ok.inj y z c (g y c e1) (g z c e2),λy a0=>?_,λy c q _=>Bool.noConfusion q,I.ok.hd,I.ok.frames,.inl rfl,λb f=>?_,I.bs,Ol I.ok.iC I.ef,λb o e f=>?_,λb f ay=>?_,I.stack,I.tY⟩,
  rfl,I.bare,cX.kept t,⟨_,b2,λi y v e1 e2 e3=>?_⟩,λy c e=>?_,I.fresh,λy c e=>I.el y c (g y c e),λp U=>?_,I.aJ.kept t,?_⟩
 .-- Q
  have a0:(relabel a X.env).names.lookup y=Z .cell\/(relabel a X.env).names.lookup y=Z .free:=a0;have:a.names.lookup y=Z .free:=by
   rcases a0 with q|q
   .rcases iT q with z|z
    .exact absurd rfl (B.iZ _ (O0 z))
    .exact z.1
   .rcases iT q with z|z
    .exact z
    .exact z.1
  exact Q y this
 .-- bl
  obtain⟨a2,C,G,L,M,a3⟩:=R b f;obtain⟨o,T⟩:=T b f;exact⟨aq b (N5 T),λy c e=>M y c (g y c e)⟩
 .-- bO
  obtain⟨a2,C,G,L,M,a3⟩:=R b f;rcases L with q|q
  .exact I.ok.i0 b o e q
  .have:=N5 (I.ok.bs b o e).1;exact absurd (Oa this q) (Pt _)
 .-- bq
  obtain⟨a2,C,G,L,M,a3⟩:=R b f;rcases N3.mp (I.j7 b ay) with q|q
  .exact C q
  .exact G q
 .-- b0 cu
  have hi:i<A.length:=by
   by_cases hi:i<A.length
   .exact hi
   .rw[OP ⋯,Qq]at e2
    split at e2<;>cases e2
  rw[Oh hi]at e2;have aF:i<X.N.length:=(by rw[<- I.len];exact hi);have e3:dN (relabel a X.env) y:=e3;have a9:(a.names.lookup y).isSome=true:=by
   rcases e3 with q|q|q
   all_goals
    rcases iT q with z|z
    .rw[z];rfl
    .rw[z.1];rfl
  obtain⟨au,a6,h0⟩:=B.old i y aF e1 a9;have S:a.names.lookup y=Z .free:=by
   rcases e3 with q|q|q
   .rcases iT q with z|z
    .rcases B.loc y z with w|w
     .exact absurd w a6
     .exact absurd w h0
    .exact z.1
   .rcases iT q with z|z
    .exact absurd rfl (B.iZ _ (O0 z))
    .exact z.1
   .rcases iT q with z|z
    .exact z
    .exact z.1
  have O:=B.fr (y,.free) (O0 S) rfl;obtain⟨m,cq,b1⟩:=I.loc;obtain⟨u,r,l⟩:=b1 i y v au e2 (by rcases O with q|q;exact .inr (.inl q);exact .inr (.inr q));refine⟨u,r,.inr ⟨?_,?_⟩⟩
  .exact tC S
  .rcases l with⟨k,_⟩|⟨_,c,aw,z⟩
   .exfalso;have k:X.env.scope.names.lookup y=Z .local:=k;simp only at O;rcases O with q|q<;>rw[k]at q<;>cases q
   .obtain⟨x,j⟩:=Q y S;have e:x=c:=(by have:=g y x j;rw[aw]at this;exact(OI this).symm);subst e;obtain⟨o,N,h2⟩:=z;exact⟨x,j,o,t _ _ N,h2⟩
 .-- bj
  obtain⟨v,o,N,h2⟩:=I.cell y c (g y c e);exact⟨v,o,t _ _ N,h2⟩
 .-- pins
  have U:p∈X.bP++pins:=(by simpa[hD] using U);obtain⟨e,n,bc,a7,d⟩:=I.pin p U;refine⟨t _ _ e,n,aq _ (N5 e),λf=>?_,d⟩;rcases N3.mp (I.j7 p.1 f) with q|q
  .exact bc q
  .exact a7 q
 .show _=a1.length;rw[N7,QF,B.len,I.len]
end
abbrev i6:List Nat->List V->aQ->aQ
 |i::b,v::c,a=>i6 b c (a.set i (Z v))
 |_,_,a=>a
def sa:List Nat->iy
 |[]=>wJ
 |i::a=>wH (r9 i) (sa a)
theorem wI:∀(ts:List Nat)(a:List V)(b:aQ)(H:ah)(Q:aQ->ah->Prop),a.length=ts.length->Q (i6 ts a b) H->sa ts a b H Q
 |[],[],b,H,Q,_,q=>⟨rfl,q⟩
 |[],_::_,_,_,_,h,_=>by simp at h
 |_::_,[],_,_,_,h,_=>by simp at h
 |i::c,v::a,b,H,Q,h,q=>⟨v,a,rfl,wI c a _ H Q ⇑h q⟩
def r8(K:W.Frag)(k:Nat)(ts:List Nat):hy:=λv b H Q=>∃G d,aD G H/\Rep K G d v/\aO (ζ.dX k d) (λos=>∀(ws:List D)(a:List V),os=ws.map Z->ax K G ws a->Q (i6 ts a b) H) (λ_=>False)
section
theorem yE(g:X.N.Nodup):∀(ts:List Nat)(ys:List Tz)(d:List TG),ζ.namesOf d=Z ys->ts.length=ys.length->(∀(j i:Nat) y,ts[j]?=Z i->ys[j]?=Z y->X.N[i]?=Z y/\Loc X.env.scope y/\(X.fn y=J\/X.env.scope.names.lookup y=Z .local)) ->
  lJ X d (sa ts)/\(UW d X.env).length=ts.length/\(UW d X.env).findIdx? (·.1)=Y
 |ts,ys,[],h,f,_=>by
  simp only[ζ.namesOf,O4]at h;subst h;have:ts=[]:=⇑f;subst this;exact⟨I2,rfl,rfl⟩
 |ts,ys,e::d,h,f,k=>by
  simp only[ζ.namesOf]at h;cases e with
  |Name x p =>
   cases q:ζ.namesOf d with
   |none=>simp only[ζ.nameOf,q]at h;cases h
   |some n =>
    simp only[ζ.nameOf,q,O4]at h;subst h;cases ts with
    |nil=>simp at f
    |cons i l =>
     obtain⟨a,b,c⟩:=k 0 i x rfl rfl;obtain⟨m,h2,h3⟩:=yE g l n d q ⇑f λj i y e1 e2=>k (j+1) i y ⇑e1 ⇑e2
     refine⟨I1 (yC g a b c) m rfl,?_,?_⟩
     .show(UW d X.env).length+1=l.length+1;rw[h2]
     .show((Th,Xz (.Name x p) X.env)::UW d X.env).findIdx? (·.1)=Y;rw[W9];simp only[N4,Ox];rw[h3];rfl
  |_=>simp only[ζ.nameOf]at h;cases h
def yD(O:X.calm=J)(z:X.N.Nodup)(f:ζ.dh k t=Z ys)(l:ts.length=ys.length)(C:∀(j i:Nat) y,ts[j]?=Z i->ys[j]?=Z y->X.N[i]?=Z y/\Loc X.env.scope y/\(X.fn y=J\/X.env.scope.names.lookup y=Z .local)):fX X t (r8 X.K k ts):=by
 cases k with
 |zero =>
  cases t with
  |Name x p =>
   simp only[ζ.dh,O4]at f;subst f;obtain⟨i,rfl⟩:∃i,ts=[i]:=by
    match ts,l with
    |[i],_=>exact⟨i,rfl⟩
   obtain⟨a,b,c⟩:=C 0 i x rfl rfl;rintro m s g H v u Q I r ⟨G,d,B,o,hw⟩;refine yC z a b c m s g H v u Q I r ?_;exact hw [d] [v] rfl ⟨v,[],rfl,o,rfl⟩
  |_=>simp only[ζ.dh]at f;cases f
 |succ k =>
  cases t with
  |Tuple w j p =>
   simp only[ζ.dh]at f;cases q:ζ.namesOf w with
   |none=>rw[q]at f;cases f
   |some L =>
    rw[q]at f;simp only at f
    by_cases hz:L.length=k+1
    .rw[if_pos hz]at f;simp only[O4]at f;subst f;obtain⟨M,h2,h3⟩:=yE z ts L w q l C;rintro m s g H v u Q I r ⟨G,d,B,o,hw⟩;refine I0 (n:=ts.length) O M h2 h3 m s g H v u Q I r ?_;cases d with
     |tup ds =>
      obtain⟨a,xs,e,R,E⟩:=o;have N:ζ.dX (k+1) (.tup ds)=if ds.length=k+1 then .ok (ds.map Z) else .bad:=rfl;rw[N]at hw
      by_cases h:ds.length=k+1
      .rw[if_pos h]at hw;have A:xs.length=ts.length:=(by rw[<- E.length,h,l,hz]);exact⟨a,xs,e,eI B R,A,wI ts xs g H Q A (hw ds xs rfl E)⟩
      .rw[if_neg h]at hw;exact hw.elim
     |_=>exact hw.elim
    .rw[if_neg hz]at f;cases f
  |_=>simp only[ζ.dh]at f;cases f
end
structure fW(K:W.Frag)(P:ah->ah->Prop)(jo:fN)(ds:List D):Prop where
 go:∀(i:Nat) bQ H1,P bQ H1->i<ds.length->jo.go i H1
 gq:∀(i:Nat) bQ H1 x eK d,P bQ H1->aD bQ H1->ds[i]?=Z d->jo.gq i H1 x eK->∃nQ,Ext bQ H1 nQ eK/\Rep K nQ d x
 stop:∀bQ H1,P bQ H1->jo.stop ds.length H1
abbrev hv(m:dk)(G H:ah):ah->ah->Prop:=λa b=>aD G a/\(match m with|.view=>aD H b|_=>aD a b)
def fH(xp:bR)(X:ao)(g:List Nat)(m:dk)(f:aB->aU (List D)):TI:=λh H R =>
 ∃G e,cC X.K g G H e h/\aO (f e) (λds=>∀d b a,Ext G H b a->fW X.K (hv m b a) d ds->ds.length<=16777216->R d a) (λc=>cG xp X c H)
def x5{α:Type}{r:aU α}{Q:α->Prop}(h:aO (ζ.hU r) Q E):∃a,r=.ok a/\Q a:=by
 cases r with
 |ok a=>exact⟨a,rfl,h⟩
 |exc c=>exact h.elim
 |bad=>exact h.elim
def cC.more{K:W.Frag}(h:cC K s G H k A)(g:∀i∈s,i<k.length)(r:ax K G ws z):cC K s G H (k++ws.map Z) (A++z.map Z) where
 len:=by rw[N7,N7,h.len,Tj,Tj,r.length]
 sub:=h.sub
 val:=λi d e c=>by
  by_cases hi:i<k.length
  .rw[Oh hi]at e;obtain⟨v,a,b⟩:=h.val i d e c;exact⟨v,by rw[Oh (by rw[<- h.len];exact hi)];exact a,b⟩
  .rw[OP ⋯,Ot]at e;cases q:ws[i-k.length]? with
   |none=>rw[q]at e;cases e
   |some w =>
    rw[q]at e;simp only[Uq,O4]at e;subst e;obtain⟨v,a,b⟩:=r.get q;exact⟨v,by rw[OP (by rw[<- h.len];lia),Ot,<- h.len,a];rfl,b⟩
 own:=λi d e c l=>by
  have hi:=g i c;rw[Oh hi]at e;obtain⟨v,a,b⟩:=h.own i d e c l;exact⟨v,by rw[Oh (by rw[<- h.len];exact hi)];exact a,b⟩
 lst:=λi d e c l=>by
  have hi:=g i c;rw[Oh hi]at e;obtain⟨a,o,f,h2⟩:=h.lst i d e c l;exact⟨a,o,by rw[Oh (by rw[<- h.len];exact hi)];exact f,h2⟩
 cV:=h.cV
 apart:=λi j ds x a b e1 e2 t u hi n y f h2=>by
  have m:=g i hi;have p:=g j n;rw[Oh m]at e1;rw[Oh p]at e2;rw[Oh (by rw[<- h.len];exact m)]at f;rw[Oh (by rw[<- h.len];exact p)]at h2;exact h.apart i j ds x a b e1 e2 t u hi n y f h2
theorem zy:∀(b:List V)(a fM:aQ)(n:Nat),n=a.length->fM.length=b.length->i6 (XZ n b.length) b (a++fM)=a++b.map Z
 |[],a,fM,n,d,c=>by
  have:fM=[]:=⇑c;subst this;rfl
 |v::b,a,fM,n,d,c=>by
  cases fM with
  |nil=>simp at c
  |cons t fM =>
   rw[Tt,List.range'_succ,i6];have e:(a++t::fM).set n (Z v)=(a++[Z v])++fM:=by
    rw[Rm _ _ ⋯,d];simp
   rw[e,zy b (a++[Z v]) fM (n+1) (by simp[d]) ⇑c];simp
section
def eZ(k:Nat)(e:aB->aU Bool)(f:aB->aU D)(c:aB)(d:D):aU (Option D):=ζ.dX k d>>=λa=>ζ.hU (e (c++a))>>=λb=>if b then f (c++a)>>=λy=>.ok (Z y) else .ok Y
def d3(X:ao)(a:Ve)(c:List Tz)(s3:Tq)(b:ah)(d:List Tu)(e:List (Tu×UK))(E:Ti->Tq->Prop):ao:=hD X (U5 a (dO X.env a.names []) s3.heap.objs.size X.env) c s3 b d e E
def B0{d:D}{os:List (Option D)}(h:ζ.dX k d=.ok os):∃ws:List D,os=ws.map some:=by
 cases k with
 |zero=>cases h;exact⟨[d],rfl⟩
 |succ k =>
  cases d with
  |tup ds =>
   have b:ζ.dX (k+1) (.tup ds)=if ds.length=k+1 then .ok (ds.map Z) else .bad:=rfl;rw[b]at h
   by_cases a:ds.length=k+1
   .rw[if_pos a]at h;cases h;exact⟨ds,rfl⟩
   .rw[if_neg a]at h;cases h
  |_=>cases h
end
def H9(x:bN P w H h a o):∃u,h.get? a=Z u:=by
 cases o with
 |lst xs=>obtain⟨_,_,_,_,e⟩:=x;exact⟨_,e⟩
 |tup xs=>obtain⟨_,_,_,o,e,_⟩:=x;exact⟨_,e⟩
 |bZ c=>obtain⟨_,_,_,_,o,_,_,e,_⟩:=x;exact⟨_,e⟩
 |cz c=>obtain⟨_,_,_,_,o,_,_,e,_⟩:=x;exact⟨_,e⟩
 |set S n=>obtain⟨o,_,_,_,e,_⟩:=x;exact⟨_,e⟩
 |ins C d b=>obtain⟨_,_,_,e,_⟩:=x;exact⟨_,e⟩
 |own y=>exact x
 |qc b=>obtain⟨_,⟨_,_,_,e,_⟩,_⟩:=x;exact⟨_,e⟩
 |c8 lo hi=>obtain⟨_,_,_,e⟩:=x;exact⟨_,e⟩
 |cm g u=>obtain⟨e,_⟩:=x;exact⟨_,e⟩
 |jb i=>exact⟨_,x⟩
 |met f y=>exact⟨_,x⟩
 |ext j=>exact x.2.1
def o8(x:cn P w H h)(e:h.get? a=Y):H a=none:=by
 cases q:H a with
 |none=>rfl
 |some o=>obtain⟨u,z⟩:=H9 (x a o q);rw[e]at z;cases z
section
def o5{Q:aQ}{l:List Tu}(I:Inv X O Q H s)(j:∀a∈l,eM X O H a)(w:∀b o,s.heap.get? b=Z o->b∉l->b∉dB X.stack->h'.get? b=Z o)(a2:∀b o,s.heap.get? b=Z o->b∈dB X.stack->∃h,h'.get? b=Z { o with slots:=h }):Inv X O Q H { s with heap:=h',toks:=t' }:=by
 have t:∀b o,s.heap.get? b=Z o->b∉l->∃h,h'.get? b=Z { o with slots:=h }:=λb o e n=>by
  by_cases f:b∈dB X.stack
  .exact a2 b o e f
  .exact⟨o.slots,w b o e n f⟩
 have C:∀b o,X.dE.heap.get? b=Z o->b∉X.ex->b∉l:=λb o e g f=>by
  rcases(j b f).2.1 with z|z
  .exact g z
  .rw[e]at z;cases z
 have U:∀b o,X.dE.heap.get? b=Z o->b∉X.bp->b∉dB X.stack:=λb o e f q=>by
  rcases N3.mp (I.j7 b q) with z|z
  .exact absurd (Oa (N5 e) I.ok.above) (by rw[z];exact Pt _)
  .exact f z
 have E:∀x c,X.env.cells.lookup x=Z c->∀v,s.heap.IsCell c v->h'.IsCell c v:=λx c e v a3=>by
  obtain⟨o,B,A⟩:=a3;obtain⟨h,q⟩:=t c o B λz=>(j c z).2.2.2.1 x c e rfl
  exact⟨_,q,A⟩
 refine⟨I.ok,I.os,I.bare,⟨λb o e n f g=>?_,λb o e n f g=>?_,I.base.free,λb o e g=>?_,I.base.gn,I.base.fS,I.base.gm⟩,?_,λx c e=>?_,I.free,I.el,λp L=>?_,λa o e=>?_,I.len⟩
 .exact w b o (I.base.keep b o e n f g) (C b o e g) (U b o e f)
 .obtain⟨h,e1⟩:=I.base.slot b o e n f g;obtain⟨a1,e2⟩:=t b _ e1 (C b o e g);exact⟨a1,e2⟩
 .obtain⟨a0,e1⟩:=I.base.there b o e g;obtain⟨h,e2⟩:=t b a0 e1 (C b o e g);exact⟨_,e2⟩
 .obtain⟨m,⟨o,S,R,B,A,r⟩,T⟩:=I.loc;obtain⟨h,e⟩:=t _ o B λz=>(j _ z).2.2.1 rfl
  refine⟨m,⟨_,S,R,e,A,r⟩,λi x v e1 e2 e3=>?_⟩;obtain⟨u,r,q⟩:=T i x v e1 e2 e3;refine⟨u,r,?_⟩;rcases q with q|⟨k,c,e,z⟩
  .exact .inl q
  .exact .inr ⟨k,c,e,E x c e _ z⟩
 .obtain⟨v,z⟩:=I.cell x c e;exact⟨v,E x c e v z⟩
 .obtain⟨e,n,M,N,d⟩:=I.pin p L;exact⟨w p.1 p.2 e (λz=>(j _ z).2.2.2.2 p L rfl) (λz=>(N3.mp (I.j7 _ z)).elim M N),n,M,N,d⟩
 .refine(I.aJ a o e).gk (λb u f q=>?_) (λ_ q=>q) λ_ _ q=>q
  have G:H b≠none:=by
   rcases f with z|z
   .rw[z,e];exact λy=>nomatch y
   .rw[z];exact λy=>nomatch y
  exact w b u q (λz=>G (j b z).1) λz=>G (I.tY b z)
end
def kh(X:ao):Prop:=∃a outer L,X.stack=a::outer/\a.frame=Z L/\X.env.frame=Z L
def vc{X:ao}{a:List Tu}{E c:Ti->Tq->Prop}{b:aQ}(I:Inv (hD X f e s3 d a g E) h b H s):Inv (hD X f e s3 d a g c) h b H s :=
 ⟨⟨I.ok.mod,I.ok.kind,I.ok.glob,I.ok.blt,I.ok.above,I.ok.inj,I.ok.has,I.ok.kA,I.ok.hd,I.ok.frames,I.ok.i7,I.ok.oo,I.ok.bs,I.ok.iC,I.ok.i0,I.ok.jE,I.ok.fT,I.ok.jH⟩,I.os,I.bare,I.base,I.loc,I.cell,I.free,I.el,I.pin,I.aJ,I.len⟩
section
variable{X:ao}{c6:List Tu}{σ fM:aQ}{cl:Nat->Option Tu}{scope:Ve}{use:Option (Ti->Xy Unit)}{Qc:Ti->Tq->Prop}
def newX(g:Inv X d σ f s3)(m:∀b∈c6,fy X d f b)(c:e a=Y)(h:a∈c6\/s3.heap.get? a=Y):eM X d e a:=by
 rcases h with h|h
 .obtain⟨n,i,o,j,k,l⟩:=m a h;exact⟨c,j.imp id λz=>Ws z,i,k,l⟩
 .exact .of g h c
def CY(bq:kh X)(B:Inv X t σ p s3)(O:∀b∈c6,fy X t p b)(h:cG (bb.bC cl) X c H)(e3:aD H AZ):
  cG (bb.bC cl) (d3 X scope b2 s3 p c6 t (notedBy (Tw X.prog X.w) X.A (U5 scope (dO X.env scope.names []) s3.heap.objs.size X.env) λx s=>WG (Tw X.prog X.w) X.A X.aV use Qc (.ref Dd) s3.heap.objs.size (.error x) s)) c AZ:=by
 intro de fR f s' e l i e4 j d;obtain⟨U,outer,L,R,a3,b0⟩:=bq;have a6:(U5 scope (dO X.env scope.names []) s3.heap.objs.size X.env).frame=U.frame:=b0.trans a3.symm;show Ts _ X.A (Vg e (U5 scope (dO X.env scope.names []) s3.heap.objs.size X.env)) _ _ s';rw[bb.HV a6];have bc:bb.fr (U::outer)=dB X.stack:=by rw[R];rfl
 have e5:s'.heap.FunFrames X.base X.stack:=i.stack;refine bb.x8 (base:=X.base) (outer:=outer) (by rw[<- R];exact i.ok.frames) (by rw[<- R];exact e5) a3 d λaI g T bO x N I a4 a5=>?_
 subst bO;rw[bc]at a4 a5;have A:Inv (d3 X scope b2 s3 p c6 t (notedBy (Tw X.prog X.w) X.A (U5 scope (dO X.env scope.names []) s3.heap.objs.size X.env) λx s=>WG (Tw X.prog X.w) X.A X.aV use Qc (.ref Dd) s3.heap.objs.size (.error x) s)) de fR f { s' with heap:=aI }:=o5 (t':=s'.toks) i j a4 a5;have fB:cX (dB X.stack) c6 p f s3.heap s'.heap:=i.base;have k:cX (dB X.stack) c6 p f s3.heap aI:=A.base;have a2:f T=none:=I.elim (λz=>(j T z).1) λz=>o8 i.aJ z
 have a1:T∈c6\/s3.heap.get? T=none:=by
  rcases I with z|z
  .exact(j T z).2.1
  .by_cases q:T∈c6
   .exact .inl q
   .refine .inr ?_;cases w:s3.heap.get? T with
    |none=>rfl
    |some o=>obtain⟨aq,aF⟩:=fB.there T o w q;rw[z]at aF;cases aF
 obtain⟨m,Q,_⟩:=id A.loc;have Q:aI.Ns s3.heap.objs.size m:=Q;have cM:∃o,s'.heap.get? s3.heap.objs.size=Z o:=by
  obtain⟨f7,⟨o,_,_,cv,_⟩,_⟩:=i.loc;exact⟨o,cv⟩
 have S:g≠s3.heap.objs.size:=(j g N).2.2.1;have a9:T≠s3.heap.objs.size:=by
  rcases I with z|z
  .exact(j T z).2.2.1
  .rintro rfl;obtain⟨o,w⟩:=cM;rw[z]at w;cases w
 have fin:∀h',TZ s3.heap.objs.size aI h'->∀G:YA,G.locals=s3.heap.objs.size->Ts (Tw X.prog X.w) X.A (PySem.passOn "comprehension.variables-let-go" (.ref g) G:Xy Ti) (λ_ _=>False) X.aV { s' with heap:=h' }:=λh' u G _=>by
  obtain⟨C,c4,eY,cN,ts,df,au,dz,aw,dP,ay,dY,d6,e0,dy⟩:=x;have fk:bb.lM cl c g T h':=⟨C,c4,eY,cN,ts,df,(u.2 g S).trans au,dz,aw,dP,ay,dY,(u.2 T a9).trans d6,e0,dy⟩;unfold PySem.passOn;refine NZ (OQ ((u.2 g S).trans au) aw ay ?_);rw[if_neg (show ¬((TA T==Value.none)=J) from by simp)];refine NZ (bb.r5 fk λh2 f2 e2=>Sl ?_);have cw:∀b o,s3.heap.get? b=Z o->b∉c6->b≠T:=λb o e d z=>by
   rcases a1 with w|w
   .exact d (z▸w)
   .rw[z,w]at e;cases e
  have cH:∀b o,s3.heap.get? b=Z o->b≠s3.heap.objs.size:=λb o e=>Oj (N5 e)
  have E:∀b o,s3.heap.get? b=Z o->b∉c6->h2.get? b=aI.get? b:=λb o e d=>(e2 b (cw b o e d)).trans (u.2 b (cH b o e))
  have eX:cX (dB X.stack) c6 p f s3.heap h2 :=
   ⟨λb o e n r d=>(E b o e d).trans (k.keep b o e n r d),λb o e n r d=>by obtain⟨e1,q⟩:=k.slot b o e n r d;exact⟨e1,(E b o e d).trans q⟩,k.free,
    λb o e d=>by obtain⟨aq,q⟩:=k.there b o e d;exact⟨aq,(E b o e d).trans q⟩,k.gn,k.fS,k.gm⟩
  have cq:f s3.heap.objs.size=none:=A.free;have cL:cn X.prog X.w f h2:=λb o e=>by
   have q:bN X.prog X.w f aI b o:=A.aJ b o e;refine q.gk (λc v cu q=>?_) (λ_ q=>q) λ_ _ q=>q
   have a0:f c≠none:=by
    rcases cu with z|z
    .rw[z,e];exact λy=>nomatch y
    .rw[z];exact λy=>nomatch y
   exact((e2 c λz=>a0 (by rw[z];exact a2)).trans (u.2 c λz=>a0 (by rw[z];exact cq))).trans q
  have dc:s'.os=s3.os:=i.os;have b1:Inv X t σ f { s' with heap:=h2 }:=B.rh (s':={ s' with heap:=h2 }) dc eX cL i.bare λb r=>by
   obtain⟨f6,a7,f8,ba,bj,bl⟩:=O b r;exact⟨ba,a7,bj,bl⟩
  refine h t σ f _ (.ref g) [g,T] b1 (e3.trans e4) (λa M=>?_) (.inr ⟨g,T,rfl,rfl,f2⟩);rcases N3.mp M with rfl|M
  .exact newX B O (j a N).1 (j a N).2.1
  .obtain rfl:a=T:=⇑M;exact newX B O a2 a1
 show WG _ _ _ _ _ _ _ (.error (.ref g)) _;cases use<;>exact⟨m,Q,fin⟩
end
section
variable{xp:bR}{X:ao}{aa:List Nat}{oq:aB->aU (List D)}{eB:aB->aU D}{bF:aB->aU Bool}{elt target iter:TG}{ifs:List TG}{scope:Ve}{pos:Vb}{xs cF:List Tz}{k:Nat}
def kp(xp:bR)(X:ao)(aa:List Nat)(scope:Ve)(cF:List Tz)(ifs:List TG)(bF:aB->aU Bool):Prop :=
 (ifs=[]/\bF=λ_=>.ok J)\/∃(c:TG)(b:aB->aU D),ifs=[c]/\(bF=λf=>b f>>=ζ.dW)/\∀s3 a d e E,cp (d3 X scope cF s3 a d e E) c (eJ xp (d3 X scope cF s3 a d e E) aa b)
def MJ(v:kp (bb.bC y) X aa scope cF ifs bF){l:aQ}(I:Inv (d3 X scope cF s3 f g j λ_ _=>False) q l H s)(p:cC X.K aa G H m l)(i:bF m=.ok b)(o:∀s' a d,Inv (d3 X scope cF s3 f g j λ_ _=>False) q l d s'->Ext G H a d->Q b s'):
  Ts (Tw X.prog X.w) X.A (forIn ifs J λc r=>if r=J then do let w <- W2 c (d3 X scope cF s3 f g j λ_ _=>False).env (Uc c (d3 X scope cF s3 f g j λ_ _=>False).env);pure (UN w) else pure (UN r)) Q (λ_ _=>False) s:=by
 rcases v with⟨rfl,rfl⟩|⟨c,u,rfl,rfl,h⟩
 .cases i;exact wpAny_tests_nil (o s G H I (Ext.refl p.sub))
 .refine wpAny_tests_one (O5 (h s3 f g j (λ_ _=>False) q s l H (λn d=>n=b/\∃a,Ext G H a d) I ⟨G,m,p,?_⟩) (λn s' ⟨d,t,e,a,x⟩=>?_) λ_ _ z=>z)
  .have i:(u m>>=ζ.dW)=.ok b:=i;rw[i];exact λa d x=>⟨rfl,a,x⟩
  .subst e;exact o s' a d t x
def B1{d:D}{os:List (Option D)}(a:ζ.dh k target=Z xs)(h:ζ.dX k d=.ok os):os.length=xs.length:=by
 cases k with
 |zero =>
  cases h;cases target with
  |Name x p=>simp only[ζ.dh,O4]at a;subst a;rfl
  |_=>simp only[ζ.dh]at a;cases a
 |succ k =>
  have f:xs.length=k+1:=by
   cases target with
   |Tuple c j p =>
    simp only[ζ.dh]at a;cases q:ζ.namesOf c with
    |none=>rw[q]at a;cases a
    |some g =>
     rw[q]at a;simp only at a
     by_cases hz:g.length=k+1
     .rw[if_pos hz]at a;cases a;exact hz
     .rw[if_neg hz]at a;cases a
   |_=>simp only[ζ.dh]at a;cases a
  cases d with
  |tup ds =>
   have e:ζ.dX (k+1) (.tup ds)=if ds.length=k+1 then .ok (ds.map Z) else .bad:=rfl;rw[e]at h
   by_cases b:ds.length=k+1
   .rw[if_pos b]at h;cases h;rw[Tj,b,f]
   .rw[if_neg b]at h;cases h
  |_=>cases h
def Ha{a b:List D}(h:a.map Z=b.map Z):a=b:=by
 induction a generalizing b with
 |nil=>cases b with|nil=>rfl|cons _ _=>simp at h
 |cons x a c=>cases b with
  |nil=>simp at h
  |cons y b=>simp only[Tr,List.cons.injEq,O4]at h;rw[h.1,c h.2]
def jk(X:ao)(d:List (Tu×UK))(e:aQ)(G H:ah)(use:Option (Ti->Xy Unit))(Qc:Ti->Tq->Prop)(ys:List D):Prop :=
 ∀(b:Tq)(a c:ah)(C Dd:Tu)(m4:Tz->Option Ti),Ext G H c a->aW X.K H c a .fresh (.lst ys) (.ref Dd)->b.heap.Ns C m4->fy X d a C->(∀h',TZ C b.heap h'->Inv X d e a { b with heap:=h' }) ->
  WG (Tw X.prog X.w) X.A X.aV use Qc (.ref Dd) C (.ok .next) b
structure AW(X Y:ao)(f:D->aU (Option D))(A1:List D->Prop)(AY:Nat->Prop)(ib:Nat->TU->Prop)(c6:List Tu)(ds:List D)(xs:List Tz)(σ:aQ)(nQ eK:ah)(Dd:Tu)(n:Nat)(s':Tq)(i:Nat)(fM:aQ)(aK cg:ah)(gr:List D)(fh:List V):Prop where
 aI:n=ds.length-i
 h2:i<=ds.length
 h3:fM.length=xs.length
 h4:Inv Y [] (σ++fM) aK s'
 h5:ib i s'.heap
 oz:∀b∈c6,aK b=none
 oA:Ext nQ eK cg aK
 mm:aK Dd=Z (.lst fh)
 jK:cg Dd=none
 NI:ax X.K cg gr fh
 NJ:gr.length<=i
 NK:aO (ζ.bf f (ds.drop i)) (λrest=>A1 (gr++rest)) AY
def HQ{α:Type}{r:aU α}{Q:α->Prop}(h:aO (ζ.hU r) Q E):∃a,r=.ok a/\Q a:=by
 cases r with
 |ok a=>exact⟨a,rfl,h⟩
 |exc c=>exact h.elim
 |bad=>exact h.elim
def BZ{k:Nat}{d:D}{c:Nat}:ζ.dX k d=.exc c->False:=by
 cases k with
 |zero=>intro q;cases q
 |succ n =>
  cases d with
  |tup ys =>
   intro q;rw[show ζ.dX (n+1) (.tup ys)=if ys.length=n+1 then .ok (ys.map Z) else .bad from rfl]at q
   split at q<;>cases q
  |_=>intro q;cases q
def DB{d:D}{r:List D}{Q:List D->Prop}{E:Nat->Prop}(h:aO (ζ.bf (eZ k bF eB a) (d::r)) Q E):∃(ws:List D)(b:Bool),ζ.dX k d=.ok (ws.map Z)/\bF (a++ws.map Z)=.ok b /\
  ((b=Th/\aO (ζ.bf (eZ k bF eB a) r) Q E)\/(b=J/\aO (eB (a++ws.map Z)) (λy=>aO (ζ.bf (eZ k bF eB a) r) (λrest=>Q (y::rest)) E) E)):=by
 simp only[ζ.bf]at h;have h:=av.mp h;unfold eZ at h;cases e:ζ.dX k d with
 |exc c=>exact(BZ e).elim
 |bad=>rw[e]at h;exact h.elim
 |ok os =>
 rw[e]at h;obtain⟨ws,rfl⟩:=B0 e;have h:aO (ζ.hU (bF (a++ws.map Z))>>=λb=>if b then eB (a++ws.map Z)>>=λy=>.ok (Z y) else .ok Y) _ _:=h;obtain⟨b,f,h⟩:=HQ (av.mp h);refine⟨ws,b,rfl,f,?_⟩;cases b with
 |false =>
  refine .inl ⟨rfl,?_⟩;have h:aO (ζ.bf (eZ k bF eB a) r>>=λr=>.ok r) Q E:=h;exact aM (av.mp h) (λ_ z=>z) λ_ z=>z
 |true =>
  refine .inr ⟨rfl,?_⟩;have h:aO (eB (a++ws.map Z)>>=λy=>.ok (Z y)) (λo=>aO (ζ.bf (eZ k bF eB a) r>>=λr=>match o with|some x=>.ok (x::r)|none=>.ok r) Q E) E:=h;refine aM (av.mp h) (λy z=>?_) λ_ z=>z
  have z:aO (ζ.bf (eZ k bF eB a) r>>=λr=>.ok (y::r)) Q E:=z;exact aM (av.mp z) (λ_ z=>z) λ_ z=>z
def CW{a2:Nat->Option Tu}(F4:kh X)(kI:X.calm=J)(l0:∀i∈aa,i<X.N.length)(B:ji X scope xs cF)(iM:ζ.dh k target=Z xs)(k5:∀s3 dY g h E,ai (d3 X scope cF s3 dY g h E) elt (ar (bb.bC a2) (d3 X scope cF s3 dY g h E) aa .val eB))(Gu:kp (bb.bC a2) X aa scope cF ifs bF){σ:aQ}(oz:σ.length=X.N.length)(h5:cC X.K aa G H N σ)(T:Turn X.prog X.w X.K target FY g mm dP){s2 s3:Tq}(sv:dP 0 s2.heap)(e4:∀b∈g,fy X h f b)(R:Ext G H C f)(c4:fW X.K (hv .view C f) FY ds)(hz:ds.length<=16777216)(Gx:aO (ζ.bf (eZ k bF eB N) ds) (jk X h σ G H use Qc) (λc=>cG (bb.bC a2) X c H))(aF:Inv X h σ (upd f Dd (.lst [])) s3)(a9:f Dd=Y)(mA:∀b∈g,b≠Dd)(iO:∀b o,s2.heap.get? b=Z o->s3.heap.get? b=Z o)(l3:oC.Ns s3.heap.objs.size (λ_=>Y))(iN:∀b o,s3.heap.get? b=Z o->oC.get? b=Z o):
  Vu (Tw X.prog X.w) X.A (Code.compStart (elt.ListComp [{ target:=target,iter:=iter,ifs:=ifs,is_async:=0 }] scope pos) 0 (TA mm) (TA Dd) (U5 scope (dO X.env scope.names []) s3.heap.objs.size X.env))
   (WG (Tw X.prog X.w) X.A X.aV use Qc (TA Dd) s3.heap.objs.size) { s3 with heap:=oC,toks:=tk }:=by
 have a3:∀b∈g,fy X h (upd f Dd (.lst [])) b:=λb a=>⟨by rw[aZ (mA b a)];exact(e4 b a).1,(e4 b a).2⟩
 have l4:∀b∈g,∃o,s3.heap.get? b=Z o:=λb a=>by
  obtain⟨o,e,_⟩:=T.obj _ _ sv b a;exact⟨o,iO b o e⟩
 have b2:=B5 (E:=λ_ _=>False) (tk:=tk) aF a3 l4 B l3 iN;generalize m:hD X (U5 scope (dO X.env scope.names []) s3.heap.objs.size X.env) cF s3 (upd f Dd (.lst [])) g h (λ_ _=>False)=t at b2;have sx:dP 0 oC:=T.keep _ _ _ sv λb a o e=>iN b o (iO b o e)
 have HF:cC X.K aa C f N σ:=h5.ext R;have l1:∀i∈aa,i<N.length:=λi hi=>by rw[h5.len,oz];exact l0 i hi
 have cu:∀{aK:ah},(∀b∈g,aK b=Y)->∀b∈g,fy t [] aK b:=λl2 b a=>by
  obtain⟨F2,e3,F3,e5,eX,cq⟩:=a3 b a;obtain⟨e1,e2⟩:=b2.ok.oo b (by rw[<- m];exact a);refine⟨l2 b a,e1,b2.ok.jE b (by rw[<- m];exact a),.inl (by rw[<- m];exact a),e2,λp h3=>?_⟩;rw[<- m]at h3;exact cq p (by simpa[hD] using h3)
 have sm:Vu (Tw X.prog X.w) X.A (.compLoop (.ListComp elt [⟨target,iter,ifs,0⟩] scope pos) 0 (.ref mm) (.ref Dd) (U5 scope (dO X.env scope.names []) s3.heap.objs.size X.env))
   (WG (Tw X.prog X.w) X.A X.aV use Qc (TA Dd) s3.heap.objs.size) { s3 with heap:=oC,toks:=tk }:=by
  refine CU (λn s'=>∃(i:Nat)(U:aQ)(aK A:ah)(gr:List D)(fh:List V),AW X t (eZ k bF eB N) (jk X h σ G H use Qc) (λc=>cG (bb.bC a2) X c H) dP g ds xs σ C f Dd n s' i U aK A gr fh) ?_ ds.length
   ⟨0,TJ xs.length Y,_,C,[],[],by simp,Od _,by simp,b2,sx,λb a=>(a3 b a).1,Ext.own R.sub a9 (λ_ z=>nomatch z),bE,R.sub.free a9,rfl,N2 _,⇑Gx⟩
  rintro n s' ⟨i,U,aK,A,gr,fh,rfl,NR,m0,e0,su,eY,aq,bO,f8,dz,NS,O⟩;have cv:hv .view C f A aK:=⟨aq.g,aq.h⟩;have g3:t.calm=true:=(by rw[<- m];exact kI);have cL:t.prog=X.prog:=(by rw[<- m];rfl);have cM:t.w=X.w:=(by rw[<- m];rfl);have g2:t.K=X.K:=(by rw[<- m];rfl);have g1:t.A=X.A:=by rw[<- m];rfl
  by_cases jJ:i<ds.length
  .have cw:ds[i]?=Z ds[i]:=N8 jJ;generalize ds[i]=d at cw;have F7:ds.drop i=d::ds.drop (i+1):=by
    have:=Og.mp cw;obtain⟨k0,h2⟩:=this;rw[<- h2];exact PO k0
   rw[F7]at O;have jK:=T.item t cL cM g2 g3 i [] s' (σ++U) aK (λ_ _=>False) e0 (cu eY) su (c4.go i A aK cv jJ);rw[g1]at jK;refine aN jK λr Q s=>?_
   obtain⟨u,cN,h4⟩:=s;subst cN;refine aN h4 λ_ gJ s=>?_
   obtain⟨x,ba,wY,G5,HI,a5,F5⟩:=s;obtain⟨a0,aw,G6⟩:=c4.gq i A aK x ba d cv aq.sub cw HI;have wZ:=wY.pinned (cu F5) (T.obj _ _ a5);obtain⟨ws,b,so,m3,a⟩:=DB O;have Gv:ws.length=xs.length:=(by have:=B1 iM so;simpa using this);subst m;have F8:fX (hD X (U5 scope (dO X.env scope.names []) s3.heap.objs.size X.env) cF s3 (upd f Dd (.lst [])) g h λ_ _=>False) target (r8 X.K k (XZ X.N.length xs.length)):=by
    refine yD (X:=hD X (U5 scope (dO X.env scope.names []) s3.heap.objs.size X.env) cF s3 (upd f Dd (.lst [])) g h λ_ _=>False) kI B.eE iM (by simp) λj NT y e1 e2=>?_
    rw[List.getElem?_range' (Og.mp e2).1]at e1;have Gw:y∈xs:=O2 e2;have jI:(relabel scope X.env).names.lookup y=Z .local:=pq (B.dh y Gw) ∅;cases e1;refine⟨?_,.inl jI,.inr jI⟩;show cF[X.N.length+1*j]?=Z y;rw[Nat.one_mul,B.new j];exact e2
   refine aN (F8 _ gJ (σ++U) ba x u (λsy lF=>∃l:List V,sy=σ++l.map Z/\l.length=xs.length/\lF=ba/\ax X.K a0 ws l) wZ G5 ⟨a0,d,aw.sub,G6,?_⟩) λ_ o0 s=>?_
   .rw[so];intro NV l e r;have e:=Ha e;subst e;have cH:l.length=xs.length:=(by rw[<- r.length,Gv]);refine⟨l,?_,cH,rfl,r⟩;rw[<- cH];exact zy l σ U X.N.length (oz.symm) (by rw[m0,cH])
   obtain⟨sy,lF,FW,l,FZ,oA,F1,G8⟩:=s;subst FZ;subst F1;have a7:Ext C f a0 lF:=aq.trans aw;have sr:cC X.K aa a0 lF (N++ws.map Z) (σ++l.map Z):=(HF.ext a7).more l1 G8;have f6:lF Dd=Z (.lst fh):=aw.h _ _ bO;have k2:a0 Dd=none:=aw.new Dd f8 (by rw[bO];exact λz=>nomatch z);refine MJ Gu FW sr m3 λHE a1 ay b1 M=>?_
   have b0:ay Dd=Z (.lst fh):=M.h _ _ f6;have f7:a1 Dd=none:=M.new Dd k2 (by rw[f6];exact λz=>nomatch z);have sq:ax X.K a1 gr fh:=(dz.mono aw.g).mono M.g;rcases a with⟨rfl,df⟩|⟨rfl,m5⟩
   .simp only[N4,Ox];refine⟨ds.length-(i+1),⋯,i+1,l.map Z,ay,a1,gr,fh,rfl,⋯,by rw[Tj];exact oA,b1.ly,T.keep _ _ _ a5 λb a o e=>(b1.pin (b,o) (Oo _ (Oo _ (kQ a e)))).1,λb a=>?_,a7.trans M,b0,f7,sq,⋯,df⟩;obtain⟨de,e,_⟩:=T.obj _ _ a5 b a;exact(b1.pin (b,de) (Oo _ (Oo _ (kQ a e)))).2.1
   .simp only[O6];refine aN (k5 s3 (upd f Dd (.lst [])) g h _ _ HE (σ++l.map Z) ay (λv iq=>∃w y,Ext a1 ay w iq/\Rep X.K w y v/\aO (ζ.bf (eZ k bF eB N) (ds.drop (i+1))) (λrest=>jk X h σ G H use Qc (gr++y::rest)) (λc=>cG (bb.bC a2) X c H)) (vc b1) ⟨a1,N++ws.map Z,sr.ext M,aM m5 (λy z v w iq S dy=>⟨w,y,S,dy,z⟩) λc z=>CY (use:=use) (Qc:=Qc) (Dd:=Dd) F4 aF a3 z ((R.trans (a7.trans M)).h)⟩) λHG ze s=>?_
    obtain⟨bc,iq,bj,dy,w,y,S,G7,df⟩:=s;have bj:Inv (d3 X scope cF s3 (upd f Dd (.lst [])) g h λ_ _=>False) _ (σ++l.map Z) iq ze:=vc bj;have k1:iq Dd=Z (.lst fh):=S.h _ _ b0;have fp:w Dd=none:=S.new Dd f7 (by rw[b0];exact λz=>nomatch z);have Ga:fh.length<sizeLine:=(by rw[<- dz.length,TL];lia);refine aN (xV (X:=d3 X scope cF s3 (upd f Dd (.lst [])) g h λ_ _=>False) _ ze (σ++l.map Z) iq (.ref Dd) [bc] (.ref Dd) [HG] (λ_ d6=>d6=upd iq Dd (.lst (fh++[bc]))) bj rfl (.cons dy .nil) ⟨Dd,fh,bc,rfl,rfl,k1,Ga,rfl⟩) λ_ NU s=>?_
    obtain⟨_,d6,bl,_,F0⟩:=s;subst F0;have au:Ext C f w iq:=(a7.trans M).trans S;refine⟨ds.length-(i+1),⋯,i+1,l.map Z,_,w,gr++[y],fh++[bc],rfl,⋯,by rw[Tj];exact oA,bl.ly,T.keep _ _ _ a5 λb a o e=>(bl.pin (b,o) (Oo _ (Oo _ (kQ a e)))).1,λb a=>?_,
     ⟨au.g,λb o e=>?_,λb o e=>?_,au.new,λb xs e=>au.cV b xs (by
      by_cases q:b=Dd
      .subst q;rw[bE]at e;cases e
      .rw[aZ q]at e;exact e)⟩,bE,fp,(sq.mono S.g).snoc G7,by rw[N7,TS];lia,aM df (λr z=>by rw[Oe];exact z) λ_ z=>z⟩
    .obtain⟨de,e,_⟩:=T.obj _ _ a5 b a;exact(bl.pin (b,de) (Oo _ (Oo _ (kQ a e)))).2.1
    .rw[aZ (fU e a9)];exact au.h b o e
    .rw[aZ (fU e fp)];exact au.sub b o e
  .have F9:i=ds.length:=⋯;subst F9;have fin:jk X h σ G H use Qc gr:=by
    rw[Rv]at O;have O:jk X h σ G H use Qc (gr++[]):=O;rwa[Pz]at O
   have done:=T.done t cL cM g2 g3 ds.length [] s' (σ++U) aK (λ_ _=>False) e0 (cu eY) su (c4.stop A aK cv);rw[g1]at done;refine aN done λr Q s=>?_
   obtain⟨cN,I⟩:=s;subst cN;obtain⟨m4,h0,_⟩:=I.loc;have bq:t.env.locals=s3.heap.objs.size:=(by rw[<- m];rfl);rw[bq]at h0;refine fin Q aK A s3.heap.objs.size Dd m4 (R.trans aq) ⟨Dd,fh,rfl,bO,R.h.free a9,f8,dz⟩ h0 (aF.jG (N2 _) (by have:=I.free;rw[bq]at this;exact this)) λh' a6=>?_
   have fR:aK s3.heap.objs.size=none:=(by have:=I.free;rw[bq]at this;exact this);have L:cX (dB X.stack) g (upd f Dd (.lst [])) aK s3.heap Q.heap:=(by have:=I.base;rw[<- m]at this;exact this);have dc:∀b o,s3.heap.get? b=Z o->b≠s3.heap.objs.size:=λb o e=>Oj (N5 e)
   have HH:cX (dB X.stack) g (upd f Dd (.lst [])) aK s3.heap h' :=
    ⟨λb o e n a a4=>(a6.2 b (dc b o e)).trans (L.keep b o e n a a4),λb o e n a a4=>by obtain⟨iW,q⟩:=L.slot b o e n a a4;exact⟨iW,(a6.2 b (dc b o e)).trans q⟩,L.free,
     λb o e a4=>by obtain⟨G4,q⟩:=L.there b o e a4;exact⟨G4,(a6.2 b (dc b o e)).trans q⟩,L.gn,L.fS,L.gm⟩
   have l5:cn X.prog X.w aK h':=λb o e=>by
    have q:=I.aJ b o e;rw[cL,cM]at q;refine q.gk (λc v k3 q=>(a6.2 c ?_).trans q) (λ_ q=>q) λ_ _ q=>q
    rcases k3 with z|z
    .rw[z];rintro rfl;rw[fR]at e;cases e
    .rintro rfl;rw[fR]at z;cases z
   have m2:Q.os=s3.os:=(by have:=I.os;rw[<- m]at this;exact this);have FX:Inv X h σ aK { Q with heap:=h' }:=aF.rh (s':={ Q with heap:=h' }) m2 HH l5 I.bare λb a=>by
    obtain⟨F2,e3,F3,e5,eX,cq⟩:=a3 b a;exact⟨e5,e3,eX,cq⟩
   exact FX
 refine codeAny_compStart_list sm (T.self _ _ _ _ _ sx sm)
def vB{d:Nat->Option Tu}(A:kh X)(M:X.calm=J)(R:∀i∈aa,i<X.N.length)(B:ji X scope xs cF)(Q:ζ.dh k target=Z xs)(a0:∀x,Ux iter X.env x=pure x)(hi:ey X target iter (fH (bb.bC d) X aa .view oq))(O:∀s3 p m a E,ai (d3 X scope cF s3 p m a E) elt (ar (bb.bC d) (d3 X scope cF s3 p m a E) aa .val eB))(a1:kp (bb.bC d) X aa scope cF ifs bF){f:aQ}(I:Inv X a f H s)(t:cC X.K aa G H h f)(hw:aO (oq h>>=λds=>ζ.bf (eZ k bF eB h) ds) (jk X a f G H use Qc) (λc=>cG (bb.bC d) X c H)):
  Ts (Tw X.prog X.w) X.A (comprehension (.ListComp elt [⟨target,iter,ifs,0⟩] scope pos) scope X.env b2 (X9 []) Th (Uc iter X.env) use) Qc X.aV s:=by
 have N:closureFor scope X.env=pure (dO X.env scope.names []):=CC λx a2 e=>by
  have:=B.fr x a2 e;exact I.ok.has x.1 (by rcases this with q|q;exact .inl q;exact .inr q)
 refine wpAny_comprehension_free (use:=use) rfl a0 N B.kind B.names ?_;refine aN (hi a s f H (λl j=>∃g ds,Ext G H g j/\fW X.K (hv .view g j) l ds/\ds.length<=16777216/\aO (ζ.bf (eZ k bF eB h) ds) (jk X a f G H use Qc) (λc=>cG (bb.bC d) X c H)) I
  ⟨G,h,t,aM (av.mp hw) (λds a5 l g j x n hz=>?_) λ_ q=>q⟩) λv a9 C=>aN C λb1 s2 h2=>?_
 .exact⟨g,ds,x,n,hz,a5⟩
 obtain⟨aF,m,a6,l,aw,rfl,r,T,u,w,au,ds,aq,n,hz,a4⟩:=h2;refine OC (wpAny_newFunctionEnv B.iZ (by intro y a3;simp at a3) (λay S U=>?_) B.kind);refine CW (s2:=s2) (s3:={ s2 with heap:=s2.heap.push { cls:=.type "list",data:=.seq ([]:List Ti).toArray } }) (tk:=s2.toks) A M R B Q O a1 I.len t T u w aq n hz a4 (r.xG (t':=s2.toks) (ys:=[]) (its:=[]) .nil (Od _)) r.fresh (λb L z=>?_) (λb o e=>N1 _ e) ⇑S λb o e=>U.extBut b o (Oj (N5 e)) (N1 _ e)
 obtain⟨o,e,_⟩:=T.obj _ _ u b L;have:=N5 e;rw[z]at this;exact absurd this (Pt _)
def tK{a:Nat->Option Tu}(h:kh X)(j:X.calm=J)(n:∀i∈aa,i<X.N.length)(B:ji X scope xs cF)(m:ζ.dh k target=Z xs)(t:∀x,Ux iter X.env x=pure x)(hi:ey X target iter (fH (bb.bC a) X aa .view oq))(l:∀s3 e f b E,ai (d3 X scope cF s3 e f b E) elt (ar (bb.bC a) (d3 X scope cF s3 e f b E) aa .val eB))(u:kp (bb.bC a) X aa scope cF ifs bF):
  ai X (.ListComp elt [⟨target,iter,ifs,0⟩] scope pos) (ar (bb.bC a) X aa .fresh λc=>oq c>>=λds=>ζ.bf (eZ k bF eB c) ds>>=λys=>.ok (.lst ys)):=by
 rintro b s y H Q I ⟨G,c,p,hw⟩;rw[eval_ListComp];refine vB h j n B m t hi l u I p (use:=Y) (Qc:=cJ X b y Q) ?_;have hw:=av.mp hw;refine av.mpr (aM hw (λds k1=>?_) λ_ q=>q);refine aM (av.mp k1) (λys k2 A d g C Dd m4 x r o z v=>?_) λ_ q=>q
 exact⟨m4,o,λh' w=>⟨.ref Dd,d,v h' w,rfl,k2 _ g d x r⟩⟩
end
section
def I5(m:ai X l u):ey X y l (λj H R=>u j H λx f=>∃a xs,x=.ref a/\((cb X.K f a xs/\(xs.length<=TH->R (qm X.K a) f))\/(bT X.K f a xs/\(xs.length<=TH->R (qn X.K a) f)))):=by
 intro n s j H R I h;refine aN (m n s j H _ I h) λv c w=>?_
 obtain⟨x,f,d,k,r⟩:=w;obtain⟨a,xs,e,⟨i,q⟩|⟨i,q⟩⟩:=r
 .subst e;cases k;obtain⟨its,t,p,hz⟩:=d.list i;refine Ra p.isList ?_;refine⟨c.heap.objs.size,[c.heap.objs.size],_,_,f,rfl,d.kept (t':=c.toks) λb o e=>N1 _ e,MV a _,⟨_,N6 _ rfl,rfl,rfl⟩,λb g=>?_,q hz⟩;have e:b=c.heap.objs.size:=⇑g;subst e;exact d.jG (N2 _) (d.aJ.fresh (N2 _))
 .subst e;cases k;obtain⟨its,t,p,hz⟩:=d.tuple i;refine Qw (show c.heap.IsTuple a its.toArray from p) ?_;refine⟨c.heap.objs.size,[c.heap.objs.size],_,_,f,rfl,d.kept (t':=c.toks) λb o e=>N1 _ e,MY a _,⟨_,N6 _ rfl,rfl,rfl⟩,λb g=>?_,q hz⟩;have e:b=c.heap.objs.size:=⇑g;subst e;exact d.jG (N2 _) (d.aJ.fresh (N2 _))
def xb{K:W.Frag}(f:∀b c,P b c->aD G b/\cb K c a xs)(r:ax K G ds xs):fW K P (qm K a) ds where
 go:=λi b c h hi=>by
  obtain⟨_,q⟩:=f b c h;have m:i<xs.length:=(by rw[<- r.length];exact hi);exact⟨xs,xs[i],q,N8 m⟩
 gq:=λi b c x o d h l k n=>by
  obtain⟨e,y⟩:=n;obtain⟨g,q⟩:=f b c h;subst e;obtain⟨v,j,h2⟩:=r.get k;have:=y xs q;rw[j]at this;cases this;exact⟨b,Ext.refl l,h2.mono g⟩
 stop:=λb c h=>⟨xs,(f b c h).2,by rw[r.length];exact N2 _⟩
def xd{K:W.Frag}(f:∀b c,P b c->aD G b/\bT K c a xs)(r:ax K G ds xs):fW K P (qn K a) ds where
 go:=λi b c h hi=>by
  obtain⟨_,q⟩:=f b c h;have m:i<xs.length:=(by rw[<- r.length];exact hi);exact⟨xs,xs[i],q,N8 m⟩
 gq:=λi b c x o d h l k n=>by
  obtain⟨e,y⟩:=n;obtain⟨g,q⟩:=f b c h;subst e;obtain⟨v,j,h2⟩:=r.get k;have:=y xs q;rw[j]at this;cases this;exact⟨b,Ext.refl l,h2.mono g⟩
 stop:=λb c h=>⟨xs,(f b c h).2,by rw[r.length];exact N2 _⟩
def oR{K:W.Frag}(r:ax K G ds xs)(h:xs.length<=TH):ds.length<=16777216:=by rw[r.length,<- TL];exact h
def zl(i:m=.view\/m=.val)(u:ai X l (ar xp X x m f)):ey X A l (fH xp X x m λp=>f p>>=λd=>ζ.zw d):=by
 rintro y s z H R I ⟨G,p,w,hw⟩;refine I5 u y s z H R I ?_;refine⟨G,p,w,aM (av.mp hw) (λd k v c h x1 g=>?_) λ_ q=>q⟩;cases d with
 |lst ds =>
  rcases i with rfl|rfl
  .obtain⟨a,xs,rfl,b,r⟩:=gP (X:=X) g;exact⟨a,xs,rfl,.inl ⟨b,λhz=>k _ c h x1 (xb (G:=c) (λj n ⟨e,h2⟩=>⟨e,hn h2 b⟩) r) (oR r hz)⟩⟩
  .obtain⟨a,xs,rfl,b,r⟩:=g;exact⟨a,xs,rfl,.inl ⟨hn x1.sub b,λhz=>k _ c h x1 (xb (G:=c) (λj n ⟨e,h2⟩=>⟨e,hn h2 (hn e b)⟩) r) (oR r hz)⟩⟩
 |tup ds =>
  have g:Rep X.K c (.tup ds) v:=(by rcases i with rfl|rfl<;>exact g);obtain⟨a,xs,rfl,b,r⟩:=g;refine⟨a,xs,rfl,.inr ⟨eI x1.sub b,λhz=>k _ c h x1 (xd (G:=c) (λj n o=>?_) r) (oR r hz)⟩⟩;obtain⟨e,h2⟩:=o;rcases i with rfl|rfl
  .exact⟨e,pJ h2 (eI x1.sub b)⟩
  .exact⟨e,pJ h2 (eI e b)⟩
 |kt ds =>
  have g:Rep X.K c (.kt ds) v:=(by rcases i with rfl|rfl<;>exact g);obtain⟨a,xs,rfl,b,r⟩:=g;have b:∀t,bT X.K t a xs:=λt=>tT b
  refine⟨a,xs,rfl,.inr ⟨b _,λhz=>k _ c h x1 (xd (G:=c) (λj n o=>?_) r) (oR r hz)⟩⟩;obtain⟨e,h2⟩:=o;exact⟨e,b _⟩
 |_=>exact k.elim
def Kr(c:m=.view\/m=.val)(b:ai X l (ar xp X g m f)):ey X j l (fH xp X g m λa=>f a>>=λd=>ζ.cf d):=by
 rintro h s i H R I ⟨G,a,e,hw⟩;refine zl c b h s i H R I ⟨G,a,e,av.mpr (aM (av.mp hw) (λd k=>?_) λ_ q=>q)⟩;cases d<;>first|exact k|exact k.elim
def xc{K:W.Frag}{lo hi:Int}:fW K P (ki lo (hi-lo).toNat) (ζ.cP lo hi) where
 go:=λi b c _ f=>by
  show i<(hi-lo).toNat;unfold ζ.cP at f;simpa using f
 gq:=λi b c x l d _ h a j=>by
  obtain⟨e,y⟩:=j;subst e;unfold ζ.cP at a;rw[Ot]at a;cases q:(TB (hi-lo).toNat)[i]? with
  |none=>rw[q]at a;cases a
  |some k =>
   rw[q]at a;have g:k=i:=by
    have:=Og.mp q;obtain⟨_,e⟩:=this;rw[<- e];simp
   subst g;cases a;exact⟨b,Ext.refl h,y⟩
 stop:=λb c _=>by
  show(hi-lo).toNat<=_;unfold ζ.cP;simp
def tG{Q:List D->Prop}(h:aO (ζ.fw i j) Q E):(-(2 ^ 62)<=i/\i<2 ^ 62/\-(2 ^ 62)<=j/\j<2 ^ 62)/\(ζ.cP i j).length<=16777216/\Q (ζ.cP i j):=by
 unfold ζ.fw at h;cases q:(ζ.hj i&&ζ.hj j&&decide ((j-i).toNat<=1000000)) with
 |false=>rw[q]at h;exact h.elim
 |true =>
  rw[q]at h;simp only[N0,ζ.hj,Ov]at q;obtain⟨⟨⟨a1,a2⟩,a3,a4⟩,a5⟩:=q;refine⟨⟨⋯,⋯,⋯,⋯⟩,?_,h⟩;unfold ζ.cP;rw[Tj,UP];lia
def KO{x:Tz}(o:x="range")(j:b9 X x)(l:X.aj x=Y)(h:ai X a (ar xp X r .view g))(c:TF [a] X.env=[(Th,Uc a X.env)]):
  ey X y (.Call (.Name x p) [a] [] pos) (fH xp X r m λb=>g b>>=λd=>ζ.dw d>>=λi=>ζ.fw 0 i):=by
 subst o;rintro t s w H R I ⟨G,b,n,hw⟩;refine I3 j l (fV h c) c t s w H R I ?_;refine⟨G,b,n,aM (av.mp hw) (λd k v e f x1 u=>?_) λ_ q=>q⟩;have k:=av.mp k;cases d with
 |int i =>
  obtain⟨⟨_,_,b1,b2⟩,hz,q⟩:=tG k;refine⟨i,by rw[aW.kV u],b1,b2,?_⟩;have:=q (ki 0 (i-0).toNat) e f x1 xc hz;rw[Int.sub_zero]at this;exact this
 |_=>exact k.elim
def KP{x:Tz}(B:x="range")(z:b9 X x)(A:X.aj x=Y)(w:ai X a (ar xp X l .view t))(y:ai X b (ar xp X l .view u))(h:TF [a,b] X.env=[(Th,Uc a X.env),(Th,Uc b X.env)])(f:TF [b] X.env=[(Th,Uc b X.env)]):
  ey X Q (.Call (.Name x p) [a,b] [] pos) (fH xp X l m λc=>t c>>=λd=>ζ.dw d>>=λi=>u c>>=λe=>ζ.dw e>>=λj=>ζ.fw i j):=by
 subst B;rintro C s N H R I ⟨G,c,g,hw⟩;refine I4 z A (fv w (fV y f) (by rw[h,f])) h f C s N H R I ?_;refine⟨G,c,g,aM (av.mp hw) (λd k v n O x1 E=>?_) λ_ q=>q⟩;have k:=av.mp k;cases d with
 |int i =>
  refine⟨n,c,g.ext x1,aM (av.mp k) (λe k2 S o r M L=>?_) λ_ q=>q.mono x1.h⟩;have k2:=av.mp k2;cases e with
  |int j =>
   obtain⟨b1,hz,q⟩:=tG k2;refine⟨i,j,by rw[aW.kV E,aW.kV L],b1,?_⟩;exact q _ o r (x1.trans M) xc hz
  |_=>exact k2.elim
 |_=>exact k.elim
abbrev nU(x:Tz):fN:=⟨λi _=>i<x.cps.size,λi H v a=>a=H/\∃c,x.cps[i]?=Z c/\v=.str ⟨#[c]⟩,λi _=>x.cps.size<=i⟩
def MX{K:W.Frag}{x:Tz}{t:Tok}(it):Turn P w K S (nU x) [it] it (λi h=>h.IsStrIter it "str_ascii_iterator" x t i) where
 mem:=by simp
 obj:=λi h st b f=>by
  have e:b=it:=⇑f;subst e;obtain⟨o,e,c,d⟩:=st;exact⟨o,e,λv z=>by rw[d]at z;cases z⟩
 keep:=λi h h' st k=>by
  obtain⟨o,e,r⟩:=st;exact⟨o,k it (by simp) o e,r⟩
 item:=by
  intro X u hw q B i C s L H E I g st a;subst u hw q;have a:i<x.cps.size:=a;obtain⟨j,l,O,m,n,p⟩:=g it (by simp);refine wpAny_pyNext_ascii_item st (N9 a) λh' G R=>?_
  have M:Inv X C L H { s with heap:=h',toks:=s.toks+1 }:=I.turned (t':=s.toks+1) (λb o f e=>(R.2 b f).trans e) j l m n p;obtain⟨o,e,c,d⟩:=id G;exact⟨_,rfl,ml (s:={ s with heap:=h',toks:=s.toks+1 }) e c d ∅ ⟨.str ⟨#[x.cps[i]]⟩,H,M,⟨_,rfl⟩,⟨rfl,_,N9 a,rfl⟩,G,λb f=>(g b f).1⟩⟩
 done:=by
  intro X u hw q B i C s L H E I g st a;subst u hw q;have a:x.cps.size<=i:=a;obtain⟨j,l,O,m,n,p⟩:=g it (by simp);exact wpAny_pyNext_ascii_end (I.ok.hd B) st (P4 a) λh' N=>⟨rfl,I.turned (t':=s.toks) (λb o f e=>N b o f e) j l m n p⟩
 self:=λA i s Q E st h=>by
  have y:s.TypeIs (.ref it) "str_ascii_iterator":=st.typeIs;refine Rc y Ry (OM Ry y F.entry_str_ascii_iterator_iter ?_ (F.args_str_ascii_iterator_iter_1 _));show Ts _ _ (ret (.ref it)) _ _ s;exact Tg ⟨_,rfl,"str_ascii_iterator",_,y,F.slot_str_ascii_iterator_next.lookup,h⟩
def FK{K:W.Frag}{x:Tz}:fW K P (nU x) (x.cps.toList.map λc=>.str ⟨#[c]⟩) where
 go:=λi a b _ h=>by
  show i<x.cps.size;simpa using h
 gq:=λi a b v m d _ j f l=>by
  obtain⟨e,c,g,k⟩:=l;subst e;rw[Ot,Oq,g]at f;cases f;exact⟨a,Ext.refl j,k⟩
 stop:=λa b _=>by
  show x.cps.size<=_;simp
def Ks(A:ai X l (ar xp X C m f)):ey X N l (fH xp X C m λp=>f p>>=λd=>ζ.pA d):=by
 rintro E s M H R I ⟨G,p,B,hw⟩;refine aN (A E s M H (λv g=>∃z a,v=.str z/\z.cps.all (· < 128)=J/\z.length<=ζ.SZ/\Ext G H a g/\∀(u:fN)(r i:ah),Ext G H r i->fW X.K (hv m r i) u (z.cps.toList.map λc=>.str ⟨#[c]⟩)->(z.cps.toList.map λc=>ζ.D.str ⟨#[c]⟩).length<=16777216->R u i) I
  ⟨G,p,B,aM (av.mp hw) (λd k v a g x1 n=>?_) λ_ q=>q⟩) λv h L=>?_
 .cases d with
  |str z =>
   have k:aO (if (z.cps.all (· < 128)&&decide (z.length<=ζ.SZ))=J then .ok (z.cps.toList.map λc=>ζ.D.str ⟨#[c]⟩) else .bad) _ _:=k
   by_cases q:(z.cps.all (· < 128)&&decide (z.length<=ζ.SZ))=J
   .rw[if_pos q]at k;rw[N0]at q;exact⟨z,a,by cases m<;>exact n,q.1,PX q.2,x1,k⟩
   .rw[if_neg q]at k;exact k.elim
  |_=>exact k.elim
 .obtain⟨x,g,j,n,z,a,rfl,w,hz,x1,hR⟩:=L;obtain⟨t,rfl⟩:=n;refine wpAny_pyIter_ascii w ?_;refine⟨h.heap.objs.size,[h.heap.objs.size],_,nU z,g,rfl,j.kept (t':=h.toks) λb o e=>N1 _ e,MX (t:=t) _,⟨_,N6 _ rfl,rfl,rfl⟩,λb y=>?_,?_⟩
  .have e:b=h.heap.objs.size:=⇑y;subst e;exact j.jG (N2 _) (j.aJ.fresh (N2 _))
  .exact hR (nU z) a g x1 FK (by rw[Tj,Tn];exact hz)
end
section
variable{xp:bR}{X:ao}{aa:List Nat}{m:dk}{f aT bD:aB->aU D}{l a b es:TG}{pos p:Vb}{pins:List (Tu×UK)}{σ:aQ}{G H:ah}{s:Tq}
theorem rf{K:W.Frag}:∀{ds:List D}{bs:List Bool}{xs:List V},ζ.fA ds=Z bs->ax K G ds xs->xs=bs.map V.ag
 |[],bs,xs,h,r=>by cases h;exact r
 |d::ds,bs,xs,h,⟨v,t,e,c,g⟩=>by
  subst e;cases d with
  |ag b =>
   simp only[ζ.fA]at h;cases q:ζ.fA ds with
   |none=>rw[q]at h;cases h
   |some cs =>
    rw[q]at h;simp only[Uq,O4]at h;subst h;have c:v=.ag b:=c;rw[c,rf q g];rfl
  |_=>simp only[ζ.fA]at h;cases h
theorem p8:∀{bs:List Bool}{c:List Ti},Vals (bs.map V.ag) c->c=bs.map UA
 |[],_,r=>by cases r;rfl
 |b::bs,_,r=>by
  cases r with
  |cons d e=>rw[p8 e,(show _=UA b from d)];rfl
def va(M:X.calm=J)(I:Inv X pins σ H s){a:Tu}{bs:List Bool}(h:cb X.K H a (bs.map V.ag)\/bT X.K H a (bs.map V.ag)){Q:Ti->Tq->Prop}{r:List Nat->(Nat->Bool)->Bool}(z:∀h' tk,Inv X pins σ H { s with heap:=h',toks:=tk }->Q (.bool (r (TB bs.length) λi=>bs.getD i Th)) { s with heap:=h',toks:=tk }):
  Ts (Tw X.prog X.w) X.A.in1 (VV (.ref a)) (λN x=>∃I L C n P St A,N=.ref I/\Walks X.prog X.w X.A.in1 I L C n P St/\St 0 x.heap/\TruthOf X.prog X.w X.A.in1 P A /\
   ∀h' tk,(∀b o,b∉C->x.heap.get? b=Z o->h'.get? b=Z o)->Q (.bool (r (TB n) A)) { x with heap:=h',toks:=tk }) X.aV s:=by
 have y:X.A.in1.handled=none:=I.ok.hd M;have B:∀its:List Ti,its=bs.map UA->TruthOf X.prog X.w X.A.in1 (λi v=>its.toArray[i]?=Z v) λi=>bs.getD i false:=by
  intro its e i v s Q E d j;subst e;have d:(bs.map UA)[i]?=Z v:=⇑d;rw[Ot]at d;cases q:bs[i]? with
  |none=>rw[q]at d;cases d
  |some b =>
   rw[q]at d;cases d;refine Pl ?_;have:bs.getD i Th=b:=(by simp[Uo,q]);have j:Q (bs.getD i Th) s:=j;rw[this]at j;exact j
 rcases h with h|h
 .obtain⟨its,w,g,hz⟩:=I.list h;have e:=p8 w;have t:its.toArray.size=bs.length:=(by rw[Oc,e,Tj]);refine Ra g.isList ?_;have u:a≠s.heap.objs.size:=(by obtain⟨o,n,c,_⟩:=g;exact Oj (N5 c));refine⟨s.heap.objs.size,_,_,_,_,_,λi=>bs.getD i Th,rfl,Walks.list y _ a u its.toArray,⟨⟨_,N6 _ rfl,rfl,rfl⟩,(let ⟨o,c,r⟩:=g.isList;⟨o,N1 _ c,r⟩)⟩,B its e,λh' tk k=>?_⟩;rw[t];refine z h' tk (I.kept λb o e=>k b o (by simp;exact Oj (N5 e)) (N1 _ e))
 .obtain⟨its,w,g,hz⟩:=I.tuple h;have e:=p8 w;have t:its.toArray.size=bs.length:=(by rw[Oc,e,Tj]);refine Qw (show s.heap.IsTuple a its.toArray from g) ?_;have u:a≠s.heap.objs.size:=(by obtain⟨o,c,_⟩:=g;exact Oj (N5 c));refine⟨s.heap.objs.size,_,_,_,_,_,λi=>bs.getD i Th,rfl,Walks.tuple y _ a u its.toArray,⟨⟨_,N6 _ rfl,rfl,rfl⟩,(let ⟨o,c,r⟩:=g;⟨o,N1 _ c,r⟩)⟩,B its e,λh' tk k=>?_⟩;rw[t];refine z h' tk (I.kept λb o e=>k b o (by simp;exact Oj (N5 e)) (N1 _ e))
def range_getD(bs):(TB bs.length).map (λi=>bs.getD i Th)=bs:=by
 apply Qi;intro i;rw[Ot]
 by_cases h:i<bs.length
 .rw[Qp h];simp[Uo,h]
 .rw[OE ⇑h,OE ⇑h];rfl
def all_range(bs:List Bool):(TB bs.length).all (λi=>bs.getD i Th)=bs.all id:=by
 conv=>rhs;rw[<- range_getD bs]
 rw[Ue];rfl
def any_range(bs:List Bool):(TB bs.length).any (λi=>bs.getD i Th)=bs.any id:=by
 conv=>rhs;rw[<- range_getD bs]
 rw[V3];rfl
def pB(e:aD G H)(c:View X.K G H d x){Q:List D->Prop}(h:aO (ζ.cf d) Q E):∃ds a xs,x=.ref a/\(cb X.K H a xs\/bT X.K H a xs)/\ax X.K G ds xs/\Q ds:=by
 cases d with
 |tup ds =>
  obtain⟨a,ys,rfl,k,q⟩:=ic e c;exact⟨ds,a,ys,rfl,.inr k,q,h⟩
 |lst ds =>
  obtain⟨a,ys,rfl,k,q⟩:=gP c;exact⟨ds,a,ys,rfl,.inl k,q,h⟩
 |_=>exact h.elim
def AN{ds:List D}{Q:Bool->Prop}{E:Nat->Prop}{r:List Bool->Bool}(h:aO (match ζ.fA ds with|some bs=>ζ.R.ok (r bs)|none=>.bad) Q E):∃bs,ζ.fA ds=Z bs/\Q (r bs):=by
 cases q:ζ.fA ds with
 |none=>rw[q]at h;exact h.elim
 |some bs=>rw[q]at h;exact⟨bs,rfl,h⟩
def Ez(j:X.calm=J):dv X (.builtin "all") (gi X.K m λd=>ζ.cf d>>=λxs=>ζ.hB xs>>=λb=>.ok (.ag b)):=by
 rintro pins s σ H xs q Q I r ⟨G,x,d,i,g,o,hw⟩;subst i;obtain⟨u,rfl,n⟩:=vals1 r;obtain⟨ds,a,ys,rfl,c,k,hw⟩:=pB g o (av.mp hw);obtain⟨bs,e,hw⟩:=AN (r:=λbs=>bs.all id) (av.mp hw);rw[rf e k]at c;cases n;refine call_all_walk (va j I c (r:=λl t=>l.all t) λh' tk h=>?_);rw[all_range];exact⟨.ag _,H,h,rfl,hw _ G H (Ext.refl g) aW.ag⟩
def EA(j:X.calm=J):dv X (.builtin "any") (gi X.K m λd=>ζ.cf d>>=λxs=>ζ.iA xs>>=λb=>.ok (.ag b)):=by
 rintro pins s σ H xs q Q I r ⟨G,x,d,i,g,o,hw⟩;subst i;obtain⟨u,rfl,n⟩:=vals1 r;obtain⟨ds,a,ys,rfl,c,k,hw⟩:=pB g o (av.mp hw);obtain⟨bs,e,hw⟩:=AN (r:=λbs=>bs.any id) (av.mp hw);rw[rf e k]at c;cases n;refine call_any_walk (va j I c (r:=λl t=>l.any t) λh' tk h=>?_);rw[any_range];exact⟨.ag _,H,h,rfl,hw _ G H (Ext.refl g) aW.ag⟩
end
section
def EZ{lo hi:Option Int}(b:Yb s.heap t a)(c:s.heap.IsSliceOf d l m .none)(j:VY l lo)(k:VY m hi)(hw:bx.aR a.size 0 lo=0/\bx.aR a.size a.size hi=a.size)(h:Q (.ref t) s):Ts (Tw prog w) A (Vi (.ref t) (.ref d)) Q E s:=by
 obtain⟨os,g,f,n⟩:=id c;have e:s.TypeIs (.ref d) "slice":=⟨os,g,f⟩;unfold Vi
 try with_reducible refine Pu ?_
 first|refine NZ (Tg ?_)|skip
 refine NZ (wpAny_sequenceKey b.typeIs ∅ ?_);refine NZ (OK (name:=Tf "__getitem__") b.typeIs O8
  (OM O8 b.typeIs WQ ?_ (args_tuple_getitem _ _)))
 show Ts _ _ (Vy (.ref t)>>=_) _ _ s;refine NZ (PyProof.Rows.tupleItemsOf_ b ?_);refine NZ (Qu e ?_);rw[if_pos ∅];refine NZ (bx.zJ c j k ?_);have i:(((bx.aR a.size 0 lo:Nat):Int)==0&&(1:Int)==1&&(bx.aR a.size a.size hi-bx.aR a.size 0 lo)==a.size)=true:=by
  rw[hw.1,hw.2];simp
 show Ts _ _ (if (((bx.aR a.size 0 lo:Nat):Int)==0&&(1:Int)==1&&(bx.aR a.size a.size hi-bx.aR a.size 0 lo)==a.size)=J then _ else _) _ _ s;rw[if_pos i];unfold Builtin.Tuple.tupleIsExact;refine NZ (NZ (Qu b.typeIs (Tg ?_)));rw[if_pos ∅];refine NZ (PR (Tg ⟨_,rfl,Tg h⟩))
end
section
variable{xp:bR}{X:ao}{aa:List Nat}{m:dk}{f aT bD:aB->aU D}{wt wk:aB->aU (Option Int)}{a b es:TG}{lo hi:Option TG}{pos p p2:Vb}{pins:List (Tu×UK)}{σ:aQ}{G H:ah}{s:Tq}
def pw(n d)(o):ζ.aR n d o=bx.aR n d o:=by
 cases o with
 |none=>rfl
 |some i =>
  simp only[ζ.aR,bx.aR]
  by_cases h:i<0
  .rw[if_pos h,if_pos h];split<;>lia
  .rw[if_neg h,if_neg h];split<;>lia
def vF{K:W.Frag}(r:ax K G ds xs)(lo hi):ax K G (ζ.cut ds lo hi) (hE xs lo hi):=by
 unfold ζ.cut hE;rw[pw,pw,r.length];exact(r.drop _).take _
def lu(xp:bR)(X:ao)(aa:List Nat)(f:aB->aU (Option Int)):hA:=λσ H Q =>
 ∃G e,cC X.K aa G H e σ/\aO (f e) (λo=>∀g d,Ext G H g d->Q o d) (λc=>cG xp X c H)
def Kz:gR X Y (lu xp X aa λ_=>.ok Y):=by
 rintro pins s σ H Q I ⟨G,d,c,hw⟩;exact Jb pins s σ H Q I (hw G H (Ext.refl c.sub))
def KD(h:ai X a (ar xp X aa .view aT)):gR X (Z a) (lu xp X aa λc=>aT c>>=λx=>ζ.dw x>>=λi=>.ok (Z i)):=by
 rintro pins s σ H Q I ⟨G,c,j,hw⟩;refine Jc h pins s σ H Q I ?_;refine⟨G,c,j,aM (av.mp hw) (λd k v e g x1 l=>?_) λ_ q=>q⟩;cases d with
 |int i=>exact⟨i,aW.kV l,k e g x1⟩
 |_=>exact k.elim
def JI(K:W.Frag):V->Option Int->Option Int->ah->bK->Prop:=λx lo hi H Q =>
 ∃G d,aD G H/\View K G H d x/\aO (ζ.h7 d lo hi) (λd'=>∀v e c,Ext G H e c->aW K H e c .fresh d' v->Q v c) (λ_=>False)
def Li:ko X (λx lo hi H Q=>∃a xs,x=.ref a/\bT X.K H a xs/\(bx.aR xs.length 0 lo=0/\bx.aR xs.length xs.length hi=xs.length)/\Q (.ref a) H):=by
 intro pins s σ H x v n o lo hi l Q I k e i j h;obtain⟨a,xs,rfl,g,hw,q⟩:=h;cases k;obtain⟨its,r,c,hz⟩:=I.tuple g;have d:its.toArray.size=xs.length:=by rw[Oc];exact r.length.symm
 refine⟨"tuple",_,O8.lookup,c.typeIs,?_⟩;exact EZ c e i j (by rw[d];exact hw) ⟨.ref a,H,I,rfl,q⟩
def C7{ds:List D}{lo hi:Option Int}(h:bx.aR ds.length 0 lo=0/\bx.aR ds.length ds.length hi=ds.length):ζ.cut ds lo hi=ds:=by
 unfold ζ.cut;rw[pw,pw,h.1,h.2];simp
def Ll:ko X (λx lo hi H Q=>∃z,x=.str z/\z.length<=TH/\Q (.str (Txt.slice z lo hi)) H):=by
 intro pins s σ H x v B C lo hi A Q I y r w e h;obtain⟨z,rfl,hz,q⟩:=h;obtain⟨t,rfl⟩:=y;refine⟨"str",_,F.slot_str_getitem.lookup,RX _ _ _,?_⟩;have c:∀(l u:Option (Int×Tok)),lo=l.map (·.1)->hi=u.map (·.1)->B=partValue l->C=partValue u->Ts (Tw X.prog X.w) X.A (Vi (.str z t) (.ref A)) (cJ X pins σ Q) X.aV s:=by
  rintro l u rfl rfl rfl rfl;obtain⟨o,n,h2,h3⟩:=r;refine wpAny_getItem_str_slice (l:=l) (u:=u) (st:=Y) ⟨o,n,h2,h3⟩ rfl ?_;exact post_val_or_str ⟨Ol (Txt.slice_le z _ _) hz,λt' k=>⟨.str _,H,I.tok _,⟨t',rfl⟩,q⟩⟩
 cases w with
 |none =>
  cases e with
  |none=>exact c Y Y rfl rfl rfl rfl
  |int j d=>exact c Y (Z (j,d)) rfl rfl rfl rfl
 |int i g =>
  cases e with
  |none=>exact c (Z (i,g)) Y rfl rfl rfl rfl
  |int j d=>exact c (Z (i,g)) (Z (j,d)) rfl rfl rfl rfl
def Lh:ko X (JI X.K):=by
 rintro pins s σ H x v q t lo hi o Q I n i j l ⟨G,d,c,g,hw⟩;cases d with
 |tup ds =>
  obtain⟨a,xs,rfl,k,r⟩:=ic c g
  by_cases u:bx.aR xs.length 0 lo=0/\bx.aR xs.length xs.length hi=xs.length
  .refine Li pins s σ H _ v q t lo hi o Q I n i j l ⟨a,xs,rfl,k,u,?_⟩;rw[ζ.pG,C7 (by rw[r.length];exact u)]at hw;exact hw _ G H (Ext.refl c) g
  .refine Lm pins s σ H _ v q t lo hi o Q I n i j l ⟨a,xs,rfl,k,u,λp e=>?_⟩;rw[ζ.pG]at hw;exact hw _ (upd G p (.tup (hE xs lo hi))) _ (Ext.put c e) ⟨p,_,rfl,bE,(vF r lo hi).mono (du (c.free e))⟩
 |lst ds =>
  obtain⟨a,xs,rfl,k,r⟩:=gP g;refine Lj pins s σ H _ v q t lo hi o Q I n i j l ⟨a,xs,rfl,k,λp e=>?_⟩;rw[ζ.lq]at hw;exact hw _ G _ (Ext.own c e λ_ z=>nomatch z) ⟨p,_,rfl,bE,e,c.free e,vF r lo hi⟩
 |str z =>
  rw[ζ.pF]at hw
  by_cases h:z.length<=ζ.SZ
  .rw[if_pos h]at hw;have g:x=.str z:=g;subst g;exact Ll pins s σ H _ v q t lo hi o Q I n i j l ⟨z,rfl,by rw[<- gS];exact h,hw _ G H (Ext.refl c) rfl⟩
  .rw[if_neg h]at hw;exact hw.elim
 |_=>exact hw.elim
def Lk{d:D}{lo hi:Option Int}:ζ.h7 d lo hi≠.exc c:=by
 cases d with
 |str x=>rw[ζ.pF];split<;>exact λz=>nomatch z
 |_=>exact λz=>nomatch z
def KR(y:ai X a (ar xp X aa .view aT))(A:gR X lo (lu xp X aa wt))(z:gR X hi (lu xp X aa wk)):
  ai X (.Subscript a (.Slice lo hi Y p2) pos) (ar xp X aa .fresh λe=>aT e>>=λx=>wt e>>=λl=>wk e>>=λh=>ζ.h7 x l h):=by
 rintro pins s σ H Q I ⟨G,e,j,hw⟩;refine IM Lh y A z pins s σ H Q I ?_;refine⟨G,e,j,aM (av.mp hw) (λw B v n N x1 C=>?_) λ_ q=>q⟩;refine⟨n,e,j.ext x1,aM (av.mp B) (λl k o O g=>?_) λ_ q=>q.mono x1.h⟩;refine⟨o,e,(j.ext x1).ext g,aM (av.mp k) (λh k2 r R i=>?_) λ_ q=>(q.mono x1.h).mono g.h⟩;refine⟨r,w,i.sub,View.ext i (View.ext g C),?_⟩;exact aM (ie k2 (λc=>Lk)) (λd q L t u M E=>q L t u (((x1.trans g).trans i).trans M) (((E.old i.h).old g.h).old x1.h)) λ_ q=>q
end
section
def uL(prog:TV)(w:Ug)(A:T3)(a:List Ti)(d:Tq)(Q:Ti->Tq->Prop):Prop :=
 ∃(κ:UZ)(lt:Nat->Nat->Bool),Tm.Ord lt/\(∀i j,i<a.length->j<a.length->a.getD i Value.none=a.getD j Value.none->∀k,lt i k=lt j k/\lt k i=lt k j)/\a.length<1000 /\
   (2<=a.length->∀(h':TU),(∀b o,d.heap.get? b=Z o->h'.get? b=Z o)->∀e:UZ->Tq->Prop,e κ { d with heap:=h' }->Ts (Tw prog w) A (Xs a.toArray) e (λ_ _=>False) { d with heap:=h' }) /\
   (2<=a.length->∀(h':TU),(∀b o,d.heap.get? b=Z o->h'.get? b=Z o)->∀(i j:Nat)(C:Bool->Tq->Prop),i<a.length->j<a.length->C (lt i j) { d with heap:=h' }->PySem.W.kas_ask prog w A κ a i j C { d with heap:=h' }) /\
   ∀p:List Nat,p.Perm (TB a.length)->p.Pairwise (λi j=>lt j i=Th)->∀(h':TU)(c:Nat),(∀b o,d.heap.get? b=Z o->h'.get? b=Z o)->h'.get? d.heap.objs.size=Z (UC "list" (p.map λi=>a.getD i Value.none).toArray c)->Q (.ref d.heap.objs.size) { d with heap:=h' }
def tR(j:Ts (Tw prog w) A.in1 (WN y) (λd a=>uL prog w A.in1.in1 d a Q) (λ_ _=>False) s):Ts (Tw prog w) A (call (.builtin "sorted") [y]) Q E s:=by
 refine Calls.call_function_entry kind_sorted plain_sorted entry_sorted (args_sorted1 _) ?_;unfold Uy.«sorted»;refine NZ (m:=checkCount "sorted" 1 1 _) (Tg ?_);refine NZ (O5 j (λd a x=>?_) λ_ _ z=>z.elim);obtain⟨κ,lt,i,v,h,r,l,u⟩:=x;refine NZ (S5 ?_ (by rw[TL];lia));have f:(a.heap.push (UC "list" d.toArray 0)).get? a.heap.objs.size=Z (UC "list" d.toArray 0):=N6 _ rfl;have e:∀{h':TU},(∀b o,b≠a.heap.objs.size->(a.heap.push (UC "list" d.toArray 0)).get? b=Z o->h'.get? b=Z o)->∀b o,a.heap.get? b=Z o->h'.get? b=Z o:=λt b o q =>
  t b o (Oj (N5 q)) (N1 _ q)
 show Ts _ _ _ _ _ { a with heap:=a.heap.push (UC "list" d.toArray 0) };refine NZ (Pu (OM slot_list_sort ⟨_,f,rfl⟩ entry_list_sort ?body (args_list_sort _)))
 case body =>
  refine Tm.GZ (s:={ a with heap:=a.heap.push (UC "list" d.toArray 0) }) (κ:=κ) (lt:=lt) i v f h (λh2 h' k g q=>?_) (λh2 h' k=>l h2 h' (e k)) λp p1 p2 h' c k n=>?_
  .exact O5 (r h2 h' (e k) g q) (λ_ _ z=>z) λ_ _ z=>z.elim
  .exact⟨_,rfl,Tg ⟨_,rfl,u p p1 p2 h' c (e k) n⟩⟩
end
noncomputable abbrev gN(c:List Int):D:=aH.af c
def ints_of{ds:List D}(h:ds.all (ζ.dS 0)=J):∃ns:List Int,ds=ns.map ζ.D.int:=oV h
theorem pW:∀{ds:List D},ds.all ζ.kM=J->∃a:List (List Int),ds=a.map gN/\∀k∈a,k≠[]
 |[],_=>⟨[],rfl,by simp⟩
 |d::ds,h=>by
  simp only[Ua,N0]at h;obtain⟨a,rfl,f⟩:=pW h.2;cases d with
  |tup xs =>
   cases xs with
   |nil=>cases h.1
   |cons x xs =>
    have b:(ζ.dS 0 x&&xs.all (ζ.dS 0))=true:=h.1;have b:(x::xs).all (ζ.dS 0)=true:=b;obtain⟨ns,e⟩:=oV b;refine⟨ns::a,by rw[e];rfl,λk c=>?_⟩;rcases N3.mp c with rfl|c
    .rintro rfl;cases e
    .exact f k c
  |_=>cases h.1
section
theorem uc{y:aQ}(I:Inv X A y H s)(d:aD G H):∀{b:List (List Int)}{xs:List V}{g:List Ti},(∀k∈b,k≠[])->ax X.K G (b.map gN) xs->Vals xs g->dj.eb s.heap g b
 |[],_,_,_,r,v=>by cases r;cases v;exact trivial
 |k::b,_,_,c,⟨x,t,e,m,p⟩,v=>by
  subst e;cases v with
  |cons u w =>
   obtain⟨a,ys,rfl,h,q⟩:=m;cases u;obtain⟨its,f,⟨o,l,i,n,j⟩,_⟩:=I.tuple (eI d h);rw[gL q]at f;exact⟨⟨a,o,its.toArray,n,rfl,l,i,j,by simpa using intsAre_of f,c k To⟩,uc I d (λz hz=>c z (Tp _ hz)) p w⟩
theorem vj:∀{ds:List D},ds.all ζ.mw=J->∃cs:List (List (List Int)),ds=cs.map aH.lV/\(∀c∈cs,c≠[])/\∀c∈cs,∀k∈c,k≠[]
 |[],_=>⟨[],rfl,by simp,by simp⟩
 |d::ds,h=>by
  simp only[Ua,N0]at h;obtain⟨cs,rfl,b,h2⟩:=vj h.2;cases d with
  |tup xs =>
   cases xs with
   |nil=>cases h.1
   |cons x xs =>
    have h3:(x::xs).all ζ.kM=true:=h.1;obtain⟨c,e,h4⟩:=pW h3;refine⟨c::cs,by rw[e];rfl,λk a=>?_,λk a=>?_⟩
    .rcases N3.mp a with rfl|a
     .rintro rfl;cases e
     .exact b k a
    .rcases N3.mp a with rfl|a
     .exact h4
     .exact h2 k a
  |_=>cases h.1
theorem Am{A:aQ}(I:Inv X B A H s)(b:aD G H):∀{cs:List (List (List Int))}{xs:List V}{g:List Ti},(∀c∈cs,c≠[])->(∀c∈cs,∀k∈c,k≠[])->ax X.K G (cs.map aH.lV) xs->Vals xs g->dj.fP s.heap g cs
 |[],_,_,_,_,r,v=>by cases r;cases v;exact trivial
 |c::cs,_,_,f,d,⟨x,t,e,m,p⟩,v=>by
  subst e;cases v with
  |cons w y =>
   obtain⟨a,ys,rfl,h,q⟩:=m;cases w;obtain⟨its,u,⟨o,l,i,n,j⟩,_⟩:=I.tuple (eI b h);exact⟨⟨a,o,its.toArray,n,rfl,l,i,j,by simpa using uc I b (d c To) q u,f c To⟩,Am I b (λz hz=>f z (Tp _ hz)) (λz hz=>d z (Tp _ hz)) p y⟩
theorem y2{K:W.Frag}(r:ax K G ds xs)(v:Vals xs a):∀{p:List Nat},(∀i∈p,i<ds.length) ->
  ∃ys,ax K G (p.map λi=>ds.getD i .az) ys/\Vals ys (p.map λi=>a.getD i Value.none)
 |[],_=>⟨[],rfl,.nil⟩
 |i::p,h=>by
  obtain⟨ys,b,h2⟩:=y2 r v (p:=p) λj c=>h j (Tp _ c)
  have hi:=h i To;have e:ds[i]?=Z (ds.getD i .az):=(by rw[N8 hi];simp[Uo,N8 hi]);obtain⟨y,k1,k2⟩:=r.get e;obtain⟨u,k3,d⟩:=v.get k1;have e2:a.getD i Value.none=u:=(by simp[Uo,k3]);exact⟨y::ys,⟨y,ys,rfl,k2,b⟩,by rw[Tr,e2];exact .cons d h2⟩
def tE{K:W.Frag}{κ:Type}{f:κ->D}{lt:κ->κ->Bool}(L:aH.eu lt)(h:∀a b,ζ.g6 (f a) (f b)=Z (lt a b))(z){c:List κ}(r:ax K G (c.map f) xs)(v:Vals xs g){p:List Nat}(d:p.Perm (TB g.length))(h2:p.Pairwise (λi j=>dj.ltI lt z c j i=Th)):
  ∃ys,ax K G (ζ.fx (c.map f)) ys/\Vals ys (p.map λi=>g.getD i Value.none):=by
 have k:g.length=c.length:=by rw[<- v.length,<- r.length,Tj]
 rw[k]at d;rw[aH.h8 h,<- dj.Lu L z c d h2,T2];obtain⟨ys,k1,k2⟩:=y2 r v (p:=p) λi hi=>by
  have:=d.mem_iff.mp hi;rw[Tj];simpa using this
 refine⟨ys,?_,k2⟩;have e:(p.map λi=>(c.map f).getD i .az)=p.map (f ∘ λi=>c.getD i z):=by
  apply Px;intro i hi;have hi:i<c.length:=(by simpa using d.mem_iff.mp hi);simp[Uo,Ot,N8 hi]
 rw[<- e];exact k1
def tQ{E:aQ}(a1:X.A.handled=Y)(a2:X.A.units+64<UD)(I:Inv X N E H s)(u:aD G H)(r:ax X.K G ds xs)(v:Vals xs l)(y:(ζ.ft ds||ds.all ζ.mw)=J)(a0:ds.length<=255)(k:∀v L w,Ext G H L w->aW X.K H L w .fresh (.lst (ζ.fx ds)) v->Q v w):uL X.prog X.w X.A.in1.in1 l s (cJ X N E Q):=by
 have R:l.length=ds.length:=by rw[<- v.length,<- r.length]
 have fin:∀{t:List Ti}{ys:List V}(h':TU)(c:Nat),ax X.K G (ζ.fx ds) ys->Vals ys t->t.length=l.length->(∀b o,s.heap.get? b=Z o->h'.get? b=Z o)->h'.get? s.heap.objs.size=Z (UC "list" t.toArray c)->cJ X N E Q (.ref s.heap.objs.size) { s with heap:=h' }:=λ{t ys} h' c U O T g e=>by
  refine⟨.ref s.heap.objs.size,_,I.laid (t':=s.toks) (o:=.lst ys) g (N2 _) ⟨by rw[O.length,T,R,TL];lia,t,c,O,e⟩,rfl,?_⟩;exact k _ G _ (Ext.own u I.fresh λ_ z=>nomatch z) ⟨_,ys,rfl,bE,I.fresh,u.free I.fresh,U⟩
 have B:∀{p:List Nat},p.Perm (TB l.length)->(p.map λi=>l.getD i Value.none).length=l.length:=λh=>by rw[Tj,h.length_eq,UP]
 unfold ζ.ft at y;rw[P0,P0]at y;rcases y with(h|h)|h
 .obtain⟨ns,rfl⟩:=ints_of h;have x:T1 l ns:=(by rw[gL r]at v;exact intsAre_of v);refine⟨oneType',dj.ltI aH.ltI 0 ns,dj.tj aH.fD 0 ns,dj.tg (dj.Gg x),⋯,λh2 h' _ M q=>dj.Gn x h2 q,λh2 h' _ i j C hi m q=>dj.BK x i j C hi m q,λp p1 p2 h' c g e=>?_⟩;obtain⟨ys,k1,k2⟩:=tE aH.fD (f:=ζ.D.int) (λ_ _=>rfl) 0 r v p1 p2;exact fin h' c k1 k2 (B p1) g e
 .obtain⟨n,rfl,A⟩:=pW h;have d:=uc I u A r v;refine⟨Xt J,dj.ltI aH.lexLt [] n,dj.tj aH.mF [] n,dj.tg (dj.Gl d),⋯,λh2 h' k M q=>dj.Gq (s:={ s with heap:=h' }) (d.kept k) h2 q,λh2 h' k i j C hi m q=>dj.BL (s:={ s with heap:=h' }) (d.kept k) i j C hi m q,λp p1 p2 h' c g e=>?_⟩;obtain⟨ys,k1,k2⟩:=tE aH.mF (f:=gN) (λa b=>aH.mG a b) [] r v p1 p2;exact fin h' c k1 k2 (B p1) g e
 .obtain⟨n,rfl,A,S⟩:=vj h;have d:=Am I u A S r v;refine⟨Xt Th,dj.ltI aH.dZ [] n,dj.tj aH.xD [] n,dj.tg (dj.Gm d),⋯,λh2 h' k M q=>dj.Gr (s:={ s with heap:=h' }) (d.kept k) h2 q,λh2 h' k i j C hi m q=>dj.BM (s:={ s with heap:=h' }) (by show X.A.units+1+1+2<UD;lia) (d.kept k) i j C hi m q,λp p1 p2 h' c g e=>?_⟩;obtain⟨ys,k1,k2⟩:=tE aH.xD (f:=aH.lV) (λa b=>aH.G3 a b) [] r v p1 p2;exact fin h' c k1 k2 (B p1) g e
end
section
def Nr{ds:List D}{Q:D->Prop}(h:aO (ζ.sorted ds) Q E):(ζ.ft ds||ds.all ζ.mw)=J/\ds.length<=255/\Q (.lst (ζ.fx ds)):=by
 unfold ζ.sorted at h;cases q:((ζ.ft ds||ds.all ζ.mw)&&decide (ds.length<=255)) with
 |false=>rw[q]at h;exact h.elim
 |true =>
  rw[q]at h;rw[N0,Ov]at q;exact⟨q.1,q.2,h⟩
def EC(v:X.calm=J)(l:X.A.units+64<UD):dv X (.builtin "sorted") (gi X.K .fresh λd=>ζ.cf d>>=λxs=>ζ.sorted xs):=by
 rintro m s p H xs z Q I r ⟨G,x,d,t,g,y,hw⟩;subst t;obtain⟨u,rfl,w⟩:=vals1 r;obtain⟨ds,a,ys,rfl,c,n,hw⟩:=pB g y (av.mp hw);obtain⟨k,i,hw⟩:=Nr hw;have j:X.A.handled=none:=I.ok.hd v;cases w;rcases c with c|c
 .obtain⟨its,e,h,hz⟩:=I.list c;refine tR (collect_list h.isList ?_ (by rw[<- e.length];exact hz));have f:Inv X m p H { s with heap:=(s.heap.push (UC "list" #[] 0)).update s.heap.objs.size (T4 (·++its.toArray)) }:=I.kept (t':=s.toks) λb o q=>(Oy _ _ (Pj (Oj (N5 q)))).trans (N1 _ q)
  exact tQ j l f g n e k i hw
 .obtain⟨its,e,h,hz⟩:=I.tuple c;refine tR (Pv.CS (show s.heap.IsTuple a its.toArray from h) ?_ (by rw[<- e.length];exact hz));have f:Inv X m p H { s with heap:=(s.heap.push (UC "list" #[] 0)).update s.heap.objs.size (T4 (·++its.toArray)) }:=I.kept (t':=s.toks) λb o q=>(Oy _ _ (Pj (Oj (N5 q)))).trans (N1 _ q)
  exact tQ j l f g n e k i hw
end
structure bY(K:W.Frag)(aa:List Nat)(cK bM G H:ah)(ae:aB)(σ:aQ):Prop where
 aY:cC K aa G H ae σ
 ext:Ext cK bM G H
 own:∀(i:Nat)(d:D)(a:Tu),ae[i]?=Z (Z d)->eO d=J->i∈aa->σ[i]?=Z (Z (V.ref a))->bM a=Y
def e6(K:W.Frag)(e:List Nat)(a b:ah)(T:Ends):ζ.cx->Prop
 |.aS f=>∀c G H,bY K e a b G H f c->T.aS c H
 |.bt d=>∀v G H,Ext a b G H->Rep K G d v->T.bt v H
def bz(xp:bR)(X:ao)(d:List Nat)(f:aB->aU ζ.cx):eh:=λT g H =>
 ∃b a G e,bY X.K d b a G H e g/\aO (f e) (e6 X.K d b a T) (λc=>cG xp X c a)
def cT{α:Type}{l:List α}{a:α}(h:i≠j):(l.set i a)[j]?=l[j]?:=RC h
def get_eq{α:Type}{l:List α}{a b:α}(h:(l.set i a)[i]?=Z b):i<l.length/\b=a:=by
 rw[List.getElem?_set_self']at h;cases q:l[i]? with
 |none=>rw[q]at h;cases h
 |some c=>rw[q]at h;exact⟨(Og.mp q).1,(OI h).symm⟩
def lj{α:Type}{l:List α}{a:α}(h:i<l.length):(l.set i a)[i]?=Z a:=by simp[h]
section
variable{K:W.Frag}{aa:List Nat}{cK bM G H cg aK:ah}{ae:aB}{σ:aQ}{i:Nat}{d:D}{v:V}
def cC.m9(h:cC K aa G H ae σ)(g:i∉aa)(r:Rep K G d v):cC K aa G H (ae.set i (Z d)) (σ.set i (Z v)) where
 len:=by rw[PN,PN];exact h.len
 sub:=h.sub
 val:=λj e q f=>by
  by_cases c:i=j
  .subst c;obtain⟨l,h2⟩:=get_eq q;cases h2;exact⟨v,lj (by rw[<- h.len];exact l),r⟩
  .rw[cT c]at q ⊢;exact h.val j e q f
 own:=λj e q f m=>by
  have c:i≠j:=λz=>g (z▸f)
  rw[cT c]at q ⊢;exact h.own j e q f m
 lst:=λj e q f m=>by
  have c:i≠j:=λz=>g (z▸f)
  rw[cT c]at q;obtain⟨a,o,l,h2⟩:=h.lst j e q f m;exact⟨a,o,by rw[cT c];exact l,h2⟩
 cV:=h.cV
 apart:=λj k d e a b p s u w f n x e1 e2=>by
  have c:i≠j:=λz=>g (z▸f)
  have t:i≠k:=λz=>g (z▸n)
  rw[cT c]at p e1;rw[cT t]at s e2;exact h.apart j k d e a b p s u w f n x e1 e2
def cC.set_own(h:cC K aa G H ae σ)(x:i∈aa)(p:eO d=Th)(r:Rep K G d v):cC K aa G H (ae.set i (Z d)) (σ.set i (Z v)) where
 len:=by rw[PN,PN];exact h.len
 sub:=h.sub
 val:=λj e q f=>by
  have c:i≠j:=λz=>f (z▸x)
  rw[cT c]at q ⊢;exact h.val j e q f
 own:=λj e q f l=>by
  by_cases c:i=j
  .subst c;obtain⟨g,h2⟩:=get_eq q;cases h2;exact⟨v,lj (by rw[<- h.len];exact g),r⟩
  .rw[cT c]at q ⊢;exact h.own j e q f l
 lst:=λj e q f l=>by
  by_cases c:i=j
  .subst c;obtain⟨g,h2⟩:=get_eq q;cases h2;rw[p]at l;cases l
  .rw[cT c]at q;obtain⟨a,o,g,h2⟩:=h.lst j e q f l;exact⟨a,o,by rw[cT c];exact g,h2⟩
 cV:=h.cV
 apart:=λj k d e a b s t m n f w y e1 e2=>by
  have c:i≠j:=λz=>by subst z;obtain⟨g,h2⟩:=get_eq s;cases h2;rw[p]at m;cases m
  have u:i≠k:=λz=>by subst z;obtain⟨g,h2⟩:=get_eq t;cases h2;rw[p]at n;cases n
  rw[cT c]at s e1;rw[cT u]at t e2;exact h.apart j k d e a b s t m n f w y e1 e2
def cC.Lc(h:cC K aa G H ae σ)(I:i∈aa)(E:eO d=J)(C:H a=Z o)(B:G a=Y)(r:gx K G d o)(x:∀(j:Nat)(e:D),j≠i->j∈aa->eO e=J->ae[j]?=Z (Z e)->σ[j]?≠Z (Z (V.ref a))):cC K aa G H (ae.set i (Z d)) (σ.set i (Z (.ref a))) where
 len:=by rw[PN,PN];exact h.len
 sub:=h.sub
 val:=λj e q g=>by
  have c:i≠j:=λz=>g (z▸I)
  rw[cT c]at q ⊢;exact h.val j e q g
 own:=λj e q g n=>by
  by_cases c:i=j
  .subst c;obtain⟨l,h2⟩:=get_eq q;cases h2;rw[E]at n;cases n
  .rw[cT c]at q ⊢;exact h.own j e q g n
 lst:=λj e q g n=>by
  by_cases c:i=j
  .subst c;obtain⟨l,h2⟩:=get_eq q;cases h2;exact⟨a,o,lj (by rw[<- h.len];exact l),C,B,r⟩
  .rw[cT c]at q;obtain⟨b,L,l,h2⟩:=h.lst j e q g n;exact⟨b,L,by rw[cT c];exact l,h2⟩
 cV:=h.cV
 apart:=λj k e f b A p s t u g w y e1 e2=>by
  by_cases c:i=j
  .subst c;have m:i≠k:=y;obtain⟨l,h2⟩:=get_eq e1;cases h2;rw[cT m]at s e2;intro z;exact x k f (Pj m) w u s (by rw[z];exact e2)
  .by_cases m:i=k
   .subst m;obtain⟨l,h2⟩:=get_eq e2;cases h2;rw[cT c]at p e1;intro z;exact x j e (Pj c) g t p (by rw[<- z];exact e1)
   .rw[cT c]at p e1;rw[cT m]at s e2;exact h.apart j k e f b A p s t u g w y e1 e2
def gx.nt:∀{d:D},gx K G d o->∀xs,o≠.tup xs
 |.lst _,⟨_,e,_⟩,_,z=>by rw[e]at z;cases z
 |.bU _,e,_,z=>by rw[show o=_ from e]at z;cases z
 |.bG _,⟨_,e,_⟩,_,z=>by rw[e]at z;cases z
def bY.step(h:bY K aa cK bM G H ae σ)(x:Ext G H cg aK):bY K aa cK bM cg aK ae σ:=⟨h.aY.ext x,h.ext.trans x,h.own⟩
theorem bY.m9(h:bY K aa cK bM G H ae σ)(f:i∉aa)(r:Rep K G d v):bY K aa cK bM G H (ae.set i (Z d)) (σ.set i (Z v)) :=
 ⟨h.aY.m9 f r,h.ext,λj e a q g b z=>by
  have c:i≠j:=λz=>f (z▸b)
  rw[cT c]at q z;exact h.own j e a q g b z⟩
def bY.m8(h:bY K aa cK bM G H ae σ)(x:Ext G H cg aK)(n:i∈aa)(l:eO d=J)(k:aK a=Z o)(h2:H a=Y)(h3:cg a=Y)(r:gx K cg d o):bY K aa cK bM cg aK (ae.set i (Z d)) (σ.set i (Z (.ref a))):=by
 have h':=h.step x;refine⟨h'.aY.Lc n l k h3 r λj e g m f q z=>?_,h'.ext,λj e b q f g z=>?_⟩
 .obtain⟨b,s,k1,k2,k3,p⟩:=h.aY.lst j e q m f;rw[k1]at z;cases z;rw[h2]at k2;cases k2
 .by_cases c:i=j
  .subst c;obtain⟨_,w⟩:=get_eq z;cases w;exact h.ext.h.free h2
  .rw[cT c]at q z;exact h.own j e b q f g z
def bY.zA(h:bY K aa cK bM G H ae σ)(x:Ext G H cg aK)(k:i∈aa)(r:aW K H cg aK .fresh d v):bY K aa cK bM cg aK (ae.set i (Z d)) (σ.set i (Z v)):=by
 have l:eO d=Th->Rep K cg d v->bY K aa cK bM cg aK (ae.set i (Z d)) (σ.set i (Z v)):=λg r=>by
  refine⟨(h.step x).aY.set_own k g r,(h.step x).ext,λj e b q f n z=>?_⟩
  by_cases c:i=j
  .subst c;obtain⟨_,w⟩:=get_eq q;cases w;rw[g]at f;cases f
  .rw[cT c]at q z;exact h.own j e b q f n z
 cases d with
 |lst ds =>
  obtain⟨a,xs,rfl,m,h2,h3,h4⟩:=r;exact h.m8 x k rfl m h2 h3 ⟨xs,rfl,h4⟩
 |bU o=>exact r.elim
 |bG o=>exact r.elim
 |_=>exact l rfl r
def bY.write (h : bY K aa cK bM G H ae σ) (x : i ∈ aa) (q : ae[i]? = Z (Z d)) (t : eO d = J) (N : eO e = J) (z : σ[i]? = Z (Z (V.ref a))) (A : G a = Y) (r : gx K G e s) :
    bY K aa cK bM G (upd H a s) (ae.set i (Z e)) σ := by
  have h0 : bM a = none := h.own i d a q t x z
  have hi : i < ae.length := (Og.mp q).1
  have a0 : ∀ (j : Nat) (f : D), j ≠ i -> j ∈ aa -> eO f = J -> ae[j]? = Z (Z f) -> σ[j]? ≠ Z (Z (V.ref a)) := fun j f m Q u a5 p => h.aY.apart j i f d a a a5 q u t Q x m p z rfl
  have C : aD G (upd H a s) := fun b o z => by
    have : b ≠ a := fun w => by rw [w, A] at z; cases z
    rw [aZ this]; exact h.aY.sub b o z
  have B : cC K aa G (upd H a s) (ae.set i (Z e)) σ := by
    refine ⟨by rw [PN]; exact h.aY.len, C, fun j f l m => ?_, fun j f l m n => ?_, fun j f l m n => ?_, fun b xs w => ?_, fun j k f g b E a1 a3 I L m R U e1 e2 => ?_⟩
    · have c : i ≠ j := fun z => m (z ▸ x)
      rw [cT c] at l; exact h.aY.val j f l m
    · by_cases c : i = j
      · subst c
        obtain ⟨_, w⟩ := get_eq l
        cases w
        rw [N] at n; cases n
      · rw [cT c] at l; exact h.aY.own j f l m n
    · by_cases c : i = j
      · subst c
        obtain ⟨_, w⟩ := get_eq l
        cases w
        exact ⟨a, s, z, bE, A, r⟩
      · rw [cT c] at l
        obtain ⟨b, X, k1, k2, k3, S⟩ := h.aY.lst j f l m n
        have : b ≠ a := fun w => a0 j f (Pj c) m n l (by rw [k1, w])
        exact ⟨b, X, k1, by rw [aZ this]; exact k2, k3, S⟩
    · by_cases c : b = a
      · subst c; rw [bE] at w; cases w; exact absurd rfl (r.nt xs)
      · rw [aZ c] at w; exact h.aY.cV b xs w
    · have y : ∀ (k : Nat) (g : D), eO g = J -> (ae.set i (Z e))[k]? = Z (Z g) -> ∃ g', eO g' = J /\ ae[k]? = Z (Z g') := fun k g O z => by
        by_cases c : i = k
        · subst c; exact ⟨d, t, q⟩
        · rw [cT c] at z; exact ⟨g, O, z⟩
      obtain ⟨M, T, a2⟩ := y j f I a1
      obtain ⟨g', m2, a4⟩ := y k g L a3
      exact h.aY.apart j k M g' b E a2 a4 T m2 m R U e1 e2
  refine ⟨B, ⟨h.ext.g, fun b o z => ?_, C, h.ext.new, fun b xs w => .inr (B.cV b xs w)⟩, fun j f b l u m p => ?_⟩
  · have : b ≠ a := fun w => by rw [w, h0] at z; cases z
    rw [aZ this]; exact h.ext.h b o z
  · by_cases c : i = j
    · subst c; rw [z] at p; cases p; exact h0
    · rw [cT c] at l; exact h.own j f b l u m p
end
section
variable{xp:bR}{X:ao}{aa:List Nat}{m:dk}{f aT bD bF:aB->aU D}{g g1 g2:aB->aU ζ.cx}{a b c e es:TG}{aA:List TG}{pos p1 p2 p3 p4:Vb}{st:Ui}{nq cU c0:List Ui}{i:Nat}{x:Tz}
def zh(t:i∉aa)(o:X.N.Nodup)(hi:X.N[i]?=Z x)(w:Loc X.env.scope x)(p:ai X e (ar xp X aa .val f))(u:U1 e (Z (.Name x p1)) pos.line X.env=pure Th)(r:X.fn x=J\/X.env.scope.names.lookup x=Z .local):
  bA X (.Assign [.Name x p1] e pos) (bz xp X aa λh=>f h>>=λd=>.ok (.aS (h.set i (Z d)))):=by
 rintro y s A H T I ⟨B,C,G,h,j,hw⟩;refine kY o hi w p u r y s A H T I ?_;refine⟨G,h,j.aY,aM (av.mp hw) (λd k v l n x1 z=>?_) λ_ q=>q.mono j.ext.h⟩;exact k _ l n ((j.step x1).m9 t z)
def zi(t:i∈aa)(o:X.N.Nodup)(hi:X.N[i]?=Z x)(w:Loc X.env.scope x)(p:ai X e (ar xp X aa .fresh f))(u:U1 e (Z (.Name x p1)) pos.line X.env=pure Th)(r:X.fn x=J\/X.env.scope.names.lookup x=Z .local):
  bA X (.Assign [.Name x p1] e pos) (bz xp X aa λh=>f h>>=λd=>.ok (.aS (h.set i (Z d)))):=by
 rintro y s A H T I ⟨B,C,G,h,j,hw⟩;refine kY o hi w p u r y s A H T I ?_;refine⟨G,h,j.aY,aM (av.mp hw) (λd k v l n x1 z=>?_) λ_ q=>q.mono j.ext.h⟩;exact k _ l n (j.zA x1 t z)
def Kk(o:ai X e (ar xp X aa .view f))(p:U1 e Y pos.line X.env=pure Th):bA X (.Expr e pos) (bz xp X aa λh=>f h>>=λ_=>.ok (.aS h)):=by
 rintro r s t H T I ⟨u,w,G,h,j,hw⟩;refine pl o p r s t H T I ?_;refine⟨G,h,j.aY,aM (av.mp hw) (λd k v l n x1 y=>?_) λ_ q=>q.mono j.ext.h⟩;exact k _ l n (j.step x1)
def KI(o:ai X e (ar xp X aa .val f)):bA X (.Return (Z e) pos) (bz xp X aa λj=>f j>>=λd=>.ok (.bt d)):=by
 rintro p s t H T I ⟨u,w,G,j,h,hw⟩;refine mX o p s t H T I ?_;refine⟨G,j,h.aY,aM (av.mp hw) (λd k v l n x1 r=>?_) λ_ q=>q.mono h.ext.h⟩;exact k v l n (h.ext.trans x1) r
def KL(l:i∈aa)(u:X.N[i]?=Z x)(v:dN X.env.scope x)(t:(x==("__debug__":Tz))=Th)(h2:(x==("__classdict__":Tz))=Th):
  bA X (.Return (Z (.Name x p1)) pos) (bz xp X aa λj=>ζ.oT j[i]?>>=λd=>.ok (.bt d)):=by
 rintro B s p H T I ⟨r,k,G,j,h,hw⟩;refine mX (eG u v t h2) B s p H T I ?_;dsimp only at hw;have A:∀ds,j[i]?=Z (Z (.lst ds))->e6 X.K aa r k T (.bt (.lst ds))->ja i p H T.bt:=λds q hw=>by
  obtain⟨a,o,k1,k2,k3,xs,rfl,y⟩:=h.aY.lst i (.lst ds) q l rfl;refine⟨_,k1,?_⟩;have h0:k a=none:=h.own i (.lst ds) a q rfl l k1;refine hw _ (upd G a (.lst xs)) H ⟨h.ext.g.trans (du k3),h.ext.h,λb o z=>?_,λb C n=>?_,λb xs z=>.inr (du k3 _ _ (h.aY.cV b xs z))⟩ ⟨a,xs,rfl,.inl (.inl bE),y.mono (du k3)⟩
  .by_cases c:b=a
   .subst c;rw[bE]at z;rw[k2];exact z
   .rw[aZ c]at z;exact h.aY.sub b o z
  .have:b≠a:=λw=>n (by rw[w];exact h0)
   rw[aZ this];exact h.ext.new b C n
 cases q:j[i]? with
 |none=>rw[q]at hw;exact hw.elim
 |some o =>
  cases o with
  |none=>rw[q]at hw;exact hw.elim
  |some d =>
   rw[q]at hw;cases d with
   |lst ds=>exact A ds q hw
   |_=>exact hw.elim
abbrev K7(g1 g2:aB->aU ζ.cx):aB->aU ζ.cx:=λh=>g1 h>>=λr=>match r with
 |.aS j=>g2 j
 |.bt d=>.ok (.bt d)
def tM:d4 X [] (bz xp X aa λd=>.ok (.aS d)):=by
 rintro k s h H T I ⟨l,n,G,d,j,hw⟩;exact Js k s h H T I (hw h G H j)
def tL(n:bA X st (bz xp X aa g1))(h2:d4 X nq (bz xp X aa g2)):d4 X (st::nq) (bz xp X aa (K7 g1 g2)):=by
 rintro t s w H T I ⟨h,j,G,u,o,hw⟩;refine tx n h2 t s w H T I ?_;refine⟨h,j,G,u,o,aM (av.mp hw) (λr k=>?_) λ_ q=>q⟩;cases r with
 |aS v=>exact λz l y p=>⟨h,j,l,v,p,k⟩
 |bt d=>exact k
def zk(t:cp X c (eJ xp X aa bF))(p:d4 X cU (bz xp X aa g1))(r:d4 X c0 (bz xp X aa g2)):bA X (.If c cU c0 pos) (bz xp X aa λh=>bF h>>=λx=>ζ.dW x>>=λk=>if k then g1 h else g2 h):=by
 rintro v s w H T I ⟨l,o,G,h,j,hw⟩;refine Jp t p r v s w H T I ?_;refine⟨G,h,j.aY,?_⟩;refine av.mpr (aM (av.mp hw) (λd k=>aM (av.mp k) (λu q n y x1=>?_) λ_ q=>q.mono j.ext.h) λ_ q=>q.mono j.ext.h);cases u with
 |true=>simp only[O6]at q ⊢;exact⟨l,o,n,h,j.step x1,q⟩
 |false=>simp only[N4,Ox]at q ⊢;exact⟨l,o,n,h,j.step x1,q⟩
end
theorem mz:∀{a:List Ti}{k:List Int},T1 a k->ItemsAre (U0 prog w) k a
 |_,_,.nil=>.nil
 |_,_,.cons n t r=>.cons (Pv.mr prog w n t) (mz r)
theorem uT:∀{k:List Int}{a:List Ti},ItemsAre (U0 prog w) k a->T1 a k
 |_,_,.nil=>.nil
 |_,_,.cons h r=>by
  obtain⟨t,rfl⟩:=Se h;exact .cons _ t (uT r)
theorem w5:∀{c:List Ti}{a b:List Int},T1 c a->T1 c b->a=b
 |_,_,_,.nil,.nil=>rfl
 |_,_,_,.cons n t r,.cons _ _ q=>by rw[w5 r q]
def sX{κ:Type}[DecidableEq κ](a:List κ)(h:i<=a.length):(Pv.met a i).length<=(aH.br a).length :=
 aH.jZ (Pv.mK a i) λz hz=>(aH.g8 z a).mpr (QM ((Pv.o1 a i h z).mp hz))
def zC{κ:Type}[DecidableEq κ]{lt:κ->κ->Bool}(L:aH.eu lt){b r a:List κ}(c:b.Perm r)(h2:r.Perm (Pv.met a a.length)):aH.bo lt b=aH.bo lt (aH.br a):=by
 have h:=c.trans h2;have d:b.Nodup:=h.nodup_iff.mpr (Pv.mK a _);refine aH.ks L (aH.ku L d) (aH.ku L (aH.jY a)) λz=>?_
 rw[aH.iU,aH.iU,aH.g8,h.mem_iff,Pv.o1 a _ (N2 _),List.take_length]
def zB{κ:Type}[DecidableEq κ]{b r a:List κ}(c:b.Perm r)(h2:r.Perm (Pv.met a a.length)):b.length<=(aH.br a).length:=by
 rw[(c.trans h2).length_eq];exact sX a (N2 _)
def FN(h:Ya P a l.length)(b:∀i v,P i v->l[i]?=Z v):a.toList=l:=by
 obtain⟨d,h2⟩:=h;apply Qi;intro i
 by_cases hi:i<l.length
 .have c:i<a.size:=⋯;have e:a[i]?=Z a[i]:=N9 c;have:=b i _ (h2 i _ e);rw[this];simpa using e
 .rw[OE (by simp;lia),OE ⋯]
section
variable{X:ao}{pins:List (Tu×UK)}{σ:aQ}{G H:ah}{s:Tq}
def qq(K:W.Frag)(G:ah)(v:Ti):Prop:=∃b k,v=.ref b/\Rep K G (gN k) (V.ref b)
theorem zc(I:Inv X pins σ H s)(c:aD G H):∀{b:List (List Int)}{xs:List V}{g:List Ti},ax X.K G (b.map gN) xs->Vals xs g->Paired ((Pv.xh (qq X.K G) X.prog X.w).Row s.heap) g b
 |[],_,_,r,v=>by cases r;cases v;exact .nil
 |k::b,_,_,⟨x,t,e,d,m⟩,v=>by
  subst e;cases v with
  |cons p u =>
   obtain⟨a,ys,rfl,h,q⟩:=id d;cases p;obtain⟨its,f,⟨o,l,i,n,j⟩,_⟩:=I.tuple (eI c h);rw[gL q]at f;exact .cons ⟨a,rfl,⟨o,its.toArray,n,l,i,j,mz (by simpa using intsAre_of f)⟩,a,k,rfl,d⟩ (zc I c m u)
theorem zb:∀{ns:List Int}{a:List Ti},T1 a ns->Paired (λv (k:Int)=>∃t,v=Uj k t) a ns
 |_,_,.nil=>.nil
 |_,_,.cons n t r=>.cons ⟨t,rfl⟩ (zb r)
theorem zD(I:Inv X pins σ H s)(i:aD G H):∀{c:List (Int×Ti)}{d:List (List Int)},Paired (λe k=>Pv.hq X.prog X.w s.heap e k/\qq X.K G e.2) c d->∃xs,ax X.K G (d.map gN) xs/\Vals xs (c.map (·.2))
 |_,_,.nil=>⟨[],rfl,.nil⟩
 |e::c,k::d,.cons ⟨⟨b,e1,_,o,E,n,x,C,u,v⟩,B,y,e2,r⟩ t=>by
  obtain⟨xs,z,A⟩:=zD I i t;rw[e1]at e2;injection e2 with e2;subst e2;have w:y=k:=by
   obtain⟨a,ys,m,h,q⟩:=id r;cases m;obtain⟨its,j,⟨M,g,_,L,f⟩,_⟩:=I.tuple (eI i h);rw[x]at g;cases g;rw[u]at f;injection f with l _;rw[gL q]at j;have p:=intsAre_of j;have h2:=uT v;rw[l]at h2;exact w5 ⇑p ⇑h2
  subst w;exact⟨V.ref b::xs,⟨_,_,rfl,r,z⟩,by rw[Tr,e1];exact .cons rfl A⟩
theorem zE{K:W.Frag}:∀{a:List (Int×Ti)}{b:List Int},Paired Pv.hp a b->∃xs,ax K G (b.map ζ.D.int) xs/\Vals xs (a.map (·.2))
 |_,_,.nil=>⟨[],rfl,.nil⟩
 |e::a,k::b,.cons ⟨_,t,e1⟩ f=>by
  obtain⟨xs,c,d⟩:=zE (K:=K) f;exact⟨V.int k::xs,⟨_,_,rfl,rfl,c⟩,by rw[Tr,e1];exact .cons ⟨t,rfl⟩ d⟩
end
section
variable{xp:bR}{X:ao}{aa:List Nat}{m:dk}{f:aB->aU D}{e:TG}{pos pos' p yg:Vb}{x y:Tz}{pins:List (Tu×UK)}{σ:aQ}{G H:ah}{s:Tq}
def Nt{ds:List D}{Q:D->Prop}(h:aO (ζ.dV ds) Q E):ζ.ft ds=J/\(ζ.hF ds).length<=255/\Q (.lst (ζ.fx (ζ.hF ds))):=by
 unfold ζ.dV at h;cases q:(ζ.ft ds&&decide ((ζ.hF ds).length<=255)) with
 |false=>rw[q]at h;exact h.elim
 |true =>
  rw[q]at h;simp only[N0,Ov]at q;exact⟨q.1,q.2,h⟩
def Inv.grown(I:Inv X pins σ H s)(g:Pv.nR s s'):Inv X pins σ H s':=by
 obtain⟨h',g',d',b,a⟩:=s';obtain⟨k,e1,e2,e3⟩:=g;have e1:g'=s.gens:=e1;have e2:d'=s.drawn:=e2;have e3:a=s.os:=e3;subst e1 e2 e3;exact I.kept k
def zO(n:X.A.handled=Y)(L:X.A.units+64<UD)(I:Inv X pins σ H s)(E:aD G H)(C:s.heap.get? a=Z o)(O:Pv.jt X.w o b c t)(r:ax X.K G ds xs)(v:Vals xs ((Pv.ed X.w a b c).toList.map (·.2)))(B:ζ.ft ds=J)(u:ds.length<=255)(k:∀v j d,Ext G H j d->aW X.K H j d .fresh (.lst (ζ.fx ds)) v->Q v d):Ts (Tw X.prog X.w) X.A (call (.builtin "sorted") [.ref a]) (cJ X pins σ Q) X.aV s:=by
 have hsz:(Pv.ed X.w a b c).size=b.size:=by have:=(Pv.kW X.w a b c).length_eq;simpa using this
 have N:b.size<=255:=by
  have h:=v.length;have h2:=r.length;simp only[Tj,Tn]at h;lia
 refine tR (Pv.CR (A:=X.A.in1) n C O (by rw[TL];lia) λs' q g w=>?_);have e:q.toList=(Pv.ed X.w a b c).toList.map (·.2):=by
  refine FN (P:=λi v=>∃x,(Pv.ed X.w a b c)[i]?=Z x/\v=x.2) (l:=(Pv.ed X.w a b c).toList.map (·.2)) (by simpa[hsz] using w) λi v M=>?_
  obtain⟨z,h,h2⟩:=M;rw[Ot,Oq,h,h2];rfl
 rw[e];exact tQ n L (Inv.grown I g) E r v (by rw[B];rfl) u k
def Nv(a1:X.calm=J)(O:X.A.units+64<UD)(I:Inv X pins σ H s)(L:aD G H)(cw:View X.K G H d z)(cL:RelV z u)(hw:aO (ζ.cf d>>=λxs=>ζ.dV xs) (λd'=>∀v a6 R,Ext G H a6 R->aW X.K H a6 R .fresh d' v->Q v R) (λ_=>False)):
  Ts (Tw X.prog X.w) X.A (call (.type "set") [u]) (λw cM=>Ts (Tw X.prog X.w) X.A (call (.builtin "sorted") [w]) (cJ X pins σ Q) X.aV cM) X.aV s:=by
 obtain⟨ds,a,ys,rfl,E,cu,hw⟩:=pB L cw (av.mp hw);obtain⟨a5,M,hw⟩:=Nt hw;have N:X.A.handled=none:=I.ok.hd a1;cases cL;obtain⟨its,j,T,bq,cq,bl,a7,ba⟩:∃(its:List Ti),Vals ys its/\∃T bq cq bl,(T="list"\/T="tuple")/\s.heap.get? a=Z { cls:=.type T,dict:=bq,data:=.seq its.toArray bl,slots:=cq }:=by
  rcases E with E|E
  .obtain⟨its,j,⟨⟨cls,dd,data,a9⟩,n,g,B,_,h3⟩,_⟩:=I.list E;simp only at B h3;subst B h3;exact⟨its,j,"list",dd,a9,n,.inl rfl,g⟩
  .obtain⟨its,j,⟨⟨cls,dd,data,a9⟩,g,B,n,h3⟩,_⟩:=I.tuple E;simp only at B h3;subst B h3;exact⟨its,j,"tuple",dd,a9,n,.inr rfl,g⟩
 have bj:∀{h':TU}{tk:Nat},(∀b o,b<s.heap.objs.size->s.heap.get? b=Z o->h'.get? b=Z o)->Inv X pins σ H { s with heap:=h',toks:=tk }:=λC=>I.kept λb o q=>C b o (N5 q) q
 unfold ζ.ft at a5;rw[P0]at a5;rcases a5 with h|h
 .obtain⟨ns,rfl⟩:=ints_of h;have bO:T1 its ns:=(by rw[gL cu]at j;exact intsAre_of j);rw[aH.l9 (f:=ζ.D.int) aH.vT]at M hw;rw[Tj]at M;refine Pv.vg (Pv.Gb X.prog X.w) a7 N O ba (show Paired (λv (k:Int)=>∃t,v=Uj k t) its.toArray.toList ns from by simpa using zb bO) (λi hi=>by have:=sX ns (OT hi);lia) λh' tk r a0 l C=>?_
  obtain⟨o,U,S,t,g,a3,a2,d5,_,au,a4,aq,b0⟩:=a0;obtain⟨ay,A,aF⟩:=Pv.Paired.perm (Pv.kW X.w s.heap.objs.size U S) aq;obtain⟨xs,b1,b2⟩:=zE (K:=X.K) (G:=G) aF;have e:ζ.fx (ay.map ζ.D.int)=ζ.fx ((aH.br ns).map ζ.D.int):=by
   rw[aH.h8 (f:=ζ.D.int) (lt:=aH.ltI) λ_ _=>rfl,aH.h8 (f:=ζ.D.int) (lt:=aH.ltI) λ_ _=>rfl,zC aH.fD A l]
  refine zO (s:={ s with heap:=h',toks:=tk }) N O (bj C) L g ⟨a3,a2,d5,au,a4⟩ b1 b2 ?_ ?_ (by rw[e];exact hw)
  .unfold ζ.ft;rw[aH.oU];rfl
  .rw[Tj];have:=zB A l;lia
 .obtain⟨aw,rfl,cv⟩:=pW h;rw[aH.l9 (f:=gN) aH.mg]at M hw;rw[Tj]at M;refine Pv.vg (Pv.xh (qq X.K G) X.prog X.w) a7 N O ba (by simpa using zc I L cu j) (λi hi=>by have:=sX aw (OT hi);lia) λh' tk r a0 l C=>?_
  obtain⟨o,U,S,t,g,a3,a2,d5,_,au,a4,aq,b0⟩:=a0;obtain⟨ay,A,aF⟩:=Pv.Paired.perm (Pv.kW X.w s.heap.objs.size U S) aq;have bc:Inv X pins σ H { s with heap:=h',toks:=tk }:=bj C;obtain⟨xs,b1,b2⟩:=zD bc L aF;have e:ζ.fx (ay.map gN)=ζ.fx ((aH.br aw).map gN):=by
   rw[aH.h8 (f:=gN) (lt:=aH.lexLt) aH.mG,aH.h8 (f:=gN) (lt:=aH.lexLt) aH.mG,zC aH.mF A l]
  refine zO (s:={ s with heap:=h',toks:=tk }) N O bc L g ⟨a3,a2,d5,au,a4⟩ b1 b2 ?_ ?_ (by rw[e];exact hw)
  .unfold ζ.ft;rw[aH.vG λc a1=>cv c ?_,RU];have:=((A.trans l).mem_iff).mp a1;exact QM ((Pv.o1 aw _ (N2 _) c).mp this)
  .rw[Tj];have:=zB A l;lia
def KS(C:X.calm=J)(R:X.A.units+64<UD)(T:x="sorted")(U:y="set")(E:b9 X x)(M:X.aj x=Y)(L:b9 X y)(N:X.aj y=Y)(B:ai X e (ar xp X aa .view f))(n:TF [e] X.env=[(Th,Uc e X.env)]):
  ai X (.Call (.Name x p) [.Call (.Name y yg) [e] [] pos'] [] pos) (ar xp X aa .fresh λj=>f j>>=λd=>ζ.cf d>>=λxs=>ζ.dV xs):=by
 subst T U;intro pins s σ H Q I ⟨G,j,O,hw⟩;refine PQ (gG I E M (u:=.builtin "sorted") (by kernel_rfl) ?_);refine Rq ?_ rfl rfl;show Ts _ _ (X8 ((Th,Uc (.Call (.Name "set" yg) [e] [] pos') X.env)::[])) _ _ s;refine QZ ?_;refine PQ (gG I L N (u:=.type "set") (by kernel_rfl) ?_);refine OU (aN (fV B n pos' pins s σ H (λo b=>∃v d a,o=[v]/\Ext G H a b/\View X.K a b d v/\aO (ζ.cf d>>=λxs=>ζ.dV xs) (λd'=>∀v l g,Ext a b l g->aW X.K b l g .fresh d' v->Q v g) (λ_=>False)) I
  ⟨G,j,O,aM (av.mp hw) (λd k v a b x1 i=>?_) λ_ q=>q⟩) λaw au ⟨o,b,A,i,a0⟩=>?_) n rfl
 .refine⟨v,d,a,rfl,x1,i,?_⟩;refine aM (ie k λc=>?_) (λd' q a3 r t a5 a1=>q a3 r t (x1.trans a5) (a1.old x1.h)) λ_ q=>q
  intro z;cases h:ζ.cf d with
  |ok ds=>rw[h]at z;have z:ζ.dV ds=.exc c:=z;unfold ζ.dV at z;split at z<;>cases z
  |exc aq=>cases d<;>cases h
  |bad=>rw[h]at z;cases z
 .obtain⟨v,d,a,e1,x1,a4,S⟩:=a0;subst e1;obtain⟨u,rfl,a2⟩:=vals1 i;refine aN (Nv C R A x1.sub a4 a2 S) λw s2 h2=>?_
  exact Q5 h2
end
section
variable{xp:bR}{X:ao}{aa:List Nat}{m:dk}{f aT bD:aB->aU D}{a b e es:TG}{pos p p2 p3 p4:Vb}{pins:List (Tu×UK)}{σ:aQ}{G H:ah}{s:Tq}{x:Tz}
def zj(h:∀c,t c=.bad):ai X e (ar xp X aa m t):=by
 rintro pins s σ H Q I ⟨G,c,d,hw⟩;rw[h]at hw;exact hw.elim
def ED:dv X (.type "str") (gi X.K m λd=>match d with|.int i=>ζ.h9 i|_=>.bad):=by
 rintro pins s σ H xs k Q I r ⟨G,z,d,g,j,c,hw⟩;subst g;cases d with
 |int i =>
  dsimp only at hw;unfold ζ.h9 at hw
  by_cases h:i.natAbs<10000000000
  .rw[if_pos h]at hw;have c:z=.int i:=c;subst c;refine Cr pins s σ H _ k Q I r ⟨i,rfl,?_,hw _ G H (Ext.refl j) (by cases m<;>rfl)⟩
   by_cases h0:i.natAbs=0
   .rw[h0];decide
   .have:i.natAbs.log2<64:=(Nat.log2_lt h0).mpr (Oa h ∅);lia
  .rw[if_neg h]at hw;exact hw.elim
 |_=>exact hw.elim
def Fv:((TB 10).all λd=>decide (PySem.intText? ⟨#[d+48]⟩=Z (d:Int)))=true:=by decide +kernel
def Fu{z:Tz}{Q:D->Prop}(h:aO (ζ.intOf (.str z)) Q E):∃d:Nat,d<10/\z=⟨#[d+48]⟩/\Q (.int (d:Int)):=by
 have h:aO (match z.cps.toList with|[c]=>if 48<=c/\c<=57 then .ok (ζ.D.int ((c-48:Nat):Int)) else .bad|_=>.bad) Q E:=h;rcases q:z.cps.toList with _|⟨c,_|⟨_,_⟩⟩<;>rw[q]at h
 .exact h.elim
 .dsimp only at h
  by_cases k:48<=c/\c<=57
  .rw[if_pos k]at h;refine⟨c-48,⋯,?_,h⟩;rw[show c-48+48=c by lia];obtain⟨a⟩:=z;have q:a.toList=[c]:=q;rw[show a=#[c] from by rw[<- Qs];exact q]
  .rw[if_neg k]at h;exact h.elim
 .exact h.elim
def f_int:dv X (.type "int") (gi X.K m ζ.intOf):=by
 rintro pins s σ H xs l Q I r ⟨G,z,d,h,g,c,hw⟩;subst h;cases d with
 |ag b =>
  have c:z=.ag b:=c;subst c;exact vd pins s σ H _ l Q I r (.inr ⟨b,rfl,hw _ G H (Ext.refl g) aW.int⟩)
 |str x =>
  have c:z=.str x:=c;subst c;obtain⟨d,i,e0,j⟩:=Fu hw;subst e0;obtain⟨u,rfl,k⟩:=vals1 r;obtain⟨t,rfl⟩:=k;have e:=PX (Oi.mp Fv d (OF.mpr i));exact PySem.W.KIN.call_text e (by show 1<=640;decide) ⟨.int d,H,I.tok _,⟨_,rfl⟩,j _ G H (Ext.refl g) aW.int⟩
 |_=>exact hw.elim
def Nh (lo) : ∀ {n : Nat} {l : List Ti}, l.length = n -> (∀ (i : Nat) v, l[i]? = Z v -> ∃ t, v = .int (lo + i * 1) t) -> Vals ((TB n).map fun (k : Nat) => V.int (lo + (k : Nat))) l := by
  intro n l c h
  subst c
  induction l generalizing lo with
  | nil => exact .nil
  | cons v l d =>
    rw [Tt, Rg, Tr, T2]
    refine .cons ?_ ?_
    · obtain ⟨t, e⟩ := h 0 v rfl
      exact ⟨t, by rw [e]; simp⟩
    · have := d (lo + 1) fun i w hw => by
        obtain ⟨t, e⟩ := h (i + 1) w ⇑hw
        exact ⟨t, by rw [e]; congr 1; push_cast; lia⟩
      have e2 : ((fun (k : Nat) => V.int (lo + (k : Nat))) ∘ Nat.succ) = fun (k : Nat) => V.int (lo + 1 + (k : Nat)) := by
        funext k; simp only [Yx]; congr 1; push_cast; lia
      rw [e2]; exact this
theorem y3{K:W.Frag}(lo):∀(l:List Nat),ax K G (l.map λ(k:Nat)=>ζ.D.int (lo+(k:Nat))) (l.map λ(k:Nat)=>V.int (lo+(k:Nat)))
 |[]=>rfl
 |k::l=>⟨_,_,rfl,rfl,y3 lo l⟩
def AQ(E:b9 X "range")(L:X.aj "range"=Y)(B:ai X a (ar xp X aa .view aT))(y:TF [a] X.env=[(Th,Uc a X.env)])(I:Inv X pins σ H s)(N:cC X.K aa G H A σ){Q:List D->Prop}(hw:aO (aT A>>=λd=>ζ.dw d>>=λi=>ζ.fw 0 i) Q (λc=>cG xp X c H))(k:∀(j:Tq)(h g:ah)(n:Int)(r:Tu)(t u v:Tok)(h':TU)(tk:Nat),Inv X pins σ g j->Ext G H h g->Q (ζ.cP 0 n)->(-(2 ^ 62)<=n/\n<2 ^ 62/\(ζ.cP 0 n).length<=16777216)->Inv X pins σ g { j with heap:=h',toks:=tk }->IsRange h' r 0 n 1 t u v->R (.ref r) { j with heap:=h',toks:=tk }):
  Ts (Tw X.prog X.w) X.A (Uc (.Call (.Name "range" p) [a] [] pos) X.env) R X.aV s:=by
 refine Call_ (gG I E L boot_range (OU (aN (fV B y pos pins s σ H (λz g=>∃n h,z=[.int n]/\Ext G H h g/\Q (ζ.cP 0 n)/\(-(2 ^ 62)<=n/\n<2 ^ 62/\(ζ.cP 0 n).length<=16777216)) I
  ⟨G,A,N,aM (av.mp hw) (λd q v h g x1 l=>?_) λ_ q=>q⟩) λT j S=>?_) y rfl))
 .have q:=av.mp q;cases d with
  |int i =>
   obtain⟨⟨_,_,b1,b2⟩,hz,q⟩:=tG q;exact⟨i,h,by rw[aW.kV l],x1,q,b1,b2,hz⟩
  |_=>exact q.elim
 .obtain⟨z,g,w,l,n,h,e1,x1,M,C⟩:=S;subst e1;obtain⟨u,rfl,O⟩:=vals1 l;obtain⟨t,rfl⟩:=O;refine call_range_1 ?_;exact k j h g n _ _ _ _ _ _ w x1 M C (w.kept λb o e=>N1 _ e) (YI ..)
def y7(n):U9 0 n 1=((ζ.cP 0 n).length:Int):=by
 unfold ζ.cP;rw[Tj,UP,rangeSize_one]
 split<;>lia
def JO(n):(ζ.cP 0 n).length=n.toNat:=by unfold ζ.cP;rw[Tj,UP];congr 1;lia
def y8(h:Ya (λi v=>∃t,v=.int (0+i*1) t) c (ζ.cP 0 n).length):∃xs,ax X.K G (ζ.cP 0 n) xs/\Vals xs c.toList:=by
 have d:c.toList.length=n.toNat:=by rw[Tn,h.1,JO]
 have v:=Nh 0 d λi v g=>h.2 i v ⇑g
 have e:ζ.cP 0 n=(TB n.toNat).map λ(k:Nat)=>ζ.D.int (0+(k:Nat)):=by
  unfold ζ.cP;rw[Int.sub_zero]
 exact⟨_,by rw[e];exact y3 0 _,v⟩
def KV{y:Tz}(M:X.calm=J)(a5:x="range")(aq:y="tuple")(N:b9 X x)(T:X.aj x=Y)(O:b9 X y)(U:X.aj y=Y)(L:ai X a (ar xp X aa .view aT))(a4:TF [a] X.env=[(Th,Uc a X.env)]):
  ai X (.Call (.Name y p2) [.Call (.Name x p) [a] [] pos] [] p3) (ar xp X aa .val λl=>(aT l>>=λd=>ζ.dw d>>=λi=>ζ.fw 0 i)>>=λds=>.ok (.tup ds)):=by
 subst a5 aq;rintro pins s σ H Q I ⟨G,l,a3,hw⟩;refine PQ (gG I O U (u:=.type "tuple") (by kernel_rfl) ?_);refine OU ?_ rfl rfl;show Ts _ _ (X8 ((Th,Uc (.Call (.Name "range" p) [a] [] pos) X.env)::[])) _ _ s;refine QZ ?_;refine AQ N T L a4 I a3 (av.mp hw) λa7 q b1 n r t u v h' tk b2 x1 a1 j k a2=>Q5 ?_
 have S:X.A.handled=none:=k.ok.hd M;have a0:=y7 n;have au:Meets (Uy.«tuple.__new__» ⟨[.type "tuple",.ref r],[]⟩) (λA R s'=>A.handled=Y/\IsRange s'.heap r 0 n 1 t u v /\
   ∀(s2:Tq)(acc:Array Ti),Pv.nR s' s2->Ya (λi v=>∃t,v=.int (0+i*1) t) acc (ζ.cP 0 n).length->R (.ok (.ret (.ref s2.heap.objs.size))) { s2 with heap:=s2.heap.push { cls:=.type "tuple",data:=.seq acc } }) :=
  .of_wp λprog w A R s' h=>by
   obtain⟨C,h2,h3⟩:=h;have bc:=sub_tuple_self;have a9:=init_tuple_lookup;have a6:=madeHere_tuple;have E:s'.TypeIs (.ref r) "range":=⟨_,h2,rfl⟩;have h4:A.in1.handled=none:=C
   wp_walk using Qu E,Pv.CQ (A:=A.in1) h4 h2 (small_one ⋯ ⋯ j.1 j.2.1) a0 j.2.2
   intro s2 acc g c;have e:acc.toList.toArray=acc:=(by simp);refine NZ (m:=Ut acc.toList.toArray) (OC (Tg ⟨_,rfl,?_⟩) (show acc.toList.toArray.size<=TH by rw[e,c.1,TL];exact j.2.2));rw[e];exact h3 s2 acc g c
 refine callType_new F.called_tuple ∅ (F.typeCall_tuple_1 _) (F.newCall_tuple_1 _) (λaw=>F.args_object_init_2 aw _) F.entry_tuple_new au ⟨S,a2,λs2 acc g c=>⟨⟨_,N6 _ rfl,rfl⟩,?_⟩⟩;obtain⟨xs,k1,k2⟩:=y8 (X:=X) (G:=q) c;have B:=Inv.grown k g;have e:acc=acc.toList.toArray:=by simp
 rw[e];exact xZ B x1.sub k2 k1 (by rw[k2.length,Tn,c.1,TL];exact j.2.2) λv o z aF ay=>a1 v o z (x1.trans aF) ay
def Kv{y:Tz}(E:X.calm=J)(a3:x="range")(a4:y="list")(L:b9 X x)(R:X.aj x=Y)(M:b9 X y)(S:X.aj y=Y)(C:ai X a (ar xp X aa .view aT))(a2:TF [a] X.env=[(Th,Uc a X.env)]):
  ai X (.Call (.Name y p2) [.Call (.Name x p) [a] [] pos] [] p3) (ar xp X aa .fresh λA=>(aT A>>=λd=>ζ.dw d>>=λi=>ζ.fw 0 i)>>=λds=>.ok (.lst ds)):=by
 subst a3 a4;rintro pins s σ H Q I ⟨G,A,a1,hw⟩;refine PQ (gG I M S (u:=.type "list") (by kernel_rfl) ?_);refine OU ?_ rfl rfl;show Ts _ _ (X8 ((Th,Uc (.Call (.Name "range" p) [a] [] pos) X.env)::[])) _ _ s;refine QZ ?_;refine AQ L R C a2 I a1 (av.mp hw) λau l B n r t u v h' tk aq x1 U g h a0=>Q5 ?_
 have N:X.A.handled=none:=h.ok.hd E;have T:=y7 n;refine call_list_range N a0 (small_one ⋯ ⋯ g.1 g.2.1) T g.2.2 λh2 a5 j c O w q=>?_
 obtain⟨xs,k1,k2⟩:=y8 (X:=X) (G:=l) q;have e:j=j.toList.toArray:=by simp
 rw[e]at w;refine⟨.ref h'.objs.size,_,h.laid (t':=a5) (o:=.lst xs) O (N2 _) ⟨by rw[k2.length,Tn,q.1,TL];exact g.2.2,j.toList,c,k2,w⟩,rfl,?_⟩;have k:B h'.objs.size=none:=h.fresh;exact U _ l _ (x1.trans (Ext.own x1.sub k λ_ z=>nomatch z)) ⟨_,xs,rfl,bE,x1.h.free k,x1.sub.free k,k1⟩
def Kn{d:D}{v:V}{u:Ti}(g:b9 X x)(h:X.aj x=Z u)(r:RelV v u)(j:∀G,Rep X.K G d v)(c:(x==("__debug__":Tz))=Th):ai X (.Name x p) (ar xp X aa .val λ_=>.ok d):=by
 rintro pins s σ H Q I ⟨G,k,i,hw⟩;exact yr g h r c pins s σ H Q I (hw v G H (Ext.refl i.sub) (j G))
end
section
variable{X:ao}{pins:List (Tu×UK)}{σ:aQ}{G H:ah}{s:Tq}{h':TU}
def Ao{c6:List Tu}(I:Inv X pins σ H s)(k:∀b o,b∉c6->s.heap.get? b=Z o->h'.get? b=Z o)(d:∀b∈c6,fy X pins H b):Inv X pins σ H { s with heap:=h',toks:=t' }:=by
 have f:∀b u,H b=Z u->b∉c6:=λb u e z=>by rw[(d b z).1]at e;cases e
 have y:X.env.locals∉c6:=λz=>(d _ z).2.1 rfl
 refine I.step (g':=s.gens) (d':=s.drawn) (ch:=c6) (λb t=>?_) (λb o _ _ a e _=>k b o a e) (λb o _ _ a e _=>⟨o.slots,k b o a e⟩) (λ_ _ _ _ n=>n)
  (λb o a e=>⟨o,k b o a e⟩) (λ_ _ e=>e) (λ_ _ _ e=>e) (λb A e=>⟨#[],by rw[e];simp⟩) (λm w=>?_) (λb u e=>?_) I.bare
 .obtain⟨_,i,_,j,l,p⟩:=d b t;exact⟨j,i,l,p⟩
 .obtain⟨o,h,g,x,r⟩:=w;exact⟨o,h,g,k _ o y x,r⟩
 .refine(I.aJ b u e).gk (λc v a q=>k c v ?_ q) (λ_ q=>q) λ_ _ q=>q
  rcases a with z|z
  .rw[z];exact f b u e
  .exact f c _ z
def MP(I:Inv X pins σ H s)(d:H a=Y)(h0:X.dE.heap.objs.size<=a)(h:a≠X.env.locals)(i:∀x c,X.env.cells.lookup x=Z c->c≠a)(j:∀p∈X.bP++pins,p.1≠a)(m:bN X.prog X.w (upd H a o) s.heap a o):Inv X pins σ (upd H a o) s where
 ok:=I.ok
 os:=I.os
 bare:=I.bare
 base:=⟨I.base.keep,I.base.slot,λb f e n k=>by
   have:b≠a:=λz=>absurd (N5 e) (Qy.mpr (z▸h0))
   rw[aZ this];exact I.base.free b f e n k,I.base.there,λb xs e=>by
   have q:=I.base.gn b xs e;rw[aZ (fU q d)];exact q,λb f u e=>by
   have q:=I.base.fS b f u e;rw[aZ (fU q d)];exact q,λb r e=>by
   obtain⟨l,q⟩:=I.base.gm b r e;exact⟨l,by rw[aZ (fU q d)];exact q⟩⟩
 loc:=I.loc
 cell:=I.cell
 free:=by rw[aZ (Pj h)];exact I.free
 el:=λx c e=>by rw[aZ (i x c e)];exact I.el x c e
 pin:=λp q=>by
  obtain⟨t,w,y⟩:=I.pin p q;exact⟨t,by rw[aZ (j p q)];exact w,y⟩
 aJ:=λb u e=>by
  by_cases g:b=a
  .subst g;rw[bE]at e;cases e;exact m
  .rw[aZ g]at e;exact(I.aJ b u e).gk (λc v _ q=>q) (λc q=>by rw[aZ (fU q d)];exact q) λc xs q=>by rw[aZ (fU q d)];exact q
 len:=I.len
end
def nV(K:W.Frag)(p q:Tu):fN :=
  ⟨λi H=>∃xs ys x y,bT K H p xs/\bT K H q ys/\xs[i]?=Z x/\ys[i]?=Z y,
   λi H v a=>∃T x y,H T=Y/\v=.ref T/\a=upd H T (.tup [x,y])/\∀xs ys,bT K H p xs->bT K H q ys->xs[i]?=Z x/\ys[i]?=Z y,
   λi H=>∃xs ys,bT K H p xs/\bT K H q ys/\(xs[i]?=Y\/ys[i]?=Y)⟩
def ML(z a b i j p q:Tu)(n:Nat)(h:TU):Prop:=We h z a b .none/\U8 h a (.ref i) (.ref j)/\(∃u v,U8 h b u v)/\h.IsTupleIter i p n/\h.IsTupleIter j q n
def MZ{P:TV}{w:Ug}{K:W.Frag}{bl:List TG}{k:Nat}{pos:Vb}{z a b i j p q:Tu}(d:z≠a/\z≠b/\z≠i/\z≠j/\a≠b/\a≠i/\a≠j/\b≠i/\b≠j/\i≠j):Turn P w K (.Tuple bl k pos) (nV K p q) [z,a,b,i,j] z (ML z a b i j p q) where
 mem:=by simp
 obj:=λn h st c O=>by
  obtain⟨G,h2,⟨u,v,h3⟩,⟨dP,e4,_,ba⟩,⟨dY,e5,_,bj⟩⟩:=st;simp only[N3,Qr,Te]at O;rcases O with rfl|rfl|rfl|rfl|rfl
  .exact⟨_,G,λv z=>by cases z⟩
  .exact⟨_,h2,λv z=>by cases z⟩
  .exact⟨_,h3,λv z=>by cases z⟩
  .exact⟨dP,e4,λv z=>by rw[ba]at z;cases z⟩
  .exact⟨dY,e5,λv z=>by rw[bj]at z;cases z⟩
 keep:=λn h h' st k=>by
  obtain⟨G,h2,⟨u,v,h3⟩,h4,h5⟩:=st;exact⟨k z (by simp) _ G,k a (by simp) _ h2,⟨u,v,k b (by simp) _ h3⟩,h4.at λo e=>k i (by simp) o e,h5.at λo e=>k j (by simp) o e⟩
 item:=by
  intro X a1 hw a0 O n a4 s ay H E I M st a2;subst a1 hw a0;obtain⟨xs,ys,x,y,m,r,b2,a9⟩:=a2;obtain⟨its,a5,au,_⟩:=I.tuple m;obtain⟨R,aq,aw,_⟩:=I.tuple r;obtain⟨S,dc,e0⟩:=a5.get b2;obtain⟨T,de,e1⟩:=aq.get a9;obtain⟨G,h2,⟨u,v,h3⟩,h4,h5⟩:=st;have f:∀(t:Tu)(Q:List V),bT X.K H t Q->∀c∈[z,a,b,i,j],t≠c:=λt Q l c B e=>by
   obtain⟨U,_,_,A,_,_⟩:=M c B;rcases l with l|⟨o,its',dz,a3,_⟩
   .subst e;rcases l with l|⟨o,l⟩<;>rw[U]at l<;>cases l
   .-- e3 eY fk f1 eX
    have N:=I.ok.mod.mC t o a3;subst e;rcases A with A|A
    .exact I.ok.i0 _ _ N A
    .exact absurd (N5 (I.ok.bs _ _ N).1) (Qy.mpr A)
  have D:ZipApart z a b i j p q:=⟨d.1.symm,d.2.1.symm,d.2.2.1.symm,d.2.2.2.1.symm,d.2.2.2.2.1,d.2.2.2.2.2.1,d.2.2.2.2.2.2.1,d.2.2.2.2.2.2.2.1,d.2.2.2.2.2.2.2.2.1,d.2.2.2.2.2.2.2.2.2,
   f p xs m z (by simp),f p xs m b (by simp),f p xs m i (by simp),f p xs m j (by simp),f q ys r z (by simp),f q ys r b (by simp),f q ys r i (by simp),f q ys r j (by simp)⟩
  refine n2.next_item D G h2 h3 h4 h5 (show s.heap.IsTuple p its.toArray from au) (show s.heap.IsTuple q R.toArray from aw) (x:=S) (y:=T) ⇑dc ⇑de λg bq cq cu bO b0 fB b1=>?_
  refine⟨_,rfl,?_⟩;refine wpAny_letOwnedTupleGo_zip (s:={ s with heap:=g }) bq λg' e2 L=>?_
  have lt:∀c∈[z,a,b,i,j],c<s.heap.objs.size:=λc B=>by
   simp only[N3,Qr,Te]at B;rcases B with rfl|rfl|rfl|rfl|rfl
   .exact N5 G
   .exact N5 h2
   .exact N5 h3
   .obtain⟨o,e,_⟩:=h4;exact N5 e
   .obtain⟨o,e,_⟩:=h5;exact N5 e
  have keep:∀c o,c∉[z,a,b,i,j]->s.heap.get? c=Z o->g'.get? c=Z o:=λc o C e=>by
   have a6:c≠z:=λw=>C (by simp[w])
   exact L.extBut _ _ a6 (b1 c o a6 (λw=>C (by simp[w])) (λw=>C (by simp[w])) (λw=>C (by simp[w])) e)
  have bc:Inv X a4 ay H { s with heap:=g',toks:=s.toks }:=Ao I keep M;have aF:H s.heap.objs.size=none:=I.fresh;have cv:g'.get? s.heap.objs.size=Z { cls:=.type "tuple",data:=.seq #[S,T] }:=L.extBut _ _ (QN (lt z (by simp))) b0;have a7:Inv X a4 ay (upd H s.heap.objs.size (.tup [x,y])) { s with heap:=g',toks:=s.toks }:=by
   refine MP bc aF I.ef (QN I.lt) (λx c e w=>?_) (λd6 cN w=>?_) ⟨by show 2<=_;rw[TL];lia,[S,T],.cons e0 (.cons e1 .nil),⟨_,cv,rfl,_,rfl⟩⟩
   .obtain⟨v,o,cw,_⟩:=I.cell x c e;exact absurd (N5 cw) (by rw[w];exact Pt _)
   .exact absurd (N5 (I.pin d6 cN).1) (by rw[w];exact Pt _)
  refine⟨.ref s.heap.objs.size,upd H s.heap.objs.size (.tup [x,y]),a7,rfl,⟨_,x,y,aF,rfl,rfl,λf2 f4 cH c4=>?_⟩,⟨e2,L.extBut _ _ D.TIz (b1 a _ D.TIz D.TITO D.TIi1 D.TIi2 h2),⟨S,T,L.extBut _ _ D.TOz cq⟩,cu.extBut L.extBut D.i1z,bO.extBut L.extBut D.i2z⟩,λc B=>?_⟩
  .rw[I.ub cH m,I.ub c4 r];exact⟨b2,a9⟩
  .rw[aZ (Oj (lt c B))];exact(M c B).1
 done:=by
  intro X a1 hw a0 O n a4 s ay H E I M st a2;subst a1 hw a0;obtain⟨xs,ys,m,r,cL⟩:=a2;obtain⟨its,a5,au,_⟩:=I.tuple m;obtain⟨R,aq,aw,_⟩:=I.tuple r;obtain⟨G,h2,⟨u,v,h3⟩,h4,h5⟩:=st;have f:∀(t:Tu)(Q:List V),bT X.K H t Q->∀c∈[z,a,b,i,j],t≠c:=λt Q l c B e=>by
   obtain⟨U,_,_,A,_,_⟩:=M c B;rcases l with l|⟨o,its',dz,a3,_⟩
   .subst e;rcases l with l|⟨o,l⟩<;>rw[U]at l<;>cases l
   .have N:=I.ok.mod.mC t o a3;subst e;rcases A with A|A
    .exact I.ok.i0 _ _ N A
    .exact absurd (N5 (I.ok.bs _ _ N).1) (Qy.mpr A)
  have D:ZipApart z a b i j p q:=⟨d.1.symm,d.2.1.symm,d.2.2.1.symm,d.2.2.2.1.symm,d.2.2.2.2.1,d.2.2.2.2.2.1,d.2.2.2.2.2.2.1,d.2.2.2.2.2.2.2.1,d.2.2.2.2.2.2.2.2.1,d.2.2.2.2.2.2.2.2.2,
   f p xs m z (by simp),f p xs m b (by simp),f p xs m i (by simp),f p xs m j (by simp),f q ys r z (by simp),f q ys r b (by simp),f q ys r i (by simp),f q ys r j (by simp)⟩
  have cM:its.toArray[n]?=Y\/R.toArray[n]?=none:=by
   rcases cL with h|h
   .exact .inl (by simpa using a5.none_of h)
   .exact .inr (by simpa using aq.none_of h)
  refine n2.next_end (I.ok.hd O) D G h2 h3 h4 h5 (show s.heap.IsTuple p its.toArray from au) (show s.heap.IsTuple q R.toArray from aw) cM λg k=>⟨rfl,?_⟩
  exact Ao (t':=s.toks) I (λc o C e=>k c o (λw=>C (by simp[w])) (λw=>C (by simp[w])) (λw=>C (by simp[w])) (λw=>C (by simp[w])) e) M
 self:=λ_ _ _ _ _ st h=>wpAny_pyIter_zip st.1 h
theorem AR:∀(xs ys:List D)(i:Nat){d:D},(ζ.et xs ys)[i]?=Z d->∃x y,xs[i]?=Z x/\ys[i]?=Z y/\d=.tup [x,y]
 |[],_,i,d,h=>by simp[ζ.et]at h
 |_::_,[],i,d,h=>by simp[ζ.et]at h
 |x::xs,y::ys,0,d,h=>by simp[ζ.et]at h;exact⟨x,y,rfl,rfl,h.symm⟩
 |x::xs,y::ys,i+1,d,h=>by simpa using AR xs ys i (by simpa[ζ.et] using h)
theorem qd:∀(xs ys:List D),(ζ.et xs ys).length=min xs.length ys.length
 |[],_=>by simp[ζ.et]
 |_::_,[]=>by simp[ζ.et]
 |x::xs,y::ys=>by simp[ζ.et,qd xs ys]
def FL{K:W.Frag}{P:ah->ah->Prop}{G:ah}{p q:Tu}{xs ys:List V}{ds j:List D}(k:∀a b,P a b->aD G a/\bT K b p xs/\bT K b q ys)(r:ax K G ds xs)(l:ax K G j ys):fW K P (nV K p q) (ζ.et ds j) where
 go:=λi a b h hi=>by
  obtain⟨_,e,f⟩:=k a b h;rw[qd,r.length,l.length]at hi;exact⟨xs,ys,xs[i]'⋯,ys[i]'⋯,e,f,N8 _,N8 _⟩
 gq:=λi a b v E d h n A ⟨T,x,y,m,z,w,B⟩=>by
  obtain⟨g,e,f⟩:=k a b h;obtain⟨H,I,e1,e2,rfl⟩:=AR ds j i A;obtain⟨L,k1,k2⟩:=r.get e1;obtain⟨M,k3,C⟩:=l.get e2;obtain⟨t,u⟩:=B xs ys e f;rw[k1]at t;cases t;rw[k3]at u;cases u;subst z w;refine⟨upd a T (.tup [x,y]),Ext.put n m,T,[x,y],rfl,bE,?_⟩;have s:=du (o:=eL.tup [x,y]) (n.free m);exact⟨x,[y],rfl,(k2.mono g).mono s,y,[],rfl,(C.mono g).mono s,rfl⟩
 stop:=λa b h=>by
  obtain⟨_,e,f⟩:=k a b h;refine⟨xs,ys,e,f,?_⟩;rw[qd,r.length,l.length]
  by_cases c:xs.length<=ys.length
  .exact .inl (OE ⋯)
  .exact .inr (OE ⋯)
def Nx:∀x y:Nat,(x ^^^ y)+2*(x &&& y)=x+y:=by
 intro x
 induction x using X2 with
 |ind x e =>
  intro y
  by_cases h:x=0
  .subst h;simp
  .have d:=e (x / 2) ⋯ (y / 2);have e1:(x ^^^ y) / 2=x / 2 ^^^ y / 2:=Nat.xor_div_two;have e2:(x &&& y) / 2=x / 2 &&& y / 2:=Nat.and_div_two;have e3:(x ^^^ y)%2=(x%2+y%2)%2:=by
    have:=@Nat.xor_mod_two_eq_one x y;rcases OZ x with a|a<;>rcases OZ y with b|b<;>rcases OZ (x ^^^ y) with c|c<;>simp[a,b,c]at this ⊢
   have e4:(x &&& y)%2=(x%2)*(y%2):=by
    have:=@Nat.and_mod_two_eq_one x y;rcases OZ x with a|a<;>rcases OZ y with b|b<;>rcases OZ (x &&& y) with c|c<;>simp[a,b,c]at this ⊢
   rw[<- e1,<- e2]at d;revert d e3 e4;generalize x ^^^ y=p;generalize x &&& y=q;intro d e3 e4;rcases OZ x with a|a<;>rcases OZ y with b|b<;>rw[a,b]at e3 e4<;>lia
def uR(hi:0<=i)(a:0<=j):Vc i j=((i.toNat &&& j.toNat:Nat):Int):=by
 unfold Vc;rw[decide_eq_true hi,decide_eq_true a]
def Bf(hi:0<=i)(a:¬0<=j):Vc i j=i-((i.toNat &&& (-j-1).toNat:Nat):Int):=by
 unfold Vc;rw[decide_eq_true hi,decide_eq_false a];rfl
def Ny(hi:0<=i)(a:0<=j):Yc i j=((i.toNat ^^^ j.toNat:Nat):Int):=by
 rw[bitXor_and,uR hi a];have:=Nx i.toNat j.toNat;lia
section
variable{xp:bR}{X:ao}{aa:List Nat}{m:dk}{f aT bD bF:aB->aU D}{a b c e:TG}{pos:Vb}{pins:List (Tu×UK)}{σ:aQ}{G H:ah}{s:Tq}
def Dg:bu X (Ur .BitAnd) (hX X.K (ζ.dq .and)):=by
 rintro pins s σ H x y v u Q I i4 i5 ⟨G,dg,jC,gF,jg,jh,hw⟩;cases dg<;>cases jC<;>first|exact hw.elim|skip
 have hw:aO (ζ.qB i i_1) _ _:=hw;unfold ζ.qB at hw
 by_cases h:0<=i
 .rw[if_pos h]at hw
  by_cases h2:0<=i_1
  .rw[if_pos h2]at hw;exact yc pins s σ H x y v u Q I i4 i5 ⟨_,_,jg,jh,by dsimp only;rw[uR h h2];exact hK gF hw rfl⟩
  .rw[if_neg h2]at hw;exact yc pins s σ H x y v u Q I i4 i5 ⟨_,_,jg,jh,by dsimp only;rw[Bf h h2];exact hK gF hw rfl⟩
 .rw[if_neg h]at hw;exact hw.elim
def Dn:bu X (Ur .BitXor) (hX X.K (ζ.dq .xor)):=by
 rintro pins s σ H x y v u Q I i4 i5 ⟨G,dg,jC,gF,jg,jh,hw⟩;cases dg<;>cases jC<;>first|exact hw.elim|skip
 have hw:aO (ζ.uz i i_1) _ _:=hw;unfold ζ.uz at hw
 by_cases h:0<=i/\0<=i_1
 .rw[if_pos h]at hw;exact Io pins s σ H x y v u Q I i4 i5 ⟨_,_,jg,jh,by dsimp only;rw[Ny h.1 h.2];exact hK gF hw rfl⟩
 .rw[if_neg h]at hw;exact hw.elim
def Kw{x:Tz}(O:X.calm=J)(U:x="max")(R:b9 X x)(T:X.aj x=Y)(M:ai X a (ar xp X aa .view aT))(N:ai X b (ar xp X aa .view bD))(o:TF [a,b] X.env=[(Th,Uc a X.env),(Th,Uc b X.env)])(l:TF [b] X.env=[(Th,Uc b X.env)]):
  ai X (.Call (.Name x p) [a,b] [] pos) (ar xp X aa m λg=>aT g>>=λx=>ζ.dw x>>=λi=>bD g>>=λy=>ζ.dw y>>=λj=>.ok (.int (if i<j then j else i))):=by
 subst U;rintro pins s σ H Q I ⟨G,g,n,hw⟩;have L:dv X (.builtin "max") (λxs H Q=>∃i j,xs=[.int i,.int j]/\Q (.int (if i<j then j else i)) H):=by
  rintro pins s σ H xs a3 Q I r ⟨i,j,e,q⟩;subst e;cases r with
  |cons h d =>
   cases d with
   |cons d a0 =>
    cases a0;obtain⟨t,rfl⟩:=h;obtain⟨u,rfl⟩:=d;refine max_two_ints (I.ok.hd O) λh' tk S=>?_
    refine⟨_,H,I.kept S,?_,q⟩
    by_cases c:i<j
    .rw[if_pos c,if_pos c];exact⟨u,rfl⟩
    .rw[if_neg c,if_neg c];exact⟨t,rfl⟩
 refine mT L R T (by kernel_rfl) (fv M (fV N l) (by rw[o,l])) ∅ ∅ (by rw[o,l]) (by rw[l];rfl) pins s σ H Q I ?_;refine⟨G,g,n,aM (av.mp hw) (λC k v z a2 x1 h=>?_) λ_ q=>q⟩;cases C with
 |int i =>
  have k:aO (bD g>>=λy=>ζ.dw y>>=λj=>.ok (ζ.D.int (if i<j then j else i))) _ _:=k;refine⟨z,g,n.ext x1,aM (av.mp k) (λE k2 w A B a1 d=>?_) λ_ q=>q.mono x1.h⟩;cases E with
  |int j =>
   have h:v=.int i:=h;have d:w=.int j:=d;subst h d;exact⟨i,j,rfl,k2 _ A B (x1.trans a1) aW.int⟩
  |_=>exact k2.elim
 |_=>exact k.elim
theorem mu:∀{ds:List D}{k:List Int},ζ.intsOf ds=Z k->ds=k.map .int
 |[],_,h=>by cases h;rfl
 |.int i::ds,k,h=>by
  cases q:ζ.intsOf ds with
  |none=>simp[ζ.intsOf,q]at h
  |some d =>
   simp only[ζ.intsOf,q,Uq,O4]at h;subst h;rw[mu q];rfl
 |.az::_,_,h=>by cases h
 |.ag _::_,_,h=>by cases h
 |.str _::_,_,h=>by cases h
 |.tup _::_,_,h=>by cases h
 |.lst _::_,_,h=>by cases h
 |.bU _::_,_,h=>by cases h
 |.bG _::_,_,h=>by cases h
 |.d7 _::_,_,h=>by cases h
 |.kt _::_,_,h=>by cases h
def ints_list(I:Inv X pins σ H s){K:W.Frag}(n:aD G H)(l:View X.K G H (.lst (ns.map .int)) z)(k:RelV z u):∃(a:Tu)(xs:Array (Int×Tok)),u=.ref a/\s.heap.IsList a (intItems xs)/\xs.toList.map (·.1)=ns:=by
 obtain⟨a,ys,rfl,g,i⟩:=l;cases k;rw[gL i]at g;obtain⟨its,j,h,hz⟩:=I.list g;have hi:T1 its ns:=intsAre_of j;obtain⟨xs,d⟩:=hi.allInts.items;refine⟨a,xs,rfl,by rw[<- d];exact h.isList,?_⟩;rw[<- nums_intItems,<- d];exact hi.numsOf
def EE(k:X.calm=J):dv X (.builtin "sum") (gi X.K m λd=>ζ.kP d>>=λxs=>ζ.j9 xs):=by
 rintro pins s σ H xs t Q I r ⟨G,z,d,j,h,p,hw⟩;subst j;obtain⟨u,rfl,o⟩:=vals1 r;cases d with
 |lst ds =>
  have g:aO (ζ.j9 ds) _ _:=hw;clear hw;unfold ζ.j9 at g;cases q:ζ.intsOf ds with
  |none=>rw[q]at g;exact g.elim
  |some ns =>
   rw[q]at g;cases mu q;obtain⟨a,xs,rfl,n,i⟩:=ints_list (K:=X.K) I h p o;refine sum_intListG (I.ok.hd k) n λh' tk t' l=>?_
   refine⟨.int ns.sum,H,I.kept l,⟨t',?_⟩,g _ G H (Ext.refl h) aW.int⟩;rw[preSum_eq,Pw (by simp),i]
 |_=>exact hw.elim
theorem uU(g:Nat->Int):∀k,g (argBest (λi j=>decide (g i>g j)) k)=((TB k).map λi=>g (i+1)).foldl (λm x=>if x>m then x else m) (g 0)
 |0=>rfl
 |k+1=>by
  rw[List.range_succ,Uk,Xv,<- uU g k];show g (if decide (g (k+1)>g (argBest (λi j=>decide (g i>g j)) k))=J then k+1 else argBest (λi j=>decide (g i>g j)) k)=_;simp only[Tr,Qv,Vp,List.foldl_nil]
  by_cases h:g (k+1)>g (argBest (λi j=>decide (g i>g j)) k)
  .rw[if_pos (decide_eq_true h),if_pos h]
  .rw[if_neg ⇑h,if_neg h]
def HW(xs)(n)(ns)(h:xs.toList.map (·.1)=n::ns):numAt xs 0=n/\(TB (xs.size-1)).map (λi=>numAt xs (i+1))=ns:=by
 have d:∀i,numAt xs i=((n::ns)[i]?).getD 0:=λi=>by
  unfold numAt;rw[<- h,Ot,Oq]
 have hz:xs.size=ns.length+1:=by
  have:=O7 Vm h;simpa using this
 refine⟨by rw[d];rfl,?_⟩;rw[hz,R8];apply Qi;intro i;rw[Ot]
 by_cases hi:i<ns.length
 .rw[Qp hi,Uq,d,VP,N8 hi];rfl
 .rw[OE ⇑hi,OE ⇑hi];rfl
def EB(k:X.calm=J):dv X (.builtin "max") (gi X.K m λd=>ζ.kP d>>=λxs=>ζ.jR xs):=by
 rintro pins s σ H xs A Q I r ⟨G,z,d,j,i,y,hw⟩;subst j;obtain⟨u,rfl,w⟩:=vals1 r;cases d with
 |lst ds =>
  have g:aO (ζ.jR ds) _ _:=hw;clear hw;unfold ζ.jR at g;cases q:ζ.intsOf ds with
  |none=>rw[q]at g;exact g.elim
  |some ns =>
   rw[q]at g;cases ns with
   |nil=>exact g.elim
   |cons n ns =>
    cases mu q;obtain⟨a,xs,rfl,o,h⟩:=ints_list (K:=X.K) I i y w;obtain⟨e0,e1⟩:=HW xs n ns h;have hz:0<xs.size:=by
     have:=O7 Vm h;simp at this;lia
    refine max_intList (I.ok.hd k) o hz λv h' tk p l=>?_
    obtain⟨t,rfl⟩:=intItems_at p;refine⟨.int (ns.foldl (λm x=>if x>m then x else m) n),H,I.kept l,⟨t,?_⟩,g _ G H (Ext.refl i) aW.int⟩;rw[uU (numAt xs),e0,e1]
 |_=>exact hw.elim
end
def boot_zip:Ub "zip"=Z (.type "zip"):=by kernel_rfl
section
variable{xp:bR}{X:ao}{aa:List Nat}{m:dk}{f aT bD:aB->aU D}{a b:TG}{elts:List TG}{k:Nat}{pos p p4:Vb}{x:Tz}
def y0{K:W.Frag}{H c d:ah}{ds:List D}{v:V}(h:aW K H c d m (.tup ds) v):Rep K c (.tup ds) v:=by cases m<;>exact h
def yM{K:W.Frag}{G H e c:ah}{t:Tu}{xs:List V}(g:m=.view\/m=.val)(i:aD G H)(h:G t=Z (.tup xs))(q:hv m G H e c):bT K c t xs:=by
 obtain⟨j,d⟩:=q;rcases g with rfl|rfl
 .exact pJ d (eI i h)
 .exact pJ d (eI j h)
def Kt (S : m = .view \/ m = .val) (b1 : x = "zip") (ay : b9 X x) (aF : X.aj x = Y) (au : ai X a (ar xp X aa m aT)) (aw : ai X b (ar xp X aa m bD)) (a1 : TF [a, b] X.env = [(Th, Uc a X.env), (Th, Uc b X.env)]) (r : TF [b] X.env = [(Th, Uc b X.env)]) :
    ey X (.Tuple elts k p4) (.Call (.Name x p) [a, b] [] pos) (fH xp X aa m fun n => aT n >>= fun x => bD n >>= fun y => ζ.qe x y) := by
  subst b1
  rintro a9 s b0 H R I ⟨G, n, a0, hw⟩
  refine Call_ (gG I ay aF boot_zip (OU (aN (fv au (fV aw r) (by rw [a1, r]) pos a9 s b0 H (fun a3 A => ∃ v w e ds i, a3 = [v, w] /\ Ext G H e A /\ Rep X.K e (.tup ds) v /\ Rep X.K e (.tup i) w /\
      ∀ M L t, Ext G H L t -> fW X.K (hv m L t) M (ζ.et ds i) -> (ζ.et ds i).length <= 16777216 -> R M t) I
    ⟨G, n, a0, aM (av.mp hw) (fun aq q v o u x1 B => ?_) fun _ q => q⟩) fun c4 d ⟨a3, u, j, B, v, w, o, ds, i, e1, x1, ba, bj, hR⟩ => ?_) (by rw [a1, r]) (by rw [r]; rfl)))
  · refine ⟨o, n, a0.ext x1, aM (av.mp q) (fun N l w e A a4 a6 => ?_) fun _ q => q.mono x1.h⟩
    cases aq with
    | tup ds =>
      cases N with
      | tup i => exact ⟨v, w, e, ds, i, rfl, x1.trans a4, (y0 B).mono a4.g, y0 a6, l⟩
      | _ => exact l.elim
    | _ => cases N <;> exact l.elim
  · subst e1
    obtain ⟨cH, cN, rfl, bc, a7⟩ := vals2 B
    obtain ⟨C, xs, rfl, T, a2⟩ := ba
    obtain ⟨E, ys, rfl, U, l⟩ := bj
    cases bc
    cases a7
    obtain ⟨its, cM, p1, cv⟩ := j.tuple (eI x1.sub T)
    obtain ⟨b2, cw, p2, cL⟩ := j.tuple (eI x1.sub U)
    refine n2.make (show d.heap.IsTuple C its.toArray from p1) (show d.heap.IsTuple E b2.toArray from p2) fun g a5 bl bq cq cu dc bO => ?_
    refine wpAny_pyIter_zip a5 ?_
    refine ⟨d.heap.objs.size + 4, [d.heap.objs.size + 4, d.heap.objs.size + 2, d.heap.objs.size + 3, d.heap.objs.size, d.heap.objs.size + 1], _, nV X.K C E, u, rfl, j.kept (t' := d.toks) bO, MZ ?_, ⟨a5, bl, ⟨_, _, bq⟩, cq, cu⟩, fun c O => ?_, ?_⟩
    · refine ⟨?_, ?_, ?_, ?_, ?_, ?_, ?_, ?_, ?_, ?_⟩ <;> (intro z; have z : (_ : Nat) = _ := z; lia)
    · have Q : d.heap.objs.size <= c := by
        simp only [N3, Qr, Te] at O
        rcases O with rfl | rfl | rfl | rfl | rfl
        · exact Ow _ _
        · exact Ow _ _
        · exact Ow _ _
        · exact N2 _
        · exact Ow _ _
      exact j.jG Q (j.aJ.fresh Q)
    · refine hR (nV X.K C E) o u x1 (FL (G := o) (fun e A h => ⟨h.1, yM S x1.sub T h, yM S x1.sub U h⟩) a2 l) ?_
      rw [qd, a2.length]
      have := TL
      lia
end
section
variable{xp:bR}{X:ao}{aa:List Nat}{m:dk}{f:aB->aU D}{e es iter:TG}{pos p1 p4 ap ej:Vb}{i:Nat}{x n:Tz}{nq:List Ui}
def vo{o:Option (Option D)}(h:aO (ζ.f3 o) Q E):∃ds,o=Z (Z (.lst ds))/\Q ():=by
 cases o with
 |none=>exact h.elim
 |some o =>
  cases o with
  |none=>exact h.elim
  |some d =>
   cases d with
   |lst ds=>exact⟨ds,rfl,h⟩
   |_=>exact h.elim
def mn(a:TF [e] X.env=[(Th,Uc e X.env)]):((U7 ej (TF [e] X.env)).all (λx=>!x.1)&&(Yf ej (Wv [] X.env)).all (λx=>x.1.isSome)&&decide ([e].length+([]:List Vv).length+(if ([]:List Vv).isEmpty then 0 else 1)<30))=true:=by
 rw[a];rfl
def J4(j:i∈aa)(L:n="append")(A:X.N[i]?=Z x)(M:dN X.env.scope x)(t:(x==("__debug__":Tz))=Th)(h2:(x==("__classdict__":Tz))=Th)(E:(ap.endLine==ej.line)=J)(C:ai X e (ar xp X aa .val f))(g:TF [e] X.env=[(Th,Uc e X.env)]):
  bA X (.Expr (.Call (.Attribute (.Name x p1) n ap) [e] [] ej) p4) (bz xp X aa λb=>ζ.f3 b[i]?>>=λ_=>f b>>=λd=>ζ.n3 b[i]? d>>=λy=>.ok (.aS (b.set i (Z y)))):=by
 subst L;rintro N s p H T I ⟨Q,R,G,b,c,hw⟩;refine pl (mS Q3 PySem.F.slot_list_append PySem.F.type_list_append xV (eG A M t h2) (fV C g) rfl (mn g) E g rfl) rfl N s p H T I ?_;obtain⟨ds,q,hw⟩:=vo (av.mp hw);obtain⟨a,o,k1,k2,k3,xs,rfl,l⟩:=c.aY.lst i (.lst ds) q j rfl;refine⟨_,k1,.inl ⟨rfl,xs,cb.of k2⟩,?_⟩;refine⟨G,b,c.aY,aM (av.mp hw) (λd k v h r x1 O=>?_) λ_ z=>z.mono c.ext.h⟩;have B:=c.step x1;rw[q,ζ.lO]at k;have k:=av.mp k
 by_cases hz:ds.length<ζ.SZ
 .rw[if_pos hz]at k;have w:r a=Z (.lst xs):=x1.h _ _ k2;have u:h a=none:=x1.new a k3 (by rw[k2];exact λz=>nomatch z);refine⟨a,xs,v,rfl,rfl,w,by rw[<- l.length,<- gS];exact hz,?_⟩;exact k p h _ (B.write (d:=.lst ds) (e:=.lst (ds++[d])) j q rfl rfl k1 u ⟨_,rfl,(l.mono x1.g).snoc O⟩)
 .rw[if_neg hz]at k;exact k.elim
abbrev e7(b c:ah):ah:=λa=>match b a with
 |some o=>Z o
 |none=>c a
def iS(h:b a=Z o):e7 b c a=Z o:=by unfold e7;rw[h]
def gd(h:b a=Y):e7 b c a=c a:=by unfold e7;rw[h]
variable{K:W.Frag}{cK bM bQ H1 G H:ah}{ae:aB}{σ:aQ}
def zu(x:Ext cK bM bQ H1):aD bM (e7 bQ bM):=λa o h=>by
 cases q:bQ a with
 |none=>rw[gd q];exact h
 |some b =>
  rw[iS q];have e1:=x.sub a b q;have e2:=x.h a o h;rw[e1]at e2;exact e2
def Ey(x:Ext cK bM bQ H1)(y:Ext cK bM G H)(s:aD bQ G):Ext bQ (e7 bQ bM) G H where
 g:=s
 h:=λa o e=>by
  cases q:bQ a with
  |some c=>rw[iS q]at e;cases e;exact y.sub a o (s a o q)
  |none=>rw[gd q]at e;exact y.h a o e
 sub:=y.sub
 new:=λa e1 e2=>by
  rw[gd e1]at e2;refine y.new a ?_ e2;cases q:cK a with
  |none=>rfl
  |some o=>rw[x.g a o q]at e1;cases e1
 cV:=λb xs z=>(y.cV b xs z).elim (λw=>.inl (by
  cases q:bQ b with
  |none=>rw[gd q];exact w
  |some o=>rw[iS q];rw[y.sub b o (s b o q)]at z;exact z)) .inr
def we(x:Ext cK bM bQ H1)(y:Ext bQ (e7 bQ bM) G H):Ext cK bM G H where
 g:=x.g.trans y.g
 h:=(zu x).trans y.h
 sub:=y.sub
 new:=λa e1 e2=>by
  have q:=x.new a e1 e2;exact y.new a q (by rw[gd q];exact e2)
 cV:=λb xs z=>(y.cV b xs z).elim (λw=>by
  cases q:bQ b with
  |none=>rw[gd q]at w;exact .inl w
  |some o=>rw[iS q]at w;exact .inr (y.g _ _ (q.trans w))) .inr
def bY.re(x:Ext cK bM bQ H1)(h:bY K aa cK bM G H ae σ)(s:aD bQ G):bY K aa bQ (e7 bQ bM) G H ae σ:=by
 refine⟨h.aY,Ey x h.ext s,λi ds a q c hi e=>?_⟩;obtain⟨b,xs,k1,k2,k3,d⟩:=h.aY.lst i ds q hi c;rw[k1]at e;cases e;have:bQ a=none:=by
  cases z:bQ a with
  |none=>rfl
  |some o=>rw[s a o z]at k3;cases k3
 rw[gd this];exact h.own i ds a q c hi k1
def bY.back(x:Ext cK bM bQ H1)(h:bY K aa bQ (e7 bQ bM) G H ae σ):bY K aa cK bM G H ae σ:=by
 refine⟨h.aY,we x h.ext,λi ds a q b hi e=>?_⟩;have:=h.own i ds a q b hi e;cases z:bQ a with
 |some o=>rw[iS z]at this;cases this
 |none=>rw[gd z]at this;exact this
theorem bY.zz:∀{ts:List Nat}{ws:List D}{a:List V}{ae:aB}{σ:aQ},(∀t∈ts,t∉aa)->bY K aa cK bM G H ae σ->ax K G ws a->bY K aa cK bM G H (ζ.h1 ts (ws.map Z) ae) (i6 ts a σ)
 |[],ws,a,ae,σ,_,h,r=>by simpa[ζ.h1,i6] using h
 |t::ts,[],a,ae,σ,_,h,r=>by cases r;simpa[ζ.h1,i6] using h
 |t::ts,w::ws,a,ae,σ,b,h,⟨v,r,e,c,d⟩=>by
  subst e;exact bY.zz (ts:=ts) (λz hz=>b z (Tp _ hz)) (h.m9 (b t To) c) d
def EL(g:D->aB->aU ζ.cx)(d:D)(ds:List D)(ae:aB):ζ.forL g (d::ds) ae=g d ae>>=λr=>match r with
  |.aS a=>ζ.forL g ds a
  |.bt x=>.ok (.bt x):=rfl
def Km(ay:WK (Tw X.prog X.w) X.A X.env X.aV)(aq:X.calm=J)(b1:∀t∈ts,t∉aa)(hi:ey X es iter (fH xp X aa .val a3))(aw:fX X es (r8 X.K k ts))(a4:d4 X nq (bz xp X aa B))(aF:∀z,Ux iter X.env z=pure z):bA X (.For es iter nq [] pos) (bz xp X aa λae=>a3 ae>>=λds=>ζ.forL (λd b=>ζ.dX k d>>=λh=>B (ζ.h1 ts h b)) ds ae):=by
 rintro a6 s σ H T I ⟨cK,bM,G,ae,u,hw⟩;refine Jo ay aq hi aw a4 aF a6 s σ H T I ?_;refine⟨G,ae,u.aY,aM (av.mp hw) (λds a9 bO bQ H1 x1 L hz=>?_) λ_ q=>q.mono u.ext.h⟩;have w:Ext cK bM bQ H1:=u.ext.trans x1;have bq:=zu w;refine⟨λj m N aK=>j+m=ds.length/\∃g b,bY X.K aa bQ (e7 bQ bM) g aK b N/\aO (ζ.forL (λd b=>ζ.dX k d>>=λh=>B (ζ.h1 ts h b)) (ds.drop j) b) (e6 X.K aa cK bM T) (λc=>cG xp X c bM),
  ⟨ds.length,⋯,bQ,ae,bY.re w (u.step x1) (aD.refl _),⇑a9⟩,?_⟩
 rintro j m N aK ⟨b0,g,b,l,a⟩;have C:hv .val bQ H1 g aK:=⟨l.ext.g,l.aY.sub⟩
 by_cases E:j<ds.length
 .refine .inr ⟨L.go j g aK C E,λU p=>(j+1)+(m-1)=ds.length/\∃o y,bY X.K aa bQ (e7 bQ bM) o p y U/\aO (ζ.forL (λd b=>ζ.dX k d>>=λh=>B (ζ.h1 ts h b)) (ds.drop (j+1)) y) (e6 X.K aa cK bM T) (λc=>cG xp X c bM),
   λU p h2=>⟨m-1,⋯,h2⟩,λv p b2=>?_⟩
  have au:ds[j]?=Z ds[j]:=N8 E;obtain⟨o,S,a7⟩:=L.gq j g aK v p ds[j] C l.aY.sub au b2;have bj:=l.step S;have a0:ds.drop j=ds[j]::ds.drop (j+1):=PO E;rw[a0,EL]at a;have a:=av.mp (av.mp a);refine⟨o,ds[j],S.sub,a7,?_⟩;cases q:ζ.dX k ds[j] with
  |bad=>rw[q]at a;exact a
  |exc c =>
   exfalso;cases k with
   |zero=>cases q
   |succ k =>
    cases Q:ds[j] with
    |tup M =>
     rw[Q]at q;have a5:ζ.dX (k+1) (.tup M)=if M.length=k+1 then .ok (M.map Z) else .bad:=rfl;rw[a5]at q
     split at q<;>cases q
    |_=>rw[Q]at q;cases q
  |ok os =>
   rw[q]at a;intro ws h a2 ba;subst a2;refine⟨bQ,e7 bQ bM,o,_,bY.zz b1 bj ba,aM a (λr R=>?_) λc z=>z.mono bq⟩;cases r with
   |aS y=>exact λcv A O bl=>⟨⋯,A,y,bl,R⟩
   |bt d=>exact λcq A O cu bc=>R cq A O (we w cu) bc
 .have a1:j=ds.length:=⋯;subst a1;refine .inl ⟨L.stop g aK C,?_⟩;rw[Rv]at a;exact a N g aK (bY.back w l)
end
def sC(a k:List Int):decide (a.map (T6 (β:=Tz))=k.map T6)=decide (a=k):=by
 by_cases h:a=k
 .simp[h]
 .have:a.map (T6 (β:=Tz))≠k.map Sum.inl:=λz=>h ((List.map_inj_right (λa b=>Sf)).mp z)
  simp[h,this]
def Du(a)(k):fJ (eN a) (k.map T6)=(ζ.p7 a k).map V.int:=by
 induction a with
 |nil=>rfl
 |cons p a b =>
  unfold fJ ζ.p7 eN at b ⊢;rw[Tr,Up,Up];dsimp only;rw[sC]
  by_cases h:p.1=k
  .simp[h]
  .simp only[decide_eq_false h];exact b
def Dt(a)(k)(n):putK (eN a) (k.map T6) (V.int n)=eN (ζ.putN a k n):=by
 have e1:((eN a).any λb=>decide (b.1=k.map T6))=a.any λp=>decide (p.1=k):=by
  induction a with
  |nil=>rfl
  |cons p a c=>unfold eN at c ⊢;rw[Tr,Uu,Uu,c,sC]
 have e2:(eN a).map (λb=>if b.1=k.map T6 then(b.1,V.int n) else b)=eN (a.map λp=>if p.1=k then(p.1,n) else p):=by
  unfold eN;rw[T2,T2];refine Px λp _=>?_
  have:=sC p.1 k
  by_cases h:p.1=k
  .simp[h]
  .have h':¬p.1.map (T6 (β:=Tz))=k.map Sum.inl:=(by simpa[h] using this);simp[h,h']
 unfold putK ζ.putN;rw[e1]
 split
 .exact e2
 .unfold eN;rw[Uk];rfl
def xi(k:List Int):(k.map (T6 (β:=Tz))).map bH=k.map V.int:=by rw[T2];rfl
def l8{o:Option (Option D)}(h:ζ.gW o=Z a):o=Z (Z (.bU a)):=by
 unfold ζ.gW at h
 split at h
 .cases h;rfl
 .cases h
def og{o:Option (Option D)}(h:ζ.f5 o=Z a):o=Z (Z (.bG a)):=by
 unfold ζ.f5 at h
 split at h
 .cases h;rfl
 .cases h
def kx{α:Type}{f:D->Option α}{o:Option (Option D)}{a:α}(h:ζ.ei f o=Z a):∃d,o=Z (Z d)/\f d=Z a:=by
 unfold ζ.ei at h
 split at h
 .exact⟨_,rfl,h⟩
 .cases h
def oF{d:D}(h:ζ.intD d=Z i):d=.int i:=by
 unfold ζ.intD at h
 split at h
 .cases h;rfl
 .cases h
def Al{d:D}(h:ζ.je d=Z k):d=.tup (k.map .int):=by
 unfold ζ.je at h
 split at h
 .rw[mu h]
 .cases h
def y9{d:D}(h:ζ.rowOf d=Z r):d=ζ.la r:=by
 unfold ζ.rowOf at h
 split at h
 .split at h
  .rename_i e;cases h;rw[mu e];rfl
  .cases h
 .cases h
theorem ints_rep{K:W.Frag}:∀ns:List Int,ax K G (ns.map ζ.D.int) (ns.map V.int)
 |[]=>rfl
 |n::ns=>⟨.int n,ns.map V.int,rfl,rfl,ints_rep ns⟩
section
variable{G:ah}
theorem cQ.val:∀{a:List (Int×Int×Int)}{ys:List (Key×V)},cQ G a ys->∀{k:Int}{r:Int×Int},ζ.nJ a k=Z r->∃b,fJ ys (T6 k)=Z (.ref b)/\G b=Z (.tup [.int r.1,.int r.2])
 |[],_,_,k,r,e=>by cases e
 |p::a,_,⟨b,t,e,f,h2⟩,k,r,q=>by
  subst e;unfold ζ.nJ at q;unfold fJ;rw[Up]at q ⊢
  by_cases c:p.1=k
  .simp only[c,decide_true,Uq,O4]at q ⊢;subst q;exact⟨b,rfl,f⟩
  .have d:¬(T6 p.1:Key)=T6 k:=λz=>c (Sf z)
   simp only[c,d,decide_false]at q ⊢;exact cQ.val h2 q
theorem cQ.any:∀{a:List (Int×Int×Int)}{ys:List (Key×V)},cQ G a ys->∀k:Int,(ys.any λf=>decide (f.1=T6 k))=a.any λp=>decide (p.1=k)
 |[],_,h,k=>by cases h;rfl
 |p::a,_,⟨b,t,e,g,h2⟩,k=>by
  subst e;rw[Uu,Uu,cQ.any h2 k];congr 1
  by_cases c:p.1=k
  .simp[c]
  .have d:¬(T6 p.1:Key)=T6 k:=λz=>c (Sf z)
   simp[c,d]
theorem cQ.map(a:G b=Z (.tup [.int r.1,.int r.2])):∀{f:List (Int×Int×Int)}{ys:List (Key×V)},cQ G f ys->cQ G (f.map λp=>if p.1=k then(p.1,r) else p) (ys.map λd=>if d.1=T6 k then(d.1,.ref b) else d)
 |[],_,h=>by cases h;rfl
 |p::f,_,⟨g,t,e,i,h2⟩=>by
  subst e;rw[Tr,Tr]
  by_cases c:p.1=k
  .rw[if_pos c,if_pos (by rw[c])];exact⟨b,_,rfl,a,cQ.map a h2⟩
  .rw[if_neg c,if_neg λz=>c (Sf z)];exact⟨g,_,rfl,i,cQ.map a h2⟩
theorem cQ.snoc(c:G b=Z (.tup [.int q.2.1,.int q.2.2])):∀{a:List (Int×Int×Int)}{ys:List (Key×V)},cQ G a ys->cQ G (a++[q]) (ys++[(T6 q.1,.ref b)])
 |[],_,h=>by cases h;exact⟨b,[],rfl,c,rfl⟩
 |p::a,_,⟨d,t,e,f,h2⟩=>by subst e;exact⟨d,_,rfl,f,cQ.snoc c h2⟩
def cQ.put(h:cQ G c ys)(k)(a:G b=Z (.tup [.int r.1,.int r.2])):cQ G (ζ.k6 c k r) (putK ys (T6 k) (.ref b)):=by
 unfold ζ.k6 putK;rw[h.any k]
 split
 .exact h.map a
 .exact h.snoc (q:=(k,r)) a
theorem cQ.len:∀{a:List (Int×Int×Int)}{ys:List (Key×V)},cQ G a ys->ys.length=a.length
 |[],_,h=>by cases h;rfl
 |p::a,_,⟨b,t,e,c,h2⟩=>by subst e;rw[Tt,Tt,cQ.len h2]
def za{K:W.Frag}(h:Rep K G (ζ.la r) v):∃b,v=.ref b/\G b=Z (.tup [.int r.1,.int r.2]):=by
 obtain⟨b,xs,e,a,h2⟩:=h;rw[gL (ns:=[r.1,r.2]) h2]at a;exact⟨b,e,a⟩
def JV{K:W.Frag}(h:G b=Z (.tup [.int r.1,.int r.2])):Rep K G (ζ.la r) (.ref b):=⟨b,_,rfl,h,.int r.1,_,rfl,rfl,.int r.2,_,rfl,rfl,rfl⟩
end
section
variable{X:ao}{pins:List (Tu×UK)}{σ:aQ}{G H:ah}{s:Tq}
def freeze(I:Inv X pins σ H s)(d:H a=Z u)(h:(∃ys,u=.bZ ys)\/∃ys,u=.cz ys):∃g,Inv X pins σ (upd H a (.cm g u)) s:=by
 obtain⟨g,l,_⟩:=eH I (a:=a) (by rcases h with⟨ys,rfl⟩|⟨ys,rfl⟩;exact .inl ⟨ys,.inl d⟩;exact .inr ⟨ys,.inl d⟩);have f:∀{b:Tu},H b=Y->b≠a:=λq z=>by rw[z,d]at q;cases q
 have nt:∀{b:Tu}{v:eL},H b=Z v->(∀ys,v≠.bZ ys)->(∀ys,v≠.cz ys)->b≠a:=λq k h2 z=>by
  rw[z,d]at q;cases q;rcases h with⟨ys,e⟩|⟨ys,e⟩
  .exact k ys e
  .exact h2 ys e
 have i:∀{b:Tu}{v:eL},bN X.prog X.w H s.heap b v->bN X.prog X.w (upd H a (.cm g u)) s.heap b v:=λq=>q.gk (λ_ _ _ z=>z)
  (λc z=>by rw[aZ (nt z (λ_ w=>nomatch w) λ_ w=>nomatch w)];exact z) λc xs z=>by rw[aZ (nt z (λ_ w=>nomatch w) λ_ w=>nomatch w)];exact z
 refine⟨g,I.ok,I.os,I.bare,⟨I.base.keep,I.base.slot,λb o e n r=>?_,I.base.there,λb xs e=>?_,λb o v e=>?_,λb y e=>?_⟩,I.loc,I.cell,?_,λx c e=>?_,λp m=>?_,λb v e=>?_,I.len⟩
 .have q:=I.base.free b o e n r;rw[aZ (f q)];exact q
 .have q:=I.base.gn b xs e;rw[aZ (nt q (λ_ w=>nomatch w) λ_ w=>nomatch w)];exact q
 .have q:=I.base.fS b o v e;rw[aZ (nt q (λ_ w=>nomatch w) λ_ w=>nomatch w)];exact q
 .obtain⟨t,q⟩:=I.base.gm b y e;exact⟨t,by rw[aZ (nt q (λ_ w=>nomatch w) λ_ w=>nomatch w)];exact q⟩
 .rw[aZ (f I.free)];exact I.free
 .rw[aZ (f (I.el x c e))];exact I.el x c e
 .obtain⟨A,j,B⟩:=I.pin p m;exact⟨A,by rw[aZ (f j)];exact j,B⟩
 .by_cases c:b=a
  .subst c;rw[bE]at e;cases e;exact⟨l,i (I.aJ b u d)⟩
  .rw[aZ c]at e;exact i (I.aJ b v e)
def tm(h:ai X e l):ai X e (λσ H Q=>l σ H λv b=>∃a u,v=.ref a/\b a=Z u/\((∃ys,u=.bZ ys)\/∃ys,u=.cz ys)/\∀c,Q v (upd b a (.cm c u))):=by
 intro pins s σ H Q I q;refine O5 (h pins s σ H _ I q) (λw n m=>?_) λ_ _ z=>z
 obtain⟨v,b,d,j,a,u,e,g,i,k⟩:=m;obtain⟨c,f⟩:=freeze d g i;exact⟨v,_,f,j,k c⟩
end
section
variable{xp:bR}{X:ao}{aa:List Nat}{m:dk}{f:aB->aU D}{val:TG}{pos p1 p2 p3 p4 mR:Vb}{i j:Nat}{x y:Tz}{pins:List (Tu×UK)}{σ:aQ}{G H:ah}{s:Tq}{ae:aB}
def Ew(d:aD G H)(c:H a=Y)(e:∀xs,b≠.tup xs):Ext G H (upd G a b) (upd (upd H a o) a b):=by rw[uh];exact Ext.put d c
def Kg(e:i∈aa)(c:X.N.Nodup)(hi:X.N[i]?=Z x)(g:Loc X.env.scope x)(d:X.fn x=J\/X.env.scope.names.lookup x=Z .local):bA X (.Assign [.Name x p1] (.Dict [] [] mR) pos) (bz xp X aa λae=>.ok (.aS (ae.set i (Z (.bU []))))):=by
 rintro pins s σ H T I ⟨h,k,G,ae,a,hw⟩;refine kY c hi g IH rfl d pins s σ H T I ?_;intro p b;exact hw _ G _ (a.m8 (Ext.own a.aY.sub b λ_ z=>nomatch z) e rfl bE b (a.aY.sub.free b) rfl)
def Kh(e:i∈aa)(c:X.N.Nodup)(hi:X.N[i]?=Z x)(g:Loc X.env.scope x)(d:X.fn x=J\/X.env.scope.names.lookup x=Z .local):bA X (.Assign [.Name x p1] (.Dict [] [] mR) pos) (bz xp X aa λae=>.ok (.aS (ae.set i (Z (.bG []))))):=by
 rintro pins s σ H T I ⟨h,k,G,ae,a,hw⟩;refine kY c hi g yq rfl d pins s σ H T I ?_;intro p b;exact hw _ G _ (a.m8 (Ext.own a.aY.sub b λ_ z=>nomatch z) e rfl bE b (a.aY.sub.free b) ⟨[],rfl,rfl⟩)
def Ki:ai X (.Dict [] [] mR) (ar xp X aa .val λ_=>.ok (.bG [])):=by
 rintro pins s σ H Q I ⟨G,ae,b,hw⟩;refine tm yq pins s σ H Q I λp a=>⟨p,_,rfl,bE,.inl ⟨_,rfl⟩,λc=>?_⟩
 exact hw (.ref p) _ _ (Ew b.sub a λ_ z=>nomatch z) ⟨p,c,[],rfl,bE,rfl⟩
def zN(a:cC X.K aa G H ae σ)(d:j∉aa){k:List Int}(h:ae[j]?=Z (Z (.tup (k.map .int)))):∃b,σ[j]?=Z (Z (V.ref b))/\H b=Z (.tup ((k.map (T6 (β:=Tz))).map bH)):=by
 obtain⟨v,c,b,ys,rfl,h2,h3⟩:=a.val j _ h d;rw[gL h3]at h2;exact⟨b,c,by rw[xi];exact a.sub _ _ h2⟩
def Kf(hi:i∉aa)(u:j∉aa)(o:X.N[i]?=Z x)(v:dN X.env.scope x)(g:(x==("__debug__":Tz))=Th)(h2:(x==("__classdict__":Tz))=Th)(q:X.N[j]?=Z y)(w:dN X.env.scope y)(h:(y==("__debug__":Tz))=Th)(l:(y==("__classdict__":Tz))=Th):ai X (.Dict [Z (.Name x p1)] [.Name y p2] pos) (ar xp X aa .val λae=>ζ.rO ae[i]? ae[j]?):=by
 rintro pins s σ H Q I ⟨G,ae,a,hw⟩;dsimp only at hw;unfold ζ.rO at hw;cases e1:ζ.ei ζ.intD ae[i]? with
 |none=>rw[e1]at hw;exact hw.elim
 |some k =>
  cases e2:ζ.ei ζ.rowOf ae[j]? with
  |none=>rw[e1,e2]at hw;exact hw.elim
  |some r =>
   rw[e1,e2]at hw;obtain⟨N,A,B⟩:=kx e1;obtain⟨O,C,E⟩:=kx e2;cases oF B;cases y9 E;obtain⟨L,k1,c⟩:=a.val i _ A hi;have c:L=.int k:=c;subst c;obtain⟨R,k2,M⟩:=a.val j _ C u;obtain⟨b,rfl,t⟩:=za M;refine tm (IG (Je (eG o v g h2) (eG q w h l) Jf) rfl rfl (λz=>nomatch z) (by simp)) pins s σ H Q I λp d=>?_
   refine⟨_,k1,_,k2,bE,[(T6 k,.ref b)],rfl,by simp,p,_,rfl,bE,.inl ⟨_,rfl⟩,λe=>?_⟩;have n:=a.sub.free d;refine hw (.ref p) (upd G p (.cm e (.bZ (kS [] [(T6 k,.ref b)])))) _ (by rw[uh,uh];exact Ext.put a.sub d) ⟨p,e,_,rfl,bE,b,[],rfl,du n _ _ t,rfl⟩
def Ke(U:X.A.units+64<UD)(u:j∉aa)(L:X.N[i]?=Z x)(N:dN X.env.scope x)(B:(x==("__debug__":Tz))=Th)(h2:(x==("__classdict__":Tz))=Th)(M:X.N[j]?=Z y)(O:dN X.env.scope y)(C:(y==("__debug__":Tz))=Th)(E:(y==("__classdict__":Tz))=Th):ai X (.Subscript (.Name x p1) (.Name y p2) pos) (ar xp X aa m λae=>ζ.kE ae[i]? ae[j]?):=by
 rintro pins s σ H Q I ⟨G,ae,g,hw⟩;refine IF ⋯ (eG L N B h2) (eG M O C E) (λ_ _=>rfl) pins s σ H Q I ?_;dsimp only at hw;have S:∀e k,ζ.gW ae[i]?=Z e->ζ.ei ζ.je ae[j]?=Z k->t2 (ja i) (ja j) σ H Q:=λe k e1 e2=>by
  rw[ζ.kE,e1,e2]at hw;dsimp only at hw;obtain⟨v,k1,a,rfl,k2⟩:=g.view (l8 e1);obtain⟨w,o,p⟩:=kx e2;cases Al p;obtain⟨b,l,k5⟩:=zN g u o;cases e3:ζ.p7 e k with
  |none=>rw[e3]at hw;exact hw.elim
  |some n =>
   rw[e3]at hw;refine⟨_,k1,_,l,a,.int n,rfl,.inr ⟨_,_,b,k2,rfl,k5,by rw[Du,e3];rfl⟩,hw _ G H (Ext.refl g.sub) (by cases m<;>rfl)⟩
 have R:∀e k,ζ.f5 ae[i]?=Z e->ζ.ei ζ.intD ae[j]?=Z k->aO (match ζ.nJ e k with|some r=>.ok (ζ.la r)|none=>.bad) (λd=>∀v t h,Ext G H t h->aW X.K H t h m d v->Q v h) (λc=>cG xp X c H)->t2 (ja i) (ja j) σ H Q:=λe k e1 e2 hw=>by
  obtain⟨v,k1,a,ys,rfl,k2,k3⟩:=g.view (og e1);obtain⟨w,o,p⟩:=kx e2;cases oF p;obtain⟨T,l,q⟩:=g.val j _ o u;have q:T=.int k:=q;subst q;cases e3:ζ.nJ e k with
  |none=>rw[e3]at hw;exact hw.elim
  |some r =>
   rw[e3]at hw;obtain⟨b,z,A⟩:=k3.val e3;refine⟨_,k1,_,l,a,.ref b,rfl,.inl ⟨ys,T6 k,k2,rfl,z.symm⟩,hw _ G H (Ext.refl g.sub) ?_⟩;have:=JV (K:=X.K) A;cases m<;>exact this
 cases e1:ζ.gW ae[i]? with
 |some e =>
  cases e2:ζ.ei ζ.je ae[j]? with
  |some k=>exact S e k e1 e2
  |none =>
   rw[ζ.kE,e1,e2]at hw;have:ζ.f5 ae[i]?=none:=(by rw[l8 e1];rfl);rw[this]at hw;exact hw.elim
 |none =>
  rw[ζ.kE,e1]at hw;dsimp only at hw;cases e3:ζ.f5 ae[i]? with
  |none=>rw[e3]at hw;exact hw.elim
  |some e =>
   cases e4:ζ.ei ζ.intD ae[j]? with
   |none=>rw[e3,e4]at hw;exact hw.elim
   |some k=>rw[e3,e4]at hw;exact R e k e3 e4 hw
def Kj(a6:X.A.units+64<UD)(p:i∈aa)(S:j∉aa)(a5:X.N[i]?=Z x)(aF:dN X.env.scope x)(a2:(x==("__debug__":Tz))=Th)(h2:(x==("__classdict__":Tz))=Th)(aq:X.N[j]?=Z y)(b1:dN X.env.scope y)(a3:(y==("__debug__":Tz))=Th)(a4:(y==("__classdict__":Tz))=Th)(aw:ai X val (ar xp X aa .val f))(ay:U1 val (Z (.Subscript (.Name x p1) (.Name y p2) p3)) pos.line X.env=pure Th):
  bA X (.Assign [.Subscript (.Name x p1) (.Name y p2) p3] val pos) (bz xp X aa λae=>f ae>>=λd=>ζ.rQ ae[i]? ae[j]? d>>=λz=>.ok (.aS (ae.set i (Z z)))):=by
 rintro pins s σ H T I ⟨B,l,G,ae,L,hw⟩;refine Jn ⋯ (eG a5 aF a2 h2) (eG aq b1 a3 a4) aw ay pins s σ H T I ?_;refine⟨G,ae,L.aY,aM (av.mp hw) (λd k v R C x1 A=>?_) λ_ z=>z.mono L.ext.h⟩;have h:=L.step x1;have k:=av.mp k;have a1:∀g e8 n,ζ.gW ae[i]?=Z g->ζ.ei ζ.je ae[j]?=Z e8->d=.int n->g.length<1000->e6 X.K aa B l T (.aS (ae.set i (Z (.bU (ζ.putN g e8 n)))))->∃w,σ[i]?=Z (Z w)/\∃u,σ[j]?=Z (Z u)/\∃a ip,w=.ref a/\gv C a u v ip/\T.aS σ ip:=λg e8 n e1 e2 E hz q=>by
  subst E;have A:v=.int n:=A;subst A;obtain⟨a,o,k1,k2,k3,t⟩:=h.aY.lst i _ (l8 e1) p rfl;cases t;obtain⟨U,M,N⟩:=kx e2;cases Al N;obtain⟨b,k5,b2⟩:=zN h.aY S M;refine⟨_,k1,_,k5,a,_,rfl,gv.t k2 b2 (by unfold eN;rw[Tj,TL];lia),?_⟩;rw[Dt];exact q σ R _ (h.write (d:=.bU g) (e:=.bU (ζ.putN g e8 n)) p (l8 e1) rfl rfl k1 k3 rfl)
 have a0:∀g e8 r,ζ.f5 ae[i]?=Z g->ζ.ei ζ.intD ae[j]?=Z e8->d=ζ.la r->g.length<1000->e6 X.K aa B l T (.aS (ae.set i (Z (.bG (ζ.k6 g e8 r)))))->∃w,σ[i]?=Z (Z w)/\∃u,σ[j]?=Z (Z u)/\∃a ip,w=.ref a/\gv C a u v ip/\T.aS σ ip:=λg e8 r e1 e2 E hz q=>by
  subst E;obtain⟨c,rfl,au⟩:=za A;obtain⟨a,o,k1,k2,k3,ys,rfl,t⟩:=h.aY.lst i _ (og e1) p rfl;obtain⟨U,M,N⟩:=kx e2;cases oF N;obtain⟨a9,k5,Q⟩:=h.aY.val j _ M S;have Q:a9=.int e8:=Q;subst Q;refine⟨_,k1,_,k5,a,_,rfl,gv.k (k:=T6 e8) k2 (by rw[t.len,TL];lia),?_⟩;exact q σ R _ (h.write (d:=.bG g) (e:=.bG (ζ.k6 g e8 r)) p (og e1) rfl rfl k1 k3 ⟨_,rfl,t.put e8 au⟩)
 have O:aO (match ζ.f5 ae[i]?,ζ.ei ζ.intD ae[j]?,ζ.rowOf d with|some g,Z k,Z r=>if g.length<1000 then .ok (ζ.D.bG (ζ.k6 g k r)) else .bad|_,_,_=>.bad) (λz=>aO (.ok (ζ.cx.aS (ae.set i (Z z)))) (e6 X.K aa B l T) (λc=>cG xp X c l)) (λc=>cG xp X c l)->∃w,σ[i]?=Z (Z w)/\∃u,σ[j]?=Z (Z u)/\∃a ip,w=.ref a/\gv C a u v ip/\T.aS σ ip:=λk=>by
  cases e1:ζ.f5 ae[i]? with
  |none=>rw[e1]at k;exact k.elim
  |some g =>
   cases e2:ζ.ei ζ.intD ae[j]? with
   |none=>rw[e1,e2]at k;exact k.elim
   |some e8 =>
    cases e3:ζ.rowOf d with
    |none=>rw[e1,e2,e3]at k;exact k.elim
    |some r =>
     rw[e1,e2,e3]at k;dsimp only at k
     by_cases hz:g.length<1000
     .rw[if_pos hz]at k;exact a0 g e8 r e1 e2 (y9 e3) hz k
     .rw[if_neg hz]at k;exact k.elim
 unfold ζ.rQ at k;cases e1:ζ.gW ae[i]? with
 |none=>rw[e1]at k;exact O k
 |some g =>
  cases e2:ζ.ei ζ.je ae[j]? with
  |none=>rw[e1,e2]at k;exact O k
  |some e8 =>
   cases e3:ζ.intD d with
   |none=>rw[e1,e2,e3]at k;exact O k
   |some n =>
    rw[e1,e2,e3]at k;dsimp only at k
    by_cases hz:g.length<1000
    .rw[if_pos hz]at k;exact a1 g e8 n e1 e2 (oF e3) hz k
    .rw[if_neg hz]at k;exact k.elim
def KJ(A:i∈aa)(N:X.N[i]?=Z x)(R:dN X.env.scope x)(M:(x==("__debug__":Tz))=Th)(h2:(x==("__classdict__":Tz))=Th):
  bA X (.Return (Z (.Name x p1)) pos) (bz xp X aa λae=>ζ.vJ ae[i]?>>=λd=>.ok (.bt d)):=by
 rintro pins s σ H T I ⟨L,l,G,ae,k,hw⟩;refine mX (tm (eG N R M h2)) pins s σ H T I ?_;dsimp only at hw;have C:∀d,ae[i]?=Z (Z d)->eO d=J->(∀o,gx X.K G d o->(∃ys,o=.bZ ys)\/∃ys,o=.cz ys)->(∀a o h,gx X.K G d o->G a=Y->Rep X.K (upd G a (.cm h o)) d (.ref a))->e6 X.K aa L l T (.bt d)->ja i σ H (λv n=>∃a u,v=.ref a/\n a=Z u/\((∃ys,u=.bZ ys)\/∃ys,u=.cz ys)/\∀h,T.bt v (upd n a (.cm h u))):=λd q p O Q hw=>by
  obtain⟨a,o,k1,k2,k3,B⟩:=k.aY.lst i d q A p;have h0:l a=none:=k.own i d a q p A k1;have t:=O o B;have nt:∀xs,o≠.tup xs:=λxs z=>by rcases t with⟨_,e⟩|⟨_,e⟩<;>rw[e]at z<;>cases z
  refine⟨_,k1,a,o,rfl,k2,t,λh=>?_⟩;refine hw _ (upd G a (.cm h o)) (upd H a (.cm h o)) ⟨k.ext.g.trans (du k3),λb v z=>?_,λb v z=>?_,λb U E=>?_,λb xs z=>.inr ?_⟩ (Q a o h B k3)
  .have:b≠a:=λw=>by rw[w,h0]at z;cases z
   rw[aZ this];exact k.ext.h b v z
  .by_cases c:b=a
   .subst c;rw[bE]at z ⊢;exact z
   .rw[aZ c]at z ⊢;exact k.aY.sub b v z
  .have:b≠a:=λw=>E (by rw[w];exact h0)
   rw[aZ this];exact k.ext.new b U E
  .have c:b≠a:=λw=>by rw[w,bE]at z;cases z
   rw[aZ c]at z ⊢;exact k.aY.cV b xs z
 cases q:ae[i]? with
 |none=>rw[q]at hw;exact hw.elim
 |some o =>
  cases o with
  |none=>rw[q]at hw;exact hw.elim
  |some d =>
   rw[q]at hw;cases d with
   |bU S=>exact C _ q rfl (λo e=>.inr ⟨_,e⟩) (λa o h e g=>by cases e;exact⟨a,h,rfl,bE⟩) hw
   |bG S=>exact C _ q rfl (λo ⟨ys,e,_⟩=>.inl ⟨ys,e⟩) (λa o h ⟨ys,e,r⟩ g=>by subst e;exact⟨a,h,ys,rfl,bE,r.mono (du g)⟩) hw
   |_=>exact hw.elim
end
abbrev uG(d:Tu)(o:eL)(a:List V):fN :=
 ⟨λi H=>H d=Z o/\i<a.length,λi H v b=>b=H/\a[i]?=Z v,λi H=>H d=Z o/\a.length=i⟩
def MU{K:W.Frag}(d it)(G:ep.data=.dict f a0)(B:Vals g (f.toList.map (·.key))):
  Turn P w K a3 (uG d (.cm ep u) g) [it] it (λi h=>h.IsKeyIter it d i f.size a0) where
 mem:=by simp
 obj:=λi h st b a=>by
  have e:b=it:=⇑a;subst e;obtain⟨o,e,c,d⟩:=st;exact⟨o,e,λv z=>by rw[d]at z;cases z⟩
 keep:=λi h h' st k=>st.at λo e=>k it (by simp) o e
 item:=by
  intro X t hw r C i O s R H E I j st x;subst t hw r;obtain⟨A,hi⟩:=x;have y:s.heap.get? d=Z ep:=(show bN X.prog X.w H s.heap d (.cm ep u) from I.aJ d _ A).1;have L:g.length=f.size:=(by rw[B.length,Tj,Tn]);have N:g[i]?=Z g[i]:=N8 hi;obtain⟨v,k1,k2⟩:=B.get N;obtain⟨l,m,a1,n,p,q⟩:=j it (by simp);have M:i<f.size:=⋯;refine Pv.De st y G M λh' Q a2=>?_
  have S:Inv X O R H { s with heap:=h' }:=I.turned (t':=s.toks) (λb o a e=>(a2.2 b a).trans e) l m n p q;have U:f[i].key=v:=by
   rw[Ot,Oq,N9 M]at k1;exact OI k1
  obtain⟨o,e,c,dd⟩:=id Q;exact⟨_,rfl,ml (s:={ s with heap:=h' }) e c dd ∅ ⟨g[i],H,S,by rw[U];exact k2,⟨rfl,N⟩,Q,λb a=>(j b a).1⟩⟩
 done:=by
  intro X t hw r C i O s R H E I j st x;subst t hw r;obtain⟨A,hi⟩:=x;have y:s.heap.get? d=Z ep:=(show bN X.prog X.w H s.heap d (.cm ep u) from I.aJ d _ A).1;have L:g.length=f.size:=(by rw[B.length,Tj,Tn]);obtain⟨l,m,a1,n,p,q⟩:=j it (by simp);subst hi;rw[L]at st;exact Pv.C9 (I.ok.hd C) st y G λh' T=>⟨rfl,I.turned (t':=s.toks) (λb o a e=>T b o a e) l m n p q⟩
 self:=λ_ _ _ _ _ st h=>wpAny_pyIter_keyiter st h
def FJ{K:W.Frag}(c:∀a b,P a b->aD G a/\b d=Z o)(r:ax K G ds l):fW K P (uG d o l) ds where
 go:=λi a b h hi=>⟨(c a b h).2,by rw[<- r.length];exact hi⟩
 gq:=λi a b x n d h k j m=>by
  obtain⟨e,y⟩:=m;obtain⟨g,q⟩:=c a b h;subst e;obtain⟨v,f,h2⟩:=r.get j;rw[f]at y;cases y;exact⟨a,Ext.refl k,h2.mono g⟩
 stop:=λa b h=>⟨(c a b h).2,r.length.symm⟩
section
theorem vI{G H:ah}(c:∀b xs,H b=Z (.tup xs)->G b=Z (.tup xs)){K:W.Frag}:∀{a:List (List Int×Int)}{xs:List (List Key×Tu×Ti)},Paired (λ(p:List Key×V)(q:List Key×Tu×Ti)=>p.1=q.1/\H q.2.1=Z (.tup (p.1.map bH))/\RelV p.2 q.2.2) (eN a) xs ->
  ax K G (a.map λp=>.tup (p.1.map .int)) (xs.map λq=>V.ref q.2.1)
 |[],_,h=>by cases h;rfl
 |p::a,_,h=>by
  cases h with
  |@cons _ q _ xs d h2 =>
   refine⟨V.ref q.2.1,_,rfl,⟨q.2.1,p.1.map V.int,rfl,c _ _ ?_,?_⟩,vI c h2⟩
   .have:=d.2.1;dsimp only at this;rw[xi]at this;exact this
   .exact ints_rep p.1
theorem AF:∀xs:List (List Key×Tu×Ti),Vals (xs.map λq=>V.ref q.2.1) (xs.map λq=>TA q.2.1)
 |[]=>.nil
 |q::xs=>.cons (show RelV (V.ref q.2.1) (TA q.2.1) from rfl) (AF xs)
end
theorem vH{K:W.Frag}:∀{a:List (Int×Int×Int)}{ys:List (Key×V)}{g:List (Key×Ti)}{f:List DictEntry},cQ G a ys->c3 ys g->Pairs (e9 P w) f g ->
  ax K G (a.map λp=>.int p.1) (a.map λp=>V.int p.1)/\Vals (a.map λp=>V.int p.1) (f.map (·.key))
 |[],_,_,_,h,h2,h3=>by cases h;cases h2;cases h3;exact⟨rfl,.nil⟩
 |p::a,_,_,_,⟨b,t,e,o,j⟩,h2,h3=>by
  subst e;cases h2 with
  |@cons _ q _ r c m =>
   cases h3 with
   |@cons e0 _ n _ k1 k2 k3 =>
    obtain⟨k,l⟩:=vH (K:=K) j m k3;have c:=c.1;dsimp only at c;rw[<- c]at k1;refine⟨⟨.int p.1,_,rfl,rfl,k⟩,.cons ?_ l⟩;have k1:Vk p.1 e0.key=true:=k1;cases d:e0.key with
    |int i t=>rw[d]at k1;exact⟨t,by show e0.key=_;rw[d,(show i=p.1 by simpa[Vk] using k1)]⟩
    |_=>rw[d]at k1;cases k1
section
def Ko(a5:m=.view\/m=.val)(hi:i∉b1)(a2:X.N[i]?=Z x)(au:dN X.env.scope x)(a1:(x==("__debug__":Tz))=Th)(h2:(x==("__classdict__":Tz))=Th):ey X a9 (.Name x p1) (fH xp X b1 m λt=>ζ.rL t[i]?):=by
 rintro T s L H R I ⟨G,t,g,hw⟩;dsimp only at hw;have O:∀{d:Tu}{ep:UK}{u:eL}{z:List V}{ds:List D}{l:Array DictEntry}{r:Nat},L[i]?=Z (Z (.ref d))->G d=Z (.cm ep u)->(d==UH)=Th->ep.ExactDict->ep.data=.dict l r->ax X.K G ds z->Vals z (l.toList.map (·.key))->ds.length<=16777216 ->
   (∀N M y,Ext G H M y->fW X.K (hv m M y) N ds->ds.length<=16777216->R N y)->Ts (Tw X.prog X.w) X.A (Uc (.Name x p1) X.env) (λv f=>Ts (Tw X.prog X.w) X.A (VV v) (qv X T L a9 R) X.aV f) X.aV s:=λ{d ep u z ds l r} k1 k2 k3 aw k5 ay aF a4 k=>by
  refine aN (eG a2 au a1 h2 T s L H (λv j=>v=.ref d/\j=H) I ⟨_,k1,rfl,rfl⟩) λv f a6=>?_
  obtain⟨w,j,q,A,e1,e2⟩:=a6;subst e1 e2;cases A;have Q:=g.sub _ _ k2;have n:f.heap.get? d=Z ep:=(show bN X.prog X.w j f.heap d (.cm ep u) from q.aJ d _ Q).1;refine Pv.Dc k3 n aw k5 ?_;refine⟨f.heap.objs.size,[f.heap.objs.size],_,_,j,rfl,q.kept (t':=f.toks) λb o e=>N1 _ e,MU (u:=u) d _ k5 aF,⟨_,N6 _ rfl,rfl,rfl⟩,λb a3=>?_,k _ G j (Ext.refl g.sub) (FJ (G:=G) (o:=.cm ep u) (λbc a7 ⟨c,h⟩=>⟨c,?_⟩) ay) a4⟩
  .have e:b=f.heap.objs.size:=⇑a3;subst e;exact q.jG (N2 _) (q.aJ.fresh (N2 _))
  .rcases a5 with rfl|rfl
   .exact h _ _ Q
   .exact h _ _ (c _ _ k2)
 unfold ζ.rL at hw;cases e1:ζ.gW t[i]? with
 |some S =>
  rw[e1]at hw;obtain⟨v,k1,a,ep,rfl,k2⟩:=g.val i _ (l8 e1) hi;obtain⟨n,c,h,xs,B,o,l,r,p,C,E,U,a0⟩:=(show bN X.prog X.w H s.heap a (.cm ep (.cz (eN S))) from I.aJ a _ (g.sub _ _ k2));rw[n]at p;cases p;have aq:=vI (K:=X.K) g.cV B;refine O k1 k2 h C E aq (by rw[U,T2];exact AF xs) ?_ hw;rw[Tj];unfold eN at c;rw[Tj,TL]at c;exact c
 |none =>
  rw[e1]at hw;dsimp only at hw;cases e2:ζ.f5 t[i]? with
  |none =>
   rw[e2]at hw;exact hw.elim
  |some S =>
   rw[e2]at hw;obtain⟨v,k1,a,ep,ys,rfl,k2,k3⟩:=g.val i _ (og e2) hi;obtain⟨n,c,h,ba,B,o,l,r,p,C,E,U,a0,bj⟩:=(show bN X.prog X.w H s.heap a (.cm ep (.bZ ys)) from I.aJ a _ (g.sub _ _ k2));rw[n]at p;cases p;obtain⟨A,b2⟩:=vH (K:=X.K) k3 B a0;refine O k1 k2 h C E A b2 ?_ hw;rw[Tj,<- k3.len];rw[TL]at c;exact c
end
section
def GX(a:f.cls=.type "list"\/f.cls=.type "tuple")(j:f.data=.seq e B)(y:¬(!c.isEmpty&&UR (c.size+e.size))=J)(hz:c.size<=TH)(k:c.size+e.size<=TH+1):
  Meets (Uy.«list.extend» ⟨[.ref l,.ref b],[]⟩) λ_ R s=>s.heap.get? l=Z { cls:=.type "list",dict:=Y,data:=.seq c n,slots:=#[] }/\s.heap.get? b=Z f /\
   R (.ok (.ret Value.none)) { s with heap:=s.heap.update l (T4 λx=>x++e),toks:=s.toks }:=by
 refine .of_wp λprog w A R s h=>?_
 obtain⟨z,g,d,tk,os⟩:=s;obtain⟨m,o,p,C⟩:=f;cases j;obtain⟨e1,e2,h⟩:=h;have q:=AutoSeq1.idx_int;have r:=AutoSeq1.sub_list_list;have t:=AutoSeq1.sub_list_tuple;have u:=Ss;have v:=AutoSeq1.sub_tuple_list;have i:(c++e).size<=TH+1:=by rw[PW];exact k
 rcases a with a|a
 .cases a
  wp_walk using (RJ e1 rfl (hz:=hz) (_hz':=i)),Qo e1,Qo e2
  exact⟨_,rfl,h⟩
 .cases a
  wp_walk using (RJ e1 rfl (hz:=hz) (_hz':=i)),Qo e1,Qo e2
  exact⟨_,rfl,h⟩
def JD(K:W.Frag):V->List V->ah->bK->Prop:=λx c H Q=>∃l b xs a,x=.ref l/\c=[.ref b]/\H l=Z (.lst xs)/\(cb K H b a\/bT K H b a)/\xs.length+a.length<=TH/\Q .az (upd H l (.lst (xs++a)))
def Hx:qr X "list.extend" (JD X.K):=by
 intro y s C H x B v A Q I o m h;obtain⟨l,b,xs,p,rfl,rfl,j,i,hz,q⟩:=h;cases o;obtain⟨u,rfl,k⟩:=m.one;cases k;obtain⟨z,its,n,r,t,e⟩:=I.sS j;obtain⟨a,c,iW,d,e2,f,g⟩:∃a c iW,Vals p a/\s.heap.get? b=Z c/\(c.cls=.type "list"\/c.cls=.type "tuple")/\c.data=.seq a.toArray iW:=by
  rcases i with i|i
  .obtain⟨a,d,⟨c,iW,e2,f,_,g⟩,_⟩:=I.list i;exact⟨a,c,iW,d,e2,.inl f,g⟩
  .obtain⟨a,d,⟨c,e2,f,iW,g⟩,_⟩:=I.tuple i;exact⟨a,c,iW,d,e2,.inr f,g⟩
 have w:=d.length;have hsz:its.toArray.size+a.toArray.size<=sizeLine:=by rw[Oc,Oc];lia
 refine Q0 F.slot_list_extend ⟨_,e,rfl⟩ F.entry_list_extend (F.args_list_extend_2 _ _) (GX f g (by rw[x7 hsz,TR];exact OL) (by rw[Oc];lia) ⋯) ⟨e,e2,?_⟩;refine⟨.az,_,I.sR (its':=its++a) j e (by simp) (r.append d) ?_,rfl,q⟩;rw[N7];lia
def Kl{x n:Tz}(t:i∈E)(U:n="extend")(Q:X.N[i]?=Z x)(a0:dN X.env.scope x)(O:(x==("__debug__":Tz))=Th)(h2:(x==("__classdict__":Tz))=Th)(S:(M.endLine==N.line)=J)(R:ai X e (ar xp X E .val f))(u:TF [e] X.env=[(Th,Uc e X.env)]):
  bA X (.Expr (.Call (.Attribute (.Name x p1) n M) [e] [] N) p4) (bz xp X E λg=>ζ.f3 g[i]?>>=λ_=>f g>>=λd=>ζ.wd g[i]? d>>=λy=>.ok (.aS (g.set i (Z y)))):=by
 subst U;rintro a1 s A H T I ⟨a2,a3,G,g,j,hw⟩;refine pl (mS Q3 PySem.F.slot_list_extend PySem.F.type_list_extend Hx (eG Q a0 O h2) (fV R u) rfl (mn u) S u rfl) rfl a1 s A H T I ?_;obtain⟨ds,q,hw⟩:=vo (av.mp hw);obtain⟨a,o,k1,k2,k3,xs,rfl,l⟩:=j.aY.lst i (.lst ds) q t rfl;refine⟨_,k1,.inl ⟨rfl,xs,cb.of k2⟩,?_⟩;refine⟨G,g,j.aY,aM (av.mp hw) (λd k v h B x1 L=>?_) λ_ z=>z.mono j.ext.h⟩;have C:=j.step x1;rw[q]at k;cases d with
 |lst c =>
  have k:aO ((if ds.length+c.length<=ζ.SZ then ζ.R.ok (ζ.D.lst (ds++c)) else .bad)>>=λy=>.ok (ζ.cx.aS (g.set i (Z y)))) _ _:=k;have k:=av.mp k
  by_cases hz:ds.length+c.length<=ζ.SZ
  .rw[if_pos hz]at k;obtain⟨b,w,rfl,r,hR⟩:=L;have p:B a=Z (.lst xs):=x1.h _ _ k2;have m:h a=none:=x1.new a k3 (by rw[k2];exact λz=>nomatch z);refine⟨a,b,xs,w,rfl,rfl,p,(.inl (hn x1.sub r)),by rw[<- l.length,<- hR.length,<- gS];exact hz,?_⟩;exact k A h _ (C.write (d:=.lst ds) (e:=.lst (ds++c)) t q rfl rfl k1 m ⟨_,rfl,(l.mono x1.g).append hR⟩)
  .rw[if_neg hz]at k;exact k.elim
 |tup c =>
  have k:aO ((if ds.length+c.length<=ζ.SZ then ζ.R.ok (ζ.D.lst (ds++c)) else .bad)>>=λy=>.ok (ζ.cx.aS (g.set i (Z y)))) _ _:=k;have k:=av.mp k
  by_cases hz:ds.length+c.length<=ζ.SZ
  .rw[if_pos hz]at k;obtain⟨b,w,rfl,r,hR⟩:=L;have p:B a=Z (.lst xs):=x1.h _ _ k2;have m:h a=none:=x1.new a k3 (by rw[k2];exact λz=>nomatch z);refine⟨a,b,xs,w,rfl,rfl,p,(.inr (eI x1.sub r)),by rw[<- l.length,<- hR.length,<- gS];exact hz,?_⟩;exact k A h _ (C.write (d:=.lst ds) (e:=.lst (ds++c)) t q rfl rfl k1 m ⟨_,rfl,(l.mono x1.g).append hR⟩)
  .rw[if_neg hz]at k;exact k.elim
 |_=>exact k.elim
end
section
variable{xp:bR}{X:ao}{aa:List Nat}{m:dk}{f bF:aB->aU D}{e val c:TG}{body:List Ui}{pos p1 p2 p3 p4 ap ej:Vb}{i j:Nat}{x y n:Tz}
def KN(C:i∈aa)(U:ai X e (ar xp X (aa.filter λj=>!(j==i)) .val f)):bA X (.Return (Z e) pos) (bz xp X aa λr=>ζ.f3 r[i]?>>=λ_=>f r>>=λd=>.ok (.bt d)):=by
 rintro L s σ H T I ⟨E,A,G,r,g,hw⟩;have t:∀{j:Nat},(j∈aa.filter λj=>!(j==i))<->j∈aa/\j≠i:=λ{j}=>by rw[PY];simp
 have a2:∀ds,r[i]?=Z (Z (.lst ds))->aO (f r>>=λd=>.ok (.bt d)) (e6 X.K aa E A T) (λc=>cG xp X c A)->Ts (Tw X.prog X.w) X.A (exec (.Return (Z e) pos) X.env) (js X L T) X.aV s:=λds q hw=>by
  obtain⟨a,o,k1,k2,k3,xs,rfl,a1⟩:=g.aY.lst i (.lst ds) q C rfl;have h0:A a=none:=g.own i (.lst ds) a q rfl C k1;have u:aD G (upd G a (.lst xs)):=du k3;have sub:aD (upd G a (.lst xs)) H:=λb v z=>by
   by_cases c:b=a
   .subst c;rw[bE]at z;rw[k2];exact z
   .rw[aZ c]at z;exact g.aY.sub b v z
  have M:∀b ys,H b=Z (.tup ys)->upd G a (.lst xs) b=Z (.tup ys):=λb ys z=>u _ _ (g.aY.cV b ys z)
  have aq:cC X.K (aa.filter λj=>!(j==i)) (upd G a (.lst xs)) H r σ:=by
   refine⟨g.aY.len,sub,λj d e h=>?_,λj d e h B=>?_,λj d e h B=>?_,M,λj k d e b Q a3 a4 R S h a0=>g.aY.apart j k d e b Q a3 a4 R S (t.mp h).1 (t.mp a0).1⟩
   .by_cases c:j=i
    .subst c;rw[q]at e;cases e;exact⟨_,k1,a,xs,rfl,.inl (.inl bE),a1.mono u⟩
    .obtain⟨v,l,p⟩:=g.aY.val j d e λw=>h (t.mpr ⟨w,c⟩)
     exact⟨v,l,p.mono u⟩
   .obtain⟨v,l,p⟩:=g.aY.own j d e (t.mp h).1 B;exact⟨v,l,p.mono u⟩
   .obtain⟨b,o,l,p,au,aw⟩:=g.aY.lst j d e (t.mp h).1 B;have c:b≠a:=g.aY.apart j i d (.lst ds) b a e q B rfl (t.mp h).1 C (t.mp h).2 l k1;exact⟨b,o,l,p,by rw[aZ c];exact au,aw.mono u⟩
  have ext:Ext E A (upd G a (.lst xs)) H:=by
   refine⟨g.ext.g.trans u,g.ext.h,sub,λb l p=>?_,λb ys z=>.inr (M b ys z)⟩;have:b≠a:=λw=>p (by rw[w];exact h0)
   rw[aZ this];exact g.ext.new b l p
  refine mX U L s σ _ T I ⟨_,r,aq,aM (av.mp hw) (λd k v N O x1 a5=>?_) λ_ z=>z.mono ext.h⟩;exact k v N O (ext.trans x1) a5
 dsimp only at hw;cases q:r[i]? with
 |none=>rw[q]at hw;exact hw.elim
 |some o =>
  cases o with
  |none=>rw[q]at hw;exact hw.elim
  |some d =>
   rw[q]at hw;cases d with
   |lst ds=>exact a2 ds q hw
   |_=>exact hw.elim
def KX(S:WK (Tw X.prog X.w) X.A X.env X.aV)(R:cp X c (eJ xp X aa bF))(O:d4 X body (bz xp X aa v))(n):bA X (.While c body [] pos) (bz xp X aa λA=>ζ.lB (λa=>bF a>>=λx=>ζ.dW x) v n A):=by
 rintro U s a1 H T I ⟨g,b,G,A,Q,hw⟩;refine Jq S R O U s a1 H T I ?_;refine⟨λm B L=>∃p a,bY X.K aa g b p L a B/\aO (ζ.lB (λa=>bF a>>=λx=>ζ.dW x) v m a) (e6 X.K aa g b T) (λc=>cG xp X c b),⟨n,G,A,Q,hw⟩,?_⟩;rintro m B L ⟨p,a,l,w⟩;cases m with
 |zero=>exact w.elim
 |succ m =>
  rw[ζ.lB]at w;refine⟨p,a,l.aY,aM (av.mp w) (λk q E N x1=>?_) λ_ z=>z.mono l.ext.h⟩;cases k with
  |false =>
   rw[if_neg ∅]at q ⊢;exact q B E N (l.step x1)
  |true =>
   rw[if_pos rfl]at q ⊢;refine⟨λC u=>∃t o,bY X.K aa g b t u o C/\aO (ζ.lB (λa=>bF a>>=λx=>ζ.dW x) v m o) (e6 X.K aa g b T) (λc=>cG xp X c b),λC u h=>⟨m,PS m,h⟩,g,b,E,a,l.step x1,aM (av.mp q) (λr M=>?_) λ_ z=>z⟩;cases r with
   |aS o=>exact λC t u a0=>⟨t,o,a0,M⟩
   |bt d=>exact M
theorem ax.set{K:W.Frag}(q:Rep K G d v):∀{ds:List D}{xs:List V}(n:Nat),ax K G ds xs->ax K G (ds.set n d) (xs.set n v)
 |[],_,_,h=>by cases h;rfl
 |_::_,_,0,⟨w,r,e,a,h2⟩=>by subst e;exact⟨v,r,rfl,q,h2⟩
 |_::_,_,n+1,⟨w,r,e,a,h2⟩=>by subst e;exact⟨w,r.set n v,rfl,a,ax.set q n h2⟩
def KQ{Q:aB->aU D}(S:i∈aa)(ay:X.N[i]?=Z x)(a9:dN X.env.scope x)(aw:(x==("__debug__":Tz))=Th)(h2:(x==("__classdict__":Tz))=Th)(aF:ai X val (ar xp X aa .val f))(b1:ai X c (ar xp X aa .view Q))(b2:U1 val (Z (.Subscript (.Name x p1) c p3)) pos.line X.env=pure Th):
  bA X (.Assign [.Subscript (.Name x p1) c p3] val pos) (bz xp X aa λb=>f b>>=λd=>ζ.f3 b[i]?>>=λ_=>Q b>>=λk=>ζ.nc b[i]? k d>>=λz=>.ok (.aS (b.set i (Z z)))):=by
 rintro M s h H T I ⟨O,A,G,b,R,hw⟩;refine V2 (aN (aF M s h H (λv B=>∃a ds d l,h[i]?=Z (Z (.ref a))/\b[i]?=Z (Z (.lst ds))/\Rep X.K l d v/\bY X.K aa O A l B b h/\aO (Q b>>=λk=>ζ.nc b[i]? k d>>=λz=>.ok (ζ.cx.aS (b.set i (Z z)))) (e6 X.K aa O A T) (λc=>cG xp X c A)) I ?_) λr ba ⟨v,B,a3,a7,a,ds,d,l,k1,q,k5,g,p⟩=>?_) b2
 .refine⟨G,b,R.aY,aM (av.mp hw) (λd k v l B x1 a6=>?_) λ_ z=>z.mono R.ext.h⟩;have g:=R.step x1;cases q:b[i]? with
  |none=>rw[q]at k;exact k.elim
  |some o =>
   cases o with
   |none=>rw[q]at k;exact k.elim
   |some d' =>
    cases d' with
    |lst ds =>
     obtain⟨a,o,k1,k2,k3,xs,rfl,U⟩:=g.aY.lst i (.lst ds) q S rfl;exact⟨a,ds,d,l,k1,rfl,a6,g,by rw[q]at k;exact k⟩
    |_=>rw[q]at k;exact k.elim
 .refine aN (eG ay a9 aw h2 M ba h B (λw E=>w=.ref a/\E=B) a3 ⟨_,k1,rfl,rfl⟩) λu s2 ⟨w,E,a4,bc,e1,e2⟩=>?_
  subst e1 e2;refine aN (b1 M s2 h E (λw C=>∃k t,w=.int k/\Ext l E t C/\aO (ζ.putAt ds k d>>=λz=>.ok (ζ.cx.aS (b.set i (Z z)))) (e6 X.K aa O A T) (λc=>cG xp X c A)) a4 ⟨l,b,g.aY,aM (av.mp p) (λau z w t C N a0=>?_) λ_ z=>z.mono g.ext.h⟩) λbq s3 ⟨w,C,a5,a0,k,t,e1,N,p⟩=>?_
  .rw[q]at z;cases au with
   |int k=>exact⟨k,t,a0,N,z⟩
   |_=>exact z.elim
  subst e1;have g:=g.step N;obtain⟨bj,o,a2,k2,k3,xs,rfl,U⟩:=g.aY.lst i (.lst ds) q S rfl;rw[k1]at a2;cases a2;unfold ζ.putAt at p;cases L:ζ.eo ds.length k with
  |none=>rw[L]at p;exact p.elim
  |some n =>
   rw[L]at p;rw[sH,U.length]at L;refine O5 (set_list M s3 h C (.ref a) (.int k) v _ _ _ (λa1=>a1=upd C a (.lst (xs.set n v))) a5 bc a0 a7 ⟨a,_,k,n,rfl,rfl,k2,L,rfl⟩) (λ_ bl ⟨a1,aq,e4⟩=>?_) λ_ _ z=>z
   subst e4;refine⟨h,_,aq,?_⟩;exact p h t _ (g.write (d:=.lst ds) (e:=.lst (ds.set n d)) S q rfl rfl k1 k3 ⟨_,rfl,ax.set (k5.mono N.g) n U⟩)
theorem ax.dropLast{K:W.Frag}(h:ax K G ds xs):ax K G ds.dropLast xs.dropLast:=by
 rw[Wr,Wr,<- h.length];exact h.take _
def s_pop(p:i∈aa)(B:n="pop")(w:X.N[i]?=Z x)(C:dN X.env.scope x)(v:(x==("__debug__":Tz))=Th)(h2:(x==("__classdict__":Tz))=Th)(z:(ap.endLine==ej.line)=J):
  bA X (.Expr (.Call (.Attribute (.Name x p1) n ap) [] [] ej) p4) (bz xp X aa λb=>ζ.yH b[i]?>>=λy=>.ok (.aS (b.set i (Z y)))):=by
 subst B;rintro L s k H T I ⟨t,u,G,b,l,hw⟩;refine pl (IB Q3 PySem.F.slot_list_pop PySem.F.type_list_pop HA (eG w C v h2) rfl z) rfl L s k H T I ?_;dsimp only at hw;have E:∀d ds,b[i]?=Z (Z (.lst (d::ds)))->e6 X.K aa t u T (.aS (b.set i (Z (.lst (d::ds).dropLast))))->z1 (zZ X.K "list" yS (ja i)) T k H:=λd ds q hw=>by
  obtain⟨a,o,k1,k2,k3,xs,rfl,r⟩:=l.aY.lst i _ q p rfl;obtain⟨h,g,e,M,N⟩:=id r;subst e;have A:(h::g).length-1<(h::g).length:=(by simp);refine⟨_,k1,.inl ⟨rfl,_,cb.of k2⟩,a,h::g,_,rfl,rfl,k2,N8 A,?_⟩;exact hw k G _ (l.write (d:=.lst (d::ds)) (e:=.lst (d::ds).dropLast) p q rfl rfl k1 k3 ⟨_,rfl,ax.dropLast r⟩)
 cases q:b[i]? with
 |none=>rw[q]at hw;exact hw.elim
 |some o =>
  cases o with
  |none=>rw[q]at hw;exact hw.elim
  |some d =>
   rw[q]at hw;cases d with
   |lst ds =>
    cases ds with
    |nil=>exact hw.elim
    |cons d ds=>exact E d ds q hw
   |_=>exact hw.elim
end
def EP{K:W.Frag}(x:Ext G H c f)(r:aW K H c f .fresh d v):∃e,Ext G H e f/\Rep K e d v:=by
 cases d with
 |lst ds =>
  obtain⟨a,xs,rfl,i,h2,h3,h4⟩:=r;refine⟨upd c a (.lst xs),⟨x.g.trans (du h3),x.h,λb o q=>?_,λb j h=>?_,λb xs q=>(x.cV b xs q).imp id λz=>du h3 _ _ z⟩,a,xs,rfl,.inl (.inl bE),h4.mono (du h3)⟩
  .by_cases g:b=a
   .subst g;rw[bE]at q;rw[i];exact q
   .rw[aZ g]at q;exact x.sub b o q
  .rw[aZ (λz=>h (by rw[z];exact h2))];exact x.new b j h
 |bU _=>exact r.elim
 |bG _=>exact r.elim
 |_=>exact⟨c,x,r⟩
section
def J5{n:Nat->Option Tu}(L:kh X)(N:X.calm=J)(S:∀i∈f,i<X.N.length)(B:ji X c xs w)(R:ζ.dh k t=Z xs)(U:∀x,Ux m X.env x=pure x)(hi:ey X t m (fH (bb.bC n) X f .view cu))(O:∀s3 a5 aF g E,ai (d3 X c w s3 a5 aF g E) A (ar (bb.bC n) (d3 X c w s3 a5 aF g E) f .val b0))(a0:kp (bb.bC n) X f c w a3 bO)(M:X.N.Nodup)(a2:X.N[i]?=Z y)(a1:Loc X.env.scope y)(Q:X.fn y=J\/X.env.scope.names.lookup y=Z .local):
  bA X (.Assign [.Name y p1] (.ListComp A [⟨t,m,a3,0⟩] c pos) p4) (bz (bb.bC n) X f λu=>(cu u>>=λds=>ζ.bf (eZ k bO b0 u) ds>>=λys=>.ok (.lst ys))>>=λd=>.ok (.aS (u.set i (Z d)))):=by
 have l:∃b:Bool,U1 (.ListComp A [⟨t,m,a3,0⟩] c pos) (Z (.Name y p1)) p4.line X.env=pure b:=⟨_,rfl⟩;obtain⟨b,l⟩:=l;cases b with
 |false =>
  by_cases j:i∈f
  .exact zi j M a2 a1 (tK L N S B R U hi O a0) l Q
  .exact zh j M a2 a1 (ai.val (tK L N S B R U hi O a0)) l Q
 |true =>
  rintro g s a4 H T I ⟨dy,dz,G,u,a,hw⟩;rw[exec_Assign_Name_used _ _ _ _ l];refine NZ (wpAny_standAt (NZ ?_));show Ts _ X.A (do let _ <- comprehension (.ListComp A [⟨t,m,a3,0⟩] c pos) c X.env _ (X9 []) Th (Uc m X.env) (Z (Xz (.Name y p1) X.env))) _ _ s;refine NZ (O5 (vB L N S B R U hi O a0 I a.aY (use:=Z (Xz (.Name y p1) X.env)) (Qc:=λ_ s'=>js X g T .next s') ?_) (λ_ s' cN=>Tg (Tg cN)) λ_ _ e=>e);have hw:=av.mp (av.mp hw);refine av.mpr (aM hw (λds k1=>?_) λ_ q=>q.mono a.ext.h);refine aM (av.mp k1) (λys k2 s4 h a9 C Dd m4 x r cL cv c4=>?_) λ_ q=>q.mono a.ext.h
  have aq:Inv X g a4 h s4:=c4 s4.heap (Sj _ _);obtain⟨mP,ba,a7,cw,b1⟩:=id cL;have cM:∀v,mP.data≠.cell v:=λv z=>by
   have:=b1.1;rw[z]at this;cases this
  obtain⟨aw,ay,bj,bl,bq,cq⟩:=cv;have bc:Inv X (g++[(C,mP)]) a4 h s4:=aq.tr λp cH=>by
   rcases Oz.mp cH with z|z
   .exact aq.pin p (Oo _ z)
   .have z:=Ou.mp z;subst z;exact⟨cw,aw,ay,bj,cM⟩
  show Ts _ X.A (Xz (.Name y p1) X.env (.ref Dd)) _ _ s4;refine wpAny_assign_Name (pL bc M a2 a1 (v:=.ref Dd) rfl (λb2 au=>?_) Q);have h5:b2.heap.get? C=Z mP:=(au.pin (C,mP) (Oo _ (Oo _ (Ou.mpr rfl)))).1;refine⟨m4,⟨mP,ba,a7,h5,b1⟩,λh' de=>⟨a4.set i (Z (.ref Dd)),h,?_,?_⟩⟩
  .exact(au.ly).turned (t':=b2.toks) (λb o a e=>(de.2 b a).trans e) aw ay bl bq cq
  .by_cases j:i∈f
   .exact k2 _ a9 h (a.zA x j r)
   .obtain⟨a6,df,dc⟩:=EP x r;exact k2 _ a6 h ((a.step df).m9 j dc)
end
abbrev nice:TG->Bool
 |.Starred ..=>Th
 |.Set ..=>Th
 |.SetComp ..=>Th
 |.DictComp ..=>Th
 |.Slice ..=>Th
 |_=>J
def nn{α:Type}{a:α}{p:Prop}(h:Y=Z a):p:=nomatch h
def dH(h:ζ.di x=Z y):∃p,x=.Name y p:=by
 cases x with
 |Name z p=>cases h;exact⟨p,rfl⟩
 |_=>exact nn h
def uk(h:ζ.nG x=Z c):∃k p,x=.Constant c k p:=by
 cases x with
 |Constant z k p=>cases h;exact⟨k,p,rfl⟩
 |_=>exact nn h
def AB(h:ζ.p6 x=Z a):∃k p,x=.Tuple a k p:=by
 cases x with
 |Tuple z k p=>cases h;exact⟨k,p,rfl⟩
 |_=>exact nn h
def uq(h:ζ.nH x=Z a):∃p,x=.List a p:=by
 cases x with
 |List z p=>cases h;exact⟨p,rfl⟩
 |_=>exact nn h
def Na(h:ζ.Av x=Z (a,o,b)):∃p,x=.BinOp a o b p:=by
 cases x with
 |BinOp l o r p=>cases h;exact⟨p,rfl⟩
 |_=>exact nn h
def uu(h:ζ.lz x=Z (o,a)):∃p,x=.UnaryOp o a p:=by
 cases x with
 |UnaryOp o r p=>cases h;exact⟨p,rfl⟩
 |_=>exact nn h
def Aw{os:List CmpOp}(h:ζ.nF x=Z (a,os,ys)):∃p,x=.Compare a os ys p:=by
 cases x with
 |Compare l o r p=>cases h;exact⟨p,rfl⟩
 |_=>exact nn h
def nD(h:ζ.vBool x=Z (o,a,p)):x=.BoolOp o a p:=by
 cases x with
 |BoolOp o a p=>cases h;rfl
 |_=>exact nn h
def nI(h:ζ.kd x=Z (a,b)):∃p,x=.Subscript a b p:=by
 cases x with
 |Subscript l r p=>cases h;exact⟨p,rfl⟩
 |_=>exact nn h
def Ng(h:ζ.AA x=Z (a,b,c)):∃p,x=.Slice a b c p:=by
 cases x with
 |Slice l r t p=>cases h;exact⟨p,rfl⟩
 |_=>exact nn h
def pZ(h:ζ.nE x=Z (f,a,b)):∃p,x=.Call f a b p:=by
 cases x with
 |Call l r t p=>cases h;exact⟨p,rfl⟩
 |_=>exact nn h
set_option tactic.hygienic true in
theorem fI (h:ζ.d2 x=Z (y,a)):∃p q,x=.Call (.Name y p) a [] q:=by
 unfold ζ.d2 at h
 split at h
 .rename_i f b e1;obtain⟨q,rfl⟩:=pZ e1
  split at h
  .rename_i z e2;obtain⟨p,rfl⟩:=dH e2;cases h;exact⟨p,q,rfl⟩
  .cases h
 .cases h
def Ay(h:ζ.Ax x=Z (a,b,c)):∃p,x=.ListComp a b c p:=by
 cases x with
 |ListComp l r t p=>cases h;exact⟨p,rfl⟩
 |_=>exact nn h
def cA(h:ζ.a8 g ct v e x=J):nice x=true:=by
 cases a:nice x with
 |true=>rfl
 |false =>
  exfalso;cases x<;>first|(cases a;done)|skip
  all_goals (cases e<;>exact OL h)
def j6(h:nice e=J):TF (e::a) env=(Th,Uc e env)::TF a env:=by
 cases e<;>first|rfl|cases h
def d9(h:nice e=J):TF [e] env=[(Th,Uc e env)]:=j6 h
def tW(h:nice e=J)(h':nice a=J):TF [e,a] env=[(Th,Uc e env),(Th,Uc a env)]:=by rw[j6 h,d9 h']
def I9(h:∀e∈a,nice e=J):(U7 pos (TF a env)).any (·.1)=false:=by
 induction a with
 |nil=>rfl
 |cons e a b =>
  rw[j6 (h e To)];show(Th||(U7 pos (TF a env)).any (·.1))=Th;rw[b λz hz=>h z (Tp _ hz)];rfl
def FT(h:nice b=J):qw b:=by
 intro o i;cases b<;>first|rfl|cases h
def set_plain(h:nice b=J):∀x,Ux b env x=pure x:=by
 intro x;cases b<;>first|rfl|cases h
def xO(h:nice b=J):Vh op b=false:=by
 cases b<;>first|rfl|cases h
def pM(h:nice e=J)(a:ζ.mM e=J):U1 e t n env=pure false:=by
 cases e<;>first|rfl|(cases a;done)|(cases h;done)
def kg:List Str:=["len","isinstance","int","bool","str","tuple","sorted","set","range","sum","max","list","any","all","zip"]
structure d5(P:TV)(w:Ug)(K:W.Frag)(aj:Tz->Option Ti)(base:TU)(xp:bR)(k:Nat)(g:ζ.Gt)(pg:ζ.ck)(Φ:ζ.c2):Prop where
 fn:∀(f:Nat)(x:Tz),g.fns[f]?=Z x->∃aT fd d8,aj x=Z (.ref aT)/\W.keepIn K (.ref aT)=J/\Binds K fd d8 []/\gQ P w K aj base (gu P w xp) k aT fd d8 (j4 K (Φ f) d8.length)/\∀ds,ds.length≠d8.length->Φ f ds=.bad
 blt:∀x:Tz,x∈kg->aj x=Y
 g4:∀(j:Nat)(x:Tz)(d:D),g.g4[j]?=Z x->pg.cs[j]?=Z d->∃v u,aj x=Z u/\RelV v u/\∀G,Rep K G d v
structure bB(xp:bR)(k:Nat)(g:ζ.Gt)(pg:ζ.ck)(Φ:ζ.c2)(X:ao)(ct:ζ.bw):Prop where
 bJ:d5 X.prog X.w X.K X.aj X.base xp k g pg Φ
 room:ea k X.A
 units:X.A.units+64<UD
 calm:X.calm=J
 nm:X.N=ct.N
 eE:ct.N.Nodup
 aa:∀i∈ct.aa,i<ct.N.length
 lc:∀x,ct.sc.names.lookup x=Z .local->X.env.scope.names.lookup x=Z .local
 lW:∀x,(ct.sc.names.lookup x=Z .cell\/ct.sc.names.lookup x=Z .free)->(X.env.scope.names.lookup x=Z .cell\/X.env.scope.names.lookup x=Z .free)
 gl:∀x,ct.sc.names.lookup x=Z .globalImplicit->X.env.kindOf x=Z .globalImplicit
 nK:∃cl,xp=bb.bC cl
 hL:kh X
section
def bB.fK(h:bB xp k g pg Φ X ct)(q:ζ.gp ct.sc x=J):dN X.env.scope x:=by
 unfold ζ.gp at q;simp only[P0,OJ]at q;rcases q with(q|q)|q
 .exact .inl (h.lc x q)
 .exact .inr (h.lW x (.inl q))
 .exact .inr (h.lW x (.inr q))
def bB.kK(h:bB xp k g pg Φ X ct)(q:ζ.gb ct.sc x=J):b9 X x:=by
 unfold ζ.gb at q;exact h.gl x ⇑q
def d1(h:ζ.okN x=J):(x==("__debug__":Tz))=Th/\(x==("__classdict__":Tz))=Th/\x≠"__name__":=by
 unfold ζ.okN at h;simp only[N0,OY]at h;exact⟨h.1.1,h.1.2,λz=>by rw[z]at h;exact absurd h.2 ∅⟩
theorem bB.blt(h:bB xp k g pg Φ X ct)(q:ζ.cD g ct.sc x=J)(a:x∈kg):b9 X x/\X.aj x=none:=by
 unfold ζ.cD at q;simp only[N0,OY]at q;exact⟨h.kK q.1.1.1,h.bJ.blt x a⟩
end
abbrev jS(v:Bool):dk:=if v then .view else .val
structure Res(xp:bR)(X:ao)(aa:List Nat)(v fr:Bool)(x:TG)(f:aB->aU D):Prop where
 cZ:ai X x (ar xp X aa (jS v) f)
 fresh:fr=J->ai X x (ar xp X aa .fresh f)
 pt:cp X x (eJ xp X aa f)
 yN:(∃op aA p,x=.BoolOp op aA p)->fO X x (eJ xp X aa f)
section
theorem Res.view(h:Res xp X a v b x f):ai X x (ar xp X a .view f):=ai.view h.cZ
theorem Res.val(h:Res xp X a Th b x f):ai X x (ar xp X a .val f):=h.cZ
def yu(h:ai X x (ar xp X a .val f)):ai X x (ar xp X a (jS v) f):=by
 cases v with
 |true=>exact ai.view h
 |false=>exact h
def Res.j0(h:ai X x (ar xp X j .val f))(i:∀b,W2 x X.env b=(do let v <- b;standAt x.pos;Xf [v] (truthy v)))(d:∀op a p,x≠.BoolOp op a p)(g:c=Th):Res xp X j v c x f :=
 ⟨yu h,λz=>(by rw[g]at z;cases z),hZ (ai.view h) i,λ⟨op,a,p,e⟩=>absurd e (d op a p)⟩
def Res.i1(h:ai X x (ar xp X g .fresh f))(d:∀b,W2 x X.env b=(do let v <- b;standAt x.pos;Xf [v] (truthy v)))(c:∀op a p,x≠.BoolOp op a p):Res xp X g v i x f :=
 ⟨yu (ai.val h),λ_=>h,hZ (ai.view h) d,λ⟨op,a,p,e⟩=>absurd e (c op a p)⟩
def Res.hW(h:∀m,ai X x (ar xp X b m f))(d:cp X x (eJ xp X b f))(c:∀op a p,x≠.BoolOp op a p):Res xp X b v g x f :=
 ⟨h _,λ_=>h _,d,λ⟨op,a,p,e⟩=>absurd e (c op a p)⟩
end
def mI(N xs):(ζ.mask N xs).length=N.length:=by unfold ζ.mask;rw[Tj]
structure lC(ct:ζ.bw)(scope:Ve)(xs:List Tz):Prop where
 kind:scope.kind=.function
 iZ:∀y∈scope.names,y.2≠.cell
 names:∀y∈scope.names,y.2=.local->scope.names.lookup y.1=Z .local
 dh:∀y∈xs,scope.names.lookup y=Z .local
 loc:∀y∈scope.names,y.2=.local->y.1∈xs\/y.1=(".0":Tz)
 fr:∀y∈scope.names,y.2=.free->ct.sc.names.lookup y.1=Z .cell\/ct.sc.names.lookup y.1=Z .free
 same:∀p∈(ζ.mask ct.N xs).zip ct.N,p.1=p.2\/scope.names.lookup p.1=Y
 eE:(ζ.mask ct.N xs++xs).Nodup
 dot:(".0":Tz)∉ζ.mask ct.N xs++xs
section
def lC.block(c:bB xp k g pg Φ X ct)(b:lC ct m xs):ji X m xs (ζ.mask ct.N xs++xs) where
 kind:=b.kind
 iZ:=b.iZ
 names:=b.names
 loc:=λy h=>b.loc (y,.local) (O0 h) rfl
 dh:=b.dh
 fr:=λy d e=>c.lW y.1 (b.fr y d e)
 len:=by rw[N7,mI,c.nm]
 old:=λi y hi e f=>by
  rw[c.nm]at hi ⊢;rw[Oh (by rw[mI];exact hi)]at e;have hz:((ζ.mask ct.N xs).zip ct.N)[i]?=Z (y,ct.N[i]):=by
   rw[VC];exact⟨e,N8 hi⟩
  have a:=b.same _ (O2 hz);have d:y∈ζ.mask ct.N xs:=O2 e;rcases a with a|a
  .refine⟨by have a:y=ct.N[i]:=a;rw[N8 hi,<- a],λl=>?_,λz=>b.dot (OG _ (z▸d))⟩;exact(List.nodup_append.mp b.eE).2.2 y d y l rfl
  .simp only at a;rw[a]at f;cases f
 new:=λj=>by
  rw[c.nm,OP (by rw[mI];lia),mI];congr 1;lia
 eE:=b.eE
def lC.ok(a:bB xp k g pg Φ X ct)(b:lC ct c xs)(s3)(d)(e)(f)(E):bB xp k g pg Φ (d3 X c (ζ.mask ct.N xs++xs) s3 d e f E) ⟨ζ.mask ct.N xs++xs,c,ct.aa⟩ where
 bJ:=a.bJ
 room:=a.room
 units:=a.units
 calm:=a.calm
 nm:=rfl
 eE:=b.eE
 aa:=λi hi=>by
  have:=a.aa i hi;show i<(ζ.mask ct.N xs++xs).length;rw[N7,mI];lia
 lc:=λx h=>pq h ∅
 lW:=λx h=>by
  rcases h with h|h
  .exact absurd rfl (b.iZ _ (O0 h))
  .exact tC h
 gl:=λx h=>pq h ∅
 nK:=a.nK
 hL:=a.hL
end
def B3(h:ζ.lU ct j xs=J):lC ct j xs:=by
 unfold ζ.lU at h;rw[N0,N0,N0,N0,N0,N0,N0,N0,N0]at h;obtain⟨⟨⟨⟨⟨⟨⟨⟨⟨b,h2⟩,h3⟩,h4⟩,_⟩,h5⟩,c⟩,d⟩,f⟩,g⟩:=h;exact {
  kind:=PX b
  iZ:=λy a=>by simpa using Oi.mp h2 y a
  names:=λy a e=>by
   have:=Oi.mp h3 y a;rw[e]at this;simpa using this
  dh:=λy a=>by
   have:=Oi.mp h4 y a;simp only[N0,OJ]at this;exact this.1
  loc:=λy a e=>by
   have:=Oi.mp h5 y a;rw[e]at this;simpa using this
  fr:=λy a e=>by
   have:=Oi.mp c y a;rw[e]at this;simpa using this
  same:=λp i=>by
   have:=Oi.mp d p i;simpa using this
  eE:=PX f
  dot:=by simpa using g }
section
def J8(F:gQ X.prog X.w X.K X.aj X.base (gu X.prog X.w xp) k j u b (j4 X.K g b.length))(R:ea k X.A)(C:b9 X x)(N:X.aj x=Z (.ref j))(L:W.keepIn X.K (.ref j)=J)(y:Binds X.K u b [])(w:dK X (e::a) (i8 xp X S l))(M:∀ds,ds.length≠b.length->g ds=.bad)(A:(x==("__debug__":Tz))=Th)(B:TF (e::a) X.env=(Th,Uc e X.env)::TF a X.env)(O:(U7 pos (TF a X.env)).any (·.1)=Th):
  ai X (.Call (.Name x p) (e::a) [] pos) (ar xp X S .val λf=>l f>>=λds=>g ds):=by
 rintro T s a1 H Q I ⟨G,f,n,hw⟩;refine IC (dvs:=[]) (ds:=[]) (E:=vR xp X) F R C N L y .nil Iz w A B O T s a1 H Q I ?_;have hw:=av.mp hw;refine⟨G,f,n,?_⟩;cases q:l f with
 |ok ds =>
  rw[q]at hw;intro a3 r a2 x1 o;rw[Pz]
  by_cases m:ds.length=b.length
  .refine⟨by rw[<- o.length];exact m,r,ds,x1.sub,(n.ext x1).cV,o,?_⟩;refine aM hw (λd k v t h a0 U=>k v t h (x1.trans a0) U) λc z h h2 Cc i=>?_
   injection i with i _;have:c=Cc:=⋯;subst this;exact(z.mono x1.h).mono h2
  .have hw:aO (g ds) _ _:=hw;rw[M ds m]at hw;exact hw.elim
 |exc c=>rw[q]at hw;exact hw
 |bad=>rw[q]at hw;exact hw
end
section
variable{xp:bR}{k:Nat}{g:ζ.Gt}{pg:ζ.ck}{Φ:ζ.c2}
def BW(o)(x y:D)(c):ζ.dq o x y≠.exc c:=by
 refine x4 ?_ c;cases o<;>cases x<;>first|rfl|(cases y<;>first|rfl|exact iY rfl rfl|exact iY (iY rfl rfl) rfl)
def GQ(d:D)(c):ζ.hP d≠.exc c:=by
 intro h;cases d with
 |str x=>rw[ζ.len_str]at h;split at h<;>cases h
 |_=>cases h
def Lv(d:D)(c):(ζ.cf d>>=λxs=>ζ.sorted xs)≠.exc c:=by
 intro h;have a:∀xs:List D,ζ.sorted xs≠.exc c:=λxs h=>by
  unfold ζ.sorted at h
  split at h<;>cases h
 cases d with
 |tup xs=>exact a xs h
 |lst xs=>exact a xs h
 |_=>cases h
def K6(d:D)(c):(ζ.cf d>>=λxs=>ζ.R.ok (ζ.D.tup xs))≠.exc c:=by
 intro h;cases d<;>cases h
def LO(d:D)(c):(ζ.kP d>>=λxs=>ζ.j9 xs)≠.exc c:=by
 intro h;cases d with
 |lst xs =>
  have h:ζ.j9 xs=.exc c:=h;unfold ζ.j9 at h
  split at h<;>cases h
 |_=>cases h
def He(d:D)(c):(ζ.kP d>>=λxs=>ζ.jR xs)≠.exc c:=by
 intro h;cases d with
 |lst xs =>
  have h:ζ.jR xs=.exc c:=h;unfold ζ.jR at h
  split at h<;>cases h
 |_=>cases h
def Ba(d:D)(c):(ζ.cf d>>=λxs=>ζ.hB xs>>=λb=>ζ.R.ok (ζ.D.ag b))≠.exc c:=by
 intro h;have a:∀xs:List D,(ζ.hB xs>>=λb=>ζ.R.ok (ζ.D.ag b))≠.exc c:=λxs h=>by
  unfold ζ.hB at h;cases q:ζ.fA xs<;>rw[q]at h<;>cases h
 cases d with
 |tup xs=>exact a xs h
 |lst xs=>exact a xs h
 |_=>cases h
def Bi(d:D)(c):(ζ.cf d>>=λxs=>ζ.iA xs>>=λb=>ζ.R.ok (ζ.D.ag b))≠.exc c:=by
 intro h;have a:∀xs:List D,(ζ.iA xs>>=λb=>ζ.R.ok (ζ.D.ag b))≠.exc c:=λxs h=>by
  unfold ζ.iA at h;cases q:ζ.fA xs<;>rw[q]at h<;>cases h
 cases d with
 |tup xs=>exact a xs h
 |lst xs=>exact a xs h
 |_=>cases h
def LM(d:D)(c:Nat):(match d with|.int i=>ζ.h9 i|_=>(.bad:ζ.R D))≠.exc c:=by
 intro h;cases d with
 |int i =>
  have h:ζ.h9 i=.exc c:=h;unfold ζ.h9 at h
  by_cases q:i.natAbs<10000000000
  .rw[if_pos q]at h;cases h
  .rw[if_neg q]at h;cases h
 |_=>cases h
def Fw(d:D)(c:Nat):ζ.intOf d≠.exc c:=by
 intro h;cases d with
 |str x =>
  have h:(match x.cps.toList with|[c]=>if 48<=c/\c<=57 then ζ.R.ok (ζ.D.int ((c-48:Nat):Int)) else .bad|_=>.bad)=ζ.R.exc c:=h;generalize x.cps.toList=l at h;rcases l with _|⟨a,_|⟨_,_⟩⟩
  .cases h
  .dsimp only at h
   by_cases q:48<=a/\a<=57
   .rw[if_pos q]at h;cases h
   .rw[if_neg q]at h;cases h
  .cases h
 |_=>cases h
def K3(d:D)(c):(ζ.cf d>>=λxs=>ζ.R.ok (ζ.D.lst xs))≠.exc c:=by
 intro h;cases d<;>cases h
def ez{x y:Tz}(h:(x==y)=J):x=y:=⇑h
def KG{m:dk}(b:bB xp k g pg Φ X ct)(l:ζ.mW p=J)(j:x=ζ.mV p)(h:ζ.cD g ct.sc x=J)(c:ai X e (ar xp X n .view f))(i:nice e=J):
  ai X (.Call (.Name x q) [e] [] pos) (ar xp X n .fresh λo=>f o>>=λd=>ζ.gK pg.up p d):=by
 cases p with
 |len =>
  subst j;obtain⟨a,h2⟩:=b.blt h ∅;exact lg (m:=.fresh) GQ f_len a h2 (by kernel_rfl) c ∅ ∅ (d9 i)
 |sorted =>
  subst j;obtain⟨a,h2⟩:=b.blt h ∅;exact lg (m:=.fresh) Lv (EC b.calm b.units) a h2 (by kernel_rfl) c ∅ ∅ (d9 i)
 |sum =>
  subst j;obtain⟨a,h2⟩:=b.blt h ∅;exact lg (m:=.fresh) LO (EE b.calm) a h2 (by kernel_rfl) c ∅ ∅ (d9 i)
 |max =>
  subst j;obtain⟨a,h2⟩:=b.blt h ∅;exact lg (m:=.fresh) He (EB b.calm) a h2 (by kernel_rfl) c ∅ ∅ (d9 i)
 |all =>
  subst j;obtain⟨a,h2⟩:=b.blt h ∅;exact lg (m:=.fresh) Ba (Ez b.calm) a h2 (by kernel_rfl) c ∅ ∅ (d9 i)
 |any =>
  subst j;obtain⟨a,h2⟩:=b.blt h ∅;exact lg (m:=.fresh) Bi (EA b.calm) a h2 (by kernel_rfl) c ∅ ∅ (d9 i)
 |str =>
  subst j;obtain⟨a,h2⟩:=b.blt h ∅;exact px (m:=.fresh) LM ED a h2 (by kernel_rfl) c ∅ ∅ (d9 i)
 |int =>
  subst j;obtain⟨a,h2⟩:=b.blt h ∅;exact px (m:=.fresh) Fw f_int a h2 (by kernel_rfl) c ∅ ∅ (d9 i)
 |inst t=>cases l
 |dV=>cases l
def lh(a:bB xp k g pg Φ X ct)(h:ζ.oc o op=J):bu X (TN op) (ee X.K (ζ.bL o)):=by
 cases o<;>cases op<;>first|(cases h;done)|skip
 .exact Cd a.units
 .exact Cn a.units
 .exact Cm a.units
 .exact Ck
 .exact Cf
 .exact Ce
 .exact Ci
 .exact Cj
 .exact Cg a.units
 .exact Co a.units
def J7(h:ζ.yb o op=J):bu X (Ur op) (hX X.K (ζ.dq o)):=by
 cases o<;>cases op<;>first|(cases h;done)|skip
 .exact Df
 .exact Dm
 .exact Dk
 .exact Dh
 .exact Dj
 .exact Dg
 .exact Dn
def Gy(h:nice c=J):WL [op,op'] [b,c]=false:=xO h
def boot_isinstance:Ub "isinstance"=Z (.builtin "isinstance"):=by kernel_rfl
def B7(t)(a:∀c,t≠.cls c):Ub (ζ.tyName t)=Z (.type (lx t))/\ζ.tyName t≠"__name__"/\(ζ.tyName t==("__debug__":Tz))=Th/\ζ.tyName t∈kg:=by
 cases t with
 |cls c=>exact absurd rfl (a c)
 |int=>exact⟨by kernel_rfl,∅,∅,∅⟩
 |bool=>exact⟨by kernel_rfl,∅,∅,∅⟩
 |str=>exact⟨by kernel_rfl,∅,∅,∅⟩
 |tuple=>exact⟨by kernel_rfl,∅,∅,∅⟩
end
section
variable{xp:bR}{k:Nat}{g:ζ.Gt}{pg:ζ.ck}{Φ:ζ.c2}
variable(xp k g pg Φ) in
structure gs (n:Nat):Prop where
 e:∀(e:ζ.E)(x:TG)(ct:ζ.bw)(v:Bool)(X:ao),sizeOf e<n->bB xp k g pg Φ X ct->ζ.a8 g ct v e x=J->Res xp X ct.aa v (ζ.f9 e) x (λae=>ζ.ev pg Φ ae e)
 a:∀(a:ζ.A)(aA:List TG)(ct:ζ.bw)(X:ao),sizeOf a<n->bB xp k g pg Φ X ct->ζ.iD g ct a aA=J->dK X aA (i8 xp X ct.aa λae=>ζ.fm pg Φ ae a)/\(∀e∈aA,nice e=J)/\∀ae ds,ζ.fm pg Φ ae a=.ok ds->ds.length=aA.length
 o:∀(o:ζ.O)(x:Option TG)(ct:ζ.bw)(X:ao),sizeOf o<n->bB xp k g pg Φ X ct->ζ.lY g ct o x=J->gR X x (lu xp X ct.aa λae=>ζ.iI pg Φ ae o)
 i:∀(s:ζ.I)(x:TG)(ct:ζ.bw)(v:Bool)(X:ao)(es:TG),sizeOf s<n->bB xp k g pg Φ X ct->ζ.gC g ct v s x=J->(ζ.i2 s=J->∃elts j p,es=.Tuple elts j p)->ey X es x (fH xp X ct.aa (jS v) λae=>ζ.eA pg Φ ae s)/\nice x=J
def oW(v):jS v=.view\/jS v=.val:=by cases v<;>simp[jS]
def BB(l:bB xp k g pg Φ X ct)(h:(ct.N[i]?==Z x&&ζ.gp ct.sc x&&ζ.okN x&&(v||!ct.aa.contains i))=J):Res xp X ct.aa v (ζ.f9 (.var i)) (.Name x p) (λae=>ζ.ev pg Φ ae (.var i)):=by
 simp only[N0,OJ,P0,OY]at h;obtain⟨⟨⟨m,h2⟩,h3⟩,h4⟩:=h;obtain⟨b,c,q⟩:=d1 h3;have d:X.N[i]?=Z x:=by rw[l.nm];exact m
 have f:=l.fK h2;refine⟨?_,λz=>(by cases z),hZ (zt d f b c) λ_=>rfl,λ⟨_,_,_,z⟩=>(by cases z)⟩;cases v with
 |true=>exact zt d f b c
 |false =>
  rcases h4 with h4|h4
  .cases h4
  .exact KW (λz=>by rw[O9.mpr z]at h4;cases h4) d f b c
def Br(b:bB xp k g pg Φ X ct)(h:(g.g4[j]?==Z x&&ζ.gb ct.sc x&&ζ.okN x)=J):Res xp X ct.aa v (ζ.f9 (.glob j)) (.Name x p) (λae=>ζ.ev pg Φ ae (.glob j)):=by
 simp only[N0,OJ]at h;obtain⟨⟨f,h2⟩,h3⟩:=h;obtain⟨c,l,r⟩:=d1 h3;cases q:pg.cs[j]? with
 |none =>
  have e:∀ae,ζ.ev pg Φ ae (.glob j)=.bad:=λae=>O7 ζ.sg q
  exact Res.hW (λm=>zj e) (hZ (zj e) λ_=>rfl) λ_ _ _ z=>by cases z
 |some d =>
  obtain⟨w,u,e1,e2,e3⟩:=b.bJ.g4 j x d f q;have e:(λae=>ζ.ev pg Φ ae (.glob j))=λ_=>.ok d:=funext λae=>ζ.om j q
  rw[e];exact Res.j0 (Kn (b.kK h2) e1 e2 e3 c) (λ_=>rfl) (λ_ _ _ z=>by cases z) rfl
def Bn(m:gs xp k g pg Φ n)(b:bB xp k g pg Φ X ct)(l:sizeOf a<n)(h:(g.fns[f]?==Z x&&ζ.gb ct.sc x&&ζ.okN x&&!aA.isEmpty&&ζ.iD g ct a aA)=J):
  Res xp X ct.aa v (ζ.f9 (.call f a)) (.Call (.Name x p) aA [] pos) (λae=>ζ.ev pg Φ ae (.call f a)):=by
 simp only[N0,OJ,OY]at h;obtain⟨⟨⟨⟨d,h2⟩,h3⟩,h4⟩,h5⟩:=h;obtain⟨c,q,r⟩:=d1 h3;obtain⟨p1,p2,p3⟩:=m.a a aA ct X l b h5;obtain⟨t,u,w,e1,e2,e3,e4,e5⟩:=b.bJ.fn f x d;cases aA with
 |nil=>cases h4
 |cons e aA =>
  exact Res.j0 (J8 e4 b.room (b.kK h2) e1 e2 e3 p1 e5 c (j6 (p2 e To)) (I9 λz hz=>p2 z (Tp _ hz))) (λ_=>rfl) (λ_ _ _ z=>by cases z) rfl
def Bs(M:gs xp k g pg Φ n)(d:bB xp k g pg Φ X ct)(L:∀c,t=.cls c->False)(H:sizeOf a<n)(h:(x==("isinstance":Tz)&&ζ.cD g ct.sc x&&y==ζ.tyName t&&ζ.cD g ct.sc y&&ζ.a8 g ct J a e)=J):
  Res xp X ct.aa v (ζ.f9 (.prim (.inst t) a)) (.Call (.Name x p) [e,.Name y N] [] pos) (λae=>ζ.ev pg Φ ae (.prim (.inst t) a)):=by
 simp only[N0]at h;obtain⟨⟨⟨⟨b,h2⟩,h3⟩,h4⟩,h5⟩:=h;have b:=ez b;have h3:=ez h3;subst b h3;have f:∀c,t≠.cls c:=λc z=>L c z
 obtain⟨b1,b2,q,u⟩:=B7 t f;obtain⟨w,B⟩:=d.blt h2 ∅;obtain⟨C,G⟩:=d.blt h4 u;have r:=M.e a e ct J X H d h5;have l:∀m,ai X (.Call (.Name "isinstance" p) [e,.Name (ζ.tyName t) N] [] pos) (ar xp X ct.aa m λae=>ζ.ev pg Φ ae (.prim (.inst t) a)):=λm =>
  Kq (up:=pg.up) f w B boot_isinstance C G b1 r.view ∅ ∅ b2 q (j6 (cA h5))
 exact Res.hW l (hZ (l _) λ_=>rfl) λ_ _ _ z=>by cases z
set_option tactic.hygienic true in
theorem vs (h:ζ.gC g ct v (.c8 a) x=J):∃m p y pos,x=.Call (.Name m p) [y] [] pos/\m="range"/\ζ.cD g ct.sc m=J/\ζ.a8 g ct J a y=true:=by
 conv at h=>lhs;whnf
 split at h
 .rename_i m y e1;obtain⟨p,pos,rfl⟩:=fI e1;simp only[N0]at h;exact⟨m,p,y,pos,rfl,ez h.1.1,h.1.2,h.2⟩
 .cases h
def Bt(t:gs xp k g pg Φ n){v:Bool}(b:bB xp k g pg Φ X ct)(q:sizeOf s<=n)(h:(x==("list":Tz)&&ζ.cD g ct.sc x&&ζ.pE s&&ζ.gC g ct J s e)=J):
  ai X (.Call (.Name x p) [e] [] pos) (ar xp X ct.aa .fresh λae=>ζ.ev pg Φ ae (.gH s)):=by
 simp only[N0]at h;obtain⟨⟨⟨c,h2⟩,h3⟩,h4⟩:=h;have c:=ez c;subst c;obtain⟨f,l⟩:=b.blt h2 ∅;cases s with
 |seq a =>
  conv at h4=>lhs;whnf
  have r:=t.e a e ct J X ↥q b h4;have e1:(λae=>ζ.ev pg Φ ae (.gH (.seq a)))=λae=>ζ.ev pg Φ ae a>>=λd=>ζ.cf d>>=λds=>.ok (.lst ds):=funext λae=>by
   rw[ζ.v8,ζ.rY];cases ζ.ev pg Φ ae a<;>rfl
  rw[e1];exact px (m:=.fresh) K3 f_list f l (by kernel_rfl) r.view ∅ ∅ (d9 (cA h4))
 |c8 a =>
  obtain⟨m,z,y,B,rfl,k1,k2,k3⟩:=vs h4;obtain⟨u,w⟩:=b.blt k2 (by rw[k1];decide);have r:=t.e a y ct J X ↥q b k3;exact Kv b.calm k1 rfl u w f l r.view (d9 (cA k3))
 |_=>cases h3
def Bu(t:gs xp k g pg Φ n){v:Bool}(b:bB xp k g pg Φ X ct)(q:sizeOf s<=n)(h:(x==("tuple":Tz)&&ζ.cD g ct.sc x&&ζ.pE s&&ζ.gC g ct J s e)=J):
  ai X (.Call (.Name x p) [e] [] pos) (ar xp X ct.aa .val λae=>ζ.ev pg Φ ae (.tupI s)):=by
 simp only[N0]at h;obtain⟨⟨⟨c,h2⟩,h3⟩,h4⟩:=h;have c:=ez c;subst c;obtain⟨f,l⟩:=b.blt h2 ∅;cases s with
 |seq a =>
  conv at h4=>lhs;whnf
  have r:=t.e a e ct J X ↥q b h4;have e1:(λae=>ζ.ev pg Φ ae (.tupI (.seq a)))=λae=>ζ.ev pg Φ ae a>>=λd=>ζ.cf d>>=λds=>.ok (.tup ds):=funext λae=>by
   rw[ζ.v9,ζ.rY];cases ζ.ev pg Φ ae a<;>rfl
  rw[e1];exact px (m:=.val) K6 EF f l (by kernel_rfl) r.view ∅ ∅ (d9 (cA h4))
 |c8 a =>
  obtain⟨m,z,y,B,rfl,k1,k2,k3⟩:=vs h4;obtain⟨u,w⟩:=b.blt k2 (by rw[k1];decide);have r:=t.e a y ct J X ↥q b k3;exact KV b.calm k1 rfl u w f l r.view (d9 (cA k3))
 |_=>cases h3
def uX(w:gs xp k g pg Φ n)(q:bB xp k g pg Φ X ct)(r:sizeOf e<n/\sizeOf s<n/\sizeOf c<n){pos:Vb}(G:ζ.dh j t=Z xs)(h:((!ζ.i2 s||j==2)&&ζ.lU ct d xs&&ζ.gC g ct J s y&&ζ.a8 g ⟨ζ.mask ct.N xs++xs,d,ct.aa⟩ Th e x&&ζ.jz g ⟨ζ.mask ct.N xs++xs,d,ct.aa⟩ c u)=J):
  ji X d xs (ζ.mask ct.N xs++xs)/\(∀z,Ux y X.env z=pure z)/\ey X t y (fH xp X ct.aa .view λae=>ζ.eA pg Φ ae s)/\(∀s3 f l m E,ai (d3 X d (ζ.mask ct.N xs++xs) s3 f l m E) x (ar xp (d3 X d (ζ.mask ct.N xs++xs) s3 f l m E) ct.aa .val λae=>ζ.ev pg Φ ae e)) /\
   kp xp X ct.aa d (ζ.mask ct.N xs++xs) u (λae=>ζ.hI pg Φ ae c)/\(λae=>ζ.ev pg Φ ae (.comp e j s c))=λae=>ζ.eA pg Φ ae s>>=λds=>ζ.bf (eZ j (λae=>ζ.hI pg Φ ae c) (λae=>ζ.ev pg Φ ae e) ae) ds>>=λys=>.ok (.lst ys):=by
 simp only[N0]at h;obtain⟨⟨⟨⟨h0,H⟩,L⟩,M⟩,b⟩:=h;have B:=B3 H;have R:ζ.i2 s=J->∃elts j p,t=.Tuple elts j p:=λQ=>by
  rw[Q]at h0;have N:j=2:=⇑h0;subst N;cases t with
  |Tuple elts j p=>exact⟨elts,j,p,rfl⟩
  |_=>simp only[ζ.dh]at G;cases G
 obtain⟨S,T⟩:=w.i s y ct J X t r.2.1 q L R;refine⟨B.block q,set_plain T,S,λs3 f l m E=>(w.e e x _ Th _ r.1 (B.ok q s3 f l m E) M).cZ,?_,rfl⟩;cases c with
 |none =>
  cases u with
  |nil=>exact .inl ⟨rfl,rfl⟩
  |cons _ _=>unfold ζ.jz at b;cases b
 |some e2 =>
  match u,b with
  |[],b=>unfold ζ.jz at b;cases b
  |[C],b =>
   refine .inr ⟨C,λae=>ζ.ev pg Φ ae e2,rfl,rfl,λs3 f l m E=>?_⟩;have b:ζ.a8 g ⟨ζ.mask ct.N xs++xs,d,ct.aa⟩ J e2 C=true:=(by unfold ζ.jz at b;exact b);exact(w.e e2 C _ J _ (by have:=r.2.2;simp at this;lia) (B.ok q s3 f l m E) b).pt
  |_::_::_,b=>unfold ζ.jz at b;cases b
end
theorem zX:∀{b:List Tz}{a:List Ti},Vals (b.map V.str) a->∃l:List (Tz×Tok),a=XQ l/\l.map (·.1)=b
 |[],a,h=>by cases h;exact⟨[],rfl,rfl⟩
 |x::b,a,h=>by
  cases h with
  |cons r h =>
   obtain⟨t,rfl⟩:=r;obtain⟨l,rfl,e⟩:=zX h;exact⟨(x,t)::l,rfl,by rw[Tr,e]⟩
theorem y4{K:W.Frag}{G:ah}:∀{ds:List D}{a:List Tz}{xs:List V},ζ.strsOf ds=Z a->ax K G ds xs->xs=a.map V.str
 |[],a,xs,h,r=>by cases h;exact r
 |d::ds,a,xs,h,⟨v,r,e,b,h2⟩=>by
  cases d with
  |str x =>
   cases q:ζ.strsOf ds with
   |none=>simp[ζ.strsOf,q]at h
   |some c =>
    simp only[ζ.strsOf,q,Uq,O4]at h;subst h e;rw[Tr,<- y4 q h2];exact O7 (·::r) b
  |_=>cases h
section
variable{X:ao}{xp:bR}{aa:List Nat}{f hL:aB->aU D}{e o:TG}{p4 ap ej:Vb}{x n:Tz}
def rJoin(K:W.Frag):V->List V->ah->bK->Prop:=λx d H Q=>∃c b a,x=.str c/\d=[.ref b]/\cb K H b (a.map V.str)/\ζ.j8 a+a.length*c.length<=ζ.SZ/\Q (.str (T8 c a)) H
def Hz:lH X "str.join" (rJoin X.K):=by
 intro y s B H x A v z Q I p m h;obtain⟨a,b,c,rfl,rfl,d,hz,q⟩:=h;obtain⟨t,rfl⟩:=p;obtain⟨u,rfl,j⟩:=m.one;cases j;obtain⟨its,r,g,w⟩:=I.list d;obtain⟨l,rfl,i⟩:=zX r;obtain⟨o,n,e1,e2,_,e3⟩:=g;refine SC.join ⟨o,e1,e2,n,e3⟩ i ?_ λt' k=>⟨.str (T8 a c),H,I.tok _,⟨t',O7 (Value.str · t') (StrLaws.glued_eq_join a c)⟩,q⟩
 unfold JoinOk;rw[StrLaws.joinTotal,OY];unfold Builtin.Str.tooLong TH;have e:(2:Nat) ^ 24=16777216:=by decide
 unfold ζ.j8 ζ.SZ at hz;exact decide_eq_false ⋯
def LA{s:Tq}{x y:Tz}{t u:Tok}{Q:Ti->Tq->Prop}(d:(y.length==0)=Th)(hsz:x.length<=TH)(g:(VN x (Uz x y 0 x.length (x.length+1)) y.length).length<=TH)(c:∀(l:List (Tz×Tok)) k,l.map (·.1)=Txt.split x y->Q (.ref s.heap.objs.size) { s with toks:=k,heap:=s.heap.push { cls:=.type "list",data:=.seq (XQ l).toArray } }):
  Ts (Tw prog w) A (call (.builtin "str.split") [.str x t,.str y u]) Q E s:=by
 cases a:(decide (x.length<y.length)||decide (UE x<UE y))
 .cases b:(Uz x y 0 x.length (x.length+1)).isEmpty
  .refine Q0 SI (RX _ _ _) Sr (Sa _ _) (meets_str_split_sep x y t u a d b hsz g) ?_;show wants Q E _ { s with toks:=_,heap:=s.heap.push { cls:=.type "list",data:=.seq (strsFrom s.toks (VN x (Uz x y 0 x.length (x.length+1)) y.length)).toArray } };rw[strsFrom_eq];exact c (numbered s.toks _) _ ((numbered_texts _ _).trans ((if_neg (RP a)).trans (if_neg (RP b))).symm)
  .exact Q0 SI (RX _ _ _) Sr (Sa _ _) (meets_str_split_not_found x y t u a d b) (c [(x,t)] s.toks ((if_neg (RP a)).trans (if_pos b)).symm)
 .exact Q0 SI (RX _ _ _) Sr (Sa _ _) (meets_str_split_cannot_occur x y t u a) (c [(x,t)] s.toks (if_pos a).symm)
theorem AG:∀(l:List (Tz×Tok)),Vals ((l.map (·.1)).map V.str) (XQ l)
 |[]=>.nil
 |(x,t)::l=>.cons ⟨t,rfl⟩ (AG l)
def JL:V->List V->ah->bK->Prop:=λx a H Q=>∃z y,x=.str z/\a=[.str y]/\y.length≠0/\z.length+2<=TH/\∀l,H l=Y->Q (.ref l) (upd H l (.lst ((Txt.split z y).map V.str)))
def HB:lH X "str.split" JL:=by
 rintro p s B H x A v w Q I i h ⟨z,y,rfl,rfl,d,hz,q⟩;obtain⟨t,rfl⟩:=i;obtain⟨u,rfl,g⟩:=h.one;obtain⟨r,rfl⟩:=g;have j:=PyProof.Rows.split_le z y;refine LA ⇑d ⋯ ?_ λl k a=>?_
 .rw[PyProof.Rows.len_partsBetween];have:=StrLaws.occ_length_le z y 0 z.length (z.length+1);lia
 .have c:H s.heap.objs.size=none:=I.fresh;refine⟨.ref s.heap.objs.size,_,I.laid (t':=k) (o:=.lst ((Txt.split z y).map V.str)) (λb m e=>N1 _ e) (N2 _) ⟨by rw[Tj];lia,XQ l,0,by rw[<- a];exact AG l,N6 _ rfl⟩,rfl,q _ c⟩
abbrev JE:V->List V->ah->bK->Prop:=λx a H Q=>∃z y,x=.str z/\a=[.str y]/\Q (.int (Txt.find z y)) H
def Hy:lH X "str.find" JE:=by
 rintro d s j H x i v h Q I c b ⟨z,y,rfl,rfl,q⟩;obtain⟨t,rfl⟩:=c;obtain⟨u,rfl,a⟩:=b.one;obtain⟨g,rfl⟩:=a;exact SC.find ⟨.int _,H,I.tok _,⟨_,rfl⟩,q⟩
theorem y5{K:W.Frag}:∀a:List Tz,ax K G (a.map ζ.D.str) (a.map V.str)
 |[]=>rfl
 |x::a=>⟨.str x,a.map V.str,rfl,rfl,y5 a⟩
def Hn{m:ζ.kk}{x:Tz}{y:D}{c:Nat}:ζ.hS m x y≠.exc c:=by
 intro h;cases m with
 |join =>
  cases y with
  |lst xs =>
   have h:ζ.iR x xs=.exc c:=h;unfold ζ.iR at h;cases q:ζ.strsOf xs with
   |none=>rw[q]at h;cases h
   |some a =>
    rw[q]at h;dsimp only at h
    by_cases z:ζ.j8 a+a.length*x.length<=ζ.SZ
    .rw[if_pos z]at h;cases h
    .rw[if_neg z]at h;cases h
  |_=>cases h
 |split =>
  cases y with
  |str y =>
   have h:ζ.hl x y=.exc c:=h;unfold ζ.hl at h
   by_cases z:y.length≠0/\x.length+2<=ζ.SZ
   .rw[if_pos z]at h;cases h
   .rw[if_neg z]at h;cases h
  |_=>cases h
 |find=>cases y<;>cases h
def qJ(h:nice o=J)(h':ζ.s9 o=J):Vj o n X.env (Uc o X.env)=Uc o X.env:=by
 cases o<;>first|rfl|(cases h;done)|cases h'
def Kx{m:ζ.kk}(aq:n=ζ.xU m)(L:(ap.endLine==ej.line)=J)(O:ai X o (ar xp X aa .view hL))(N:nice o=J)(M:ζ.s9 o=J)(C:ai X e (ar xp X aa .view f))(h:TF [e] X.env=[(Th,Uc e X.env)]):
  ai X (.Call (.Attribute o n ap) [e] [] ej) (ar xp X aa .fresh λp=>hL p>>=λy=>ζ.n4 y>>=λx=>f p>>=λz=>ζ.hS m x z):=by
 subst aq;rintro R s A H Q I ⟨G,p,a1,hw⟩;have B:∀(r:V->List V->ah->bK->Prop),(∀(x:Tz)(d:D)(v:V)(g b:ah),aD g b->View X.K g b d v->aO (ζ.hS m x d) (λd'=>∀v u t,Ext g b u t->aW X.K b u t .fresh d' v->Q v t) (λ_=>False)->r (.str x) [v] b Q)->zY X.K "str" r (ar xp X aa .view hL) (nr (ar xp X aa .view f) pQ) A H Q:=λr au=>by
  refine⟨G,p,a1,aM (av.mp hw) (λa3 k v a2 b2 x1 S=>?_) λ_ z=>z⟩;cases a3 with
  |str x =>
   have S:v=.str x:=S;subst S;refine⟨rfl,a2,p,a1.ext x1,?_⟩;have k:aO (f p>>=λz=>ζ.hS m x z) _ _:=k;refine aM (av.mp k) (λa4 k2 w g b U aw=>?_) λ_ z=>z.mono x1.h
   exact au x a4 w g b U.sub aw (aM (ie k2 λc=>Hn) (λd' q aF u t b1 ay=>q aF u t ((x1.trans U).trans b1) (ay.old (x1.h.trans U.h))) λ_ z=>z)
  |_=>exact k.elim
 cases m with
 |join =>
  refine mS Ri PySem.F.slot_str_join PySem.F.type_str_join Hz O (fV C h) (qJ N M) (mn h) L h rfl R s A H Q I (B _ λx d v g b j i k=>?_);cases d with
  |lst a0 =>
   have k:aO (ζ.iR x a0) _ _:=k;unfold ζ.iR at k;cases q:ζ.strsOf a0 with
   |none=>rw[q]at k;exact k.elim
   |some T =>
    rw[q]at k;dsimp only at k
    by_cases hz:ζ.j8 T+T.length*x.length<=ζ.SZ
    .rw[if_pos hz]at k;obtain⟨a,xs,rfl,a5,hR⟩:=i;have:=y4 q hR;subst this;exact⟨x,a,T,rfl,rfl,a5,hz,k _ g b (Ext.refl j) rfl⟩
    .rw[if_neg hz]at k;exact k.elim
  |_=>exact k.elim
 |split =>
  refine mS Ri PySem.F.slot_str_split PySem.F.type_str_split HB O (fV C h) (qJ N M) (mn h) L h rfl R s A H Q I (B _ λx d v g b j i k=>?_);cases d with
  |str y =>
   have k:aO (ζ.hl x y) _ _:=k;unfold ζ.hl at k
   by_cases hz:y.length≠0/\x.length+2<=ζ.SZ
   .rw[if_pos hz]at k;have i:v=.str y:=i;subst i;exact⟨x,y,rfl,rfl,hz.1,by rw[<- gS];exact hz.2,λl E=>k _ g _ (Ext.own j E λ_ z=>nomatch z) ⟨l,_,rfl,bE,E,j.free E,y5 _⟩⟩
   .rw[if_neg hz]at k;exact k.elim
  |_=>exact k.elim
 |find =>
  refine mS Ri PySem.F.slot_str_find PySem.F.type_str_find Hy O (fV C h) (qJ N M) (mn h) L h rfl R s A H Q I (B _ λx d v g b j i k=>?_);cases d with
  |str y =>
   have i:v=.str y:=i;subst i;exact⟨x,y,rfl,rfl,k _ g b (Ext.refl j) rfl⟩
  |_=>exact k.elim
end
end aE
end
section
namespace aE
set_option tactic.hygienic true
open PySem PySem.Spec PyProof.Rows aC
section
variable{xp:bR}{k:Nat}{g:ζ.Gt}{pg:ζ.ck}{Φ:ζ.c2}{n:Nat}
def xq{a:List TG}(h:a.length<=1000):a.length<=sizeLine:=by rw[TL];lia
def Nj(h:ζ.lA g ct x t a y=Z e):a=e/\∃m p,y=.Name m p/\(x==("isinstance":Tz))=J/\ζ.cD g ct.sc x=J/\((∀c,t≠.cls c)->(m==ζ.tyName t&&ζ.cD g ct.sc m)=J):=by
 unfold ζ.lA at h
 split at h
 .rename_i m e2;obtain⟨p,rfl⟩:=dH e2
  split at h
  .rename_i b;cases h;rw[N0,N0]at b;exact⟨rfl,m,p,rfl,b.1.1,b.1.2,λd=>by cases t<;>first|exact b.2|exact(d _ rfl).elim⟩
  .cases h
 .cases h
def Ni(h:ζ.lA g ct x (.cls c) a y=Z e):False:=by
 unfold ζ.lA at h
 split at h
 .rw[if_neg]at h
  .cases h
  .simp[ζ.tyP]
 .cases h
def Nk(h:ζ.p9 g ct x a=Z e):∃y p q,a=.Call (.Name y p) [e] [] q/\(x==("sorted":Tz))=J/\ζ.cD g ct.sc x=J/\(y==("set":Tz))=J/\ζ.cD g ct.sc y=true:=by
 unfold ζ.p9 at h
 split at h
 .rename_i y b e2;obtain⟨d,p1,rfl⟩:=fI e2
  split at h
  .rename_i c;cases h;simp only[N0]at c;exact⟨y,d,p1,rfl,c.1.1.1,c.1.1.2,c.1.2,c.2⟩
  .cases h
 .cases h
def jf{ct:ζ.bw}{x:Tz}{q:ζ.dp}{c:List TG}{e:TG}(h:(match c with|[e]=>if ζ.mW q&&x==ζ.mV q&&ζ.cD g ct.sc x then Z e else Y|_=>Y)=Z e):c=[e]/\ζ.mW q=J/\(x==ζ.mV q)=J/\ζ.cD g ct.sc x=true:=by
 match c,h with
 |[a],h =>
  simp only at h
  split at h
  .rename_i b;cases h;simp only[N0]at b;exact⟨rfl,b.1.1,b.1.2,b.2⟩
  .cases h
def Bw(u:gs xp k g pg Φ n)(d:bB xp k g pg Φ X ct)(r:sizeOf a<n)(b:ζ.AI g ct x w j=Z e)(h:ζ.a8 g ct J a e=J):
  Res xp X ct.aa v (ζ.f9 (.prim w a)) (.Call (.Name x p) j [] pos) (λB=>ζ.ev pg Φ B (.prim w a)):=by
 have f:∀{q:ζ.dp},j=[e]/\ζ.mW q=J/\(x==ζ.mV q)=J/\ζ.cD g ct.sc x=J->Res xp X ct.aa v (ζ.f9 (.prim q a)) (.Call (.Name x p) j [] pos) (λB=>ζ.ev pg Φ B (.prim q a)):=λ{q} ⟨h0,i,h2,h3⟩=>by
  subst h0;have A:=u.e a e ct J X r d h;exact Res.i1 (KG (m:=.fresh) d i (ez h2) h3 A.view (cA h)) (λ_=>rfl) (λ_ _ _ z=>by cases z)
 cases w with
 |dV =>
  match j,b with
  |[l],b =>
   have b:ζ.p9 g ct x l=Z e:=b;obtain⟨y,p1,p2,rfl,i,h2,h3,h4⟩:=Nk b;obtain⟨C,E⟩:=d.blt h2 (by rw[ez i];decide);obtain⟨G,H⟩:=d.blt h4 (by rw[ez h3];decide);have A:=u.e a e ct J X r d h;exact Res.i1 (KS d.calm d.units (ez i) (ez h3) C E G H A.view (d9 (cA h))) (λ_=>rfl) (λ_ _ _ z=>by cases z)
 |len=>exact f (jf b)
 |sorted=>exact f (jf b)
 |sum=>exact f (jf b)
 |max=>exact f (jf b)
 |str=>exact f (jf b)
 |int=>exact f (jf b)
 |all=>exact f (jf b)
 |any=>exact f (jf b)
 |inst t =>
  match j,b with
  |[l,y],b =>
   have b:ζ.lA g ct x t l y=Z e:=b;obtain⟨rfl,m,I,rfl,i,h2,h3⟩:=Nj b
   by_cases s:∃c,t=.cls c
   .obtain⟨c,rfl⟩:=s;exact(Ni b).elim
   .refine Bs u d (λc o=>s ⟨c,o⟩) r ?_;have h3:=h3 λc o=>s ⟨c,o⟩
    rw[N0]at h3;simp only[N0];exact⟨⟨⟨⟨i,h2⟩,h3.1⟩,h3.2⟩,h⟩
def Az{n k:Tz}(h:ζ.p0 z=Z (n,k)):∃p1 p2 pos,z=.Subscript (.Name n p1) (.Name k p2) pos:=by
 unfold ζ.p0 at h
 split at h
 .rename_i x y e1;obtain⟨pos,rfl⟩:=nI e1
  split at h
  .rename_i b a e2 e3;cases h;obtain⟨p1,rfl⟩:=dH e2;obtain⟨p2,rfl⟩:=dH e3;exact⟨p1,p2,pos,rfl⟩
  .cases h
 .cases h
def Nc(h:ζ.uo z=Z (a,b)):∃p,z=.Dict a b p:=by
 cases z with
 |Dict a b pos=>cases h;exact⟨_,rfl⟩
 |_=>exact nn h
def Nb{n k:Tz}(h:ζ.um z=Z (n,k)):∃p1 p2 pos,z=.Dict [Z (.Name n p1)] [.Name k p2] pos:=by
 unfold ζ.um at h;rcases e:ζ.uo z with _|⟨_|⟨_|a,_|⟨_,_⟩⟩,_|⟨b,_|⟨_,_⟩⟩⟩<;>rw[e]at h<;>first|(cases h;done)|dsimp only at h
 rcases c:ζ.di a with _|i<;>rcases d:ζ.di b with _|f<;>rw[c,d]at h<;>first|(cases h;done)|skip
 cases h;obtain⟨p1,rfl⟩:=dH c;obtain⟨p2,rfl⟩:=dH d;obtain⟨p,rfl⟩:=Nc e;exact⟨_,_,_,rfl⟩
def sF(h:ζ.oH z=J):∃mR,z=.Dict [] [] mR:=by
 unfold ζ.oH at h
 split at h
 .exact⟨_,rfl⟩
 .cases h
def mL{n:Tz}(h:ζ.jT ct i n=J):ct.N[i]?=Z n/\ζ.gp ct.sc n=J/\ζ.okN n=J/\i∈ct.aa:=by
 unfold ζ.jT at h;simp only[N0,OJ]at h;exact⟨h.1.1.1,h.1.1.2,h.1.2,O9.mp h.2⟩
def mU{n:Tz}(h:ζ.j1 ct i n=J):ct.N[i]?=Z n/\ζ.gp ct.sc n=J/\ζ.okN n=J/\i∉ct.aa:=by
 unfold ζ.j1 at h;simp only[N0,OJ,OY]at h;exact⟨h.1.1.1,h.1.1.2,h.1.2,λz=>by rw[O9.mpr z]at h;cases h.2⟩
def Bc{n:Tz}(h:ζ.qA ct i n=J):ct.N[i]?=Z n/\ζ.gp ct.sc n=J/\ζ.okN n=true:=by
 unfold ζ.qA at h;simp only[N0,OJ]at h;exact⟨h.1.1,h.1.2,h.2⟩
def uj{n:Tz}(h:ζ.pY x=Z (o,n,p)):x=.Attribute o n p:=by
 cases x with
 |Attribute o n p=>cases h;rfl
 |_=>exact nn h
def M9{x n:Tz}(h:ζ.ui z=Z (x,n,a,y)):∃p ej,z=.Call (.Attribute (.Name x p) n a) [y] [] ej:=by
 unfold ζ.ui at h
 split at h
 .rename_i f e e1;obtain⟨ej,rfl⟩:=pZ e1
  split at h
  .rename_i o c b e2;obtain rfl:=uj e2
   split at h
   .rename_i d e3;obtain⟨p,rfl⟩:=dH e3;cases h;exact⟨p,ej,rfl⟩
   .cases h
  .cases h
 .cases h
def Nf{n:Tz}(h:ζ.ur z=Z (o,n,a,y)):∃ej,z=.Call (.Attribute o n a) [y] [] ej:=by
 unfold ζ.ur at h
 split at h
 .rename_i f e e1;obtain⟨ej,rfl⟩:=pZ e1
  split at h
  .rename_i d c b e2;obtain rfl:=uj e2;cases h;exact⟨ej,rfl⟩
  .cases h
 .cases h
def LI(E:gs xp k g pg Φ n)(e)(x)(ct)(v)(X)(C:sizeOf e<n+1)(A:bB xp k g pg Φ X ct)(h:ζ.a8 g ct v e x=J):Res xp X ct.aa v (ζ.f9 e) x (λL=>ζ.ev pg Φ L e):=by
 cases e with
 |var i =>
  conv at h=>lhs;whnf
  split at h
  .rename_i y e1;obtain⟨p,rfl⟩:=dH e1;exact BB A h
  .cases h
 |lit d =>
  conv at h=>lhs;whnf
  split at h
  .rename_i c e1;obtain⟨cH,p,rfl⟩:=uk e1;exact Res.hW (λm=>zm h) (hZ (zm h) λ_=>rfl) λ_ _ _ z=>by cases z
  .cases h
 |tup a =>
  conv at h=>lhs;whnf
  split at h
  .rename_i N e1;obtain⟨j,p,rfl⟩:=AB e1;simp only[N0,Ov]at h;obtain⟨p1,p2,p3⟩:=E.a a N ct X ↥C A h.1;exact Res.j0 (KU p1 λL ds q=>by rw[p3 L ds q];exact xq h.2) (λ_=>rfl) (λ_ _ _ z=>by cases z) rfl
  .cases h
 |lst a =>
  conv at h=>lhs;whnf
  split at h
  .rename_i N e1;obtain⟨p,rfl⟩:=uq e1;simp only[N0,Ov]at h;obtain⟨p1,p2,p3⟩:=E.a a N ct X ↥C A h.1;exact Res.i1 (Ku p1 λL ds q=>by rw[p3 L ds q];exact xq h.2) (λ_=>rfl) (λ_ _ _ z=>by cases z)
  .cases h
 |bin op a b =>
  conv at h=>lhs;whnf
  split at h
  .rename_i x o y e1;obtain⟨p,rfl⟩:=Na e1;simp only[N0]at h;have G:=E.e a x ct J X ↥C A h.1.2;have H:=E.e b y ct J X ↥C A h.2;exact Res.i1 (J6 (BW op) (J7 h.1.1) G.view H.view) (λ_=>rfl) (λ_ _ _ z=>by cases z)
  .cases h
 |not a =>
  conv at h=>lhs;whnf
  rcases e1:ζ.lz x with _|⟨_|_|_|_,x⟩<;>rw[e1]at h<;>first|(cases h;done)|skip
  .obtain⟨p,rfl⟩:=uu e1;have G:=E.e a x ct J X ↥C A h;exact Res.hW (λm=>KA G.view) (KC G.pt) λ_ _ _ z=>by cases z
 |cmp op a b =>
  conv at h=>lhs;whnf
  rcases e1:ζ.nF x with _|⟨x,_|⟨o,_|⟨_,_⟩⟩,_|⟨y,_|⟨_,_⟩⟩⟩<;>rw[e1]at h<;>first|(cases h;done)|skip
  .obtain⟨p,rfl⟩:=Aw e1;simp only[N0]at h;have G:=E.e a x ct J X ↥C A h.1.2;have H:=E.e b y ct J X ↥C A h.2;have O:=xO (op:=o) (cA h.2);exact Res.hW (λm=>J9 (lh A h.1.1) G.view H.view O) (Kc (lh A h.1.1) G.view H.view O) λ_ _ _ z=>by cases z
 |and a b =>
  conv at h=>lhs;whnf
  rcases e1:ζ.vBool x with _|⟨_|_,_|⟨x,_|⟨y,_|⟨z,r⟩⟩⟩,p⟩<;>rw[e1]at h<;>first|(cases h;done)|skip
  .obtain rfl:=nD e1;simp only[N0]at h;have G:=E.e a x ct J X ↥C A h.1;have H:=E.e b y ct v X ↥C A h.2;have I:=zg (pos:=p) G.pt (Jy H.pt);exact⟨zf G.view (tq H.cZ),λz=>(by cases z),I.pt,λ_=>I⟩
  .obtain rfl:=nD e1;simp only[N0]at h;have G:=E.e a x ct J X ↥C A h.1;have H:=E.e b _ ct v X ↥C A h.2;have I:=zg (pos:=p) G.pt (H.yN ⟨_,_,_,rfl⟩);exact⟨zf G.view H.cZ,λz=>(by cases z),I.pt,λ_=>I⟩
 |or a b =>
  conv at h=>lhs;whnf
  rcases e1:ζ.vBool x with _|⟨_|_,_|⟨x,_|⟨y,_|⟨z,r⟩⟩⟩,p⟩<;>rw[e1]at h<;>first|(cases h;done)|skip
  .obtain rfl:=nD e1;simp only[N0]at h;have G:=E.e a x ct J X ↥C A h.1;have H:=E.e b y ct v X ↥C A h.2;have I:=zq (pos:=p) G.pt (JA H.pt);exact⟨zp G.view (tq H.cZ),λz=>(by cases z),I.pt,λ_=>I⟩
  .obtain rfl:=nD e1;simp only[N0]at h;have G:=E.e a x ct J X ↥C A h.1;have H:=E.e b _ ct v X ↥C A h.2;have I:=zq (pos:=p) G.pt (H.yN ⟨_,_,_,rfl⟩);exact⟨zp G.view H.cZ,λz=>(by cases z),I.pt,λ_=>I⟩
 |idx a b =>
  conv at h=>lhs;whnf
  split at h
  .rename_i x y e1;obtain⟨p,rfl⟩:=nI e1;simp only[N0]at h;have G:=E.e a x ct J X ↥C A h.1;have H:=E.e b y ct J X ↥C A h.2;exact Res.j0 (Kp G.view H.view (FT (cA h.2))) (λ_=>rfl) (λ_ _ _ z=>by cases z) rfl
  .cases h
 |slice a lo hi =>
  conv at h=>lhs;whnf
  split at h
  .rename_i x y e1;obtain⟨p,rfl⟩:=nI e1
   split at h
   .rename_i l u e2;obtain⟨cN,rfl⟩:=Ng e2;simp only[N0]at h;have G:=E.e a x ct J X ↥C A h.1.1;have cv:=E.o lo l ct X ↥C A h.1.2;have b0:=E.o hi u ct X ↥C A h.2;exact Res.i1 (KR G.view cv b0) (λ_=>rfl) (λ_ _ _ z=>by cases z)
   .cases h
  .cases h
 |call f a =>
  conv at h=>lhs;whnf
  split at h
  .rename_i x N e1;obtain⟨p,q,rfl⟩:=fI e1;exact Bn E A ↥C h
  .cases h
 |prim df a =>
  conv at h=>lhs;whnf
  split at h
  .rename_i x N e1;obtain⟨p,q,rfl⟩:=fI e1
   split at h
   .rename_i e e2;exact Bw E A ↥C e2 h
   .cases h
  .cases h
 |rI i j =>
  conv at h=>lhs;whnf
  split at h
  .rename_i aq aw e1;obtain⟨p1,p2,pos,rfl⟩:=Az e1;rw[N0]at h;obtain⟨a1,a2,a3⟩:=Bc h.1;obtain⟨b1,b2,R,S⟩:=mU h.2;obtain⟨T,U,_⟩:=d1 a3;obtain⟨a0,a5,_⟩:=d1 R;have Q:∀m,ai X (.Subscript (.Name aq p1) (.Name aw p2) pos) (ar xp X ct.aa m λL=>ζ.kE L[i]? L[j]?):=λm=>Ke A.units S (by rw[A.nm];exact a1) (A.fK a2) T U (by rw[A.nm];exact b1) (A.fK b2) a0 a5
   exact Res.hW Q (hZ (Q .view) λ_=>rfl) λ_ _ _ z=>by cases z
  .cases h
 |fu m a b =>
  conv at h=>lhs;whnf
  split at h
  .rename_i o aq aF y e1;obtain⟨bc,rfl⟩:=Nf e1;simp only[N0,OJ]at h;obtain⟨⟨⟨⟨M,h2⟩,h0⟩,h3⟩,h4⟩:=h;have G:=E.e a o ct J X ↥C A h3;have H:=E.e b y ct J X ↥C A h4;have h2:aF.endLine=bc.line:=h2;exact Res.i1 (Kx M ⇑h2 G.view (cA h3) h0 H.view (d9 (cA h4))) (λ_=>rfl) (λ_ _ _ z=>by cases z)
  .cases h
 |glob j =>
  conv at h=>lhs;whnf
  split at h
  .rename_i y e1;obtain⟨p,rfl⟩:=dH e1;exact Br A h
  .cases h
 |max2 a b =>
  conv at h=>lhs;whnf
  rcases e1:ζ.d2 x with _|⟨x,_|⟨y,_|⟨w,_|⟨_,_⟩⟩⟩⟩<;>rw[e1]at h<;>first|(cases h;done)|skip
  .obtain⟨p,q,rfl⟩:=fI e1;simp only[N0]at h;obtain⟨⟨⟨M,h2⟩,h3⟩,h4⟩:=h;obtain⟨a7,ba⟩:=A.blt h2 (by rw[ez M];decide);have G:=E.e a y ct J X ↥C A h3;have H:=E.e b w ct J X ↥C A h4;have Q:∀m,ai X (.Call (.Name x p) [y,w] [] q) (ar xp X ct.aa m λL=>ζ.ev pg Φ L (.max2 a b)):=λm=>Kw A.calm (ez M) a7 ba G.view H.view (tW (cA h3) (cA h4)) (d9 (cA h4))
   exact Res.hW Q (hZ (Q .view) λ_=>rfl) λ_ _ _ z=>by cases z
 |jA op op' a b c =>
  conv at h=>lhs;whnf
  rcases e1:ζ.nF x with _|⟨x,_|⟨o,_|⟨bO,_|⟨_,_⟩⟩⟩,_|⟨y,_|⟨z,_|⟨_,_⟩⟩⟩⟩<;>rw[e1]at h<;>first|(cases h;done)|skip
  .obtain⟨p,rfl⟩:=Aw e1;simp only[N0]at h;obtain⟨⟨⟨⟨M,h2⟩,h3⟩,h4⟩,h5⟩:=h;have G:=E.e a x ct J X ↥C A h3;have H:=E.e b y ct J X ↥C A h4;have ay:=E.e c z ct J X ↥C A h5;have O:=Gy (op:=o) (op':=bO) (b:=y) (cA h5);exact Res.hW (λm=>Ka (lh A M) (lh A h2) G.view H.view ay.view O) (Kb (lh A M) (lh A h2) G.view H.view ay.view O) λ_ _ _ z=>by cases z
 |gH s =>
  conv at h=>lhs;whnf
  rcases e1:ζ.d2 x with _|⟨x,_|⟨e,_|⟨_,_⟩⟩⟩<;>rw[e1]at h<;>first|(cases h;done)|skip
  .obtain⟨p,q,rfl⟩:=fI e1;exact Res.i1 (Bt (v:=v) E A ↥C h) (λ_=>rfl) (λ_ _ _ z=>by cases z)
 |rN i j =>
  conv at h=>lhs;whnf
  split at h
  .rename_i aq aw e1;obtain⟨p1,p2,pos,rfl⟩:=Nb e1;rw[N0]at h;obtain⟨a1,a2,a3,a4⟩:=mU h.1;obtain⟨b1,b2,R,S⟩:=mU h.2;obtain⟨T,U,_⟩:=d1 a3;obtain⟨a0,a5,_⟩:=d1 R;exact Res.j0 (Kf a4 S (by rw[A.nm];exact a1) (A.fK a2) T U (by rw[A.nm];exact b1) (A.fK b2) a0 a5) (λ_=>rfl) (λ_ _ _ z=>by cases z) rfl
  .cases h
 |rP =>
  conv at h=>lhs;whnf
  obtain⟨de,rfl⟩:=sF h;exact Res.j0 Ki (λ_=>rfl) (λ_ _ _ z=>by cases z) rfl
 |neg a =>
  conv at h=>lhs;whnf
  rcases e1:ζ.lz x with _|⟨_|_|_|_,x⟩<;>rw[e1]at h<;>first|(cases h;done)|skip
  .obtain⟨p,rfl⟩:=uu e1;have G:=E.e a x ct J X ↥C A h;exact Res.hW (λm=>zo G.view) (hZ (zo G.view) λ_=>rfl) λ_ _ _ z=>by cases z
 |tupI s =>
  conv at h=>lhs;whnf
  rcases e1:ζ.d2 x with _|⟨x,_|⟨e,_|⟨_,_⟩⟩⟩<;>rw[e1]at h<;>first|(cases h;done)|skip
  .obtain⟨p,q,rfl⟩:=fI e1;exact Res.j0 (Bu (v:=v) E A ↥C h) (λ_=>rfl) (λ_ _ _ z=>by cases z) rfl
 |comp e j s c =>
  conv at h=>lhs;whnf
  split at h
  .rename_i x t cw cM dy e1;obtain⟨p,rfl⟩:=Ay e1
   split at h
   .rename_i xs au;obtain⟨B,bj,bl,bq,cq,cu⟩:=uX (pos:=p) E A ↥C au h;rw[cu];obtain⟨cL,rfl⟩:=A.nK;exact Res.i1 (tK A.hL A.calm (by rw[A.nm];exact A.aa) B au bj bl bq cq) (λ_=>rfl) (λ_ _ _ z=>by cases z)
   .cases h
  .cases h
def LG(o:gs xp k g pg Φ n)(a)(f)(ct)(X)(m:sizeOf a<n+1)(l:bB xp k g pg Φ X ct)(h:ζ.iD g ct a f=J):dK X f (i8 xp X ct.aa λb=>ζ.fm pg Φ b a)/\(∀e∈f,nice e=J)/\∀b ds,ζ.fm pg Φ b a=.ok ds->ds.length=f.length:=by
 unfold ζ.iD at h
 split at h
 .exact⟨Ky,by simp,λb ds q=>by rw[ζ.v5]at q;cases q;rfl⟩
 .rename_i e a x xs;simp only[N0]at h;have r:=o.e e x ct Th X ↥m l h.1;obtain⟨p1,p2,p3⟩:=o.a a xs ct X ↥m l h.2;refine⟨Kd r.val p1 (j6 (cA h.1)),λz hz=>?_,λb ds q=>?_⟩
  .rcases N3.mp hz with rfl|hz
   .exact cA h.1
   .exact p2 z hz
  .rw[ζ.v3]at q;cases j:ζ.ev pg Φ b e with
   |ok d =>
    rw[j]at q;simp only[ζ.R.hb]at q;cases i:ζ.fm pg Φ b a with
    |ok p=>rw[i]at q;cases q;simp[p3 b p i]
    |exc c=>rw[i]at q;cases q
    |bad=>rw[i]at q;cases q
   |exc c=>rw[j]at q;cases q
   |bad=>rw[j]at q;cases q
 .cases h
def LJ(c:gs xp k g pg Φ n)(o)(x)(ct)(X)(b:sizeOf o<n+1)(a:bB xp k g pg Φ X ct)(h:ζ.lY g ct o x=J):gR X x (lu xp X ct.aa λd=>ζ.iI pg Φ d o):=by
 unfold ζ.lY at h
 split at h
 .exact Kz
 .rename_i e x;exact KD (c.e e x ct J X ↥b a h).view
 .cases h
def stepI(l:gs xp k g pg Φ n)(s)(x)(ct)(v)(X)(w)(f:sizeOf s<n+1)(c:bB xp k g pg Φ X ct)(h:ζ.gC g ct v s x=J)(C:ζ.i2 s=J->∃t j p,w=.Tuple t j p):
  ey X w x (fH xp X ct.aa (jS v) λE=>ζ.eA pg Φ E s)/\nice x=true:=by
 cases s with
 |seq e =>
  conv at h=>lhs;whnf
  exact⟨Kr (oW v) (l.e e x ct v X ↥f c h).cZ,cA h⟩
 |sJ e =>
  conv at h=>lhs;whnf
  exact⟨zl (oW v) (l.e e x ct v X ↥f c h).cZ,cA h⟩
 |c8 a =>
  conv at h=>lhs;whnf
  rcases e1:ζ.d2 x with _|⟨x,_|⟨y,_|⟨_,_⟩⟩⟩<;>rw[e1]at h<;>first|(cases h;done)|skip
  .obtain⟨u,p,rfl⟩:=fI e1;simp only[N0]at h;obtain⟨⟨d,h2⟩,h3⟩:=h;obtain⟨m,o⟩:=c.blt h2 (by rw[ez d];decide);have q:=l.e a y ct J X ↥f c h3;exact⟨KO (ez d) m o q.view (d9 (cA h3)),rfl⟩
 |k9 a b =>
  conv at h=>lhs;whnf
  rcases e1:ζ.d2 x with _|⟨x,_|⟨y,_|⟨z,_|⟨_,_⟩⟩⟩⟩<;>rw[e1]at h<;>first|(cases h;done)|skip
  .obtain⟨u,p,rfl⟩:=fI e1;simp only[N0]at h;obtain⟨⟨⟨d,h2⟩,h3⟩,h4⟩:=h;obtain⟨m,o⟩:=c.blt h2 (by rw[ez d];decide);have q:=l.e a y ct J X ↥f c h3;have r:=l.e b z ct J X ↥f c h4;exact⟨KP (ez d) m o q.view r.view (tW (cA h3) (cA h4)) (d9 (cA h4)),rfl⟩
 |nd e =>
  conv at h=>lhs;whnf
  exact⟨Ks (l.e e x ct v X ↥f c h).cZ,cA h⟩
 |zip a b =>
  conv at h=>lhs;whnf
  rcases e1:ζ.d2 x with _|⟨x,_|⟨y,_|⟨z,_|⟨_,_⟩⟩⟩⟩<;>rw[e1]at h<;>first|(cases h;done)|skip
  .obtain⟨u,p,rfl⟩:=fI e1;simp only[N0]at h;obtain⟨⟨⟨d,h2⟩,h3⟩,h4⟩:=h;obtain⟨m,o⟩:=c.blt h2 (by rw[ez d];decide);obtain⟨t,j,H,rfl⟩:=C rfl;have q:=l.e a y ct v X ↥f c h3;have r:=l.e b z ct v X ↥f c h4;exact⟨Kt (oW v) (ez d) m o q.cZ r.cZ (tW (cA h3) (cA h4)) (d9 (cA h4)),rfl⟩
 |rK i =>
  conv at h=>lhs;whnf
  split at h
  .rename_i G e1;obtain⟨p,rfl⟩:=dH e1;obtain⟨a1,a2,a3,a4⟩:=mU h;obtain⟨A,B,_⟩:=d1 a3;exact⟨Ko (oW v) a4 (by rw[c.nm];exact a1) (c.fK a2) A B,rfl⟩
  .cases h
theorem jw:∀n,gs xp k g pg Φ n
 |0=>⟨λ_ _ _ _ _ h=>⋯,λ_ _ _ _ h=>⋯,λ_ _ _ _ h=>⋯,λ_ _ _ _ _ _ h=>⋯⟩
 |n+1=>⟨LI (jw n),LG (jw n),LJ (jw n),stepI (jw n)⟩
def gh(a:bB xp k g pg Φ X ct)(h:ζ.a8 g ct v e x=J):Res xp X ct.aa v (ζ.f9 e) x (λb=>ζ.ev pg Φ b e):=(jw (sizeOf e+1)).e e x ct v X (PS _) a h
end
set_option tactic.hygienic false
end aE
end
section
namespace aE
open PySem PySem.Spec PyProof.Rows aC
abbrev n5:List Value:=[.type "ValueError",.type "Exception",.type "BaseException",.type "object"]
structure kl(aj:Tz->Option Ti)(base:TU)(cl:Nat->Option Tu)(c:Nat)(x:Tz)(C:Tu):Prop where
 at_:cl c=Z C
 aj:aj x=Z (.ref C)
 dU:∃(newId:String)(bm:List Ti)(N:Tu)(nm q:Tz)(bs:List Ti)(hdct:Bool)(sn:List Tz)(sub:List Ti)(ab:Bool)(col:Option Bool)(dd:Option Tu)(k0 k1 k2 k3 k5:Option Ti),
  base.get? C=Z (TX nm q C N bs bm hdct sn sub ab col dd k0 k1 k2 k3 k5 newId)/\bm.contains (.type "BaseException")=J
structure jr(K:W.Frag)(base:TU)(cl:Nat->Option Tu)(up:Nat->List Nat)(C:Tu):Prop where
 at_:cl 1=Z C
 ke:(up 1).contains 1000=J
 dU:∃(newId uC Fo:String)(B6 bm:List Ti)(N:Tu)(nm q:Tz)(bs:List Ti)(hdct:Bool)(sn:List Tz)(sub:List Ti)(ab:Bool)(col:Option Bool)(dd:Option Tu)(k0 k1 k2 k3 k5:Option Ti)(mN:Tz->Option Ti),
  ExcBaseFacts uC newId Fo B6/\n5.contains (.type uC)=J/\base.get? C=Z (TX nm q C N bs bm hdct sn sub ab col dd k0 k1 k2 k3 k5 newId)/\base.Ns N mN/\mN "__init__"=Y/\OwnTail base n5 bm/\bb.Plain K C bm /\
  ∀k D,cl k=Z D->(TA C::bm).contains (.ref D)=(up 1).contains k
section
variable{X:ao}{pins:List (Tu×UK)}{σ:aQ}{H:ah}{s:Tq}{h':TU}{l:List Tu}{cl:Nat->Option Tu}{up:Nat->List Nat}{x n:Tz}{C:Tu}{aa:List Nat}{np p dx pos:Vb}
def KH(k:kl X.aj X.base cl 1 x C)(O:jr X.K X.base cl up C)(w:X.calm=J)(z:b9 X x)(y:(x==("__debug__":Tz))=Th):
  bA X (.Raise (Z (.Call (.Name x np) [.Constant (.str t) j p] [] dx)) Y pos) (bz (bb.bC cl) X aa λ_=>.exc 1):=by
 rintro pins s σ H T I ⟨L,M,G,U,v,hw⟩;obtain⟨S,E,R,Q,bm,N,nm,q,bs,hdct,sn,sub,ab,col,dd,k0,k1,k2,k3,k5,mN,i,m,o,u,A,g,_⟩:=O.dU;refine wpAny_Raise_call_subU (C:=C) (nm:=nm) (q:=q) (N:=N) (bs:=bs) (bm:=bm) (hdct:=hdct) (sn:=sn) (sub:=sub) (ab:=ab) (col:=col) (dd:=dd) (k0:=k0) (k1:=k1) (k2:=k2) (k3:=k3) (k5:=k5)
  i m WH (mN:=mN) (g.hasType rfl) (I.ok.hd w) rfl A (oQ I z k.aj ⟨rfl,?_⟩ y)
 have f:=(fv yx hc:dK X [.Constant (.str t) j p] _) dx pins s σ H (λh d=>h.length=1/\d=H) I ⟨rfl,rfl⟩;refine Ww (aN f λB s2 ⟨h,d,b,r,e⟩=>⟨rfl,by show B.length<=TH;rw[<- r.length,e.1];decide,b.eU _ _ o,u.keeps b.eU,g.keeps b.eU,λh' b7 c=>?_⟩)
 .obtain⟨_,rfl⟩:=e;exact hw pins σ d { s2 with heap:=h' } (.ref b7) [b7] (b.kept (t':=s2.toks) c.keeps) v.ext.h (λa f=>by
   obtain rfl:a=b7:=⇑f;exact .of b c.new (o8 b.aJ c.new)) (bb.made O.at_ c)
abbrev LY(j:Nat)(b:Tu)(v:V):TE:=λσ H Q=>σ[j]?=Z (Z (.ref b))/\∀a,aD H a->Q v a
abbrev LZ(j:Nat)(b:Tu)(c:List V):dM:=λσ H Q=>σ[j]?=Z (Z (.ref b))/\∀a,aD H a->Q c a
abbrev z2(j:Nat)(b:Tu)(v:V):eh:=λT σ H=>σ[j]?=Z (Z (.ref b))/\∀a,aD H a->T.bt v a
def uF(a:Tz->Option Ti)(base:TU)(cl:Nat->Option Tu)(up:Nat->List Nat)(v:V)(b:Bool):Prop:=(v=.ty "ValueError"/\b=J)\/∃k y D,v=.ref D/\kl a base cl k y D/\b=(up 1).contains k
def Cp(O:jr X.K X.base cl up C)(z:(i,j)∈X.bP)(f:j.cls=.ref C):
  dv X (.builtin "isinstance") (λxs H Q=>∃v b,xs=[.ref i,v]/\uF X.aj X.base cl up v b/\Q (.ag b) H):=by
 rintro pins s σ H xs a2 Q I r ⟨v,b,t,A,q⟩;subst t;obtain⟨u,a1,rfl,B,m⟩:=vals2 r;cases B;have g:=(I.pin (i,j) (OG _ z)).1;obtain⟨U,E,T,L,bm,N,nm,a0,bs,hdct,sn,sub,ab,col,dd,k0,k1,k2,k3,k5,mN,G,M,a,R,S,o,P,w⟩:=O.dU;have a:=I.eU _ _ a;rcases A with⟨rfl,rfl⟩|⟨k,y,D,rfl,h,rfl⟩
 .cases m;exact bb.FI g f a (by kernel_rfl) (o.hasType rfl) ⟨.ag J,H,I,rfl,q⟩
 .cases m;obtain⟨_,_,_,_,_,_,_,_,_,_,_,_,_,_,_,_,_,c,_⟩:=h.dU;have c:=I.eU _ _ c;have d:=w k D h.at_;cases e:(up 1).contains k with
  |true =>
   rw[e]at d q;exact bb.FH g f a c rfl ⟨_,rfl⟩ d ⟨.ag J,H,I,rfl,q⟩
  |false =>
   rw[e]at d q;exact bb.FG I.dT P g f a c rfl ⟨_,rfl⟩ d ⟨.ag Th,H,I.tok _,rfl,q⟩
def MQ{bs:List Bool}:TruthOf P w A (λi v=>(bs.map UA).toArray[i]?=Z v) λi=>bs.getD i false:=by
 intro i v s Q E a c;have a:(bs.map UA)[i]?=Z v:=⇑a
 rw[Ot]at a;cases q:bs[i]? with
 |none=>rw[q]at a;cases a
 |some b =>
  rw[q]at a;cases a;refine Pl ?_;have:bs.getD i Th=b:=(by simp[Uo,q]);have c:Q (bs.getD i Th) s:=c;rw[this]at c;exact c
def Bh(y:(c,j)∈X.bP)(m:X.A.handled=Z (.ref c))(t:j.data=.fields L)(h2:L[2]?=Z .none):
  dv X (.builtin "any") (λxs H Q=>∃(a:Tu)(bs:List Bool),xs=[.ref a]/\cb X.K H a (bs.map V.ag)/\Q (.ag (bs.any id)) H):=by
 rintro pins s σ H xs M Q I r ⟨a,bs,k,h,q⟩;subst k;obtain⟨u,rfl,G⟩:=vals1 r;cases G;have g:=(I.pin (c,j) (OG _ y)).1;obtain⟨its,E,f,hz⟩:=I.list h;obtain rfl:=p8 E;have w:(bs.map UA).toArray.size=bs.length:=by rw[Oc,Tj]
 have z:a≠s.heap.objs.size:=by obtain⟨o,n,d,_⟩:=f;exact Oj (N5 d)
 have B:c≠s.heap.objs.size:=Oj (N5 g);refine call_any_walk (Ra f.isList ⟨s.heap.objs.size,_,_,_,_,_,λi=>bs.getD i Th,rfl,bb.Np (A:=X.A.in1) m t h2 _ a z B (bs.map UA).toArray,⟨⟨⟨_,N6 _ rfl,rfl,rfl⟩,(let ⟨o,d,r⟩:=f.isList;⟨o,N1 _ d,r⟩)⟩,N1 _ g⟩,MQ,λh' tk v=>?_⟩);rw[w,any_range];exact⟨.ag _,H,I.kept λb o e=>v b o (by simp;exact Oj (N5 e)) (N1 _ e),rfl,q⟩
variable{g:ζ.Gt}{ct:ζ.bw}
structure nS(X:ao)(g:ζ.Gt)(ct:ζ.bw)(cl:Nat->Option Tu):Prop where
 gl:∀x,ζ.gb ct.sc x=J->b9 X x
 ag:∀x,ζ.cD g ct.sc x=J->x∈kg->b9 X x/\X.aj x=Y
 ke:X.aj "ValueError"=Y
 own:∀(c:Nat)(x:Tz),g.cls[c]?=Z x->∃C,kl X.aj X.base cl c x C
set_option tactic.hygienic true in
theorem tn (O:jr X.K X.base cl up C) (b:nS X g ct cl) (E:(r,R)∈X.bP) (w:R.cls=.ref C) (A:X.N[j]?=Z n) (M:dN X.env.scope n) (B:ζ.okN n=J)
  (h:ζ.lX g ct n k z=J):ai X z (LY j r (.ag ((up 1).contains k)))/\nice z=true:=by
 unfold ζ.lX at h
 split at h
 .rename_i f e d e1;obtain⟨a3,a1,rfl⟩:=fI e1
  split at h
  .rename_i y t e2 e3;obtain⟨p1,rfl⟩:=dH e2;obtain⟨p2,rfl⟩:=dH e3;simp only[N0,OJ]at h;obtain⟨⟨⟨⟨rfl,h2⟩,rfl⟩,h4⟩,h5⟩:=h;obtain⟨b1,b2⟩:=b.ag _ h2 ∅;obtain⟨o,q,a2⟩:=d1 B;have L:∃v,ai X (.Name t p2) (i9 v)/\uF X.aj X.base cl up v ((up 1).contains k):=by
    simp only[ζ.tyB,N0]at h4;obtain⟨⟨m,u⟩,a⟩:=h4;obtain⟨U,a4,a5⟩:=d1 u
    by_cases c:k=1000
    .rw[if_pos c]at a;simp only[N0,OJ]at a;obtain⟨rfl,_⟩:=a;subst c;exact⟨.ty "ValueError",yo (b.gl _ m) b.ke (by kernel_rfl) rfl,.inl ⟨rfl,O.ke⟩⟩
    .rw[if_neg c]at a;obtain⟨D,i⟩:=b.own k t ⇑a;exact⟨.ref D,yr (b.gl _ m) i.aj rfl U,.inr ⟨k,t,D,rfl,i,rfl⟩⟩
   obtain⟨v,G,N⟩:=L;refine⟨λpins s σ H Q I a0=>?_,rfl⟩;obtain⟨S,T⟩:=a0;refine mT (Cp O E w) b1 b2 boot_isinstance (fv (eG A M o q) (fv G hc)) ∅ ∅ rfl rfl pins s σ H Q I ?_;exact⟨_,S,v,_,rfl,N,T H (aD.refl H)⟩
  .cases h
 .cases h
theorem yj(O:jr X.K X.base cl up C)(e:nS X g ct cl)(o:(u,w)∈X.bP)(f:w.cls=.ref C)(i:X.N[j]?=Z n)(q:dN X.env.scope n)(m:ζ.okN n=J):
  ∀{a:List Nat}{d:List TG},ζ.n8 g ct n a d=J->dK X d (LZ j u (a.map λk=>V.ag ((up 1).contains k)))
 |[],[],_=>λpos pins s σ H Q I ⟨b,c⟩=>hc pos pins s σ H Q I (c H (aD.refl H))
 |[],_::_,h=>by cases h
 |_::_,[],h=>by cases h
 |k::a,z::d,h=>by
  simp only[ζ.n8,N0]at h;obtain⟨r,v⟩:=tn O e o f i q m h.1;have y:=yj O e o f i q m h.2;rintro pos pins s σ H Q I ⟨b,c⟩;exact fv r y (j6 v) pos pins s σ H Q I ⟨b,λB s3=>⟨b,λt A=>c t (s3.trans A)⟩⟩
end
section
variable{X:ao}{pins:List (Tu×UK)}{σ:aQ}{H:ah}{s:Tq}{h':TU}{l:List Tu}{cl:Nat->Option Tu}{up:Nat->List Nat}{c:Nat}{x n:Tz}{C:Tu}{aa:List Nat}{np p dx pos:Vb}
def EM(I:Inv X pins σ H s)(A:h'.Ns X.env.locals m)(G:TZ X.env.locals s.heap h'):Inv X pins (TJ X.N.length Y) H { s with heap:=h',toks:=t' }:=by
 have k:∀b o,X.dE.heap.get? b=Z o->b≠X.env.locals:=λb o e=>Oj (Oa (N5 e) I.ok.above)
 have f:∀b o,b≠X.env.locals->s.heap.get? b=Z o->h'.get? b=Z o:=λb o L e=>by rw[G.2 b L];exact e
 refine⟨I.ok,I.os,I.bare,⟨λb o e n g j=>?_,λb o e n g j=>?_,I.base.free,λb o e j=>?_,I.base.gn,I.base.fS,I.base.gm⟩,⟨m,A,λi x v e1 e2 e3=>?_⟩,λx c e=>?_,I.free,I.el,λp E=>?_,λa o e=>?_,by simp⟩
 .exact f b o (k b o e) (I.base.keep b o e n g j)
 .obtain⟨N,e1⟩:=I.base.slot b o e n g j;exact⟨N,f b _ (k b o e) e1⟩
 .obtain⟨t,e1⟩:=I.base.there b o e j;exact⟨t,f b t (k b o e) e1⟩
 .rw[Qq]at e2
  split at e2<;>cases e2
 .obtain⟨v,o,B,y⟩:=I.cell x c e;exact⟨v,o,f c o (I.od x c e) B,y⟩
 .obtain⟨e,n,r,M,d⟩:=I.pin p E;exact⟨f _ _ r e,n,r,M,d⟩
 .refine(I.aJ a o e).gk (λb u g q=>f b u (λz=>?_) q) (λ_ q=>q) λ_ _ q=>q
  have h:=I.free;rw[<- z]at h;rcases g with w|w
  .rw[w,e]at h;cases h
  .rw[w]at h;cases h
noncomputable abbrev jM(X:ao)(e:Ti)(bP:List (Tu×UK)):ao:={ X with A:=X.A.mark (Z e),calm:=Th,bP:=bP,aV:=λ_ _=>False }
noncomputable abbrev iP(X:ao)(bP:List (Tu×UK))(E:Ti->Tq->Prop):ao:={ X with bP:=bP,aV:=E }
def MM(I:Inv X pins σ H s)(a:∀p∈b,s.heap.get? p.1=Z p.2/\H p.1=Y/\p.1≠X.env.locals/\p.1∉X.bp/\∀v,p.2.data≠.cell v):Inv (jM X e b) [] σ H s :=
 ⟨⟨I.ok.mod,I.ok.kind,I.ok.glob,I.ok.blt,I.ok.above,I.ok.inj,I.ok.has,I.ok.kA,(λz=>nomatch z),I.ok.frames,I.ok.i7,I.ok.oo,I.ok.bs,I.ok.iC,I.ok.i0,I.ok.jE,I.ok.fT,I.ok.jH⟩,I.os,I.bare,I.base,I.loc,I.cell,I.free,I.el,λp q=>a p ⇑q,I.aJ,I.len⟩
def H3(a:X.Ok)(I:Inv (jM X e d) f σ H s)(b:∀p∈X.bP++pins,p∈d):Inv X pins σ H s :=
 ⟨a,I.os,I.bare,I.base,I.loc,I.cell,I.free,I.el,λp q=>I.pin p (OG _ (b p q)),I.aJ,I.len⟩
def MN(I:Inv X pins σ H s)(a:∀p∈b,p∈X.bP++pins):Inv (iP X b E) [] σ H s :=
 ⟨⟨I.ok.mod,I.ok.kind,I.ok.glob,I.ok.blt,I.ok.above,I.ok.inj,I.ok.has,I.ok.kA,I.ok.hd,I.ok.frames,I.ok.i7,I.ok.oo,I.ok.bs,I.ok.iC,I.ok.i0,I.ok.jE,I.ok.fT,I.ok.jH⟩,I.os,I.bare,I.base,I.loc,I.cell,I.free,I.el,λp q=>I.pin p (a p ⇑q),I.aJ,I.len⟩
def mQ(a:X.Ok)(I:Inv (iP X d E) e σ H s)(b:∀p∈X.bP++pins,p∈d):Inv X pins σ H s :=
 ⟨a,I.os,I.bare,I.base,I.loc,I.cell,I.free,I.el,λp q=>I.pin p (OG _ (b p q)),I.aJ,I.len⟩
def eM.o4(I:Inv X pins σ H s)(h:eM X pins H a):a∉X.bp:=λb=>by
 rcases h.2.1 with z|z
 .exact I.ok.jE a z b
 .obtain⟨_,o,d,_⟩:=I.ok.fT.mem b;rw[z]at d;cases d
def eM.HT(I:Inv X pins σ H s)(h:eM X pins H a):a∉dB X.stack:=λb=>by
 rcases N3.mp (I.j7 a b) with z|z
 .exact h.2.2.1 z
 .exact eM.o4 I h z
def uE(X:ao)(cl:Nat->Option Tu)(e:List WY):Prop:=∀(pins:List (Tu×UK))(s:Tq)(σ:aQ)(H:ah)(T:Ends)(d:Ti)(l:List Tu),Inv X pins σ H s->(∀a∈l,eM X pins H a)->bb.bC cl 1 d l s.heap->(∀b,aD H b->T.bt .az b) ->
 Ts (Tw X.prog X.w) X.A (handleBy d X.env e) (js X pins T) X.aV s
def yG(I:Inv X pins σ H s)(e:eM X pins H b)(f:d.data=.fields h)(g:s.heap.get? b=Z d):Inv (jM X (.ref b) (X.bP++pins++[(b,d)])) [] σ H s:=MM I λp a=>by
 rcases Oz.mp a with a|a
 .exact I.pin p a
 .obtain rfl:p=(b,d):=⇑a;exact⟨g,e.1,e.2.2.1,eM.o4 I e,λv=>by show d.data≠_;rw[f];exact λz=>nomatch z⟩
section
variable{k:Nat}{D:Tu}{aF:Ui}{st:List Ui}{sl:Vb}(O:jr X.K X.base cl up C)(nW:kl X.aj X.base cl k x D)(wX:(up 1).contains k=J)(wW:b9 X x)(wV:(x==("__debug__":Tz))=Th)
include O nW wX wW wV
def Fb(ay:X.N.Nodup)(Q:X.N[j]?=Z n)(A:X.env.scope.names.lookup n=Z .local)(aw:∀(d:Tu)(e:UK)(i:Array Ti)(S:List (Tu×UK)),e.cls=.ref C->e.data=.fields i->i[2]?=Z .none->(d,e)∈S->d4 (jM X (.ref d) S) (aF::st) (z2 j d .az)):uE X cl [.ExceptHandler (Z (.Name x np)) (Z n) (aF::st) sl]:=by
 intro pins s σ H T cv l I h R fin;have ba:=R;obtain⟨d,U,e,i,rfl,b2,t,L,r,h2,M⟩:=R.core;obtain rfl:U=C:=OI (b2.symm.trans O.at_);obtain⟨de,cq,c4,b0,bm,N,nm,q,bs,hdct,sn,sub,ab,col,dd,k0,k1,k2,k3,k5,mN,cu,cM,aq,cw,cN,bO,_,g⟩:=O.dU;obtain⟨_,_,_,_,_,_,_,_,_,_,_,_,_,_,_,_,_,au,a5⟩:=nW.dU;refine wpAny_handleBy_cons (codeAny_handlers_test (oQ (X:=jM X (.ref d) (X.bP++pins++[(d,e)])) (yG I (h d M) r t) wW nW.aj ?_ wV)) (by intro q;cases q);obtain⟨cH,a3,a2,tk,os⟩:=s;refine bb.Hd (I.eU _ _ aq) (I.eU _ _ au) t L a5 ((g k D nW.at_).trans wX) (codeAny_handlers_suite_as (bb.EI ba λa4 l1 y w=>?_));have a0:Inv X pins σ H { heap:=a4,gens:=a3,drawn:=a2,toks:=tk,os:=os }:=o5 (t':=tk) I (l:=l1) (λa b1=>h a (y a b1).1) (λb o q g _=>w b o q g) λb o q g=>⟨o.slots,w b o q λz=>eM.HT I (h b (y b z).1) g⟩
 refine pL (X:=jM X (.ref d) (X.bP++pins++[(d,e)])) (yG a0 (h d M) r (w d e t λz=>(y d z).2 rfl)) ay Q (.inl A) (v:=.ref d) rfl (λbl a1=>?_) (.inr A);refine O5 (aw d e i _ L r h2 (by simp) [] bl _ H { aS:=λ_ _=>False,bt:=λv B=>v=.az/\aD H B } a1 ⟨?_,λB z=>⟨rfl,z⟩⟩) (λf df q=>?_) λ_ _ z=>z.elim
 .have a9:j<σ.length:=(by rw[I.len];exact(Og.mp Q).1);exact lj a9
 .cases f with
  |ret u =>
   obtain⟨v,dy,E,G,bj,rfl,bq⟩:=q;obtain⟨m,a6,_⟩:=id G.loc;refine wpAny_nameGoes (env:=X.env) (m:=m) A a6 (by rw[I.ok.kind];rfl) λcL dc bc a7=>?_
   exact⟨.az,_,E,EM (H3 I.ok G λp sl=>OG _ sl) bc a7,bj,fin E bq⟩
  |next=>obtain⟨_,_,_,z⟩:=q;exact z.elim
  |brk=>obtain⟨_,_,_,z⟩:=q;exact z.elim
  |cont=>obtain⟨_,_,_,z⟩:=q;exact z.elim
end
abbrev kU(a d e:ah):ah:=λb=>match a b with
 |some o=>Z o
 |none=>match d b,e b with
  |none,Z (.tup xs)=>Z (.tup xs)
  |_,_=>Y
set_option tactic.hygienic true in
theorem Ex (f:aD d qk) (h2:aD a qk):Ext a d (kU a d qk) qk:=by
 refine⟨λb o e=>by unfold kU;rw[e],f,λb o e=>?_,λb i j=>?_,λb xs e=>?_⟩
 .unfold kU at e;cases q:a b with
  |some k=>rw[q]at e;cases e;exact h2 b _ q
  |none =>
   rw[q]at e;dsimp only at e
   split at e
   .rename_i xs _ h;cases e;exact h
   .cases e
 .unfold kU;rw[i];dsimp only
  split
  .rename_i q _;exact absurd q j
  .rfl
 .cases q:d b with
  |some o=>have:=f b o q;rw[e]at this;cases this;exact .inl rfl
  |none =>
   refine .inr ?_;unfold kU;cases g:a b with
   |some o=>have:=h2 b o g;rw[e]at this;cases this;rfl
   |none=>rw[q,e]
def zr(O:X.stack=X.env::X.outer/\X.env.frame=Z X.env.locals)(bq:∀(aw:List (Tu×UK))(E:Ti->Tq->Prop),bA (iP X aw E) a (bz (bb.bC cl) (iP X aw E) aa λk=>ζ.ex pg Φ k Q))(cu:∀c,c≠1->ζ.fQ pg c k0 N=.bad)(R:ζ.fQ pg 1 k0 N=.bad\/ζ.fQ pg 1 k0 N=.ok (.bt .az)/\uE X cl [h0]):
  bA X (.Try [a] [h0] [] [] pos) (bz (bb.bC cl) X aa λk=>ζ.ex pg Φ k (.jc Q k0 N)):=by
 rintro pins s σ H T I ⟨i,m,G,k,d,hw⟩;refine wpAny_Try_except ?_;have a2:∀(M w:ah)(L:Ti->Tq->Prop),bY X.K aa M w G H k σ->aO (ζ.ex pg Φ k Q) (e6 X.K aa M w T) (λc=>cG (bb.bC cl) (iP X (X.bP++pins) L) c w) ->
   Ts (Tw X.prog X.w) X.A (execs [a] X.env) (λf a0=>match f with|.next=>Ts (Tw X.prog X.w) X.A (execs [] X.env) (js X pins T) X.aV a0|f=>js X pins T f a0) L s:=λM w L bl b0=>by
  refine O5 (yL (bq (X.bP++pins) L) [] s σ H T (MN I λ_ z=>z) ⟨M,w,G,k,bl,b0⟩) (λf a0 q=>?_) λ_ _ q=>q
  cases f with
  |next=>obtain⟨j,g,h,q⟩:=q;exact QX ⟨j,g,mQ I.ok h λ_ z=>z,q⟩
  |ret u=>obtain⟨v,j,g,h,r,q⟩:=q;exact⟨v,j,g,mQ I.ok h λ_ z=>z,r,q⟩
  |brk=>obtain⟨j,g,h,q⟩:=q;exact⟨j,g,mQ I.ok h λ_ z=>z,q⟩
  |cont=>obtain⟨j,g,h,q⟩:=q;exact⟨j,g,mQ I.ok h λ_ z=>z,q⟩
 dsimp only at hw;rw[ζ.wc]at hw;replace hw:aO (ζ.pV pg (ζ.ex pg Φ k Q) k0 N) (e6 X.K aa i m T) (λc=>cG (bb.bC cl) X c m):=hw;cases q:ζ.ex pg Φ k Q with
 |ok r =>
  rw[q,ζ.Aj]at hw;exact a2 i m _ d (by rw[q];exact hw)
 |bad=>rw[q]at hw;exact hw.elim
 |exc c =>
  rw[q,ζ.Ai]at hw
  by_cases a3:c=1
  .subst a3;rcases R with S|⟨S,R⟩
   .rw[S]at hw;exact hw.elim
   rw[S]at hw;have a7:aD i (e7 i m):=λb o e=>iS e
   have ba:aD m (e7 i m):=λb o e=>by
    cases z:i b with
    |none=>rw[gd z];exact e
    |some U =>
     have e1:=d.ext.sub b U (d.ext.g b U z);rw[d.ext.h b o e]at e1;cases e1;exact iS z
   have bj:bY X.K aa i (e7 i m) G H k σ:=by
    refine⟨d.aY,⟨d.ext.g,λb o e=>?_,d.ext.sub,λb A B=>?_,λb xs e=>.inr (d.aY.cV b xs e)⟩,λaq ds b A aF B b1=>?_⟩
    .cases z:i b with
     |none=>rw[gd z]at e;exact d.ext.h b o e
     |some U=>rw[iS z]at e;cases e;exact d.ext.sub b _ (d.ext.g b _ z)
    .rw[gd A]at B;exact d.ext.new b A B
    .obtain⟨cw,xs,k1,k2,k3,cH⟩:=d.aY.lst aq ds A B aF;rw[k1]at b1;cases b1;rw[gd (d.ext.g.free k3)];exact d.own aq ds _ A aF B k1
   refine a2 i (e7 i m) _ bj ?_;rw[q];intro cN j g s' a6 l b2 ay y cv;have h:Inv X pins j g s':=mQ I.ok b2 λ_ z=>z
   have au:∀a∈l,eM X pins g a:=λa t=>⟨(y a t).1,(y a t).2.1,(y a t).2.2.1,(y a t).2.2.2.1,λp bO=>(y a t).2.2.2.2 p (OG _ bO)⟩
   have e1:bb.fr (X.env::X.outer)=dB X.stack:=(by rw[O.1];rfl);refine bb.note (base:=X.base) (outer:=X.outer) (by rw[h.ok.frames,O.1]) (by rw[<- O.1];exact h.stack) O.2 cv λbc l1 cL cq a4 a5=>?_
   rw[e1]at a4 a5;have a9:Inv X pins j g { s' with heap:=bc }:=o5 (t':=s'.toks) h au a4 a5;have cM:∀a∈l1,eM X pins g a:=λa t=>(cq a t).elim (au a) λz=>.of h z (o8 h.aJ z)
   exact R pins _ j g T a6 l1 a9 cM cL λa1 s3=>hw .az (kU i m a1) a1 (Ex ((ba.trans ay).trans s3) ((a7.trans ay).trans s3)) rfl
  .rw[cu c a3]at hw;exact hw.elim
end
end aE
end
section
namespace aE
set_option tactic.hygienic true
open PySem PySem.Spec PyProof.Rows aC
def ka(h:ζ.fG x=Z (ts,y)):∃p,x=.Assign ts y p:=by
 cases x with
 |Assign a b p=>cases h;exact⟨p,rfl⟩
 |_=>exact nn h
def t4(h:ζ.pP x=Z y):∃p,x=.Expr y p:=by
 cases x with
 |Expr a p=>cases h;exact⟨p,rfl⟩
 |_=>exact nn h
def ny(h:ζ.gO x=Z y):∃p,x=.Return y p:=by
 cases x with
 |Return a p=>cases h;exact⟨p,rfl⟩
 |_=>exact nn h
def z3(h:ζ.nv x=Z (t,a,b)):∃p,x=.If t a b p:=by
 cases x with
 |If t a b p=>cases h;exact⟨p,rfl⟩
 |_=>exact nn h
def LX(h:ζ.nu x=Z (t,c,a,b)):∃p,x=.For t c a b p:=by
 cases x with
 |For t c a b p=>cases h;exact⟨p,rfl⟩
 |_=>exact nn h
structure ij(xp:bR)(g:ζ.Gt)(pg:ζ.ck)(K:W.Frag)(aj:Tz->Option Ti)(base:TU):Prop where
 ex:∃cl C,xp=bb.bC cl/\(∀(c:Nat)(x:Tz),g.cls[c]?=Z x->∃C,kl aj base cl c x C)/\jr K base cl pg.up C
 lo:∀k,k<2->(pg.up 1).contains k=J
 ke:aj "ValueError"=Y
structure hx(xp:bR)(g:ζ.Gt)(pg:ζ.ck)(X:ao)(ct:ζ.bw):Prop where
 cls:ij xp g pg X.K X.aj X.base
 i7:X.stack=X.env::X.outer/\X.env.frame=Z X.env.locals
 loc:∀x,ζ.gf ct.sc x=J->Loc X.env.scope x
 fn:∀x,X.fn x=J
 pass:WK (Tw X.prog X.w) X.A X.env X.aV
section
variable{xp:bR}{k:Nat}{g:ζ.Gt}{pg:ζ.ck}{Φ:ζ.c2}
def Cy(h:ζ.a8 g ct v e (.ListComp x i f pos)=J):∃a j s c t d b xs,e=.comp a j s c/\i=[⟨t,d,b,0⟩]/\ζ.dh j t=Z xs /\
  ((!ζ.i2 s||j==2)&&ζ.lU ct f xs&&ζ.gC g ct J s d&&ζ.a8 g ⟨ζ.mask ct.N xs++xs,f,ct.aa⟩ Th a x&&ζ.jz g ⟨ζ.mask ct.N xs++xs,f,ct.aa⟩ c b)=true:=by
 cases e with
 |comp a j s c =>
  conv at h=>lhs;whnf
  split at h
  .rename_i n t d b m e1;obtain⟨p,e2⟩:=Ay e1;cases e2
   split at h
   .rename_i xs l;exact⟨a,j,s,c,t,d,b,xs,rfl,rfl,l,h⟩
   .cases h
  .cases h
 |_=>exact(OL h).elim
def CV(x):(∃y a b pos,x=.ListComp y a b pos)\/ζ.mM x=true:=by
 cases x<;>first|exact .inr rfl|exact .inl ⟨_,_,_,_,rfl⟩
def Bm (b : bB xp k g pg Φ X ct) (H : ∀ x, ζ.gf ct.sc x = J -> Loc X.env.scope x) (C : ∀ x, X.fn x = J) (h : (ct.N[i]? == Z x && ζ.gf ct.sc x && ζ.okN x && (!ct.aa.contains i || ζ.f9 e) && ζ.a8 g ct Th e y) = J) :
    bA X (.Assign [.Name x p] y pos) (bz xp X ct.aa fun a => ζ.ex pg Φ a (.asg i e)) := by
  simp only [N0, OJ, P0, OY] at h
  obtain ⟨⟨⟨⟨w, h2⟩, h3⟩, h4⟩, h5⟩ := h
  have l : X.N.Nodup := by rw [b.nm]; exact b.eE
  have hi : X.N[i]? = Z x := by rw [b.nm]; exact w
  have q := H x h2
  have m : X.fn x = J \/ X.env.scope.names.lookup x = Z .local := .inl (C x)
  rcases CV y with ⟨z, S, a0, Q, rfl⟩ | A
  · obtain ⟨f, j, s, c, t, U, T, xs, rfl, rfl, u, G⟩ := Cy h5
    obtain ⟨B, I, L, M, N, O⟩ := uX (pos := Q) (jw (xp := xp) (k := k) (pg := pg) (Φ := Φ) (sizeOf (ζ.E.comp f j s c))) b (by simp only [ζ.E.comp.sizeOf_spec]; lia) u G
    have e1 : (fun a => ζ.ex pg Φ a (.asg i (.comp f j s c))) = fun a => (ζ.eA pg Φ a s >>= fun ds => ζ.bf (eZ j (fun a => ζ.hI pg Φ a c) (fun a => ζ.ev pg Φ a f) a) ds >>= fun ys => .ok (.lst ys)) >>= fun d => .ok (.aS (a.set i (Z d))) := by
      funext a
      have := congrFun O a
      rw [ζ.wb]
      rw [this]
    rw [e1]
    obtain ⟨R, rfl⟩ := b.nK
    exact J5 b.hL b.calm (by rw [b.nm]; exact b.aa) B u I L M N l hi q m
  · have r := gh b h5
    have v := pM (t := Z (.Name x p)) (n := pos.line) (env := X.env) (cA h5) A
    by_cases o : i ∈ ct.aa
    · have E : ζ.f9 e = true := by
        rcases h4 with h4 | h4
        · rw [O9.mpr o] at h4; cases h4
        · exact h4
      exact zi o l hi q (r.fresh E) v m
    · exact zh o l hi q r.val v m
def uW(a:bB xp k g pg Φ X ct)(c:∀x,ζ.gf ct.sc x=J->Loc X.env.scope x)(b:∀x,X.fn x=J){st:Ui}(h:ζ.n6 g ct i e st=J):
  bA X st (bz xp X ct.aa λd=>ζ.ex pg Φ d (.asg i e)):=by
 unfold ζ.n6 at h;rcases e1:ζ.fG st with _|⟨_|⟨t,_|⟨_,_⟩⟩,y⟩<;>rw[e1]at h<;>first|(cases h;done)|dsimp only at h
 .obtain⟨pos,rfl⟩:=ka e1
  split at h
  .rename_i x e2;obtain⟨p,rfl⟩:=dH e2;exact Bm a c b h
  .cases h
def uZ{st:Ui}(h:ζ.n9 g ct i e nm st=J):∃x n a y p1 b p4,st=.Expr (.Call (.Attribute (.Name x p1) n a) [y] [] b) p4/\(a.endLine==b.line)=J/\ct.N[i]?=Z x/\ζ.gp ct.sc x=J/\ζ.okN x=J/\i∈ct.aa/\n=nm/\ζ.a8 g ct Th e y=true:=by
 unfold ζ.n9 at h
 split at h
 .rename_i c e1;obtain⟨pos,rfl⟩:=t4 e1
  split at h
  .rename_i x n a y e2;obtain⟨p1,b,rfl⟩:=M9 e2;simp only[N0,OJ]at h;obtain⟨⟨⟨⟨⟨⟨h0,d⟩,h2⟩,h3⟩,h4⟩,h5⟩,f⟩:=h;have h0:a.endLine=b.line:=h0;exact⟨x,n,a,y,p1,b,pos,rfl,⇑h0,d,h2,h3,O9.mp h4,h5,f⟩
  .cases h
 .cases h
def Ma(h:ζ.z4 x=Z y):∃p,x=.Raise (Z y) Y p:=by
 cases x with
 |Raise e c p =>
  rcases e with _|e<;>rcases c with _|c<;>first|(cases h;done)|skip
  cases h;exact⟨_,rfl⟩
 |_=>exact nn h
def Md(q:ζ.t7 x=Z (a,h,e,f)):∃p,x=.Try a h e f p:=by
 cases x with
 |Try a h e f p=>cases q;exact⟨p,rfl⟩
 |_=>exact nn q
def Bx(d:bB xp k g pg Φ X ct)(i:hx xp g pg X ct){st:Ui}(h:ζ.rp g ct c st=J):bA X st (bz xp X ct.aa λm=>ζ.ex pg Φ m (.raise c)):=by
 unfold ζ.rp at h
 split at h
 .rename_i y e1;obtain⟨pos,rfl⟩:=Ma e1
  split at h
  .rename_i x a e2;obtain⟨q,o,rfl⟩:=fI e2
   split at h
   .rename_i t e3;obtain⟨j,p,rfl⟩:=uk e3;simp only[N0,OJ]at h;obtain⟨⟨⟨rfl,f⟩,h2⟩,h3⟩:=h;obtain⟨n,C,rfl,l,O⟩:=i.cls.ex;obtain⟨e,b⟩:=l 1 x f;obtain rfl:e=C:=OI (b.at_.symm.trans O.at_);exact KH b O d.calm (d.kK h2) (d1 h3).1
   .cases h
  .cases h
 .cases h
abbrev L9(i:Nat):TE:=λb H Q=>b[i]?=Z (Z (V.ag J))/\∀a,aD H a->Q .az a
def IL{X:ao}{g:ζ.Gt}{ct:ζ.bw}{e:Nat->Option Tu}{z:TG}{y:Tz}(o:nS X g ct e)(u:X.N[i]?=Z y)(t:dN X.env.scope y)(r:ζ.okN y=J)(h:ζ.rn g ct y z=J):
  ai X z (L9 i):=by
 unfold ζ.rn at h;rcases e1:ζ.kd z with _|⟨l,w⟩<;>rw[e1]at h
 .cases h
 obtain⟨p1,rfl⟩:=nI e1;dsimp only at h;rcases e2:ζ.nH l with _|_|⟨a,_|⟨b,_|⟨_,_⟩⟩⟩<;>rw[e2]at h<;>first|(cases h;done)|dsimp only at h
 obtain⟨p2,rfl⟩:=uq e2;rcases e3:ζ.p6 a with _|_|⟨_,_⟩<;>rcases e4:ζ.nG b with _|d<;>rw[e3,e4]at h<;>first|(cases h;done)|skip
 obtain⟨v,p3,rfl⟩:=AB e3;cases d<;>first|(cases h;done)|skip
 obtain⟨x,p4,rfl⟩:=uk e4;dsimp only at h;rcases e5:ζ.d2 w with _|⟨f,_|⟨c,_|⟨_,_⟩⟩⟩<;>rw[e5]at h<;>first|(cases h;done)|dsimp only at h
 obtain⟨p5,C,rfl⟩:=fI e5;simp only[N0,OJ]at h;obtain⟨⟨rfl,h2⟩,h3⟩:=h;obtain⟨E,rfl⟩:=dH h3;obtain⟨m,n,O⟩:=d1 r;obtain⟨b1,b2⟩:=o.ag _ h2 ∅;rintro G s N H Q I ⟨L,M⟩;refine yt xf (tp (fv (yy (x1:=v) (pos:=p3) hc) (fv (yv (j:=x) (pos:=p4)) hc))) (yp (pos:=C) (p:=p5) vd b1 b2 (show Ub "int"=Z (.type "int") by kernel_rfl) (fv (eG (pos:=E) u t m n) hc) ∅ ∅ rfl rfl) (λ_ _=>rfl) G s N H Q I ?_;refine⟨Od _,λp A=>⟨by rw[TL];show 2<=16777216;decide,λq B=>⟨_,L,.inr ⟨J,rfl,.inl ⟨q,[.ref p,.az],1,.az,rfl,rfl,cb.of bE,rfl,?_⟩⟩⟩⟩⟩;exact M _ ((du A).trans (du B))
def Jr(O:jr X.K X.base au up C)(a:nS X g ct au)(e:(q,R)∈X.bP)(t:R.cls=.ref C)(df:R.data=.fields iN)(h2:iN[2]?=Z .none)(cH:X.A.handled=Z (.ref q))(nm:X.N=ct.N)(Q:X.N.Nodup)(N:∀x,ct.sc.names.lookup x=Z .local->X.env.scope.names.lookup x=Z .local)(u:X.N[j]?=Z n)(dz:X.env.scope.names.lookup n=Z .local)(v:ζ.okN n=J)(h:ζ.rl g ct j i g' n G k5 dY g1 kI iM=J)(z:ζ.oB up G k5 dY=J):
  i≠j/\i<X.N.length/\d4 X [g1,kI,iM] (z2 j q .az):=by
 unfold ζ.rl at h
 split at h
 .rename_i su l e1;obtain⟨p1,rfl⟩:=ka e1
  split at h
  .rename_i x e2;obtain⟨p2,rfl⟩:=dH e2
   split at h
   .rename_i wZ e3;obtain⟨p3,rfl⟩:=uq e3
    split at h
    .rename_i sv y e4;obtain⟨p4,rfl⟩:=ka e4
     split at h
     .rename_i iO aF;obtain⟨sq,rfl⟩:=dH aF
      split at h
      .rename_i sx sy wY a3 e5;obtain rfl:=nD e5
       split at h
       .rename_i w a9;obtain⟨p5,rfl⟩:=uu a9
        split at h
        .rename_i f c a6;obtain⟨e0,fk,rfl⟩:=fI a6
         split at h
         .rename_i r bc;obtain⟨sr,rfl⟩:=ny bc;simp only[N0,OJ,bne_iff_ne,Ov]at h;obtain⟨⟨⟨⟨⟨⟨⟨⟨⟨⟨⟨⟨⟨⟨⟨⟨b,cu⟩,h3⟩,h4⟩,h5⟩,bO⟩,b0⟩,rfl⟩,cw⟩,ba⟩,bj⟩,d⟩,bl⟩,bq⟩,mm⟩,sm⟩,cq⟩:=h;obtain⟨f0,rfl⟩:=dH ba;have A:dN X.env.scope n:=.inl dz;have B:=N x cu;have E:=N iO bl;rw[<- nm]at b d;have M:i<X.N.length:=(Og.mp b).1;have dy:g'<X.N.length:=(Og.mp d).1;obtain⟨aw,ay,h0⟩:=d1 h3;obtain⟨b1,b2⟩:=a.ag _ cw ∅;have iJ:=yj O a e t u A v h5;obtain⟨f4,m5⟩:=tn O a e t u A v bO;obtain⟨iK,so⟩:=tn O a e t u A v b0;have fR:=mT (pos:=fk) (p:=e0) (Bh e cH df h2) b1 b2 (show Ub "any"=Z (.builtin "any") by kernel_rfl) (fv (eG (pos:=f0) b (.inl B) aw ay) hc) ∅ ∅ rfl rfl;have f6:=tl (pos:=a3) f4 (tl iK (tq (yw (pos:=p5) fR)));have f8:=IL a d (.inl E) bq cq;unfold ζ.oB at z;simp only[N0]at z;obtain⟨a4,a5,aq⟩:=z;refine⟨h4,M,λf1 s m H T I ⟨S,f2⟩=>?_⟩;refine tx (kY Q b (.inl B) (tp iJ) rfl (.inr B)) (tx (kY Q d (.inl E) f6 rfl (.inr E)) (yL (mX f8))) f1 s m H T I ?_;refine⟨S,λjI s3=>⟨by rw[Tj];exact Ol bj ∅,λp d6=>?_⟩⟩;have dP:i<m.length:=(by rw[I.len];exact M);have L:(m.set i (Z (V.ref p)))[j]?=Z (Z (V.ref q)):=(by rw[cT h4];exact S);have a7:(m.set i (Z (V.ref p)))[i]?=Z (Z (V.ref p)):=lj dP;have f7:=s3.trans (du (o:=.lst (G.map λk=>V.ag ((up 1).contains k))) d6);refine⟨L,λa1 U=>⟨_,rfl,?_⟩⟩;have cN:cb X.K a1 p ((G.map λk=>(up 1).contains k).map V.ag):=cb.of (by rw[T2];exact U _ _ bE);rw[a4,if_pos rfl];refine⟨L,λjJ a0=>⟨_,rfl,?_⟩⟩;rw[a5,if_pos rfl];refine⟨_,a7,p,_,rfl,hn a0 cN,_,rfl,?_⟩;rw[aq];refine⟨lj (by rw[PN,I.len];exact dy),λa2 fp=>?_⟩;exact f2 a2 (((f7.trans U).trans a0).trans fp)
         .cases h
        .cases h
       .cases h
      .cases h
     .cases h
    .cases h
   .cases h
  .cases h
 .cases h
def Cw(h:ζ.rj g ct b t=J):∃x a,t=.Name x a/\g.cls[b]?=Z x/\ζ.gb ct.sc x=J/\ζ.okN x=true:=by
 unfold ζ.rj at h
 split at h
 .rename_i x e1;obtain⟨a,rfl⟩:=dH e1;simp only[N0,OJ]at h;exact⟨x,a,rfl,h.1.1,h.1.2,h.2⟩
 .cases h
def uY(a:bB xp k g pg Φ X ct){st:Ui}(h:ζ.n7 g ct e st=J):bA X st (bz xp X ct.aa λb=>ζ.ex pg Φ b (.expr e)):=by
 unfold ζ.n7 at h
 split at h
 .rename_i y e1;obtain⟨pos,rfl⟩:=t4 e1;rw[N0]at h;exact Kk (gh a h.2).view (pM (cA h.2) h.1)
 .cases h
theorem qF(d:bB xp k g pg Φ X ct)(j:∀x,ζ.gf ct.sc x=J->Loc X.env.scope x)(f:∀x,X.fn x=J):∀(l:ζ.S){st:Ui},ζ.oa g ct l st=J->bA X st (bz xp X ct.aa λm=>ζ.ex pg Φ m l)
 |.expr e,_,h=>uY d h
 |.asg i e,_,h=>uW d j f h
 |.iff c (.cons a .nil) (.cons b .nil),st,h=>by
  conv at h=>lhs;whnf
  rcases e1:ζ.nv st with _|⟨t,_|⟨x,_|⟨_,_⟩⟩,_|⟨y,_|⟨_,_⟩⟩⟩<;>rw[e1]at h<;>first|(cases h;done)|dsimp only at h
  .obtain⟨pos,rfl⟩:=z3 e1;simp only[N0]at h;exact zk (gh d h.1.1).pt (tL (qF d j f a h.1.2) tM) (tL (qF d j f b h.2) tM)
def BA(b:bB xp k g pg Φ X ct)(e:hx xp g pg X ct){st:Ui}(h:ζ.ru g ct y j f st=J):bA X st (bz xp X ct.aa λp=>ζ.ex pg Φ p (.jc y j f)):=by
 unfold ζ.ru at h;rcases e3:ζ.t7 st with _|⟨_|⟨a,_|⟨_,_⟩⟩,_|⟨N,_|⟨_,_⟩⟩,_|⟨_,_⟩,_|⟨_,_⟩⟩<;>rw[e3]at h<;>first|(cases h;done)|dsimp only at h
 .obtain⟨pos,rfl⟩:=Md e3;simp only[N0,Ov]at h;obtain⟨⟨h2,h3⟩,h4⟩:=h;obtain⟨A,C,rfl,r,O⟩:=e.cls.ex;have s:=e.cls.lo j h3;have B:∀(i:List (Tu×UK))(E:Ti->Tq->Prop),bA (iP X i E) a (bz (bb.bC A) (iP X i E) ct.aa λp=>ζ.ex pg Φ p y):=λi E=>qF (X:=iP X i E) ⟨b.bJ,b.room,b.units,b.calm,b.nm,b.eE,b.aa,b.lc,b.lW,b.gl,b.nK,b.hL⟩ e.loc e.fn _ h2
  have w:X.N.Nodup:=(by rw[b.nm];exact b.eE);have v:∀c,c≠1->ζ.fQ pg c j f=.bad:=λc M=>by unfold ζ.fQ;rw[beq_false_of_ne M];rfl
  cases l:ζ.oB pg.up f.aX f.k5 f.mA with
  |false=>exact zr e.i7 B v (.inl (by unfold ζ.fQ;rw[l,TR,TR];rfl))
  |true =>
   have R:ζ.fQ pg 1 j f=.ok (.bt .az):=(by unfold ζ.fQ;rw[s,l];rfl);obtain⟨t,nm,body,a3⟩:=N;unfold ζ.vq at h4
   split at h4
   .rename_i t' e5;have e5:t=Z t':=e5;subst e5;simp only[N0]at h4;obtain⟨h5,d⟩:=h4;obtain⟨x,a4,rfl,H,I,L⟩:=Cw h5;obtain⟨D,z⟩:=r j x H;replace d:ζ.rm g ct f nm body=true:=d;unfold ζ.rm at d
    split at d
    .rename_i n;simp only[N0,OJ]at d;obtain⟨⟨⟨m,S⟩,T⟩,o⟩:=d
     split at o
     .rename_i aq au aw;have u:=b.lc n S;rw[<- b.nm]at m;exact zr e.i7 B v (.inr ⟨R,Fb O z s (b.kK I) (d1 L).1 w m u λG a5 ay i U a0 a1 a2=>(Jr (X:=jM X (.ref G) i) (g:=g) (ct:=ct) O ⟨λx q=>b.kK q,λx q Q=>b.blt q Q,e.cls.ke,r⟩ a2 U a0 a1 rfl b.nm w b.lc m u T o l).2.2⟩)
     .cases o
    .cases d
   .cases h4
theorem vr:∀{ts:List Nat}{xs:List Tz},ζ.kD ct ts xs=J->ts.length=xs.length/\(∀t∈ts,t∉ct.aa)/\∀(j i:Nat) y,ts[j]?=Z i->xs[j]?=Z y->ct.N[i]?=Z y/\ζ.gf ct.sc y=J
 |[],[],_=>⟨rfl,by simp,λj i y e=>by simp at e⟩
 |[],_::_,h=>by unfold ζ.kD at h;cases h
 |_::_,[],h=>by unfold ζ.kD at h;cases h
 |t::ts,x::xs,h=>by
  unfold ζ.kD at h;simp only[N0,OJ,OY]at h;obtain⟨⟨⟨⟨a,h2⟩,h3⟩,h4⟩,h5⟩:=h;obtain⟨b,c,d⟩:=vr h5;refine⟨by simp[b],λz hz=>?_,λj i y e1 e2=>?_⟩
  .rcases N3.mp hz with rfl|hz
   .intro w;rw[O9.mpr w]at h4;cases h4
   .exact c z hz
  .cases j with
   |zero=>simp at e1 e2;subst e1 e2;exact⟨a,h2⟩
   |succ j=>exact d j i y ⇑e1 ⇑e2
variable(xp k g pg Φ) in
structure dI (n:Nat):Prop where
 s:∀(s:ζ.S)(st:Ui)(ct:ζ.bw)(X:ao),sizeOf s<n->bB xp k g pg Φ X ct->hx xp g pg X ct->ζ.rr g ct s st=J->bA X st (bz xp X ct.aa λae=>ζ.ex pg Φ ae s)
 b:∀(b:ζ.B)(st:List Ui)(ct:ζ.bw)(X:ao),sizeOf b<n->bB xp k g pg Φ X ct->hx xp g pg X ct->ζ.gB g ct b st=J->d4 X st (bz xp X ct.aa λae=>ζ.cY pg Φ ae b)
variable{n:Nat}
def Bo(a:bB xp k g pg Φ X ct)(c:hx xp g pg X ct){st:Ui}(h:ζ.kC ct i st=J):bA X st (bz xp X ct.aa λae=>ζ.ex pg Φ ae (.md i)):=by
 unfold ζ.kC at h;rcases e1:ζ.fG st with _|⟨_|⟨t,_|⟨_,_⟩⟩,y⟩<;>rw[e1]at h<;>first|(cases h;done)|dsimp only at h
 .obtain⟨pos,rfl⟩:=ka e1
  split at h
  .rename_i x e2;obtain⟨p1,rfl⟩:=dH e2;simp only[N0,OJ]at h;obtain⟨⟨⟨⟨d,h2⟩,h3⟩,h4⟩,h5⟩:=h;obtain⟨e,rfl⟩:=sF h5;exact Kg (O9.mp h4) (by rw[a.nm];exact a.eE) (by rw[a.nm];exact d) (c.loc x h2) (.inl (c.fn x))
  .cases h
def Bp(a:bB xp k g pg Φ X ct)(c:hx xp g pg X ct){st:Ui}(h:ζ.kC ct i st=J):bA X st (bz xp X ct.aa λae=>ζ.ex pg Φ ae (.me i)):=by
 unfold ζ.kC at h;rcases e1:ζ.fG st with _|⟨_|⟨t,_|⟨_,_⟩⟩,y⟩<;>rw[e1]at h<;>first|(cases h;done)|dsimp only at h
 .obtain⟨pos,rfl⟩:=ka e1
  split at h
  .rename_i x e2;obtain⟨p1,rfl⟩:=dH e2;simp only[N0,OJ]at h;obtain⟨⟨⟨⟨d,h2⟩,h3⟩,h4⟩,h5⟩:=h;obtain⟨e,rfl⟩:=sF h5;exact Kh (O9.mp h4) (by rw[a.nm];exact a.eE) (by rw[a.nm];exact d) (c.loc x h2) (.inl (c.fn x))
  .cases h
def Bq(a:bB xp k g pg Φ X ct){st:Ui}(h:ζ.rk g ct i j e st=J):bA X st (bz xp X ct.aa λae=>ζ.ex pg Φ ae (.mf i j e)):=by
 unfold ζ.rk at h;rcases e1:ζ.fG st with _|⟨_|⟨t,_|⟨_,_⟩⟩,v⟩<;>rw[e1]at h<;>first|(cases h;done)|dsimp only at h
 .obtain⟨pos,rfl⟩:=ka e1
  split at h
  .rename_i x y e2;obtain⟨p1,p2,p3,rfl⟩:=Az e2;simp only[N0]at h;obtain⟨⟨⟨p,h2⟩,h3⟩,h4⟩:=h;obtain⟨a1,a2,a3,a4⟩:=mL p;obtain⟨b1,b2,c,d⟩:=mU h2;obtain⟨f,l,_⟩:=d1 a3;obtain⟨m,o,_⟩:=d1 c;exact Kj a.units a4 d (by rw[a.nm];exact a1) (a.fK a2) f l (by rw[a.nm];exact b1) (a.fK b2) m o (gh a h4).val (pM (cA h4) h3)
  .cases h
def Mh(h:ζ.t8 x=Z (t,a,b)):∃p,x=.While t a b p:=by
 cases x with
 |While t a b p=>cases h;exact⟨p,rfl⟩
 |_=>exact nn h
def Bz(a:bB xp k g pg Φ X ct){st:Ui}(h:ζ.rt g ct i j e st=J):bA X st (bz xp X ct.aa λae=>ζ.ex pg Φ ae (.h6 i j e)):=by
 unfold ζ.rt at h;rcases e1:ζ.fG st with _|⟨_|⟨t,_|⟨_,_⟩⟩,v⟩<;>rw[e1]at h<;>first|(cases h;done)|dsimp only at h
 .obtain⟨pos,rfl⟩:=ka e1
  split at h
  .rename_i x y e2;obtain⟨p3,rfl⟩:=nI e2
   split at h
   .rename_i l e3;obtain⟨p1,rfl⟩:=dH e3;simp only[N0]at h;obtain⟨⟨⟨f,h3⟩,h4⟩,h5⟩:=h;obtain⟨a1,a2,a3,a4⟩:=mL f;obtain⟨c,d,_⟩:=d1 a3;exact KQ a4 (by rw[a.nm];exact a1) (a.fK a2) c d (gh a h4).val (gh a h5).view (pM (cA h4) h3)
   .cases h
  .cases h
def Bv(d:bB xp k g pg Φ X ct){st:Ui}(h:ζ.ro ct i st=J):bA X st (bz xp X ct.aa λae=>ζ.ex pg Φ ae (.pop i)):=by
 unfold ζ.ro at h
 split at h
 .rename_i c e1;obtain⟨p4,rfl⟩:=t4 e1
  split at h
  .rename_i m e2;obtain⟨f,rfl⟩:=pZ e2
   split at h
   .rename_i o p e e3;obtain rfl:=uj e3
    split at h
    .rename_i x e4;obtain⟨p1,rfl⟩:=dH e4;simp only[N0,OJ]at h;obtain⟨⟨h0,a⟩,h2⟩:=h;obtain⟨a1,a2,a3,a4⟩:=mL h2;obtain⟨j,l,_⟩:=d1 a3;have a:e.endLine=f.line:=a;exact s_pop a4 h0 (by rw[d.nm];exact a1) (d.fK a2) j l ⇑a
    .cases h
   .cases h
  .cases h
 .cases h
def By(a:bB xp k g pg Φ X ct){st:Ui}(h:ζ.rq g ct i e st=J):bA X st (bz xp X ct.aa λae=>ζ.ex pg Φ ae (.ps i e)):=by
 unfold ζ.rq at h
 split at h
 .rename_i y e1;obtain⟨pos,rfl⟩:=ny e1;simp only[N0]at h;have c:bB xp k g pg Φ X ⟨ct.N,ct.sc,ct.aa.filter λj=>!(j==i)⟩:={ a with aa:=λj d=>a.aa j (PY.mp d).1 };exact KN (O9.mp h.1) (gh c h.2).val
 .cases h
def LK(u:dI xp k g pg Φ n)(s)(st)(ct)(X)(r:sizeOf s<n+1)(d:bB xp k g pg Φ X ct)(f:hx xp g pg X ct)(h:ζ.rr g ct s st=J):bA X st (bz xp X ct.aa λae=>ζ.ex pg Φ ae s):=by
 cases s with
 |asg i e=>exact uW d f.loc f.fn h
 |app i e =>
  obtain⟨x,n,C,y,p1,I,p4,rfl,o,h2,h3,h4,h5,w,q⟩:=uZ (nm:="append") h;obtain⟨l,m,L⟩:=d1 h4;exact J4 h5 w (by rw[d.nm];exact h2) (d.fK h3) l m o (gh d q).val (d9 (cA q))
 |ret e =>
  conv at h=>lhs;whnf
  rcases e1:ζ.gO st with _|_|y<;>rw[e1]at h<;>first|(cases h;done)|dsimp only at h
  .obtain⟨pos,rfl⟩:=ny e1;exact KI (gh d h).val
 |m6 i =>
  conv at h=>lhs;whnf
  rcases e1:ζ.gO st with _|_|y<;>rw[e1]at h<;>first|(cases h;done)|dsimp only at h
  .obtain⟨pos,rfl⟩:=ny e1
   split at h
   .rename_i x e2;obtain⟨p1,rfl⟩:=dH e2;obtain⟨a1,a2,a3,a4⟩:=mL h;obtain⟨l,m,_⟩:=d1 a3;exact KL a4 (by rw[d.nm];exact a1) (d.fK a2) l m
   .cases h
 |tF i =>
  conv at h=>lhs;whnf
  rcases e1:ζ.gO st with _|_|y<;>rw[e1]at h<;>first|(cases h;done)|dsimp only at h
  .obtain⟨pos,rfl⟩:=ny e1
   split at h
   .rename_i x e2;obtain⟨p1,rfl⟩:=dH e2;obtain⟨a1,a2,a3,a4⟩:=mL h;obtain⟨l,m,_⟩:=d1 a3;exact KJ a4 (by rw[d.nm];exact a1) (d.fK a2) l m
   .cases h
 |md i=>exact Bo d f h
 |me i=>exact Bp d f h
 |mf i j e=>exact Bq d h
 |h6 i j e=>exact Bz d h
 |pop i=>exact Bv d h
 |ps i e=>exact By d h
 |qb c b =>
  conv at h=>lhs;whnf
  rcases e1:ζ.t8 st with _|⟨t,x,_|⟨_,_⟩⟩<;>rw[e1]at h<;>first|(cases h;done)|dsimp only at h
  .obtain⟨pos,rfl⟩:=Mh e1;simp only[N0]at h;exact KX f.pass (gh d h.1).pt (u.b b x ct X ↥r d f h.2) 200
 |raise c=>exact Bx d f h
 |expr e=>exact uY d h
 |jc b1 aF ay=>exact BA d f h
 |ext i e =>
  obtain⟨x,n,C,y,p1,I,p4,rfl,o,h2,h3,h4,h5,w,q⟩:=uZ (nm:="extend") h;obtain⟨l,m,L⟩:=d1 h4;exact Kl h5 w (by rw[d.nm];exact h2) (d.fK h3) l m o (gh d q).val (d9 (cA q))
 |iff c a b =>
  conv at h=>lhs;whnf
  split at h
  .rename_i t x y e1;obtain⟨pos,rfl⟩:=z3 e1;simp only[N0]at h;have aq:=u.b a x ct X ↥r d f h.1.2;have A:=u.b b y ct X ↥r d f h.2;exact zk (gh d h.1.1).pt aq A
  .cases h
 |fo j ts s b =>
  conv at h=>lhs;whnf
  rcases e1:ζ.nu st with _|⟨t,a5,x,_|⟨_,_⟩⟩<;>rw[e1]at h<;>first|(cases h;done)|dsimp only at h
  .obtain⟨pos,rfl⟩:=LX e1
   split at h
   .rename_i xs z;simp only[N0]at h;obtain⟨⟨⟨⟨h0,o⟩,_⟩,h3⟩,h4⟩:=h;have M:=And.intro h3 h4;obtain⟨E,G,H⟩:=vr o;have N:X.N.Nodup:=(by rw[d.nm];exact d.eE);have T:ζ.i2 s=J->∃v j p,t=.Tuple v j p:=λR=>by
     rw[R]at h0;have Q:j=2:=⇑h0;subst Q;cases t with
     |Tuple v j p=>exact⟨v,j,p,rfl⟩
     |_=>simp only[ζ.dh]at z;cases z
    have O:=yD d.calm N z E λj i y e1 e2=>by
     obtain⟨au,aw⟩:=H j i y e1 e2;exact⟨by rw[d.nm];exact au,f.loc y aw,.inl (f.fn y)⟩
    obtain⟨h3,h4⟩:=M;obtain⟨U,a0⟩:=(jw (xp:=xp) (k:=k) (g:=g) (pg:=pg) (Φ:=Φ) (sizeOf s+1)).i s a5 ct Th X t (PS _) d h3 T;have A:=u.b b x ct X ↥r d f h4;exact Km f.pass d.calm G U O A (set_plain a0)
   .cases h
def LH(e:dI xp k g pg Φ n)(b)(st)(ct)(X)(d:sizeOf b<n+1)(c:bB xp k g pg Φ X ct)(a:hx xp g pg X ct)(h:ζ.gB g ct b st=J):d4 X st (bz xp X ct.aa λae=>ζ.cY pg Φ ae b):=by
 unfold ζ.gB at h
 split at h
 .exact tM
 .rename_i s b x xs;simp only[N0]at h;have f:=e.s s x ct X ↥d c a h.1;have i:=e.b b xs ct X ↥d c a h.2;exact tL f i
 .cases h
theorem qz:∀n,dI xp k g pg Φ n
 |0=>⟨λ_ _ _ _ h=>⋯,λ_ _ _ _ h=>⋯⟩
 |n+1=>⟨LK (qz n),LH (qz n)⟩
def H8{st:List Ui}(c:bB xp k g pg Φ X ct)(a:hx xp g pg X ct)(h:ζ.gB g ct b st=J):d4 X st (bz xp X ct.aa λae=>ζ.cY pg Φ ae b):=(qz (sizeOf b+1)).b b st ct X (PS _) c a h
end
set_option tactic.hygienic false
end aE
end
section
namespace aE
open PySem PySem.Spec PyProof.Rows aC
def zV{ds:List D}{i:Nat}{d:D}(h:(ζ.start b ds)[i]?=Z (Z d)):ds[i]?=Z d/\i<ds.length:=by
 unfold ζ.start at h
 by_cases hi:i<ds.length
 .rw[Oh ⇑hi,Ot]at h;refine⟨?_,hi⟩;cases e:ds[i]? with
  |none=>rw[e]at h;cases h
  |some a=>rw[e]at h;cases h;rfl
 .rw[OP ⇑hi,Qq]at h
  split at h<;>cases h
def LF{i:Nat}(h:a[i]?=Z v):(aC.start N a)[i]?=Z (Z v):=by
 have hi:=(Og.mp h).1;unfold aC.start;rw[Oh ⇑hi,Ot,h];rfl
def Lq{K:W.Frag}(g:aD G H)(n:∀b xs,H b=Z (.tup xs)->G b=Z (.tup xs))(r:ax K G ds o)(s:N.length=c.np+c.nl)(p:ds.length=c.np)(m:∀i∈k,c.np<=i):
  bY K k G H G H (ζ.start c ds) (aC.start N o):=by
 have f:∀{i:Nat}{d:D},(ζ.start c ds)[i]?=Z (Z d)->i∈k->False:=λh q=>by
  have:=(zV h).2;have:=m _ q;lia
 refine⟨⟨?_,g,λi d h _=>?_,λi d h q=>(f h q).elim,λi d h q=>(f h q).elim,n,λi j d e a b h _ _ _ q=>(f h q).elim⟩,Ext.refl g,λi d a h _ q=>(f h q).elim⟩
 .unfold ζ.start aC.start;rw[N7,N7,Tj,Tj,QF,QF,<- r.length];lia
 .obtain⟨v,l,h2⟩:=r.get (zV h).1;exact⟨v,LF l,h2⟩
def nN(K:W.Frag)(d:Tz->Option Ti)(g:ζ.Gt)(fds:List ζ.hr)(f:Nat)(x:Tz):Prop :=
 ∃b N st a c,fds[f]?=Z b/\ζ.iE g N b st=J/\d x=Z (.ref a)/\aC.lE K x x st a c/\Binds K c ((eV st).args.map (·.arg)) []
section
variable{P:TV}{w:Ug}{K:W.Frag}{aj:Tz->Option Ti}{base:TU}{xp:bR}{g:ζ.Gt}{pg:ζ.ck}{fds:List ζ.hr}
set_option tactic.hygienic true in
theorem vp {st:Ui} (h:ζ.iE g N a st=J):((eV st).args.map (·.arg)).length=a.np/\qj N ((eV st).args.map (·.arg)) (eW st)/\N.length=a.np+a.nl/\(∀i∈ζ.gI a.body,a.np<=i/\i<N.length) /\
  ζ.gB g ⟨N,eW st,ζ.gI a.body⟩ a.body (hG st)=true:=by
 unfold ζ.iE at h
 split at h
 .rename_i name args body e bind pos;simp only[N0,OJ,OY,Oi,bne_iff_ne,ne_eq,Ov]at h;obtain⟨⟨⟨⟨⟨⟨⟨⟨⟨⟨⟨⟨⟨⟨⟨f,h2⟩,h3⟩,h4⟩,h5⟩,c⟩,_⟩,_⟩,_⟩,_⟩,_⟩,_⟩,k⟩,l⟩,m⟩,j⟩:=h;have d:(args.args.map (·.arg)).length=a.np:=(by rw[c,O1];lia);refine⟨d,⟨f,h2,h3,h4,?_,λx b=>?_,l⟩,h5,m,j⟩
  .show N.take (args.args.map (·.arg)).length=args.args.map (·.arg);rw[d,c]
  .have b:x∈args.args.map (·.arg):=b;rw[c]at b;have:=k x b;unfold ζ.gf at this;have this:e.names.lookup x=Z .local\/e.names.lookup x=Z .cell:=⇑this;exact this
 .cases h
def wB(q:ij xp g pg K aj base)(T:d5 P w K aj base xp n g pg (ζ.run pg fds n)){st:Ui}(e:fds[f]?=Z j)(X:ζ.iE g N j st=J)(F:aC.lE K x x st m a1):
  gQ P w K aj base (gu P w xp) (n+1) m a1 ((eV st).args.map (·.arg)) (j4 K (ζ.run pg fds (n+1) f) ((eV st).args.map (·.arg)).length):=by
 obtain⟨aF,S,aq,y,a4⟩:=vp X;have b2:∀ds,ζ.run pg fds (n+1) f ds=ζ.bV pg (ζ.run pg fds n) j ds:=λds=>by rw[ζ.m7,e]
 obtain⟨cv,cL,bH,b0,cw,bO,p,ct,cM,rfl,lk,aw⟩:=F.ex;refine EJ lk aw S (λcu H Q E h=>h.1) λA outer s H cu Q E B ⟨bc,G,ds,a9,cq,r,hw⟩=>?_
 have u:ds.length=j.np:=by rw[r.length,bc,aF]
 rw[b2]at hw;unfold ζ.bV at hw;rw[if_pos u]at hw;refine⟨bz xp (iF (gu P w xp) P w K aj base N x (eW st) m p A outer s H E) (ζ.gI j.body) λR=>ζ.cY pg (ζ.run pg fds n) R j.body,?_,?_⟩
 .refine H8 (ct:=⟨N,eW st,ζ.gI j.body⟩) (k:=n) (g:=g) (Φ:=ζ.run pg fds n) ⟨T,B,B.units,rfl,rfl,S.eE,λi hi=>(y i hi).2,λx h=>h,λx h=>h,λx h=>h,q.ex.imp λ_ h=>h.choose_spec.1,⟨_,_,_,rfl,rfl,rfl⟩⟩ ⟨q,⟨rfl,rfl⟩,λx h=>?_,λ_=>rfl,PassesOwn.leaving⟩ a4;unfold ζ.gf at h;have h:(eW st).names.lookup x=Z .local\/(eW st).names.lookup x=Z .cell:=⇑h;exact h
 .refine⟨G,H,G,ζ.start j ds,Lq a9 cq r aq u λi hi=>(y i hi).1,?_⟩;show aO (ζ.cY pg (ζ.run pg fds n) (ζ.start j ds) j.body) _ _;generalize ζ.cY pg (ζ.run pg fds n) (ζ.start j ds) j.body=bl at hw ⊢;have hR:∀c:Nat,(∀b,aD H b->E (.int c 0) Y b)->cG xp (iF (gu P w xp) P w K aj base N x (eW st) m p A outer s H E) c H:=λc a5 M U b s' e l I O L a7=>by
   obtain⟨a0,_,rfl,_⟩:=q.ex;refine bb.leave (base:=base) (outer:=outer) I.ok.frames I.stack rfl a7 λa3 l1 ba b1 ay a6=>?_
   have t:Inv _ M U b { s' with heap:=a3 }:=o5 (t':=s'.toks) I L ay a6;refine⟨c,b,l1,I.os,I.bare,t.base,t.aJ,O,λa au=>?_,ba,a5 b O⟩;have C:eM (iF (gu P w (bb.bC a0)) P w K aj base N x (eW st) m p A outer s H E) M b a:=(b1 a au).elim (L a) λz=>.of I z (o8 I.aJ z)
   exact⟨C.2.1.elim (λz=>nomatch z) id,C.1⟩
  cases bl with
  |bad=>exact hw.elim
  |exc c=>exact hR c hw
  |ok a2 =>
   cases a2 with
   |aS R=>exact λU o b bq=>hw .az o b bq.ext rfl
   |bt d=>exact λv o b ext bj=>hw v o b ext bj
def MH(h:ij xp g pg K aj base)(T:d5 P w K aj base xp n g pg (ζ.run pg fds n))(i:∀f x,g.fns[f]?=Z x->nN K aj g fds f x):d5 P w K aj base xp (n+1) g pg (ζ.run pg fds (n+1)):=by
 refine⟨λf x m=>?_,T.blt,T.g4⟩;obtain⟨o,N,st,b,c,e,a,l,F,d⟩:=i f x m;obtain⟨k,_⟩:=vp a;exact⟨b,c,_,l,F.oM,d,wB h T e a F,λds j=>by rw[ζ.m7,e];unfold ζ.bV;exact if_neg (by rw[<- k];exact j)⟩
theorem Ag(c:ij xp g pg K aj base)(b:∀f x,g.fns[f]?=Z x->nN K aj g fds f x)(a:∀x:Tz,x∈kg->aj x=Y)(i:∀(j:Nat)(x:Tz)(d:D),g.g4[j]?=Z x->pg.cs[j]?=Z d->∃v u,aj x=Z u/\RelV v u/\∀G,Rep K G d v):
  ∀n,d5 P w K aj base xp n g pg (ζ.run pg fds n)
 |0=>⟨λf x o=>by
   obtain⟨r,N,st,k,l,e,q,m,F,a⟩:=b f x o;exact⟨k,l,_,m,F.oM,a,⟨λp H Q E h=>h.1,λA outer s H args t p Q E _ _ _ _ ⟨_,_,_,_,_,_,h⟩=>h.elim⟩,λ_ _=>rfl⟩,a,i⟩
 |n+1=>MH c (Ag c b a i n) b
end
abbrev kf(Q:Nat->Tz->Prop):Nat->List Tz->Prop
 |_,[]=>True
 |n,x::xs=>Q n x/\kf Q (n+1) xs
theorem kf.get:∀{xs:List Tz}{n f:Nat}{x:Tz},kf Q n xs->xs[f]?=Z x->Q (n+f) x
 |[],_,_,_,_,h=>by simp at h
 |y::xs,n,0,x,q,h=>by simp at h;subst h;exact q.1
 |y::xs,n,f+1,x,q,h=>by
  have:=kf.get (n:=n+1) (f:=f) q.2 ⇑h;rwa[R4,Qn]at this
def Eg{b:List Ti}(h:b.length=1):∃a,b=[a]:=V9.mp h
def Eh{d:List Ti}(h:d.length=2):∃a b,d=[a,b]:=by
 rcases d with _|⟨a,_|⟨b,_|⟨c,r⟩⟩⟩<;>first|exact⟨_,_,rfl⟩|(simp at h)
def Ei{e:List Ti}(h:e.length=3):∃a b c,e=[a,b,c]:=by
 rcases e with _|⟨a,_|⟨b,_|⟨c,_|⟨d,r⟩⟩⟩⟩<;>first|exact⟨_,_,_,rfl⟩|(simp at h)
abbrev AllB(K:W.Frag):List Tz->Prop
 |[]=>True
 |x::xs=>W.nsIn K TC x=Z Y/\AllB K xs
theorem AllB.get{K:W.Frag}(X:K.In h)(G:h.Ns TC b):∀{xs:List Tz},AllB K xs->∀x∈xs,b x=Y
 |[],_,x,a=>by simp at a
 |y::ys,q,x,a=>by
  rcases N3.mp a with rfl|a
  .exact Td X G q.1
  .exact AllB.get X G q.2 x a
def nO(K:W.Frag)(x:Tz)(st:Ui):Prop :=
 ∃(f:Tu)(d:Ti)(e:Option Tu)(bH c h:Ti)(b:Option Tu)(a ct:Ti)(g:Array (Option Ti)),W.nsIn K TC x=Z (Z (.ref f)) /\
  K.lookup f=Z ⟨d,e,.func (W.fnOf x x (eV st) (hG st) (eW st) .none bH c h b a ct),g⟩/\W.codeIn K a x=J/\W.keepIn K (.ref f)=J
def Dp{K:W.Frag}{st:Ui}{bH d e:Ti}(a:W.nsIn K TC x=Z (Z (.ref f)))(l:K.lookup f=Z ⟨h,i,.func (W.fnOf x x (eV st) (hG st) (eW st) .none bH d e g b ct),j⟩)(c:W.codeIn K b x=J)(k:W.keepIn K (.ref f)=J):nO K x st:=⟨f,h,i,bH,d,e,g,b,ct,j,a,l,c,k⟩
def cO{K:W.Frag}{st:Ui}(X:K.In h)(G:h.Ns TC s)(d:nO K x st)(r:fds[j]?=Z n)(p:ζ.iE g N n st=J)(q:∀(bH m o:Ti)(e:Option Tu)(i ct:Ti)(b:List Ti),b.length=((eV st).args.map (·.arg)).length->bindArgs (W.fnOf x x (eV st) (hG st) (eW st) .none bH m o e i ct) ⟨b,[]⟩=pure (((eV st).args.map (·.arg)).zip b)):nN K s g fds j x:=by
 obtain⟨f,t,u,bH,m,o,e,i,ct,v,a,l,c,k⟩:=d;have F:=wG l c k;exact⟨n,N,st,f,_,r,p,Sy X G a,F,F.binds q⟩
def hs(K:W.Frag)(x:Tz)(d:D):Prop:=∃v u,W.nsIn K TC x=Z (Z u)/\RelV v u/\∀G,Rep K G d v
def n1(o:UK)(a:List Ti):Prop:=o.cls=.type "tuple"/\∃n,o.data=.seq a.toArray n
def n1.rep{K:W.Frag}(l:K.lookup a=Z o)(h:n1 o b)(c:Vals xs b)(hz:b.length<=1000)(r:ax K G ds xs):Rep K G (.kt ds) (.ref a) :=
 ⟨a,xs,rfl,.inr ⟨o,b.toArray,h.2.choose,l,h.1,h.2.choose_spec,by rw[Oc,TL];lia,by rw[List.toList_toArray];exact c⟩,r⟩
def E4{K:W.Frag}(g:W.nsIn K TC x=Z (Z u))(e:u=.int i t):hs K x (.int i):=⟨.int i,u,g,⟨t,e⟩,λ_=>rfl⟩
def E3{K:W.Frag}(g:W.nsIn K TC x=Z (Z (.ref a)))(l:K.lookup a=Z o)(h:n1 o [.str b t0,.str c k,.str s2 m,.str s3 n,.str d p,.str e q,.str f r,.str i s,.str j t]):hs K x (.kt [.str b,.str c,.str s2,.str s3,.str d,.str e,.str f,.str i,.str j]) :=
 ⟨.ref a,_,g,rfl,λG=>n1.rep (xs:=[.str b,.str c,.str s2,.str s3,.str d,.str e,.str f,.str i,.str j]) l h (.cons ⟨t0,rfl⟩ (.cons ⟨k,rfl⟩ (.cons ⟨m,rfl⟩ (.cons ⟨n,rfl⟩ (.cons ⟨p,rfl⟩ (.cons ⟨q,rfl⟩ (.cons ⟨r,rfl⟩ (.cons ⟨s,rfl⟩ (.cons ⟨t,rfl⟩ .nil))))))))) (by simp) ⟨_,_,rfl,rfl,_,_,rfl,rfl,_,_,rfl,rfl,_,_,rfl,rfl,_,_,rfl,rfl,_,_,rfl,rfl,_,_,rfl,rfl,_,_,rfl,rfl,_,_,rfl,rfl,rfl⟩⟩
def E7{K:W.Frag}{g:ζ.Gt}{pg:ζ.ck}(X:K.In h)(G:h.Ns TC k)(e1:g.g4=[q,x1])(e2:pg.cs=[l,m])(o:hs K q l)(p:hs K x1 m)(j:Nat)(x:Tz)(d:D)(e:g.g4[j]?=Z x)(f:pg.cs[j]?=Z d):∃v u,k x=Z u/\RelV v u/\∀G,Rep K G d v:=by
 have i:hs K x d->∃v u,k x=Z u/\RelV v u/\∀G,Rep K G d v:=λ⟨v,u,a,b,c⟩=>⟨v,u,Sy X G a,b,c⟩;rw[e1]at e;rw[e2]at f
 match j,e,f with
 |0,e,f=>cases e;cases f;exact i o
 |1,e,f=>cases e;cases f;exact i p
 |n+2,e,_=>cases e
theorem y1{K:W.Frag}:∀ns:List Int,ax K G (ns.map ζ.D.int) (ns.map V.int)
 |[]=>rfl
 |n::ns=>⟨.int n,ns.map V.int,rfl,rfl,y1 ns⟩
def Lx{K:W.Frag}{ns:List Int}(b:cb K H a (ns.map V.int))(c:d [.lst (ns.map .int)]=.ok (.ag J)):j4 K d 1 [.ref a] H (λv _=>v=.ag J) λ_ _ _=>False:=by
 refine⟨rfl,H,[.lst (ns.map .int)],aD.refl H,λ_ _ z=>z,⟨.ref a,[],rfl,⟨a,_,rfl,b,y1 ns⟩,rfl⟩,?_⟩;rw[c];exact λv e f _ r=>r
def C8:gu P w xp outer H s (λ_ _ _=>False) e s'->False:=by rintro⟨_,_,_,_,_,_,_,_,_,_,h⟩;exact h
abbrev gV(K:W.Frag)(g:ζ.Gt)(c:Nat):Option Addr:=match g.cls[c]? with
 |some x=>(match W.nsIn K TC x with|some (Z (.ref C))=>Z C|_=>Y)
 |none=>Y
def CA{K:W.Frag}(h:g.cls[c]?=Z x)(e:W.nsIn K TC x=Z (Z (.ref C))):gV K g c=Z C:=by
 unfold gV;rw[h];dsimp only;rw[e]
def ir(o:UK)(C N:Tu)(bm:List Ti)(a:String):Prop:=∃(nm q:Tz)(bs:List Ti)(hdct:Bool)(sn:List Tz)(sub:List Ti)(ab:Bool)(col:Option Bool)(dd:Option Tu)(k0 k1 k2 k3 k5:Option Ti),o=TX nm q C N bs bm hdct sn sub ab col dd k0 k1 k2 k3 k5 a
def jj(K:W.Frag)(x:Tz)(C:Tu)(bm:List Ti):Prop:=∃o N i,W.nsIn K TC x=Z (Z (.ref C))/\K.lookup C=Z o/\ir o C N bm i/\bm.contains (.type "BaseException")=J
def qh(K:W.Frag)(x:Tz)(C:Tu)(bm:List Ti):Prop:=∃o N,W.nsIn K TC x=Z (Z (.ref C))/\K.lookup C=Z o/\ir o C N bm "ValueError.__new__"/\PySem.W.nsOkIn K N=J/\W.nsIn K N "__init__"=Z Y/\PySem.W.tailIn K n5 bm=J/\bb.Plain K C bm
def nM(K:W.Frag)(k x1 l m n o:Tz):Prop:=∃b a c d e f g b1 b2 h i j,(jj K k b g/\qh K x1 a b1/\jj K l c b2/\jj K m d h/\jj K n e i/\jj K o f j) /\
 (TA a::b1).contains (.ref b)=J/\(TA a::b1).contains (.ref c)=Th/\(TA a::b1).contains (.ref d)=Th/\(TA a::b1).contains (.ref e)=Th/\(TA a::b1).contains (.ref f)=Th
def Cz{K:W.Frag}(a0:W.nsIn K TC u=Z (Z (.ref b)))(l0:K.lookup b=Z m)(e0:ir m b y h E)(h0:h.contains (.type "BaseException")=J)(a1:W.nsIn K TC x1=Z (Z (.ref a)))(l1:K.lookup a=Z o)(e1:ir o a g b1 "ValueError.__new__")(a2:W.nsIn K TC v=Z (Z (.ref c)))(l2:K.lookup c=Z p)(e2:ir p c z b2 G)(h2:b2.contains (.type "BaseException")=J)(a3:W.nsIn K TC w=Z (Z (.ref d)))(l3:K.lookup d=Z q)(e3:ir q d A j H)(h3:j.contains (.type "BaseException")=J)(a4:W.nsIn K TC x=Z (Z (.ref e)))(l4:K.lookup e=Z r)(e4:ir r e B k I)(h4:k.contains (.type "BaseException")=J)(a5:W.nsIn K TC Nw=Z (Z (.ref f)))(l5:K.lookup f=Z s)(e5:ir s f C l L)(h5:l.contains (.type "BaseException")=J)(n:PySem.W.nsOkIn K g=J)(i:W.nsIn K g "__init__"=Z Y)(t:PySem.W.tailIn K n5 b1=J)(p1:PySem.W.findIn K (.ref a) "__class__"=Z (Z (.builtin "object.__class__")))(p2:PySem.W.findIn K (.ref a) "__getattribute__"=Z (Z (.builtin "BaseException.__getattribute__")))(p3:PySem.W.findIn K (.ref a) "__getattr__"=Z Y)(p4:b1.contains (.type "object")=J)(p5:b1.contains (.type "BaseException")=J)(m0:(TA a::b1).contains (.ref b)=J)(m2:(TA a::b1).contains (.ref c)=Th)(m3:(TA a::b1).contains (.ref d)=Th)(m4:(TA a::b1).contains (.ref e)=Th)(m5:(TA a::b1).contains (.ref f)=Th):nM K u x1 v w x Nw :=
 ⟨b,a,c,d,e,f,h,b1,b2,j,k,l,⟨⟨_,_,_,a0,l0,e0,h0⟩,⟨_,_,a1,l1,e1,n,i,t,⟨p1,p2,p3,p4,p5⟩⟩,⟨_,_,_,a2,l2,e2,h2⟩,⟨_,_,_,a3,l3,e3,h3⟩,⟨_,_,_,a4,l4,e4,h4⟩,⟨_,_,_,a5,l5,e5,h5⟩⟩,m0,m2,m3,m4,m5⟩
section
variable{K:W.Frag}{h:TU}{aj:Tz->Option Ti}{g:ζ.Gt}{pg:ζ.ck}{c:Nat}{x:Tz}{C:Tu}{bm:List Ti}
def kX(X:K.In h)(G:h.Ns TC aj)(d:g.cls[c]?=Z x)(q:jj K x C bm):kl aj h (gV K g) c x C:=by
 obtain⟨o,N,i,a,l,⟨nm,q,bs,hdct,sn,sub,ab,col,dd,k0,k1,k2,k3,k5,rfl⟩,b⟩:=q;exact⟨CA d a,Sy X G a,_,_,_,_,_,_,_,_,_,_,_,_,_,_,_,_,_,X _ _ l,b⟩
def qh.s(q:qh K x C bm):jj K x C bm:=by
 obtain⟨o,N,a,l,e,n,i,t,P⟩:=q;exact⟨o,N,_,a,l,e,P.wU⟩
def CD(X:K.In h)(G:h.Ns TC aj)(b:g.cls=[L,x1,M,O,Q,R])(y:W.nsIn K TC "ValueError"=Z Y)(q:nM K L x1 M O Q R)(d:pg.up 1=[1,0,1000]):ij (bb.bC (gV K g)) g pg K aj h:=by
 obtain⟨S,v,T,U,a0,a1,a2,b1,b2,a3,a4,a5,⟨A,u,B,E,H,I⟩,m0,m2,m3,m4,m5⟩:=q;have j:=kX (c:=0) X G (by rw[b];rfl) A;have f:=kX (c:=1) X G (by rw[b];rfl) u.s;have m:=kX (c:=2) X G (by rw[b];rfl) B;have p:=kX (c:=3) X G (by rw[b];rfl) E;have r:=kX (c:=4) X G (by rw[b];rfl) H;have s:=kX (c:=5) X G (by rw[b];rfl) I;refine⟨⟨_,v,rfl,λc z e=>?_,f.at_,by rw[d];rfl,?_⟩,λk w=>?_,Td X G y⟩
 .rw[b]at e
  match c,e with
  |0,e=>cases e;exact⟨_,j⟩
  |1,e=>cases e;exact⟨_,f⟩
  |2,e=>cases e;exact⟨_,m⟩
  |3,e=>cases e;exact⟨_,p⟩
  |4,e=>cases e;exact⟨_,r⟩
  |5,e=>cases e;exact⟨_,s⟩
  |n+6,e=>cases e
 .obtain⟨o,N,a,l,⟨nm,q,bs,hdct,sn,sub,ab,col,dd,k0,k1,k2,k3,k5,rfl⟩,n,i,t,P⟩:=u;refine⟨_,_,_,_,b1,N,nm,q,bs,hdct,sn,sub,ab,col,dd,k0,k1,k2,k3,k5,_,WH,rfl,X _ _ l,.of_isNs (PySem.W.isNs_of_in X n),PySem.W.nsMap_none_of_in X n i,PySem.W.tail_of_in X t,P,λk D e=>?_⟩;rw[d]
  match k,e with
  |0,e=>cases j.at_.symm.trans e;exact m0
  |1,e=>cases f.at_.symm.trans e;simp
  |2,e=>cases m.at_.symm.trans e;exact m2
  |3,e=>cases p.at_.symm.trans e;exact m3
  |4,e=>cases r.at_.symm.trans e;exact m4
  |5,e=>cases s.at_.symm.trans e;exact m5
  |n+6,e=>unfold gV at e;rw[b]at e;cases e
 .rw[d]
  match k,w with
  |0,_=>rfl
  |1,_=>rfl
end
def GH{l:PySem.W.OpenLaw}{K:W.Frag}{st:Ui}(X:K.In h)(G:h.Ns TC b)(z:b "law"=Z (.ref t))(dl:nO K "law" st)(y:fds[f]?=Z d)(r:ζ.iE g N d st=J)(A:(eV st).args.map (·.arg)=[x])(v:∀(bH m o:Ti)(i:Option Tu)(j ct:Ti)(s:Tq)(u:Ti),VX s (W.fnOf "law" "law" (eV st) (hG st) (eW st) .none bH m o i j ct) ⟨[u],[]⟩ [(x,u)])(T:∀base:TU,K.In base->base.Ns TC b->ij xp g pg K b base/\d5 l.prog w K b base xp n g pg (ζ.run pg fds n)):
  ∃d:Vl,(∀(s:Tq)(u:Ti),VX s d ⟨[u],[]⟩ [(x,u)])/\∀base:TU,K.In base->base.Ns TC b->gQ l.prog w K b base (gu l.prog w xp) (n+1) t d [x] (j4 K (ζ.run pg fds (n+1) f) 1):=by
 obtain⟨C,E,H,bH,m,o,i,j,ct,I,a,B,c,k⟩:=dl;have e:=z.symm.trans (Sy X G a);cases e;refine⟨_,v bH m o i j ct,λbase p q=>?_⟩;have F:=wG B c k;have:=wB (T base p q).1 (T base p q).2 (f:=f) y r F;rw[A]at this;exact this
def walk{l:PySem.W.OpenLaw}{bR:(Tz->Option Ti)->TU->Prop}{K:Params->W.Frag}(p:l.most=Z 63)(o:d.params.defaults=[])(r:n<=40)(t:∀ns:List Int,ζ.run pg fds n f [.lst (ns.map .int)]=.ok (.ag J))(m:∀(w:Ug)(h:TU),i w h->(K w.params).In h)(F:∀(w:Ug)(b:Tz->Option Ti)(c:Tu)(h:TU),(K w.params).In h->h.Ns TC b->b d.name=Z (.ref c) ->
   ∃e:Vl,(∀(s:Tq)(u:Ti),VX s e ⟨[u],[]⟩ [(x,u)])/\∀base:TU,(K w.params).In base->base.Ns TC b->gQ l.prog w (K w.params) b base (gu l.prog w (bb.bC (gV (K w.params) g))) n c e [x] (j4 (K w.params) (ζ.run pg fds n f) 1)):
  PySem.W.WalkO q y bR i l.row.toRowW d [] (λf v=>PySem.call f v) :=
 aC.Nm (n:=63) (k:=n) (x:=x) (CX:=λw=>gu l.prog w (bb.bC (gV (K w.params) g))) (sp:=λw=>j4 (K w.params) (ζ.run pg fds n f) 1) p ∅ o (ea.mono (⟨rfl,∅,∅⟩:ea 40 V1) r) m F (λw H a ns _ _ j=>Lx j (t ns)) λ_ _ _ _ _ z=>C8 z
end aE
end
section
namespace nT
open PySem PySem.Spec PyProof.Rows aC aE
abbrev FQ:List Nat:=[9,10,11,12,13,14,15,16,17,18,21,22,23,25,26,27,28,29,30,31,32,33,34,35,36,37,38,39,40,41]
def st(j:Nat):Stmt:=PySem.Challenge.pw_holeyard_k03_whole_read.main.body.getD (FQ.getD j 0) (.Pass ⟨0,0,0,0⟩)
def Cx:((TB 30).all λj=>ζ.iE da.gt (da.x3.getD j []) (da.fds.getD j ⟨0,0,.nil⟩) (st j))=true:=by decide +kernel
def cI(j:Nat)(h:j<30):ζ.iE da.gt (da.x3.getD j []) (da.fds.getD j ⟨0,0,.nil⟩) (st j)=true:=Oi.mp Cx j (OF.mpr h)
structure Txt(K:W.Frag):Prop where
 ds:kf (λj x=>nO K x (st j)) 0 da.gt.fns
 ag:AllB K kg
 ke:W.nsIn K TC "ValueError"=Z Y
 cl:nM K "HoleError" "NoText" "NoNet" "NoRound" "NotFree" "NoRoom"
 fp:hs K "MOST_CORNERS" (.int 8)
 g1:hs K "DIGITS" (.kt [.str (Tf "0"),.str (Tf "1"),.str (Tf "2"),.str (Tf "3"),.str (Tf "4"),.str (Tf "5"),.str (Tf "6"),.str (Tf "7"),.str (Tf "8")])
section
variable{K:W.Frag}{h:TU}{aj:Tz->Option Ti}
theorem fns(X:K.In h)(G:h.Ns TC aj)(t:Txt K):kf (nN K aj da.gt da.fds) 0 da.gt.fns:=by
 obtain⟨b,c,o,A,B,C,E,H,I,L,d,e,f,g,i,j,k,l,m,n,p,q,r,s,u,v,w,x,y,z,-⟩:=t.ds;refine⟨cO X G b rfl (cI 0 ∅) ?_,cO X G c rfl (cI 1 ∅) ?_,cO X G o rfl (cI 2 ∅) ?_,cO X G A rfl (cI 3 ∅) ?_,cO X G B rfl (cI 4 ∅) ?_,cO X G C rfl (cI 5 ∅) ?_,cO X G E rfl (cI 6 ∅) ?_,cO X G H rfl (cI 7 ∅) ?_,cO X G I rfl (cI 8 ∅) ?_,cO X G L rfl (cI 9 ∅) ?_,cO X G d rfl (cI 10 ∅) ?_,cO X G e rfl (cI 11 ∅) ?_,cO X G f rfl (cI 12 ∅) ?_,cO X G g rfl (cI 13 ∅) ?_,cO X G i rfl (cI 14 ∅) ?_,cO X G j rfl (cI 15 ∅) ?_,cO X G k rfl (cI 16 ∅) ?_,cO X G l rfl (cI 17 ∅) ?_,cO X G m rfl (cI 18 ∅) ?_,cO X G n rfl (cI 19 ∅) ?_,cO X G p rfl (cI 20 ∅) ?_,cO X G q rfl (cI 21 ∅) ?_,cO X G r rfl (cI 22 ∅) ?_,cO X G s rfl (cI 23 ∅) ?_,cO X G u rfl (cI 24 ∅) ?_,cO X G v rfl (cI 25 ∅) ?_,cO X G w rfl (cI 26 ∅) ?_,cO X G x rfl (cI 27 ∅) ?_,cO X G y rfl (cI 28 ∅) ?_,cO X G z rfl (cI 29 ∅) ?_,trivial⟩<;>intro _ _ _ _ _ _ M a<;>first|(obtain⟨_,rfl⟩:=Eg a;rfl)|(obtain⟨_,_,rfl⟩:=Eh a;rfl)|(obtain⟨_,_,_,rfl⟩:=Ei a;rfl)
def bJ{P:TV}{w:Ug}(X:K.In h)(G:h.Ns TC aj)(t:Txt K)(base:TU)(b:K.In base)(c:base.Ns TC aj):ij (bb.bC (gV K da.gt)) da.gt da.pg K aj base/\d5 P w K aj base (bb.bC (gV K da.gt)) 20 da.gt da.pg (ζ.run da.pg da.fds 20):=by
 have a:ij (bb.bC (gV K da.gt)) da.gt da.pg K aj base:=CD b c rfl t.ke t.cl rfl;exact⟨a,Ag a (λf x e=>by have:=(fns X G t).get e;rwa[RR]at this) (AllB.get X G t.ag) (E7 b c rfl rfl t.fp t.g1) _⟩
end
end nT
abbrev PySem.W.Fast.tw18169041067683347110:=PySem.Challenge.pw_holeyard_k03_whole_read
theorem PySem.W.Fast.te18169041067683347110:PySem.Challenge.pw_holeyard_k03_whole_read=PySem.W.Fast.tw18169041067683347110:=rfl
namespace PySem.W.Fast
def tw15202663724338850700:=N2
def tw6755440383345224008:=N2
def tw2162246288444404132:=N2
def tw11074988065674579014:=N2
def tw16580752147952686859:=N2
def tw7051083182634259114:=N2
def tw8748851473280353745:=N2
def tw10998630092796699950:=N2
def tw17841150348183163725:=N2
def tw925886411054249565:=N2
def tw9835453733729697910:=N2
def tw6288403492395538299:=N2
def tw14769842311177531337:=N2
def tw15841447044495707922:=N2
def tw13354781045912004905:=N2
def tw16914742586802681128:=N2
def tw2674585073890993360:=N2
def tw1883548958513026283:=N2
def tw11719560290636686423:=N2
def tw11114632124519369104:=N2
def tw9017209615506962834:=N2
def tw15839165908094771379:=N2
def tw3625631343970887134:=N2
def tw5015176014431249301:=N2
def tw3497848464712333242:=N2
def tw3228910103123508889:=N2
def tw11153042959770209732:=N2
def tw8919093675088954683:=N2
def tw2902142811708422191:=N2
def tw13802275214684701298:=N2
def tw11774148608838266448:=N2
def tw15280192148838679550:=N2
def tw9980832703351997416:=N2
def tw15321512361398763348:=N2
def tw6056008242990814405:=N2
def tw4749412855012641503:=N2
def tw14756660248150331423:=N2
def tw2774319984835866184:=N2
def tw9402483079059027739:=N2
def tw8416413787710627398:=N2
def tw2922553520135445387:=N2
def tw1752157193125474427:=N2
def tw9773274164906271216:=N2
def tw13679067962778787829:=N2
def tw13552426788925568262:=N2
def tw15376287174539520114:=N2
def tw12499694808584485508:=N2
def tw4236506467870580477:=N2
def tw15765131738715183279:=N2
def tw2670129429798771592:=N2
def tw11914389916997082047:=N2
def tw4914342440661454052:=N2
def tw8117617617217927489:=N2
def tw4422325420655582856:=N2
def tw6329038851160521569:=N2
def tw4718695678209885441:=N2
def tw4235919628128234013:=N2
def tw14123657545087885475:=N2
def tw9933786780096826495:=N2
def tw4043012708370489614:=N2
def tw11056097496157323451:=N2
def tw15181104716531971244:=N2
def tw15089754331518705618:=N2
def tw14094706022465590361:=N2
def tw4823133461652264984:=N2
def tw7800278421153232646:=N2
def tw3988842556720133062:=N2
def tw10079713254296130292:=N2
def tw10483603923241717448:=N2
def tw15171912497196357030:=N2
def tw17584890509797820751:=N2
def tw3639739267611574309:=N2
def tw3298523587103680220:=N2
def tw9017497620842177847:=N2
def tw16910010674388677564:=N2
def tw4901279726199441504:=N2
def tw10339352687664123502:=N2
def tw10292263338026578191:=N2
def tw2283291543209202147:=N2
def tw11562757752846355450:=N2
def tw7683877233986942023:=N2
def tw15392397623857908095:=N2
def tw4123123360716810554:=N2
def tw9521108340898714052:=N2
def tw8163059012957424852:=N2
def tw2510364798006822611:=N2
def tw9761635465673821374:=N2
def tw13756221652035450935:=N2
def tw11343461818468264945:=N2
def tw14672187550317760199:=N2
def tw13189662052974349650:=N2
def tw8083774403008968620:=N2
def tw7067910723516417880:=N2
def tw2533073479954383311:=N2
def tw13878447990934471898:=N2
def tw8758959934373475189:=N2
def tw13216750140922969821:=N2
def tw1465863875471188059:=N2
def tw8736931598479752739:=N2
def tw11569772147295149217:=N2
def tw5098264955381501535:=N2
def tw11986841259201860550:=N2
def tw6794061283619782959:=N2
def tw13492250535140395364:=N2
def tw3788044194389620080:=N2
def tw12210982001251447408:=N2
def tw452761947673197273:=N2
def tw13793357514794526060:=N2
def tw17304012131327188916:=N2
def tw18241773447290724730:=N2
def tw13049710414401845688:=N2
def tw17408909787452568829:=N2
def tw6114303160472897366:=N2
def tw15626717109814372984:=N2
def tw2743874088260482945:=N2
def tw24178258982129856:=N2
def tw17773279838922147005:=N2
def tw10580959843105777579:=N2
def tw16822358911451680443:=N2
def tw5891361745639535331:=N2
def tw8928551712387160364:=N2
def tw16049156718114237927:=N2
def tw6256495584072322254:=N2
def tw849455590385944981:=N2
def tw11489973988497796684:=N2
def tw16876037452880602406:=N2
def tw13877958488244328747:=N2
def tw8282640737053300727:=N2
def tw16343839698546544191:=N2
def tw5406828658224630592:=N2
def tw3473675038564751155:=N2
def tw18431986715411182379:=N2
def tw7096265979753874176:=N2
def tw17416591458145331622:=N2
def tw10182244771520677426:=N2
def tw14567391099375182565:=N2
def tw5669430674944872820:=N2
def tw1215151347675727485:=N2
def tw17992282639747558970:=N2
def tw11026910824046656740:=N2
def tw997309208361343925:=N2
def tw6997409450265761364:=N2
def tw10243534624922481470:=N2
def tw2347952097715815224:=N2
def tw15102410733962652817:=N2
def tw6426755428296357241:=N2
def tw9988140306456981560:=N2
def tw706109928828900370:=N2
def tw5370412162673597148:=N2
def tw9357290467479701720:=N2
def tw3705242318396272110:=N2
def tw6469478757227600178:=N2
def tw13706991737558658054:=N2
def tw14070640522659251222:=N2
def tw3777495407794990120:=N2
def tw2057858235053662773:=N2
def tw10892788867831461414:=N2
def tw5183542448061200070:=N2
def tw3466966315218972509:=N2
def tw10172064581269864319:=N2
def tw16844775528359487877:=N2
def tw17774491829868816406:=N2
def tw11407903006149444370:=N2
def tw15560745945224325644:=N2
def tw3334380881964653270:=N2
def tw820217805817092572:=N2
def tw14219763338343811947:=N2
def tw14360378484371196036:=N2
def tw15642551197047354898:=N2
def tw4784904374867677063:=N2
def tw12007379064725703692:=N2
def tw10029583097187121954:=N2
def tw1178178546808965826:=N2
def tw7350261078073308970:=N2
def tw3814983838862564920:=N2
def tw12442812690542520280:=N2
def tw7306890374153289689:=N2
def tw5541858521835892945:=N2
end PySem.W.Fast
open PySem PySem.W PyProof.Rows
set_option maxRecDepth 100000 in
set_option maxHeartbeats 0 in
theorem PySem.Challenge.cw_holeyard_k03_whole_read_holds : PySem.Challenge.rw_holeyard_k03_whole_read.Holds := by
 w_on;o_law;k_head;(case hw=>w_witness2)
 k_fill
 refine aE.walk (g:=da.gt) (l:=PySem.Challenge.rw_holeyard_k03_whole_read) (pg:=da.pg) (fds:=da.fds) (n:=21) (f:=29) (x:="_law_script") rfl rfl ∅ P3.Mp (λw h Y=>PySem.W.kIn_of Y) ?F
 case F =>
  intro w aj aT h kj G Ff;have cl:aE.nM (aC.iu kj) "HoleError" "NoText" "NoNet" "NoRound" "NotFree" "NoRoom":=by
   dsimp only[aC.iu];refine' aE.Cz ?a0 ?l0 ?e0 ?h0 ?a1 ?l1 ?e1 ?a2 ?l2 ?e2 ?h2 ?a3 ?l3 ?e3 ?h3 ?a4 ?l4 ?e4 ?h4 ?a5 ?l5 ?e5 ?h5 ?n ?i ?t ?p1 ?p2 ?p3 ?p4 ?p5 ?m0 ?m2 ?m3 ?m4 ?m5
   (case a0=>k_is);(case l0=>k_is);(case e0=>exact⟨_,_,_,_,_,_,_,_,_,_,_,_,_,_,rfl⟩);(case h0=>rfl);(case a1=>k_is);(case l1=>k_is);(case e1=>exact⟨_,_,_,_,_,_,_,_,_,_,_,_,_,_,rfl⟩);(case a2=>k_is);(case l2=>k_is);(case e2=>exact⟨_,_,_,_,_,_,_,_,_,_,_,_,_,_,rfl⟩);(case h2=>rfl);(case a3=>k_is);(case l3=>k_is);(case e3=>exact⟨_,_,_,_,_,_,_,_,_,_,_,_,_,_,rfl⟩);(case h3=>rfl);(case a4=>k_is);(case l4=>k_is);(case e4=>exact⟨_,_,_,_,_,_,_,_,_,_,_,_,_,_,rfl⟩);(case h4=>rfl);(case a5=>k_is);(case l5=>k_is);(case e5=>exact⟨_,_,_,_,_,_,_,_,_,_,_,_,_,_,rfl⟩);(case h5=>rfl);(case n=>kernel_rfl);(case i=>k_is);(case t=>kernel_rfl);(case p1=>k_is);(case p2=>k_is);(case p3=>k_is);(case p4=>rfl);(case p5=>rfl);(case m0=>rfl);(case m2=>rfl);(case m3=>rfl);(case m4=>rfl);(case m5=>rfl)
  have fp:aE.hs (aC.iu kj) "MOST_CORNERS" (.int 8):=by
   dsimp only[aC.iu];refine' aE.E4 ?g ?e;(case g=>k_is);(case e=>rfl)
  have g1:aE.hs (aC.iu kj) "DIGITS" (.kt [.str (Str.ofString "0"),.str (Str.ofString "1"),.str (Str.ofString "2"),.str (Str.ofString "3"),.str (Str.ofString "4"),.str (Str.ofString "5"),.str (Str.ofString "6"),.str (Str.ofString "7"),.str (Str.ofString "8")]):=by
   dsimp only[aC.iu];refine' aE.E3 ?g ?l ?h;(case g=>k_is);(case l=>k_is);(case h=>exact⟨rfl,_,rfl⟩)
  have t:nT.Txt (aC.iu kj):=by
   refine⟨⟨?_,?_,?_,?_,?_,?_,?_,?_,?_,?_,?_,?_,?_,?_,?_,?_,?_,?_,?_,?_,?_,?_,?_,?_,?_,?_,?_,?_,?_,?_,trivial⟩,⟨?_,?_,?_,?_,?_,?_,?_,?_,?_,?_,?_,?_,?_,?_,?_,trivial⟩,?_,cl,fp,g1⟩<;>dsimp only[aC.iu]<;>first|(refine' aE.Dp ?a ?l ?c ?k;(case a=>k_is);(case l=>k_is);(case c=>k_is);(case k=>k_is))|k_is
  exact aE.GH kj G Ff (t.ds.get (f:=29) rfl) rfl (nT.cI 29 ∅) rfl (λ_ _ _ _ _ _ s u=>.of_eq rfl) (nT.bJ kj G t)
end
end
