import PyProof.Rows.All
import Wide.All
import OpenK.AllK
import Wide.FinOn
import Lean
import PyProof.EqAt
import PyProof.EqKinds
import PyProof.TupleCall
import PySem.Value
import PySem.Sem
import PySem.SetTable
import PyProof.TupleKey
import PyProof.SetKind
import PyProof.DictKinds
import PyProof.IsRules
import PyProof.CompMap
import PyProof.Rows.SetFrom
import PyProof.WalksMore
import PyProof.FactsAll.subtypes_4
import PyProof.FactsAll.set
import PyProof.Seq
import PyProof.Walks
import PyProof.FactsAll.set_2
import PyProof.MeetsSeq2
import KE.KDictSum
import PyProof.CollectStr
import PyProof.ListRange
import PyProof.Rows.SortShell
import PyProof.Rows.SortRuns
import KE.KSortAsk
import KE.KSortTup
import PyProof.EnumMake
import PyProof.EnumFor
import PyProof.EnumStmt
import PySem.Challenge.RW_holeyard_k10_rims
set_option linter.all false
def UA:=@PySem.wpAny_bind
def UB:=@Bool.and_eq_true
def UC:=@Bool.false_eq_true
def UD:=@PySem.Heap.get?_push_of_some
def UE:=@Nat.le_refl
def UG:=@PyProof.Rows.wpS_bind
def UH:=@Nat.zero_le
def UI.{u}:=@List.mem_cons.{u}
def UJ.{u}:=@List.getElem?_eq_getElem.{u}
def UK:=@PySem.Heap.lt_size
def UL.{u}:=@Array.getElem?_eq_getElem.{u}
def UM.{u}:=@List.length_append.{u}
def UN.{u}:=@List.append_assoc.{u}
def UO:=@PyProof.Rows.wpS_pure
def UP.{u}:=@List.mem_append_right.{u}
def UQ:=@PySem.Heap.get?_push_size
def UR.{u}:=@List.all_eq_true.{u}
def US.{u}:=@List.pairwise_append.{u}
def UT.{u}:=@List.size_toArray.{u}
def UU:=@decide_eq_true_eq
def UW.{u}:=@List.getElem?_append_left.{u}
def UX.{u}:=@if_false.{u}
def UY.{u}:=@List.mem_append.{u}
def UZ:=@Nat.ne_of_lt
def U0.{u}:=@List.mem_filter.{u}
def U1.{u,v}:=@List.getElem?_map.{u,v}
def U2.{u}:=@List.getElem?_eq_some_iff.{u}
def U3.{u}:=@Array.toList_append.{u}
def U4:=@PySem.wpAny_setState_of
def U5.{u}:=@Array.size_push.{u}
def U6:=@Nat.lt_of_lt_of_le
def U7.{u}:=@List.pairwise_cons.{u}
def U8:=@PyProof.Rows.callWith_type1
def U9.{u}:=@Array.getElem?_toList.{u}
def Va:=@PySem.Heap.get?_update_self
def Vb.{u}:=@List.Pairwise.sublist.{u}
def Vc:=@PySem.wpAny_newObj_type
def Vd.{u,v}:=@List.lookup_cons.{u,v}
def Ve.{u}:=@List.nodup_cons.{u}
def Vf.{u}:=@Array.getElem?_eq_some_iff.{u}
def Vg:=@Bool.not_eq_true'
def Vh.{u}:=@Array.size_extract.{u}
def Vi.{u}:=@List.mem_singleton.{u}
def Vj:=@PySem.Heap.SameBut.update
def Vk:=@Nat.le_trans
def Vl.{u}:=@List.length_take.{u}
def Vm:=@Nat.max_eq_right
def Vn.{u}:=@if_true.{u}
def Vo:=@Bool.false_ne_true
def Vp.{u}:=@List.getElem?_append_right.{u}
def Vq:=@PySem.mem_of_lookup
def Vr.{u}:=@List.drop_eq_getElem_cons.{u}
def Vs.{u}:=@Option.some.inj.{u}
def Vt:=@PySem.wpAny_Call_Name_kw
def Vu:=@PySem.wpAny_holding
def Vv:=@PyProof.Rows.slot_tuple_getitem
def Vw.{u}:=@List.getElem?_eq_none.{u}
def Vx:=@PyProof.Rows.wpS_forRange
def Vy:=@PySem.W.kia_one
def Vz.{u}:=@List.length_drop.{u}
def VA.{u}:=@List.mem_append_left.{u}
def VB.{u}:=@List.mem_of_getElem?.{u}
def VC.{u}:=@List.take_of_length_le.{u}
def VD.{u}:=@List.append_nil.{u}
def VE.{u}:=@Array.getElem?_setIfInBounds.{u}
def VF.{u}:=@Array.getInternal_eq_getElem.{u}
def VG:=@PySem.wpAny_call_entry
def VH.{u,v}:=@List.map_congr_left.{u,v}
def VI.{u}:=@List.take_append_drop.{u}
def VJ.{u}:=@Array.getD_eq_getD_getElem?.{u}
def VK:=@PySem.wpAny_mono
def VL.{u}:=@List.nodup_nil.{u}
def VM:=@Bool.not_true
def VN:=@PySem.Heap.get?_update_other
def VO:=@Classical.byContradiction
def VP.{u}:=@beq_iff_eq.{u}
def VQ:=@PySem.wpAny_truthy_bool
def VR.{u}:=@Option.some.injEq.{u}
def VS.{u}:=@List.contains_iff_mem.{u}
def VT:=@Nat.lt_irrefl
def VU:=@PySem.codeAny_builtin
def VV:=@PySem.F.slot_dict_keyiterator_next
def VW:=@PySem.Calls.spliced_cons
def VX:=@PyProof.Rows.wpS_modify
def VY:=@PySem.wpAny_callSpecial?_slot
def VZ.{u}:=@List.mem_iff_getElem.{u}
def V0:=@PySem.Around.under_plainId
def V1:=@PySem.wpAny_askSetting
def V2:=@PyProof.Rows.wpS_mono
def V3.{u}:=@Ne.symm.{u}
def V4.{u}:=@List.replicate_succ.{u}
def V5.{u}:=@List.pairwise_iff_getElem.{u}
def V6:=@PyProof.Rows.callWith_builtin1
def V7.{u,v}:=@List.all_map.{u,v}
def V8:=@PySem.wpAny_typeNameOfWhole_keyiter
def V9:=@PySem.Calls.spliced_nil
def Wa.{u}:=@List.pairwise_singleton.{u}
def Wb.{u}:=@Array.size_append.{u}
def Wc:=@PySem.wpAny_storeSet_of
def Wd:=@PySem.Heap.SameBut.refl
def We.{u}:=@bne_self_eq_false.{u}
def Wf:=@of_decide_eq_true
def Wg:=@Bool.or_eq_true
def Wh:=@PyProof.Rows.F.plain_set_update_loop
def Wi.{u}:=@List.filter_sublist.{u}
def Wj.{u}:=@Array.getElem?_eq_none.{u}
def Wk:=@PySem.putSet_of
def Wl.{u}:=@List.not_mem_nil.{u}
def Wm.{u,v}:=@congrArg.{u,v}
def Wn.{u}:=@List.filter_append.{u}
def Wo.{u}:=@List.Perm.append_left.{u}
def Wq.{u}:=@List.length_set.{u}
def Wr:=@PySem.wpAny_typeOf
def Ws.{u}:=@List.flatten_cons.{u}
def Wt.{u,v}:=@List.pairwise_map.{u,v}
def Wu.{u}:=@List.nodup_append.{u}
def Wv.{u}:=@List.getElem_take.{u}
def Ww.{u}:=@Array.toList_reverse.{u}
def Wx.{u}:=@List.Pairwise.imp_of_mem.{u}
def Wy:=@PySem.wpAny_typeNameOf_keyiter
def Wz:=@Bool.false_and
def WA:=@Nat.lt_succ_self
def WB.{u}:=@List.filter_cons.{u}
def WC.{u}:=@List.eq_nil_iff_forall_not_mem.{u}
def WD:=@Nat.le_of_lt
def WE.{u,v}:=@List.mem_filterMap.{u,v}
def WG.{u}:=@Array.getElem?_extract.{u}
def WH:=@PySem.F.called_set
def WI.{u}:=@List.Perm.append_right.{u}
def WJ.{u}:=@List.drop_eq_nil_of_le.{u}
def WK.{u}:=@List.countP_eq_length_filter.{u}
def WL.{u}:=@List.length_replicate.{u}
def WM.{u}:=@List.getElem?_toArray.{u}
def WN.{u}:=@List.perm_append_comm.{u}
def WO.{u}:=@Array.toList_push.{u}
def WQ.{u}:=@List.getElem_drop.{u}
def WR.{u}:=@List.count_append.{u}
def WS:=@Bool.not_false
def WT:=@Nat.pow_le_pow_right
def WU:=@PySem.wpAny_rule
def WV:=@Bool.and_eq_true_iff
def WW:=@Nat.zero_add
def WX:=@PySem.wpAny_isInstance
def WY.{u,v}:=@List.mem_flatMap.{u,v}
def WZ:=@PyProof.Rows.F.entry_set_update_loop
def W0.{u}:=@List.reverse_append.{u}
def W2:=@PySem.F.args_tuple_add_2
def W3.{u}:=@List.length_erase_of_mem.{u}
def W4:=@PySem.wpAny_passesOwn
def W5.{u,v}:=@List.foldl_cons.{u,v}
def W6:=@PyProof.Rows.wpS_get
def W7.{u}:=@List.getElem?_replicate.{u}
def W8:=@PySem.F.entry_tuple_add
def W9:=@PySem.F.slot_tuple_add
def Xa.{u}:=@List.Pairwise.imp.{u}
def Xb:=@List.pairwise_lt_range
def Xc.{u}:=@List.ext_getElem?.{u}
def Xd:=@PySem.wpAny_setField
def Xe:=@PySem.F.plain_list_iadd
def Xf:=@List.range_succ_eq_map
def Xg:=@PySem.F.slot_dict_get
def Xh:=@PySem.builtinLookup_eq_fast
def Xi.{u}:=@Classical.choose_spec.{u}
def Xj:=@PySem.wpAny_forIn_list
def Xk.{u}:=@Array.eq_empty_of_size_eq_zero.{u}
def Xl:=@PySem.F.args_dict_keyiterator_next_1
def Xm.{u}:=@List.drop_length.{u}
def Xn:=@PyProof.Rows.reverseSlice'_eq
def Xo.{u}:=@List.any_eq_true.{u}
def Xp:=@PySem.plainId_quiet
def Xq:=@PySem.wpAny_attempt
def Xr.{u}:=@List.getElem?_set_ne.{u}
def Xs:=@PySem.F.entry_dict_keyiterator_next
def Xt.{u}:=@Array.toList_extract.{u}
def Xu.{u}:=@List.mem_of_mem_take.{u}
def Xv:=@List.getElem?_range
def Xw:=@PySem.wpAny_setEntries_of
def Xx.{u,v}:=@List.flatMap_append.{u,v}
def Xy:=@PySem.codeAny_mono
def Xz.{u,v}:=@List.map_nil.{u,v}
def XA:=@PySem.Calls.Name_function_global
def XB:=@PySem.tupleKind_room_in1
def XC.{u}:=@List.Perm.refl.{u}
def XD.{u}:=@List.perm_ext_iff_of_nodup.{u}
def XE:=@PySem.wpAny_runValue
def XF:=@PySem.isSubtype_type
def XG:=@PySem.wpAny_fieldsOf
def XH.{u}:=@List.take_zero.{u}
def XI.{u}:=@Array.toList_setIfInBounds.{u}
def XJ.{u}:=@Array.perm_iff_toList_perm.{u}
def XK.{u}:=@List.count_eq_zero.{u}
def XM:=@PySem.Value.isInt_shape
def XN.{u}:=@List.any_eq_false.{u}
def XO:=@PySem.W.kitx_list
def XP:=@PySem.wpAny_pyIter_slot
def XQ.{u}:=@Array.isEmpty_iff.{u}
def XR:=@PySem.wpAny_setEpoch_of
def XS:=@PySem.wpAny_dictEntries
def XT.{u}:=@dif_pos.{u}
def XU.{u}:=@List.filter_congr.{u}
def XW.{u,v}:=@List.flatMap_cons.{u,v}
def XX.{u}:=@List.Sublist.refl.{u}
def XY:=@PyProof.Rows.listUpdate_at
def XZ:=@PySem.AutoSeq1.wpAny_loadPart'
def X0:=@PySem.noFill_tuple_add
def X1:=@PySem.F.args_dict_get_3
def X2.{u}:=@List.perm_middle.{u}
def X3:=@PyProof.Rows.wpS_lift
def X4.{u}:=@Array.toList_inj.{u}
def X5.{u}:=@List.nil_sublist.{u}
def X6:=@decide_eq_false_iff_not
def X7:=@PySem.F.slot_tuple_mul
def X8.{u}:=@List.take_length.{u}
def X9:=@Nat.ne_of_gt
def Ya:=@PySem.W.cellsFrom_some
def Yb:=@PySem.concat_meets
def Yc:=@PySem.F.entry_dict_get
def Yd:=@PySem.wpAny_specialOf
def Ye:=@PySem.typeLookup_type
def Yf:=@PySem.wpAny_dictEpoch
def Yg:=@Bool.eq_iff_iff
def Yh:=@Bool.and_false
def Yi:=@PySem.Heap.size_push
def Yj:=@or_false
def Yk:=@PySem.entryFor_alias
def Yl:=@PySem.Paired.length
def Ym:=@PySem.seq_tuple_add
def Yn:=@Bool.and_true
def Yo:=@Bool.and_self
def Yp:=@PySem.wpAny_newList
def Yq:=@PySem.wpAny_load
def Yr:=@PySem.W.kitx_tuple
def Ys:=@Nat.mod_lt
def Yt:=@Int.emod_lt_of_pos
def Yu:=@Bool.not_eq_false'
section
set_option Elab.async false
set_option linter.all false
set_option maxRecDepth 100000
namespace bE
open PySem PySem.Spec PyProof.Rows
noncomputable abbrev Key:=Sum Int Str
noncomputable def oT:Key->Value->Bool
 |.inl k,v=>Value.isInt k v
 |.inr x,v=>Value.isStrOf x v
noncomputable def Mu(w:World):Key->Int
 |.inl k=>hashInt k
 |.inr x=>hashStr w x
def lp:∀{k:Key}{v:Value},oT k v=true->(∃i t,k=Sum.inl i/\v=Value.int i t)\/(∃x t,k=Sum.inr x/\v=Value.str x t)
 |.inl i,v,h=>by
  obtain⟨t,e⟩:=XM (k:=i) (v:=v) h;exact .inl ⟨i,t,rfl,e⟩
 |.inr x,v,h=>by
  obtain⟨t,e⟩:=Value.isStrOf_shape (x:=x) (v:=v) h;exact .inr ⟨x,t,rfl,e⟩
def Mv(i:Int)(t:Tok):oT (.inl i) (.int i t)=true:=by simp[oT,Value.isInt]
def Mw(x:Str)(t:Tok):oT (.inr x) (.str x t)=true:=by simp[oT,Value.isStrOf]
def My(a b:Int):decide ((Sum.inl a:Key)=Sum.inl b)=(a==b):=by
 by_cases e:a=b
 .subst e;simp
 .have h:¬(Sum.inl a:Key)=Sum.inl b:=λq=>e (Sum.inl.inj q)
  rw[decide_eq_false h];exact(beq_eq_false_iff_ne.mpr e).symm
def MB(a b:Str):decide ((Sum.inr a:Key)=Sum.inr b)=decide (a=b):=by
 by_cases e:a=b
 .subst e;simp
 .have h:¬(Sum.inr a:Key)=Sum.inr b:=λq=>e (Sum.inr.inj q)
  rw[decide_eq_false h,decide_eq_false e]
def Mz(a:Int)(b:Str):decide ((Sum.inl a:Key)=Sum.inr b)=false:=decide_eq_false (λq=>nomatch q)
def MA(a:Str)(b:Int):decide ((Sum.inr a:Key)=Sum.inl b)=false:=decide_eq_false (λq=>nomatch q)
noncomputable def hv(prog:Program)(w:World):PySem.KeyKind prog w Key where
 is:=oT
 hash:=Mu w
 inj:=λv a b az af=>by
  rcases lp az with⟨i,t,rfl,rfl⟩|⟨x,t,rfl,rfl⟩
  .rcases lp af with⟨j,u,rfl,e⟩|⟨y,u,rfl,e⟩
   .injection e with aj _;rw[aj]
   .exact nomatch e
  .rcases lp af with⟨j,u,rfl,e⟩|⟨y,u,rfl,e⟩
   .exact nomatch e
   .injection e with aj _;rw[aj]
 byValue:=λk v h=>by
  rcases lp h with⟨i,t,rfl,rfl⟩|⟨x,t,rfl,rfl⟩<;>rfl
 pyHash:=λaQ h=>by
  rcases lp aQ with⟨i,t,rfl,rfl⟩|⟨x,t,rfl,rfl⟩
  .exact wpAny_pyHash_int h
  .exact wpAny_pyHash_str h
 eqBool:=λbQ aQ h=>by
  rcases lp bQ with⟨i,t,rfl,rfl⟩|⟨x,t,rfl,rfl⟩
  .rcases lp aQ with⟨j,u,rfl,rfl⟩|⟨y,u,rfl,rfl⟩
   .rw[My]at h;exact wpAny_eqBool_int h
   .rw[Mz]at h;exact SeqAt.EqAt.int_str i t y u _ _ _ _ h
  .rcases lp aQ with⟨j,u,rfl,rfl⟩|⟨y,u,rfl,rfl⟩
   .rw[MA]at h;exact SeqAt.EqAt.str_int x t j u _ _ _ _ h
   .rw[MB]at h;exact wpAny_eqBool_str h
 «strs»:=λk x t v h=>by
  rcases lp h with⟨i,u,rfl,e⟩|⟨y,u,rfl,e⟩
  .exact nomatch e
  .injection e with aj _;subst aj;cases v<;>rfl
def Nu(prog:Program)(w:World)(i:Int)(t:Tok):(hv prog w).is (.inl i) (.int i t)=true:=Mv i t
def Nv(prog:Program)(w:World)(x:Str)(t:Tok):(hv prog w).is (.inr x) (.str x t)=true:=Mw x t
end bE
namespace bE
open PySem PySem.Spec PyProof.Rows
inductive V where
 |cU|aM (b:Bool)|int (i:Int)|str (x:Str)|vu (b:Array UInt8)|oB (b:UInt64)|ref (a:Addr)|ty (n:String)
 deriving DecidableEq
noncomputable def RelV:V->Value->Prop
 |.cU,u=>u=Value.none
 |.aM b,u=>u=Value.bool b
 |.int i,u=>∃t,u=Value.int i t
 |.str x,u=>∃t,u=Value.str x t
 |.vu b,u=>∃t,u=Value.bytes b t
 |.oB b,u=>∃t,u=Value.float b t
 |.ref a,u=>u=Value.ref a
 |.ty n,u=>u=Value.type n
noncomputable abbrev Vals:List V->List Value->Prop:=Paired RelV
theorem Vals.length{xs:List V}{us:List Value}(r:Vals xs us):xs.length=us.length:=Yl r
theorem Vals.get:∀{xs:List V}{us:List Value}{i:Nat}{x:V},Vals xs us->xs[i]?=some x->∃u,us[i]?=some u/\RelV x u
 |_,_,_,_,.nil,e=>by simp at e
 |_,_,0,_,.cons r _,e=>by simp at e;subst e;exact⟨_,rfl,r⟩
 |_,_,i+1,x,.cons _ t,e=>by
  obtain⟨u,J,aa⟩:=Vals.get (i:=i) (x:=x) t (by simpa using e)
  exact⟨u,by simpa using J,aa⟩
theorem Vals.append:∀{xs ys:List V}{us ws:List Value},Vals xs us->Vals ys ws->Vals (xs++ys) (us++ws)
 |_,_,_,_,.nil,s=>s
 |_,_,_,_,.cons r t,s=>.cons r (Vals.append t s)
theorem Vals.take:∀{xs:List V}{us:List Value}(n:Nat),Vals xs us->Vals (xs.take n) (us.take n)
 |_,_,0,_=>.nil
 |_,_,_+1,.nil=>.nil
 |_,_,n+1,.cons r t=>.cons r (Vals.take n t)
theorem Vals.drop:∀{xs:List V}{us:List Value}(n:Nat),Vals xs us->Vals (xs.drop n) (us.drop n)
 |_,_,0,r=>r
 |_,_,_+1,.nil=>.nil
 |_,_,n+1,.cons _ t=>Vals.drop n t
noncomputable def h4:Option V->Option Value->Prop
 |some v,some u=>RelV v u
 |none,none=>True
 |_,_=>False
noncomputable def fK{κ:Type}:List (κ×V)->List (κ×Value)->Prop:=Paired λ(p:κ×V)(q:κ×Value)=>p.1=q.1/\RelV p.2 q.2
noncomputable def de:Key->V
 |.inl i=>.int i
 |.inr x=>.str x
inductive d8 where
  |lst (xs:List V)
  |tup (xs:List V)
  |gq (aB:List (Key×V))|eu (aB:List (List Key×V))
  |set (S:Int->Bool) (n:Nat)
  |ins (bU a4:Addr) (bK:List (Str×V))
  |own (x:Addr)
  |yT (bK:List (Str×V))
  |met (f x:Addr)
  |eS (lo hi:Int)
  |hI (o:Obj) (u:d8)
  |nV (bt:Array Value)
  |ext (g5:Heap->Prop)
noncomputable abbrev ax:=Addr->Option d8
noncomputable def upd(H:ax)(a:Addr)(o:d8):ax:=λb=>if b=a then some o else H b
def eh{H:ax}{a:Addr}{o:d8}:upd H a o a=some o:=by unfold upd;rw[if_pos rfl]
def dc{H:ax}{a b:Addr}{o:d8}(h:b≠a):upd H a o b=H b:=by unfold upd;rw[if_neg h]
def ND{H:ax}{a b:Addr}{o u:d8}(h:H a=some o)(h':H b=some u)(d:o≠u):a≠b:=by
 intro e;subst e;rw[h]at h';exact d (Vs h')
def iq{H:ax}{a b:Addr}{o:d8}(h:H a=some o)(h':H b=none):a≠b:=by
 intro e;subst e;rw[h]at h';cases h'
section
variable(P:Program)(w:World)
noncomputable def ej(H:ax)(h:Heap)(a:Addr):d8->Prop
 |.lst xs=>xs.length<=sizeLine/\∃(its:List Value)(n:Nat),Vals xs its/\h.get? a=some { cls:=.type "list",data:=.seq its.toArray n }
 |.tup xs=>xs.length<=sizeLine/\∃its:List Value,Vals xs its/\IsTup h a its.toArray
 |.gq aB=>aB.length<=sizeLine/\(a==sysModules)=false/\∃ag,fK aB ag/\h.DictOf (hv P w) a ag
 |.eu aB=>aB.length<=sizeLine/\(a==sysModules)=false/\∃xs:List (List Key×Addr×Value),
   Paired (λ(p:List Key×V)(q:List Key×Addr×Value)=>p.1=q.1/\H q.2.1=some (.tup (p.1.map de))/\RelV p.2 q.2.2) aB xs /\
   ∃o ab aT,h.get? a=some o/\o.ExactDict/\o.data=.dict ab aT/\ab.toList=xs.map (entryOfKey (tupleKind (hv P w)))/\(xs.map (·.1)).Nodup
 |.set S n=>h.SetOf (intKind P w) a S n
 |.ins bU a4 bK=>H a4=some (.own a)/\bK.length<=1000/\a4≠a/\h.get? a=some (PySem.W.instObj bU a4) /\
   ∃eG,h.Ns1 a4 eG/\(∀f,h4 (bK.lookup f) (eG f))/\PySem.Within eG (bK.map (·.1))
 |.own _=>∃o,h.get? a=some o
 |.yT bK=>∃eG,h.Ns1 a eG/\∀f,h4 (bK.lookup f) (eG f)
 |.eS lo hi=>∃t u v,h.get? a=some { cls:=.type "range",data:=.fields #[.int lo t,.int hi u,.int 1 v] }
 |.hI o u=>h.get? a=some o/\ej H h a u
 |.nV bt=>h.get? a=some { cls:=.none,data:=.fields bt }
 |.met f x=>h.get? a=some (PySem.W.methodObj (.ref f) (.ref x))
 |.ext g5=>g5 h/\(∃o,h.get? a=some o)/\∀J aa:Heap,g5 J->(∀o,J.get? a=some o->aa.get? a=some o)->g5 aa
noncomputable def d5(H:ax)(h:Heap):Prop:=∀a o,H a=some o->ej P w H h a o
end
section
variable{P:Program}{w:World}{H ao:ax}{h h':Heap}{a:Addr}{o:d8}
theorem ej.lt(x:ej P w H h a o):a<h.objs.size:=by
 cases o with
 |lst xs=>obtain⟨_,_,_,_,e⟩:=x;exact UK e
 |tup xs=>obtain⟨_,_,_,p⟩:=x;exact p.lt
 |gq aB=>obtain⟨_,_,_,_,o,_,_,e,_⟩:=x;exact UK e
 |eu aB=>obtain⟨_,_,_,_,o,_,_,e,_⟩:=x;exact UK e
 |set S n=>obtain⟨o,_,_,_,e,_⟩:=x;exact UK e
 |ins bU a4 bK=>obtain⟨_,_,_,e,_⟩:=x;exact UK e
 |own y=>obtain⟨_,e⟩:=x;exact UK e
 |yT bK=>obtain⟨_,⟨_,_,_,e,_⟩,_⟩:=x;exact UK e
 |eS lo hi=>obtain⟨_,_,_,e⟩:=x;exact UK e
 |hI bx u=>obtain⟨e,_⟩:=x;exact UK e
 |nV bt=>exact UK (show h.get? a=some _ from x)
 |met f y=>exact UK (show h.get? a=some _ from x)
 |ext g5=>obtain⟨_,⟨_,e⟩,_⟩:=x;exact UK e
theorem Paired.xK{α β:Type}{F G:α->β->Prop}:∀{CE:List α}{CF:List β},Paired F CE CF->(∀a b,F a b->G a b)->Paired G CE CF
 |_,_,.nil,_=>.nil
 |_,_,.cons r t,f=>.cons (f _ _ r) (Paired.xK t f)
def ej.jS(x:ej P w H h a o)(k:∀b u,(b=a\/H b=some (.own a))->h.get? b=some u->h'.get? b=some u)(ar:∀b,H b=some (.own a)->ao b=some (.own a))(aS:∀b xs,H b=some (.tup xs)->ao b=some (.tup xs)):ej P w ao h' a o:=by
 induction o with
 |lst xs=>obtain⟨z,its,n,r,e⟩:=x;exact⟨z,its,n,r,k _ _ (.inl rfl) e⟩
 |tup xs=>obtain⟨z,its,r,bx,e,c⟩:=x;exact⟨z,its,r,bx,k _ _ (.inl rfl) e,c⟩
 |gq aB=>obtain⟨z,y,ag,r,bx,ab,aT,e,c⟩:=x;exact⟨z,y,ag,r,bx,ab,aT,k _ _ (.inl rfl) e,c⟩
 |eu aB =>
  obtain⟨z,y,xs,r,bx,ab,aT,e,c⟩:=x;exact⟨z,y,xs,Paired.xK r λp q z=>⟨z.1,aS _ _ z.2.1,z.2.2⟩,bx,ab,aT,k _ _ (.inl rfl) e,c⟩
 |set S n=>obtain⟨bx,ab,aT,t,e,c⟩:=x;exact⟨bx,ab,aT,t,k _ _ (.inl rfl) e,c⟩
 |ins bU a4 bK =>
  obtain⟨d,z,ne,e,eG,⟨cn,ab,aT,av,c⟩,r⟩:=x;exact⟨ar _ d,z,ne,k _ _ (.inl rfl) e,eG,⟨cn,ab,aT,k _ _ (.inr d) av,c⟩,r⟩
 |own y=>obtain⟨bx,e⟩:=x;exact⟨bx,k _ _ (.inl rfl) e⟩
 |yT bK=>obtain⟨eG,⟨cn,ab,aT,e,c⟩,r⟩:=x;exact⟨eG,⟨cn,ab,aT,k _ _ (.inl rfl) e,c⟩,r⟩
 |eS lo hi=>obtain⟨t,u,v,e⟩:=x;exact⟨t,u,v,k _ _ (.inl rfl) e⟩
 |hI bx u aO=>obtain⟨e,q⟩:=x;exact⟨k _ _ (.inl rfl) e,aO q⟩
 |nV bt =>
  have e:h.get? a=some { cls:=.none,data:=.fields bt }:=x;show h'.get? a=some { cls:=.none,data:=.fields bt };exact k a _ (.inl rfl) e
 |met f y =>
  have e:h.get? a=some (PySem.W.methodObj (.ref f) (.ref y)):=x;show h'.get? a=some (PySem.W.methodObj (.ref f) (.ref y));exact k a _ (.inl rfl) e
 |ext g5=>obtain⟨p,⟨o,e⟩,st⟩:=x;exact⟨st _ _ p λo q=>k _ _ (.inl rfl) q,⟨o,k _ _ (.inl rfl) e⟩,st⟩
theorem d5.lt(x:d5 P w H h)(e:H a=some o):a<h.objs.size:=(x a o e).lt
def d5.fresh(x:d5 P w H h)(e:h.objs.size<=a):H a=none:=by
 cases q:H a with
 |none=>rfl
 |some u=>exact absurd (U6 (x.lt q) e) (VT _)
def d5.kept(x:d5 P w H h)(k:∀b u,h.get? b=some u->h'.get? b=some u):d5 P w H h':=λa o e =>
 (x a o e).jS (λb u _ q=>k b u q) (λ_ q=>q) λ_ _ q=>q
def d5.laid(x:d5 P w H h)(k:∀b u,h.get? b=some u->h'.get? b=some u)(aC:h.objs.size<=a)(new:ej P w (upd H a o) h' a o):d5 P w (upd H a o) h':=λb u e=>by
 have aD:=x.fresh aC
 by_cases af:b=a
 .subst af;rw[eh]at e;cases e;exact new
 .rw[dc af]at e;exact(x b u e).jS (λc v _ q=>k c v q) (λc q=>by rw[dc (iq q aD)];exact q) λc xs q=>by rw[dc (iq q aD)];exact q
end
noncomputable def jj(H:ax)(a:Addr)(u:d8):Prop:=H a=some u\/∃o,H a=some (.hI o u)
def jj.ok{P:Program}{w:World}{H:ax}{h:Heap}{a:Addr}{u:d8}(r:jj H a u)(x:d5 P w H h):ej P w H h a u:=by
 rcases r with r|⟨o,r⟩
 .exact x a u r
 .obtain⟨_,q⟩:=x a _ r;exact q
noncomputable def pS:Option d8->Prop
 |some (.lst _)=>True
 |some (.gq _)=>True
 |some (.eu _)=>True
 |some (.set _ _)=>True
 |some (.ins _ _ _)=>True
 |some (.ext _)=>True
 |_=>False
section
variable{P:Program}{w:World}{H:ax}{h h':Heap}{x e:Addr}{bN:d8}
def d5.write (ok : d5 P w H h) (ak : pS (H x)) (he : e = x \/ H e = some (.own x)) (k : ∀ b u, b ≠ e -> h.get? b = some u -> h'.get? b = some u) (oH : ∃ u, h'.get? e = some u)
    (new : ej P w (upd H x bN) h' x bN) : d5 P w (upd H x bN) h' := fun b u q => by
  have CW : ∀ c y, H c = some (.own y) -> c ≠ x := fun c y r z => by subst z; rw [r] at ak; exact ak
  have NO : ∀ c xs, H c = some (.tup xs) -> c ≠ x := fun c xs r z => by subst z; rw [r] at ak; exact ak
  by_cases af : b = x
  · subst af; rw [eh] at q; cases q; exact new
  · rw [dc af] at q
    by_cases m9 : b = e
    · have cL : H b = some (.own x) := by
        rcases he with z | z
        · exact absurd (m9.trans z) af
        · rw [m9]; exact z
      rw [q] at cL; cases cL
      obtain ⟨v, aQ⟩ := oH
      exact ⟨v, by rw [m9]; exact aQ⟩
    · refine (ok b u q).jS (fun c v ai r => k c v ?_ r) (fun c r => by rw [dc (CW c b r)]; exact r) fun c xs r => by rw [dc (NO c xs r)]; exact r
      rcases ai with rfl | ai
      · exact m9
      · rintro rfl
        rcases he with z | z
        · exact CW c b ai z
        · rw [ai] at z; cases z; exact af rfl
end
structure eO(bK ex:List Addr)(H ao:ax)(h h':Heap):Prop where
 keep:∀b o,h.get? b=some o->H b=none->b∉bK->b∉ex->h'.get? b=some o
 slot:∀b o,h.get? b=some o->H b=none->b∈bK->b∉ex->∃b1,h'.get? b=some { o with slots:=b1 }
 free:∀b o,h.get? b=some o->H b=none->b∉ex->ao b=none
 there:∀b o,h.get? b=some o->b∉ex->∃bN,h'.get? b=some bN
 kF:∀b xs,H b=some (.tup xs)->ao b=some (.tup xs)
 jy:∀b o u,H b=some (.hI o u)->ao b=some (.hI o u)
 kD:∀b bt,H b=some (.nV bt)->∃more,ao b=some (.nV (bt++more))
section
variable{bK JS ex TJ:List Addr}{H H1 aW:ax}{h J aa h':Heap}{a x e:Addr}{o:d8}
def eO.any(u:eO bK ex H H1 h J){b:Addr}{bx:Obj}(q:h.get? b=some bx)(n:H b=none)(ah:b∉ex):∃b1,J.get? b=some { bx with slots:=b1 }:=by
 by_cases af:b∈bK
 .exact u.slot b bx q n af ah
 .exact⟨bx.slots,u.keep b bx q n af ah⟩
def eO.kept(k:∀b u,h.get? b=some u->h'.get? b=some u):eO bK ex H H h h' :=
 ⟨λb bx q _ _ _=>k b bx q,λb bx q _ _ _=>⟨bx.slots,k b bx q⟩,λ_ _ _ n _=>n,λb bx q _=>⟨bx,k b bx q⟩,λ_ _ q=>q,λ_ _ _ q=>q,λ_ bt q=>⟨#[],by rw[q];simp⟩⟩
def eO.refl:eO bK ex H H h h:=eO.kept λ_ _ q=>q
def eO.laid(k:∀b u,h.get? b=some u->h'.get? b=some u)(aC:h.objs.size<=a)(aD:H a=none):eO bK ex H (upd H a o) h h' where
 keep:=λb u q _ _ _=>k b u q
 slot:=λb u q _ _ _=>⟨u.slots,k b u q⟩
 free:=λb u q n _=>by rw[dc (UZ (U6 (UK q) aC))];exact n
 there:=λb u q _=>⟨u,k b u q⟩
 kF:=λb xs q=>by rw[dc (iq q aD)];exact q
 jy:=λb u xs q=>by rw[dc (iq q aD)];exact q
 kD:=λb bt q=>⟨#[],by rw[dc (iq q aD),q];simp⟩
def eO.write(ak:pS (H x))(he:e=x\/H e=some (.own x))(k:∀b u,b≠e->h.get? b=some u->h'.get? b=some u)(oH:∃u,h'.get? e=some u):eO bK ex H (upd H x o) h h':=by
 have ah:∀b,H b=none->b≠x:=λb n z=>by subst z;rw[n]at ak;exact ak
 have af:∀b,H b=none->b≠e:=λb n z=>by
  subst z;rcases he with r|r
  .exact ah b n r
  .rw[n]at r;cases r
 have hm:∀b u,H b=some u->¬pS (some u)->b≠x:=λb u q nm z=>by subst z;rw[q]at ak;exact nm ak
 refine⟨λb u q n _ _=>k b u (af b n) q,λb u q n _ _=>⟨u.slots,k b u (af b n) q⟩,λb u q n _=>by rw[dc (ah b n)];exact n,λb u q _=>?_,
  λb xs q=>by rw[dc (hm b _ q λz=>z)];exact q,λb u xs q=>by rw[dc (hm b _ q λz=>z)];exact q,λb bt q=>⟨#[],by rw[dc (hm b _ q λz=>z),q];simp⟩⟩
 by_cases m9:b=e
 .subst m9;exact oH
 .exact⟨u,k b u m9 q⟩
end
noncomputable def ua(h:Heap)(H:ax):List Addr:=(List.range h.objs.size).filter λa=>(H a).isSome
noncomputable def k6(h:Heap)(H:ax):Heap:=PySem.W.hideAll h (ua h H)
def K2(h:Heap)(H:ax):(k6 h H).objs.size=h.objs.size:=PySem.W.hideAll_size _ _
def K1{h:Heap}{H:ax}{b:Addr}{o:Obj}(e:h.get? b=some o)(n:H b=none):(k6 h H).get? b=some o :=
 PySem.W.hideAll_get _ e λhm=>by
  have q:(H b).isSome=true:=(U0.mp hm).2;rw[n]at q;simp at q
def NV{h:Heap}{H:ax}{b:Addr}{o:Obj}(e:(k6 h H).get? b=some o):h.get? b=some o/\H b=none:=by
 have bf:h.get? b=some o:=PySem.W.of_hideAll (ua h H) e;refine⟨bf,?_⟩;cases q:H b with
 |none=>rfl
 |some x =>
  have hm:b∈ua h H:=U0.mpr ⟨List.mem_range.mpr (UK bf),by simp[q]⟩
  have z:(k6 h H).get? b=none:=PySem.W.hideAll_none (ua h H) hm;rw[z]at e;cases e
noncomputable def FZ(g h:Heap)(L:Addr):List (Addr×Obj):=(List.range h.objs.size).filterMap λa=>if a=L\/(g.get? a).isSome=true then none else(h.get? a).map λo=>(a,o)
noncomputable def rest(g h:Heap)(L d:Addr):List (Addr×Obj):=(FZ g h L).filter λp=>decide (p.1≠d)
end bE
namespace bE
open PySem PySem.Spec PyProof.Rows
structure Mod(K:W.Frag)(aF:Str->Option Value)(base:Heap):Prop where
 xC:K.In base
 glob:base.Ns mainGlobals aF
 blt:∃i0,base.Ns builtinsNs i0/\∀x:Str,x≠"__name__"->i0 x=bootBuiltins x
 nolimit:base.NoLimit
structure aV where
 prog:Program
 w:World
 K:W.Frag
 aF:Str->Option Value
 base:Heap
 A:Around
 N:List Str
 eK:Shared
 pQ:ax
 env:Env
 outer:List Env
 stack:List Env
 ex:List Addr
 fn:Str->Bool
 calm:Bool
 e0:List (Addr×Obj)
 cR:Value->Shared->Prop
noncomputable def hH(l:List Env):List Addr:=l.filterMap (·.frame)
noncomputable abbrev aV.bK(X:aV):List Addr:=hH X.outer
noncomputable def hE(sc:Scope)(x:Str):Prop:=sc.names.lookup x=some .local\/sc.names.lookup x=some .cell\/sc.names.lookup x=some .free
noncomputable def Loc(sc:Scope)(x:Str):Prop:=sc.names.lookup x=some .local\/sc.names.lookup x=some .cell
noncomputable def Look(env:Env)(h:Heap)(m:Str->Option Value)(x:Str)(u:Value):Prop :=
 (env.kindOf x=some .local/\m x=some u)\/((env.kindOf x=some .cell\/env.kindOf x=some .free)/\∃c,env.cells.lookup x=some c/\h.IsCell c (some u))
structure aV.Ok(X:aV):Prop where
 mod:Mod X.K X.aF X.base
 kind:X.env.scope.kind=.function
 glob:X.env.globals=mainGlobals
 blt:X.env.builtins=builtinsNs
 above:X.eK.heap.objs.size<=X.env.locals
 inj:∀x y c,X.env.cells.lookup x=some c->X.env.cells.lookup y=some c->x=y
 has:∀x,(X.env.kindOf x=some .cell\/X.env.kindOf x=some .free)->∃c,X.env.cells.lookup x=some c
 vv:∀x c,X.fn x=true->X.env.cells.lookup x=some c->X.eK.heap.objs.size<=c
 hd:X.calm=true->X.A.handled=none
 frames:X.A.frames=some X.stack
 yv:X.stack=X.outer\/(X.stack=X.env::X.outer/\X.env.frame=some X.env.locals)
 Ar:∀b∈X.ex,b≠X.env.locals/\∀x c,X.env.cells.lookup x=some c->c≠b
 bs:∀b o,X.base.get? b=some o->X.eK.heap.get? b=some o/\X.pQ b=none
 p6:X.base.objs.size<=X.eK.heap.objs.size
 tq:∀b o,X.base.get? b=some o->b∉X.ex
 sa:∀b∈X.ex,b∉X.bK
 k3:X.eK.heap.FunFrames X.base X.outer
 sk:∀b∈X.bK,X.pQ b=none
structure Inv(X:aV)(pins:List (Addr×Obj))(σ:List (Option V))(H:ax)(s:Shared):Prop where
 ok:X.Ok
 os:s.os=X.eK.os
 bare:AllBare s.gens
 base:eO X.bK X.ex X.pQ H X.eK.heap s.heap
 loc:∃m,s.heap.Ns X.env.locals m/\∀(i:Nat)(x:Str)(v:V),X.N[i]?=some x->σ[i]?=some (some v)->hE X.env.scope x->∃u,RelV v u/\Look X.env s.heap m x u
 cell:∀x c,X.env.cells.lookup x=some c->∃v,s.heap.IsCell c v
 free:H X.env.locals=none
 ka:∀x c,X.env.cells.lookup x=some c->H c=none
 pin:∀p∈X.e0++pins,s.heap.get? p.1=some p.2/\H p.1=none/\p.1≠X.env.locals/\p.1∉X.bK/\∀v,p.2.data≠.cell v
 bP:d5 X.prog X.w H s.heap
 len:σ.length=X.N.length
section
variable{X:aV}{pins:List (Addr×Obj)}{σ:List (Option V)}{H ao:ax}{s:Shared}{h':Heap}
def aV.Ok.NL(ok:X.Ok){b:Addr}{o:Obj}(e:X.base.get? b=some o):b∉X.bK:=λaf=>by
 have:=(ok.k3.mem af).1;rw[e]at this;cases this
theorem Inv.bs(I:Inv X pins σ H s):∀b o,X.base.get? b=some o->s.heap.get? b=some o/\H b=none:=λb o e =>
 ⟨I.base.keep b o (I.ok.bs b o e).1 (I.ok.bs b o e).2 (I.ok.NL e) (I.ok.tq b o e),I.base.free b o (I.ok.bs b o e).1 (I.ok.bs b o e).2 (I.ok.tq b o e)⟩
def Inv.lU(I:Inv X pins σ H s):∀b o,X.base.get? b=some o->s.heap.get? b=some o:=λb o e=>(I.bs b o e).1
theorem Inv.mod(I:Inv X pins σ H s):Mod X.K X.aF X.base:=I.ok.mod
def Inv.fU(I:Inv X pins σ H s):X.K.In s.heap:=I.ok.mod.xC.keeps I.lU
theorem Inv.lt(I:Inv X pins σ H s):X.env.locals<s.heap.objs.size:=let ⟨_,aD,_⟩:=I.loc;aD.lt
def Inv.d3(I:Inv X pins σ H s):X.eK.heap.objs.size<=s.heap.objs.size:=Vk I.ok.above (WD I.lt)
def Inv.CT(I:Inv X pins σ H s){a:Addr}(h:s.heap.objs.size<=a):a∉X.bK:=λaf=>by
 obtain⟨_,o,ar,_⟩:=I.ok.k3.mem af;exact absurd (U6 (UK ar) (Vk I.d3 h)) (VT _)
def Inv.mV(I:Inv X pins σ H s):∀x c,X.env.cells.lookup x=some c->c≠X.env.locals:=λx c e z=>by
 obtain⟨v,o,ar,hd⟩:=I.cell x c e;obtain⟨m,⟨bN,ab,aT,dh,f7,_⟩,_⟩:=I.loc;rw[z,dh]at ar;cases ar;rw[f7]at hd;cases hd
theorem Inv.k3(I:Inv X pins σ H s):s.heap.FunFrames X.base X.outer:=by
 have all:∀(l:List Env),(∀b∈hH l,b∈X.bK)->X.eK.heap.FunFrames X.base l->s.heap.FunFrames X.base l:=by
  intro l
  induction l with
  |nil=>intro _ _;trivial
  |cons env r aO =>
   intro ae aw;obtain⟨aq,⟨L,o,hf,aD,ar,hd⟩,aZ⟩:=aw;have f6:L∈X.bK:=ae L (by unfold hH;rw[List.filterMap_cons,hf];exact List.mem_cons_self)
   obtain⟨b1,e⟩:=I.base.slot L o ar (I.ok.sk L f6) f6 λz=>I.ok.sa L z f6
   exact⟨aq,⟨L,_,hf,aD,e,hd⟩,aO (λb af=>ae b (by unfold hH;rw[List.filterMap_cons,hf];exact List.mem_cons_of_mem _ af)) aZ⟩
 exact all X.outer (λ_ af=>af) I.ok.k3
theorem Inv.stack(I:Inv X pins σ H s):s.heap.FunFrames X.base X.stack:=by
 rcases I.ok.yv with e|⟨e,hf⟩
 .rw[e];exact I.k3
 .rw[e];obtain⟨m,aD,_⟩:=I.loc;refine .cons (by rw[I.ok.kind];decide) hf aD ?_ I.k3
  exact Heap.get?_none_of_le (Vk I.ok.p6 I.ok.above)
def Inv.t4(I:Inv X pins σ H s):∀b∈hH X.stack,b∈X.env.locals::X.bK:=λb af=>by
 rcases I.ok.yv with e|⟨e,hf⟩
 .rw[e]at af;exact List.mem_cons_of_mem _ af
 .rw[e]at af;unfold hH at af;rw[List.filterMap_cons,hf]at af;exact af
def Inv.EG(I:Inv X pins σ H s):∀b∈hH X.stack,H b=none:=λb af=>by
 rcases UI.mp (I.t4 b af) with e|af
 .rw[e];exact I.free
 .obtain⟨_,o,ar,_⟩:=I.ok.k3.mem af;exact I.base.free b o ar (I.ok.sk b af) λz=>I.ok.sa b z af
def Inv.step{g':Array GenState}{t':Nat}{d':Drawn}{ch:List Addr}(I:Inv X pins σ H s)(ie:∀b∈ch,(b∈X.ex\/X.eK.heap.objs.size<=b)/\b≠X.env.locals/\(∀x c,X.env.cells.lookup x=some c->c≠b)/\∀p∈X.e0++pins,p.1≠b)(keep:∀b o,b≠X.env.locals->b∉X.bK->b∉ch->s.heap.get? b=some o->H b=none->h'.get? b=some o)(slot:∀b o,b≠X.env.locals->b∈X.bK->b∉ch->s.heap.get? b=some o->H b=none->∃b1,h'.get? b=some { o with slots:=b1 })(free:∀b o,b∉ch->s.heap.get? b=some o->H b=none->ao b=none)(there:∀b o,b∉ch->s.heap.get? b=some o->∃bN,h'.get? b=some bN)(kF:∀b xs,H b=some (.tup xs)->ao b=some (.tup xs))(jy:∀b o u,H b=some (.hI o u)->ao b=some (.hI o u))(kD:∀b bt,H b=some (.nV bt)->∃more,ao b=some (.nV (bt++more)))(ns:∀m,s.heap.Ns X.env.locals m->h'.Ns X.env.locals m)(bP:d5 X.prog X.w ao h')(ba:AllBare g'):
  Inv X pins σ ao { s with heap:=h',gens:=g',drawn:=d',toks:=t' }:=by
 have CN:∀b o,X.eK.heap.get? b=some o->b≠X.env.locals:=λb o e=>UZ (U6 (UK e) I.ok.above)
 have mw:∀b o,X.eK.heap.get? b=some o->b∉X.ex->b∉ch:=λb o e ah af=>by
  rcases(ie b af).1 with z|z
  .exact ah z
  .exact absurd (U6 (UK e) z) (VT _)
 have cellK:∀x c,X.env.cells.lookup x=some c->∀v,s.heap.IsCell c v->h'.IsCell c v:=λx c e v ⟨o,ar,hd⟩=>by
  have q2:c∉ch:=λz=>(ie c z).2.2.1 x c e rfl
  by_cases ai:c∈X.bK
  .obtain⟨b1,q⟩:=slot c o (I.mV x c e) ai q2 ar (I.ka x c e);exact⟨_,q,hd⟩
  .exact⟨o,keep c o (I.mV x c e) ai q2 ar (I.ka x c e),hd⟩
 refine⟨I.ok,I.os,ba,⟨λb o e n af ah=>?_,λb o e n af ah=>?_,λb o e n ah=>?_,λb o e ah=>?_,λb xs e=>kF b xs (I.base.kF b xs e),λb o xs e=>jy b o xs (I.base.jy b o xs e),λb bt e=>?_⟩,?_,λx c e=>?_,?_,λx c e=>?_,λp aC=>?_,bP,I.len⟩
 .exact keep b o (CN b o e) af (mw b o e ah) (I.base.keep b o e n af ah) (I.base.free b o e n ah)
 .obtain⟨b1,aj⟩:=I.base.slot b o e n af ah;obtain⟨Q5,av⟩:=slot b _ (CN b o e) af (mw b o e ah) aj (I.base.free b o e n ah);exact⟨Q5,av⟩
 .obtain⟨bN,aj⟩:=I.base.there b o e ah;exact free b bN (mw b o e ah) aj (I.base.free b o e n ah)
 .obtain⟨bN,aj⟩:=I.base.there b o e ah;exact there b bN (mw b o e ah) aj
 .obtain⟨ht,aj⟩:=I.base.kD b bt e;obtain⟨jN,av⟩:=kD b _ aj;exact⟨ht++jN,by rw[av,Array.append_assoc]⟩
 .obtain⟨m,aD,aw⟩:=I.loc;refine⟨m,ns m aD,λi x v aj av bF=>?_⟩
  obtain⟨u,r,l⟩:=aw i x v aj av bF;refine⟨u,r,?_⟩;rcases l with l|⟨k,c,e,z⟩
  .exact .inl l
  .exact .inr ⟨k,c,e,cellK x c e _ z⟩
 .obtain⟨v,z⟩:=I.cell x c e;exact⟨v,cellK x c e v z⟩
 .obtain⟨m,⟨o,_,_,ar,_⟩,_⟩:=I.loc;exact free _ o (λz=>(ie _ z).2.1 rfl) ar I.free
 .obtain⟨v,o,ar,hd⟩:=I.cell x c e;exact free c o (λz=>(ie c z).2.2.1 x c e rfl) ar (I.ka x c e)
 .obtain⟨e,n,ne,mx,d⟩:=I.pin p aC;have q2:p.1∉ch:=λz=>(ie p.1 z).2.2.2 p aC rfl
  exact⟨keep p.1 p.2 ne mx q2 e n,free p.1 p.2 q2 e n,ne,mx,d⟩
def Inv.un{t':Nat}(I:Inv X pins σ H s)(u:eO X.bK [] H ao s.heap h')(bP:d5 X.prog X.w ao h'):Inv X pins σ ao { s with heap:=h',toks:=t' }:=by
 obtain⟨m,⟨o,ab,aT,ar,r⟩,_⟩:=id I.loc;obtain⟨b1,f6⟩:=u.any ar I.free (by simp)
 exact I.step (g':=s.gens) (d':=s.drawn) (ch:=[]) (λ_ z=>nomatch z) (λb o _ af _ e n=>u.keep b o e n af (by simp)) (λb o _ af _ e n=>u.slot b o e n af (by simp)) (λb o _ e n=>u.free b o e n (by simp)) (λb o _ e=>u.there b o e (by simp)) u.kF u.jy u.kD (λdu hm=>by
  obtain⟨bN,jw,vR,dh,bL⟩:=hm;rw[ar]at dh;cases dh;exact⟨_,jw,vR,f6,bL⟩) bP I.bare
def Inv.call{g':Array GenState}{t':Nat}{d':Drawn}{ch:List Addr}(I:Inv X pins σ H s)(u:eO (hH X.stack) ch H ao s.heap h')(bP:d5 X.prog X.w ao h')(ba:AllBare g')(ie:∀b∈ch,(b∈X.ex\/X.eK.heap.objs.size<=b)/\b≠X.env.locals/\(∀x c,X.env.cells.lookup x=some c->c≠b)/\∀p∈X.e0++pins,p.1≠b):
  Inv X pins σ ao { s with heap:=h',gens:=g',drawn:=d',toks:=t' }:=by
 obtain⟨m,⟨o,ab,aT,ar,r⟩,_⟩:=id I.loc;obtain⟨b1,f6⟩:=u.any ar I.free λz=>(ie _ z).2.1 rfl
 exact I.step (ch:=ch) ie (λb o f6 af ai e n=>u.keep b o e n (λz=>(UI.mp (I.t4 b z)).elim f6 af) ai) (λb o _ _ ai e n=>u.any e n ai) (λb o ai e n=>u.free b o e n ai) (λb o ai e=>u.there b o e ai) u.kF u.jy u.kD (λdu hm=>by
  obtain⟨bN,jw,vR,dh,bL⟩:=hm;rw[ar]at dh;cases dh;exact⟨_,jw,vR,f6,bL⟩) bP ba
def Inv.turned{t':Nat}{it:Addr}(I:Inv X pins σ H s)(k:∀b o,b≠it->s.heap.get? b=some o->h'.get? b=some o)(aD:H it=none)(f6:it≠X.env.locals)(J:it∈X.ex\/X.eK.heap.objs.size<=it)(aa:∀x c,X.env.cells.lookup x=some c->c≠it)(aL:∀p∈X.e0++pins,p.1≠it):Inv X pins σ H { s with heap:=h',toks:=t' }:=by
 have q3:∀b u,H b=some u->b≠it:=λb u e z=>by rw[z,aD]at e;cases e
 refine I.step (g':=s.gens) (d':=s.drawn) (ch:=[it]) (λb af=>?_) (λb o _ _ ai e _=>k b o (λz=>ai (by simp[z])) e) (λb o _ _ ai e _=>⟨o.slots,k b o (λz=>ai (by simp[z])) e⟩) (λ_ _ _ _ n=>n)
  (λb o ai e=>⟨o,k b o (λz=>ai (by simp[z])) e⟩) (λ_ _ e=>e) (λ_ _ _ e=>e) (λb bt e=>⟨#[],by rw[e];simp⟩) (λm hm=>?_) (λb u e=>?_) I.bare
 .have e:b=it:=by simpa using af
  subst e;exact⟨J,f6,aa,aL⟩
 .obtain⟨o,ab,aT,ar,r⟩:=hm;exact⟨o,ab,aT,k _ o (V3 f6) ar,r⟩
 .refine(I.bP b u e).jS (λc v ai q=>k c v ?_ q) (λ_ q=>q) λ_ _ q=>q
  rcases ai with z|z
  .rw[z];exact q3 b u e
  .exact q3 c _ z
def Inv.tok(I:Inv X pins σ H s)(t:Nat):Inv X pins σ H { s with toks:=t }:=I.un (h':=s.heap) (t':=t) eO.refl I.bP
theorem Inv.kept{t':Nat}(I:Inv X pins σ H s)(k:∀b u,s.heap.get? b=some u->h'.get? b=some u):Inv X pins σ H { s with heap:=h',toks:=t' }:=I.un (eO.kept k) (I.bP.kept k)
theorem Inv.laid{a:Addr}{o:d8}{t':Nat}(I:Inv X pins σ H s)(k:∀b u,s.heap.get? b=some u->h'.get? b=some u)(aC:s.heap.objs.size<=a)(new:ej X.prog X.w (upd H a o) h' a o):
  Inv X pins σ (upd H a o) { s with heap:=h',toks:=t' }:=I.un (eO.laid k aC (I.bP.fresh aC)) (I.bP.laid k aC new)
theorem Inv.write{x e:Addr}{o:d8}{t':Nat}(I:Inv X pins σ H s)(ak:pS (H x))(he:e=x\/H e=some (.own x))(k:∀b u,b≠e->s.heap.get? b=some u->h'.get? b=some u)(oH:∃u,h'.get? e=some u)(new:ej X.prog X.w (upd H x o) h' x o):Inv X pins σ (upd H x o) { s with heap:=h',toks:=t' }:=I.un (eO.write ak he k oH) (I.bP.write ak he k oH new)
def Inv.rb{Dp:List (Addr×Obj)}(I:Inv X pins σ H s)(h:∀p∈Dp,s.heap.get? p.1=some p.2/\H p.1=none/\p.1≠X.env.locals/\p.1∉X.bK/\∀v,p.2.data≠.cell v):Inv X Dp σ H s :=
 ⟨I.ok,I.os,I.bare,I.base,I.loc,I.cell,I.free,I.ka,λp aC=>(UY.mp aC).elim (λz=>I.pin p (VA _ z)) (h p),I.bP,I.len⟩
def CS{N:List Str}(bj:N.Nodup){i j:Nat}{x:Str}(a:N[i]?=some x)(b:N[j]?=some x):i=j:=by
 obtain⟨J,aj⟩:=U2.mp a;obtain⟨aa,av⟩:=U2.mp b;exact(List.getElem_inj bj).mp (aj.trans av.symm)
def Ry {M : Model} {A : Around} {E : Value -> Shared -> Prop} {i : Nat} {x : Str} {v : V} {u : Value} {Q : Unit -> Shared -> Prop} (I : Inv X pins σ H s) (bj : X.N.Nodup) (hi : X.N[i]? = some x) (ah : Loc X.env.scope x) (r : RelV v u)
    (h : ∀ s', Inv X pins (σ.set i (some v)) H s' -> (∃ a, Heap.SameBut a s.heap s'.heap /\ (a = X.env.locals \/ X.env.cells.lookup x = some a)) -> Q () s') (hf : X.fn x = true \/ X.env.scope.names.lookup x = some .local := by first | exact .inl rfl | exact .inr rfl | assumption) : wpAny M A (storeName X.env x u) Q E s := by
  obtain ⟨m, aD, aw⟩ := id I.loc
  have Kx : (X.env.scope.kind == .class || (X.env.scope.kind == .module && X.env.locals != X.env.globals)) = false := by rw [I.ok.kind]; rfl
  have BC : i < σ.length := by rw [I.len]; exact (U2.mp hi).1
  have mV := I.mV
  have tracked : ∀ {a : Addr} {h' : Heap}, (∃ o, s.heap.get? a = some o /\ H a = none) -> Heap.SameBut a s.heap h' -> d5 X.prog X.w H h' := fun {a h'} az ae b bx e => by
    obtain ⟨_, _, mc⟩ := az
    refine (I.bP b bx e).jS (fun c dB ai q => (ae.2 c ?_).trans q) (fun _ q => q) fun _ _ q => q
    rintro rfl
    rcases ai with rfl | ai
    · rw [mc] at e; cases e
    · rw [mc] at ai; cases ai
  rcases ah with aq | aq
  · refine wpAny_storeName_local aq aD (fun h' hP ae => ?_) Kx
    obtain ⟨NS, _, _, sO, _⟩ := id aD
    refine h _ ⟨I.ok, I.os, I.bare, ⟨fun b o e n af ah => ?_, fun b o e n af ah => ?_, I.base.free, fun b o e ah => ?_, I.base.kF, I.base.jy, I.base.kD⟩, ⟨_, hP, fun j y nY aj av bF => ?_⟩, fun y c e => ?_, I.free, I.ka, fun p aC => ?_, tracked ⟨NS, sO, I.free⟩ ae, by simpa using I.len⟩ ⟨_, ae, .inl rfl⟩
    · exact (ae.2 b (UZ (U6 (UK e) I.ok.above))).trans (I.base.keep b o e n af ah)
    · obtain ⟨b1, aj⟩ := I.base.slot b o e n af ah
      exact ⟨b1, (ae.2 b (UZ (U6 (UK e) I.ok.above))).trans aj⟩
    · obtain ⟨bN, aj⟩ := I.base.there b o e ah
      exact ⟨bN, (ae.2 b (UZ (U6 (UK e) I.ok.above))).trans aj⟩
    · by_cases aH : j = i
      · subst aH
        rw [hi] at aj; cases aj
        rw [List.getElem?_set_self BC] at av
        cases av
        exact ⟨u, r, .inl ⟨aq, by simp⟩⟩
      · rw [Xr (V3 aH)] at av
        obtain ⟨uc, bL, q⟩ := aw j y nY aj av bF
        refine ⟨uc, bL, ?_⟩
        rcases q with ⟨k, e⟩ | ⟨k, c, e, z⟩
        · refine .inl ⟨k, ?_⟩
          have : y ≠ x := fun e => aH (CS bj aj (e ▸ hi))
          simp [this, e]
        · exact .inr ⟨k, c, e, z.sameBut ae (mV y c e)⟩
    · obtain ⟨dB, z⟩ := I.cell y c e
      exact ⟨dB, z.sameBut ae (mV y c e)⟩
    · obtain ⟨e, n, ne, mx, d⟩ := I.pin p aC
      exact ⟨(ae.2 p.1 ne).trans e, n, ne, mx, d⟩
  · have nc : X.fn x = true := by
      rcases hf with z | z
      · exact z
      · rw [z] at aq; cases aq
    obtain ⟨c, ai⟩ := I.ok.has x (.inl aq)
    obtain ⟨dB, z⟩ := I.cell x c ai
    refine wpAny_storeName_cell I.ok.kind aq ai z (fun h' c0 ae => ?_)
    obtain ⟨eH, BL, Lq⟩ := id z
    refine h { s with heap := h' } ⟨I.ok, I.os, I.bare, ⟨fun b o e n af ah => ?_, fun b o e n af ah => ?_, I.base.free, fun b o e ah => ?_, I.base.kF, I.base.jy, I.base.kD⟩, ⟨m, aD.sameBut ae (V3 (mV x c ai)), fun j y nY aj av bF => ?_⟩, fun y cO e => ?_, I.free, I.ka, fun p aC => ?_, tracked ⟨eH, BL, I.ka x c ai⟩ ae, by simpa using I.len⟩ ⟨c, ae, .inr ai⟩
    · exact (ae.2 b (UZ (U6 (UK e) (I.ok.vv x c nc ai)))).trans (I.base.keep b o e n af ah)
    · obtain ⟨b1, aj⟩ := I.base.slot b o e n af ah
      exact ⟨b1, (ae.2 b (UZ (U6 (UK e) (I.ok.vv x c nc ai)))).trans aj⟩
    · obtain ⟨bN, aj⟩ := I.base.there b o e ah
      exact ⟨bN, (ae.2 b (UZ (U6 (UK e) (I.ok.vv x c nc ai)))).trans aj⟩
    · by_cases aH : j = i
      · subst aH
        rw [hi] at aj; cases aj
        rw [List.getElem?_set_self BC] at av
        cases av
        exact ⟨u, r, .inr ⟨.inl aq, c, ai, c0⟩⟩
      · rw [Xr (V3 aH)] at av
        obtain ⟨uc, bL, q⟩ := aw j y nY aj av bF
        refine ⟨uc, bL, ?_⟩
        rcases q with q | ⟨k, cO, e, fm⟩
        · exact .inl q
        · refine .inr ⟨k, cO, e, fm.sameBut ae ?_⟩
          rintro rfl
          exact aH (CS bj aj (I.ok.inj _ _ _ e ai ▸ hi))
    · by_cases qx : cO = c
      · subst qx; exact ⟨_, c0⟩
      · obtain ⟨jd, c1⟩ := I.cell y cO e
        exact ⟨jd, c1.sameBut ae qx⟩
    · obtain ⟨e, n, ne, mx, d⟩ := I.pin p aC
      refine ⟨(ae.2 p.1 ?_).trans e, n, ne, mx, d⟩
      intro q
      rw [q, BL] at e
      have cL : eH = p.2 := Vs e
      exact d dB (by rw [<- cL]; exact Lq)
def yw{M:Model}{A:Around}{E:Value->Shared->Prop}{i:Nat}{x:Str}{v:V}{u:Value}{Q:Unit->Shared->Prop}(I:Inv X pins σ H s)(bj:X.N.Nodup)(hi:X.N[i]?=some x)(ah:Loc X.env.scope x)(r:RelV v u)(h:∀s',Inv X pins (σ.set i (some v)) H s'->Q () s')(hf:X.fn x=true\/X.env.scope.names.lookup x=some .local:=by first|exact .inl rfl|exact .inr rfl|assumption):wpAny M A (storeName X.env x u) Q E s :=
 Ry I bj hi ah r (λs' iC _=>h s' iC) hf
def Inv.zy{s':Shared}{ch:List Addr}(I:Inv X pins σ H s)(ar:s'.os=s.os)(u:eO (hH X.stack) ch H ao s.heap s'.heap)(bP:d5 X.prog X.w ao s'.heap)(ba:AllBare s'.gens)(ie:∀b∈ch,(b∈X.ex\/X.eK.heap.objs.size<=b)/\b≠X.env.locals/\(∀x c,X.env.cells.lookup x=some c->c≠b)/\∀p∈X.e0++pins,p.1≠b):Inv X pins σ ao s':=by
 obtain⟨h',g',d',t',bN⟩:=s';have e:bN=s.os:=ar;subst e;exact I.call (g':=g') (t':=t') (d':=d') u bP ba ie
end
noncomputable abbrev iJ:=Value->Option Addr->ax->Prop
noncomputable abbrev St:=List (Option V)
noncomputable abbrev c4:=V->ax->Prop
noncomputable abbrev TE:=St->ax->c4->Prop
noncomputable abbrev TT:=St->ax->(Bool->ax->Prop)->Prop
noncomputable abbrev fk:=St->ax->(List V->ax->Prop)->Prop
structure Ends where
 cV:St->ax->Prop
 ec:c4
 lU:St->ax->Prop:=λ_ _=>False
 ct:St->ax->Prop:=λ_ _=>False
noncomputable abbrev gL:=Ends->St->ax->Prop
noncomputable def ei(X:aV)(pins:List (Addr×Obj))(σ:St)(Q:c4)(u:Value)(s':Shared):Prop:=∃v ao,Inv X pins σ ao s'/\RelV v u/\Q v ao
noncomputable def pX(X:aV)(pins:List (Addr×Obj))(σ:St)(Q:Bool->ax->Prop)(b:Bool)(s':Shared):Prop:=∃ao,Inv X pins σ ao s'/\Q b ao
noncomputable def Fy(X:aV)(pins:List (Addr×Obj))(σ:St)(Q:List V->ax->Prop)(us:List Value)(s':Shared):Prop:=∃ag ao,Inv X pins σ ao s'/\Vals ag us/\Q ag ao
noncomputable def uT(X:aV)(pins:List (Addr×Obj))(D:Ends)(f:Flow)(s':Shared):Prop :=
 match f with
 |.next=>∃dy ao,Inv X pins dy ao s'/\D.cV dy ao
 |.brk=>∃dy ao,Inv X pins dy ao s'/\D.lU dy ao
 |.cont=>∃dy ao,Inv X pins dy ao s'/\D.ct dy ao
 |.ret u=>∃v dy ao,Inv X pins dy ao s'/\RelV v u/\D.ec v ao
noncomputable def aR(X:aV)(e:Expr)(t:TE):Prop :=
 ∀(pins:List (Addr×Obj))(s:Shared)(σ:St)(H:ax)(Q:c4),Inv X pins σ H s->t σ H Q->wpAny (model X.prog X.w) X.A (eval e X.env) (ei X pins σ Q) X.cR s
noncomputable def dV(X:aV)(e:Expr)(t:TT):Prop :=
 ∀(pins:List (Addr×Obj))(s:Shared)(σ:St)(H:ax)(Q:Bool->ax->Prop),Inv X pins σ H s->t σ H Q->wpAny (model X.prog X.w) X.A (isTrue e X.env (eval e X.env)) (pX X pins σ Q) X.cR s
noncomputable def h3(X:aV)(e:Expr)(t:TT):Prop :=
 ∀(whole:Sem Value)(pins:List (Addr×Obj))(s:Shared)(σ:St)(H:ax)(Q:Bool->ax->Prop),Inv X pins σ H s->t σ H Q->wpAny (model X.prog X.w) X.A (isTrue e X.env whole) (pX X pins σ Q) X.cR s
def h3.pt{X:aV}{e:Expr}{t:TT}(h:h3 X e t):dV X e t:=h _
noncomputable def fi(X:aV)(ab:List Expr)(t:fk):Prop :=
 ∀(pos:Pos)(pins:List (Addr×Obj))(s:Shared)(σ:St)(H:ax)(Q:List V->ax->Prop),Inv X pins σ H s->t σ H Q->wpAny (model X.prog X.w) X.A (spliced (backTo pos (starEach ab X.env))) (Fy X pins σ Q) X.cR s
noncomputable def eU(X:aV)(st:Stmt)(t:gL):Prop :=
 ∀(pins:List (Addr×Obj))(s:Shared)(σ:St)(H:ax)(D:Ends),Inv X pins σ H s->t D σ H->wpAny (model X.prog X.w) X.A (exec st X.env) (uT X pins D) X.cR s
noncomputable def gJ(X:aV)(st:List Stmt)(t:gL):Prop :=
 ∀(pins:List (Addr×Obj))(s:Shared)(σ:St)(H:ax)(D:Ends),Inv X pins σ H s->t D σ H->wpAny (model X.prog X.w) X.A (execs st X.env) (uT X pins D) X.cR s
def bI{α:Type}{t:Sem α}{Q iF:α->Shared->Prop}{M:Model}{A:Around}{E:Value->Shared->Prop}{s:Shared}(h:wpAny M A t Q E s)(dZ:∀a s,Q a s->iF a s):wpAny M A t iF E s:=VK h dZ λ_ _ x=>x
end bE
namespace bE
open PySem PySem.Spec PyProof.Rows
section
variable{X:aV}
def bin{a b:Expr}{cf cH:TE}(az:aR X a cf)(af:aR X b cH){pins:List (Addr×Obj)}{s:Shared}{σ:St}{H:ax}{R:V->V->ax->Prop}(I:Inv X pins σ H s)(h:cf σ H λx H1=>cH σ H1 λy aW=>R x y aW){α:Type}{Q:α->Shared->Prop}{f:Value->Value->Sem α}(hf:∀v u s2 x y aW,Inv X pins σ aW s2->RelV x v->RelV y u->R x y aW->wpAny (model X.prog X.w) X.A (f v u) Q X.cR s2):
  wpAny (model X.prog X.w) X.A (eval a X.env) (λv cC=>wpAny (model X.prog X.w) X.A (eval b X.env) (λu gY=>wpAny (model X.prog X.w) X.A (f v u) Q X.cR gY) X.cR cC) X.cR s:=by
 refine bI (az pins s σ H _ I h) λv s1 ⟨x,H1,a7,aI,aK⟩=>?_
 refine bI (af pins s1 σ H1 _ a7 aK) λu s2 ⟨y,aW,cx,a5,a6⟩=>?_
 exact hf v u s2 x y aW cx aI a5 a6
noncomputable def yC(i:Nat):TE:=λσ H Q=>∃v,σ[i]?=some (some v)/\Q v H
noncomputable def nU(v:V):TE:=λ_ H Q=>Q v H
def i5{i:Nat}{x:Str}{pos:Pos}(bj:X.N[i]?=some x)(aQ:hE X.env.scope x)(hd:(x==("__debug__":Str))=false:=by decide)(jB:(x==("__classdict__":Str))=false:=by decide):aR X (.Name x pos) (yC i):=by
 intro pins s σ H Q I h;obtain⟨v,e,h⟩:=h;obtain⟨m,aD,aw⟩:=I.loc;obtain⟨u,r,l⟩:=aw i x v bj e aQ;have fin:ei X pins σ Q u s:=⟨v,H,I,r,h⟩;rcases l with⟨aq,hm⟩|⟨aq,c,ai,sC⟩
 .exact wpAny_Name (wpAny_loadName_local I.ok.kind aq aD hm fin) hd
 .rcases aq with aq|aq
  .exact wpAny_Name (wpAny_loadName_cell I.ok.kind aq ai sC fin) hd
  .exact wpAny_Name (wpAny_loadName_free I.ok.kind aq ai sC fin jB) hd
def xX{i j pos}:aR X (.Constant (.int i) j pos) (nU (.int i)):=λ_ _ _ H _ I h=>wpAny_Constant_int ⟨.int i,H,I.tok _,⟨_,rfl⟩,h⟩
def Oj{b j pos}:aR X (.Constant (.bool b) j pos) (nU (.aM b)):=λ_ _ _ H _ I h=>Constant_bool ⟨.aM b,H,I,rfl,h⟩
def OB{j pos}:aR X (.Constant .none j pos) (nU .cU):=λ_ _ _ H _ I h=>Constant_none ⟨.cU,H,I,rfl,h⟩
def OF{x j pos}:aR X (.Constant (.str x) j pos) (nU (.str x)):=λ_ _ _ H _ I h=>Calls.Constant_str ⟨.str x,H,I.tok _,⟨_,rfl⟩,h⟩
noncomputable def dH(X:aV)(x:Str):Prop:=X.env.kindOf x=some .globalImplicit
def Co{E:Value->Shared->Prop}{pins:List (Addr×Obj)}{s:Shared}{σ:St}{H:ax}{x:Str}{u:Value}{pos:Pos}{Q:Value->Shared->Prop}(I:Inv X pins σ H s)(ba:dH X x)(hm:X.aF x=some u)(h:Q u s)(hd:(x==("__debug__":Str))=false:=by decide):wpAny (model X.prog X.w) X.A (eval (.Name x pos) X.env) Q E s :=
 XA I.ok.kind ba (Calls.loadGlobal_global (by rw[I.ok.glob];exact I.mod.glob.keeps I.lU) hm h) hd
def hs{E:Value->Shared->Prop}{pins:List (Addr×Obj)}{s:Shared}{σ:St}{H:ax}{x:Str}{u:Value}{pos:Pos}{Q:Value->Shared->Prop}(I:Inv X pins σ H s)(ba:dH X x)(hm:X.aF x=none)(aQ:bootBuiltins x=some u)(h:Q u s)(aD:x≠"__name__":=by decide)(hd:(x==("__debug__":Str))=false:=by decide):wpAny (model X.prog X.w) X.A (eval (.Name x pos) X.env) Q E s:=by
 obtain⟨i0,J,aa⟩:=I.mod.blt;exact XA I.ok.kind ba (Calls.loadGlobal_builtin (by rw[I.ok.glob];exact I.mod.glob.keeps I.lU) hm (by rw[I.ok.blt];exact J.keeps I.lU) ((aa x aD).trans aQ) h) hd
def Oy{x:Str}{v:V}{u:Value}{pos:Pos}(ba:dH X x)(hm:X.aF x=some u)(r:RelV v u)(hd:(x==("__debug__":Str))=false:=by decide):aR X (.Name x pos) (nU v) :=
 λ_ _ _ H _ I h=>Co I ba hm ⟨v,H,I,r,h⟩ hd
def Ol{x:Str}{v:V}{u:Value}{pos:Pos}(ba:dH X x)(hm:X.aF x=none)(aQ:bootBuiltins x=some u)(r:RelV v u)(aD:x≠"__name__":=by decide)(hd:(x==("__debug__":Str))=false:=by decide):aR X (.Name x pos) (nU v) :=
 λ_ _ _ H _ I h=>hs I ba hm aQ ⟨v,H,I,r,h⟩ aD hd
variable{a b:Expr}{cf cH:TE}{pos:Pos}
noncomputable def pT(X:aV)(op:CmpOp)(a b:Expr)(t:TE):Prop :=
 ∀(pins:List (Addr×Obj))(s:Shared)(σ:St)(H:ax)(Q:c4),Inv X pins σ H s->t σ H Q ->
  wpAny (model X.prog X.w) X.A (eval a X.env) (λv cC=>wpAny (model X.prog X.w) X.A (eval b X.env) (λu gY=>wpAny (model X.prog X.w) X.A (compareOp op v u) (ei X pins σ Q) X.cR gY) X.cR cC) X.cR s
def NK(b:Expr){op:CmpOp}(h:op≠.In)(aa:op≠.NotIn):behindInMarks op b=false:=by
 have aj:(op==CmpOp.In)=false:=by cases op<;>first|rfl|exact absurd rfl h
 have av:(op==CmpOp.NotIn)=false:=by cases op<;>first|rfl|exact absurd rfl aa
 cases b<;>simp[behindInMarks,aj,av]
noncomputable def EN(t:TE):TT:=λσ H Q=>t σ H λx H1=>∃c,x=.aM c/\Q c H1
def Uj{op:CmpOp}{t:TE}(h:pT X op a b t)(J:behindInMarks op b=false:=by first|exact NK _ (by decide) (by decide)|rfl):dV X (.Compare a [op] [b] pos) (EN t):=by
 intro pins s σ H Q I hw;refine wpAny_isTrue_Compare1 (bI (h pins s σ H _ I hw) λv s1 J=>bI J λu s2 aa=>bI aa λc s3 ⟨x,H1,a7,aI,aK⟩=>?_) J
 obtain⟨d,rfl,q⟩:=aK;cases aI;exact VQ ⟨H1,a7,q⟩
def Pd{e:Expr}{t:TE}(h:aR X e t)(he:∀whole,isTrue e X.env whole=(do let v <- whole;standAt e.pos;holding [v] (truthy v)):=by intro _;rfl):dV X e (EN t):=by
 intro pins s σ H Q I hw;refine isTrue_plain (bI (h pins s σ H _ I hw) λv s1 ⟨x,H1,a7,aI,aK⟩=>?_) (he _)
 obtain⟨d,rfl,q⟩:=aK;cases aI;exact VQ ⟨H1,a7,q⟩
variable{kC t5:TT}{rest:List Expr}
noncomputable def RC(t u:TT):TT:=λσ H Q=>t σ H λc H1=>if c=true then u σ H1 Q else Q false H1
noncomputable def RT(t u:TT):TT:=λσ H Q=>t σ H λc H1=>if c=true then Q true H1 else u σ H1 Q
noncomputable def RR(t:TT):TT:=λσ H Q=>t σ H λc H1=>Q (!c) H1
def Pf(az:dV X a kC):h3 X (.BoolOp .And [a] pos) kC:=by
 intro lC pins s σ H Q I h;refine isTrue_and (bI (az pins s σ H Q I h) λc s1 e=>?_)
 cases c with
 |true=>exact isTrue_and_nil e
 |false=>exact e
def Ph(az:dV X a kC):h3 X (.BoolOp .Or [a] pos) kC:=by
 intro lC pins s σ H Q I h;refine isTrue_or (bI (az pins s σ H Q I h) λc s1 e=>?_)
 cases c with
 |false=>exact isTrue_or_nil e
 |true=>exact e
def Pe(az:dV X a kC)(af:h3 X (.BoolOp .And (b::rest) pos) t5):h3 X (.BoolOp .And (a::b::rest) pos) (RC kC t5):=by
 intro lC pins s σ H Q I h;refine isTrue_and (bI (az pins s σ H _ I h) λc s1 ⟨H1,a7,aK⟩=>?_)
 cases c with
 |true=>exact af lC pins s1 σ H1 Q a7 aK
 |false=>exact⟨H1,a7,aK⟩
def Pg(az:dV X a kC)(af:h3 X (.BoolOp .Or (b::rest) pos) t5):h3 X (.BoolOp .Or (a::b::rest) pos) (RT kC t5):=by
 intro lC pins s σ H Q I h;refine isTrue_or (bI (az pins s σ H _ I h) λc s1 ⟨H1,a7,aK⟩=>?_)
 cases c with
 |true=>exact⟨H1,a7,aK⟩
 |false=>exact af lC pins s1 σ H1 Q a7 aK
def Pc(az:dV X a kC):dV X (.UnaryOp .Not a pos) (RR kC):=by
 intro pins s σ H Q I h;exact isTrue_not (az pins s σ H (λc H1=>Q (!c) H1) I h)
noncomputable def RD(cf cH:TE):TE:=λσ H Q=>cf σ H λx H1=>∃c,x=.aM c/\if c=true then cH σ H1 Q else Q (.aM false) H1
noncomputable def RU(cf cH:TE):TE:=λσ H Q=>cf σ H λx H1=>∃c,x=.aM c/\if c=true then Q (.aM true) H1 else cH σ H1 Q
noncomputable def RS(cf:TE):TE:=λσ H Q=>cf σ H λx H1=>∃c,x=.aM c/\Q (.aM (!c)) H1
def Dg{op}{t:TE}(h:aR X a t):aR X (.BoolOp op [a] pos) t:=λpins s σ H Q I hw=>BoolOp_one (h pins s σ H Q I hw)
def Oi(az:aR X a cf)(af:aR X (.BoolOp .And (b::rest) pos) cH):aR X (.BoolOp .And (a::b::rest) pos) (RD cf cH):=by
 intro pins s σ H Q I h;refine BoolOp_and (bI (az pins s σ H _ I h) λv s1 ⟨x,H1,a7,aI,aK⟩=>?_)
 obtain⟨c,rfl,aK⟩:=aK;cases aI;refine VQ ?_;cases c with
 |true=>exact af pins s1 σ H1 Q a7 aK
 |false=>exact⟨.aM false,H1,a7,rfl,aK⟩
def OD(az:aR X a cf)(af:aR X (.BoolOp .Or (b::rest) pos) cH):aR X (.BoolOp .Or (a::b::rest) pos) (RU cf cH):=by
 intro pins s σ H Q I h;refine BoolOp_or (bI (az pins s σ H _ I h) λv s1 ⟨x,H1,a7,aI,aK⟩=>?_)
 obtain⟨c,rfl,aK⟩:=aK;cases aI;refine VQ ?_;cases c with
 |false=>exact af pins s1 σ H1 Q a7 aK
 |true=>exact⟨.aM true,H1,a7,rfl,aK⟩
def OC(az:aR X a cf):aR X (.UnaryOp .Not a pos) (RS cf):=by
 intro pins s σ H Q I h;refine UnaryOp_ (bI (az pins s σ H _ I h) λv s1 ⟨x,H1,a7,aI,aK⟩=>?_)
 obtain⟨c,rfl,aK⟩:=aK;cases aI;exact not_of (VQ ⟨.aM (!c),H1,a7,rfl,aK⟩)
noncomputable def yz(t:TT)(cf cH:TE):TE:=λσ H Q=>t σ H λc H1=>if c=true then cf σ H1 Q else cH σ H1 Q
end
end bE
namespace bE
open PySem PySem.Spec PyProof.Rows
noncomputable def dW(K:W.Frag)(H:ax)(a:Addr)(xs:List V):Prop :=
 jj H a (.lst xs) \/
  ∃(o:Obj)(its:Array Value)(n:Nat),K.lookup a=some o/\o.cls=.type "list"/\o.dict=none/\o.data=.seq its n/\its.size<=sizeLine/\Vals xs its.toList
noncomputable def fj(K:W.Frag)(H:ax)(a:Addr)(xs:List V):Prop :=
 jj H a (.tup xs) \/
  ∃(o:Obj)(its:Array Value)(n:Nat),K.lookup a=some o/\o.cls=.type "tuple"/\o.data=.seq its n/\its.size<=sizeLine/\Vals xs its.toList
noncomputable def FU:Value->Option V
 |.none=>some .cU
 |.bool b=>some (.aM b)
 |.int i _=>some (.int i)
 |.str x _=>some (.str x)
 |.bytes b _=>some (.vu b)
 |.float b _=>some (.oB b)
 |.ref a=>some (.ref a)
 |.type n=>some (.ty n)
 |_=>none
def RelV.abs{x:V}{u:Value}(r:RelV x u):FU u=some x:=by
 cases x with
 |cU=>cases r;rfl
 |aM _=>cases r;rfl
 |int _=>obtain⟨t,rfl⟩:=r;rfl
 |str _=>obtain⟨t,rfl⟩:=r;rfl
 |vu _=>obtain⟨t,rfl⟩:=r;rfl
 |oB _=>obtain⟨t,rfl⟩:=r;rfl
 |ref _=>cases r;rfl
 |ty _=>cases r;rfl
def RelV.inj{x y:V}{u:Value}(r:RelV x u)(q:RelV y u):x=y:=Vs (r.abs.symm.trans q.abs)
theorem Vals.inj:∀{xs ys:List V}{us:List Value},Vals xs us->Vals ys us->xs=ys
 |_,_,_,.nil,.nil=>rfl
 |_,_,_,.cons r t,.cons bL t'=>by rw[r.inj bL,Vals.inj t t']
section
variable{X:aV}{pins:List (Addr×Obj)}{σ:St}{H:ax}{s:Shared}{a:Addr}{xs ys:List V}
def dW.of{K:W.Frag}(h:H a=some (.lst xs)):dW K H a xs:=.inl (.inl h)
def Inv.list(I:Inv X pins σ H s)(h:dW X.K H a xs):∃its:List Value,Vals xs its/\PlainL s.heap a its.toArray/\xs.length<=sizeLine:=by
 rcases h with h|⟨o,its,n,aq,ai,hd,ae,au,r⟩
 .obtain⟨z,its,n,r,e⟩:=h.ok I.bP;exact⟨its,r,⟨_,n,e,rfl,rfl,rfl⟩,z⟩
 .refine⟨its.toList,r,⟨o,n,I.fU a o aq,ai,hd,by simpa using ae⟩,?_⟩
  have e:=r.length;simp only[Array.length_toList]at e;omega
def Inv.tuple(I:Inv X pins σ H s)(h:fj X.K H a xs):∃its:List Value,Vals xs its/\IsTup s.heap a its.toArray/\xs.length<=sizeLine:=by
 rcases h with h|⟨o,its,n,aq,ai,ae,au,r⟩
 .obtain⟨z,its,r,p⟩:=h.ok I.bP;exact⟨its,r,p,z⟩
 .refine⟨its.toList,r,⟨o,I.fU a o aq,ai,n,by simpa using ae⟩,?_⟩
  have e:=r.length;simp only[Array.length_toList]at e;omega
def Inv.CB(I:Inv X pins σ H s)(h:dW X.K H a xs)(h':dW X.K H a ys):xs=ys:=by
 obtain⟨its,r,⟨o,n,e,_,_,d⟩,_⟩:=I.list h;obtain⟨its',bL,⟨bN,cG,bf,_,_,d'⟩,_⟩:=I.list h';rw[e]at bf;cases bf;rw[d]at d';injection d' with cp _;have:its=its':=by simpa using Wm Array.toList cp
 subst this;exact r.inj bL
def Inv.Sq(I:Inv X pins σ H s)(h:fj X.K H a xs)(h':fj X.K H a ys):xs=ys:=by
 obtain⟨its,r,⟨o,e,_,n,d⟩,_⟩:=I.tuple h;obtain⟨its',bL,⟨bN,bf,_,cG,d'⟩,_⟩:=I.tuple h';rw[e]at bf;cases bf;rw[d]at d';injection d' with cp _;have:its=its':=by simpa using Wm Array.toList cp
 subst this;exact r.inj bL
end
section
variable{X:aV}{pins:List (Addr×Obj)}{σ:St}{H:ax}{s:Shared}{E:Value->Shared->Prop}
end
section
variable{X:aV}{st:Stmt}{rest:List Stmt}{t u:gL}{e:Expr}{ey:TE}{pos:Pos}
noncomputable def RP:gL:=λD σ H=>D.cV σ H
noncomputable def RW(t u:gL):gL:=λD σ H=>t { D with cV:=u D } σ H
def O9:gJ X [] RP:=λ_ _ σ H _ I h=>wpAny_execs_nil ⟨σ,H,I,h⟩
def O8(J:eU X st t)(aa:gJ X rest u):gJ X (st::rest) (RW t u):=by
 intro pins s σ H D I h;refine wpAny_execs_cons (bI (J pins s σ H { D with cV:=u D } I h) λf s1 q=>?_)
 cases f with
 |next =>
  obtain⟨dy,ao,iC,q⟩:=q;exact aa pins s1 dy ao D iC q
 |ret v=>exact q
 |brk=>exact q
 |cont=>exact q
def Inv.quiet{pins:List (Addr×Obj)}{σ:St}{H:ax}{s:Shared}(I:Inv X pins σ H s):interactive X.env=false:=by simp[interactive,I.ok.kind]
noncomputable def RJ(ey:TE):gL:=λD σ H=>ey σ H λ_ H1=>D.cV σ H1
def O5(he:aR X e ey)(ae:swapsWith e none pos.line X.env=pure false:=by rfl):eU X (.Expr e pos) (RJ ey):=by
 intro pins s σ H D I h;exact wpAny_Expr_any (bI (he pins s σ H _ I h) λv s1 ⟨x,H1,a7,aI,aK⟩=>⟨σ,H1,a7,aK⟩) I.quiet ae
noncomputable def rr(ey:TE):gL:=λD σ H=>ey σ H D.ec
def Du(he:aR X e ey):eU X (.Return (some e) pos) (rr ey):=by
 intro pins s σ H D I h;exact wpAny_Return_some (bI (he pins s σ H _ I h) λv s1 ⟨x,H1,a7,aI,aK⟩=>⟨x,σ,H1,a7,aI,aK⟩)
noncomputable def RM(c:TT)(t u:gL):gL:=λD σ H=>c σ H λb H1=>if b=true then t D σ H1 else u D σ H1
def O7{c:Expr}{a b:List Stmt}{kE:TT}(ai:dV X c kE)(az:gJ X a t)(af:gJ X b u):eU X (.If c a b pos) (RM kE t u):=by
 intro pins s σ H D I h;refine wpAny_If (bI (ai pins s σ H _ I h) λd s1 ⟨H1,a7,aK⟩=>?_)
 cases d with
 |true=>exact az pins s1 σ H1 D a7 aK
 |false=>exact af pins s1 σ H1 D a7 aK
end
noncomputable abbrev kR:=V->St->ax->(St->ax->Prop)->Prop
noncomputable abbrev lO:=List V->St->ax->(St->ax->Prop)->Prop
noncomputable def iE(X:aV)(target:Expr)(t:kR):Prop :=
 ∀(pins:List (Addr×Obj))(s:Shared)(σ:St)(H:ax)(v:V)(u:Value)(Q:St->ax->Prop),Inv X pins σ H s->RelV v u->t v σ H Q ->
  wpAny (model X.prog X.w) X.A (assign target X.env u) (λ_ s'=>∃dy ao,Inv X pins dy ao s'/\Q dy ao) X.cR s
noncomputable def pU(X:aV)(ts:List Expr)(t:lO):Prop :=
 ∀(pins:List (Addr×Obj))(s:Shared)(σ:St)(H:ax)(ag:List V)(us:List Value)(Q:St->ax->Prop),Inv X pins σ H s->Vals ag us->t ag σ H Q ->
  wpAny (model X.prog X.w) X.A (assignInOrder ((assignEach ts X.env).map (·.2)) us) (λ_ s'=>∃dy ao,Inv X pins dy ao s'/\Q dy ao) X.cR s
section
variable{X:aV}{pos:Pos}
noncomputable def wt(i:Nat):kR:=λv σ H Q=>Q (σ.set i (some v)) H
def Dk{i:Nat}{x:Str}(bj:X.N.Nodup)(hi:X.N[i]?=some x)(ah:Loc X.env.scope x)(hf:X.fn x=true\/X.env.scope.names.lookup x=some .local:=by first|exact .inl rfl|exact .inr rfl|assumption):iE X (.Name x pos) (wt i):=by
 intro pins s σ H v u Q I r h;exact wpAny_assign_Name (yw I bj hi ah r (λs' iC=>⟨_,H,iC,h⟩) hf)
noncomputable def AS:lO:=λag σ H Q=>ag=[]/\Q σ H
noncomputable def AP(t:kR)(u:lO):lO:=λag σ H Q=>∃v r,ag=v::r/\t v σ H λdy ao=>u r dy ao Q
def ON:pU X [] AS:=by
 intro pins s σ H ag us Q I r h;obtain⟨e,h⟩:=h;subst e;cases r;exact assignInOrder_nil ⟨σ,H,I,h⟩
def OM{e:Expr}{ab:List Expr}{t:kR}{u:lO}(J:iE X e t)(aa:pU X ab u)(ae:(assignEach (e::ab) X.env).map (·.2)=assign e X.env::(assignEach ab X.env).map (·.2):=by rfl):pU X (e::ab) (AP t u):=by
 intro pins s σ H ag us Q I r h;obtain⟨v,Us,aj,h⟩:=h;subst aj;cases r with
 |cons r gf =>
  rw[ae];refine assignInOrder_cons (bI (J pins s σ H _ _ _ I r h) λ_ s1 ⟨Ts,H1,a7,aK⟩=>?_)
  exact aa pins s1 Ts H1 _ _ Q a7 gf aK
noncomputable def JW(K:W.Frag)(n:Nat)(t:lO):kR:=λv σ H Q=>∃a xs,v=.ref a/\fj K H a xs/\xs.length=n/\t xs σ H Q
def OL{ab:List Expr}{k:Nat}{t:lO}{n:Nat}(ai:X.calm=true)(h:pU X ab t)(aD:(assignEach ab X.env).length=n:=by rfl)(cA:(assignEach ab X.env).findIdx? (·.1)=none:=by rfl):iE X (.Tuple ab k pos) (JW X.K n t):=by
 intro pins s σ H v u Q I r hw;obtain⟨a,xs,aj,aE,aw,hw⟩:=hw;subst aj;cases r;obtain⟨its,bG,aS,au⟩:=I.tuple aE;refine assign_Tuple_tuple (I.ok.hd ai) aS (by simp[aD,<- aw,bG.length]) cA λh' ah=>?_
 have a7:Inv X pins σ H { s with heap:=h' }:=I.kept (t':=s.toks) λb o e=>ah b o (UZ (UK e)) e
 exact h pins _ σ H xs _ Q a7 (by simpa using bG) hw
noncomputable def pz(ey:TE)(g:kR):gL:=λD σ H=>ey σ H λx H1=>g x σ H1 D.cV
def x2{i:Nat}{x:Str}{e:Expr}{ey:TE}{pos':Pos}(bj:X.N.Nodup)(hi:X.N[i]?=some x)(ah:Loc X.env.scope x)(he:aR X e ey)(ae:swapsWith e (some (.Name x pos')) pos.line X.env=pure false:=by rfl)(hf:X.fn x=true\/X.env.scope.names.lookup x=some .local:=by first|exact .inl rfl|exact .inr rfl|assumption):
  eU X (.Assign [.Name x pos'] e pos) (pz ey (wt i)):=by
 intro pins s σ H D I h;refine wpAny_Assign_Name (bI (he pins s σ H _ I h) λv s1 ⟨y,H1,a7,aI,aK⟩=>?_) ae
 exact yw a7 bj hi ah aI (λs2 cx=>⟨_,H1,cx,aK⟩) hf
end
section
variable{X:aV}{pos:Pos}
end
structure jh where
 go:Nat->ax->Prop
 kJ:Nat->ax->V->ax->Prop
 stop:Nat->ax->Prop
noncomputable def jf(X:aV)(pins:List (Addr×Obj))(H:ax)(b:Addr):Prop :=
 H b=none/\b≠X.env.locals/\b∉X.bK/\(b∈X.ex\/X.eK.heap.objs.size<=b)/\(∀x c,X.env.cells.lookup x=some c->c≠b)/\∀p∈X.e0++pins,p.1≠b
def Inv.qn{X:aV}{pins:List (Addr×Obj)}{σ:St}{H ao:ax}{s:Shared}{b:Addr}(I:Inv X pins σ H s)(af:s.heap.objs.size<=b)(aD:ao b=none):jf X pins ao b:=by
 refine⟨aD,X9 (U6 I.lt af),I.CT af,.inr (Vk I.d3 af),λx c e z=>?_,λp aC z=>?_⟩
 .obtain⟨v,q⟩:=I.cell x c e;exact absurd (U6 q.lt (by rw[z];exact af)) (VT _)
 .exact absurd (U6 (UK (I.pin p aC).1) (by rw[z];exact af)) (VT _)
structure Turn(P:Program)(w:World)(K:W.Frag)(dv:Expr)(cc:jh)(bq:List Addr)(it:Addr)(gi:Nat->Heap->Prop):Prop where
 mem:it∈bq
 obj:∀i h,gi i h->∀b∈bq,∃o,h.get? b=some o/\∀v,o.data≠.cell v
 keep:∀i h h',gi i h->(∀b∈bq,∀o,h.get? b=some o->h'.get? b=some o)->gi i h'
 item:∀(X:aV),X.prog=P->X.w=w->X.K=K->X.calm=true->∀(i:Nat)(pins:List (Addr×Obj))(s:Shared)(σ:St)(H:ax)(E:Value->Shared->Prop),Inv X pins σ H s->(∀b∈bq,jf X pins H b)->gi i s.heap->cc.go i H ->
  wpAny (model P w) X.A (pyNext (.ref it)) (λr s1=>∃u,r=some u /\
   wpAny (model P w) X.A (letOwnedTupleGo dv (.ref it) u) (λ_ s2=>∃x ao,Inv X pins σ ao s2/\RelV x u/\cc.kJ i H x ao/\gi (i+1) s2.heap/\∀b∈bq,ao b=none) E s1) E s
 done:∀(X:aV),X.prog=P->X.w=w->X.K=K->X.calm=true->∀(i:Nat)(pins:List (Addr×Obj))(s:Shared)(σ:St)(H:ax)(E:Value->Shared->Prop),Inv X pins σ H s->(∀b∈bq,jf X pins H b)->gi i s.heap->cc.stop i H ->
  wpAny (model P w) X.A (pyNext (.ref it)) (λr s1=>r=none/\Inv X pins σ H s1) E s
 self:∀(A:Around)(i:Nat)(s:Shared)(Q:Value->Shared->Prop)(E:Value->Shared->Prop),gi i s.heap->Q (.ref it) s->wpAny (model P w) A (pyIter (.ref it)) Q E s
noncomputable abbrev TI:=St->ax->(jh->ax->Prop)->Prop
noncomputable def y7(X:aV)(pins:List (Addr×Obj))(σ:St)(dv:Expr)(R:jh->ax->Prop)(xx:Value)(s2:Shared):Prop :=
 ∃(it:Addr)(bq:List Addr)(gi:Nat->Heap->Prop)(cc:jh)(ao:ax),xx=.ref it/\Inv X pins σ ao s2/\Turn X.prog X.w X.K dv cc bq it gi/\gi 0 s2.heap/\(∀b∈bq,jf X pins ao b)/\R cc ao
noncomputable def gI(X:aV)(dv iter:Expr)(pE:TI):Prop :=
 ∀(pins:List (Addr×Obj))(s:Shared)(σ:St)(H:ax)(R:jh->ax->Prop),Inv X pins σ H s->pE σ H R ->
  wpAny (model X.prog X.w) X.A (eval iter X.env) (λv s1=>wpAny (model X.prog X.w) X.A (pyIter v) (y7 X pins σ dv R) X.cR s1) X.cR s
def wF {M : Model} {A : Around} {E : Value -> Shared -> Prop} {s : Shared} {dv : Expr} {it : Addr} {u : Value} {o : Obj} {n : String} {ag : Array Value} {Q : Unit -> Shared -> Prop} (ar : s.heap.get? it = some o) (ai : o.cls = .type n) (hd : o.data = .fields ag)
    (aD : ["enumerate", "zip", "dict_itemiterator", "dict_reverseitemiterator", "odict_iterator", "itertools.zip_longest", "itertools.pairwise"].contains n = false) (dZ : Q () s) : wpAny M A (letOwnedTupleGo dv (.ref it) u) Q E s := by
  unfold letOwnedTupleGo
  cases dv <;> first
    | exact wpAny_pure dZ
    | (cases u <;> first
        | exact wpAny_pure dZ
        | (refine UA (Yq ar ?_)
           rw [ai, hd]
           show wpAny M A (if (["enumerate", "zip", "dict_itemiterator", "dict_reverseitemiterator", "odict_iterator", "itertools.zip_longest", "itertools.pairwise"].contains n && ag[0]? == some (rawInt _)) = true then _ else _) Q E s
           rw [if_neg (by intro h; rw [aD, Wz] at h; cases h)]
           exact wpAny_pure dZ))
noncomputable def uL(K:W.Frag)(a:Addr):jh :=
 ⟨λi H=>∃xs x,dW K H a xs/\xs[i]?=some x,λi H x ao=>ao=H/\∀xs,dW K H a xs->xs[i]?=some x,λi H=>∃xs,dW K H a xs/\xs.length<=i⟩
noncomputable def uM(K:W.Frag)(a:Addr):jh :=
 ⟨λi H=>∃xs x,fj K H a xs/\xs[i]?=some x,λi H x ao=>ao=H/\∀xs,fj K H a xs->xs[i]?=some x,λi H=>∃xs,fj K H a xs/\xs.length<=i⟩
noncomputable def n2(lo:Int)(n:Nat):jh:=⟨λi _=>i<n,λi H x ao=>ao=H/\x=.int (lo+i),λi _=>n<=i⟩
def Sx{P:Program}{w:World}{K:W.Frag}{dv:Expr}(a it:Addr):Turn P w K dv (uL K a) [it] it (λi h=>h.IsListIter it a i) where
 mem:=by simp
 obj:=λi h st b af=>by
  have e:b=it:=by simpa using af
  subst e;obtain⟨o,e,c,d⟩:=st;exact⟨o,e,λv z=>by rw[d]at z;cases z⟩
 keep:=λi h h' st k=>st.at λo e=>k it (by simp) o e
 item:=by
  intro X dK hw gs ai i pins s σ H E I hf st ba;subst dK hw gs;obtain⟨xs,x,aE,ah⟩:=ba;obtain⟨its,bG,p,au⟩:=I.list aE;obtain⟨u,bQ,ed⟩:=bG.get ah;obtain⟨f0,f1,f2,eE,f4,eQ⟩:=hf it (by simp)
  refine wpAny_pyNext_list_item st p.isList (x:=u) (by simpa using bQ) λh' aG cv=>?_
  have a7:Inv X pins σ H { s with heap:=h' }:=I.turned (t':=s.toks) (λb o af e=>(cv.2 b af).trans e) f0 f1 eE f4 eQ
  obtain⟨o,e,c,d⟩:=id aG;exact⟨u,rfl,wF (s:={ s with heap:=h' }) e c d (by decide) ⟨x,H,a7,ed,⟨rfl,λys aA=>by rw[I.CB aA aE];exact ah⟩,aG,λb af=>(hf b af).1⟩⟩
 done:=by
  intro X dK hw gs ai i pins s σ H E I hf st ba;subst dK hw gs;obtain⟨xs,aE,ah⟩:=ba;obtain⟨its,bG,p,au⟩:=I.list aE;obtain⟨f0,f1,f2,eE,f4,eQ⟩:=hf it (by simp)
  have aw:=bG.length;exact wpAny_pyNext_list_end (I.ok.hd ai) st p.isList (by simp;omega) λh' dY=>⟨rfl,I.turned (t':=s.toks) (λb o af e=>dY b o af e) f0 f1 eE f4 eQ⟩
 self:=λ_ _ _ _ _ st h=>wpAny_pyIter_listiter st h
def Sz{P:Program}{w:World}{K:W.Frag}{dv:Expr}(a it:Addr):Turn P w K dv (uM K a) [it] it (λi h=>h.IsTupleIter it a i) where
 mem:=by simp
 obj:=λi h st b af=>by
  have e:b=it:=by simpa using af
  subst e;obtain⟨o,e,c,d⟩:=st;exact⟨o,e,λv z=>by rw[d]at z;cases z⟩
 keep:=λi h h' st k=>st.at λo e=>k it (by simp) o e
 item:=by
  intro X dK hw gs ai i pins s σ H E I hf st ba;subst dK hw gs;obtain⟨xs,x,aE,ah⟩:=ba;obtain⟨its,bG,p,au⟩:=I.tuple aE;obtain⟨u,bQ,ed⟩:=bG.get ah;obtain⟨f0,f1,f2,eE,f4,eQ⟩:=hf it (by simp)
  refine wpAny_pyNext_tuple_item st (show s.heap.IsTuple a its.toArray from p) (x:=u) (by simpa using bQ) λh' aG cv=>?_
  have a7:Inv X pins σ H { s with heap:=h' }:=I.turned (t':=s.toks) (λb o af e=>(cv.2 b af).trans e) f0 f1 eE f4 eQ
  obtain⟨o,e,c,d⟩:=id aG;exact⟨u,rfl,wF (s:={ s with heap:=h' }) e c d (by decide) ⟨x,H,a7,ed,⟨rfl,λys aA=>by rw[I.Sq aA aE];exact ah⟩,aG,λb af=>(hf b af).1⟩⟩
 done:=by
  intro X dK hw gs ai i pins s σ H E I hf st ba;subst dK hw gs;obtain⟨xs,aE,ah⟩:=ba;obtain⟨its,bG,p,au⟩:=I.tuple aE;obtain⟨f0,f1,f2,eE,f4,eQ⟩:=hf it (by simp)
  have aw:=bG.length;exact wpAny_pyNext_tuple_end (I.ok.hd ai) st (show s.heap.IsTuple a its.toArray from p) (by simp;omega) λh' dY=>⟨rfl,I.turned (t':=s.toks) (λb o af e=>dY b o af e) f0 f1 eE f4 eQ⟩
 self:=λ_ _ _ _ _ st h=>wpAny_pyIter_tupleiter st h
def Sy{P:Program}{w:World}{K:W.Frag}{dv:Expr}(it:Addr)(lo:Int)(n:Nat):Turn P w K dv (n2 lo n) [it] it (λi h=>IsRangeIter h it (lo+(i:Nat)*1) ((n:Int)-(i:Nat)) 1) where
 mem:=by simp
 obj:=λi h st b af=>by
  have e:b=it:=by simpa using af
  subst e;exact⟨_,st,λv z=>by
   have fm:Data.fields _=Data.cell v:=z;cases fm⟩
 keep:=λi h h' st k=>k it (by simp) _ st
 item:=by
  intro X dK hw gs ai i pins s σ H E I hf st ba;subst dK hw gs;obtain⟨f0,f1,f2,eE,f4,eQ⟩:=hf it (by simp)
  have W:=Walks.range (prog:=X.prog) (w:=X.w) (I.ok.hd ai) it lo 1 n;refine W.item i s _ _ ba st λv h' tk aQ aG lq=>?_
  obtain⟨t,rfl⟩:=aQ;have a7:Inv X pins σ H { s with heap:=h',toks:=tk }:=I.turned (λb o af e=>lq b o (by simpa using af) e) f0 f1 eE f4 eQ
  refine⟨_,rfl,wF (s:={ s with heap:=h',toks:=tk }) (n:="range_iterator") aG rfl rfl (by decide) ⟨.int (lo+i),H,a7,⟨t,?_⟩,⟨rfl,rfl⟩,aG,λb af=>(hf b af).1⟩⟩
  rw[Int.mul_one]
 done:=by
  intro X dK hw gs ai i pins s σ H E I hf st ba;subst dK hw gs;obtain⟨f0,f1,f2,eE,f4,eQ⟩:=hf it (by simp)
  exact wpAny_pyNext_range_end (I.ok.hd ai) st (by have:n<=i:=ba;omega) λh' dY=>⟨rfl,I.turned (t':=s.toks) (λb o af e=>dY b o af e) f0 f1 eE f4 eQ⟩
 self:=λ_ _ _ _ _ st h=>wpAny_pyIter_rangeiter st h
end bE
namespace bE
open PySem PySem.Spec PyProof.Rows
section
variable{X:aV}{dv:Expr}
def DA{pins:List (Addr×Obj)}{σ:St}{H:ax}{s:Shared}{R:jh->ax->Prop}{E:Value->Shared->Prop}{lo hi:Int}{t u v:Tok}{tk:Nat}(I:Inv X pins σ H s)(J:-(2 ^ 62)<=lo)(aa:lo<2 ^ 62)(aL:-(2 ^ 62)<=hi)(a8:hi<2 ^ 62)(q:R (n2 lo (hi-lo).toNat) H):wpAny (model X.prog X.w) X.A (pyIter (.ref s.heap.objs.size)) (y7 X pins σ dv R) E { s with heap:=s.heap.push { cls:=.type "range",data:=.fields #[.int lo t,.int hi u,.int 1 v] },toks:=tk }:=by
 refine wpAny_pyIter_range (IsRange.new ..) (small_one J aa aL a8) ?_;have a7:Inv X pins σ H { s with heap:=s.heap.push { cls:=.type "range",data:=.fields #[.int lo t,.int hi u,.int 1 v] },toks:=tk }:=I.kept λb o e=>UD _ e
 refine⟨(s.heap.push { cls:=.type "range",data:=.fields #[.int lo t,.int hi u,.int 1 v] }).objs.size,[(s.heap.push { cls:=.type "range",data:=.fields #[.int lo t,.int hi u,.int 1 v] }).objs.size],_,_,H,rfl,
  a7.kept (t':=tk) λb o e=>UD _ e,Sy _ lo (hi-lo).toNat,?_,λb af=>?_,q⟩
 .have aj:lo+((0:Nat):Int)*1=lo:=by simp
  have av:(((hi-lo).toNat:Nat):Int)-((0:Nat):Int)=Builtin.Range.rangeSize lo hi 1:=by rw[rangeSize_one];split<;>omega
  show IsRangeIter _ _ (lo+((0:Nat):Int)*1) ((((hi-lo).toNat:Nat):Int)-((0:Nat):Int)) 1;rw[aj,av];exact UQ _ rfl
 .have e:b=(s.heap.push { cls:=.type "range",data:=.fields #[.int lo t,.int hi u,.int 1 v] }).objs.size:=by simpa using af
  subst e;exact a7.qn (UE _) (a7.bP.fresh (UE _))
noncomputable def LU(cf:fk):TI:=λσ H R=>cf σ H λag H1=>∃j:Int,ag=[.int j]/\-(2 ^ 62)<=j/\j<2 ^ 62/\R (n2 0 j.toNat) H1
noncomputable def LV(cf:fk):TI:=λσ H R=>cf σ H λag H1=>∃i j:Int,ag=[.int i,.int j]/\(-(2 ^ 62)<=i/\i<2 ^ 62/\-(2 ^ 62)<=j/\j<2 ^ 62)/\R (n2 i (j-i).toNat) H1
def OO{a:Expr}{cf:fk}{p pos:Pos}(ba:dH X "range")(hm:X.aF "range"=none)(az:fi X [a] cf)(ae:starEach [a] X.env=[(false,eval a X.env)]:=by rfl):gI X dv (.Call (.Name "range" p) [a] [] pos) (LU cf):=by
 intro pins s σ H R I h;refine Call_ (hs I ba hm boot_range (U8 (bI (az pos pins s σ H _ I h) λus s1 ⟨ag,H1,a7,aI,aK⟩=>?_) ae rfl))
 obtain⟨j,e,aK,a6,q⟩:=aK;subst e;cases aI with
 |cons r gf =>
  cases gf;obtain⟨t,rfl⟩:=r;exact call_range_1 (DA a7 (by omega) (by omega) aK a6 (by simpa using q))
def OP{a b:Expr}{cf:fk}{p pos:Pos}(ba:dH X "range")(hm:X.aF "range"=none)(az:fi X [a,b] cf)(ae:starEach [a,b] X.env=[(false,eval a X.env),(false,eval b X.env)]:=by rfl)(nu:starEach [b] X.env=[(false,eval b X.env)]:=by rfl):
  gI X dv (.Call (.Name "range" p) [a,b] [] pos) (LV cf):=by
 intro pins s σ H R I h;refine Call_ (hs I ba hm boot_range (U8 (bI (az pos pins s σ H _ I h) λus s1 ⟨ag,H1,a7,aI,aK⟩=>?_) (by rw[ae,nu]) (by rw[nu];rfl)))
 obtain⟨i,j,e,⟨aK,a6,bT,c9⟩,q⟩:=aK;subst e;cases aI with
 |cons r gf =>
  cases gf with
  |cons bL gf =>
   cases gf;obtain⟨t,rfl⟩:=r;obtain⟨t',rfl⟩:=bL;exact call_range_2 (DA a7 aK a6 bT c9 q)
noncomputable def t7(pE:TI)(g:kR)(cH:gL):gL:=λD σ H=>pE σ H λcc H1=>∃W:Nat->Nat->St->ax->Prop,(∃m,W 0 m σ H1)/\∀i m σ H,W i m σ H ->
 (cc.stop i H/\D.cV σ H)\/(cc.go i H/\∃N:St->ax->Prop,(∀dy ao,N dy ao->∃du,du<m/\W (i+1) du dy ao)/\∀x ao,cc.kJ i H x ao->g x σ ao λpI aW=>cH { D with cV:=N,ct:=N,lU:=D.cV } pI aW)
noncomputable def tH(bq:List Addr)(h:Heap):List (Addr×Obj):=bq.filterMap λb=>(h.get? b).map λo=>(b,o)
def oW{bq:List Addr}{h:Heap}{b:Addr}{o:Obj}(af:b∈bq)(e:h.get? b=some o):(b,o)∈tH bq h:=WE.mpr ⟨b,af,by rw[e];rfl⟩
def NW{bq:List Addr}{h:Heap}{p:Addr×Obj}(aC:p∈tH bq h):p.1∈bq/\h.get? p.1=some p.2:=by
 obtain⟨b,af,e⟩:=WE.mp aC;cases q:h.get? b with
 |none=>rw[q]at e;cases e
 |some o =>
  rw[q]at e;have bf:(b,o)=p:=Vs e;subst bf;exact⟨af,q⟩
def Inv.pinned{pins:List (Addr×Obj)}{σ:St}{H:ax}{s:Shared}{bq:List Addr}(I:Inv X pins σ H s)(hf:∀b∈bq,jf X pins H b)(ar:∀b∈bq,∃o,s.heap.get? b=some o/\∀v,o.data≠.cell v):Inv X (pins++tH bq s.heap) σ H s :=
 I.rb λp aC=>(UY.mp aC).elim (λz=>I.pin p (UP _ z)) λz=>by
  obtain⟨af,e⟩:=NW z;obtain⟨f0,f1,f2,_⟩:=hf p.1 af;obtain⟨o,bf,d⟩:=ar p.1 af;rw[e]at bf;cases bf;exact⟨e,f0,f1,f2,d⟩
def Inv.pD{pins cu:List (Addr×Obj)}{σ:St}{H:ax}{s:Shared}(I:Inv X (pins++cu) σ H s):Inv X pins σ H s:=I.rb λp aC=>I.pin p (UP _ (VA _ aC))
def O6{iter:Expr}{body:List Stmt}{pE:TI}{g:kR}{cH:gL}{pos:Pos}(aC:PassesOwn (model X.prog X.w) X.A X.env X.cR)(ai:X.calm=true)(hi:gI X dv iter pE)(ba:iE X dv g)(af:gJ X body cH)(ae:∀x,foldedSetIterable iter X.env x=pure x:=by intro _;rfl):eU X (.For dv iter body [] pos) (t7 pE g cH):=by
 intro pins s σ H D I h;refine wpAny_For (bI (hi pins s σ H _ I h) λv s1 J=>bI J λxx s2 aa=>?_) ae
 obtain⟨it,bq,gi,cc,aW,e,cx,T,cX,f2,W,⟨m0,S4⟩,turn⟩:=aa;subst e;have yu:∀{ao:ax},(∀b∈bq,ao b=none)->∀b∈bq,jf X pins ao b:=λaD b af=>⟨aD b af,(f2 b af).2⟩
 refine codeAny_forLoop_any (λn s'=>∃i dy ao,Inv X pins dy ao s'/\gi i s'.heap/\(∀b∈bq,ao b=none)/\W i n dy ao) ?_ m0 ⟨0,σ,aW,cx,cX,λb af=>(f2 b af).1,S4⟩
 rintro n s3 ⟨i,pJ,b2,eo,gA,AM,S5⟩;rcases turn i n pJ b2 S5 with⟨stop,Po⟩|⟨go,N,bj,step⟩
 .refine W4 aC (bI (T.done X rfl rfl rfl ai i pins s3 pJ b2 X.cR eo (yu AM) gA stop) λr s4 ⟨aZ,eL⟩=>?_)
  subst aZ;exact wpAny_execs_nil ⟨pJ,b2,eL,Po⟩
 .refine W4 aC (bI (T.item X rfl rfl rfl ai i pins s3 pJ b2 X.cR eo (yu AM) gA go) λr s4 ⟨u,aZ,a8⟩=>?_)
  subst aZ;refine W4 aC (bI a8 λ_ s5 ⟨x,lI,jg,fE,uz,lA,wk⟩=>?_)
  have uI:=jg.pinned (yu wk) (T.obj _ _ lA);refine W4 aC (bI (ba _ s5 pJ lI x u _ uI fE (step x lI uz)) λ_ DR ⟨uA,mN,uJ,x3⟩=>?_)
  refine W4 aC (bI (af _ DR uA mN _ uJ x3) λf rm kz=>?_)
  have again:∀{jW:St}{gD:ax},Inv X (pins++tH bq s5.heap) jW gD rm->N jW gD->∃m,m<n/\∃i dy ao,Inv X pins dy ao rm/\gi i rm.heap/\(∀b∈bq,ao b=none)/\W i m dy ao:=λ{jW gD} gE q1=>by
   obtain⟨du,hm,S6⟩:=bj jW gD q1;refine⟨du,hm,i+1,jW,gD,gE.pD,T.keep _ _ _ lA λb af o e=>(gE.pin (b,o) (UP _ (UP _ (oW af e)))).1,λb af=>?_,S6⟩
   obtain⟨o,e,d⟩:=T.obj _ _ lA b af;exact(gE.pin (b,o) (UP _ (UP _ (oW af e)))).2.1
  cases f with
  |next=>obtain⟨jW,gD,gE,q1⟩:=kz;exact again gE q1
  |cont=>obtain⟨jW,gD,gE,q1⟩:=kz;exact again gE q1
  |brk=>obtain⟨jW,gD,gE,kz⟩:=kz;exact⟨jW,gD,gE.pD,kz⟩
  |ret v=>obtain⟨mJ,jW,gD,gE,rh,kz⟩:=kz;exact⟨mJ,jW,gD,gE.pD,rh,kz⟩
end
end bE
namespace bE
open PySem PySem.Spec PyProof.Rows
noncomputable abbrev fx:=V->V->ax->c4->Prop
noncomputable def c7(X:aV)(f:Value->Value->Sem Value)(r:fx):Prop :=
 ∀(pins:List (Addr×Obj))(s:Shared)(σ:St)(H:ax)(x y:V)(v u:Value)(Q:c4),Inv X pins σ H s->RelV x v->RelV y u->r x y H Q ->
  wpAny (model X.prog X.w) X.A (f v u) (ei X pins σ Q) X.cR s
noncomputable def FR(X:aV)(f:Value->Sem Value)(r:V->ax->c4->Prop):Prop :=
 ∀(pins:List (Addr×Obj))(s:Shared)(σ:St)(H:ax)(x:V)(v:Value)(Q:c4),Inv X pins σ H s->RelV x v->r x H Q ->
  wpAny (model X.prog X.w) X.A (f v) (ei X pins σ Q) X.cR s
noncomputable def g6(X:aV)(f:Value)(r:List V->ax->c4->Prop):Prop :=
 ∀(pins:List (Addr×Obj))(s:Shared)(σ:St)(H:ax)(xs:List V)(us:List Value)(Q:c4),Inv X pins σ H s->Vals xs us->r xs H Q ->
  wpAny (model X.prog X.w) X.A (call f us) (ei X pins σ Q) X.cR s
noncomputable def rq(r:fx)(cf cH:TE):TE:=λσ H Q=>cf σ H λx H1=>cH σ H1 λy aW=>r x y aW Q
noncomputable def tL(bU:Int->Int->Prop)(g:Int->Int->V):fx:=λx y H Q=>∃i j,x=.int i/\y=.int j/\bU i j/\Q (g i j) H
noncomputable def mD(g:Int->Int->V):fx:=λx y H Q=>∃i j,x=.int i/\y=.int j/\Q (g i j) H
noncomputable def Px(g:Int->V):V->ax->c4->Prop:=λx H Q=>∃i,x=.int i/\Q (g i) H
section
variable{X:aV}{a b c:Expr}{cf cH kE:TE}{pos:Pos}
def vs(az:aR X a cf)(af:aR X b cH){pins:List (Addr×Obj)}{s:Shared}{σ:St}{H:ax}{R:V->V->ax->Prop}(I:Inv X pins σ H s)(h:cf σ H λx H1=>cH σ H1 λy aW=>R x y aW){Q:Value->Shared->Prop}{f:Value->Value->Sem Value}(hf:∀v u s2 x y aW,Inv X pins σ aW s2->RelV x v->RelV y u->R x y aW->wpAny (model X.prog X.w) X.A (f v u) Q X.cR s2):
  wpAny (model X.prog X.w) X.A (eval a X.env) (λv cC=>wpAny (model X.prog X.w) X.A (eval b X.env) (λu gY=>wpAny (model X.prog X.w) X.A (f v u) Q X.cR gY) X.cR cC) X.cR s:=by
 refine bI (az pins s σ H _ I h) λv s1 ⟨x,H1,a7,aI,aK⟩=>?_
 refine bI (af pins s1 σ H1 _ a7 aK) λu s2 ⟨y,aW,cx,a5,a6⟩=>?_
 exact hf v u s2 x y aW cx aI a5 a6
def Dh{op:Operator}{r:fx}(ar:c7 X (binaryOp op) r)(az:aR X a cf)(af:aR X b cH):aR X (.BinOp a op b pos) (rq r cf cH):=by
 intro pins s σ H Q I h;exact wpAny_BinOp (vs az af I h λv u s2 x y aW cx aY bz q=>ar pins s2 σ aW x y v u Q cx aY bz q)
def xS{f:Value->Value->Sem Value}{bU:Int->Int->Prop}{g:Int->Int->Int}(rule:∀(i j:Int)(t u:Tok)(s:Shared)(Q:Value->Shared->Prop)(E:Value->Shared->Prop),bU i j->Q (.int (g i j) s.toks) { s with toks:=s.toks+1 }->wpAny (model X.prog X.w) X.A (f (.int i t) (.int j u)) Q E s):
  c7 X f (tL bU λi j=>.int (g i j)):=by
 intro pins s σ H x y v u Q I aY bz h;obtain⟨i,j,rfl,rfl,ai,q⟩:=h;obtain⟨t,rfl⟩:=aY;obtain⟨t',rfl⟩:=bz;exact rule i j t t' s _ _ ai ⟨.int (g i j),H,I.tok _,⟨_,rfl⟩,q⟩
def C0{f:Value->Value->Sem Value}{g:Int->Int->Int}(rule:∀(i j:Int)(t u:Tok)(s:Shared)(Q:Value->Shared->Prop)(E:Value->Shared->Prop),Q (.int (g i j) s.toks) { s with toks:=s.toks+1 }->wpAny (model X.prog X.w) X.A (f (.int i t) (.int j u)) Q E s):
  c7 X f (mD λi j=>.int (g i j)):=by
 intro pins s σ H x y v u Q I aY bz h;obtain⟨i,j,rfl,rfl,q⟩:=h;obtain⟨t,rfl⟩:=aY;obtain⟨t',rfl⟩:=bz;exact rule i j t t' s _ _ ⟨.int (g i j),H,I.tok _,⟨_,rfl⟩,q⟩
def tB{f:Value->Value->Sem Value}{g:Int->Int->Bool}(rule:∀(i j:Int)(t u:Tok)(s:Shared)(Q:Value->Shared->Prop)(E:Value->Shared->Prop),Q (.bool (g i j)) s->wpAny (model X.prog X.w) X.A (f (.int i t) (.int j u)) Q E s):
  c7 X f (mD λi j=>.aM (g i j)):=by
 intro pins s σ H x y v u Q I aY bz h;obtain⟨i,j,rfl,rfl,q⟩:=h;obtain⟨t,rfl⟩:=aY;obtain⟨t',rfl⟩:=bz;exact rule i j t t' s _ _ ⟨.aM (g i j),H,I,rfl,q⟩
noncomputable def Fz(i j:Int):Prop:=0<j/\j<1073741824
noncomputable def uD(i j:Int):Prop:=(-(2 ^ 64)<i/\i<2 ^ 64)\/(-(2 ^ 64)<j/\j<2 ^ 64)
def uD.ok{i j:Int}(h:uD i j):IntMulOk i j:=by
 rcases h with⟨J,aa⟩|⟨J,aa⟩
 .exact .of_left (intBits_le_64 J aa)
 .exact .of_right (intBits_le_64 J aa)
def C2:c7 X (binaryOp .Add) (mD λi j=>.int (i+j)):=C0 λ_ _ _ _ _ _ _ q=>add_int q
def N8:c7 X (binaryOp .Sub) (mD λi j=>.int (i-j)):=C0 λ_ _ _ _ _ _ _ q=>sub_int q
def N7:c7 X (binaryOp .Mult) (tL uD λi j=>.int (i*j)):=xS λ_ _ _ _ _ _ _ ai q=>mul_int q ai.ok
def N0:c7 X (binaryOp .FloorDiv) (tL Fz λi j=>.int (i / j)):=xS λi j _ _ _ _ _ ai q=>by
 have J:(0:Int)<j:=ai.1;have aa:j<1073741824:=ai.2;exact floordiv_int (by omega) (by rw[Int.fdiv_eq_ediv_of_nonneg i (by omega)];exact q) (.inl (PyProof.noPylong_small (by omega)))
def N6:c7 X (binaryOp .Mod) (tL (λ_ j=>0<j) λi j=>.int (i%j)):=xS λi j _ _ _ _ _ ai q=>by
 have J:(0:Int)<j:=ai;exact mod_int' (by omega) (by rw[Int.fmod_eq_emod_of_nonneg i (by omega)];exact q)
def yD{f:Value->Sem Value}{g:Int->Int}(rule:∀(i:Int)(t:Tok)(s:Shared)(Q:Value->Shared->Prop)(E:Value->Shared->Prop),Q (.int (g i) s.toks) { s with toks:=s.toks+1 }->wpAny (model X.prog X.w) X.A (f (.int i t)) Q E s):
  FR X f (Px λi=>.int (g i)):=by
 intro pins s σ H x v Q I aY h;obtain⟨i,rfl,q⟩:=h;obtain⟨t,rfl⟩:=aY;exact rule i t s _ _ ⟨.int (g i),H,I.tok _,⟨_,rfl⟩,q⟩
end
section
variable{X:aV}{a b c:Expr}{cf cH kE:TE}{pos:Pos}
def N4:c7 X (compareOp .Lt) (mD λi j=>.aM (decide (i<j))):=tB λ_ _ _ _ _ _ _ q=>lt_int q
def N3:c7 X (compareOp .LtE) (mD λi j=>.aM (decide (i<=j))):=tB λ_ _ _ _ _ _ _ q=>le_int q
def N2:c7 X (compareOp .Gt) (mD λi j=>.aM (decide (j<i))):=tB λ_ _ _ _ _ _ _ q=>gt_int q
def N1:c7 X (compareOp .GtE) (mD λi j=>.aM (decide (j<=i))):=tB λ_ _ _ _ _ _ _ q=>ge_int q
def Ou{op:CmpOp}{r:fx}(ar:c7 X (compareOp op) r)(az:aR X a cf)(af:aR X b cH)(hm:behindInMarks op b=false):aR X (.Compare a [op] [b] pos) (rq r cf cH):=by
 intro pins s σ H Q I h;exact wpAny_Compare1 (vs az af I h λv u s2 x y aW cx aY bz q=>ar pins s2 σ aW x y v u Q cx aY bz q) hm
noncomputable def ES(t:TE):TT:=λσ H Q=>t σ H λx ao=>∃k,x=.aM k/\Q k ao
def Pb{op:CmpOp}{r:fx}(ar:c7 X (compareOp op) r)(az:aR X a cf)(af:aR X b cH)(hm:behindInMarks op b=false):dV X (.Compare a [op] [b] pos) (ES (rq r cf cH)):=by
 intro pins s σ H Q I h;refine wpAny_isTrue_Compare1 (bI (az pins s σ H _ I h) λv s1 ⟨x,H1,a7,aI,aK⟩=>bI (af pins s1 σ H1 _ a7 aK) λu s2 ⟨y,aW,cx,a5,a6⟩ =>
  bI (ar pins s2 σ aW x y v u _ cx aI a5 a6) λc s3 ⟨z,b2,eo,dn,k,e,bT⟩=>?_) hm
 subst e;cases dn;exact VQ ⟨b2,eo,bT⟩
noncomputable def yy(r bL:fx)(cf cH kE:TE):TE:=λσ H Q=>cf σ H λx H1=>cH σ H1 λy aW=>r x y aW λz b2=>∃k,z=.aM k /\
 (if k=true then kE σ b2 λdB iB=>bL y dB iB Q else Q (.aM false) b2)
def Ot{op op':CmpOp}{r bL:fx}(ar:c7 X (compareOp op) r)(dh:c7 X (compareOp op') bL)(az:aR X a cf)(af:aR X b cH)(ai:aR X c kE)(hm:lastMarks [op,op'] [b,c]=false:=by with_unfolding_all rfl):aR X (.Compare a [op,op'] [b,c] pos) (yy r bL cf cH kE):=by
 intro pins s σ H Q I h;refine Compare_chain (bI (az pins s σ H _ I h) λv s1 ⟨x,H1,a7,aI,aK⟩=>chain_link (bI (af pins s1 σ H1 _ a7 aK) λu s2 ⟨y,aW,cx,a5,a6⟩ =>
  bI (ar pins s2 σ aW x y v u _ cx aI a5 a6) λd s3 ⟨z,b2,eo,dn,k,e,bT⟩=>?_)) hm
 subst e;cases dn;refine VQ ?_;cases k with
 |false=>exact ite_ff ⟨.aM false,b2,eo,rfl,bT⟩
 |true=>exact ite_tt (chain_last (bI (ai pins s3 σ b2 _ eo bT) λdB s4 ⟨fm,iB,eL,fe,c9⟩=>dh pins s4 σ iB y fm u dB Q eL a5 fe c9))
def Pa{op op':CmpOp}{r bL:fx}(ar:c7 X (compareOp op) r)(dh:c7 X (compareOp op') bL)(az:aR X a cf)(af:aR X b cH)(ai:aR X c kE)(hm:lastMarks [op,op'] [b,c]=false:=by with_unfolding_all rfl):dV X (.Compare a [op,op'] [b,c] pos) (ES (yy r bL cf cH kE)):=by
 intro pins s σ H Q I h;refine isTrue_chain (bI (az pins s σ H _ I h) λv s1 ⟨x,H1,a7,aI,aK⟩=>test_link (bI (af pins s1 σ H1 _ a7 aK) λu s2 ⟨y,aW,cx,a5,a6⟩ =>
  bI (ar pins s2 σ aW x y v u _ cx aI a5 a6) λd s3 ⟨z,b2,eo,dn,k,e,bT⟩=>?_)) hm
 subst e;cases dn;refine VQ ?_;cases k with
 |false =>
  obtain⟨cB,bf,cL⟩:=bT;cases bf;exact ite_ff ⟨b2,eo,cL⟩
 |true =>
  refine ite_tt (test_last (bI (ai pins s3 σ b2 _ eo bT) λdB s4 ⟨fm,iB,eL,fe,c9⟩=>bI (dh pins s4 σ iB y fm u dB _ eL a5 fe c9) λd' s5 ⟨c1,lI,jg,fE,k2,av,ky⟩=>?_))
  subst av;cases fE;exact VQ ⟨lI,jg,ky⟩
def qT:(sizeLine:Nat)<2 ^ 63:=by rw[sizeLine_eq];decide
def NZ:c7 X (binaryOp .Add) (λx y H Q=>∃i j,x=.str i/\y=.str j/\i.length+j.length<=sizeLine/\Q (.str (i++j)) H):=by
 intro pins s σ H x y v u Q I aY bz h;obtain⟨i,j,rfl,rfl,au,q⟩:=h;obtain⟨t,rfl⟩:=aY;obtain⟨t',rfl⟩:=bz;exact add_str (λt' tk=>⟨.str (i++j),H,I.tok _,⟨_,rfl⟩,q⟩) au
def vals1{x:V}{us:List Value}(r:Vals [x] us):∃u,us=[u]/\RelV x u:=by
 cases r with
 |cons aI a5=>cases a5;exact⟨_,rfl,aI⟩
def vals2{x y:V}{us:List Value}(r:Vals [x,y] us):∃u dB,us=[u,dB]/\RelV x u/\RelV y dB:=by
 cases r with
 |cons aI a5 =>
  cases a5 with
  |cons dn fe=>cases fe;exact⟨_,_,rfl,aI,dn⟩
def G4:g6 X (.type "int") (λxs H Q=>(∃i,xs=[.int i]/\Q (.int i) H)\/∃k,xs=[.aM k]/\Q (.int (if k then 1 else 0)) H):=by
 intro pins s σ H xs us Q I r h;rcases h with⟨i,rfl,q⟩|⟨k,rfl,q⟩
 .obtain⟨u,rfl,t,rfl⟩:=vals1 r;exact call_int_int ⟨.int i,H,I,⟨_,rfl⟩,q⟩
 .obtain⟨u,rfl,aI⟩:=vals1 r;cases aI;exact call_int_bool ⟨.int (if k then 1 else 0),H,I.tok _,⟨_,rfl⟩,q⟩
end
end bE
namespace bE
open PySem PySem.Spec PyProof.Rows
structure uQ(h:Heap)(x a4 bU:Addr)(eG:Str->Option Value):Prop where
 obj:h.get? x=some (PySem.W.instObj bU a4)
 ns:h.Ns1 a4 eG
 ne:a4≠x
def M7 {h : Heap} {a4 : Addr} {eG : Str -> Option Value} (n : h.Ns1 a4 eG) : ∃ cn, h.get? a4 = some cn /\ ∀ name, PySem.W.lookIn name cn = some (eG name) := by
  obtain ⟨o, ab, aT, ar, hd, aq, _, hm⟩ := n
  refine ⟨o, ar, fun name => ?_⟩
  have e := hm name
  unfold nsFind findBy at e
  rw [<- Array.find?_toList] at e
  unfold PySem.W.lookIn
  rw [hd]
  dsimp only
  split
  · rename_i y q
    rw [q] at e
    exact Wm some e
  · rename_i q
    rw [q] at e
    have a : ab.toList.any (·.refKey) = false := by
      rw [XN]
      intro y aA
      obtain ⟨z, t, w1⟩ := aq y (Array.mem_toList_iff.mp aA)
      simp [DictEntry.refKey, w1]
    have n8 : ¬ ab.toList.any (·.refKey) = true := by rw [a]; exact Vo
    rw [if_neg n8]
    exact Wm some e
def uQ.look{h:Heap}{x a4 bU:Addr}{eG:Str->Option Value}(I:uQ h x a4 bU eG):∃cn,PySem.W.InstAt h x (PySem.W.instObj bU a4) bU (some cn)/\∀name,PySem.W.lookIn name cn=some (eG name) :=
 let ⟨cn,ar,aw⟩:=M7 I.ns
 ⟨cn,⟨I.obj,rfl,rfl,ar⟩,aw⟩
section
variable{prog:Program}{w:World}{A:Around}{E:Value->Shared->Prop}{s:Shared}{K:W.Frag}{x a4 bU f:Addr}{eG:Str->Option Value}{name:Str}{v:Value}
end
def h4.some_of{v:V}{o:Option Value}(r:h4 (some v) o):∃u,o=some u/\RelV v u:=by
 cases o with
 |none=>exact(show False from r).elim
 |some u=>exact⟨u,rfl,r⟩
section
variable{P:Program}{w:World}{H ao:ax}{h h':Heap}{a bU a4:Addr}{bK JS:List (Str×V)}
def lh(bP:d5 P w H h)(e:H a=some (.ins bU a4 bK)):∃eG,uQ h a a4 bU eG/\(∀f,h4 (bK.lookup f) (eG f))/\PySem.Within eG (bK.map (·.1))/\bK.length<=1000/\H a4=some (.own a):=by
 obtain⟨d,z,ne,bx,eG,n,r,q⟩:=(show ej P w H h a (.ins bU a4 bK) from bP a _ e);exact⟨eG,⟨bx,n,ne⟩,r,q,z,d⟩
end
structure uE(K:W.Frag)(bU:Addr):Prop where
 pg:PySem.W.plainGet K bU Str.empty=true
 hd:PySem.W.hasDictIn K bU=true
 po:PySem.W.plainOver K bU=true
 dO:PySem.W.findIn K (.ref bU) "__setattr__"=some (some (.builtin "object.__setattr__"))
def uE.get{K:W.Frag}{bU:Addr}(c:uE K bU)(f:Str):PySem.W.plainGet K bU f=true:=c.pg
structure Tt(K:W.Frag)(bU:Addr)(f:Str)(v:V)(u:Value):Prop where
 at_:PySem.W.findIn K (.ref bU) f=some (some u)
 rel:RelV v u
 get:PySem.W.specialIn K u "__get__"=some none
 eP:PySem.W.copiedNames.contains f=false
structure Meth(K:W.Frag)(bU:Addr)(m:Str)(f:Addr):Prop where
 at_:PySem.W.findIn K (.ref bU) m=some (some (.ref f))
 fn:PySem.W.isFn K (.ref f)=true
 iZ:W.keepIn K (.ref f)=true
section
variable{X:aV}{pins:List (Addr×Obj)}{σ:St}{H:ax}{s:Shared}{a bU a4:Addr}{bK:List (Str×V)}{f:Str}{v:V}{A:Around}{E:Value->Shared->Prop}
end
section
variable{X:aV}{o e value:Expr}{f:Str}{pos pos' So:Pos}{cf rz:TE}
end
section
variable{X:aV}{pins:List (Addr×Obj)}{σ:St}{H:ax}{s:Shared}{A:Around}{E:Value->Shared->Prop}{Q:Value->Shared->Prop}{c:Value}{b:Bool}
inductive iI(K:W.Frag)(H:ax):V->Value->Prop where
 |cU:iI K H .cU (.type "NoneType")
 |aM (x:Bool):iI K H (.aM x) (.type "bool")
 |int (i:Int):iI K H (.int i) (.type "int")
 |str (x:Str):iI K H (.str x) (.type "str")
 |oB (x:UInt64):iI K H (.oB x) (.type "float")
 |lst {a:Addr} {xs:List V} (e:H a=some (.lst xs)):iI K H (.ref a) (.type "list")
 |hI {a:Addr} {o:Obj} {xs:List V} (e:H a=some (.hI o (.lst xs))):iI K H (.ref a) (.type "list")
 |tup {a:Addr} {xs:List V} (e:H a=some (.tup xs)):iI K H (.ref a) (.type "tuple")
 |gq {a:Addr} {aB:List (Key×V)} (e:H a=some (.gq aB)):iI K H (.ref a) (.type "dict")
 |eu {a:Addr} {aB:List (List Key×V)} (e:H a=some (.eu aB)):iI K H (.ref a) (.type "dict")
 |ins {a bU a4:Addr} {bK:List (Str×V)} (e:H a=some (.ins bU a4 bK)) (cl:uE K bU) (az:PySem.W.findIn K (.ref bU) "__class__"=some (some (.builtin "object.__class__")))
   (aD:PySem.W.specialIn K (.builtin "object.__class__") "__get__"=some (some (.builtin "getset_descriptor.__get__"))) (BS:PySem.W.takesIn K (.builtin "object.__class__")=some true)
   (hm:PySem.W.mroIn K bU (.type "object")=some true):iI K H (.ref a) (.ref bU)
def qN{x:V}{u t:Value}(I:Inv X pins σ H s)(aY:RelV x u)(ty:iI X.K H x t)(e:PySem.W.kitOne X.K t c=some b)(h:∀tk,Q (.bool b) { s with toks:=tk }):
  wpAny (model X.prog X.w) A (call (.builtin "isinstance") [u,c]) Q E s:=by
 cases ty with
 |cU=>cases (show u=Value.none from aY);exact Vy PySem.W.kitx_none I.fU True.intro e (λz=>nomatch z) h
 |aM y=>cases (show u=Value.bool y from aY);exact Vy PySem.W.kitx_bool I.fU True.intro e (λz=>nomatch z) h
 |int i=>obtain⟨t,q⟩:=(show ∃t,u=Value.int i t from aY);cases q;exact Vy PySem.W.kitx_int I.fU True.intro e (λz=>nomatch z) h
 |str y=>obtain⟨t,q⟩:=(show ∃t,u=Value.str y t from aY);cases q;exact Vy PySem.W.kitx_str I.fU True.intro e (λz=>nomatch z) h
 |oB y=>obtain⟨t,q⟩:=(show ∃t,u=Value.float y t from aY);cases q;exact Vy PySem.W.kitx_float I.fU True.intro e (λz=>nomatch z) h
 |@lst a xs dX =>
  cases (show u=Value.ref a from aY);obtain⟨_,_,n,_,J⟩:=(show ej X.prog X.w H s.heap a (.lst xs) from I.bP a _ dX);exact Vy XO I.fU ⟨_,J,rfl⟩ e (λz=>nomatch z) h
 |@hI a bx xs dX =>
  cases (show u=Value.ref a from aY);obtain⟨_,_,_,n,_,J⟩:=(show ej X.prog X.w H s.heap a (.hI bx (.lst xs)) from I.bP a _ dX);exact Vy XO I.fU ⟨_,J,rfl⟩ e (λz=>nomatch z) h
 |@tup a xs dX =>
  cases (show u=Value.ref a from aY);obtain⟨_,_,_,p⟩:=(show ej X.prog X.w H s.heap a (.tup xs) from I.bP a _ dX);obtain⟨o,J,aa,_⟩:=p;exact Vy Yr I.fU ⟨o,J,aa⟩ e (λz=>nomatch z) h
 |@gq a aB dX =>
  cases (show u=Value.ref a from aY);obtain⟨_,_,ag,_,p⟩:=(show ej X.prog X.w H s.heap a (.gq aB) from I.bP a _ dX);obtain⟨o,ab,aT,J,aa,_⟩:=p;exact Vy PySem.W.kitx_dict I.fU ⟨o,J,aa.1⟩ e (λz=>nomatch z) h
 |@eu a aB dX =>
  cases (show u=Value.ref a from aY);obtain⟨_,_,xs,_,o,ab,aT,J,aa,_⟩:=(show ej X.prog X.w H s.heap a (.eu aB) from I.bP a _ dX);exact Vy PySem.W.kitx_dict I.fU ⟨o,J,aa.1⟩ e (λz=>nomatch z) h
 |@ins a bU a4 bK dX cl az aD BS hm =>
  cases (show u=Value.ref a from aY);obtain⟨eG,O,_⟩:=lh I.bP dX;obtain⟨cn,cc,_⟩:=O.look;exact Vy (PySem.W.kitx_own (cl.get _) cl.hd az aD BS hm) I.fU cc e (λz=>nomatch z) h
end
end bE
namespace bE
open PySem PySem.Spec PyProof.Rows
structure fy(k:Nat)(A:Around):Prop where
 hd:A.handled=none
 l0:A.depth+3*k+5<recursionLimit
 un:A.units+16*k+200<cLine
def fy.mono{j k:Nat}{A:Around}(r:fy k A)(h:j<=k):fy j A:=⟨r.hd,by have:=r.l0;omega,by have:=r.un;omega⟩
theorem fy.deeper{k:Nat}{A:Around}(r:fy (k+1) A)(env:Env):fy k (A.deeper env) :=
 ⟨r.hd,by have:=r.l0;show A.depth+1+3*k+5<_;omega,by have:=r.un;show A.units+3+16*k+200<_;omega⟩
theorem fy.depth{k:Nat}{A:Around}(r:fy k A):A.depth<recursionLimit:=by have:=r.l0;omega
theorem fy.units{k:Nat}{A:Around}(r:fy k A):A.units+64<cLine:=by have:=r.un;omega
noncomputable def yA:fk:=λ_ H Q=>Q [] H
noncomputable def t6(cf:TE)(dQ:fk):fk:=λσ H Q=>cf σ H λx H1=>dQ σ H1 λxs aW=>Q (x::xs) aW
section
variable{X:aV}{e:Expr}{ab:List Expr}{ey:TE}{t:fk}{pos:Pos}
def xV:fi X [] yA:=λ_ _ _ _ H Q I h=>V9 ⟨[],H,I,.nil,h⟩
def o9(az:aR X e ey)(aZ:fi X ab t)(ae:starEach (e::ab) X.env=(false,eval e X.env)::starEach ab X.env:=by rfl):fi X (e::ab) (t6 ey t):=by
 intro pos pins s σ H Q I h;rw[ae];show wpAny _ _ (spliced ((false,eval e X.env)::backTo pos (starEach ab X.env))) _ _ s;refine VW (bI (az pins s σ H _ I h) λu s1 ⟨x,H1,a7,aI,aK⟩=>?_)
 exact bI (aZ pos pins s1 σ H1 _ a7 aK) λus s2 ⟨xs,aW,cx,a5,a6⟩=>⟨x::xs,aW,cx,.cons aI a5,a6⟩
noncomputable def RY(t:fk):TE:=λσ H Q=>t σ H λxs H1=>xs.length<=sizeLine/\∀p,H1 p=none->Q (.ref p) (upd H1 p (.tup xs))
noncomputable def RO(t:fk):TE:=λσ H Q=>t σ H λxs H1=>xs.length<=sizeLine/\∀p,H1 p=none->Q (.ref p) (upd H1 p (.lst xs))
def OG{aU}(h:fi X ab t):aR X (.Tuple ab aU pos) (RY t):=by
 intro pins s σ H Q I aE;refine wpAny_Tuple_spliced (bI (h pos pins s σ H _ I aE) λus s1 ⟨xs,H1,a7,r,z,q⟩=>⟨by rw[<- r.length];exact z,?_⟩)
 have hf:H1 s1.heap.objs.size=none:=a7.bP.fresh (UE _);refine⟨.ref s1.heap.objs.size,upd H1 s1.heap.objs.size (.tup xs),a7.laid (t':=s1.toks) (λb u e=>UD _ e) (UE _) ?_,rfl,q _ hf⟩
 exact⟨z,us,r,⟨_,UQ _ rfl,rfl,_,rfl⟩⟩
def OA(h:fi X ab t):aR X (.List ab pos) (RO t):=by
 intro pins s σ H Q I aE;refine wpAny_List_spliced (bI (h pos pins s σ H _ I aE) λus s1 ⟨xs,H1,a7,r,z,q⟩=>⟨by rw[<- r.length];exact z,?_⟩)
 have hf:H1 s1.heap.objs.size=none:=a7.bP.fresh (UE _);refine⟨.ref s1.heap.objs.size,upd H1 s1.heap.objs.size (.lst xs),a7.laid (t':=s1.toks) (λb u e=>UD _ e) (UE _) ?_,rfl,q _ hf⟩
 exact⟨z,us,0,r,UQ _ rfl⟩
end
noncomputable abbrev lN:=List V->ax->c4->iJ->Prop
noncomputable abbrev je:=List Env->ax->Shared->iJ->Value->Shared->Prop
structure rI(P:Program)(w:World)(K:W.Frag)(aF:Str->Option Value)(base:Heap)(A:Around)(outer:List Env)(s:Shared)(H:ax):Prop where
 frames:A.frames=some outer
 mod:Mod K aF base
 bs:∀b o,base.get? b=some o->s.heap.get? b=some o/\H b=none
 p6:base.objs.size<=s.heap.objs.size
 k3:s.heap.FunFrames base outer
 sk:∀b∈hH outer,H b=none
 bP:d5 P w H s.heap
 bare:AllBare s.gens
noncomputable def uC(outer:List Env)(P:Program)(w:World)(H:ax)(s:Shared)(Q:c4)(u:Value)(s':Shared):Prop :=
 ∃v ao,s'.os=s.os/\AllBare s'.gens/\eO (hH outer) [] H ao s.heap s'.heap/\d5 P w ao s'.heap/\RelV v u/\Q v ao
noncomputable def FC(CX:je)(outer:List Env)(P:Program)(w:World)(H:ax)(s:Shared)(Q:c4)(E:iJ)(r:Result)(s':Shared):Prop :=
 match r with
 |.ok (.ret u)=>uC outer P w H s Q u s'
 |.ok _=>False
 |.error e=>CX outer H s E e s'
structure jZ(P:Program)(w:World)(K:W.Frag)(aF:Str->Option Value)(base:Heap)(CX:je)(k:Nat)(f:Addr)(fd:FuncData)(bt:List Str)(sp:lN):Prop where
 len:∀ag H Q E,sp ag H Q E->ag.length=bt.length
 run:∀(A:Around)(outer:List Env)(s:Shared)(H:ax)(args:Args)(us:List Value)(ag:List V)(Q:c4)(E:iJ),fy k A->rI P w K aF base A outer s H->BindsTo s fd args (bt.zip us)->Vals ag us->sp ag H Q E ->
  codeAny (model P w) A (.call (.ref f) args) (FC CX outer P w H s Q E) s
section
variable{X:aV}{pins:List (Addr×Obj)}{σ:St}{H:ax}{s s':Shared}
def Inv.IB(I:Inv X pins σ H s):rI X.prog X.w X.K X.aF X.base X.A X.stack s H :=
 ⟨I.ok.frames,I.ok.mod,I.bs,Vk I.ok.p6 I.d3,I.stack,I.EG,I.bP,I.bare⟩
def Inv.after{Q:c4}{u:Value}(I:Inv X pins σ H s)(h:uC X.stack X.prog X.w H s Q u s'):ei X pins σ Q u s':=by
 obtain⟨v,ao,os,bare,un,bP,r,q⟩:=h;obtain⟨b5,g,d,t,q8⟩:=s';obtain rfl:q8=s.os:=os;exact⟨v,ao,I.call (h':=b5) (g':=g) (d':=d) (t':=t) (ch:=[]) un bP bare (λb z=>absurd z (by simp)),r,q⟩
end
noncomputable def RF(sp:lN)(dvs:List V)(E:iJ)(t:fk):TE:=λσ H Q=>t σ H λag H1=>sp (ag++dvs) H1 Q E
noncomputable def Binds(K:W.Frag)(fd:FuncData)(bt:List Str)(ds:List Value):Prop :=
 ∀(s:Shared)(us:List Value),K.In s.heap->(us++ds).length=bt.length->BindsTo s fd ⟨us,[]⟩ (bt.zip (us++ds))
def Binds.all{K:W.Frag}{fd:FuncData}{bt:List Str}(h:∀us:List Value,us.length=bt.length->bindArgs fd ⟨us,[]⟩=pure (bt.zip us)):Binds K fd bt []:=λs us _ aw=>by
 rw[VD]at aw ⊢;exact .of_eq (h us aw)
noncomputable def Passes(CX:je)(X:aV)(E:iJ):Prop:=∀(pins:List (Addr×Obj))(σ:St)(H:ax)(s:Shared)(e:Value)(s':Shared),Inv X pins σ H s->CX X.stack H s E e s'->X.cR e s'
section
variable{X:aV}{CX:je}{k:Nat}{f bU:Addr}{fd:FuncData}{bt:List Str}{sp:lN}{dvs:List V}{ds:List Value}{E:iJ}{x m:Str}{p pos apos:Pos}{e o:Expr}{ab:List Expr}{cf:TE}{t:fk}
def PT{pins:List (Addr×Obj)}{σ:St}{H:ax}{s:Shared}{Q:c4}{us:List Value}{ag:List V}(F:jZ X.prog X.w X.K X.aF X.base CX k f fd bt sp)(aZ:fy k X.A)(af:Binds X.K fd bt ds)(hd:Vals dvs ds)(ah:Passes CX X E)(I:Inv X pins σ H s)(r:Vals ag us)(h:sp (ag++dvs) H Q E):wpAny (model X.prog X.w) X.A (call (.ref f) us) (ei X pins σ Q) X.cR s:=by
 have a5:Vals (ag++dvs) (us++ds):=r.append hd;have aw:(us++ds).length=bt.length:=by rw[<- a5.length];exact F.len _ _ _ _ h
 refine wpAny_call (Xy (F.run X.A X.stack s H ⟨us,[]⟩ (us++ds) (ag++dvs) Q E aZ I.IB (af s us I.fU aw) a5 h) λr s' aE=>?_)
 cases r with
 |error e=>exact ah pins σ H s e s' I aE
 |ok hk =>
  cases hk with
  |ret u=>exact I.after aE
  |next=>exact False.elim aE
  |brk=>exact False.elim aE
  |cont=>exact False.elim aE
def Oo(F:jZ X.prog X.w X.K X.aF X.base CX k f fd bt sp)(aZ:fy k X.A)(ba:dH X x)(hm:X.aF x=some (.ref f))(aq:W.keepIn X.K (.ref f)=true)(af:Binds X.K fd bt ds)(hd:Vals dvs ds)(ah:Passes CX X E)(az:fi X (e::ab) t)(gu:(x==("__debug__":Str))=false:=by decide)(he:starEach (e::ab) X.env=(false,eval e X.env)::starEach ab X.env:=by rfl)(d1:(backTo pos (starEach ab X.env)).any (·.1)=false:=by rfl):
  aR X (.Call (.Name x p) (e::ab) [] pos) (RF sp dvs E t):=by
 intro pins s σ H Q I h;refine Vt (Co I ba hm ?_ gu);refine PySem.W.callWith_K (h₀:=X.base) I.ok.mod.xC aq (bI (az pos pins s σ H _ I h) λus s1 ⟨ag,H1,a7,r,q⟩=>⟨a7.fU,?_⟩) he d1
 exact PT F aZ af hd ah a7 r q
structure d9(K:W.Frag)(bU f:Addr):Prop where
 makes:PySem.W.makesIn K bU=true
 init:PySem.W.findIn K (.ref bU) "__init__"=some (some (.ref f))
 fn:PySem.W.isFn K (.ref f)=true
 iZ:W.keepIn K (.ref bU)=true
end
section
variable{X:aV}{CX:je}{k:Nat}{f bU:Addr}{fd:FuncData}{bt ks:List Str}{sp:lN}{E:iJ}{x m:Str}{p pos apos Ud:Pos}{e o:Expr}{ab:List Expr}{Ug:List Keyword}{ey cf:TE}{t tk:fk}{nm:Option Str}
structure Tu(K:W.Frag)(fd:FuncData)(bt ks:List Str)(g:List Value->List Value->List Value)(AU:List V->List V->List V):Prop where
 to:∀(s:Shared)(us ws:List Value),K.In s.heap->(g us ws).length=bt.length->BindsTo s fd ⟨us,ks.zip ws⟩ (bt.zip (g us ws))
 rel:∀{ag:List V}{us:List Value}{zs:List V}{ws:List Value},Vals ag us->Vals zs ws->Vals (AU ag zs) (g us ws)
variable{g:List Value->List Value->List Value}{AU:List V->List V->List V}
end
structure uF(N P:List Str)(sc:Scope):Prop where
 kind:sc.kind=.function
 co:sc.isCoroutine=false
 gen:sc.isGenerator=false
 dU:N.Nodup
 pre:N.take P.length=P
 par:∀x∈P,sc.names.lookup x=some .local\/sc.names.lookup x=some .cell
 NM:∀y∈sc.names,y.2≠.free
theorem zv{kindOf:Str->Option NameKind}{x:Str}:∀{binds:List (Str×Value)}{m:Str->Option Value},(∀v,(x,v)∉binds)->bindL kindOf binds m x=m x
 |[],_,_=>rfl
 |(n,v)::r,m,h=>by
  unfold bindL;rw[zv λw hw=>h w (List.mem_cons_of_mem _ hw)]
  split
  .have:x≠n:=by rintro rfl;exact h v List.mem_cons_self
   simp[this]
  .rfl
theorem zt{kindOf:Str->Option NameKind}{x:Str}:∀{binds:List (Str×Value)}{m:Str->Option Value},(∀v,(x,v)∉binds)->bindC kindOf binds m x=m x
 |[],_,_=>rfl
 |(n,v)::r,m,h=>by
  unfold bindC;rw[zt λw hw=>h w (List.mem_cons_of_mem _ hw)]
  split
  .rfl
  .have:x≠n:=by rintro rfl;exact h v List.mem_cons_self
   simp[this]
theorem zu{kindOf:Str->Option NameKind}{x:Str}{v:Value}:∀{P:List Str}{ag:List Value}{i:Nat}{m:Str->Option Value},P.Nodup->P[i]?=some x->ag[i]?=some v->kindOf x=some .local ->
  bindL kindOf (P.zip ag) m x=some v
 |[],_,_,_,_,h,_,_=>by simp at h
 |_::_,[],_,_,_,_,h,_=>by simp at h
 |p::P,w::ag,0,m,dU,J,aa,aq=>by
  simp at J aa;subst J;subst aa;show bindL kindOf ((p,w)::P.zip ag) m p=_;unfold bindL;rw[zv λv aQ=>(Ve.mp dU).1 (List.of_mem_zip aQ).1,if_pos aq]
  simp
 |p::P,w::ag,i+1,m,dU,J,aa,aq=>by
  show bindL kindOf ((p,w)::P.zip ag) m x=_;unfold bindL;exact zu (i:=i) (Ve.mp dU).2 (by simpa using J) (by simpa using aa) aq
theorem zr{kindOf:Str->Option NameKind}{x:Str}{v:Value}:∀{P:List Str}{ag:List Value}{i:Nat}{m:Str->Option Value},P.Nodup->P[i]?=some x->ag[i]?=some v->kindOf x≠some .local ->
  bindC kindOf (P.zip ag) m x=some v
 |[],_,_,_,_,h,_,_=>by simp at h
 |_::_,[],_,_,_,_,h,_=>by simp at h
 |p::P,w::ag,0,m,dU,J,aa,aq=>by
  simp at J aa;subst J;subst aa;show bindC kindOf ((p,w)::P.zip ag) m p=_;unfold bindC;rw[zt λv aQ=>(Ve.mp dU).1 (List.of_mem_zip aQ).1,if_neg aq]
  simp
 |p::P,w::ag,i+1,m,dU,J,aa,aq=>by
  show bindC kindOf ((p,w)::P.zip ag) m x=_;unfold bindC;exact zr (i:=i) (Ve.mp dU).2 (by simpa using J) (by simpa using aa) aq
noncomputable def start(N:List Str)(ag:List V):St:=ag.map some++List.replicate (N.length-ag.length) none
noncomputable def mY(CX:je)(P:Program)(w:World)(K:W.Frag)(aF:Str->Option Value)(base:Heap)(N:List Str)(qual:Str)(scope:Scope)(f:Addr)(cd:Value)(A:Around)(outer:List Env)(s:Shared)(H:ax)(E:iJ):aV where
 prog:=P
 w:=w
 K:=K
 aF:=aF
 base:=base
 A:=A.deeper (envOfC qual scope s.heap.objs.size f cd)
 N:=N
 eK:=s
 pQ:=H
 env:=envOfC qual scope s.heap.objs.size f cd
 outer:=outer
 stack:=envOfC qual scope s.heap.objs.size f cd::outer
 ex:=[]
 calm:=true
 fn:=λ_=>true
 e0:=[]
 cR:=λe s'=>wpAny (model P w) (A.deeper (envOfC qual scope s.heap.objs.size f cd)) (leaving (envOfC qual scope s.heap.objs.size f cd) e) (λ_ rl=>CX outer H s E e rl) (λbf rl=>CX outer H s E bf rl) s'
def zC{sc:Scope}{n:Nat}{x:Str}(h:sc.names.lookup x=some .cell):∃c,(cellsFrom n sc.names []).lookup x=some c:=by
 have q:=Ya sc.names n [] (.inl h);exact Option.isSome_iff_exists.mp q
def L9{CX:je}{P:Program}{w:World}{K:W.Frag}{aF:Str->Option Value}{base:Heap}{N bt:List Str}{qual:Str}{scope:Scope}{f:Addr}{cd:Value}{A:Around}{outer:List Env}{s s1:Shared}{H:ax}{E:iJ}{us:List Value}{ag:List V}(S:uF N bt scope)(hd:A.handled=none)(dq:rI P w K aF base A outer s H)(aw:ag.length=bt.length)(r:Vals ag us)(x:InCallC s s.heap.objs.size (bindL (envOfC qual scope s.heap.objs.size f cd).kindOf (bt.zip us) λ_=>none) (cellsFrom (s.heap.objs.size+1) scope.names []) (bindC (envOfC qual scope s.heap.objs.size f cd).kindOf (bt.zip us) λ_=>none) s1):
  Inv (mY CX P w K aF base N qual scope f cd A outer s H E) [] (start N ag) H s1:=by
 have d1:bt.length<=N.length:=by have:=Wm List.length S.pre;rw[Vl]at this;omega
 obtain⟨J,tk,rfl,aq⟩:=x.done;have q4:∀b:Addr,b∉(mY CX P w K aF base N qual scope f cd A outer s H E).ex:=λb z=>absurd (show b∈([]:List Addr) from z) (by simp)
 refine⟨⟨dq.mod,S.kind,rfl,rfl,UE _,λy z c J aa=>?_,λy aA=>?_,λy c _ h=>?_,λ_=>hd,Around.frames_deeper dq.frames,.inr ⟨rfl,rfl⟩,λb z=>absurd z (q4 b),dq.bs,dq.p6,λb _ _=>q4 b,λb z=>absurd z (q4 b),dq.k3,dq.sk⟩,
  rfl,dq.bare,eO.kept aq,⟨_,x.toInCall.ns,λi y v J aa aL=>?_⟩,λy c h=>⟨_,x.cell y c h⟩,dq.bP.fresh (UE _),λy c h=>?_,λp aC=>absurd (show p∈([]:List (Addr×Obj)) from aC) (by simp),dq.bP.kept aq,?_⟩
 .exact name_of_addr x.apart (Vq J) (Vq aa)
 .have aA:scope.names.lookup y=some .cell\/scope.names.lookup y=some .free:=aA;rcases aA with aA|aA
  .exact zC aA
  .exact absurd rfl (S.NM _ (Vq aA))
 .exact WD (x.above y c (Vq h))
 .have hi:i<ag.length:=by
   unfold start at aa
   by_cases hi:i<ag.length
   .exact hi
   .rw[Vp (by simpa using hi)]at aa
    rw[W7]at aa
    split at aa<;>cases aa
  have az:ag[i]?=some v:=by
   unfold start at aa;rw[UW (by simpa using hi),U1]at aa
   cases e:ag[i]? with
   |none=>rw[e]at aa;cases aa
   |some a=>rw[e]at aa;cases aa;rfl
  obtain⟨u,bQ,bG⟩:=r.get az;have aC:bt[i]?=some y:=by
   rw[<- S.pre,List.getElem?_take_of_lt (by omega)];exact J
  have CM:bt.Nodup:=by rw[<- S.pre];exact S.dU.sublist (List.take_sublist _ _)
  refine⟨u,bG,?_⟩;rcases S.par y (VB aC) with k|k
  .exact .inl ⟨k,zu CM aC bQ k⟩
  .obtain⟨c,e⟩:=zC (n:=s.heap.objs.size+1) k;refine .inr ⟨.inl k,c,e,?_⟩;have q:=x.cell y c e;rw[zr CM aC bQ (by show scope.names.lookup y≠_;rw[k];decide)]at q
   exact q
 .exact dq.bP.fresh (WD (x.above y c (Vq h)))
 .unfold start;show _=N.length;rw[UM,List.length_map,WL];omega
def JM{CX:je}{P:Program}{w:World}{K:W.Frag}{aF:Str->Option Value}{base:Heap}{k:Nat}{f:Addr}{name qual:Str}{params:Arguments}{body:List Stmt}{scope:Scope}{rZ de doc pm dF ct eH:Value}{an cn:Option Addr}{eJ:Array (Option Value)}{N bt:List Str}{sp:lN}(lk:K.lookup f=some ⟨eH,cn,.func (W.fnOf name qual params body scope rZ de doc pm an dF ct),eJ⟩)(jB:W.codeIn K dF qual=true)(S:uF N bt scope)(len:∀ag H Q E,sp ag H Q E->ag.length=bt.length)(Kt:∀(A:Around)(outer:List Env)(s:Shared)(H:ax)(ag:List V)(Q:c4)(E:iJ),fy k (A.deeper (envOfC qual scope s.heap.objs.size f dF))->sp ag H Q E ->
   ∃t,gJ (mY CX P w K aF base N qual scope f dF A outer s H E) body t/\t { cV:=λ_ ao=>Q .cU ao,ec:=Q } (start N ag) H):
  jZ P w K aF base CX (k+1) f (W.fnOf name qual params body scope rZ de doc pm an dF ct) bt sp:=by
 refine⟨len,λA outer s H args us ag Q E aZ dq af r oN=>?_⟩
 have aw:=len _ _ _ _ oN;have iD:K.In s.heap:=dq.mod.xC.keeps λb o e=>(dq.bs b o e).1
 have lim:s.heap.NoLimit:=dq.mod.nolimit.keeps λb o e=>(dq.bs b o e).1
 have K7:∀y∈bt.zip us,scope.names.lookup y.1=some .local\/(scope.names.lookup y.1=some .cell/\((cellsFrom (s.heap.objs.size+1) scope.names []).lookup y.1).isSome=true):=λ⟨n,v⟩ aA=>by
  rcases S.par n (List.of_mem_zip aA).1 with q|q
  .exact .inl q
  .exact .inr ⟨q,Ya _ _ _ (.inl q)⟩
 refine codeAny_call_function aZ.depth (iD _ _ lk) rfl S.co S.gen rfl (PySem.W.codeRec_of iD jB) (af _ _ _ _ ?_);refine wpAny_newFunctionEnv_cells S.kind K7 λenv he s1 x=>?_
 subst he;refine⟨lim.keeps x.toInCall.keep,codeAny_func ?_⟩;obtain⟨t,aS,aE⟩:=Kt A outer s H ag Q E (aZ.deeper _) oN;have I:Inv (mY CX P w K aF base N qual scope f dF A outer s H E) [] (start N ag) H s1:=L9 S aZ.hd dq aw r x;refine VK (aS [] s1 (start N ag) H _ I aE) (λhk s' ae=>?_) λe s' ae=>ae
 have fin:∀{dy:St}{ao:ax}{v:V}{u:Value},Inv (mY CX P w K aF base N qual scope f dF A outer s H E) [] dy ao s'->RelV v u->Q v ao->uC outer P w H s Q u s' :=
  λ{dy ao v u} cc bG q=>⟨v,ao,cc.os,cc.bare,cc.base,cc.bP,bG,q⟩
 cases hk with
 |ret u =>
  obtain⟨v,dy,ao,cc,bG,q⟩:=ae;exact fin cc bG q
 |next =>
  obtain⟨dy,ao,cc,q⟩:=ae;exact fin (v:=V.cU) (u:=Value.none) cc rfl q
 |brk =>
  obtain⟨_,_,_,q⟩:=ae;exact False.elim q
 |cont =>
  obtain⟨_,_,_,q⟩:=ae;exact False.elim q
end bE
namespace bE
open PySem PySem.Spec PyProof.Rows
section
variable{X:aV}{x:Str}{p pos:Pos}{e:Expr}{ab:List Expr}{t:fk}{id T:String}{r:List V->ax->c4->Prop}
noncomputable def EO(r:List V->ax->c4->Prop)(t:fk):TE:=λσ H Q=>t σ H λag H1=>r ag H1 Q
def xW(ai:g6 X (.builtin id) r)(ba:dH X x)(hm:X.aF x=none)(aQ:bootBuiltins x=some (.builtin id))(az:fi X (e::ab) t)(aD:x≠"__name__":=by decide)(gu:(x==("__debug__":Str))=false:=by decide)(he:starEach (e::ab) X.env=(false,eval e X.env)::starEach ab X.env:=by rfl)(d1:(backTo pos (starEach ab X.env)).any (·.1)=false:=by rfl):aR X (.Call (.Name x p) (e::ab) [] pos) (EO r t):=by
 intro pins s σ H Q I h;refine Vt (hs I ba hm aQ ?_ aD gu);exact V6 (bI (az pos pins s σ H _ I h) λus s1 ⟨ag,H1,a7,aI,aK⟩=>ai pins s1 σ H1 ag us Q a7 aI aK) he d1
def Oq(ai:g6 X (.type T) r)(ba:dH X x)(hm:X.aF x=none)(aQ:bootBuiltins x=some (.type T))(az:fi X (e::ab) t)(aD:x≠"__name__":=by decide)(gu:(x==("__debug__":Str))=false:=by decide)(he:starEach (e::ab) X.env=(false,eval e X.env)::starEach ab X.env:=by rfl)(d1:(backTo pos (starEach ab X.env)).any (·.1)=false:=by rfl):aR X (.Call (.Name x p) (e::ab) [] pos) (EO r t):=by
 intro pins s σ H Q I h;refine Vt (hs I ba hm aQ ?_ aD gu);exact U8 (bI (az pos pins s σ H _ I h) λus s1 ⟨ag,H1,a7,aI,aK⟩=>ai pins s1 σ H1 ag us Q a7 aI aK) he d1
end
end bE
namespace c6
open PySem PyProof.Rows
noncomputable def lexLt:List Int->List Int->Bool
 |[],[]=>false
 |[],_::_=>true
 |_::_,[]=>false
 |x::xs,y::ys=>if x=y then lexLt xs ys else decide (x<y)
def M1(x y:Int)(xs ys:List Int):lexLt (x::xs) (y::ys)=if x=y then lexLt xs ys else decide (x<y):=rfl
def M5:lexLt [] []=false:=rfl
def M4(y:Int)(ys:List Int):lexLt [] (y::ys)=true:=rfl
def M3(x:Int)(xs:List Int):lexLt (x::xs) []=false:=rfl
def ID(A:Around)(s:Shared)(a:Int)(t:Tok)(c:Int)(u:Tok):∃e,SeqAt.EqAt A s (.int a t) (.int c u) e/\(e=true<->a=c) :=
 ⟨(a==c),SeqAt.EqAt.int_int a t c u,by simp⟩
def PD(A:Around)(s:Shared)(a:Int)(t:Tok)(c:Int)(u:Tok)(prog:Program)(w:World)(E:Value->Shared->Prop)(Q:Value->Shared->Prop)(h:Q (.bool (decide (a<c))) s):
  wpAny (model prog w) A (richCompare .Lt (.int a t) (.int c u)) Q E s :=
 (PyProof.Rows.lt_int h:wpAny (model prog w) A (compareOp .Lt (.int a t) (.int c u)) Q E s)
section
open PySem.SeqAt
open PySem.AutoSeq1 (wpAny_loadPart')
open PySem.MeetsSeq PySem.MeetsSeq2 PySem.MeetsSeq3
def Sr (l b : Addr) (items kl : Array Value) (n i2 : Nat) (cD j7 : Option Addr) (b1 kB : Array (Option Value)) (ns ms : List Int) (hi : IntsAre items.toList ns) (aH : IntsAre kl.toList ms) :
    Meets (Builtin.«tuple.__lt__» ⟨[.ref l, .ref b], []⟩)
      (fun _ R s => s.heap.get? l = some { cls := .type "tuple", dict := cD, data := .seq items n, slots := b1 } /\ s.heap.get? b = some { cls := .type "tuple", dict := j7, data := .seq kl i2, slots := kB } /\
        R (.ok (.ret (.bool (lexLt ns ms)))) s) :=
  .of_wp fun prog w A R s h => by
    obtain ⟨aC, g, d, tk, os⟩ := s; obtain ⟨aw, af, h⟩ := h
    have f2 := AutoSeq1.sub_tuple_tuple
    have c3 : items.size = ns.length := by rw [<- hi.length]; simp
    have c1 : kl.size = ms.length := by rw [<- aH.length]; simp
    wp_walk using wpAny_loadPart' aw, wpAny_loadPart' af, Xj _ (fun rest b s' => b.1 = none /\ s' = ⟨aC, g, d, tk, os⟩ /\ ∃ (ag ws : List Value) (o8 o4 : List Int), rest = ag.zip ws /\
      IntsAre ag o8 /\ IntsAre ws o4 /\ o8.length + kl.size = o4.length + items.size /\ R (.ok (.ret (.bool (lexLt o8 o4)))) ⟨aC, g, d, tk, os⟩) _
    case turn =>
      rintro ⟨y, x⟩ rest b s' ⟨ke, rfl, ag, ws, o8, o4, au, xi, sV, hlen, hR⟩
      cases xi with
      | nil => rw [List.zip_nil_left] at au; cases au
      | cons a t LK =>
        cases sV with
        | nil => rw [List.zip_nil_right] at au; cases au
        | cons c u LL =>
          rw [List.zip_cons_cons] at au
          injection au with qK kj
          injection qK with aA ah
          subst aA ah
          rw [M1] at hR
          simp only [List.length_cons] at hlen
          obtain ⟨e, he, BA⟩ := ID A.in1 ⟨aC, g, d, tk, os⟩ a t c u
          refine UA (he prog w _ _ ?_)
          cases e with
          | true =>
            rw [if_pos (BA.mp rfl)] at hR
            wp_walk
            exact ⟨rfl, rfl, _, _, _, _, kj, LK, LL, by omega, hR⟩
          | false =>
            rw [if_neg (fun q => absurd (BA.mpr q) Vo)] at hR
            have nr := PD A.in1 ⟨aC, g, d, tk, os⟩ a t c u prog w
            wp_walk using nr
            exact ⟨_, rfl, by simpa using hR⟩
    case fin =>
      rintro ⟨cY, er⟩ s' ⟨ke, rfl, ag, ws, o8, o4, au, xi, sV, hlen, hR⟩
      simp only at ke
      subst ke
      have aQ : lexLt o8 o4 = decide (items.size < kl.size) := by
        cases xi with
        | nil =>
          cases sV with
          | nil =>
            simp only [List.length_nil] at hlen
            rw [M5]
            exact (decide_eq_false (by omega)).symm
          | cons c u hw =>
            simp only [List.length_nil, List.length_cons] at hlen
            rw [M4]
            exact (decide_eq_true (by omega)).symm
        | cons a t aQ =>
          cases sV with
          | nil =>
            simp only [List.length_nil, List.length_cons] at hlen
            rw [M3]
            exact (decide_eq_false (by omega)).symm
          | cons c u hw =>
            rw [List.zip_cons_cons] at au
            cases au
      rw [aQ] at hR
      wp_walk
      exact ⟨_, rfl, by simpa [Builtin.Tuple.tupleCompareSizes] using hR⟩
    case h =>
      exact ⟨rfl, rfl, items.toList, kl.toList, ns, ms, rfl, hi, aH, by omega, h⟩
end
section
variable{prog:Program}{w:World}{A:Around}{E:Value->Shared->Prop}{s:Shared}
def Nd{l b:Addr}{items kl:Array Value}{ns ms:List Int}{Q:Value->Shared->Prop}(aw:IsTup s.heap l items)(af:IsTup s.heap b kl)(hi:IntsAre items.toList ns)(aH:IntsAre kl.toList ms)(bQ:A.units<cLine)(h:Q (.bool (lexLt ns ms)) s):wpAny (model prog w) A (compareOp .Lt (.ref l) (.ref b)) Q E s:=by
 obtain⟨⟨cls,cD,data,b1⟩,ar,ai,n,hd⟩:=id aw;obtain⟨⟨vD,j7,data2,kB⟩,iQ,ho,i2,hd2⟩:=id af;simp only at ai hd ho hd2;subst ai hd ho hd2;exact richCompare_meets_room (op:=.Lt) ⟨_,ar,rfl⟩ ⟨_,iQ,rfl⟩ PySem.F.slot_tuple_lt PySem.F.entry_tuple_lt (PySem.F.args_tuple_lt_2 _ _) (Sr l b items kl n i2 cD j7 b1 kB ns ms hi aH)
  ⟨ar,iQ,show Value.bool (lexLt ns ms)≠Value.notImplemented/\Q (.bool (lexLt ns ms)) s from⟨(λx=>nomatch x),h⟩⟩ bQ
def G6{t b:Addr}{ag ws:List Value}{Q:Value->Shared->Prop}(aS:IsTup s.heap t ag.toArray)(af:IsTup s.heap b ws.toArray)(aQ:ag≠[])(J:ws=[]->Q (.ref t) s)(aa:ws≠[]->Q (.ref s.heap.objs.size) { s with heap:=s.heap.push { cls:=.type "tuple",data:=.seq (ag++ws).toArray } })(hsz:ag.length+ws.length<=sizeLine):wpAny (model prog w) A (binaryOp .Add (.ref t) (.ref b)) Q E s:=by
 obtain⟨⟨cls,cD,data,b1⟩,ar,ai,n,hd⟩:=id aS;obtain⟨⟨vD,j7,data2,kB⟩,iQ,ho,i2,hd2⟩:=id af;simp only at ai hd ho hd2;subst ai hd ho hd2;have e:ag.toArray++ws.toArray=(ag++ws).toArray:=by simp
 by_cases hw:ws=[]
 .exact Yb ⟨_,ar,rfl⟩ ⟨_,iQ,rfl⟩ X0 Ym W9 W8 (W2 _ _)
   (tuple_addW1 t b ag.toArray ws.toArray n i2 cD j7 b1 kB (by simpa using aQ) (by simp[hw])) ⟨ar,iQ,J hw⟩
 .refine Yb ⟨_,ar,rfl⟩ ⟨_,iQ,rfl⟩ X0 Ym W9 W8 (W2 _ _)
   (tuple_addW2 t b ag.toArray ws.toArray n i2 cD j7 b1 kB (by simpa using aQ) (by simpa using hw) (by rw[UT,UT];exact hsz)) ⟨ar,iQ,?_⟩
  rw[e];exact aa hw
noncomputable def bH(n d:Nat):Option Int->Nat
 |none=>d
 |some v=>if v<0 then(v+(n:Int)).toNat else min v.toNat n
def tR(n d:Nat)(hd:d<=n)(o:Option Int):bH n d o<=n:=by
 cases o with
 |none=>exact hd
 |some v =>
  show(if v<0 then(v+(n:Int)).toNat else min v.toNat n)<=n
  by_cases aQ:v<0
  .rw[if_pos aQ];omega
  .rw[if_neg aQ];exact Nat.min_le_right _ _
def zM(v:Int)(n d:Nat):(if v<0 then max (v+(n:Int)) 0 else min v (n:Int))=((bH n d (some v):Nat):Int):=by
 show(if v<0 then max (v+(n:Int)) 0 else min v (n:Int))=(((if v<0 then(v+(n:Int)).toNat else min v.toNat n):Nat):Int)
 by_cases aQ:v<0
 .simp only[if_pos aQ];omega
 .simp only[if_neg aQ];omega
def FX(lo hi:Option Int)(n:Nat):Builtin.Slice.sliceAdjust lo hi 1 (n:Int)=(((bH n 0 lo:Nat):Int),((bH n n hi:Nat):Int)):=by
 have J:¬((1:Int)<0):=by omega
 unfold Builtin.Slice.sliceAdjust;simp only[J,UX];refine Prod.ext ?_ ?_
 .cases lo with
  |none=>rfl
  |some v=>exact zM v n 0
 .cases hi with
  |none=>rfl
  |some v=>exact zM v n n
def OU(i j:Nat):Builtin.Slice.slicePlaces (i:Int) (j:Int) 1=j-i:=by
 unfold Builtin.Slice.slicePlaces;have J:(1:Int)>0:=by omega
 simp only[J,Vn,Int.ediv_one]
 split<;>omega
def En{v:Value}{o:Option Int}{Q:Option Int->Shared->Prop}(p:IsPart v o)(h:Q o s):wpAny (model prog w) A (Builtin.Slice.slicePartIndex v) Q E s:=by
 cases p with
 |none=>exact slicePart_none h
 |int i t=>exact slicePart_int h
def Em{b1:Addr}{e1 e2:Value}{lo hi:Option Int}{n:Nat}{Q:Int×Int×Nat->Shared->Prop}(ae:s.heap.IsSliceOf b1 e1 e2 .none)(cu:IsPart e1 lo)(pu:IsPart e2 hi)(h:Q (((bH n 0 lo:Nat):Int),1,bH n n hi-bH n 0 lo) s):wpAny (model prog w) A (Builtin.Slice.sliceApplied (.ref b1) (pure (n:Int))) Q E s:=by
 obtain⟨os,nj,hp,kg⟩:=id ae;unfold Builtin.Slice.sliceApplied Builtin.Slice.sliceFields;refine UA (UA (wpAny_field nj kg (x:=e1) rfl (UA (wpAny_field nj kg (x:=e2) rfl (UA (wpAny_field nj kg (x:=.none) rfl (wpAny_pure ?_)))))));refine UA (slicePart_none ?_);show wpAny _ _ (if ((1:Int)==0)=true then _ else _) _ _ s;rw[if_neg (by decide)]
 refine UA (En cu (UA (En pu (UA (wpAny_pure ?_)))));show wpAny _ _ (match Builtin.Slice.sliceAdjust lo hi 1 (n:Int) with|(lo,hi)=>pure (lo,(1:Int),Builtin.Slice.slicePlaces lo hi 1)) _ _ s
 rw[FX lo hi n];show wpAny _ _ (pure (((bH n 0 lo:Nat):Int),(1:Int),Builtin.Slice.slicePlaces ((bH n 0 lo:Nat):Int) ((bH n n hi:Nat):Int) 1)) _ _ s;rw[OU];exact wpAny_pure h
def OR(xs:Array Value)(i k:Nat):((List.range k).filterMap λ(m:Nat)=>xs[((i:Int)+(m:Int)*1).toNat]?).toArray=((xs.toList.drop i).take k).toArray:=by
 have e:(λ(m:Nat)=>xs[((i:Int)+(m:Int)*1).toNat]?)=λm=>xs[i+m]?:=by
  funext m;have:((i:Int)+(m:Int)*1).toNat=i+m:=by omega
  rw[this]
 rw[e];have:=pick_run xs i k;rw[List.filterMap_map]at this;have av:((λx=>xs[x]?) ∘ λx=>i+x)=λm=>xs[i+m]?:=rfl
 rw[av]at this;rw[this]
def J8{t b1:Addr}{items:Array Value}{e1 e2:Value}{lo hi:Option Int}{Q:Value->Shared->Prop}(aS:IsTup s.heap t items)(ae:s.heap.IsSliceOf b1 e1 e2 .none)(cu:IsPart e1 lo)(pu:IsPart e2 hi)(hw:¬(bH items.size 0 lo=0/\bH items.size items.size hi=items.size))(h:Q (.ref s.heap.objs.size) { s with heap:=s.heap.push { cls:=.type "tuple",data:=.seq ((items.toList.drop (bH items.size 0 lo)).take (bH items.size items.size hi-bH items.size 0 lo)).toArray } })(hsz:items.size<=sizeLine):wpAny (model prog w) A (getItem (.ref t) (.ref b1)) Q E s:=by
 have sU:sizeOk (.seq ((items.toList.drop (bH items.size 0 lo)).take (bH items.size items.size hi-bH items.size 0 lo)).toArray):=by
  show((items.toList.drop (bH items.size 0 lo)).take (bH items.size items.size hi-bH items.size 0 lo)).toArray.size<=sizeLine;rw[UT,Vl,Vz,Array.length_toList];omega
 have aH:bH items.size items.size hi<=items.size:=tR _ _ (UE _) hi;obtain⟨os,nj,hp,kg⟩:=id ae;have wL:s.TypeIs (.ref b1) "slice":=⟨os,nj,hp⟩;unfold getItem
 try with_reducible refine Vu ?_
 first|refine UA (wpAny_pure ?_)|skip
 refine UA (wpAny_sequenceKey aS.typeIs (by decide) ?_)
 refine UA (VY (name:=Str.ofString "__getitem__") aS.typeIs Vv
  (VG Vv aS.typeIs entry_tuple_getitem ?_ (args_tuple_getitem _ _)))
 show wpAny _ _ (Builtin.Tuple.tupleItemsOf (.ref t)>>=_) _ _ s;refine UA (tupleItemsOf_ aS ?_);refine UA (Wr wL ?_);rw[if_pos (by decide)]
 refine UA (Em ae cu pu ?_);have ki:¬((((bH items.size 0 lo:Nat):Int)==0&&(1:Int)==1&&(bH items.size items.size hi-bH items.size 0 lo)==items.size)=true):=by
  intro q;rw[UB,UB]at q;have aK:((bH items.size 0 lo:Nat):Int)=0:=eq_of_beq q.1.1;have a6:bH items.size items.size hi-bH items.size 0 lo=items.size:=eq_of_beq q.2;exact hw ⟨by omega,by omega⟩
 show wpAny _ _ (if (((bH items.size 0 lo:Nat):Int)==0&&(1:Int)==1&&(bH items.size items.size hi-bH items.size 0 lo)==items.size)=true then _ else _) _ _ s;rw[if_neg ki,OR]
 first
  |exact UA (m:=Builtin.Tuple.tupleExact _) (Vc (wpAny_pure ⟨_,rfl,wpAny_pure h⟩) sU)
  |exact UA (m:=Builtin.Tuple.tupleExact _) (Vc (UA (wpAny_pure (wpAny_pure ⟨_,rfl,wpAny_pure h⟩))) sU)
  |exact UA (UA (m:=Builtin.Tuple.tupleExact _) (Vc (wpAny_pure (wpAny_pure ⟨_,rfl,wpAny_pure h⟩)) sU))
  |exact UA (UA (m:=Builtin.Tuple.tupleExact _) (Vc (wpAny_pure ⟨_,rfl,wpAny_pure h⟩) sU))
end
end c6
namespace bE
open PySem PySem.Spec PyProof.Rows
noncomputable abbrev kS:=St->ax->(Option Int->ax->Prop)->Prop
noncomputable def j1(X:aV)(e:Option Expr)(t:kS):Prop :=
 ∀(pins:List (Addr×Obj))(s:Shared)(σ:St)(H:ax)(Q:Option Int->ax->Prop),Inv X pins σ H s->t σ H Q ->
  wpAny (model X.prog X.w) X.A (evalPart e X.env) (λu s'=>∃o ao,Inv X pins σ ao s'/\IsPart u o/\Q o ao) X.cR s
noncomputable def RQ:kS:=λ_ H Q=>Q none H
noncomputable def RV(t:TE):kS:=λσ H Q=>t σ H λx H1=>∃i,x=.int i/\Q (some i) H1
def intsAre_of{ns:List Int}:∀{us:List Value},Vals (ns.map V.int) us->IntsAre us ns:=by
 induction ns with
 |nil=>intro us r;rw[Xz]at r;cases r;exact .nil
 |cons n ns aO =>
  intro us r;rw[List.map_cons]at r;cases r with
  |cons aI a5 =>
   obtain⟨t,e⟩:=aI;subst e;exact .cons n t (aO a5)
section
variable{X:aV}{e:Expr}{ey:TE}{lo hi:Option Expr}{hz t9:kS}{pos bC:Pos}
def OW:j1 X none RQ:=by
 intro pins s σ H Q I h;rw[evalPart_none];exact wpAny_pure ⟨none,H,I,.none,h⟩
def OX(h:aR X e ey):j1 X (some e) (RV ey):=by
 intro pins s σ H Q I hw;rw[evalPart_some];refine bI (h pins s σ H _ I hw) λu s1 ⟨x,H1,a7,aI,aK⟩=>?_
 obtain⟨i,rfl,q⟩:=aK;obtain⟨t,rfl⟩:=aI;exact⟨some i,H1,a7,.int i t,q⟩
noncomputable def pW(X:aV)(r:V->Option Int->Option Int->ax->c4->Prop):Prop :=
 ∀(pins:List (Addr×Obj))(s:Shared)(σ:St)(H:ax)(x:V)(v e1 e2:Value)(lo hi:Option Int)(b1:Addr)(Q:c4),Inv X pins σ H s->RelV x v->s.heap.IsSliceOf b1 e1 e2 .none->IsPart e1 lo->IsPart e2 hi->r x lo hi H Q ->
  ∃T id,typeLookup (.type T) "__getitem__"=pure (some (.builtin id))/\s.TypeIs v T/\wpAny (model X.prog X.w) X.A (getItem v (.ref b1)) (ei X pins σ Q) X.cR s
noncomputable def RX(r:V->Option Int->Option Int->ax->c4->Prop)(ey:TE)(hz t9:kS):TE:=λσ H Q=>ey σ H λx H1=>hz σ H1 λl aW=>t9 σ aW λu b2=>r x l u b2 Q
def OE{r:V->Option Int->Option Int->ax->c4->Prop}(aZ:pW X r)(he:aR X e ey)(aw:j1 X lo hz)(bQ:j1 X hi t9):aR X (.Subscript e (.Slice lo hi none bC) pos) (RX r ey hz t9):=by
 intro pins s σ H Q I h;refine Subscript_ (bI (he pins s σ H _ I h) λv s1 ⟨x,H1,a7,aI,aK⟩=>?_)
 refine wpAny_Slice (bI (aw pins s1 σ H1 _ a7 aK) λe1 s2 ⟨l,aW,cx,cu,a6⟩=>bI (bQ pins s2 σ aW _ cx a6) λe2 s3 ⟨u,b2,eo,pu,bT⟩=>?_)
 rw[evalPart_none];refine wpAny_pure ?_;have eL:Inv X pins σ b2 { s3 with heap:=s3.heap.push { cls:=.type "slice",data:=.fields #[e1,e2,.none] } }:=eo.kept (t':=s3.toks) λb bx q=>UD _ q
 obtain⟨T,id,cF,aS,ba⟩:=aZ pins { s3 with heap:=s3.heap.push { cls:=.type "slice",data:=.fields #[e1,e2,.none] } } σ b2 x v e1 e2 l u s3.heap.objs.size Q eL aI (Heap.IsSliceOf.new ..) cu pu bT;show wpAny (model X.prog X.w) X.A (subscriptTail e (.Slice lo hi none bC) v (.ref s3.heap.objs.size)) (ei X pins σ Q) X.cR { s3 with heap:=s3.heap.push { cls:=.type "slice",data:=.fields #[e1,e2,.none] } };exact tail_any (ops:=[.ref s3.heap.objs.size,v]) aS cF ba (by with_unfolding_all rfl)
noncomputable def kU(xs:List V)(lo hi:Option Int):List V:=(xs.drop (c6.bH xs.length 0 lo)).take (c6.bH xs.length xs.length hi-c6.bH xs.length 0 lo)
def zZ(xs:List V)(lo hi:Option Int):(kU xs lo hi).length<=xs.length:=by
 unfold kU;rw[Vl,Vz];omega
noncomputable def Pw(K:W.Frag):V->Option Int->Option Int->ax->c4->Prop:=λx lo hi H Q=>∃a xs,x=.ref a/\fj K H a xs /\
 ¬(c6.bH xs.length 0 lo=0/\c6.bH xs.length xs.length hi=xs.length)/\∀p,H p=none->Q (.ref p) (upd H p (.tup (kU xs lo hi)))
def Ra:pW X (Pw X.K):=by
 intro pins s σ H x v e1 e2 lo hi b1 Q I aY ae cu pu h;obtain⟨a,xs,rfl,ah,hw,q⟩:=h;cases aY;obtain⟨its,r,aS,au⟩:=I.tuple ah;have hlen:its.toArray.size=xs.length:=by rw[UT];exact r.length.symm
 refine⟨"tuple",_,Vv.lookup,aS.typeIs,?_⟩;refine c6.J8 aS ae cu pu (by rw[hlen];exact hw) ?_ (by rw[hlen];exact au)
 rw[hlen];refine⟨.ref s.heap.objs.size,_,I.laid (t':=s.toks) (o:=.tup (kU xs lo hi)) (λb bx q=>UD _ q) (UE _) ?_,rfl,q _ (I.bP.fresh (UE _))⟩
 exact⟨Vk (zZ xs lo hi) au,_,(r.drop (c6.bH xs.length 0 lo)).take (c6.bH xs.length xs.length hi-c6.bH xs.length 0 lo),IsTup.new _ _⟩
noncomputable def Pr(K:W.Frag):fx:=λx y H Q=>∃a b ns ms,x=.ref a/\y=.ref b/\fj K H a (ns.map V.int)/\fj K H b (ms.map V.int)/\Q (.aM (c6.lexLt ns ms)) H
def N5(bQ:X.A.units<cLine):c7 X (compareOp .Lt) (Pr X.K):=by
 intro pins s σ H x y v u Q I aY bz h;obtain⟨a,b,ns,ms,rfl,rfl,az,af,q⟩:=h;cases aY;cases bz;obtain⟨its,aI,bc,_⟩:=I.tuple az;obtain⟨nF,a5,bC,_⟩:=I.tuple af;have e8:IntsAre its.toArray.toList ns:=intsAre_of aI;have e9:IntsAre nF.toArray.toList ms:=intsAre_of a5;exact c6.Nd bc bC e8 e9 bQ ⟨.aM (c6.lexLt ns ms),H,I,rfl,q⟩
end
end bE
namespace bE
open PySem PySem.Spec PyProof.Rows
noncomputable def iX(n:Nat)(i:Int):Option Nat:=if 0<=i then(if i<n then some i.toNat else none) else if -(n:Int)<=i then some (i+n).toNat else none
noncomputable def lT{α:Type}(xs:List α)(i:Int):Option α:=(iX xs.length i).bind λj=>xs[j]?
def Mk{n:Nat}{i:Int}{j:Nat}(h:iX n i=some j):seqIndex? i n=some j/\j<n/\-(n:Int)<=i/\i<n:=by
 unfold iX at h
 by_cases h0:0<=i
 .rw[if_pos h0]at h
  by_cases J:i<n
  .rw[if_pos J]at h;have e:i.toNat=j:=Vs h;exact⟨by rw[seqIndex_of h0 J,e],by omega,by omega,J⟩
  .rw[if_neg J]at h;cases h
 .rw[if_neg h0]at h
  by_cases J:-(n:Int)<=i
  .rw[if_pos J]at h;have e:(i+n).toNat=j:=Vs h;exact⟨by rw[seqIndex_neg (by omega) J,e],by omega,J,by omega⟩
  .rw[if_neg J]at h;cases h
def u5{α:Type}{xs:List α}{i:Int}{v:α}(h:lT xs i=some v):∃j,seqIndex? i xs.length=some j/\xs[j]?=some v/\j<xs.length/\-(xs.length:Int)<=i/\i<xs.length:=by
 unfold lT at h;cases e:iX xs.length i with
 |none=>rw[e]at h;cases h
 |some j =>
  rw[e]at h;obtain⟨J,aa,aL,a8⟩:=Mk e;exact⟨j,J,h,aa,aL,a8⟩
noncomputable def uS(b:Expr):Prop:=∀o i,subscripted b false o i=operate [o,i] (getItem o i)
noncomputable def kM(X:aV)(r:fx):Prop :=
 ∀(value slice:Expr)(pins:List (Addr×Obj))(s:Shared)(σ:St)(H:ax)(x y:V)(v u:Value)(Q:c4),Inv X pins σ H s->RelV x v->RelV y u->r x y H Q ->
  subscripted slice false v u=operate [v,u] (getItem v u)->wpAny (model X.prog X.w) X.A (subscriptTail value slice v u) (ei X pins σ Q) X.cR s
noncomputable def FL(X:aV)(id:String)(r:V->List V->ax->c4->Prop):Prop :=
 ∀(pins:List (Addr×Obj))(s:Shared)(σ:St)(H:ax)(x:V)(xs:List V)(v:Value)(us:List Value)(Q:c4),Inv X pins σ H s->RelV x v->Vals xs us->r x xs H Q ->
  wpAny (model X.prog X.w) X.A (call (.builtin id) (v::us)) (ei X pins σ Q) X.cR s
section
variable{X:aV}{a b:Expr}{cf cH:TE}{pos:Pos}
def kM.or{r bL:fx}(h:kM X r)(h':kM X bL):kM X (λx y H Q=>r x y H Q\/bL x y H Q):=by
 intro value slice pins s σ H x y v u Q I aY bz q ae;rcases q with q|q
 .exact h value slice pins s σ H x y v u Q I aY bz q ae
 .exact h' value slice pins s σ H x y v u Q I aY bz q ae
def Oz{r:fx}(aZ:kM X r)(az:aR X a cf)(af:aR X b cH)(ae:uS b):aR X (.Subscript a b pos) (rq r cf cH):=by
 intro pins s σ H Q I h;exact Subscript_ (vs az af I h λv u s2 x y aW cx aY bz q=>aZ a b pins s2 σ aW x y v u Q cx aY bz q (ae _ _))
noncomputable def Dw(K:W.Frag):fx:=λx y H Q=>∃p xs i v,x=.ref p/\y=.int i/\dW K H p xs/\lT xs i=some v/\Q v H
noncomputable def Dy(K:W.Frag):fx:=λx y H Q=>∃p xs i v,x=.ref p/\y=.int i/\fj K H p xs/\lT xs i=some v/\Q v H
noncomputable def Dx:fx:=λx y H Q=>∃z i c,x=.str z/\y=.int i/\z.length<=sizeLine/\lT z.cps.toList i=some c/\Q (.str ⟨#[c]⟩) H
def Ml:kM X (Dw X.K):=by
 intro value slice pins s σ H x y v u Q I aY bz h ae;obtain⟨p,xs,i,z,rfl,rfl,aE,he,q⟩:=h;cases aY;obtain⟨t,rfl⟩:=bz;obtain⟨its,r,cu,au⟩:=I.list aE;obtain⟨j,J,aa,aL,a8,cP⟩:=u5 he;obtain⟨w,r9,hx⟩:=r.get aa;have aw:=r.length;have aD:=qT;have fin:ei X pins σ Q w s:=⟨z,H,I,hx,q⟩
 by_cases h0:0<=i
 .have aH:i.toNat=j:=by
   rw[seqIndex_of h0 cP]at J;exact Vs J
  exact item_listR cu.isList h0 (by omega) (by rw[aH];simpa using r9) fin ae
 .have aH:(i+(its.toArray.size:Int)).toNat=j:=by
   rw[seqIndex_neg (by omega) a8]at J
   rw[UT,<- aw];exact Vs J
  exact subscriptTail_builtinR (x:=w) cu.isList.typeIs slot_list_getitem.lookup
   (wpAny_getItem_list_neg (Q:=λr s'=>r=w/\ei X pins σ Q r s') cu.isList (by omega) (by rw[UT]<;>omega) (by omega) (by rw[aH];simpa using r9) ⟨rfl,fin⟩) ae
def Mp:kM X (Dy X.K):=by
 intro value slice pins s σ H x y v u Q I aY bz h ae;obtain⟨p,xs,i,z,rfl,rfl,aE,he,q⟩:=h;cases aY;obtain⟨t,rfl⟩:=bz;obtain⟨its,r,cu,au⟩:=I.tuple aE;obtain⟨j,J,aa,aL,a8,cP⟩:=u5 he;obtain⟨w,r9,hx⟩:=r.get aa;have aw:=r.length;have aD:=qT;have fin:ei X pins σ Q w s:=⟨z,H,I,hx,q⟩;exact subscriptTail_builtinR (x:=w) cu.typeIs slot_tuple_getitem.lookup
  (getItem_tuple (j:=j) (Q:=λr s'=>r=w/\ei X pins σ Q r s') cu (by omega) (by omega) (by rw[UT,<- aw];exact J) (by simpa using r9) ⟨rfl,fin⟩) ae
def Mo:kM X Dx:=by
 intro value slice pins s σ H x y v u Q I aY bz h ae;obtain⟨z,i,c,rfl,rfl,au,he,q⟩:=h;obtain⟨t,rfl⟩:=aY;obtain⟨t',rfl⟩:=bz;obtain⟨j,J,aa,aL,a8,cP⟩:=u5 he;have aw:z.cps.toList.length=z.length:=by simp[Str.length]
 rw[aw]at J a8 cP;have aD:=qT;exact tail_any (typeIs_str s z t) slot_str_getitem.lookup (getItem_str (c:=c) (by
  have aj:decide (i < -(2 ^ 63:Int))=false:=decide_eq_false (by omega)
  have av:decide (i>=2 ^ 63)=false:=decide_eq_false (by omega)
  rw[aj,av,Bool.or_false]) (by rw[J];simpa using aa) ⟨.str ⟨#[c]⟩,H,I.tok _,⟨_,rfl⟩,q⟩) ae
noncomputable def Pq(K:W.Frag):fx:=λx y H Q=>Dw K x y H Q\/Dy K x y H Q\/Dx x y H Q
def Mn:kM X (Pq X.K):=Ml.or (Mp.or Mo)
def Rc(lo hi:Option Int)(n:Nat):(sliceBounds lo hi none n).1=((c6.bH n 0 lo:Nat):Int)/\(sliceBounds lo hi none n).2.1=((c6.bH n n hi:Nat):Int)/\(sliceBounds lo hi none n).2.2=1:=by
 refine⟨?_,?_,rfl⟩
 .cases lo with
  |none=>simp[sliceBounds,c6.bH]
  |some i =>
   simp only[sliceBounds,c6.bH,Option.getD_none,show(1:Int)>0 by decide,Vn]
   by_cases h:i<0
   .simp only[h,Vn]<;>omega
   .simp only[h,UX]<;>omega
 .cases hi with
  |none=>simp[sliceBounds,c6.bH]
  |some i =>
   simp only[sliceBounds,c6.bH,Option.getD_none,show(1:Int)>0 by decide,Vn]
   by_cases h:i<0
   .simp only[h,Vn]<;>omega
   .simp only[h,UX]<;>omega
def Rb(its:List Value)(lo hi:Option Int):slicePick its.toArray lo hi none=((its.drop (c6.bH its.length 0 lo)).take (c6.bH its.length its.length hi-c6.bH its.length 0 lo)).toArray:=by
 obtain⟨J,aa,aL⟩:=Rc lo hi its.toArray.size;unfold slicePick;rw[J,aa,aL];simp only[sliceRange_one,pick_run,UT]<;>rfl
noncomputable def Pu(K:W.Frag):V->Option Int->Option Int->ax->c4->Prop:=λx lo hi H Q=>∃a xs,x=.ref a/\dW K H a xs/\∀p,H p=none->Q (.ref p) (upd H p (.lst (kU xs lo hi)))
def Q8:pW X (Pu X.K):=by
 intro pins s σ H x v e1 e2 lo hi b1 Q I aY ae cu pu h;obtain⟨a,xs,rfl,ah,q⟩:=h;cases aY;obtain⟨its,r,aS,au⟩:=I.list ah;have hlen:=r.length;refine⟨"list",_,slot_list_getitem.lookup,aS.isList.typeIs,?_⟩;refine wpAny_getItem_list_slice aS.isList ae cu pu .none (by simp) ?_ (by rw[UT]<;>omega)
 rw[Rb,<- hlen];refine⟨.ref s.heap.objs.size,_,I.laid (t':=s.toks) (o:=.lst (kU xs lo hi)) (λb bx q=>UD _ q) (UE _) ?_,rfl,q _ (I.bP.fresh (UE _))⟩
 exact⟨Vk (zZ xs lo hi) au,_,0,(r.drop (c6.bH xs.length 0 lo)).take (c6.bH xs.length xs.length hi-c6.bH xs.length 0 lo),UQ _ rfl⟩
def zz:g6 X (.builtin "len") (λxs H Q=>∃p ys,xs=[.ref p]/\(dW X.K H p ys\/fj X.K H p ys)/\Q (.int ys.length) H):=by
 intro pins s σ H xs us Q I r h;obtain⟨p,ys,rfl,aE,q⟩:=h;obtain⟨u,rfl,aY⟩:=vals1 r;cases aY;have aD:=qT;rcases aE with aE|aE
 .obtain⟨its,bL,cu,au⟩:=I.list aE;have hlen:=bL.length;exact Calls.call_len_list cu.isList (by simp only[UT]<;>omega) ⟨.int ys.length,H,I.tok _,⟨s.toks+1,by rw[UT,hlen]⟩,q⟩
 .obtain⟨its,bL,cu,au⟩:=I.tuple aE;have hlen:=bL.length;exact len_tuple cu (by simp only[UT]<;>omega) ⟨.int ys.length,H,I.tok _,⟨s.toks+1,by rw[UT,hlen]⟩,q⟩
def G5:g6 X (.builtin "len") (λxs H Q=>∃z,xs=[.str z]/\z.length<=sizeLine/\Q (.int z.length) H):=by
 intro pins s σ H xs us Q I r h;obtain⟨z,rfl,au,q⟩:=h;obtain⟨u,rfl,t,rfl⟩:=vals1 r;have aD:=qT;exact len_str (by omega) ⟨.int z.length,H,I.tok _,⟨_,rfl⟩,q⟩
def zA:g6 X (.type "list") (λxs H Q=>∃p ys,xs=[.ref p]/\(dW X.K H p ys\/fj X.K H p ys)/\∀l,H l=none->Q (.ref l) (upd H l (.lst ys))):=by
 intro pins s σ H xs us Q I r h;obtain⟨p,ys,rfl,aE,q⟩:=h;obtain⟨u,rfl,aY⟩:=vals1 r;cases aY;have fin:∀(its:List Value),Vals ys its->ys.length<=sizeLine->∀(h':Heap)(cO:Nat),(∀b bN,s.heap.get? b=some bN->h'.get? b=some bN) ->
   h'.get? s.heap.objs.size=some { cls:=.type "list",dict:=none,data:=.seq its.toArray cO,slots:=#[] }->ei X pins σ Q (.ref s.heap.objs.size) { s with heap:=h' }:=λits bL au h' cO iZ e =>
  ⟨.ref s.heap.objs.size,_,I.laid (t':=s.toks) iZ (UE _) (show ej X.prog X.w _ h' _ (.lst ys) from⟨au,its,cO,bL,e⟩),rfl,q _ (I.bP.fresh (UE _))⟩
 rcases aE with aE|aE
 .obtain⟨its,bL,cu,au⟩:=I.list aE;have hlen:=bL.length;obtain⟨o,ar,ai,n,hd⟩:=cu.isList;exact call_list_seq p (.inl rfl) ar ai hd (λh' cO iZ e=>fin its bL au h' cO iZ e) (by simp only[UT]<;>omega)
 .obtain⟨its,bL,cu,au⟩:=I.tuple aE;have hlen:=bL.length;obtain⟨o,ar,ai,n,hd⟩:=cu;exact call_list_seq p (.inr rfl) ar ai hd (λh' cO iZ e=>fin its bL au h' cO iZ e) (by simp only[UT]<;>omega)
def zB:g6 X (.type "tuple") (λxs H Q=>∃p ys,xs=[.ref p]/\((dW X.K H p ys/\∀l,H l=none->Q (.ref l) (upd H l (.tup ys)))\/(fj X.K H p ys/\Q (.ref p) H))):=by
 intro pins s σ H xs us Q I r h;obtain⟨p,ys,rfl,h⟩:=h;obtain⟨u,rfl,aY⟩:=vals1 r;cases aY;rcases h with⟨aE,q⟩|⟨aE,q⟩
 .obtain⟨its,bL,cu,au⟩:=I.list aE;have hlen:=bL.length;refine call_tuple_list cu.isList (λh' iZ=>?_) (by simp only[UT]<;>omega)
  have a7:Inv X pins σ H { s with heap:=h' }:=I.kept (t':=s.toks) iZ;have cx:Inv X pins σ (upd H h'.objs.size (.tup ys)) { s with heap:=h'.push { cls:=.type "tuple",data:=.seq its.toArray } } :=
   a7.laid (t':=s.toks) (λb o e=>UD _ e) (UE _) (show ej X.prog X.w _ _ _ (.tup ys) from⟨au,its,bL,IsTup.new _ _⟩)
  exact⟨.ref h'.objs.size,_,cx,rfl,q _ (a7.bP.fresh (UE _))⟩
 .obtain⟨its,bL,cu,au⟩:=I.tuple aE;exact call_tuple_same cu ⟨.ref p,H,I,rfl,q⟩
noncomputable def E4(K:W.Frag)(T:String)(x:V)(H:ax):Prop:=match x with
 |.str _=>T="str"
 |.int _=>T="int"
 |.ref p=>(T="list"/\∃xs,dW K H p xs)\/(T="tuple"/\∃o,K.lookup p=some o/\o.cls=.type "tuple"/\o.dict=none) \/
   (T="dict"/\((∃aB,H p=some (.gq aB))\/∃aB,H p=some (.eu aB)))\/(T="set"/\∃S n,H p=some (.set S n))
 |_=>False
def SD{pins:List (Addr×Obj)}{σ:St}{H:ax}{s:Shared}{T:String}{x:V}{v:Value}(I:Inv X pins σ H s)(r:RelV x v)(ty:E4 X.K T x H):
  s.TypeIs v T/\∀a,v=.ref a->∃bx,s.heap.get? a=some bx/\bx.dict=none:=by
 cases x with
 |str z =>
  obtain⟨t,rfl⟩:=r;cases (show T="str" from ty);exact⟨typeIs_str s z t,λ_ e=>nomatch e⟩
 |int i =>
  obtain⟨t,rfl⟩:=r;cases (show T="int" from ty);exact⟨typeIs_int s i t,λ_ e=>nomatch e⟩
 |ref p =>
  cases r;rcases ty with⟨rfl,xs,aE⟩|⟨rfl,o,aq,ai,hd⟩|⟨rfl,aq⟩|⟨rfl,S,n,aq⟩
  .obtain⟨its,_,cu,_⟩:=I.list aE;refine⟨cu.isList.typeIs,λa e=>?_⟩
   cases e;obtain⟨o,n,e,c,hd,_⟩:=cu;exact⟨o,e,hd⟩
  .refine⟨⟨o,I.fU p o aq,ai⟩,λa e=>?_⟩
   cases e;exact⟨o,I.fU _ o aq,hd⟩
  .have z:∃o,s.heap.get? p=some o/\o.ExactDict:=by
    rcases aq with⟨aB,aq⟩|⟨aB,aq⟩
    .obtain⟨_,_,_,_,o,_,_,e,ex,_⟩:=I.bP p _ aq;exact⟨o,e,ex⟩
    .obtain⟨_,_,_,_,o,_,_,e,ex,_⟩:=I.bP p _ aq;exact⟨o,e,ex⟩
   obtain⟨o,e,ex⟩:=z;refine⟨⟨o,e,ex.1⟩,λa av=>?_⟩
   cases av;exact⟨o,e,ex.2.1⟩
  .obtain⟨o,_,_,_,e,ex,_⟩:=I.bP p _ aq;refine⟨⟨o,e,ex.1⟩,λa av=>?_⟩
   cases av;exact⟨o,e,ex.2.1⟩
 |_=>exact False.elim ty
noncomputable def RE(K:W.Frag)(T:String)(r:V->List V->ax->c4->Prop)(to:TE)(t:fk):TE:=λσ H Q=>to σ H λx H1=>E4 K T x H1/\t σ H1 λxs aW=>r x xs aW Q
variable{o e:Expr}{ab:List Expr}{to:TE}{t:fk}{name:Str}{apos fB:Pos}{T id:String}{r:V->List V->ax->c4->Prop}
def Om(Dc:PlainAttrs T)(slot:Slot T name id)(LH:typeOf (.builtin id)=pure (.type "method_descriptor"))(hm:FL X id r)(ar:aR X o to)(az:fi X (e::ab) t)(Ks:attributeBase o name X.env (eval o X.env)=eval o X.env:=by rfl)(KQ:((backTo fB (starEach (e::ab) X.env)).all (λx=>!x.1)&&(backToKw fB (keywordEach [] X.env)).all (λx=>x.1.isSome)
   && decide ((e::ab).length+([]:List Keyword).length+(if ([]:List Keyword).isEmpty then 0 else 1)<30))=true:=by rfl)(qD:(apos.endLine==fB.line)=true:=by rfl)(ae:starEach (e::ab) X.env=(false,eval e X.env)::starEach ab X.env:=by rfl)(Lx:(backTo fB (starEach ab X.env)).any (·.1)=false:=by rfl):
  aR X (.Call (.Attribute o name apos) (e::ab) [] fB) (RE X.K T r to t):=by
 intro pins s σ H Q I h;refine wpAny_Call_method_late Ks KQ qD rfl (bI (ar pins s σ H _ I h) λv s1 ⟨x,H1,a7,aI,ty,aK⟩=>?_)
 obtain⟨J,aa⟩:=SD a7 aI ty;refine⟨T,id,Dc,slot,LH,J,aa,?_⟩;have qt:=az fB pins s1 σ H1 _ a7 aK;rw[ae]at qt ⊢;refine Calls.callWith_builtin (by show(false||(backTo fB (starEach ab X.env)).any (·.1))=false;rw[Lx]<;>rfl) (Calls.evalArgs_plain ?_)
 exact bI qt λus s2 ⟨ag,aW,cx,a5,a6⟩=>hm pins s2 σ aW x ag v us Q cx aI a5 a6
end
end bE
namespace bE
open PySem PySem.Spec PyProof.Rows
noncomputable def FK(X:aV)(id:String)(r:V->List V->ax->c4->Prop):Prop :=
 ∀(pins:List (Addr×Obj))(s:Shared)(σ:St)(H:ax)(x:V)(xs:List V)(v:Value)(us:List Value)(Q:c4),Inv X pins σ H s->RelV x v->Vals xs us->r x xs H Q ->
  wpAny (model X.prog X.w) X.A (call (.builtin id) (v::us)) (ei X pins σ Q) X.cR s
def Vals.one:∀{x:V}{us:List Value},Vals [x] us->∃u,us=[u]/\RelV x u
 |_,_,.cons r .nil=>⟨_,rfl,r⟩
theorem Vals.rep{xs:List V}{us:List Value}(h:Vals xs us):∀k:Nat,Vals (List.replicate k xs).flatten (List.replicate k us).flatten
 |0=>.nil
 |k+1=>by
  rw[V4,V4,Ws,Ws];exact Vals.append h (Vals.rep h k)
theorem foldl_rep(its:List Value):∀(k:Nat)(acc:List Value),
  List.foldl (λaU bu=>aU++bu) acc.toArray (List.replicate k its.toArray)=(acc++(List.replicate k its).flatten).toArray
 |0,acc=>by simp
 |k+1,acc=>by
  have e:acc.toArray++its.toArray=(acc++its).toArray:=by simp
  have av:(acc++its)++(List.replicate k its).flatten=acc++(List.replicate (k+1) its).flatten:=by
   rw[V4,Ws,UN]
  rw[<- av,<- foldl_rep its k (acc++its),<- e,V4,W5]
section
variable{X:aV}{pins:List (Addr×Obj)}{σ:St}{H:ax}{s:Shared}{l b:Addr}{xs ys zs:List V}
def Inv.M9{its its':List Value}{n:Nat}{f:Array Value->Array Value}{t':Nat}(I:Inv X pins σ H s)(f5:H l=some (.lst xs))(e:s.heap.get? l=some { cls:=.type "list",data:=.seq its.toArray n })(hf:f its.toArray=its'.toArray)(aQ:Vals ys its')(au:ys.length<=sizeLine):
  Inv X pins σ (upd H l (.lst ys)) { s with heap:=s.heap.update l (Obj.mapSeq f),toks:=t' }:=by
 have q:=PySem.IsL.update e f;rw[hf]at q;refine I.write (x:=l) (e:=l) (by rw[f5];exact trivial) (.inl rfl) (λh6 u af bQ=>(VN s.heap (Obj.mapSeq f) (V3 af)).trans bQ) ⟨_,q⟩ ?_
 exact⟨au,its',_,aQ,q⟩
def Inv.CC{its:List Value}{t':Nat}(I:Inv X pins σ H s)(aQ:Vals ys its)(au:ys.length<=sizeLine):
  Inv X pins σ (upd H s.heap.objs.size (.lst ys)) { s with heap:=s.heap.push { cls:=.type "list",data:=.seq its.toArray },toks:=t' } :=
 I.laid (λ_ _ q=>UD _ q) (UE _) ⟨au,its,0,aQ,UQ _ rfl⟩
theorem Inv.fresh(I:Inv X pins σ H s):H s.heap.objs.size=none:=I.bP.fresh (UE _)
def Inv.Na(I:Inv X pins σ H s)(f5:H l=some (.lst xs)):xs.length<=sizeLine/\∃(its:List Value)(n:Nat),Vals xs its/\xs.length=its.length/\s.heap.get? l=some { cls:=.type "list",data:=.seq its.toArray n }:=by
 obtain⟨z,its,n,r,e⟩:=I.bP l _ f5;exact⟨z,its,n,r,r.length,e⟩
end
section
variable{X:aV}
noncomputable def Pp:V->List V->ax->c4->Prop:=λx ag H Q=>∃l xs y,x=.ref l/\ag=[y]/\H l=some (.lst xs)/\xs.length<sizeLine/\Q .cU (upd H l (.lst (xs++[y])))
def CL:FK X "list.append" Pp:=by
 intro pins s σ H x ag v us Q I aY bG h;obtain⟨l,xs,y,rfl,rfl,f5,au,q⟩:=h;cases aY;obtain⟨u,rfl,ed⟩:=bG.one;obtain⟨z,its,n,r,aw,e⟩:=I.Na f5;refine call_meets F.slot_list_append ⟨_,e,rfl⟩ F.entry_list_append (F.args_list_append_2 _ _) (PySem.list_append l its.toArray n u (by rw[UT];omega)) ⟨e,?_⟩
 refine⟨.cU,_,I.M9 (its':=its++[u]) f5 e (by simp) (r.append (.cons ed .nil)) ?_,rfl,q⟩
 rw[UM,List.length_singleton];omega
def len_rep{α:Type}(xs:List α)(k:Nat):(List.replicate k xs).flatten.length=k*xs.length:=by
 induction k with
 |zero=>simp
 |succ k aO=>rw[V4,Ws,UM,aO,Nat.succ_mul,Nat.add_comm]
end
section
variable{prog:Program}{w:World}{A:Around}{E:Value->Shared->Prop}{s:Shared}
end
section
variable{X:aV}
end
end bE
namespace yV
open PySem PySem.W PySem.Calls PyProof.Rows
def L7{P:Params}{h:Heap}:∀(ns:List Int)(ag:List Value),WellAll P h ag (ns.map WData.int)->IntsAre ag ns:=by
 intro ns
 induction ns with
 |nil =>
  intro ag w;rw[Xz]at w;cases w;exact .nil
 |cons n ns aO =>
  intro ag w;rw[List.map_cons]at w;cases w with
  |cons a b =>
   cases a;exact .cons _ _ (aO _ b)
def QL{l:OpenLaw}{n:Nat}(aD:l.most=some n){P:Params}{h:Heap}{args:List WData}{vals:List Value}(sR:l.row.toRowW.claim.pre args=true)(qJ:WellAll P h vals args):
  ∃a ag ns,vals=[Value.ref a]/\args=[WData.list (ns.map WData.int)]/\h.get? a=some { cls:=.type "list",data:=.seq ag.toArray }/\IntsAre ag ns/\ns.length<=n:=by
 have mi:WShape.hasAll [] args [.list .int]=true:=(pre_splitW sR).1;have ai:l.pre.holds [] { args:=args }=true:=(pre_splitW sR).2;obtain⟨d,r,rfl,J,aa⟩:=hasAllW_cons mi;obtain rfl:=hasAllW_nil aa;obtain⟨xs,rfl,aL⟩:=hasW_list J;obtain⟨ns,rfl⟩:=items_int aL;have hlen:ns.length<=n:=by
  unfold OpenLaw.pre at ai;have a8:(WTm.not (.lt (.lit (.int (n:Int))) (.len (.arg 0)))).holds [] { args:=[.list (ns.map .int)] }=true:=by
   have a8:=(holds_andW ai).1;rw[aD]at a8;exact a8
  have cP:=condW_of a8 (w_not (w_lt w_lit (w_len_list (w_arg rfl))));rw[List.length_map]at cP;refine Nat.le_of_not_lt λq=>?_
  have cL:(n:Int)<((ns.length:Nat):Int):=by omega
  first
   |(rw[decide_eq_true cL]at cP;exact absurd cP (by decide))
   |(simp at cP;omega)
 cases qJ with
 |cons hB jd =>
  cases jd;cases hB with
  |list ar fC=>exact⟨_,_,ns,rfl,rfl,ar,L7 ns _ fC,hlen⟩
def OY(l:OpenLaw)(args:List WData):l.row.toRowW.claim.post args (.bool true) args=true :=
 postW_of (r:=l.row.toRowW) (X:=(true==true))
  (show WShape.has [] (.bool true) .bool=true by first|rfl|decide|simp[WShape.has,WShape.arms,WShape.armsAll])
  (show(WTm.eq .res (.lit (.bool true))).value [] { args:=args,res:=some (.bool true),after:=args }=some (.bool (true==true)) from w_eq_bool (w_res rfl) w_lit) rfl
def Gu{l:OpenLaw}{n:Nat}{q:Program}{loose:List Str}{cj:(Str->Option Value)->Heap->Prop}{lQ:World->Heap->Prop}{d:DefRec}(aD:l.most=some n)(qz:d.params.defaults=[])(call:∀(w:World)(eK cC:Shared)(aF i0:Str->Option Value)(bg:Addr)(o:Obj)(pm cd doc:Value)(a:Addr)(ag:List Value)(ns:List Int),
   Ground q loose [] cj w eK aF i0 cC.heap->lQ w cC.heap ->
   cC.heap.get? bg=some o->o.data=.func (docDef d.name d.params d.body d.scope pm cd doc)->cC.heap.CodeRec cd d.name->aF d.name=some (.ref bg) ->
   cC.heap.get? a=some { cls:=.type "list",data:=.seq ag.toArray }->IntsAre ag ns->ns.length<=n->cC.gens=#[] ->
   codeAny (model l.prog w) callerA (.call (.ref bg) ⟨[.ref a],[]⟩) (λr s'=>r=.ok (.ret (.bool true))/\OldK cC.heap s'.heap/\s'.os=cC.os/\AllBare s'.gens) cC):
  WalkO q loose cj lQ l.row.toRowW d [] (λf ag=>PySem.call f ag):=by
 intro w eK cC aF i0 G Y bg o pm cd doc rZ de ar hd jB ma nh ba args vals as sR BG xd qJ BH;obtain rfl:rZ=.none:=Dflts.none ma qz;obtain rfl:de=.none:=Dflts.noKw ma;obtain⟨a,ag,ns,rfl,rfl,w7,hints,hlen⟩:=QL aD sR qJ;refine enter_call (Xy (call w eK cC aF i0 bg o pm cd doc a ag ns G Y ar (fd_plain hd) jB nh w7 hints hlen ba) λr s' aE=>?_)
 obtain⟨rfl,aa,aL,a8⟩:=aE;exact⟨.inl ⟨.bool true,.bool true,[],rfl,λ_=>rfl,.bool true,OY l _,λ_=>⟨List.Pairwise.nil,λ_ hm=>(nomatch hm)⟩⟩,aa,aL,a8⟩
section
variable{prog:Program}{w:World}{A:Around}{E:Value->Shared->Prop}{s:Shared}{K:Frag}
end
end yV
namespace bE
open PySem PySem.Spec PyProof.Rows
theorem Fj:∀{ag:List Value}{ns:List Int},IntsAre ag ns->Vals (ns.map V.int) ag
 |_,_,.nil=>.nil
 |_,_,.cons n t h=>.cons ⟨t,rfl⟩ (Fj h)
noncomputable def uR(H:ax):Prop:=∀b,H b=none\/∃o xs,H b=some (.hI o (.lst xs))
def MN {P : Program} {w : World} {K : W.Frag} {aF i0 : Str -> Option Value} {CX : je} {k : Nat} {bg a : Addr} {fd : FuncData} {x : Str} {sp : lN} {cC : Shared} {ag : List Value} {ns : List Int}
    (iD : K.In cC.heap) (me : cC.heap.Ns mainGlobals aF) (af : cC.heap.Ns builtinsNs i0) (iO : ∀ x : Str, x ≠ "__name__" -> i0 x = bootBuiltins x) (Lb : cC.heap.NoLimit) (ba : cC.gens = #[])
    (az : cC.heap.get? a = some { cls := .type "list", data := .seq ag.toArray }) (hi : IntsAre ag ns) (aw : ns.length <= sizeLine) (aZ : fy k callerA)
    (F : ∀ base : Heap, K.In base -> base.Ns mainGlobals aF -> jZ P w K aF base CX k bg fd [x] sp) (wR : ∀ (s : Shared) (u : Value), BindsTo s fd ⟨[u], []⟩ [(x, u)])
    (oN : ∀ H : ax, uR H -> dW K H a (ns.map V.int) -> sp [.ref a] H (fun v _ => v = .aM true) fun _ _ _ => False)
    (wI : ∀ H e s', CX [] H cC (fun _ _ _ => False) e s' -> False) :
    codeAny (model P w) callerA (.call (.ref bg) ⟨[.ref a], []⟩) (fun r s' => r = .ok (.ret (.bool true)) /\ OldK cC.heap s'.heap /\ s'.os = cC.os /\ AllBare s'.gens) cC := by
  have bG := Fj hi
  have MX := hi.length
  have core : ∀ H : ax, uR H -> dW K H a (ns.map V.int) -> d5 P w H cC.heap -> (∀ b, H b ≠ none -> b = a) -> (H a ≠ none -> K.lookup a = none) ->
      codeAny (model P w) callerA (.call (.ref bg) ⟨[.ref a], []⟩) (fun r s' => r = .ok (.ret (.bool true)) /\ OldK cC.heap s'.heap /\ s'.os = cC.os /\ AllBare s'.gens) cC := by
    intro H oD aX bP qt gs
    have zq : ∀ {b : Addr} {o : Obj}, cC.heap.get? b = some o -> H b = none -> (k6 cC.heap H).get? b = some o := fun e n => K1 e n
    have q4 : ∀ {b : Addr} {o : Obj} {ab : Array DictEntry} {aT : Nat}, cC.heap.get? b = some o -> o.data = .dict ab aT -> H b = none := fun {b o ab aT} e d => by
      cases q : H b with
      | none => rfl
      | some u =>
        have bf : b = a := qt b (by rw [q]; simp)
        subst bf
        rw [az] at e; cases e
        have d' : Data.seq ag.toArray _ = Data.dict ab aT := d
        cases d'
    have tr : ∀ {b : Addr} {m : Str -> Option Value}, cC.heap.Ns b m -> (k6 cC.heap H).Ns b m := fun {b m} ⟨o, ab, aT, e, d, r⟩ => ⟨o, ab, aT, zq e (q4 e d), d, r⟩
    have Bb : K.In (k6 cC.heap H) := fun b o e => zq (iD b o e) (by
      cases q : H b with
      | none => rfl
      | some u =>
        have bf : b = a := qt b (by rw [q]; simp)
        subst bf
        rw [gs (by rw [q]; simp)] at e; cases e)
    have e6 : Mod K aF (k6 cC.heap H) := ⟨Bb, tr me, ⟨i0, tr af, iO⟩, let ⟨Nj, J, aa⟩ := Lb; ⟨Nj, tr J, aa⟩⟩
    have dq : rI P w K aF (k6 cC.heap H) callerA [] cC H := ⟨rfl, e6, fun b o e => NV e, Nat.le_of_eq (K2 _ _), trivial, fun b af => absurd (show b ∈ ([] : List Addr) from af) (by simp), bP, .of_eq ba⟩
    refine Xy ((F _ Bb (tr me)).run callerA [] cC H ⟨[.ref a], []⟩ [.ref a] [.ref a] _ _ aZ dq (wR cC (.ref a)) (.cons rfl .nil) (oN H oD aX)) fun r s' h => ?_
    cases r with
    | error e => exact (wI H e s' h).elim
    | ok hk =>
      cases hk with
      | next => exact False.elim h
      | brk => exact False.elim h
      | cont => exact False.elim h
      | ret u =>
        obtain ⟨v, ao, os, bare, un, w8, bL, q⟩ := h
        have cL : v = .aM true := q
        subst cL
        obtain rfl : u = Value.bool true := bL
        refine ⟨rfl, OldK.of_keep fun b o e => ?_, os, bare⟩
        cases q : H b with
        | none => exact un.keep b o e q (by intro z; exact absurd (show b ∈ ([] : List Addr) from z) (by simp)) (by simp)
        | some u =>
          rcases oD b with z | ⟨bx, xs, z⟩
          · rw [q] at z; cases z
          · have c1 := un.jy b bx _ z
            obtain ⟨aj, _⟩ := bP b _ z
            obtain ⟨av, _⟩ := w8 b _ c1
            rw [e] at aj; cases aj
            exact av
  cases aq : K.lookup a with
  | some o =>
    have e := iD a o aq
    rw [az] at e
    cases e
    refine core (fun _ => none) (fun _ => .inl rfl) (.inr ⟨_, ag.toArray, _, aq, rfl, rfl, rfl, by rw [UT, MX]; exact aw, by simpa using bG⟩) (fun b u z => by have fm : (none : Option d8) = some u := z; cases fm) (fun b z => absurd rfl z) fun z => absurd rfl z
  | none =>
    refine core (fun b => if b = a then some (.hI { cls := .type "list", data := .seq ag.toArray } (.lst (ns.map V.int))) else none) (fun b => ?_) (.inl (.inr ⟨{ cls := .type "list", data := .seq ag.toArray }, if_pos rfl⟩)) (fun b u z => ?_) (fun b z => ?_) fun _ => aq
    · by_cases af : b = a
      · exact .inr ⟨_, _, if_pos af⟩
      · exact .inl (if_neg af)
    · by_cases af : b = a
      · have fm := (if_pos af).symm.trans z
        cases fm
        subst af
        exact ⟨az, by rw [List.length_map]; exact aw, ag, _, bG, az⟩
      · have fm := (if_neg af).symm.trans z
        cases fm
    · by_cases af : b = a
      · exact af
      · exact absurd (if_neg af) z
end bE
namespace bE
open PySem PySem.Spec PyProof.Rows
noncomputable abbrev y1{K:W.Frag}{h:Heap}(_:K.In h):W.Frag:=K
def S7{l:PySem.W.OpenLaw}{n k:Nat}{q:Program}{loose:List Str}{cj:(Str->Option Value)->Heap->Prop}{lQ:World->Heap->Prop}{d:DefRec}{K:Params->W.Frag}{CX:World->je}{sp:World->lN}{x:Str}(aD:l.most=some n)(w4:n<=sizeLine)(qz:d.params.defaults=[])(aZ:fy k callerA)(fS:∀(w:World)(h:Heap),lQ w h->(K w.params).In h)(F:∀(w:World)(aF:Str->Option Value)(bg:Addr)(h:Heap),(K w.params).In h->h.Ns mainGlobals aF->aF d.name=some (.ref bg) ->
   ∃fd:FuncData,(∀(s:Shared)(u:Value),BindsTo s fd ⟨[u],[]⟩ [(x,u)]) /\
    ∀base:Heap,(K w.params).In base->base.Ns mainGlobals aF->jZ l.prog w (K w.params) aF base (CX w) k bg fd [x] (sp w))(oN:∀(w:World)(H:ax)(a:Addr)(ns:List Int),ns.length<=n->uR H->dW (K w.params) H a (ns.map V.int)->sp w [.ref a] H (λv _=>v=.aM true) λ_ _ _=>False)(wI:∀(w:World)(H:ax)(s:Shared)(e:Value)(s':Shared),CX w [] H s (λ_ _ _=>False) e s'->False):
  PySem.W.WalkO q loose cj lQ l.row.toRowW d [] (λf ag=>PySem.call f ag):=by
 refine yV.Gu aD qz λw eK cC aF i0 bg o pm cd doc a ag ns G Y ar hd jB nh w7 hints hlen ba=>?_
 have iD:=fS w _ Y;obtain⟨fd,af,Kg⟩:=F w aF bg _ iD G.T.g nh;exact MN iD G.T.g G.T.b G.T.builtins G.T.nolimit ba w7 hints (Vk hlen w4) aZ Kg af (λH oD aX=>oN w H a ns hlen oD aX) λH e s'=>wI w H cC e s'
end bE
namespace bE
open PySem PySem.Spec PyProof.Rows
noncomputable def gO(s:Stmt):Arguments:=match s with
 |.FunctionDef _ a _ _ _ _ _ _ _ _=>a
 |_=>{ posonlyargs:=[],args:=[],vararg:=none,kwonlyargs:=[],kw_defaults:=[],kwarg:=none,defaults:=[] }
noncomputable def kV(s:Stmt):List Stmt:=match s with
 |.FunctionDef _ _ b _ _ _ _ _ _ _=>b
 |_=>[]
noncomputable def hb(s:Stmt):Scope:=match s with
 |.FunctionDef _ _ _ _ _ _ sc _ _ _=>sc
 |_=>{ kind:=.function,names:=[],isGenerator:=false,isCoroutine:=false }
structure pN(K:W.Frag)(x qual:Str)(st:Stmt)(f:Addr)(fd:FuncData):Prop where
 ex:∃(eH:Value)(cn:Option Addr)(de doc pm:Value)(an:Option Addr)(dF ct:Value)(eJ:Array (Option Value)),
  fd=W.fnOf x qual (gO st) (kV st) (hb st) .none de doc pm an dF ct/\K.lookup f=some ⟨eH,cn,.func fd,eJ⟩/\W.codeIn K dF qual=true
 iZ:W.keepIn K (.ref f)=true
section
variable{P:Program}{w:World}{K:W.Frag}{aF:Str->Option Value}{base:Heap}
def pN.binds{x qual:Str}{st:Stmt}{f:Addr}{fd:FuncData}{bt:List Str}(F:pN K x qual st f fd)(h:∀(de doc pm:Value)(an:Option Addr)(dF ct:Value)(us:List Value),us.length=bt.length->bindArgs (W.fnOf x qual (gO st) (kV st) (hb st) .none de doc pm an dF ct) ⟨us,[]⟩=pure (bt.zip us)):Binds K fd bt []:=by
 obtain⟨eH,cn,de,doc,pm,an,dF,ct,eJ,rfl,lk,jB⟩:=F.ex;exact .all (h de doc pm an dF ct)
def AO{x qual:Str}{st:Stmt}{f:Addr}{eH:Value}{cn an:Option Addr}{eJ:Array (Option Value)}{de doc pm dF ct:Value}(l:K.lookup f=some ⟨eH,cn,.func (W.fnOf x qual (gO st) (kV st) (hb st) .none de doc pm an dF ct),eJ⟩)(c:W.codeIn K dF qual=true)(k:W.keepIn K (.ref f)=true):pN K x qual st f (W.fnOf x qual (gO st) (kV st) (hb st) .none de doc pm an dF ct):=⟨⟨eH,cn,de,doc,pm,an,dF,ct,eJ,rfl,l,c⟩,k⟩
end
section
variable{X:aV}
def rg(i:Nat){x:Str}{pos:Pos}(bj:X.N[i]?=some x:=by rfl)(aQ:hE X.env.scope x:=by first|exact Or.inl rfl|exact Or.inr (Or.inl rfl)|exact Or.inr (Or.inr rfl))(hd:(x==("__debug__":Str))=false:=by decide)(jB:(x==("__classdict__":Str))=false:=by decide):aR X (.Name x pos) (yC i):=i5 bj aQ hd jB
end
noncomputable def bM(H ao:ax):Prop:=∀b o,H b=some o->ao b=some o
def bM.refl(H:ax):bM H H:=λ_ _ h=>h
def bM.trans{H H1 aW:ax}(a:bM H H1)(b:bM H1 aW):bM H aW:=λc o h=>b c o (a c o h)
def bM.free{H ao:ax}(e:bM H ao){l:Addr}(h:ao l=Option.none):H l=Option.none:=by
 cases q:H l with
 |none=>rfl
 |some o =>
  rw[e l o q]at h;cases h
end bE
end
section
set_option Elab.async false
set_option linter.all false
set_option maxRecDepth 100000
namespace bE
open PySem PySem.Spec PyProof.Rows
section
variable{κ:Type}[DecidableEq κ]
noncomputable def iy(aB:List (κ×V))(k:κ):Option V:=(aB.find? λdM=>decide (dM.1=k)).map (·.2)
noncomputable def putK(aB:List (κ×V))(k:κ)(v:V):List (κ×V) :=
 if (aB.any λdM=>decide (dM.1=k))=true then aB.map (λdM=>if dM.1=k then(dM.1,v) else dM) else aB++[(k,v)]
def yP{p:κ×V}{r:List (κ×V)}{k:κ}(e:p.1=k):iy (p::r) k=some p.2:=by simp[iy,List.find?_cons,e]
def yO{p:κ×V}{r:List (κ×V)}{k:κ}(e:¬p.1=k):iy (p::r) k=iy r k:=by simp[iy,List.find?_cons,e]
theorem Fi(k:κ):∀aB:List (κ×V),(aB.any λdM=>decide (dM.1=k))=(iy aB k).isSome
 |[]=>rfl
 |p::r=>by
  rw[List.any_cons]
  by_cases e:p.1=k
  .simp only[yP e,decide_eq_true e,Bool.true_or,Option.isSome_some]
  .rw[yO e,decide_eq_false e,Bool.false_or];exact Fi k r
def Ct(aB:List (κ×V))(k:κ)(v:V):(putK aB k v).length<=aB.length+1:=by
 unfold putK
 split
 .rw[List.length_map];omega
 .rw[UM,List.length_cons,List.length_nil];omega
def h4.Mc{o:Option V}{u:Option Value}(r:h4 o u):o.isSome=u.isSome:=by
 cases o with
 |none=>cases u with
  |none=>rfl
  |some _=>exact(show False from r).elim
 |some _=>cases u with
  |none=>exact(show False from r).elim
  |some _=>rfl
theorem h4.getD{o:Option V}{u:Option Value}{d:V}{d':Value}(r:h4 o u)(i7:RelV d d'):RelV (o.getD d) (u.getD d'):=by
 cases o with
 |none=>cases u with
  |none=>exact i7
  |some _=>exact(show False from r).elim
 |some _=>cases u with
  |none=>exact(show False from r).elim
  |some _=>exact r
def fK.val{aB:List (κ×V)}{ag:List (κ×Value)}(r:fK aB ag)(k:κ):h4 (iy aB k) (valueAt ag k):=by
 unfold fK at r
 induction r with
 |nil=>exact True.intro
 |@cons p q bt kA h t aO =>
  obtain⟨J,aa⟩:=h
  by_cases e:p.1=k
  .have bf:q.1=k:=J.symm.trans e;have b:valueAt (q::kA) k=some q.2:=by simp[valueAt,List.find?_cons,bf]
   rw[yP e,b];exact aa
  .have bf:¬q.1=k:=λz=>e (J.trans z)
   have b:valueAt (q::kA) k=valueAt kA k:=by simp[valueAt,List.find?_cons,bf]
   rw[yO e,b];exact aO
theorem fK.any{aB:List (κ×V)}{ag:List (κ×Value)}(r:fK aB ag)(k:κ):(aB.any λdM=>decide (dM.1=k))=ag.any λdM=>decide (dM.1=k):=by
 unfold fK at r
 induction r with
 |nil=>rfl
 |cons h t aO=>rw[List.any_cons,List.any_cons,aO,h.1]
def fK.ya{aB:List (κ×V)}{ag:List (κ×Value)}(r:fK aB ag)(k:κ){y:V}{u:Value}(bz:RelV y u):
  fK (aB.map λdM=>if dM.1=k then(dM.1,y) else dM) (ag.map λdM=>if dM.1=k then(dM.1,u) else dM):=by
 unfold fK at r ⊢
 induction r with
 |nil=>exact .nil
 |@cons p q bt kA h t aO =>
  rw[List.map_cons,List.map_cons];refine .cons ?_ aO;obtain⟨J,aa⟩:=h
  by_cases e:p.1=k
  .rw[if_pos e,if_pos (J.symm.trans e)];exact⟨J,bz⟩
  .rw[if_neg e,if_neg (λz=>e (J.trans z))];exact⟨J,aa⟩
def fK.put{aB:List (κ×V)}{ag:List (κ×Value)}(r:fK aB ag)(k:κ){y:V}{u:Value}(bz:RelV y u):fK (putK aB k y) (stored ag k u):=by
 unfold putK stored;rw[r.any k]
 by_cases e:(ag.any λdM=>decide (dM.1=k))=true
 .rw[if_pos e,if_pos e];exact r.ya k bz
 .rw[if_neg e,if_neg e];exact Paired.snoc r ⟨rfl,bz⟩
theorem fK.length{aB:List (κ×V)}{ag:List (κ×Value)}(r:fK aB ag):aB.length=ag.length:=Yl r
end
def s9{P:Program}{w:World}{k:Key}{u:Value}(r:RelV (de k) u):(hv P w).is k u=true:=by
 cases k with
 |inl i=>obtain⟨t,e⟩:=(show ∃t,u=Value.int i t from r);subst e;exact Nu P w i t
 |inr x=>obtain⟨t,e⟩:=(show ∃t,u=Value.str x t from r);subst e;exact Nv P w x t
theorem oR{P:Program}{w:World}:∀{ks:List Key}{us:List Value},Vals (ks.map de) us->ItemsAre (hv P w) ks us
 |[],_,r=>by rw[Xz]at r;cases r;exact .nil
 |k::ks,_,r=>by
  rw[List.map_cons]at r;cases r with
  |cons h t=>exact .cons (s9 h) (oR t)
noncomputable abbrev KT(H:ax):List (List Key×V)->List (List Key×Addr×Value)->Prop:=Paired λp q=>p.1=q.1/\H q.2.1=some (.tup (p.1.map de))/\RelV p.2 q.2.2
def KT.val{H:ax}{aB:List (List Key×V)}{xs:List (List Key×Addr×Value)}(r:KT H aB xs)(k:List Key):h4 (iy aB k) ((atKey xs k).map (·.2)):=by
 induction r with
 |nil=>exact True.intro
 |@cons p q bt kA h t aO =>
  obtain⟨J,_,aa⟩:=h
  by_cases e:p.1=k
  .have bf:q.1=k:=J.symm.trans e;have b:atKey (q::kA) k=some q.2:=by simp[atKey,List.find?_cons,bf]
   rw[yP e,b];exact aa
  .have bf:¬q.1=k:=λz=>e (J.trans z)
   have b:atKey (q::kA) k=atKey kA k:=by simp[atKey,List.find?_cons,bf]
   rw[yO e,b];exact aO
def KT.ya{H:ax}{aB:List (List Key×V)}{xs:List (List Key×Addr×Value)}(r:KT H aB xs)(k:List Key){y:V}{u:Value}(bz:RelV y u):
  KT H (aB.map λdM=>if dM.1=k then(dM.1,y) else dM) (xs.map (putAt k u)):=by
 induction r with
 |nil=>exact .nil
 |@cons p q bt kA h t aO =>
  rw[List.map_cons,List.map_cons];refine .cons ?_ aO;obtain⟨J,aa,aL⟩:=h;unfold putAt
  by_cases e:p.1=k
  .rw[if_pos e,if_pos (J.symm.trans e)];exact⟨J,aa,bz⟩
  .rw[if_neg e,if_neg (λz=>e (J.trans z))];exact⟨J,aa,aL⟩
def KT.put{H:ax}{aB:List (List Key×V)}{xs:List (List Key×Addr×Value)}(r:KT H aB xs)(k:List Key){b:Addr}{y:V}{u:Value}(af:H b=some (.tup (k.map de)))(bz:RelV y u):
  KT H (putK aB k y) (storedH xs k b u):=by
 have e:(aB.any λdM=>decide (dM.1=k))=(atKey xs k).isSome:=by
  rw[Fi,(r.val k).Mc,Option.isSome_map]
 unfold putK storedH;rw[e]
 by_cases q:(atKey xs k).isSome=true
 .rw[if_pos q,if_pos q];exact r.ya k bz
 .rw[if_neg q,if_neg q];exact Paired.snoc r ⟨rfl,af,bz⟩
def KT.keeps{H ao:ax}{aB:List (List Key×V)}{xs:List (List Key×Addr×Value)}(r:KT H aB xs)(aS:∀b ys,H b=some (.tup ys)->ao b=some (.tup ys)):KT ao aB xs :=
 Paired.xK r λ_ _ z=>⟨z.1,aS _ _ z.2.1,z.2.2⟩
section
variable{P:Program}{w:World}{H:ax}{h:Heap}{a:Addr}
def DB{u:d8}(ok:d5 P w H h)(e:jj H a u):ej P w H h a u:=e.ok ok
def qe{aB:List (Key×V)}(ok:d5 P w H h)(e:jj H a (.gq aB)):aB.length<=sizeLine/\(a==sysModules)=false/\∃ag,fK aB ag/\h.DictOf (hv P w) a ag :=
 show ej P w H h a (.gq aB) from DB ok e
def H6{aB:List (Key×V)}(ok:d5 P w H h)(e:H a=some (.gq aB)):aB.length<=sizeLine/\(a==sysModules)=false/\∃ag,fK aB ag/\h.DictOf (hv P w) a ag:=qe ok (.inl e)
def ta{ks:List Key}(ok:d5 P w H h)(e:H a=some (.tup (ks.map de))):(tupleKind (hv P w)).is h ks a:=by
 obtain⟨_,its,r,o,J,aa,n,aL⟩:=(show ej P w H h a (.tup (ks.map de)) from ok a _ e);exact⟨o,its.toArray,n,J,aa,aL,by simpa using oR r⟩
def qg{aB:List (List Key×V)}(ok:d5 P w H h)(e:jj H a (.eu aB)):aB.length<=sizeLine/\(a==sysModules)=false /\
  ∃xs,KT H aB xs/\h.DictOfH (tupleKind (hv P w)) a xs:=by
 obtain⟨z,y,xs,r,o,ab,aT,J,aa,aL,a8,cP⟩:=(show ej P w H h a (.eu aB) from DB ok e);refine⟨z,y,xs,r,o,ab,aT,J,aa,aL,a8,λx ah=>?_,cP⟩
 have all:∀{l:List (List Key×V)}{m:List (List Key×Addr×Value)},KT H l m->∀x∈m,(tupleKind (hv P w)).is h x.1 x.2.1:=by
  intro l m q
  induction q with
  |nil=>intro x ah;exact nomatch ah
  |@cons p q bt kA aE t aO =>
   intro x ah;rcases UI.mp ah with e|ah
   .subst e;exact ta ok (by rw[<- aE.1];exact aE.2.1)
   .exact aO x ah
 exact all r x ah
def Ib{aB:List (List Key×V)}(ok:d5 P w H h)(e:H a=some (.eu aB)):aB.length<=sizeLine/\(a==sysModules)=false /\
  ∃xs,KT H aB xs/\h.DictOfH (tupleKind (hv P w)) a xs:=qg ok (.inl e)
end
noncomputable def kK(H:ax)(a:Addr)(y:V)(r:Option V):Prop :=
 (∃aB k,jj H a (.gq aB)/\y=de k/\r=iy aB k)\/∃aB k b,jj H a (.eu aB)/\y=.ref b/\H b=some (.tup (k.map de))/\r=iy aB k
noncomputable def pM(H:ax)(a:Addr)(y v:V)(ao:ax):Prop :=
 (∃aB k,H a=some (.gq aB)/\y=de k/\aB.length<sizeLine/\ao=upd H a (.gq (putK aB k v))) \/
 ∃aB k b,H a=some (.eu aB)/\y=.ref b/\H b=some (.tup (k.map de))/\aB.length<sizeLine/\ao=upd H a (.eu (putK aB k v))
def kK.t{H:ax}{a b:Addr}{aB:List (List Key×V)}{k:List Key}(e:H a=some (.eu aB))(dY:H b=some (.tup (k.map de))):kK H a (.ref b) (iy aB k):=.inr ⟨aB,k,b,.inl e,rfl,dY,rfl⟩
def pM.t{H:ax}{a b:Addr}{aB:List (List Key×V)}{k:List Key}{v:V}(e:H a=some (.eu aB))(dY:H b=some (.tup (k.map de)))(aw:aB.length<sizeLine):
  pM H a (.ref b) v (upd H a (.eu (putK aB k v))):=.inr ⟨aB,k,b,e,rfl,dY,aw,rfl⟩
section
variable{X:aV}{pins:List (Addr×Obj)}{σ:St}{H:ax}{s:Shared}{a:Addr}{y v:V}{u r:Value}{o:Option V}{A:Around}{E:Value->Shared->Prop}
def Inv.big(I:Inv X pins σ H s):sysModules<s.heap.objs.size:=by
 have h:mainGlobals<s.heap.objs.size:=(I.mod.glob.keeps I.lU).lt;exact Nat.lt_trans (by decide) h
def HV{Q:Value->Shared->Prop}(bQ:A.units+1<cLine)(I:Inv X pins σ H s)(g:kK H a y (some v))(bz:RelV y u)(h:∀dB s',Inv X pins σ H s'->RelV v dB->Q dB s'):
  wpAny (model X.prog X.w) A (getItem (.ref a) u) Q E s:=by
 rcases g with⟨aB,k,e,fp,l⟩|⟨aB,k,b,e,fp,dY,l⟩
 .subst fp;obtain⟨z,hd,ag,rel,cD⟩:=qe I.bP e;obtain⟨dB,hw,hx⟩:=h4.some_of (v:=v) (o:=valueAt ag k) (by rw[l];exact rel.val k)
  exact wpAny_getItem_of (s9 bz) cD.mapOf hw (h dB _ (I.tok _) hx)
 .subst fp;cases (show u=Value.ref b from bz);obtain⟨z,hd,xs,rel,cD⟩:=qg I.bP e;obtain⟨dB,hw,hx⟩:=h4.some_of (v:=v) (o:=(atKey xs k).map (·.2)) (by rw[l];exact rel.val k)
  obtain⟨p,aC,xa⟩:=Option.map_eq_some_iff.mp hw;refine wpAny_getItem_heap (XB bQ) (ta I.bP dY) cD aC ?_;rw[xa];exact h dB _ (I.tok _) hx
def z2{h':Heap}{t':Nat}{bx:d8}(I:Inv X pins σ H s)(ak:pS (H a))(ae:Heap.SameBut a s.heap h')(he:∃q,h'.get? a=some q)(new:ej X.prog X.w (upd H a bx) h' a bx):
  Inv X pins σ (upd H a bx) { s with heap:=h',toks:=t' } :=
 I.write (x:=a) (e:=a) ak (.inl rfl) (λb q af z=>(ae.2 b af).trans z) he new
def H5{P:Program}{w:World}{ao:ax}{h':Heap}{aB:List (Key×V)}{ag:List (Key×Value)}(z:aB.length<=sizeLine)(hd:(a==sysModules)=false)(rel:fK aB ag)(cD:h'.DictOf (hv P w) a ag):
  ej P w ao h' a (.gq aB):=⟨z,hd,ag,rel,cD⟩
def HY{ao:ax}{Q:Unit->Shared->Prop}(bQ:A.units+1<cLine)(I:Inv X pins σ H s)(g:pM H a y v ao)(bz:RelV y u)(bG:RelV v r)(h:∀s',Inv X pins σ ao s'->Q () s'):
  wpAny (model X.prog X.w) A (setItem (.ref a) u r) Q E s:=by
 rcases g with⟨aB,k,e,fp,l,m3⟩|⟨aB,k,b,e,fp,dY,l,m3⟩
 .subst fp m3;obtain⟨z,hd,ag,rel,cD⟩:=H6 I.bP e;have au:ag.length<=sizeLine:=by rw[<- rel.length];exact z
  have aw:(putK aB k v).length<=sizeLine:=by have:=Ct aB k v;omega
  refine wpAny_setItem_pairs (hsz:=au) (s9 bz) cD λh' r1 ae=>h _ ?_
  have he:∃q,h'.get? a=some q:=let ⟨q,_,_,aE,_⟩:=r1;⟨q,aE⟩
  exact z2 I (by rw[e];exact True.intro) ae he (H5 aw hd (rel.put k bG) r1)
 .subst fp m3;cases (show u=Value.ref b from bz);obtain⟨z,hd,xs,rel,cD⟩:=Ib I.bP e;have au:xs.length<=sizeLine:=by rw[<- Yl rel];exact z
  have aw:(putK aB k v).length<=sizeLine:=by have:=Ct aB k v;omega
  refine wpAny_setItem_heap (hsz:=au) (XB bQ) (ta I.bP dY) cD λh' r1 ae=>h _ ?_
  obtain⟨q,ab,aT,aE,aa,aL,a8,_,cP⟩:=r1;refine z2 I (by rw[e];exact True.intro) ae ⟨q,aE⟩ ⟨aw,hd,_,(rel.put k dY bG).keeps λc ys h9=>?_,q,ab,aT,aE,aa,aL,a8,cP⟩
  rw[dc (ND h9 e (λz=>nomatch z))]
  exact h9
end
section
variable{X:aV}{pins:List (Addr×Obj)}{σ:St}{H:ax}{s:Shared}{a:Addr}{aB:List (Key×V)}{k:Key}{u:Value}{A:Around}{E:Value->Shared->Prop}
end
noncomputable def y3(i:Expr):Prop:=∀tE oS,subscripted i false tE oS=operate [tE,oS] (getItem tE oS)
def Rz{prog:Program}{w:World}{A:Around}{E:Value->Shared->Prop}{s:Shared}{env:Env}{value slice:Expr}{pos:Pos}{T id:String}{Q:Value->Shared->Prop}(aw:typeLookup (.type T) "__getitem__"=pure (some (.builtin id)))(ae:y3 slice)(h:wpAny (model prog w) A (eval value env) (λo cC=>wpAny (model prog w) A (eval slice env) (λi gY=>gY.TypeIs o T/\wpAny (model prog w) A (getItem o i) Q E gY) E cC) E s):
  wpAny (model prog w) A (eval (.Subscript value slice pos) env) Q E s:=by
 refine Subscript_ (VK h (λo cC gV=>VK gV (λi gY qL=>?_) λ_ _ x=>x) λ_ _ x=>x)
 obtain⟨cF,qL⟩:=qL;unfold subscriptTail;refine UA ?_;rw[getitemInPython_of_ne cF.not_modules];refine UA (Yd cF aw ?_);have fin:wpAny (model prog w) A (subscripted slice false o i) (λr px=>wpAny (model prog w) A (letTemporaryGo value o r>>=λ_=>pure r) Q E px) E gY:=by
  rw[ae o i];exact wpAny_operating (VK qL (λr px sX=>UA (wpAny_letTemporaryGo (wpAny_pure sX))) λ_ _ x=>x)
 first
  |exact wpAny_pure (UA fin)
  |exact UA (wpAny_pure (UA fin))
  |exact UA fin
def H2{X:aV}{pins:List (Addr×Obj)}{σ:St}{H:ax}{s:Shared}{a:Addr}{y:V}{o:Option V}(I:Inv X pins σ H s)(g:kK H a y o):s.TypeIs (.ref a) "dict":=by
 rcases g with⟨aB,k,e,_,_⟩|⟨aB,k,b,e,_,_,_⟩
 .obtain⟨_,_,ag,_,cD⟩:=qe I.bP e;exact cD.typeIs
 .obtain⟨_,_,xs,_,cD⟩:=qg I.bP e;exact cD.typeIs
noncomputable def RG(ff ty:TE):TE:=λσ H Q=>ff σ H λx H1=>ty σ H1 λy aW=>∃a v,x=.ref a/\kK aW a y (some v)/\Q v aW
noncomputable def P0(ff ty rz:TE):gL:=λD σ H=>rz σ H λv H1=>ff σ H1 λx aW=>ty σ aW λy b2=>∃a iB,x=.ref a/\pM b2 a y v iB/\D.cV σ iB
section
variable{X:aV}{o i e value:Expr}{pos pos' So:Pos}{ff ty rz:TE}
def Ov(bQ:X.A.units+1<cLine)(ar:aR X o ff)(hi:aR X i ty)(ae:y3 i):aR X (.Subscript o i pos) (RG ff ty):=by
 intro pins s σ H Q I h;refine Rz PySem.F.slot_dict_getitem.lookup ae (bI (ar pins s σ H _ I h) λu s1 ⟨x,H1,a7,aY,aK⟩=>bI (hi pins s1 σ H1 _ a7 aK) λoS s2 ⟨y,aW,cx,bz,a,v,ex,g,a6⟩=>?_)
 subst ex;obtain rfl:u=Value.ref a:=aY;exact⟨H2 cx g,HV bQ cx g bz λdB s3 eo hx=>⟨v,aW,eo,hx,a6⟩⟩
def O4(bQ:X.A.units+1<cLine)(ar:aR X o ff)(hi:aR X i ty)(aQ:aR X value rz)(ae:swapsWith value (some (.Subscript o i pos')) pos.line X.env=pure false):
  eU X (.Assign [.Subscript o i pos'] value pos) (P0 ff ty rz):=by
 intro pins s σ H D I h;refine wpAny_Assign_Subscript (bI (aQ pins s σ H _ I h) λr s1 ⟨v,H1,a7,bG,aK⟩=>bI (ar pins s1 σ H1 _ a7 aK) λu s2 ⟨x,aW,cx,aY,a6⟩=>bI (hi pins s2 σ aW _ cx a6) λoS s3 ⟨y,b2,eo,bz,a,iB,ex,g,bT⟩=>?_) ae
 subst ex;obtain rfl:u=Value.ref a:=aY;exact HY bQ eo g bz bG λs4 eL=>⟨σ,iB,eL,bT⟩
end
def Ia{P:Program}{w:World}{H:ax}(h:Heap)(af:sysModules<h.objs.size):ej P w H (h.push { cls:=.type "dict",data:=.dict #[] }) h.objs.size (.eu []) :=
 ⟨UH _,beq_eq_false_iff_ne.mpr (V3 (UZ af)),[],.nil,_,#[],0,UQ _ rfl,⟨rfl,rfl,rfl⟩,rfl,rfl,VL⟩
noncomputable def RI:TE:=λ_ H Q=>∀p,H p=none->Q (.ref p) (upd H p (.eu []))
section
variable{X:aV}{pos:Pos}
def Ox:aR X (.Dict [] [] pos) RI:=λpins s σ H Q I h =>
 wpAny_Dict_empty ⟨.ref s.heap.objs.size,_,I.laid (a:=s.heap.objs.size) (o:=.eu []) (t':=s.toks) (λ_ _ q=>UD _ q) (UE _) (Ia s.heap I.big),rfl,h _ (I.bP.fresh (UE _))⟩
end
structure Tv(X:aV)(o:Expr)(m:Str)(apos:Pos)(e:Expr)(fB:Pos):Prop where
 base:attributeBase o m X.env (eval o X.env)=eval o X.env
 v8:((backTo fB (starEach [e] X.env)).all (λx=>!x.1)&&(backToKw fB (keywordEach [] X.env)).all (λx=>x.1.isSome)
  && decide (([e]:List Expr).length+([]:List Keyword).length+(if ([]:List Keyword).isEmpty then 0 else 1)<30))=true
 line:(apos.endLine==fB.line)=true
 trees:backTo fB (starEach [e] X.env)=[(false,eval e X.env)]
structure M2(X:aV)(o:Expr)(m:Str)(apos:Pos)(e f:Expr)(fB:Pos):Prop where
 base:attributeBase o m X.env (eval o X.env)=eval o X.env
 v8:((backTo fB (starEach [e,f] X.env)).all (λx=>!x.1)&&(backToKw fB (keywordEach [] X.env)).all (λx=>x.1.isSome)
  && decide (([e,f]:List Expr).length+([]:List Keyword).length+(if ([]:List Keyword).isEmpty then 0 else 1)<30))=true
 line:(apos.endLine==fB.line)=true
 trees:backTo fB (starEach [e,f] X.env)=[(false,eval e X.env),(false,eval f X.env)]
noncomputable def y0(H:ax)(a:Addr):Prop:=(∃aB,jj H a (.gq aB))\/∃aB,jj H a (.eu aB)
def Mb{X:aV}{pins:List (Addr×Obj)}{σ:St}{H:ax}{s:Shared}{a:Addr}(I:Inv X pins σ H s)(d:y0 H a):
  s.TypeIs (.ref a) "dict"/\(∀b,Value.ref a=.ref b->∃bx,s.heap.get? b=some bx/\bx.dict=none)/\(a==sysModules)=false:=by
 rcases d with⟨aB,e⟩|⟨aB,e⟩
 .obtain⟨_,hd,ag,_,cD⟩:=qe I.bP e;refine⟨cD.typeIs,λb q=>?_,hd⟩
  cases q;obtain⟨bx,_,_,J,aa,_⟩:=cD;exact⟨bx,J,aa.2.1⟩
 .obtain⟨_,hd,xs,_,cD⟩:=qg I.bP e;refine⟨cD.typeIs,λb q=>?_,hd⟩
  cases q;obtain⟨bx,_,_,J,aa,_⟩:=cD;exact⟨bx,J,aa.2.1⟩
section
variable{X:aV}{pins:List (Addr×Obj)}{σ:St}{H:ax}{s:Shared}{a:Addr}{y d:V}{u r:Value}{o:Option V}{A:Around}{E:Value->Shared->Prop}
def HU{Q:Value->Shared->Prop}(bQ:A.units+1<cLine)(I:Inv X pins σ H s)(g:kK H a y o)(bz:RelV y u)(i7:RelV d r)(h:∀dB s',Inv X pins σ H s'->RelV (o.getD d) dB->Q dB s'):
  wpAny (model X.prog X.w) A (call (.builtin "dict.get") [.ref a,u,r]) Q E s:=by
 rcases g with⟨aB,k,e,fp,l⟩|⟨aB,k,b,e,fp,dY,l⟩
 .subst fp;obtain⟨z,hd,ag,rel,cD⟩:=qe I.bP e;refine call_meetsIn Xg cD.typeIs Yc (X1 _ _ _) (meets_dict_get_default (hv X.prog X.w) a (s9 bz) hd r) ⟨_,cD.mapOf,h _ _ (I.tok _) ?_⟩;rw[l];exact(rel.val k).getD i7
 .subst fp;cases (show u=Value.ref b from bz);obtain⟨z,hd,xs,rel,cD⟩:=qg I.bP e;refine call_meetsIn Xg cD.typeIs Yc (X1 _ _ _) (meetsH_dict_get_default (tupleKind (hv X.prog X.w)) a b hd r) ⟨XB bQ,k,xs,ta I.bP dY,cD,h _ _ (I.tok _) ?_⟩;rw[l];exact(rel.val k).getD i7
end
noncomputable def RH(ff ty ub:TE):TE:=λσ H Q=>ff σ H λx H1=>∃a,x=.ref a/\y0 H1 a/\ty σ H1 λy aW=>ub σ aW λz b2=>∃o,kK b2 a y o/\Q (o.getD z) b2
section
variable{X:aV}{o e f:Expr}{apos fB:Pos}{ff ty ub:TE}
def Ow(bQ:X.A.units+1<cLine)(ar:aR X o ff)(he:aR X e ty)(hf:aR X f ub)(m:M2 X o "get" apos e f fB):aR X (.Call (.Attribute o "get" apos) [e,f] [] fB) (RH ff ty ub):=by
 intro pins s σ H Q I h;refine wpAny_Call_method m.base m.v8 m.line PySem.F.plainAttrs_dict Xg PySem.F.type_dict_get (bI (ar pins s σ H _ I h) λu s1 ⟨x,H1,a7,aY,a,ex,d,aK⟩=>?_)
 subst ex;obtain rfl:u=Value.ref a:=aY;obtain⟨t1,di,_⟩:=Mb a7 d;refine⟨t1,di,?_⟩;rw[m.trees];refine Calls.callWith_builtin rfl (Calls.evalArgs_plain (VW (bI (he pins s1 σ H1 _ a7 aK) λoS s2 ⟨y,aW,cx,bz,a6⟩ =>
  VW (bI (hf pins s2 σ aW _ cx a6) λTL s3 ⟨z,b2,eo,PX,tE,g,bT⟩=>V9 ?_))))
 exact HU bQ eo g bz PX λdB s4 eL hx=>⟨_,b2,eL,hx,bT⟩
end
section
variable{X:aV}{pins:List (Addr×Obj)}{σ:St}{H:ax}{s:Shared}{a:Addr}{aB:List (Key×V)}{A:Around}{E:Value->Shared->Prop}
end
section
variable{X:aV}{pins:List (Addr×Obj)}{σ:St}{H:ax}{s:Shared}{a:Addr}{y:V}{u:Value}{A:Around}{E:Value->Shared->Prop}
end
end bE
end
set_option autoImplicit false
set_option linter.all false
set_option maxRecDepth 100000
set_option maxHeartbeats 8000000
local macro_rules | `(tactic| omega) => `(tactic| first | decide | assumption | exact Nat.le_trans (by assumption) (by decide) | exact Nat.lt_succ_of_le (by assumption) | exact Nat.le_of_succ_le_succ (by assumption) | exact Nat.le_succ_of_le (by assumption) | exact Nat.le_of_lt (by assumption) | exact Nat.not_le.mp (by assumption) | exact Nat.not_lt.mp (by assumption) | exact Int.le_trans (by assumption) (by decide) | lia)
section
namespace Den
open PySem
inductive R(α:Type) where
 |ok (a:α)
 |exc (c:Nat)
 |bad
noncomputable def R.bind{α β:Type}:R α->(α->R β)->R β
 |.ok a,f=>f a
 |.exc c,_=>.exc c
 |.bad,_=>.bad
noncomputable instance:Monad R where
 pure:=R.ok
 bind:=R.bind
def bb{α:Type}{a b:α}(h:a=b):a=b:=h
@[simp] theorem R.iu {α β:Type} (a:α) (f:α->R β):(R.ok a>>=f)=f a:=bb rfl
@[simp] theorem R.Jv {α β:Type} (c:Nat) (f:α->R β):(R.exc c>>=f)=R.exc c:=bb rfl
@[simp] theorem R.Tz {α β:Type} (f:α->R β):(R.bad>>=f)=R.bad:=bb rfl
@[simp] theorem R.Uk {α:Type} (a:α):(pure a:R α)=R.ok a:=rfl
inductive D where
 |cU
 |aM (b:Bool)
 |int (i:Int)
 |str (x:Str)
 |tup (xs:List D)
 |lst (xs:List D)
 |c2 (aB:List (List Int×Int))
 |eD (c:Nat)
mutual
noncomputable def e4:D->D->Bool
 |.cU,.cU=>true
 |.aM a,.aM b=>a==b
 |.aM a,.int j=>(if a then 1 else 0)==j
 |.int i,.aM b=>i==(if b then 1 else 0)
 |.int i,.int j=>i==j
 |.str x,.str y=>x==y
 |.tup xs,.tup ys=>kY xs ys
 |.lst xs,.lst ys=>kY xs ys
 |_,_=>false
noncomputable def kY:List D->List D->Bool
 |[],[]=>true
 |x::xs,y::ys=>e4 x y&&kY xs ys
 |_,_=>false
end
mutual
noncomputable def mr:D->D->Option Bool
 |.int i,.int j=>some (decide (i<j))
 |.tup xs,.tup ys=>nH xs ys
 |_,_=>none
noncomputable def nH:List D->List D->Option Bool
 |[],[]=>some false
 |[],_::_=>some true
 |_::_,[]=>some false
 |x::xs,y::ys=>if e4 x y then nH xs ys else mr x y
end
noncomputable def fa:Nat->D->Bool
 |0,.int _=>true
 |n+1,.tup xs=>xs.all (fa n)
 |_,_=>false
noncomputable def sY(x:D):List D->List D
 |[]=>[x]
 |y::ys=>if mr y x=some true then y::sY x ys else x::y::ys
noncomputable def gh:List D->List D
 |[]=>[]
 |x::xs=>sY x (gh xs)
noncomputable def h7:List D->List D
 |[]=>[]
 |x::xs=>if xs.any (e4 x) then h7 xs else x::h7 xs
noncomputable def nC:D->Bool
 |.tup (x::xs)=>fa 0 x&&xs.all (fa 0)
 |_=>false
noncomputable def gW(xs:List D):Bool:=xs.all (fa 0)||xs.all nC
noncomputable def SZ:Nat:=16777216
noncomputable def gj:Int:=18446744073709551616
noncomputable def sorted(xs:List D):R D:=if gW xs&&xs.length<=75 then .ok (.lst (gh xs)) else .bad
noncomputable def fG(xs:List D):R D:=if gW xs&&(h7 xs).length<=75 then .ok (.lst (gh (h7 xs))) else .bad
inductive Op where
 |add|sub|mul|fdiv|mod
inductive gC where
 |eq|ne|lt|le|gt|ge|is|nE|mem|lr
noncomputable def e3:Op->D->D->R D
 |.add,.int i,.int j=>.ok (.int (i+j))
 |.add,.str x,.str y=>if x.length+y.length<=SZ then .ok (.str (x++y)) else .bad
 |.add,.tup xs,.tup ys=>if xs.length+ys.length<=SZ then .ok (.tup (xs++ys)) else .bad
 |.add,.lst xs,.lst ys=>if xs.length+ys.length<=SZ then .ok (.lst (xs++ys)) else .bad
 |.sub,.int i,.int j=>.ok (.int (i-j))
 |.mul,.int i,.int j=>if (-gj<i/\i<gj)\/(-gj<j/\j<gj) then .ok (.int (i*j)) else .bad
 |.mul,.tup xs,.int j=>if 2<=j/\xs≠[]/\xs.length*j.toNat<=SZ/\j<1000 then .ok (.tup (List.replicate j.toNat xs).flatten) else .bad
 |.fdiv,.int i,.int j=>if 0<j/\j<1073741824 then .ok (.int (i / j)) else .bad
 |.mod,.int i,.int j=>if 0<j then .ok (.int (i%j)) else .bad
 |_,_,_=>.bad
noncomputable def i3:R Bool->R Bool
 |.ok b=>.ok (!b)
 |.exc c=>.exc c
 |.bad=>.bad
noncomputable def cQ:Nat->D->Bool
 |_,.cU=>true
 |_,.aM _=>true
 |_,.int _=>true
 |_,.str x=>x.cps.all (· < 0x110000)
 |n+1,.tup xs=>xs.all (cQ n)
 |n+1,.lst xs=>xs.all (cQ n)
 |_,_=>false
noncomputable def e5(x y:D):R Bool:=if cQ 60 x&&cQ 60 y then .ok (e4 x y) else .bad
noncomputable def memD(x:D)(xs:List D):Bool:=xs.any λy=>e4 y x
noncomputable def gX(x:D)(ys:List D):R Bool:=if cQ 60 x&&ys.all (cQ 60) then .ok (memD x ys) else .bad
noncomputable def nD:D->D->R Bool
 |.cU,.cU=>.ok true
 |_,.cU=>.ok false
 |.aM a,.aM b=>.ok (a==b)
 |_,.aM _=>.ok false
 |_,_=>.bad
noncomputable def xR:Option Bool->R Bool
 |some b=>.ok b
 |none=>.bad
noncomputable def tf(x y:D):R Bool:=if (fa 0 x&&fa 0 y)||(fa 1 x&&fa 1 y) then xR (mr x y) else .bad
noncomputable def dm:gC->D->D->R Bool
 |.eq,x,y=>e5 x y
 |.ne,x,y=>i3 (e5 x y)
 |.lt,x,y=>tf x y
 |.gt,.int i,.int j=>.ok (decide (j<i))
 |.le,.int i,.int j=>.ok (decide (i<=j))
 |.ge,.int i,.int j=>.ok (decide (j<=i))
 |.is,x,y=>nD x y
 |.nE,x,y=>i3 (nD x y)
 |.mem,x,.tup ys=>gX x ys
 |.mem,x,.lst ys=>gX x ys
 |.lr,x,.tup ys=>i3 (gX x ys)
 |.lr,x,.lst ys=>i3 (gX x ys)
 |_,_,_=>.bad
noncomputable def iX(n:Nat)(i:Int):Option Nat:=if 0<=i then(if i<n then some i.toNat else none) else(if 0<=i+n then some (i+n).toNat else none)
noncomputable def hJ{α:Type}(xs:List α)(i:Int):Option α:=(iX xs.length i).bind (xs[·]?)
noncomputable def jJ:D->D->R D
 |.tup xs,.int i=>match hJ xs i with|some d=>.ok d|none=>.bad
 |.lst xs,.int i=>match hJ xs i with|some d=>.ok d|none=>.bad
 |.str x,.int i=>if x.length<=SZ then(match hJ x.cps.toList i with|some c=>.ok (.str ⟨#[c]⟩)|none=>.bad) else .bad
 |_,_=>.bad
noncomputable def bH(n d:Nat):Option Int->Nat
 |none=>d
 |some i=>if i<0 then(if i+n<0 then 0 else(i+n).toNat) else(if (n:Int)<i then n else i.toNat)
noncomputable def cut{α:Type}(xs:List α)(lo hi:Option Int):List α:=(xs.drop (bH xs.length 0 lo)).take (bH xs.length xs.length hi-bH xs.length 0 lo)
noncomputable def jR(d:D)(lo hi:Option Int):R D:=match d with
 |.tup xs=>.ok (.tup (cut xs lo hi))
 |.lst xs=>.ok (.lst (cut xs lo hi))
 |_=>.bad
noncomputable def km:D->R D
 |.tup xs=>.ok (.int xs.length)
 |.lst xs=>.ok (.int xs.length)
 |.str x=>if x.length<=SZ then .ok (.int x.length) else .bad
 |_=>.bad
inductive Ty where
 |int|bool|str|tuple|cls (c:Nat)
noncomputable abbrev gM:=Nat->List Nat
noncomputable def iW(up:gM)(d:D):Ty->R Bool
 |.int=>.ok (match d with|.int _=>true|.aM _=>true|_=>false)
 |.bool=>.ok (match d with|.aM _=>true|_=>false)
 |.str=>.ok (match d with|.str _=>true|_=>false)
 |.tuple=>.ok (match d with|.tup _=>true|_=>false)
 |.cls c=>match d with|.eD k=>.ok ((up k).contains c)|_=>.bad
noncomputable def dP:D->R (List D)
 |.tup xs=>.ok xs
 |.lst xs=>.ok xs
 |_=>.bad
noncomputable def ek(lo hi:Int):List D:=(List.range (hi-lo).toNat).map λk=>.int (lo+(k:Nat))
noncomputable def nP(i:Int):Bool:=decide (-4611686018427387904<=i/\i<4611686018427387904)
noncomputable def iv(i j:Int):R (List D):=if nP i&&nP j&&decide ((j-i).toNat<=1000000) then .ok (ek i j) else .bad
noncomputable def hh:Nat->List D->List D
 |_,[]=>[]
 |k,x::xs=>.tup [.int (k:Nat),x]::hh (k+1) xs
noncomputable def r5:D->R (List D)
 |.lst xs=>.ok (hh 0 xs)
 |_=>.bad
inductive eN where
 |len|inst (t:Ty)|sorted|fG|int
mutual
inductive E where
 |var (i:Nat)
 |lit (d:D)
 |glob (j:Nat)
 |tup (a:A)
 |lst (a:A)
 |bin (op:Op) (a b:E)
 |not (a:E)
 |cmp (op:gC) (a b:E)
 |qc (op op':gC) (a b c:E)
 |and (a b:E)
 |or (a b:E)
 |idx (a b:E)
 |slice (a:E) (lo hi:O)
 |call (f:Nat) (a:A)
 |prim (p:eN) (a:E)
 |tupI (s:I)
 |mq (s:I)
 |comp (elt:E) (k:Nat) (s:I) (c:O)
 |om (i j:Nat)
 |ot (i:Nat)
 |pw (a b:E)
inductive A where
 |nil
 |cons (e:E) (a:A)
inductive O where
 |none
 |some (e:E)
inductive I where
 |seq (e:E)
 |eS (a:E)
 |pj (a b:E)
 |enum (a:E)
end
noncomputable abbrev a0:=List (Option D)
noncomputable abbrev dC:=Nat->List D->R D
noncomputable def fA:Nat->D->R (List (Option D))
 |0,d=>.ok [some d]
 |k,.tup xs=>if xs.length=k then .ok (xs.map some) else .bad
 |_,_=>.bad
noncomputable def df(f:D->R (Option D)):List D->R (List D)
 |[]=>.ok []
 |d::ds=>f d>>=λo=>df f ds>>=λr=>match o with|some x=>.ok (x::r)|none=>.ok r
noncomputable def ir{α:Type}:R α->R α
 |.exc _=>.bad
 |r=>r
noncomputable def lx(up:gM):eN->D->R D
 |.len,d=>km d
 |.inst t,d=>iW up d t>>=λb=>.ok (.aM b)
 |.sorted,d=>dP d>>=λxs=>sorted xs
 |.fG,d=>dP d>>=λxs=>fG xs
 |.int,.aM b=>.ok (.int (if b then 1 else 0))
 |_,_=>.bad
noncomputable def uy(xs ys:List D):List D:=xs.filter (λx=>!ys.any (e4 x))++ys.filter (λy=>!xs.any (e4 y))
noncomputable def rC(xs ys:List D):R D:=if xs.all nC&&ys.all nC&&decide ((h7 (xs++ys)).length<=75) then .ok (.lst (gh (h7 (uy xs ys)))) else .bad
noncomputable def nZ(x y:D):R D:=dP x>>=λxs=>dP y>>=λys=>rC xs ys
noncomputable def intsOf:List D->Option (List Int)
 |[]=>some []
 |.int i::xs=>(intsOf xs).map (i::·)
 |_=>none
noncomputable def h2(aB:List (List Int×Int))(k:List Int):Option Int:=(aB.find? λp=>decide (p.1=k)).map (·.2)
noncomputable def putN(aB:List (List Int×Int))(k:List Int)(n:Int):List (List Int×Int):=if (aB.any λp=>decide (p.1=k))=true then aB.map (λp=>if p.1=k then(p.1,n) else p) else aB++[(k,n)]
noncomputable def keyOf:Option (Option D)->Option (List Int)
 |some (some (.tup ds))=>intsOf ds
 |_=>none
noncomputable def jr:Option (Option D)->Option (List (List Int×Int))
 |some (some (.c2 aB))=>some aB
 |_=>none
noncomputable def m1(o p:Option (Option D)):R D:=match jr o,keyOf p with
 |some aB,some k=>(match h2 aB k with|some n=>.ok (.int n)|none=>.bad)
 |_,_=>.bad
noncomputable def ou(o:Option (Option D)):R D:=match jr o with
 |some aB=>sorted (aB.map λp=>.tup (p.1.map .int))
 |none=>.bad
noncomputable def oo(o p:Option (Option D)):R D:=match jr o,keyOf p with
 |some aB,some k=>if aB.length<1000 then .ok (.c2 (putN aB k ((h2 aB k).getD 0+1))) else .bad
 |_,_=>.bad
noncomputable def te:Option (Option D)->R D
 |some (some (.lst ds))=>.ok (.lst ds)
 |_=>.bad
noncomputable def fW:D->R Bool
 |.aM b=>.ok b
 |_=>.bad
noncomputable def gN:D->R Int
 |.int i=>.ok i
 |_=>.bad
noncomputable def qs:Option (Option D)->R D
 |some (some d)=>.ok d
 |_=>.bad
noncomputable def wC:Option D->R D
 |some d=>.ok d
 |none=>.bad
structure dk where
 up:gM
 cs:List D
section
variable(pg:dk)(Φ:dC)
mutual
noncomputable def ev (C:a0):E->R D
 |.var i=>qs C[i]?
 |.lit d=>.ok d
 |.glob j=>wC pg.cs[j]?
 |.tup a=>hj C a>>=λds=>.ok (.tup ds)
 |.lst a=>hj C a>>=λds=>.ok (.lst ds)
 |.bin op a b=>ev C a>>=λx=>ev C b>>=λy=>e3 op x y
 |.not a=>ev C a>>=λx=>fW x>>=λb=>.ok (.aM (!b))
 |.cmp op a b=>ev C a>>=λx=>ev C b>>=λy=>dm op x y>>=λc=>.ok (.aM c)
 |.qc op op' a b c=>ev C a>>=λx=>ev C b>>=λy=>dm op x y>>=λk=>if k then ev C c>>=λz=>dm op' y z>>=λcB=>.ok (.aM cB) else .ok (.aM false)
 |.and a b=>ev C a>>=λx=>fW x>>=λk=>if k then ev C b else .ok (.aM false)
 |.or a b=>ev C a>>=λx=>fW x>>=λk=>if k then .ok (.aM true) else ev C b
 |.idx a b=>ev C a>>=λx=>ev C b>>=λy=>jJ x y
 |.slice a lo hi=>ev C a>>=λx=>l3 C lo>>=λl=>l3 C hi>>=λh=>jR x l h
 |.call f a=>hj C a>>=λds=>Φ f ds
 |.prim p a=>ev C a>>=λx=>lx pg.up p x
 |.tupI s=>gr C s>>=λds=>.ok (.tup ds)
 |.mq s=>gr C s>>=λds=>.ok (.lst ds)
 |.om i j=>m1 C[i]? C[j]?
 |.ot i=>ou C[i]?
 |.pw a b=>ev C a>>=λx=>ev C b>>=λy=>nZ x y
 |.comp e k s c=>gr C s>>=λds=>ir (df (λd=>fA k d>>=λag=>kZ (C++ag) c>>=λb=>if b then ev (C++ag) e>>=λy=>.ok (some y) else .ok none) ds)>>=λys=>.ok (.lst ys)
noncomputable def hj (C:a0):A->R (List D)
 |.nil=>.ok []
 |.cons e a=>ev C e>>=λx=>hj C a>>=λxs=>.ok (x::xs)
noncomputable def l3 (C:a0):O->R (Option Int)
 |.none=>.ok none
 |.some e=>ev C e>>=λx=>gN x>>=λi=>.ok (some i)
noncomputable def kZ (C:a0):O->R Bool
 |.none=>.ok true
 |.some e=>ev C e>>=λx=>fW x
noncomputable def gr (C:a0):I->R (List D)
 |.seq e=>ev C e>>=λx=>dP x
 |.eS a=>ev C a>>=λx=>gN x>>=λi=>iv 0 i
 |.pj a b=>ev C a>>=λx=>gN x>>=λi=>ev C b>>=λy=>gN y>>=λj=>iv i j
 |.enum a=>ev C a>>=λx=>r5 x
end
end
mutual
inductive S where
 |asg (i:Nat) (e:E)
 |app (i:Nat) (e:E)
 |m2 (i:Nat)
 |ri (i:Nat)
 |kW (i j:Nat)
 |ret (e:E)
 |iff (c:E) (a b:B)
 |hG (k:Nat) (ts:List Nat) (s:I) (b:B)
inductive B where
 |nil
 |cons (s:S) (b:B)
end
inductive fh where
 |cV (C:a0)
 |ec (d:D)
noncomputable def lz:List Nat->List (Option D)->a0->a0
 |i::is,v::ag,C=>lz is ag (C.set i v)
 |_,_,C=>C
noncomputable def forL(f:D->a0->R fh):List D->a0->R fh
 |[],C=>.ok (.cV C)
 |d::ds,C=>f d C>>=λr=>match r with
  |.cV dj=>forL f ds dj
  |.ec x=>.ok (.ec x)
noncomputable def rT:Option (Option D)->D->R D
 |some (some (.lst xs)),d=>if xs.length<SZ then .ok (.lst (xs++[d])) else .bad
 |_,_=>.bad
noncomputable def p9:Option (Option D)->R Unit
 |some (some (.lst _))=>.ok ()
 |_=>.bad
section
variable(pg:dk)(Φ:dC)
mutual
noncomputable def ex (C:a0):S->R fh
 |.asg i e=>ev pg Φ C e>>=λd=>.ok (.cV (C.set i (some d)))
 |.app i e=>p9 C[i]?>>=λ_=>ev pg Φ C e>>=λd=>rT C[i]? d>>=λx=>.ok (.cV (C.set i (some x)))
 |.ret e=>ev pg Φ C e>>=λd=>.ok (.ec d)
 |.ri i=>te C[i]?>>=λd=>.ok (.ec d)
 |.m2 i=>.ok (.cV (C.set i (some (.c2 []))))
 |.kW i j=>oo C[i]? C[j]?>>=λx=>.ok (.cV (C.set i (some x)))
 |.iff c a b=>ev pg Φ C c>>=λx=>fW x>>=λk=>if k then eC C a else eC C b
 |.hG k ts s b=>gr pg Φ C s>>=λds=>forL (λd dj=>fA k d>>=λag=>eC (lz ts ag dj) b) ds C
noncomputable def eC (C:a0):B->R fh
 |.nil=>.ok (.cV C)
 |.cons s b=>ex C s>>=λr=>match r with
  |.cV dj=>eC dj b
  |.ec d=>.ok (.ec d)
end
end
structure fJ where
 np:Nat
 nl:Nat
 body:B
noncomputable def start(fd:fJ)(ds:List D):a0:=ds.map some++List.replicate fd.nl none
noncomputable def l1:R fh->R D
 |.ok (.ec d)=>.ok d
 |.ok (.cV _)=>.ok .cU
 |.exc c=>.exc c
 |.bad=>.bad
noncomputable def el(pg:dk)(Φ:dC)(fd:fJ)(ds:List D):R D:=if ds.length=fd.np then l1 (eC pg Φ (start fd ds) fd.body) else .bad
noncomputable def run(pg:dk)(fds:List fJ):Nat->dC
 |0=>λ_ _=>.bad
 |n+1=>λf ds=>match fds[f]? with
  |some fd=>el pg (run pg fds n) fd ds
  |none=>.bad
def rk(pg:dk)(fds:List fJ)(n f:Nat)(ds:List D):run pg fds (n+1) f ds=(match fds[f]? with|some fd=>el pg (run pg fds n) fd ds|none=>.bad):=rfl
end Den
end
section
namespace Den
open PySem
structure Gt where
 fns:List Str
 cls:List Str
 l7:List Str
structure b4 where
 N:List Str
 sc:Scope
 ak:List Nat
noncomputable def kI(sc:Scope)(x:Str):Bool:=sc.names.lookup x==some .local||sc.names.lookup x==some .cell||sc.names.lookup x==some .free
noncomputable def jM(sc:Scope)(x:Str):Bool:=sc.names.lookup x==some .local||sc.names.lookup x==some .cell
noncomputable def l8(sc:Scope)(x:Str):Bool:=sc.names.lookup x==some .globalImplicit
noncomputable def okN(x:Str):Bool:=!(x==("__debug__":Str))&&!(x==("__classdict__":Str))&&!(x==("__name__":Str))
noncomputable def C1:Op->Operator->Bool
 |.add,.Add=>true|.sub,.Sub=>true|.mul,.Mult=>true|.fdiv,.FloorDiv=>true|.mod,.Mod=>true
 |_,_=>false
noncomputable def rX:gC->CmpOp->Bool
 |.is,.Is=>true|.nE,.IsNot=>true|.mem,.In=>true|.lr,.NotIn=>true|.eq,.Eq=>true|.ne,.NotEq=>true|.lt,.Lt=>true|.le,.LtE=>true|.gt,.Gt=>true|.ge,.GtE=>true
 |_,_=>false
noncomputable def litOk:D->Const->Bool
 |.cU,.none=>true
 |.aM a,.bool b=>a==b
 |.int i,.int j=>i==j
 |.str x,.str y=>x==y
 |_,_=>false
noncomputable def tyName:Ty->Str
 |.int=>"int"|.bool=>"bool"|.str=>"str"|.tuple=>"tuple"|.cls _=>""
noncomputable def rd:eN->Str
 |.len=>"len"|.sorted=>"sorted"|.int=>"int"|_=>""
noncomputable def rf:eN->Bool
 |.len=>true|.sorted=>true|.int=>true|_=>false
noncomputable def nameOf:Expr->Option Str
 |.Name x _=>some x
 |_=>none
noncomputable def namesOf:List Expr->Option (List Str)
 |[]=>some []
 |e::ab=>match nameOf e,namesOf ab with|some x,some xs=>some (x::xs)|_,_=>none
noncomputable def eT:Nat->Expr->Option (List Str)
 |0,.Name x _=>some [x]
 |k+1,.Tuple ab _ _=>match namesOf ab with|some xs=>if xs.length=k+1 then some xs else none|none=>none
 |_,_=>none
noncomputable def mask(N xs:List Str):List Str:=N.map λn=>if xs.contains n then(((".":Str))++n) else n
noncomputable def mC:I->Bool
 |.enum _=>true
 |_=>false
noncomputable def tW:I->Bool
 |.seq _=>true
 |.eS _=>true
 |_=>false
noncomputable def CP:Expr->Bool
 |.ListComp ..=>false
 |_=>true
noncomputable def ee(g:Gt)(sc:Scope)(x:Str):Bool:=l8 sc x&&!(g.fns.contains x)&&!(g.cls.contains x)&&!(g.l7.contains x)
noncomputable def h1:Expr->Option Str
 |.Name x _=>some x
 |_=>none
noncomputable def um:Expr->Option Const
 |.Constant c _ _=>some c
 |_=>none
noncomputable def Ff:Expr->Option (List Expr)
 |.Tuple ab _ _=>some ab
 |_=>none
noncomputable def Fc:Expr->Option (List Expr)
 |.List ab _=>some ab
 |_=>none
noncomputable def ui:Expr->Option (Expr×Operator×Expr)
 |.BinOp x o y _=>some (x,o,y)
 |_=>none
noncomputable def Fg:Expr->Option (UnaryOp×Expr)
 |.UnaryOp o x _=>some (o,x)
 |_=>none
noncomputable def yI:Expr->Option (Expr×List CmpOp×List Expr)
 |.Compare x os ys _=>some (x,os,ys)
 |_=>none
noncomputable def vBool:Expr->Option (BoolOp×List Expr×Pos)
 |.BoolOp o ab p=>some (o,ab,p)
 |_=>none
noncomputable def uq:Expr->Option (Expr×Expr)
 |.Subscript x y _=>some (x,y)
 |_=>none
noncomputable def Fe:Expr->Option (Option Expr×Option Expr×Option Expr)
 |.Slice l h t _=>some (l,h,t)
 |_=>none
noncomputable def uk:Expr->Option (Expr×List Expr×List Keyword)
 |.Call f ab ks _=>some (f,ab,ks)
 |_=>none
noncomputable def hZ(x:Expr):Option (Str×List Expr):=match uk x with
 |some (f,ab,[])=>(match h1 f with|some y=>some (y,ab)|none=>none)
 |_=>none
noncomputable def yF:Expr->Option (Expr×Str×Pos)
 |.Attribute o n p=>some (o,n,p)
 |_=>none
noncomputable def E9:Expr->Option (Expr×List Comprehension×Scope)
 |.ListComp x kc sc _=>some (x,kc,sc)
 |_=>none
noncomputable def tyB(g:Gt)(ct:b4)(n:Str):Ty->Bool
 |.cls c=>l8 ct.sc n&&okN n&&(if c=1000 then n==("ValueError":Str)&&ee g ct.sc n else g.cls[c]?==some n)
 |t=>n==tyName t&&ee g ct.sc n
noncomputable def ur(g:Gt)(ct:b4)(x:Str)(t:Ty)(e y:Expr):Option Expr:=match h1 y with
 |some n=>if x==("isinstance":Str)&&ee g ct.sc x&&tyB g ct n t then some e else none
 |none=>none
noncomputable def uu(g:Gt)(ct:b4)(x:Str)(e:Expr):Option Expr:=match hZ e with
 |some (y,[a])=>if x==("sorted":Str)&&ee g ct.sc x&&y==("set":Str)&&ee g ct.sc y then some a else none
 |_=>none
noncomputable def Fn(g:Gt)(ct:b4)(x:Str)(p:eN)(ab:List Expr):Option Expr:=match p with
 |.inst t=>(match ab with|[e,y]=>ur g ct x t e y|_=>none)
 |.fG=>(match ab with|[e]=>uu g ct x e|_=>none)
 |p=>(match ab with|[e]=>if rf p&&x==rd p&&ee g ct.sc x then some e else none|_=>none)
noncomputable def p5(ct:b4)(sc:Scope)(xs:List Str):Bool:=decide (sc.kind=.function)&&sc.names.all (λy=>y.2 != .cell)&&sc.names.all (λy=>y.2 != .local||sc.names.lookup y.1==some .local)
 && xs.all (λy=>sc.names.lookup y==some .local&&okN y)&&decide xs.Nodup&&sc.names.all (λy=>y.2 != .local||xs.contains y.1||y.1==(".0":Str))
 && sc.names.all (λy=>y.2 != .free||(ct.sc.names.lookup y.1==some .cell||ct.sc.names.lookup y.1==some .free))&&((mask ct.N xs).zip ct.N).all (λp=>p.1==p.2||sc.names.lookup p.1==none)&&decide (mask ct.N xs++xs).Nodup&&!((mask ct.N xs++xs).contains (".0":Str))
noncomputable def isVar:E->Bool
 |.var _=>true
 |_=>false
noncomputable def o5(ct:b4)(i:Nat)(n:Str):Bool:=ct.N[i]?==some n&&kI ct.sc n&&okN n&&ct.ak.contains i
noncomputable def tI(ct:b4)(i:Nat)(n:Str):Bool:=ct.N[i]?==some n&&kI ct.sc n&&okN n&&!ct.ak.contains i
noncomputable def uo(z:Expr):Option (Str×Str):=match uq z with
 |some (x,y)=>(match h1 x,h1 y with|some n,some k=>some (n,k)|_,_=>none)
 |none=>none
noncomputable def yN(z:Expr):Option (Str×Str×Expr×Str×Expr):=match hZ z with
 |some (x,[e])=>(match ui e with
  |some (l,.BitXor,r)=>(match hZ l,hZ r with|some (y,[c]),some (g4,[cO])=>some (x,y,c,g4,cO)|_,_=>none)
  |_=>none)
 |_=>none
noncomputable def yL(z:Expr):Option (Str×Str):=match hZ z with
 |some (x,[e])=>(match h1 e with|some n=>some (x,n)|none=>none)
 |_=>none
section
variable(g:Gt)
mutual
noncomputable def bX (ct:b4) (v:Bool):E->Expr->Bool
 |.var i,z=>(match h1 z with|some x=>ct.N[i]?==some x&&kI ct.sc x&&okN x&&(v||!ct.ak.contains i)|none=>false)
 |.lit d,z=>(match um z with|some c=>litOk d c|none=>false)
 |.glob j,z=>(match h1 z with|some x=>g.l7[j]?==some x&&l8 ct.sc x&&okN x|none=>false)
 |.tup a,z=>(match Ff z with|some ab=>lX ct a ab&&decide (ab.length<=1000)|none=>false)
 |.lst a,z=>(match Fc z with|some ab=>lX ct a ab&&decide (ab.length<=1000)|none=>false)
 |.bin op a b,z=>(match ui z with|some (x,o,y)=>C1 op o&&bX ct true a x&&bX ct true b y|none=>false)
 |.not a,z=>(match Fg z with|some (.Not,x)=>bX ct true a x|_=>false)
 |.cmp op a b,z=>(match yI z with|some (x,[o],[y])=>rX op o&&bX ct true a x&&bX ct true b y|_=>false)
 |.qc op op' a b c,z=>(match yI z with|some (x,[o,bN],[y,w])=>rX op o&&rX op' bN&&bX ct true a x&&bX ct true b y&&bX ct true c w|_=>false)
 |.and a b,z=>(match vBool z with|some (.And,[x,y],_)=>bX ct true a x&&bX ct v b y|some (.And,x::y::w::r,p)=>bX ct true a x&&bX ct v b (.BoolOp .And (y::w::r) p)|_=>false)
 |.or a b,z=>(match vBool z with|some (.Or,[x,y],_)=>bX ct true a x&&bX ct v b y|some (.Or,x::y::w::r,p)=>bX ct true a x&&bX ct v b (.BoolOp .Or (y::w::r) p)|_=>false)
 |.idx a b,z=>(match uq z with|some (x,y)=>bX ct true a x&&bX ct true b y|none=>false)
 |.slice a lo hi,z=>(match uq z with|some (x,y)=>(match Fe y with|some (l,h,none)=>bX ct true a x&&qa ct lo l&&qa ct hi h|_=>false)|none=>false)
 |.call f a,z=>(match hZ z with|some (x,ab)=>g.fns[f]?==some x&&l8 ct.sc x&&okN x&&!ab.isEmpty&&lX ct a ab|none=>false)
 |.prim p a,z=>(match hZ z with|some (x,ab)=>(match Fn g ct x p ab with|some e=>bX ct true a e|none=>false)|none=>false)
 |.tupI s,z=>(match hZ z with|some (x,[e])=>x==("tuple":Str)&&ee g ct.sc x&&tW s&&fY ct true s e|_=>false)
 |.mq s,z=>(match hZ z with|some (x,[e])=>x==("list":Str)&&ee g ct.sc x&&tW s&&fY ct true s e|_=>false)
 |.comp e k s c,z=>(match E9 z with
   |some (x,[⟨t,it,ifs,0⟩],sc)=>(match eT k t with
    |some xs=>(!mC s||k==2)&&p5 ct sc xs&&fY ct true s it&&bX ⟨mask ct.N xs++xs,sc,ct.ak⟩ false e x&&mT ⟨mask ct.N xs++xs,sc,ct.ak⟩ c ifs
    |none=>false)
   |_=>false)
 |.om i j,z=>(match uo z with|some (n,k)=>o5 ct i n&&tI ct j k|none=>false)
 |.ot i,z=>(match yL z with|some (x,n)=>x==("sorted":Str)&&ee g ct.sc x&&o5 ct i n|none=>false)
 |.pw a b,z=>(match yN z with|some (x,y,c,g4,cO)=>x==("sorted":Str)&&ee g ct.sc x&&y==("set":Str)&&ee g ct.sc y&&g4==("set":Str)&&isVar b&&bX ct true a c&&bX ct true b cO|none=>false)
noncomputable def lX (ct:b4):A->List Expr->Bool
 |.nil,[]=>true
 |.cons e a,x::xs=>bX ct false e x&&lX ct a xs
 |_,_=>false
noncomputable def qa (ct:b4):O->Option Expr->Bool
 |.none,none=>true
 |.some e,some x=>bX ct true e x
 |_,_=>false
noncomputable def mT (ct:b4):O->List Expr->Bool
 |.none,[]=>true
 |.some e,[x]=>bX ct true e x
 |_,_=>false
noncomputable def fY (ct:b4) (v:Bool):I->Expr->Bool
 |.seq e,z=>bX ct v e z
 |.eS a,z=>(match hZ z with|some (x,[y])=>x==("range":Str)&&ee g ct.sc x&&bX ct true a y|_=>false)
 |.pj a b,z=>(match hZ z with|some (x,[y,w])=>x==("range":Str)&&ee g ct.sc x&&bX ct true a y&&bX ct true b w|_=>false)
 |.enum a,z=>(match hZ z with|some (x,[y])=>x==("enumerate":Str)&&ee g ct.sc x&&bX ct v a y|_=>false)
end
noncomputable def ia:E->Bool
 |.lst _=>true
 |.comp ..=>true
 |.bin .add _ _=>true
 |.bin .mul _ _=>true
 |.prim .sorted _=>true
 |.prim .fG _=>true
 |.mq _=>true
 |.ot _=>true
 |.pw _ _=>true
 |_=>false
noncomputable def oh(ct:b4):List Nat->List Str->Bool
 |[],[]=>true
 |i::is,x::xs=>ct.N[i]?==some x&&jM ct.sc x&&okN x&&!ct.ak.contains i&&oh ct is xs
 |_,_=>false
noncomputable def pz:Stmt->Option (List Expr×Expr)
 |.Assign ts y _=>some (ts,y)
 |_=>none
noncomputable def EP:Stmt->Option Expr
 |.Expr y _=>some y
 |_=>none
noncomputable def rr:Stmt->Option (Option Expr)
 |.Return y _=>some y
 |_=>none
noncomputable def yz:Stmt->Option (Expr×List Stmt×List Stmt)
 |.If t x y _=>some (t,x,y)
 |_=>none
noncomputable def t7:Stmt->Option (Expr×Expr×List Stmt×List Stmt)
 |.For t it x y _=>some (t,it,x,y)
 |_=>none
noncomputable def yE(z:Expr):Option (Str×Str×Pos×Expr):=match uk z with
 |some (f,[y],[])=>(match yF f with
  |some (o,n,ap)=>(match h1 o with|some x=>some (x,n,ap,y)|none=>none)
  |none=>none)
 |_=>none
noncomputable def vx(ct:b4)(i:Nat)(e:E)(z:Stmt):Bool:=match pz z with
 |some ([t],y)=>(match h1 t with|some x=>ct.N[i]?==some x&&jM ct.sc x&&okN x&&(!ct.ak.contains i||ia e)&&bX g ct false e y|none=>false)
 |_=>false
noncomputable def vA(ct:b4)(i:Nat)(e:E)(nm:Str)(z:Stmt):Bool:=match EP z with
 |some c=>(match yE c with|some (x,n,ap,y)=>(ap.endLine==c.pos.line)&&ct.N[i]?==some x&&kI ct.sc x&&okN x&&ct.ak.contains i&&n==nm&&bX g ct false e y|none=>false)
 |none=>false
noncomputable def B8:Expr->Bool
 |.Dict [] [] _=>true
 |_=>false
noncomputable def vz(ct:b4)(i:Nat)(z:Stmt):Bool:=match pz z with
 |some ([t],y)=>(match h1 t with|some x=>ct.N[i]?==some x&&jM ct.sc x&&okN x&&ct.ak.contains i&&B8 y|none=>false)
 |_=>false
noncomputable def yK(z:Expr):Option (Str×Str×Pos):=match uk z with
 |some (f,[k,o],[])=>(match yF f with
  |some (d,n,ap)=>(match h1 d,h1 k,um o with|some x,some y,some (.int i)=>if n==("get":Str)&&i==0 then some (x,y,ap) else none|_,_,_=>none)
  |none=>none)
 |_=>none
noncomputable def vy(ct:b4)(i j:Nat)(z:Stmt):Bool:=match pz z with
 |some ([t],v)=>(match uo t with
  |some (x,y)=>(match ui v with
   |some (c,.Add,one)=>(match yK c,um one with|some (iz,g4,ap),some (.int n)=>n==1&&iz==x&&g4==y&&o5 ct i x&&tI ct j y&&(ap.endLine==c.pos.line)|_,_=>false)
   |_=>false)
  |none=>false)
 |_=>false
mutual
noncomputable def mU (ct:b4):S->Stmt->Bool
 |.asg i e,z=>vx g ct i e z
 |.app i e,z=>vA g ct i e "append" z
 |.ret e,z=>(match rr z with|some (some y)=>bX g ct false e y|_=>false)
 |.ri i,z=>(match rr z with|some (some y)=>(match h1 y with|some x=>o5 ct i x|none=>false)|_=>false)
 |.iff c a b,z=>(match yz z with|some (t,x,y)=>bX g ct true c t&&j6 ct a x&&j6 ct b y|none=>false)
 |.hG k ts s b,z=>(match t7 z with|some (t,it,x,[])=>(match eT k t with|some xs=>(!mC s||k==2)&&oh ct ts xs&&decide ts.Nodup&&fY g ct false s it&&j6 ct b x|none=>false)|_=>false)
 |.m2 i,z=>vz ct i z
 |.kW i j,z=>vy ct i j z
noncomputable def j6 (ct:b4):B->List Stmt->Bool
 |.nil,[]=>true
 |.cons s b,x::xs=>mU ct s x&&j6 ct b xs
 |_,_=>false
end
mutual
noncomputable def Nz:S->List Nat
 |.app j _=>[j]
 |.m2 j=>[j]
 |.kW j _=>[j]
 |.iff _ a b=>kp a++kp b
 |.hG _ _ _ b=>kp b
 |_=>[]
noncomputable def kp:B->List Nat
 |.nil=>[]
 |.cons s b=>Nz s++kp b
end
noncomputable def lY(N:List Str)(fd:fJ):Stmt->Bool
 |.FunctionDef name args body [] none [] sc none bind _ =>
   decide (sc.kind=.function)&&!sc.isCoroutine&&!sc.isGenerator&&decide N.Nodup&&N.length==fd.np+fd.nl
   && (args.args.map (·.arg))==N.take fd.np&&args.posonlyargs.isEmpty&&args.vararg.isNone&&args.kwonlyargs.isEmpty&&args.kwarg.isNone&&args.defaults.isEmpty&&args.kw_defaults.isEmpty
   && (N.take fd.np).all (λx=>jM sc x)&&sc.names.all (λy=>y.2 != .free)
   && (kp fd.body).all (λi=>decide (fd.np<=i)&&decide (i<N.length))&&j6 g ⟨N,sc,kp fd.body⟩ fd.body body
 |_=>false
end
end Den
end
section
namespace cb
open PySem Den
noncomputable def vr :B:=.cons (.ret (.tupI (.seq (.pw (.var 0) (.var 1))))) (.nil)
noncomputable def vq :B:=.cons (.ret (.comp (.bin .add (.slice (.var 0) (.none) (.some (.var 1))) (.slice (.var 0) (.some (.bin .add (.var 1) (.lit (.int 1)))) (.none))) 0 (.eS (.prim .len (.var 0))) (.some (.cmp .gt (.prim .len (.var 0)) (.lit (.int 1)))))) (.nil)
noncomputable def vp(sd:Nat)(Jy:Nat):B:=.cons (.asg 1 (.tup (.nil))) (.cons (.hG 0 [2] (.seq (.var 0)) (.cons (.asg 1 (.call sd (.cons (.var 1) (.cons (.call Jy (.cons (.var 2) (.nil))) (.nil))))) (.nil))) (.cons (.ret (.var 1)) (.nil)))
noncomputable def va(m6:Nat):B:=.cons (.ret (.cmp .eq (.call m6 (.cons (.var 0) (.nil))) (.tup (.nil)))) (.nil)
noncomputable def vc :B:=.cons (.iff (.cmp .lt (.var 1) (.prim .len (.var 0))) (.cons (.ret (.idx (.var 0) (.var 1))) (.nil)) (.nil)) (.cons (.ret (.lit (.int 0))) (.nil))
noncomputable def vi(JB:Nat):B:=.cons (.asg 2 (.bin .mod (.bin .mul (.bin .add (.bin .add (.call JB (.cons (.var 0) (.cons (.var 1) (.nil)))) (.bin .mul (.lit (.int 7919)) (.var 1))) (.lit (.int 1))) (.lit (.int 48271))) (.lit (.int 2147483647)))) (.cons (.ret (.bin .mod (.bin .add (.bin .add (.bin .mul (.var 2) (.var 2)) (.bin .mul (.lit (.int 7)) (.var 2))) (.var 1)) (.lit (.int 2147483629)))) (.nil))
noncomputable def ve :B:=.cons (.asg 2 (.bin .mod (.bin .mul (.bin .add (.bin .add (.var 0) (.bin .mul (.lit (.int 104729)) (.var 1))) (.lit (.int 17))) (.lit (.int 69621))) (.lit (.int 2147483647)))) (.cons (.ret (.bin .mod (.bin .add (.bin .add (.bin .mul (.var 2) (.var 2)) (.bin .mul (.lit (.int 3)) (.var 2))) (.var 1)) (.lit (.int 2147483629)))) (.nil))
noncomputable def vh :B:=.cons (.ret (.cmp .eq (.comp (.var 2) 0 (.seq (.var 0)) (.some (.cmp .lr (.var 2) (.var 1)))) (.lst (.nil)))) (.nil)
noncomputable def vo(JH:Nat):B:=.cons (.asg 1 (.lst (.nil))) (.cons (.hG 0 [2] (.seq (.prim .fG (.var 0))) (.cons (.iff (.cmp .eq (.comp (.var 3) 0 (.seq (.var 0)) (.some (.and (.cmp .ne (.var 2) (.var 3)) (.call JH (.cons (.var 2) (.cons (.var 3) (.nil))))))) (.lst (.nil))) (.cons (.app 1 (.var 2)) (.nil)) (.nil)) (.nil))) (.cons (.ret (.tupI (.seq (.var 1)))) (.nil)))
noncomputable def od(qo:Nat):B:=.cons (.iff (.cmp .eq (.var 1) (.lit (.int 0))) (.cons (.ret (.lst (.cons (.tup (.nil)) (.nil)))) (.nil)) (.nil)) (.cons (.asg 2 (.lst (.nil))) (.cons (.hG 0 [3] (.eS (.prim .len (.var 0))) (.cons (.asg 2 (.bin .add (.var 2) (.comp (.bin .add (.tup (.cons (.idx (.var 0) (.var 3)) (.nil))) (.var 4)) 0 (.seq (.call qo (.cons (.slice (.var 0) (.some (.bin .add (.var 3) (.lit (.int 1)))) (.none)) (.cons (.bin .sub (.var 1) (.lit (.int 1))) (.nil))))) (.none)))) (.nil))) (.cons (.ret (.var 2)) (.nil))))
noncomputable def vm(ql:Nat):B:=.cons (.asg 2 (.comp (.tup (.cons (.var 6) (.nil))) 0 (.eS (.var 1)) (.none))) (.cons (.hG 0 [3] (.eS (.bin .mod (.var 0) (.lit (.int 9)))) (.cons (.asg 4 (.call ql (.cons (.var 0) (.cons (.var 3) (.nil))))) (.cons (.asg 5 (.tupI (.seq (.comp (.var 6) 0 (.eS (.var 1)) (.some (.cmp .lt (.bin .mod (.call ql (.cons (.var 4) (.cons (.var 6) (.nil)))) (.lit (.int 5))) (.bin .add (.lit (.int 2)) (.bin .mod (.var 4) (.lit (.int 2)))))))))) (.cons (.iff (.cmp .ne (.var 5) (.tup (.nil))) (.cons (.app 2 (.var 5)) (.nil)) (.nil)) (.nil))))) (.cons (.ri 2) (.nil)))
noncomputable def vj(JU:Nat)(qo:Nat)(JT:Nat):B:=.cons (.asg 2 (.bin .add (.lit (.int 1)) (.bin .mod (.var 0) (.var 1)))) (.cons (.asg 3 (.bin .mod (.bin .fdiv (.var 0) (.lit (.int 12))) (.lit (.int 8)))) (.cons (.iff (.cmp .eq (.var 3) (.lit (.int 0))) (.cons (.asg 4 (.call qo (.cons (.tupI (.eS (.var 2))) (.cons (.bin .add (.lit (.int 1)) (.bin .mod (.bin .fdiv (.var 0) (.lit (.int 96))) (.var 2))) (.nil))))) (.nil)) (.cons (.iff (.and (.cmp .eq (.var 3) (.lit (.int 1))) (.cmp .gt (.var 1) (.lit (.int 5)))) (.cons (.asg 2 (.lit (.int 6))) (.cons (.asg 4 (.comp (.tup (.cons (.lit (.int 0)) (.cons (.bin .add (.lit (.int 1)) (.var 5)) (.cons (.bin .add (.lit (.int 1)) (.bin .mod (.bin .add (.var 5) (.lit (.int 1))) (.lit (.int 5)))) (.nil))))) 0 (.eS (.lit (.int 5))) (.none))) (.cons (.asg 4 (.bin .add (.var 4) (.comp (.tup (.cons (.bin .add (.lit (.int 1)) (.var 5)) (.cons (.bin .add (.lit (.int 1)) (.bin .mod (.bin .add (.var 5) (.lit (.int 1))) (.lit (.int 5)))) (.cons (.bin .add (.lit (.int 1)) (.bin .mod (.bin .add (.var 5) (.lit (.int 3))) (.lit (.int 5)))) (.nil))))) 0 (.eS (.lit (.int 5))) (.none)))) (.nil)))) (.cons (.iff (.and (.cmp .eq (.var 3) (.lit (.int 2))) (.cmp .gt (.var 1) (.lit (.int 6)))) (.cons (.asg 2 (.lit (.int 7))) (.cons (.asg 4 (.comp (.tup (.cons (.var 5) (.cons (.bin .mod (.bin .add (.var 5) (.lit (.int 1))) (.lit (.int 7))) (.cons (.bin .mod (.bin .add (.var 5) (.lit (.int 3))) (.lit (.int 7))) (.nil))))) 0 (.eS (.lit (.int 7))) (.none))) (.cons (.asg 4 (.bin .add (.var 4) (.comp (.tup (.cons (.var 5) (.cons (.bin .mod (.bin .add (.var 5) (.lit (.int 2))) (.lit (.int 7))) (.cons (.bin .mod (.bin .add (.var 5) (.lit (.int 3))) (.lit (.int 7))) (.nil))))) 0 (.eS (.lit (.int 7))) (.none)))) (.nil)))) (.cons (.asg 4 (.call JT (.cons (.bin .fdiv (.var 0) (.lit (.int 96))) (.cons (.var 2) (.nil))))) (.nil))) (.nil))) (.nil))) (.cons (.ret (.tup (.cons (.var 2) (.cons (.call JU (.cons (.comp (.tupI (.seq (.prim .sorted (.var 5)))) 0 (.seq (.var 4)) (.none)) (.nil))) (.nil))))) (.nil))))
noncomputable def vd(qo:Nat):B:=.cons (.asg 2 (.lst (.nil))) (.cons (.hG 0 [3] (.seq (.idx (.var 0) (.lit (.int 1)))) (.cons (.asg 2 (.bin .add (.var 2) (.call qo (.cons (.var 3) (.cons (.bin .add (.var 1) (.lit (.int 1))) (.nil)))))) (.nil))) (.cons (.ret (.prim .fG (.var 2))) (.nil)))
noncomputable def vk :B:=.cons (.ret (.and (.prim (.inst .int) (.var 0)) (.and (.not (.prim (.inst .bool) (.var 0))) (.qc .le .le (.var 1) (.var 0) (.var 2))))) (.nil)
noncomputable def vf(JO:Nat):B:=.cons (.iff (.or (.not (.prim (.inst .tuple) (.var 0))) (.cmp .eq (.var 0) (.tup (.nil)))) (.cons (.ret (.lit (.aM false))) (.nil)) (.nil)) (.cons (.iff (.cmp .ne (.comp (.var 2) 0 (.seq (.var 0)) (.some (.not (.call JO (.cons (.var 2) (.cons (.lit (.int 0)) (.cons (.bin .sub (.var 1) (.lit (.int 1))) (.nil)))))))) (.lst (.nil))) (.cons (.ret (.lit (.aM false))) (.nil)) (.nil)) (.cons (.ret (.cmp .eq (.comp (.var 2) 0 (.pj (.lit (.int 1)) (.prim .len (.var 0))) (.some (.cmp .ge (.idx (.var 0) (.bin .sub (.var 2) (.lit (.int 1)))) (.idx (.var 0) (.var 2))))) (.lst (.nil)))) (.nil)))
noncomputable def vg(v5:Nat)(JG:Nat):B:=.cons (.iff (.or (.not (.prim (.inst .tuple) (.var 0))) (.cmp .ne (.comp (.var 3) 0 (.seq (.var 0)) (.some (.not (.call JG (.cons (.var 3) (.cons (.idx (.var 1) (.lit (.int 0))) (.nil))))))) (.lst (.nil)))) (.cons (.ret (.lit (.aM false))) (.nil)) (.nil)) (.cons (.ret (.cmp .eq (.mq (.seq (.var 0))) (.comp (.var 3) 0 (.seq (.call v5 (.cons (.var 1) (.cons (.var 2) (.nil))))) (.some (.cmp .mem (.var 3) (.var 0)))))) (.nil))
noncomputable def vl :B:=.cons (.m2 1) (.cons (.hG 0 [2] (.seq (.var 0)) (.cons (.hG 0 [3] (.eS (.bin .mul (.prim .len (.var 2)) (.prim .int (.cmp .gt (.prim .len (.var 2)) (.lit (.int 1)))))) (.cons (.asg 4 (.bin .add (.slice (.var 2) (.none) (.some (.var 3))) (.slice (.var 2) (.some (.bin .add (.var 3) (.lit (.int 1)))) (.none)))) (.cons (.kW 1 4) (.nil)))) (.nil))) (.cons (.ret (.tupI (.seq (.comp (.var 5) 0 (.seq (.ot 1)) (.some (.cmp .eq (.bin .mod (.om 1 5) (.lit (.int 2))) (.lit (.int 1)))))))) (.nil)))
noncomputable def vn :B:=.cons (.ret (.tupI (.seq (.prim .sorted (.comp (.var 2) 0 (.seq (.bin .add (.var 0) (.var 1))) (.some (.cmp .ne (.cmp .mem (.var 2) (.var 0)) (.cmp .mem (.var 2) (.var 1))))))))) (.nil)
noncomputable def vb(m6:Nat)(fsum:Nat)(Av:Nat)(AD:Nat)(l6:Nat)(sd:Nat)(ql:Nat)(sj:Nat)(v5:Nat)(JN:Nat):B:=.cons (.asg 1 (.call JN (.cons (.call sj (.cons (.var 0) (.cons (.lit (.int 0)) (.nil)))) (.cons (.lit (.int 8)) (.nil))))) (.cons (.asg 2 (.bin .mod (.call sj (.cons (.var 0) (.cons (.lit (.int 1)) (.nil)))) (.lit (.int 5)))) (.cons (.asg 3 (.call v5 (.cons (.var 1) (.cons (.var 2) (.nil))))) (.cons (.asg 4 (.tupI (.seq (.comp (.var 11) 2 (.enum (.var 3)) (.some (.cmp .eq (.bin .mod (.call ql (.cons (.call sj (.cons (.var 0) (.cons (.lit (.int 2)) (.nil)))) (.cons (.var 10) (.nil)))) (.lit (.int 3))) (.lit (.int 0)))))))) (.cons (.asg 5 (.tupI (.seq (.comp (.var 11) 2 (.enum (.var 3)) (.some (.cmp .eq (.bin .mod (.call ql (.cons (.call sj (.cons (.var 0) (.cons (.lit (.int 3)) (.nil)))) (.cons (.var 10) (.nil)))) (.lit (.int 2))) (.lit (.int 0)))))))) (.cons (.asg 6 (.call sd (.cons (.var 4) (.cons (.var 5) (.nil))))) (.cons (.iff (.or (.cmp .ne (.var 6) (.call fsum (.cons (.var 4) (.cons (.var 5) (.nil))))) (.or (.not (.call AD (.cons (.var 6) (.cons (.var 1) (.cons (.var 2) (.nil)))))) (.cmp .ne (.call sd (.cons (.var 4) (.cons (.var 4) (.nil)))) (.tup (.nil))))) (.cons (.ret (.lit (.aM false))) (.nil)) (.nil)) (.cons (.hG 0 [7] (.seq (.tup (.cons (.var 4) (.cons (.var 5) (.cons (.var 6) (.nil)))))) (.cons (.asg 8 (.call m6 (.cons (.var 7) (.nil)))) (.cons (.iff (.or (.cmp .ne (.var 8) (.call l6 (.cons (.var 7) (.nil)))) (.and (.cmp .gt (.var 2) (.lit (.int 0))) (.not (.call AD (.cons (.var 8) (.cons (.var 1) (.cons (.bin .sub (.var 2) (.lit (.int 1))) (.nil)))))))) (.cons (.ret (.lit (.aM false))) (.nil)) (.nil)) (.cons (.asg 9 (.call Av (.cons (.var 7) (.nil)))) (.cons (.iff (.or (.not (.prim (.inst .bool) (.var 9))) (.or (.cmp .ne (.var 9) (.cmp .eq (.var 8) (.tup (.nil)))) (.or (.cmp .nE (.call Av (.cons (.var 8) (.nil))) (.lit (.aM true))) (.cmp .ne (.call m6 (.cons (.var 8) (.nil))) (.tup (.nil)))))) (.cons (.ret (.lit (.aM false))) (.nil)) (.nil)) (.nil)))))) (.cons (.ret (.cmp .eq (.call m6 (.cons (.var 6) (.nil))) (.call fsum (.cons (.call m6 (.cons (.var 4) (.nil))) (.cons (.call m6 (.cons (.var 5) (.nil))) (.nil)))))) (.nil)))))))))
end cb
end
section
namespace fM
open PySem Den
noncomputable def fds:List fJ:=[
 ⟨2,0,cb.vr⟩,
 ⟨1,0,cb.vq⟩,
 ⟨1,2,cb.vp 0 1⟩,
 ⟨1,0,cb.va 2⟩,
 ⟨2,0,cb.vc⟩,
 ⟨2,1,cb.vi 4⟩,
 ⟨2,1,cb.ve⟩,
 ⟨2,0,cb.vh⟩,
 ⟨1,2,cb.vo 7⟩,
 ⟨2,2,cb.od 9⟩,
 ⟨2,4,cb.vm 6⟩,
 ⟨2,3,cb.vj 8 9 10⟩,
 ⟨2,2,cb.vd 9⟩,
 ⟨3,0,cb.vk⟩,
 ⟨2,0,cb.vf 13⟩,
 ⟨3,0,cb.vg 12 14⟩,
 ⟨1,4,cb.vl⟩,
 ⟨2,0,cb.vn⟩,
 ⟨1,9,cb.vb 2 17 3 15 16 0 6 5 12 11⟩]
noncomputable def cs:List D:=[]
noncomputable def up:gM:=λc=>match c with |_=>[]
noncomputable def pg:dk:=⟨up,cs⟩
noncomputable def CO:List (List Str):=[
 ["one","other"],
 ["cell"],
 ["chain","found","cell"],
 ["chain"],
 ["_law_script","_law_k"],
 ["_law_script","_law_k","_law_drawn_here"],
 ["_law_number_here","_law_k","_law_drawn_here"],
 ["_law_cell","_law_other"],
 ["_law_some_here","_law_found","_law_cell"],
 ["_law_cell","_law_size","_law_found","_law_at"],
 ["_law_number_here","_law_many","_law_found","_law_k","_law_drawn_here","_law_cell"],
 ["_law_number_here","_law_most","_law_many","_law_kind","_law_some_here"],
 ["_law_net_here","_law_height","_law_found","_law_top"],
 ["_law_thing","_law_low","_law_high"],
 ["_law_thing","_law_many"],
 ["_law_thing","_law_net_here","_law_height"],
 ["_law_chain","_law_counts","_law_cell","_law_at","_law_part"],
 ["_law_one","_law_other"],
 ["_law_script","_law_net_here","_law_height","_law_some_here","_law_one","_law_other","_law_whole","_law_chain","_law_found","_law_told"]]
noncomputable def gt:Gt:=⟨["sum_of","sides","rim","is_round","_law_cell_at","_law_mixed","_law_drawn","_law_lies","_law_tops","_law_parts","_law_some","_law_net","_law_cells","_law_number","_law_is_cell","_law_is_chain","_law_rim","_law_sum","law"],[],[]⟩
end fM
end
section
namespace Den
section
variable{pg:dk}{Φ:dC}{C:a0}
noncomputable def uZ(pg:dk)(Φ:dC)(C:a0)(r:R D)(b:E):R D:=r>>=λx=>fW x>>=λk=>if k then ev pg Φ C b else .ok (.aM false)
noncomputable def xT(pg:dk)(Φ:dC)(C:a0)(r:R D)(b:E):R D:=r>>=λx=>fW x>>=λk=>if k then .ok (.aM true) else ev pg Φ C b
noncomputable def tS(pg:dk)(Φ:dC)(r:R fh)(b:B):R fh:=r>>=λx=>match x with
 |.cV dj=>eC pg Φ dj b
 |.ec d=>.ok (.ec d)
noncomputable def xm(pg:dk)(Φ:dC)(C:a0)(r:R D)(a b:B):R fh:=r>>=λx=>fW x>>=λk=>if k then eC pg Φ C a else eC pg Φ C b
noncomputable def turn(pg:dk)(Φ:dC)(k:Nat)(ts:List Nat)(b:B)(d:D)(C:a0):R fh:=fA k d>>=λag=>eC pg Φ (lz ts ag C) b
noncomputable def elem(pg:dk)(Φ:dC)(C:a0)(e:E)(k:Nat)(c:O)(d:D):R (Option D):=fA k d>>=λag=>kZ pg Φ (C++ag) c>>=λb=>if b then ev pg Φ (C++ag) e>>=λy=>.ok (some y) else .ok none
def Ap(i:Nat){d:D}(h:C[i]?=some (some d)):ev pg Φ C (.var i)=.ok d:=Wm qs h
def r8(i:Nat):ev pg Φ C (.var i)=qs C[i]?:=bb rfl
def Jh{d:D}{r:a0}:ev pg Φ (some d::r) (.var 0)=.ok d:=bb rfl
def Ji{o:Option D}{r:a0}{i:Nat}:ev pg Φ (o::r) (.var (i+1))=ev pg Φ r (.var i):=bb rfl
def Am(d:D):ev pg Φ C (.lit d)=.ok d:=bb rfl
def I8(j:Nat){d:D}(h:pg.cs[j]?=some d):ev pg Φ C (.glob j)=.ok d:=Wm wC h
def Jg(a:A):ev pg Φ C (.tup a)=hj pg Φ C a>>=λds=>.ok (.tup ds):=bb rfl
def Ja(a:A):ev pg Φ C (.lst a)=hj pg Φ C a>>=λds=>.ok (.lst ds):=bb rfl
def I1(op:Op)(a b:E):ev pg Φ C (.bin op a b)=ev pg Φ C a>>=λx=>ev pg Φ C b>>=λy=>e3 op x y:=bb rfl
def Jb(a:E):ev pg Φ C (.not a)=ev pg Φ C a>>=λx=>fW x>>=λb=>.ok (.aM (!b)):=bb rfl
def I3(op:gC)(a b:E):ev pg Φ C (.cmp op a b)=ev pg Φ C a>>=λx=>ev pg Φ C b>>=λy=>dm op x y>>=λc=>.ok (.aM c):=bb rfl
def I4(op op':gC)(a b c:E):ev pg Φ C (.qc op op' a b c)=ev pg Φ C a>>=λx=>ev pg Φ C b>>=λy=>dm op x y>>=λk=>if k then ev pg Φ C c>>=λz=>dm op' y z>>=λcB=>.ok (.aM cB) else .ok (.aM false):=bb rfl
def I0(a b:E):ev pg Φ C (.and a b)=uZ pg Φ C (ev pg Φ C a) b:=bb rfl
def Jc(a b:E):ev pg Φ C (.or a b)=xT pg Φ C (ev pg Φ C a) b:=bb rfl
def I9(a b:E):ev pg Φ C (.idx a b)=ev pg Φ C a>>=λx=>ev pg Φ C b>>=λy=>jJ x y:=bb rfl
def Je(a:E)(lo hi:O):ev pg Φ C (.slice a lo hi)=ev pg Φ C a>>=λx=>l3 pg Φ C lo>>=λl=>l3 pg Φ C hi>>=λh=>jR x l h:=bb rfl
def I2(f:Nat)(a:A):ev pg Φ C (.call f a)=hj pg Φ C a>>=λds=>Φ f ds:=bb rfl
def Jd(p:eN)(a:E):ev pg Φ C (.prim p a)=ev pg Φ C a>>=λx=>lx pg.up p x:=bb rfl
def Ao(s:I):ev pg Φ C (.tupI s)=gr pg Φ C s>>=λds=>.ok (.tup ds):=bb rfl
def An(s:I):ev pg Φ C (.mq s)=gr pg Φ C s>>=λds=>.ok (.lst ds):=bb rfl
def I5(e:E)(k:Nat)(s:I)(c:O):ev pg Φ C (.comp e k s c)=gr pg Φ C s>>=λds=>ir (df (elem pg Φ C e k c) ds)>>=λys=>.ok (.lst ys):=bb rfl
def xO{α:Type}(a:α):ir (.ok a)=.ok a:=bb rfl
def Al:hj pg Φ C .nil=.ok []:=bb rfl
def Ak(e:E)(a:A):hj pg Φ C (.cons e a)=ev pg Φ C e>>=λx=>hj pg Φ C a>>=λxs=>.ok (x::xs):=bb rfl
def IY:l3 pg Φ C .none=.ok none:=bb rfl
def IZ(e:E):l3 pg Φ C (.some e)=ev pg Φ C e>>=λx=>gN x>>=λi=>.ok (some i):=bb rfl
def IT:kZ pg Φ C .none=.ok true:=bb rfl
def IU(e:E):kZ pg Φ C (.some e)=ev pg Φ C e>>=λx=>fW x:=bb rfl
def vY(e:E):gr pg Φ C (.seq e)=ev pg Φ C e>>=λx=>dP x:=bb rfl
def IW(a:E):gr pg Φ C (.eS a)=ev pg Φ C a>>=λx=>gN x>>=λi=>iv 0 i:=bb rfl
def IX(a b:E):gr pg Φ C (.pj a b)=ev pg Φ C a>>=λx=>gN x>>=λi=>ev pg Φ C b>>=λy=>gN y>>=λj=>iv i j:=bb rfl
def IA(xs:List D):r5 (.lst xs)=.ok (hh 0 xs):=bb rfl
def IV(a:E):gr pg Φ C (.enum a)=ev pg Φ C a>>=λx=>r5 x:=bb rfl
def Gl(b:Bool):fW (.aM b)=.ok b:=bb rfl
def Gm(i:Int):gN (.int i)=.ok i:=bb rfl
def QS(xs:List D):dP (.tup xs)=.ok xs:=bb rfl
def QR(xs:List D):dP (.lst xs)=.ok xs:=bb rfl
def GD(d:D):fA 0 d=.ok [some d]:=bb rfl
def GF(x y:D):fA 2 (.tup [x,y])=.ok [some x,some y]:=bb rfl
def F3(b:E):uZ pg Φ C (.ok (.aM true)) b=ev pg Φ C b:=bb rfl
def F2(b:E):uZ pg Φ C (.ok (.aM false)) b=.ok (.aM false):=bb rfl
def Oa(b:E):xT pg Φ C (.ok (.aM true)) b=.ok (.aM true):=bb rfl
def N9(b:E):xT pg Φ C (.ok (.aM false)) b=ev pg Φ C b:=bb rfl
def Jn:eC pg Φ C .nil=.ok (.cV C):=bb rfl
def Jm(s:S)(b:B):eC pg Φ C (.cons s b)=tS pg Φ (ex pg Φ C s) b:=bb rfl
def QO(b:B):tS pg Φ (.ok (.cV C)) b=eC pg Φ C b:=bb rfl
def QP(d:D)(b:B):tS pg Φ (.ok (.ec d)) b=.ok (.ec d):=bb rfl
def QN(c:Nat)(b:B):tS pg Φ (.exc c) b=.exc c:=bb rfl
def Aq(i:Nat)(e:E):ex pg Φ C (.asg i e)=ev pg Φ C e>>=λd=>.ok (.cV (C.set i (some d))):=bb rfl
def Jo(i:Nat)(e:E):ex pg Φ C (.app i e)=p9 C[i]?>>=λ_=>ev pg Φ C e>>=λd=>rT C[i]? d>>=λx=>.ok (.cV (C.set i (some x))):=bb rfl
def Ju(i:Nat):ex pg Φ C (.ri i)=te C[i]?>>=λd=>.ok (.ec d):=bb rfl
def Nb(ds:List D):te (some (some (.lst ds)))=.ok (.lst ds):=bb rfl
def Jt(e:E):ex pg Φ C (.ret e)=ev pg Φ C e>>=λd=>.ok (.ec d):=bb rfl
def Js(c:E)(a b:B):ex pg Φ C (.iff c a b)=xm pg Φ C (ev pg Φ C c) a b:=bb rfl
def LZ(a b:B):xm pg Φ C (.ok (.aM true)) a b=eC pg Φ C a:=bb rfl
def LY(a b:B):xm pg Φ C (.ok (.aM false)) a b=eC pg Φ C b:=bb rfl
def Jr(k:Nat)(ts:List Nat)(s:I)(b:B):ex pg Φ C (.hG k ts s b)=gr pg Φ C s>>=λds=>forL (turn pg Φ k ts b) ds C:=bb rfl
def PQ{nl:Nat}{b:B}(x:D):el pg Φ ⟨1,nl,b⟩ [x]=l1 (eC pg Φ (some x::List.replicate nl none) b):=bb rfl
def PR{nl:Nat}{b:B}(x y:D):el pg Φ ⟨2,nl,b⟩ [x,y]=l1 (eC pg Φ (some x::some y::List.replicate nl none) b):=bb rfl
def PS{nl:Nat}{b:B}(x y z:D):el pg Φ ⟨3,nl,b⟩ [x,y,z]=l1 (eC pg Φ (some x::some y::some z::List.replicate nl none) b):=bb rfl
def Iv(d:D):l1 (.ok (.ec d))=.ok d:=bb rfl
def Iu(C:a0):l1 (.ok (.cV C))=.ok .cU:=bb rfl
def It(c:Nat):l1 (.exc c)=.exc c:=bb rfl
def O1(up:gM)(d:D):lx up .len d=km d:=bb rfl
def OZ(up:gM)(t:Ty)(d:D):lx up (.inst t) d=iW up d t>>=λb=>.ok (.aM b):=bb rfl
def O2(up:gM)(d:D):lx up .sorted d=dP d>>=λxs=>sorted xs:=bb rfl
def O3(up:gM)(d:D):lx up .fG d=dP d>>=λxs=>fG xs:=bb rfl
def O0(up:gM)(b:Bool):lx up .int (.aM b)=.ok (.int (if b then 1 else 0)):=bb rfl
def xH(xs:List D):km (.tup xs)=.ok (.int xs.length):=bb rfl
def MZ(xs:List D):km (.lst xs)=.ok (.int xs.length):=bb rfl
def zN(x y:D):dm .eq x y=e5 x y:=bb rfl
def zR(x y:D):dm .ne x y=i3 (e5 x y):=bb rfl
def zQ(x y:D):dm .lt x y=tf x y:=bb rfl
def cmp_gt(i j:Int):dm .gt (.int i) (.int j)=.ok (decide (j<i)):=bb rfl
def Hi(i j:Int):dm .le (.int i) (.int j)=.ok (decide (i<=j)):=bb rfl
def Hh(i j:Int):dm .ge (.int i) (.int j)=.ok (decide (j<=i)):=bb rfl
def zO(x y:D):dm .is x y=nD x y:=bb rfl
def zP(x y:D):dm .nE x y=i3 (nD x y):=bb rfl
def Hk(x:D)(ys:List D):dm .mem x (.tup ys)=gX x ys:=bb rfl
def Hj(x:D)(ys:List D):dm .mem x (.lst ys)=gX x ys:=bb rfl
def Hm(x:D)(ys:List D):dm .lr x (.tup ys)=i3 (gX x ys):=bb rfl
def Hl(x:D)(ys:List D):dm .lr x (.lst ys)=i3 (gX x ys):=bb rfl
def Nc(i j:Int):tf (.int i) (.int j)=.ok (decide (i<j)):=bb rfl
def NN(b:Bool):i3 (.ok b)=.ok (!b):=bb rfl
def IH(i j:Int):e5 (.int i) (.int j)=.ok (i==j):=bb rfl
def IF(i j:Bool):e5 (.aM i) (.aM j)=.ok (i==j):=bb rfl
def add_int(i j:Int):e3 .add (.int i) (.int j)=.ok (.int (i+j)):=bb rfl
def sub_int(i j:Int):e3 .sub (.int i) (.int j)=.ok (.int (i-j)):=bb rfl
def add_str(x y:PySem.Str):e3 .add (.str x) (.str y)=if x.length+y.length<=SZ then .ok (.str (x++y)) else .bad:=bb rfl
def rR(xs ys:List D):e3 .add (.tup xs) (.tup ys)=if xs.length+ys.length<=SZ then .ok (.tup (xs++ys)) else .bad:=bb rfl
def p0(xs ys:List D):e3 .add (.lst xs) (.lst ys)=if xs.length+ys.length<=SZ then .ok (.lst (xs++ys)) else .bad:=bb rfl
def mul_int(i j:Int):e3 .mul (.int i) (.int j)=if (-gj<i/\i<gj)\/(-gj<j/\j<gj) then .ok (.int (i*j)) else .bad:=bb rfl
def NA(xs:List D)(j:Int):e3 .mul (.tup xs) (.int j)=if 2<=j/\xs≠[]/\xs.length*j.toNat<=SZ/\j<1000 then .ok (.tup (List.replicate j.toNat xs).flatten) else .bad:=bb rfl
def Ax(i j:Int):e3 .fdiv (.int i) (.int j)=if 0<j/\j<1073741824 then .ok (.int (i / j)) else .bad:=bb rfl
def mod_int(i j:Int):e3 .mod (.int i) (.int j)=if 0<j then .ok (.int (i%j)) else .bad:=bb rfl
def BZ(xs:List D)(i:Int):jJ (.tup xs) (.int i)=(match hJ xs i with|some d=>.ok d|none=>.bad):=bb rfl
def BY(xs:List D)(i:Int):jJ (.lst xs) (.int i)=(match hJ xs i with|some d=>.ok d|none=>.bad):=bb rfl
def tX(xs:List D)(lo hi:Option Int):jR (.tup xs) lo hi=.ok (.tup (cut xs lo hi)):=bb rfl
def Eo(xs:List D)(lo hi:Option Int):jR (.lst xs) lo hi=.ok (.lst (cut xs lo hi)):=bb rfl
def zH(xs:List D):p9 (some (some (.lst xs)))=.ok ():=bb rfl
def u2(xs:List D)(d:D):rT (some (some (.lst xs))) d=if xs.length<SZ then .ok (.lst (xs++[d])) else .bad:=bb rfl
def QV{o v:Option D}{r:a0}:(o::r:a0).set 0 v=v::r:=bb rfl
def QY{o v:Option D}{r:a0}{i:Nat}:(o::r:a0).set (i+1) v=o::r.set i v:=bb rfl
def J3{o:Option D}{r:a0}:(o::r:a0)[0]?=some o:=bb rfl
def J9{o:Option D}{r:a0}{i:Nat}:(o::r:a0)[i+1]?=r[i]?:=bb rfl
def PG{α:Type}(x:α):List.replicate 0 x=[]:=bb rfl
def PH{α:Type}(n:Nat)(x:α):List.replicate (n+1) x=x::List.replicate n x:=bb rfl
def Su(i:Nat)(b:B)(d:D):turn pg Φ 0 [i] b d C=eC pg Φ (C.set i (some d)) b:=bb rfl
def Sv(i j:Nat)(b:B)(x y:D):turn pg Φ 2 [i,j] b (.tup [x,y]) C=eC pg Φ ((C.set i (some x)).set j (some y)) b:=bb rfl
def Ip(e:E)(c:O)(d:D):elem pg Φ C e 0 c d=kZ pg Φ (C++[some d]) c>>=λb=>if b then ev pg Φ (C++[some d]) e>>=λy=>.ok (some y) else .ok none:=bb rfl
def Iq(e:E)(c:O)(x y:D):elem pg Φ C e 2 c (.tup [x,y])=kZ pg Φ (C++[some x,some y]) c>>=λb=>if b then ev pg Φ (C++[some x,some y]) e>>=λy=>.ok (some y) else .ok none:=bb rfl
def L1(up:gM)(d:D):iW up d .int=.ok (match d with|.int _=>true|.aM _=>true|_=>false):=bb rfl
def L3(up:gM)(xs:List D):iW up (.tup xs) .tuple=.ok true:=bb rfl
end
end Den
end
section
def Den.bA:=And.intro (And.intro (And.intro (And.intro (And.intro (And.intro (@Den.Jh) (And.intro (@Den.Ji) (@Den.Am))) (And.intro (@Den.Jg) (And.intro (@Den.Ja) (@Den.I1)))) (And.intro (And.intro (@Den.Jb) (And.intro (@Den.I3) (@Den.I4))) (And.intro (And.intro (@Den.I0) (@Den.Jc)) (And.intro (@Den.I9) (@Den.Je))))) (And.intro (And.intro (And.intro (@Den.I2) (And.intro (@Den.Jd) (@Den.Ao))) (And.intro (And.intro (@Den.An) (@Den.I5)) (And.intro (@Den.xO) (@Den.Al)))) (And.intro (And.intro (@Den.Ak) (And.intro (@Den.IY) (@Den.IZ))) (And.intro (And.intro (@Den.IT) (@Den.IU)) (And.intro (@Den.vY) (@Den.IW)))))) (And.intro (And.intro (And.intro (And.intro (@Den.IX) (And.intro (@Den.IV) (@Den.IA))) (And.intro (And.intro (@Den.Gl) (@Den.Gm)) (And.intro (@Den.QS) (@Den.QR)))) (And.intro (And.intro (@Den.GD) (And.intro (@Den.GF) (@Den.F3))) (And.intro (And.intro (@Den.F2) (@Den.Oa)) (And.intro (@Den.N9) (@Den.Jn))))) (And.intro (And.intro (And.intro (@Den.Jm) (And.intro (@Den.QO) (@Den.QP))) (And.intro (And.intro (@Den.QN) (@Den.Aq)) (And.intro (@Den.Jo) (@Den.zH)))) (And.intro (And.intro (@Den.Jt) (And.intro (@Den.Ju) (@Den.Nb))) (And.intro (And.intro (@Den.Js) (@Den.LZ)) (And.intro (@Den.LY) (@Den.Jr))))))) (And.intro (And.intro (And.intro (And.intro (And.intro (@Den.PQ) (And.intro (@Den.PR) (@Den.PS))) (And.intro (And.intro (@Den.Iv) (@Den.Iu)) (And.intro (@Den.It) (@Den.O1)))) (And.intro (And.intro (@Den.OZ) (And.intro (@Den.O2) (@Den.O3))) (And.intro (And.intro (@Den.O0) (@Den.xH)) (And.intro (@Den.MZ) (@Den.zN))))) (And.intro (And.intro (And.intro (@Den.zR) (And.intro (@Den.zQ) (@Den.cmp_gt))) (And.intro (And.intro (@Den.Hi) (@Den.Hh)) (And.intro (@Den.zO) (@Den.zP)))) (And.intro (And.intro (@Den.Hk) (And.intro (@Den.Hj) (@Den.Hm))) (And.intro (And.intro (@Den.Hl) (@Den.Nc)) (And.intro (@Den.NN) (@Den.IH)))))) (And.intro (And.intro (And.intro (And.intro (@Den.IF) (And.intro (@Den.add_int) (@Den.sub_int))) (And.intro (And.intro (@Den.tX) (@Den.Eo)) (And.intro (@Den.QV) (@Den.QY)))) (And.intro (And.intro (@Den.J3) (And.intro (@Den.J9) (@Den.PG))) (And.intro (And.intro (@Den.PH) (@Den.Su)) (And.intro (@Den.Sv) (@Den.Ip))))) (And.intro (And.intro (And.intro (@Den.Iq) (And.intro (@Den.L3) (@Den.R.iu))) (And.intro (And.intro (@Den.R.Jv) (@List.cons_append.{0})) (And.intro (@List.nil_append.{0}) (@List.length_cons.{0})))) (And.intro (And.intro (@List.length_nil.{0}) (And.intro (@WW) (@Vn.{1}))) (And.intro (And.intro (@VM) (@WS)) (And.intro (@UC) (@UX.{1})))))))
end
section
namespace a9
open Den
theorem vJ{f:D->R (Option D)}{g:D->Option D}:∀{ds:List D},(∀d∈ds,f d=.ok (g d))->df f ds=.ok (ds.filterMap g)
 |[],_=>rfl
 |d::ds,h=>by
  have J:=h d List.mem_cons_self;have aa:=vJ (f:=f) (g:=g) (ds:=ds) λx ah=>h x (List.mem_cons_of_mem _ ah)
  unfold df;rw[J];simp only[R.iu];rw[aa];simp only[R.iu,List.filterMap_cons];cases g d<;>rfl
theorem AK{α:Type}{f:α->D}{g:D->a0->R fh}(I:List α->a0->Prop)(all:List α):∀(xs pre:List α)(C:a0),all=pre++xs->I pre C ->
  (∀pre x post C,all=pre++x::post->I pre C->∃dj,g (f x) C=.ok (.cV dj)/\I (pre++[x]) dj)->∃dj,forL g (xs.map f) C=.ok (.cV dj)/\I all dj
 |[],pre,C,e,h,_=>⟨C,rfl,by rw[e];simpa using h⟩
 |x::xs,pre,C,e,h,ae=>by
  obtain⟨Tr,aj,e8⟩:=ae pre x xs C e h;obtain⟨pH,av,e9⟩:=AK I all xs (pre++[x]) Tr (by rw[e];simp) e8 ae
  refine⟨pH,?_,e9⟩;simp only[List.map_cons,forL,aj,R.iu];exact av
def l5{α:Type}{f:α->D}{g:D->a0->R fh}(I:List α->a0->Prop)(xs:List α)(C:a0)(h:I [] C)(ae:∀pre x post C,xs=pre++x::post->I pre C->∃dj,g (f x) C=.ok (.cV dj)/\I (pre++[x]) dj):∃dj,forL g (xs.map f) C=.ok (.cV dj)/\I xs dj :=
 AK I xs xs [] C rfl h ae
noncomputable def ay(c:List Int):D:=.tup (c.map .int)
theorem Ac:∀a b:List Int,kY (a.map .int) (b.map .int)=decide (a=b)
 |[],[]=>rfl
 |[],_::_=>rfl
 |_::_,[]=>rfl
 |x::a,y::b=>by
  show(x==y&&kY (a.map .int) (b.map .int))=_;rw[Ac a b]
  by_cases J:x=y
  .subst J;by_cases aa:a=b<;>simp[aa]
  .simp[J]
def jv(a b:List Int):e4 (ay a) (ay b)=decide (a=b):=Ac a b
theorem vT:∀a b:List (List Int),kY (a.map ay) (b.map ay)=decide (a=b)
 |[],[]=>rfl
 |[],_::_=>rfl
 |_::_,[]=>rfl
 |x::a,y::b=>by
  show(e4 (ay x) (ay y)&&kY (a.map ay) (b.map ay))=_;rw[jv,vT a b]
  by_cases J:x=y
  .subst J;by_cases aa:a=b<;>simp[aa]
  .simp[J]
noncomputable def lexLt:List Int->List Int->Bool
 |[],[]=>false
 |[],_::_=>true
 |_::_,[]=>false
 |x::xs,y::ys=>if x=y then lexLt xs ys else decide (x<y)
theorem qU:∀a b:List Int,nH (a.map .int) (b.map .int)=some (lexLt a b)
 |[],[]=>rfl
 |[],_::_=>rfl
 |_::_,[]=>rfl
 |x::a,y::b=>by
  show(if (x==y)=true then nH (a.map .int) (b.map .int) else some (decide (x<y)))=some (if x=y then lexLt a b else decide (x<y));rw[qU a b]
  by_cases h:x=y<;>simp[h]
def mu(a b:List Int):mr (ay a) (ay b)=some (lexLt a b):=qU a b
def Nl(x:Int)(xs:List Int):memD (.int x) (xs.map .int)=decide (x∈xs):=by
 unfold memD
 induction xs with
 |nil=>simp
 |cons y ys aO =>
  rw[List.map_cons,List.any_cons,aO];show(y==x||_)=_
  by_cases h:y=x
  .subst h;simp
  .have:¬x=y:=λe=>h e.symm
   simp[h,this]
def Nk(c:List Int)(cs:List (List Int)):memD (ay c) (cs.map ay)=decide (c∈cs):=by
 unfold memD
 induction cs with
 |nil=>simp
 |cons y ys aO =>
  simp only[List.map_cons,List.any_cons,aO,jv,UI]
  by_cases h:y=c
  .subst h;simp
  .have:¬c=y:=λe=>h e.symm
   simp[h,this]
theorem Cx:∀a:List Int,lexLt a a=false
 |[]=>rfl
 |x::a=>by simp[lexLt,Cx a]
theorem Cy:∀{a b c:List Int},lexLt a b=true->lexLt b c=true->lexLt a c=true
 |[],[],_,h,_=>by simp[lexLt]at h
 |[],_::_,[],_,h=>by simp[lexLt]at h
 |[],_::_,_::_,_,_=>rfl
 |_::_,[],_,h,_=>by simp[lexLt]at h
 |_::_,_::_,[],_,h=>by simp[lexLt]at h
 |x::a,y::b,z::c,J,aa=>by
  simp only[lexLt]at *
  split at J<;>split at aa
  .rename_i aj av;subst aj;subst av;rw[if_pos rfl];exact Cy J aa
  .rename_i aj av;subst aj;rw[if_neg av];exact aa
  .rename_i aj av;subst av;rw[if_neg aj];exact J
  .rename_i aj av;simp only[UU]at J aa;rw[if_neg (by omega)];simp;omega
theorem Cw:∀a b:List Int,a≠b->lexLt a b=true\/lexLt b a=true
 |[],[],h=>absurd rfl h
 |[],_::_,_=>.inl rfl
 |_::_,[],_=>.inr rfl
 |x::a,y::b,h=>by
  simp only[lexLt]
  by_cases e:x=y
  .subst e;have h':a≠b:=λe=>h (by rw[e])
   simpa using Cw a b h'
  .have bf:¬y=x:=λz=>e z.symm
   rw[if_neg e,if_neg bf];simp only[UU];omega
section
variable{α:Type}
noncomputable def ins(lt:α->α->Bool)(x:α):List α->List α
 |[]=>[x]
 |y::ys=>if lt y x=true then y::ins lt x ys else x::y::ys
noncomputable def cy(lt:α->α->Bool):List α->List α
 |[]=>[]
 |x::xs=>ins lt x (cy lt xs)
noncomputable def cE[DecidableEq α]:List α->List α
 |[]=>[]
 |x::xs=>if x∈xs then cE xs else x::cE xs
variable{lt:α->α->Bool}
theorem B1{f:α->D}(h:∀a b,mr (f a) (f b)=some (lt a b))(x:α):∀ys:List α,sY (f x) (ys.map f)=(ins lt x ys).map f
 |[]=>rfl
 |y::ys=>by
  simp only[List.map_cons,sY,ins,h,VR]
  split
  .simp[B1 h x ys]
  .rfl
theorem jb{f:α->D}(h:∀a b,mr (f a) (f b)=some (lt a b)):∀xs:List α,gh (xs.map f)=(cy lt xs).map f
 |[]=>rfl
 |x::xs=>by simp only[List.map_cons,gh,cy,jb h xs,B1 h]
theorem lZ[DecidableEq α]{f:α->D}(h:∀a b,e4 (f a) (f b)=decide (a=b)):∀xs:List α,h7 (xs.map f)=(cE xs).map f
 |[]=>rfl
 |x::xs=>by
  have e:(xs.map f).any (e4 (f x))=decide (x∈xs):=by
   rw[List.any_map]
   induction xs with
   |nil=>simp
   |cons y ys aO=>simp only[List.any_cons,aO,Function.comp,h,UI];by_cases q:x=y<;>simp[q]
  simp only[List.map_cons,h7,cE,e,lZ h xs,UU]
  split<;>rfl
theorem th(x z:α):∀ys:List α,z∈ins lt x ys<->z=x\/z∈ys
 |[]=>by simp[ins]
 |y::ys=>by
  unfold ins
  split
  .simp only[UI,th x z ys];constructor
   .rintro(h|h|h)
    .exact .inr (.inl h)
    .exact .inl h
    .exact .inr (.inr h)
   .rintro(h|h|h)
    .exact .inr (.inl h)
    .exact .inl h
    .exact .inr (.inr h)
  .simp
theorem ip(z:α):∀xs:List α,z∈cy lt xs<->z∈xs
 |[]=>by simp[cy]
 |x::xs=>by unfold cy;rw[th,ip z xs];simp
theorem Cr(x:α):∀ys:List α,(ins lt x ys).length=ys.length+1
 |[]=>rfl
 |y::ys=>by unfold ins;split<;>simp[Cr x ys]
theorem qS:∀xs:List α,(cy lt xs).length=xs.length
 |[]=>rfl
 |x::xs=>by unfold cy;rw[Cr,qS xs];simp
theorem hu[DecidableEq α](z:α):∀xs:List α,z∈cE xs<->z∈xs
 |[]=>by simp[cE]
 |x::xs=>by
  unfold cE
  split
  .rename_i h;rw[hu z xs,UI];exact⟨.inr,λq=>q.elim (λe=>e▸h) id⟩
  .simp[hu z xs]
theorem kr[DecidableEq α]:∀xs:List α,(cE xs).Nodup
 |[]=>VL
 |x::xs=>by
  unfold cE
  split
  .exact kr xs
  .rename_i h;exact Ve.mpr ⟨λq=>h ((hu x xs).mp q),kr xs⟩
structure gm(lt:α->α->Bool):Prop where
 fu:∀a,lt a a=false
 dQ:∀{a b c},lt a b=true->lt b c=true->lt a c=true
 conn:∀a b,a≠b->lt a b=true\/lt b a=true
noncomputable def cI(lt:α->α->Bool)(xs:List α):Prop:=xs.Pairwise λa b=>lt a b=true
theorem zl(L:gm lt)(x:α):∀{ys:List α},cI lt ys->x∉ys->cI lt (ins lt x ys)
 |[],_,_=>Wa _ _
 |y::ys,h,ah=>by
  obtain⟨J,aa⟩:=U7.mp h;have gb:x≠y:=λe=>ah (by simp[e])
  unfold ins
  split
  .rename_i q;refine U7.mpr ⟨λz au=>?_,zl L x aa λq=>ah (List.mem_cons_of_mem _ q)⟩
   rcases(th x z ys).mp au with e|e
   .subst e;exact q
   .exact J z e
  .rename_i q;have cL:lt x y=true:=(L.conn x y gb).resolve_right q;refine U7.mpr ⟨λz au=>?_,h⟩
   rcases UI.mp au with e|e
   .subst e;exact cL
   .exact L.dQ cL (J z e)
theorem j5(L:gm lt):∀{xs:List α},xs.Nodup->cI lt (cy lt xs)
 |[],_=>List.Pairwise.nil
 |x::xs,h=>zl L x (j5 L (Ve.mp h).2) λq=>(Ve.mp h).1 ((ip x xs).mp q)
def cI.nodup(L:gm lt){xs:List α}(h:cI lt xs):xs.Nodup:=Xa (λ{a b} q e=>by subst e;rw[L.fu]at q;cases q) h
theorem j3(L:gm lt):∀{xs ys:List α},cI lt xs->cI lt ys->(∀z,z∈xs<->z∈ys)->xs=ys
 |[],[],_,_,_=>rfl
 |[],y::_,_,_,h=>absurd ((h y).mpr List.mem_cons_self) (by simp)
 |x::_,[],_,_,h=>absurd ((h x).mp List.mem_cons_self) (by simp)
 |x::xs,y::ys,ah,aA,h=>by
  obtain⟨aU,bu⟩:=U7.mp ah;obtain⟨lD,jV⟩:=U7.mp aA;have e:x=y:=by
   rcases UI.mp ((h x).mp List.mem_cons_self) with e|e
   .exact e
   .rcases UI.mp ((h y).mpr List.mem_cons_self) with bf|bf
    .exact bf.symm
    .have a:=lD x e;have b:=aU y bf;have:=L.dQ a b;rw[L.fu]at this;cases this
  subst e;have cV:x∉xs:=λq=>by have:=aU x q;rw[L.fu]at this;cases this
  have NQ:x∉ys:=λq=>by have:=lD x q;rw[L.fu]at this;cases this
  rw[j3 L bu jV λz=>?_]
  constructor
  .intro au;rcases UI.mp ((h z).mp (List.mem_cons_of_mem _ au)) with e|e
   .subst e;exact absurd au cV
   .exact e
  .intro au;rcases UI.mp ((h z).mpr (List.mem_cons_of_mem _ au)) with e|e
   .subst e;exact absurd au NQ
   .exact e
def Ro(L:gm lt){xs:List α}(h:cI lt xs):cy lt xs=xs:=j3 L (j5 L (h.nodup L)) h λz=>ip z xs
theorem vL[DecidableEq α]:∀xs:List α,(cE xs).length<=xs.length
 |[]=>UE _
 |x::xs=>by unfold cE;have:=vL xs;split<;>simp<;>omega
theorem hT[DecidableEq α]:∀{xs ys:List α},xs.Nodup->(∀z∈xs,z∈ys)->xs.length<=ys.length
 |[],_,_,_=>UH _
 |x::xs,ys,h,ae=>by
  obtain⟨J,aa⟩:=Ve.mp h;have ah:=ae x List.mem_cons_self;have:=hT (xs:=xs) (ys:=ys.erase x) aa λz au=>by
   have dg:z≠x:=λe=>J (e▸au)
   exact(List.mem_erase_of_ne dg).mpr (ae z (List.mem_cons_of_mem _ au))
  rw[W3 ah]at this;have aC:0<ys.length:=List.length_pos_of_mem ah;simp only[List.length_cons];omega
end
def gc:gm lexLt:=⟨Cx,Cy,Cw⟩
noncomputable def ltI(a b:Int):Bool:=decide (a<b)
def jL:gm ltI:=⟨λa=>by simp[ltI],λJ aa=>by simp[ltI]at *;omega,λa b h=>by simp[ltI];omega⟩
def xJ(is:List Int):(is.map D.int).all (fa 0)=true:=by simp[V7,fa]
def oi{cs:List (List Int)}(aD:∀c∈cs,c≠[]):(cs.map ay).all nC=true:=by
 rw[V7,UR];intro c ai;cases c with
 |nil=>exact absurd rfl (aD [] ai)
 |cons x c=>show(fa 0 (.int x)&&(c.map D.int).all (fa 0))=true;rw[xJ];rfl
def EA{cs:List (List Int)}(aD:∀c∈cs,c≠[])(h:cs.length<=75):sorted (cs.map ay)=.ok (.lst ((cy lexLt cs).map ay)):=by
 unfold sorted gW;rw[oi aD];simp[jb (lt:=lexLt) mu,h]
def Rj{cs:List Int}(h:cs.length<=75):sorted (cs.map .int)=.ok (.lst ((cy ltI cs).map .int)):=by
 unfold sorted gW;rw[xJ];simp[jb (f:=D.int) (lt:=ltI) λa b=>rfl,h]
def ED{cs:List (List Int)}(aD:∀c∈cs,c≠[])(h:(cE cs).length<=75):fG (cs.map ay)=.ok (.lst ((cy lexLt (cE cs)).map ay)):=by
 unfold fG gW;rw[oi aD,lZ jv,jb (lt:=lexLt) mu];simp[h]
def IE(a b:Int):e4 (.int a) (.int b)=decide (a=b):=Bool.beq_eq_decide_eq a b
def ro(n:Nat)(i:Int):cQ n (.int i)=true:=by cases n<;>rfl
def Ed(n:Nat)(c:List Int):(c.map D.int).all (cQ n)=true:=by simp[V7,ro]
def tU(n:Nat)(c:List Int):cQ (n+1) (ay c)=true:=Ed n c
def pl(n:Nat)(cs:List (List Int)):(cs.map ay).all (cQ (n+1))=true:=by simp[V7,tU]
def Nm(x:Int)(c:List Int):gX (.int x) (c.map .int)=.ok (decide (x∈c)):=by
 unfold gX;rw[ro,Ed,Nl];rfl
def CI(c:List Int)(cs:List (List Int)):gX (ay c) (cs.map ay)=.ok (decide (c∈cs)):=by
 unfold gX;rw[tU,pl,Nk];rfl
def IG(a b:List Int):e5 (ay a) (ay b)=.ok (decide (a=b)):=by unfold e5;rw[tU,tU,jv];rfl
def IJ(a b:List (List Int)):e5 (.tup (a.map ay)) (.tup (b.map ay))=.ok (decide (a=b)):=by
 have h:∀a:List (List Int),cQ 60 (.tup (a.map ay))=true:=λa=>pl 58 a
 unfold e5;rw[h,h];exact Wm R.ok (vT a b)
def II(a b:List (List Int)):e5 (.lst (a.map ay)) (.lst (b.map ay))=.ok (decide (a=b)):=by
 have h:∀a:List (List Int),cQ 60 (.lst (a.map ay))=true:=λa=>pl 58 a
 unfold e5;rw[h,h];exact Wm R.ok (vT a b)
def qi{ys:List D}(h:ys.all (cQ 59)=true):e5 (.lst ys) (.lst [])=.ok ys.isEmpty:=by
 have J:cQ 60 (.lst ys)=true:=h;have aa:cQ 60 (.lst [])=true:=rfl;unfold e5;rw[J,aa];cases ys<;>rfl
def r7{ys:List D}(h:ys.all (cQ 59)=true):e5 (.tup ys) (.tup [])=.ok ys.isEmpty:=by
 have J:cQ 60 (.tup ys)=true:=h;have aa:cQ 60 (.tup [])=true:=rfl;unfold e5;rw[J,aa];cases ys<;>rfl
end a9
end
section
namespace a9
open Den
section
variable{α:Type}{lt:α->α->Bool}
noncomputable def n7(lt:α->α->Bool)(xs:List α):Prop:=xs.Pairwise λa b=>lt b a=false
theorem q9(x:α):∀ys:List α,(ins lt x ys).Perm (x::ys)
 |[]=>XC _
 |y::ys=>by
  unfold ins
  split
  .exact(List.Perm.cons y (q9 x ys)).trans (List.Perm.swap x y ys)
  .exact XC _
theorem ra:∀xs:List α,(cy lt xs).Perm xs
 |[]=>XC _
 |x::xs=>(q9 x (cy lt xs)).trans (List.Perm.cons x (ra xs))
def CA(L:gm lt){a b:α}(h:lt a b=true):lt b a=false:=by
 cases q:lt b a with
 |false=>rfl
 |true=>have:=L.dQ h q;rw[L.fu]at this;cases this
def Cz(L:gm lt){a b c:α}(J:lt b a=false)(aa:lt c b=false):lt c a=false:=by
 cases q:lt c a with
 |false=>rfl
 |true =>
  by_cases e:a=b
  .subst e;rw[aa]at q;cases q
  .rcases L.conn a b e with w|w
   .have:=L.dQ q w;rw[aa]at this;cases this
   .rw[J]at w;cases w
theorem Fo(L:gm lt)(x:α):∀{ys:List α},n7 lt ys->n7 lt (ins lt x ys)
 |[],_=>Wa _ _
 |y::ys,h=>by
  obtain⟨J,aa⟩:=U7.mp h;unfold ins
  split
  .rename_i c;refine U7.mpr ⟨λz au=>?_,Fo L x aa⟩
   rcases(th x z ys).mp au with rfl|au
   .exact CA L c
   .exact J z au
  .rename_i c;refine U7.mpr ⟨λz au=>?_,h⟩
   have c:lt y x=false:=by simpa using c
   rcases UI.mp au with rfl|au
   .exact c
   .exact Cz L c (J z au)
theorem Fp(L:gm lt):∀xs:List α,n7 lt (cy lt xs)
 |[]=>.nil
 |x::xs=>Fo L x (Fp L xs)
theorem Fq(L:gm lt):∀{xs ys:List α},n7 lt xs->n7 lt ys->xs.Perm ys->xs=ys
 |[],ys,_,_,p=>(List.Perm.nil_eq p)
 |x::xs,[],_,_,p=>by have:=p.length_eq;simp at this
 |x::xs,y::ys,ah,aA,p=>by
  obtain⟨aU,bu⟩:=U7.mp ah;obtain⟨lD,jV⟩:=U7.mp aA;have e:x=y:=by
   apply VO;intro ne;have gb:y∈xs:=by
    rcases UI.mp (p.mem_iff.mpr List.mem_cons_self) with q|q
    .exact absurd q.symm ne
    .exact q
   have qK:x∈ys:=by
    rcases UI.mp (p.mem_iff.mp List.mem_cons_self) with q|q
    .exact absurd q ne
    .exact q
   rcases L.conn x y ne with w|w
   .rw[lD x qK]at w;cases w
   .rw[aU y gb]at w;cases w
  subst e;rw[Fq L bu jV (List.Perm.cons_inv p)]
end
end a9
end
section
namespace ez
open PySem PySem.SetTable
noncomputable def g7(xs:Array Nat):Prop:=∀(i j a b:Nat),i<j->xs[i]?=some a->xs[j]?=some b->a<b
noncomputable def uO(xs:Array Nat)(j p:Nat):Prop:=∀(q a:Nat),q<p->xs[q]?=some a->a<j
noncomputable def uG(xs:Array Nat)(j p:Nat):Prop:=∀(q a:Nat),p<=q->xs[q]?=some a->j<=a
theorem wG{xs:Array Nat}(aZ:g7 xs)(j:Nat):∀(fuel lo hi:Nat),hi-lo<=fuel->lo<=hi->hi<=xs.size->uO xs j lo->uG xs j hi ->
  below.go xs j fuel lo hi<=xs.size/\uO xs j (below.go xs j fuel lo hi)/\uG xs j (below.go xs j fuel lo hi)
 |0,lo,hi,J,aa,aL,aw,b5=>by
  have e:lo=hi:=by omega
  subst e;exact⟨aL,aw,b5⟩
 |fuel+1,lo,hi,J,aa,aL,aw,b5=>by
  unfold below.go
  by_cases cg:lo<hi
  .rw[if_pos cg];have hm:(lo+hi) / 2<xs.size:=by omega
   have ba:xs[(lo+hi) / 2]?=some xs[(lo+hi) / 2]:=UL hm;have hd:xs.getD ((lo+hi) / 2) j=xs[(lo+hi) / 2]:=by simp[Array.getD,hm]
   simp only[hd]
   by_cases ai:xs[(lo+hi) / 2]<j
   .rw[if_pos ai];refine wG aZ j fuel _ _ (by omega) (by omega) aL ?_ b5
    intro q a aE az
    by_cases e:q=(lo+hi) / 2
    .subst e;rw[ba]at az;cases az;exact ai
    .have:=aZ q ((lo+hi) / 2) a _ (by omega) az ba;omega
   .rw[if_neg ai];refine wG aZ j fuel _ _ (by omega) (by omega) (by omega) aw ?_
    intro q a aE az
    by_cases e:q=(lo+hi) / 2
    .subst e;rw[ba]at az;cases az;omega
    .have:=aZ ((lo+hi) / 2) q _ a (by omega) ba az;omega
  .rw[if_neg cg];have e:lo=hi:=by omega
   subst e;exact⟨aL,aw,b5⟩
def p4{xs:Array Nat}(aZ:g7 xs)(j:Nat):below xs j<=xs.size/\uO xs j (below xs j)/\uG xs j (below xs j):=by
 unfold below;refine wG aZ j _ _ _ (by omega) (by omega) (by omega) (λq a aE _=>by omega) (λq a aE az=>?_)
 have:=(Vf.mp az).1;omega
def below_at{xs:Array Nat}(aZ:g7 xs){i j:Nat}(h:xs[i]?=some j):below xs j=i:=by
 obtain⟨J,aa,aL⟩:=p4 aZ j
 by_cases ck:i<below xs j
 .exact absurd (aa i j ck h) (VT _)
 .by_cases bo:below xs j=i
  .exact bo
  .have hi:=(Vf.mp h).1;have ba:xs[below xs j]?=some (xs[below xs j]'(by omega)):=UL (by omega)
   have a:=aL _ _ (UE _) ba;have b:=aZ (below xs j) i _ _ (by omega) ba h
   omega
def nQ{t:SetTable}(aZ:g7 t.place){i j:Nat}(h:t.place[i]?=some j):t.slot j=.live i:=by
 unfold slot;rw[below_at aZ h];simp[h]
noncomputable def fw(t:SetTable)(j:Nat):Prop:=(∃i:Nat,t.place[i]?=some j)\/∃i:Nat,t.dummies[i]?=some j
def Er{t:SetTable}{j:Nat}(h:∀i:Nat,t.place[i]?≠some j):t.slot j=if has t.dummies j then .dummy else .empty:=by
 unfold slot;have h0:(t.place[below t.place j]?==some j)=false:=by rw[beq_eq_false_iff_ne];exact h _
 simp only[h0,UC,UX]
def Bl{xs:Array Nat}(aZ:g7 xs){i j:Nat}(h:xs[i]?=some j):has xs j=true:=by
 unfold has;rw[below_at aZ h,h];simp
def Bm{xs:Array Nat}{j:Nat}(h:∀i:Nat,xs[i]?≠some j):has xs j=false:=by
 unfold has;rw[beq_eq_false_iff_ne];exact h _
def Rd{t:SetTable}{j:Nat}(h:¬fw t j):t.slot j=.empty:=by
 rw[Er λi e=>h (.inl ⟨i,e⟩),Bm λi e=>h (.inr ⟨i,e⟩)];rfl
def Ep{t:SetTable}(hd:g7 t.dummies){i j:Nat}(aD:∀i:Nat,t.place[i]?≠some j)(h:t.dummies[i]?=some j):t.slot j=.dummy:=by
 rw[Er aD,Bl hd h];rfl
noncomputable def g9(m:Nat)(p:Probe):Probe :=
 if p.more>0 then { p with j:=p.j+1,more:=p.more-1 } else
 { p with j:=(leap m p.i p.perturb).1,more:=runEnd m (leap m p.i p.perturb).1-(leap m p.i p.perturb).1,i:=(leap m p.i p.perturb).1,perturb:=(leap m p.i p.perturb).2 }
def uW(t:SetTable)(p:Probe):t.advance p=g9 t.mask p:=rfl
noncomputable def L0(m:Nat)(h:Int):Probe:={ j:=bits h%(m+1),more:=runEnd m (bits h%(m+1))-bits h%(m+1),i:=bits h%(m+1),perturb:=bits h,dummy:=none }
noncomputable def pr(m:Nat)(h:Int):Nat->Probe
 |0=>L0 m h
 |n+1=>g9 m (pr m h n)
noncomputable def bZ(m:Nat)(h:Int)(n:Nat):Nat:=(pr m h n).j
def tO{m i:Nat}(h:i<=m):runEnd m i<=m/\i<=runEnd m i/\runEnd m i<=i+9:=by
 unfold runEnd;split<;>omega
def Cp(m i p:Nat):(leap m i p).1<=m:=by
 unfold leap;have:(i*5+1+p / 32)%(m+1)<m+1:=Ys _ (by omega)
 show(i*5+1+p / 32)%(m+1)<=m;omega
theorem Ds(m:Nat)(h:Int):∀n,(pr m h n).j+(pr m h n).more<=m
 |0=>by
  have:bits h%(m+1)<m+1:=Ys _ (by omega)
  have:=tO (m:=m) (i:=bits h%(m+1)) (by omega)
  show bits h%(m+1)+(runEnd m (bits h%(m+1))-bits h%(m+1))<=m;omega
 |n+1=>by
  have aO:=Ds m h n;show(g9 m (pr m h n)).j+(g9 m (pr m h n)).more<=m;unfold g9
  split
  .show(pr m h n).j+1+((pr m h n).more-1)<=m;omega
  .have:=Cp m (pr m h n).i (pr m h n).perturb;have:=tO this;show(leap m (pr m h n).i (pr m h n).perturb).1+(runEnd m (leap m (pr m h n).i (pr m h n).perturb).1-(leap m (pr m h n).i (pr m h n).perturb).1)<=m;omega
def yr(m:Nat)(h:Int)(n:Nat):bZ m h n<=m:=by have:=Ds m h n;unfold bZ;omega
noncomputable def run(m:Nat)(h:Int):Nat->Nat×Nat
 |0=>(bits h%(m+1),bits h)
 |r+1=>leap m (run m h r).1 (run m h r).2
def yf(m:Nat)(h:Int):∀r,(run m h r).1<=m
 |0=>by have:bits h%(m+1)<m+1:=Ys _ (by omega);show bits h%(m+1)<=m;omega
 |r+1=>Cp _ _ _
noncomputable def st(m:Nat)(h:Int)(r d:Nat):Probe:={ j:=(run m h r).1+d,more:=runEnd m (run m h r).1-(run m h r).1-d,i:=(run m h r).1,perturb:=(run m h r).2,dummy:=none }
noncomputable def len(m:Nat)(h:Int)(r:Nat):Nat:=runEnd m (run m h r).1-(run m h r).1
def MY(m:Nat)(h:Int)(r:Nat):len m h r<=9:=by have:=tO (yf m h r);unfold len;omega
def ze{m:Nat}{h:Int}{r d:Nat}(hd:d<len m h r):g9 m (st m h r d)=st m h r (d+1):=by
 unfold g9;have:(st m h r d).more>0:=by show runEnd m (run m h r).1-(run m h r).1-d>0;unfold len at hd;omega
 rw[if_pos this];show Probe.mk _ _ _ _ _=Probe.mk _ _ _ _ _;congr 1
def FY{m:Nat}{h:Int}{r:Nat}:g9 m (st m h r (len m h r))=st m h (r+1) 0:=by
 unfold g9;have:¬(st m h r (len m h r)).more>0:=by show ¬(runEnd m (run m h r).1-(run m h r).1-len m h r>0);unfold len;omega
 rw[if_neg this];rfl
theorem u7(m:Nat)(h:Int):∀r:Nat,∃n,n<=10*r/\pr m h n=st m h r 0/\∀k,k<n->∃bL d',bL<r/\d'<=len m h bL/\pr m h k=st m h bL d'
 |0=>⟨0,UE _,rfl,λk aq=>absurd aq (Nat.not_lt_zero k)⟩
 |r+1=>by
  obtain⟨n,aD,e,aq⟩:=u7 m h r;have walk:∀d,d<=len m h r->pr m h (n+d)=st m h r d:=by
   intro d
   induction d with
   |zero=>intro _;exact e
   |succ d aO =>
    intro hd;show g9 m (pr m h (n+d))=_;rw[aO (by omega)]
    exact ze (by omega)
  have aw:=MY m h r;refine⟨n+len m h r+1,by omega,?_,λk e7=>?_⟩
  .show g9 m (pr m h (n+len m h r))=_;rw[walk _ (UE _)];exact FY
  .by_cases c:k<n
   .obtain⟨bL,d',a,b,c⟩:=aq k c;exact⟨bL,d',by omega,b,c⟩
   .refine⟨r,k-n,by omega,by omega,?_⟩
    have:=walk (k-n) (by omega)
    rw[show n+(k-n)=k by omega]at this
    exact this
def Gs(m:Nat)(h:Int)(r d:Nat)(hd:d<=len m h r):∃n,n<=10*r+d/\pr m h n=st m h r d/\∀k,k<n->∃bL d',d'<=len m h bL/\(bL<r\/(bL=r/\d'<d))/\pr m h k=st m h bL d':=by
 obtain⟨n,aD,e,aq⟩:=u7 m h r;have walk:∀d,d<=len m h r->pr m h (n+d)=st m h r d:=by
  intro d
  induction d with
  |zero=>intro _;exact e
  |succ d aO =>
   intro hd;show g9 m (pr m h (n+d))=_;rw[aO (by omega)]
   exact ze (by omega)
 refine⟨n+d,by omega,walk d hd,λk e7=>?_⟩
 by_cases c:k<n
 .obtain⟨bL,d',a,b,c⟩:=aq k c;exact⟨bL,d',b,.inl a,c⟩
 .refine⟨r,k-n,by omega,.inr ⟨rfl,by omega⟩,?_⟩
  have:=walk (k-n) (by omega)
  rw[show n+(k-n)=k by omega]at this
  exact this
def GI(h:Int):bits h<2 ^ 64:=by
 unfold bits;have J:=Int.emod_nonneg h (show(2 ^ 64:Int)≠0 by decide)
 have aa:=Yt h (show(0:Int)<2 ^ 64 by decide)
 have e:((2:Int) ^ 64)=18446744073709551616:=by decide
 rw[e]at J aa ⊢;omega
theorem Dj(m:Nat)(h:Int):∀r,(run m h r).2=bits h / 32 ^ r
 |0=>by simp[run]
 |r+1=>by
  show(run m h r).2 / 32=_;rw[Dj m h r,Nat.div_div_eq_div_mul,Nat.pow_succ]
def OK(m:Nat)(h:Int)(r:Nat)(aZ:13<=r):(run m h r).2=0:=by
 rw[Dj];refine Nat.div_eq_of_lt (U6 (GI h) (Vk (show 2 ^ 64<=32 ^ 13 by decide) (WT (by decide) aZ)))
noncomputable def hW(m:Nat):Nat->Nat->Nat
 |0,i=>i
 |n+1,i=>(hW m n i*5+1)%(m+1)
theorem DQ(m:Nat)(h:Int):∀n,(run m h (13+n)).1=hW m n (run m h 13).1
 |0=>rfl
 |n+1=>by
  show(leap m (run m h (13+n)).1 (run m h (13+n)).2).1=_;rw[DQ m h n,OK m h (13+n) (by omega)]
  rfl
noncomputable def tC(m:Nat):Nat->Nat->List Nat
 |0,_=>[]
 |n+1,i=>i::tC m n ((i*5+1)%(m+1))
theorem C3(m:Nat):∀n i,hW m n ((i*5+1)%(m+1))=hW m (n+1) i
 |0,i=>rfl
 |n+1,i=>by
  show(hW m n ((i*5+1)%(m+1))*5+1)%(m+1)=(hW m (n+1) i*5+1)%(m+1);rw[C3 m n i]
theorem tD(m:Nat):∀a b i,hW m (a+b) i=hW m b (hW m a i)
 |a,0,i=>rfl
 |a,b+1,i=>by
  show(hW m (a+b) i*5+1)%(m+1)=_;rw[tD m a b i];rfl
theorem CK(m:Nat):∀n i j,j∈tC m n i->∃k,k<n/\hW m k i=j
 |0,i,j,h=>by simp[tC]at h
 |n+1,i,j,h=>by
  rcases UI.mp h with e|h
  .exact⟨0,by omega,e.symm⟩
  .obtain⟨k,aq,e⟩:=CK m n _ j h;exact⟨k+1,by omega,by rw[<- C3];exact e⟩
noncomputable def d9(m:Nat):Prop:=m=7\/m=15\/m=31\/m=63\/m=127\/m=255\/m=511
noncomputable def Hv(m:Nat):Bool:=(List.range (m+1)).all λj=>(tC m (m+1) 0).contains j
def d9.fZ{m:Nat}(h:d9 m):Hv m=true/\hW m (m+1) 0=0:=by
 rcases h with rfl|rfl|rfl|rfl|rfl|rfl|rfl<;>exact⟨by decide +kernel,by decide +kernel⟩
def d9.DC{m:Nat}(h:d9 m){j:Nat}(aH:j<=m):∃k,k<m+1/\hW m k 0=j:=by
 have:=UR.mp h.fZ.1 j (List.mem_range.mpr (by omega))
 exact CK m (m+1) 0 j (by simpa using this)
def d9.reach{m:Nat}(h:d9 m){i j:Nat}(hi:i<=m)(aH:j<=m):∃k,k<m+1/\hW m k i=j:=by
 obtain⟨a,az,dX⟩:=h.DC hi;obtain⟨b,af,dY⟩:=h.DC aH
 by_cases c:a<=b
 .refine⟨b-a,by omega,?_⟩
  rw[<- dX,<- tD,show a+(b-a)=b by omega];exact dY
 .refine⟨m+1-a+b,by omega,?_⟩
  rw[<- dX,<- tD,show a+(m+1-a+b)=(m+1)+b by omega,tD,h.fZ.2];exact dY
def d9.met{m:Nat}(hm:d9 m)(h:Int){j:Nat}(aH:j<=m):∃r,r<m+14/\(run m h r).1=j:=by
 obtain⟨k,aq,e⟩:=hm.reach (yf m h 13) aH;exact⟨13+k,by omega,by rw[DQ];exact e⟩
def d9.Np{m:Nat}(hm:d9 m)(h:Int){j:Nat}(aH:j<=m):∃n,n<10*turns m/\bZ m h n=j:=by
 obtain⟨r,aZ,e⟩:=hm.met h aH;obtain⟨n,aD,ov,_⟩:=u7 m h r;refine⟨n,by unfold turns;omega,?_⟩
 unfold bZ;rw[ov];show(run m h r).1+0=j;omega
def least{P:Nat->Prop}(n:Nat)(h:P n):∃k,k<=n/\P k/\∀q,q<k->¬P q:=by
 induction n using Nat.strongRecOn with
 |ind n aO =>
  by_cases c:∃q,q<n/\P q
  .obtain⟨q,aE,aC⟩:=c;obtain⟨k,a,b,d⟩:=aO q aE aC;exact⟨k,by omega,b,d⟩
  .exact⟨n,UE _,h,λq aE aC=>c ⟨q,aE,aC⟩⟩
theorem zY:∀(k:Nat)(l:List Nat),(∀j,j<k->j∈l)->k<=l.length
 |0,_,_=>UH _
 |k+1,l,h=>by
  have aq:=h k (WA k);have J:=zY k (l.erase k) λj aH=>(List.mem_erase_of_ne (by omega)).mpr (h j (by omega))
  rw[W3 aq]at J;have:=List.length_pos_of_mem aq;omega
def hole{t:SetTable}(ae:t.place.size+t.dummies.size<=t.mask):∃j,j<=t.mask/\¬fw t j:=by
 by_cases c:∃j,j<=t.mask/\¬fw t j
 .exact c
 .exfalso;have J:=zY (t.mask+1) (t.place.toList++t.dummies.toList) λj aH=>by
   have o:fw t j:=VO λn=>c ⟨j,by omega,n⟩
   rcases o with⟨i,e⟩|⟨i,e⟩
   .exact VA _ (VB (by rw[U9];exact e))
   .exact UP _ (VB (by rw[U9];exact e))
  rw[UM,Array.length_toList,Array.length_toList]at J;omega
def wc{t:SetTable}(hm:d9 t.mask)(ae:t.place.size+t.dummies.size<=t.mask)(h:Int):
  ∃N,N<10*turns t.mask/\¬fw t (bZ t.mask h N)/\∀k,k<N->fw t (bZ t.mask h k):=by
 obtain⟨j,aH,aD⟩:=hole ae;obtain⟨n,hP,e⟩:=hm.Np h aH;obtain⟨N,J,aa,aL⟩:=least (P:=λn=>¬fw t (bZ t.mask h n)) n (by rw[e];exact aD)
 exact⟨N,by omega,aa,λk aq=>VO (aL k aq)⟩
noncomputable def hC(p:Probe)(d:Option Nat):Probe:={ p with dummy:=d }
def uX(m:Nat)(p:Probe)(d:Option Nat):g9 m (hC p d)=hC (g9 m p) d:=by
 unfold g9 hC
 by_cases c:p.more>0
 .rw[if_pos c];simp only[c,Vn]
 .rw[if_neg c];simp only[c,UX]
noncomputable def mK(t:SetTable)(h:Int)(N:Nat)(d:Option Nat):Prop:=∀j,d=some j->∃k,k<N/\j=bZ t.mask h k/\∃i:Nat,t.dummies[i]?=some j
theorem x1 {t : SetTable} {h : Int} {hashAt : Nat -> Int} (aZ : g7 t.place) (hd : g7 t.dummies) (js : ∀ i bw j : Nat, t.place[i]? = some j -> t.dummies[bw]? = some j -> False) {N : Nat} (he : ¬ fw t (bZ t.mask h N)) (aw : ∀ k, k < N -> fw t (bZ t.mask h k)) :
    ∀ (fuel n : Nat) (d : Option Nat), n <= N -> N - n < fuel -> mK t h N d ->
      (∃ k i d', n <= k /\ k < N /\ t.place[i]? = some (bZ t.mask h k) /\ hashAt i = h /\ (∀ cB, n <= cB -> cB < k -> ∀ bw : Nat, t.place[bw]? = some (bZ t.mask h cB) -> hashAt bw ≠ h) /\ mK t h N d' /\ probe.go t hashAt h fuel (hC (pr t.mask h n) d) = some (.candidate (bZ t.mask h k) i (hC (pr t.mask h (k + 1)) d')))
      \/ ((∀ cB, n <= cB -> cB < N -> ∀ bw : Nat, t.place[bw]? = some (bZ t.mask h cB) -> hashAt bw ≠ h) /\ ∃ d', mK t h N d' /\ probe.go t hashAt h fuel (hC (pr t.mask h n) d) = some (.empty (bZ t.mask h N) d'))
  | 0, n, d, J, aa, _ => by omega
  | fuel + 1, n, d, J, aa, aq => by
    unfold probe.go
    by_cases c : n = N
    · subst c
      have e : t.slot (hC (pr t.mask h n) d).j = .empty := Rd he
      rw [e]
      exact .inr ⟨fun cB a b => by omega, d, aq, rfl⟩
    · have next : ∀ cp, mK t h N cp -> (∀ bw : Nat, t.place[bw]? = some (bZ t.mask h n) -> hashAt bw ≠ h) -> ∀ R, R = probe.go t hashAt h fuel (hC (pr t.mask h (n + 1)) cp) ->
          (∃ k i d', n <= k /\ k < N /\ t.place[i]? = some (bZ t.mask h k) /\ hashAt i = h /\ (∀ cB, n <= cB -> cB < k -> ∀ bw : Nat, t.place[bw]? = some (bZ t.mask h cB) -> hashAt bw ≠ h) /\ mK t h N d' /\ R = some (.candidate (bZ t.mask h k) i (hC (pr t.mask h (k + 1)) d')))
          \/ ((∀ cB, n <= cB -> cB < N -> ∀ bw : Nat, t.place[bw]? = some (bZ t.mask h cB) -> hashAt bw ≠ h) /\ ∃ d', mK t h N d' /\ R = some (.empty (bZ t.mask h N) d')) := fun cp ih ne R hR => by
        rcases x1 aZ hd js he aw fuel (n + 1) cp (by omega) (by omega) ih with ⟨k, e8, d', a, b, dq, aj, f, wo, g⟩ | ⟨f, d', wo, g⟩
        · refine .inl ⟨k, e8, d', by omega, b, dq, aj, fun cB bc bC bw d2 => ?_, wo, hR.trans g⟩
          by_cases cO : cB = n
          · subst cO; exact ne bw d2
          · exact f cB (by omega) bC bw d2
        · refine .inr ⟨fun cB bc bC bw d2 => ?_, d', wo, hR.trans g⟩
          by_cases cO : cB = n
          · subst cO; exact ne bw d2
          · exact f cB (by omega) bC bw d2
      rcases aw n (by omega) with ⟨i, hi⟩ | ⟨i, hi⟩
      · have e : t.slot (hC (pr t.mask h n) d).j = .live i := nQ aZ hi
        rw [e]
        by_cases q : hashAt i = h
        · refine .inl ⟨n, i, d, UE _, by omega, hi, q, fun cB a b => by omega, aq, ?_⟩
          simp only [q, beq_self_eq_true, Vn]
          rw [uW, uX]; rfl
        · have cL : (hashAt i == h) = false := by rw [beq_eq_false_iff_ne]; exact q
          simp only [cL, UC, UX]
          refine next d aq (fun bw fs => ?_) _ (by rw [uW, uX]; rfl)
          have bf := nQ aZ fs
          rw [nQ aZ hi] at bf
          injection bf with bf
          rw [<- bf]; exact q
      · have no : ∀ i : Nat, t.place[i]? ≠ some (bZ t.mask h n) := fun bw e => js bw i _ e hi
        have e : t.slot (hC (pr t.mask h n) d).j = .dummy := Ep hd no hi
        rw [e]
        refine next (some (bZ t.mask h n)) (fun j ju => ?_) (fun bw fs => absurd fs (no bw)) _ ?_
        · cases ju; exact ⟨n, by omega, rfl, i, hi⟩
        · show probe.go t hashAt h fuel (t.advance (hC (pr t.mask h n) (some (bZ t.mask h n)))) = _
          rw [uW, uX]; rfl
end ez
end
section
namespace ez
open PySem PySem.SetTable
def lh {α : Type} (xs : Array α) (p : Nat) (x : α) (aC : p <= xs.size) (i : Nat) :
    (insertAt xs p x)[i]? = if i < p then xs[i]? else if i = p then some x else xs[i - 1]? := by
  unfold insertAt
  rw [Array.getElem?_append, Array.getElem?_push, WG, WG, U5, Vh]
  have e : min p xs.size - 0 = p := by omega
  rw [e, WW]
  by_cases ck : i < p
  · simp only [if_pos (show i < p + 1 by omega), if_neg (show ¬ i = p by omega), if_pos ck]
  · by_cases bo : i = p
    · simp only [if_pos (show i < p + 1 by omega), if_neg ck, if_pos bo]
    · simp only [if_neg (show ¬ i < p + 1 by omega), if_neg ck, if_neg bo, Nat.min_self]
      have av : min p xs.size = p := by omega
      by_cases cm : i - (p + 1) < xs.size - p
      · rw [if_pos cm]; congr 1; omega
      · rw [if_neg cm]; rw [Wj (by omega)]
def nB{α:Type}(xs:Array α)(p:Nat)(x:α)(aC:p<=xs.size):(insertAt xs p x).size=xs.size+1:=by
 unfold insertAt;rw[Wb,U5,Vh,Vh];omega
def B4{α:Type}(xs:Array α)(p:Nat)(x:α)(aC:p<=xs.size):(insertAt xs p x).toList.Perm (x::xs.toList):=by
 have e:(insertAt xs p x).toList=xs.toList.take p++x::xs.toList.drop p:=by
  unfold insertAt;simp[List.extract_eq_drop_take];rw[VC (by simp)]
 rw[e];refine(X2).trans (List.Perm.cons x ?_);rw[VI]
def ow{α:Type}(xs:Array α)(p:Nat)(aC:p<xs.size)(i:Nat):(eraseAt xs p)[i]?=if i<p then xs[i]? else xs[i+1]?:=by
 unfold eraseAt;rw[Array.getElem?_append,WG,WG,Vh];have e:min p xs.size-0=p:=by omega
 rw[e,WW]
 by_cases ck:i<p
 .simp only[if_pos ck]
 .simp only[if_neg ck,Nat.min_self]
  by_cases cm:i-p<xs.size-(p+1)
  .rw[if_pos cm];congr 1;omega
  .rw[if_neg cm];rw[Wj (by omega)]
def qk{α:Type}(xs:Array α)(p:Nat)(aC:p<xs.size):(eraseAt xs p).size+1=xs.size:=by
 unfold eraseAt;rw[Wb,Vh,Vh];omega
def IM{α:Type}(xs:Array α)(p:Nat)(aC:p<xs.size):(xs[p]::(eraseAt xs p).toList).Perm xs.toList:=by
 have e:(eraseAt xs p).toList=xs.toList.take p++xs.toList.drop (p+1):=by
  unfold eraseAt;simp[List.extract_eq_drop_take];rw[VC (by simp)]
 rw[e];refine(X2).symm.trans (List.Perm.of_eq ?_);have:xs[p]=xs.toList[p]'(by simpa using aC):=rfl
 rw[this,<- Vr,VI]
def B5 {xs : Array Nat} (aZ : g7 xs) {j : Nat} (aD : ∀ i : Nat, xs[i]? ≠ some j) : g7 (insertAt xs (below xs j) j) := by
  obtain ⟨cY, er, d6⟩ := p4 aZ j
  generalize below xs j = p at cY er d6
  have pg := lh xs p j cY
  have Gv : ∀ (q a : Nat), p <= q -> xs[q]? = some a -> j < a := fun q a aE az => by
    have := d6 q a aE az
    have : j ≠ a := fun e => aD q (by rw [e]; exact az)
    omega
  intro i bw a b w0 az af
  rw [pg] at az af
  by_cases ck : i < p
  · rw [if_pos ck] at az
    by_cases bo : bw < p
    · rw [if_pos bo] at af; exact aZ i bw a b w0 az af
    · rw [if_neg bo] at af
      by_cases cm : bw = p
      · rw [if_pos cm] at af; injection af with af; subst af; exact er i a ck az
      · rw [if_neg cm] at af; exact aZ i (bw - 1) a b (by omega) az af
  · rw [if_neg ck] at az
    rw [if_neg (show ¬ bw < p by omega), if_neg (show ¬ bw = p by omega)] at af
    by_cases cm : i = p
    · rw [if_pos cm] at az; injection az with az; subst az; exact Gv (bw - 1) b (by omega) af
    · rw [if_neg cm] at az; exact aZ (i - 1) (bw - 1) a b (by omega) az af
def B2{α:Type}{xs:Array α}{p:Nat}{x:α}(aC:p<=xs.size){v:α}{i:Nat}(h:xs[i]?=some v):∃bw:Nat,(insertAt xs p x)[bw]?=some v:=by
 by_cases c:i<p
 .exact⟨i,by rw[lh _ _ _ aC,if_pos c];exact h⟩
 .exact⟨i+1,by rw[lh _ _ _ aC,if_neg (show ¬i+1<p by omega),if_neg (show ¬i+1=p by omega)];exact h⟩
def B3{α:Type}{xs:Array α}{p:Nat}{x:α}(aC:p<=xs.size):(insertAt xs p x)[p]?=some x:=by
 rw[lh _ _ _ aC,if_neg (VT p),if_pos rfl]
def sZ{α:Type}{xs:Array α}{p:Nat}{x:α}(aC:p<=xs.size){v:α}{i:Nat}(h:(insertAt xs p x)[i]?=some v):v=x\/∃bw:Nat,xs[bw]?=some v:=by
 rw[lh _ _ _ aC]at h
 split at h
 .exact .inr ⟨_,h⟩
 .split at h
  .injection h with h;exact .inl h.symm
  .exact .inr ⟨_,h⟩
def Af{xs:Array Nat}(aZ:g7 xs){p:Nat}(aC:p<xs.size):g7 (eraseAt xs p):=by
 intro i bw a b w0 az af;rw[ow _ _ aC]at az af
 by_cases ck:i<p
 .rw[if_pos ck]at az
  by_cases bo:bw<p
  .rw[if_pos bo]at af;exact aZ i bw a b w0 az af
  .rw[if_neg bo]at af;exact aZ i (bw+1) a b (by omega) az af
 .rw[if_neg ck]at az;rw[if_neg (show ¬bw<p by omega)]at af
  exact aZ (i+1) (bw+1) a b (by omega) az af
def vW{α:Type}{xs:Array α}{p:Nat}(aC:p<xs.size){v:α}{i:Nat}(h:(eraseAt xs p)[i]?=some v):∃bw:Nat,bw≠p/\xs[bw]?=some v:=by
 rw[ow _ _ aC]at h
 split at h
 .exact⟨i,by omega,h⟩
 .exact⟨i+1,by omega,h⟩
def Ae{α:Type}{xs:Array α}{p:Nat}(aC:p<xs.size){v:α}{i:Nat}(hi:i≠p)(h:xs[i]?=some v):∃bw:Nat,(eraseAt xs p)[bw]?=some v:=by
 by_cases c:i<p
 .exact⟨i,by rw[ow _ _ aC,if_pos c];exact h⟩
 .exact⟨i-1,by rw[ow _ _ aC,if_neg (show ¬i-1<p by omega),show i-1+1=i by omega];exact h⟩
structure Tab{α:Type}(ab:Array (Int×α))(t:SetTable):Prop where
 i9:g7 t.place
 i8:g7 t.dummies
 le:∀i j:Nat,t.place[i]?=some j->j<=t.mask
 vN:∀i j:Nat,t.dummies[i]?=some j->j<=t.mask
 js:∀i bw j:Nat,t.place[i]?=some j->t.dummies[bw]?=some j->False
 d3:t.place.size=ab.size
 hQ:d9 t.mask
 full:t.place.size+t.dummies.size<=t.mask
 path:∀(i j:Nat)(e:Int×α),t.place[i]?=some j->ab[i]?=some e->∃n,bZ t.mask e.1 n=j/\∀k,k<n->fw t (bZ t.mask e.1 k)
section
variable{α:Type}{ab:Array (Int×α)}{t:SetTable}
def Tab.flags(T:Tab ab t){t':SetTable}(J:t'.mask=t.mask)(aa:t'.place=t.place)(aL:t'.dummies=t.dummies):Tab ab t':=by
 obtain⟨m,p,d,f,l,v,q⟩:=t;obtain⟨du,eZ,d',j9,il,nY,cL⟩:=t';cases J;cases aa;cases aL;exact⟨T.i9,T.i8,T.le,T.vN,T.js,T.d3,T.hQ,T.full,T.path⟩
theorem Tab.fill(T:Tab ab t):t.fill=ab.size+t.dummies.size:=by unfold SetTable.fill;rw[T.d3]
def Tab.inj(T:Tab ab t){i bw j:Nat}(h:t.place[i]?=some j)(h':t.place[bw]?=some j):i=bw:=by
 have e:=nQ T.i9 h;rw[nQ T.i9 h']at e;injection e with e;exact e.symm
def Tab.met(T:Tab ab t){h:Int}{N:Nat}(he:¬fw t (bZ t.mask h N)){i:Nat}{e:Int×α}(hi:ab[i]?=some e)(b5:e.1=h):∃k,k<N/\t.place[i]?=some (bZ t.mask h k):=by
 have ae:=(Vf.mp hi).1;rw[<- T.d3]at ae;have aC:t.place[i]?=some t.place[i]:=UL ae;obtain⟨n,aD,ar⟩:=T.path i _ e aC hi;subst b5;refine⟨n,?_,by rw[aD];exact aC⟩
 by_cases c:n<N
 .exact c
 .exfalso
  by_cases bo:n=N
  .subst bo;exact he (.inl ⟨i,by rw[aD];exact aC⟩)
  .exact he (ar N (by omega))
theorem Tab.put (T : Tab ab t) {h : Int} {x : α} {N : Nat} (he : ∀ i : Nat, t.place[i]? ≠ some (bZ t.mask h N)) (aw : ∀ k, k < N -> fw t (bZ t.mask h k)) (hf : (∃ i : Nat, t.dummies[i]? = some (bZ t.mask h N)) \/ t.place.size + t.dummies.size + 1 <= t.mask) :
    Tab (insertAt ab (t.put (bZ t.mask h N)).2 (h, x)) (t.put (bZ t.mask h N)).1 /\ (t.put (bZ t.mask h N)).2 <= ab.size /\ (t.put (bZ t.mask h N)).1.mask = t.mask /\ (t.put (bZ t.mask h N)).1.plain = t.plain /\ (t.put (bZ t.mask h N)).1.led = t.led
      /\ (t.put (bZ t.mask h N)).1.dummies.size <= t.dummies.size /\ ((∃ i : Nat, t.dummies[i]? = some (bZ t.mask h N)) -> (t.put (bZ t.mask h N)).1.dummies.size + 1 = t.dummies.size) := by
  obtain ⟨cY, er, d6⟩ := p4 T.i9 (bZ t.mask h N)
  have oI := yr t.mask h N
  generalize aH : bZ t.mask h N = j at he cY er d6 hf oI ⊢
  obtain ⟨D, ma, FD, hD, FE, FF, yX⟩ : ∃ D, (if has t.dummies j then eraseAt t.dummies (below t.dummies j) else t.dummies) = D /\ g7 D /\ (∀ i v : Nat, D[i]? = some v -> v ≠ j /\ ∃ bw : Nat, t.dummies[bw]? = some v) /\ (∀ i v : Nat, t.dummies[i]? = some v -> v ≠ j -> ∃ bw : Nat, D[bw]? = some v) /\ D.size <= t.dummies.size /\ ((∃ i : Nat, t.dummies[i]? = some j) -> D.size + 1 = t.dummies.size) := by
    by_cases c : ∃ i : Nat, t.dummies[i]? = some j
    · obtain ⟨i, hi⟩ := c
      have cg := (Vf.mp hi).1
      refine ⟨eraseAt t.dummies i, by rw [Bl T.i8 hi, below_at T.i8 hi]; rfl, Af T.i8 cg, fun k v aQ => ?_, fun k v aQ dg => ?_, by have := qk t.dummies i cg; omega, fun _ => qk t.dummies i cg⟩
      · obtain ⟨bw, J, aa⟩ := vW cg aQ
        refine ⟨fun e => J ?_, bw, aa⟩
        subst e
        exact (below_at T.i8 aa).symm.trans (below_at T.i8 hi)
      · exact Ae cg (fun e => dg (by subst e; rw [hi] at aQ; injection aQ with aQ; exact aQ.symm)) aQ
    · exact ⟨t.dummies, by rw [Bm fun i e => c ⟨i, e⟩]; rfl, T.i8, fun i v aQ => ⟨fun e => c ⟨i, e ▸ aQ⟩, i, aQ⟩, fun i v aQ _ => ⟨i, aQ⟩, UE _, fun z => absurd z c⟩
  have aj : t.put j = ({ t with place := insertAt t.place (below t.place j) j, dummies := D }, below t.place j) := by
    unfold SetTable.put; rw [<- ma]
  rw [aj]
  have rs := B5 T.i9 he
  generalize below t.place j = p at cY er d6 rs
  have vt : p <= ab.size := by rw [<- T.d3]; exact cY
  have pg := lh t.place p j cY
  have vP := lh ab p (h, x) vt
  have eH : ∀ v, fw t v -> fw { t with place := insertAt t.place p j, dummies := D } v := fun v aQ => by
    rcases aQ with ⟨i, hi⟩ | ⟨i, hi⟩
    · exact .inl (B2 cY hi)
    · by_cases c : v = j
      · subst c; exact .inl ⟨p, B3 cY⟩
      · exact .inr (FE i v hi c)
  refine ⟨⟨rs, FD, ?_, ?_, ?_, ?_, T.hQ, ?_, ?_⟩, vt, rfl, rfl, rfl, FF, yX⟩
  · intro i v aQ
    rcases sZ cY aQ with rfl | ⟨bw, h'⟩
    · exact oI
    · exact T.le _ _ h'
  · intro i v aQ
    obtain ⟨_, bw, h'⟩ := hD i v aQ
    exact T.vN _ _ h'
  · intro i bw v aQ kk
    obtain ⟨ne, e9, aa⟩ := hD bw v kk
    rcases sZ cY aQ with rfl | ⟨nA, aL⟩
    · exact ne rfl
    · exact T.js _ _ _ aL aa
  · show (insertAt t.place p j).size = (insertAt ab p (h, x)).size
    rw [nB _ _ _ cY, nB _ _ _ vt, T.d3]
  · show (insertAt t.place p j).size + D.size <= t.mask
    rw [nB _ _ _ cY]
    have := T.full
    rcases hf with z | z
    · have := yX z; omega
    · omega
  · intro i v e aQ gv
    dsimp only at aQ ⊢
    rw [pg] at aQ
    rw [vP] at gv
    have old : ∀ jI : Nat, t.place[jI]? = some v -> ab[jI]? = some e -> ∃ n, bZ t.mask e.1 n = v /\ ∀ k, k < n -> fw { t with place := insertAt t.place p j, dummies := D } (bZ t.mask e.1 k) := fun jI a b => by
      obtain ⟨n, aD, ar⟩ := T.path jI v e a b
      exact ⟨n, aD, fun k aq => eH _ (ar k aq)⟩
    by_cases ck : i < p
    · rw [if_pos ck] at aQ gv; exact old i aQ gv
    · rw [if_neg ck] at aQ gv
      by_cases bo : i = p
      · rw [if_pos bo] at aQ gv
        injection aQ with aQ; injection gv with gv
        subst gv
        exact ⟨N, by rw [aH]; exact aQ, fun k aq => eH _ (aw k aq)⟩
      · rw [if_neg bo] at aQ gv; exact old _ aQ gv
theorem Tab.drop (T : Tab ab t) {i : Nat} (hi : i < ab.size) : Tab (eraseAt ab i) (t.drop i) /\ (t.drop i).mask = t.mask /\ (t.drop i).plain = t.plain /\ (t.drop i).led = t.led /\ (t.drop i).dummies.size = t.dummies.size + 1 := by
  have aC : i < t.place.size := by rw [T.d3]; exact hi
  have oL : t.place[i]? = some t.place[i] := UL aC
  generalize t.place[i] = j at oL
  have aD : ∀ k : Nat, t.dummies[k]? ≠ some j := fun k e => T.js _ _ _ oL e
  have cY := (p4 T.i8 j).1
  have rs := B5 T.i8 aD
  have aj : t.drop i = { t with place := eraseAt t.place i, dummies := insertAt t.dummies (below t.dummies j) j } := by unfold SetTable.drop; rw [oL]
  rw [aj]
  generalize below t.dummies j = p at cY rs
  have eH : ∀ v, fw t v -> fw { t with place := eraseAt t.place i, dummies := insertAt t.dummies p j } v := fun v aQ => by
    rcases aQ with ⟨k, aq⟩ | ⟨k, aq⟩
    · by_cases c : k = i
      · subst c; rw [oL] at aq; injection aq with aq; subst aq; exact .inr ⟨p, B3 cY⟩
      · exact .inl (Ae aC c aq)
    · exact .inr (B2 cY aq)
  have au := qk t.place i aC
  have iV := qk ab i hi
  refine ⟨⟨Af T.i9 aC, rs, fun k v aQ => ?_, fun k v aQ => ?_, fun k cB v aQ kk => ?_, ?_, T.hQ, ?_, ?_⟩, rfl, rfl, rfl, nB _ _ _ cY⟩
  · obtain ⟨cB, _, h'⟩ := vW aC aQ
    exact T.le _ _ h'
  · rcases sZ cY aQ with rfl | ⟨cB, h'⟩
    · exact T.le _ _ oL
    · exact T.vN _ _ h'
  · obtain ⟨k2, ne, aa⟩ := vW aC aQ
    rcases sZ cY kk with rfl | ⟨bl, aL⟩
    · exact ne (T.inj aa oL)
    · exact T.js _ _ _ aa aL
  · have := T.d3
    show (eraseAt t.place i).size = (eraseAt ab i).size
    omega
  · have := T.full
    show (eraseAt t.place i).size + (insertAt t.dummies p j).size <= t.mask
    rw [nB _ _ _ cY]; omega
  · intro k v e aQ gv
    dsimp only at aQ ⊢
    rw [ow _ _ aC] at aQ
    rw [ow _ _ hi] at gv
    have old : ∀ jI : Nat, t.place[jI]? = some v -> ab[jI]? = some e -> ∃ n, bZ t.mask e.1 n = v /\ ∀ k, k < n -> fw { t with place := eraseAt t.place i, dummies := insertAt t.dummies p j } (bZ t.mask e.1 k) := fun jI a b => by
      obtain ⟨n, aD, ar⟩ := T.path jI v e a b
      exact ⟨n, aD, fun k aq => eH _ (ar k aq)⟩
    by_cases c : k < i
    · rw [if_pos c] at aQ gv; exact old _ aQ gv
    · rw [if_neg c] at aQ gv; exact old _ aQ gv
end
theorem xP:∀(k:Nat)(l:List Nat),l.Nodup->(∀x∈l,x<k)->l.length<=k
 |0,l,_,h=>by
  cases l with
  |nil=>simp
  |cons a r=>exact absurd (h a List.mem_cons_self) (Nat.not_lt_zero a)
 |k+1,l,dU,h=>by
  by_cases c:k∈l
  .have J:=xP k (l.erase k) (dU.erase k) λx ah=>by
    have:=(dU.mem_erase_iff).mp ah;have:=h x this.2;omega
   rw[W3 c]at J;omega
  .have:=xP k l dU λx ah=>by
    have:=h x ah;have:x≠k:=λe=>c (e▸ah)
    omega
   omega
noncomputable def lL(b8:Array (Option Nat))(j:Nat):Prop:=∃q,b8[j]?=some (some q)
theorem AN{m:Nat}{h:Int}{b8:Array (Option Nat)}(au:b8.size=m+1):∀(fuel r:Nat),(∃i6,r<=i6/\i6<r+fuel/\b8[(run m h i6).1]?=some none) ->
  (∀bL d,d<=len m h bL->bL<r->lL b8 ((run m h bL).1+d)) ->
  ∃aI cp,cp<=len m h aI/\layClean.free m b8 fuel (run m h r).1 (run m h r).2=some ((run m h aI).1+cp)/\b8[(run m h aI).1+cp]?=some none/\∀bL d,d<=len m h bL->(bL<aI\/(bL=aI/\d<cp))->lL b8 ((run m h bL).1+d)
 |0,r,⟨i6,a,b,_⟩,_=>by omega
 |fuel+1,r,⟨i6,a,b,c⟩,af=>by
  unfold layClean.free;have T7:=tO (yf m h r);have get:∀d,d<=len m h r->∃o,b8[(run m h r).1+d]?=some o/\b8.getD ((run m h r).1+d) (some 0)=o:=λd hd=>by
   unfold len at hd;have cg:(run m h r).1+d<b8.size:=by rw[au];omega
   exact⟨b8[(run m h r).1+d],UL cg,by simp[Array.getD,cg]⟩
  cases hf:(List.range (runEnd m (run m h r).1+1-(run m h r).1)).find? λk=>(b8.getD ((run m h r).1+k) (some 0)).isNone with
  |some k =>
   obtain⟨J,aa,aL⟩:=List.find?_range_eq_some.mp hf;have aq:k<=len m h r:=by have:=List.mem_range.mp aa;unfold len;omega
   refine⟨r,k,aq,rfl,?_,λbL d hd cg=>?_⟩
   .obtain⟨o,aj,av⟩:=get k aq;rw[av]at J;rw[aj];cases o with
    |none=>rfl
    |some _=>simp at J
   .rcases cg with cg|⟨rfl,cg⟩
    .exact af bL d hd cg
    .obtain⟨o,aj,av⟩:=get d hd;have:=aL d cg;rw[av]at this;cases o with
     |none=>simp at this
     |some q=>exact⟨q,aj⟩
  |none =>
   have aD:=List.find?_range_eq_none.mp hf;have full:∀d,d<=len m h r->lL b8 ((run m h r).1+d):=λd hd=>by
    obtain⟨o,aj,av⟩:=get d hd;have:=aD d (by unfold len at hd;omega)
    rw[av]at this;cases o with
    |none=>simp at this
    |some q=>exact⟨q,aj⟩
   have Uh:i6≠r:=λe=>by
    subst e;obtain⟨q,aE⟩:=full 0 (UH _);rw[Nat.add_zero,c]at aE;cases aE
   show ∃aI cp,_/\layClean.free m b8 fuel (run m h (r+1)).1 (run m h (r+1)).2=_/\_;refine AN au fuel (r+1) ⟨i6,by omega,by omega,c⟩ λbL d hd cg=>?_
   by_cases e:bL=r
   .subst e;exact full d hd
   .exact af bL d hd (by omega)
structure Own(m:Nat)(ae:List Int)(b8:Array (Option Nat)):Prop where
 size:b8.size=m+1
 lt:∀j q:Nat,b8[j]?=some (some q)->q<ae.length
 inj:∀j ll q:Nat,b8[j]?=some (some q)->b8[ll]?=some (some q)->j=ll
 all:∀(q:Nat)(h:Int),ae[q]?=some h->∃n,b8[bZ m h n]?=some (some q)/\∀k,k<n->lL b8 (bZ m h k)
def Own.hole{m:Nat}{ae:List Int}{b8:Array (Option Nat)}(O:Own m ae b8)(aw:ae.length<=m):∃j,j<=m/\b8[j]?=some none:=by
 by_cases c:∃j,j<=m/\b8[j]?=some none
 .exact c
 .exfalso;have eH:∀j,j<=m->lL b8 j:=λj aH=>by
   have ba:b8[j]?=some (b8[j]'(by rw[O.size];omega)):=UL (by rw[O.size];omega)
   cases e:b8[j]'(by rw[O.size];omega) with
   |none=>exact absurd ⟨j,aH,by rw[ba,e]⟩ c
   |some q=>exact⟨q,by rw[ba,e]⟩
  have J:=xP ae.length ((List.range (m+1)).map λj=>(b8.getD j none).getD 0) ?_ ?_
  .simp at J;omega
  .have key:∀j,j<=m->b8[j]?=some (some ((b8.getD j none).getD 0)):=λj aH=>by
    obtain⟨q,aE⟩:=eH j aH;have:b8.getD j none=some q:=by rw[VJ,aE];rfl
    rw[this];exact aE
   rw[List.Nodup,Wt];refine Wx ?_ (List.nodup_range (n:=m+1));intro a b az af oG e;have qP:=key a (by have:=List.mem_range.mp az;omega)
   have qQ:=key b (by have:=List.mem_range.mp af;omega)
   rw[<- e]at qQ;exact oG (O.inj a b _ qP qQ)
  .intro x ah;obtain⟨j,aH,e⟩:=List.mem_map.mp ah;obtain⟨q,aE⟩:=eH j (by have:=List.mem_range.mp aH;omega)
   have:b8.getD j none=some q:=by rw[VJ,aE];rfl
   rw[this]at e;have bf:q=x:=e;rw[<- bf];exact O.lt j q aE
def Own.step {m : Nat} (hm : d9 m) {ae : List Int} {b8 : Array (Option Nat)} (O : Own m ae b8) (aw : ae.length <= m) (h : Int) :
    ∃ j, layClean.free m b8 (turns m) (bits h % (m + 1)) (bits h) = some j /\ Own m (ae ++ [h]) (b8.setIfInBounds j (some ae.length)) := by
  obtain ⟨Uc, K6, dq⟩ := O.hole aw
  obtain ⟨i6, T6, IK⟩ := hm.met h K6
  obtain ⟨aI, cp, ig, r3, ov, Lp⟩ := AN (h := h) O.size (turns m) 0 ⟨i6, UH _, by unfold turns; omega, by rw [IK]; exact dq⟩ (fun bL d _ cg => absurd cg (Nat.not_lt_zero _))
  obtain ⟨n, _, aD, aq⟩ := Gs m h aI cp ig
  have IS : bZ m h n = (run m h aI).1 + cp := by unfold bZ; rw [aD]; rfl
  rw [<- IS] at r3 ov
  have NT : ∀ k, k < n -> lL b8 (bZ m h k) := fun k e7 => by
    obtain ⟨bL, d', a, b, c⟩ := aq k e7
    unfold bZ
    rw [c]
    exact Lp bL d' a b
  refine ⟨bZ m h n, r3, ?_, ?_, ?_, ?_⟩
  · rw [Array.size_setIfInBounds]; exact O.size
  · intro j q aE
    rw [VE] at aE
    rw [UM, List.length_singleton]
    split at aE
    · split at aE
      · injection aE with aE; injection aE with aE; omega
      · cases aE
    · have := O.lt j q aE; omega
  · intro j ll q a b
    rw [VE] at a b
    split at a
    · rename_i aj
      split at b
      · rename_i av; rw [<- aj, <- av]
      · split at a
        · injection a with a; injection a with a
          have := O.lt ll q b
          omega
        · cases a
    · split at b
      · split at b
        · injection b with b; injection b with b
          have := O.lt j q a
          omega
        · cases b
      · exact O.inj j ll q a b
  · intro q h' aE
    have mono : ∀ j, lL b8 j -> lL (b8.setIfInBounds (bZ m h n) (some ae.length)) j := fun j ⟨cL, nq⟩ => by
      by_cases c : bZ m h n = j
      · refine ⟨ae.length, ?_⟩
        rw [VE, if_pos c, if_pos (by rw [O.size]; have := yr m h n; omega)]
      · exact ⟨cL, by rw [VE, if_neg c]; exact nq⟩
    by_cases c : q < ae.length
    · rw [UW c] at aE
      obtain ⟨cG, a, b⟩ := O.all q h' aE
      refine ⟨cG, ?_, fun k e7 => mono _ (b k e7)⟩
      rw [VE, if_neg]
      · exact a
      · intro e; rw [<- e, ov] at a; cases a
    · have nq := (U2.mp aE).1
      rw [UM, List.length_singleton] at nq
      have e : q = ae.length := by omega
      subst e
      rw [Vp (UE _), Nat.sub_self] at aE
      simp at aE
      subst aE
      refine ⟨n, ?_, fun k e7 => mono _ (NT k e7)⟩
      rw [VE, if_pos rfl, if_pos (by rw [O.size]; have := yr m h n; omega)]
def Oc(m:Nat):Own m [] (Array.replicate (m+1) none):=by
 have no:∀j q:Nat,(Array.replicate (m+1) (none:Option Nat))[j]?≠some (some q):=λj q aE=>by
  rw[Array.getElem?_replicate]at aE
  split at aE<;>cases aE
 exact⟨by simp,λj q aE=>absurd aE (no j q),λj ll q aE=>absurd aE (no j q),λq h aE=>by simp at aE⟩
def MW {m : Nat} (hm : d9 m) (ae : Array Int) (aw : ae.size <= m) : ∃ b8, layClean m ae = some b8 /\ Own m ae.toList b8 := by
  unfold layClean
  rw [<- Array.foldl_toList]
  have main : ∀ (rest done : List Int) (b8 : Array (Option Nat)), Own m done b8 -> (done ++ rest).length <= m ->
      ∃ tF, rest.foldl (fun (acc : Option (Array (Option Nat) × Nat)) h => do
        let (owner, k) <- acc
        let j <- layClean.free m owner (turns m) (bits h % (m + 1)) (bits h)
        pure (owner.setIfInBounds j (some k), k + 1)) (some (b8, done.length)) = some (tF, (done ++ rest).length) /\ Own m (done ++ rest) tF := by
    intro rest
    induction rest with
    | nil => intro done b8 O _; exact ⟨b8, by simp, by simpa using O⟩
    | cons h r aO =>
      intro done b8 O hlen
      rw [UM, List.length_cons] at hlen
      obtain ⟨j, r3, FN⟩ := O.step hm (by omega) h
      have := aO (done ++ [h]) _ FN (by simp; omega)
      rw [UN] at this
      simp only [List.singleton_append, UM, List.length_cons, List.length_nil, WW] at this
      obtain ⟨tF, e, FO⟩ := this
      refine ⟨tF, ?_, FO⟩
      rw [W5]
      simp only [Option.bind_eq_bind, Option.bind_some, r3, Option.pure_def] at e ⊢
      rw [e]
      simp only [UM, List.length_cons]
  obtain ⟨b8, e, O⟩ := main ae.toList [] (Array.replicate (m + 1) none) (Oc m) (by simpa using aw)
  refine ⟨b8, ?_, by simpa using O⟩
  simp only [List.length_nil] at e
  rw [e]; rfl
theorem wi{α β:Type}(f:α->Option β):∀(l:List α),(∀x∈l,(f x).isSome=true)->∀i:Nat,(l.filterMap f)[i]?=l[i]?.bind f
 |[],_,i=>by simp
 |x::r,h,i=>by
  have ah:=h x List.mem_cons_self;cases e:f x with
  |none=>rw[e]at ah;cases ah
  |some y =>
   rw[List.filterMap_cons,e];cases i with
   |zero=>simp[e]
   |succ i =>
    simp only[List.getElem?_cons_succ];exact wi f r (λz au=>h z (List.mem_cons_of_mem _ au)) i
theorem AG{α β:Type}(f:α->Option β):∀(l:List α),(∀x∈l,(f x).isSome=true)->(l.filterMap f).length=l.length
 |[],_=>rfl
 |x::r,h=>by
  have ah:=h x List.mem_cons_self;cases e:f x with
  |none=>rw[e]at ah;cases ah
  |some y=>rw[List.filterMap_cons,e,List.length_cons,List.length_cons,AG f r λz au=>h z (List.mem_cons_of_mem _ au)]
def xD {α : Type} {m : Nat} (hm : d9 m) (ab : Array (Int × α)) (aw : ab.size <= m) (f i1 : Nat) (led cu : Bool) :
    ∃ t' order, laid m f i1 led cu (ab.map (·.1)) = some (t', order) /\ t'.mask = m /\ t'.led = led /\ t'.plain = cu /\ (order.filterMap (ab[·]?)).size = ab.size /\ Tab (order.filterMap (ab[·]?)) t' /\ (order.filterMap (ab[·]?)).toList.Perm ab.toList /\ order.toList.Perm (List.range ab.size) := by
  obtain ⟨b8, e, O⟩ := MW hm (ab.map (·.1)) (by simpa using aw)
  have hlen : (ab.map (·.1)).toList.length = ab.size := by simp
  generalize f6 : (List.range (m + 1)).filterMap (fun j => (b8.getD j none).map (j, ·)) = L
  have nK : ∀ j q, (j, q) ∈ L <-> b8[j]? = some (some q) := fun j q => by
    rw [<- f6, WE]
    constructor
    · rintro ⟨ll, ft, bf⟩
      cases h0 : b8.getD ll none with
      | none => rw [h0] at bf; cases bf
      | some cL =>
        rw [h0] at bf
        injection bf with bf
        injection bf with aj av
        subst aj; subst av
        rw [VJ] at h0
        cases J : b8[ll]? with
        | none => rw [J] at h0; cases h0
        | some o => rw [J] at h0; exact Wm some h0
    · intro h
      refine ⟨j, List.mem_range.mpr ?_, ?_⟩
      · have := (Vf.mp h).1; rw [O.size] at this; exact this
      · rw [VJ, h]; rfl
  have rise : L.Pairwise (fun a b => a.1 < b.1) := by
    rw [<- f6]
    refine List.Pairwise.filterMap _ ?_ (Xb (n := m + 1))
    intro a n8 cg b af h6 ke
    cases h0 : b8.getD a none with
    | none => rw [h0] at af; cases af
    | some q =>
      cases J : b8.getD n8 none with
      | none => rw [J] at ke; cases ke
      | some cL =>
        rw [h0] at af; rw [J] at ke
        cases af; cases ke
        exact cg
  have lt : ∀ p ∈ L, p.2 < ab.size := fun p aC => by
    have := O.lt p.1 p.2 ((nK p.1 p.2).mp aC)
    rw [hlen] at this; exact this
  have NC : (L.map (·.2)).Nodup := by
    rw [List.Nodup, Wt]
    refine Wx ?_ rise
    intro a b az af oG bf
    have := O.inj a.1 b.1 a.2 ((nK _ _).mp az) (by rw [bf]; exact (nK _ _).mp af)
    omega
  have xY : (L.map (·.2)).Perm (List.range ab.size) := by
    refine (XD NC List.nodup_range).mpr fun q => ?_
    rw [List.mem_range, List.mem_map]
    constructor
    · rintro ⟨p, aC, rfl⟩; exact lt p aC
    · intro aE
      obtain ⟨n, a, _⟩ := O.all q (ab[q].1) (by rw [U9, Array.getElem?_map, UL aE]; rfl)
      exact ⟨(_, q), (nK _ _).mpr a, rfl⟩
  have xE : L.length = ab.size := by have := xY.length_eq; simpa using this
  have CY : ∀ q ∈ L.map (·.2), (ab[q]?).isSome = true := fun q aE => by
    obtain ⟨p, aC, rfl⟩ := List.mem_map.mp aE
    rw [UL (lt p aC)]; rfl
  have NY : ∀ q ∈ List.range ab.size, (ab[q]?).isSome = true := fun q aE => by
    rw [UL (List.mem_range.mp aE)]; rfl
  have vX : ((L.map (·.2)).toArray.filterMap (ab[·]?)).toList = (L.map (·.2)).filterMap (ab[·]?) := by simp
  have J6 : ∀ (i : Nat), ((L.map (·.2)).toArray.filterMap (ab[·]?))[i]? = (L[i]?).bind fun p => ab[p.2]? := by
    intro i
    rw [<- U9, vX, wi _ _ CY, U1]
    cases L[i]? <;> rfl
  have El : ((L.map (·.2)).toArray.filterMap (ab[·]?)).size = ab.size := by
    rw [<- Array.length_toList, vX, AG _ _ CY, List.length_map, xE]
  have OH : ((L.map (·.2)).toArray.filterMap (ab[·]?)).toList.Perm ab.toList := by
    rw [vX]
    refine (xY.filterMap (ab[·]?)).trans (List.Perm.of_eq ?_)
    refine Xc fun i => ?_
    rw [wi _ _ NY]
    by_cases c : i < ab.size
    · rw [Xv c]; simp
    · rw [Vw (by simpa using c), Vw (by simpa using c)]; rfl
  refine ⟨{ mask := m, place := (L.map (·.1)).toArray, dummies := #[], finger := f, led, moves := i1, plain := cu }, (L.map (·.2)).toArray, ?_, rfl, rfl, rfl, El, ⟨?_, fun i j a b _ h => by simp at h, ?_, fun i j h => by simp at h, fun i bw j _ h => by simp at h, ?_, hm, ?_, ?_⟩, OH, by simpa using xY⟩
  · unfold laid
    rw [e]
    simp only [Option.bind_eq_bind, Option.bind_some, Option.pure_def, f6]
  · intro i j a b qB az af
    simp only [WM, U1] at az af
    cases dX : L[i]? with
    | none => rw [dX] at az; cases az
    | some Dc =>
      cases dY : L[j]? with
      | none => rw [dY] at af; cases af
      | some Ui =>
        rw [dX] at az; rw [dY] at af
        cases az; cases af
        obtain ⟨J, aj⟩ := U2.mp dX
        obtain ⟨aa, av⟩ := U2.mp dY
        have := V5.mp rise i j J aa qB
        rw [aj, av] at this
        exact this
  · intro i j hi
    simp only [WM, U1] at hi
    cases kX : L[i]? with
    | none => rw [kX] at hi; cases hi
    | some p =>
      rw [kX] at hi
      cases hi
      have := (nK p.1 p.2).mp (VB kX)
      have := (Vf.mp this).1
      rw [O.size] at this
      show p.1 <= m
      omega
  · show (L.map (·.1)).toArray.size = _
    rw [El]; simp [xE]
  · show (L.map (·.1)).toArray.size + 0 <= m
    simp [xE]; exact aw
  · intro i j bf hi he
    simp only [WM, U1] at hi
    rw [J6] at he
    cases kX : L[i]? with
    | none => rw [kX] at hi; cases hi
    | some p =>
      rw [kX] at hi he
      cases hi
      have aC := (nK p.1 p.2).mp (VB kX)
      have jC : ab[p.2]? = some bf := he
      obtain ⟨n, a, b⟩ := O.all p.2 bf.1 (by rw [U9, Array.getElem?_map, jC]; rfl)
      refine ⟨n, O.inj _ _ _ a aC, fun k aq => ?_⟩
      obtain ⟨cL, nq⟩ := b k aq
      obtain ⟨bw, fs, Il⟩ := VZ.mp ((nK _ _).mpr nq)
      refine .inl ⟨bw, ?_⟩
      show (L.map (·.1)).toArray[bw]? = _
      simp only [WM, U1]
      rw [UJ fs, Il]; rfl
end ez
end
section
namespace Pv
open PySem ez PySem.SetTable
section
variable{prog:Program}{w:World}{A:Around}{E:Value->Shared->Prop}{s:Shared}
noncomputable def fz(prog:Program)(w:World)(h:Heap)(ks:List Int)(b:Addr):Prop:=IsTupleKey (intKind prog w) h ks b
noncomputable def ef(prog:Program)(w:World)(ks:List Int):Int:=tupleKeyHash (intKind prog w) ks
noncomputable def fI(prog:Program)(w:World)(h:Heap)(e:Int×Value)(ks:List Int):Prop:=∃b,e.2=.ref b/\e.1=ef prog w ks/\fz prog w h ks b
def fz.kept{h h':Heap}{ks:List Int}{b:Addr}(x:fz prog w h ks b)(k:∀o,h.get? b=some o->h'.get? b=some o):fz prog w h' ks b :=
 let ⟨o,items,n,ar,r⟩:=x;⟨o,items,n,k o ar,r⟩
def fz.ne{h:Heap}{ks:List Int}{a b:Addr}{o:Obj}{ab aT t}(x:fz prog w h ks b)(ar:h.get? a=some o)(hd:o.data=.set ab aT t):b≠a:=by
 rintro rfl;obtain⟨bN,items,n,dh,_,f7,_⟩:=x;rw[ar]at dh;cases dh;rw[hd]at f7;cases f7
def zL {M : Model} {ks : List Int} {a : Addr} {Q : Bool -> Shared -> Prop} (aq : fz prog w s.heap ks a) (h : Q false s) : wpAny M A (ofAClassStatement 8 (.ref a)) Q E s := by
  have cF : s.TypeIs (.ref a) "tuple" := IsTupleKey.typeIs aq
  obtain ⟨o, items, n, ar, _, hd, hi⟩ := aq
  unfold ofAClassStatement
  refine UA (Wr cF ?_)
  dsimp only
  rw [if_pos (by rfl)]
  refine UA (wpAny_pure ?_)
  simp only [VM, UC, UX]
  refine UA (wpAny_seqItems ar hd ?_)
  dsimp only
  refine UA ?_
  rw [<- Array.forIn_toList]
  refine Xj _ (fun rest r s' => r.1 = none /\ s' = s /\ ∀ v ∈ rest, carriedByValue v = true) _ ?_ ?_ _ _ ⟨rfl, rfl, hi.byValue⟩
  · rintro v rest r s' ⟨aZ, rfl, fC⟩
    have aQ := fC v List.mem_cons_self
    have e : ofAClassStatement 7 v = pure false := by
      cases v with
      | ref b => simp [carriedByValue] at aQ
      | _ => unfold ofAClassStatement; rfl
    rw [e]
    refine UA (wpAny_pure ?_)
    simp only [UC, UX]
    exact wpAny_pure ⟨rfl, rfl, fun u qI => fC u (List.mem_cons_of_mem _ qI)⟩
  · rintro ⟨aI, a5⟩ s' ⟨aZ, rfl, _⟩
    simp only at aZ
    subst aZ
    exact wpAny_pure h
def QM{ks:List Int}{b:Addr}{stored:List Value}{Q:Bool->Shared->Prop}(aq:fz prog w s.heap ks b)(ae:∀v∈stored,∃c b9,v=.ref c/\fz prog w s.heap b9 c)(h:Q false s):
  wpAny (model prog w) A (searchCouldBeSeen (.ref b) stored) Q E s:=by
 unfold searchCouldBeSeen;refine UA ?_;refine Xj _ (λrest r s'=>r.1=none/\s'=s/\∀v∈rest,∃c b9,v=.ref c/\fz prog w s.heap b9 c) _ ?_ ?_ _ _ ⟨rfl,rfl,ae⟩
 .rintro v rest r s' ⟨aZ,rfl,fC⟩;obtain⟨c,b9,rfl,ai⟩:=fC v List.mem_cons_self;have kj:∀v∈rest,∃c b9,v=.ref c/\fz prog w s'.heap b9 c:=λu qI=>fC u (List.mem_cons_of_mem _ qI)
  dsimp only
  split
  .exact wpAny_pure ⟨rfl,rfl,kj⟩
  .refine UA (wpAny_eqIsQuiet_tuple aq ?_);simp only[VM,UC,UX];refine UA (wpAny_eqIsQuiet_tuple ai ?_);simp only[VM,UC,UX];refine UA (zL aq ?_);simp only[UC,UX];refine UA (zL ai ?_);simp only[UC,UX];exact wpAny_pure ⟨rfl,rfl,kj⟩
 .rintro⟨aI,a5⟩ s' ⟨aZ,rfl,_⟩;simp only at aZ;subst aZ;exact wpAny_pure h
def GR {ks : List Int} {a : Addr} {Q : Bool -> Shared -> Prop} (aq : fz prog w s.heap ks a) (h : Q true s) : wpAny (model prog w) A (hashByValue 8 (.ref a)) Q E s := by
  have cF : s.TypeIs (.ref a) "tuple" := IsTupleKey.typeIs aq
  obtain ⟨o, items, n, ar, _, hd, hi⟩ := aq
  unfold hashByValue
  refine UA (Yd cF F.slot_tuple_hash.lookup ?_)
  dsimp only
  refine UA (wpAny_seqItems ar hd ?_)
  refine UA ?_
  show wpAny _ _ (forIn items _ _) _ _ s
  rw [<- Array.forIn_toList]
  have fC : ∀ v ∈ items.toList, ∃ i t, v = Value.int i t := by
    clear hd ar
    generalize items.toList = l at hi
    induction hi with
    | nil => intro v aQ; simp at aQ
    | @cons k nY b9 ag J _ aO =>
      intro v aQ
      rcases UI.mp aQ with rfl | aQ
      · obtain ⟨t, e⟩ := XM J
        exact ⟨_, t, e⟩
      · exact aO v aQ
  refine Xj _ (fun rest r s' => r.1 = none /\ s' = s /\ ∀ v ∈ rest, ∃ i t, v = Value.int i t) _ ?_ ?_ _ _ ⟨rfl, rfl, fC⟩
  · rintro v rest r s' ⟨aZ, rfl, fC⟩
    obtain ⟨i, t, rfl⟩ := fC v List.mem_cons_self
    have e : hashByValue 7 (Value.int i t) = pure true := by unfold hashByValue; rfl
    rw [e]
    refine UA (wpAny_pure ?_)
    simp only [VM, UC, UX]
    exact wpAny_pure ⟨rfl, rfl, fun u qI => fC u (List.mem_cons_of_mem _ qI)⟩
  · rintro ⟨aI, a5⟩ s' ⟨aZ, rfl, _⟩
    simp only at aZ
    subst aZ
    exact wpAny_pure h
theorem Tab.fits{ab:Array (Int×Value)}{t:SetTable}(T:Tab ab t):t.fits ab.size=true:=by
 unfold SetTable.fits;have J:=T.d3;have aa:=T.fill;have aL:=T.full;simp only[UB,VP,UU];exact⟨J,by rw[aa,<- J];exact aL⟩
def Tab.JY{ab:Array (Int×Value)}{t:SetTable}(T:Tab ab t):t.gaveWay=false:=by
 unfold SetTable.gaveWay;rcases T.hQ with e|e|e|e|e|e|e<;>rw[e]<;>rfl
theorem d9.turns{m:Nat}(h:d9 m):turns m<=526:=by unfold SetTable.turns;rcases h with e|e|e|e|e|e|e<;>rw[e]<;>omega
def d9.grow{m n f:Nat}(h:d9 m)(aD:1<=n)(aa:n<=f)(hf:f<=76)(aS:f*5>=m*3):∃du,d9 du/\sizeAbove (grown n)-1=du/\n*5<du*3/\n<=du/\sizeAbove (grown n)<=512:=by
 have key:((List.range 77).all λn=>decide (n=0)||(decide (sizeAbove (grown n)-1∈[7,15,31,63,127,255,511])&&decide (n*5<(sizeAbove (grown n)-1)*3)&&decide (n<=sizeAbove (grown n)-1)&&decide (sizeAbove (grown n)<=512)))=true:=by decide +kernel
 have k:=UR.mp key n (List.mem_range.mpr (by omega))
 simp only[Wg,UB,UU]at k;rcases k with k|⟨⟨⟨k1,k2⟩,bl⟩,b0⟩
 .omega
 .refine⟨_,?_,rfl,k2,bl,b0⟩;simpa[d9] using k1
theorem yi {a b : Addr} {o : Obj} {ab : Array (Int × Value)} {aT : Nat} {t : SetTable} {ks : List Int} {bp : List (List Int)} {lS : Bool} {R : SetFound -> Shared -> Prop} {N : Nat} (bQ : A.units < cLine)
    (ar : s.heap.get? a = some o) (hd : o.data = .set ab aT t) (T : Tab ab t) (aC : Paired (fI prog w s.heap) ab.toList bp) (aq : fz prog w s.heap ks b)
    (bj : N < 10 * turns t.mask) (f9 : ¬ fw t (bZ t.mask (ef prog w ks) N)) (aw : ∀ k, k < N -> fw t (bZ t.mask (ef prog w ks) k))
    (hf : ks ∉ bp -> ∀ k b, (b = false /\ k = N \/ b = true /\ k < N /\ ∃ i : Nat, t.dummies[i]? = some (bZ t.mask (ef prog w ks) k)) -> R (.free (bZ t.mask (ef prog w ks) k) b) s)
    (aS : ks ∈ bp -> ∀ r, (lS = false -> ∃ i e, r = some i /\ ab[i]? = some e /\ fI prog w s.heap e ks) -> R (.there r) s) :
    ∀ (fuel n : Nat) (t2 : Option Probe) (oq : Option Nat), n <= N -> N - n < fuel -> mK t (ef prog w ks) N oq -> t2.getD (t.probeStart (ef prog w ks)) = hC (pr t.mask (ef prog w ks) n) oq ->
      (∀ k, k < n -> ∀ (i : Nat) (e : Int × Value), t.place[i]? = some (bZ t.mask (ef prog w ks) k) -> ab[i]? = some e -> ¬ fI prog w s.heap e ks) ->
      wpAny (model prog w) A (setSearchFrom a (.ref b) (ef prog w ks) lS fuel t2) R E s
  | 0, n, t2, oq, J, aa, _, _, _ => by omega
  | fuel + 1, n, t2, oq, J, aa, KH, cA, ki => by
    unfold setSearchFrom
    refine UA (U4 ar hd (Tab.fits T) ?_)
    dsimp only
    rw [Tab.JY T]
    simp only [UC, UX]
    rw [cA]
    have sz : ∀ (i : Nat) (e : Int × Value), ab[i]? = some e -> (fun i => (ab[i]?.map (·.1)).getD 0) i = e.1 := fun i e h => by simp [h]
    generalize aN : t.probe _ (ef prog w ks) (hC (pr t.mask (ef prog w ks) n) oq) = X
    have mem_of : ∀ (i : Nat) (e : Int × Value), ab[i]? = some e -> ∃ b9, b9 ∈ bp /\ fI prog w s.heap e b9 := fun i e h => by
      have hm : e ∈ ab.toList := by rw [<- U9] at h; exact VB h
      clear sz ki f9 aw aS hf
      generalize ab.toList = l at aC hm
      induction aC with
      | nil => simp at hm
      | cons J _ aO =>
        rcases UI.mp hm with rfl | hm
        · exact ⟨_, List.mem_cons_self, J⟩
        · obtain ⟨b9, a1, a2⟩ := aO hm
          exact ⟨b9, List.mem_cons_of_mem _ a1, a2⟩
    rcases x1 (h := ef prog w ks) (hashAt := fun i => (ab[i]?.map (·.1)).getD 0) T.i9 T.i8 T.js f9 aw (10 * turns t.mask) n oq J (by omega) KH with ⟨k, i, r2, cY, er, d6, fX, hF, u9, kT⟩ | ⟨hF, r2, u9, kT⟩
    · have rV : X = _ := aN.symm.trans kT
      rw [rV]
      dsimp only
      have hi : i < ab.size := by rw [<- T.d3]; exact (Vf.mp d6).1
      have mb : ab[i]? = some ab[i] := UL hi
      obtain ⟨b9, w2, c, h9, iL, ai⟩ := mem_of i _ mb
      have rest : wpAny (model prog w) A (do
          let some (_, y) := ab[i]? | unsupported "internal:set-entry"
          let equal <- holding [y] (eqBool y (.ref b))
          let (jw, _, t') <- setState a
          if lS && equal then return SetFound.there none
          let some same := t'.sameMemory t.moves t.mask | unsupported "set.changed-during-lookup:is-the-new-block-at-the-old-address"
          let Rx <- match (if same then t'.slot (bZ t.mask (ef prog w ks) k) else .empty) with
            | .live bw => match jw[bw]? with
              | some (_, g4) => do pure (if <- isSame g4 y then some bw else none)
              | none => pure none
            | _ => pure none
          match Rx with
          | none => rule "set.search.anew"; setSearchFrom a (.ref b) (ef prog w ks) lS fuel none
          | some bw => if equal then return SetFound.there (some bw) else setSearchFrom a (.ref b) (ef prog w ks) lS fuel (some (hC (pr t.mask (ef prog w ks) (k + 1)) r2))) R E s := by
        rw [mb]
        generalize gv : ab[i] = ev at h9 iL mb
        obtain ⟨TF, TH⟩ := ev
        dsimp only at h9 iL ⊢
        subst h9
        refine UA (Vu (wpAny_eqBool_tuple bQ ai aq ?_))
        refine UA (U4 ar hd (Tab.fits T) ?_)
        dsimp only
        have same : t.sameMemory t.moves t.mask = some true := by unfold SetTable.sameMemory; simp
        by_cases q : b9 = ks
        · subst q
          simp only [decide_true, Yn]
          cases lS
          · simp only [UC, UX]
            rw [same]
            dsimp only
            rw [if_pos rfl, nQ T.i9 d6]
            dsimp only
            rw [mb]
            dsimp only
            refine UA (wpAny_isSame_ref_self (UA (wpAny_pure ?_)))
            rw [if_pos rfl]
            dsimp only
            first | exact wpAny_pure (aS w2 _ fun _ => ⟨i, _, rfl, mb, c, rfl, iL, ai⟩) | (rw [if_pos trivial]; exact wpAny_pure (aS w2 _ fun _ => ⟨i, _, rfl, mb, c, rfl, iL, ai⟩))
          · simp only [Vn]
            exact wpAny_pure (aS w2 _ fun z => by cases z)
        · simp only [decide_eq_false q, Yh, UC, UX]
          rw [same]
          dsimp only
          rw [if_pos rfl, nQ T.i9 d6]
          dsimp only
          rw [mb]
          dsimp only
          refine UA (wpAny_isSame_ref_self (UA (wpAny_pure ?_)))
          rw [if_pos rfl]
          dsimp only
          refine yi bQ ar hd T aC aq bj f9 aw hf aS fuel (k + 1) _ r2 (by omega) (by omega) u9 rfl fun cB e7 bw bf w9 jC ah => ?_
          by_cases ck : cB < n
          · exact ki cB ck bw bf w9 jC ah
          · by_cases bo : cB = k
            · subst bo
              have aj : bw = i := T.inj w9 d6
              subst aj
              rw [mb] at jC
              cases jC
              obtain ⟨cO, Ih, _, c0⟩ := ah
              cases Ih
              exact q (IsTupleKey.inj ai c0)
            · obtain ⟨_, _, Ik, _⟩ := ah
              exact hF cB (by omega) (by omega) bw w9 ((sz bw bf jC).trans Ik)
      cases fl : t.led
      · simp only [WS, Vn]
        refine UA (QM aq (fun v aQ => ?_) ?_)
        · obtain ⟨e, jC, rfl⟩ := List.mem_map.mp aQ
          have hm : e ∈ ab.toList := by
            rw [Array.toList_filter] at jC
            exact (U0.mp jC).1
          obtain ⟨j, aH⟩ := List.mem_iff_getElem?.mp hm
          obtain ⟨MG, _, bo, av, _, aa⟩ := mem_of j e (by rw [<- U9]; exact aH)
          exact ⟨bo, MG, av, aa⟩
        · simp only [UC, UX]
          exact rest
      · simp only [VM, UC, UX]
        exact rest
    · have rV : X = _ := aN.symm.trans kT
      rw [rV]
      dsimp only
      have gU : ks ∉ bp := fun eF => by
        obtain ⟨e, hm, ah⟩ : ∃ e ∈ ab.toList, fI prog w s.heap e ks := by
          clear sz ki f9 aw aS hf mem_of hF kT rV
          generalize ab.toList = l at aC
          induction aC with
          | nil => simp at eF
          | @cons bf b9 _ _ J _ aO =>
            rcases UI.mp eF with rfl | eF
            · exact ⟨bf, List.mem_cons_self, J⟩
            · obtain ⟨e, a1, a2⟩ := aO eF
              exact ⟨e, List.mem_cons_of_mem _ a1, a2⟩
        obtain ⟨j, aH⟩ := List.mem_iff_getElem?.mp hm
        rw [U9] at aH
        obtain ⟨_, _, iL, _⟩ := id ah
        obtain ⟨k, ih, hM⟩ := T.met f9 aH iL
        by_cases c : k < n
        · exact ki k c j e hM aH ah
        · exact hF k (by omega) ih j hM ((sz j e aH).trans iL)
      cases r2 with
      | none => exact wpAny_pure (hf gU N false (.inl ⟨rfl, rfl⟩))
      | some d =>
        dsimp only
        obtain ⟨k, ih, hM, i, hi⟩ := u9 d rfl
        subst hM
        have nx : t.slot (bZ t.mask (ef prog w ks) k) = .dummy := Ep T.i8 (fun bw e => T.js _ _ _ e hi) hi
        have au : (lS && t.slot (bZ t.mask (ef prog w ks) k) != .dummy) = false := by rw [nx]; cases lS <;> rfl
        rw [au]
        simp only [UC, UX]
        exact wpAny_pure (hf gU k true (.inr ⟨rfl, ih, i, hi⟩))
noncomputable def gn(M:Value->Prop)(prog:Program)(w:World)(h:Heap)(a:Addr)(c:Nat)(bp:List (List Int)):Prop :=
 ∃o ab aT t,h.get? a=some o/\o.ExactSet/\o.data=.set ab aT t/\Tab ab t/\t.fill*5<t.mask*3/\t.fill<=c/\t.plain=true/\(t.led=true<->w.params.followText "set-order"=false)/\Paired (λe ks=>fI prog w h e ks/\M e.2) ab.toList bp/\bp.Nodup
noncomputable def h5(M:Value->Prop)(prog:Program)(w:World)(h:Heap)(a:Addr)(bp:List (List Int)):Prop:=gn M prog w h a bp.length bp
def Paired.perm{α β:Type}{F:α->β->Prop}{b7 dt:List α}(p:b7.Perm dt):∀{ks:List β},Paired F dt ks->∃b9,b9.Perm ks/\Paired F b7 b9:=by
 induction p with
 |nil=>intro ks h;cases h;exact⟨[],.refl _,.nil⟩
 |cons x _ aO =>
  intro ks h;cases h with
  |cons J t =>
   obtain⟨b9,eZ,h'⟩:=aO t;exact⟨_::b9,eZ.cons _,.cons J h'⟩
 |swap x y l =>
  intro ks h;cases h with
  |cons J t =>
   cases t with
   |cons aa t=>exact⟨_::_::_,List.Perm.swap _ _ _,.cons aa (.cons J t)⟩
 |trans _ _ xn xo =>
  intro ks h;obtain⟨k1,bc,J⟩:=xo h;obtain⟨k2,bC,aa⟩:=xn J;exact⟨k2,bC.trans bc,aa⟩
theorem Paired.len{α β:Type}{F:α->β->Prop}:∀{l:List α}{ks:List β},Paired F l ks->l.length=ks.length
 |_,_,.nil=>rfl
 |_,_,.cons _ t=>by simp[Paired.len t]
theorem Paired.mp{α β:Type}{F G:α->β->Prop}(f:∀a b,F a b->G a b):∀{l:List α}{ks:List β},Paired F l ks->Paired G l ks
 |_,_,.nil=>.nil
 |_,_,.cons h t=>.cons (f _ _ h) (Paired.mp f t)
theorem gn.kept{M:Value->Prop}{h h':Heap}{a:Addr}{c:Nat}{bp:List (List Int)}(x:gn M prog w h a c bp)(k:∀b o,h.get? b=some o->h'.get? b=some o):gn M prog w h' a c bp:=by
 obtain⟨o,ab,aT,t,ar,aI,a5,dn,fe,x6,fE,x5,rh,nM⟩:=x;exact⟨o,ab,aT,t,k _ _ ar,aI,a5,dn,fe,x6,fE,x5,Paired.mp (λe ks ⟨⟨b,aj,av,bF⟩,eB⟩=>⟨⟨b,aj,av,bF.kept (k b)⟩,eB⟩) rh,nM⟩
theorem h5.kept{M:Value->Prop}{h h':Heap}{a:Addr}{bp:List (List Int)}(x:h5 M prog w h a bp)(k:∀b o,h.get? b=some o->h'.get? b=some o):h5 M prog w h' a bp:=gn.kept x k
def fI.move{h h':Heap}{a:Addr}{o:Obj}{ab aT t}(ar:h.get? a=some o)(hd:o.data=.set ab aT t)(ae:Heap.SameBut a h h'){e:Int×Value}{ks:List Int}(x:fI prog w h e ks):fI prog w h' e ks :=
 let ⟨c,aj,av,bF⟩:=x;⟨c,aj,av,bF.kept λbN dh=>(ae.2 c (bF.ne ar hd)).trans dh⟩
def zc {M : Value -> Prop} {a b : Addr} {c : Nat} {ks : List Int} {bp : List (List Int)} {Q : Bool -> Shared -> Prop} (bQ : A.units < cLine) (aX : gn M prog w s.heap a c bp) (aq : fz prog w s.heap ks b) (e6 : M (.ref b)) (jH : c < 76)
    (h : ∀ h' dr r, Heap.SameBut a s.heap h' -> gn M prog w h' a (if ks ∈ bp then c else c + 1) dr -> dr.Perm (if ks ∈ bp then bp else ks :: bp) -> Q r { s with heap := h' }) :
    wpAny (model prog w) A (setAddHashed a (.ref b) (ef prog w ks)) Q E s := by
  obtain ⟨o, ab, aT, t, ar, hex, hd, T, iP, ai, d1, fl, aC, gw⟩ := aX
  obtain ⟨N, bj, f9, aw⟩ := wc T.hQ T.full (ef prog w ks)
  have hlen : ab.size = bp.length := by have := Paired.len aC; simpa using this
  unfold setAddHashed setAddHashedIn
  refine Vu (UA (U4 ar hd (Tab.fits T) ?_))
  dsimp only
  have wU : byScan (.ref b) ab = false := by unfold byScan; simp [Value.scannable]
  rw [wU]
  simp only [UC, UX]
  refine UA ?_
  unfold setSearch
  refine yi bQ ar hd T (Paired.mp (fun _ _ x => x.1) aC) aq bj f9 aw (fun gU k bd sI => ?_) (fun eF r _ => ?_) 100000 0 none none (UH _) ?_ (fun _ z => by cases z) rfl (fun k e7 => absurd e7 (Nat.not_lt_zero k))
  · -- it is new
    dsimp only
    have Bw := T.fill
    have hsz := T.d3
    have qA : t.place.size + t.dummies.size + 1 <= t.mask := by
      rw [Bw] at iP; rw [hsz]
      rcases T.hQ with e | e | e | e | e | e | e <;> rw [e] at iP ⊢ <;> omega
    have ih : k <= N := by rcases sI with ⟨_, z⟩ | ⟨_, z, _⟩ <;> omega
    have dg : ∀ i : Nat, t.place[i]? ≠ some (bZ t.mask (ef prog w ks) k) := fun i e => by
      rcases sI with ⟨_, z⟩ | ⟨_, _, bw, z⟩
      · subst z; exact f9 (.inl ⟨i, e⟩)
      · exact T.js _ _ _ e z
    obtain ⟨fo, cY, er, d6, fX, hF, kT⟩ := T.put (x := Value.ref b) dg (fun cB e7 => aw cB (by omega)) (.inr qA)
    refine UA (U4 ar hd (Tab.fits T) ?_)
    dsimp only
    generalize dK : t.put (bZ t.mask (ef prog w ks) k) = P at fo cY er d6 fX hF kT
    obtain ⟨t1, bc⟩ := P
    dsimp only at fo cY er d6 fX hF kT ⊢
    rw [d6, d1]
    simp only [Vn]
    refine UA (GR aq ?_)
    simp only [Vn]
    have nk := B4 ab bc (ef prog w ks, Value.ref b) cY
    have oO : (insertAt ab bc (ef prog w ks, Value.ref b)).size = ab.size + 1 := nB _ _ _ cY
    have wX : Paired (fun e ks => fI prog w s.heap e ks /\ M e.2) ((ef prog w ks, Value.ref b) :: ab.toList) (ks :: bp) := .cons ⟨⟨b, rfl, rfl, aq⟩, e6⟩ aC
    obtain ⟨oU, aK, a6⟩ := Paired.perm nk wX
    have kh : oU.Nodup := (aK.nodup_iff).mpr (Ve.mpr ⟨gU, gw⟩)
    generalize KL : insertAt ab bc (ef prog w ks, Value.ref b) = cK at fo nk oO a6
    have Bv : t1.fill = cK.size + t1.dummies.size := fo.fill
    have nx : cK.size <= sizeLine := by rw [oO, sizeLine_eq]; omega
    refine UA (Wc ar hd ?_ nx)
    have fq : (s.heap.update a (Obj.putSet cK t1)).get? a = some { o with data := .set cK (aT + 1) t1 } := by
      have := Va (Obj.putSet cK t1) ar (by rw [Wk cK t1 hd]; rfl)
      rw [Wk cK t1 hd] at this; exact this
    have la := Vj s.heap a (Obj.putSet cK t1)
    have move : ∀ {h' : Heap}, Heap.SameBut a s.heap h' -> ∀ (e : Int × Value) (b9 : List Int), (fI prog w s.heap e b9 /\ M e.2) -> (fI prog w h' e b9 /\ M e.2) := fun {h'} ae e b9 x => ⟨x.1.move ar hd ae, x.2⟩
    have goal : ∀ h' dr, Heap.SameBut a s.heap h' -> gn M prog w h' a (c + 1) dr -> dr.Perm (ks :: bp) -> Q true { s with heap := h' } := fun h' dr c3 c1 dx => h h' dr true c3 (by rw [if_neg gU]; exact c1) (by rw [if_neg gU]; exact dx)
    have jS : t1.fill * 5 < t1.mask * 3 -> t1.fill <= c + 1 -> Q true { s with heap := s.heap.update a (Obj.putSet cK t1) } := fun c3 c1 =>
      goal _ oU la ⟨_, _, _, t1, fq, hex, rfl, fo, c3, c1, by rw [d6]; exact d1, by rw [fX]; exact fl, Paired.mp (move la) a6, kh⟩ aK
    rcases sI with ⟨rfl, _⟩ | ⟨rfl, _, KJ⟩
    · by_cases lb : t1.tooFull = true
      · simp only [lb, WS, Yo, Vn]
        have iU : t1.fill * 5 >= t1.mask * 3 := by unfold SetTable.tooFull at lb; simpa using lb
        obtain ⟨m, hm, gT, k7, sN, sM⟩ := d9.grow (n := cK.size) fo.hQ (by omega) (show cK.size <= t1.fill by omega) (by omega) iU
        refine UA ?_
        unfold setRelay
        refine UA (U4 fq rfl (Tab.fits fo) ?_)
        dsimp only
        rw [<- oO]
        have nx : ¬ sizeAbove (grown cK.size) > sizeLine := by rw [sizeLine_eq]; omega
        rw [if_neg nx]
        obtain ⟨di, order, ck, bo, cm, gp, jo, lV, p7, _⟩ := xD (α := Value) hm cK sN t1.finger (t1.movedTo m) t1.led t1.plain
        have gx : t1.relaid (cK.map (·.1)) (grown cK.size) = some (di, order) := by
          unfold SetTable.relaid; rw [gT]; exact ck
        have hd2 : di.dummies = #[] := by
          unfold SetTable.relaid SetTable.laid at gx
          cases z : layClean (sizeAbove (grown cK.size) - 1) (cK.map (·.1)) with
          | none => rw [z] at gx; cases gx
          | some b8 => rw [z] at gx; cases gx; rfl
        have Bu : di.fill = cK.size := by rw [lV.fill, hd2, jo]; rfl
        refine UA ?_
        rw [gx]
        show wpAny (model prog w) A (if ((order.filterMap (cK[·]?)).size != cK.size) = true then _ else pure (order.filterMap (cK[·]?), di)) _ E _
        rw [if_neg (by rw [jo]; simp)]
        refine wpAny_pure ?_
        dsimp only
        refine Wc fq rfl ?_ (by rw [jo, sizeLine_eq]; omega)
        obtain ⟨ik, bT, c9⟩ := Paired.perm p7 a6
        have nd : ((s.heap.update a (Obj.putSet cK t1)).update a (Obj.putSet (order.filterMap (cK[·]?)) di)).get? a = some { o with data := .set (order.filterMap (cK[·]?)) (aT + 1 + 1) di } := by
          have := Va (Obj.putSet (order.filterMap (cK[·]?)) di) fq (by rw [Wk _ di rfl]; rfl)
          rw [Wk _ di rfl] at this; exact this
        have iS := la.trans (Vj _ a (Obj.putSet (order.filterMap (cK[·]?)) di))
        refine wpAny_pure (goal _ ik iS ⟨_, _, _, di, nd, hex, rfl, lV, by rw [Bu, bo]; exact k7, by rw [Bu]; omega, by rw [gp, d6]; exact d1, by rw [cm, fX]; exact fl, Paired.mp (move iS) c9, (bT.nodup_iff).mpr kh⟩ (bT.trans aK))
      · have iU : t1.tooFull = false := by simpa using lb
        simp only [iU, Yh, UC, UX]
        refine wpAny_pure (jS ?_ (by omega))
        unfold SetTable.tooFull at iU
        have : ¬ t1.fill * 5 >= t1.mask * 3 := by simpa using iU
        omega
    · simp only [VM, Wz, UC, UX]
      have := kT KJ
      refine wpAny_pure (jS ?_ (by omega))
      rw [er]; omega
  · dsimp only
    exact wpAny_pure (h s.heap bp false (Wd a s.heap) (by rw [if_pos eF]; exact ⟨o, ab, aT, t, ar, hex, hd, T, iP, ai, d1, fl, aC, gw⟩) (by rw [if_pos eF]))
  · have := d9.turns T.hQ
    omega
def FW{M:Value->Prop}{a b:Addr}{ks:List Int}{bp:List (List Int)}{Q:Bool->Shared->Prop}(bQ:A.units<cLine)(aX:h5 M prog w s.heap a bp)(aq:fz prog w s.heap ks b)(e6:M (.ref b))(jH:bp.length<76)(h:∀h' dr r,Heap.SameBut a s.heap h'->h5 M prog w h' a dr->dr.Perm (if ks∈bp then bp else ks::bp)->Q r { s with heap:=h' }):
  wpAny (model prog w) A (setAddHashed a (.ref b) (ef prog w ks)) Q E s :=
 zc bQ aX aq e6 jH λh' dr r c3 c1 dx=>h h' dr r c3 (by
  have e:dr.length=if ks∈bp then bp.length else bp.length+1:=by rw[dx.length_eq];split<;>rfl
  unfold h5;rw[e];exact c1) dx
def H3 {M : Value -> Prop} {a b : Addr} {c : Nat} {ks : List Int} {bp : List (List Int)} {Q : Bool -> Shared -> Prop} (bQ : A.units < cLine) (aX : gn M prog w s.heap a c bp) (aq : fz prog w s.heap ks b)
    (h : ∀ h' dr, Heap.SameBut a s.heap h' -> gn M prog w h' a c dr -> (if ks ∈ bp then (ks :: dr).Perm bp else dr = bp) -> Q (decide (ks ∈ bp)) { s with heap := h' }) :
    wpAny (model prog w) A (setDiscardHashed a (.ref b) (ef prog w ks)) Q E s := by
  obtain ⟨o, ab, aT, t, ar, hex, hd, T, iP, ai, d1, fl, aC, gw⟩ := aX
  obtain ⟨N, bj, f9, aw⟩ := wc T.hQ T.full (ef prog w ks)
  have hlen : ab.size = bp.length := by have := Paired.len aC; simpa using this
  unfold setDiscardHashed setFind setFindIn
  refine UA (UA (U4 ar hd (Tab.fits T) ?_))
  dsimp only
  have wU : byScan (.ref b) ab = false := by unfold byScan; simp [Value.scannable]
  rw [wU]
  simp only [UC, UX]
  refine UA ?_
  unfold setSearch
  refine yi bQ ar hd T (Paired.mp (fun _ _ x => x.1) aC) aq bj f9 aw (fun gU k bd sI => ?_) (fun eF r aZ => ?_) 100000 0 none none (UH _) ?_ (fun _ z => by cases z) rfl (fun k e7 => absurd e7 (Nat.not_lt_zero k))
  · dsimp only
    refine wpAny_pure ?_
    dsimp only
    have := h s.heap bp (Wd a s.heap) ⟨o, ab, aT, t, ar, hex, hd, T, iP, ai, d1, fl, aC, gw⟩ (by rw [if_neg gU])
    rw [decide_eq_false gU] at this
    exact wpAny_pure this
  · obtain ⟨i, e, rfl, hi, ah⟩ := aZ rfl
    dsimp only
    refine wpAny_pure ?_
    dsimp only
    refine UA (U4 ar hd (Tab.fits T) ?_)
    dsimp only
    have cg := (Vf.mp hi).1
    obtain ⟨fo, er, d6, fX, hF⟩ := T.drop cg
    have au := qk ab i cg
    have hf := T.fill
    have qA := fo.fill
    refine UA (Wc ar hd ?_ (by rw [sizeLine_eq]; have : t.fill * 5 < t.mask * 3 := iP; rcases T.hQ with e | e | e | e | e | e | e <;> rw [e] at this <;> omega))
    refine UA (wpAny_point ?_)
    have fq : (s.heap.update a (Obj.putSet (eraseAt ab i) (t.drop i))).get? a = some { o with data := .set (eraseAt ab i) (aT + 1) (t.drop i) } := by
      have := Va (Obj.putSet (eraseAt ab i) (t.drop i)) ar (by rw [Wk _ _ hd]; rfl)
      rw [Wk _ _ hd] at this; exact this
    have la := Vj s.heap a (Obj.putSet (eraseAt ab i) (t.drop i))
    have ij := IM ab i cg
    obtain ⟨oU, aK, a6⟩ := Paired.perm ij aC
    cases a6 with
    | @cons _ k1 _ ik aU bu =>
      have hg : k1 = ks := by
        obtain ⟨⟨ck, aj, _, bF⟩, _⟩ := aU
        obtain ⟨bo, eB, _, hc⟩ := ah
        have he : ab[i] = e := by rw [UL cg] at hi; injection hi
        rw [he, eB] at aj
        cases aj
        exact IsTupleKey.inj bF hc
      subst hg
      have kh := (aK.nodup_iff).mpr gw
      have := h _ ik la ⟨_, _, _, t.drop i, fq, hex, rfl, fo, by rw [qA, er]; omega, by omega, by rw [d6]; exact d1, by rw [fX]; exact fl, Paired.mp (fun e b9 x => ⟨x.1.move ar hd la, x.2⟩) bu, (Ve.mp kh).2⟩ (by rw [if_pos eF]; exact aK)
      rw [decide_eq_true eF] at this
      exact wpAny_pure this
  · have := d9.turns T.hQ
    omega
def QX{M:Value->Prop}{a b:Addr}{ks:List Int}{bp:List (List Int)}{Q:Bool->Shared->Prop}(bQ:A.units<cLine)(aX:h5 M prog w s.heap a bp)(aq:fz prog w s.heap ks b)(e6:M (.ref b))(jH:bp.length<76)(h:∀h' tk dr r,s.toks<=tk->Heap.SameBut a s.heap h'->h5 M prog w h' a dr->dr.Perm (if ks∈bp then bp else ks::bp)->Q r { s with heap:=h',toks:=tk }):
  wpAny (model prog w) A (setAdd a (.ref b)) Q E s:=by
 unfold setAdd;refine Vu (UA (wpAny_pyHash_tuple bQ aq ?_));exact FW (s:={ s with toks:=_ }) bQ aX aq e6 jH λh' dr r c3 c1 dx=>h h' _ dr r (Nat.le_add_right _ _) c3 c1 dx
noncomputable def kL(e:Int×Value)(k:Int):Prop:=e.1=hashInt k/\∃t,e.2=.int k t
noncomputable def n5(w:World)(h:Heap)(a:Addr)(ks:List Int):Prop :=
 ∃o ab aT t,h.get? a=some o/\o.ExactSet/\o.data=.set ab aT t/\Tab ab t/\t.dummies=#[]/\ab.size*5<t.mask*3/\t.plain=true/\(t.led=true<->w.params.followText "set-order"=false)/\Paired kL ab.toList ks/\ks.Nodup
def qM(prog:Program)(w:World)(i:Int)(t:Tok):(intKind prog w).is i (.int i t)=true:=by show Value.isInt i (.int i t)=true;simp[Value.isInt]
def kL.elems{ab:List (Int×Value)}{ks:List Int}(aC:Paired kL ab ks):ElemsOf (intKind prog w) ab:=by
 intro e he
 induction aC with
 |nil=>simp at he
 |@cons bf k _ _ J _ aO =>
  rcases UI.mp he with rfl|he
  .obtain⟨aa,t,av⟩:=J;refine⟨⟨k,?_,aa⟩,?_⟩
   .rw[av];exact qM _ _ _ _
   .rw[av];rfl
  .exact aO he
def kL.find{ab:List (Int×Value)}{ks:List Int}(aC:Paired kL ab ks)(k:Int):(ab.findIdx? λe=>(intKind prog w).is k e.2).isSome=true<->k∈ks:=by
 induction aC with
 |nil=>simp
 |@cons bf cB _ _ J _ aO =>
  obtain⟨_,t,av⟩:=J;have hd:(intKind prog w).is k bf.2=decide (k=cB):=by
   rw[av];exact KeyKind.is_eq_decide (qM prog w cB t) k
  rw[List.findIdx?_cons,hd]
  by_cases c:k=cB
  .subst c;simp
  .simp only[decide_eq_false c];simp only[UC,UX,Option.isSome_map];rw[aO];simp[c]
def FV {a : Addr} {k : Int} {tk : Tok} {ks : List Int} {Q : Bool -> Shared -> Prop} (aX : n5 w s.heap a ks) (jH : ks.length < 76)
    (h : ∀ h' b9 r, Heap.SameBut a s.heap h' -> n5 w h' a b9 -> b9.Perm (if k ∈ ks then ks else k :: ks) -> Q r { s with heap := h' }) :
    wpAny (model prog w) A (setAddHashed a (.int k tk) (hashInt k)) Q E s := by
  obtain ⟨o, ab, aT, t, ar, hex, hd, T, sD, iP, d1, fl, aC, gw⟩ := aX
  obtain ⟨N, bj, f9, aw⟩ := wc T.hQ T.full (hashInt k)
  have hlen : ab.size = ks.length := by have := Paired.len aC; simpa using this
  have Bs : ElemsOf (intKind prog w) ab.toList := kL.elems aC
  have mh : ab.size < scanBound := by unfold scanBound; omega
  unfold setAddHashed setAddHashedIn
  refine Vu (UA (U4 ar hd (Tab.fits T) ?_))
  dsimp only
  rw [byScan_of (knd := intKind prog w) (x := .int k tk) rfl mh Bs]
  simp only [Vn]
  unfold setAddByScan
  refine UA ?_
  refine UA (WU ?_)
  refine UA (wpAny_setScan_of (knd := intKind prog w) (k := k) (qM _ _ _ _) ar hd (Tab.fits T) Bs ?_)
  have sF := kL.find (prog := prog) (w := w) aC k
  cases aZ : List.findIdx? (fun e => (intKind prog w).is k e.2) ab.toList with
  | some j =>
    dsimp only
    rw [aZ] at sF
    have eF : k ∈ ks := sF.mp rfl
    refine wpAny_pure (wpAny_pure ?_)
    exact h s.heap ks _ (Wd a s.heap) ⟨o, ab, aT, t, ar, hex, hd, T, sD, iP, d1, fl, aC, gw⟩ (by rw [if_pos eF])
  | none =>
    dsimp only
    rw [aZ] at sF
    have gU : k ∉ ks := fun z => by have := sF.mpr z; cases this
    have qA : t.place.size + t.dummies.size + 1 <= t.mask := by
      rw [T.d3, sD]
      show ab.size + 0 + 1 <= t.mask
      rcases T.hQ with e | e | e | e | e | e | e <;> rw [e] at iP ⊢ <;> omega
    obtain ⟨fo, cY, er, d6, fX, hF, _⟩ := T.put (x := Value.int k tk) (fun i e => f9 (.inl ⟨i, e⟩)) aw (.inr qA)
    have mc : t.freeSlot (hashInt k) = some (bZ t.mask (hashInt k) N, false) := by
      unfold SetTable.freeSlot
      rcases x1 (h := hashInt k) (hashAt := fun _ => hashInt k + 1) T.i9 T.i8 T.js f9 aw (10 * turns t.mask) 0 none (UH _) (by omega) (fun _ z => by cases z) with ⟨_, _, _, _, _, _, z, _⟩ | ⟨_, d', H4, z⟩
      · exact absurd z (by omega)
      · have fm : t.probe (fun _ => hashInt k + 1) (hashInt k) (t.probeStart (hashInt k)) = _ := z
        cases d' with
        | none => rw [fm]; rfl
        | some d => obtain ⟨_, _, _, i, hi⟩ := H4 d rfl; rw [sD] at hi; simp at hi
    have BG : layNew t ab (hashInt k) (.int k tk) = (insertAt ab (t.put (bZ t.mask (hashInt k) N)).2 (hashInt k, .int k tk), (t.put (bZ t.mask (hashInt k) N)).1, false, false) := by
      unfold layNew
      rw [mc]
      dsimp only
      have wZ := Tab.fits fo
      generalize t.put (bZ t.mask (hashInt k) N) = P at fo cY wZ
      obtain ⟨t1, bc⟩ := P
      dsimp only at wZ ⊢
      unfold SetTable.orStandIn
      rw [wZ]
      rfl
    rw [BG]
    dsimp only
    generalize dK : t.put (bZ t.mask (hashInt k) N) = P at fo cY er d6 fX hF
    obtain ⟨t1, bc⟩ := P
    dsimp only at fo cY er d6 fX hF ⊢
    refine UA (wpAny_pure ?_)
    rw [d6, d1]
    simp only [Vn]
    rw [show hashByValue 8 (Value.int k tk) = pure true from by unfold hashByValue; rfl]
    refine UA (wpAny_pure ?_)
    simp only [Vn]
    have nk := B4 ab bc (hashInt k, Value.int k tk) cY
    have oO : (insertAt ab bc (hashInt k, Value.int k tk)).size = ab.size + 1 := nB _ _ _ cY
    have wX : Paired kL ((hashInt k, Value.int k tk) :: ab.toList) (k :: ks) := .cons ⟨rfl, _, rfl⟩ aC
    obtain ⟨oU, aK, a6⟩ := Paired.perm nk wX
    have kh : oU.Nodup := (aK.nodup_iff).mpr (Ve.mpr ⟨gU, gw⟩)
    generalize KL : insertAt ab bc (hashInt k, Value.int k tk) = cK at fo nk oO a6
    refine UA (Wc ar hd ?_ (by rw [oO, sizeLine_eq]; omega))
    have fq : (s.heap.update a (Obj.putSet cK t1)).get? a = some { o with data := .set cK (aT + 1) t1 } := by
      have := Va (Obj.putSet cK t1) ar (by rw [Wk cK t1 hd]; rfl)
      rw [Wk cK t1 hd] at this; exact this
    have la := Vj s.heap a (Obj.putSet cK t1)
    have goal : ∀ h' b9, Heap.SameBut a s.heap h' -> n5 w h' a b9 -> b9.Perm (k :: ks) -> Q true { s with heap := h' } := fun h' b9 c3 c1 dx => h h' b9 true c3 c1 (by rw [if_neg gU]; exact dx)
    have Bq : t1.dummies = #[] := by rw [sD] at hF; exact Xk (Nat.le_zero.mp hF)
    have Bv : t1.fill = cK.size := by rw [fo.fill, Bq]; rfl
    by_cases lb : t1.tooFull = true
    · simp only [lb, WS, Yo, Vn]
      have iU : t1.fill * 5 >= t1.mask * 3 := by unfold SetTable.tooFull at lb; simpa using lb
      obtain ⟨m, hm, gT, k7, sN, sM⟩ := d9.grow (n := cK.size) fo.hQ (by omega) (show cK.size <= t1.fill by omega) (by omega) iU
      obtain ⟨di, order, ck, bo, cm, gp, jo, lV, p7, GS⟩ := xD (α := Value) hm cK sN t1.finger (t1.movedTo m) t1.led t1.plain
      have gx : t1.relaid (cK.map (·.1)) (grown cK.size) = some (di, order) := by
        unfold SetTable.relaid; rw [gT]; exact ck
      have hd2 : di.dummies = #[] := by
        have gx := gx
        unfold SetTable.relaid SetTable.laid at gx
        cases z : layClean (sizeAbove (grown cK.size) - 1) (cK.map (·.1)) with
        | none => rw [z] at gx; cases gx
        | some b8 => rw [z] at gx; cases gx; rfl
      have fC : relayAll t1 cK (grown cK.size) = (order.filterMap (cK[·]?), di, false) := by
        unfold relayAll
        rw [gx]
        dsimp only
        have J : coversAll order cK.size = true := by unfold coversAll; exact List.isPerm_iff.mpr GS
        rw [J, Tab.fits lV]
        rfl
      rw [fC]
      dsimp only
      refine UA (wpAny_pure ?_)
      refine UA (Wc fq rfl ?_ (by rw [jo, sizeLine_eq]; omega))
      obtain ⟨ik, bT, c9⟩ := Paired.perm p7 a6
      have nd : ((s.heap.update a (Obj.putSet cK t1)).update a (Obj.putSet (order.filterMap (cK[·]?)) di)).get? a = some { o with data := .set (order.filterMap (cK[·]?)) (aT + 1 + 1) di } := by
        have := Va (Obj.putSet (order.filterMap (cK[·]?)) di) fq (by rw [Wk _ di rfl]; rfl)
        rw [Wk _ di rfl] at this; exact this
      have iS := la.trans (Vj _ a (Obj.putSet (order.filterMap (cK[·]?)) di))
      exact wpAny_pure (wpAny_pure (goal _ ik iS ⟨_, _, _, di, nd, hex, rfl, lV, hd2, by rw [jo, bo]; exact k7, by rw [gp, d6]; exact d1, by rw [cm, fX]; exact fl, c9, (bT.nodup_iff).mpr kh⟩ (bT.trans aK)))
    · have iU : t1.tooFull = false := by simpa using lb
      simp only [iU, Yh, UC, UX]
      refine wpAny_pure (wpAny_pure (goal _ oU la ⟨_, _, _, t1, fq, hex, rfl, fo, Bq, ?_, by rw [d6]; exact d1, by rw [fX]; exact fl, a6, kh⟩ aK))
      unfold SetTable.tooFull at iU
      rw [Bv] at iU
      have : ¬ cK.size * 5 >= t1.mask * 3 := by simpa using iU
      omega
def QW{a:Addr}{k:Int}{tk:Tok}{ks:List Int}{Q:Bool->Shared->Prop}(aX:n5 w s.heap a ks)(jH:ks.length<76)(h:∀h' pB b9 r,s.toks<=pB->Heap.SameBut a s.heap h'->n5 w h' a b9->b9.Perm (if k∈ks then ks else k::ks)->Q r { s with heap:=h',toks:=pB }):
  wpAny (model prog w) A (setAdd a (.int k tk)) Q E s:=by
 unfold setAdd;refine Vu (UA ((intKind prog w).pyHash (k:=k) (qM _ _ _ _) ?_));exact FV (s:={ s with toks:=s.toks+1 }) aX jH λh' dr r c3 c1 dx=>h h' _ dr r (Nat.le_succ _) c3 c1 dx
end
end Pv
end
section
namespace Pv
open PySem PySem.Spec PyProof.Rows ez PySem.SetTable
section
variable{prog:Program}{w:World}
structure rP(prog:Program)(w:World)(κ:Type)[DecidableEq κ] where
 Row:Heap->Value->κ->Prop
 Set:Heap->Addr->List κ->Prop
 fresh:∀(h:Heap)(a:Addr),h.get? a=some { cls:=.type "set",dict:=none,data:=.set #[] 0 (.fresh 0 0 (!w.params.followText "set-order")) }->Set h a []
 moved:∀{h h':Heap}{a:Addr}{ks:List κ},Set h a ks->(∀o,h.get? a=some o->h'.get? a=some o)->(∀b o,h.get? b=some o->o.cls=.type "tuple"->h'.get? b=some o)->Set h' a ks
 yd:∀{h h':Heap}{v:Value}{k:κ},Row h v k->(∀b o,h.get? b=some o->o.cls=.type "tuple"->h'.get? b=some o)->Row h' v k
 xQ:∀{h:Heap}{a:Addr}{ks:List κ},Set h a ks->∀o,h.get? a=some o->o.cls≠.type "tuple"
 add:∀{A:Around}{E:Value->Shared->Prop}{s:Shared}{a:Addr}{v:Value}{k:κ}{ks:List κ}{Q:Bool->Shared->Prop},A.units<cLine->Set s.heap a ks->Row s.heap v k->ks.length<76 ->
  (∀h' tk b9 r,s.toks<=tk->Heap.SameBut a s.heap h'->Set h' a b9->b9.Perm (if k∈ks then ks else k::ks)->Q r { s with heap:=h',toks:=tk })->wpAny (model prog w) A (setAdd a v) Q E s
section
variable{κ:Type}[DecidableEq κ]
noncomputable def met(ks:List κ):Nat->List κ
 |0=>[]
 |i+1=>match ks[i]? with
  |some k=>if k∈met ks i then met ks i else k::met ks i
  |none=>met ks i
theorem o3 (ks : List κ) : ∀ (i : Nat), i <= ks.length -> ∀ k, k ∈ met ks i <-> k ∈ ks.take i
  | 0, _, k => by simp [met]
  | i + 1, hi, k => by
    have aO := o3 ks i (by omega) k
    have ba : ks[i]? = some ks[i] := UJ (by omega)
    have e : ks.take (i + 1) = ks.take i ++ [ks[i]] := by rw [List.take_succ, ba]; rfl
    unfold met
    rw [ba, e, UY, <- aO, Vi]
    dsimp only
    split
    · rename_i c
      constructor
      · exact .inl
      · rintro (h | h)
        · exact h
        · rw [h]; exact c
    · rw [UI]
      exact ⟨fun h => h.symm, fun h => h.symm⟩
theorem qX(ks:List κ):∀i,(met ks i).Nodup
 |0=>VL
 |i+1=>by
  unfold met
  split
  .split
   .exact qX ks i
   .rename_i c;exact Ve.mpr ⟨c,qX ks i⟩
  .exact qX ks i
def OI{k:κ}{l m:List κ}{il:List κ}(h:l.Perm m)(h':il.Perm (if k∈l then l else k::l)):il.Perm (if k∈m then m else k::m):=by
 by_cases c:k∈l
 .rw[if_pos c]at h';rw[if_pos (h.mem_iff.mp c)];exact h'.trans h
 .rw[if_neg c]at h';rw[if_neg (λz=>c (h.mem_iff.mpr z))];exact h'.trans (h.cons k)
def SK(K:rP prog w κ){A:Around}{R:Result->Shared->Prop}{I:Addr}{bq wr:List Addr}{n:Nat}{P:Nat->Value->Prop}{St:Nat->Shared->Prop}{G:Array GenState->Array GenState->Prop}(W:WalksS prog w A.in1 I bq wr G n P St)(S:Addr)(oE:S∉bq)(bQ:A.in1.units<cLine)(bp:List κ)(h0:Heap)(BW:∀i s,St i s->∀b∈wr,∀o,s.heap.get? b=some o->o.cls≠.type "tuple")(LJ:∀i v,P i v->∃k,bp[i]?=some k/\K.Row h0 v k)(af:∀i,i<n->(met bp i).length<76):
  ∀(k i:Nat)(s:Shared),n-i=k->i<=n->St i s->(∀b o,h0.get? b=some o->o.cls=.type "tuple"->s.heap.get? b=some o)->(∃l,K.Set s.heap S l/\l.Perm (met bp i)) ->
   (∀s' l,Moved (S::wr) G s s'->K.Set s'.heap S l->l.Perm (met bp n)->R (.ok (.ret .none)) s') ->
   codeAny (model prog w) A (.builtin "set.update.loop" ⟨[.ref S,.ref I],[]⟩) R s:=by
 have Bf:S∉wr:=λh=>oE (W.sub _ h)
 have iT:∀b∈wr,b∈S::wr:=λb af=>List.mem_cons_of_mem _ af
 intro k
 induction k with
 |zero =>
  intro i s aq hi cA BE ⟨l,aX,aw⟩ hR;have eF:i=n:=by omega
  subst eF;refine VU WZ ?_;rw[V0 Wh _];show wpAny _ A.in1 (pyNext (.ref I)>>=_) _ _ s;refine UA (W.done s _ _ cA λs' hm=>?_)
  show wpAny _ A.in1 (ret Value.none) _ _ s';exact wpAny_pure (hR s' l (hm.mono iT) (K.moved aX (λo e=>hm.heap S o Bf e) λb o e ai=>hm.heap b o (λwV=>BW _ s cA b wV o e ai) e) aw)
 |succ k aO =>
  intro i s aq hi cA BE ⟨l,aX,aw⟩ hR;have cg:i<n:=by omega
  refine VU WZ ?_;rw[V0 Wh _];show wpAny _ A.in1 (pyNext (.ref I)>>=_) _ _ s;refine UA (W.item i s _ _ cg cA λv s' dK sT hm=>?_)
  obtain⟨key,w1,Kq⟩:=LJ i v dK;have tk:∀b o,s.heap.get? b=some o->o.cls=.type "tuple"->s'.heap.get? b=some o:=λb o e ai=>hm.heap b o (λwV=>BW _ s cA b wV o e ai) e
  have hn:K.Set s'.heap S l:=K.moved aX (λo e=>hm.heap S o Bf e) tk
  have BF:∀b o,h0.get? b=some o->o.cls=.type "tuple"->s'.heap.get? b=some o:=λb o e ai=>tk b o (BE b o e ai) ai
  have e7:K.Row s'.heap v key:=K.yd Kq BF;show wpAny _ A.in1 (holding [v] (setAdd S v)>>=_) _ _ s';refine UA (Vu (K.add bQ hn e7 (by rw[aw.length_eq];exact af i cg) λh' pB il r pG c3 c1 dx=>?_))
  have w6:∀b o,s'.heap.get? b=some o->o.cls=.type "tuple"->b≠S:=λb o e ai=>by
   rintro rfl;exact K.xQ hn o e ai
  refine wpAny_pure ⟨Xp Wh _,aO (i+1) _ (by omega) cg (W.frame _ s' _ _ sT pG λb af o e=>?_) (λb o e ai=>?_) ⟨il,c1,?_⟩ λrl MI Lg Kl K8=>?_⟩
  .rw[c3.2 b (λh:b=S=>oE (by rw[<- h];exact af))];exact e
  .have bf:=BF b o e ai;show h'.get? b=some o;rw[c3.2 b (w6 b o bf ai)];exact bf
  .unfold met;rw[w1];exact OI aw dx
  .refine hR rl MI (Moved.trans W.gtrans ((hm.mono iT).then_heap pG λb o af e=>?_) Lg) Kl K8
   rw[c3.2 b (λh:b=S=>af (by rw[h];exact List.mem_cons_self))];exact e
end
def tT{A:Around}{E:Value->Shared->Prop}{s:Shared}(a:Value){Q₁:Value->Shared->Prop}(h:Q₁ (.ref s.heap.objs.size) { s with heap:=s.heap.push { cls:=.type "set",dict:=none,data:=.set #[] 0 (.fresh 0 0 (!w.params.followText "set-order")) } }):
  codeAny (model prog w) A (.call (.builtin "set.__new__") ⟨[.type "set",a],[]⟩) (wants Q₁ E) s:=by
 refine codeAny_of_tree ?_;show wpAny _ A.in1 (do checkBuiltinCall "set.__new__" ⟨[.type "set",a],[]⟩;again (.builtin "set.__new__" ⟨[.type "set",a],[]⟩)) _ _ s
 refine UA (wpAny_of_eq (F.newCall_set_1 a) (wpAny_pure ⟨Xp F.plain_set_new _,VU F.entry_set_new ?_⟩));rw[V0 F.plain_set_new _];unfold Builtin.«set.__new__» Builtin.Frozenset.newClass;have iT:=sub_set_self;obtain⟨aC,g,d,tk,os⟩:=s;dsimp only
 wp_walk
 refine V1 (wpAny_pure ?_);dsimp only;simp only[newObj];refine UA (wpAny_alloc (wpAny_pure ?_));exact wpAny_pure h
def rt(led:Bool):Tab (α:=Value) #[] (SetTable.fresh 0 0 led):=by
 refine⟨λi j a b _ h=>?_,λi j a b _ h=>?_,λi j h=>?_,λi j h=>?_,λi bw j h=>?_,rfl,.inl rfl,UH _,λi j e h=>?_⟩<;>simp[SetTable.fresh]at h
theorem Dd{α β:Type}{F:α->β->Prop}:∀{l:List α}{ks:List β},Paired F l ks->∀(i:Nat)(v:α),l[i]?=some v->∃k,ks[i]?=some k/\F v k
 |_,_,.nil,i,v,h=>by simp at h
 |_,_,.cons J t,0,v,h=>by simp at h;subst h;exact⟨_,rfl,J⟩
 |_,_,.cons J t,i+1,v,h=>by
  have:=Dd t i v (by simpa using h)
  simpa using this
def S8{A:Around}(b5:A.handled=none){T:String}(cF:T="list"\/T="tuple"){h:Heap}{l:Addr}{cn:Option Addr}{eJ:Array (Option Value)}{items:Array Value}{nl:Nat}(iR:h.get? l=some { cls:=.type T,dict:=cn,data:=.seq items nl,slots:=eJ }):
  ∃(tw:Obj)(St:Nat->Heap->Prop),tw.cls≠.type "tuple"/\(∀(uB:Around)(E:Value->Shared->Prop)(s:Shared)(Q:Value->Shared->Prop),s.heap=h->Q (.ref h.objs.size) { s with heap:=h.push tw }->wpAny (model prog w) uB (pyIter (.ref l)) Q E s) /\
   Walks prog w A h.objs.size [h.objs.size,l] [h.objs.size] items.size (λi v=>items[i]?=some v) St/\St 0 (h.push tw)/\∀i h',St i h'->∀o,h'.get? h.objs.size=some o->o.cls≠.type "tuple":=by
 have cg:l<h.objs.size:=UK iR;rcases cF with rfl|rfl
 .have aw:h.IsList l items:=⟨_,iR,rfl,nl,rfl⟩;refine⟨{ cls:=.type "list_iterator",data:=.fields #[.ref l,.int 0 0] },_,by show Value.type _≠Value.type _;decide,λuB E s Q e q=>?_,Walks.list b5 h.objs.size l (UZ cg) items,⟨⟨_,UQ _ rfl,rfl,rfl⟩,aw.push _⟩,λi h' st o e=>?_⟩
  .subst e;exact wpAny_pyIter_list aw q
  .obtain⟨⟨bN,bf,c,_⟩,_⟩:=st;rw[e]at bf;cases bf;rw[c];decide
 .have aw:h.IsTuple l items:=⟨_,iR,rfl,nl,rfl⟩;refine⟨{ cls:=.type "tuple_iterator",data:=.fields #[.ref l,.int 0 0] },_,by show Value.type _≠Value.type _;decide,λuB E s Q e q=>?_,Walks.tuple b5 h.objs.size l (UZ cg) items,⟨⟨_,UQ _ rfl,rfl,rfl⟩,⟨_,UD _ iR,rfl,nl,rfl⟩⟩,λi h' st o e=>?_⟩
  .subst e;exact wpAny_pyIter_tuple aw q
  .obtain⟨⟨bN,bf,c,_⟩,_⟩:=st;rw[e]at bf;cases bf;rw[c];decide
def vw {κ : Type} [DecidableEq κ] (K : rP prog w κ) {A : Around} {E : Value -> Shared -> Prop} {s : Shared} {l : Addr} {T : String} {cn : Option Addr} {eJ : Array (Option Value)} {items : Array Value} {nl : Nat} {bp : List κ} {Q : Value -> Shared -> Prop} (cF : T = "list" \/ T = "tuple")
    (b5 : A.handled = none) (bQ : A.units + 64 < cLine) (iR : s.heap.get? l = some { cls := .type T, dict := cn, data := .seq items nl, slots := eJ }) (hi : Paired (K.Row s.heap) items.toList bp) (af : ∀ i, i < bp.length -> (met bp i).length < 76)
    (h : ∀ (h' : Heap) (tk : Nat) (r : List κ), K.Set h' s.heap.objs.size r -> r.Perm (met bp bp.length) ->
      (∀ b o, b < s.heap.objs.size -> s.heap.get? b = some o -> h'.get? b = some o) -> Q (.ref s.heap.objs.size) { s with heap := h', toks := tk }) :
    wpAny (model prog w) A (call (.type "set") [.ref l]) Q E s := by
  obtain ⟨c, hz, T2⟩ := WH.mro
  have TY := WH.made
  have iT := WH.sub
  refine wpAny_call (codeAny_of_tree ?_)
  show wpAny _ _ (callAny (.type "set") _) _ _ _
  refine wpAny_pure ⟨Code.quiet_builtin _ (by decide +kernel), VU F.entry_type_call ?_⟩
  rw [Around.under_plain (weight_type_call_type "set" [.ref l] []) rfl]
  have J := WH.notType
  have aa := WH.canCreate
  have TP := F.typeCall_set_1 (.ref l)
  repeat (any_goals (first | assumption | wp_step))
  refine Xy (tT (.ref l) (E := E) (Q₁ := fun obj cC => ∃ led : Bool, led = (!w.params.followText "set-order") /\ obj = .ref s.heap.objs.size /\ cC = { s with heap := s.heap.push { cls := .type "set", dict := none, data := .set #[] 0 (.fresh 0 0 led) } }) ⟨_, rfl, rfl, rfl⟩) fun r cC aZ => ?_
  cases r with
  | error e => exact aZ
  | ok hk =>
    cases hk with
    | ret obj =>
      obtain ⟨led, fl, rfl, rfl⟩ := aZ
      have aX : (s.heap.push { cls := .type "set", dict := none, data := .set #[] 0 (.fresh 0 0 led) }).get? s.heap.objs.size = some { cls := .type "set", dict := none, data := .set #[] 0 (.fresh 0 0 led) } := UQ _ rfl
      have Ko : Shared.TypeIs { s with heap := s.heap.push { cls := .type "set", dict := none, data := .set #[] 0 (.fresh 0 0 led) } } (.ref s.heap.objs.size) "set" := ⟨_, aX, rfl⟩
      have TV := WH.init.lookup
      have TO := WH.init.bind (.ref s.heap.objs.size)
      repeat (any_goals (first | assumption | wp_step))
      refine Xy (codeAny_call_builtin (R := wants (fun r gY => r = .none /\ ∃ h' tk gf, gY = { s with heap := h', toks := tk } /\ K.Set h' s.heap.objs.size gf /\ gf.Perm (met bp bp.length) /\
          (∀ b o, b < s.heap.objs.size -> s.heap.get? b = some o -> h'.get? b = some o)) E) WH.init.plain F.entry_set_init (check_set_init_1 Ko ?_)) fun PY gY xe => ?_
      · have Lr : (s.heap.push { cls := .type "set", dict := none, data := .set #[] 0 (.fresh 0 0 led) }).get? l = some { cls := .type T, dict := cn, data := .seq items nl, slots := eJ } := UD _ iR
        have T9 : isSubtype (.type T) (.type "set") = pure false := by rcases cF with rfl | rfl; exact F.sub_list_set; exact F.sub_tuple_set
        have T8 : isSubtype (.type T) (.type "frozenset") = pure false := by rcases cF with rfl | rfl; exact F.sub_list_frozenset; exact F.sub_tuple_frozenset
        have dg : (Value.type T == Value.type "dict") = false := by rcases cF with rfl | rfl <;> decide
        have KY : A.in1.in1.in1.handled = none := by simp [b5]
        obtain ⟨tw, St, T5, hit, W, st0, w6⟩ := S8 (prog := prog) (w := w) KY cF Lr
        unfold Builtin.«set.__init__» noKeywords Builtin.Frozenset.updateFrom
        generalize Kk : pyIter = gI
        wp_walk
        subst Kk
        refine hit _ _ _ _ rfl ?_
        refine UA (XE ?_)
        have K9 : l < s.heap.objs.size := UK iR
        have oE : s.heap.objs.size ∉ [(s.heap.push { cls := .type "set", dict := none, data := .set #[] 0 (.fresh 0 0 led) }).objs.size, l] := by
          rw [Yi]; simp only [UI, Vi, Wl, Yj, not_or]
          exact ⟨UZ (WA _), X9 K9⟩
        have hlen : items.size = bp.length := by have := Paired.len hi; simpa using this
        refine SK K (W.toS) s.heap.objs.size oE ?hu2 bp s.heap (fun i s' st b af o e => ?nt) (fun i v aQ => ?val) (fun i fs => af i (by omega)) (items.size - 0) 0 _ (by omega) (UH _)
          st0 (fun b o e _ => UD _ (UD _ e)) ⟨[], ?hS0, .refl _⟩ ?hR
        case hu2 => first | (show A.units + 1 + 1 + 1 + 1 < cLine; omega) | (show A.units + 1 + 1 + 1 < cLine; omega) | (simp [Around.in1]; omega)
        case nt =>
          rw [Vi] at af
          subst af
          exact w6 i _ st o e
        case val => exact Dd hi i v (by rw [U9]; exact aQ)
        case hS0 =>
          refine K.fresh _ _ ?_
          rw [<- fl]
          exact UD _ aX
        case hR =>
          intro s' gf hm hn nk
          obtain ⟨h', g', d', pB, q8⟩ := s'
          have vP : g' = s.gens := hm.gens
          have Ii : d' = s.drawn := hm.drawn
          have vQ : q8 = s.os := hm.os
          subst vP; subst Ii; subst vQ
          show wpAny _ _ _ _ _ _
          refine wpAny_pure ?_
          show wpAny _ _ (ret Value.none) _ _ _
          refine wpAny_pure ⟨rfl, h', pB, gf, rfl, hn, by rw [<- hlen]; exact nk, fun b o af e => ?_⟩
          have m8 : b ≠ s.heap.objs.size := UZ af
          have jA : b ≠ (s.heap.push { cls := .type "set", dict := none, data := .set #[] 0 (.fresh 0 0 led) }).objs.size := by
            rw [Yi]; exact UZ (Nat.lt_succ_of_lt af)
          exact hm.heap b o (by simp only [UI, Vi, Wl, Yj, not_or]; exact ⟨m8, jA⟩) (UD _ (UD _ e))
      · cases PY with
        | error e => exact xe
        | ok JJ =>
          cases JJ with
          | ret r =>
            obtain ⟨rfl, h', tk, gf, rfl, hn, mg, e7⟩ := xe
            repeat (any_goals (first | assumption | wp_step))
            exact h _ _ gf hn mg e7
          | _ => exact xe.elim
    | _ => exact aZ.elim
end
end Pv
end
section
namespace Pv
open PySem PySem.Spec PyProof.Rows ez PySem.SetTable
section
variable{prog:Program}{w:World}
noncomputable def xA(M:Value->Prop)(prog:Program)(w:World):rP prog w (List Int) where
 Row:=λh v ks=>∃b,v=.ref b/\fz prog w h ks b/\M v
 Set:=h5 M prog w
 fresh:=λh a e=>⟨_,#[],0,_,e,⟨rfl,rfl,rfl⟩,rfl,rt _,by show 0*5<7*3;decide,UE 0,rfl,by show(!w.params.followText "set-order")=true<->_;simp,.nil,VL⟩
 moved:=λ{h h' a bp} x qP k=>by
  obtain⟨o,ab,aT,t,ar,aI,a5,dn,fe,x6,fE,x5,rh,nM⟩:=x;refine⟨o,ab,aT,t,qP _ ar,aI,a5,dn,fe,x6,fE,x5,Paired.mp (λe ks ⟨⟨b,aj,av,bF⟩,eB⟩=>⟨⟨b,aj,av,?_⟩,eB⟩) rh,nM⟩
  obtain⟨bx,items,n,J,aa,aL⟩:=bF;exact⟨bx,items,n,k b bx J aa,aa,aL⟩
 yd:=λx k=>by
  obtain⟨b,e,⟨bx,items,m,c3,c1,dx⟩,rE⟩:=x;exact⟨b,e,⟨bx,items,m,k b bx c3 c1,c1,dx⟩,rE⟩
 xQ:=λx o e=>by
  obtain⟨bN,_,_,_,dh,hex,_⟩:=x;rw[e]at dh;cases dh;rw[hex.1];decide
 add:=λ{A E s a v k ks Q} bQ aX aZ aw h=>by
  obtain⟨b,rfl,aq,e6⟩:=aZ;refine QX bQ aX aq e6 aw λh' tk b9 r pG c3 c1 dx=>h h' tk b9 r pG c3 c1 ?_
  by_cases c:k∈ks
  .rw[if_pos c]at dx ⊢;exact dx
  .rw[if_neg c]at dx ⊢;exact dx
noncomputable def Mr(prog:Program)(w:World):rP prog w Int where
 Row:=λ_ v k=>∃t,v=.int k t
 Set:=n5 w
 fresh:=λh a e=>⟨_,#[],0,_,e,⟨rfl,rfl,rfl⟩,rfl,rt _,rfl,by show 0*5<7*3;decide,rfl,by show(!w.params.followText "set-order")=true<->_;simp,.nil,VL⟩
 moved:=λ{h h' a bp} x qP k=>by
  obtain⟨o,ab,aT,t,ar,r⟩:=x;exact⟨o,ab,aT,t,qP _ ar,r⟩
 yd:=λx _=>x
 xQ:=λx o e=>by
  obtain⟨bN,_,_,_,dh,hex,_⟩:=x;rw[e]at dh;cases dh;rw[hex.1];decide
 add:=λ{A E s a v k ks Q} bQ aX aZ aw h=>by
  obtain⟨t,rfl⟩:=aZ;refine QW aX aw λh' tk b9 r pG c3 c1 dx=>h h' tk b9 r pG c3 c1 ?_
  by_cases c:k∈ks
  .rw[if_pos c]at dx ⊢;exact dx
  .rw[if_neg c]at dx ⊢;exact dx
end
end Pv
end
section
namespace Pv
open PySem PySem.Spec PyProof.Rows ez PySem.SetTable
def ps:Slot "set_iterator" "__next__" "set_iterator.__next__" :=
 .of (owner:="set_iterator") (n:="__next__") (by rw[Ye,Xh];kernel_rfl) (by decide +kernel) (by decide +kernel) (by decide +kernel)
  (by first|exact .inl (by decide +kernel)|exact .inr (by decide +kernel)) (by rw[XF];kernel_rfl)
def Aa:entryFor table "set_iterator.__next__"=some Builtin.«set_iterator.__next__»:=entryFor_of_tree (by kernel_rfl)
def C6:Manifest.owners.lookup (String.ofList ['r','o','t','a','r','e','t','i','_','t','e','s'].reverse)=some Manifest.sig_set_iterator:=by kernel_rfl
def zj(a:Value):argsOk "set_iterator.__next__" ⟨[a],[]⟩:=by
 unfold argsOk;rw[signature?_of (id:="set_iterator.__next__") (n:=['_','_','t','x','e','n','_','_']) (o:=['r','o','t','a','r','e','t','i','_','t','e','s']) (by kernel_rfl) C6];kernel_rfl
def Et:Slot "set_iterator" "__iter__" "set_iterator.__iter__" :=
 .of (owner:="set_iterator") (n:="__iter__") (by rw[Ye,Xh];kernel_rfl) (by decide +kernel) (by decide +kernel) (by decide +kernel)
  (by first|exact .inl (by decide +kernel)|exact .inr (by decide +kernel)) (by rw[XF];kernel_rfl)
def F6(a:Value):argsOk "set_iterator.__iter__" ⟨[a],[]⟩:=by
 unfold argsOk;rw[signature?_of (id:="set_iterator.__iter__") (n:=['_','_','r','e','t','i','_','_']) (o:=['r','o','t','a','r','e','t','i','_','t','e','s']) (by kernel_rfl) C6];kernel_rfl
def Es:Slot "set" "__iter__" "set.__iter__" :=
 .of (owner:="set") (n:="__iter__") (by rw[Ye,Xh];kernel_rfl) (by decide +kernel) (by decide +kernel) (by decide +kernel)
  (by first|exact .inl (by decide +kernel)|exact .inr (by decide +kernel)) (by rw[XF];kernel_rfl)
def F5(a:Value):argsOk "set.__iter__" ⟨[a],[]⟩:=by
 unfold argsOk;rw[signature?_of (id:="set.__iter__") (n:=['_','_','r','e','t','i','_','_']) (o:=['t','e','s']) (by kernel_rfl) PySem.F.owner_set];kernel_rfl
def Iw:entryFor table "set.__iter__"=some Builtin.«frozenset.__iter__»:=Yk (id':="frozenset.__iter__") (by kernel_rfl) rfl (by decide +kernel) (by kernel_rfl)
def Iy:entryFor table "set_iterator.__iter__"=some Builtin.«dict_keyiterator.__iter__»:=Yk (id':="dict_keyiterator.__iter__") (by kernel_rfl) rfl (by decide +kernel) (by kernel_rfl)
end Pv
end
section
namespace Pv
open PySem PySem.Spec PyProof.Rows ez PySem.SetTable
theorem Ag{α:Type}:∀(l:List α)(i:Nat)(h:i<l.length),(l[i]::l.eraseIdx i).Perm l
 |x::r,0,_=>by simp
 |x::r,i+1,h=>by
  simp only[List.getElem_cons_succ,List.eraseIdx_cons_succ];exact(List.Perm.swap _ _ _).trans ((Ag r i (by simpa using h)).cons x)
theorem Dn{α:Type}(next:Nat->Nat):∀(fuel k:Nat)(left:List α)(out:Array α),left.length<=fuel->(pickOrder.go next fuel k left out).toList.Perm (out.toList++left)
 |0,k,left,out,h=>by
  have:left=[]:=List.length_eq_zero_iff.mp (by omega)
  subst this;simp[pickOrder.go]
 |fuel+1,k,left,out,h=>by
  unfold pickOrder.go;cases left with
  |nil=>simp
  |cons x r =>
   have cg:next k%(x::r).length<(x::r).length:=Ys _ (by simp)
   have ba:(x::r)[next k%(x::r).length]?=some (x::r)[next k%(x::r).length]:=UJ cg
   rw[ba];dsimp only;refine(Dn next fuel (k+1) _ _ (by rw[List.length_eraseIdx_of_lt cg];simp only[List.length_cons]at h ⊢;omega)).trans ?_
   rw[WO,UN];exact Wo _ (Ag _ _ cg)
def OS{α:Type}(next:Nat->Nat)(xs:Array α):(pickOrder next xs).toList.Perm xs.toList:=by
 unfold pickOrder;have:=Dn next xs.size 0 xs.toList #[] (by simp)
 simpa using this
section
variable{prog:Program}{w:World}
structure j2(w:World)(o:Obj)(ab:Array (Int×Value))(aT:Nat)(t:SetTable):Prop where
 ex:o.ExactSet
 data:o.data=.set ab aT t
 tab:Tab ab t
 plain:t.plain=true
 led:t.led=true<->w.params.followText "set-order"=false
noncomputable def eI(w:World)(a:Addr)(ab:Array (Int×Value))(aT:Nat):Array (Int×Value):=if w.params.followText "set-order"=true then pickOrder (w.params.setOrder a aT) ab else ab
def mB(w:World)(a:Addr)(ab:Array (Int×Value))(aT:Nat):(eI w a ab aT).toList.Perm ab.toList:=by
 unfold eI;split
 .exact OS _ _
 .exact .refl _
noncomputable def slotAt(w:World)(t:SetTable)(i:Nat):Nat:=if w.params.followText "set-order"=true then 0 else match i with
 |0=>0
 |j+1=>t.place.getD j 0+1
noncomputable def mP(h:Heap)(it a:Addr)(slot i n aT:Nat):Prop:=∃o,h.get? it=some o/\o.cls=.type "set_iterator"/\o.data=.fields #[.int slot 0,.int i 0,.ref a,.int n 0,.int aT 0]
def mP.typeIs{s:Shared}{it a:Addr}{slot i n aT:Nat}(h:mP s.heap it a slot i n aT):s.TypeIs (.ref it) "set_iterator":=let ⟨o,ar,ai,_⟩:=h;⟨o,ar,ai⟩
def Gz {ab : Array (Int × Value)} {t : SetTable} (T : Tab ab t) (hw : w.params.followText "set-order" = false) {i : Nat} (hi : i <= ab.size) : below t.place (slotAt w t i) = i := by
  unfold slotAt
  rw [if_neg (by rw [hw]; decide)]
  obtain ⟨J, aa, aL⟩ := p4 T.i9 (match i with | 0 => 0 | j + 1 => t.place.getD j 0 + 1)
  rw [T.d3] at J
  cases i with
  | zero =>
    dsimp only at J aa aL ⊢
    by_cases c : below t.place 0 = 0
    · exact c
    · exfalso
      have cg : 0 < t.place.size := by rw [T.d3]; omega
      have := aa 0 _ (by omega) (UL cg)
      omega
  | succ j =>
    have aH : j < t.place.size := by rw [T.d3]; omega
    have ba : t.place[j]? = some t.place[j] := UL aH
    have hd : t.place.getD j 0 = t.place[j] := by simp [Array.getD, aH]
    dsimp only at J aa aL ⊢
    rw [hd] at J aa aL ⊢
    by_cases ck : below t.place (t.place[j] + 1) <= j
    · exfalso
      have := aL j _ ck ba
      omega
    · by_cases bo : j + 1 < below t.place (t.place[j] + 1)
      · exfalso
        have jE : j + 1 < t.place.size := by rw [T.d3]; omega
        have fq : t.place[j + 1]? = some t.place[j + 1] := UL jE
        have a1 := aa (j + 1) _ bo fq
        have a2 := T.i9 j (j + 1) _ _ (by omega) ba fq
        omega
      · omega
variable{A:Around}{E:Value->Shared->Prop}{s:Shared}
def D5{a:Addr}{o:Obj}{ab:Array (Int×Value)}{aT:Nat}{t:SetTable}{i:Nat}{Q:Option (Value×Nat)->Shared->Prop}(ar:s.heap.get? a=some o)(O:j2 w o ab aT t)(hi:i<=ab.size)(h:Q ((eI w a ab aT)[i]?.map λe=>(e.2,slotAt w t (i+1))) s):wpAny (model prog w) A (setNext a (slotAt w t i) i aT) Q E s:=by
 unfold setNext;refine UA (U4 ar O.data (Tab.fits O.tab) ?_);dsimp only;unfold setsByText;refine UA (UA (V1 (wpAny_pure ?_)));cases hw:w.params.followText "set-order" with
 |true =>
  have eR:(model prog w).w.params.followText "set-order"=true:=hw;simp only[eR,Vn];simp only[We,UC,UX];refine UA ?_;unfold setWalk;refine UA (U4 ar O.data (Tab.fits O.tab) ?_);dsimp only;unfold setsByText;refine UA (UA (V1 (wpAny_pure ?_)));simp only[eR,Vn];refine UA (V1 (wpAny_pure ?_));have aj:eI w a ab aT=pickOrder (w.params.setOrder a aT) ab:=by unfold eI;rw[if_pos hw]
  have av:∀i,slotAt w t i=0:=λi=>by unfold slotAt;rw[if_pos hw]
  rw[aj]at h;refine wpAny_pure ?_;simp only[av]at h ⊢;exact h
 |false =>
  have eR:(model prog w).w.params.followText "set-order"=false:=hw;simp only[eR,UC,UX];have kf:(!t.plain&&decide (ab.size>1))=false:=by rw[O.plain];rfl
  show wpAny (model prog w) A (if (!t.plain&&decide (ab.size>1))=true then _ else _) Q E s;rw[kf];simp only[UC,UX];have La:t.led=true:=O.led.mpr hw;refine UA ?_;show wpAny (model prog w) A (if (!t.led&&!ab.isEmpty)=true then _ else pure ()) _ E s;rw[La];simp only[VM,Wz,UC,UX];refine wpAny_pure ?_;rw[Gz O.tab hw hi];have aj:eI w a ab aT=ab:=by unfold eI;rw[if_neg (by rw[hw];decide)]
  rw[aj]at h;refine wpAny_pure ?_
  by_cases c:i<ab.size
  .have g1:ab[i]?=some ab[i]:=UL c;have aC:i<t.place.size:=by rw[O.tab.d3];exact c
   have g2:t.place[i]?=some t.place[i]:=UL aC;rw[g1]at h ⊢;rw[g2];have bF:slotAt w t (i+1)=t.place[i]+1:=by unfold slotAt;rw[if_neg (by rw[hw];decide)];simp[Array.getD,aC]
   rw[bF]at h;exact h
  .have g1:ab[i]?=none:=Wj (by omega)
   rw[g1]at h ⊢;exact h
def next_item{it a:Addr}{o:Obj}{ab:Array (Int×Value)}{aT:Nat}{t:SetTable}{i:Nat}{x:Int×Value}{Q:Option Value->Shared->Prop}(ar:s.heap.get? a=some o)(O:j2 w o ab aT t)(hit:mP s.heap it a (slotAt w t i) i ab.size aT)(ah:(eI w a ab aT)[i]?=some x)(dZ:∀h',mP h' it a (slotAt w t (i+1)) (i+1) ab.size aT->Heap.SameBut it s.heap h'->Q (some x.2) { s with heap:=h' }):wpAny (model prog w) A (pyNext (.ref it)) Q E s:=by
 obtain⟨nL,mf,wW,hL⟩:=id hit;have hsz:(eI w a ab aT).size=ab.size:=by have:=(mB w a ab aT).length_eq;simpa using this
 have hi:i<=ab.size:=by rw[<- hsz];exact WD (Vf.mp ah).1
 have dg:it≠a:=by
  rintro rfl;rw[ar]at mf;cases mf;rw[O.data]at hL;cases hL
 unfold pyNext;refine UA (Xq (VY (name:=Str.ofString "__next__") hit.typeIs ps
  (VG ps hit.typeIs Aa ?_ (zj _))))
 unfold Builtin.«set_iterator.__next__»;refine UA (m:=slotArgs _ _ _) (wpAny_pure ?_);refine UA (XG mf hL ?_);dsimp only;refine UA (Xw ar O.data (Tab.fits O.tab) ?_);simp only[We,UC,UX];simp only[Int.toNat_natCast];refine UA (D5 ar O hi ?_);rw[ah];simp only[Option.map_some];have fq:=Va (Obj.mapFields (·.setIfInBounds 0 (rawInt (slotAt w t (i+1):Nat)))) mf (by obtain⟨c,d,qf,b1⟩:=nL;simp only at hL;subst hL;rfl)
 refine UA (Xd mf hL (by simp) ?_)
 have ig:(Obj.mapFields (·.setIfInBounds 0 (rawInt (slotAt w t (i+1):Nat))) nL).data=.fields #[.int (slotAt w t (i+1):Nat) 0,.int i 0,.ref a,.int ab.size 0,.int aT 0]:=by
  obtain⟨c,d,qf,b1⟩:=nL;simp only at hL;subst hL;rfl
 have sA:(Obj.mapFields (·.setIfInBounds 0 (rawInt (slotAt w t (i+1):Nat))) nL).cls=.type "set_iterator":=by
  obtain⟨c,d,qf,b1⟩:=nL;simp only at hL wW;subst hL;exact wW
 generalize Obj.mapFields (·.setIfInBounds 0 (rawInt (slotAt w t (i+1):Nat))) nL=hV at fq ig sA
 refine UA (Xd fq ig (by simp) ?_)
 have nd:=Va (Obj.mapFields (·.setIfInBounds 1 (rawInt ((i:Int)+1)))) fq (by obtain⟨c,d,qf,b1⟩:=hV;simp only at ig;subst ig;rfl)
 refine wpAny_pure ?_;dsimp only;refine⟨_,rfl,wpAny_pure ?_⟩;refine dZ _ ⟨_,nd,?_,?_⟩ ((Vj ..).trans (Vj ..))
 .obtain⟨c,d,qf,b1⟩:=hV;simp only at ig sA;subst ig;exact sA
 .obtain⟨c,d,qf,b1⟩:=hV;simp only at ig sA;subst ig;rfl
def next_end{it a:Addr}{o:Obj}{ab:Array (Int×Value)}{aT:Nat}{t:SetTable}{Q:Option Value->Shared->Prop}(b5:A.handled=none)(ar:s.heap.get? a=some o)(O:j2 w o ab aT t)(hit:mP s.heap it a (slotAt w t ab.size) ab.size ab.size aT)(dZ:∀h',Heap.ExtBut it s.heap h'->Q none { s with heap:=h' }):wpAny (model prog w) A (pyNext (.ref it)) Q E s:=by
 obtain⟨nL,mf,wW,hL⟩:=id hit;have hsz:(eI w a ab aT).size=ab.size:=by have:=(mB w a ab aT).length_eq;simpa using this
 unfold pyNext;refine UA (Xq (VY (name:=Str.ofString "__next__") hit.typeIs ps
  (VG ps hit.typeIs Aa ?_ (zj _))))
 unfold Builtin.«set_iterator.__next__»;refine UA (m:=slotArgs _ _ _) (wpAny_pure ?_);refine UA (XG mf hL ?_);dsimp only;refine UA (Xw ar O.data (Tab.fits O.tab) ?_);simp only[We,UC,UX];simp only[Int.toNat_natCast];refine UA (D5 ar O (UE _) ?_);rw[Wj (by omega)]
 simp only[Option.map_none];refine UA (Xd mf hL (by simp) ?_)
 show wpAny _ _ (newExc (.type "StopIteration") []>>=_) _ _ _;refine UA ?_;simp only[newExc,newTuple];refine UA (Vc ?_ (by size_fits))
 refine UA (m:=firstArgMember _ _) (wpAny_of_eq (a:=Value.none) (by first|rfl|(simp only[firstArgMember];rfl)) ?_)
 refine Vc ?_ (by size_fits)
 simp only[raiseNew];refine UA (wpAny_handled ?_);rw[show A.in1.handled=none from b5];refine UA (wpAny_pure (wpAny_throw ?_));refine UA (WX (T:="StopIteration") (b:=true) ⟨_,UQ _ rfl,rfl⟩ isSubtype_stop ?_);exact wpAny_pure (dZ _ (((Vj ..).extBut.push _).push _))
def Mi{it a:Addr}{slot i n aT:Nat}{Q:Value->Shared->Prop}(hit:mP s.heap it a slot i n aT)(h:Q (.ref it) s):wpAny (model prog w) A (pyIter (.ref it)) Q E s:=by
 refine XP hit.typeIs Et (VG Et hit.typeIs Iy ?_ (F6 _));show wpAny _ _ (ret (.ref it)) _ _ s;exact wpAny_pure ⟨_,rfl,"set_iterator",_,hit.typeIs,ps.lookup,h⟩
def Mj{a:Addr}{o:Obj}{ab:Array (Int×Value)}{aT:Nat}{t:SetTable}{Q:Value->Shared->Prop}(ar:s.heap.get? a=some o)(O:j2 w o ab aT t)(dZ:Q (.ref s.heap.objs.size) { s with heap:=s.heap.push { cls:=.type "set_iterator",data:=.fields #[.int 0 0,.int 0 0,.ref a,.int ab.size 0,.int aT 0] } }):wpAny (model prog w) A (pyIter (.ref a)) Q E s:=by
 have cF:s.TypeIs (.ref a) "set":=⟨o,ar,O.ex.1⟩;refine XP cF Es (VG Es cF Iw ?_ (F5 _));unfold Builtin.«frozenset.__iter__» Builtin.Frozenset.slot0 slotArgs;simp only[List.isEmpty_nil,VM,UC,↓reduceIte,bind_assoc,List.length_nil,We];unfold Builtin.Frozenset.addrOf Builtin.Frozenset.sizeOf;simp only[pure_bind,bind_assoc];refine UA (Xw ar O.data (Tab.fits O.tab) ?_);unfold setDrawn;simp only[bind_assoc];refine UA (U4 ar O.data (Tab.fits O.tab) ?_);unfold setsByText;simp only[bind_assoc];refine UA (V1 ?_);simp only[pure_bind];have kf:∀b:Bool,(!b&&(!t.plain&&decide (ab.size>1)))=false:=λb=>by rw[O.plain];simp
 show wpAny (model prog w) A.in1 (if (!(model prog w).w.params.followText "set-order"&&(!t.plain&&decide (ab.size>1)))=true then _ else _) _ _ s;rw[kf];simp only[UC,UX,pure_bind];unfold setEpoch;simp only[bind_assoc,pure_bind];refine UA (U4 ar O.data (Tab.fits O.tab) ?_);dsimp only;refine UA (Vc (wpAny_pure ⟨_,rfl,"set_iterator",_,⟨_,UQ _ rfl,rfl⟩,ps.lookup,?_⟩));exact dZ
def Ta{A:Around}(b5:A.handled=none){I a:Addr}(dg:a≠I){o:Obj}{ab:Array (Int×Value)}{aT:Nat}{t:SetTable}(O:j2 w o ab aT t):
  Walks prog w A I [I,a] [I] ab.size (λi v=>∃x,(eI w a ab aT)[i]?=some x/\v=x.2) (λi h=>mP h I a (slotAt w t i) i ab.size aT/\h.get? a=some o) where
 sub:=λb af=>by simp at af;simp[af]
 frame:=λi h h' st aq=>⟨let ⟨bN,e,r⟩:=st.1;⟨bN,aq I (by simp) bN e,r⟩,aq a (by simp) o st.2⟩
 item:=λi s Q E hi st dZ=>by
  have hsz:(eI w a ab aT).size=ab.size:=by have:=(mB w a ab aT).length_eq;simpa using this
  have ah:(eI w a ab aT)[i]?=some (eI w a ab aT)[i]:=UL (by omega)
  exact next_item st.2 O st.1 ah λh' aG cv=>dZ _ h' s.toks ⟨_,ah,rfl⟩ ⟨aG,(cv.2 a dg).trans st.2⟩ λb bN af e=>cv.extBut b bN (λh=>af (by simp[h])) e
 done:=λs Q E st dZ=>next_end b5 st.2 O st.1 λh' he=>dZ h' s.toks λb bN af e=>he b bN (λh=>af (by simp[h])) e
 self:=λi s Q E st dZ=>Mi st.1 dZ
def K5{r:Addr}{Q:Bool->Shared->Prop}(cF:s.TypeIs (.ref r) "set")(h:Q false s):wpAny (model prog w) A (Builtin.List.listLengthHint (.ref r)) Q E s:=by
 unfold Builtin.List.listLengthHint;refine UA (Yd cF PySem.F.slot_set_len.lookup ?_);generalize Bz:("set.__len__":String)=LW
 wp_delta
 rw[show splitId LW=some ("set","__len__") from by subst Bz;decide +kernel]
 subst Bz;refine UA (WX (T:="set") (b:=true) cF (by rw[XF];kernel_rfl) ?_)
 refine wpAny_ite_split (λoG=>absurd oG (by decide)) (λ_=>?_)
 refine wpAny_ite_split (λ_=>?_) (λoG=>absurd (by decide +kernel) oG)
 refine UA (Wr cF ?_);exact wpAny_pure h
end
end Pv
end
section
namespace Pv
open PySem PySem.Spec PyProof.Rows ez PySem.SetTable
def Iz:entryFor table "set.__xor__"=some Builtin.«frozenset.__xor__»:=Yk (id':="frozenset.__xor__") (by kernel_rfl) rfl (by decide +kernel) (by kernel_rfl)
noncomputable def EJ(id:String)(l:Addr)(r:Value):Sem Value:=do
 let result <- Builtin.Frozenset.newFrom id (<- Builtin.Frozenset.baseOf l) r
 holding [result] (Builtin.Frozenset.symmetricDifferenceUpdate id (<- Builtin.Frozenset.addrOf result) (.ref l))
 return result
def xor_eq(args:Args):Builtin.«frozenset.__xor__» args=(do
 let (self,other) <- Builtin.Frozenset.slot1 "__xor__" args
 let (l,r):=if false then(other,self) else(self,other)
 if !(<- Builtin.Frozenset.isAnySet l <&&> Builtin.Frozenset.isAnySet r) then rule s!"frozenset.{"__xor__"}.declined";return <- ret .notImplemented
 ret (<- EJ s!"frozenset.{"__xor__"}" (<- Builtin.Frozenset.addrOf l) r)):=rfl
section
variable{prog:Program}{w:World}{A:Around}{E:Value->Shared->Prop}{s:Shared}
def rS{v:Value}{Q:Bool->Shared->Prop}(cF:s.TypeIs v "set")(h:Q true s):wpAny (model prog w) A (Builtin.Frozenset.isAnySet v) Q E s:=by
 unfold Builtin.Frozenset.isAnySet;refine UA (WX cF sub_set_self ?_);exact wpAny_pure h
def Gy{a:Addr}{Q:Value->Shared->Prop}(cF:s.TypeIs (.ref a) "set")(h:Q (.type "set") s):wpAny (model prog w) A (Builtin.Frozenset.baseOf a) Q E s:=by
 unfold Builtin.Frozenset.baseOf;refine UA (WX cF sub_set_self ?_);exact wpAny_pure h
def d9.room{n:Nat}(aD:1<=n)(h:n<=76):∃m,d9 m/\(match (SetTable.fresh 0 0 true).roomFor n with|some wanted=>sizeAbove wanted-1|none=>7)=m/\n*5<m*3/\n<=m/\m<=511:=by
 have key:((List.range 77).all λn=>decide (n=0)||(decide ((match (SetTable.fresh 0 0 true).roomFor n with|some wanted=>sizeAbove wanted-1|none=>7)∈[7,15,31,63,127,255,511])&&decide (n*5<(match (SetTable.fresh 0 0 true).roomFor n with|some wanted=>sizeAbove wanted-1|none=>7)*3)&&decide (n<=(match (SetTable.fresh 0 0 true).roomFor n with|some wanted=>sizeAbove wanted-1|none=>7))&&decide ((match (SetTable.fresh 0 0 true).roomFor n with|some wanted=>sizeAbove wanted-1|none=>7)<=511)))=true:=by decide +kernel
 have k:=UR.mp key n (List.mem_range.mpr (by omega))
 simp only[Wg,UB,UU]at k;rcases k with k|⟨⟨⟨k1,k2⟩,bl⟩,b0⟩
 .omega
 .refine⟨_,?_,rfl,k2,bl,b0⟩;simpa[d9] using k1
def MJ(m f i1:Nat)(led cu:Bool):laid m f i1 led cu #[]=some ({ mask:=m,place:=#[],dummies:=#[],finger:=f,led,moves:=i1,plain:=cu },#[]):=by
 have e:(List.range (m+1)).filterMap (λj=>((Array.replicate (m+1) (none:Option Nat)).getD j none).map (j,·))=[]:=by
  rw[List.filterMap_eq_nil_iff];intro j aH;have:(Array.replicate (m+1) (none:Option Nat)).getD j none=none:=by
   have:=List.mem_range.mp aH;simp[Array.getD,this]
  rw[this];rfl
 unfold laid layClean;simp only[Array.foldl_empty,Option.map_some,Option.bind_eq_bind,Option.bind_some,e];rfl
def Sg{m f i1:Nat}{led cu:Bool}(hm:d9 m):Tab (α:=Value) #[] { mask:=m,place:=#[],dummies:=#[],finger:=f,led,moves:=i1,plain:=cu }:=by
 refine⟨λi j a b _ h=>?_,λi j a b _ h=>?_,λi j h=>?_,λi j h=>?_,λi bw j h=>?_,rfl,hm,UH _,λi j e h=>?_⟩<;>simp at h
def Nn {M : Value -> Prop} {a b : Addr} {fD : Obj} {led : Bool} {r6 c : Nat} {bp : List (List Int)} {each : Sem Unit} {Q : Unit -> Shared -> Prop} (dg : a ≠ b) (az : s.heap.get? a = some fD) (Br : fD.ExactSet) (hK : fD.data = .set #[] r6 (.fresh 0 0 led))
    (fl : led = true <-> w.params.followText "set-order" = false) (aX : gn M prog w s.heap b c bp) (aD : bp.length <= 76) (h : ∀ h' dr, Heap.SameBut a s.heap h' -> gn M prog w h' a bp.length dr -> dr.Perm bp -> Q () { s with heap := h' }) :
    wpAny (model prog w) A (setMerge a b each) Q E s := by
  obtain ⟨o, ab, aT, t, ar, hex, hd, T, iP, ai, d1, BH, aC, gw⟩ := aX
  have hlen : ab.size = bp.length := by have := Paired.len aC; simpa using this
  have move : ∀ {h' : Heap}, Heap.SameBut a s.heap h' -> ∀ (e : Int × Value) (b9 : List Int), (fI prog w s.heap e b9 /\ M e.2) -> (fI prog w h' e b9 /\ M e.2) := fun {h'} ae e b9 x => ⟨x.1.move az hK ae, x.2⟩
  unfold setMerge
  have dq : (a == b) = false := by rw [beq_eq_false_iff_ne]; exact dg
  rw [dq]
  simp only [UC, UX]
  refine UA (U4 ar hd (Tab.fits T) ?_)
  dsimp only
  by_cases f9 : ab.isEmpty = true
  · rw [if_pos f9]
    have he : ab = #[] := XQ.mp f9
    subst he
    cases aC
    refine wpAny_pure (h s.heap [] (Wd a s.heap) ⟨fD, #[], r6, _, az, Br, hK, rt led, by show 0 * 5 < 7 * 3; decide, UE 0, rfl, fl, .nil, VL⟩ (.refl _))
  · rw [if_neg f9]
    have k8 : 1 <= ab.size := by
      rcases Nat.eq_zero_or_pos ab.size with z | z
      · exact absurd (XQ.mpr (Xk z)) f9
      · exact z
    obtain ⟨m, hm, gT, k7, sM, sN⟩ := d9.room k8 (by omega)
    have rest : ∀ (J : Heap) (qh i1 : Nat), Heap.SameBut a s.heap J -> J.get? a = some { fD with data := .set #[] qh { mask := m, place := #[], dummies := #[], finger := 0, led := led, moves := i1, plain := true } } ->
        wpAny (model prog w) A (do
          let (_, _, ts) <- setState a
          match ts.road t with
          | .slotForSlot => storeSet a ab { t with finger := ts.finger, led := ts.led && t.led, moves := ts.moves, plain := ts.plain && t.plain }
          | .clean =>
            let (ab, t) <- (do
              let some (t, order) := SetTable.laid ts.mask ts.finger ts.moves (led := ts.led && t.led) (plain := ts.plain && t.plain) (ab.map (·.1)) | unsupported "internal:set-table-without-room"
              let jw := order.filterMap (ab[·]?)
              if jw.size != ab.size then unsupported "internal:set-table-lost-an-element"
              pure (jw, t))
            storeSet a ab t
          | .oneByOne =>
            for (h, x) in <- setWalkUnseen b [a] (some a) do
              let _ <- holding [x] (setAddHashed a x h)
              each
              if (<- setState b).2.1 != aT then unsupported "set.changed-during-merge") Q E { s with heap := J } := fun J qh i1 mh fq => by
      refine UA (U4 fq rfl (Tab.fits (Sg hm)) ?_)
      dsimp only
      have Lc : (led && t.led) = true <-> w.params.followText "set-order" = false := by
        rw [UB, fl, BH]; exact ⟨fun z => z.1, fun z => ⟨z, z⟩⟩
      have fin : ∀ (iN : Array (Int × Value)) (di : SetTable), Tab iN di -> di.fill = ab.size -> ab.size * 5 < di.mask * 3 -> di.plain = true -> di.led = (led && t.led) -> iN.toList.Perm ab.toList ->
          wpAny (model prog w) A (storeSet a iN di) Q E { s with heap := J } := fun iN di FP f1 f2 eE f4 eQ => by
        have au : iN.size = ab.size := by have := eQ.length_eq; simpa using this
        refine Wc fq rfl ?_ (by rw [au, sizeLine_eq]; omega)
        have nd : (J.update a (Obj.putSet iN di)).get? a = some { fD with data := .set iN (qh + 1) di } := by
          have := Va (Obj.putSet iN di) fq (by rw [Wk iN di rfl]; rfl)
          rw [Wk iN di rfl] at this; exact this
        have iS := mh.trans (Vj J a (Obj.putSet iN di))
        obtain ⟨ik, bT, c9⟩ := Paired.perm eQ aC
        exact h _ ik iS ⟨_, iN, _, di, nd, Br, rfl, FP, by rw [f1]; exact f2, by rw [f1, hlen]; exact UE _, eE, by rw [f4]; exact Lc, Paired.mp (move iS) c9, (bT.nodup_iff).mpr gw⟩ bT
      unfold SetTable.road
      have KO : ((SetTable.fill { mask := m, place := #[], dummies := #[], finger := 0, led := led, moves := i1, plain := true }) != 0) = false := rfl
      rw [KO]
      simp only [UC, UX]
      by_cases aZ : (m == t.mask && t.dummies.isEmpty) = true
      · simp only [aZ, Vn]
        have KA : t.dummies = #[] := XQ.mp (WV.mp aZ).2
        have hf := T.fill
        rw [KA] at hf
        exact fin ab _ (T.flags rfl rfl rfl) hf (by rw [hf] at iP; exact iP) (by show (true && t.plain) = true; rw [d1]; rfl) rfl (.refl _)
      · have xc : (m == t.mask && t.dummies.isEmpty) = false := by simpa using aZ
        simp only [xc, UC, UX]
        obtain ⟨di, order, ck, bo, cm, gp, jo, lV, p7, _⟩ := xD (α := Value) hm ab sM 0 i1 (led && t.led) (true && t.plain)
        have hd2 : di.dummies = #[] := by
          have ck := ck
          unfold SetTable.laid at ck
          cases z : layClean m (ab.map (·.1)) with
          | none => rw [z] at ck; cases ck
          | some b8 => rw [z] at ck; cases ck; rfl
        refine UA ?_
        rw [ck]
        show wpAny (model prog w) A (if ((order.filterMap (ab[·]?)).size != ab.size) = true then _ else pure (order.filterMap (ab[·]?), di)) _ E _
        rw [if_neg (by rw [jo]; simp)]
        refine wpAny_pure ?_
        exact fin _ di lV (by rw [lV.fill, hd2, jo]; rfl) (by rw [bo]; exact k7) (by rw [gp, d1]; rfl) cm p7
    refine UA ?_
    unfold setRoomFor
    refine UA (U4 az hK (Tab.fits (rt led)) ?_)
    dsimp only
    have vV : (SetTable.fresh 0 0 led).roomFor ab.size = (SetTable.fresh 0 0 true).roomFor ab.size := rfl
    rw [vV]
    cases eR : (SetTable.fresh 0 0 true).roomFor ab.size with
    | none =>
      rw [eR] at gT
      have gT : 7 = m := gT
      subst gT
      dsimp only
      refine wpAny_pure (rest s.heap r6 0 (Wd a s.heap) ?_)
      rw [az]
      obtain ⟨ck, bo, cm, gp⟩ := fD
      cases hK
      rfl
    | some wanted =>
      rw [eR] at gT
      have gT : sizeAbove wanted - 1 = m := gT
      dsimp only
      unfold setRelay
      refine UA (U4 az hK (Tab.fits (rt led)) ?_)
      dsimp only
      have nx : ¬ sizeAbove wanted > sizeLine := by rw [sizeLine_eq]; omega
      rw [if_neg nx]
      have gx : (SetTable.fresh 0 0 led).relaid ((#[] : Array (Int × Value)).map (·.1)) wanted = some ({ mask := m, place := #[], dummies := #[], finger := 0, led := led, moves := (SetTable.fresh 0 0 led).movedTo m, plain := true }, #[]) := by
        unfold SetTable.relaid
        rw [gT, show (#[] : Array (Int × Value)).map (·.1) = #[] by simp]
        exact MJ m 0 _ led true
      refine UA ?_
      rw [gx]
      refine wpAny_pure ?_
      dsimp only
      refine Wc az hK ?_ (by rw [sizeLine_eq]; show 0 <= _; omega)
      refine rest _ (r6 + 1) ((SetTable.fresh 0 0 led).movedTo m) (Vj s.heap a _) ?_
      have := Va (Obj.putSet ((#[] : Array Nat).filterMap ((#[] : Array (Int × Value))[·]?)) { mask := m, place := #[], dummies := #[], finger := 0, led := led, moves := (SetTable.fresh 0 0 led).movedTo m, plain := true }) az (by rw [Wk _ _ hK]; rfl)
      rw [Wk _ _ hK] at this
      exact this
def QZ{a:Addr}{o:Obj}{ab:Array (Int×Value)}{aT:Nat}{t:SetTable}{Q:Array (Int×Value)->Shared->Prop}(ar:s.heap.get? a=some o)(O:j2 w o ab aT t)(h:Q (eI w a ab aT) s):wpAny (model prog w) A (setWalk a) Q E s:=by
 unfold setWalk;refine UA (U4 ar O.data (Tab.fits O.tab) ?_);dsimp only;unfold setsByText;refine UA (UA (V1 (wpAny_pure ?_)));cases hw:w.params.followText "set-order" with
 |true =>
  have eR:(model prog w).w.params.followText "set-order"=true:=hw;simp only[eR,Vn];have aj:eI w a ab aT=pickOrder (w.params.setOrder a aT) ab:=by unfold eI;rw[if_pos hw]
  rw[aj]at h;exact UA (V1 (wpAny_pure h))
 |false =>
  have eR:(model prog w).w.params.followText "set-order"=false:=hw;simp only[eR,UC,UX];have kf:(!t.plain&&decide (ab.size>1))=false:=by rw[O.plain];rfl
  show wpAny (model prog w) A (if (!t.plain&&decide (ab.size>1))=true then _ else _) Q E s;rw[kf];simp only[UC,UX];refine UA ?_;show wpAny (model prog w) A (if (!t.led&&decide (ab.size>1))=true then _ else pure ()) _ E s;rw[O.led.mpr hw];simp only[VM,Wz,UC,UX];have aj:eI w a ab aT=ab:=by unfold eI;rw[if_neg (by rw[hw];decide)]
  rw[aj]at h;exact wpAny_pure (wpAny_pure h)
def SJ{a:Addr}{o:Obj}{ab:Array (Int×Value)}{aT:Nat}{t:SetTable}{l:List Addr}{f:Option Addr}{Q:Array (Int×Value)->Shared->Prop}(ar:s.heap.get? a=some o)(O:j2 w o ab aT t)(h:Q (eI w a ab aT) s):wpAny (model prog w) A (setWalkUnseen a l f) Q E s:=by
 unfold setWalkUnseen;refine UA (U4 ar O.data (Tab.fits O.tab) ?_);dsimp only;unfold setsByText;refine UA (UA (V1 (wpAny_pure ?_)));have af:((model prog w).w.params.followText "set-order"||t.led&&t.plain||decide (ab.size<=1))=true:=by
  cases hw:w.params.followText "set-order" with
  |true =>
   have eR:(model prog w).w.params.followText "set-order"=true:=hw;rw[eR];rfl
  |false=>rw[O.led.mpr hw,O.plain];simp
 show wpAny (model prog w) A (if ((model prog w).w.params.followText "set-order"||t.led&&t.plain||decide (ab.size<=1))=true then _ else _) Q E s;rw[af];simp only[Vn];exact QZ ar O h
def JI {M : Value -> Prop} {a b : Addr} {o : Obj} {ab : Array (Int × Value)} {aT : Nat} {t : SetTable} {k1 k2 : List (List Int)} {nm : String} {Q : Unit -> Shared -> Prop} (bQ : A.units < cLine) (dg : a ≠ b) (ar : s.heap.get? b = some o) (O : j2 w o ab aT t) (aC : Paired (fun e ks => fI prog w s.heap e ks /\ M e.2) ab.toList k1) (gw : k1.Nodup)
    {bp : List (List Int)} (aX : gn M prog w s.heap a k2.length bp) (aq : bp.Perm k2) (jH : k2.length + (k1.filter fun k => !decide (k ∈ k2)).length <= 76)
    (h : ∀ h' dr c, Heap.SameBut a s.heap h' -> gn M prog w h' a c dr -> (∀ k, k ∈ dr <-> ((k ∈ k1 /\ k ∉ k2) \/ (k ∉ k1 /\ k ∈ k2))) -> Q () { s with heap := h' }) :
    wpAny (model prog w) A (Builtin.Frozenset.symmetricDifferenceUpdate nm a (.ref b)) Q E s := by
  obtain ⟨fD, dX, IC, cf, ni, wY, hK, _⟩ := id aX
  have cF : s.TypeIs (.ref b) "set" := ⟨o, ar, O.ex.1⟩
  unfold Builtin.Frozenset.symmetricDifferenceUpdate
  have dq : (Value.ref b == Value.ref a) = false := by
    rw [beq_eq_false_iff_ne]; intro e; cases e; exact dg rfl
  rw [dq]
  simp only [UC, UX]
  refine UA (Wr cF ?_)
  have aj : (Value.type "set" == Value.type "dict") = false := by decide
  rw [aj]
  simp only [UC, UX]
  refine UA (rS cF ?_)
  simp only [Vn]
  refine UA (wpAny_pure ?_)
  refine UA (m := Builtin.Frozenset.addrOf _) (wpAny_pure ?_)
  refine UA (XR ar O.data (Tab.fits O.tab) ?_)
  refine Vu ?_
  refine UA (SJ ar O ?_)
  obtain ⟨Mq, aK, a6⟩ := Paired.perm (mB w b ab aT) aC
  refine UA (wpAny_forIn_array' _ (fun rest _ s' => ∃ jt ff h' dr, s' = { s with heap := h' } /\ Heap.SameBut a s.heap h' /\ gn M prog w h' a (k2.length + (jt.filter fun k => !decide (k ∈ k2)).length) dr
    /\ (∀ k, k ∈ dr <-> ((k ∈ jt /\ k ∉ k2) \/ (k ∉ jt /\ k ∈ k2))) /\ Paired (fun e ks => fI prog w s.heap e ks /\ M e.2) rest ff /\ (jt ++ ff).Perm k1) _ ?_ ?_ _ _ ⟨[], Mq, s.heap, bp, rfl, Wd a s.heap, aX, fun k => ?_, a6, aK⟩)
  · rintro ⟨aQ, x⟩ rest h6 s' ⟨jt, ff, h', dr, rfl, mh, hn, jF, mg, ij⟩
    cases mg with
    | @cons _ ks _ ff ah mg =>
    obtain ⟨⟨c, ex, iL, ai⟩, Bc⟩ := ah
    dsimp only at ex iL Bc ⊢
    subst ex; subst iL
    have Ll := (ij.nodup_iff).mpr gw
    have BK : ks ∉ jt := fun z => (Wu.mp Ll).2.2 ks z ks List.mem_cons_self rfl
    have c0 : fz prog w h' ks c := ai.kept fun bN dh => (mh.2 c (ai.ne ni hK)).trans dh
    have eF : ks ∈ dr <-> ks ∈ k2 := by
      rw [jF]
      exact ⟨fun z => z.elim (fun y => absurd y.1 BK) (·.2), fun z => .inr ⟨BK, z⟩⟩
    have BM : (jt ++ [ks] ++ ff).Perm k1 := by rw [UN]; exact ij
    have same : ∀ (aa : Heap), Heap.SameBut a s.heap aa -> ∀ {R : ForInStep PUnit -> Shared -> Prop}, R (.yield ⟨⟩) { s with heap := aa } -> wpAny (model prog w) A (do Builtin.Frozenset.unchanged nm b aT; pure (ForInStep.yield PUnit.unit)) R E { s with heap := aa } := fun aa nu R hR => by
      have iQ : aa.get? b = some o := (nu.2 b (V3 dg)).trans ar
      refine UA ?_
      unfold Builtin.Frozenset.unchanged
      refine UA (XR (s := { s with heap := aa }) iQ O.data (Tab.fits O.tab) ?_)
      simp only [We, UC, UX]
      exact wpAny_pure (wpAny_pure hR)
    refine UA (Vu (UA (H3 (s := { s with heap := h' }) bQ hn c0 fun aa ik c3 c1 dx => ?_)))
    have iS := mh.trans c3
    by_cases hM : ks ∈ k2
    · rw [if_pos (eF.mpr hM)] at dx
      rw [decide_eq_true (eF.mpr hM)]
      simp only [VM, UC, UX]
      refine wpAny_pure (same aa iS ⟨jt ++ [ks], ff, aa, ik, rfl, iS, ?_, fun k => ?_, mg, BM⟩)
      · rw [Wn, show [ks].filter (fun k => !decide (k ∈ k2)) = [] by simp [hM], VD]; exact c1
      · obtain ⟨_, _, _, _, _, _, _, _, _, _, _, _, _, Lk⟩ := hn
        have w4 := (dx.nodup_iff).mpr Lk
        have hm : k ∈ dr <-> k = ks \/ k ∈ ik := by rw [<- dx.mem_iff, UI]
        have me : ks ∉ ik := (Ve.mp w4).1
        by_cases hg : k = ks
        · subst hg
          simp [hM, me]
        · have : k ∈ ik <-> k ∈ dr := by rw [hm]; simp [hg]
          rw [this, jF]
          simp [hg]
    · have gU : ks ∉ dr := fun z => hM (eF.mp z)
      rw [if_neg gU] at dx
      subst dx
      rw [decide_eq_false gU]
      simp only [WS, Vn]
      have Bw : (jt.filter fun k => !decide (k ∈ k2)).length + 1 + (ff.filter fun k => !decide (k ∈ k2)).length = (k1.filter fun k => !decide (k ∈ k2)).length := by
        have := (ij.filter fun k => !decide (k ∈ k2)).length_eq
        rw [Wn, List.filter_cons_of_pos (by simp [hM]), UM, List.length_cons] at this
        omega
      have ho : fz prog w aa ks c := ai.kept fun bN dh => (iS.2 c (ai.ne ni hK)).trans dh
      refine UA (zc (s := { s with heap := aa }) bQ c1 ho Bc (by omega) fun aL tb r lD jV yU => ?_)
      have BP := iS.trans lD
      rw [if_neg gU] at jV yU
      refine wpAny_pure (same aL BP ⟨jt ++ [ks], ff, aL, tb, rfl, BP, ?_, fun k => ?_, mg, BM⟩)
      · rw [Wn, show [ks].filter (fun k => !decide (k ∈ k2)) = [ks] by simp [hM], UM]; exact jV
      · have hm : k ∈ tb <-> k = ks \/ k ∈ ik := by rw [yU.mem_iff, UI]
        rw [hm, jF]
        by_cases hg : k = ks
        · subst hg; simp [hM]
        · simp [hg]
  · rintro h6 s' ⟨jt, ff, h', dr, rfl, mh, hn, jF, mg, ij⟩
    cases mg
    rw [VD] at ij
    refine wpAny_pure (h h' dr _ mh hn fun k => ?_)
    rw [jF, ij.mem_iff]
  · rw [aq.mem_iff]; simp
def Ti{M:Value->Prop}{a b:Addr}{k1 k2:List (List Int)}{Q:Value->Shared->Prop}(bQ:A.units+1<cLine)(dg:a≠b)(J:h5 M prog w s.heap a k1)(aa:h5 M prog w s.heap b k2)(jH:k2.length+(k1.filter λk=>!decide (k∈k2)).length<=76)(h:∀h' bp c,Heap.SameBut s.heap.objs.size (s.heap.push { cls:=.type "set",dict:=none,data:=.set #[] 0 (.fresh 0 0 (!w.params.followText "set-order")) }) h'->gn M prog w h' s.heap.objs.size c bp->(∀k,k∈bp<->((k∈k1/\k∉k2)\/(k∉k1/\k∈k2)))->Q (.ref s.heap.objs.size) { s with heap:=h' }):
  wpAny (model prog w) A (binaryOp .BitXor (.ref a) (.ref b)) Q E s:=by
 obtain⟨fD,dX,IC,cf,ni,wY,hK,FQ,Ul,Um,Py,Pz,Un,PA⟩:=id J;obtain⟨bx,dY,TG,cH,sP,Bt,gu,ez,cS⟩:=id aa;have sy:s.TypeIs (.ref a) "set":=⟨fD,ni,wY.1⟩;have Bh:s.TypeIs (.ref b) "set":=⟨bx,sP,Bt.1⟩;refine wpAny_binaryOp_same (op:=.BitXor) sy Bh F.fills_set_xor F.slot_set_xor (VG F.slot_set_xor sy Iz ?_ (F.args_set_xor_2 _ _));rw[xor_eq];refine UA (m:=Builtin.Frozenset.slot1 _ _) (wpAny_pure ?_);dsimp only;simp only[UC,UX];refine UA (UA (rS sy ?_));refine rS Bh ?_;simp only[VM,UC,UX];refine UA (m:=Builtin.Frozenset.addrOf _) (wpAny_pure ?_);refine UA ?_;unfold EJ;refine UA (Gy sy ?_);unfold Builtin.Frozenset.newFrom;refine UA (UA ?_);unfold newSet setsByText;refine UA (UA (V1 (wpAny_pure ?_)));dsimp only;simp only[newObj];refine UA (wpAny_alloc (wpAny_pure ?_));change wpAny (model prog w) A.in1 _ _ E { s with heap:=s.heap.push { cls:=.type "set",dict:=none,data:=.set #[] 0 (.fresh 0 0 (!w.params.followText "set-order")) } };have AQ:=UQ (o:=({ cls:=.type "set",dict:=none,data:=.set #[] 0 (.fresh 0 0 (!w.params.followText "set-order")) }:Obj)) s.heap rfl;have keep:∀c o,s.heap.get? c=some o->(s.heap.push { cls:=.type "set",dict:=none,data:=.set #[] 0 (.fresh 0 0 (!w.params.followText "set-order")) }).get? c=some o:=λc o e=>UD _ e
 generalize s.heap.push { cls:=.type "set",dict:=none,data:=.set #[] 0 (.fresh 0 0 (!w.params.followText "set-order")) }=H at h AQ keep ⊢;have cg:∀c o,s.heap.get? c=some o->c≠s.heap.objs.size:=λc o e z=>UZ (UK e) z
 have qF:s.heap.objs.size≠a:=V3 (cg a _ ni);have qG:s.heap.objs.size≠b:=V3 (cg b _ sP);refine UA (m:=Builtin.Frozenset.addrOf _) (wpAny_pure ?_);refine UA (Vu ?_);unfold Builtin.Frozenset.updateFrom;refine UA (rS ⟨bx,keep _ _ sP,Bt.1⟩ ?_);simp only[Vn];refine UA (m:=Builtin.Frozenset.addrOf _) (wpAny_pure ?_);unfold Builtin.Frozenset.merge;refine UA (XR (keep _ _ sP) gu (Tab.fits ez) ?_);refine Nn (s:={ s with heap:=H }) qG AQ ⟨rfl,rfl,rfl⟩ rfl (by simp) (aa.kept keep) (by omega) λh' dr c3 c1 dx=>?_
 refine wpAny_pure ?_;refine UA (m:=Builtin.Frozenset.addrOf _) (wpAny_pure ?_);refine UA (Vu ?_);have xB:∀c o,s.heap.get? c=some o->h'.get? c=some o:=λc o e=>(c3.2 c (cg c o e)).trans (keep c o e)
 obtain⟨_,_,_,_,rD,lD,jV,yU,Uv,uz,Uw,Ux,Tn,Uy⟩:=gn.kept J xB;rw[xB _ _ ni]at rD;cases rD;rw[hK]at jV;cases jV;refine JI (s:={ s with heap:=h' }) (k1:=k1) (k2:=k2) (show A.units+1<cLine from bQ) qF (xB _ _ ni) ⟨wY,hK,FQ,Py,Pz⟩ Tn PA c1 dx jH λaL tb c aU bu g0=>?_
 refine wpAny_pure (wpAny_pure ⟨_,rfl,(λz=>by cases z),?_⟩)
 exact h aL tb c (c3.trans aU) bu g0
end
end Pv
end
section
namespace Pv
open PySem PySem.Spec PyProof.Rows PySem.W
section
variable{prog:Program}{w:World}{A:Around}{E:Value->Shared->Prop}{s:Shared}{it d:Addr}{cn:Obj}{ab:Array DictEntry}{i aT:Nat}
def HQ{Q:Value->Shared->Prop}(ae:(d==sysModules)=false)(ar:s.heap.get? d=some cn)(ah:cn.ExactDict)(hd:cn.data=.dict ab aT)(dZ:Q (.ref s.heap.objs.size) { s with heap:=s.heap.push { cls:=.type "dict_keyiterator",data:=.fields #[.ref d,.int 0 0,.int ab.size 0,.int aT 0] } }):wpAny (model prog w) A (pyIter (.ref d)) Q E s:=by
 have cF:s.TypeIs (.ref d) "dict":=⟨cn,ar,ah.1⟩;refine XP cF F.slot_dict_iter (VG F.slot_dict_iter cF F.entry_dict_iter ?_ (F.args_dict_iter_1 _));unfold Builtin.«dict.__iter__»;refine UA ?_;unfold Builtin.Dict.dictSlotNone;refine UA (wpAny_notOrdered_dict cF ?_);show wpAny _ _ (pure (Value.ref d)) _ _ s;refine wpAny_pure ?_;show wpAny _ _ (Builtin.Dict.showsAll d>>=_) _ _ s;unfold Builtin.Dict.showsAll;rw[if_neg (by rw[ae];exact Vo)]
 refine UA (wpAny_pure ?_);refine UA (XS ar hd ?_);refine UA (Yf ar hd ?_);refine UA (Vc (wpAny_pure ⟨_,rfl,"dict_keyiterator",_,⟨_,UQ _ rfl,rfl⟩,VV.lookup,?_⟩));simpa[rawInt] using dZ
def HR{Q:Option Value->Shared->Prop}(hit:s.heap.IsKeyIter it d i ab.size aT)(qH:s.heap.get? d=some cn)(qy:cn.data=.dict ab aT)(cg:i<ab.size)(dZ:∀h',h'.IsKeyIter it d (i+1) ab.size aT->Heap.SameBut it s.heap h'->Q (some ab[i].key) { s with heap:=h' }):wpAny (model prog w) A (pyNext (.ref it)) Q E s:=by
 obtain⟨o,ar,ai,hd⟩:=id hit;unfold pyNext;refine UA (Xq (VY (name:=Str.ofString "__next__") hit.typeIs VV
  (VG VV hit.typeIs Xs ?_ (Xl _))))
 refine UA (wpAny_pure ?_);refine UA ?_;refine UA ?_
 first|refine UA (V8 hit.typeIs (wpAny_pure ?_))|refine UA (Wy hit.typeIs (wpAny_pure ?_))
 refine UA (XG ar hd ?_);simp only[show Builtin.Dict_items.ownsTuple "dict_keyiterator"=false by decide,UC,UX]
 show wpAny _ _ (if (Value.ref d==Value.none)=true then _ else _) _ _ s;rw[if_neg (show ¬((Value.ref d==Value.none)=true) from Vo)];refine UA (wpAny_pure ?_);refine UA (XS qH qy ?_);rw[if_neg (by simp)]
 refine UA (wpAny_pure ?_);refine UA (Yf qH qy ?_);rw[if_neg (by simp)]
 refine wpAny_pure ?_;simp only[show ¬((i:Int)<0) from by omega,UX,Int.toNat_natCast,UL cg]
 refine UA ?_
 first|refine UA (V8 hit.typeIs (wpAny_pure ?_))|refine UA (Wy hit.typeIs (wpAny_pure ?_))
 refine UA (wpAny_isOneOf_keyiter hit.typeIs ?_);show wpAny _ _ (setField (.ref it) 1 (rawInt ((i:Int)+1))>>=_) _ _ s;refine UA (Xd ar hd (by simp) ?_)
 have sH:(s.heap.update it (Obj.mapFields (·.setIfInBounds 1 (rawInt ((i:Int)+1))))).IsKeyIter it d (i+1) ab.size aT :=
  ⟨_,Va _ ar (Obj.isFreed_of_fields (Obj.data_mapFields hd _)),(Obj.cls_mapFields ..).trans ai,by rw[Obj.data_mapFields hd];simp[rawInt]⟩
 refine UA (Vu ?_);refine UA (wpAny_isOneOf_keyiter (s:={ s with heap:=s.heap.update it (Obj.mapFields (·.setIfInBounds 1 (rawInt ((i:Int)+1)))) }) sH.typeIs ?_)
 show wpAny _ _ (pure ab[i].key) _ _ _;exact wpAny_pure (wpAny_pure ⟨_,rfl,wpAny_pure (dZ _ sH (Vj ..))⟩)
def HP{Q:Option Value->Shared->Prop}(b5:A.handled=none)(hit:s.heap.IsKeyIter it d ab.size ab.size aT)(qH:s.heap.get? d=some cn)(qy:cn.data=.dict ab aT)(dZ:∀h',Heap.ExtBut it s.heap h'->Q none { s with heap:=h' }):wpAny (model prog w) A (pyNext (.ref it)) Q E s:=by
 obtain⟨o,ar,ai,hd⟩:=id hit;unfold pyNext;refine UA (Xq (VY (name:=Str.ofString "__next__") hit.typeIs VV
  (VG VV hit.typeIs Xs ?_ (Xl _))))
 refine UA (wpAny_pure ?_);refine UA ?_;refine UA ?_
 first|refine UA (V8 hit.typeIs (wpAny_pure ?_))|refine UA (Wy hit.typeIs (wpAny_pure ?_))
 refine UA (XG ar hd ?_);simp only[show Builtin.Dict_items.ownsTuple "dict_keyiterator"=false by decide,UC,UX]
 show wpAny _ _ (if (Value.ref d==Value.none)=true then _ else _) _ _ s;rw[if_neg (show ¬((Value.ref d==Value.none)=true) from Vo)];refine UA (wpAny_pure ?_);refine UA (XS qH qy ?_);rw[if_neg (by simp)]
 refine UA (wpAny_pure ?_);refine UA (Yf qH qy ?_);rw[if_neg (by simp)]
 refine wpAny_pure ?_;simp only[show ¬((ab.size:Int)<0) from by omega,UX,Int.toNat_natCast,Wj (UE ab.size)]
 refine UA ?_
 first|refine UA (V8 hit.typeIs (wpAny_pure ?_))|refine UA (Wy hit.typeIs (wpAny_pure ?_))
 show wpAny _ _ (setField (.ref it) 0 .none>>=_) _ _ s;refine UA (Xd ar hd (by simp) ?_)
 show wpAny _ _ (newExc (.type "StopIteration") []>>=_) _ _ _;refine UA ?_;simp only[newExc,newTuple];refine UA (Vc ?_ (by size_fits))
 refine UA (m:=firstArgMember _ _) (wpAny_of_eq (a:=Value.none) (by first|rfl|(simp only[firstArgMember];rfl)) ?_)
 refine Vc ?_ (by size_fits)
 simp only[raiseNew];refine UA (wpAny_handled ?_);rw[show A.in1.handled=none from b5];refine UA (wpAny_pure (wpAny_throw ?_));refine UA (WX (T:="StopIteration") (b:=true) ⟨_,UQ _ rfl,rfl⟩ isSubtype_stop ?_);exact wpAny_pure (dZ _ (((Vj ..).extBut.push _).push _))
end
section
variable{prog:Program}{w:World}{A:Around}{d:Addr}{cn:Obj}{ab:Array DictEntry}{aT:Nat}
noncomputable def uN(ab:Array DictEntry)(i:Nat)(v:Value):Prop:=∃e,ab[i]?=some e/\v=e.key
def S9(b5:A.handled=none)(I:Addr)(dg:d≠I)(hd:cn.data=.dict ab aT):Walks prog w A I [I,d] [I] ab.size (uN ab) (λi h=>h.IsKeyIter I d i ab.size aT/\h.get? d=some cn) where
 sub:=λb af=>by simp at af;simp[af]
 frame:=λ_ _ _ st aq=>⟨st.1.at λo e=>aq I (by simp) o e,aq d (by simp) cn st.2⟩
 item:=λi s Q E hi st dZ=>by
  refine HR st.1 st.2 hd hi λh' sH sS=>?_
  exact dZ _ h' s.toks ⟨ab[i],UL hi,rfl⟩ ⟨sH,sS.extBut d cn dg st.2⟩ λb o af e=>sS.extBut b o (λh=>af (by simp[h])) e
 done:=λs Q E st dZ=>HP b5 st.1 st.2 hd λh' jC=>dZ h' s.toks λb o af e=>jC b o (λh=>af (by simp[h])) e
 self:=λ_ _ _ _ st dZ=>wpAny_pyIter_keyiter st.1 dZ
def Rn(ae:(d==sysModules)=false)(ah:cn.ExactDict)(hd:cn.data=.dict ab aT):KdlSrc prog w "dict" d d ab.size (uN ab) (λh=>h.get? d=some cn) where
 type:=λ_ ar=>⟨cn,ar,ah.1⟩
 there:=λ_ ar=>⟨UK ar,UK ar⟩
 keep:=λ_ _ ar aq=>aq d (.inl rfl) cn ar
 notList:=by decide
 notTuple:=by decide
 hint:=λ_ _ _ _ ar aE=>kdl_hint_dict ⟨cn,ar,ah.1⟩ aE
 iter:=λ_ s b5 ar=>⟨_,_,(λ_ _ aE=>HQ ae ar ah hd aE),S9 b5 _ (UZ (UK ar)) hd,⟨⟨_,UQ _ rfl,rfl,rfl⟩,UD _ ar⟩⟩
end
end Pv
end
section
namespace Pv
open PySem PySem.Spec PyProof.Rows ez PySem.SetTable
section
variable{prog:Program}{w:World}{A:Around}{E:Value->Shared->Prop}{s:Shared}
def Hq {l : Addr} {ag : List Value} {Q : List Value -> Shared -> Prop} (aw : s.heap.IsTuple l ag.toArray)
    (h : Q ag { s with heap := (s.heap.push (seqObj "list" #[] 0)).update s.heap.objs.size (Obj.mapSeq (· ++ ag.toArray)) }) (hsz : ag.length <= sizeLine) :
    wpAny (model prog w) A (collect (.ref l)) Q E s := by
  obtain ⟨o, ar, ai, n, hd⟩ := id aw
  unfold collect
  refine UA (XE (VU entry_proto_collect' ?_))
  show wpAny _ _ (do again (.builtin "list.__iadd__" ⟨[<- newList [], .ref l], []⟩)) _ _ s
  refine UA (Yp (wpAny_pure ⟨Code.quiet_builtin _ (by decide +kernel), VU entry_list_iadd' ?_⟩))
  show wpAny _ _ (Builtin.List.listExtendWith (.ref s.heap.objs.size) (.ref l) (.ref s.heap.objs.size)) _ _ { s with heap := s.heap.push (seqObj "list" #[] 0) }
  unfold Builtin.List.listExtendWith
  have dh : (s.heap.push (seqObj "list" #[] 0)).get? l = some o := UD _ ar
  refine UA (Wr (T := "tuple") ⟨o, dh, ai⟩ ?_)
  have aS : (Value.type "tuple" == Value.type "tuple") = true := by rfl
  rw [if_pos (by rw [aS]; simp)]
  refine UA (listItems_at dh hd ?_)
  refine UA (listItems_at (xs := #[]) (n := 0) (UQ _ rfl) rfl ?_)
  rw [if_neg (by simp)]
  refine UA (XY (xs := #[]) (n := 0) (UQ _ rfl) rfl ?_ (UH _) (by show (#[] ++ ag.toArray).size <= sizeLine + 1; simp only [Wb, UT, List.length_nil]; omega))
  refine wpAny_pure ?_
  show wpAny (model prog w) A (do
      let o <- load s.heap.objs.size
      match o.data with
      | .seq xs _ => pure xs.toList
      | _ => unsupported "internal:collect") Q E { s with heap := (s.heap.push (seqObj "list" #[] 0)).update s.heap.objs.size (Obj.mapSeq (· ++ ag.toArray)) }
  refine UA (Yq (get?_update_seq (UQ _ rfl) _) ?_)
  show wpAny _ _ (pure ((#[] : Array Value) ++ ag.toArray).toList) Q E _
  rw [show ((#[] : Array Value) ++ ag.toArray).toList = ag by simp]
  exact wpAny_pure h
noncomputable def rJ(s s':Shared):Prop:=(∀b o,s.heap.get? b=some o->s'.heap.get? b=some o)/\s'.gens=s.gens/\s'.drawn=s.drawn/\s'.os=s.os
def Ho{r:Addr}{a b c:Int}{t u v:Tok}{n:Nat}{Q:List Value->Shared->Prop}(b5:A.handled=none)(aZ:IsRange s.heap r a b c t u v)(LC:Builtin.Range.small a b c=true)(aD:Builtin.Range.rangeSize a b c=n)(hlen:n<=2 ^ 24)(dZ:∀s' acc,rJ s s'->ItemsOf (λi v=>∃t,v=.int (a+i*c) t) acc n->Q acc.toList s'):wpAny (model prog w) A (collect (.ref r)) Q E s:=by
 unfold collect;refine UA (XE (VU F.entry_proto_collect ?_));rw[V0 F.plain_proto_collect _];show wpAny _ A.in1 (newList []>>=λl=>again (.builtin "list.__iadd__" ⟨[l,.ref r],[]⟩)) _ _ s
 refine UA (Vc ?_);refine wpAny_pure ⟨Xp Xe _,VU F.entry_list_iadd ?_⟩;rw[V0 Xe _];show wpAny _ A.in1 (Builtin.List.listExtendWith (.ref s.heap.objs.size) (.ref r) (.ref s.heap.objs.size)) _ _ _;have aX:(s.heap.push { cls:=.type "list",data:=.seq ([]:List Value).toArray }).get? s.heap.objs.size=some { cls:=.type "list",data:=.seq ([]:List Value).toArray }:=UQ _ rfl;refine wpAny_extend_range (A:=A) (R:=wants _ E) (s:={ s with heap:=s.heap.push { cls:=.type "list",data:=.seq ([]:List Value).toArray } }) b5 (UD _ aZ) LC aD hlen s.heap.objs.size (.ref s.heap.objs.size) 0 aX λh' tk uU cO aq hn gR=>?_
 show wpAny _ A (load s.heap.objs.size>>=_) _ _ _;refine UA (Yq hn ?_);exact wpAny_pure (dZ _ uU ⟨λb o e=>aq b o (UZ (UK e)) (UD _ e),rfl,rfl,rfl⟩ gR)
def Hp{a:Addr}{o:Obj}{ab:Array (Int×Value)}{aT:Nat}{t:SetTable}{Q:List Value->Shared->Prop}(b5:A.handled=none)(ar:s.heap.get? a=some o)(O:j2 w o ab aT t)(aD:ab.size<=sizeLine)(dZ:∀s' acc,rJ s s'->ItemsOf (λi v=>∃x,(eI w a ab aT)[i]?=some x/\v=x.2) acc ab.size->Q acc.toList s'):wpAny (model prog w) A (collect (.ref a)) Q E s:=by
 have cg:a<s.heap.objs.size:=UK ar;unfold collect;refine UA (XE (VU F.entry_proto_collect ?_));rw[V0 F.plain_proto_collect _];show wpAny _ A.in1 (newList []>>=λl=>again (.builtin "list.__iadd__" ⟨[l,.ref a],[]⟩)) _ _ s
 refine UA (Vc ?_);refine wpAny_pure ⟨Xp Xe _,VU F.entry_list_iadd ?_⟩;rw[V0 Xe _];show wpAny _ A.in1 (Builtin.List.listExtendWith (.ref s.heap.objs.size) (.ref a) (.ref s.heap.objs.size)) _ _ _;unfold Builtin.List.listExtendWith;have k9:(s.heap.push { cls:=.type "list",data:=.seq ([]:List Value).toArray }).get? a=some o:=UD _ ar;refine UA (Wr (T:="set") ⟨o,k9,O.ex.1⟩ ?_);have J:Builtin.List.listSameRef (.ref s.heap.objs.size) (.ref a)=false:=by
  have dg:s.heap.objs.size≠a:=V3 (UZ cg);simp[Builtin.List.listSameRef,dg]
 have aa:(Value.type "set"==Value.type "list")=false:=by decide
 have aL:(Value.type "set"==Value.type "tuple")=false:=by decide
 simp only[J,aa,aL,Bool.or_false,UC,UX];refine UA (Mj (s:={ s with heap:=s.heap.push { cls:=.type "list",data:=.seq ([]:List Value).toArray } }) k9 O ?_);generalize f5:s.heap.push { cls:=.type "list",data:=.seq ([]:List Value).toArray }=H at *;have wK:H.objs.size=s.heap.objs.size+1:=by rw[<- f5,Yi]
 have Lf:a<H.objs.size:=by rw[wK];exact Nat.lt_succ_of_lt cg
 refine UA (Vu (K5 ⟨o,UD _ k9,O.ex.1⟩ ?_));rw[if_pos (by decide)]
 have dg:a≠H.objs.size:=UZ Lf;have Bd:s.heap.objs.size≠H.objs.size:=by rw[wK];exact UZ (WA _)
 have Be:s.heap.objs.size≠a:=V3 (UZ cg);have oE:s.heap.objs.size∉[H.objs.size,a]:=λhm=>by
  rcases UI.mp hm with e|e
  .exact Bd e
  .exact Be (Vi.mp e)
 generalize sv:H.push { cls:=.type "set_iterator",data:=.fields #[.int 0 0,.int 0 0,.ref a,.int ab.size 0,.int aT 0] }=cc;have aX:cc.get? s.heap.objs.size=some { cls:=.type "list",data:=.seq ([]:List Value).toArray }:=sv▸UD _ (f5▸UQ _ rfl);have Lo:cc.get? a=some o:=sv▸UD _ k9;have KZ:cc.get? H.objs.size=some { cls:=.type "set_iterator",data:=.fields #[.int 0 0,.int 0 0,.ref a,.int ab.size 0,.int aT 0] }:=sv▸UQ _ rfl;have KX:A.in1.handled=none:=b5;have st0:slotAt w t 0=0:=by unfold slotAt;split<;>rfl
 refine UA (WU ?_);refine UA ?_;show wpAny _ A.in1 (updateSeq s.heap.objs.size (·.push .none)>>=λ_=>updateSeq s.heap.objs.size (·.pop)) _ _ _
 refine UA (wpAny_updateSeq aX rfl ?_);have Bg:=Va (Obj.mapSeq (·.push Value.none)) aX rfl
 refine wpAny_updateSeq Bg rfl ?_;have Kn:=Va (Obj.mapSeq (·.pop)) Bg rfl
 have xU:∀b bx,b≠s.heap.objs.size->cc.get? b=some bx->((cc.update s.heap.objs.size (Obj.mapSeq (·.push Value.none))).update s.heap.objs.size (Obj.mapSeq (·.pop))).get? b=some bx :=
  λb bx af e=>(VN _ _ (V3 af)).trans ((VN _ _ (V3 af)).trans e)
 refine wpAny_pure ⟨Xp F.plain_extend_loop _,codeAny_extend_loopS (Ta (prog:=prog) (A:=A.in1) KX dg O).toS aD _ oE _ ab.size 0 _ _ _ rfl (UH _) ⟨⟨_,xU _ _ (V3 Bd) KZ,rfl,by rw[st0];rfl⟩,xU _ _ (V3 Be) Lo⟩ Kn (ItemsOf.nil _) λs' uU cO hm hn gR=>?_⟩
 show wpAny _ A (load s.heap.objs.size>>=_) _ _ s';refine UA (Yq hn ?_);refine wpAny_pure (dZ s' uU ⟨λb bx e=>hm.heap b bx (λaf=>?_) (xU b bx (UZ (UK e)) (sv▸UD _ (f5▸UD _ e))),hm.gens,hm.drawn,hm.os⟩ gR)
 have sJ:=UK e;rcases UI.mp af with h|h
 .rw[h]at sJ;exact VT _ sJ
 .rw[Vi.mp h,wK]at sJ;exact absurd sJ (Nat.not_lt.mpr (Nat.le_succ _))
end
end Pv
end
section
namespace Tm
open PySem PyProof.Rows
noncomputable def gQ:Bool->Keyed->Array Keyed->Nat->Nat->Nat->StateT SortSt Sem (Option Nat):=sortPriv% PySem.Builtin.gallop
noncomputable def Gp(left:Bool)(key x:Keyed):StateT SortSt Sem (Option Bool):=if left then lt' x key else do return (<- lt' key x).map (!·)
noncomputable def jn(left:Bool)(key:Keyed)(arr:Array Keyed)(j:Nat):StateT SortSt Sem (Option Bool):=do
 let x <- elem' arr j
 Gp left key x
def JX(left:Bool)(key:Keyed)(arr:Array Keyed)(b n h:Nat):gQ left key arr b n h=(do
 let mut u:=0
 let mut v:=1
 let mut lo:=0
 let mut hi:=0
 let some r <- jn left key arr (b+h)|return none
 if r then
  let q0:=n-h
  for _ in [0:n] do
   if v>=q0 then break
   let some q <- jn left key arr (b+(h+v))|return none
   if !q then break
   u:=v
   v:=2*v+1
  lo:=h+u+1
  hi:=h+min v q0
 else
  let q0:=h+1
  for _ in [0:n] do
   if v>=q0 then break
   let some q <- jn left key arr (b+(h-v))|return none
   if q then break
   u:=v
   v:=2*v+1
  lo:=h+1-min v q0
  hi:=h-u
 for _ in [0:n] do
  if lo>=hi then break
  let m:=lo+(hi-lo) / 2
  let some q <- jn left key arr (b+m)|return none
  if q then lo:=m+1 else hi:=m
 return some hi):=rfl
end Tm
end
section
namespace Tm
open PySem PyProof.Rows
noncomputable def bs(left:Bool)(key:Keyed)(arr:Array Keyed)(b n lo hi:Nat):StateT SortSt Sem (Option Nat):=do
 let mut lo:=lo
 let mut hi:=hi
 for _ in [0:n] do
  if lo>=hi then break
  let m:=lo+(hi-lo) / 2
  let some q <- jn left key arr (b+m)|return none
  if q then lo:=m+1 else hi:=m
 return some hi
section
variable{M:Model}{A:Around}{E:Value->Shared->Prop}{s:Shared}{left:Bool}{key:Keyed}{arr:Array Keyed}{b n h:Nat}{p:Nat->Bool}{st:SortSt}{Q:Option Nat->SortSt->Prop}
def zw (aC : ∀ j, j < n -> ∀ Q : Option Bool -> SortSt -> Prop, Q (some (p j)) st -> wpS M A E s (jn left key arr (b + j)) Q st) (mono : ∀ i j, i <= j -> j < n -> p j = true -> p i = true)
    (aE : ∀ k, k <= n -> (∀ i, i < k -> p i = true) -> (∀ i, k <= i -> i < n -> p i = false) -> Q (some k) st) {lo hi : Nat} (J : lo <= hi) (aa : hi <= n) (aw : ∀ i, i < lo -> p i = true) (aZ : ∀ i, hi <= i -> i < n -> p i = false) : wpS M A E s (bs left key arr b n lo hi) Q st := by
  unfold bs
  refine UG (V2 (Vx (I := fun x (c : Option (Option Nat) × Nat × Nat) aG => aG = st /\ c.1 = none /\ c.2.1 <= c.2.2 /\ c.2.2 <= n /\ (∀ i, i < c.2.1 -> p i = true) /\ (∀ i, c.2.2 <= i -> i < n -> p i = false) /\ c.2.2 - c.2.1 + x <= n)
    (Q := fun (c : Option (Option Nat) × Nat × Nat) aG => aG = st /\ c.1 = none /\ c.2.2 <= n /\ (∀ i, i < c.2.2 -> p i = true) /\ ∀ i, c.2.2 <= i -> i < n -> p i = false) ?step ?fin ⟨rfl, rfl, J, aa, aw, aZ, by show hi - lo + 0 <= n; omega⟩) ?post)
  case step =>
    rintro x ⟨o, lo, hi⟩ aG _ ah ⟨rfl, rfl, k1, k2, bl, b0, jK⟩
    dsimp only at k1 k2 bl b0 jK ⊢
    by_cases c : lo >= hi
    · rw [if_pos c]
      have e : lo = hi := by omega
      subst e
      exact UO ⟨rfl, rfl, k2, bl, b0⟩
    · rw [if_neg c]
      have hm : lo + (hi - lo) / 2 < hi := by omega
      refine UG (aC _ (by omega) _ ?_)
      dsimp only
      cases e : p (lo + (hi - lo) / 2) with
      | true =>
        rw [if_pos rfl]
        refine UO ⟨rfl, rfl, by dsimp only; omega, k2, fun i fs => ?_, b0, by dsimp only; omega⟩
        exact mono i _ (by dsimp only at fs; omega) (by omega) e
      | false =>
        rw [if_neg (by simp)]
        refine UO ⟨rfl, rfl, by dsimp only; omega, by dsimp only; omega, bl, fun i fs eF => ?_, by dsimp only; omega⟩
        cases q : p i with
        | false => rfl
        | true => rw [mono _ i fs eF q] at e; cases e
  case fin =>
    rintro ⟨o, lo, hi⟩ aG ⟨rfl, rfl, k1, k2, bl, b0, jK⟩
    dsimp only at k1 k2 bl b0 jK ⊢
    have e : lo = hi := by rw [Vm (UH n)] at jK; omega
    subst e
    exact ⟨rfl, rfl, k2, bl, b0⟩
  case post =>
    rintro ⟨o, lo, hi⟩ aG ⟨rfl, rfl, k2, bl, b0⟩
    exact UO (aE hi k2 bl b0)
def AV (aC : ∀ j, j < n -> ∀ Q : Option Bool -> SortSt -> Prop, Q (some (p j)) st -> wpS M A E s (jn left key arr (b + j)) Q st)
    (b5 : h < n) (mono : ∀ i j, i <= j -> j < n -> p j = true -> p i = true) (aE : ∀ k, k <= n -> (∀ i, i < k -> p i = true) -> (∀ i, k <= i -> i < n -> p i = false) -> Q (some k) st) : wpS M A E s (gQ left key arr b n h) Q st := by
  have zh : ∀ i j, i <= j -> j < n -> p i = false -> p j = false := fun i j qB aH hi => by
    cases q : p j with
    | false => rfl
    | true => rw [mono i j qB aH q] at hi; cases hi
  rw [JX]
  refine UG (aC h b5 _ ?_)
  cases e : p h with
  | true =>
    dsimp only
    rw [if_pos rfl]
    refine UG (V2 (Vx (I := fun x (c : Option (Option Nat) × Nat × Nat) aG => aG = st /\ c.1 = none /\ c.2.1 < c.2.2 /\ h + c.2.1 < n /\ p (h + c.2.1) = true /\ x + 1 <= c.2.2)
      (Q := fun (c : Option (Option Nat) × Nat × Nat) aG => aG = st /\ c.1 = none /\ c.2.1 < c.2.2 /\ h + c.2.1 < n /\ p (h + c.2.1) = true /\ (n - h <= c.2.2 \/ p (h + c.2.2) = false)) ?step ?fin ⟨rfl, rfl, Nat.zero_lt_one, b5, e, UE _⟩) ?post)
    case step =>
      rintro x ⟨o, u, v⟩ aG _ ah ⟨rfl, rfl, k1, k2, bl, b0⟩
      dsimp only at k1 k2 bl b0 ⊢
      by_cases c : v >= n - h
      · rw [if_pos c]; exact UO ⟨rfl, rfl, k1, k2, bl, .inl c⟩
      · rw [if_neg c]
        refine UG (aC _ (by omega) _ ?_)
        dsimp only
        cases bf : p (h + v) with
        | true => rw [if_neg (by simp)]; exact UO ⟨rfl, rfl, by dsimp only; omega, by dsimp only; omega, bf, by dsimp only; omega⟩
        | false => rw [if_pos (by simp)]; exact UO ⟨rfl, rfl, k1, k2, bl, .inr bf⟩
    case fin =>
      rintro ⟨o, u, v⟩ aG ⟨rfl, rfl, k1, k2, bl, b0⟩
      rw [Vm (UH n)] at b0
      exact ⟨rfl, rfl, k1, k2, bl, .inl (by dsimp only at b0 ⊢; omega)⟩
    case post =>
      rintro ⟨o, u, v⟩ aG ⟨rfl, rfl, k1, k2, bl, b0⟩
      dsimp only at k1 k2 bl b0 ⊢
      refine zw (p := p) aC mono aE (lo := h + u + 1) (hi := h + min v (n - h)) (by omega) (by omega) (fun i hi => mono i _ (by omega) k2 bl) fun i hi eF => ?_
      rcases b0 with b0 | b0
      · omega
      · by_cases c : v <= n - h
        · exact zh _ i (by omega) eF b0
        · omega
  | false =>
    dsimp only
    rw [if_neg (by simp)]
    refine UG (V2 (Vx (I := fun x (c : Option (Option Nat) × Nat × Nat) aG => aG = st /\ c.1 = none /\ c.2.1 < c.2.2 /\ c.2.1 <= h /\ p (h - c.2.1) = false /\ x + 1 <= c.2.2)
      (Q := fun (c : Option (Option Nat) × Nat × Nat) aG => aG = st /\ c.1 = none /\ c.2.1 < c.2.2 /\ c.2.1 <= h /\ p (h - c.2.1) = false /\ (h + 1 <= c.2.2 \/ p (h - c.2.2) = true)) ?step ?fin ⟨rfl, rfl, Nat.zero_lt_one, UH _, e, UE _⟩) ?post)
    case step =>
      rintro x ⟨o, u, v⟩ aG _ ah ⟨rfl, rfl, k1, k2, bl, b0⟩
      dsimp only at k1 k2 bl b0 ⊢
      by_cases c : v >= h + 1
      · rw [if_pos c]; exact UO ⟨rfl, rfl, k1, k2, bl, .inl c⟩
      · rw [if_neg c]
        refine UG (aC _ (by omega) _ ?_)
        dsimp only
        cases bf : p (h - v) with
        | true => rw [if_pos rfl]; exact UO ⟨rfl, rfl, k1, k2, bl, .inr bf⟩
        | false => rw [if_neg (by simp)]; exact UO ⟨rfl, rfl, by dsimp only; omega, by dsimp only; omega, bf, by dsimp only; omega⟩
    case fin =>
      rintro ⟨o, u, v⟩ aG ⟨rfl, rfl, k1, k2, bl, b0⟩
      rw [Vm (UH n)] at b0
      exact ⟨rfl, rfl, k1, k2, bl, .inl (by dsimp only at b0 ⊢; omega)⟩
    case post =>
      rintro ⟨o, u, v⟩ aG ⟨rfl, rfl, k1, k2, bl, b0⟩
      dsimp only at k1 k2 bl b0 ⊢
      refine zw (p := p) aC mono aE (lo := h + 1 - min v (h + 1)) (hi := h - u) (by omega) (by omega) (fun i hi => ?_) fun i hi eF => zh _ i hi eF bl
      rcases b0 with b0 | b0
      · omega
      · by_cases c : v <= h + 1
        · exact mono i _ (by omega) (by omega) b0
        · omega
end
end Tm
end
section
namespace Tm
open PySem PyProof.Rows
noncomputable def tm:Array Keyed->Array Keyed->StateT SortSt Sem (Array Keyed):=sortPriv% PySem.Builtin.mergeLo
noncomputable abbrev setG(st:SortSt)(g:Nat):SortSt:=SortSt.mk' (kindOf st) (arrOf st) (pendingOf st) g (failedOf st)
def Nx (a b : Array Keyed) : tm a b = (do
  rule "list.sort.merge-lo"
  let nW := a.size + b.size
  let fin (r : Array Keyed) (i j : Nat) := r ++ a.extract i a.size ++ b.extract j b.size
  let fla (r : Array Keyed) (i j : Nat) := r ++ b.extract j b.size ++ a.extract i a.size
  let mut r : Array Keyed := #[<- elem' b 0]
  let mut i := 0
  let mut j := 1
  if j == b.size then return fin r i j
  if i + 1 == a.size then return fla r i j
  let mut aF := gallopOf (<- get)
  for _ in [0:nW] do
    let mut ca := 0
    let mut b6 := 0
    for _ in [0:nW] do
      let some w <- lt' (<- elem' b j) (<- elem' a i) | return fin r i j
      if w then
        r := r.push (<- elem' b j); j := j + 1; b6 := b6 + 1; ca := 0
        if j == b.size then return fin r i j
        if b6 >= aF then break
      else
        r := r.push (<- elem' a i); i := i + 1; ca := ca + 1; b6 := 0
        if i + 1 == a.size then return fla r i j
        if ca >= aF then break
    rule "list.sort.gallop"
    aF := aF + 1
    for _ in [0:nW] do
      if aF > 1 then aF := aF - 1
      modify fun s => setG s aF
      let some k <- gQ false (<- elem' b j) a i (a.size - i) 0 | return fin r i j
      ca := k
      if k > 0 then
        r := r ++ a.extract i (i + k); i := i + k
        if i + 1 == a.size then return fla r i j
        if i == a.size then return fin r i j
      r := r.push (<- elem' b j); j := j + 1
      if j == b.size then return fin r i j
      let some k <- gQ true (<- elem' a i) b j (b.size - j) 0 | return fin r i j
      b6 := k
      if k > 0 then
        r := r ++ b.extract j (j + k); j := j + k
        if j == b.size then return fin r i j
      r := r.push (<- elem' a i); i := i + 1
      if i + 1 == a.size then return fla r i j
      if ca < 7 && b6 < 7 then break
    aF := aF + 1
    modify fun s => setG s aF
  unsupported "internal:list.sort.merge-bound") := rfl
structure et(M:Model)(A:Around)(E:Value->Shared->Prop)(s:Shared)(κ:SortKind)(S:Keyed->Prop)(lt:Keyed->Keyed->Bool):Prop where
 ask:∀(x y:Keyed)(st:SortSt)(Q:Option Bool->SortSt->Prop),S x->S y->kindOf st=κ->Q (some (lt x y)) st->wpS M A E s (lt' x y) Q st
 ha:∀x y,S x->S y->lt x y=true->lt y x=false
 dQ:∀x y z,S x->S y->S z->lt y x=false->lt z y=false->lt z x=false
noncomputable abbrev le(lt:Keyed->Keyed->Bool)(x y:Keyed):Prop:=lt y x=false
noncomputable def bV(st aG:SortSt):Prop:=kindOf aG=kindOf st/\arrOf aG=arrOf st/\pendingOf aG=pendingOf st/\failedOf aG=failedOf st
def bV.refl(st:SortSt):bV st st:=⟨rfl,rfl,rfl,rfl⟩
def bV.set{st aG:SortSt}(h:bV st aG)(g:Nat):bV st (setG aG g):=h
section
variable{M:Model}{A:Around}{E:Value->Shared->Prop}{s:Shared}{κ:SortKind}{S:Keyed->Prop}{lt:Keyed->Keyed->Bool}{a b:Array Keyed}{st aG:SortSt}
def eW{i:Nat}{Q:Keyed->SortSt->Prop}(h:i<a.size)(q:Q a[i] st):wpS M A E s (elem' a i) Q st:=by
 rw[elem'_eq,UL h];exact UO q
def GA(O:et M A E s κ S lt)(aq:kindOf st=κ){key:Keyed}{j:Nat}(h:j<a.size)(ae:S key)(az:S a[j]){Q:Option Bool->SortSt->Prop}(q:Q (some (!lt key a[j])) st):wpS M A E s (jn false key a j) Q st:=by
 unfold jn;refine UG (eW h ?_);show wpS M A E s (do return (<- lt' key a[j]).map (!·)) Q st
 exact UG (O.ask _ _ _ _ ae az aq (UO q))
def GB(O:et M A E s κ S lt)(aq:kindOf st=κ){key:Keyed}{j:Nat}(h:j<a.size)(ae:S key)(az:S a[j]){Q:Option Bool->SortSt->Prop}(q:Q (some (lt a[j] key)) st):wpS M A E s (jn true key a j) Q st:=by
 unfold jn;refine UG (eW h ?_);show wpS M A E s (lt' a[j] key) Q st;exact O.ask _ _ _ _ az ae aq q
noncomputable def iG(lt:Keyed->Keyed->Bool)(a:Array Keyed)(i n:Nat):Prop:=∀x y (ah:x<a.size) (aA:y<a.size),i<=x->x<=y->y<i+n->le lt a[x] a[y]
def wx(O:et M A E s κ S lt)(aq:kindOf st=κ){key:Keyed}{i n h:Nat}{Q:Option Nat->SortSt->Prop}(aX:∀x (ah:x<a.size),S a[x])(ae:S key)(aD:i+n<=a.size)(b5:h<n)(xg:iG lt a i n)(aE:∀k,k<=n->(∀x (ah:x<a.size),i<=x->x<i+k->le lt a[x] key)->(∀x (ah:x<a.size),i+k<=x->x<i+n->lt key a[x]=true)->Q (some k) st):wpS M A E s (gQ false key a i n h) Q st:=by
 refine AV (p:=λx=>!lt key (a.getD (i+x) key)) (λj aH Q q=>?_) b5 (λx y gb aA q=>?_) λk aq J aa=>?_
 .have ft:i+j<a.size:=by omega
  refine GA O aq ft ae (aX _ ft) ?_;simp only[Array.getD,ft,XT]at q;exact q
 .have ny:i+x<a.size:=by omega
  have nz:i+y<a.size:=by omega
  simp only[Array.getD,ny,nz,XT,Vg,VF]at q ⊢;exact O.dQ _ _ _ (aX _ ny) (aX _ nz) ae (xg _ _ ny nz (by omega) (by omega) (by omega)) q
 .refine aE k aq (λx ah b7 dt=>?_) λx ah b7 dt=>?_
  .have:=J (x-i) (by omega)
   have e:i+(x-i)=x:=by omega
   simp only[e,Array.getD,ah,XT,Vg,VF]at this;exact this
  .have:=aa (x-i) (by omega) (by omega)
   have e:i+(x-i)=x:=by omega
   simp only[e,Array.getD,ah,XT,Yu,VF]at this;exact this
def wy(O:et M A E s κ S lt)(aq:kindOf st=κ){key:Keyed}{i n h:Nat}{Q:Option Nat->SortSt->Prop}(aX:∀x (ah:x<a.size),S a[x])(ae:S key)(aD:i+n<=a.size)(b5:h<n)(xg:iG lt a i n)(aE:∀k,k<=n->(∀x (ah:x<a.size),i<=x->x<i+k->lt a[x] key=true)->(∀x (ah:x<a.size),i+k<=x->x<i+n->le lt key a[x])->Q (some k) st):wpS M A E s (gQ true key a i n h) Q st:=by
 refine AV (p:=λx=>lt (a.getD (i+x) key) key) (λj aH Q q=>?_) b5 (λx y gb aA q=>?_) λk aq J aa=>?_
 .have ft:i+j<a.size:=by omega
  refine GB O aq ft ae (aX _ ft) ?_;simp only[Array.getD,ft,XT]at q;exact q
 .have ny:i+x<a.size:=by omega
  have nz:i+y<a.size:=by omega
  simp only[Array.getD,ny,nz,XT,VF]at q ⊢;cases e:lt a[i+x] key with
  |true=>rfl
  |false=>rw[O.dQ _ _ _ ae (aX _ ny) (aX _ nz) e (xg _ _ ny nz (by omega) (by omega) (by omega))]at q;cases q
 .refine aE k aq (λx ah b7 dt=>?_) λx ah b7 dt=>?_
  .have:=J (x-i) (by omega)
   have e:i+(x-i)=x:=by omega
   simp only[e,Array.getD,ah,XT,VF]at this;exact this
  .have:=aa (x-i) (by omega) (by omega)
   have e:i+(x-i)=x:=by omega
   simp only[e,Array.getD,ah,XT,VF]at this;exact this
end
end Tm
end
section
namespace Tm
open PySem PyProof.Rows
structure dD(lt:Keyed->Keyed->Bool)(a b r:List Keyed)(i j:Nat):Prop where
 perm:(r++(a.drop i++b.drop j)).Perm (a++b)
 bW:(r++a.drop i).Pairwise (le lt)
 cS:(r++b.drop j).Pairwise (le lt)
noncomputable def eM(lt:Keyed->Keyed->Bool)(a b r:List Keyed):Prop:=r.Perm (a++b)/\r.Pairwise (le lt)
section
variable{lt:Keyed->Keyed->Bool}{a b r:List Keyed}{i j k:Nat}
def dD.ru(h:dD lt a b r i j)(k:Nat)(aw:∀x∈(a.drop i).take k,∀y∈b.drop j,le lt x y):dD lt a b (r++(a.drop i).take k) (i+k) j:=by
 have e:a.drop i=(a.drop i).take k++a.drop (i+k):=by rw[<- List.drop_drop,VI]
 refine⟨?_,?_,?_⟩
 .rw[UN,<- UN ((a.drop i).take k),<- e];exact h.perm
 .rw[UN,<- e];exact h.bW
 .have af:=US.mp h.cS;have az:=US.mp h.bW;rw[e]at az;have wO:=US.mp az.2.1;rw[UN];refine US.mpr ⟨af.1,US.mpr ⟨wO.1,af.2.1,aw⟩,λx ah y aA=>?_⟩
  rcases UY.mp aA with aA|aA
  .exact az.2.2 x ah y (VA _ aA)
  .exact af.2.2 x ah y aA
def dD.rv(h:dD lt a b r i j)(k:Nat)(aw:∀x∈(b.drop j).take k,∀y∈a.drop i,le lt x y):dD lt a b (r++(b.drop j).take k) i (j+k):=by
 have e:b.drop j=(b.drop j).take k++b.drop (j+k):=by rw[<- List.drop_drop,VI]
 refine⟨?_,?_,?_⟩
 .have bc:(r++(b.drop j).take k++(a.drop i++b.drop (j+k))).Perm (r++(a.drop i++b.drop j)):=by
   rw[UN];refine Wo r ?_;rw[<- UN]
   conv=>rhs;rw[e,<- UN]
   exact WI _ WN
  exact bc.trans h.perm
 .have az:=US.mp h.bW;have af:=US.mp h.cS;rw[e]at af;have jA:=US.mp af.2.1;rw[UN];refine US.mpr ⟨az.1,US.mpr ⟨jA.1,az.2.1,aw⟩,λx ah y aA=>?_⟩
  rcases UY.mp aA with aA|aA
  .exact af.2.2 x ah y (VA _ aA)
  .exact az.2.2 x ah y aA
 .rw[UN,<- e];exact h.cS
def dD.wa(h:dD lt a b r i b.length):eM lt a b (r++a.drop i):=by
 have:=h.perm;rw[Xm,VD]at this;exact⟨this,h.bW⟩
def dD.wb(h:dD lt a b r a.length j):eM lt a b (r++b.drop j):=by
 have:=h.perm;rw[Xm,List.nil_append]at this;exact⟨this,h.cS⟩
def dD.last(h:dD lt a b r i j)(hi:i+1=a.length)(aw:∀y∈b,∀x,a[a.length-1]?=some x->le lt y x):eM lt a b (r++b.drop j++a.drop i):=by
 have e:∃x,a.drop i=[x]/\a[a.length-1]?=some x:=by
  have fs:i<a.length:=by omega
  refine⟨a[i],?_,?_⟩
  .rw[Vr fs,WJ (by omega)]
  .rw[show a.length-1=i by omega];exact UJ fs
 obtain⟨x,e,ex⟩:=e;have az:=US.mp h.bW;have af:=US.mp h.cS;refine⟨?_,?_⟩
 .refine List.Perm.trans ?_ h.perm;rw[UN];exact Wo r WN
 .refine US.mpr ⟨h.cS,by rw[e];simp,λz au y aA=>?_⟩
  rw[e]at aA;have:y=x:=by simpa using aA
  subst this;rcases UY.mp au with au|au
  .exact az.2.2 z au y (by rw[e];simp)
  .exact aw z (List.mem_of_mem_drop au) y ex
end
end Tm
end
section
namespace Tm
open PySem PyProof.Rows
def Au(a:Array Keyed)(i k:Nat):(a.extract i (i+k)).toList=(a.toList.drop i).take k:=by
 rw[Xt,List.extract_eq_drop_take,Nat.add_sub_cancel_left]
def oy(a:Array Keyed)(i:Nat):(a.extract i a.size).toList=a.toList.drop i:=by
 rw[Xt,List.extract_eq_drop_take,<- Array.length_toList,VC (by rw[Vz];exact UE _)]
def CJ{l:List Keyed}{i k:Nat}{x:Keyed}(h:x∈(l.drop i).take k):∃n,∃(aD:n<l.length),i<=n/\n<i+k/\x=l[n]:=by
 obtain⟨n,aD,rfl⟩:=VZ.mp h;rw[Vl,Vz]at aD;exact⟨i+n,by omega,by omega,by omega,by rw[Wv,WQ]⟩
def qW{l:List Keyed}{i:Nat}{x:Keyed}(h:x∈l.drop i):∃n,∃(aD:n<l.length),i<=n/\x=l[n]:=by
 obtain⟨n,aD,rfl⟩:=VZ.mp h;rw[Vz]at aD;exact⟨i+n,by omega,by omega,by rw[WQ]⟩
def take1{l:List Keyed}{i:Nat}(h:i<l.length):(l.drop i).take 1=[l[i]]:=by
 rw[Vr h];rfl
noncomputable abbrev mL(a b r:Array Keyed)(i j:Nat):Array Keyed:=r++a.extract i a.size++b.extract j b.size
noncomputable abbrev fh(a b r:Array Keyed)(i j:Nat):Array Keyed:=r++b.extract j b.size++a.extract i a.size
noncomputable abbrev TT:Type:=Option (Array Keyed)×Array Keyed×Nat×Nat×Nat×Nat×Nat
noncomputable def d2(a b r:Array Keyed)(i j aF ca b6:Nat):StateT SortSt Sem (ForInStep TT):=do
 let x <- elem' a i
 if i+1+1==a.size then pure (.done (some (fh a b (r.push x) (i+1) j),r.push x,i+1,j,aF,ca,b6))
 else if ca<7&&b6<7 then pure (.done (none,r.push x,i+1,j,aF,ca,b6)) else pure (.yield (none,r.push x,i+1,j,aF,ca,b6))
noncomputable def bC(a b r:Array Keyed)(i j aF ca b6:Nat):StateT SortSt Sem (ForInStep TT):=do
 let y <- elem' b j
 if j+1==b.size then pure (.done (some (mL a b (r.push y) i (j+1)),r.push y,i,j+1,aF,ca,b6))
 else do
  let x <- elem' a i
  let q <- gQ true x b (j+1) (b.size-(j+1)) 0
  match q with
  |some k =>
   if k>0 then
    if j+1+k==b.size then pure (.done (some (mL a b (r.push y++b.extract (j+1) (j+1+k)) i (j+1+k)),r.push y++b.extract (j+1) (j+1+k),i,j+1+k,aF,ca,k))
    else d2 a b (r.push y++b.extract (j+1) (j+1+k)) i (j+1+k) aF ca k
   else d2 a b (r.push y) i (j+1) aF ca k
  |_=>pure (.done (some (mL a b (r.push y) i (j+1)),r.push y,i,j+1,aF,ca,b6))
noncomputable def bc(a b r:Array Keyed)(i j aF ca b6:Nat):StateT SortSt Sem (ForInStep TT):=do
 modify λs=>setG s aF
 let y <- elem' b j
 let q <- gQ false y a i (a.size-i) 0
 match q with
 |some k =>
  if k>0 then
   if i+k+1==a.size then pure (.done (some (fh a b (r++a.extract i (i+k)) (i+k) j),r++a.extract i (i+k),i+k,j,aF,k,b6))
   else if i+k==a.size then pure (.done (some (mL a b (r++a.extract i (i+k)) (i+k) j),r++a.extract i (i+k),i+k,j,aF,k,b6))
   else bC a b (r++a.extract i (i+k)) (i+k) j aF k b6
  else bC a b r i j aF k b6
 |_=>pure (.done (some (mL a b r i j),r,i,j,aF,ca,b6))
section
variable{M:Model}{A:Around}{E:Value->Shared->Prop}{s:Shared}{κ:SortKind}{S:Keyed->Prop}{lt:Keyed->Keyed->Bool}{a b r:Array Keyed}{st0 st:SortSt}{i j aF ca b6 N:Nat}
structure Pre(S:Keyed->Prop)(lt:Keyed->Keyed->Bool)(a b:Array Keyed):Prop where
 dO:∀x (ah:x<a.size),S a[x]
 cv:∀x (ah:x<b.size),S b[x]
 fD:iG lt a 0 a.size
 bx:iG lt b 0 b.size
 last:∀y∈b.toList,∀x,a.toList[a.toList.length-1]?=some x->le lt y x
noncomputable def gG(lt:Keyed->Keyed->Bool)(a b:Array Keyed)(N:Nat)(r:Array Keyed)(i j:Nat):Prop:=dD lt a.toList b.toList r.toList i j/\i+1<a.size/\j<b.size/\r.size=i+j/\N<=r.size
noncomputable def dV(lt:Keyed->Keyed->Bool)(a b:Array Keyed)(N:Nat)(t:TT):Prop:=match t.1 with
 |some res=>eM lt a.toList b.toList res.toList
 |none=>gG lt a b N t.2.1 t.2.2.1 t.2.2.2.1
noncomputable def rN(lt:Keyed->Keyed->Bool)(a b:Array Keyed)(N:Nat)(st0:SortSt)(f:ForInStep TT)(st:SortSt):Prop:=bV st0 st/\match f with
 |.done t=>dV lt a b N t
 |.yield t=>t.1=none/\dV lt a b N t
def si(P:Pre S lt a b)(h:dD lt a.toList b.toList r.toList i j)(hi:i+1=a.size):eM lt a.toList b.toList (fh a b r i j).toList:=by
 show eM _ _ _ (r++b.extract j b.size++a.extract i a.size).toList;rw[U3,U3,oy,oy];exact h.last (by rw[Array.length_toList];exact hi) P.last
def sg(h:dD lt a.toList b.toList r.toList i j)(aH:j=b.size):eM lt a.toList b.toList (mL a b r i j).toList:=by
 show eM _ _ _ (r++a.extract i a.size++b.extract j b.size).toList;subst aH;have e:b.toList.drop b.size=[]:=WJ (by rw[Array.length_toList];exact UE _)
 rw[U3,U3,oy,oy,e,VD];exact dD.wa (by rw[Array.length_toList];exact h)
def JD(h:dD lt a.toList b.toList r.toList i j)(hi:i=a.size):eM lt a.toList b.toList (mL a b r i j).toList:=by
 show eM _ _ _ (r++a.extract i a.size++b.extract j b.size).toList;subst hi;have e:a.toList.drop a.size=[]:=WJ (by rw[Array.length_toList];exact UE _)
 rw[U3,U3,oy,oy,e,VD];exact dD.wb (by rw[Array.length_toList];exact h)
def dD.pa(h:dD lt a.toList b.toList r.toList i j)(hi:i<a.size)(aw:∀y (aA:y<b.size),j<=y->le lt a[i] b[y]):dD lt a.toList b.toList (r.push a[i]).toList (i+1) j:=by
 have fs:i<a.toList.length:=by rw[Array.length_toList];exact hi
 have:=h.ru 1 (λx ah y aA=>by
  rw[take1 fs]at ah;obtain rfl:x=a.toList[i]:=by simpa using ah
  obtain⟨n,aD,b7,rfl⟩:=qW aA;exact aw n (by rw[Array.length_toList]at aD;exact aD) b7)
 rw[take1 fs]at this;rw[WO];exact this
def dD.pb(h:dD lt a.toList b.toList r.toList i j)(aH:j<b.size)(aw:∀y (aA:y<a.size),i<=y->le lt b[j] a[y]):dD lt a.toList b.toList (r.push b[j]).toList i (j+1):=by
 have ft:j<b.toList.length:=by rw[Array.length_toList];exact aH
 have:=h.rv 1 (λx ah y aA=>by
  rw[take1 ft]at ah;obtain rfl:x=b.toList[j]:=by simpa using ah
  obtain⟨n,aD,b7,rfl⟩:=qW aA;exact aw n (by rw[Array.length_toList]at aD;exact aD) b7)
 rw[take1 ft]at this;rw[WO];exact this
def dD.vZ{k:Nat}(h:dD lt a.toList b.toList r.toList i j)(aw:∀x (ah:x<a.size) y (aA:y<b.size),i<=x->x<i+k->j<=y->le lt a[x] b[y]):dD lt a.toList b.toList (r++a.extract i (i+k)).toList (i+k) j:=by
 rw[U3,Au];refine h.ru k λx ah y aA=>?_
 obtain⟨n,aD,b7,dt,rfl⟩:=CJ ah;obtain⟨m,hm,fv,rfl⟩:=qW aA;rw[Array.length_toList]at aD hm;exact aw n aD m hm b7 dt fv
def dD.v3{k:Nat}(h:dD lt a.toList b.toList r.toList i j)(aw:∀x (ah:x<b.size) y (aA:y<a.size),j<=x->x<j+k->i<=y->le lt b[x] a[y]):dD lt a.toList b.toList (r++b.extract j (j+k)).toList i (j+k):=by
 rw[U3,Au];refine h.rv k λx ah y aA=>?_
 obtain⟨n,aD,b7,dt,rfl⟩:=CJ ah;obtain⟨m,hm,fv,rfl⟩:=qW aA;rw[Array.length_toList]at aD hm;exact aw n aD m hm b7 dt fv
def C9(P:Pre S lt a b)(g:bV st0 st)(h:dD lt a.toList b.toList r.toList i j)(hi:i+1<a.size)(aH:j<b.size)(aZ:r.size=i+j)(bj:N<=r.size+1)(aw:∀y (aA:y<b.size),j<=y->le lt a[i] b[y]):
  wpS M A E s (d2 a b r i j aF ca b6) (rN lt a b N st0) st:=by
 unfold d2;have eX:i<a.size:=by omega
 refine UG (eW eX ?_);have h':=h.pa eX aw
 split
 .rename_i c;have c:i+1+1=a.size:=by simpa using c
  exact UO ⟨g,si P h' c⟩
 .rename_i c;have c:¬i+1+1=a.size:=by simpa using c
  have cc:gG lt a b N (r.push a[i]) (i+1) j:=⟨h',by omega,aH,by rw[U5];omega,by rw[U5];exact bj⟩
  split
  .exact UO ⟨g,cc⟩
  .exact UO ⟨g,rfl,cc⟩
def C7 (O : et M A E s κ S lt) (fT : kindOf st0 = κ) (P : Pre S lt a b) (g : bV st0 st) (h : dD lt a.toList b.toList r.toList i j) (hi : i + 1 < a.size) (aH : j < b.size) (aZ : r.size = i + j) (bj : N <= r.size + 2) (aw : ∀ y (aA : y < a.size), i <= y -> le lt b[j] a[y]) :
    wpS M A E s (bC a b r i j aF ca b6) (rN lt a b N st0) st := by
  unfold bC
  have eX : i < a.size := by omega
  refine UG (eW aH ?_)
  have h' := h.pb aH aw
  split
  · rename_i c
    have c : j + 1 = b.size := by simpa using c
    exact UO ⟨g, sg h' c⟩
  · rename_i c
    have c : ¬ j + 1 = b.size := by simpa using c
    refine UG (eW eX ?_)
    refine UG (wy O (g.1.trans fT) P.cv (P.dO _ eX) (by omega) (by omega) (fun x y ah aA b7 dt fv => P.bx x y ah aA (UH _) dt (by omega)) fun k aq f1 f2 => ?_)
    dsimp only
    have aa : dD lt a.toList b.toList (r.push b[j] ++ b.extract (j + 1) (j + 1 + k)).toList i (j + 1 + k) := h'.v3 fun x ah y aA b7 dt fv =>
      O.dQ _ _ _ (P.cv _ ah) (P.dO _ eX) (P.dO _ aA) (O.ha _ _ (P.cv _ ah) (P.dO _ eX) (f1 x ah b7 dt)) (P.fD i y eX aA (UH _) fv (by omega))
    have d3 : (r.push b[j] ++ b.extract (j + 1) (j + 1 + k)).size = i + (j + 1 + k) := by
      rw [Wb, U5, Vh]; omega
    split
    · split
      · rename_i bo
        have bo : j + 1 + k = b.size := by simpa using bo
        exact UO ⟨g, sg aa bo⟩
      · rename_i bo
        have bo : ¬ j + 1 + k = b.size := by simpa using bo
        exact C9 P g aa hi (by omega) d3 (by rw [d3]; omega) fun y aA b7 => f2 y aA b7 (by omega)
    · have s8 : k = 0 := by omega
      subst s8
      exact C9 P g h' hi (by omega) (by rw [U5]; omega) (by rw [U5]; omega) fun y aA b7 => f2 y aA b7 (by omega)
def Od (O : et M A E s κ S lt) (fT : kindOf st0 = κ) (P : Pre S lt a b) (g : bV st0 st) (h : dD lt a.toList b.toList r.toList i j) (hi : i + 1 < a.size) (aH : j < b.size) (aZ : r.size = i + j) (bj : N <= r.size + 2) :
    wpS M A E s (bc a b r i j aF ca b6) (rN lt a b N st0) st := by
  unfold bc
  refine UG (VX ?_)
  have g := g.set aF
  refine UG (eW aH ?_)
  refine UG (wx O (g.1.trans fT) P.dO (P.cv _ aH) (by omega) (by omega) (fun x y ah aA b7 dt fv => P.fD x y ah aA (UH _) dt (by omega)) fun k aq f1 f2 => ?_)
  dsimp only
  have aa : dD lt a.toList b.toList (r ++ a.extract i (i + k)).toList (i + k) j := h.vZ fun x ah y aA b7 dt fv =>
    O.dQ _ _ _ (P.dO _ ah) (P.cv _ aH) (P.cv _ aA) (f1 x ah b7 dt) (P.bx j y aH aA (UH _) fv (by omega))
  have d3 : (r ++ a.extract i (i + k)).size = i + k + j := by
    rw [Wb, Vh]; omega
  have rest : ∀ y (aA : y < a.size), i + k <= y -> le lt b[j] a[y] := fun y aA b7 => O.ha _ _ (P.cv _ aH) (P.dO _ aA) (f2 y aA b7 (by omega))
  split
  · split
    · rename_i c
      have c : i + k + 1 = a.size := by simpa using c
      exact UO ⟨g, si P aa c⟩
    · rename_i c
      have c : ¬ i + k + 1 = a.size := by simpa using c
      split
      · rename_i bo
        have bo : i + k = a.size := by simpa using bo
        exact UO ⟨g, JD aa bo⟩
      · rename_i bo
        have bo : ¬ i + k = a.size := by simpa using bo
        exact C7 O fT P g aa (by omega) aH d3 (by rw [d3]; omega) rest
  · have s8 : k = 0 := by omega
    subst s8
    exact C7 O fT P g h hi aH aZ bj rest
end
end Tm
end
section
namespace Tm
open PySem PyProof.Rows
noncomputable abbrev fk:Type:=Option (Array Keyed)×Array Keyed×Nat×Nat×Nat×Nat
noncomputable abbrev kS:Type:=Option (Array Keyed)×Array Keyed×Nat×Nat×Nat
section
variable{M:Model}{A:Around}{E:Value->Shared->Prop}{s:Shared}{κ:SortKind}{S:Keyed->Prop}{lt:Keyed->Keyed->Bool}{a b r:Array Keyed}{st0 st:SortSt}{i j aF ca b6 N:Nat}
def d7{α:Type}{c:Prop}[Decidable c]{t e:StateT SortSt Sem α}{Q:α->SortSt->Prop}(J:c->wpS M A E s t Q st)(aa:¬c->wpS M A E s e Q st):wpS M A E s (if c then t else e) Q st:=by
 by_cases h:c
 .rw[if_pos h];exact J h
 .rw[if_neg h];exact aa h
def gG.less{cJ:Nat}(h:gG lt a b N r i j)(bj:cJ<=N):gG lt a b cJ r i j:=⟨h.1,h.2.1,h.2.2.1,h.2.2.2.1,Vk bj h.2.2.2.2⟩
def gG.no(h:gG lt a b N r i j)(bj:a.size+b.size<=N):False:=by
 obtain⟨_,J,aa,aL,a8⟩:=h;omega
theorem dV.less{t:TT}{cJ:Nat}(h:dV lt a b N t)(bj:cJ<=N):dV lt a b cJ t:=by
 obtain⟨o,t⟩:=t;cases o with
 |some res=>exact h
 |none=>exact gG.less h bj
def pv(h:iG lt a 0 a.size):a.toList.Pairwise (le lt):=by
 rw[V5];intro x y ah aA gb;rw[Array.length_toList]at ah aA;exact h x y ah aA (UH _) (WD gb) (by omega)
def Ny {Q : Array Keyed -> SortSt -> Prop} (O : et M A E s κ S lt) (aq : kindOf st = κ) (P : Pre S lt a b) (az : 0 < a.size) (af : 0 < b.size) (h0 : ∀ y (aA : y < a.size), le lt b[0] a[y]) (aE : ∀ res aG, bV st aG -> eM lt a.toList b.toList res.toList -> Q res aG) :
    wpS M A E s (tm a b) Q st := by
  rw [Nx]
  dsimp only
  refine UG (X3 (WU ⟨rfl, ?_⟩))
  refine UG (eW af ?_)
  have m0 : dD lt a.toList b.toList (#[] : Array Keyed).toList 0 0 := ⟨XC _, pv P.fD, pv P.bx⟩
  have ht : dD lt a.toList b.toList (#[b[0]] : Array Keyed).toList 0 1 := m0.pb af fun y aA _ => h0 y aA
  refine d7 (fun fN => ?_) fun fN => ?_
  · have c := fN
    have c : 1 = b.size := by simpa using c
    exact UO (aE _ _ (.refl st) (sg ht c))
  · have c := fN
    have c : ¬ 1 = b.size := by simpa using c
    refine d7 (fun fN => ?_) fun fN => ?_
    · have bo := fN
      have bo : 0 + 1 = a.size := by simpa using bo
      exact UO (aE _ _ (.refl st) (si P ht bo))
    · have bo := fN
      have bo : ¬ 0 + 1 = a.size := by simpa using bo
      refine UG (W6 ?_)
      refine UG (V2 (Vx (I := fun x (c : kS) aG => bV st aG /\ c.1 = none /\ gG lt a b (x + 1) c.2.1 c.2.2.1 c.2.2.2.1) (Q := fun (c : kS) aG => bV st aG /\ ∃ res, c.1 = some res /\ eM lt a.toList b.toList res.toList)
        ?step ?fin ⟨.refl st, rfl, ht, by show 0 + 1 < a.size; omega, by show 1 < b.size; omega, rfl, UE _⟩) ?post)
      case fin =>
        rintro ⟨o, r, i, j, aF⟩ aG ⟨g, _, cc⟩
        exact (cc.no (by rw [Vm (UH _)]; omega)).elim
      case post =>
        rintro ⟨o, r, i, j, aF⟩ aG ⟨g, res, rfl, m⟩
        exact UO (aE res aG g m)
      case step =>
        rintro x ⟨o, r, i, j, aF⟩ cw _ ah ⟨g1, rfl, pR⟩
        dsimp only at pR ⊢
        refine UG (V2 (Vx (I := fun y (c : fk) aG => bV st aG /\ c.1 = none /\ gG lt a b (x + 1 + y) c.2.1 c.2.2.1 c.2.2.2.1)
          (Q := fun (c : fk) aG => bV st aG /\ dV lt a b (x + 2) (c.1, c.2.1, c.2.2.1, c.2.2.2.1, 0, 0, 0)) ?step2 ?fin2 ⟨g1, rfl, pR⟩) ?post2)
        case fin2 =>
          rintro ⟨o, r, i, j, ca, b6⟩ aG ⟨g, _, cc⟩
          exact (cc.no (by rw [Vm (UH _)]; omega)).elim
        case step2 =>
          rintro y ⟨o, r, i, j, ca, b6⟩ cX _ aA ⟨g2, rfl, kN⟩
          dsimp only at kN ⊢
          obtain ⟨jN, aK, a6, bT, c9⟩ := kN
          have eX : i < a.size := by omega
          refine UG (eW a6 (UG (eW eX ?_)))
          refine UG (O.ask _ _ _ _ (P.cv _ a6) (P.dO _ eX) (g2.1.trans aq) ?_)
          cases e : lt b[j] a[i] with
          | true =>
            dsimp only
            rw [if_pos rfl]
            refine UG (eW a6 ?_)
            have gz := jN.pb a6 fun y aA b7 => O.dQ _ _ _ (P.cv _ a6) (P.dO _ eX) (P.dO _ aA) (O.ha _ _ (P.cv _ a6) (P.dO _ eX) e) (P.fD i y eX aA (UH _) b7 (by omega))
            refine d7 (fun fN => ?_) fun fN => ?_
            · have cm := fN
              have cm : j + 1 = b.size := by simpa using cm
              exact UO ⟨g2, sg gz cm⟩
            · have cm := fN
              have cm : ¬ j + 1 = b.size := by simpa using cm
              have ji : gG lt a b (x + 1 + (y + 1)) (r.push b[j]) i (j + 1) := ⟨gz, aK, by omega, by rw [U5]; omega, by rw [U5]; omega⟩
              refine d7 (fun fN => ?_) fun fN => ?_
              · exact UO ⟨g2, gG.less ji (by omega)⟩
              · exact UO ⟨g2, rfl, ji⟩
          | false =>
            dsimp only
            rw [if_neg (by simp)]
            refine UG (eW eX ?_)
            have gz := jN.pa eX fun y aA b7 => O.dQ _ _ _ (P.dO _ eX) (P.cv _ a6) (P.cv _ aA) e (P.bx j y a6 aA (UH _) b7 (by omega))
            refine d7 (fun fN => ?_) fun fN => ?_
            · have cm := fN
              have cm : i + 1 + 1 = a.size := by simpa using cm
              exact UO ⟨g2, si P gz cm⟩
            · have cm := fN
              have cm : ¬ i + 1 + 1 = a.size := by simpa using cm
              have ji : gG lt a b (x + 1 + (y + 1)) (r.push a[i]) (i + 1) j := ⟨gz, by omega, a6, by rw [U5]; omega, by rw [U5]; omega⟩
              refine d7 (fun fN => ?_) fun fN => ?_
              · exact UO ⟨g2, gG.less ji (by omega)⟩
              · exact UO ⟨g2, rfl, ji⟩
        case post2 =>
          rintro ⟨o, r, i, j, ca, b6⟩ cX ⟨g2, p⟩
          cases o with
          | some res => exact UO ⟨g2, res, rfl, p⟩
          | none =>
            have kN : gG lt a b (x + 2) r i j := p
            dsimp only
            refine UG (X3 (WU ⟨rfl, ?_⟩))
            refine UG (V2 (Vx (I := fun z (c : TT) aG => bV st aG /\ c.1 = none /\ gG lt a b (x + 2 + z) c.2.1 c.2.2.1 c.2.2.2.1) (Q := fun (c : TT) aG => bV st aG /\ dV lt a b (x + 2) c)
              ?step3 ?fin3 ⟨g2, rfl, kN⟩) ?post3)
            case fin3 =>
              rintro ⟨o, r, i, j, aF, ca, b6⟩ aG ⟨g, _, cc⟩
              exact (cc.no (by rw [Vm (UH _)]; omega)).elim
            case step3 =>
              rintro z ⟨o, r, i, j, aF, ca, b6⟩ gA _ au ⟨g3, rfl, gz, aK, a6, bT, c9⟩
              dsimp only at gz aK a6 bT c9 ⊢
              have go : ∀ qY, wpS M A E s (bc a b r i j qY ca b6) (rN lt a b (x + 2 + (z + 1)) st) gA := fun qY => Od O aq P g3 gz aK a6 bT (by omega)
              refine d7 (fun _ => ?_) fun _ => ?_
              · refine V2 (go (aF - 1)) fun f aG hf => ?_
                cases f with
                | done t => exact ⟨hf.1, dV.less hf.2 (by omega)⟩
                | yield t =>
                  obtain ⟨o, t⟩ := t
                  obtain ⟨g', rfl, hf⟩ := hf
                  exact ⟨g', rfl, hf⟩
              · refine V2 (go aF) fun f aG hf => ?_
                cases f with
                | done t => exact ⟨hf.1, dV.less hf.2 (by omega)⟩
                | yield t =>
                  obtain ⟨o, t⟩ := t
                  obtain ⟨g', rfl, hf⟩ := hf
                  exact ⟨g', rfl, hf⟩
            case post3 =>
              rintro ⟨o, r, i, j, aF, ca, b6⟩ gA ⟨g3, p⟩
              cases o with
              | some res => exact UO ⟨g3, res, rfl, p⟩
              | none => exact UG (VX (UO ⟨g3.set _, rfl, p⟩))
end
end Tm
end
section
namespace Tm
open PySem PyProof.Rows
noncomputable def tl:Array Keyed->Array Keyed->StateT SortSt Sem (Array Keyed):=sortPriv% PySem.Builtin.mergeHi
def Nq (a b : Array Keyed) : tl a b = (do
  rule "list.sort.merge-hi"
  let nW := a.size + b.size
  let fin (r : Array Keyed) (i j : Nat) := a.extract 0 i ++ b.extract 0 j ++ r.reverse
  let sf (r : Array Keyed) (i j : Nat) := b.extract 0 j ++ a.extract 0 i ++ r.reverse
  let mut i := a.size - 1
  let mut j := b.size
  let mut r : Array Keyed := #[<- elem' a i]
  if i == 0 then return fin r i j
  if j == 1 then return sf r i j
  let mut aF := gallopOf (<- get)
  for _ in [0:nW] do
    let mut ca := 0
    let mut b6 := 0
    for _ in [0:nW] do
      let some w <- lt' (<- elem' b (j - 1)) (<- elem' a (i - 1)) | return fin r i j
      if w then
        i := i - 1; r := r.push (<- elem' a i); ca := ca + 1; b6 := 0
        if i == 0 then return fin r i j
        if ca >= aF then break
      else
        j := j - 1; r := r.push (<- elem' b j); b6 := b6 + 1; ca := 0
        if j == 1 then return sf r i j
        if b6 >= aF then break
    rule "list.sort.gallop"
    aF := aF + 1
    for _ in [0:nW] do
      if aF > 1 then aF := aF - 1
      modify fun s => setG s aF
      let some q <- gQ false (<- elem' b (j - 1)) a 0 i (i - 1) | return fin r i j
      let k := i - q
      ca := k
      if k > 0 then
        r := r ++ (a.extract q i).reverse; i := q
        if i == 0 then return fin r i j
      j := j - 1; r := r.push (<- elem' b j)
      if j == 1 then return sf r i j
      let some q <- gQ true (<- elem' a (i - 1)) b 0 j (j - 1) | return fin r i j
      let k := j - q
      b6 := k
      if k > 0 then
        r := r ++ (b.extract q j).reverse; j := q
        if j == 1 then return sf r i j
        if j == 0 then return fin r i j
      i := i - 1; r := r.push (<- elem' a i)
      if i == 0 then return fin r i j
      if ca < 7 && b6 < 7 then break
    aF := aF + 1
    modify fun s => setG s aF
  unsupported "internal:list.sort.merge-bound") := rfl
structure dI(lt:Keyed->Keyed->Bool)(a b t:List Keyed)(i j:Nat):Prop where
 perm:(a.take i++b.take j++t).Perm (a++b)
 cf:(a.take i++t).Pairwise (le lt)
 cH:(b.take j++t).Pairwise (le lt)
section
variable{lt:Keyed->Keyed->Bool}{a b t:List Keyed}{i j q:Nat}
def t8(l:List Keyed){q i:Nat}(h:q<=i):l.take i=l.take q++(l.take i).drop q:=by
 conv=>lhs;rw[<- VI q (l.take i)]
 rw[List.take_take,Nat.min_eq_left h]
def dI.ru(h:dI lt a b t i j)(aE:q<=i)(aw:∀x∈b.take j,∀y∈(a.take i).drop q,le lt x y):dI lt a b ((a.take i).drop q++t) q j:=by
 have e:=t8 a aE;refine⟨?_,?_,?_⟩
 .refine List.Perm.trans ?_ h.perm
  conv=>rhs;rw[e]
  rw[UN,UN,UN];refine Wo _ ?_;rw[<- UN,<- UN];exact WI t WN
 .rw[<- UN,<- e];exact h.cf
 .have af:=US.mp h.cH;have az:=h.cf;rw[e,UN]at az;have wO:=(US.mp az).2.1;refine US.mpr ⟨af.1,wO,λx ah y aA=>?_⟩
  rcases UY.mp aA with aA|aA
  .exact aw x ah y aA
  .exact af.2.2 x ah y aA
def dI.rv(h:dI lt a b t i j)(aE:q<=j)(aw:∀x∈a.take i,∀y∈(b.take j).drop q,le lt x y):dI lt a b ((b.take j).drop q++t) i q:=by
 have e:=t8 b aE;refine⟨?_,?_,?_⟩
 .refine List.Perm.trans ?_ h.perm
  conv=>rhs;rw[e]
  rw[UN,UN,UN]
 .have az:=US.mp h.cf;have af:=h.cH;rw[e,UN]at af;have jA:=(US.mp af).2.1;refine US.mpr ⟨az.1,jA,λx ah y aA=>?_⟩
  rcases UY.mp aA with aA|aA
  .exact aw x ah y aA
  .exact az.2.2 x ah y aA
 .rw[<- UN,<- e];exact h.cH
def dI.wa(h:dI lt a b t 0 j):eM lt a b (b.take j++t):=by
 have:=h.perm;rw[XH,List.nil_append]at this;exact⟨this,h.cH⟩
def dI.wb(h:dI lt a b t i 0):eM lt a b (a.take i++t):=by
 have:=h.perm;rw[XH,VD]at this;exact⟨this,h.cf⟩
def dI.first(h:dI lt a b t i 1)(aw:∀x∈b.take 1,∀y∈a,le lt x y):eM lt a b (b.take 1++a.take i++t):=by
 have af:=US.mp h.cH;refine⟨?_,?_⟩
 .refine List.Perm.trans ?_ h.perm;exact WI t WN
 .rw[UN];refine US.mpr ⟨af.1,h.cf,λx ah y aA=>?_⟩
  rcases UY.mp aA with aA|aA
  .exact aw x ah y (Xu aA)
  .exact af.2.2 x ah y aA
end
end Tm
end
section
namespace Tm
open PySem PyProof.Rows
def m5(a:Array Keyed)(q i:Nat):(a.extract q i).toList=(a.toList.take i).drop q:=by
 rw[Xt,List.extract_eq_drop_take,List.drop_take]
def ox(a:Array Keyed)(i:Nat):(a.extract 0 i).toList=a.toList.take i:=by rw[m5,List.drop_zero]
def ti{l:List Keyed}{q i:Nat}{x:Keyed}(h:x∈(l.take i).drop q):∃n,∃(aD:n<l.length),q<=n/\n<i/\x=l[n]:=by
 obtain⟨n,aD,rfl⟩:=VZ.mp h;rw[Vz,Vl]at aD;exact⟨q+n,by omega,by omega,by omega,by rw[WQ,Wv]⟩
def o1{l:List Keyed}{i:Nat}{x:Keyed}(h:x∈l.take i):∃n,∃(aD:n<l.length),n<i/\x=l[n]:=by
 obtain⟨n,aD,rfl⟩:=VZ.mp h;rw[Vl]at aD;exact⟨n,by omega,by omega,by rw[Wv]⟩
def tc{l:List Keyed}{i:Nat}(h0:0<i)(h:i<=l.length):(l.take i).drop (i-1)=[l[i-1]'(by omega)]:=by
 have aw:(l.take i).length=i:=by rw[Vl];omega
 rw[Vr (by rw[aw];omega),WJ (by rw[aw];omega),Wv]
noncomputable abbrev mM(a b r:Array Keyed)(i j:Nat):Array Keyed:=a.extract 0 i++b.extract 0 j++r.reverse
noncomputable abbrev dH(a b r:Array Keyed)(i j:Nat):Array Keyed:=b.extract 0 j++a.extract 0 i++r.reverse
noncomputable abbrev lP:Type:=Option (Array Keyed)×Nat×Nat×Array Keyed×Nat×Nat×Nat
noncomputable def aL(a b r:Array Keyed)(i j aF ca b6:Nat):StateT SortSt Sem (ForInStep lP):=do
 let x <- elem' a (i-1)
 if i-1==0 then pure (.done (some (mM a b (r.push x) (i-1) j),i-1,j,r.push x,aF,ca,b6))
 else if ca<7&&b6<7 then pure (.done (none,i-1,j,r.push x,aF,ca,b6)) else pure (.yield (none,i-1,j,r.push x,aF,ca,b6))
noncomputable def aa(a b r:Array Keyed)(i j aF ca b6:Nat):StateT SortSt Sem (ForInStep lP):=do
 let y <- elem' b (j-1)
 if j-1==1 then pure (.done (some (dH a b (r.push y) i (j-1)),i,j-1,r.push y,aF,ca,b6))
 else do
  let x <- elem' a (i-1)
  let o <- gQ true x b 0 (j-1) (j-1-1)
  match o with
  |some q =>
   if j-1-q>0 then
    if q==1 then pure (.done (some (dH a b (r.push y++(b.extract q (j-1)).reverse) i q),i,q,r.push y++(b.extract q (j-1)).reverse,aF,ca,j-1-q))
    else if q==0 then pure (.done (some (mM a b (r.push y++(b.extract q (j-1)).reverse) i q),i,q,r.push y++(b.extract q (j-1)).reverse,aF,ca,j-1-q))
    else aL a b (r.push y++(b.extract q (j-1)).reverse) i q aF ca (j-1-q)
   else aL a b (r.push y) i (j-1) aF ca (j-1-q)
  |_=>pure (.done (some (mM a b (r.push y) i (j-1)),i,j-1,r.push y,aF,ca,b6))
noncomputable def J(a b r:Array Keyed)(i j aF ca b6:Nat):StateT SortSt Sem (ForInStep lP):=do
 modify λs=>setG s aF
 let y <- elem' b (j-1)
 let o <- gQ false y a 0 i (i-1)
 match o with
 |some q =>
  if i-q>0 then
   if q==0 then pure (.done (some (mM a b (r++(a.extract q i).reverse) q j),q,j,r++(a.extract q i).reverse,aF,i-q,b6))
   else aa a b (r++(a.extract q i).reverse) q j aF (i-q) b6
  else aa a b r i j aF (i-q) b6
 |_=>pure (.done (some (mM a b r i j),i,j,r,aF,ca,b6))
section
variable{M:Model}{A:Around}{E:Value->Shared->Prop}{s:Shared}{κ:SortKind}{S:Keyed->Prop}{lt:Keyed->Keyed->Bool}{a b r:Array Keyed}{st0 st:SortSt}{i j aF ca b6 N:Nat}
structure pV(S:Keyed->Prop)(lt:Keyed->Keyed->Bool)(a b:Array Keyed):Prop where
 dO:∀x (ah:x<a.size),S a[x]
 cv:∀x (ah:x<b.size),S b[x]
 fD:iG lt a 0 a.size
 bx:iG lt b 0 b.size
 first:∀x∈b.toList.take 1,∀y∈a.toList,le lt x y
noncomputable abbrev fL(lt:Keyed->Keyed->Bool)(a b r:Array Keyed)(i j:Nat):Prop:=dI lt a.toList b.toList r.toList.reverse i j
noncomputable def gF(lt:Keyed->Keyed->Bool)(a b:Array Keyed)(N:Nat)(r:Array Keyed)(i j:Nat):Prop:=fL lt a b r i j/\0<i/\i<=a.size/\1<j/\j<=b.size/\r.size+i+j=a.size+b.size/\N<=r.size
noncomputable def kO(lt:Keyed->Keyed->Bool)(a b:Array Keyed)(N:Nat)(t:lP):Prop:=match t.1 with
 |some res=>eM lt a.toList b.toList res.toList
 |none=>gF lt a b N t.2.2.2.1 t.2.1 t.2.2.1
noncomputable def iE(lt:Keyed->Keyed->Bool)(a b:Array Keyed)(N:Nat)(st0:SortSt)(f:ForInStep lP)(st:SortSt):Prop:=bV st0 st/\match f with
 |.done t=>kO lt a b N t
 |.yield t=>t.1=none/\kO lt a b N t
def so(P:pV S lt a b)(h:fL lt a b r i j)(aH:j=1):eM lt a.toList b.toList (dH a b r i j).toList:=by
 subst aH;show eM _ _ _ (b.extract 0 1++a.extract 0 i++r.reverse).toList;rw[U3,U3,ox,ox,Ww];exact dI.first h P.first
def sm(h:fL lt a b r i j)(hi:i=0):eM lt a.toList b.toList (mM a b r i j).toList:=by
 subst hi;show eM _ _ _ (a.extract 0 0++b.extract 0 j++r.reverse).toList;rw[U3,U3,ox,ox,Ww,XH,List.nil_append];exact dI.wa h
def Ka(h:fL lt a b r i j)(aH:j=0):eM lt a.toList b.toList (mM a b r i j).toList:=by
 subst aH;show eM _ _ _ (a.extract 0 i++b.extract 0 0++r.reverse).toList;rw[U3,U3,ox,ox,Ww,XH,VD];exact dI.wb h
def dI.vZ{q:Nat}(h:fL lt a b r i j)(aE:q<=i)(aw:∀x (ah:x<b.size) y (aA:y<a.size),x<j->q<=y->y<i->le lt b[x] a[y]):fL lt a b (r++(a.extract q i).reverse) q j:=by
 show dI lt a.toList b.toList (r++(a.extract q i).reverse).toList.reverse q j;rw[U3,Ww,W0,List.reverse_reverse,m5];refine dI.ru h aE λx ah y aA=>?_
 obtain⟨n,aD,b7,rfl⟩:=o1 ah;obtain⟨m,hm,dt,fv,rfl⟩:=ti aA;rw[Array.length_toList]at aD hm;exact aw n aD m hm b7 dt fv
def dI.v3{q:Nat}(h:fL lt a b r i j)(aE:q<=j)(aw:∀x (ah:x<a.size) y (aA:y<b.size),x<i->q<=y->y<j->le lt a[x] b[y]):fL lt a b (r++(b.extract q j).reverse) i q:=by
 show dI lt a.toList b.toList (r++(b.extract q j).reverse).toList.reverse i q;rw[U3,Ww,W0,List.reverse_reverse,m5];refine dI.rv h aE λx ah y aA=>?_
 obtain⟨n,aD,b7,rfl⟩:=o1 ah;obtain⟨m,hm,dt,fv,rfl⟩:=ti aA;rw[Array.length_toList]at aD hm;exact aw n aD m hm b7 dt fv
def dI.pa(h:fL lt a b r i j)(h0:0<i)(hi:i<=a.size)(aw:∀x (ah:x<b.size),x<j->le lt b[x] (a[i-1]'(by omega))):fL lt a b (r.push (a[i-1]'(by omega))) (i-1) j:=by
 have l9:i-1<a.toList.length:=by rw[Array.length_toList];omega
 have:=dI.ru (q:=i-1) h (by omega) (λx ah y aA=>by
  rw[tc h0 (by rw[Array.length_toList];exact hi)]at aA
  obtain rfl:y=a.toList[i-1]'l9:=by simpa using aA
  obtain⟨n,aD,b7,rfl⟩:=o1 ah;exact aw n (by rw[Array.length_toList]at aD;exact aD) b7)
 rw[tc h0 (by rw[Array.length_toList];exact hi)]at this
 show dI lt a.toList b.toList (r.push (a[i-1]'(by omega))).toList.reverse (i-1) j
 rw[WO,W0];exact this
def dI.pb(h:fL lt a b r i j)(h0:0<j)(aH:j<=b.size)(aw:∀x (ah:x<a.size),x<i->le lt a[x] (b[j-1]'(by omega))):fL lt a b (r.push (b[j-1]'(by omega))) i (j-1):=by
 have l9:j-1<b.toList.length:=by rw[Array.length_toList];omega
 have:=dI.rv (q:=j-1) h (by omega) (λx ah y aA=>by
  rw[tc h0 (by rw[Array.length_toList];exact aH)]at aA
  obtain rfl:y=b.toList[j-1]'l9:=by simpa using aA
  obtain⟨n,aD,b7,rfl⟩:=o1 ah;exact aw n (by rw[Array.length_toList]at aD;exact aD) b7)
 rw[tc h0 (by rw[Array.length_toList];exact aH)]at this
 show dI lt a.toList b.toList (r.push (b[j-1]'(by omega))).toList.reverse i (j-1)
 rw[WO,W0];exact this
def A2(P:pV S lt a b)(g:bV st0 st)(h:fL lt a b r i j)(eX:0<i)(hi:i<=a.size)(aH:1<j)(ft:j<=b.size)(aZ:r.size+i+j=a.size+b.size)(bj:N<=r.size+1)(aw:∀x (ah:x<b.size),x<j->le lt b[x] (a[i-1]'(by omega))):
  wpS M A E s (aL a b r i j aF ca b6) (iE lt a b N st0) st:=by
 unfold aL;refine UG (eW (by omega) ?_)
 have h':=dI.pa h eX hi aw;refine d7 (λc=>?_) λc=>?_
 .have c:i-1=0:=by simpa using c
  exact UO ⟨g,sm h' c⟩
 .have c:¬i-1=0:=by simpa using c
  have cc:gF lt a b N (r.push (a[i-1]'(by omega))) (i-1) j:=⟨h',by omega,by omega,aH,ft,by rw[U5];omega,by rw[U5];exact bj⟩
  refine d7 (λ_=>?_) λ_=>?_
  .exact UO ⟨g,cc⟩
  .exact UO ⟨g,rfl,cc⟩
def A1 (O : et M A E s κ S lt) (fT : kindOf st0 = κ) (P : pV S lt a b) (g : bV st0 st) (h : fL lt a b r i j) (eX : 0 < i) (hi : i <= a.size) (aH : 1 < j) (ft : j <= b.size) (aZ : r.size + i + j = a.size + b.size) (bj : N <= r.size + 2)
    (aw : ∀ x (ah : x < a.size), x < i -> le lt a[x] (b[j - 1]'(by omega))) : wpS M A E s (aa a b r i j aF ca b6) (iE lt a b N st0) st := by
  unfold aa
  refine UG (eW (by omega) ?_)
  have h' := dI.pb h (by omega) ft aw
  refine d7 (fun c => ?_) fun c => ?_
  · have c : j - 1 = 1 := by simpa using c
    exact UO ⟨g, so P h' c⟩
  · have c : ¬ j - 1 = 1 := by simpa using c
    refine UG (eW (by omega) ?_)
    refine UG (wy O (g.1.trans fT) P.cv (P.dO _ (by omega)) (by omega) (by omega) (fun x y ah aA b7 dt fv => P.bx x y ah aA (UH _) dt (by omega)) fun q aE f1 f2 => ?_)
    dsimp only
    have a8 : fL lt a b (r.push (b[j - 1]'(by omega)) ++ (b.extract q (j - 1)).reverse) i q := dI.v3 h' aE fun x ah y aA b7 dt fv =>
      O.dQ _ _ _ (P.dO _ ah) (P.dO _ (by omega)) (P.cv _ aA) (P.fD x (i - 1) ah (by omega) (UH _) (by omega) (by omega)) (f2 y aA (by omega) (by omega))
    have d3 : (r.push (b[j - 1]'(by omega)) ++ (b.extract q (j - 1)).reverse).size + i + q = a.size + b.size := by
      rw [Wb, U5, Array.size_reverse, Vh]; omega
    have rest : ∀ x (ah : x < b.size), x < q -> le lt b[x] (a[i - 1]'(by omega)) := fun x ah b7 => O.ha _ _ (P.cv _ ah) (P.dO _ (by omega)) (f1 x ah (UH _) (by omega))
    refine d7 (fun bo => ?_) fun bo => ?_
    · refine d7 (fun cm => ?_) fun cm => ?_
      · have cm : q = 1 := by simpa using cm
        exact UO ⟨g, so P a8 cm⟩
      · have cm : ¬ q = 1 := by simpa using cm
        refine d7 (fun gp => ?_) fun gp => ?_
        · have gp : q = 0 := by simpa using gp
          exact UO ⟨g, Ka a8 gp⟩
        · have gp : ¬ q = 0 := by simpa using gp
          exact A2 P g a8 eX hi (by omega) (by omega) d3 (by omega) rest
    · have e : q = j - 1 := by omega
      subst e
      exact A2 P g h' eX hi (by omega) (by omega) (by rw [U5]; omega) (by rw [U5]; omega) rest
def Kb(O:et M A E s κ S lt)(fT:kindOf st0=κ)(P:pV S lt a b)(g:bV st0 st)(h:fL lt a b r i j)(eX:0<i)(hi:i<=a.size)(aH:1<j)(ft:j<=b.size)(aZ:r.size+i+j=a.size+b.size)(bj:N<=r.size+2):
  wpS M A E s (J a b r i j aF ca b6) (iE lt a b N st0) st:=by
 unfold J;refine UG (VX ?_);have g:=g.set aF;refine UG (eW (by omega) ?_)
 refine UG (wx O (g.1.trans fT) P.dO (P.cv _ (by omega)) (by omega) (by omega) (λx y ah aA b7 dt fv=>P.fD x y ah aA (UH _) dt (by omega)) λq aE f1 f2=>?_)
 dsimp only;have a8:fL lt a b (r++(a.extract q i).reverse) q j:=dI.vZ h aE λx ah y aA b7 dt fv =>
  O.dQ _ _ _ (P.cv _ ah) (P.cv _ (by omega)) (P.dO _ aA) (P.bx x (j-1) ah (by omega) (UH _) (by omega) (by omega)) (O.ha _ _ (P.cv _ (by omega)) (P.dO _ aA) (f2 y aA (by omega) (by omega)))
 have d3:(r++(a.extract q i).reverse).size+q+j=a.size+b.size:=by
  rw[Wb,Array.size_reverse,Vh];omega
 have rest:∀x (ah:x<a.size),x<q->le lt a[x] (b[j-1]'(by omega)):=λx ah b7=>f1 x ah (UH _) (by omega)
 refine d7 (λc=>?_) λc=>?_
 .refine d7 (λbo=>?_) λbo=>?_
  .have bo:q=0:=by simpa using bo
   exact UO ⟨g,sm a8 bo⟩
  .have bo:¬q=0:=by simpa using bo
   exact A1 O fT P g a8 (by omega) (by omega) aH ft d3 (by omega) rest
 .have e:q=i:=by omega
  subst e;exact A1 O fT P g h eX hi aH ft aZ bj rest
end
end Tm
end
section
namespace Tm
open PySem PyProof.Rows
noncomputable abbrev zb:Type:=Option (Array Keyed)×Nat×Nat×Array Keyed×Nat×Nat
noncomputable abbrev pX:Type:=Option (Array Keyed)×Nat×Nat×Array Keyed×Nat
section
variable{M:Model}{A:Around}{E:Value->Shared->Prop}{s:Shared}{κ:SortKind}{S:Keyed->Prop}{lt:Keyed->Keyed->Bool}{a b r:Array Keyed}{st0 st:SortSt}{i j aF ca b6 N:Nat}
def gF.less{cJ:Nat}(h:gF lt a b N r i j)(bj:cJ<=N):gF lt a b cJ r i j:=⟨h.1,h.2.1,h.2.2.1,h.2.2.2.1,h.2.2.2.2.1,h.2.2.2.2.2.1,Vk bj h.2.2.2.2.2.2⟩
def gF.no(h:gF lt a b N r i j)(bj:a.size+b.size<=N):False:=by
 obtain⟨_,J,aa,aL,a8,cP,f3⟩:=h;omega
theorem kO.less{t:lP}{cJ:Nat}(h:kO lt a b N t)(bj:cJ<=N):kO lt a b cJ t:=by
 obtain⟨o,t⟩:=t;cases o with
 |some res=>exact h
 |none=>exact gF.less h bj
def Nr {Q : Array Keyed -> SortSt -> Prop} (O : et M A E s κ S lt) (aq : kindOf st = κ) (P : pV S lt a b) (az : 0 < a.size) (af : 0 < b.size) (h0 : ∀ x (ah : x < b.size), le lt b[x] (a[a.size - 1]'(by omega))) (aE : ∀ res aG, bV st aG -> eM lt a.toList b.toList res.toList -> Q res aG) :
    wpS M A E s (tl a b) Q st := by
  rw [Nq]
  dsimp only
  refine UG (X3 (WU ⟨rfl, ?_⟩))
  refine UG (eW (by omega) ?_)
  have dX : a.toList.take a.size = a.toList := VC (by rw [Array.length_toList]; exact UE _)
  have dY : b.toList.take b.size = b.toList := VC (by rw [Array.length_toList]; exact UE _)
  have m0 : fL lt a b #[] a.size b.size := by
    refine ⟨?_, ?_, ?_⟩
    · rw [dX, dY]; simp
    · rw [dX]; simpa using pv P.fD
    · rw [dY]; simpa using pv P.bx
  have ht : fL lt a b #[a[a.size - 1]'(by omega)] (a.size - 1) b.size := dI.pa m0 az (UE _) fun x ah _ => h0 x ah
  refine d7 (fun c => ?_) fun c => ?_
  · have c : a.size - 1 = 0 := by simpa using c
    exact UO (aE _ _ (.refl st) (sm ht c))
  · have c : ¬ a.size - 1 = 0 := by simpa using c
    refine d7 (fun bo => ?_) fun bo => ?_
    · have bo : b.size = 1 := by simpa using bo
      exact UO (aE _ _ (.refl st) (so P ht bo))
    · have bo : ¬ b.size = 1 := by simpa using bo
      refine UG (W6 ?_)
      refine UG (V2 (Vx (I := fun x (c : pX) aG => bV st aG /\ c.1 = none /\ gF lt a b (x + 1) c.2.2.2.1 c.2.1 c.2.2.1) (Q := fun (c : pX) aG => bV st aG /\ ∃ res, c.1 = some res /\ eM lt a.toList b.toList res.toList)
        ?step ?fin ⟨.refl st, rfl, ht, by show 0 < a.size - 1; omega, by show a.size - 1 <= a.size; omega, by show 1 < b.size; omega, UE _, by show 1 + (a.size - 1) + b.size = a.size + b.size; omega, UE _⟩) ?post)
      case fin =>
        rintro ⟨o, i, j, r, aF⟩ aG ⟨g, _, cc⟩
        exact (cc.no (by rw [Vm (UH _)]; omega)).elim
      case post =>
        rintro ⟨o, i, j, r, aF⟩ aG ⟨g, res, rfl, m⟩
        exact UO (aE res aG g m)
      case step =>
        rintro x ⟨o, i, j, r, aF⟩ cw _ ah ⟨g1, rfl, pR⟩
        dsimp only at pR ⊢
        refine UG (V2 (Vx (I := fun y (c : zb) aG => bV st aG /\ c.1 = none /\ gF lt a b (x + 1 + y) c.2.2.2.1 c.2.1 c.2.2.1)
          (Q := fun (c : zb) aG => bV st aG /\ kO lt a b (x + 2) (c.1, c.2.1, c.2.2.1, c.2.2.2.1, 0, 0, 0)) ?step2 ?fin2 ⟨g1, rfl, pR⟩) ?post2)
        case fin2 =>
          rintro ⟨o, i, j, r, ca, b6⟩ aG ⟨g, _, cc⟩
          exact (cc.no (by rw [Vm (UH _)]; omega)).elim
        case step2 =>
          rintro y ⟨o, i, j, r, ca, b6⟩ cX _ aA ⟨g2, rfl, kN⟩
          dsimp only at kN ⊢
          obtain ⟨jN, jO, aK, a6, kx, bT, c9⟩ := kN
          have k5 : i - 1 < a.size := by omega
          have jE : j - 1 < b.size := by omega
          refine UG (eW jE (UG (eW k5 ?_)))
          refine UG (O.ask _ _ _ _ (P.cv _ jE) (P.dO _ k5) (g2.1.trans aq) ?_)
          cases e : lt (b[j - 1]'jE) (a[i - 1]'k5) with
          | true =>
            dsimp only
            rw [if_pos rfl]
            refine UG (eW k5 ?_)
            have gz := dI.pa jN jO aK fun x ah b7 => O.dQ _ _ _ (P.cv _ ah) (P.cv _ jE) (P.dO _ k5) (P.bx x (j - 1) ah jE (UH _) (by omega) (by omega)) (O.ha _ _ (P.cv _ jE) (P.dO _ k5) e)
            refine d7 (fun cm => ?_) fun cm => ?_
            · have cm : i - 1 = 0 := by simpa using cm
              exact UO ⟨g2, sm gz cm⟩
            · have cm : ¬ i - 1 = 0 := by simpa using cm
              have ji : gF lt a b (x + 1 + (y + 1)) (r.push (a[i - 1]'k5)) (i - 1) j := ⟨gz, by omega, by omega, a6, kx, by rw [U5]; omega, by rw [U5]; omega⟩
              refine d7 (fun _ => ?_) fun _ => ?_
              · exact UO ⟨g2, gF.less ji (by omega)⟩
              · exact UO ⟨g2, rfl, ji⟩
          | false =>
            dsimp only
            rw [if_neg (by simp)]
            refine UG (eW jE ?_)
            have gz := dI.pb jN (by omega) kx fun x ah b7 => O.dQ _ _ _ (P.dO _ ah) (P.dO _ k5) (P.cv _ jE) (P.fD x (i - 1) ah k5 (UH _) (by omega) (by omega)) e
            refine d7 (fun cm => ?_) fun cm => ?_
            · have cm : j - 1 = 1 := by simpa using cm
              exact UO ⟨g2, so P gz cm⟩
            · have cm : ¬ j - 1 = 1 := by simpa using cm
              have ji : gF lt a b (x + 1 + (y + 1)) (r.push (b[j - 1]'jE)) i (j - 1) := ⟨gz, jO, aK, by omega, by omega, by rw [U5]; omega, by rw [U5]; omega⟩
              refine d7 (fun _ => ?_) fun _ => ?_
              · exact UO ⟨g2, gF.less ji (by omega)⟩
              · exact UO ⟨g2, rfl, ji⟩
        case post2 =>
          rintro ⟨o, i, j, r, ca, b6⟩ cX ⟨g2, p⟩
          cases o with
          | some res => exact UO ⟨g2, res, rfl, p⟩
          | none =>
            have kN : gF lt a b (x + 2) r i j := p
            dsimp only
            refine UG (X3 (WU ⟨rfl, ?_⟩))
            refine UG (V2 (Vx (I := fun z (c : lP) aG => bV st aG /\ c.1 = none /\ gF lt a b (x + 2 + z) c.2.2.2.1 c.2.1 c.2.2.1) (Q := fun (c : lP) aG => bV st aG /\ kO lt a b (x + 2) c)
              ?step3 ?fin3 ⟨g2, rfl, kN⟩) ?post3)
            case fin3 =>
              rintro ⟨o, i, j, r, aF, ca, b6⟩ aG ⟨g, _, cc⟩
              exact (cc.no (by rw [Vm (UH _)]; omega)).elim
            case step3 =>
              rintro z ⟨o, i, j, r, aF, ca, b6⟩ gA _ au ⟨g3, rfl, gz, jO, aK, a6, kx, bT, c9⟩
              dsimp only at gz jO aK a6 kx bT c9 ⊢
              have go : ∀ qY, wpS M A E s (J a b r i j qY ca b6) (iE lt a b (x + 2 + (z + 1)) st) gA := fun qY => Kb O aq P g3 gz jO aK a6 kx bT (by omega)
              refine d7 (fun _ => ?_) fun _ => ?_
              · refine V2 (go (aF - 1)) fun f aG hf => ?_
                cases f with
                | done t => exact ⟨hf.1, kO.less hf.2 (by omega)⟩
                | yield t =>
                  obtain ⟨o, t⟩ := t
                  obtain ⟨g', rfl, hf⟩ := hf
                  exact ⟨g', rfl, hf⟩
              · refine V2 (go aF) fun f aG hf => ?_
                cases f with
                | done t => exact ⟨hf.1, kO.less hf.2 (by omega)⟩
                | yield t =>
                  obtain ⟨o, t⟩ := t
                  obtain ⟨g', rfl, hf⟩ := hf
                  exact ⟨g', rfl, hf⟩
            case post3 =>
              rintro ⟨o, i, j, r, aF, ca, b6⟩ gA ⟨g3, p⟩
              cases o with
              | some res => exact UO ⟨g3, res, rfl, p⟩
              | none => exact UG (VX (UO ⟨g3.set _, rfl, p⟩))
end
end Tm
end
section
namespace Tm
open PySem PyProof.Rows
def Nh(i:Nat):mergeAt' i=(do
 let s <- get
 let (some (u,n,dw),some (v,m,_)):=((pendingOf s)[i]?,(pendingOf s)[i+1]?)|unsupported "internal:list.sort.pending"
 set (setPending s (((pendingOf s).setIfInBounds i (u,n+m,dw)).eraseIdxIfInBounds (i+1)))
 let some k <- gQ false (<- elem' (arrOf s) v) (arrOf s) u n 0|return false
 let (u,n):=(u+k,n-k)
 if n==0 then return true
 let some m <- gQ true (<- elem' (arrOf s) (u+n-1)) (arrOf s) v m (m-1)|return false
 if m==0 then return true
 let x:=(arrOf s).extract u v
 let y:=(arrOf s).extract v (v+m)
 let out <- if n<=m then tm x y else tl x y
 modify λs=>setArr s (out.toList.zipIdx.foldl (λa (p,j)=>a.setIfInBounds (u+j) p) (arrOf s))
 return (failedOf (<- get)).isNone):=rfl
theorem AJ:∀(m:List Keyed)(arr:Array Keyed)(k o:Nat),k+o+m.length<=arr.size->((m.zipIdx o).foldl (λa (p:Keyed×Nat)=>a.setIfInBounds (k+p.2) p.1) arr).toList=arr.toList.take (k+o)++m++arr.toList.drop (k+o+m.length)
 |[],arr,k,o,h=>by simp
 |x::m,arr,k,o,h=>by
  rw[List.zipIdx_cons,W5];rw[List.length_cons]at h;rw[AJ m _ k (o+1) (by rw[Array.size_setIfInBounds];omega)]
  rw[XI];dsimp only;have aw:k+o<arr.toList.length:=by rw[Array.length_toList];omega
  rw[show k+(o+1)=k+o+1 by omega,List.take_set,List.drop_set_of_lt (by omega),List.length_cons]
  have e:(arr.toList.take (k+o+1)).set (k+o) x=arr.toList.take (k+o)++[x]:=by
   rw[List.take_succ_eq_append_getElem aw];rw[List.set_append_right _ _ (by rw[Vl];omega)]
   congr 1;rw[Vl,Nat.min_eq_left (by omega),Nat.sub_self]
   rfl
  rw[e,show k+o+1+m.length=k+o+(m.length+1) by omega]
  simp only[UN,List.cons_append,List.nil_append]
def JP(m:List Keyed)(arr:Array Keyed)(k:Nat)(h:k+m.length<=arr.size):(m.zipIdx.foldl (λa (p:Keyed×Nat)=>a.setIfInBounds (k+p.2) p.1) arr).toList=arr.toList.take k++m++arr.toList.drop (k+m.length):=AJ m arr k 0 h
section
variable{M:Model}{A:Around}{E:Value->Shared->Prop}{s:Shared}{κ:SortKind}{S:Keyed->Prop}{lt:Keyed->Keyed->Bool}{st:SortSt}
def kb{a:Array Keyed}{p q x:Nat}(h:x<(a.extract p q).size):∃(h':p+x<a.size),(a.extract p q)[x]=a[p+x]:=by
 rw[Vh]at h;exact⟨by omega,Array.getElem_extract ..⟩
def et.fu(O:et M A E s κ S lt){x:Keyed}(h:S x):lt x x=false:=by
 cases e:lt x x with
 |false=>rfl
 |true=>exact(O.ha x x h h e▸e).symm▸rfl
def Ni {Q : Bool -> SortSt -> Prop} {n m : Nat} {dw rg : Nat} (O : et M A E s κ S lt) (aq : kindOf st = κ) (hf : failedOf st = none) (aC : pendingOf st = #[(0, n, dw), (n, m, rg)]) (aD : 0 < n) (hm : 0 < m) (au : (arrOf st).size = n + m)
    (aX : ∀ x (ah : x < (arrOf st).size), S (arrOf st)[x]) (J : iG lt (arrOf st) 0 n) (aa : iG lt (arrOf st) n m)
    (aE : ∀ aG, kindOf aG = κ -> failedOf aG = none -> pendingOf aG = #[(0, n + m, dw)] -> (arrOf aG).toList.Perm (arrOf st).toList -> (arrOf aG).toList.Pairwise (le lt) -> Q true aG) : wpS M A E s (mergeAt' 0) Q st := by
  rw [Nh]
  refine UG (W6 ?_)
  simp only [aC]
  show wpS M A E s (do
    set (setPending st ((#[(0, n, dw), (n, m, rg)].setIfInBounds 0 (0, n + m, dw)).eraseIdxIfInBounds (0 + 1)))
    let some k <- gQ false (<- elem' (arrOf st) n) (arrOf st) 0 n 0 | return false
    let (u, cG) := (0 + k, n - k)
    if cG == 0 then return true
    let some du <- gQ true (<- elem' (arrOf st) (u + cG - 1)) (arrOf st) n m (m - 1) | return false
    if du == 0 then return true
    let x := (arrOf st).extract u n
    let y := (arrOf st).extract n (n + du)
    let out <- if cG <= du then tm x y else tl x y
    modify fun s => setArr s (out.toList.zipIdx.foldl (fun a (p, j) => a.setIfInBounds (u + j) p) (arrOf s))
    return (failedOf (<- get)).isNone) Q st
  have Tf : ∀ {Q : PUnit -> SortSt -> Prop} {x : SortSt}, Q ⟨⟩ x -> wpS M A E s (set x : StateT SortSt Sem PUnit) Q st := fun {Q x} h => by
    unfold wpS; rw [StateT.run_set]; exact wpAny_pure ⟨rfl, h⟩
  refine UG (Tf ?_)
  generalize aj : setPending st ((#[(0, n, dw), (n, m, rg)].setIfInBounds 0 (0, n + m, dw)).eraseIdxIfInBounds (0 + 1)) = cw
  have k1 : kindOf cw = κ := by rw [<- aj]; exact aq
  have f1 : failedOf cw = none := by rw [<- aj]; exact hf
  have bc : pendingOf cw = #[(0, n + m, dw)] := by
    rw [<- aj]
    show ((#[(0, n, dw), (n, m, rg)].setIfInBounds 0 (0, n + m, dw)).eraseIdxIfInBounds (0 + 1)) = _
    apply X4.mp
    rw [Array.toList_eraseIdxIfInBounds, XI]
    rfl
  have a1 : arrOf cw = arrOf st := by rw [<- aj]
  generalize arrOf st = c at au aX J aa aE a1 ⊢
  have hP : n < c.size := by omega
  refine UG (eW hP ?_)
  refine UG (wx O k1 aX (aX _ hP) (by omega) aD J fun k aq g1 g2 => ?_)
  dsimp only
  have all : ∀ x y (ah : x < c.size) (aA : y < c.size), x <= y -> (∀ x (ah : x < c.size), x < n -> le lt c[x] c[n]) -> le lt c[x] c[y] := fun x y ah aA gb ai => by
    by_cases rY : y < n
    · exact J x y ah aA (UH _) gb (by omega)
    · by_cases oj : x < n
      · exact O.dQ _ _ _ (aX _ ah) (aX _ hP) (aX _ aA) (ai x ah oj) (aa n y hP aA (UE _) (by omega) (by omega))
      · exact aa x y ah aA (by omega) gb (by omega)
  have whole : (∀ x (ah : x < c.size), x < n -> le lt c[x] c[n]) -> c.toList.Pairwise (le lt) := fun ai => pv fun x y ah aA _ gb _ => all x y ah aA gb ai
  refine d7 (fun dG => ?_) fun dG => ?_
  · have dG : n - k = 0 := by simpa using dG
    refine UO (aE cw k1 f1 bc (by rw [a1]) (by rw [a1]; exact whole fun x ah l => g1 x ah (UH _) (by omega)))
  · have dG : ¬ n - k = 0 := by simpa using dG
    have aw : 0 + k + (n - k) - 1 = n - 1 := by omega
    rw [aw]
    have k8 : n - 1 < c.size := by omega
    refine UG (eW k8 ?_)
    refine UG (wy O k1 aX (aX _ k8) (by omega) (by omega) aa fun du sL g3 ib => ?_)
    dsimp only
    refine d7 (fun qb => ?_) fun qb => ?_
    · have qb : du = 0 := by simpa using qb
      have hw := whole fun x ah l => O.dQ _ _ _ (aX _ ah) (aX _ k8) (aX _ hP) (J x (n - 1) ah k8 (UH _) (by omega) (by omega)) (ib n hP (by omega) (by omega))
      exact UO (aE cw k1 f1 bc (by rw [a1]) (by rw [a1]; exact hw))
    · have qb : ¬ du = 0 := by simpa using qb
      rw [WW]
      have lB : (c.extract k n).size = n - k := by rw [Vh]; omega
      have nT : (c.extract n (n + du)).size = du := by rw [Vh]; omega
      have y9 : ∀ x (ah : x < (c.extract k n).size), S (c.extract k n)[x] := fun x ah => by obtain ⟨h', e⟩ := kb ah; rw [e]; exact aX _ h'
      have za : ∀ x (ah : x < (c.extract n (n + du)).size), S (c.extract n (n + du))[x] := fun x ah => by obtain ⟨h', e⟩ := kb ah; rw [e]; exact aX _ h'
      have y4 : iG lt (c.extract k n) 0 (c.extract k n).size := fun x y ah aA _ gb _ => by
        obtain ⟨eg, aj⟩ := kb ah
        obtain ⟨hA, av⟩ := kb aA
        rw [aj, av]
        exact J _ _ eg hA (UH _) (by omega) (by rw [lB] at aA; omega)
      have y5 : iG lt (c.extract n (n + du)) 0 (c.extract n (n + du)).size := fun x y ah aA _ gb _ => by
        obtain ⟨eg, aj⟩ := kb ah
        obtain ⟨hA, av⟩ := kb aA
        rw [aj, av]
        exact aa _ _ eg hA (by omega) (by omega) (by rw [nT] at aA; omega)
      have below : ∀ y (aA : y < (c.extract n (n + du)).size), le lt (c.extract n (n + du))[y] c[n - 1] := fun y aA => by
        obtain ⟨eg, aj⟩ := kb aA
        rw [aj]
        exact O.ha _ _ (aX _ eg) (aX _ k8) (g3 _ eg (by omega) (by rw [nT] at aA; omega))
      have Cn : ∀ z, (c.extract k n).toList[(c.extract k n).toList.length - 1]? = some z -> z = c[n - 1] := fun z au => by
        rw [Array.length_toList, lB, U9, UL (by rw [lB]; omega)] at au
        obtain ⟨eg, aj⟩ := kb (a := c) (p := k) (q := n) (x := n - k - 1) (by rw [lB]; omega)
        rw [aj] at au
        cases au
        congr 1
        omega
      have AB : ∀ x (ah : x < (c.extract k n).size), le lt c[n] (c.extract k n)[x] := fun x ah => by
        obtain ⟨eg, aj⟩ := kb ah
        rw [aj]
        exact O.ha _ _ (aX _ hP) (aX _ eg) (g2 _ eg (by omega) (by rw [lB] at ah; omega))
      have rD : (c.extract n (n + du))[0]'(by rw [nT]; omega) = c[n] := by
        obtain ⟨eg, aj⟩ := kb (a := c) (p := n) (q := n + du) (x := 0) (by rw [nT]; omega)
        rw [aj]
        rfl
      have fin : ∀ (res : Array Keyed) (cX : SortSt), bV cw cX -> eM lt (c.extract k n).toList (c.extract n (n + du)).toList res.toList -> wpS M A E s (do
          modify fun s => setArr s (res.toList.zipIdx.foldl (fun a (p, j) => a.setIfInBounds (k + j) p) (arrOf s))
          return (failedOf (<- get)).isNone) Q cX := fun res cX g aF => by
        refine UG (VX (UG (W6 (UO ?_))))
        have v9 : failedOf cX = none := g.2.2.2.trans f1
        have rQ : arrOf cX = c := g.2.1.trans a1
        have hlen : res.toList.length = n - k + du := by rw [aF.1.length_eq, UM, Array.length_toList, Array.length_toList, lB, nT]
        have Ah : (res.toList.zipIdx.foldl (fun a (p : Keyed × Nat) => a.setIfInBounds (k + p.2) p.1) (arrOf cX)).toList = c.toList.take k ++ res.toList ++ c.toList.drop (n + du) := by
          rw [rQ, JP _ _ _ (by rw [hlen]; omega), hlen]
          congr 2
          omega
        have dq : c.toList = c.toList.take k ++ ((c.extract k n).toList ++ (c.extract n (n + du)).toList) ++ c.toList.drop (n + du) := by
          rw [m5, m5]
          have aK : c.toList.take n = c.toList.take k ++ (c.toList.take n).drop k := t8 _ (by omega)
          have a6 : c.toList.take (n + du) = c.toList.take n ++ (c.toList.take (n + du)).drop n := t8 _ (by omega)
          rw [<- UN, <- aK, <- a6, VI]
        show Q (failedOf cX).isNone _
        rw [v9]
        refine aE _ (g.1.trans k1) v9 (g.2.2.1.trans bc) ?_ ?_
        · show (res.toList.zipIdx.foldl (fun a (p : Keyed × Nat) => a.setIfInBounds (k + p.2) p.1) (arrOf cX)).toList.Perm _
          rw [Ah]
          conv => rhs; rw [dq]
          exact WI _ (Wo _ aF.1)
        · show (res.toList.zipIdx.foldl (fun a (p : Keyed × Nat) => a.setIfInBounds (k + p.2) p.1) (arrOf cX)).toList.Pairwise _
          rw [Ah]
          have lo : ∀ x ∈ c.toList.take k, ∃ i, ∃ (hi : i < c.size), i < k /\ x = c[i] := fun x ah => by
            obtain ⟨i, hi, b7, rfl⟩ := o1 ah
            rw [Array.length_toList] at hi
            exact ⟨i, hi, b7, rfl⟩
          have up : ∀ x ∈ c.toList.drop (n + du), ∃ i, ∃ (hi : i < c.size), n + du <= i /\ x = c[i] := fun x ah => by
            obtain ⟨i, hi, b7, rfl⟩ := qW ah
            rw [Array.length_toList] at hi
            exact ⟨i, hi, b7, rfl⟩
          have kn : ∀ x ∈ res.toList, ∃ i, ∃ (hi : i < c.size), k <= i /\ i < n + du /\ x = c[i] := fun x ah => by
            rcases UY.mp (aF.1.mem_iff.mp ah) with ah | ah
            · rw [m5] at ah
              obtain ⟨i, hi, b7, dt, rfl⟩ := ti ah
              rw [Array.length_toList] at hi
              exact ⟨i, hi, b7, by omega, rfl⟩
            · rw [m5] at ah
              obtain ⟨i, hi, b7, dt, rfl⟩ := ti ah
              rw [Array.length_toList] at hi
              exact ⟨i, hi, by omega, dt, rfl⟩
          have M8 : ∀ i j (hi : i < c.size) (aH : j < c.size), i < k -> k <= j -> le lt c[i] c[j] := fun i j hi aH b7 dt => by
            by_cases TB : j < n
            · exact J i j hi aH (UH _) (by omega) (by omega)
            · exact O.dQ _ _ _ (aX _ hi) (aX _ hP) (aX _ aH) (g1 i hi (UH _) (by omega)) (aa n j hP aH (UE _) (by omega) (by omega))
          have E6 : ∀ i j (hi : i < c.size) (aH : j < c.size), i < n + du -> n + du <= j -> le lt c[i] c[j] := fun i j hi aH b7 dt => by
            by_cases ci : i < n
            · exact O.dQ _ _ _ (aX _ hi) (aX _ k8) (aX _ aH) (J i (n - 1) hi k8 (UH _) (by omega) (by omega)) (ib j aH (by omega) (by omega))
            · exact aa i j hi aH (by omega) (by omega) (by omega)
          refine US.mpr ⟨US.mpr ⟨?_, aF.2, fun x ah y aA => ?_⟩, ?_, fun x ah y aA => ?_⟩
          · rw [V5]
            intro x y ah aA gb
            rw [Vl, Array.length_toList] at ah aA
            rw [Wv, Wv]
            exact J x y (by omega) (by omega) (UH _) (by omega) (by omega)
          · obtain ⟨i, hi, b7, rfl⟩ := lo x ah
            obtain ⟨j, aH, dt, fv, rfl⟩ := kn y aA
            exact M8 i j hi aH b7 dt
          · rw [V5]
            intro x y ah aA gb
            rw [Vz, Array.length_toList] at ah aA
            rw [WQ, WQ]
            exact aa _ _ (by omega) (by omega) (by omega) (by omega) (by omega)
          · obtain ⟨j, aH, dt, rfl⟩ := up y aA
            rcases UY.mp ah with ah | ah
            · obtain ⟨i, hi, b7, rfl⟩ := lo x ah
              exact E6 i j hi aH (by omega) dt
            · obtain ⟨i, hi, b7, fv, rfl⟩ := kn x ah
              exact E6 i j hi aH fv dt
      refine d7 (fun _ => ?_) fun _ => ?_
      · refine UG (Ny O k1 ⟨y9, za, y4, y5, fun y aA z au => ?_⟩ (by rw [lB]; omega) (by rw [nT]; omega) (fun x ah => by rw [rD]; exact AB x ah) fin)
        rw [Cn z au]
        obtain ⟨i, hi, rfl⟩ := VZ.mp aA
        rw [Array.length_toList] at hi
        exact below i hi
      · refine UG (Nr O k1 ⟨y9, za, y4, y5, fun z au y aA => ?_⟩ (by rw [lB]; omega) (by rw [nT]; omega) (fun x ah => ?_) fin)
        · obtain ⟨i, hi, b7, rfl⟩ := o1 au
          obtain rfl : i = 0 := by omega
          obtain ⟨j, aH, rfl⟩ := VZ.mp aA
          rw [Array.length_toList] at aH
          have := AB j aH
          rw [<- rD] at this
          exact this
        · have := below x ah
          have e := Cn ((c.extract k n)[(c.extract k n).size - 1]'(by rw [lB]; omega)) (by rw [Array.length_toList, U9]; exact UL _)
          rw [e]
          exact this
end
end Tm
end
section
namespace Tm
open PySem PyProof.Rows
noncomputable abbrev at_(c:Array Keyed)(x:Nat):Keyed:=c.getD x (Value.none,Value.none)
def p3{c:Array Keyed}{x:Nat}(h:x<c.size):at_ c x=c[x]:=by
 show c.getD x _=_;unfold Array.getD;rw[XT h];rfl
def oc{c d:Array Keyed}{x y:Nat}(h:c[x]?=d[y]?):at_ c x=at_ d y:=by
 show c.getD x _=d.getD y _;rw[VJ,VJ,h]
def jm{c:Array Keyed}{i j:Nat}(aH:j<=c.size)(k:Nat):at_ (mirror c i j ((j-i) / 2)) k=if i<=k/\k<j then at_ c (i+j-1-k) else at_ c k:=by
 have h:=getElem?_mirror (i:=i) aH ((j-i) / 2) (by omega) k
 by_cases ck:(i<=k/\k<i+(j-i) / 2)\/(j-(j-i) / 2<=k/\k<j)
 .rw[if_pos ck]at h;rw[if_pos (by omega)]
  exact oc h
 .rw[if_neg ck]at h
  by_cases bo:i<=k/\k<j
  .rw[if_pos bo];have:i+j-1-k=k:=by omega
   rw[this];exact oc h
  .rw[if_neg bo];exact oc h
def u6{c:Array Keyed}{k d:Nat}(aq:k<c.size)(hd:d<=k)(x:Nat):at_ (bubble c k d) x=if x=k-d then at_ c k else if k-d<x/\x<=k then at_ c (x-1) else at_ c x:=by
 have h:=getElem?_bubble aq d hd x
 by_cases ck:x=k-d
 .rw[if_pos ck]at h ⊢;exact oc h
 .rw[if_neg ck]at h ⊢
  by_cases bo:k-d<x/\x<=k
  .rw[if_pos bo]at h ⊢;exact oc h
  .rw[if_neg bo]at h ⊢;exact oc h
noncomputable def dR(lt:Keyed->Keyed->Bool)(c:Array Keyed)(l n:Nat):Prop:=∀x y,l<=x->x<=y->y<l+n->le lt (at_ c x) (at_ c y)
noncomputable def Dec(lt:Keyed->Keyed->Bool)(c:Array Keyed)(l n:Nat):Prop:=∀x y,l<=x->x<=y->y<l+n->le lt (at_ c y) (at_ c x)
structure dS(c d:Array Keyed)(l h:Nat):Prop where
 size:d.size=c.size
 perm:d.toList.Perm c.toList
 out:∀k,(k<l\/h<=k)->at_ d k=at_ c k
theorem dS.refl(c:Array Keyed)(l h:Nat):dS c c l h:=⟨rfl,.refl _,λ_ _=>rfl⟩
theorem dS.trans{c d e:Array Keyed}{l h:Nat}(x:dS c d l h)(y:dS d e l h):dS c e l h:=⟨y.size.trans x.size,y.perm.trans x.perm,λk q=>(y.out k q).trans (x.out k q)⟩
def dS.mono{c d:Array Keyed}{l h il h':Nat}(x:dS c d l h)(a:il<=l)(b:h<=h'):dS c d il h':=⟨x.size,x.perm,λk q=>x.out k (by omega)⟩
def dS.rev{c:Array Keyed}{i j:Nat}(aH:j<=c.size):dS c (mirror c i j ((j-i) / 2)) i j :=
 ⟨mirror_size ..,XJ.mp (mirror_perm ..),λk q=>by rw[jm aH,if_neg (by omega)]⟩
def dS.GP{c:Array Keyed}{k d:Nat}(aq:k<c.size)(hd:d<=k):dS c (bubble c k d) (k-d) (k+1) :=
 ⟨bubble_size ..,XJ.mp (bubble_perm ..),λx q=>by rw[u6 aq hd,if_neg (by omega),if_neg (by omega)]⟩
section
variable{M:Model}{A:Around}{E:Value->Shared->Prop}{s:Shared}{κ:SortKind}{S:Keyed->Prop}{lt:Keyed->Keyed->Bool}{st aG:SortSt}{c d:Array Keyed}{l h n:Nat}
noncomputable abbrev fg(S:Keyed->Prop)(c:Array Keyed):Prop:=∀x∈c.toList,S x
theorem fg.at_(h:fg S c){x:Nat}(ah:x<c.size):S (at_ c x):=by rw[p3 ah];exact h _ (by simp)
def fg.perm(h:fg S c)(p:d.toList.Perm c.toList):fg S d:=λx ah=>h x (p.mem_iff.mp ah)
def p2(O:et M A E s κ S lt)(aq:kindOf st=κ)(aX:fg S (arrOf st)){i j:Nat}(hi:i<(arrOf st).size)(aH:j<(arrOf st).size){Q:Option Bool->SortSt->Prop}(q:Q (some (lt (at_ (arrOf st) i) (at_ (arrOf st) j))) st):wpS M A E s (ltAt' i j) Q st:=by
 rw[ltAt'_eq];refine UG (W6 ?_);show wpS _ _ _ _ (do let x <- elem' (arrOf st) i;let y <- elem' (arrOf st) j;lt' x y) Q st
 refine UG (eW hi (UG (eW aH ?_)));rw[p3 hi,p3 aH]at q;exact O.ask _ _ _ _ (aX _ (by simp)) (aX _ (by simp)) aq q
def dR.snoc(O:et M A E s κ S lt)(aX:fg S c)(aD:l+n<c.size)(h0:0<n)(h:dR lt c l n)(q:le lt (at_ c (l+n-1)) (at_ c (l+n))):dR lt c l (n+1):=by
 intro x y J aa aL
 by_cases e:y=l+n
 .subst e
  by_cases av:x=l+n
  .subst av;exact O.fu (aX.at_ aD)
  .exact O.dQ _ _ _ (aX.at_ (by omega)) (aX.at_ (by omega)) (aX.at_ aD) (h x (l+n-1) J (by omega) (by omega)) q
 .exact h x y J aa (by omega)
def Dec.snoc(O:et M A E s κ S lt)(aX:fg S c)(aD:l+n<c.size)(h0:0<n)(h:Dec lt c l n)(q:le lt (at_ c (l+n)) (at_ c (l+n-1))):Dec lt c l (n+1):=by
 intro x y J aa aL
 by_cases e:y=l+n
 .subst e
  by_cases av:x=l+n
  .subst av;exact O.fu (aX.at_ aD)
  .exact O.dQ _ _ _ (aX.at_ aD) (aX.at_ (by omega)) (aX.at_ (by omega)) q (h x (l+n-1) J (by omega) (by omega))
 .exact h x y J aa (by omega)
def dR.one(O:et M A E s κ S lt)(aX:fg S c)(aD:l<c.size):dR lt c l 1:=λx y J aa aL=>by
 obtain rfl:x=l:=by omega
 obtain rfl:y=x:=by omega
 exact O.fu (aX.at_ aD)
def Dec.rev(h:Dec lt c l n)(aD:l+n<=c.size):dR lt (mirror c l (l+n) ((l+n-l) / 2)) l n:=by
 intro x y J aa aL;rw[jm aD,jm aD,if_pos (by omega),if_pos (by omega)]
 exact h _ _ (by omega) (by omega) (by omega)
def dR.NU(h:dR lt c l n){a b:Nat}(p:dS c d a b)(q:l+n<=a\/b<=l):dR lt d l n:=λx y J aa aL=>by
 rw[p.out x (by omega),p.out y (by omega)];exact h x y J aa aL
def dR.cy(h:dR lt c l n):iG lt c l n:=λx y ah aA J aa aL=>by
 have:=h x y J aa aL;rw[p3 ah,p3 aA]at this;exact this
end
end Tm
end
section
namespace Tm
open PySem PyProof.Rows
noncomputable def hz(l z hS:Nat):StateT SortSt Sem (Option Nat):=do
 reverseSlice' l (l+hS)
 let mut n:=hS
 for _ in [n:z] do
  let some q <- ltAt' (l+n) (l+n-1)|return none
  if q then break
  n:=n+1
 return some n
noncomputable def l0(l z hS:Nat):StateT SortSt Sem (Option Nat):=do
 rule "list.sort.descending-run"
 let mut n:=hS+1
 let mut e:=0
 for _ in [n:z] do
  let some q <- ltAt' (l+n) (l+n-1)|return none
  if q then
   if e>0 then reverseSlice' (l+n-(e+1)) (l+n)
   e:=0
  else
   let some g <- ltAt' (l+n-1) (l+n)|return none
   if g then break
   e:=e+1
  n:=n+1
 if e>0 then reverseSlice' (l+n-(e+1)) (l+n)
 hz l z n
def Hw(l z:Nat):countRun' l z=(do
 let mut n:=1
 for _ in [1:z] do
  let some q <- ltAt' (l+n) (l+n-1)|return none
  if q then break
  n:=n+1
 if n==z then return some n
 if n>1 then
  let some g <- ltAt' l (l+n-1)|return none
  if g then return some n
  reverseSlice' l (l+n)
 l0 l z n):=by
 rw[countRun'_eq];unfold l0 hz;rfl
noncomputable def jk(st aG:SortSt):Prop:=kindOf aG=kindOf st/\pendingOf aG=pendingOf st/\failedOf aG=failedOf st
section
variable{M:Model}{A:Around}{E:Value->Shared->Prop}{s:Shared}{κ:SortKind}{S:Keyed->Prop}{lt:Keyed->Keyed->Bool}{st st0:SortSt}{l z n hS:Nat}
noncomputable def pT(lt:Keyed->Keyed->Bool)(l z:Nat)(st0:SortSt)(o:Option Nat)(aG:SortSt):Prop:=∃m,o=some m/\1<=m/\m<=z/\jk st0 aG/\dS (arrOf st0) (arrOf aG) l (l+z)/\dR lt (arrOf aG) l m
def zo (O : et M A E s κ S lt) (aq : kindOf st = κ) (aX : fg S (arrOf st)) (au : l + z <= (arrOf st).size) (J : 1 <= hS) (aD : hS <= z) (h : dR lt (arrOf st) l hS) {Q : Option (Option Nat) × Nat -> SortSt -> Prop}
    (aE : ∀ n, hS <= n -> n <= z -> dR lt (arrOf st) l n -> (n = z \/ lt (at_ (arrOf st) (l + n)) (at_ (arrOf st) (l + n - 1)) = true) -> Q (none, n) st) : wpS M A E s (forIn [hS:z] ((none : Option (Option Nat)), hS) fun x __s => do
      let __x <- ltAt' (l + __s.snd) (l + __s.snd - 1)
      match __x with
        | some q => if q = true then pure (ForInStep.done (none, __s.snd)) else pure (ForInStep.yield (none, __s.snd + 1))
        | x => pure (ForInStep.done (some none, __s.snd))) Q st := by
  refine Vx (I := fun x (c : Option (Option Nat) × Nat) aG => aG = st /\ c.1 = none /\ c.2 = x /\ hS <= x /\ x <= z /\ dR lt (arrOf st) l x) ?step ?fin ⟨rfl, rfl, rfl, UE _, aD, h⟩
  case fin =>
    rintro ⟨o, n⟩ aG ⟨rfl, rfl, rfl, k1, k2, bl⟩
    rw [Vm aD] at bl ⊢
    exact aE z aD (UE _) bl (.inl rfl)
  case step =>
    rintro x ⟨o, n⟩ aG _ ah ⟨rfl, rfl, e, k1, k2, bl⟩
    dsimp only at e ⊢
    subst e
    refine UG (p2 O aq aX (by omega) (by omega) ?_)
    cases e : lt (at_ (arrOf aG) (l + n)) (at_ (arrOf aG) (l + n - 1)) with
    | true => dsimp only; rw [if_pos rfl]; exact UO (aE n k1 k2 bl (.inr e))
    | false => dsimp only; rw [if_neg (by simp)]; exact UO ⟨rfl, rfl, rfl, by omega, by omega, bl.snoc O aX (by omega) (by omega) e⟩
def E1(O:et M A E s κ S lt)(fT:kindOf st0=κ)(hS0:fg S (arrOf st0))(ae:jk st0 st)(aC:dS (arrOf st0) (arrOf st) l (l+z))(au:l+z<=(arrOf st0).size)(J:1<=n)(aD:n<=z)(h:Dec lt (arrOf st) l n):wpS M A E s (hz l z n) (pT lt l z st0) st:=by
 unfold hz;rw[Xn];refine UG (VX ?_);have iV:l+z<=(arrOf st).size:=by rw[aC.size];exact au
 generalize aj:setArr st (mirror (arrOf st) l (l+n) ((l+n-l) / 2))=cw;have a1:arrOf cw=mirror (arrOf st) l (l+n) ((l+n-l) / 2):=by rw[<- aj]
 have s1:jk st0 cw:=by rw[<- aj];exact ae
 have bc:dS (arrOf st0) (arrOf cw) l (l+z):=by rw[a1];exact aC.trans ((dS.rev (by omega)).mono (UE _) (by omega))
 have e8:dR lt (arrOf cw) l n:=by rw[a1];exact h.rev (by omega)
 refine UG (zo O (s1.1.trans fT) (hS0.perm bc.perm) (by rw[bc.size];exact au) J aD e8 λm k1 k2 bl _=>?_)
 exact UO ⟨m,rfl,by omega,k2,s1,bc,bl⟩
def GK (O : et M A E s κ S lt) {c : Array Keyed} (aX : fg S c) {e : Nat} (aD : l + n <= c.size) (he : e + 1 <= n) (h : Dec lt c l n) (af : ∀ x y, l + n - (e + 1) <= x -> x < l + n -> l + n - (e + 1) <= y -> y < l + n -> le lt (at_ c x) (at_ c y)) :
    Dec lt (mirror c (l + n - (e + 1)) (l + n) ((l + n - (l + n - (e + 1))) / 2)) l n := by
  intro x y J aa aL
  rw [jm aD, jm aD]
  by_cases rY : l + n - (e + 1) <= x
  · rw [if_pos (by omega), if_pos (by omega)]
    exact af _ _ (by omega) (by omega) (by omega) (by omega)
  · rw [if_neg (show ¬ (l + n - (e + 1) <= x /\ x < l + n) by omega)]
    by_cases oj : l + n - (e + 1) <= y
    · rw [if_pos (by omega)]
      exact h _ _ J (by omega) (by omega)
    · rw [if_neg (by omega)]
      exact h _ _ J aa aL
structure lF(lt:Keyed->Keyed->Bool)(S:Keyed->Prop)(l z:Nat)(st0 st:SortSt)(n e:Nat):Prop where
 ss:jk st0 st
 dN:dS (arrOf st0) (arrOf st) l (l+z)
 dec:Dec lt (arrOf st) l n
 len:e+1<=n
 tu:n<=z
 eq:∀x y,l+n-(e+1)<=x->x<l+n->l+n-(e+1)<=y->y<l+n->le lt (at_ (arrOf st) x) (at_ (arrOf st) y)
def lF.turn{e:Nat}(O:et M A E s κ S lt)(hS0:fg S (arrOf st0))(au:l+z<=(arrOf st0).size)(h:lF lt S l z st0 st n e):lF lt S l z st0 (setArr st (mirror (arrOf st) (l+n-(e+1)) (l+n) ((l+n-(l+n-(e+1))) / 2))) n 0:=by
 have J:=h.len;have aa:=h.tu;have iV:l+n<=(arrOf st).size:=by rw[h.dN.size];omega
 refine⟨h.ss,h.dN.trans ((dS.rev iV).mono (by omega) (by omega)),GK O (hS0.perm h.dN.perm) iV J h.dec h.eq,by omega,h.tu,λx y k1 k2 bl b0=>?_⟩
 have ex:x=l+n-1:=by omega
 have fp:y=l+n-1:=by omega
 subst ex fp;have dN:dS (arrOf st0) (mirror (arrOf st) (l+n-(e+1)) (l+n) ((l+n-(l+n-(e+1))) / 2)) l (l+z):=h.dN.trans ((dS.rev iV).mono (by omega) (by omega))
 exact O.fu ((hS0.perm dN.perm).at_ (by rw[dN.size];omega))
def z6 (O : et M A E s κ S lt) (fT : kindOf st0 = κ) (hS0 : fg S (arrOf st0)) (ae : jk st0 st) (aC : dS (arrOf st0) (arrOf st) l (l + z)) (au : l + z <= (arrOf st0).size) (aD : n < z) (h : Dec lt (arrOf st) l (n + 1)) : wpS M A E s (l0 l z n) (pT lt l z st0) st := by
  unfold l0
  refine UG (X3 (WU ⟨rfl, ?_⟩))
  have mZ : lF lt S l z st0 st (n + 1) 0 := by
    refine ⟨ae, aC, h, by omega, aD, fun x y k1 k2 bl b0 => ?_⟩
    have ex : x = l + n := by omega
    have fp : y = l + n := by omega
    subst ex fp
    exact O.fu ((hS0.perm aC.perm).at_ (by rw [aC.size]; omega))
  refine UG (V2 (Vx (I := fun x (c : Option (Option Nat) × Nat × Nat) aG => c.1 = none /\ c.2.1 = x /\ lF lt S l z st0 aG x c.2.2) (Q := fun (c : Option (Option Nat) × Nat × Nat) aG => c.1 = none /\ lF lt S l z st0 aG c.2.1 c.2.2) ?step ?fin ⟨rfl, rfl, mZ⟩) ?post)
  case fin =>
    rintro ⟨o, cG, e⟩ aG ⟨rfl, rfl, D⟩
    exact ⟨rfl, D⟩
  case post =>
    rintro ⟨o, cG, e⟩ aG ⟨rfl, D⟩
    dsimp only at D ⊢
    refine d7 (fun _ => ?_) fun _ => ?_
    · rw [Xn]
      have hD := D.turn O hS0 au
      exact UG (VX (E1 O fT hS0 hD.ss hD.dN au (by have := hD.len; omega) hD.tu hD.dec))
    · exact E1 O fT hS0 D.ss D.dN au (by have := D.len; omega) D.tu D.dec
  case step =>
    rintro x ⟨o, cG, e⟩ cw lg ah ⟨rfl, aj, D⟩
    dsimp only at aj D ⊢
    subst aj
    have J := D.len
    have iV : l + z <= (arrOf cw).size := by rw [D.dN.size]; exact au
    have d0 := hS0.perm D.dN.perm
    have ih := D.ss.1.trans fT
    refine UG (p2 O ih d0 (by omega) (by omega) ?_)
    cases av : lt (at_ (arrOf cw) (l + cG)) (at_ (arrOf cw) (l + cG - 1)) with
    | true =>
      dsimp only
      rw [if_pos rfl]
      have next : ∀ cX, lF lt S l z st0 cX cG 0 -> le lt (at_ (arrOf cX) (l + cG)) (at_ (arrOf cX) (l + cG - 1)) -> lF lt S l z st0 cX (cG + 1) 0 := fun cX hD q => by
        have Ua : l + z <= (arrOf cX).size := by rw [hD.dN.size]; exact au
        have qv := hS0.perm hD.dN.perm
        refine ⟨hD.ss, hD.dN, hD.dec.snoc O qv (by omega) (by omega) q, by omega, by omega, fun x y k1 k2 bl b0 => ?_⟩
        have ex : x = l + cG := by omega
        have fp : y = l + cG := by omega
        subst ex fp
        exact O.fu (qv.at_ (by omega))
      have jO := O.ha _ _ (d0.at_ (by omega)) (d0.at_ (by omega)) av
      refine d7 (fun c => ?_) fun c => ?_
      · rw [Xn]
        refine UG (VX (UO ⟨rfl, rfl, next _ (D.turn O hS0 au) ?_⟩))
        show le lt (at_ (mirror (arrOf cw) (l + cG - (e + 1)) (l + cG) ((l + cG - (l + cG - (e + 1))) / 2)) (l + cG)) (at_ (mirror (arrOf cw) (l + cG - (e + 1)) (l + cG) ((l + cG - (l + cG - (e + 1))) / 2)) (l + cG - 1))
        rw [jm (by omega), jm (by omega), if_neg (by omega), if_pos (by omega)]
        exact O.dQ _ _ _ (d0.at_ (by omega)) (d0.at_ (by omega)) (d0.at_ (by omega)) jO (D.eq _ _ (by omega) (by omega) (by omega) (by omega))
      · have dq : e = 0 := by omega
        subst dq
        exact UO ⟨rfl, rfl, next cw D jO⟩
    | false =>
      dsimp only
      rw [if_neg (by simp)]
      refine UG (p2 O ih d0 (by omega) (by omega) ?_)
      cases bF : lt (at_ (arrOf cw) (l + cG - 1)) (at_ (arrOf cw) (l + cG)) with
      | true => dsimp only; rw [if_pos rfl]; exact UO ⟨rfl, D⟩
      | false =>
        dsimp only
        rw [if_neg (by simp)]
        refine UO ⟨rfl, rfl, D.ss, D.dN, D.dec.snoc O d0 (by omega) (by omega) bF, by show e + 1 + 1 <= cG + 1; omega, by omega, fun x y k1 k2 bl b0 => ?_⟩
        have k1 : l + (cG + 1) - (e + 1 + 1) <= x := k1
        have bl : l + (cG + 1) - (e + 1 + 1) <= y := bl
        have tt : ∀ u, l + cG - (e + 1) <= u -> u < l + cG -> le lt (at_ (arrOf cw) u) (at_ (arrOf cw) (l + cG)) /\ le lt (at_ (arrOf cw) (l + cG)) (at_ (arrOf cw) u) := fun u eg hA =>
          ⟨O.dQ _ _ _ (d0.at_ (by omega)) (d0.at_ (by omega)) (d0.at_ (by omega)) (D.eq u (l + cG - 1) eg hA (by omega) (by omega)) av, O.dQ _ _ _ (d0.at_ (by omega)) (d0.at_ (by omega)) (d0.at_ (by omega)) bF (D.eq (l + cG - 1) u (by omega) (by omega) eg hA)⟩
        by_cases rY : x = l + cG
        · by_cases oj : y = l + cG
          · subst rY oj; exact O.fu (d0.at_ (by omega))
          · subst rY; exact (tt y (by omega) (by omega)).2
        · by_cases oj : y = l + cG
          · subst oj; exact (tt x (by omega) (by omega)).1
          · exact D.eq x y (by omega) (by omega) (by omega) (by omega)
def Hx (O : et M A E s κ S lt) (aq : kindOf st = κ) (aX : fg S (arrOf st)) (au : l + z <= (arrOf st).size) (J : 1 <= z) : wpS M A E s (countRun' l z) (pT lt l z st) st := by
  rw [Hw]
  refine UG (zo O aq aX au (UE 1) J (dR.one O aX (by omega)) fun n k1 k2 bl b0 => ?_)
  dsimp only
  refine d7 (fun c => ?_) fun c => ?_
  · exact UO ⟨n, rfl, k1, k2, ⟨rfl, rfl, rfl⟩, .refl .., bl⟩
  · have c : ¬ n = z := by simpa using c
    have q := O.ha _ _ (aX.at_ (by omega)) (aX.at_ (by omega)) (b0.resolve_left c)
    refine d7 (fun bo => ?_) fun bo => ?_
    · refine UG (p2 O aq aX (by omega) (by omega) ?_)
      cases e : lt (at_ (arrOf st) l) (at_ (arrOf st) (l + n - 1)) with
      | true => dsimp only; rw [if_pos rfl]; exact UO ⟨n, rfl, k1, k2, ⟨rfl, rfl, rfl⟩, .refl .., bl⟩
      | false =>
        dsimp only
        rw [if_neg (by simp), Xn]
        refine UG (VX ?_)
        have iV : l + n <= (arrOf st).size := by omega
        have dN : dS (arrOf st) (mirror (arrOf st) l (l + n) ((l + n - l) / 2)) l (l + z) := (dS.rev iV).mono (UE _) (by omega)
        have zf : ∀ x y, l <= x -> x < l + n -> l <= y -> y < l + n -> le lt (at_ (arrOf st) x) (at_ (arrOf st) y) := fun x y eg hA ud SF =>
          O.dQ _ _ _ (aX.at_ (by omega)) (aX.at_ (by omega)) (aX.at_ (by omega)) (bl x (l + n - 1) eg (by omega) (by omega))
            (O.dQ _ _ _ (aX.at_ (by omega)) (aX.at_ (by omega)) (aX.at_ (by omega)) e (bl l y (UE _) ud SF))
        refine z6 (st0 := st) O aq aX ⟨rfl, rfl, rfl⟩ dN au (by omega) ?_
        show Dec lt (mirror (arrOf st) l (l + n) ((l + n - l) / 2)) l (n + 1)
        have mZ : Dec lt (mirror (arrOf st) l (l + n) ((l + n - l) / 2)) l n := fun x y eg hA ud => by
          rw [jm iV, jm iV, if_pos (by omega), if_pos (by omega)]
          exact zf _ _ (by omega) (by omega) (by omega) (by omega)
        refine mZ.snoc O (aX.perm dN.perm) (by rw [dN.size]; omega) (by omega) ?_
        rw [jm iV, jm iV, if_neg (by omega), if_pos (by omega)]
        exact O.dQ _ _ _ (aX.at_ (by omega)) (aX.at_ (by omega)) (aX.at_ (by omega)) q (zf _ _ (by omega) (by omega) (by omega) (by omega))
    · have o6 : n = 1 := by omega
      subst o6
      refine z6 (st0 := st) O aq aX ⟨rfl, rfl, rfl⟩ (.refl ..) au (by omega) ?_
      have mZ : Dec lt (arrOf st) l 1 := fun x y eg hA ud => by
        obtain rfl : x = l := by omega
        obtain rfl : y = x := by omega
        exact O.fu (aX.at_ (by omega))
      exact mZ.snoc O aX (by omega) (by omega) q
end
end Tm
end
section
namespace Tm
open PySem PyProof.Rows
section
variable{M:Model}{A:Around}{E:Value->Shared->Prop}{s:Shared}{κ:SortKind}{S:Keyed->Prop}{lt:Keyed->Keyed->Bool}{st st0:SortSt}{l z n ok:Nat}
def GQ (O : et M A E s κ S lt) {c : Array Keyed} (aX : fg S c) {k p : Nat} (aq : l + k < c.size) (aC : p <= k) (h : dR lt c l k) (J : ∀ x, x < p -> le lt (at_ c (l + x)) (at_ c (l + k))) (aa : ∀ x, p <= x -> x < k -> le lt (at_ c (l + k)) (at_ c (l + x))) : dR lt (bubble c (l + k) (k - p)) l (k + 1) := by
  intro x y eg hA ud
  have e : l + k - (k - p) = l + p := by omega
  rw [u6 aq (by omega), u6 aq (by omega), e]
  have g1 : ∀ u, l <= u -> u < l + p -> le lt (at_ c u) (at_ c (l + k)) := fun u a b => by have := J (u - l) (by omega); rwa [show l + (u - l) = u by omega] at this
  have g2 : ∀ u, l + p <= u -> u < l + k -> le lt (at_ c (l + k)) (at_ c u) := fun u a b => by have := aa (u - l) (by omega) (by omega); rwa [show l + (u - l) = u by omega] at this
  by_cases a : x = l + p
  · rw [if_pos a]
    by_cases b : y = l + p
    · rw [if_pos b]; exact O.fu (aX.at_ aq)
    · rw [if_neg b, if_pos (by omega)]; exact g2 _ (by omega) (by omega)
  · rw [if_neg a]
    by_cases a2 : l + p < x
    · rw [if_pos (by omega), if_neg (by omega), if_pos (by omega)]
      exact h _ _ (by omega) (by omega) (by omega)
    · rw [if_neg (by omega)]
      by_cases b : y = l + p
      · rw [if_pos b]; exact g1 _ eg (by omega)
      · rw [if_neg b]
        by_cases er : l + p < y
        · rw [if_pos (by omega)]; exact h _ _ eg (by omega) (by omega)
        · rw [if_neg (by omega)]; exact h _ _ eg hA (by omega)
def GO (O : et M A E s κ S lt) (fT : kindOf st = κ) (hS0 : fg S (arrOf st)) (au : l + n <= (arrOf st).size) (J : 1 <= ok) (aD : ok <= n) (h : dR lt (arrOf st) l ok) {Q : Bool -> SortSt -> Prop}
    (aE : ∀ aG, jk st aG -> dS (arrOf st) (arrOf aG) l (l + n) -> dR lt (arrOf aG) l n -> Q true aG) : wpS M A E s (binarySort' l n ok) Q st := by
  rw [binarySort'_eq]
  rw [Nat.max_eq_left J]
  refine UG (V2 (Vx (I := fun k (c : Option Bool × Unit) aG => c = (none, ()) /\ k <= n /\ jk st aG /\ dS (arrOf st) (arrOf aG) l (l + n) /\ dR lt (arrOf aG) l k)
    (Q := fun (c : Option Bool × Unit) aG => c = (none, ()) /\ jk st aG /\ dS (arrOf st) (arrOf aG) l (l + n) /\ dR lt (arrOf aG) l n) ?step ?fin ⟨rfl, aD, ⟨rfl, rfl, rfl⟩, .refl .., h⟩) ?post)
  case fin =>
    rintro c aG ⟨rfl, k1, k2, bl, b0⟩
    rw [Vm aD] at b0
    exact ⟨rfl, k2, bl, b0⟩
  case post =>
    rintro c aG ⟨rfl, k2, bl, b0⟩
    exact UO (aE aG k2 bl b0)
  case step =>
    rintro k c cw ih hM ⟨rfl, aK, a6, bT, c9⟩
    dsimp only
    have LO : l + n <= (arrOf cw).size := by rw [bT.size]; exact au
    have d0 := hS0.perm bT.perm
    have lq := a6.1.trans fT
    refine UG (V2 (Vx (I := fun x (c : Option Bool × Nat × Nat) aG => aG = cw /\ c.1 = none /\ c.2.1 <= c.2.2 /\ c.2.2 <= k /\ (∀ x, x < c.2.1 -> le lt (at_ (arrOf cw) (l + x)) (at_ (arrOf cw) (l + k))) /\ (∀ x, c.2.2 <= x -> x < k -> le lt (at_ (arrOf cw) (l + k)) (at_ (arrOf cw) (l + x))) /\ c.2.2 - c.2.1 + x <= k)
      (Q := fun (c : Option Bool × Nat × Nat) aG => aG = cw /\ c.1 = none /\ c.2.1 <= k /\ (∀ x, x < c.2.1 -> le lt (at_ (arrOf cw) (l + x)) (at_ (arrOf cw) (l + k))) /\ ∀ x, c.2.1 <= x -> x < k -> le lt (at_ (arrOf cw) (l + k)) (at_ (arrOf cw) (l + x))) ?step2 ?fin2
      ⟨rfl, rfl, UH _, UE _, fun x ah => absurd ah (Nat.not_lt_zero _), fun x eg hA => absurd hA (by dsimp only at eg; omega), by show k - 0 + 0 <= k; omega⟩) ?post2)
    case fin2 =>
      rintro ⟨o, a, b⟩ aG ⟨rfl, rfl, aI, a5, dn, fe, fE⟩
      dsimp only at aI a5 dn fe fE ⊢
      rw [Vm (UH _)] at fE
      have e : a = b := by omega
      subst e
      exact ⟨rfl, rfl, a5, dn, fe⟩
    case step2 =>
      rintro x ⟨o, a, b⟩ aG _ ah ⟨rfl, rfl, aI, a5, dn, fe, fE⟩
      dsimp only at aI a5 dn fe fE ⊢
      refine d7 (fun c => ?_) fun c => ?_
      · have e : a = b := by omega
        subst e
        exact UO ⟨rfl, rfl, a5, dn, fe⟩
      · have hm : (a + b) / 2 < b := by omega
        have sL : a <= (a + b) / 2 := by omega
        refine UG (p2 O lq d0 (by omega) (by omega) ?_)
        cases e : lt (at_ (arrOf aG) (l + k)) (at_ (arrOf aG) (l + (a + b) / 2)) with
        | true =>
          dsimp only
          rw [if_pos rfl]
          refine UO ⟨rfl, rfl, sL, by dsimp only; omega, dn, fun y eg hA => ?_, by dsimp only; omega⟩
          exact O.dQ _ _ _ (d0.at_ (by omega)) (d0.at_ (by omega)) (d0.at_ (by omega)) (O.ha _ _ (d0.at_ (by omega)) (d0.at_ (by omega)) e) (c9 _ _ (by omega) (by dsimp only at eg; omega) (by omega))
        | false =>
          dsimp only
          rw [if_neg (by simp)]
          refine UO ⟨rfl, rfl, by dsimp only; omega, a5, fun y eg => ?_, fe, by dsimp only; omega⟩
          exact O.dQ _ _ _ (d0.at_ (by dsimp only at eg; omega)) (d0.at_ (by omega)) (d0.at_ (by omega)) (c9 _ _ (by omega) (by dsimp only at eg; omega) (by omega)) e
    case post2 =>
      rintro ⟨o, p, b⟩ aG ⟨rfl, rfl, a5, dn, fe⟩
      dsimp only at a5 dn fe ⊢
      rw [moveDown'_eq]
      refine UG (VX (UO ⟨rfl, by omega, a6, ?_, ?_⟩))
      · show dS (arrOf st) (bubble (arrOf aG) (l + k) (l + k - (l + p))) l (l + n)
        exact bT.trans ((dS.GP (by omega) (by omega)).mono (by omega) (by omega))
      · show dR lt (bubble (arrOf aG) (l + k) (l + k - (l + p))) l (k + 1)
        rw [show l + k - (l + p) = k - p by omega]
        exact GQ O d0 (by omega) a5 c9 dn fe
end
end Tm
end
section
namespace Tm
open PySem PyProof.Rows
def Nt{n:Nat}(h:2<=n)(aa:n<128):minRun' n n 0=if n<64 then n else n / 2+n%2:=by
 obtain⟨f,rfl⟩:∃f,n=f+2:=⟨n-2,by omega⟩
 have e:minRun' (f+1+1) (f+2) 0=if f+2<64 then f+2+0 else minRun' (f+1) ((f+2) / 2) (max 0 ((f+2)%2)):=minRun'_succ _ _ _;have bf:minRun' (f+2) (f+2) 0=if f+2<64 then f+2+0 else minRun' (f+1) ((f+2) / 2) (max 0 ((f+2)%2)):=e;rw[bf]
 by_cases c:f+2<64
 .rw[if_pos c,if_pos c]
 .rw[if_neg c,if_neg c,minRun'_succ,if_pos (by omega),Nat.zero_max]
section
variable{M:Model}{A:Around}{E:Value->Shared->Prop}{s:Shared}{κ:SortKind}{S:Keyed->Prop}{lt:Keyed->Keyed->Bool}{st st0:SortSt}{d3 lo f r:Nat}
noncomputable def rO (lt : Keyed -> Keyed -> Bool) (st0 : SortSt) (N x : Nat) (c : Option Unit × Nat) (st : SortSt) : Prop := c.1 = none /\ kindOf st = kindOf st0 /\ failedOf st = none /\ dS (arrOf st0) (arrOf st) 0 N /\
  ((x = 0 /\ c.2 = 0 /\ pendingOf st = #[]) \/ (x = 1 /\ 1 <= c.2 /\ c.2 < N /\ N <= c.2 + c.2 /\ pendingOf st = #[(0, c.2, 0)] /\ dR lt (arrOf st) 0 c.2) \/
    (1 <= x /\ c.2 = N /\ ((pendingOf st = #[(0, N, 0)] /\ dR lt (arrOf st) 0 N) \/ ∃ n m dw, 0 < n /\ 0 < m /\ n + m = N /\ pendingOf st = #[(0, n, dw), (n, m, 0)] /\ dR lt (arrOf st) 0 n /\ dR lt (arrOf st) n m)))
def PU {Q : Unit -> SortSt -> Prop} (O : et M A E s κ S lt) (aq : kindOf st = κ) (hf : failedOf st = none) (aC : pendingOf st = #[]) (aX : fg S (arrOf st)) (aa : 2 <= (arrOf st).size) (su : (arrOf st).size < 128)
    (aE : ∀ aG, failedOf aG = none -> (arrOf aG).toList.Perm (arrOf st).toList -> (arrOf aG).toList.Pairwise (le lt) -> Q () aG) : wpS M A E s sortRuns' Q st := by
  rw [sortRuns'_eq]
  refine UG (W6 ?_)
  dsimp only
  have qE := Nt aa su
  generalize T1 : minRun' (arrOf st).size (arrOf st).size 0 = ko at qE ⊢
  generalize bj : (arrOf st).size = N at aa su qE ⊢
  have gT : 1 <= ko := by rw [qE]; split <;> omega
  have k7 : ko <= N := by rw [qE]; split <;> omega
  have sM : N <= ko + ko := by rw [qE]; split <;> omega
  refine UG (V2 (Vx (I := rO lt st N) (Q := fun (c : Option Unit × Nat) aG => ∃ x, 2 <= x /\ rO lt st N x c aG) ?step ?fin ⟨rfl, rfl, hf, .refl .., .inl ⟨rfl, rfl, aC⟩⟩) ?post)
  case fin =>
    intro c aG h
    rw [Vm (UH _)] at h
    exact ⟨N, aa, h⟩
  case step =>
    rintro x ⟨o, lo⟩ cw _ ah ⟨rfl, k1, k2, bl, b0⟩
    dsimp only at b0 ⊢
    have lq : kindOf cw = κ := k1.trans aq
    have d0 := aX.perm bl.perm
    have hsz : (arrOf cw).size = N := bl.size.trans bj
    refine d7 (fun c => ?_) fun c => ?_
    · refine UO ⟨x + 2, by omega, rfl, k1, k2, bl, .inr (.inr ?_)⟩
      rcases b0 with ⟨aj, av, _⟩ | ⟨aj, av, bF, _⟩ | ⟨aj, av, bF⟩
      · omega
      · omega
      · exact ⟨by omega, av, bF⟩
    · -- a run of length f at lo, and Ut TK
      have AA : ∀ f cX aG, x = 0 -> lo = 0 -> 1 <= f -> lo + f <= N -> ko <= f \/ lo + f = N -> jk cw cX -> dS (arrOf cw) (arrOf cX) lo (lo + (N - lo)) -> dR lt (arrOf cX) lo f -> kindOf aG = kindOf cX -> failedOf aG = failedOf cX -> arrOf aG = arrOf cX -> pendingOf aG = #[(lo, f, 0)] -> rO lt st N (x + 1) (none, lo + f) aG := by
        intro f cX aG aj av f1 f2 eE s2 bC e9 aK a6 bT c9
        subst av
        refine ⟨rfl, aK.trans (s2.1.trans k1), a6.trans (s2.2.2.trans k2), by rw [bT]; exact bl.trans (bC.mono (UH _) (by omega)), ?_⟩
        dsimp only
        rw [WW]
        by_cases og : f = N
        · subst og
          exact .inr (.inr ⟨by omega, rfl, .inl ⟨c9, by rw [bT]; exact e9⟩⟩)
        · exact .inr (.inl ⟨by omega, f1, by omega, by omega, c9, by rw [bT]; exact e9⟩)
      have fin2 : ∀ f cX aG dw, 1 <= lo -> N <= lo + lo -> dR lt (arrOf cw) 0 lo -> 1 <= f -> lo + f <= N -> ko <= f \/ lo + f = N -> lo < N -> ko <= lo \/ True -> N - lo <= f -> jk cw cX -> dS (arrOf cw) (arrOf cX) lo (lo + (N - lo)) -> dR lt (arrOf cX) lo f -> kindOf aG = kindOf cX -> failedOf aG = failedOf cX -> arrOf aG = arrOf cX -> pendingOf aG = #[(0, lo, dw), (lo, f, 0)] -> rO lt st N (x + 1) (none, lo + f) aG := by
        intro f cX aG dw av eB h8 f1 f2 eE bF _ v9 s2 bC e9 aK a6 bT c9
        refine ⟨rfl, aK.trans (s2.1.trans k1), a6.trans (s2.2.2.trans k2), by rw [bT]; exact bl.trans (bC.mono (UH _) (by omega)), .inr (.inr ⟨by omega, by dsimp only; omega, .inr ⟨lo, f, dw, by omega, by omega, by omega, c9, ?_, by rw [bT]; exact e9⟩⟩)⟩
        rw [bT]
        exact h8.NU bC (.inl (by omega))
      refine UG (V2 (Hx (l := lo) (z := N - lo) O lq d0 (by rw [hsz]; omega) (by omega)) ?_)
      rintro o cX ⟨m, rfl, ht, jN, s2, bC, e9⟩
      dsimp only
      refine d7 (fun bo => ?_) fun bo => ?_
      · refine UG (X3 (WU ⟨rfl, ?_⟩))
        refine UG (GO O (s2.1.trans lq) (d0.perm bC.perm) (by rw [bC.size, hsz]; omega) ht (by omega) e9 fun gA s3 d2 nA => ?_)
        rw [if_neg (by simp)]
        have tP : jk cw gA := ⟨s3.1.trans s2.1, s3.2.1.trans s2.2.1, s3.2.2.trans s2.2.2⟩
        have C8 : dS (arrOf cw) (arrOf gA) lo (lo + (N - lo)) := bC.trans (d2.mono (UE _) (by omega))
        refine UG (W6 ?_)
        rcases b0 with ⟨aj, av, bF⟩ | ⟨aj, av, bF, eB, hc, h8⟩ | ⟨aj, av, bF⟩
        · have aT : pendingOf gA = #[] := (tP).2.1.trans bF
          rw [aT]
          refine UG (VX (UO (AA (min (N - lo) ko) gA _ aj av (by omega) (by omega) (by omega) tP C8 nA rfl rfl rfl ?_)))
          show (pendingOf gA).push _ = _
          rw [aT]
          rfl
        · have aT : pendingOf gA = #[(0, lo, 0)] := (tP).2.1.trans hc
          rw [aT]
          refine UG (V2 (Vx (I := fun x (c : Option Unit × Unit) aG => aG = gA /\ c = (none, ())) (Q := fun (c : Option Unit × Unit) aG => aG = gA /\ c = (none, ())) ?a1 ?a2 ⟨rfl, rfl⟩) ?a3)
          case a2 => exact fun c aG h => h
          case a1 =>
            rintro x c aG _ _ ⟨rfl, rfl⟩
            refine UG (W6 ?_)
            rw [aT]
            exact UO ⟨rfl, rfl⟩
          case a3 =>
            rintro c aG ⟨rfl, rfl⟩
            refine UG (VX (UG (VX (UO (fin2 (min (N - lo) ko) aG _ (power' N (2 * 0 + lo) (2 * 0 + lo + lo + (min (N - lo) ko)) N) av eB h8 (by omega) (by omega) (by omega) bF (.inr trivial) (by omega) tP C8 nA rfl rfl rfl ?_)))))
            show ((pendingOf aG).modify ((pendingOf aG).size - 1) _).push _ = _
            rw [aT]
            rfl
        · omega
      · have hm : m <= N - lo := jN
        refine UG (W6 ?_)
        rcases b0 with ⟨aj, av, bF⟩ | ⟨aj, av, bF, eB, hc, h8⟩ | ⟨aj, av, bF⟩
        · have aT : pendingOf cX = #[] := (s2).2.1.trans bF
          rw [aT]
          refine UG (VX (UO (AA m cX _ aj av ht (by omega) (by omega) s2 bC e9 rfl rfl rfl ?_)))
          show (pendingOf cX).push _ = _
          rw [aT]
          rfl
        · have aT : pendingOf cX = #[(0, lo, 0)] := (s2).2.1.trans hc
          rw [aT]
          refine UG (V2 (Vx (I := fun x (c : Option Unit × Unit) aG => aG = cX /\ c = (none, ())) (Q := fun (c : Option Unit × Unit) aG => aG = cX /\ c = (none, ())) ?a1 ?a2 ⟨rfl, rfl⟩) ?a3)
          case a2 => exact fun c aG h => h
          case a1 =>
            rintro x c aG _ _ ⟨rfl, rfl⟩
            refine UG (W6 ?_)
            rw [aT]
            exact UO ⟨rfl, rfl⟩
          case a3 =>
            rintro c aG ⟨rfl, rfl⟩
            refine UG (VX (UG (VX (UO (fin2 m aG _ (power' N (2 * 0 + lo) (2 * 0 + lo + lo + m) N) av eB h8 ht (by omega) (by omega) bF (.inr trivial) (by omega) s2 bC e9 rfl rfl rfl ?_)))))
            show ((pendingOf aG).modify ((pendingOf aG).size - 1) _).push _ = _
            rw [aT]
            rfl
        · omega
  case post =>
    rintro ⟨o, lo⟩ cw ⟨x, ah, rfl, k1, k2, bl, b0⟩
    have lq : kindOf cw = κ := k1.trans aq
    have d0 := aX.perm bl.perm
    have hsz : (arrOf cw).size = N := bl.size.trans bj
    have jK : (pendingOf cw = #[(0, N, 0)] /\ dR lt (arrOf cw) 0 N) \/ ∃ n m dw, 0 < n /\ 0 < m /\ n + m = N /\ pendingOf cw = #[(0, n, dw), (n, m, 0)] /\ dR lt (arrOf cw) 0 n /\ dR lt (arrOf cw) n m := by
      rcases b0 with ⟨aj, _⟩ | ⟨aj, _⟩ | ⟨_, _, e⟩
      · omega
      · omega
      · exact e
    dsimp only
    refine UG (V2 (Vx (I := fun x (c : Option Unit × Unit) aG => c = (none, ()) /\ ((x = 0 /\ aG = cw) \/ (1 <= x /\ failedOf aG = none /\ (∃ dw, pendingOf aG = #[(0, N, dw)]) /\ (arrOf aG).toList.Perm (arrOf st).toList /\ (arrOf aG).toList.Pairwise (le lt))))
      (Q := fun (c : Option Unit × Unit) aG => c = (none, ()) /\ failedOf aG = none /\ (arrOf aG).toList.Perm (arrOf st).toList /\ (arrOf aG).toList.Pairwise (le lt)) ?step2 ?fin2 ⟨rfl, .inl ⟨rfl, rfl⟩⟩) ?post2)
    case fin2 =>
      rintro c aG ⟨rfl, ⟨e, _⟩ | ⟨_, aK, _, bT, c9⟩⟩
      · rw [Vm (UH _)] at e; omega
      · exact ⟨rfl, aK, bT, c9⟩
    case post2 =>
      rintro c aG ⟨rfl, aK, bT, c9⟩
      exact UO (aE aG aK bT c9)
    case step2 =>
      rintro y c aG _ aA ⟨rfl, ⟨rfl, rfl⟩ | ⟨_, aK, ⟨dw, a6⟩, bT, c9⟩⟩
      · refine UG (W6 ?_)
        rcases jK with ⟨aj, av⟩ | ⟨n, m, dw, hS, m0, nm, aj, av, bF⟩
        · rw [aj]
          refine UO ⟨rfl, k2, bl.perm, ?_⟩
          exact pv (by rw [hsz]; exact av.cy)
        · rw [aj]
          show wpS M A E s (do
            let b <- mergeAt' 0
            if (!b) = true then pure (ForInStep.done (some (), ())) else pure (ForInStep.yield (none, ()))) _ aG
          refine UG (Ni O lq k2 aj hS m0 (by rw [hsz]; exact nm.symm) (fun x ah => d0 _ (by simp)) av.cy bF.cy fun cX aI a5 dn fe fE => ?_)
          exact UO ⟨rfl, .inr ⟨by omega, a5, ⟨dw, by rw [dn, nm]⟩, fe.trans bl.perm, fE⟩⟩
      · refine UG (W6 ?_)
        rw [a6]
        exact UO ⟨rfl, aK, bT, c9⟩
end
end Tm
end
section
namespace Tm
open PySem PySem.W PyProof.Rows PySem.Calls
def OJ{α β:Type}(f:α->β){il m:List β}(h:il.Perm m):∀l:List α,m=l.map f->∃p:List α,p.Perm l/\il=p.map f:=by
 induction h with
 |nil=>intro l e;cases l with
  |nil=>exact⟨[],.refl _,rfl⟩
  |cons=>cases e
 |cons x _ aO =>
  intro l e;cases l with
  |nil=>cases e
  |cons y l =>
   rw[List.map_cons]at e;injection e with aj av;obtain⟨p,J,aa⟩:=aO l av;exact⟨y::p,J.cons y,by rw[List.map_cons,aj,aa]⟩
 |swap x y m =>
  intro l e
  match l,e with
  |u::v::l,e =>
   rw[List.map_cons,List.map_cons]at e;injection e with aj av;injection av with av bF;exact⟨v::u::l,.swap u v l,by rw[List.map_cons,List.map_cons,aj,av,bF]⟩
 |trans _ _ xn xo =>
  intro l e;obtain⟨p,J,aa⟩:=xo l e;obtain⟨q,aL,a8⟩:=xn p aa;exact⟨q,aL.trans J,a8⟩
structure Ord(lt:Nat->Nat->Bool):Prop where
 fu:∀x,lt x x=false
 dQ:∀x y z,lt y x=false->lt z y=false->lt z x=false
 ha:∀x y,lt x y=true->lt y x=false
section
variable{prog:Program}{w:World}{A:Around}{E:Value->Shared->Prop}{s:Shared}
noncomputable abbrev pr(ag:List Value)(i:Nat):Keyed:=(ag.getD i Value.none,ag.getD i Value.none)
def Tq(ag:List Value):(ag.toArray.zip ag.toArray).toList=(List.range ag.length).map (pr ag):=by
 apply Xc;intro i;rw[U1]
 by_cases h:i<ag.length
 .rw[Xv h];simp[List.getElem?_zip_eq_some,List.getD,UJ h]
 .rw[Vw (by simpa using h),Vw (by simpa using h)];rfl
def M6 {a : Addr} {ag : List Value} {n : Nat} {κ : SortKind} {lt : Nat -> Nat -> Bool} {P : PySem.Fin -> Shared -> Prop} (O : Ord lt) (aQ : ∀ i j, i < ag.length -> j < ag.length -> ag.getD i Value.none = ag.getD j Value.none -> ∀ k, lt i k = lt j k /\ lt k i = lt k j)
    (ar : s.heap.get? a = some (seqObj "list" ag.toArray n)) (su : ag.length < 128)
    (aq : 2 <= ag.length -> ∀ (h' : Heap), (∀ b o, b ≠ a -> s.heap.get? b = some o -> h'.get? b = some o) -> ∀ Q : SortKind -> Shared -> Prop, Q κ { s with heap := h' } -> wpAny (model prog w) A (keyKind' ag.toArray) Q E { s with heap := h' })
    (ai : 2 <= ag.length -> ∀ (h' : Heap), (∀ b o, b ≠ a -> s.heap.get? b = some o -> h'.get? b = some o) -> ∀ (i j : Nat) (bU : Bool -> Shared -> Prop), i < ag.length -> j < ag.length -> bU (lt i j) { s with heap := h' } -> kas_ask prog w A κ ag i j bU { s with heap := h' })
    (h : ∀ p : List Nat, p.Perm (List.range ag.length) -> p.Pairwise (fun i j => lt j i = false) -> ∀ (h' : Heap) (c : Nat), (∀ b o, b ≠ a -> s.heap.get? b = some o -> h'.get? b = some o) -> h'.get? a = some (seqObj "list" (p.map fun i => ag.getD i Value.none).toArray c) -> P (.done (.ret .none)) { s with heap := h' }) :
    wpAny (model prog w) A (Builtin.«list.sort» ⟨[.ref a], []⟩) P E s := by
  rw [list_sort_plain]
  have az : a < s.heap.objs.size := UK ar
  refine UA (listItems_at ar rfl ?_)
  refine UA (XY ar rfl ?_ (by rw [UT, sizeLine_eq]; omega) (UH _))
  obtain ⟨aj, k9⟩ : ∃ aj, (s.heap.update a (Obj.mapSeq fun _ => (#[] : Array Value))).get? a = some (seqObj "list" #[] aj) := ⟨_, get?_update_seq ar fun _ => #[]⟩
  refine UA (seqEpoch_at k9 rfl ?_)
  refine UA (wpAny_newTuple ?_ (by show ag.length <= _; rw [sizeLine_eq]; omega))
  refine UA (Yp ?_ (UH _))
  refine Vu ?_
  have oK : (((s.heap.update a (Obj.mapSeq fun _ => (#[] : Array Value))).push (seqObj "tuple" ag.toArray 0)).push (seqObj "list" #[] 0)).get? a = some (seqObj "list" #[] aj) := UD _ (UD _ k9)
  have keep : ∀ b o, b ≠ a -> s.heap.get? b = some o -> (((s.heap.update a (Obj.mapSeq fun _ => (#[] : Array Value))).push (seqObj "tuple" ag.toArray 0)).push (seqObj "list" #[] 0)).get? b = some o := fun b o af q =>
    UD _ (UD _ ((VN _ _ (V3 af)).trans q))
  show wpAny (model prog w) A _ P E { s with heap := ((s.heap.update a (Obj.mapSeq fun _ => (#[] : Array Value))).push (seqObj "tuple" ag.toArray 0)).push (seqObj "list" #[] 0) }
  generalize ((s.heap.update a (Obj.mapSeq fun _ => (#[] : Array Value))).push (seqObj "tuple" ag.toArray 0)).push (seqObj "list" #[] 0) = J at oK keep
  dsimp only
  have fin : ∀ p : List Nat, p.Perm (List.range ag.length) -> p.Pairwise (fun i j => lt j i = false) -> P (.done (.ret .none)) { s with heap := J.update a (Obj.mapSeq fun _ => (p.map fun i => ag.getD i Value.none).toArray) } := fun p aC ae => by
    obtain ⟨bo, ho⟩ : ∃ bo, (J.update a (Obj.mapSeq fun _ => (p.map fun i => ag.getD i Value.none).toArray)).get? a = some (seqObj "list" (p.map fun i => ag.getD i Value.none).toArray bo) := ⟨_, get?_update_seq oK fun _ => (p.map fun i => ag.getD i Value.none).toArray⟩
    exact h p aC ae _ bo (fun b o af q => (VN _ _ (V3 af)).trans (keep b o af q)) ho
  have au := Tq ag
  by_cases aa : ag.toArray.size < 2
  · rw [if_pos aa, if_pos aa]
    refine UA (wpAny_pure ?_)
    rw [StateT.run_pure]
    refine UA (wpAny_pure ?_)
    dsimp only
    refine UA (seqEpoch_at oK rfl ?_)
    have bF : (arrOf (SortSt.mk' general' (ag.toArray.zip ag.toArray) #[] 7 none)).map (·.2) = ((List.range ag.length).map fun i => ag.getD i Value.none).toArray := by
      show (ag.toArray.zip ag.toArray).map (·.2) = _
      apply X4.mp
      rw [Array.toList_map, au, List.map_map]
      rfl
    rw [bF]
    refine UA (XY oK rfl ?_ (UH _) (by rw [UT, List.length_map, List.length_range, sizeLine_eq]; omega))
    simp only [We, UC, UX]
    refine wpAny_pure (fin _ (.refl _) ?_)
    have kd : ag.length < 2 := by simpa using aa
    match ag, kd with
    | [], _ => exact List.Pairwise.nil
    | [_], _ => exact Wa _ _
  · rw [if_neg aa, if_neg aa]
    have kd : 2 <= ag.length := by simp at aa; exact aa
    refine UA (aq kd J keep _ ?_)
    have s7 : ∀ x : Keyed, ∃ i, (∃ i, i < ag.length /\ x = pr ag i) -> i < ag.length /\ x = pr ag i := fun x => by
      by_cases c : ∃ i, i < ag.length /\ x = pr ag i
      · obtain ⟨i, hi⟩ := c; exact ⟨i, fun _ => hi⟩
      · exact ⟨0, fun q => absurd q c⟩
    obtain ⟨idx, sG⟩ : ∃ idx : Keyed -> Nat, ∀ x, (∃ i, i < ag.length /\ x = pr ag i) -> idx x < ag.length /\ x = pr ag (idx x) := ⟨fun x => (s7 x).choose, fun x => (s7 x).choose_spec⟩
    have Or : et (model prog w) A E { s with heap := J } κ (fun x => ∃ i, i < ag.length /\ x = pr ag i) (fun x y => lt (idx x) (idx y)) := by
      refine ⟨fun x y st Q ah aA qC q => ?_, fun x y _ _ q => O.ha _ _ q, fun x y z _ _ _ aK a6 => O.dQ _ _ _ aK a6⟩
      obtain ⟨e8, ex⟩ := sG x ah
      obtain ⟨xy, fp⟩ := sG y aA
      rw [lt'_eq]
      refine UG (W6 ?_)
      refine UG (X3 (Xq ?_))
      have := ai kd J keep (idx x) (idx y) (fun b s' => s' = { s with heap := J } /\ b = lt (idx x) (idx y)) e8 xy ⟨rfl, rfl⟩
      unfold kas_ask at this
      have aj : ag.getD (idx x) Value.none = x.1 := (Wm Prod.fst ex).symm
      have av : ag.getD (idx y) Value.none = y.1 := (Wm Prod.fst fp).symm
      rw [aj, av] at this
      rw [qC]
      refine VK this (fun b s' ⟨ae, af⟩ => ⟨ae, ?_⟩) fun _ _ z => z.elim
      subst af
      exact UO q
    have run := PU (st := SortSt.mk' κ (ag.toArray.zip ag.toArray) #[] 7 none) (Q := fun _ aG => failedOf aG = none /\ ∃ p : List Nat, p.Perm (List.range ag.length) /\ p.Pairwise (fun i j => lt j i = false) /\ (arrOf aG).toList = p.map (pr ag)) Or rfl rfl rfl
      (fun x ah => by
        have ah : x ∈ (ag.toArray.zip ag.toArray).toList := ah
        rw [au] at ah
        obtain ⟨i, hi, rfl⟩ := List.mem_map.mp ah
        exact ⟨i, List.mem_range.mp hi, rfl⟩) (by show 2 <= (ag.toArray.zip ag.toArray).size; rw [<- Array.length_toList, au]; simpa using kd) (by show (ag.toArray.zip ag.toArray).size < 128; rw [<- Array.length_toList, au]; simpa using su) fun aG aI a5 dn => by
          have a5 : (arrOf aG).toList.Perm (ag.toArray.zip ag.toArray).toList := a5
          rw [au] at a5
          obtain ⟨p, bc, bC⟩ := OJ (pr ag) a5 _ rfl
          refine ⟨aI, p, bc, ?_, bC⟩
          rw [bC, Wt] at dn
          refine Wx (fun {i j} hi aH q => ?_) dn
          have hi := List.mem_range.mp (bc.mem_iff.mp hi)
          have aH := List.mem_range.mp (bc.mem_iff.mp aH)
          obtain ⟨e8, kX⟩ := sG (pr ag i) ⟨i, hi, rfl⟩
          obtain ⟨xy, ju⟩ := sG (pr ag j) ⟨j, aH, rfl⟩
          have q : lt (idx (pr ag j)) (idx (pr ag i)) = false := q
          rw [(aQ j (idx (pr ag j)) aH xy (Wm Prod.fst ju) i).1, (aQ i (idx (pr ag i)) hi e8 (Wm Prod.fst kX) _).2]
          exact q
    refine UA (VK run ?_ fun _ _ e => e)
    rintro ⟨⟨⟩, aG⟩ s' ⟨rfl, hf, p, bc, bC, d2⟩
    dsimp only at hf d2 ⊢
    have Ls : (arrOf aG).map (·.2) = (p.map fun i => ag.getD i Value.none).toArray := by
      apply X4.mp
      rw [Array.toList_map, d2, List.map_map]
      rfl
    rw [Ls]
    refine UA (seqEpoch_at oK rfl ?_)
    refine UA (XY oK rfl ?_ (UH _) (by rw [UT, List.length_map, bc.length_eq, List.length_range, sizeLine_eq]; omega))
    rw [hf]
    simp only [We, UC, UX]
    exact wpAny_pure (fin p bc bC)
end
end Tm
end
section
namespace gH
open PySem PySem.W PyProof.Rows PySem.Calls
section
variable{prog:Program}{w:World}{A:Around}{E:Value->Shared->Prop}{s:Shared}
noncomputable def ltI{κ:Type}(lt:κ->κ->Bool)(z:κ)(ks:List κ)(i j:Nat):Bool:=lt (ks.getD i z) (ks.getD j z)
def C4{κ:Type}{lt:κ->κ->Bool}(L:a9.gm lt)(z:κ)(ks:List κ):Tm.Ord (ltI lt z ks) where
 fu:=λx=>L.fu _
 dQ:=λx y z J aa=>a9.Cz L J aa
 ha:=λx y h=>a9.CA L h
def J5{κ:Type}(z:κ)(ks:List κ):(List.range ks.length).map (λi=>ks.getD i z)=ks:=by
 apply Xc;intro i;rw[U1]
 by_cases h:i<ks.length
 .rw[Xv h];simp[List.getD,h]
 .rw[Vw (by simpa using h),Vw (by simpa using h)];rfl
def Rk{κ:Type}{lt:κ->κ->Bool}(L:a9.gm lt)(z:κ)(ks:List κ){p:List Nat}(J:p.Perm (List.range ks.length))(aa:p.Pairwise (λi j=>ltI lt z ks j i=false)):(p.map λi=>ks.getD i z)=a9.cy lt ks:=by
 refine a9.Fq L ?_ (a9.Fp L ks) ?_
 .unfold a9.n7;rw[Wt];exact aa
 .refine((J.map λi=>ks.getD i z).trans ?_).trans (a9.ra ks).symm
  rw[J5]
def CZ{κ:Type}{lt:κ->κ->Bool}{z:κ}{ks:List κ}{ag:List Value}(h:∀i j,i<ag.length->j<ag.length->ag.getD i Value.none=ag.getD j Value.none->ks.getD i z=ks.getD j z):
  ∀i j,i<ag.length->j<ag.length->ag.getD i Value.none=ag.getD j Value.none->∀k,ltI lt z ks i k=ltI lt z ks j k/\ltI lt z ks k i=ltI lt z ks k j:=λi j hi aH e k=>by
 unfold ltI;rw[h i j hi aH e];exact⟨rfl,rfl⟩
theorem ints_get:∀{ag:List Value}{ns:List Int}(h:IntsAre ag ns)(i:Nat),i<ag.length->∃t,ag.getD i Value.none=.int (ns.getD i 0) t
 |_,_,.nil,i,h=>by simp at h
 |_,_,.cons n t _,0,_=>⟨t,rfl⟩
 |_,_,.cons n t r,i+1,h=>by
  obtain⟨u,e⟩:=ints_get r i (by simpa using h)
  exact⟨u,by simpa[List.getD] using e⟩
theorem xt:∀{ag:List Value}{ns:List Int}(h:IntsAre ag ns),ns.length=ag.length
 |_,_,.nil=>rfl
 |_,_,.cons n t r=>by simp[xt r]
def Mx{ag:List Value}{ns:List Int}(h:IntsAre ag ns):∀i j,i<ag.length->j<ag.length->ag.getD i Value.none=ag.getD j Value.none->ns.getD i 0=ns.getD j 0:=λi j hi aH e=>by
 obtain⟨t,aj⟩:=ints_get h i hi;obtain⟨u,av⟩:=ints_get h j aH;rw[aj,av]at e;injection e
def Gq{ag:List Value}{ns:List Int}(dA:IntsAre ag ns)(i j:Nat)(bU:Bool->Shared->Prop)(hi:i<ag.length)(aH:j<ag.length)(h:bU (ltI a9.ltI 0 ns i j) s):kas_ask prog w A oneType' ag i j bU s:=by
 obtain⟨t,aj⟩:=ints_get dA i hi;obtain⟨u,av⟩:=ints_get dA j aH;unfold kas_ask;rw[aj,av];exact kat_lt_int h
def MD{ag:List Value}{ns:List Int}(dA:IntsAre ag ns)(aa:2<=ag.length){Q:SortKind->Shared->Prop}(h:Q oneType' s):wpAny (model prog w) A (keyKind' ag.toArray) Q E s:=by
 obtain⟨uv,uw,rest,rfl⟩:∃uv uw rest,ag=uv::uw::rest:=by
  match ag,aa with
  |uv::uw::rest,_=>exact⟨uv,uw,rest,rfl⟩
 rw[keyKind_ints dA];exact wpAny_pure h
noncomputable def iH(h:Heap):List Value->List (List Int)->Prop
 |[],[]=>True
 |v::ag,k::ks=>(∃a o xs n,v=.ref a/\h.get? a=some o/\o.cls=.type "tuple"/\o.data=.seq xs n/\IntsAre xs.toList k/\k≠[])/\iH h ag ks
 |_,_=>False
theorem iH.kept{h h':Heap}(k:∀b o,h.get? b=some o->h'.get? b=some o):∀{ag:List Value}{ks:List (List Int)},iH h ag ks->iH h' ag ks
 |[],[],_=>trivial
 |v::ag,x::ks,⟨⟨a,o,xs,n,e,ar,r⟩,t⟩=>⟨⟨a,o,xs,n,e,k a o ar,r⟩,t.kept k⟩
theorem iH.get{h:Heap}:∀{ag:List Value}{ks:List (List Int)},iH h ag ks->∀i,i<ag.length->∃a o xs n,ag.getD i Value.none=.ref a/\h.get? a=some o/\o.cls=.type "tuple"/\o.data=.seq xs n/\IntsAre xs.toList (ks.getD i [])/\ks.getD i []≠[]
 |[],[],_,i,hi=>by simp at hi
 |v::ag,x::ks,⟨q,t⟩,0,_=>q
 |v::ag,x::ks,⟨q,t⟩,i+1,hi=>by
  have:=t.get i (by simpa using hi)
  simpa[List.getD] using this
def L8{us:List Value}{xs:List Int}(h:IntsAre us xs):∀{ys:List Int},IntsAre us ys->xs=ys:=by
 induction h with
 |nil=>intro ys q;cases q;rfl
 |cons n t _ aO =>
  intro ys q;cases q with
  |cons _ _ q=>rw[aO q]
def MC{h:Heap}{ag:List Value}{ks:List (List Int)}(H:iH h ag ks):∀i j,i<ag.length->j<ag.length->ag.getD i Value.none=ag.getD j Value.none->ks.getD i []=ks.getD j []:=λi j hi aH e=>by
 obtain⟨a,o,xs,n,aj,aK,_,a6,bT,_⟩:=H.get i hi;obtain⟨n8,bN,Tj,cG,av,tK,_,kx,Pk,_⟩:=H.get j aH;rw[aj,av]at e;injection e with e;subst e;rw[aK]at tK;cases tK;rw[a6]at kx;cases kx;exact L8 bT Pk
theorem iH.Cf {h : Heap} : ∀ {ag : List Value} {ks : List (List Int)}, iH h ag ks -> ∃ bK : List Value, KatTups h ag bK /\ bK.length = ag.length /\ ∀ v ∈ bK, ∃ i t, v = Value.int i t
  | [], [], _ => ⟨[], KatTups.nil, rfl, by simp⟩
  | v :: ag, x :: ks, ⟨⟨a, o, xs, n, e, ar, ai, hd, dA, dg⟩, t⟩ => by
    subst e
    obtain ⟨bK, J, aa, aL⟩ := t.Cf
    obtain ⟨i, u, hf⟩ : ∃ i u, xs[0]? = some (Value.int i u) := by
      cases q : xs.toList with
      | nil => rw [q] at dA; cases dA; exact absurd rfl dg
      | cons y ys =>
        rw [q] at dA
        cases dA with
        | cons n t r => exact ⟨n, t, by have : xs.toList[0]? = some (Value.int n t) := by rw [q]; rfl
                                        simpa using this⟩
    refine ⟨Value.int i u :: bK, KatTups.cons ar ai hd hf J, by simp [aa], fun z au => ?_⟩
    rcases UI.mp au with rfl | au
    · exact ⟨i, u, rfl⟩
    · exact aL z au
noncomputable def nG(fin:Bool):List Int->List Int->Bool
 |x::xs,y::ys=>if x=y then nG fin xs ys else decide (x<y)
 |_,_=>fin
theorem Cv:∀(xs ys:List Int),nG (decide (xs.length<ys.length)) xs ys=a9.lexLt xs ys
 |[],[]=>rfl
 |[],_::_=>rfl
 |_::_,[]=>rfl
 |x::xs,y::ys=>by
  have e:decide ((x::xs).length<(y::ys).length)=decide (xs.length<ys.length):=by simp
  rw[e];simp only[nG,a9.lexLt,Cv xs ys]
theorem Cg{fin:Bool}{Q:Bool->Shared->Prop}:∀{us ag:List Value}{xs ys:List Int}(i:Nat),IntsAre us xs->IntsAre ag ys->Q (nG fin xs ys) s->KatLex prog w A true fin Q (us.zip ag) i s
 |_,_,_,_,i,.nil,_,h=>by simpa[nG] using kat_nil (prog:=prog) (w:=w) (A:=A) (b:=true) (i:=i) h
 |_,_,_,_,i,.cons x t r,.nil,h=>by simpa[nG] using kat_nil (prog:=prog) (w:=w) (A:=A) (b:=true) (i:=i) h
 |_,_,_,_,i,.cons x t r,.cons y u q,h=>by
  refine kat_cons (wpAny_eqBool_int ?_);simp only[nG]at h
  by_cases e:x=y
  .subst e;rw[if_pos rfl]at h;rw[show(x==x)=true by simp]
   exact kat_yes (Cg (i+1) r q h)
  .rw[if_neg e]at h;rw[show(x==y)=false by simpa using e]
   refine kat_no ?_;cases af:(true&&i==0) with
   |true=>exact oneLt_int h
   |false=>exact kat_one _ _ (lt_int (show W.BoolBack Q (Value.bool (decide (x<y))) s from h))
def Gr{ag:List Value}{ks:List (List Int)}(cF:iH s.heap ag ks)(i j:Nat)(bU:Bool->Shared->Prop)(hi:i<ag.length)(aH:j<ag.length)(h:bU (ltI a9.lexLt [] ks i j) s):kas_ask prog w A (tuples' true) ag i j bU s:=by
 obtain⟨a,o,xs,n,aj,ar,ai,hd,dA,_⟩:=cF.get i hi;obtain⟨b,bN,ys,cG,av,dh,c0,f7,Ba,_⟩:=cF.get j aH;unfold kas_ask;rw[aj,av];refine kat_lt ar hd dh f7 (Cg 0 dA Ba ?_);have b7:(ks.getD i []).length=xs.size:=by rw[xt dA,Array.length_toList]
 have dt:(ks.getD j []).length=ys.size:=by rw[xt Ba,Array.length_toList]
 rw[<- b7,<- dt,Cv];exact h
def ME{ag:List Value}{ks:List (List Int)}(cF:iH s.heap ag ks)(aa:2<=ag.length){Q:SortKind->Shared->Prop}(h:Q (tuples' true) s):wpAny (model prog w) A (keyKind' ag.toArray) Q E s:=by
 obtain⟨bK,k1,k2,bl⟩:=cF.Cf;refine kat_kind (T:=Value.type "int") k1 (by omega) (λv aQ=>?_) (by decide) (by rw[show(Value.type "int" != Value.type "tuple")=true by decide];exact h)
 obtain⟨i,t,rfl⟩:=bl v aQ;exact Looks.of_pure rfl
end
end gH
end
section
namespace eN
open Den a9
variable{pg:dk}{Φ:dC}
noncomputable def ml:D->Bool
 |.int _=>true
 |_=>false
section
variable{α:Type}{lt:α->α->Bool}
noncomputable def jl(lt:α->α->Bool):List α->Bool
 |a::b::r=>lt a b&&jl lt (b::r)
 |_=>true
theorem uV(L:gm lt):∀xs:List α,jl lt xs=true<->cI lt xs
 |[]=>⟨λ_=>.nil,λ_=>rfl⟩
 |[a]=>⟨λ_=>Wa _ _,λ_=>rfl⟩
 |a::b::r=>by
  simp only[jl,UB,uV L (b::r)];constructor
  .rintro⟨J,aa⟩;refine U7.mpr ⟨λz au=>?_,aa⟩
   rcases UI.mp au with e|e
   .subst e;exact J
   .exact L.dQ J ((U7.mp aa).1 z e)
  .intro h;exact⟨(U7.mp h).1 b List.mem_cons_self,(U7.mp h).2⟩
def tR{n d k:Nat}(h:k<=n):bH n d (some (k:Int))=k:=by
 have J:¬((k:Int)<0):=by omega
 have aa:¬((n:Int)<(k:Int)):=by omega
 simp only[bH,if_neg J,if_neg aa];omega
def DS{n d k:Nat}(h:n<k):bH n d (some (k:Int))=n:=by
 have J:¬((k:Int)<0):=by omega
 have aa:((n:Int)<(k:Int)):=by omega
 simp only[bH,if_neg J,if_pos aa]
def z1{β:Type}(xs:List β)(k:Nat):cut xs (some (k:Int)) none=xs.drop k:=by
 unfold cut
 by_cases h:k<=xs.length
 .rw[tR h];show List.take (xs.length-k) (xs.drop k)=_;rw[VC (by simp)]
 .rw[DS (by omega),List.drop_of_length_le (UE _),List.drop_of_length_le (by omega)]
  simp
def Hz{β:Type}(xs:List β)(k:Nat):cut xs none (some (k:Int))=xs.take k:=by
 unfold cut
 by_cases h:k<=xs.length
 .rw[tR h];simp[bH]
 .rw[DS (by omega)];simp only[bH,List.drop_zero,Nat.sub_zero]
  rw[VC (UE _),VC (by omega)]
end
theorem xu:∀xs:List D,(∃c:List Int,xs=c.map .int)\/xs.all ml=false
 |[]=>.inl ⟨[],rfl⟩
 |x::xs=>by
  rcases xu xs with⟨c,rfl⟩|h
  .cases x with
   |int i=>exact .inl ⟨i::c,rfl⟩
   |_=>exact .inr (by simp[ml])
  .exact .inr (by simp[h])
noncomputable def IsCell(m:Int)(c:List Int):Prop:=c≠[]/\(∀x∈c,0<=x/\x<m)/\cI ltI c
noncomputable instance (m:Int) (c:List Int):Decidable (IsCell m c):=by unfold IsCell cI;infer_instance
noncomputable def eY(m:Int):D->Bool
 |.tup xs=>match xs.all ml with|true=>decide (IsCell m (xs.map λd=>match d with|.int i=>i|_=>0))|false=>false
 |_=>false
def L6(c:List Int):((c.map D.int).map λd=>match d with|.int i=>i|_=>0)=c:=by
 induction c with
 |nil=>rfl
 |cons x c aO=>simp only[List.map_cons,aO]
def F0(c:List Int):(c.map D.int).all ml=true:=by simp[V7,ml]
def Ma{m:Int}{xs:List D}(h:xs.all ml=false):eY m (.tup xs)=false:=by
 simp only[eY,h]
def xv(m:Int)(c:List Int):eY m (ay c)=decide (IsCell m c):=by
 simp only[eY,ay,F0,L6]
def xw (m : Int) (d : D) : eY m d = true <-> ∃ c, d = ay c /\ IsCell m c := by
  constructor
  · intro h
    cases d with
    | tup xs =>
      rcases xu xs with ⟨c, rfl⟩ | q
      · have := xv m c
        unfold ay at this
        rw [this] at h
        exact ⟨c, rfl, Wf h⟩
      · rw [Ma q] at h; cases h
    | _ => cases h
  · rintro ⟨c, rfl, h⟩
    rw [xv]; exact decide_eq_true h
def AZ{α:Type}(xs:List α)(k:Nat):hJ xs (k:Int)=xs[k]?:=by
 unfold hJ iX;rw[if_pos (by omega)]
 by_cases h:k<xs.length
 .rw[if_pos (by omega)];simp
 .rw[if_neg (by omega)];simp;omega
noncomputable def rU(m:Int):D->Bool
 |.tup xs=>xs.all (eY m)
 |_=>false
def zi (m : Int) (d : D) : rU m d = true <-> ∃ cs : List (List Int), d = .tup (cs.map ay) /\ ∀ c ∈ cs, IsCell m c := by
  constructor
  · intro h
    cases d with
    | tup xs =>
      have h : xs.all (eY m) = true := h
      induction xs with
      | nil => exact ⟨[], rfl, by simp⟩
      | cons x xs aO =>
        simp only [List.all_cons, UB] at h
        obtain ⟨cs, e, ai⟩ := aO h.2 h.2
        obtain ⟨c, rfl, J⟩ := (xw m x).mp h.1
        injection e with e
        refine ⟨c :: cs, by rw [e]; rfl, fun z au => ?_⟩
        rcases UI.mp au with rfl | au
        · exact J
        · exact ai z au
    | _ => cases h
  · rintro ⟨cs, rfl, h⟩
    show (cs.map ay).all (eY m) = true
    rw [V7, UR]
    intro c ai
    exact (xw m _).mpr ⟨c, rfl, h c ai⟩
noncomputable def lies(c o:List Int):Bool:=c.all λx=>decide (x∈o)
def td{c o:List Int}:lies c o=true<->∀x∈c,x∈o:=by simp[lies]
def JL{α β:Type}(f:α->β)(xs:List α):xs.filterMap (λx=>some (f x))=xs.map f:=by
 induction xs with
 |nil=>rfl
 |cons x xs aO=>simp
def JK{α β:Type}(q:α->Bool)(f:α->β)(xs:List α):xs.filterMap (λx=>if q x then some (f x) else none)=(xs.filter q).map f:=by
 induction xs with
 |nil=>rfl
 |cons x xs aO=>cases h:q x<;>simp[h,aO]
noncomputable def bY(m:Int):List Int:=(List.range m.toNat).map λ(k:Nat)=>(k:Int)
def pd(m:Int):ek 0 m=(bY m).map .int:=by
 unfold ek bY;rw[List.map_map];have:(m-0).toNat=m.toNat:=by omega
 rw[this];apply VH;intro k _;simp
def oV{m x:Int}:x∈bY m<->0<=x/\x<m:=by
 unfold bY;rw[List.mem_map];constructor
 .rintro⟨k,aq,rfl⟩;have:=List.mem_range.mp aq;omega
 .rintro⟨J,aa⟩;exact⟨x.toNat,List.mem_range.mpr (by omega),by omega⟩
noncomputable def fZ(m:Int)(ts:List (List Int)):Bool:=(bY m).all λk=>ts.any (lies [k])
def zX{m:Int}{ts:List (List Int)}:fZ m ts=true<->∀x,0<=x->x<m->∃t∈ts,x∈t:=by
 unfold fZ;simp only[UR,Xo,td,oV,Vi,forall_eq];exact⟨λh x a b=>h x ⟨a,b⟩,λh x pZ=>h x pZ.1 pZ.2⟩
def DL{m:Int}(h:-1000<=m)(h':m<=1000):nP m=true:=by unfold nP;simp;omega
def ly{i j:Int}(J:-1000<=i)(aa:i<=1000)(aL:-1000<=j)(a8:j<=1000):iv i j=.ok (ek i j):=by
 have cP:(j-i).toNat<=1000000:=by omega
 unfold iv;rw[DL J aa,DL aL a8,decide_eq_true cP];rfl
def JF{α:Type}{p:α->Bool}{c:α}(pre:List α)(h:p c=true):(pre++[c]).filter p=pre.filter p++[c]:=by rw[Wn];simp[h]
def JE{α:Type}{p:α->Bool}{c:α}(pre:List α)(h:p c=false):(pre++[c]).filter p=pre.filter p:=by rw[Wn];simp[h]
noncomputable def hY(cs:List (List Int)):List (List Int):=(cy lexLt (cE cs)).filter λc=>!((cy lexLt (cE cs)).filter λo=>decide (c.length<o.length)).any (lies c)
def kQ:SZ=16777216:=rfl
noncomputable def fb(m:Int)(ts:List (List Int)):D:=.tup [.int m,.tup (ts.map ay)]
noncomputable def v8(d:D):Prop:=∀m ts,d=fb m ts->(∀c∈ts,IsCell m c)->(cE ts).length<=75
end eN
end
section
namespace eV
open Den a9 eN
variable{pg:dk}{Φ:dC}
noncomputable def hU(lo hi:Int):D->Bool
 |.int i=>decide (lo<=i)&&decide (i<=hi)
 |_=>false
def NP(d:D)(lo hi:Int):el pg Φ ⟨3,0,cb.vk⟩ [d,.int lo,.int hi]=.ok (.aM (hU lo hi d)):=by
 cases d with
 |int i =>
  simp only[Den.bA,Nat.reduceAdd,cb.vk,L1,hU];have e:iW pg.up (.int i) .bool=.ok false:=rfl;simp only[Den.bA,Nat.reduceAdd,e]
  by_cases h:lo<=i
  .simp only[Den.bA,Nat.reduceAdd,decide_eq_true h,Bool.true_and]
  .simp only[Den.bA,Nat.reduceAdd,decide_eq_false h,Wz]
 |_=>rfl
mutual
theorem Ef:∀(n:Nat)(d:D),cQ n d=true->cQ (n+1) d=true
 |n,.cU,_=>rfl
 |n,.aM _,_=>rfl
 |n,.int _,_=>rfl
 |0,.str _,h=>h
 |n+1,.str _,h=>h
 |0,.tup _,h=>by cases h
 |n+1,.tup xs,h=>ja n xs h
 |0,.lst _,h=>by cases h
 |n+1,.lst xs,h=>ja n xs h
 |0,.c2 _,h=>by cases h
 |n+1,.c2 _,h=>by cases h
 |0,.eD _,h=>by cases h
 |n+1,.eD _,h=>by cases h
theorem ja:∀(n:Nat)(xs:List D),xs.all (cQ n)=true->xs.all (cQ (n+1))=true
 |_,[],_=>rfl
 |n,x::xs,h=>by
  simp only[List.all_cons,UB]at h ⊢;exact⟨Ef n x h.1,ja n xs h.2⟩
end
def Ee{xs:List D}(h:xs.all (cQ 50)=true):xs.all (cQ 59)=true:=by
 have:=ja 58 xs (ja 57 xs (ja 56 xs (ja 55 xs (ja 54 xs (ja 53 xs (ja 52 xs (ja 51 xs (ja 50 xs h))))))));exact this
def Ec{xs:List D}{p:D->Bool}{n:Nat}(h:xs.all (cQ n)=true):(xs.filterMap λd=>if p d=true then none else some d).all (cQ n)=true:=by
 rw[UR]at h ⊢;intro d hd;obtain⟨x,ah,e⟩:=WE.mp hd
 split at e
 .cases e
 .cases e;exact h _ ah
def wh{α β:Type}(p:α->Option β)(xs:List α):(xs.filterMap p).isEmpty=xs.all λx=>(p x).isNone:=by
 induction xs with
 |nil=>rfl
 |cons x xs aO=>simp only[List.filterMap_cons,List.all_cons];cases p x<;>simp[aO]
def xl{c:List Int}{k:Nat}{x:Int}(h:c[k]?=some x):jJ (.tup (c.map .int)) (.int (k:Int))=.ok (.int x):=by
 rw[BZ,AZ,U1,h];rfl
def PB(n:Nat):ek 1 (n:Int)=(List.range (n-1)).map λ(k:Nat)=>D.int ((k:Int)+1):=by
 unfold ek;have:((n:Int)-1).toNat=n-1:=by omega
 rw[this];apply VH;intro k _;congr 1;omega
def Hr{g:D->R (Option D)}{p:Nat->Option D}{f:Nat->D}{ks:List Nat}(h:∀k∈ks,g (f k)=.ok (p k)):df g (ks.map f)=.ok (ks.filterMap p):=by
 induction ks with
 |nil=>rfl
 |cons c cs aO =>
  simp only[List.map_cons,df,h c List.mem_cons_self,R.iu,aO λy aA=>h y (List.mem_cons_of_mem _ aA),List.filterMap_cons]
  cases p c<;>rfl
theorem zd:∀(c:List Int),jl ltI c=(List.range (c.length-1)).all λk=>decide (c.getD k 0<c.getD (k+1) 0)
 |[]=>rfl
 |[_]=>rfl
 |a::b::r=>by
  have e:(a::b::r).length-1=(b::r).length-1+1:=by simp
  rw[e,Xf,List.all_cons,V7];simp only[jl,zd (b::r)];rfl
def MM(c:List Int)(m:Int)(hlen:c.length<=1000):ev pg Φ [some (D.tup (c.map .int)),some (D.int m)] (.cmp .eq (.comp (.var 2) 0 (.pj (.lit (.int 1)) (.prim .len (.var 0))) (.some (.cmp .ge (.idx (.var 0) (.bin .sub (.var 2) (.lit (.int 1)))) (.idx (.var 0) (.var 2))))) (.lst (.nil)))=.ok (.aM (jl ltI c)):=by
 have bF:df (elem pg Φ [some (D.tup (c.map .int)),some (D.int m)] (.var 2) 0 (.some (.cmp .ge (.idx (.var 0) (.bin .sub (.var 2) (.lit (.int 1)))) (.idx (.var 0) (.var 2))))) ((List.range (c.length-1)).map λ(k:Nat)=>D.int ((k:Int)+1))
   = .ok ((List.range (c.length-1)).filterMap λk=>if decide (c.getD k 0<c.getD (k+1) 0) then none else some (D.int ((k:Int)+1))):=Hr λk aq=>by
  have aq:=List.mem_range.mp aq;have g1:c[k]?=some (c.getD k 0):=by rw[UJ (by omega)];simp[List.getD,UJ (show k<c.length by omega)]
  have g2:c[k+1]?=some (c.getD (k+1) 0):=by rw[UJ (by omega)];simp[List.getD,UJ (show k+1<c.length by omega)]
  have e8:=xl g1;have e9:=xl g2;have hc:(k:Int)+1-1=(k:Int):=by omega
  have h8:(k:Int)+1=((k+1:Nat):Int):=by omega
  simp only[Den.bA,Nat.reduceAdd,hc,e8];rw[h8,e9];simp only[Den.bA,Nat.reduceAdd]
  by_cases z:c.getD k 0<c.getD (k+1) 0
  .have fm:¬c.getD (k+1) 0<=c.getD k 0:=by omega
   simp only[Den.bA,Nat.reduceAdd,decide_eq_true z,decide_eq_false fm]
  .have fm:c.getD (k+1) 0<=c.getD k 0:=by omega
   simp only[Den.bA,Nat.reduceAdd,decide_eq_false z,decide_eq_true fm]
 have aZ:=ly (i:=1) (j:=((c.length:Nat):Int)) (by omega) (by omega) (by omega) (by omega)
 simp only[Den.bA,Nat.reduceAdd,List.length_map,aZ,PB,bF,qi (ys:=(List.range (c.length-1)).filterMap λk=>if decide (c.getD k 0<c.getD (k+1) 0) then none else some (D.int ((k:Int)+1))) (by rw[UR];intro d hd;obtain⟨k,_,aq⟩:=WE.mp hd;split at aq<;>cases aq;exact ro _ _),wh]
 have eB:((List.range (c.length-1)).all λk=>(if decide (c.getD k 0<c.getD (k+1) 0)=true then(none:Option D) else some (D.int ((k:Int)+1))).isNone)=jl ltI c:=by
  rw[zd];exact Wm (λp=>List.all (List.range (c.length-1)) p) (funext λk=>by generalize decide (c.getD k 0<c.getD (k+1) 0)=b;cases b<;>rfl)
 rw[eB]
def MP {f : Nat} (hf : ∀ d (lo hi : Int), Φ f [d, .int lo, .int hi] = .ok (.aM (hU lo hi d))) (d : D) (m : Int) (hlen : ∀ xs, d = .tup xs -> xs.length <= 1000 /\ xs.all (cQ 50) = true) : el pg Φ ⟨2, 0, cb.vf f⟩ [d, .int m] = .ok (.aM (eY m d)) := by
  cases d with
  | tup xs =>
    obtain ⟨hlen, mi⟩ := hlen xs rfl
    simp only [Den.bA, Nat.reduceAdd, cb.vf, r7 (Ee mi)]
    cases xs with
    | nil => rfl
    | cons x xs =>
      have dq : (x :: xs).isEmpty = false := rfl
      have aj : df (elem pg Φ [some (D.tup (x :: xs)), some (D.int m)] (.var 2) 0 (.some (.not (.call f (.cons (.var 2) (.cons (.lit (.int 0)) (.cons (.bin .sub (.var 1) (.lit (.int 1))) .nil))))))) (x :: xs) = .ok ((x :: xs).filterMap fun d => if hU 0 (m - 1) d then none else some d) :=
        vJ fun d _ => by
          simp only [Den.bA, Nat.reduceAdd, hf]
          cases hU 0 (m - 1) d <;> simp only [Den.bA, Nat.reduceAdd]
      simp only [Den.bA, Nat.reduceAdd, dq, aj, qi (Ec (Ee mi)), wh]
      have av : ((x :: xs).all fun d => (if hU 0 (m - 1) d = true then (none : Option D) else some d).isNone) = (x :: xs).all (hU 0 (m - 1)) := by
        congr 1; funext d; cases hU 0 (m - 1) d <;> rfl
      rw [av]
      cases q : (x :: xs).all (hU 0 (m - 1))
      · -- one is no Ur number
        simp only [Den.bA, Nat.reduceAdd]
        have : eY m (.tup (x :: xs)) = false := by
          cases cL : eY m (.tup (x :: xs)) with
          | false => rfl
          | true =>
            obtain ⟨c, e, ai⟩ := (xw _ _).mp cL
            unfold ay at e; injection e with e
            rw [e, V7] at q
            have : c.all (hU 0 (m - 1) ∘ D.int) = true := by
              rw [UR]; intro z au
              have := ai.2.1 z au
              simp [hU]; omega
            rw [this] at q; cases q
        rw [this]
      · -- all are
        have dA : (x :: xs).all ml = true := by
          rw [UR] at q ⊢
          intro z au
          have := q z au
          cases z <;> simp [hU, ml] at *
        rcases xu (x :: xs) with ⟨c, e⟩ | h
        · rw [e] at q hlen ⊢
          have Ky : c ≠ [] := by rintro rfl; simp at e
          rw [List.length_map] at hlen
          simp only [Den.bA, Nat.reduceAdd, MM c m hlen]
          have Ic : eY m (.tup (c.map .int)) = _ := xv m c
          have Ie : decide (IsCell m c) = jl ltI c := by
            rw [Yg, uV jL, decide_eq_true_iff]
            refine ⟨fun h => h.2.2, fun h => ?_⟩
            refine ⟨Ky, fun z au => ?_, h⟩
            rw [V7, UR] at q
            have := q z au
            simp [hU] at this
            omega
          rw [Ic, Ie]
        · rw [dA] at h; cases h
  | _ => rfl
end eV
end
section
namespace eV
open Den a9 eN
variable{pg:dk}{Φ:dC}
def zV{α:Type}{g:D->R (Option D)}{p:α->Option D}{f:α->D}{ks:List α}(h:∀k∈ks,g (f k)=.ok (p k)):df g (ks.map f)=.ok (ks.filterMap p):=by
 induction ks with
 |nil=>rfl
 |cons c cs aO =>
  simp only[List.map_cons,df,h c List.mem_cons_self,R.iu,aO λy aA=>h y (List.mem_cons_of_mem _ aA),List.filterMap_cons]
  cases p c<;>rfl
def mW{α:Type}{g:D->R (Option D)}{q:α->Bool}{h:α->D}{f:α->D}{ks:List α}(e:∀k∈ks,g (f k)=.ok (if q k then some (h k) else none)):df g (ks.map f)=.ok ((ks.filter q).map h):=by
 rw[zV e,JK]
def mX{α:Type}{g:D->R (Option D)}{h:α->D}{f:α->D}{ks:List α}(e:∀k∈ks,g (f k)=.ok (some (h k))):df g (ks.map f)=.ok (ks.map h):=by
 rw[zV (p:=λk=>some (h k)) e,JL]
def D4(c:List Int):dP (ay c)=.ok (c.map .int):=rfl
def AF{α:Type}(q:α->Bool)(xs:List α):(xs.filter q).isEmpty=xs.all λx=>!q x:=by
 induction xs with
 |nil=>rfl
 |cons x xs aO=>cases h:q x<;>simp[h,aO]
def qZ{α β:Type}(f:α->β)(xs:List α):(xs.map f).isEmpty=xs.isEmpty:=by cases xs<;>rfl
def MR(c o:List Int):el pg Φ ⟨2,0,cb.vh⟩ [ay c,ay o]=.ok (.aM (lies c o)):=by
 have aj:df (elem pg Φ [some (ay c),some (ay o)] (.var 2) 0 (.some (.cmp .lr (.var 2) (.var 1)))) (c.map .int)=.ok ((c.filter λx=>!decide (x∈o)).map .int):=mW λx _=>by
  simp only[Den.bA,Nat.reduceAdd];unfold ay;simp only[Den.bA,Nat.reduceAdd,Nm];cases decide (x∈o)<;>simp only[Den.bA,Nat.reduceAdd]
 simp only[Den.bA,Nat.reduceAdd,cb.vh,D4,aj,qi (ys:=(c.filter λx=>!decide (x∈o)).map .int) (by simp[V7,ro]),qZ,AF,lies,Bool.not_not]
noncomputable def nI(cs:List (List Int)):List (List Int):=(cy lexLt (cE cs)).filter λc=>cs.all λo=>!(!decide (c=o)&&lies c o)
def MV {f : Nat} (hf : ∀ c o : List Int, Φ f [ay c, ay o] = .ok (.aM (lies c o))) {d : D} {cs : List (List Int)} (hd : dP d = .ok (cs.map ay)) (aD : ∀ c ∈ cs, c ≠ []) (fR : (cE cs).length <= 75) :
    el pg Φ ⟨1, 2, cb.vo f⟩ [d] = .ok (.tup ((nI cs).map ay)) := by
  simp only [Den.bA, Nat.reduceAdd, cb.vo, hd, ED aD fR]
  have hlen : (cy lexLt (cE cs)).length <= 75 := by rw [qS]; exact fR
  unfold nI
  generalize cy lexLt (cE cs) = ds at *
  obtain ⟨dj, e, x, he⟩ := l5 (f := ay) (g := turn pg Φ 0 [2] (.cons (.iff (.cmp .eq (.comp (.var 3) 0 (.seq (.var 0)) (.some (.and (.cmp .ne (.var 2) (.var 3)) (.call f (.cons (.var 2) (.cons (.var 3) (.nil))))))) (.lst (.nil))) (.cons (.app 1 (.var 2)) (.nil)) (.nil)) (.nil)))
    (fun bt C => ∃ (x : Option D), C = [some d, some (.lst ((bt.filter fun c => cs.all fun o => !(!decide (c = o) && lies c o)).map ay)), x])
    ds [some d, some (.lst []), none] ⟨none, rfl⟩ (fun pre c post C aC ⟨x, dA⟩ => by
      subst dA
      have aj : ∀ z, df (elem pg Φ [some d, z, some (ay c)] (.var 3) 0 (.some (.and (.cmp .ne (.var 2) (.var 3)) (.call f (.cons (.var 2) (.cons (.var 3) (.nil))))))) (cs.map ay) = .ok ((cs.filter fun o => !decide (c = o) && lies c o).map ay) := fun z => mW fun o _ => by
        simp only [Den.bA, Nat.reduceAdd, IG, hf]
        cases decide (c = o) <;> simp only [Den.bA, Nat.reduceAdd, hf, Wz, Bool.true_and]
        cases lies c o <;> simp only [Den.bA, Nat.reduceAdd]
      have aw : ((pre.filter fun c => cs.all fun o => !(!decide (c = o) && lies c o)).map ay).length < SZ := by
        have J := List.length_filter_le (fun c => cs.all fun o => !(!decide (c = o) && lies c o)) pre
        have aa : pre.length <= ds.length := by rw [aC]; simp
        rw [List.length_map, kQ]; omega
      simp only [Den.bA, Nat.reduceAdd, hd, aj, qi (pl 58 _), qZ, AF]
      cases q : (cs.all fun o => !(!decide (c = o) && lies c o))
      · refine ⟨_, by simp only [Den.bA, Nat.reduceAdd]; rfl, some (ay c), ?_⟩
        rw [JE pre (by rw [q])]
      · refine ⟨_, by simp only [Den.bA, Nat.reduceAdd, u2, if_pos aw]; rfl, some (ay c), ?_⟩
        rw [JF pre (by rw [q]), List.map_append]; rfl)
  rw [e, he]
  simp only [Den.bA, Nat.reduceAdd]
def Gn{c o:List Int}(ai:cI ltI c)(ar:cI ltI o)(h:∀x∈c,x∈o)(ne:c≠o):c.length<o.length:=by
 have J:c.length<=o.length:=hT (ai.nodup jL) h;rcases Nat.lt_or_ge c.length o.length with q|q
 .exact q
 .exfalso;apply ne;refine j3 jL ai ar λz=>⟨h z,λau=>?_⟩
  by_cases BX:z∈c
  .exact BX
  .exfalso;have:(z::c).length<=o.length:=hT (Ve.mpr ⟨BX,ai.nodup jL⟩) λw hw=>by
    rcases UI.mp hw with rfl|hw
    .exact au
    .exact h w hw
   simp at this;omega
def Nf {cs : List (List Int)} (h : ∀ c ∈ cs, cI ltI c) : nI cs = hY cs := by
  unfold nI hY
  apply XU
  intro c ai
  have hm : ∀ z, z ∈ cy lexLt (cE cs) <-> z ∈ cs := fun z => by rw [ip, hu]
  have ai := (hm c).mp ai
  rw [Yg]
  simp only [UR, Vg, Bool.and_eq_false_iff, Yu, UU, XN, U0, hm]
  constructor
  · intro q o ⟨ar, aw⟩
    rcases q o ar with rfl | q
    · omega
    · rw [q]; exact Vo
  · intro q o ar
    by_cases e : c = o
    · exact .inl e
    · refine .inr ?_
      cases z : lies c o with
      | false => rfl
      | true => exact absurd z (q o ⟨ar, Gn (h c ai) (h o ar) (td.mp z) e⟩)
end eV
end
section
namespace eV
open Den a9 eN
variable{pg:dk}{Φ:dC}
noncomputable def eb(w:Nat):Nat->D->Bool
 |_,.cU=>true
 |_,.aM _=>true
 |_,.int _=>true
 |_,.str x=>x.cps.all (· < 0x110000)
 |n+1,.tup xs=>decide (xs.length<=w)&&xs.all (eb w n)
 |n+1,.lst xs=>decide (xs.length<=w)&&xs.all (eb w n)
 |_,_=>false
def wz{w n:Nat}{xs:List D}(h:(decide (xs.length<=w)&&xs.all (eb w n))=true):xs.length<=w/\xs.all (eb w n)=true:=let ⟨a,b⟩:=WV.mp h;⟨Wf a,b⟩
mutual
theorem J2 {w:Nat}:∀(n:Nat)(d:D),eb w n d=true->cQ n d=true
 |n,.cU,_=>by cases n<;>rfl
 |n,.aM _,_=>by cases n<;>rfl
 |n,.int _,_=>by cases n<;>rfl
 |0,.str _,h=>h
 |n+1,.str _,h=>h
 |0,.tup _,h=>by cases h
 |n+1,.tup xs,h=>qr n xs (WV.mp (show(decide _&&xs.all (eb w n))=true from h)).2
 |0,.lst _,h=>by cases h
 |n+1,.lst xs,h=>qr n xs (WV.mp (show(decide _&&xs.all (eb w n))=true from h)).2
 |0,.c2 _,h=>by cases h
 |n+1,.c2 _,h=>by cases h
 |0,.eD _,h=>by cases h
 |n+1,.eD _,h=>by cases h
theorem qr {w:Nat}:∀(n:Nat)(xs:List D),xs.all (eb w n)=true->xs.all (cQ n)=true
 |_,[],_=>rfl
 |n,x::xs,h=>by
  simp only[List.all_cons,UB]at h ⊢;exact⟨J2 n x h.1,qr n xs h.2⟩
end
def Q1{n k:Nat}(h:n<=k){d:D}(hd:cQ n d=true):cQ k d=true:=by
 induction h with
 |refl=>exact hd
 |step _ aO=>exact Ef _ _ aO
def Eg{n k:Nat}(h:n<=k){xs:List D}(hd:xs.all (cQ n)=true):xs.all (cQ k)=true:=by
 rw[UR]at hd ⊢;exact λd ah=>Q1 h (hd d ah)
mutual
theorem wA {w dB:Nat} (hw:w<=dB):∀(n:Nat)(d:D),eb w n d=true->eb dB (n+1) d=true
 |n,.cU,_=>rfl
 |n,.aM _,_=>rfl
 |n,.int _,_=>rfl
 |0,.str _,h=>h
 |n+1,.str _,h=>h
 |0,.tup _,h=>by cases h
 |n+1,.tup xs,h=>by
  have h:=wz (show(decide (xs.length<=w)&&xs.all (eb w n))=true from h);show(decide (xs.length<=dB)&&xs.all (eb dB (n+1)))=true;rw[wB hw n xs h.2,Yn];exact decide_eq_true (by omega)
 |0,.lst _,h=>by cases h
 |n+1,.lst xs,h=>by
  have h:=wz (show(decide (xs.length<=w)&&xs.all (eb w n))=true from h);show(decide (xs.length<=dB)&&xs.all (eb dB (n+1)))=true;rw[wB hw n xs h.2,Yn];exact decide_eq_true (by omega)
 |0,.c2 _,h=>by cases h
 |n+1,.c2 _,h=>by cases h
 |0,.eD _,h=>by cases h
 |n+1,.eD _,h=>by cases h
theorem wB {w dB:Nat} (hw:w<=dB):∀(n:Nat)(xs:List D),xs.all (eb w n)=true->xs.all (eb dB (n+1))=true
 |_,[],_=>rfl
 |n,x::xs,h=>by
  simp only[List.all_cons,UB]at h ⊢;exact⟨wA hw n x h.1,wB hw n xs h.2⟩
end
def J1{w dB n k:Nat}(hw:w<=dB)(h:n<k){d:D}(hd:eb w n d=true):eb dB k d=true:=by
 induction h with
 |refl=>exact wA hw _ _ hd
 |step _ aO=>exact wA (UE _) _ _ aO
def AX{w n:Nat}{xs:List D}(h:eb w (n+1) (.tup xs)=true):xs.length<=w/\xs.all (eb w n)=true:=by
 exact wz h
def JZ{w n:Nat}(aD:n<=50){d:D}(h:eb w n d=true)(hw:w<=150:=by omega):∀xs,d=.tup xs->xs.length<=1000/\xs.all (cQ 50)=true:=by
 intro xs e;subst e;cases n with
 |zero=>cases h
 |succ n =>
  obtain⟨a,b⟩:=AX h;exact⟨by omega,Eg (by omega) (qr n xs b)⟩
def oe{m:Int}{c:List Int}(h:IsCell m c):c.length<=m.toNat:=by
 have:c.length<=(bY m).length:=hT (h.2.2.nodup jL) λz au=>oV.mpr (h.2.1 z au)
 simpa[bY] using this
def s6{m:Int}(h:m<=8):(bY m).length<=8:=by unfold bY;simp;omega
end eV
end
section
namespace eV
open Den a9 eN
variable{pg:dk}{Φ:dC}
noncomputable def cW:Nat->List Int->List (List Int)
 |0,_=>[[]]
 |_+1,[]=>[]
 |s+1,x::r=>(cW s r).map (x::·)++cW (s+1) r
theorem oX:∀(s:Nat)(c z:List Int),z∈cW s c<->z.length=s/\z.Sublist c
 |0,c,z=>by
  simp only[cW,Vi,List.length_eq_zero_iff];exact⟨λh=>⟨h,by subst h;exact X5 _⟩,λh=>h.1⟩
 |s+1,[],z=>by
  simp only[cW,Wl,List.sublist_nil,false_iff];rintro⟨J,aa⟩;subst aa;simp at J
 |s+1,x::r,z=>by
  simp only[cW,UY,List.mem_map,oX s r,oX (s+1) r,List.sublist_cons_iff];constructor
  .rintro(⟨y,⟨J,aa⟩,rfl⟩|⟨J,aa⟩)
   .exact⟨by simp[J],.inr ⟨y,rfl,aa⟩⟩
   .exact⟨J,.inl aa⟩
  .rintro⟨J,aa|⟨y,rfl,aa⟩⟩
   .exact .inr ⟨J,aa⟩
   .exact .inl ⟨y,⟨by simpa using J,aa⟩,rfl⟩
theorem qR:∀(s:Nat)(c:List Int),(cW s c).length<=2 ^ c.length
 |0,c=>by simp only[cW,List.length_singleton];exact Nat.one_le_two_pow
 |s+1,[]=>by simp[cW]
 |s+1,x::r=>by
  have J:=qR s r;have aa:=qR (s+1) r;simp only[cW,UM,List.length_map,List.length_cons,Nat.pow_succ];omega
noncomputable def e0:Nat->Nat->Nat
 |0,_=>1
 |_+1,0=>0
 |s+1,n+1=>e0 s n+e0 (s+1) n
theorem tJ:∀(s:Nat)(c:List Int),(cW s c).length=e0 s c.length
 |0,c=>by simp[cW,e0]
 |s+1,[]=>by simp[cW,e0]
 |s+1,x::r=>by simp only[cW,UM,List.length_map,List.length_cons,e0,tJ s r,tJ (s+1) r]
theorem xZ:∀{s n:Nat},n<s->e0 s n=0
 |0,_,h=>by omega
 |s+1,0,_=>rfl
 |s+1,n+1,h=>by simp only[e0,xZ (s:=s) (n:=n) (by omega),xZ (s:=s+1) (n:=n) (by omega)]
theorem Dt:∀(s:Nat)(c:List Int),cW (s+1) c=(List.range c.length).flatMap λk=>(cW s (c.drop (k+1))).map (c.getD k 0::·)
 |s,[]=>rfl
 |s,x::r=>by
  rw[List.length_cons,Xf,XW,List.flatMap_map];show _=(cW s r).map (x::·)++(List.range r.length).flatMap λk=>(cW s (r.drop (k+1))).map (r.getD k 0::·)
  rw[<- Dt s r];rfl
def LX{c:List Int}{k:Nat}(h:k<c.length):jJ (.tup (c.map .int)) (.int (k:Int))=.ok (.int (c.getD k 0)):=xl (by rw[UJ h];simp[List.getD,UJ h])
def x8(n:Nat):ek 0 (n:Int)=(List.range n).map λ(k:Nat)=>D.int (k:Int):=by
 unfold ek;have:((n:Int)-0).toNat=n:=by omega
 rw[this];apply VH;intro k _;congr 1;omega
theorem wd{α β:Type}{f:α->List β}{k:Nat}:∀{xs:List α},(∀x∈xs,(f x).length<=k)->(xs.flatMap f).length<=xs.length*k
 |[],_=>by simp
 |x::xs,h=>by
  have:=wd (f:=f) (xs:=xs) λc ai=>h c (List.mem_cons_of_mem _ ai)
  have J:=h x List.mem_cons_self;simp only[XW,UM,List.length_cons,Nat.succ_mul];omega
def Of{f:Nat}(c:List Int):el pg Φ ⟨2,2,cb.od f⟩ [ay c,.int 0]=.ok (.lst ((cW 0 c).map ay)):=by
 have e:e5 (.int 0) (.int 0)=.ok true:=rfl;simp only[Den.bA,Nat.reduceAdd,cb.od,e,cW];rfl
def Og{f:Nat}{c:List Int}{s:Nat}(ai:c.length<=8)(hf:∀cO:List Int,cO.length<=8->Φ f [ay cO,.int (s:Int)]=.ok (.lst ((cW s cO).map ay))):el pg Φ ⟨2,2,cb.od f⟩ [ay c,.int ((s:Int)+1)]=.ok (.lst ((cW (s+1) c).map ay)):=by
 have h0:((s:Int)+1==0)=false:=by rw[beq_eq_false_iff_ne];omega
 have J:km (ay c)=.ok (.int (c.length:Int)):=by unfold ay;rw[xH,List.length_map]
 simp only[Den.bA,Nat.reduceAdd,cb.od,h0,J,ly (i:=0) (j:=(c.length:Int)) (by omega) (by omega) (by omega) (by omega),x8]
 have rW:∀ks:List Nat,ks.length<=8->(ks.flatMap λk=>(cW s (c.drop (k+1))).map (c.getD k 0::·)).length<=2048:=λks aq=>by
  have:=wd (f:=λk=>(cW s (c.drop (k+1))).map (c.getD k 0::·)) (k:=256) (xs:=ks) λk _=>by
   have aa:=qR s (c.drop (k+1));have aL:(c.drop (k+1)).length<=8:=by rw[Vz];omega
   have a8:2 ^ (c.drop (k+1)).length<=2 ^ 8:=WT (by decide) aL
   rw[List.length_map];omega
  omega
 obtain⟨dj,e,x,he⟩:=l5 (f:=λk:Nat=>D.int (k:Int)) (g:=turn pg Φ 0 [3] (.cons (.asg 2 (.bin .add (.var 2) (.comp (.bin .add (.tup (.cons (.idx (.var 0) (.var 3)) (.nil))) (.var 4)) 0 (.seq (.call f (.cons (.slice (.var 0) (.some (.bin .add (.var 3) (.lit (.int 1)))) (.none)) (.cons (.bin .sub (.var 1) (.lit (.int 1))) (.nil))))) (.none)))) (.nil)))
  (λbt C=>∃(x:Option D),C=[some (ay c),some (.int ((s:Int)+1)),some (.lst ((bt.flatMap λk=>(cW s (c.drop (k+1))).map (c.getD k 0::·)).map ay)),x])
  (List.range c.length) [some (ay c),some (.int ((s:Int)+1)),some (.lst []),none] ⟨none,rfl⟩ (λpre k post C aC ⟨x,dA⟩=>by
   subst dA;have aq:k<c.length:=by
    have:k∈List.range c.length:=by rw[aC];simp
    exact List.mem_range.mp this
   have d1:pre.length+1<=c.length:=by
    have:(List.range c.length).length=(pre++k::post).length:=by rw[aC]
    simp at this;omega
   have ae:jR (ay c) (some ((k:Int)+1)) none=.ok (ay (c.drop (k+1))):=by
    unfold ay;rw[tX];have:((k:Int)+1)=((k+1:Nat):Int):=by omega
    rw[this,z1,List.map_drop]
   have iT:(s:Int)+1-1=(s:Int):=by omega
   have hd:(c.drop (k+1)).length<=8:=by rw[Vz];omega
   have aj:∀a b,df (elem pg Φ [some (ay c),a,b,some (D.int (k:Int))] (.bin .add (.tup (.cons (.idx (.var 0) (.var 3)) (.nil))) (.var 4)) 0 .none) ((cW s (c.drop (k+1))).map ay)=.ok ((cW s (c.drop (k+1))).map λz=>ay (c.getD k 0::z)):=λa b=>mX λz au=>by
    have au:=(oX _ _ _).mp au;have Ub:=au.2.length_le;have e8:=LX aq;have aw:[D.int (c.getD k 0)].length+(z.map D.int).length<=SZ:=by rw[List.length_map,kQ];simp only[List.length_singleton];omega
    simp only[Den.bA,Nat.reduceAdd];unfold ay;simp only[Den.bA,Nat.reduceAdd,e8,rR];rw[if_pos (by simpa using aw)]
    rfl
   have hlen:((pre.flatMap λk=>(cW s (c.drop (k+1))).map (c.getD k 0::·)).map ay).length+((cW s (c.drop (k+1))).map λz=>ay (c.getD k 0::z)).length<=SZ:=by
    have J:=rW pre (by omega)
    have aa:=qR s (c.drop (k+1));have a8:2 ^ (c.drop (k+1)).length<=2 ^ 8:=WT (by decide) hd
    rw[List.length_map,List.length_map,kQ];omega
   refine⟨_,by simp only[Den.bA,Nat.reduceAdd,ae,iT,hf _ hd,aj,p0,if_pos hlen];rfl,some (.int (k:Int)),?_⟩
   simp[Xx])
 rw[e,he,<- Dt];simp only[Den.bA,Nat.reduceAdd]
theorem De{fds:List fJ}{f:Nat}(hf:fds[f]?=some ⟨2,2,cb.od f⟩):∀(s n:Nat)(c:List Int),s<n->c.length<=8->run pg fds n f [ay c,.int (s:Int)]=.ok (.lst ((cW s c).map ay))
 |0,0,c,h,_=>by omega
 |s+1,0,c,h,_=>by omega
 |0,n+1,c,_,_=>by rw[rk,hf];exact Of c
 |s+1,n+1,c,h,ai=>by
  rw[rk,hf];have:((s+1:Nat):Int)=(s:Int)+1:=by omega
  rw[this];exact Og ai λcO c0=>De hf s n cO (by omega) c0
end eV
end
section
namespace eV
open Den a9 eN
variable{pg:dk}{Φ:dC}
theorem p1:∀{o c:List Int},cI ltI c->cI ltI o->(∀x∈c,x∈o)->c.Sublist o
 |[],[],_,_,_=>X5 _
 |[],x::c,_,_,h=>by have:=h x List.mem_cons_self;simp at this
 |y::o,[],_,_,_=>X5 _
 |y::o,x::c,ai,ar,h=>by
  obtain⟨ck,bo⟩:=U7.mp ai;obtain⟨hV,tv⟩:=U7.mp ar
  by_cases e:x=y
  .subst e;refine List.Sublist.cons_cons x (p1 bo tv λz au=>?_)
   rcases UI.mp (h z (List.mem_cons_of_mem _ au)) with q|q
   .have:=ck z au;subst q;simp[ltI]at this
   .exact q
  .have ah:x∈o:=by
    rcases UI.mp (h x List.mem_cons_self) with q|q
    .exact absurd q e
    .exact q
   have qK:=hV x ah;refine List.Sublist.cons y (p1 ai tv λz au=>?_)
   rcases UI.mp (h z au) with q|q
   .exfalso;subst q;rcases UI.mp au with w|w
    .exact e w.symm
    .have:=ck z w;simp[ltI]at this qK;omega
   .exact q
noncomputable def c8(ts:List (List Int))(h:Nat):List (List Int):=cy lexLt (cE (ts.flatMap (cW (h+1))))
def mv{ts:List (List Int)}{h:Nat}{z:List Int}:z∈c8 ts h<->z.length=h+1/\∃t∈ts,z.Sublist t:=by
 unfold c8;rw[ip,hu,WY];simp only[oX];exact⟨λ⟨t,a,b,c⟩=>⟨b,t,a,c⟩,λ⟨b,t,a,c⟩=>⟨t,a,b,c⟩⟩
def n9(ts:List (List Int))(h:Nat):cI lexLt (c8 ts h):=j5 gc (kr _)
def zm(m:Int):cI ltI (bY m):=by
 unfold bY cI;rw[Wt];exact Xa (λ{a b}(q:a<b)=>by simp[ltI];omega) Xb
def G8{m:Int}{c:List Int}(h:IsCell m c):c.Sublist (bY m):=p1 h.2.2 (zm m) λx ah=>oV.mpr (h.2.1 x ah)
def RA{m:Int}{z t:List Int}(h:IsCell m t)(s:z.Sublist t)(au:z≠[]):IsCell m z:=⟨au,λx ah=>h.2.1 x (s.subset ah),Vb s h.2.2⟩
def iK{m:Int}{ts:List (List Int)}{h:Nat}(aS:∀t∈ts,IsCell m t){z:List Int}(au:z∈c8 ts h):IsCell m z:=by
 obtain⟨a,t,b,c⟩:=mv.mp au;exact RA (aS t b) c (by intro e;subst e;simp at a)
def MO {f h : Nat} {m : Int} {ts : List (List Int)} (hf : ∀ c : List Int, c.length <= 8 -> Φ f [ay c, .int ((h : Int) + 1)] = .ok (.lst ((cW (h + 1) c).map ay))) (aS : ∀ t ∈ ts, t.length <= 8) (aw : ts.length <= 75) (fR : (c8 ts h).length <= 75) :
    el pg Φ ⟨2, 2, cb.vd f⟩ [fb m ts, .int (h : Int)] = .ok (.lst ((c8 ts h).map ay)) := by
  have hi : jJ (fb m ts) (.int 1) = .ok (.tup (ts.map ay)) := rfl
  simp only [Den.bA, Nat.reduceAdd, cb.vd, hi]
  have rW : ∀ ks : List (List Int), ks.length <= 75 -> (∀ t ∈ ks, t.length <= 8) -> (ks.flatMap (cW (h + 1))).length <= 19200 := fun ks aq dJ => by
    have := wd (f := cW (h + 1)) (k := 256) (xs := ks) fun t oP => by
      have aa := qR (h + 1) t
      have a8 : 2 ^ t.length <= 2 ^ 8 := WT (by decide) (dJ t oP)
      omega
    omega
  obtain ⟨dj, e, x, he⟩ := l5 (f := ay) (g := turn pg Φ 0 [3] (.cons (.asg 2 (.bin .add (.var 2) (.call f (.cons (.var 3) (.cons (.bin .add (.var 1) (.lit (.int 1))) (.nil)))))) (.nil)))
    (fun bt C => ∃ (x : Option D), C = [some (fb m ts), some (.int (h : Int)), some (.lst ((bt.flatMap (cW (h + 1))).map ay)), x])
    ts [some (fb m ts), some (.int (h : Int)), some (.lst []), none] ⟨none, rfl⟩ (fun pre t post C aC ⟨x, dA⟩ => by
      subst dA
      have BU : t ∈ ts := by rw [aC]; simp
      have d1 : pre.length + 1 <= ts.length := by rw [aC]; simp
      have J := rW pre (by omega) fun t oP => aS t (by rw [aC]; simp [oP])
      have aa := rW [t] (by simp) fun z au => by simp at au; subst au; exact aS z BU
      have hlen : ((pre.flatMap (cW (h + 1))).map ay).length + ((cW (h + 1) t).map ay).length <= SZ := by
        simp at aa
        rw [List.length_map, List.length_map, kQ]; omega
      refine ⟨_, by simp only [Den.bA, Nat.reduceAdd, hf t (aS t BU), p0, if_pos hlen]; rfl, some (ay t), ?_⟩
      simp [Xx])
  rw [e, he]
  have aD : ∀ c ∈ ts.flatMap (cW (h + 1)), c ≠ [] := fun c ai => by
    obtain ⟨t, _, ai⟩ := WY.mp ai
    intro z; subst z
    have := ((oX _ _ _).mp ai).1
    simp at this
  have : (cE (ts.flatMap (cW (h + 1)))).length <= 75 := by unfold c8 at fR; rw [qS] at fR; exact fR
  simp only [Den.bA, Nat.reduceAdd, ED aD this, c8]
noncomputable def yD:D->Int
 |.int i=>i
 |_=>0
noncomputable def ue:D->List Int
 |.tup ys=>ys.map yD
 |_=>[]
def SH(c:List Int):ue (ay c)=c:=by
 show(c.map D.int).map yD=c;rw[List.map_map];exact(VH (λx _=>rfl)).trans (List.map_id c)
def SI(cs:List (List Int)):(cs.map ay).map ue=cs:=by
 rw[List.map_map];exact(VH (λx _=>SH x)).trans (List.map_id cs)
noncomputable def lW(m:Int)(ts:List (List Int))(h:Nat):D->Bool
 |.tup xs=>xs.all (eY m)&&(jl lexLt (xs.map ue)&&(xs.map ue).all λc=>decide (c.length=h+1)&&ts.any (lies c))
 |_=>false
def zD(m:Int)(ts:List (List Int))(h:Nat)(cs:List (List Int))(ai:∀c∈cs,IsCell m c):lW m ts h (.tup (cs.map ay))=(jl lexLt cs&&cs.all λc=>decide (c.length=h+1)&&ts.any (lies c)):=by
 have J:rU m (.tup (cs.map ay))=true:=(zi m _).mpr ⟨cs,rfl,ai⟩;have J:(cs.map ay).all (eY m)=true:=J;simp only[lW,J,SI,Bool.true_and]
def zE {m : Int} {ts : List (List Int)} {h : Nat} {cs : List (List Int)} (aS : ∀ t ∈ ts, IsCell m t) (ai : ∀ c ∈ cs, IsCell m c) : decide (cs = (c8 ts h).filter fun z => decide (z ∈ cs)) = (jl lexLt cs && cs.all fun c => decide (c.length = h + 1) && ts.any (lies c)) := by
  rw [Yg, UU, UB, uV gc]
  simp only [UR, UB, UU, Xo, td]
  constructor
  · intro e
    refine ⟨?_, fun c c0 => ?_⟩
    · rw [e]; exact Vb Wi (n9 ts h)
    · rw [e, U0] at c0
      obtain ⟨a, t, b, s⟩ := mv.mp c0.1
      exact ⟨a, t, b, fun x ah => s.subset ah⟩
  · rintro ⟨az, fC⟩
    refine j3 gc az (Vb Wi (n9 ts h)) fun z => ?_
    rw [U0, UU]
    refine ⟨fun au => ⟨?_, au⟩, fun au => au.2⟩
    obtain ⟨a, t, b, s⟩ := fC z au
    exact mv.mpr ⟨a, t, b, p1 (ai z au).2.2 (aS t b).2.2 s⟩
def Ha{m:Int}{ts:List (List Int)}{h:Nat}{d:D}(q:rU m d=false):lW m ts h d=false:=by
 cases d with
 |tup xs=>have q:xs.all (eY m)=false:=q;simp only[lW,q,Wz]
 |_=>rfl
def MQ{cT hk h:Nat}{m:Int}{ts:List (List Int)}(aS:∀t∈ts,IsCell m t)(ai:∀d (m:Int),eb 75 50 d=true->Φ cT [d,.int m]=.ok (.aM (eY m d)))(aw:Φ hk [fb m ts,.int (h:Int)]=.ok (.lst ((c8 ts h).map ay)))(d:D)(ba:eb 75 50 d=true):el pg Φ ⟨3,0,cb.vg hk cT⟩ [d,fb m ts,.int (h:Int)]=.ok (.aM (lW m ts h d)):=by
 have jI:jJ (fb m ts) (.int 0)=.ok (.int m):=rfl;cases d with
 |tup ys =>
  obtain⟨aA,jD⟩:=AX ba;have aj:df (elem pg Φ [some (.tup ys),some (fb m ts),some (.int (h:Int))] (.var 3) 0 (.some (.not (.call cT (.cons (.var 3) (.cons (.idx (.var 1) (.lit (.int 0))) (.nil))))))) ys=.ok (ys.filterMap λd=>if eY m d then none else some d) :=
   vJ λd hd=>by
    have KG:eb 75 50 d=true:=J1 (UE _) (by omega) (UR.mp jD d hd)
    simp only[Den.bA,Nat.reduceAdd,jI,ai d m KG];cases eY m d<;>simp only[Den.bA,Nat.reduceAdd]
  have mi:ys.all (cQ 59)=true:=Eg (by omega) (qr 49 ys jD)
  have av:(ys.all λd=>(if eY m d=true then(none:Option D) else some d).isNone)=ys.all (eY m):=by
   congr 1;funext d;cases eY m d<;>rfl
  simp only[Den.bA,Nat.reduceAdd,cb.vg,aj,qi (Ec mi),wh,av];have bF:rU m (.tup ys)=ys.all (eY m):=rfl;cases q:ys.all (eY m)
  .rw[Ha (by rw[bF];exact q)]
   simp only[Den.bA,Nat.reduceAdd]
  .obtain⟨cs,eB,hp⟩:=(zi m (.tup ys)).mp (by rw[bF];exact q)
   injection eB with eB;subst eB;have hc:df (elem pg Φ [some (.tup (cs.map ay)),some (fb m ts),some (.int (h:Int))] (.var 3) 0 (.some (.cmp .mem (.var 3) (.var 0)))) ((c8 ts h).map ay)=.ok (((c8 ts h).filter λz=>decide (z∈cs)).map ay):=mW λz _=>by
    simp only[Den.bA,Nat.reduceAdd,CI];cases decide (z∈cs)<;>rfl
   rw[zD m ts h cs hp,<- zE aS hp];simp only[Den.bA,Nat.reduceAdd,aw,hc,II]
 |_=>rfl
end eV
end
section
namespace eV
open Den a9 eN
variable{pg:dk}{Φ:dC}
def kq(i j:Int)(h:(-gj<i/\i<gj)\/(-gj<j/\j<gj)):e3 .mul (.int i) (.int j)=.ok (.int (i*j)):=by rw[mul_int,if_pos h]
def gd(i j:Int)(h:0<j):e3 .mod (.int i) (.int j)=.ok (.int (i%j)):=by rw[mod_int,if_pos h]
def v7(i j:Int)(h:0<j)(h':j<1073741824):e3 .fdiv (.int i) (.int j)=.ok (.int (i / j)):=by rw[Ax,if_pos ⟨h,h'⟩]
def jX:gj=18446744073709551616:=rfl
noncomputable def lK:Int:=2147483629
def y2:lK=2147483629:=rfl
def j8(a:Int){b:Int}(h:0<b):0<=a%b/\a%b<b:=⟨Int.emod_nonneg a (by omega),Yt a h⟩
def H8(i k:Int):∃r:Int,0<=r/\r<lK/\el pg Φ ⟨2,1,cb.ve⟩ [.int i,.int k]=.ok (.int r):=by
 have cY:=j8 ((i+104729*k+17)*69621) (b:=2147483647) (by decide)
 refine⟨((i+104729*k+17)*69621%2147483647*((i+104729*k+17)*69621%2147483647)+3*((i+104729*k+17)*69621%2147483647)+k)%2147483629,?_,?_,by
  simp only[Den.bA,Nat.reduceAdd,cb.ve,kq 104729 k (.inl (by rw[jX];omega)),kq _ 69621 (.inr (by rw[jX];omega)),gd _ 2147483647 (by decide),gd _ 2147483629 (by decide),
   kq ((i+104729*k+17)*69621%2147483647) ((i+104729*k+17)*69621%2147483647) (.inl (by rw[jX];omega)),kq 3 ((i+104729*k+17)*69621%2147483647) (.inl (by rw[jX];omega))]⟩
 .exact(j8 _ (by decide)).1
 .rw[y2];exact(j8 _ (by decide)).2
def G7(is:List Int)(k:Nat):el pg Φ ⟨2,0,cb.vc⟩ [.lst (is.map .int),.int (k:Int)]=.ok (.int (is.getD k 0)):=by
 simp only[Den.bA,Nat.reduceAdd,cb.vc,List.length_map]
 by_cases h:k<is.length
 .have h':(k:Int)<(is.length:Int):=by omega
  have e:jJ (.lst (is.map D.int)) (.int (k:Int))=.ok (.int (is.getD k 0)):=by
   rw[BY,AZ,U1,UJ h];simp[List.getD,UJ h]
  simp only[Den.bA,Nat.reduceAdd,decide_eq_true h',e]
 .have h':¬(k:Int)<(is.length:Int):=by omega
  have e:is.getD k 0=0:=by simp[List.getD,Vw (Nat.le_of_not_lt h)]
  simp only[Den.bA,Nat.reduceAdd,decide_eq_false h',e]
def Nw{f:Nat}{is:List Int}(hf:∀k:Nat,Φ f [.lst (is.map .int),.int (k:Int)]=.ok (.int (is.getD k 0)))(k:Nat):∃r:Int,0<=r/\r<lK/\el pg Φ ⟨2,1,cb.vi f⟩ [.lst (is.map .int),.int (k:Int)]=.ok (.int r):=by
 have cY:=j8 ((is.getD k 0+7919*(k:Int)+1)*48271) (b:=2147483647) (by decide)
 refine⟨((is.getD k 0+7919*(k:Int)+1)*48271%2147483647*((is.getD k 0+7919*(k:Int)+1)*48271%2147483647)+7*((is.getD k 0+7919*(k:Int)+1)*48271%2147483647)+(k:Int))%2147483629,?_,?_,by
  simp only[Den.bA,Nat.reduceAdd,cb.vi,hf,kq 7919 (k:Int) (.inl (by rw[jX];omega)),kq _ 48271 (.inr (by rw[jX];omega)),gd _ 2147483647 (by decide),gd _ 2147483629 (by decide),
   kq ((is.getD k 0+7919*(k:Int)+1)*48271%2147483647) ((is.getD k 0+7919*(k:Int)+1)*48271%2147483647) (.inl (by rw[jX];omega)),kq 7 ((is.getD k 0+7919*(k:Int)+1)*48271%2147483647) (.inl (by rw[jX];omega))]⟩
 .exact(j8 _ (by decide)).1
 .rw[y2];exact(j8 _ (by decide)).2
def Ri {f : Nat} (hf : ∀ i k : Int, ∃ r : Int, 0 <= r /\ r < lK /\ Φ f [.int i, .int k] = .ok (.int r)) (i m : Int) (J : 1 <= m) (dJ : m <= 8) :
    ∃ cs : List (List Int), el pg Φ ⟨2, 4, cb.vm f⟩ [.int i, .int m] = .ok (.lst (cs.map ay)) /\ (∀ c ∈ cs, IsCell m c) /\ fZ m cs = true /\ cs.length <= 16 := by
  have aZ := ly (i := 0) (j := m) (by omega) (by omega) (by omega) (by omega)
  have Gw := j8 i (b := 9) (by decide)
  have Ly := ly (i := 0) (j := i % 9) (by omega) (by omega) (by omega) (by omega)
  have z8 : ek 0 (i % 9) = (bY (i % 9)).map .int := pd _
  have dq : df (elem pg Φ [some (.int i), some (.int m), none, none, none, none] (.tup (.cons (.var 6) (.nil))) 0 .none) ((bY m).map .int) = .ok ((bY m).map fun k => ay [k]) := mX fun k _ => by
    simp only [Den.bA, Nat.reduceAdd]; rfl
  simp only [Den.bA, Nat.reduceAdd, cb.vm, aZ, pd, dq, gd i 9 (by decide), Ly]
  have h0 : ∀ k ∈ bY m, IsCell m [k] := fun k aq => ⟨by simp, by simpa using oV.mp aq, Wa _ _⟩
  obtain ⟨dj, e, cs, x, y, z, he, ai, aw⟩ := l5 (f := D.int) (g := turn pg Φ 0 [3] (.cons (.asg 4 (.call f (.cons (.var 0) (.cons (.var 3) (.nil))))) (.cons (.asg 5 (.tupI (.seq (.comp (.var 6) 0 (.eS (.var 1)) (.some (.cmp .lt (.bin .mod (.call f (.cons (.var 4) (.cons (.var 6) (.nil)))) (.lit (.int 5))) (.bin .add (.lit (.int 2)) (.bin .mod (.var 4) (.lit (.int 2)))))))))) (.cons (.iff (.cmp .ne (.var 5) (.tup (.nil))) (.cons (.app 2 (.var 5)) (.nil)) (.nil)) (.nil)))))
    (fun bt C => ∃ (cs : List (List Int)) (x y z : Option D), C = [some (.int i), some (.int m), some (.lst (((bY m).map fun k => [k]).map ay ++ cs.map ay)), x, y, z] /\ (∀ c ∈ cs, IsCell m c) /\ cs.length <= bt.length)
    (bY (i % 9)) [some (.int i), some (.int m), some (.lst ((bY m).map fun k => ay [k])), none, none, none] ⟨[], none, none, none, by simp [Function.comp_def], by simp, by simp⟩ (fun pre k post C aC ⟨cs, x, y, z, dA, ai, aw⟩ => by
      subst dA
      obtain ⟨r, aI, a5, xc⟩ := hf i k
      have ex : ∃ q : Int -> Bool, ∀ x y z, df (elem pg Φ [some (.int i), some (.int m), x, y, some (.int r), z] (.var 6) 0 (.some (.cmp .lt (.bin .mod (.call f (.cons (.var 4) (.cons (.var 6) (.nil)))) (.lit (.int 5))) (.bin .add (.lit (.int 2)) (.bin .mod (.var 4) (.lit (.int 2))))))) ((bY m).map .int) = .ok (((bY m).filter q).map .int) := by
        obtain ⟨g, ba⟩ : ∃ g : Int -> Int, ∀ k, Φ f [.int r, .int k] = .ok (.int (g k)) := ⟨fun k => Classical.choose (hf r k), fun k => (Xi (hf r k)).2.2⟩
        refine ⟨fun k => decide (g k % 5 < 2 + r % 2), fun x y z => mW fun k _ => ?_⟩
        have ae := ba k
        simp only [Den.bA, Nat.reduceAdd, ae, gd _ 5 (by decide), gd _ 2 (by decide)]
        split <;> rfl
      obtain ⟨q, aE⟩ := ex
      have iT : ((bY m).filter q).Sublist (bY m) := Wi
      simp only [Den.bA, Nat.reduceAdd, xc, aZ, pd, aE]
      have aD : e5 (.tup (((bY m).filter q).map .int)) (.tup []) = .ok ((bY m).filter q).isEmpty := by
        rw [r7 (by simp [V7, ro]), qZ]
      simp only [Den.bA, Nat.reduceAdd, aD]
      have d1 : pre.length + 1 <= 9 := by
        have J : (bY (i % 9)).length = (pre ++ k :: post).length := by rw [<- aC]
        have aa : (bY (i % 9)).length <= 9 := by unfold bY; simp; omega
        simp at J; omega
      cases BN : ((bY m).filter q).isEmpty
      · have dg : (bY m).filter q ≠ [] := by intro z; rw [z] at BN; cases BN
        have sC : IsCell m ((bY m).filter q) := ⟨dg, fun x ah => oV.mp (iT.subset ah), Vb iT (zm m)⟩
        have hlen : (((bY m).map fun k => [k]).map ay ++ cs.map ay).length < SZ := by
          have := s6 dJ
          simp only [UM, List.length_map, kQ]; omega
        refine ⟨_, by simp only [Den.bA, Nat.reduceAdd, u2, if_pos hlen]; rfl, cs ++ [(bY m).filter q], _, _, _, by simp only [List.map_append, UN]; rfl, fun c c0 => ?_, by simp; omega⟩
        rcases UY.mp c0 with w | w
        · exact ai c w
        · simp at w; subst w; exact sC
      · exact ⟨_, by simp only [Den.bA, Nat.reduceAdd]; rfl, cs, _, _, _, rfl, ai, by simp; omega⟩)
  rw [e, he]
  simp only [Den.bA, Nat.reduceAdd]
  refine ⟨((bY m).map fun k => [k]) ++ cs, by rw [List.map_append], fun c c0 => ?_, ?_, ?_⟩
  · rcases UY.mp c0 with w | w
    · obtain ⟨k, aq, rfl⟩ := List.mem_map.mp w
      exact h0 k aq
    · exact ai c w
  · rw [zX]
    intro x a b
    exact ⟨[x], by simp [oV]; exact .inl ⟨a, b⟩, by simp⟩
  · have := s6 dJ
    have aa : (bY (i % 9)).length <= 8 := by unfold bY; simp; omega
    simp only [UM, List.length_map]; omega
end eV
end
section
namespace eV
open Den a9 eN
variable{pg:dk}{Φ:dC}
def o2{cs:List (List Int)}{c:List Int}:c∈hY cs<->c∈cs/\∀o∈cs,c.length<o.length->¬lies c o=true:=by
 unfold hY;simp only[U0,ip,hu,Vg,XN,UU,and_imp]
def zp(cs:List (List Int)):cI lexLt (hY cs):=Vb Wi (j5 gc (kr _))
def SN(cs:List (List Int)):hY (hY cs)=hY cs:=by
 refine j3 gc (zp _) (zp _) λz=>?_
 rw[o2];refine⟨λh=>h.1,λh=>⟨h,λo ar aw=>(o2.mp h).2 o (o2.mp ar).1 aw⟩⟩
theorem E5{m:Int}{cs:List (List Int)}(h:∀c∈cs,IsCell m c):∀(n:Nat)(c:List Int),c∈cs->m.toNat<=c.length+n->∃t∈hY cs,∀x∈c,x∈t
 |0,c,ai,aD=>⟨c,o2.mpr ⟨ai,λo ar aw=>by have:=oe (h o ar);omega⟩,λ_ ah=>ah⟩
 |n+1,c,ai,aD=>by
  by_cases q:∀o∈cs,c.length<o.length->¬lies c o=true
  .exact⟨c,o2.mpr ⟨ai,q⟩,λ_ ah=>ah⟩
  .obtain⟨o,ar,aw,ae⟩:∃o,o∈cs/\c.length<o.length/\lies c o=true:=by
    apply VO;intro z;exact q λo ar aw ae=>z ⟨o,ar,aw,ae⟩
   obtain⟨t,aS,sS⟩:=E5 h n o ar (by omega)
   exact⟨t,aS,λx ah=>sS x (td.mp ae x ah)⟩
structure Net(m:Int)(ts:List (List Int)):Prop where
 lo:1<=m
 hi:m<=8
 cell:∀c∈ts,IsCell m c
 top:ts=hY ts
 fZ:fZ m ts=true
def NG{m:Int}{cs:List (List Int)}(J:1<=m)(dJ:m<=8)(ai:∀c∈cs,IsCell m c)(aQ:fZ m cs=true):Net m (hY cs) where
 lo:=J
 hi:=dJ
 cell:=λc h=>ai c (o2.mp h).1
 top:=(SN cs).symm
 fZ:=by
  rw[zX]at aQ ⊢;intro x a b;obtain⟨c,h,ah⟩:=aQ x a b;obtain⟨t,aS,ae⟩:=E5 ai m.toNat c h (by omega)
  exact⟨t,aS,ae x ah⟩
def SM(cs:List (List Int)):(hY cs).length<=cs.length:=by
 unfold hY;have J:=List.length_filter_le (λc=>!((cy lexLt (cE cs)).filter λo=>decide (c.length<o.length)).any (lies c)) (cy lexLt (cE cs))
 have aa:=vL cs;rw[qS]at J;omega
def yt{m:Int}{c:List Int}(h:IsCell m c):cy ltI c=c:=Ro jL h.2.2
def EC{m:Int}{cs:List (List Int)}(h:∀c∈cs,IsCell m c):cs.map (cy ltI)=cs:=by
 conv=>rhs;rw[<- List.map_id cs]
 exact VH λc ai=>yt (h c ai)
noncomputable def Hb:Bool:=(List.range 7).all λm=>(List.range 7).all λs=>(decide (s=0)||decide (m<s))||((cW s (bY (m:Int))).all (λc=>decide (IsCell (m:Int) c))&&fZ (m:Int) (cW s (bY (m:Int))))
def zH:Hb=true:=by decide +kernel
noncomputable def band:List (List Int):=(bY 5).map (λk=>[0,1+k,1+(k+1)%5])++(bY 5).map λk=>[1+k,1+(k+1)%5,1+(k+3)%5]
def Gx:(band.map (cy ltI)).all (λc=>decide (IsCell 6 c))&&fZ 6 (band.map (cy ltI))&&decide (band.length<=20)&&band.all (λc=>decide (c.length<=75))=true:=by decide +kernel
end eV
end
section
namespace eV
open Den a9 eN
variable{pg:dk}{Φ:dC}
def Dr{s n:Nat}(h:n<=8):e0 s n<=70:=by
 rcases Nat.lt_or_ge n s with q|q
 .rw[xZ q];omega
 .have:∀n:Fin 9,∀s:Fin 9,e0 s.val n.val<=70:=by decide
  exact this ⟨n,by omega⟩ ⟨s,by omega⟩
def tp{qq:Nat}{cs:List (List Int)}{m:Int}(hf:∀cs:List (List Int),(∀c∈cs,c≠[])->(cE cs).length<=75->Φ qq [.lst (cs.map ay)]=.ok (.tup ((nI cs).map ay)))(J:1<=m)(dJ:m<=8)(aw:cs.length<=70)(Kc:∀c∈cs,c.length<=75)(ai:∀c∈cs,IsCell m (cy ltI c))(aQ:fZ m (cs.map (cy ltI))=true){a b c:D}:
  ∃ts,l1 (eC pg Φ [some a,some b,some (.int m),some c,some (.lst (cs.map ay))] (.cons (.ret (.tup (.cons (.var 2) (.cons (.call qq (.cons (.comp (.tupI (.seq (.prim .sorted (.var 5)))) 0 (.seq (.var 4)) (.none)) (.nil))) (.nil))))) (.nil)))=.ok (fb m ts)/\Net m ts/\ts.length<=70:=by
 have hp:∀c∈cs.map (cy ltI),IsCell m c:=λc c0=>by obtain⟨o,ar,rfl⟩:=List.mem_map.mp c0;exact ai o ar
 refine⟨hY (cs.map (cy ltI)),?_,NG J dJ hp aQ,by have:=SM (cs.map (cy ltI));rw[List.length_map]at this;omega⟩
 have aj:df (elem pg Φ [some a,some b,some (.int m),some c,some (.lst (cs.map ay))] (.tupI (.seq (.prim .sorted (.var 5)))) 0 .none) (cs.map ay)=.ok (cs.map λc=>ay (cy ltI c)):=mX λc c0=>by
  simp only[Den.bA,Nat.reduceAdd,D4,Rj (Kc c c0)];rfl
 have av:(cs.map λc=>ay (cy ltI c))=(cs.map (cy ltI)).map ay:=by rw[List.map_map];rfl
 have fR:(cE (cs.map (cy ltI))).length<=75:=by have:=vL (cs.map (cy ltI));rw[List.length_map]at this;omega
 simp only[Den.bA,Nat.reduceAdd,aj,av,hf _ (λc c0=>(hp c c0).1) fR,Nf (λc c0=>(hp c c0).2.2)]
 rfl
noncomputable def zG:Bool:=(List.range 9).all λm=>(List.range 9).all λs=>(decide (s=0)||decide (m<s))||((cW s (bY (m:Int))).all (λc=>decide (IsCell (m:Int) c))&&fZ (m:Int) (cW s (bY (m:Int))))
def Hc:zG=true:=by decide +kernel
def F1{m:Int}{s:Nat}(J:1<=m)(f3:m<=8)(ae:1<=s)(nu:(s:Int)<=m):(∀c∈cW s (bY m),IsCell m c)/\fZ m (cW s (bY m))=true:=by
 have h:=Hc;unfold zG at h;rw[UR]at h;have h:=h m.toNat (List.mem_range.mpr (by omega))
 rw[UR]at h;have h:=h s (List.mem_range.mpr (by omega))
 have e:((m.toNat:Nat):Int)=m:=by omega
 rw[e]at h;have o6:¬s=0:=by omega
 have i2:¬m.toNat<s:=by omega
 simp only[decide_eq_false o6,decide_eq_false i2,Bool.or_self,Bool.false_or,UB,UR,UU]at h;exact h
noncomputable def nX:List (List Int):=(bY 7).map (λk=>[k,(k+1)%7,(k+3)%7])++(bY 7).map λk=>[k,(k+2)%7,(k+3)%7]
def SE:(nX.map (cy ltI)).all (λc=>decide (IsCell 7 c))&&fZ 7 (nX.map (cy ltI))&&decide (nX.length<=70)&&nX.all (λc=>decide (c.length<=75))=true:=by decide +kernel
def NF{qq bq bK:Nat}(aS:∀cs:List (List Int),(∀c∈cs,c≠[])->(cE cs).length<=75->Φ qq [.lst (cs.map ay)]=.ok (.tup ((nI cs).map ay)))(aC:∀(s:Nat)(c:List Int),s<=8->c.length<=8->Φ bq [ay c,.int (s:Int)]=.ok (.lst ((cW s c).map ay)))(ae:∀i m:Int,1<=m->m<=8->∃cs:List (List Int),Φ bK [.int i,.int m]=.ok (.lst (cs.map ay))/\(∀c∈cs,IsCell m c)/\fZ m cs=true/\cs.length<=16)(i:Int)(h0:0<=i):
  ∃m ts,el pg Φ ⟨2,3,cb.vj qq bq bK⟩ [.int i,.int 8]=.ok (fb m ts)/\Net m ts/\ts.length<=70:=by
 have kT:=j8 i (b:=8) (by decide)
 have cp:decide ((5:Int)<8)=true:=rfl;have dE:decide ((6:Int)<8)=true:=rfl;simp only[Den.bA,Nat.reduceAdd,cb.vj,gd i 8 (by decide),v7 i 12 (by decide) (by decide),gd _ 8 (by decide)]
 cases s8:(i / 12%8==0)
 .cases k1:(i / 12%8==1)
  .cases k2:(i / 12%8==2)
   .obtain⟨cs,e,ai,aQ,aw⟩:=ae (i / 96) (1+i%8) (by omega) (by omega)
    obtain⟨ts,av,aD,ng⟩:=tp (pg:=pg) (Φ:=Φ) (cs:=cs) (m:=1+i%8) (a:=.int i) (b:=.int 8) (c:=.int (i / 12%8)) aS (by omega) (by omega) (by omega) (λc c0=>by have:=oe (ai c c0);omega) (λc c0=>by rw[yt (ai c c0)];exact ai c c0) (by rw[EC ai];exact aQ)
    refine⟨1+i%8,ts,?_,aD,ng⟩;rw[<- av];simp only[Den.bA,Nat.reduceAdd,k1,k2,v7 i 96 (by decide) (by decide),e]
   .have af:=SE;simp only[UB,UR,UU]at af;obtain⟨⟨⟨m8,jA⟩,Bo⟩,wQ⟩:=af;obtain⟨ts,av,aD,ng⟩:=tp (pg:=pg) (Φ:=Φ) (cs:=nX) (m:=7) (a:=.int i) (b:=.int 8) (c:=.int (i / 12%8)) aS (by decide) (by decide) Bo wQ (λc c0=>m8 _ (List.mem_map_of_mem c0)) jA
    refine⟨7,ts,?_,aD,ng⟩;rw[<- av];have fE:=ly (i:=0) (j:=7) (by omega) (by omega) (by omega) (by omega)
    have ck:∀a b c d e,df (elem pg Φ [a,b,c,d,e] (.tup (.cons (.var 5) (.cons (.bin .mod (.bin .add (.var 5) (.lit (.int 1))) (.lit (.int 7))) (.cons (.bin .mod (.bin .add (.var 5) (.lit (.int 3))) (.lit (.int 7))) (.nil))))) 0 .none) ((bY 7).map .int)=.ok ((bY 7).map λk=>ay [k,(k+1)%7,(k+3)%7]):=λa b c d e=>mX λk _=>by
     simp only[Den.bA,Nat.reduceAdd,gd _ 7 (by decide)];rfl
    have bo:∀a b c d e,df (elem pg Φ [a,b,c,d,e] (.tup (.cons (.var 5) (.cons (.bin .mod (.bin .add (.var 5) (.lit (.int 2))) (.lit (.int 7))) (.cons (.bin .mod (.bin .add (.var 5) (.lit (.int 3))) (.lit (.int 7))) (.nil))))) 0 .none) ((bY 7).map .int)=.ok ((bY 7).map λk=>ay [k,(k+2)%7,(k+3)%7]):=λa b c d e=>mX λk _=>by
     simp only[Den.bA,Nat.reduceAdd,gd _ 7 (by decide)];rfl
    have dY:nX.map ay=(bY 7).map (λk=>ay [k,(k+1)%7,(k+3)%7])++(bY 7).map λk=>ay [k,(k+2)%7,(k+3)%7]:=by
     unfold nX;rw[List.map_append,List.map_map,List.map_map];rfl
    have hlen:((bY 7).map (λk=>ay [k,(k+1)%7,(k+3)%7])).length+((bY 7).map λk=>ay [k,(k+2)%7,(k+3)%7]).length<=SZ:=by
     have:=s6 (m:=7) (by decide)
     rw[List.length_map,List.length_map,kQ];omega
    simp only[Den.bA,Nat.reduceAdd,k1,k2,dE,fE,pd,ck,bo,p0,if_pos hlen,<- dY]
  .have af:=Gx;simp only[UB,UR,UU]at af;obtain⟨⟨⟨m8,jA⟩,Bo⟩,wQ⟩:=af;obtain⟨ts,av,aD,ng⟩:=tp (pg:=pg) (Φ:=Φ) (cs:=band) (m:=6) (a:=.int i) (b:=.int 8) (c:=.int (i / 12%8)) aS (by decide) (by decide) (by omega) wQ (λc c0=>m8 _ (List.mem_map_of_mem c0)) jA
   refine⟨6,ts,?_,aD,ng⟩;rw[<- av];have fE:=ly (i:=0) (j:=5) (by omega) (by omega) (by omega) (by omega)
   have ck:∀a b c d e,df (elem pg Φ [a,b,c,d,e] (.tup (.cons (.lit (.int 0)) (.cons (.bin .add (.lit (.int 1)) (.var 5)) (.cons (.bin .add (.lit (.int 1)) (.bin .mod (.bin .add (.var 5) (.lit (.int 1))) (.lit (.int 5)))) (.nil))))) 0 .none) ((bY 5).map .int)=.ok ((bY 5).map λk=>ay [0,1+k,1+(k+1)%5]):=λa b c d e=>mX λk _=>by
    simp only[Den.bA,Nat.reduceAdd,gd _ 5 (by decide)];rfl
   have bo:∀a b c d e,df (elem pg Φ [a,b,c,d,e] (.tup (.cons (.bin .add (.lit (.int 1)) (.var 5)) (.cons (.bin .add (.lit (.int 1)) (.bin .mod (.bin .add (.var 5) (.lit (.int 1))) (.lit (.int 5)))) (.cons (.bin .add (.lit (.int 1)) (.bin .mod (.bin .add (.var 5) (.lit (.int 3))) (.lit (.int 5)))) (.nil))))) 0 .none) ((bY 5).map .int)=.ok ((bY 5).map λk=>ay [1+k,1+(k+1)%5,1+(k+3)%5]):=λa b c d e=>mX λk _=>by
    simp only[Den.bA,Nat.reduceAdd,gd _ 5 (by decide)];rfl
   have dY:band.map ay=(bY 5).map (λk=>ay [0,1+k,1+(k+1)%5])++(bY 5).map λk=>ay [1+k,1+(k+1)%5,1+(k+3)%5]:=by
    unfold band;rw[List.map_append,List.map_map,List.map_map];rfl
   have hlen:((bY 5).map (λk=>ay [0,1+k,1+(k+1)%5])).length+((bY 5).map λk=>ay [1+k,1+(k+1)%5,1+(k+3)%5]).length<=SZ:=by
    have:=s6 (m:=5) (by decide)
    rw[List.length_map,List.length_map,kQ];omega
   simp only[Den.bA,Nat.reduceAdd,k1,cp,fE,pd,ck,bo,p0,if_pos hlen,<- dY]
 .have Gw:=j8 (i / 96) (b:=1+i%8) (by omega)
  obtain⟨s,LA⟩:∃s:Nat,(s:Int)=1+i / 96%(1+i%8):=⟨(1+i / 96%(1+i%8)).toNat,by omega⟩
  obtain⟨ai,aQ⟩:=F1 (m:=1+i%8) (s:=s) (by omega) (by omega) (by omega) (by omega)
  have BB:(bY (1+i%8)).length<=8:=by unfold bY;simp;omega
  have Ld:(cW s (bY (1+i%8))).length<=70:=by rw[tJ];exact Dr BB
  obtain⟨ts,av,aD,ng⟩:=tp (pg:=pg) (Φ:=Φ) (cs:=cW s (bY (1+i%8))) (m:=1+i%8) (a:=.int i) (b:=.int 8) (c:=.int (i / 12%8)) aS (by omega) (by omega) Ld (λc c0=>by have:=oe (ai c c0);omega) (λc c0=>by rw[yt (ai c c0)];exact ai c c0) (by rw[EC ai];exact aQ)
  refine⟨1+i%8,ts,?_,aD,ng⟩;rw[<- av];have sQ:=aC s (bY (1+i%8)) (by omega) (by omega)
  unfold ay at sQ;simp only[Den.bA,Nat.reduceAdd,v7 i 96 (by decide) (by decide),gd (i / 96) (1+i%8) (by omega),<- LA,ly (i:=0) (j:=1+i%8) (by omega) (by omega) (by omega) (by omega),pd,sQ]
  rfl
end eV
end
section
namespace eV
open Den a9 eN
noncomputable def da(c:List Int):List (List Int):=if 1<c.length then(List.range c.length).map λk=>c.take k++c.drop (k+1) else []
noncomputable def bO(a b:List (List Int)):List (List Int):=cy lexLt (cE (a.filter (λx=>!decide (x∈b))++b.filter λx=>!decide (x∈a)))
noncomputable def cM(cs:List (List Int)):List (List Int):=cs.foldl (λf c=>bO f (da c)) []
def oZ{a b:List (List Int)}{e:List Int}:e∈bO a b<->(e∈a/\e∉b)\/(e∈b/\e∉a):=by
 unfold bO;rw[ip,hu,UY,U0,U0];simp
def ob(a b:List (List Int)):cI lexLt (bO a b):=j5 gc (kr _)
def j4{xs:List (List Int)}(h:cI lexLt xs):xs.Nodup:=Xa (λ{a b} h e=>by subst e;rw[gc.fu]at h;cases h) h
def u4{xs:List Int}(h:cI ltI xs):xs.Nodup:=Xa (λ{a b} h e=>by subst e;rw[jL.fu]at h;cases h) h
noncomputable def cnt(e:List Int)(cs:List (List Int)):Nat:=cs.countP λc=>decide (e∈da c)
theorem ra{α:Type}(lt:α->α->Bool):∀xs:List α,(cy lt xs).Perm xs
 |[]=>.nil
 |x::xs=>(q9 lt x (cy lt xs)).trans ((ra lt xs).cons x)
 where q9 {α:Type} (lt:α->α->Bool) (x:α):∀ys:List α,(ins lt x ys).Perm (x::ys)
  |[]=>.refl _
  |y::ys=>by
   unfold ins
   split
   .exact((q9 lt x ys).cons y).trans (List.Perm.swap x y ys)
   .exact .refl _
theorem vM{α:Type}[DecidableEq α]:∀{xs:List α},xs.Nodup->cE xs=xs
 |[],_=>rfl
 |x::xs,h=>by
  obtain⟨J,aa⟩:=Ve.mp h;unfold cE;rw[if_neg J,vM aa]
def Rf{a b:List (List Int)}(az:a.Nodup)(af:b.Nodup):(bO a b).Perm (a.filter (λx=>!decide (x∈b))++b.filter λx=>!decide (x∈a)):=by
 unfold bO;refine(ra _ _).trans ?_;rw[vM];refine Wu.mpr ⟨az.filter _,af.filter _,λx ah y aA e=>?_⟩
 subst e;have J:=(U0.mp ah);have aa:=(U0.mp aA);simp[aa.1]at J
def Di{α:Type}[DecidableEq α]{xs ys:List α}(ah:xs.Nodup)(aA:ys.Nodup)(h:∀z,z∈xs<->z∈ys):xs.Perm ys:=(XD ah aA).mpr h
def zU(p:List Int->Bool)(a b:List (List Int)):a.countP p=(a.filter λx=>!decide (x∈b)).countP p+(a.filter λx=>decide (x∈b)).countP p:=by
 induction a with
 |nil=>rfl
 |cons x a aO =>
  by_cases h:x∈b
  .simp only[WB,h,decide_true,VM,UC,UX,Vn,List.countP_cons,aO];omega
  .simp only[WB,h,decide_false,WS,UC,UX,Vn,List.countP_cons,aO];omega
def zT{a b:List (List Int)}(az:a.Nodup)(af:b.Nodup)(e:List Int):∃k,cnt e a+cnt e b=cnt e (bO a b)+2*k:=by
 refine⟨(a.filter λx=>decide (x∈b)).countP λc=>decide (e∈da c),?_⟩
 unfold cnt;rw[(Rf az af).countP_eq,List.countP_append,zU _ a b,zU _ b a];have h:(b.filter λx=>decide (x∈a)).countP (λc=>decide (e∈da c))=(a.filter λx=>decide (x∈b)).countP λc=>decide (e∈da c):=by
  refine(Di (af.filter _) (az.filter _) λz=>?_).countP_eq _
  rw[U0,U0];simp[and_comm]
 omega
def pq {c e : List Int} (h : cI ltI c) : e ∈ da c <-> 1 < c.length /\ e.length + 1 = c.length /\ e.Sublist c := by
  unfold da
  constructor
  · intro he
    split at he
    · rename_i aw
      obtain ⟨k, aq, rfl⟩ := List.mem_map.mp he
      have aq := List.mem_range.mp aq
      refine ⟨aw, by rw [UM, Vl, Vz]; omega, ?_⟩
      conv => rhs; rw [<- VI k c]
      refine List.Sublist.append (XX _) ?_
      rw [Vr aq]
      exact List.sublist_cons_self _ _
    · cases he
  · rintro ⟨aw, J, ae⟩
    rw [if_pos aw]
    refine List.mem_map.mpr ?_
    have key : ∀ {e c : List Int}, e.Sublist c -> e.length + 1 = c.length -> ∃ k, k < c.length /\ c.take k ++ c.drop (k + 1) = e := by
      intro e c ae
      induction ae with
      | slnil => intro z; cases z
      | @cons e c x ae aO =>
        intro z
        have : e.length = c.length := by simpa using z
        exact ⟨0, by simp, by simpa using (ae.eq_of_length this).symm⟩
      | @cons_cons e c x ae aO =>
        intro z
        obtain ⟨k, aq, hg⟩ := aO (by simpa using z)
        exact ⟨k + 1, by simpa using aq, by simp [hg]⟩
    obtain ⟨k, aq, hg⟩ := key ae J
    exact ⟨k, List.mem_range.mpr aq, hg⟩
def yn{c e:List Int}(h:cI ltI c)(he:e∈da c):cI ltI e:=Vb ((pq h).mp he).2.2 h
def IL {c e : List Int} (ai : cI ltI c) (he : cI ltI e) (ae : e.Sublist c) {k : Nat} (aq : k < c.length) : e.Sublist (c.take k ++ c.drop (k + 1)) <-> c[k] ∉ e := by
  have aD := u4 ai
  have hd : (c.take k ++ c[k] :: c.drop (k + 1)) = c := by rw [<- Vr aq, VI]
  rw [<- hd] at aD
  have jF : ∀ x, x ∈ c <-> x = c[k] \/ x ∈ c.take k ++ c.drop (k + 1) := fun x => by
    conv => lhs; rw [<- hd]
    simp only [UY, UI]
    constructor
    · rintro (h | h | h)
      · exact .inr (.inl h)
      · exact .inl h
      · exact .inr (.inr h)
    · rintro (h | h | h)
      · exact .inr (.inl h)
      · exact .inl h
      · exact .inr (.inr h)
  have ki : c[k] ∉ c.take k ++ c.drop (k + 1) := fun z => by
    have := X2.nodup_iff.mp aD
    exact (Ve.mp this).1 z
  have iT : (c.take k ++ c.drop (k + 1)).Sublist c := by
    conv => rhs; rw [<- hd]
    exact List.Sublist.append (XX _) (List.sublist_cons_self _ _)
  constructor
  · exact fun z w => ki (z.subset w)
  · exact fun z => p1 he (Vb iT ai) fun x ah => ((jF x).mp (ae.subset ah)).elim (fun e => absurd (e ▸ ah) z) id
theorem Cs{α:Type}(p:α->Bool):∀c:List α,c.length=c.countP p+c.countP (λx=>!p x)
 |[]=>rfl
 |x::c=>by
  rw[List.length_cons,Cs p c,List.countP_cons,List.countP_cons];cases p x<;>simp<;>omega
def Hu{α:Type}[DecidableEq α]{c e:List α}(ai:c.Nodup)(he:e.Nodup)(ae:∀x∈e,x∈c):c.countP (λx=>!decide (x∈e))+e.length=c.length:=by
 have J:(c.filter λx=>decide (x∈e)).Perm e:=Di (ai.filter _) he λz=>by
  rw[U0];simp only[UU];exact⟨λh=>h.2,λh=>⟨ae z h,h⟩⟩
 have aa:c.length=(c.filter λx=>decide (x∈e)).length+(c.filter λx=>!decide (x∈e)).length:=by
  rw[<- WK,<- WK];exact Cs (λx=>decide (x∈e)) c
 rw[J.length_eq]at aa;rw[WK];omega
def Hn {c : List Int} (ai : cI ltI c) (e : List Int) : cnt e (da c) = 0 \/ cnt e (da c) = 2 := by
  by_cases aw : 1 < c.length
  · by_cases ae : e.Sublist c /\ e.length + 2 = c.length /\ 2 < c.length
    · obtain ⟨ae, aa, aL⟩ := ae
      have he : cI ltI e := Vb ae ai
      right
      have aj : cnt e (da c) = c.countP fun x => !decide (x ∈ e) := by
        unfold cnt
        rw [show da c = (List.range c.length).map (fun k => c.take k ++ c.drop (k + 1)) from if_pos aw, List.countP_map]
        have : c = (List.range c.length).map fun k => c.getD k 0 := by
          apply List.ext_getElem
          · simp
          · intro i J aa
            simp [List.getD, J]
        conv => rhs; rw [this]
        rw [List.countP_map]
        refine List.countP_congr fun k aq => ?_
        have aq := List.mem_range.mp aq
        have LB : cI ltI (c.take k ++ c.drop (k + 1)) := yn ai (by unfold da; rw [if_pos aw]; exact List.mem_map.mpr ⟨k, List.mem_range.mpr aq, rfl⟩)
        have hlen : (c.take k ++ c.drop (k + 1)).length + 1 = c.length := by rw [UM, Vl, Vz]; omega
        simp only [Function.comp, UU, Vg, X6]
        rw [pq LB, IL ai he ae aq]
        have : c.getD k 0 = c[k] := by simp [List.getD, aq]
        rw [this]
        exact ⟨fun z => z.2.2, fun z => ⟨by omega, by omega, z⟩⟩
      rw [aj]
      have := Hu (u4 ai) (u4 he) fun x ah => ae.subset ah
      omega
    · left
      unfold cnt
      rw [List.countP_eq_zero]
      intro d hd
      simp only [UU]
      intro z
      obtain ⟨_, er, d6⟩ := (pq ai).mp hd
      obtain ⟨a1, a2, a3⟩ := (pq (yn ai hd)).mp z
      exact ae ⟨a3.trans d6, by omega, by omega⟩
  · left
    unfold cnt da
    rw [if_neg aw]; rfl
def Ej{c:List Int}(ai:cI ltI c):(da c).Nodup:=by
 unfold da
 split
 .rw[List.nodup_iff_pairwise_ne,Wt];refine Wx (λ{i j} hi aH (qB:i<j) e=>?_) Xb
  have aH:=List.mem_range.mp aH;have hi:i<c.length:=List.mem_range.mp hi;have J:(c.take i++c.drop (i+1))[i]?=c[i+1]?:=by
   rw[Vp (by simp;omega),List.getElem?_drop];congr 1;simp;omega
  have aa:(c.take j++c.drop (j+1))[i]?=c[i]?:=by
   rw[UW (by simp;omega),List.getElem?_take_of_lt qB]
  rw[e,aa]at J;rw[UJ hi,UJ (by omega:i+1<c.length)]at J
  have:=V5.mp ai i (i+1) hi (by omega) (by omega)
  injection J with J;rw[J,jL.fu]at this;cases this
 .exact VL
theorem DJ(e:List Int):∀(cs:List (List Int))(f:List (List Int)),(∀c∈cs,cI ltI c)->(e∈cs.foldl (λf c=>bO f (da c)) f<->((if e∈f then 1 else 0)+cnt e cs)%2=1)
 |[],f,_=>by
  by_cases h:e∈f<;>simp[h,cnt]
 |c::cs,f,h=>by
  rw[W5,DJ e cs _ λd hd=>h d (List.mem_cons_of_mem _ hd)]
  have aj:cnt e (c::cs)=cnt e cs+if e∈da c then 1 else 0:=by unfold cnt;rw[List.countP_cons];simp
  rw[aj];have hm:=oZ (a:=f) (b:=da c) (e:=e)
  by_cases J:e∈f<;>by_cases aa:e∈da c<;>simp[hm,J,aa]<;>omega
def oY{cs:List (List Int)}(h:∀c∈cs,cI ltI c){e:List Int}:e∈cM cs<->cnt e cs%2=1:=by
 unfold cM;rw[DJ e cs [] h];simp
def oa(cs:List (List Int)):cI lexLt (cM cs):=by
 unfold cM;rcases List.eq_nil_or_concat cs with rfl|⟨xs,x,rfl⟩
 .exact List.Pairwise.nil
 .rw[List.concat_eq_append,List.foldl_append];exact ob _ _
def rj{cs:List (List Int)}(h:∀c∈cs,cI ltI c){d:List Int}(hd:d∈cM cs):∃c∈cs,d∈da c:=by
 have:=(oY h).mp hd;have h0:cnt d cs≠0:=λz=>by rw[z]at this;cases this
 unfold cnt at h0;rw[Ne,List.countP_eq_zero]at h0;exact VO λz=>h0 λc ai w=>z ⟨c,ai,by simpa using w⟩
theorem zS(e:List Int):∀(cs:List (List Int))(f:List (List Int)),f.Nodup->(∀c∈cs,cI ltI c)->cnt e (cs.foldl (λf c=>bO f (da c)) f)%2=cnt e f%2
 |[],f,_,_=>rfl
 |c::cs,f,hf,h=>by
  have ai:=h c List.mem_cons_self;rw[W5,zS e cs _ (j4 (ob _ _)) λd hd=>h d (List.mem_cons_of_mem _ hd)]
  obtain⟨k,aq⟩:=zT hf (Ej ai) e;rcases Hn ai e with z|z<;>omega
def DK{cs:List (List Int)}(h:∀c∈cs,cI ltI c):cM (cM cs)=[]:=by
 rw[WC];intro e he;have az:∀c∈cM cs,cI ltI c:=λd hd=>by
  obtain⟨c,ai,ae⟩:=rj h hd;exact yn (h c ai) ae
 have J:=(oY az).mp he;have aa:cnt e (cM cs)%2=cnt e []%2:=zS e cs [] VL h;rw[aa]at J;cases J
def PL{a b:List (List Int)}(az:a.Nodup)(af:b.Nodup)(J:∀c∈a,cI ltI c)(aa:∀c∈b,cI ltI c):cM (bO a b)=bO (cM a) (cM b):=by
 have aL:∀c∈bO a b,cI ltI c:=λc ai=>(oZ.mp ai).elim (λz=>J c z.1) λz=>aa c z.1
 refine j3 gc (oa _) (ob _ _) λe=>?_
 rw[oY aL,oZ,oY J,oY aa];obtain⟨k,aq⟩:=zT az af e;omega
end eV
end
section
namespace eV
open Den a9 eN
variable{pg:dk}{Φ:dC}
def Jf{C:a0}(a b:E):ev pg Φ C (.pw a b)=ev pg Φ C a>>=λx=>ev pg Φ C b>>=λy=>nZ x y:=bb rfl
def I6{C:a0}(i j:Nat):ev pg Φ C (.om i j)=m1 C[i]? C[j]?:=bb rfl
def I7{C:a0}(i:Nat):ev pg Φ C (.ot i)=ou C[i]?:=bb rfl
def Jq{C:a0}(i:Nat):ex pg Φ C (.m2 i)=.ok (.cV (C.set i (some (.c2 [])))):=bb rfl
def Jp{C:a0}(i j:Nat):ex pg Φ C (.kW i j)=oo C[i]? C[j]?>>=λx=>.ok (.cV (C.set i (some x))):=bb rfl
def u0(x:List Int)(b:List (List Int)):(b.map ay).any (e4 (ay x))=decide (x∈b):=by
 induction b with
 |nil=>simp
 |cons y ys aO=>rw[List.map_cons,List.any_cons,aO,jv];by_cases q:x=y<;>simp[q]
def AE(a b:List (List Int)):(a.map ay).filter (λx=>!(b.map ay).any (e4 x))=(a.filter λx=>!decide (x∈b)).map ay:=by
 induction a with
 |nil=>rfl
 |cons x a aO =>
  rw[List.map_cons,WB,WB,u0,aO];cases decide (x∈b)<;>rfl
def Th{a b:List (List Int)}(az:∀c∈a,c≠[])(af:∀c∈b,c≠[])(h:(cE (a++b)).length<=75):rC (a.map ay) (b.map ay)=.ok (.lst ((bO a b).map ay)):=by
 unfold rC uy bO;rw[oi az,oi af,<- List.map_append,lZ jv,AE,AE,<- List.map_append,lZ jv,jb (lt:=lexLt) mu,List.length_map,decide_eq_true h];rfl
def EI{x y:D}{a b:List (List Int)}(ah:dP x=.ok (a.map ay))(aA:dP y=.ok (b.map ay))(az:∀c∈a,c≠[])(af:∀c∈b,c≠[])(h:(cE (a++b)).length<=75):
  el pg Φ ⟨2,0,cb.vr⟩ [x,y]=.ok (.tup ((bO a b).map ay)):=by
 simp only[Den.bA,Nat.reduceAdd,cb.vr,Jf,nZ,ah,aA,Th az af h]
def xF(c:List Int):km (ay c)=.ok (.int (c.length:Int)):=by unfold ay;rw[xH,List.length_map]
def Ek{c:List Int}(h:c.length<=1000)(k:Nat):e3 .add (.tup (cut (c.map D.int) none (some (k:Int)))) (.tup (cut (c.map D.int) (some ((k:Int)+1)) none))=.ok (ay (c.take k++c.drop (k+1))):=by
 have e:((k:Int)+1)=((k+1:Nat):Int):=by omega
 rw[e,Hz,z1,rR,if_pos]
 .unfold ay;rw[List.map_append,List.map_take,List.map_drop]
 .rw[Vl,Vz,List.length_map,kQ];omega
def Q3(c:List Int)(h:c.length<=1000):el pg Φ ⟨1,0,cb.vq⟩ [ay c]=.ok (.lst ((da c).map ay)):=by
 have aj:df (elem pg Φ [some (ay c)] (.bin .add (.slice (.var 0) (.none) (.some (.var 1))) (.slice (.var 0) (.some (.bin .add (.var 1) (.lit (.int 1)))) (.none))) 0 (.some (.cmp .gt (.prim .len (.var 0)) (.lit (.int 1))))) ((List.range c.length).map λ(k:Nat)=>D.int (k:Int))=.ok (((List.range c.length).filter λ_=>decide (1<c.length)).map λk=>ay (c.take k++c.drop (k+1))):=mW λk _=>by
  have ae:∀lo hi,jR (ay c) lo hi=.ok (.tup (cut (c.map D.int) lo hi)):=λlo hi=>rfl
  simp only[Den.bA,Nat.reduceAdd,xF,ae,Ek h]
  by_cases q:1<c.length
  .have cL:(1:Int)<(c.length:Int):=by omega
   simp only[decide_eq_true q,decide_eq_true cL,Vn]
  .have cL:¬(1:Int)<(c.length:Int):=by omega
   simp only[decide_eq_false q,decide_eq_false cL,UC,UX]
 simp only[Den.bA,Nat.reduceAdd,cb.vq,xF,ly (i:=0) (j:=(c.length:Int)) (by omega) (by omega) (by omega) (by omega),x8,aj]
 congr 2;unfold da
 by_cases q:1<c.length
 .rw[if_pos q,decide_eq_true q,List.filter_eq_self.mpr λ_ _=>rfl,List.map_map];rfl
 .rw[if_neg q,decide_eq_false q,List.filter_eq_nil_iff.mpr λ_ _=>by decide];rfl
def z4{xs U:List (List Int)}(h:∀x∈xs,x∈U):(cE xs).length<=U.length:=hT (kr xs) λz au=>h z ((hu z xs).mp au)
def yo{c e:List Int}(h:cI ltI c)(he:e∈da c):e≠[]:=λz=>by
 obtain⟨a,b,_⟩:=(pq h).mp he;subst z;simp at b;omega
def PM(pre:List (List Int))(c:List Int):cM (pre++[c])=bO (cM pre) (da c):=by unfold cM;rw[List.foldl_append];rfl
def PJ {bK fd : Nat} {d : D} {cs U : List (List Int)} (hd : dP d = .ok (cs.map ay)) (ai : ∀ c ∈ cs, cI ltI c /\ c.length <= 1000) (oF : ∀ c ∈ cs, ∀ e ∈ da c, e ∈ U) (jz : U.length <= 75)
    (J : ∀ a b : List (List Int), (∀ c ∈ a, c ≠ []) -> (∀ c ∈ b, c ≠ []) -> (cE (a ++ b)).length <= 75 -> Φ bK [.tup (a.map ay), .lst (b.map ay)] = .ok (.tup ((bO a b).map ay)))
    (aa : ∀ c : List Int, c.length <= 1000 -> Φ fd [ay c] = .ok (.lst ((da c).map ay))) : el pg Φ ⟨1, 2, cb.vp bK fd⟩ [d] = .ok (.tup ((cM cs).map ay)) := by
  simp only [Den.bA, Nat.reduceAdd, cb.vp, hd]
  obtain ⟨dj, e, x, he⟩ := l5 (f := ay) (g := turn pg Φ 0 [2] (.cons (.asg 1 (.call bK (.cons (.var 1) (.cons (.call fd (.cons (.var 2) (.nil))) (.nil))))) (.nil)))
    (fun bt C => ∃ (x : Option D), C = [some d, some (.tup ((cM bt).map ay)), x])
    cs [some d, some (.tup []), none] ⟨none, rfl⟩ (fun pre c post C aC ⟨x, dA⟩ => by
      subst dA
      have gS : c ∈ cs := by rw [aC]; simp
      have ij : ∀ z ∈ pre, z ∈ cs := fun z au => by rw [aC]; simp [au]
      have jG : ∀ z ∈ pre, cI ltI z := fun z au => (ai z (ij z au)).1
      have a1 : ∀ z ∈ cM pre, z ≠ [] := fun z au => by obtain ⟨o, ar, ae⟩ := rj jG au; exact yo (jG o ar) ae
      have a2 : ∀ z ∈ da c, z ≠ [] := fun z au => yo (ai c gS).1 au
      have a3 : (cE (cM pre ++ da c)).length <= 75 := Vk (z4 (U := U) fun z au => by
        rcases UY.mp au with au | au
        · obtain ⟨o, ar, ae⟩ := rj jG au; exact oF o (ij o ar) z ae
        · exact oF c gS z au) jz
      refine ⟨_, by simp only [Den.bA, Nat.reduceAdd, aa c (ai c gS).2, J _ _ a1 a2 a3]; rfl, some (ay c), ?_⟩
      rw [PM])
  rw [e, he]
  simp only [Den.bA, Nat.reduceAdd]
def Me{fr:Nat}{d:D}{cs:List (List Int)}(h:Φ fr [d]=.ok (.tup (cs.map ay))):el pg Φ ⟨1,0,cb.va fr⟩ [d]=.ok (.aM cs.isEmpty):=by
 simp only[Den.bA,Nat.reduceAdd,cb.va,h,r7 (pl 58 _),qZ]
def Ey{a b:List (List Int)}(az:a.Nodup)(af:b.Nodup):cy lexLt ((a++b).filter λx=>decide (x∈a) != decide (x∈b))=bO a b:=by
 unfold bO;have e:((a++b).filter λx=>decide (x∈a) != decide (x∈b))=a.filter (λx=>!decide (x∈b))++b.filter λx=>!decide (x∈a):=by
  rw[Wn];congr 1
  .exact XU λx ah=>by rw[decide_eq_true ah];cases decide (x∈b)<;>rfl
  .exact XU λx ah=>by rw[decide_eq_true ah];cases decide (x∈a)<;>rfl
 rw[e,vM];refine Wu.mpr ⟨az.filter _,af.filter _,λx ah y aA e=>?_⟩
 subst e;have J:=(U0.mp ah);have aa:=(U0.mp aA);simp[aa.1]at J
def MU{a b:List (List Int)}(az:a.Nodup)(af:b.Nodup)(qF:∀c∈a,c≠[])(qG:∀c∈b,c≠[])(h:(bO a b).length<=75)(aw:a.length+b.length<=1000):el pg Φ ⟨2,0,cb.vn⟩ [.tup (a.map ay),.tup (b.map ay)]=.ok (.tup ((bO a b).map ay)):=by
 have aj:df (elem pg Φ [some (.tup (a.map ay)),some (.tup (b.map ay))] (.var 2) 0 (.some (.cmp .ne (.cmp .mem (.var 2) (.var 0)) (.cmp .mem (.var 2) (.var 1))))) ((a++b).map ay)=.ok (((a++b).filter λx=>decide (x∈a) != decide (x∈b)).map ay):=mW λx _=>by
  simp only[Den.bA,Nat.reduceAdd,CI];cases decide (x∈a)<;>cases decide (x∈b)<;>rfl
 have dg:∀c∈(a++b).filter (λx=>decide (x∈a) != decide (x∈b)),c≠[]:=λc ai=>by
  rcases UY.mp (U0.mp ai).1 with z|z
  .exact qF c z
  .exact qG c z
 rw[<- Ey az af,qS]at h;have hlen:(a.map ay).length+(b.map ay).length<=SZ:=by rw[List.length_map,List.length_map,kQ];omega
 simp only[Den.bA,Nat.reduceAdd,cb.vn,rR,if_pos hlen,<- List.map_append,aj,EA dg h,Ey az af]
end eV
end
section
namespace eV
open Den a9 eN
variable{pg:dk}{Φ:dC}
theorem B6:∀c:List Int,intsOf (c.map .int)=some c
 |[]=>rfl
 |x::c=>by simp only[List.map_cons,intsOf,B6 c,Option.map_some]
def Cj(c:List Int):keyOf (some (some (ay c)))=some c:=B6 c
structure n6(aB:List (List Int×Int))(ks:List (List Int)):Prop where
 dU:(aB.map (·.1)).Nodup
 ag:∀p∈aB,p.2=(ks.count p.1:Int)
 ms:∀k,k∈aB.map (·.1)<->k∈ks
def SX{aB:List (List Int×Int)}{k:List Int}(h:k∉aB.map (·.1)):h2 aB k=none:=by
 unfold h2;rw[List.find?_eq_none.mpr]
 .rfl
 .intro p aC z;exact h (List.mem_map.mpr ⟨p,aC,Wf z⟩)
def Fh{aB:List (List Int×Int)}{ks:List (List Int)}(t:n6 aB ks){k:List Int}(h:k∈ks):h2 aB k=some (ks.count k:Int):=by
 unfold h2;cases q:aB.find? λp=>decide (p.1=k) with
 |none =>
  obtain⟨p,aC,e⟩:=List.mem_map.mp ((t.ms k).mpr h);exact absurd (decide_eq_true e) (List.find?_eq_none.mp q p aC)
 |some p =>
  have e:p.1=k:=by have:=List.find?_some q;exact Wf this
  have:=t.ag p (List.mem_of_find?_eq_some q);rw[e]at this;rw[Option.map_some,this]
def Si {aB : List (List Int × Int)} {ks : List (List Int)} (t : n6 aB ks) (k : List Int) : n6 (putN aB k ((h2 aB k).getD 0 + 1)) (ks ++ [k]) := by
  unfold putN
  by_cases h : k ∈ ks
  · have aq := (t.ms k).mpr h
    obtain ⟨p, aC, e⟩ := List.mem_map.mp aq
    rw [if_pos (Xo.mpr ⟨p, aC, decide_eq_true e⟩), Fh t h]
    have aj : ((aB.map fun p => if p.1 = k then (p.1, (some (ks.count k : Int)).getD 0 + 1) else p).map (·.1)) = aB.map (·.1) := by
      rw [List.map_map]
      refine VH fun p _ => ?_
      simp only [Function.comp]
      split <;> rfl
    refine ⟨by rw [aj]; exact t.dU, fun q aE => ?_, fun z => ?_⟩
    · obtain ⟨o, ar, rfl⟩ := List.mem_map.mp aE
      have := t.ag o ar
      split
      · rename_i e; simp only [Option.getD_some, e, WR, List.count_singleton_self]; omega
      · rename_i e
        rw [this, WR, List.count_singleton]
        have bf : ¬ k = o.1 := fun z => e z.symm
        simp [bf]
    · rw [aj, t.ms, UY, Vi]
      exact ⟨.inl, fun w => w.elim (fun x => x) fun x => x ▸ h⟩
  · have aq : k ∉ aB.map (·.1) := fun z => h ((t.ms k).mp z)
    have : ¬ (aB.any fun p => decide (p.1 = k)) = true := fun z => by
      obtain ⟨p, aC, e⟩ := Xo.mp z
      exact aq (List.mem_map.mpr ⟨p, aC, Wf e⟩)
    rw [if_neg this, SX aq]
    refine ⟨?_, fun q aE => ?_, fun z => ?_⟩
    · rw [List.map_append]
      refine Wu.mpr ⟨t.dU, Ve.mpr ⟨by simp, VL⟩, fun x ah y aA e => ?_⟩
      rw [List.map_singleton, Vi] at aA
      subst e; subst aA
      exact aq ah
    · rcases UY.mp aE with aE | aE
      · have J := t.ag q aE
        have aa : q.1 ∈ ks := (t.ms _).mp (List.mem_map.mpr ⟨q, aE, rfl⟩)
        have aL : k ≠ q.1 := fun z => h (z ▸ aa)
        rw [J, WR, List.count_singleton]; simp [aL]
      · rw [Vi] at aE
        subst aE
        rw [WR, List.count_singleton_self, XK.mpr h]; rfl
    · rw [List.map_append, UY, t.ms, UY]; rfl
theorem vH(e:List Int):∀cs:List (List Int),(∀c∈cs,cI ltI c)->(cs.flatMap da).count e=cnt e cs
 |[],_=>rfl
 |c::cs,h=>by
  have J:=vH e cs λd hd=>h d (List.mem_cons_of_mem _ hd)
  rw[XW,WR,J];unfold cnt;rw[List.countP_cons,Nat.add_comm];congr 1
  by_cases q:e∈da c
  .rw[decide_eq_true q,if_pos rfl];have J:=List.nodup_iff_count.mp (Ej (h c List.mem_cons_self)) e;have aa:=List.count_pos_iff.mpr q;omega
  .rw[decide_eq_false q,XK.mpr q];rfl
def Q2(c:List Int):da c=(List.range (c.length*if 1<c.length then 1 else 0)).map λk=>c.take k++c.drop (k+1):=by
 unfold da
 split
 .rw[Nat.mul_one]
 .rw[Nat.mul_zero];rfl
def MT {d : D} {cs U : List (List Int)} (hd : dP d = .ok (cs.map ay)) (ai : ∀ c ∈ cs, cI ltI c /\ c.length <= 1000) (oF : ∀ c ∈ cs, ∀ e ∈ da c, e ∈ U) (jz : U.length <= 75) : el pg Φ ⟨1, 4, cb.vl⟩ [d] = .ok (.tup ((cM cs).map ay)) := by
  simp only [Den.bA, Nat.reduceAdd, cb.vl, Jq, hd]
  have short : ∀ {aB ks}, n6 aB ks -> (∀ k ∈ ks, k ∈ U) -> aB.length <= 75 := fun t h => by
    have := hT t.dU fun z au => h z ((t.ms z).mp au)
    rw [List.length_map] at this; omega
  obtain ⟨dj, e, aB, x, y, z, he, jU⟩ := l5 (f := ay) (g := turn pg Φ 0 [2] (.cons (.hG 0 [3] (.eS (.bin .mul (.prim .len (.var 2)) (.prim .int (.cmp .gt (.prim .len (.var 2)) (.lit (.int 1)))))) (.cons (.asg 4 (.bin .add (.slice (.var 2) (.none) (.some (.var 3))) (.slice (.var 2) (.some (.bin .add (.var 3) (.lit (.int 1)))) (.none)))) (.cons (.kW 1 4) (.nil)))) (.nil)))
    (fun bt C => ∃ (aB : List (List Int × Int)) (x y z : Option D), C = [some d, some (.c2 aB), x, y, z] /\ n6 aB (bt.flatMap da))
    cs [some d, some (.c2 []), none, none, none] ⟨[], none, none, none, rfl, ⟨VL, fun _ h => by simp at h, fun _ => by simp⟩⟩ (fun pre c post C aC ⟨aB, x, y, z, dA, jU⟩ => by
      subst dA
      have gS : c ∈ cs := by rw [aC]; simp
      have ij : ∀ z ∈ pre, z ∈ cs := fun z au => by rw [aC]; simp [au]
      obtain ⟨qw, Bp⟩ := ai c gS
      have Lv : ∀ k ∈ pre.flatMap da, k ∈ U := fun k aq => by
        obtain ⟨o, ar, aq⟩ := WY.mp aq
        exact oF o (ij o ar) k aq
      obtain ⟨n, aD⟩ : ∃ n : Nat, n = c.length * if 1 < c.length then 1 else 0 := ⟨_, rfl⟩
      have T3 : n <= 1000 := by rw [aD]; split <;> omega
      have hm : e3 .mul (.int (c.length : Int)) (.int (if decide ((1 : Int) < (c.length : Int)) = true then 1 else 0)) = .ok (.int (n : Int)) := by
        by_cases q : 1 < c.length
        · have cL : (1 : Int) < (c.length : Int) := by omega
          rw [decide_eq_true cL, if_pos rfl, kq _ _ (.inr (by rw [jX]; omega)), aD, if_pos q]; simp
        · have cL : ¬ (1 : Int) < (c.length : Int) := by omega
          rw [decide_eq_false cL, if_neg (by decide), kq _ _ (.inr (by rw [jX]; omega)), aD, if_neg q]; simp
      have ae : ∀ lo hi, jR (ay c) lo hi = .ok (.tup (cut (c.map D.int) lo hi)) := fun lo hi => rfl
      have BQ : da c = (List.range n).map fun k => c.take k ++ c.drop (k + 1) := by rw [aD]; exact Q2 c
      obtain ⟨dj, e, Ue, g4, fm, he, Sh⟩ := l5 (f := fun k : Nat => D.int (k : Int)) (g := turn pg Φ 0 [3] (.cons (.asg 4 (.bin .add (.slice (.var 2) (.none) (.some (.var 3))) (.slice (.var 2) (.some (.bin .add (.var 3) (.lit (.int 1)))) (.none)))) (.cons (.kW 1 4) (.nil))))
        (fun bt C => ∃ (aB : List (List Int × Int)) (y z : Option D), C = [some d, some (.c2 aB), some (ay c), y, z] /\ n6 aB (pre.flatMap da ++ bt.map fun k => c.take k ++ c.drop (k + 1)))
        (List.range n) [some d, some (.c2 aB), some (ay c), y, z] ⟨aB, y, z, rfl, by rw [Xz, VD]; exact jU⟩ (fun pr k po C aC ⟨aB, y, z, dA, jU⟩ => by
          subst dA
          have aw : aB.length < 1000 := by
            have := short jU fun w hw => by
              rcases UY.mp hw with hw | hw
              · exact Lv w hw
              · obtain ⟨j, aH, rfl⟩ := List.mem_map.mp hw
                exact oF c gS _ (by rw [BQ]; exact List.mem_map.mpr ⟨j, by rw [aC]; simp [aH], rfl⟩)
            omega
          have K4 : ∀ o : List Int, oo (some (some (.c2 aB))) (some (some (ay o))) = .ok (.c2 (putN aB o ((h2 aB o).getD 0 + 1))) := fun o => by
            simp only [oo, jr, Cj, if_pos aw]
          refine ⟨_, by simp only [Den.bA, Nat.reduceAdd, ae, Ek Bp, Jp, K4]; rfl, _, _, _, rfl, ?_⟩
          rw [List.map_append, <- UN]
          exact Si jU _)
      refine ⟨_, by simp only [Den.bA, Nat.reduceAdd, xF, hm, ly (i := 0) (j := (n : Int)) (by omega) (by omega) (by omega) (by omega), x8, e, he]; rfl, _, _, _, _, rfl, ?_⟩
      rw [Xx, List.flatMap_singleton, BQ]
      exact Sh)
  rw [e, he]
  have qw : ∀ c ∈ cs, cI ltI c := fun c h => (ai c h).1
  have eF : ∀ k ∈ cs.flatMap da, k ∈ U := fun k aq => by
    obtain ⟨o, ar, aq⟩ := WY.mp aq
    exact oF o ar k aq
  have aw := short jU eF
  have dg : ∀ c ∈ aB.map (·.1), c ≠ [] := fun k aq => by
    obtain ⟨o, ar, aq⟩ := WY.mp ((jU.ms k).mp aq)
    exact yo (qw o ar) aq
  have LF : ou (some (some (.c2 aB))) = .ok (.lst ((cy lexLt (aB.map (·.1))).map ay)) := by
    simp only [ou, jr]
    have : (aB.map fun p => D.tup (p.1.map .int)) = (aB.map (·.1)).map ay := by rw [List.map_map]; rfl
    rw [this, EA dg (by rw [List.length_map]; exact aw)]
  have aj : df (elem pg Φ [some d, some (.c2 aB), x, y, z] (.var 5) 0 (.some (.cmp .eq (.bin .mod (.om 1 5) (.lit (.int 2))) (.lit (.int 1))))) ((cy lexLt (aB.map (·.1))).map ay) = .ok (((cy lexLt (aB.map (·.1))).filter fun k => decide (cnt k cs % 2 = 1)).map ay) := mW fun k aq => by
    have aq := (jU.ms k).mp ((ip _ _).mp aq)
    have ba : m1 (some (some (.c2 aB))) (some (some (ay k))) = .ok (.int (cnt k cs : Int)) := by
      simp only [m1, jr, Cj, Fh jU aq, vH k cs qw]
    simp only [Den.bA, Nat.reduceAdd, I6, ba, gd _ 2 (by decide)]
    by_cases q : cnt k cs % 2 = 1
    · have cL : ((cnt k cs : Int) % 2 == 1) = true := by rw [VP]; omega
      rw [cL, decide_eq_true q]; rfl
    · have cL : ((cnt k cs : Int) % 2 == 1) = false := by rw [beq_eq_false_iff_ne]; omega
      rw [cL, decide_eq_false q]; rfl
  simp only [Den.bA, Nat.reduceAdd, I7, LF, aj]
  congr 3
  refine j3 gc (Vb Wi (j5 gc jU.dU)) (oa _) fun k => ?_
  rw [U0, ip, jU.ms, oY qw, UU]
  refine ⟨fun h => h.2, fun h => ⟨?_, h⟩⟩
  apply VO
  intro z
  have := XK.mpr z
  rw [vH k cs qw] at this
  omega
end eV
end
section
namespace eV
open Den a9 eN
variable{pg:dk}{Φ:dC}
theorem vI{α:Type}{g:D->R (Option D)}{q:Nat->α->Bool}{f:α->D}:∀{ks:List α}{j:Nat},(∀(k:Nat)(a:α),g (.tup [.int (k:Int),f a])=.ok (if q k a then some (f a) else none))->∃qd:List α,qd.Sublist ks/\df g (hh j (ks.map f))=.ok (qd.map f)
 |[],j,_=>⟨[],XX _,rfl⟩
 |a::ks,j,h=>by
  obtain⟨qd,s,e⟩:=vI (ks:=ks) (j:=j+1) h;cases aE:q j a with
  |true =>
   refine⟨a::qd,List.Sublist.cons_cons a s,?_⟩;simp only[List.map_cons,hh,df,h j a,aE,Vn,R.iu,e]
  |false =>
   refine⟨qd,List.Sublist.cons a s,?_⟩;simp only[List.map_cons,hh,df,h j a,aE,UC,UX,R.iu,e]
def p8{m:Int}{ts:List (List Int)}{h:Nat}(dJ:m<=8)(aS:∀t∈ts,IsCell m t):(c8 ts h).length<=70:=by
 have:(c8 ts h).length<=(cW (h+1) (bY m)).length:=hT ((n9 ts h).nodup gc) λz au=>by
  have:=G8 (iK aS au);exact(oX _ _ _).mpr ⟨(mv.mp au).1,this⟩
 have e:=tJ (h+1) (bY m);have:e0 (h+1) (bY m).length<=70:=Dr (by unfold bY;simp;omega)
 omega
noncomputable def lG(cs:List (List Int)):Prop:=(∀c∈cs,cI ltI c/\c.length<=1000)/\∃U:List (List Int),(∀c∈cs,∀e∈da c,e∈U)/\U.length<=75
def Ei{m:Int}{ts:List (List Int)}(aS:∀t∈ts,IsCell m t){h:Nat}{c e:List Int}(ai:c∈c8 ts (h+1))(he:e∈da c):e∈c8 ts h:=by
 obtain⟨a,t,b,s⟩:=mv.mp ai;obtain⟨x,y,z⟩:=(pq (iK aS ai).2.2).mp he;exact mv.mpr ⟨by omega,t,b,z.trans s⟩
def Eh{ts:List (List Int)}{c:List Int}(ai:c∈c8 ts 0):da c=[]:=by
 have:=(mv.mp ai).1;unfold da;rw[if_neg (by omega)]
def qm{m:Int}{ts:List (List Int)}(dJ:m<=8)(aS:∀t∈ts,IsCell m t):∀{h:Nat}{cs:List (List Int)},(∀c∈cs,c∈c8 ts h)->lG cs
 |0,cs,ai=>⟨λc h=>⟨(iK aS (ai c h)).2.2,by have:=(mv.mp (ai c h)).1;omega⟩,[],λc h e he=>by rw[Eh (ai c h)]at he;exact he,by simp⟩
 |h+1,cs,ai=>⟨λc h=>⟨(iK aS (ai c h)).2.2,by have:=oe (iK aS (ai c h));omega⟩,c8 ts h,λc h e he=>Ei aS (ai c h) he,by have:=p8 (h:=h) dJ aS;omega⟩
def tN{m:Int}{ts:List (List Int)}(aS:∀t∈ts,IsCell m t){h:Nat}{cs:List (List Int)}(ai:∀c∈cs,c∈c8 ts (h+1)){e:List Int}(he:e∈cM cs):e∈c8 ts h:=by
 obtain⟨c,hp,ae⟩:=rj (λc h=>(iK aS (ai c h)).2.2) he
 exact Ei aS (ai c hp) ae
def yb{m:Int}{ts:List (List Int)}(aS:∀t∈ts,IsCell m t){cs:List (List Int)}(ai:∀c∈cs,c∈c8 ts 0):cM cs=[]:=by
 rw[WC];intro e he;obtain⟨c,hp,ae⟩:=rj (λc h=>(iK aS (ai c h)).2.2) he
 rw[Eh (ai c hp)]at ae;cases ae
def JC{m:Int}{ts:List (List Int)}(dJ:m<=8)(aS:∀t∈ts,IsCell m t):∀{h:Nat}{cs:List (List Int)},(∀c∈cs,c∈c8 ts h)->lG (cM cs)
 |0,cs,ai=>by rw[yb aS ai];exact⟨λc h=>by simp at h,[],λc h=>by simp at h,by simp⟩
 |h+1,cs,ai=>qm dJ aS (h:=h) λc Kz=>tN aS ai Kz
def zF{m:Int}{ts:List (List Int)}(aS:∀t∈ts,IsCell m t){h:Nat}{cs:List (List Int)}(az:cI lexLt cs)(ai:∀c∈cs,c∈c8 ts h):lW m ts h (.tup (cs.map ay))=true:=by
 have qx:∀c∈cs,IsCell m c:=λc h=>iK aS (ai c h)
 rw[zD m ts h cs qx,<- zE aS qx,UU];refine j3 gc az (Vb Wi (n9 ts h)) λz=>?_
 rw[U0,UU];exact⟨λw=>⟨ai z w,w⟩,λw=>w.2⟩
def J0(w n:Nat)(i:Int):eb w n (.int i)=true:=by cases n<;>rfl
def AW{m:Int}{ts:List (List Int)}(dJ:m<=8)(aS:∀t∈ts,IsCell m t){h:Nat}{cs:List (List Int)}(aD:cs.Nodup)(ai:∀c∈cs,c∈c8 ts h):eb 75 50 (.tup (cs.map ay))=true:=by
 have J:=hT aD ai;have aa:=p8 (h:=h) dJ aS;show(decide ((cs.map ay).length<=75)&&(cs.map ay).all (eb 75 49))=true;rw[decide_eq_true (by rw[List.length_map];omega),Bool.true_and,UR]
 intro d hd;obtain⟨c,gS,rfl⟩:=List.mem_map.mp hd;have aL:=oe (iK aS (ai c gS));show(decide ((c.map D.int).length<=75)&&(c.map D.int).all (eb 75 48))=true;rw[decide_eq_true (by rw[List.length_map];omega),Bool.true_and,UR]
 intro d hd;obtain⟨x,_,rfl⟩:=List.mem_map.mp hd;exact J0 _ _ _
def Rg(a:List (List Int)):bO a a=[]:=by
 rw[WC];intro e he;rcases oZ.mp he with⟨x,y⟩|⟨x,y⟩<;>exact y x
def ML {l6 wg qp se we wm oz l4 Aw AI : Nat} {jQ : D}
    (hO : ∀ k : Nat, ∃ r : Int, 0 <= r /\ r < lK /\ Φ l4 [jQ, .int (k : Int)] = .ok (.int r))
    (dg : ∀ i : Int, 0 <= i -> ∃ m ts, Φ AI [.int i, .int 8] = .ok (fb m ts) /\ Net m ts /\ ts.length <= 70)
    (Kv : ∀ m ts (h : Nat), Net m ts -> ts.length <= 70 -> h <= 7 -> Φ Aw [fb m ts, .int (h : Int)] = .ok (.lst ((c8 ts h).map ay)))
    (kf : ∀ i k : Int, ∃ r : Int, 0 <= r /\ r < lK /\ Φ oz [.int i, .int k] = .ok (.int r))
    (BR : ∀ a b : List (List Int), (∀ c ∈ a, c ≠ []) -> (∀ c ∈ b, c ≠ []) -> (cE (a ++ b)).length <= 75 -> Φ wm [.tup (a.map ay), .tup (b.map ay)] = .ok (.tup ((bO a b).map ay)))
    (w3 : ∀ a b : List (List Int), a.Nodup -> b.Nodup -> (∀ c ∈ a, c ≠ []) -> (∀ c ∈ b, c ≠ []) -> (bO a b).length <= 75 -> a.length + b.length <= 1000 -> Φ wg [.tup (a.map ay), .tup (b.map ay)] = .ok (.tup ((bO a b).map ay)))
    (nr : ∀ cs, lG cs -> Φ l6 [.tup (cs.map ay)] = .ok (.tup ((cM cs).map ay)))
    (Le : ∀ cs, lG cs -> Φ we [.tup (cs.map ay)] = .ok (.tup ((cM cs).map ay)))
    (xd : ∀ cs, lG cs -> Φ qp [.tup (cs.map ay)] = .ok (.aM (cM cs).isEmpty))
    (ie : ∀ m ts (h : Nat) d, Net m ts -> ts.length <= 70 -> h <= 7 -> eb 75 50 d = true -> Φ se [d, fb m ts, .int (h : Int)] = .ok (.aM (lW m ts h d))) :
    el pg Φ ⟨1, 9, cb.vb l6 wg qp se we wm oz l4 Aw AI⟩ [jQ] = .ok (.aM true) := by
  obtain ⟨i6, FT, _, dq⟩ := hO 0
  obtain ⟨aI, a1, _, aj⟩ := hO 1
  obtain ⟨a5, a2, _, av⟩ := hO 2
  obtain ⟨dn, a3, _, bF⟩ := hO 3
  have dq : Φ l4 [jQ, .int 0] = .ok (.int i6) := dq
  have aj : Φ l4 [jQ, .int 1] = .ok (.int aI) := aj
  have av : Φ l4 [jQ, .int 2] = .ok (.int a5) := av
  have bF : Φ l4 [jQ, .int 3] = .ok (.int dn) := bF
  obtain ⟨m, ts, ov, bj, wH⟩ := dg i6 FT
  have dJ := bj.hi
  have aS := bj.cell
  have hF := j8 aI (b := 5) (by decide)
  obtain ⟨h, b5⟩ : ∃ h : Nat, (h : Int) = aI % 5 := ⟨(aI % 5).toNat, by omega⟩
  have h9 := Kv m ts h bj wH (by omega)
  have Bp := p8 (h := h) dJ aS
  obtain ⟨dE, hd2⟩ : ∃ g : Int -> Int, ∀ k, Φ oz [.int a5, .int k] = .ok (.int (g k)) := ⟨fun k => Classical.choose (kf a5 k), fun k => (Xi (kf a5 k)).2.2⟩
  obtain ⟨jq, KC⟩ : ∃ g : Int -> Int, ∀ k, Φ oz [.int dn, .int k] = .ok (.int (g k)) := ⟨fun k => Classical.choose (kf dn k), fun k => (Xi (kf dn k)).2.2⟩
  obtain ⟨a, dO, dX⟩ := vI (g := elem pg Φ [some jQ, some (fb m ts), some (.int (h : Int)), some (.lst ((c8 ts h).map ay)), none, none, none, none, none, none] (.var 11) 2 (.some (.cmp .eq (.bin .mod (.call oz (.cons (.call l4 (.cons (.var 0) (.cons (.lit (.int 2)) (.nil)))) (.cons (.var 10) (.nil)))) (.lit (.int 3))) (.lit (.int 0)))))
    (q := fun k _ => dE (k : Int) % 3 == 0) (f := ay) (ks := c8 ts h) (j := 0) fun k a => by
      simp only [Den.bA, Nat.reduceAdd, av, hd2, gd _ 3 (by decide)]
      cases (dE (k : Int) % 3 == 0) <;> rfl
  obtain ⟨b, cv, dY⟩ := vI (g := elem pg Φ [some jQ, some (fb m ts), some (.int (h : Int)), some (.lst ((c8 ts h).map ay)), some (.tup (a.map ay)), none, none, none, none, none] (.var 11) 2 (.some (.cmp .eq (.bin .mod (.call oz (.cons (.call l4 (.cons (.var 0) (.cons (.lit (.int 3)) (.nil)))) (.cons (.var 10) (.nil)))) (.lit (.int 2))) (.lit (.int 0)))))
    (q := fun k _ => jq (k : Int) % 2 == 0) (f := ay) (ks := c8 ts h) (j := 0) fun k a => by
      simp only [Den.bA, Nat.reduceAdd, bF, KC, gd _ 2 (by decide)]
      cases (jq (k : Int) % 2 == 0) <;> rfl
  have rQ : cI lexLt a := Vb dO (n9 ts h)
  have pZ : cI lexLt b := Vb cv (n9 ts h)
  have az : ∀ c ∈ a, c ∈ c8 ts h := fun c ai => dO.subset ai
  have af : ∀ c ∈ b, c ∈ c8 ts h := fun c ai => cv.subset ai
  have hw : ∀ c ∈ bO a b, c ∈ c8 ts h := fun c ai => (oZ.mp ai).elim (fun z => az c z.1) fun z => af c z.1
  have ne : ∀ {h : Nat} {cs : List (List Int)}, (∀ c ∈ cs, c ∈ c8 ts h) -> ∀ c ∈ cs, c ≠ [] := fun b5 c ai => (iK aS (b5 c ai)).1
  have len : ∀ {h : Nat} {cs : List (List Int)}, cs.Nodup -> (∀ c ∈ cs, c ∈ c8 ts h) -> cs.length <= 70 := fun {h cs} aD ai => Vk (hT aD ai) (p8 (h := h) dJ aS)
  have cD : ∀ {a b : List (List Int)}, (∀ c ∈ a, c ∈ c8 ts h) -> (∀ c ∈ b, c ∈ c8 ts h) -> (cE (a ++ b)).length <= 75 := fun az af => Vk (z4 fun z au => (UY.mp au).elim (az z) (af z)) (by omega)
  have nw := j4 (ob a b)
  have ab := BR a b (ne az) (ne af) (cD az af)
  have IQ : Φ wm [.tup (a.map ay), .tup (a.map ay)] = .ok (.tup []) := by have := BR a a (ne az) (ne az) (cD az az); rw [Rg] at this; exact this
  have m4 := w3 a b (j4 rQ) (j4 pZ) (ne az) (ne af) (by have := len nw hw; omega) (by have := dO.length_le; have := cv.length_le; omega)
  have hg := ie m ts h (.tup ((bO a b).map ay)) bj wH (by omega) (AW dJ aS nw hw)
  rw [zF aS (ob a b) hw] at hg
  have Ai : ∀ a : List (List Int), e5 (.tup (a.map ay)) (.tup (a.map ay)) = .ok true := fun a => by rw [IJ, decide_eq_true rfl]
  have Aj : e5 (.tup []) (.tup []) = .ok true := rfl
  obtain ⟨dj, e, x, y, z, he⟩ := l5 (f := fun cs : List (List Int) => D.tup (cs.map ay)) (g := turn pg Φ 0 [7] (.cons (.asg 8 (.call l6 (.cons (.var 7) (.nil)))) (.cons (.iff (.or (.cmp .ne (.var 8) (.call we (.cons (.var 7) (.nil)))) (.and (.cmp .gt (.var 2) (.lit (.int 0))) (.not (.call se (.cons (.var 8) (.cons (.var 1) (.cons (.bin .sub (.var 2) (.lit (.int 1))) (.nil)))))))) (.cons (.ret (.lit (.aM false))) (.nil)) (.nil)) (.cons (.asg 9 (.call qp (.cons (.var 7) (.nil)))) (.cons (.iff (.or (.not (.prim (.inst .bool) (.var 9))) (.or (.cmp .ne (.var 9) (.cmp .eq (.var 8) (.tup (.nil)))) (.or (.cmp .nE (.call qp (.cons (.var 8) (.nil))) (.lit (.aM true))) (.cmp .ne (.call l6 (.cons (.var 8) (.nil))) (.tup (.nil)))))) (.cons (.ret (.lit (.aM false))) (.nil)) (.nil)) (.nil))))))
    (fun _ C => ∃ (x y z : Option D), C = [some jQ, some (fb m ts), some (.int (h : Int)), some (.lst ((c8 ts h).map ay)), some (.tup (a.map ay)), some (.tup (b.map ay)), some (.tup ((bO a b).map ay)), x, y, z])
    [a, b, bO a b] [some jQ, some (fb m ts), some (.int (h : Int)), some (.lst ((c8 ts h).map ay)), some (.tup (a.map ay)), some (.tup (b.map ay)), some (.tup ((bO a b).map ay)), none, none, none] ⟨none, none, none, rfl⟩ (fun pre c post C aC ⟨x, y, z, dA⟩ => by
      subst dA
      have ai : ∀ o ∈ c, o ∈ c8 ts h := by
        have : c ∈ [a, b, bO a b] := by rw [aC]; simp
        simp only [UI, Wl, Yj] at this
        rcases this with rfl | rfl | rfl
        · exact az
        · exact af
        · exact hw
      have cT := qm dJ aS ai
      have fr := JC dJ aS ai
      have Bn : ∀ o ∈ c, cI ltI o := fun o ar => (cT.1 o ar).1
      have aK := nr c cT
      have a6 := Le c cT
      have bT := xd c cT
      have c9 : Φ l6 [.tup ((cM c).map ay)] = .ok (.tup []) := by have := nr (cM c) fr; rw [DK Bn] at this; exact this
      have ky : Φ qp [.tup ((cM c).map ay)] = .ok (.aM true) := by have := xd (cM c) fr; rw [DK Bn] at this; exact this
      have x3 : ev pg Φ [some jQ, some (fb m ts), some (.int (h : Int)), some (.lst ((c8 ts h).map ay)), some (.tup (a.map ay)), some (.tup (b.map ay)), some (.tup ((bO a b).map ay)), some (.tup (c.map ay)), some (.tup ((cM c).map ay)), z] (.and (.cmp .gt (.var 2) (.lit (.int 0))) (.not (.call se (.cons (.var 8) (.cons (.var 1) (.cons (.bin .sub (.var 2) (.lit (.int 1))) (.nil))))))) = .ok (.aM false) := by
        cases h with
        | zero =>
          have : decide ((0 : Int) < ((0 : Nat) : Int)) = false := rfl
          simp only [Den.bA, Nat.reduceAdd, this]
        | succ h =>
          have cp : decide ((0 : Int) < ((h + 1 : Nat) : Int)) = true := decide_eq_true (by omega)
          have dE : ((h + 1 : Nat) : Int) - 1 = (h : Int) := by omega
          have aZ : ∀ e ∈ cM c, e ∈ c8 ts h := fun e he => tN aS ai he
          have jq := ie m ts h (.tup ((cM c).map ay)) bj wH (by omega) (AW dJ aS (j4 (oa c)) aZ)
          rw [zF aS (oa c) aZ] at jq
          simp only [Den.bA, Nat.reduceAdd, cp, dE, jq]
      have kz : iW pg.up (.aM (cM c).isEmpty) .bool = .ok true := rfl
      have Pl : e5 (.tup ((cM c).map ay)) (.tup []) = .ok (cM c).isEmpty := by rw [r7 (pl 58 _), qZ]
      have Pm : ((cM c).isEmpty == (cM c).isEmpty) = true := beq_self_eq_true _
      have Pj : nD (.aM true) (.aM true) = .ok true := rfl
      refine ⟨_, ?_, some (.tup (c.map ay)), some (.tup ((cM c).map ay)), some (.aM (cM c).isEmpty), rfl⟩
      simp only [Den.bA, Nat.reduceAdd, aK, a6, Ai, x3, bT, kz, Pl, Pm, ky, Pj, c9, Aj])
  have e := e
  simp only [List.map_cons, Xz] at e
  have vV : Φ l6 [.tup ((bO a b).map ay)] = .ok (.tup ((bO (cM a) (cM b)).map ay)) := by
    rw [nr _ (qm dJ aS hw), PL (j4 rQ) (j4 pZ) (fun c ai => (iK aS (az c ai)).2.2) fun c ai => (iK aS (af c ai)).2.2]
  have bg := qm dJ aS az
  have cZ := qm dJ aS af
  have era := nr a bg
  have IP := nr b cZ
  have Io : Φ wg [.tup ((cM a).map ay), .tup ((cM b).map ay)] = .ok (.tup ((bO (cM a) (cM b)).map ay)) := by
    cases h with
    | zero => rw [yb aS az, yb aS af]; exact w3 [] [] VL VL (fun c h => by simp at h) (fun c h => by simp at h) (by decide) (by decide)
    | succ h =>
      have bW : ∀ e ∈ cM a, e ∈ c8 ts h := fun e he => tN aS az he
      have cS : ∀ e ∈ cM b, e ∈ c8 ts h := fun e he => tN aS af he
      have na := j4 (oa a)
      have nb := j4 (oa b)
      have b7 := len na bW
      have dt := len nb cS
      have fv := len (j4 (ob (cM a) (cM b))) fun c ai => (oZ.mp ai).elim (fun z => bW c z.1) fun z => cS c z.1
      exact w3 _ _ na nb (ne bW) (ne cS) (by omega) (by omega)
  simp only [Den.bA, Nat.reduceAdd, cb.vb, dq, ov, aj, gd _ 5 (by decide), <- b5, h9, dX, dY, ab, m4, Ai, hg, IQ, Aj, e, he, vV, era, IP, Io]
end eV
end
section
namespace y6
open Den a9 eN eV fM
def fV{f:Nat}{fd:fJ}(h:fds[f]?=some fd)(n:Nat)(ds:List D):run pg fds (n+1) f ds=el pg (run pg fds n) fd ds:=by rw[rk,h]
noncomputable abbrev ed(n:Nat):dC:=run pg fds n
def Se(n:Nat)(a b:List (List Int))(az:∀c∈a,c≠[])(af:∀c∈b,c≠[])(h:(cE (a++b)).length<=75):ed (n+1) 0 [.tup (a.map ay),.lst (b.map ay)]=.ok (.tup ((bO a b).map ay)):=(fV (f:=0) rfl n _).trans (EI rfl rfl az af h)
def Sd(n:Nat)(a b:List (List Int))(az:∀c∈a,c≠[])(af:∀c∈b,c≠[])(h:(cE (a++b)).length<=75):ed (n+1) 0 [.tup (a.map ay),.tup (b.map ay)]=.ok (.tup ((bO a b).map ay)):=(fV (f:=0) rfl n _).trans (EI rfl rfl az af h)
def Sa(n:Nat)(c:List Int)(h:c.length<=1000):ed (n+1) 1 [ay c]=.ok (.lst ((da c).map ay)):=(fV (f:=1) rfl n _).trans (Q3 c h)
def EY(n:Nat)(cs:List (List Int))(h:lG cs):ed (n+2) 2 [.tup (cs.map ay)]=.ok (.tup ((cM cs).map ay)):=by
 obtain⟨J,U,aa,aL⟩:=h;exact(fV (f:=2) rfl _ _).trans (PJ rfl J aa aL (Se n) (Sa n))
def R9(n:Nat)(cs:List (List Int))(h:lG cs):ed (n+3) 3 [.tup (cs.map ay)]=.ok (.aM (cM cs).isEmpty):=(fV (f:=3) rfl _ _).trans (Me (EY n cs h))
def RZ(n:Nat)(is:List Int)(k:Nat):ed (n+1) 4 [.lst (is.map .int),.int (k:Int)]=.ok (.int (is.getD k 0)):=(fV (f:=4) rfl _ _).trans (G7 is k)
def R7(n:Nat)(is:List Int)(k:Nat):∃r:Int,0<=r/\r<lK/\ed (n+2) 5 [.lst (is.map .int),.int (k:Int)]=.ok (.int r):=by
 obtain⟨r,a,b,e⟩:=Nw (pg:=pg) (RZ n is) k;exact⟨r,a,b,(fV (f:=5) rfl _ _).trans e⟩
def EV(n:Nat)(i k:Int):∃r:Int,0<=r/\r<lK/\ed (n+1) 6 [.int i,.int k]=.ok (.int r):=by
 obtain⟨r,a,b,e⟩:=H8 (pg:=pg) (Φ:=ed n) i k;exact⟨r,a,b,(fV (f:=6) rfl _ _).trans e⟩
def R3(n:Nat)(c o:List Int):ed (n+1) 7 [ay c,ay o]=.ok (.aM (lies c o)):=(fV (f:=7) rfl n _).trans (MR c o)
def Sf(n:Nat)(ts:List (List Int))(aD:∀c∈ts,c≠[])(h:(cE ts).length<=75):ed (n+2) 8 [.lst (ts.map ay)]=.ok (.tup ((nI ts).map ay)):=(fV (f:=8) rfl _ _).trans (MV (R3 n) rfl aD h)
def EX(n s:Nat)(c:List Int)(ae:s<=8)(ai:c.length<=8):ed (n+9) 9 [ay c,.int (s:Int)]=.ok (.lst ((cW s c).map ay)):=De (fds:=fds) (f:=9) rfl s (n+9) c (by omega) ai
def Sb(n:Nat)(i m:Int)(J:1<=m)(dJ:m<=8):∃cs:List (List Int),ed (n+2) 10 [.int i,.int m]=.ok (.lst (cs.map ay))/\(∀c∈cs,IsCell m c)/\fZ m cs=true/\cs.length<=16:=by
 obtain⟨cs,e,r⟩:=Ri (pg:=pg) (EV n) i m J dJ;exact⟨cs,(fV (f:=10) rfl _ _).trans e,r⟩
def R4(n:Nat)(i:Int)(h0:0<=i):∃m ts,ed (n+10) 11 [.int i,.int 8]=.ok (fb m ts)/\Net m ts/\ts.length<=70:=by
 obtain⟨m,ts,e,r⟩:=NF (pg:=pg) (Φ:=ed (n+9)) (Sf (n+7)) (EX n) (Sb (n+7)) i h0;exact⟨m,ts,(fV (f:=11) rfl _ _).trans e,r⟩
def EW(n:Nat)(m:Int)(ts:List (List Int))(h:Nat)(bj:Net m ts)(aw:ts.length<=70)(ic:h<=7):ed (n+10) 12 [fb m ts,.int (h:Int)]=.ok (.lst ((c8 ts h).map ay)) :=
 (fV (f:=12) rfl _ _).trans (MO (λc ai=>by
  have:=EX n (h+1) c (by omega) ai
  have e:((h+1:Nat):Int)=(h:Int)+1:=rfl;rw[e]at this;exact this) (λt aS=>by have:=oe (bj.cell t aS);have:=bj.hi;omega) (by omega) (by have:=p8 (h:=h) bj.hi bj.cell;omega))
def R8(n:Nat)(d:D)(lo hi:Int):ed (n+1) 13 [d,.int lo,.int hi]=.ok (.aM (hU lo hi d)):=(fV (f:=13) rfl n _).trans (NP d lo hi)
def R1(n:Nat)(d:D)(m:Int)(h:eb 75 50 d=true):ed (n+2) 14 [d,.int m]=.ok (.aM (eY m d)):=(fV (f:=14) rfl _ _).trans (MP (R8 n) d m (JZ (by omega) h))
def R2(n:Nat)(m:Int)(ts:List (List Int))(h:Nat)(d:D)(bj:Net m ts)(aw:ts.length<=70)(ic:h<=7)(ba:eb 75 50 d=true):ed (n+11) 15 [d,fb m ts,.int (h:Int)]=.ok (.aM (lW m ts h d)) :=
 (fV (f:=15) rfl _ _).trans (MQ bj.cell (R1 (n+8)) (EW n m ts h bj aw ic) d ba)
def R5(n:Nat)(cs:List (List Int))(h:lG cs):ed (n+1) 16 [.tup (cs.map ay)]=.ok (.tup ((cM cs).map ay)):=by
 obtain⟨J,U,aa,aL⟩:=h;exact(fV (f:=16) rfl _ _).trans (MT rfl J aa aL)
def R6(n:Nat)(a b:List (List Int))(az:a.Nodup)(af:b.Nodup)(qF:∀c∈a,c≠[])(qG:∀c∈b,c≠[])(h:(bO a b).length<=75)(aw:a.length+b.length<=1000):ed (n+1) 17 [.tup (a.map ay),.tup (b.map ay)]=.ok (.tup ((bO a b).map ay)) :=
 (fV (f:=17) rfl _ _).trans (MU az af qF qG h aw)
def R0(is:List Int):run pg fds 21 18 [.lst (is.map .int)]=.ok (.aM true) :=
 (fV (f:=18) rfl _ _).trans (ML (R7 18 is) (R4 10) (EW 10) (EV 19) (Sd 19) (R6 19) (EY 18) (R5 19) (R9 17) (R2 9))
end y6
end
section
namespace bS
open PySem PySem.Spec PyProof.Rows bE
noncomputable abbrev D:=Den.D
noncomputable abbrev a0:=Den.a0
noncomputable abbrev br:=Den.R
noncomputable abbrev bV:=List (Option V)
noncomputable def dd{α:Type}(r:br α)(Q:α->Prop)(E:Nat->Prop):Prop:=match r with
 |.ok a=>Q a
 |.exc c=>E c
 |.bad=>False
def bB{α β:Type}{r:br α}{f:α->br β}{Q:β->Prop}{E:Nat->Prop}:dd (r>>=f) Q E<->dd r (λa=>dd (f a) Q E) E:=by
 cases r<;>exact Iff.rfl
def b3{α:Type}{r:br α}{Q iF:α->Prop}{E rH:Nat->Prop}(h:dd r Q E)(aE:∀a,Q a->iF a)(he:∀c,E c->rH c):dd r iF rH:=by
 cases r with
 |ok a=>exact aE a h
 |exc c=>exact he c h
 |bad=>exact h
mutual
noncomputable def Rep (K:W.Frag) (G:ax):D->V->Prop
 |.cU,v=>v=.cU
 |.aM b,v=>v=.aM b
 |.int i,v=>v=.int i
 |.str x,v=>v=.str x
 |.tup ds,v=>∃a xs,v=.ref a/\G a=some (.tup xs)/\bD K G ds xs
 |.lst ds,v=>∃a xs,v=.ref a/\dW K G a xs/\bD K G ds xs
 |.c2 _,_=>False
 |.eD _,_=>False
noncomputable def bD (K:W.Frag) (G:ax):List D->List V->Prop
 |[],xs=>xs=[]
 |d::ds,xs=>∃v r,xs=v::r/\Rep K G d v/\bD K G ds r
end
section
variable{K:W.Frag}{G aP H ao:ax}
def EB(s:bM G aP){a:Addr}{xs:List V}(h:fj K G a xs):fj K aP a xs:=by
 rcases h with(h|⟨o,h⟩)|h
 .exact .inl (.inl (s _ _ h))
 .exact .inl (.inr ⟨o,s _ _ h⟩)
 .exact .inr h
def hX(s:bM G aP){a:Addr}{xs:List V}(h:G a=some (.tup xs)):fj K aP a xs:=.inl (.inl (s _ _ h))
def jc(s:bM G aP){a:Addr}{xs:List V}(h:dW K G a xs):dW K aP a xs:=by
 rcases h with(h|⟨o,h⟩)|h
 .exact .inl (.inl (s _ _ h))
 .exact .inl (.inr ⟨o,s _ _ h⟩)
 .exact .inr h
mutual
theorem Rep.mono (s:bM G aP):∀{d:D}{v:V},Rep K G d v->Rep K aP d v
 |.cU,_,h=>h
 |.aM _,_,h=>h
 |.int _,_,h=>h
 |.str _,_,h=>h
 |.tup ds,_,⟨a,xs,e,h,r⟩=>⟨a,xs,e,s _ _ h,bD.mono s r⟩
 |.lst ds,_,⟨a,xs,e,h,r⟩=>⟨a,xs,e,jc s h,bD.mono s r⟩
 |.c2 _,_,h=>h
 |.eD _,_,h=>h
theorem bD.mono (s:bM G aP):∀{ds:List D}{xs:List V},bD K G ds xs->bD K aP ds xs
 |[],_,h=>h
 |d::ds,_,⟨v,r,e,J,aa⟩=>⟨v,r,e,Rep.mono s J,bD.mono s aa⟩
end
theorem bD.length:∀{ds:List D}{xs:List V},bD K G ds xs->ds.length=xs.length
 |[],_,h=>by cases h;rfl
 |d::ds,_,⟨v,r,e,J,aa⟩=>by subst e;simp[bD.length aa]
theorem bD.append:∀{ds ab:List D}{xs ys:List V},bD K G ds xs->bD K G ab ys->bD K G (ds++ab) (xs++ys)
 |[],_,_,_,h,q=>by cases h;exact q
 |d::ds,_,_,_,⟨v,r,e,J,aa⟩,q=>by subst e;exact⟨v,r++_,rfl,J,bD.append aa q⟩
theorem bD.get:∀{ds:List D}{xs:List V}{i:Nat}{d:D},bD K G ds xs->ds[i]?=some d->∃v,xs[i]?=some v/\Rep K G d v
 |[],_,_,_,h,e=>by simp at e
 |d::ds,_,0,_,⟨v,r,e,J,aa⟩,q=>by subst e;simp at q;subst q;exact⟨v,rfl,J⟩
 |d::ds,_,i+1,_,⟨v,r,e,J,aa⟩,q=>by subst e;simpa using bD.get aa (by simpa using q)
theorem bD.drop:∀{ds:List D}{xs:List V}(n:Nat),bD K G ds xs->bD K G (ds.drop n) (xs.drop n)
 |_,_,0,h=>by simpa using h
 |[],_,n+1,h=>by cases h;simp[bD]
 |d::ds,_,n+1,⟨v,r,e,J,aa⟩=>by subst e;simpa using bD.drop n aa
theorem bD.take:∀{ds:List D}{xs:List V}(n:Nat),bD K G ds xs->bD K G (ds.take n) (xs.take n)
 |_,_,0,h=>by simp[bD]
 |[],_,n+1,h=>by cases h;simp[bD]
 |d::ds,_,n+1,⟨v,r,e,J,aa⟩=>by subst e;exact⟨v,r.take n,by simp,J,bD.take n aa⟩
def bD.snoc{ds:List D}{xs:List V}{d:D}{v:V}(h:bD K G ds xs)(q:Rep K G d v):bD K G (ds++[d]) (xs++[v]):=h.append ⟨v,[],rfl,q,rfl⟩
noncomputable def gP(aB:List (List Int×Int)):List (List Key×V):=aB.map λp=>(p.1.map Sum.inl,V.int p.2)
noncomputable def View(K:W.Frag)(G H:ax):D->V->Prop
 |.c2 aB,v=>∃a,v=.ref a/\H a=some (.eu (gP aB))
 |.lst ds,v=>∃a xs,v=.ref a/\dW K H a xs/\bD K G ds xs
 |d,v=>Rep K G d v
def Rep.view(s:bM G H):∀{d:D}{v:V},Rep K G d v->View K G H d v
 |.lst ds,_,⟨a,xs,e,h,r⟩=>⟨a,xs,e,jc s h,r⟩
 |.cU,_,h=>h
 |.aM _,_,h=>h
 |.int _,_,h=>h
 |.str _,_,h=>h
 |.tup _,_,h=>h
 |.c2 _,_,h=>h.elim
 |.eD _,_,h=>h
structure Ext(G H aP ao:ax):Prop where
 g:bM G aP
 h:bM H ao
 sub:bM aP ao
 new:∀a,G a=none->H a≠none->aP a=none
 d4:∀b xs,ao b=some (.tup xs)->H b=some (.tup xs)\/aP b=some (.tup xs)
theorem Ext.refl(s:bM G H):Ext G H G H:=⟨bM.refl G,bM.refl H,s,λ_ h _=>h,λ_ _ h=>.inl h⟩
theorem Ext.trans{aJ H1:ax}(x:Ext G H aJ H1)(y:Ext aJ H1 aP ao):Ext G H aP ao :=
 ⟨x.g.trans y.g,x.h.trans y.h,y.sub,λa J aa=>y.new a (x.new a J aa) (λz=>by
  cases q:H a with
  |none=>exact aa q
  |some o=>rw[x.h a o q]at z;cases z),λb xs z=>(y.d4 b xs z).elim (λz=>(x.d4 b xs z).imp id λz=>y.g _ _ z) .inr⟩
def gg{H:ax}{a:Addr}{o:d8}(h:H a=none):bM H (upd H a o):=λb u e=>by rw[dc (iq e h)];exact e
def View.ext{H1 aJ:ax}(x:Ext G H aJ H1):∀{d:D}{v:V},View K G H d v->View K aJ H1 d v
 |.lst ds,_,⟨a,xs,e,h,r⟩=>⟨a,xs,e,jc x.h h,r.mono x.g⟩
 |.cU,_,h=>h
 |.aM _,_,h=>h
 |.int _,_,h=>h
 |.str _,_,h=>h
 |.tup _,_,h=>Rep.mono (K:=K) x.g h
 |.c2 _,_,⟨a,e,h⟩=>⟨a,e,x.h _ _ h⟩
 |.eD _,_,h=>h
def Ext.own(s:bM G H){a:Addr}{o:d8}(h:H a=none)(ar:∀xs,o≠.tup xs:=by intro _ z;cases z):Ext G H G (upd H a o):=⟨bM.refl G,gg h,s.trans (gg h),λ_ J _=>J,λb xs e=>by
 by_cases q:b=a
 .subst q;rw[eh]at e;cases e;exact absurd rfl (ar xs)
 .rw[dc q]at e;exact .inl e⟩
def Ext.put(s:bM G H){a:Addr}{o:d8}(h:H a=none):Ext G H (upd G a o) (upd H a o):=by
 have oC:G a=none:=s.free h;refine⟨gg oC,gg h,λb u e=>?_,λb J aa=>?_,λb xs e=>?_⟩
 .by_cases q:b=a
  .subst q;rw[eh]at e ⊢;exact e
  .rw[dc q]at e ⊢;exact s b u e
 .rw[dc (λq=>aa (by rw[q];exact h))];exact J
 .by_cases q:b=a
  .subst q;rw[eh]at e ⊢;exact .inr e
  .rw[dc q]at e;exact .inl e
end
inductive ep where
 |view|val|fresh
noncomputable def cz(K:W.Frag)(H aP ao:ax):ep->D->V->Prop
 |.view,d,v=>View K aP ao d v
 |.val,d,v=>Rep K aP d v
 |.fresh,.lst ds,v=>∃a xs,v=.ref a/\ao a=some (.lst xs)/\H a=none/\aP a=none/\bD K aP ds xs
 |.fresh,d,v=>Rep K aP d v
noncomputable def gy:D->Bool
 |.lst _=>true
 |.c2 _=>true
 |_=>false
noncomputable def kP(K:W.Frag)(G:ax):D->d8->Prop
 |.lst ds,o=>∃xs,o=.lst xs/\bD K G ds xs
 |.c2 aB,o=>o=.eu (gP aB)
 |_,_=>False
theorem kP.mono{K:W.Frag}{G aP:ax}(s:bM G aP):∀{d:D}{o:d8},kP K G d o->kP K aP d o
 |.lst _,_,⟨xs,e,r⟩=>⟨xs,e,r.mono s⟩
 |.c2 _,_,h=>h
 |.cU,_,h=>h
 |.aM _,_,h=>h
 |.int _,_,h=>h
 |.str _,_,h=>h
 |.tup _,_,h=>h
 |.eD _,_,h=>h
structure ea(K:W.Frag)(ak:List Nat)(G H:ax)(C:a0)(σ:bV):Prop where
 len:C.length=σ.length
 sub:bM G H
 val:∀(i:Nat)(d:D),C[i]?=some (some d)->i∉ak->∃v,σ[i]?=some (some v)/\Rep K G d v
 own:∀(i:Nat)(d:D),C[i]?=some (some d)->i∈ak->gy d=false->∃v,σ[i]?=some (some v)/\Rep K G d v
 lst:∀(i:Nat)(d:D),C[i]?=some (some d)->i∈ak->gy d=true->∃a o,σ[i]?=some (some (V.ref a))/\H a=some o/\G a=none/\kP K G d o
 d4:∀b xs,H b=some (.tup xs)->G b=some (.tup xs)
 apart:∀(i j:Nat)(d e:D)(a b:Addr),C[i]?=some (some d)->C[j]?=some (some e)->gy d=true->gy e=true->i∈ak->j∈ak->i≠j->σ[i]?=some (some (V.ref a))->σ[j]?=some (some (V.ref b))->a≠b
def ea.ext{K:W.Frag}{ak:List Nat}{G H aP ao:ax}{C:a0}{σ:bV}(h:ea K ak G H C σ)(x:Ext G H aP ao):ea K ak aP ao C σ where
 len:=h.len
 sub:=x.sub
 val:=λi d e hm=>let ⟨v,a,b⟩:=h.val i d e hm;⟨v,a,b.mono x.g⟩
 own:=λi d e hm aw=>let ⟨v,a,b⟩:=h.own i d e hm aw;⟨v,a,b.mono x.g⟩
 lst:=λi d e hm aw=>let ⟨a,o,J,aa,aL,a8⟩:=h.lst i d e hm aw;⟨a,o,J,x.h _ _ aa,x.new a aL (by rw[aa];exact λz=>nomatch z),a8.mono x.g⟩
 d4:=λb xs z=>(x.d4 b xs z).elim (λz=>x.g _ _ (h.d4 b xs z)) id
 apart:=h.apart
theorem ea.view{K:W.Frag}{ak:List Nat}{G H:ax}{C:a0}{σ:bV}(h:ea K ak G H C σ){i:Nat}{d:D}(e:C[i]?=some (some d)):∃v,σ[i]?=some (some v)/\View K G H d v:=by
 by_cases hm:i∈ak
 .cases hd:gy d with
  |false=>obtain⟨v,J,aa⟩:=h.own i _ e hm hd;exact⟨v,J,aa.view h.sub⟩
  |true =>
   obtain⟨a,o,J,aa,aL,a8⟩:=h.lst i d e hm hd;cases d with
   |lst ds=>obtain⟨xs,rfl,r⟩:=a8;exact⟨_,J,a,xs,rfl,.inl (.inl aa),r⟩
   |c2 aB=>cases a8;exact⟨_,J,a,rfl,aa⟩
   |_=>cases hd
 .obtain⟨v,J,aa⟩:=h.val i d e hm;exact⟨v,J,aa.view h.sub⟩
noncomputable abbrev cj:=Nat->Value->List Addr->Heap->Prop
noncomputable def uP(X:aV)(pins:List (Addr×Obj))(H:ax)(a:Addr):Prop :=
 H a=none/\(a∈X.ex\/X.eK.heap.get? a=none)/\a≠X.env.locals/\(∀x c,X.env.cells.lookup x=some c->c≠a)/\∀p∈X.e0++pins,p.1≠a
def uP.of{X:aV}{pins:List (Addr×Obj)}{σ:bV}{H ao:ax}{s:Shared}{a:Addr}(I:Inv X pins σ H s)(h:s.heap.get? a=none)(h':ao a=none):uP X pins ao a:=by
 have no:∀{b:Addr}{o:Obj},s.heap.get? b=some o->b≠a:=λq z=>by rw[z,h]at q;cases q
 refine⟨h',?_,λz=>?_,λx c q=>?_,λp q=>no (I.pin p q).1⟩
 .by_cases ah:a∈X.ex
  .exact .inl ah
  .refine .inr ?_;cases q:X.eK.heap.get? a with
   |none=>rfl
   |some o=>obtain⟨bN,e⟩:=I.base.there a o q ah;rw[h]at e;cases e
 .obtain⟨m,⟨o,_,_,ar,_⟩,_⟩:=I.loc;exact no ar z.symm
 .obtain⟨v,o,ar,_⟩:=I.cell x c q;exact no ar
noncomputable def gK(xp:cj)(X:aV)(c:Nat)(H:ax):Prop:=∀(pins:List (Addr×Obj))(σ:bV)(ao:ax)(s':Shared)(e:Value)(l:List Addr),Inv X pins σ ao s'->bM H ao->(∀a∈l,uP X pins ao a)->xp c e l s'.heap->X.cR e s'
def gK.mono{xp:cj}{X:aV}{c:Nat}{H ao:ax}(h:gK xp X c H)(s:bM H ao):gK xp X c ao:=λpins σ aW s' e l I q n x=>h pins σ aW s' e l I (s.trans q) n x
noncomputable def bk(xp:cj)(X:aV)(ak:List Nat)(m:ep)(f:a0->br D):TE:=λσ H Q =>
 ∃G C,ea X.K ak G H C σ/\dd (f C) (λd=>∀v aP ao,Ext G H aP ao->cz X.K H aP ao m d v->Q v ao) (λc=>gK xp X c H)
theorem cz.view{K:W.Frag}{H aP ao:ax}(s:bM aP ao):∀{m:ep}{d:D}{v:V},cz K H aP ao m d v->View K aP ao d v
 |.view,_,_,h=>h
 |.val,_,_,h=>Rep.view s h
 |.fresh,.lst ds,_,⟨a,xs,e,J,_,_,r⟩=>⟨a,xs,e,.inl (.inl J),r⟩
 |.fresh,.cU,_,h=>h
 |.fresh,.aM _,_,h=>h
 |.fresh,.int _,_,h=>h
 |.fresh,.str _,_,h=>h
 |.fresh,.tup _,_,h=>h
 |.fresh,.c2 _,_,h=>h.elim
 |.fresh,.eD _,_,h=>h
theorem aR.val{xp:cj}{X:aV}{ak:List Nat}{e:Expr}{f:a0->br D}(h:aR X e (bk xp X ak .fresh f)):aR X e (bk xp X ak .val f):=by
 intro pins s σ H Q I ⟨G,C,ae,hw⟩;refine h pins s σ H Q I ⟨G,C,ae,b3 hw (λd k v aP ao x r=>?_) λ_ q=>q⟩
 cases d with
 |lst ds =>
  obtain⟨a,xs,rfl,J,aa,aL,a8⟩:=r;refine k _ (upd aP a (.lst xs)) ao ⟨x.g.trans (gg aL),x.h,λb o q=>?_,λb aK a6=>?_,λb xs q=>(x.d4 b xs q).imp id λz=>gg aL _ _ z⟩ ⟨a,xs,rfl,.inl (.inl eh),a8.mono (gg aL)⟩
  .by_cases af:b=a
   .subst af;rw[eh]at q;rw[J];exact q
   .rw[dc af]at q;exact x.sub b o q
  .rw[dc (λz=>a6 (by rw[z];exact aa))];exact x.new b aK a6
 |_=>exact k v aP ao x r
theorem aR.view{xp:cj}{X:aV}{ak:List Nat}{m:ep}{e:Expr}{f:a0->br D}(h:aR X e (bk xp X ak m f)):aR X e (bk xp X ak .view f):=by
 intro pins s σ H Q I ⟨G,C,ae,hw⟩;exact h pins s σ H Q I ⟨G,C,ae,b3 hw (λd k v aP ao x r=>k v aP ao x (r.view x.sub)) λ_ q=>q⟩
end bS
end
section
namespace bS
open PySem PySem.Spec PyProof.Rows bE
section
variable{xp:cj}{X:aV}{ak:List Nat}{pg:Den.dk}{Φ:Den.dC}
def D2{i:Nat}{x:Str}{p:Pos}(bj:X.N[i]?=some x)(aQ:hE X.env.scope x)(J:(x==("__debug__":Str))=false)(aa:(x==("__classdict__":Str))=false):aR X (.Name x p) (bk xp X ak .view λC=>Den.ev pg Φ C (.var i)):=by
 intro pins s σ H Q I ⟨G,C,ae,hw⟩;dsimp only at hw;cases e:C[i]? with
 |none=>rw[Den.r8,e]at hw;exact hw.elim
 |some o =>
  cases o with
  |none=>rw[Den.r8,e]at hw;exact hw.elim
  |some d =>
   rw[Den.Ap i e]at hw;obtain⟨v,a,b⟩:=ae.view e;exact i5 bj aQ J aa pins s σ H Q I ⟨v,a,hw v G H (Ext.refl ae.sub) b⟩
def QI{i:Nat}{x:Str}{p:Pos}(hm:i∉ak)(bj:X.N[i]?=some x)(aQ:hE X.env.scope x)(J:(x==("__debug__":Str))=false)(aa:(x==("__classdict__":Str))=false):aR X (.Name x p) (bk xp X ak .val λC=>Den.ev pg Φ C (.var i)):=by
 intro pins s σ H Q I ⟨G,C,ae,hw⟩;dsimp only at hw;cases e:C[i]? with
 |none=>rw[Den.r8,e]at hw;exact hw.elim
 |some o =>
  cases o with
  |none=>rw[Den.r8,e]at hw;exact hw.elim
  |some d =>
   rw[Den.Ap i e]at hw;obtain⟨v,a,b⟩:=ae.val i d e hm;exact i5 bj aQ J aa pins s σ H Q I ⟨v,a,hw v G H (Ext.refl ae.sub) b⟩
def DZ{d:D}{c:Const}{j:Nat}{p:Pos}{m:ep}(h:Den.litOk d c=true):aR X (.Constant c j p) (bk xp X ak m λC=>Den.ev pg Φ C (.lit d)):=by
 intro pins s σ H Q I ⟨G,C,ae,hw⟩;dsimp only at hw;rw[Den.Am]at hw;have fin:∀v,cz X.K H G H m d v->Q v H:=λv r=>hw v G H (Ext.refl ae.sub) r
 cases d with
 |cU=>cases c<;>simp[Den.litOk]at h;exact OB pins s σ H Q I (fin _ (by cases m<;>rfl))
 |aM b =>
  cases c<;>simp[Den.litOk]at h;subst h;exact Oj pins s σ H Q I (fin _ (by cases m<;>rfl))
 |int i =>
  cases c<;>simp[Den.litOk]at h;subst h;exact xX pins s σ H Q I (fin _ (by cases m<;>rfl))
 |str x =>
  cases c<;>simp[Den.litOk]at h;subst h;exact OF pins s σ H Q I (fin _ (by cases m<;>rfl))
 |_=>cases c<;>simp[Den.litOk]at h
noncomputable def nN(K:W.Frag)(g:D->D->br D):fx:=λx y H Q=>∃G a4 cq,bM G H/\View K G H a4 x/\View K G H cq y/\dd (g a4 cq) (λd=>∀v aP ao,Ext G H aP ao->cz K H aP ao .fresh d v->Q v ao) (λ_=>False)
def cz.old{K:W.Frag}{H H1 aP ao:ax}(s:bM H H1):∀{m:ep}{d:D}{v:V},cz K H1 aP ao m d v->cz K H aP ao m d v
 |.view,_,_,h=>h
 |.val,_,_,h=>h
 |.fresh,.lst ds,_,⟨a,xs,e,J,aa,aL,r⟩=>⟨a,xs,e,J,s.free aa,aL,r⟩
 |.fresh,.cU,_,h=>h
 |.fresh,.aM _,_,h=>h
 |.fresh,.int _,_,h=>h
 |.fresh,.str _,_,h=>h
 |.fresh,.tup _,_,h=>h
 |.fresh,.c2 _,_,h=>h
 |.fresh,.eD _,_,h=>h
def P4{bg cZ:a0->br D}{g:D->D->br D}{a b:Expr}{op:Operator}{pos:Pos}(ba:∀x y c,g x y≠.exc c)(ar:c7 X (binaryOp op) (nN X.K g))(az:aR X a (bk xp X ak .view bg))(af:aR X b (bk xp X ak .view cZ)):
  aR X (.BinOp a op b pos) (bk xp X ak .fresh λC=>bg C>>=λx=>cZ C>>=λy=>g x y):=by
 intro pins s σ H Q I ⟨G,C,ae,hw⟩;refine Dh ar az af pins s σ H Q I ?_;refine⟨G,C,ae,b3 (bB.mp hw) (λa4 k v aJ H1 aU aI=>?_) λ_ q=>q⟩
 refine⟨aJ,C,ae.ext aU,b3 (bB.mp k) (λcq k2 v2 bJ aW bu a5=>?_) λ_ q=>q.mono aU.h⟩
 refine⟨bJ,a4,cq,bu.sub,View.ext bu aI,a5,?_⟩;cases q:g a4 cq with
 |ok d =>
  rw[q]at k2;exact λug j0 b2 g0 dn=>k2 ug j0 b2 ((aU.trans bu).trans g0) (dn.old (aU.h.trans bu.h))
 |exc c=>exact absurd q (ba _ _ _)
 |bad=>rw[q]at k2;exact k2
def oA{K:W.Frag}{G H:ax}{Q:c4}{d:D}{v:V}(ae:bM G H)(k:∀v aP ao,Ext G H aP ao->cz K H aP ao .fresh d v->Q v ao)(r:cz K H G H .fresh d v):Q v H:=k v G H (Ext.refl ae) r
def HZ:c7 X (binaryOp .Sub) (nN X.K (Den.e3 .sub)):=by
 intro pins s σ H x y v u Q I aY bz ⟨G,a4,cq,ae,bh,dp,hw⟩;cases a4<;>cases cq<;>first|exact hw.elim|skip
 exact N8 pins s σ H x y v u Q I aY bz ⟨_,_,bh,dp,oA ae hw rfl⟩
def HW:c7 X (binaryOp .Mod) (nN X.K (Den.e3 .mod)):=by
 intro pins s σ H x y v u Q I aY bz ⟨G,a4,cq,ae,bh,dp,hw⟩;cases a4<;>cases cq<;>first|exact hw.elim|skip
 rename_i i j;rw[Den.mod_int]at hw
 by_cases h:0<j
 .rw[if_pos h]at hw;exact N6 pins s σ H x y v u Q I aY bz ⟨_,_,bh,dp,h,oA ae hw rfl⟩
 .rw[if_neg h]at hw;exact hw.elim
def HT:c7 X (binaryOp .FloorDiv) (nN X.K (Den.e3 .fdiv)):=by
 intro pins s σ H x y v u Q I aY bz ⟨G,a4,cq,ae,bh,dp,hw⟩;cases a4<;>cases cq<;>first|exact hw.elim|skip
 rename_i i j;rw[Den.Ax]at hw
 by_cases h:0<j/\j<1073741824
 .rw[if_pos h]at hw;exact N0 pins s σ H x y v u Q I aY bz ⟨_,_,bh,dp,h,oA ae hw rfl⟩
 .rw[if_neg h]at hw;exact hw.elim
end
end bS
end
section
namespace bS
open PySem PySem.Spec PyProof.Rows bE
mutual
noncomputable def toPy:D->PyData
 |.cU=>.none
 |.aM b=>.bool b
 |.int i=>.int i
 |.str x=>.str x
 |.tup xs=>.tuple (gZ xs)
 |.lst xs=>.list (gZ xs)
 |.c2 _=>.dict []
 |.eD _=>.dict []
noncomputable def gZ:List D->List PyData
 |[]=>[]
 |d::ds=>toPy d::gZ ds
end
mutual
theorem qj:∀a b:D,PyData.eqv (toPy a) (toPy b)=Den.e4 a b
 |.cU,b=>by cases b<;>rfl
 |.aM _,b=>by cases b<;>rfl
 |.int _,b=>by cases b<;>rfl
 |.str _,b=>by cases b<;>rfl
 |.tup xs,b=>by
  cases b with
  |tup ys=>exact vU xs ys
  |_=>rfl
 |.lst xs,b=>by
  cases b with
  |lst ys=>exact vU xs ys
  |_=>rfl
 |.c2 _,b=>by cases b<;>rfl
 |.eD _,b=>by cases b<;>rfl
theorem vU:∀a b:List D,PyData.eqvAll (gZ a) (gZ b)=Den.kY a b
 |[],[]=>rfl
 |[],_::_=>rfl
 |_::_,[]=>rfl
 |x::xs,y::ys=>by simp only[gZ,PyData.eqvAll,Den.kY,qj x y,vU xs ys]
end
mutual
theorem pn:∀(n:Nat)(d:D),Den.cQ n d=true->(toPy d).canLay0=true/\(toPy d).depth<=n
 |n,.cU,_=>⟨rfl,UH _⟩
 |n,.aM _,_=>⟨rfl,UH _⟩
 |n,.int _,_=>⟨rfl,UH _⟩
 |0,.str x,h=>⟨h,UH _⟩
 |n+1,.str x,h=>⟨h,UH _⟩
 |0,.tup _,h=>by cases h
 |n+1,.tup xs,h=>by
  obtain⟨a,b⟩:=ym n xs h;exact⟨a,by show PyData.depthAll (gZ xs)+1<=n+1;omega⟩
 |0,.lst _,h=>by cases h
 |n+1,.lst xs,h=>by
  obtain⟨a,b⟩:=ym n xs h;exact⟨a,by show PyData.depthAll (gZ xs)+1<=n+1;omega⟩
 |0,.c2 _,h=>by cases h
 |n+1,.c2 _,h=>by cases h
 |0,.eD _,h=>by cases h
 |n+1,.eD _,h=>by cases h
theorem ym:∀(n:Nat)(ds:List D),ds.all (Den.cQ n)=true->PyData.canLayAll0 (gZ ds)=true/\PyData.depthAll (gZ ds)<=n
 |n,[],_=>⟨rfl,UH _⟩
 |n,d::ds,h=>by
  simp only[List.all_cons,UB]at h;obtain⟨a,b⟩:=pn n d h.1;obtain⟨n8,h6⟩:=ym n ds h.2;refine⟨by simp only[gZ,PyData.canLayAll0,a,n8,Yo],?_⟩
  show max (PyData.depth (toPy d)) (PyData.depthAll (gZ ds))<=n;omega
end
def tV{d:D}(h:Den.cQ 60 d=true):SeqAt.shaped (toPy d)=true:=by
 obtain⟨a,b⟩:=pn 60 d h;unfold SeqAt.shaped;rw[a,Bool.true_and];exact decide_eq_true (by omega)
section
variable{xp:cj}{X:aV}{ak:List Nat}{pg:Den.dk}{Φ:Den.dC}{pins:List (Addr×Obj)}{σ:bV}{G H:ax}{s:Shared}
mutual
theorem DD (I:Inv X pins σ H s) (ae:bM G H):∀{d:D}{v:V}{u:Value},Rep X.K G d v->RelV v u->∃as,Reads s.heap u (toPy d) as
 |.cU,_,_,h,r=>by cases h;cases r;exact⟨_,.none⟩
 |.aM b,_,_,h,r=>by cases h;cases r;exact⟨_,.bool b⟩
 |.int i,_,_,h,r=>by cases h;obtain⟨t,rfl⟩:=r;exact⟨_,.int i t⟩
 |.str x,_,_,h,r=>by cases h;obtain⟨t,rfl⟩:=r;exact⟨_,.str x t⟩
 |.tup ds,_,_,⟨a,xs,e,h,q⟩,r=>by
  subst e;cases r;obtain⟨its,bG,⟨o,ar,ai,n,hd⟩,_⟩:=I.tuple (hX ae h);obtain⟨as,bW⟩:=pf I ae q bG;exact⟨as,.tuple ar ai hd (by simpa using bW)⟩
 |.lst ds,_,_,⟨a,xs,e,h,q⟩,r=>by
  subst e;cases r;obtain⟨its,bG,⟨o,n,ar,ai,_,hd⟩,_⟩:=I.list (jc ae h);obtain⟨as,bW⟩:=pf I ae q bG;exact⟨a::as,.list ar ai hd (by simpa using bW)⟩
 |.c2 _,_,_,h,_=>h.elim
 |.eD _,_,_,h,_=>h.elim
theorem pf (I:Inv X pins σ H s) (ae:bM G H):∀{ds:List D}{xs:List V}{us:List Value},bD X.K G ds xs->Vals xs us->∃as,ReadsAll s.heap us (gZ ds) as
 |[],_,_,h,r=>by cases h;cases r;exact⟨_,.nil⟩
 |d::ds,_,_,⟨v,t,e,J,aa⟩,r=>by
  subst e;cases r with
  |cons aI a5 =>
   obtain⟨as,bW⟩:=DD I ae J aI;obtain⟨bs,cS⟩:=pf I ae aa a5;exact⟨as++bs,.cons bW cS⟩
end
def pe(I:Inv X pins σ H s)(ae:bM G H){d:D}{v:V}{u:Value}(h:View X.K G H d v)(r:RelV v u)(mi:Den.cQ 60 d=true):∃as,Reads s.heap u (toPy d) as:=by
 cases d with
 |c2 aB=>cases mi
 |lst ds =>
  obtain⟨a,xs,rfl,h,q⟩:=h;cases r;obtain⟨its,bG,⟨o,n,ar,ai,_,hd⟩,_⟩:=I.list h;obtain⟨as,bW⟩:=pf I ae q bG;exact⟨a::as,.list ar ai hd (by simpa using bW)⟩
 |_=>exact DD I ae h r
noncomputable def fF(K:W.Frag)(g:D->D->br Bool):fx:=λx y H Q=>∃G a4 cq,bM G H/\View K G H a4 x/\View K G H cq y/\dd (g a4 cq) (λb=>Q (.aM b) H) (λ_=>False)
def yR{r:br Bool}{Q:Bool->Prop}{E:Nat->Prop}:dd (Den.i3 r) Q E<->dd r (λb=>Q (!b)) E:=by cases r<;>exact Iff.rfl
def Fs{x y:D}{Q:Bool->Prop}{E:Nat->Prop}(h:dd (Den.e5 x y) Q E):Den.cQ 60 x=true/\Den.cQ 60 y=true/\Q (Den.e4 x y):=by
 unfold Den.e5 at h;cases q:(Den.cQ 60 x&&Den.cQ 60 y) with
 |false=>rw[q]at h;exact h.elim
 |true =>
  rw[q]at h;simp only[UB]at q;exact⟨q.1,q.2,h⟩
def GU(bQ:X.A.units+64<cLine):c7 X (compareOp .Eq) (fF X.K (Den.dm .eq)):=by
 intro pins s σ H x y v u Q I aY bz ⟨G,a4,cq,ae,bh,dp,hw⟩;rw[Den.zN]at hw;obtain⟨J,aa,q⟩:=Fs hw;obtain⟨as,bW⟩:=pe I ae bh aY J;obtain⟨bs,cS⟩:=pe I ae dp bz aa;refine eq_dataH bW cS (tV J) (tV aa) bQ ?_;rw[qj];exact⟨.aM _,H,I,rfl,q⟩
def G2(bQ:X.A.units+64<cLine):c7 X (compareOp .NotEq) (fF X.K (Den.dm .ne)):=by
 intro pins s σ H x y v u Q I aY bz ⟨G,a4,cq,ae,bh,dp,hw⟩;rw[Den.zR]at hw;obtain⟨J,aa,q⟩:=Fs (yR.mp hw);obtain⟨as,bW⟩:=pe I ae bh aY J;obtain⟨bs,cS⟩:=pe I ae dp bz aa;refine ne_dataH bW cS (tV J) (tV aa) bQ ?_;rw[qj];exact⟨.aM _,H,I,rfl,q⟩
end
end bS
end
section
namespace bS
open PySem PySem.Spec PyProof.Rows bE
section
variable{xp:cj}{X:aV}{ak:List Nat}{pg:Den.dk}{Φ:Den.dC}{pins:List (Addr×Obj)}{σ:bV}{G H:ax}{s:Shared}
open Classical in
noncomputable def l2 (h:Heap) (a4:D) (y:Value):Bool:=decide (∃(d:D)(as:List Addr),Reads h y (toPy d) as/\Den.cQ 60 d=true/\Den.e4 d a4=true)
open Classical in
theorem Ad {h:Heap} {a4 d:D} {y:Value} {as:List Addr} (r:Reads h y (toPy d) as) (hd:Den.cQ 60 d=true):l2 h a4 y=Den.e4 d a4:=by
 unfold l2;cases q:Den.e4 d a4 with
 |true=>exact decide_eq_true ⟨d,as,r,hd,q⟩
 |false =>
  refine decide_eq_false ?_;rintro⟨d',Tx,bL,f7,cL⟩;have e:=SeqAt.Reads.unique _ _ _ _ _ (pn 60 d hd).1 r bL;rw[<- qj]at q cL;rw[e,cL]at q;cases q
theorem u1{h:Heap}{a4:D}:∀{ds:List D}{us:List Value}{as:List Addr},ReadsAll h us (gZ ds) as->ds.all (Den.cQ 60)=true->us.any (l2 h a4)=ds.any λd=>Den.e4 d a4
 |[],_,_,r,_=>by cases r;rfl
 |d::ds,_,_,r,hd=>by
  cases r with
  |cons aI a5 =>
   simp only[List.all_cons,UB]at hd;simp only[List.any_cons,Ad aI hd.1,u1 a5 hd.2]
theorem vS(bQ:X.A.units+64<cLine){a4:D}{v:Value}{bs:List Addr}(aY:Reads s.heap v (toPy a4) bs)(ah:Den.cQ 60 a4=true):∀{ds:List D}{us:List Value}{as:List Addr},ReadsAll s.heap us (gZ ds) as->ds.all (Den.cQ 60)=true->∀y,y∈us->SeqAt.EqAt X.A.in1 s y v (l2 s.heap a4 y)
 |[],_,_,r,_,y,aA=>by cases r;simp at aA
 |d::ds,_,_,r,hd,y,aA=>by
  cases r with
  |cons aI a5 =>
   simp only[List.all_cons,UB]at hd;rcases UI.mp aA with rfl|aA
   .rw[Ad aI hd.1,<- qj];refine SeqAt.eqAt_reads _ _ _ _ _ _ _ _ aI aY (pn 60 _ hd.1).1 (pn 60 _ ah).1 ?_;have J:=(pn 60 _ hd.1).2;show X.A.units+1+_<cLine;have:min (toPy d).depth (toPy a4).depth<=60:=Vk (Nat.min_le_left _ _) J;omega
   .exact vS bQ aY ah a5 hd.2 y aA
def Ft{x:D}{ys:List D}{Q:Bool->Prop}{E:Nat->Prop}(h:dd (Den.gX x ys) Q E):Den.cQ 60 x=true/\ys.all (Den.cQ 60)=true/\Q (Den.memD x ys):=by
 unfold Den.gX at h;cases q:(Den.cQ 60 x&&ys.all (Den.cQ 60)) with
 |false=>rw[q]at h;exact h.elim
 |true =>
  rw[q]at h;simp only[UB]at q;exact⟨q.1,q.2,h⟩
def B0{ys:List D}{y:V}{u:Value}(I:Inv X pins σ H s)(ae:bM G H)(h:View X.K G H (.tup ys) y\/View X.K G H (.lst ys) y)(r:RelV y u):
  ∃(a:Addr)(its:List Value)(as:List Addr),u=.ref a/\ReadsAll s.heap its (gZ ys) as/\(s.heap.IsTuple a its.toArray\/s.heap.IsList a its.toArray):=by
 rcases h with⟨a,xs,rfl,h,q⟩|⟨a,xs,rfl,h,q⟩
 .cases r;obtain⟨its,bG,⟨o,ar,ai,n,hd⟩,_⟩:=I.tuple (hX ae h);obtain⟨as,bW⟩:=pf I ae q bG;exact⟨a,its,as,rfl,bW,.inl ⟨o,ar,ai,n,hd⟩⟩
 .cases r;obtain⟨its,bG,⟨o,n,ar,ai,_,hd⟩,_⟩:=I.list h;obtain⟨as,bW⟩:=pf I ae q bG;exact⟨a,its,as,rfl,bW,.inr ⟨o,ar,ai,n,hd⟩⟩
def GX(bQ:X.A.units+64<cLine):c7 X (compareOp .In) (fF X.K (Den.dm .mem)):=by
 intro pins s σ H x y v u Q I aY bz ⟨G,a4,cq,ae,bh,dp,hw⟩;have key:∀ys,(View X.K G H (.tup ys) y\/View X.K G H (.lst ys) y)->dd (Den.gX a4 ys) (λb=>Q (.aM b) H) (λ_=>False)->wpAny (model X.prog X.w) X.A (compareOp .In v u) (ei X pins σ Q) X.cR s:=by
  intro ys aA hw;obtain⟨J,aa,q⟩:=Ft hw;obtain⟨bs,cS⟩:=pe I ae bh aY J;obtain⟨a,its,as,rfl,bW,ar⟩:=B0 I ae aA bz;have e:its.toArray.any (l2 s.heap a4)=Den.memD a4 ys:=by rw[List.any_toArray];exact u1 bW aa
  have he:∀z,z∈its.toArray->SeqAt.EqAt X.A.in1 s z v (l2 s.heap a4 z):=λz au=>vS bQ cS J bW aa z (by simpa using au)
  rcases ar with ar|ar
  .exact SeqAt.in_tupleAt _ ar he (by rw[e];exact⟨.aM _,H,I,rfl,q⟩)
  .exact SeqAt.in_listAt _ ar he (by rw[e];exact⟨.aM _,H,I,rfl,q⟩)
 cases cq with
 |tup ys=>exact key ys (.inl dp) hw
 |lst ys=>exact key ys (.inr dp) hw
 |_=>cases a4<;>exact hw.elim
def G3(bQ:X.A.units+64<cLine):c7 X (compareOp .NotIn) (fF X.K (Den.dm .lr)):=by
 intro pins s σ H x y v u Q I aY bz ⟨G,a4,cq,ae,bh,dp,hw⟩;have key:∀ys,(View X.K G H (.tup ys) y\/View X.K G H (.lst ys) y)->dd (Den.i3 (Den.gX a4 ys)) (λb=>Q (.aM b) H) (λ_=>False)->wpAny (model X.prog X.w) X.A (compareOp .NotIn v u) (ei X pins σ Q) X.cR s:=by
  intro ys aA hw;obtain⟨J,aa,q⟩:=Ft (yR.mp hw);obtain⟨bs,cS⟩:=pe I ae bh aY J;obtain⟨a,its,as,rfl,bW,ar⟩:=B0 I ae aA bz;have e:its.toArray.any (l2 s.heap a4)=Den.memD a4 ys:=by rw[List.any_toArray];exact u1 bW aa
  have he:∀z,z∈its.toArray->SeqAt.EqAt X.A.in1 s z v (l2 s.heap a4 z):=λz au=>vS bQ cS J bW aa z (by simpa using au)
  rcases ar with ar|ar
  .exact SeqAt.notIn_tupleAt _ ar he (by rw[e];exact⟨.aM _,H,I,rfl,q⟩)
  .exact SeqAt.notIn_listAt _ ar he (by rw[e];exact⟨.aM _,H,I,rfl,q⟩)
 cases cq with
 |tup ys=>exact key ys (.inl dp) hw
 |lst ys=>exact key ys (.inr dp) hw
 |_=>cases a4<;>exact hw.elim
def Md{M:Model}{A:Around}{E:Value->Shared->Prop}{s:Shared}{Q:Value->Shared->Prop}{v:Value}{b:Bool}(aQ:∀n,v≠.builtin n)(h:Q (.bool (v==.bool b)) s):wpAny M A (compareOp .Is v (.bool b)) Q E s:=by
 cases v with
 |builtin n=>exact absurd rfl (aQ n)
 |_=>exact wpAny_pure h
def Mf{M:Model}{A:Around}{E:Value->Shared->Prop}{s:Shared}{Q:Value->Shared->Prop}{v:Value}{b:Bool}(aQ:∀n,v≠.builtin n)(h:Q (.bool (!(v==.bool b))) s):wpAny M A (compareOp .IsNot v (.bool b)) Q E s:=by
 cases v with
 |builtin n=>exact absurd rfl (aQ n)
 |_=>exact wpAny_pure h
def DE{x:V}{v:Value}(r:RelV x v):∀n,v≠.builtin n:=by
 intro n e;subst e;cases x<;>first|(cases r;done)|(obtain⟨t,h⟩:=r;cases h)
def B9{K:W.Frag}{a4 cq:D}{x y:V}{v u:Value}{Q:Bool->Prop}{E:Nat->Prop}(bh:View K G H a4 x)(dp:View K G H cq y)(aY:RelV x v)(bz:RelV y u)(h:dd (Den.nD a4 cq) Q E):
  (u=.none/\Q (v==.none))\/∃b,u=.bool b/\Q (v==.bool b):=by
 cases cq with
 |cU =>
  cases dp;cases bz;refine .inl ⟨rfl,?_⟩;cases a4 with
  |cU=>cases bh;cases aY;exact h
  |aM _=>cases bh;cases aY;exact h
  |int _=>cases bh;obtain⟨t,rfl⟩:=aY;exact h
  |str _=>cases bh;obtain⟨t,rfl⟩:=aY;exact h
  |tup _=>obtain⟨a,xs,rfl,_⟩:=bh;cases aY;exact h
  |lst _=>obtain⟨a,xs,rfl,_⟩:=bh;cases aY;exact h
  |c2 _=>obtain⟨a,rfl,_⟩:=bh;cases aY;exact h
  |eD _=>exact bh.elim
 |aM b =>
  cases dp;cases bz;refine .inr ⟨b,rfl,?_⟩;cases a4 with
  |cU=>cases bh;cases aY;exact h
  |aM a =>
   cases bh;cases aY;have e:(Value.bool a==Value.bool b)=(a==b):=by cases a<;>cases b<;>rfl
   rw[e];exact h
  |int _=>cases bh;obtain⟨t,rfl⟩:=aY;exact h
  |str _=>cases bh;obtain⟨t,rfl⟩:=aY;exact h
  |tup _=>obtain⟨a,xs,rfl,_⟩:=bh;cases aY;exact h
  |lst _=>obtain⟨a,xs,rfl,_⟩:=bh;cases aY;exact h
  |c2 _=>obtain⟨a,rfl,_⟩:=bh;cases aY;exact h
  |eD _=>exact bh.elim
 |_=>cases a4<;>exact h.elim
def GY:c7 X (compareOp .Is) (fF X.K (Den.dm .is)):=by
 intro pins s σ H x y v u Q I aY bz ⟨G,a4,cq,ae,bh,dp,hw⟩;rw[Den.zO]at hw;rcases B9 bh dp aY bz hw with⟨rfl,q⟩|⟨b,rfl,q⟩
 .exact is_none_gen ⟨.aM _,H,I,rfl,q⟩
 .exact Md (DE aY) ⟨.aM _,H,I,rfl,q⟩
def GZ:c7 X (compareOp .IsNot) (fF X.K (Den.dm .nE)):=by
 intro pins s σ H x y v u Q I aY bz ⟨G,a4,cq,ae,bh,dp,hw⟩;rw[Den.zP]at hw;rcases B9 bh dp aY bz (yR.mp hw) with⟨rfl,q⟩|⟨b,rfl,q⟩
 .exact isnot_none_gen ⟨.aM _,H,I,rfl,q⟩
 .exact Mf (DE aY) ⟨.aM _,H,I,rfl,q⟩
end
end bS
end
section
namespace bS
open PySem PySem.Spec PyProof.Rows bE
section
variable{xp:cj}{X:aV}{ak:List Nat}{m:ep}{bg cZ cT:a0->br D}{a b c:Expr}{pos:Pos}
def xI{d:D}(h:Den.fa 0 d=true):∃i,d=.int i:=by
 cases d with
 |int i=>exact⟨i,rfl⟩
 |_=>cases h
theorem tg:∀{ds:List D},ds.all (Den.fa 0)=true->∃ns:List Int,ds=ns.map Den.D.int
 |[],_=>⟨[],rfl⟩
 |d::ds,h=>by
  simp only[List.all_cons,UB]at h;obtain⟨i,rfl⟩:=xI h.1;obtain⟨ns,rfl⟩:=tg h.2;exact⟨i::ns,rfl⟩
def CD{d:D}(h:Den.fa 1 d=true):∃ns:List Int,d=.tup (ns.map Den.D.int):=by
 cases d with
 |tup ds=>obtain⟨ns,rfl⟩:=tg h;exact⟨ns,rfl⟩
 |_=>cases h
theorem jP{K:W.Frag}{G:ax}:∀{ns:List Int}{xs:List V},bD K G (ns.map Den.D.int) xs->xs=ns.map V.int
 |[],_,h=>h
 |n::ns,_,⟨v,r,e,J,aa⟩=>by
  subst e;have J:v=.int n:=J;rw[J,jP aa];rfl
theorem qU:∀a b:List Int,Den.nH (a.map Den.D.int) (b.map Den.D.int)=some (c6.lexLt a b)
 |[],[]=>rfl
 |[],_::_=>rfl
 |_::_,[]=>rfl
 |x::a,y::b=>by
  rw[show Den.nH ((x::a).map Den.D.int) ((y::b).map Den.D.int)=if (x==y)=true then Den.nH (a.map .int) (b.map .int) else some (decide (x<y)) from rfl,qU a b];simp only[c6.lexLt]
  by_cases h:x=y<;>simp[h]
def G1 (bQ : X.A.units + 64 < cLine) : c7 X (compareOp .Lt) (fF X.K (Den.dm .lt)) := by
  intro pins s σ H x y v u Q I aY bz ⟨G, a4, cq, ae, bh, dp, hw⟩
  rw [Den.zQ] at hw
  unfold Den.tf at hw
  cases q : ((Den.fa 0 a4 && Den.fa 0 cq) || (Den.fa 1 a4 && Den.fa 1 cq)) with
  | false => rw [q] at hw; exact hw.elim
  | true =>
    rw [q] at hw
    simp only [Vn] at hw
    simp only [Wg, UB] at q
    rcases q with ⟨J, aa⟩ | ⟨J, aa⟩
    · obtain ⟨i, rfl⟩ := xI J
      obtain ⟨j, rfl⟩ := xI aa
      exact N4 pins s σ H x y v u Q I aY bz ⟨i, j, bh, dp, hw⟩
    · obtain ⟨ns, rfl⟩ := CD J
      obtain ⟨ms, rfl⟩ := CD aa
      obtain ⟨a, xs, aj, k1, aI⟩ := bh
      obtain ⟨b, ys, av, k2, a5⟩ := dp
      rw [jP aI] at k1
      rw [jP a5] at k2
      refine N5 (by omega) pins s σ H x y v u Q I aY bz ⟨a, b, ns, ms, aj, av, hX ae k1, hX ae k2, ?_⟩
      simp only [Den.mr, qU, Den.xR] at hw
      exact hw
def GW:c7 X (compareOp .Gt) (fF X.K (Den.dm .gt)):=by
 intro pins s σ H x y v u Q I aY bz ⟨G,a4,cq,ae,bh,dp,hw⟩;cases a4<;>cases cq<;>first|exact hw.elim|skip
 exact N2 pins s σ H x y v u Q I aY bz ⟨_,_,bh,dp,hw⟩
def G0:c7 X (compareOp .LtE) (fF X.K (Den.dm .le)):=by
 intro pins s σ H x y v u Q I aY bz ⟨G,a4,cq,ae,bh,dp,hw⟩;cases a4<;>cases cq<;>first|exact hw.elim|skip
 exact N3 pins s σ H x y v u Q I aY bz ⟨_,_,bh,dp,hw⟩
def GV:c7 X (compareOp .GtE) (fF X.K (Den.dm .ge)):=by
 intro pins s σ H x y v u Q I aY bz ⟨G,a4,cq,ae,bh,dp,hw⟩;cases a4<;>cases cq<;>first|exact hw.elim|skip
 exact N1 pins s σ H x y v u Q I aY bz ⟨_,_,bh,dp,hw⟩
theorem cz.aM{K:W.Frag}{H aP ao:ax}{b:Bool}:cz K H aP ao m (.aM b) (.aM b):=by cases m<;>rfl
theorem cz.int{K:W.Frag}{H aP ao:ax}{i:Int}:cz K H aP ao m (.int i) (.int i):=by cases m<;>rfl
def cz.tx{K:W.Frag}{H aP ao:ax}{b:Bool}{v:V}(h:cz K H aP ao m (.aM b) v):v=.aM b:=by cases m<;>exact h
def cz.q6{K:W.Frag}{H aP ao:ax}{i:Int}{v:V}(h:cz K H aP ao m (.int i) v):v=.int i:=by cases m<;>exact h
noncomputable def vG(o:Den.gC)(bg cZ:a0->br D):a0->br D:=λC=>bg C>>=λx=>cZ C>>=λy=>Den.dm o x y>>=λk=>.ok (.aM k)
noncomputable def my{α:Type}:br α->Bool
 |.exc _=>false
 |_=>true
def CQ{α:Type}{r:br α}(h:my r=true)(c:Nat):r≠.exc c:=λe=>by rw[e]at h;cases h
def o7{α:Type}{p:Prop}[Decidable p]{a b:br α}(az:my a=true)(af:my b=true):my (if p then a else b)=true:=by by_cases h:p<;>simp[h,az,af]
def xN{r:br Bool}(h:my r=true):my (Den.i3 r)=true:=by cases r<;>first|rfl|exact h
def NI(o:Option Bool):my (Den.xR o)=true:=by cases o<;>rfl
def CR(x y:D):my (Den.nD x y)=true:=by cases x<;>cases y<;>rfl
def vE(o:Den.gC)(x y:D)(c:Nat):Den.dm o x y≠.exc c:=by
 refine CQ ?_ c;cases o with
 |eq=>exact o7 rfl rfl
 |ne=>exact xN (o7 rfl rfl)
 |lt=>exact o7 (NI _) rfl
 |is=>exact CR x y
 |nE=>exact xN (CR x y)
 |mem=>cases y<;>first|rfl|exact o7 rfl rfl
 |lr=>cases y<;>first|rfl|exact xN (o7 rfl rfl)
 |le=>cases x<;>cases y<;>rfl
 |gt=>cases x<;>cases y<;>rfl
 |ge=>cases x<;>cases y<;>rfl
def mI{α:Type}{r:br α}{Q:α->Prop}{E rH:Nat->Prop}(h:dd r Q E)(aD:∀c,r≠.exc c):dd r Q rH:=by
 cases r with
 |ok a=>exact h
 |exc c=>exact absurd rfl (aD c)
 |bad=>exact h
def ET{o:Den.gC}{σ:bV}{H:ax}{Q:c4}(h:bk xp X ak m (vG o bg cZ) σ H Q):rq (fF X.K (Den.dm o)) (bk xp X ak .view bg) (bk xp X ak .view cZ) σ H Q:=by
 obtain⟨G,C,ae,hw⟩:=h;refine⟨G,C,ae,b3 (bB.mp hw) (λa4 k v aJ H1 aU aI=>?_) λ_ q=>q⟩
 refine⟨aJ,C,ae.ext aU,b3 (bB.mp k) (λcq k2 v2 bJ aW bu a5=>?_) λ_ q=>q.mono aU.h⟩
 refine⟨bJ,a4,cq,bu.sub,View.ext bu aI,a5,?_⟩;exact b3 (mI (bB.mp k2) (λc=>vE o a4 cq c)) (λk q=>q (.aM k) bJ aW (aU.trans bu) cz.aM) λ_ q=>q
def P7{o:Den.gC}{op:CmpOp}(ar:c7 X (compareOp op) (fF X.K (Den.dm o)))(az:aR X a (bk xp X ak .view bg))(af:aR X b (bk xp X ak .view cZ))(hm:behindInMarks op b=false):
  aR X (.Compare a [op] [b] pos) (bk xp X ak m (vG o bg cZ)):=λpins s σ H Q I h=>Ou ar az af hm pins s σ H Q I (ET h)
noncomputable def gB(xp:cj)(X:aV)(ak:List Nat)(f:a0->br D):TT:=λσ H Q =>
 ∃G C,ea X.K ak G H C σ/\dd (f C>>=Den.fW) (λb=>∀aP ao,Ext G H aP ao->Q b ao) (λc=>gK xp X c H)
def yB{f:a0->br D}{σ:bV}{H:ax}{Q:Bool->ax->Prop}(h:gB xp X ak f σ H Q):bk xp X ak .view f σ H (λx ao=>∃k,x=.aM k/\Q k ao):=by
 obtain⟨G,C,ae,hw⟩:=h;refine⟨G,C,ae,b3 (bB.mp hw) (λd k v aP ao x r=>?_) λ_ q=>q⟩
 cases d with
 |aM b=>exact⟨b,cz.tx r,k aP ao x⟩
 |_=>exact k.elim
def Qa{o:Den.gC}{op:CmpOp}(ar:c7 X (compareOp op) (fF X.K (Den.dm o)))(az:aR X a (bk xp X ak .view bg))(af:aR X b (bk xp X ak .view cZ))(hm:behindInMarks op b=false):
  dV X (.Compare a [op] [b] pos) (gB xp X ak (vG o bg cZ)):=λpins s σ H Q I h=>Pb ar az af hm pins s σ H Q I (ET (yB h))
def mE{f:a0->br D}(h:aR X a (bk xp X ak .view f))(he:∀whole,isTrue a X.env whole=(do let v <- whole;standAt a.pos;holding [v] (truthy v))):dV X a (gB xp X ak f):=λpins s σ H Q I hw=>Pd h he pins s σ H Q I (yB hw)
noncomputable def vF(o bN:Den.gC)(bg cZ cT:a0->br D):a0->br D:=λC=>bg C>>=λx=>cZ C>>=λy=>Den.dm o x y>>=λk=>if k then cT C>>=λz=>Den.dm bN y z>>=λcB=>.ok (.aM cB) else .ok (.aM false)
def EU{o bN:Den.gC}{σ:bV}{H:ax}{Q:c4}(h:bk xp X ak m (vF o bN bg cZ cT) σ H Q):yy (fF X.K (Den.dm o)) (fF X.K (Den.dm bN)) (bk xp X ak .view bg) (bk xp X ak .view cZ) (bk xp X ak .view cT) σ H Q:=by
 obtain⟨G,C,ae,hw⟩:=h;refine⟨G,C,ae,b3 (bB.mp hw) (λa4 k v aJ H1 aU aI=>?_) λ_ q=>q⟩
 refine⟨aJ,C,ae.ext aU,b3 (bB.mp k) (λcq k2 v2 bJ aW bu a5=>?_) λ_ q=>q.mono aU.h⟩
 refine⟨bJ,a4,cq,bu.sub,View.ext bu aI,a5,?_⟩;refine b3 (mI (bB.mp k2) (λc=>vE o a4 cq c)) (λk q=>?_) λ_ q=>q
 refine⟨k,rfl,?_⟩;cases k with
 |false =>
  simp only[UC,UX]at q ⊢;exact q (.aM false) bJ aW (aU.trans bu) cz.aM
 |true =>
  simp only[Vn]at q ⊢;refine⟨bJ,C,(ae.ext aU).ext bu,b3 (bB.mp q) (λz7 bl ug j0 b2 g0 dn=>?_) λ_ z=>(z.mono aU.h).mono bu.h⟩
  refine⟨j0,cq,z7,g0.sub,View.ext g0 a5,dn,?_⟩;exact b3 (mI (bB.mp bl) (λc=>vE bN cq z7 c)) (λk q=>q (.aM k) j0 b2 ((aU.trans bu).trans g0) cz.aM) λ_ q=>q
def P8{o bN:Den.gC}{op op':CmpOp}(ar:c7 X (compareOp op) (fF X.K (Den.dm o)))(dh:c7 X (compareOp op') (fF X.K (Den.dm bN)))(az:aR X a (bk xp X ak .view bg))(af:aR X b (bk xp X ak .view cZ))(ai:aR X c (bk xp X ak .view cT))(hm:lastMarks [op,op'] [b,c]=false):
  aR X (.Compare a [op,op'] [b,c] pos) (bk xp X ak m (vF o bN bg cZ cT)):=λpins s σ H Q I h=>Ot ar dh az af ai hm pins s σ H Q I (EU h)
def P9{o bN:Den.gC}{op op':CmpOp}(ar:c7 X (compareOp op) (fF X.K (Den.dm o)))(dh:c7 X (compareOp op') (fF X.K (Den.dm bN)))(az:aR X a (bk xp X ak .view bg))(af:aR X b (bk xp X ak .view cZ))(ai:aR X c (bk xp X ak .view cT))(hm:lastMarks [op,op'] [b,c]=false):
  dV X (.Compare a [op,op'] [b,c] pos) (gB xp X ak (vF o bN bg cZ cT)):=λpins s σ H Q I h=>Pa ar dh az af ai hm pins s σ H Q I (EU (yB h))
noncomputable def zg(bg cZ:a0->br D):a0->br D:=λC=>bg C>>=λx=>Den.fW x>>=λk=>if k then cZ C else .ok (.aM false)
noncomputable def C5(bg cZ:a0->br D):a0->br D:=λC=>bg C>>=λx=>Den.fW x>>=λk=>if k then .ok (.aM true) else cZ C
noncomputable def CV(bg:a0->br D):a0->br D:=λC=>bg C>>=λx=>Den.fW x>>=λk=>.ok (.aM (!k))
def cz.back{K:W.Frag}{H H1 aP ao:ax}(s:bM H H1){d:D}{v:V}(h:cz K H1 aP ao m d v):cz K H aP ao m d v:=cz.old s h
def DT{rest:List Expr}(az:aR X a (bk xp X ak .view bg))(af:aR X (.BoolOp .And (b::rest) pos) (bk xp X ak m cZ)):aR X (.BoolOp .And (a::b::rest) pos) (bk xp X ak m (zg bg cZ)):=by
 intro pins s σ H Q I ⟨G,C,ae,hw⟩;refine Oi az af pins s σ H Q I ?_;refine⟨G,C,ae,b3 (bB.mp hw) (λa4 k v aJ H1 aU aI=>?_) λ_ q=>q⟩
 cases a4 with
 |aM b =>
  refine⟨b,cz.tx aI,?_⟩;cases b with
  |true =>
   simp only[Vn];exact⟨aJ,C,ae.ext aU,b3 k (λd q v2 bJ aW bu a5=>q v2 bJ aW (aU.trans bu) (cz.back aU.h a5)) λ_ q=>q.mono aU.h⟩
  |false =>
   simp only[UC,UX];exact k (.aM false) aJ H1 aU cz.aM
 |_=>exact k.elim
def D0{rest:List Expr}(az:aR X a (bk xp X ak .view bg))(af:aR X (.BoolOp .Or (b::rest) pos) (bk xp X ak m cZ)):aR X (.BoolOp .Or (a::b::rest) pos) (bk xp X ak m (C5 bg cZ)):=by
 intro pins s σ H Q I ⟨G,C,ae,hw⟩;refine OD az af pins s σ H Q I ?_;refine⟨G,C,ae,b3 (bB.mp hw) (λa4 k v aJ H1 aU aI=>?_) λ_ q=>q⟩
 cases a4 with
 |aM b =>
  refine⟨b,cz.tx aI,?_⟩;cases b with
  |false =>
   simp only[UC,UX];exact⟨aJ,C,ae.ext aU,b3 k (λd q v2 bJ aW bu a5=>q v2 bJ aW (aU.trans bu) (cz.back aU.h a5)) λ_ q=>q.mono aU.h⟩
  |true =>
   simp only[Vn];exact k (.aM true) aJ H1 aU cz.aM
 |_=>exact k.elim
def Qt(az:aR X a (bk xp X ak .view bg)):aR X (.UnaryOp .Not a pos) (bk xp X ak m (CV bg)):=by
 intro pins s σ H Q I ⟨G,C,ae,hw⟩;refine OC az pins s σ H Q I ?_;refine⟨G,C,ae,b3 (bB.mp hw) (λa4 k v aJ H1 aU aI=>?_) λ_ q=>q⟩
 cases a4 with
 |aM b=>exact⟨b,cz.tx aI,k (.aM (!b)) aJ H1 aU cz.aM⟩
 |_=>exact k.elim
def DU{rest:List Expr}(az:dV X a (gB xp X ak bg))(af:h3 X (.BoolOp .And (b::rest) pos) (gB xp X ak cZ)):h3 X (.BoolOp .And (a::b::rest) pos) (gB xp X ak (zg bg cZ)):=by
 intro lC pins s σ H Q I ⟨G,C,ae,hw⟩;refine Pe az af lC pins s σ H Q I ?_;refine⟨G,C,ae,?_⟩;refine bB.mpr (b3 (bB.mp (bB.mp hw)) (λa4 k=>b3 (bB.mp k) (λb k2 aJ H1 aU=>?_) λ_ q=>q) λ_ q=>q)
 cases b with
 |true =>
  simp only[Vn]at k2 ⊢;exact⟨aJ,C,ae.ext aU,b3 (bB.mpr k2) (λd q bJ aW bu=>q bJ aW (aU.trans bu)) λ_ q=>q.mono aU.h⟩
 |false =>
  simp only[UC,UX]at k2 ⊢;exact k2 aJ H1 aU
def D1{rest:List Expr}(az:dV X a (gB xp X ak bg))(af:h3 X (.BoolOp .Or (b::rest) pos) (gB xp X ak cZ)):h3 X (.BoolOp .Or (a::b::rest) pos) (gB xp X ak (C5 bg cZ)):=by
 intro lC pins s σ H Q I ⟨G,C,ae,hw⟩;refine Pg az af lC pins s σ H Q I ?_;refine⟨G,C,ae,?_⟩;refine bB.mpr (b3 (bB.mp (bB.mp hw)) (λa4 k=>b3 (bB.mp k) (λb k2 aJ H1 aU=>?_) λ_ q=>q) λ_ q=>q)
 cases b with
 |false =>
  simp only[UC,UX]at k2 ⊢;exact⟨aJ,C,ae.ext aU,b3 (bB.mpr k2) (λd q bJ aW bu=>q bJ aW (aU.trans bu)) λ_ q=>q.mono aU.h⟩
 |true =>
  simp only[Vn]at k2 ⊢;exact k2 aJ H1 aU
def Qu(az:dV X a (gB xp X ak bg)):dV X (.UnaryOp .Not a pos) (gB xp X ak (CV bg)):=by
 intro pins s σ H Q I ⟨G,C,ae,hw⟩;refine Pc az pins s σ H Q I ?_;refine⟨G,C,ae,?_⟩;exact bB.mpr (b3 (bB.mp (bB.mp hw)) (λa4 k=>b3 (bB.mp k) (λb k2 aJ H1 aU=>k2 aJ H1 aU) λ_ q=>q) λ_ q=>q)
end
end bS
end
section
namespace bS
open PySem PySem.Spec PyProof.Rows bE
section
variable{xp:cj}{X:aV}{ak:List Nat}{m:ep}{bg cZ cT:a0->br D}{a b c:Expr}{pos:Pos}{pins:List (Addr×Obj)}{σ:bV}{G H:ax}{s:Shared}
def xM(I:Inv X pins σ H s)(ae:bM G H){ds:List D}{xs:List V}{its:List Value}{Q:c4}(r:Vals xs its)(q:bD X.K G ds xs)(au:xs.length<=sizeLine)(k:∀v aP ao,Ext G H aP ao->Rep X.K aP (.tup ds) v->Q v ao):ei X pins σ Q (.ref s.heap.objs.size) { s with heap:=s.heap.push { cls:=.type "tuple",data:=.seq its.toArray } }:=by
 refine⟨.ref s.heap.objs.size,_,I.laid (t':=s.toks) (o:=.tup xs) (λb bx q=>UD _ q) (UE _) ⟨au,its,r,IsTup.new _ _⟩,rfl,?_⟩
 exact k _ (upd G s.heap.objs.size (.tup xs)) _ (Ext.put ae I.fresh) ⟨_,xs,rfl,eh,q.mono (gg (ae.free I.fresh))⟩
def NH(I:Inv X pins σ H s)(ae:bM G H){ds:List D}{xs:List V}{its:List Value}{Q:c4}(r:Vals xs its)(q:bD X.K G ds xs)(au:xs.length<=sizeLine)(k:∀v aP ao,Ext G H aP ao->cz X.K H aP ao .fresh (.lst ds) v->Q v ao):ei X pins σ Q (.ref s.heap.objs.size) { s with heap:=s.heap.push { cls:=.type "list",data:=.seq its.toArray } }:=by
 refine⟨.ref s.heap.objs.size,_,I.CC (t':=s.toks) r au,rfl,?_⟩;exact k _ G _ (Ext.own ae I.fresh) ⟨_,xs,rfl,eh,I.fresh,ae.free I.fresh,q⟩
def kG{ds:List D}{v:V}(h:View X.K G H (.lst ds) v):∃a xs,v=.ref a/\dW X.K H a xs/\bD X.K G ds xs:=h
def kH(ae:bM G H){ds:List D}{v:V}(h:View X.K G H (.tup ds) v):∃a xs,v=.ref a/\fj X.K H a xs/\bD X.K G ds xs:=by
 obtain⟨a,xs,e,k,r⟩:=h;exact⟨a,xs,e,hX ae k,r⟩
def lM:Den.SZ=sizeLine:=by rw[sizeLine_eq];rfl
def HS : c7 X (binaryOp .Add) (nN X.K (Den.e3 .add)) := by
  intro pins s σ H x y v u Q I aY bz ⟨G, a4, cq, ae, bh, dp, hw⟩
  cases a4 with
  | int i =>
    cases cq with
    | int j => exact C2 pins s σ H x y v u Q I aY bz ⟨_, _, bh, dp, oA ae hw rfl⟩
    | _ => exact hw.elim
  | str i =>
    cases cq with
    | str j =>
      rw [Den.add_str] at hw
      by_cases h : i.length + j.length <= Den.SZ
      · rw [if_pos h] at hw
        exact NZ pins s σ H x y v u Q I aY bz ⟨_, _, bh, dp, by rw [<- lM]; exact h, oA ae hw rfl⟩
      · rw [if_neg h] at hw; exact hw.elim
    | _ => exact hw.elim
  | tup ds =>
    cases cq with
    | tup ab =>
      rw [Den.rR] at hw
      by_cases h : ds.length + ab.length <= Den.SZ
      · rw [if_pos h] at hw
        obtain ⟨l, xs, rfl, k1, aI⟩ := kH ae bh
        obtain ⟨b, ys, rfl, k2, a5⟩ := kH ae dp
        cases aY
        cases bz
        obtain ⟨its, hB, bc, _⟩ := I.tuple k1
        obtain ⟨nF, jd, bC, _⟩ := I.tuple k2
        have au : xs.length + ys.length <= sizeLine := by rw [<- aI.length, <- a5.length, <- lM]; exact h
        by_cases dq : its = []
        · -- Sl left one is empty
          subst dq
          have : ds = [] := by
            have J := aI.length; have aa := hB.length
            simp at aa; rw [aa] at J; simp at J; exact J
          subst this
          obtain ⟨⟨cls, cD, data, b1⟩, ar, ai, n, hd⟩ := id bc
          obtain ⟨⟨vD, j7, data2, kB⟩, iQ, ho, i2, hd2⟩ := id bC
          simp only at ai hd ho hd2
          subst ai hd ho hd2
          refine Yb ⟨_, ar, rfl⟩ ⟨_, iQ, rfl⟩ X0 Ym W9 W8 (W2 _ _)
            (tuple_addW0 l b _ nF.toArray n i2 cD j7 b1 kB rfl) ⟨ar, iQ, ?_⟩
          exact ⟨.ref b, H, I, rfl, hw _ G H (Ext.refl ae) dp⟩
        · refine c6.G6 bc bC dq (fun z => ?_) (fun z => ?_) (by rw [<- hB.length, <- jd.length]; exact au)
          · have : ab = [] := by
              have J := a5.length; have aa := jd.length
              rw [z] at aa; simp at aa; rw [aa] at J; simp at J; exact J
            subst this
            rw [VD] at hw
            exact ⟨.ref l, H, I, rfl, hw _ G H (Ext.refl ae) bh⟩
          · exact xM I ae (hB.append jd) (aI.append a5) (by rw [UM]; exact au) hw
      · rw [if_neg h] at hw; exact hw.elim
    | _ => exact hw.elim
  | lst ds =>
    cases cq with
    | lst ab =>
      rw [Den.p0] at hw
      by_cases h : ds.length + ab.length <= Den.SZ
      · rw [if_pos h] at hw
        obtain ⟨l, xs, rfl, k1, aI⟩ := kG bh
        obtain ⟨b, ys, rfl, k2, a5⟩ := kG dp
        cases aY
        cases bz
        obtain ⟨its, hB, ⟨hV, n, aj, ai, hL, hd⟩, _⟩ := I.list k1
        obtain ⟨nF, jd, ⟨tv, i2, av, ho, TQ, hd2⟩, _⟩ := I.list k2
        have au : xs.length + ys.length <= sizeLine := by rw [<- aI.length, <- a5.length, <- lM]; exact h
        obtain ⟨cls, cD, data, b1⟩ := hV
        obtain ⟨vD, j7, data2, kB⟩ := tv
        simp only at ai hd ho hd2
        subst ai hd ho hd2
        refine Yb ⟨_, aj, rfl⟩ ⟨_, av, rfl⟩ noFill_list_add seq_list_add F.slot_list_add F.entry_list_add (F.args_list_add_2 _ _)
          (list_addW l b its.toArray nF.toArray n i2 cD j7 b1 kB (by rw [UT, UT, <- hB.length, <- jd.length]; exact au)) ⟨aj, av, ?_⟩
        have dX : its.toArray ++ nF.toArray = (its ++ nF).toArray := by simp
        rw [dX]
        exact NH I ae (hB.append jd) (aI.append a5) (by rw [UM]; exact au) hw
      · rw [if_neg h] at hw; exact hw.elim
    | _ => exact hw.elim
  | _ => cases cq <;> exact hw.elim
end
end bS
end
section
namespace bS
open PySem PySem.Spec PyProof.Rows bE PySem.MeetsSeq
def NJ:fillsNumberSlot (.type "tuple") "mul"=pure false :=
 PySem.fillsNumberSlot_seq (id:="tuple.__mul__") (r:=some (.builtin "tuple.__rmul__")) X7.lookup (by decide +kernel) F.slot_tuple_rmul.lookup (by decide +kernel)
def PF:seqRepeat? (.type "tuple")=pure (some (.builtin "tuple.__mul__")):=by
 unfold seqRepeat?;rw[PySem.seqSlot_of (T:="tuple") (name:="__mul__") (id:="tuple.__mul__") X7.lookup (by decide +kernel),PySem.seqSlot_of (T:="tuple") (name:="__rmul__") (id:="tuple.__rmul__") F.slot_tuple_rmul.lookup (by decide +kernel)]
 rfl
def L5(a:Int)(t:Tok)(l:Addr)(items:Array Value)(n:Nat)(cD:Option Addr)(b1:Array (Option Value)):
  Meets (Builtin.«int.__rmul__» ⟨[.int a t,.ref l],[]⟩) (λ_ R s=>s.heap.get? l=some { cls:=.type "tuple",dict:=cD,data:=.seq items n,slots:=b1 }/\R (.ok (.ret Value.notImplemented)) s) :=
 .of_wp λprog w A R s h=>by obtain⟨aC,g,d,tk,os⟩:=s;obtain⟨aw,h⟩:=h;wp_walk;exact⟨_,rfl,h⟩
def Ss(l:Addr)(items:Array Value)(n:Nat)(cD:Option Addr)(b1:Array (Option Value))(x:Int)(u:Tok)(aa:2<=x)(ah:x<1000)(dg:items.isEmpty=false)(hsz:items.size*x.toNat<=sizeLine):
  Meets (Builtin.«tuple.__mul__» ⟨[.ref l,.int x u],[]⟩) (λ_ R s=>s.heap.get? l=some { cls:=.type "tuple",dict:=cD,data:=.seq items n,slots:=b1 } /\
   R (.ok (.ret (Value.ref s.heap.objs.size))) { s with heap:=s.heap.push { cls:=Value.type "tuple",data:=Data.seq ((List.replicate x.toNat items).foldl (·++·) #[]) } }) :=
 .of_wp λprog w A R s h=>by
  obtain⟨aC,g,d,tk,os⟩:=s;obtain⟨aw,h⟩:=h;have f1:=AutoSeq1.idx_int;have ck:(decide (x < -2 ^ 63)||decide (x>=2 ^ 63))=false:=by simp;omega
  have bo:(items.isEmpty||x==1)=false:=by rw[dg];simp;omega
  have cm:(decide (x<=0)||items.isEmpty)=false:=by rw[dg];simp;omega
  have hm:((items.size:Nat):Int)*x=((items.size*x.toNat:Nat):Int):=by
   rw[Int.natCast_mul];congr 1;omega
  have ae:sizeLine=16777216:=sizeLine_eq;have jo:Builtin.Tuple.tupleTooMany (((items.size:Nat):Int)*x)=false:=by unfold Builtin.Tuple.tupleTooMany;rw[hm];exact decide_eq_false (by omega)
  have gp:¬((items.size:Nat):Int)*x>(2 ^ 63-1) / 8:=by rw[hm];omega
  wp_walk using XZ aw
  rw[if_neg (by rw[ck];exact Vo)]
  wp_walk using XZ aw
  rw[if_neg (by rw[bo];exact Vo)]
  dsimp only;rw[if_neg (by rw[cm];exact Vo)]
  rw[if_neg gp];rw[if_neg (by rw[jo];exact Vo)]
  have au:sizeOk (.seq (List.foldl (λaU bu=>aU++bu) #[] (List.replicate x.toNat items))):=by
   show(List.foldl (λaU bu=>aU++bu) #[] (List.replicate x.toNat items)).size<=sizeLine
   have f0:=foldl_rep items.toList x.toNat [];rw[List.nil_append]at f0;have e:items.toList.toArray=items:=by simp
   rw[e]at f0;rw[show(#[]:Array Value)=([]:List Value).toArray from rfl,f0,UT,len_rep,Nat.mul_comm];simpa using hsz
  exact UA (m:=Builtin.Tuple.tupleExact _) (Vc (wpAny_pure ⟨_,rfl,h⟩) au)
section
variable{xp:cj}{X:aV}{ak:List Nat}{m:ep}{bg cZ cT:a0->br D}{a b c:Expr}{pos:Pos}{pins:List (Addr×Obj)}{σ:bV}{G H:ax}{s:Shared}
theorem bD.rep{K:W.Frag}{ds:List D}{xs:List V}(h:bD K G ds xs):∀k:Nat,bD K G (List.replicate k ds).flatten (List.replicate k xs).flatten
 |0=>by simp[bD]
 |k+1=>by rw[V4,V4,Ws,Ws];exact h.append (bD.rep h k)
def HX : c7 X (binaryOp .Mult) (nN X.K (Den.e3 .mul)) := by
  intro pins s σ H x y v u Q I aY bz ⟨G, a4, cq, ae, bh, dp, hw⟩
  cases a4 with
  | int i =>
    cases cq with
    | int j =>
      rw [Den.mul_int] at hw
      by_cases h : (-Den.gj < i /\ i < Den.gj) \/ (-Den.gj < j /\ j < Den.gj)
      · rw [if_pos h] at hw
        exact N7 pins s σ H x y v u Q I aY bz ⟨_, _, bh, dp, h, oA ae hw rfl⟩
      · rw [if_neg h] at hw; exact hw.elim
    | _ => exact hw.elim
  | tup ds =>
    cases cq with
    | int j =>
      rw [Den.NA] at hw
      by_cases h : 2 <= j /\ ds ≠ [] /\ ds.length * j.toNat <= Den.SZ /\ j < 1000
      · rw [if_pos h] at hw
        obtain ⟨aa, dg, au, ah⟩ := h
        obtain ⟨l, xs, rfl, k1, aI⟩ := kH ae bh
        cases aY
        have dp : y = .int j := dp
        subst dp
        obtain ⟨t, rfl⟩ := bz
        obtain ⟨its, hB, bc, _⟩ := I.tuple k1
        obtain ⟨⟨cls, cD, data, b1⟩, ar, ai, n, hd⟩ := id bc
        simp only at ai hd
        subst ai hd
        have aw : its.length = ds.length := by rw [<- hB.length, <- aI.length]
        have Lm : its.toArray.isEmpty = false := by
          cases its with
          | nil => cases ds with
            | nil => exact absurd rfl dg
            | cons _ _ => simp at aw
          | cons _ _ => rfl
        refine wpAny_binaryOp_repeat_ref (T := "tuple") (U := "int") (by decide) ⟨_, ar, rfl⟩ (fun s' => typeIs_int s' j t) NJ F.fills_int_mul F.slot_int_rmul PF F.slot_int_index.lookup
          (call_meets F.slot_int_rmul (typeIs_int s j t) F.entry_int_rmul (F.args_int_rmul_2 _ _) (L5 j t l its.toArray n cD b1)
            ⟨ar, rfl, ⟨_, ar, rfl⟩, call_meets X7 ⟨_, ar, rfl⟩ F.entry_tuple_mul (F.args_tuple_mul_2 _ _) (Ss l its.toArray n cD b1 j t aa ah Lm (by rw [UT, aw, <- lM]; exact au)) ⟨ar, ?_⟩⟩)
        have f0 := foldl_rep its j.toNat []
        rw [List.nil_append] at f0
        rw [show (#[] : Array Value) = ([] : List Value).toArray from rfl, f0]
        exact xM I ae (hB.rep j.toNat) (aI.rep j.toNat) (by rw [len_rep, Nat.mul_comm, <- aI.length, <- lM]; exact au) hw
      · rw [if_neg h] at hw; exact hw.elim
    | _ => exact hw.elim
  | _ => cases cq <;> exact hw.elim
end
end bS
end
section
namespace bS
open PySem PySem.Spec PyProof.Rows bE
section
variable{xp:cj}{X:aV}{ak:List Nat}{m:ep}{f bg cZ cT:a0->br D}{bK:a0->br (List D)}{a b c e:Expr}{ab:List Expr}{pos:Pos}{pins:List (Addr×Obj)}{σ:bV}{G H:ax}{s:Shared}
noncomputable def mG(xp:cj)(X:aV)(ak:List Nat)(f:a0->br (List D)):fk:=λσ H Q =>
 ∃G C,ea X.K ak G H C σ/\dd (f C) (λds=>∀ag aP ao,Ext G H aP ao->bD X.K aP ds ag->Q ag ao) (λc=>gK xp X c H)
def Qr:fi X [] (mG xp X ak λ_=>.ok []):=by
 intro p pins s σ H Q I ⟨G,C,ae,hw⟩;exact xV p pins s σ H Q I (hw [] G H (Ext.refl ae.sub) rfl)
def Qb(he:aR X e (bk xp X ak .val f))(aZ:fi X ab (mG xp X ak bK))(cA:starEach (e::ab) X.env=(false,eval e X.env)::starEach ab X.env):fi X (e::ab) (mG xp X ak λC=>f C>>=λx=>bK C>>=λxs=>.ok (x::xs)):=by
 intro p pins s σ H Q I ⟨G,C,ae,hw⟩;refine o9 he aZ cA p pins s σ H Q I ?_;refine⟨G,C,ae,b3 (bB.mp hw) (λa4 k v aJ H1 aU aI=>?_) λ_ q=>q⟩
 refine⟨aJ,C,ae.ext aU,b3 (bB.mp k) (λds k2 ag bJ aW bu a5=>?_) λ_ q=>q.mono aU.h⟩
 exact k2 (v::ag) bJ aW (aU.trans bu) ⟨v,ag,rfl,Rep.mono bu.g aI,a5⟩
def QG{j:Nat}(h:fi X ab (mG xp X ak bK))(aw:∀C ds,bK C=.ok ds->ds.length<=sizeLine):aR X (.Tuple ab j pos) (bk xp X ak .val λC=>bK C>>=λds=>.ok (.tup ds)):=by
 intro pins s σ H Q I ⟨G,C,ae,hw⟩;refine OG h pins s σ H Q I ?_;refine⟨G,C,ae,?_⟩;have hw:=bB.mp hw;cases q:bK C with
 |ok ds =>
  rw[q]at hw;intro ag aJ H1 aU aI;refine⟨by rw[<- aI.length];exact aw C ds q,λp aC=>?_⟩
  exact hw (.ref p) (upd aJ p (.tup ag)) _ (aU.trans (Ext.put aU.sub aC)) ⟨p,ag,rfl,eh,aI.mono (gg (aU.sub.free aC))⟩
 |exc c=>rw[q]at hw;exact hw
 |bad=>rw[q]at hw;exact hw
def Qp(h:fi X ab (mG xp X ak bK))(aw:∀C ds,bK C=.ok ds->ds.length<=sizeLine):aR X (.List ab pos) (bk xp X ak .fresh λC=>bK C>>=λds=>.ok (.lst ds)):=by
 intro pins s σ H Q I ⟨G,C,ae,hw⟩;refine OA h pins s σ H Q I ?_;refine⟨G,C,ae,?_⟩;have hw:=bB.mp hw;cases q:bK C with
 |ok ds =>
  rw[q]at hw;intro ag aJ H1 aU aI;refine⟨by rw[<- aI.length];exact aw C ds q,λp aC=>?_⟩
  exact hw (.ref p) aJ _ (aU.trans (Ext.own aU.sub aC)) ⟨p,ag,rfl,eh,aU.h.free aC,aU.sub.free aC,aI⟩
 |exc c=>rw[q]at hw;exact hw
 |bad=>rw[q]at hw;exact hw
def Cd(n:Nat)(i:Int):Den.iX n i=bE.iX n i:=by
 unfold Den.iX bE.iX
 by_cases h:0<=i
 .rw[if_pos h,if_pos h]
 .rw[if_neg h,if_neg h]
  by_cases q:0<=i+(n:Int)
  .rw[if_pos q,if_pos (by omega)]
  .rw[if_neg q,if_neg (by omega)]
def AY{K:W.Frag}{ds:List D}{xs:List V}{i:Int}{d:D}(r:bD K G ds xs)(h:Den.hJ ds i=some d):∃v,lT xs i=some v/\Rep K G d v:=by
 unfold Den.hJ at h;rw[Cd,r.length]at h;unfold lT;cases q:bE.iX xs.length i with
 |none=>rw[q]at h;cases h
 |some j =>
  rw[q]at h;obtain⟨v,e,z⟩:=r.get (i:=j) h;exact⟨v,e,z⟩
def J4{xs:List Nat}{i:Int}{c:Nat}(h:Den.hJ xs i=some c):lT xs i=some c:=by
 unfold Den.hJ at h;rw[Cd]at h;exact h
def Qj (az : aR X a (bk xp X ak .view bg)) (af : aR X b (bk xp X ak .view cZ)) (aC : uS b) : aR X (.Subscript a b pos) (bk xp X ak .val fun C => bg C >>= fun x => cZ C >>= fun y => Den.jJ x y) := by
  intro pins s σ H Q I ⟨G, C, ae, hw⟩
  refine Oz Mn az af aC pins s σ H Q I ?_
  refine ⟨G, C, ae, b3 (bB.mp hw) (fun a4 k v aJ H1 aU aI => ?_) fun _ q => q⟩
  refine ⟨aJ, C, ae.ext aU, b3 (bB.mp k) (fun cq k2 v2 bJ aW bu a5 => ?_) fun _ q => q.mono aU.h⟩
  have aI := View.ext bu aI
  cases a4 with
  | lst ds =>
    cases cq with
    | int i =>
      simp only [Den.BY] at k2
      cases q : Den.hJ ds i with
      | none => rw [q] at k2; exact k2.elim
      | some d =>
        rw [q] at k2
        obtain ⟨l, xs, rfl, e, r⟩ := kG aI
        obtain ⟨w, av, hx⟩ := AY r q
        exact .inl ⟨l, xs, i, w, rfl, a5, e, av, k2 w bJ aW (aU.trans bu) hx⟩
    | _ => exact k2.elim
  | tup ds =>
    cases cq with
    | int i =>
      simp only [Den.BZ] at k2
      cases q : Den.hJ ds i with
      | none => rw [q] at k2; exact k2.elim
      | some d =>
        rw [q] at k2
        obtain ⟨l, xs, rfl, e, r⟩ := kH bu.sub aI
        obtain ⟨w, av, hx⟩ := AY r q
        exact .inr (.inl ⟨l, xs, i, w, rfl, a5, e, av, k2 w bJ aW (aU.trans bu) hx⟩)
    | _ => exact k2.elim
  | str z =>
    cases cq with
    | int i =>
      simp only [Den.jJ] at k2
      by_cases au : z.length <= Den.SZ
      · rw [if_pos au] at k2
        cases q : Den.hJ z.cps.toList i with
        | none => rw [q] at k2; exact k2.elim
        | some c =>
          rw [q] at k2
          exact .inr (.inr ⟨z, i, c, aI, a5, by rw [<- lM]; exact au, J4 q, k2 _ bJ aW (aU.trans bu) rfl⟩)
      · rw [if_neg au] at k2; exact k2.elim
    | _ => exact k2.elim
  | _ => cases cq <;> exact k2.elim
noncomputable def nO(K:W.Frag)(m:ep)(g:D->br D):List V->ax->c4->Prop:=λxs H Q=>∃G x d,xs=[x]/\bM G H/\View K G H d x/\dd (g d) (λd'=>∀v aP ao,Ext G H aP ao->cz K H aP ao m d' v->Q v ao) (λ_=>False)
def kv{ey:TE}(he:aR X e ey)(cA:starEach [e] X.env=[(false,eval e X.env)]):fi X [e] (t6 ey yA):=o9 he xV cA
def DY{g:D->br D}{id:String}{x:Str}{p:Pos}(ba:∀d c,g d≠.exc c)(ai:g6 X (.builtin id) (nO X.K m g))(nf:dH X x)(hm:X.aF x=none)(aQ:bootBuiltins x=some (.builtin id))(az:aR X e (bk xp X ak .view f))(aD:x≠"__name__")(gu:(x==("__debug__":Str))=false)(cA:starEach [e] X.env=[(false,eval e X.env)]):aR X (.Call (.Name x p) [e] [] pos) (bk xp X ak m λC=>f C>>=λd=>g d):=by
 intro pins s σ H Q I ⟨G,C,ae,hw⟩;refine xW ai nf hm aQ (kv az cA) aD gu cA rfl pins s σ H Q I ?_;refine⟨G,C,ae,b3 (bB.mp hw) (λa4 k v aJ H1 aU aI=>?_) λ_ q=>q⟩
 refine⟨aJ,v,a4,rfl,aU.sub,aI,?_⟩;exact b3 (mI k (ba a4)) (λd q v2 bJ aW bu a5=>q v2 bJ aW (aU.trans bu) (a5.old aU.h)) λ_ q=>q
def yg{g:D->br D}{T:String}{x:Str}{p:Pos}(ba:∀d c,g d≠.exc c)(ai:g6 X (.type T) (nO X.K m g))(nf:dH X x)(hm:X.aF x=none)(aQ:bootBuiltins x=some (.type T))(az:aR X e (bk xp X ak .view f))(aD:x≠"__name__")(gu:(x==("__debug__":Str))=false)(cA:starEach [e] X.env=[(false,eval e X.env)]):aR X (.Call (.Name x p) [e] [] pos) (bk xp X ak m λC=>f C>>=λd=>g d):=by
 intro pins s σ H Q I ⟨G,C,ae,hw⟩;refine Oq ai nf hm aQ (kv az cA) aD gu cA rfl pins s σ H Q I ?_;refine⟨G,C,ae,b3 (bB.mp hw) (λa4 k v aJ H1 aU aI=>?_) λ_ q=>q⟩
 refine⟨aJ,v,a4,rfl,aU.sub,aI,?_⟩;exact b3 (mI k (ba a4)) (λd q v2 bJ aW bu a5=>q v2 bJ aW (aU.trans bu) (a5.old aU.h)) λ_ q=>q
def f_len:g6 X (.builtin "len") (nO X.K m Den.km):=by
 intro pins s σ H xs us Q I r ⟨G,x,d,ex,ae,bh,hw⟩;subst ex;cases d with
 |tup ds =>
  obtain⟨a,ys,rfl,k,q⟩:=kH ae bh;refine zz pins s σ H _ us Q I r ⟨a,ys,rfl,.inr k,?_⟩;rw[<- q.length];exact hw _ G H (Ext.refl ae) cz.int
 |lst ds =>
  obtain⟨a,ys,rfl,k,q⟩:=kG bh;refine zz pins s σ H _ us Q I r ⟨a,ys,rfl,.inl k,?_⟩;rw[<- q.length];exact hw _ G H (Ext.refl ae) cz.int
 |str z =>
  simp only[Den.km]at hw
  by_cases au:z.length<=Den.SZ
  .rw[if_pos au]at hw;have bh:x=.str z:=bh;subst bh;exact G5 pins s σ H _ us Q I r ⟨z,rfl,by rw[<- lM];exact au,hw _ G H (Ext.refl ae) cz.int⟩
  .rw[if_neg au]at hw;exact hw.elim
 |_=>exact hw.elim
def f_list:g6 X (.type "list") (nO X.K .fresh λd=>Den.dP d>>=λds=>.ok (.lst ds)):=by
 intro pins s σ H xs us Q I r ⟨G,x,d,ex,ae,bh,hw⟩;subst ex;cases d with
 |tup ds =>
  obtain⟨a,ys,rfl,k,q⟩:=kH ae bh;exact zA pins s σ H _ us Q I r ⟨a,ys,rfl,.inr k,λl aw=>hw _ G _ (Ext.own ae aw) ⟨l,ys,rfl,eh,aw,ae.free aw,q⟩⟩
 |lst ds =>
  obtain⟨a,ys,rfl,k,q⟩:=kG bh;exact zA pins s σ H _ us Q I r ⟨a,ys,rfl,.inl k,λl aw=>hw _ G _ (Ext.own ae aw) ⟨l,ys,rfl,eh,aw,ae.free aw,q⟩⟩
 |_=>exact hw.elim
def JA:g6 X (.type "tuple") (nO X.K .val λd=>Den.dP d>>=λds=>.ok (.tup ds)):=by
 intro pins s σ H xs us Q I r ⟨G,x,d,ex,ae,bh,hw⟩;subst ex;cases d with
 |tup ds =>
  obtain⟨a,ys,rfl,k,q⟩:=kH ae bh;exact zB pins s σ H _ us Q I r ⟨a,ys,rfl,.inr ⟨k,hw _ G H (Ext.refl ae) bh⟩⟩
 |lst ds =>
  obtain⟨a,ys,rfl,k,q⟩:=kG bh;exact zB pins s σ H _ us Q I r ⟨a,ys,rfl,.inl ⟨k,λl aw=>hw _ (upd G l (.tup ys)) _ (Ext.put ae aw) ⟨l,ys,rfl,eh,q.mono (gg (ae.free aw))⟩⟩⟩
 |_=>exact hw.elim
end
end bS
end
section
namespace bS
open PySem PySem.Spec PyProof.Rows bE
section
variable{xp:cj}{X:aV}{ak:List Nat}{m:ep}{f bg cZ cT:a0->br D}{bK:a0->br (List D)}{a b c e:Expr}{ab:List Expr}{pos:Pos}{pins:List (Addr×Obj)}{σ:bV}{G H:ax}{s:Shared}
noncomputable def SA:D->String
 |.cU=>"NoneType"
 |.aM _=>"bool"
 |.int _=>"int"
 |.str _=>"str"
 |.tup _=>"tuple"
 |.lst _=>"list"
 |.c2 _=>"dict"
 |.eD _=>""
noncomputable def pC:Den.Ty->String
 |.int=>"int"|.bool=>"bool"|.str=>"str"|.tuple=>"tuple"|.cls _=>""
def MF(K:W.Frag)(up:Den.gM)(d:D)(t:Den.Ty)(aS:∀c,t≠.cls c)(hd:∀c,d≠.eD c):∃b,Den.iW up d t=.ok b/\PySem.W.kitOne K (.type (SA d)) (.type (pC t))=some b:=by
 cases t with
 |cls c=>exact absurd rfl (aS c)
 |int=>cases d<;>first|exact absurd rfl (hd _)|exact⟨_,rfl,by kernel_rfl⟩
 |bool=>cases d<;>first|exact absurd rfl (hd _)|exact⟨_,rfl,by kernel_rfl⟩
 |str=>cases d<;>first|exact absurd rfl (hd _)|exact⟨_,rfl,by kernel_rfl⟩
 |tuple=>cases d<;>first|exact absurd rfl (hd _)|exact⟨_,rfl,by kernel_rfl⟩
def Td(I:Inv X pins σ H s)(ae:bM G H){d:D}{x:V}{u:Value}{up:Den.gM}{t:Den.Ty}(aS:∀c,t≠.cls c)(bh:View X.K G H d x)(aY:RelV x u){Q:c4}(hw:dd (Den.iW up d t) (λb=>Q (.aM b) H) (λ_=>False)):
  wpAny (model X.prog X.w) X.A (call (.builtin "isinstance") [u,.type (pC t)]) (ei X pins σ Q) X.cR s:=by
 have hd:∀c,d≠.eD c:=λc e=>by subst e;exact bh.elim
 obtain⟨b,aj,av⟩:=MF X.K up d t aS hd;rw[aj]at hw;have fin:∀tk,ei X pins σ Q (.bool b) { s with toks:=tk }:=λtk=>⟨.aM b,H,I.tok tk,rfl,hw⟩
 cases d with
 |cU=>cases bh;exact qN I aY .cU av fin
 |aM y=>cases bh;exact qN I aY (.aM y) av fin
 |int i=>cases bh;exact qN I aY (.int i) av fin
 |str y=>cases bh;exact qN I aY (.str y) av fin
 |tup ds =>
  obtain⟨a,ys,rfl,k,q⟩:=kH ae bh;cases aY;obtain⟨its,bL,⟨o,J,aa,_⟩,au⟩:=I.tuple k;exact Vy Yr I.fU ⟨o,J,aa⟩ av (λz=>nomatch z) fin
 |lst ds =>
  obtain⟨a,ys,rfl,k,q⟩:=kG bh;cases aY;obtain⟨its,bL,⟨o,n,J,aa,_⟩,z⟩:=I.list k;exact Vy XO I.fU ⟨o,J,aa⟩ av (λz=>nomatch z) fin
 |c2 aB=>obtain⟨a,rfl,h⟩:=bh;exact qN I aY (.eu h) av fin
 |eD c=>exact absurd rfl (hd c)
def L2{up:Den.gM}{d:D}{t:Den.Ty}{c:Nat}:Den.iW up d t≠.exc c:=by
 intro h;cases t<;>first|(cases h;done)|skip
 cases d<;>cases h
def Qm{up:Den.gM}{t:Den.Ty}{x y:Str}{p eZ:Pos}(aS:∀c,t≠.cls c)(nf:dH X x)(hm:X.aF x=none)(aQ:bootBuiltins x=some (.builtin "isinstance"))(KW:dH X y)(sL:X.aF y=none)(kk:bootBuiltins y=some (.type (pC t)))(az:aR X e (bk xp X ak .view f))(aD:x≠"__name__")(gu:(x==("__debug__":Str))=false)(hP:y≠"__name__")(KD:(y==("__debug__":Str))=false)(cA:starEach [e,.Name y eZ] X.env=(false,eval e X.env)::starEach [.Name y eZ] X.env):
  aR X (.Call (.Name x p) [e,.Name y eZ] [] pos) (bk xp X ak m λC=>f C>>=λd=>Den.iW up d t>>=λb=>.ok (.aM b)):=by
 intro pins s σ H Q I ⟨G,C,ae,hw⟩;have ai:g6 X (.builtin "isinstance") (λxs H Q=>∃G x d,xs=[x,.ty (pC t)]/\bM G H/\View X.K G H d x/\dd (Den.iW up d t) (λb=>Q (.aM b) H) (λ_=>False)):=by
  intro pins s σ H xs us Q I r ⟨G,x,d,ex,ae,bh,hw⟩;subst ex;obtain⟨u,uc,rfl,ed,PN⟩:=vals2 r;cases PN;exact Td I ae aS bh ed hw
 have jG:fi X [e,.Name y eZ] (t6 (bk xp X ak .view f) (t6 (nU (.ty (pC t))) yA)):=o9 az (o9 (Ol KW sL kk rfl hP KD) xV rfl) cA;refine xW ai nf hm aQ jG aD gu cA rfl pins s σ H Q I ?_;refine⟨G,C,ae,b3 (bB.mp hw) (λa4 k v aJ H1 aU aI=>?_) λ_ q=>q⟩
 refine⟨aJ,v,a4,rfl,aU.sub,aI,?_⟩;exact b3 (mI (bB.mp k) (λc=>L2)) (λb q=>q (.aM b) aJ H1 aU cz.aM) λ_ q=>q
end
end bS
end
section
namespace bS
open PySem PySem.Spec PyProof.Rows bE
noncomputable def jY(P:Program)(w:World)(xp:cj):je:=λouter H s E e s' =>
 ∃(c:Nat)(ao:ax)(l:List Addr),s'.os=s.os/\AllBare s'.gens/\eO (hH outer) [] H ao s.heap s'.heap/\d5 P w ao s'.heap/\bM H ao/\(∀a∈l,s.heap.get? a=none/\ao a=none)/\xp c e l s'.heap/\E (.int c 0) none ao
noncomputable def nR(K:W.Frag)(g5:List D->br D)(n:Nat):lN:=λag H Q E =>
 ag.length=n/\∃G ds,bM G H/\(∀b xs,H b=some (.tup xs)->G b=some (.tup xs))/\bD K G ds ag/\dd (g5 ds) (λd=>∀v aP ao,Ext G H aP ao->Rep K aP d v->Q v ao) (λc=>∀ao,bM H ao->E (.int c 0) none ao)
section
variable{xp:cj}{X:aV}{ak:List Nat}{m:ep}{f bg cZ cT:a0->br D}{bK:a0->br (List D)}{a b c e:Expr}{ab:List Expr}{pos:Pos}{pins:List (Addr×Obj)}{σ:bV}{G H:ax}{s:Shared}
noncomputable def z9(xp:cj)(X:aV):iJ:=λu _ ao=>∀c:Nat,u=.int c 0->gK xp X c ao
def Oh:Passes (jY X.prog X.w xp) X (z9 xp X):=by
 intro pins σ H s e s' I ⟨c,ao,l,os,bare,un,bP,bO,aD,ah,A6⟩;have iC:Inv X pins σ ao s':=I.zy os un bP bare (λb z=>absurd z (by simp))
 exact A6 c rfl pins σ ao s' e l iC (bM.refl _) (λa az=>.of I (aD a az).1 (aD a az).2) ah
end
end bS
end
section
namespace bS
open PySem PySem.Spec PyProof.Rows bE
section
variable{prog:Program}{w:World}{A:Around}{R:Result->Shared->Prop}{s:Shared}
def Hs {elt target iter : Expr} {ifs : List Expr} {scope : Scope} {pos : Pos} {it acc : Value} {env : Env} (I : Nat -> Shared -> Prop)
    (turn : ∀ n s, I n s -> wpAny (model prog w) A (pyNext it) (fun r cC => match r with
      | none => R (.ok .next) cC
      | some v => wpAny (model prog w) A (letOwnedTupleGo target it v) (fun _ EK => wpAny (model prog w) A (assign target env v) (fun _ gY =>
          wpAny (model prog w) A (forIn ifs true fun c r => if r = true then do let ok <- isTrue c env (eval c env); pure (ForInStep.yield ok) else pure (ForInStep.yield r)) (fun ok px =>
            if ok = true then wpAny (model prog w) A (eval elt env) (fun x EL =>
              wpAny (model prog w) A (call (.builtin "list.append") [acc, x]) (fun _ EM => ∃ m, m < n /\ I m EM) (fun _ _ => False) EL) (fun _ _ => False) px
            else ∃ m, m < n /\ I m px) (fun _ _ => False) gY) (fun _ _ => False) EK) (fun _ _ => False) cC) (fun _ _ => False) s)
    (n : Nat) (h : I n s) :
    codeAny (model prog w) A (.compLoop (.ListComp elt [⟨target, iter, ifs, 0⟩] scope pos) 0 it acc env) R s := by
  have up : ∀ {α : Type} {t : Sem α} {Q : α -> Shared -> Prop} {E : Value -> Shared -> Prop} {s : Shared}, wpAny (model prog w) A t Q (fun _ _ => False) s -> wpAny (model prog w) A t Q E s := fun h => VK h (fun _ _ q => q) fun _ _ z => z.elim
  refine codeAny_loop rfl I (fun n s dA => ?_) n h
  show wpAny _ A ((compTurn (.ListComp elt [⟨target, iter, ifs, 0⟩] scope pos) 0 it acc env).onRaise (fun x => do noteFrame x env; theTreesLotGoes x)) _ _ s
  refine wpAny_noted ?_
  rw [compTurn_list]
  refine UA (wpAny_standAt (UA (VK (turn n s dA) (fun r cC gV => ?_) fun _ _ z => z.elim)))
  cases r with
  | none => exact wpAny_pure gV
  | some v =>
    refine UA (VK gV (fun _ EK LQ => ?_) fun _ _ z => z.elim)
    refine UA (VK LQ (fun _ gY qL => UA (VK qL (fun ok px sX => ?_) fun _ _ z => z.elim)) fun _ _ z => z.elim)
    cases ok with
    | false => exact wpAny_pure ⟨rfl, sX⟩
    | true =>
      refine UA (UA (VK sX (fun x EL LR => UA (VK LR (fun _ EM LS => ?_) fun _ _ z => z.elim)) fun _ _ z => z.elim))
      exact wpAny_pure (wpAny_pure ⟨rfl, LS⟩)
end
noncomputable def fO(env:Env):List (Str×NameKind)->List (Str×Addr)->List (Str×Addr)
 |[],cs=>cs
 |(n,k)::r,cs=>if k==.free then fO env r ((n,(env.cells.lookup n).getD 0)::cs) else fO env r cs
def Hg{scope:Scope}{env:Env}(h:∀x∈scope.names,x.2=.free->∃c,env.cells.lookup x.1=some c):closureFor scope env=pure (fO env scope.names []):=by
 have key:∀(l:List (Str×NameKind))(cs:List (Str×Addr)),(∀x∈l,x.2=.free->∃c,env.cells.lookup x.1=some c) ->
   (forIn l cs λ(x:Str×NameKind)(r:List (Str×Addr))=>(match x with
    |(name,kind)=>if (kind==NameKind.free)=true then do let a <- cellOf env name;pure (ForInStep.yield ((name,a)::r)) else pure (ForInStep.yield r):Sem (ForInStep (List (Str×Addr)))))=(pure (fO env l cs):Sem _):=by
  intro l
  induction l with
  |nil=>intro cs _;rfl
  |cons x l aO =>
   intro cs ah;obtain⟨n,k⟩:=x;simp only[List.forIn_cons,fO];cases q:(k==NameKind.free) with
   |false =>
    simp only[UC,UX,pure_bind];exact aO cs λy aA=>ah y (List.mem_cons_of_mem _ aA)
   |true =>
    have aq:k=.free:=by simpa using q
    obtain⟨c,e⟩:=ah (n,k) List.mem_cons_self aq;simp only at e;simp only[Vn,cellOf,e,pure_bind,Option.getD_some];exact aO _ λy aA=>ah y (List.mem_cons_of_mem _ aA)
 unfold closureFor;have:=key scope.names [] h;simp only[bind_pure];exact this
theorem vC {env : Env} {x : Str} {c : Addr} : ∀ (l : List (Str × NameKind)) (cs : List (Str × Addr)), (fO env l cs).lookup x = some c -> cs.lookup x = some c \/ (∃ y ∈ l, y.1 = x /\ y.2 = .free /\ c = (env.cells.lookup x).getD 0)
  | [], cs, h => .inl h
  | (n, k) :: r, cs, h => by
    unfold fO at h
    cases q : (k == NameKind.free) with
    | false =>
      rw [q] at h
      rcases vC r cs h with J | ⟨y, aA, J⟩
      · exact .inl J
      · exact .inr ⟨y, List.mem_cons_of_mem _ aA, J⟩
    | true =>
      rw [q] at h
      have aq : k = .free := by simpa using q
      rcases vC r _ h with J | ⟨y, aA, J⟩
      · rw [Vd] at J
        cases z : (x == n) with
        | false => rw [z] at J; exact .inl J
        | true =>
          rw [z] at J
          have e : x = n := by simpa using z
          subst e
          exact .inr ⟨(x, k), List.mem_cons_self, rfl, aq, (Vs J).symm⟩
      · exact .inr ⟨y, List.mem_cons_of_mem _ aA, J⟩
theorem vB{env:Env}{x:Str}:∀(l:List (Str×NameKind))(cs:List (Str×Addr)),((∃y∈l,y.1=x/\y.2=.free)\/(cs.lookup x).isSome=true)->((fO env l cs).lookup x).isSome=true
 |[],cs,h=>by
  rcases h with⟨y,aA,_⟩|h
  .simp at aA
  .exact h
 |(n,k)::r,cs,h=>by
  unfold fO;cases q:(k==NameKind.free) with
  |false =>
   refine vB r cs ?_;rcases h with⟨y,aA,J,aa⟩|h
   .rcases UI.mp aA with e|aA
    .subst e;simp only at aa;rw[aa]at q;cases q
    .exact .inl ⟨y,aA,J,aa⟩
   .exact .inr h
  |true =>
   refine vB r _ ?_;rcases h with⟨y,aA,J,aa⟩|h
   .rcases UI.mp aA with e|aA
    .subst e;simp only at J;subst J;exact .inr (by simp)
    .exact .inl ⟨y,aA,J,aa⟩
   .refine .inr ?_;rw[Vd];cases z:(x==n)
    .exact h
    .rfl
end bS
end
section
namespace bS
open PySem PySem.Spec PyProof.Rows bE
theorem mn {env : Env} {x : Str} : ∀ {names : List (Str × NameKind)} {k : NameKind}, (names.map fun (n, k) => if (k == NameKind.free && env.scope.kind == .function && env.kindOf n == some .cell) then (n, NameKind.cell) else (n, k)).lookup x = some k ->
    names.lookup x = some k \/ (names.lookup x = some .free /\ k = .cell)
  | [], _, h => by simp at h
  | (n, j) :: r, k, h => by
    have h : List.lookup x ((if (j == NameKind.free && env.scope.kind == .function && env.kindOf n == some .cell) = true then (n, NameKind.cell) else (n, j)) :: (r.map fun (n, k) => if (k == NameKind.free && env.scope.kind == .function && env.kindOf n == some .cell) then (n, NameKind.cell) else (n, k))) = some k := h
    rw [Vd]
    cases ah : x == n with
    | true =>
      by_cases ai : (j == NameKind.free && env.scope.kind == .function && env.kindOf n == some .cell) = true
      · rw [if_pos ai, Vd] at h
        simp only [ah] at h
        have aH : j = .free := by simp only [UB, VP] at ai; exact ai.1.1
        exact .inr ⟨by rw [aH], (Vs h).symm⟩
      · rw [if_neg ai, Vd] at h
        simp only [ah] at h
        exact .inl h
    | false =>
      by_cases ai : (j == NameKind.free && env.scope.kind == .function && env.kindOf n == some .cell) = true
      · rw [if_pos ai, Vd] at h
        simp only [ah] at h
        exact mn h
      · rw [if_neg ai, Vd] at h
        simp only [ah] at h
        exact mn h
theorem tM {env : Env} {x : Str} {k : NameKind} : ∀ {names : List (Str × NameKind)}, names.lookup x = some k -> k ≠ .free -> (names.map fun (n, k) => if (k == NameKind.free && env.scope.kind == .function && env.kindOf n == some .cell) then (n, NameKind.cell) else (n, k)).lookup x = some k
  | [], h, _ => by simp at h
  | (n, j) :: r, h, aq => by
    show List.lookup x ((if (j == NameKind.free && env.scope.kind == .function && env.kindOf n == some .cell) = true then (n, NameKind.cell) else (n, j)) :: _) = _
    rw [Vd] at h
    cases ah : x == n with
    | true =>
      simp only [ah] at h
      have aH : j = k := Vs h
      subst aH
      have ai : ¬ (j == NameKind.free && env.scope.kind == .function && env.kindOf n == some .cell) = true := by
        intro z; simp only [UB, VP] at z; exact aq z.1.1
      rw [if_neg ai, Vd]; simp only [ah]
    | false =>
      simp only [ah] at h
      have aO := tM (env := env) h aq
      by_cases ai : (j == NameKind.free && env.scope.kind == .function && env.kindOf n == some .cell) = true
      · rw [if_pos ai, Vd]; simp only [ah]; exact aO
      · rw [if_neg ai, Vd]; simp only [ah]; exact aO
theorem x9{env:Env}{x:Str}:∀{names:List (Str×NameKind)},names.lookup x=some .free->(names.map λ(n,k)=>if (k==NameKind.free&&env.scope.kind==.function&&env.kindOf n==some .cell) then(n,NameKind.cell) else(n,k)).lookup x=some .cell\/(names.map λ(n,k)=>if (k==NameKind.free&&env.scope.kind==.function&&env.kindOf n==some .cell) then(n,NameKind.cell) else(n,k)).lookup x=some .free
 |[],h=>by simp at h
 |(n,j)::r,h=>by
  show List.lookup x ((if (j==NameKind.free&&env.scope.kind==.function&&env.kindOf n==some .cell)=true then(n,NameKind.cell) else(n,j))::_)=_\/List.lookup x ((if (j==NameKind.free&&env.scope.kind==.function&&env.kindOf n==some .cell)=true then(n,NameKind.cell) else(n,j))::_)=_;rw[Vd]at h;cases ah:x==n with
  |true =>
   simp only[ah]at h
   by_cases ai:(j==NameKind.free&&env.scope.kind==.function&&env.kindOf n==some .cell)=true
   .rw[if_pos ai,Vd];simp[ah]
   .rw[if_neg ai,Vd];simp only[ah];exact .inr h
  |false =>
   simp only[ah]at h;have aO:=x9 (env:=env) h
   by_cases ai:(j==NameKind.free&&env.scope.kind==.function&&env.kindOf n==some .cell)=true
   .rw[if_pos ai,Vd];simp only[ah];exact aO
   .rw[if_neg ai,Vd];simp only[ah];exact aO
noncomputable def mS(X:aV)(G9:Env)(cJ:List Str)(s3:Shared)(b2:ax)(bq:List Addr)(pins:List (Addr×Obj)):aV :=
 { X with N:=cJ,eK:=s3,pQ:=b2,env:=G9,outer:=X.stack,ex:=bq,fn:=λ_=>false,e0:=X.e0++pins,cR:=λ_ _=>False }
structure n1(X:aV)(scope:Scope)(xs:List Str)(cJ:List Str):Prop where
 kind:scope.kind=.function
 mz:∀y∈scope.names,y.2≠.cell
 names:∀y∈scope.names,y.2=.local->scope.names.lookup y.1=some .local
 loc:∀y,scope.names.lookup y=some .local->y∈xs\/y=(".0":Str)
 eT:∀y∈xs,scope.names.lookup y=some .local
 fr:∀y∈scope.names,y.2=.free->X.env.scope.names.lookup y.1=some .cell\/X.env.scope.names.lookup y.1=some .free
 len:cJ.length=X.N.length+xs.length
 old:∀(i:Nat) y,i<X.N.length->cJ[i]?=some y->(scope.names.lookup y).isSome=true->X.N[i]?=some y/\y∉xs/\y≠(".0":Str)
 new:∀(j:Nat),cJ[X.N.length+j]?=xs[j]?
 dU:cJ.Nodup
section
variable{X:aV}{pins:List (Addr×Obj)}{σ:bV}{H:ax}{s:Shared}{bq:List Addr}{scope:Scope}{xs cJ:List Str}{gV:Heap}{tk:Nat}
def GL (I : Inv X pins σ H s) (hf : ∀ b ∈ bq, jf X pins H b) (ar : ∀ b ∈ bq, ∃ o, s.heap.get? b = some o) (B : n1 X scope xs cJ)
    (me : gV.Ns s.heap.objs.size (fun _ => none)) (aq : ∀ b o, s.heap.get? b = some o -> gV.get? b = some o) :
    Inv (mS X (compEnvC scope (fO X.env scope.names []) s.heap.objs.size X.env) cJ s H bq pins) [] (σ ++ List.replicate xs.length none) H { s with heap := gV, toks := tk } := by
  have look : ∀ y c, (fO X.env scope.names []).lookup y = some c -> X.env.cells.lookup y = some c := fun y c e => by
    rcases vC _ _ e with h | ⟨z, au, aj, av, bF⟩
    · simp at h
    · have := B.fr z au av
      rw [aj] at this
      obtain ⟨cO, c0⟩ := I.ok.has y (by rcases this with q | q; exact .inl q; exact .inr q)
      rw [c0] at bF
      simp at bF
      rw [c0, bF]
  have has : ∀ y, scope.names.lookup y = some .free -> ∃ c, (fO X.env scope.names []).lookup y = some c := fun y e =>
    Option.isSome_iff_exists.mp (vB _ _ (.inl ⟨(y, .free), Vq e, rfl, rfl⟩))
  have TA : ∀ y c, X.env.cells.lookup y = some c -> c < s.heap.objs.size := fun y c e => by
    obtain ⟨v, q⟩ := I.cell y c e; exact q.lt
  have CU : ∀ b, b < s.heap.objs.size -> b ≠ s.heap.objs.size := fun b af => UZ af
  refine ⟨⟨I.ok.mod, B.kind, I.ok.glob, I.ok.blt, UE _, fun y z c aj av => I.ok.inj y z c (look y c aj) (look z c av), fun y aA => ?_, fun y c q _ => Bool.noConfusion q, I.ok.hd, I.ok.frames, .inl rfl, fun b af => ?_, I.bs, Vk I.ok.p6 I.d3, fun b o e af => ?_, fun b af jA => ?_, I.stack, I.EG⟩,
    rfl, I.bare, eO.kept aq, ⟨_, me, fun i y v aj av bF => ?_⟩, fun y c e => ?_, I.fresh, fun y c e => I.ka y c (look y c e), fun p aC => ?_, I.bP.kept aq, ?_⟩
  · -- has
    have aA : (relabel scope X.env).names.lookup y = some .cell \/ (relabel scope X.env).names.lookup y = some .free := aA
    have : scope.names.lookup y = some .free := by
      rcases aA with q | q
      · rcases mn q with z | z
        · exact absurd rfl (B.mz _ (Vq z))
        · exact z.1
      · rcases mn q with z | z
        · exact z
        · exact z.1
    exact has y this
  · -- Ar
    obtain ⟨f0, f1, f2, eE, f4, eQ⟩ := hf b af
    obtain ⟨o, ar⟩ := ar b af
    exact ⟨CU b (UK ar), fun y c e => f4 y c (look y c e)⟩
  · -- tq
    obtain ⟨f0, f1, f2, eE, f4, eQ⟩ := hf b af
    rcases eE with q | q
    · exact I.ok.tq b o e q
    · have := UK (I.ok.bs b o e).1
      exact absurd (U6 this q) (VT _)
  · -- sa
    obtain ⟨f0, f1, f2, eE, f4, eQ⟩ := hf b af
    rcases UI.mp (I.t4 b jA) with q | q
    · exact f1 q
    · exact f2 q
  · -- Sl names
    have hi : i < σ.length := by
      by_cases hi : i < σ.length
      · exact hi
      · rw [Vp (by omega), W7] at av
        split at av <;> cases av
    rw [UW hi] at av
    have K0 : i < X.N.length := by rw [<- I.len]; exact hi
    have bF : hE (relabel scope X.env) y := bF
    have LD : (scope.names.lookup y).isSome = true := by
      rcases bF with q | q | q
      all_goals
        rcases mn q with z | z
        · rw [z]; rfl
        · rw [z.1]; rfl
    obtain ⟨Ig, ah, h0⟩ := B.old i y K0 aj LD
    have mc : scope.names.lookup y = some .free := by
      rcases bF with q | q | q
      · rcases mn q with z | z
        · rcases B.loc y z with w | w
          · exact absurd w ah
          · exact absurd w h0
        · exact z.1
      · rcases mn q with z | z
        · exact absurd rfl (B.mz _ (Vq z))
        · exact z.1
      · rcases mn q with z | z
        · exact z
        · exact z.1
    have aN := B.fr (y, .free) (Vq mc) rfl
    obtain ⟨m, aD, aw⟩ := I.loc
    obtain ⟨u, r, l⟩ := aw i y v Ig av (by rcases aN with q | q; exact .inr (.inl q); exact .inr (.inr q))
    refine ⟨u, r, .inr ⟨?_, ?_⟩⟩
    · exact x9 mc
    · rcases l with ⟨k, _⟩ | ⟨_, c, h9, z⟩
      · exfalso
        have k : X.env.scope.names.lookup y = some .local := k
        simp only at aN
        rcases aN with q | q <;> rw [k] at q <;> cases q
      · obtain ⟨cO, c0⟩ := has y mc
        have e : cO = c := by have := look y cO c0; rw [h9] at this; exact (Vs this).symm
        subst e
        obtain ⟨o, J, aa⟩ := z
        exact ⟨cO, c0, o, aq _ _ J, aa⟩
  · -- cells
    obtain ⟨v, o, J, aa⟩ := I.cell y c (look y c e)
    exact ⟨v, o, aq _ _ J, aa⟩
  · -- pins
    have aC : p ∈ X.e0 ++ pins := by simpa [mS] using aC
    obtain ⟨e, n, ne, mx, d⟩ := I.pin p aC
    refine ⟨aq _ _ e, n, CU _ (UK e), fun af => ?_, d⟩
    rcases UI.mp (I.t4 p.1 af) with q | q
    · exact ne q
    · exact mx q
  · show _ = cJ.length
    rw [UM, WL, B.len, I.len]
end
end bS
end
section
namespace bS
open PySem PySem.Spec PyProof.Rows bE
noncomputable def mF:List Nat->List V->bV->bV
 |i::is,v::ag,σ=>mF is ag (σ.set i (some v))
 |_,_,σ=>σ
noncomputable def wu:List Nat->lO
 |[]=>AS
 |i::is=>AP (wt i) (wu is)
theorem AR:∀(ts:List Nat)(ag:List V)(σ:bV)(H:ax)(Q:bV->ax->Prop),ag.length=ts.length->Q (mF ts ag σ) H->wu ts ag σ H Q
 |[],[],σ,H,Q,_,q=>⟨rfl,q⟩
 |[],_::_,_,_,_,h,_=>by simp at h
 |_::_,[],_,_,_,h,_=>by simp at h
 |i::is,v::ag,σ,H,Q,h,q=>⟨v,ag,rfl,AR is ag _ H Q (by simpa using h) q⟩
noncomputable def wq(K:W.Frag)(k:Nat)(ts:List Nat):kR:=λv σ H Q=>∃G d,bM G H/\Rep K G d v/\dd (Den.fA k d) (λos=>∀(ws:List D)(ag:List V),os=ws.map some->bD K G ws ag->Q (mF ts ag σ) H) (λ_=>False)
section
variable{X:aV}
theorem Dm (bj : X.N.Nodup) : ∀ (ts : List Nat) (ys : List Str) (ab : List Expr), Den.namesOf ab = some ys -> ts.length = ys.length -> (∀ (j i : Nat) y, ts[j]? = some i -> ys[j]? = some y -> X.N[i]? = some y /\ Loc X.env.scope y /\ (X.fn y = true \/ X.env.scope.names.lookup y = some .local)) ->
    pU X ab (wu ts) /\ (assignEach ab X.env).length = ts.length /\ (assignEach ab X.env).findIdx? (·.1) = none
  | ts, ys, [], h, aw, _ => by
    simp only [Den.namesOf, VR] at h
    subst h
    have : ts = [] := by simpa using aw
    subst this
    exact ⟨ON, rfl, rfl⟩
  | ts, ys, e :: ab, h, aw, ah => by
    simp only [Den.namesOf] at h
    cases e with
    | Name x p =>
      cases q : Den.namesOf ab with
      | none => simp only [Den.nameOf, q] at h; cases h
      | some zs =>
        simp only [Den.nameOf, q, VR] at h
        subst h
        cases ts with
        | nil => simp at aw
        | cons i is =>
          obtain ⟨a, b, c⟩ := ah 0 i x rfl rfl
          obtain ⟨J, aa, aL⟩ := Dm bj is zs ab q (by simpa using aw) fun j i y aj av => ah (j + 1) i y (by simpa using aj) (by simpa using av)
          refine ⟨OM (Dk bj a b c) J rfl, ?_, ?_⟩
          · show (assignEach ab X.env).length + 1 = is.length + 1; rw [aa]
          · show ((false, assign (.Name x p) X.env) :: assignEach ab X.env).findIdx? (·.1) = none
            rw [List.findIdx?_cons]
            simp only [UC, UX]
            rw [aL]; rfl
    | _ => simp only [Den.nameOf] at h; cases h
def Dl (ai : X.calm = true) (bj : X.N.Nodup) {k : Nat} {target : Expr} {ys : List Str} {ts : List Nat} (aS : Den.eT k target = some ys) (aw : ts.length = ys.length)
    (ah : ∀ (j i : Nat) y, ts[j]? = some i -> ys[j]? = some y -> X.N[i]? = some y /\ Loc X.env.scope y /\ (X.fn y = true \/ X.env.scope.names.lookup y = some .local)) : iE X target (wq X.K k ts) := by
  cases k with
  | zero =>
    cases target with
    | Name x p =>
      simp only [Den.eT, VR] at aS
      subst aS
      obtain ⟨i, rfl⟩ : ∃ i, ts = [i] := by
        match ts, aw with
        | [i], _ => exact ⟨i, rfl⟩
      obtain ⟨a, b, c⟩ := ah 0 i x rfl rfl
      intro pins s σ H v u Q I r ⟨G, d, ae, i7, hw⟩
      refine Dk bj a b c pins s σ H v u Q I r ?_
      exact hw [d] [v] rfl ⟨v, [], rfl, i7, rfl⟩
    | _ => simp only [Den.eT] at aS; cases aS
  | succ k =>
    cases target with
    | Tuple ab j p =>
      simp only [Den.eT] at aS
      cases q : Den.namesOf ab with
      | none => rw [q] at aS; cases aS
      | some zs =>
        rw [q] at aS
        simp only at aS
        by_cases au : zs.length = k + 1
        · rw [if_pos au] at aS
          simp only [VR] at aS
          subst aS
          obtain ⟨J, aa, aL⟩ := Dm bj ts zs ab q aw ah
          intro pins s σ H v u Q I r ⟨G, d, ae, i7, hw⟩
          refine OL (n := ts.length) ai J aa aL pins s σ H v u Q I r ?_
          cases d with
          | tup ds =>
            obtain ⟨a, xs, e, hr, DP⟩ := i7
            have af : Den.fA (k + 1) (.tup ds) = if ds.length = k + 1 then .ok (ds.map some) else .bad := rfl
            rw [af] at hw
            by_cases hd : ds.length = k + 1
            · rw [if_pos hd] at hw
              have BI : xs.length = ts.length := by rw [<- DP.length, hd, aw, au]
              exact ⟨a, xs, e, hX ae hr, BI, AR ts xs σ H Q BI (hw ds xs rfl DP)⟩
            · rw [if_neg hd] at hw; exact hw.elim
          | _ => exact hw.elim
        · rw [if_neg au] at aS; cases aS
    | _ => simp only [Den.eT] at aS; cases aS
end
structure mQ(K:W.Frag)(P:ax->ax->Prop)(cc:jh)(ds:List D):Prop where
 go:∀(i:Nat) aJ H1,P aJ H1->i<ds.length->cc.go i H1
 kJ:∀(i:Nat) aJ H1 x aW d,P aJ H1->bM aJ H1->ds[i]?=some d->cc.kJ i H1 x aW->∃bJ,Ext aJ H1 bJ aW/\Rep K bJ d x
 stop:∀aJ H1,P aJ H1->cc.stop ds.length H1
noncomputable def n3(m:ep)(G H:ax):ax->ax->Prop:=λaJ H1=>bM G aJ/\(match m with|.view=>bM H H1|_=>bM aJ H1)
noncomputable def jT(xp:cj)(X:aV)(ak:List Nat)(m:ep)(f:a0->br (List D)):TI:=λσ H R =>
 ∃G C,ea X.K ak G H C σ/\dd (f C) (λds=>∀cc aP ao,Ext G H aP ao->mQ X.K (n3 m aP ao) cc ds->ds.length<=16777216->R cc ao) (λc=>gK xp X c H)
end bS
end
section
namespace bS
open PySem PySem.Spec PyProof.Rows bE
def xO{α:Type}{r:br α}{Q:α->Prop}{E:Nat->Prop}(h:dd (Den.ir r) Q E):∃a,r=.ok a/\Q a:=by
 cases r with
 |ok a=>exact⟨a,rfl,h⟩
 |exc c=>exact h.elim
 |bad=>exact h.elim
def ea.more{K:W.Frag}{ak:List Nat}{G H:ax}{C:a0}{σ:bV}(h:ea K ak G H C σ)(hq:∀i∈ak,i<C.length){ws:List D}{ag:List V}(r:bD K G ws ag):ea K ak G H (C++ws.map some) (σ++ag.map some) where
 len:=by rw[UM,UM,h.len,List.length_map,List.length_map,r.length]
 sub:=h.sub
 val:=λi d e hm=>by
  by_cases hi:i<C.length
  .rw[UW hi]at e;obtain⟨v,a,b⟩:=h.val i d e hm;exact⟨v,by rw[UW (by rw[<- h.len];exact hi)];exact a,b⟩
  .rw[Vp (by omega),U1]at e
   cases q:ws[i-C.length]? with
   |none=>rw[q]at e;cases e
   |some w =>
    rw[q]at e;simp only[Option.map_some,VR]at e;subst e;obtain⟨v,a,b⟩:=r.get q;exact⟨v,by rw[Vp (by rw[<- h.len];omega),U1,<- h.len,a];rfl,b⟩
 own:=λi d e hm aw=>by
  have hi:=hq i hm;rw[UW hi]at e;obtain⟨v,a,b⟩:=h.own i d e hm aw;exact⟨v,by rw[UW (by rw[<- h.len];exact hi)];exact a,b⟩
 lst:=λi d e hm aw=>by
  have hi:=hq i hm;rw[UW hi]at e;obtain⟨a,o,J,aa⟩:=h.lst i d e hm aw;exact⟨a,o,by rw[UW (by rw[<- h.len];exact hi)];exact J,aa⟩
 d4:=h.d4
 apart:=λi j ds ab a b aj av cp dE hi aH ne J aa=>by
  have fs:=hq i hi;have ft:=hq j aH;rw[UW fs]at aj;rw[UW ft]at av;rw[UW (by rw[<- h.len];exact fs)]at J
  rw[UW (by rw[<- h.len];exact ft)]at aa
  exact h.apart i j ds ab a b aj av cp dE hi aH ne J aa
theorem D6:∀(ag:List V)(σ:bV)(fH:bV)(n:Nat),n=σ.length->fH.length=ag.length->mF (List.range' n ag.length) ag (σ++fH)=σ++ag.map some
 |[],σ,fH,n,aD,aS=>by
  have:fH=[]:=by simpa using aS
  subst this;rfl
 |v::ag,σ,fH,n,aD,aS=>by
  cases fH with
  |nil=>simp at aS
  |cons t fH =>
   rw[List.length_cons,List.range'_succ,mF];have e:(σ++t::fH).set n (some v)=(σ++[some v])++fH:=by
    rw[List.set_append_right _ _ (by omega),aD];simp
   rw[e,D6 ag (σ++[some v]) fH (n+1) (by simp[aD]) (by simpa using aS)]
   simp
section
variable{xp:cj}{X:aV}{ak:List Nat}{jx:a0->br (List D)}{fQ:a0->br D}{cT:a0->br Bool}{elt target iter:Expr}{ifs:List Expr}{scope:Scope}{pos:Pos}{xs cJ:List Str}{k:Nat}
noncomputable def iM(k:Nat)(cT:a0->br Bool)(fQ:a0->br D)(C:a0)(d:D):br (Option D):=Den.fA k d>>=λag=>cT (C++ag)>>=λb=>if b then fQ (C++ag)>>=λy=>.ok (some y) else .ok none
noncomputable def gk(X:aV)(scope:Scope)(cJ:List Str)(s3:Shared)(b2:ax)(bq:List Addr)(pins:List (Addr×Obj)):aV:=mS X (compEnvC scope (fO X.env scope.names []) s3.heap.objs.size X.env) cJ s3 b2 bq pins
def GG{k:Nat}{d:D}{os:List (Option D)}(h:Den.fA k d=.ok os):∃ws:List D,os=ws.map some:=by
 cases k with
 |zero=>cases h;exact⟨[d],rfl⟩
 |succ k =>
  cases d with
  |tup ds =>
   have af:Den.fA (k+1) (.tup ds)=if ds.length=k+1 then .ok (ds.map some) else .bad:=rfl;rw[af]at h
   by_cases hd:ds.length=k+1
   .rw[if_pos hd]at h;cases h;exact⟨ds,rfl⟩
   .rw[if_neg hd]at h;cases h
  |_=>cases h
end
end bS
end
section
namespace bS
open PySem PySem.Spec PyProof.Rows bE
section
variable{xp:cj}{X:aV}{ak:List Nat}{jx:a0->br (List D)}{fQ:a0->br D}{cT:a0->br Bool}{elt target iter:Expr}{ifs:List Expr}{scope:Scope}{pos:Pos}{xs cJ:List Str}{k:Nat}
noncomputable def pY(xp:cj)(X:aV)(ak:List Nat)(scope:Scope)(cJ:List Str)(ifs:List Expr)(cT:a0->br Bool):Prop :=
 (ifs=[]/\cT=λ_=>.ok true)\/∃(c:Expr)(sb:a0->br D),ifs=[c]/\(cT=λC=>sb C>>=Den.fW)/\∀s3 b2 bq pins,dV (gk X scope cJ s3 b2 bq pins) c (gB xp (gk X scope cJ s3 b2 bq pins) ak sb)
def Sk(aS:pY xp X ak scope cJ ifs cT){s3:Shared}{b2:ax}{bq:List Addr}{pp pins:List (Addr×Obj)}{s:Shared}{σ:bV}{G H:ax}{C:a0}{b:Bool}{Q:Bool->Shared->Prop}(I:Inv (gk X scope cJ s3 b2 bq pp) pins σ H s)(ae:ea X.K ak G H C σ)(af:cT C=.ok b)(aE:∀s' aP ao,Inv (gk X scope cJ s3 b2 bq pp) pins σ ao s'->Ext G H aP ao->Q b s'):
  wpAny (model X.prog X.w) X.A (forIn ifs true λc r=>if r=true then do let ok <- isTrue c (gk X scope cJ s3 b2 bq pp).env (eval c (gk X scope cJ s3 b2 bq pp).env);pure (ForInStep.yield ok) else pure (ForInStep.yield r)) Q (λ_ _=>False) s:=by
 rcases aS with⟨rfl,rfl⟩|⟨c,sb,rfl,rfl,h⟩
 .cases af;exact wpAny_tests_nil (aE s G H I (Ext.refl ae.sub))
 .refine wpAny_tests_one (VK (h s3 b2 bq pp pins s σ H (λh6 ao=>h6=b/\∃aP,Ext G H aP ao) I ⟨G,C,ae,?_⟩) (λh6 s' ⟨ao,iC,e,aP,x⟩=>?_) λ_ _ z=>z)
  .have af:(sb C>>=Den.fW)=.ok b:=af;rw[af];exact λaP ao x=>⟨rfl,aP,x⟩
  .subst e;exact aE s' aP ao iC x
def GH{d:D}{os:List (Option D)}(aq:Den.eT k target=some xs)(h:Den.fA k d=.ok os):os.length=xs.length:=by
 cases k with
 |zero =>
  cases h;cases target with
  |Name x p=>simp only[Den.eT,VR]at aq;subst aq;rfl
  |_=>simp only[Den.eT]at aq;cases aq
 |succ k =>
  have ah:xs.length=k+1:=by
   cases target with
   |Tuple ab j p =>
    simp only[Den.eT]at aq;cases q:Den.namesOf ab with
    |none=>rw[q]at aq;cases aq
    |some zs =>
     rw[q]at aq;simp only at aq
     by_cases au:zs.length=k+1
     .rw[if_pos au]at aq;cases aq;exact au
     .rw[if_neg au]at aq;cases aq
   |_=>simp only[Den.eT]at aq;cases aq
  cases d with
  |tup ds =>
   have af:Den.fA (k+1) (.tup ds)=if ds.length=k+1 then .ok (ds.map some) else .bad:=rfl;rw[af]at h
   by_cases hd:ds.length=k+1
   .rw[if_pos hd]at h;cases h;rw[List.length_map,hd,ah]
   .rw[if_neg hd]at h;cases h
  |_=>cases h
def Ng{a b:List D}(h:a.map some=b.map some):a=b:=by
 induction a generalizing b with
 |nil=>cases b with|nil=>rfl|cons _ _=>simp at h
 |cons x a aO=>cases b with
  |nil=>simp at h
  |cons y b=>simp only[List.map_cons,List.cons.injEq,VR]at h;rw[h.1,aO h.2]
noncomputable def yW(X:aV)(pins:List (Addr×Obj))(σ:bV)(G H:ax)(use:Option (Value->Sem Unit))(Qc:Value->Shared->Prop)(ys:List D):Prop :=
 ∀(s4:Shared)(ao aP:ax)(bU c5:Addr)(nJ:Str->Option Value),Ext G H aP ao->cz X.K H aP ao .fresh (.lst ys) (.ref c5)->s4.heap.Ns bU nJ->jf X pins ao bU->(∀h',Heap.SameBut bU s4.heap h'->Inv X pins σ ao { s4 with heap:=h' }) ->
  compPost (model X.prog X.w) X.A X.cR use Qc (.ref c5) bU (.ok .next) s4
structure FA(X Y:aV)(f:D->br (Option D))(gi:Nat->Heap->Prop)(bq:List Addr)(ds ys:List D)(xs:List Str)(σ:bV)(bJ aW:ax)(c5:Addr)(n:Nat)(s':Shared)(i:Nat)(fH:bV)(ao aP:ax)(lE rest:List D)(g8:List V):Prop where
 J:n=ds.length-i
 aa:i<=ds.length
 aL:fH.length=xs.length
 a8:Inv Y [] (σ++fH) ao s'
 cP:gi i s'.heap
 f3:∀b∈bq,ao b=none
 ic:Ext bJ aW aP ao
 dJ:ao c5=some (.lst g8)
 l9:aP c5=none
 sr:bD X.K aP lE g8
 A0:lE.length<=i
 hl:Den.df f (ds.drop i)=.ok rest
 TM:ys=lE++rest
def Ir{cT:a0->br Bool}{fQ:a0->br D}{k:Nat}{C:a0}{d:D}{r rest:List D}(h:Den.df (iM k cT fQ C) (d::r)=.ok rest):∃(ws:List D)(b:Bool)(ph:List D),Den.fA k d=.ok (ws.map some)/\cT (C++ws.map some)=.ok b /\
  Den.df (iM k cT fQ C) r=.ok ph/\((b=false/\rest=ph)\/∃y,b=true/\fQ (C++ws.map some)=.ok y/\rest=y::ph):=by
 simp only[Den.df]at h;cases aK:iM k cT fQ C d with
 |exc c=>rw[aK]at h;cases h
 |bad=>rw[aK]at h;cases h
 |ok o =>
 rw[aK]at h;simp only[Den.R.iu]at h;cases a6:Den.df (iM k cT fQ C) r with
 |exc c=>rw[a6]at h;cases h
 |bad=>rw[a6]at h;cases h
 |ok ph =>
 rw[a6]at h;simp only[Den.R.iu]at h;unfold iM at aK;cases bT:Den.fA k d with
 |exc c=>rw[bT]at aK;cases aK
 |bad=>rw[bT]at aK;cases aK
 |ok os =>
 rw[bT]at aK;simp only[Den.R.iu]at aK;obtain⟨ws,rfl⟩:=GG bT;cases c9:cT (C++ws.map some) with
 |exc c=>rw[c9]at aK;cases aK
 |bad=>rw[c9]at aK;cases aK
 |ok b =>
 rw[c9]at aK;simp only[Den.R.iu]at aK;cases b with
 |false=>cases aK;cases h;exact⟨ws,false,_,rfl,c9,rfl,.inl ⟨rfl,rfl⟩⟩
 |true =>
  simp only[Vn]at aK;cases ky:fQ (C++ws.map some) with
  |exc c=>rw[ky]at aK;cases aK
  |bad=>rw[ky]at aK;cases aK
  |ok y =>
  rw[ky]at aK;cases aK;cases h;exact⟨ws,true,_,rfl,c9,rfl,.inr ⟨y,rfl,ky,rfl⟩⟩
def zW (ai : X.calm = true) (hq : ∀ i ∈ ak, i < X.N.length) (B : n1 X scope xs cJ) (aq : Den.eT k target = some xs) (nv : ∀ x, foldedSetIterable iter X.env x = pure x)
    (hi : gI X target iter (jT xp X ak .view jx)) (he : ∀ s3 b2 bq pins, aR (gk X scope cJ s3 b2 bq pins) elt (bk xp (gk X scope cJ s3 b2 bq pins) ak .val fQ)) (aS : pY xp X ak scope cJ ifs cT)
    {use : Option (Value -> Sem Unit)} {Qc : Value -> Shared -> Prop} {pins : List (Addr × Obj)} {s : Shared} {σ : bV} {H G : ax} {C : a0} (I : Inv X pins σ H s) (ae : ea X.K ak G H C σ)
    (hw : dd (jx C >>= fun ds => Den.ir (Den.df (iM k cT fQ C) ds)) (yW X pins σ G H use Qc) (fun c => gK xp X c H)) {pos' : Pos} :
    wpAny (model X.prog X.w) X.A (comprehension (.ListComp elt [⟨target, iter, ifs, 0⟩] scope pos) scope X.env pos' (newList []) false (eval iter X.env) use) Qc X.cR s := by
  have Kw : closureFor scope X.env = pure (fO X.env scope.names []) := Hg fun x ah e => by
    have := B.fr x ah e
    exact I.ok.has x.1 (by rcases this with q | q; exact .inl q; exact .inr q)
  refine wpAny_comprehension_free (use := use) rfl nv Kw B.kind B.names ?_
  refine bI (hi pins s σ H (fun cc ao => ∃ aP ds ys, Ext G H aP ao /\ mQ X.K (n3 .view aP ao) cc ds /\ ds.length <= 16777216 /\ Den.df (iM k cT fQ C) ds = .ok ys /\ yW X pins σ G H use Qc ys) I
    ⟨G, C, ae, b3 (bB.mp hw) (fun ds hr cc aP ao x lj au => ?_) fun _ q => q⟩) fun v s1 J => bI J fun xx s2 aa => ?_
  · obtain ⟨ys, e, q⟩ := xO hr
    exact ⟨aP, ds, ys, x, lj, au, e, q⟩
  obtain ⟨it, bq, gi, cc, aW, rfl, cx, T, cX, f2, bJ, ds, ys, bu, lj, au, LN, fin⟩ := aa
  refine Vc (wpAny_newFunctionEnv B.mz (by intro y aA; simp at aA) (fun gV w5 xf => ?_) B.kind)
  dsimp only at w5 xf ⊢
  have eo : Inv X pins σ (upd aW s2.heap.objs.size (.lst [])) { s2 with heap := s2.heap.push { cls := .type "list", data := .seq ([] : List Value).toArray } } := cx.CC (t' := s2.toks) (ys := []) (its := []) .nil (UH _)
  generalize BO : ({ s2 with heap := s2.heap.push { cls := .type "list", data := .seq ([] : List Value).toArray } } : Shared) = s3 at eo
  have By : s3.heap = s2.heap.push { cls := .type "list", data := .seq ([] : List Value).toArray } := by rw [<- BO]
  rw [<- By] at w5 xf ⊢
  generalize A5 : s2.heap.objs.size = c5 at *
  have qu : aW c5 = none := by rw [<- A5]; exact cx.fresh
  have KU : ∀ b ∈ bq, b ≠ c5 := fun b af z => by
    obtain ⟨o, e, _⟩ := T.obj _ _ cX b af
    have := UK e
    rw [z, <- A5] at this
    exact absurd this (VT _)
  have BD : ∀ b o, s2.heap.get? b = some o -> s3.heap.get? b = some o := fun b o e => by rw [By]; exact UD _ e
  have cA : ({ heap := gV, gens := s2.gens, drawn := s2.drawn, toks := s2.toks + ([] : List (Str × Value)).length, os := s2.os } : Shared) = { s3 with heap := gV, toks := s2.toks } := by rw [<- BO]; rfl
  rw [cA]
  show codeAny (model X.prog X.w) X.A (Code.compStart (elt.ListComp [{ target := target, iter := iter, ifs := ifs, is_async := 0 }] scope pos) 0 (Value.ref it) (Value.ref c5) (compEnvC scope (fO X.env scope.names []) s3.heap.objs.size X.env))
    (compPost (model X.prog X.w) X.A X.cR use Qc (Value.ref c5) s3.heap.objs.size) { s3 with heap := gV, toks := s2.toks }
  have me : gV.Ns s3.heap.objs.size (fun _ => none) := by simpa using w5
  have ih : ∀ b o, s3.heap.get? b = some o -> gV.get? b = some o := fun b o e => xf.extBut b o (UZ (UK e)) (UD _ e)
  have sE : ∀ b ∈ bq, jf X pins (upd aW c5 (.lst [])) b := fun b af => ⟨by rw [dc (KU b af)]; exact (f2 b af).1, (f2 b af).2⟩
  have Ln : ∀ b ∈ bq, ∃ o, s3.heap.get? b = some o := fun b af => by
    obtain ⟨o, e, _⟩ := T.obj _ _ cX b af
    exact ⟨o, BD b o e⟩
  have rL := GL (tk := s2.toks) eo sE Ln B me ih
  generalize fS : mS X (compEnvC scope (fO X.env scope.names []) s3.heap.objs.size X.env) cJ s3 (upd aW c5 (.lst [])) bq pins = Y at rL
  have TC : Y = gk X scope cJ s3 (upd aW c5 (.lst [])) bq pins := fS.symm
  have EE : gi 0 gV := T.keep _ _ _ cX fun b af o e => ih b o (BD b o e)
  have Ew : ea X.K ak bJ aW C σ := ae.ext bu
  have Lh : ∀ i ∈ ak, i < C.length := fun i hi => by rw [ae.len, I.len]; exact hq i hi
  have T4 : ∀ (i : Nat) (d : D), i ∈ ak -> gy d = true -> C[i]? = some (some d) -> σ[i]? ≠ some (some (V.ref c5)) := fun i d hi aw e z => by
    obtain ⟨a, ag, J, aa, _⟩ := Ew.lst i d e hi aw
    rw [J] at z
    injection z with z
    injection z with z
    injection z with z
    rw [z, qu] at aa; cases aa
  have wj : ∀ {ao : ax}, (∀ b ∈ bq, ao b = none) -> ∀ b ∈ bq, jf Y [] ao b := fun aD b af => by
    obtain ⟨f0, f1, Jx, eE, f4, eQ⟩ := sE b af
    obtain ⟨aj, av⟩ := rL.ok.Ar b (by rw [<- fS]; exact af)
    refine ⟨aD b af, aj, rL.ok.sa b (by rw [<- fS]; exact af), .inl (by rw [<- fS]; exact af), av, fun p aC => ?_⟩
    rw [<- fS] at aC
    exact eQ p (by simpa [mS] using aC)
  have loop : codeAny (model X.prog X.w) X.A (.compLoop (.ListComp elt [⟨target, iter, ifs, 0⟩] scope pos) 0 (.ref it) (.ref c5) (compEnvC scope (fO X.env scope.names []) s3.heap.objs.size X.env))
      (compPost (model X.prog X.w) X.A X.cR use Qc (Value.ref c5) s3.heap.objs.size) { s3 with heap := gV, toks := s2.toks } := by
    refine Hs (fun n s' => ∃ (i : Nat) (fH : bV) (ao aP : ax) (lE rest : List D) (g8 : List V), FA X Y (iM k cT fQ C) gi bq ds ys xs σ bJ aW c5 n s' i fH ao aP lE rest g8) ?_ ds.length
      ⟨0, List.replicate xs.length none, _, bJ, [], ys, [], by simp, UH _, by simp, rL, EE, fun b af => (sE b af).1, Ext.own bu.sub qu, eh, bu.sub.free qu, rfl, UE _, by simpa using LN, rfl⟩
    rintro n s' ⟨i, fH, ao, aP, lE, rest, g8, rfl, BB, LP, iC, aG, AL, iz, ma, A7, x7, TX, kj, sW⟩
    have m7 : n3 .view bJ aW aP ao := ⟨iz.g, iz.h⟩
    have Bk : Y.calm = true := by rw [<- fS]; exact ai
    have wM : Y.prog = X.prog := by rw [<- fS]; rfl
    have wN : Y.w = X.w := by rw [<- fS]; rfl
    have Bj : Y.K = X.K := by rw [<- fS]; rfl
    have Bi : Y.A = X.A := by rw [<- fS]; rfl
    have TN : Y.cR = fun _ _ => False := by rw [<- fS]; rfl
    by_cases cg : i < ds.length
    · have hd : ds[i]? = some ds[i] := UJ cg
      generalize ds[i] = d at hd
      have KI : ds.drop i = d :: ds.drop (i + 1) := by
        have := U2.mp hd
        obtain ⟨J, aa⟩ := this
        rw [<- aa]; exact Vr J
      rw [KI] at kj
      have item := T.item Y wM wN Bj Bk i [] s' (σ ++ fH) ao (fun _ _ => False) iC (wj AL) aG (lj.go i aP ao m7 cg)
      rw [Bi] at item
      refine bI item fun r s4 ⟨u, aZ, a8⟩ => ?_
      subst aZ
      refine bI a8 fun _ s5 ⟨x, lI, jg, fE, uz, lA, wk⟩ => ?_
      obtain ⟨pO, rB, i7⟩ := lj.kJ i aP ao x lI d m7 iz.sub hd uz
      have uI := jg.pinned (wj wk) (T.obj _ _ lA)
      obtain ⟨ws, b, ph, bT, c9, a6, af⟩ := Ir kj
      have qJ : ws.length = xs.length := by have := GH aq bT; simpa using this
      subst fS
      have ba : iE (mS X (compEnvC scope (fO X.env scope.names []) s3.heap.objs.size X.env) cJ s3 (upd aW c5 (.lst [])) bq pins) target (wq X.K k (List.range' X.N.length xs.length)) := by
        refine Dl (X := mS X (compEnvC scope (fO X.env scope.names []) s3.heap.objs.size X.env) cJ s3 (upd aW c5 (.lst [])) bq pins) ai B.dU aq (by simp) fun j bw y aj av => ?_
        rw [List.getElem?_range' (U2.mp av).1] at aj
        have aA : y ∈ xs := VB av
        have oJ : (relabel scope X.env).names.lookup y = some .local := tM (B.eT y aA) (by decide)
        cases aj
        refine ⟨?_, .inl oJ, .inr oJ⟩
        show cJ[X.N.length + 1 * j]? = some y
        rw [Nat.one_mul, B.new j]; exact av
      refine bI (ba _ s5 (σ ++ fH) lI x u (fun uA mN => ∃ ag : List V, uA = σ ++ ag.map some /\ ag.length = xs.length /\ mN = lI /\ bD X.K pO ws ag) uI fE ⟨pO, d, rB.sub, i7, ?_⟩) fun _ DR ⟨uA, mN, uJ, ag, h8, BV, m3, rws⟩ => ?_
      · rw [bT]
        intro Uu ag e r
        have e := Ng e
        subst e
        have aw : ag.length = xs.length := by rw [<- r.length, qJ]
        refine ⟨ag, ?_, aw, rfl, r⟩
        rw [<- aw]
        exact D6 ag σ fH X.N.length (I.len.symm) (by rw [LP, aw])
      subst h8
      subst m3
      have yS : Ext bJ aW pO mN := iz.trans rB
      have Ex : ea X.K ak pO mN (C ++ ws.map some) (σ ++ ag.map some) := (Ew.ext yS).more Lh rws
      have A4 : mN c5 = some (.lst g8) := rB.h _ _ ma
      have Ki : pO c5 = none := rB.new c5 A7 (by rw [ma]; exact fun z => nomatch z)
      refine Sk aS uJ Ex c9 fun rm pP gD gE mJ => ?_
      have wJ : gD c5 = some (.lst g8) := mJ.h _ _ A4
      have A8 : pP c5 = none := mJ.new c5 Ki (by rw [A4]; exact fun z => nomatch z)
      have Dz : bD X.K pP lE g8 := (x7.mono rB.g).mono mJ.g
      rcases af with ⟨rfl, rfl⟩ | ⟨y, rfl, ky, rfl⟩
      · simp only [UC, UX]
        refine ⟨ds.length - (i + 1), by omega, i + 1, ag.map some, gD, pP, lE, rest, g8, rfl, by omega, by rw [List.length_map]; exact BV, gE.pD, T.keep _ _ _ lA fun b af o e => (gE.pin (b, o) (UP _ (UP _ (oW af e)))).1, fun b af => ?_, yS.trans mJ, wJ, A8, Dz, by omega, a6, sW⟩
        obtain ⟨bx, e, _⟩ := T.obj _ _ lA b af
        exact (gE.pin (b, bx) (UP _ (UP _ (oW af e)))).2.1
      · simp only [Vn]
        refine bI (he s3 (upd aW c5 (.lst [])) bq pins _ rm (σ ++ ag.map some) gD (fun v mO => ∃ lH, Ext pP gD lH mO /\ Rep X.K lH y v) gE ⟨pP, C ++ ws.map some, Ex.ext mJ, by rw [ky]; exact fun v lH mO pF nM => ⟨lH, pF, nM⟩⟩) fun u8 PZ ⟨uh, mO, FI, nM, lH, pF, PE⟩ => ?_
        have Kf : mO c5 = some (.lst g8) := pF.h _ _ wJ
        have A9 : lH c5 = none := pF.new c5 A8 (by rw [wJ]; exact fun z => nomatch z)
        have hlen : g8.length < sizeLine := by rw [<- x7.length, sizeLine_eq]; omega
        refine bI (CL (X := gk X scope cJ s3 (upd aW c5 (.lst [])) bq pins) _ PZ (σ ++ ag.map some) mO (.ref c5) [uh] (.ref c5) [u8] (fun _ yY => yY = upd mO c5 (.lst (g8 ++ [uh]))) FI rfl (.cons nM .nil) ⟨c5, g8, uh, rfl, rfl, Kf, hlen, rfl⟩) fun _ Up ⟨_, yY, uK, _, z8⟩ => ?_
        subst z8
        have rA : Ext bJ aW lH mO := (yS.trans mJ).trans pF
        refine ⟨ds.length - (i + 1), by omega, i + 1, ag.map some, _, lH, lE ++ [y], ph, g8 ++ [uh], rfl, by omega, by rw [List.length_map]; exact BV, uK.pD, T.keep _ _ _ lA fun b af o e => (uK.pin (b, o) (UP _ (UP _ (oW af e)))).1, fun b af => ?_,
          ⟨rA.g, fun b o e => ?_, fun b o e => ?_, rA.new, fun b xs e => rA.d4 b xs (by
            by_cases q : b = c5
            · subst q; rw [eh] at e; cases e
            · rw [dc q] at e; exact e)⟩, eh, A9, (Dz.mono pF.g).snoc PE, by rw [UM, List.length_singleton]; omega, a6, by rw [sW, UN]; rfl⟩
        · obtain ⟨bx, e, _⟩ := T.obj _ _ lA b af
          exact (uK.pin (b, bx) (UP _ (UP _ (oW af e)))).2.1
        · rw [dc (iq e qu)]; exact rA.h b o e
        · rw [dc (iq e A9)]; exact rA.sub b o e
    · have K3 : i = ds.length := by omega
      subst K3
      have aZ : rest = [] := by
        rw [Xm] at kj
        simp only [Den.df] at kj
        cases kj; rfl
      subst aZ
      rw [VD] at sW
      subst sW
      have done := T.done Y wM wN Bj Bk ds.length [] s' (σ ++ fH) ao (fun _ _ => False) iC (wj AL) aG (lj.stop aP ao m7)
      rw [Bi] at done
      refine bI done fun r s4 ⟨aZ, eL⟩ => ?_
      subst aZ
      obtain ⟨nJ, BJ, _⟩ := eL.loc
      have vO : Y.env.locals = s3.heap.objs.size := by rw [<- fS]; rfl
      rw [vO] at BJ
      refine fin s4 ao aP s3.heap.objs.size c5 nJ (bu.trans iz) ⟨c5, g8, rfl, ma, bu.h.free qu, A7, x7⟩ BJ (eo.qn (UE _) (by have := eL.free; rw [vO] at this; exact this)) fun h' cv => ?_
      have A3 : ao s3.heap.objs.size = none := by have := eL.free; rw [vO] at this; exact this
      have un : eO (hH X.stack) bq (upd aW c5 (.lst [])) ao s3.heap s4.heap := by have := eL.base; rw [<- fS] at this; exact this
      have mw : ∀ b o, s3.heap.get? b = some o -> b ≠ s3.heap.objs.size := fun b o e => UZ (UK e)
      have SG : eO (hH X.stack) bq (upd aW c5 (.lst [])) ao s3.heap h' :=
        ⟨fun b o e n af ah => (cv.2 b (mw b o e)).trans (un.keep b o e n af ah), fun b o e n af ah => by obtain ⟨b1, q⟩ := un.slot b o e n af ah; exact ⟨b1, (cv.2 b (mw b o e)).trans q⟩, un.free,
          fun b o e ah => by obtain ⟨bN, q⟩ := un.there b o e ah; exact ⟨bN, (cv.2 b (mw b o e)).trans q⟩, un.kF, un.jy, un.kD⟩
      have w8 : d5 X.prog X.w ao h' := fun b o e => by
        have q := eL.bP b o e
        rw [wM, wN] at q
        refine q.jS (fun c v c0 q => (cv.2 c ?_).trans q) (fun _ q => q) fun _ _ q => q
        rcases c0 with z | z
        · rw [z]; rintro rfl; rw [A3] at e; cases e
        · rintro rfl; rw [A3] at z; cases z
      have Ob : s4.os = s3.os := by have := eL.os; rw [<- fS] at this; exact this
      have FJ : Inv X pins σ ao { s4 with heap := h' } := eo.zy (s' := { s4 with heap := h' }) Ob SG w8 eL.bare fun b af => by
        obtain ⟨f0, f1, Jx, eE, f4, eQ⟩ := sE b af
        exact ⟨eE, f1, f4, eQ⟩
      exact FJ
  refine codeAny_compStart_list loop (T.self _ _ _ _ _ EE loop)
def yh(ai:X.calm=true)(hq:∀i∈ak,i<X.N.length)(B:n1 X scope xs cJ)(aq:Den.eT k target=some xs)(nv:∀x,foldedSetIterable iter X.env x=pure x)(hi:gI X target iter (jT xp X ak .view jx))(he:∀s3 b2 bq pins,aR (gk X scope cJ s3 b2 bq pins) elt (bk xp (gk X scope cJ s3 b2 bq pins) ak .val fQ))(aS:pY xp X ak scope cJ ifs cT):
  aR X (.ListComp elt [⟨target,iter,ifs,0⟩] scope pos) (bk xp X ak .fresh λC=>jx C>>=λds=>Den.ir (Den.df (iM k cT fQ C) ds)>>=λys=>.ok (.lst ys)):=by
 intro pins s σ H Q I ⟨G,C,ae,hw⟩;rw[eval_ListComp];refine zW ai hq B aq nv hi he aS I ae (use:=none) (Qc:=ei X pins σ Q) ?_;have hw:=bB.mp hw;refine bB.mpr (b3 hw (λds k1=>?_) λ_ q=>q)
 refine b3 (bB.mp k1) (λys k2 s4 ao aP bU c5 nJ x r aD hf inv=>?_) λ_ q=>q
 exact⟨nJ,aD,λh' cv=>⟨.ref c5,ao,inv h' cv,rfl,k2 _ aP ao x r⟩⟩
end
end bS
end
section
namespace bS
open PySem PySem.Spec PyProof.Rows bE
section
variable{xp:cj}{X:aV}{ak:List Nat}{m:ep}{f bg cZ:a0->br D}{l a b dv:Expr}{pos p:Pos}
def OQ{hz:TE}(aw:aR X l hz):gI X dv l (λσ H R=>hz σ H λx H1=>∃a xs,x=.ref a/\((dW X.K H1 a xs/\(xs.length<=sizeLine->R (uL X.K a) H1))\/(fj X.K H1 a xs/\(xs.length<=sizeLine->R (uM X.K a) H1)))):=by
 intro pins s σ H R I h;refine bI (aw pins s σ H _ I h) λv s1 ⟨x,H1,a7,aI,aK⟩=>?_
 obtain⟨a,xs,e,⟨aE,q⟩|⟨aE,q⟩⟩:=aK
 .subst e;cases aI;obtain⟨its,bG,p,au⟩:=a7.list aE;refine wpAny_pyIter_list p.isList ?_;refine⟨s1.heap.objs.size,[s1.heap.objs.size],_,_,H1,rfl,a7.kept (t':=s1.toks) λb o e=>UD _ e,Sx a _,⟨_,UQ _ rfl,rfl,rfl⟩,λb af=>?_,q au⟩
  have e:b=s1.heap.objs.size:=by simpa using af
  subst e;exact a7.qn (UE _) (a7.bP.fresh (UE _))
 .subst e;cases aI;obtain⟨its,bG,p,au⟩:=a7.tuple aE;refine wpAny_pyIter_tuple (show s1.heap.IsTuple a its.toArray from p) ?_;refine⟨s1.heap.objs.size,[s1.heap.objs.size],_,_,H1,rfl,a7.kept (t':=s1.toks) λb o e=>UD _ e,Sz a _,⟨_,UQ _ rfl,rfl,rfl⟩,λb af=>?_,q au⟩
  have e:b=s1.heap.objs.size:=by simpa using af
  subst e;exact a7.qn (UE _) (a7.bP.fresh (UE _))
def Ca{K:W.Frag}{P:ax->ax->Prop}{G:ax}{a:Addr}{xs:List V}{ds:List D}(dK:∀aJ H1,P aJ H1->bM G aJ/\dW K H1 a xs)(r:bD K G ds xs):mQ K P (uL K a) ds where
 go:=λi aJ H1 h hi=>by
  obtain⟨_,q⟩:=dK aJ H1 h;have ah:i<xs.length:=by rw[<- r.length];exact hi
  exact⟨xs,xs[i],q,UJ ah⟩
 kJ:=λi aJ H1 x aW d h ae hd ⟨e,y⟩=>by
  obtain⟨g,q⟩:=dK aJ H1 h;subst e;obtain⟨v,J,aa⟩:=r.get hd;have:=y xs q;rw[J]at this;cases this;exact⟨aJ,Ext.refl ae,aa.mono g⟩
 stop:=λaJ H1 h=>⟨xs,(dK aJ H1 h).2,by rw[r.length];exact UE _⟩
def Mh{K:W.Frag}{P:ax->ax->Prop}{G:ax}{a:Addr}{xs:List V}{ds:List D}(dK:∀aJ H1,P aJ H1->bM G aJ/\fj K H1 a xs)(r:bD K G ds xs):mQ K P (uM K a) ds where
 go:=λi aJ H1 h hi=>by
  obtain⟨_,q⟩:=dK aJ H1 h;have ah:i<xs.length:=by rw[<- r.length];exact hi
  exact⟨xs,xs[i],q,UJ ah⟩
 kJ:=λi aJ H1 x aW d h ae hd ⟨e,y⟩=>by
  obtain⟨g,q⟩:=dK aJ H1 h;subst e;obtain⟨v,J,aa⟩:=r.get hd;have:=y xs q;rw[J]at this;cases this;exact⟨aJ,Ext.refl ae,aa.mono g⟩
 stop:=λaJ H1 h=>⟨xs,(dK aJ H1 h).2,by rw[r.length];exact UE _⟩
def xG{K:W.Frag}{G:ax}{ds:List D}{xs:List V}(r:bD K G ds xs)(h:xs.length<=sizeLine):ds.length<=16777216:=by rw[r.length,<- sizeLine_eq];exact h
def Qo(hm:m=.view\/m=.val)(aw:aR X l (bk xp X ak m f)):gI X dv l (jT xp X ak m λC=>f C>>=λd=>Den.dP d):=by
 intro pins s σ H R I ⟨G,C,ae,hw⟩;refine OQ aw pins s σ H R I ?_;refine⟨G,C,ae,b3 (bB.mp hw) (λd k v aJ H1 aU aI=>?_) λ_ q=>q⟩
 cases d with
 |lst ds =>
  rcases hm with rfl|rfl
  .obtain⟨a,xs,rfl,hr,r⟩:=kG (X:=X) aI;exact⟨a,xs,rfl,.inl ⟨hr,λau=>k _ aJ H1 aU (Ca (G:=aJ) (λbJ aW ⟨J,aa⟩=>⟨J,jc aa hr⟩) r) (xG r au)⟩⟩
  .obtain⟨a,xs,rfl,hr,r⟩:=aI;exact⟨a,xs,rfl,.inl ⟨jc aU.sub hr,λau=>k _ aJ H1 aU (Ca (G:=aJ) (λbJ aW ⟨J,aa⟩=>⟨J,jc aa (jc J hr)⟩) r) (xG r au)⟩⟩
 |tup ds =>
  have aI:Rep X.K aJ (.tup ds) v:=by rcases hm with rfl|rfl<;>exact aI
  obtain⟨a,xs,rfl,hr,r⟩:=aI;refine⟨a,xs,rfl,.inr ⟨hX aU.sub hr,λau=>k _ aJ H1 aU (Mh (G:=aJ) (λbJ aW ⟨J,aa⟩=>?_) r) (xG r au)⟩⟩
  rcases hm with rfl|rfl
  .exact⟨J,EB aa (hX aU.sub hr)⟩
  .exact⟨J,EB aa (hX J hr)⟩
 |_=>exact k.elim
def Cb {K : W.Frag} {P : ax -> ax -> Prop} {lo hi : Int} : mQ K P (n2 lo (hi - lo).toNat) (Den.ek lo hi) where
  go := fun i aJ H1 _ cg => by
    show i < (hi - lo).toNat
    unfold Den.ek at cg
    simpa using cg
  kJ := fun i aJ H1 x aW d _ ae hd ⟨e, y⟩ => by
    subst e
    unfold Den.ek at hd
    rw [U1] at hd
    cases q : (List.range (hi - lo).toNat)[i]? with
    | none => rw [q] at hd; cases hd
    | some k =>
      rw [q] at hd
      have aq : k = i := by
        have := U2.mp q
        obtain ⟨_, e⟩ := this
        rw [<- e]; simp
      subst aq
      cases hd
      exact ⟨aJ, Ext.refl ae, y⟩
  stop := fun aJ H1 _ => by
    show (hi - lo).toNat <= _
    unfold Den.ek
    simp
def yc{i j:Int}{Q:List D->Prop}{E:Nat->Prop}(h:dd (Den.iv i j) Q E):(-(2 ^ 62)<=i/\i<2 ^ 62/\-(2 ^ 62)<=j/\j<2 ^ 62)/\(Den.ek i j).length<=16777216/\Q (Den.ek i j):=by
 unfold Den.iv at h;cases q:(Den.nP i&&Den.nP j&&decide ((j-i).toNat<=1000000)) with
 |false=>rw[q]at h;exact h.elim
 |true =>
  rw[q]at h;simp only[UB,Den.nP,UU]at q;obtain⟨⟨⟨a1,a2⟩,a3,lR⟩,Tw⟩:=q;refine⟨⟨by omega,by omega,by omega,by omega⟩,?_,h⟩
  unfold Den.ek;rw[List.length_map,List.length_range];omega
def Qz{x:Str}(ah:x="range")(ba:dH X x)(hm:X.aF x=none)(az:aR X a (bk xp X ak .view bg))(cA:starEach [a] X.env=[(false,eval a X.env)]):
  gI X dv (.Call (.Name x p) [a] [] pos) (jT xp X ak m λC=>bg C>>=λd=>Den.gN d>>=λi=>Den.iv 0 i):=by
 subst ah;intro pins s σ H R I ⟨G,C,ae,hw⟩;refine OO ba hm (kv az cA) cA pins s σ H R I ?_;refine⟨G,C,ae,b3 (bB.mp hw) (λd k v aJ H1 aU aI=>?_) λ_ q=>q⟩
 have k:=bB.mp k;cases d with
 |int i =>
  obtain⟨⟨_,_,cY,er⟩,au,q⟩:=yc k;refine⟨i,by rw[cz.q6 aI],cY,er,?_⟩
  have:=q (n2 0 (i-0).toNat) aJ H1 aU Cb au;rw[Int.sub_zero]at this;exact this
 |_=>exact k.elim
def QA{x:Str}(ah:x="range")(ba:dH X x)(hm:X.aF x=none)(az:aR X a (bk xp X ak .view bg))(af:aR X b (bk xp X ak .view cZ))(cA:starEach [a,b] X.env=[(false,eval a X.env),(false,eval b X.env)])(xh:starEach [b] X.env=[(false,eval b X.env)]):
  gI X dv (.Call (.Name x p) [a,b] [] pos) (jT xp X ak m λC=>bg C>>=λd=>Den.gN d>>=λi=>cZ C>>=λe=>Den.gN e>>=λj=>Den.iv i j):=by
 subst ah;intro pins s σ H R I ⟨G,C,ae,hw⟩;refine OP ba hm (o9 az (kv af xh) (by rw[cA,xh])) cA xh pins s σ H R I ?_
 refine⟨G,C,ae,b3 (bB.mp hw) (λd k v aJ H1 aU aI=>?_) λ_ q=>q⟩
 have k:=bB.mp k;cases d with
 |int i =>
  refine⟨aJ,C,ae.ext aU,b3 (bB.mp k) (λe k2 v2 bJ aW bu a5=>?_) λ_ q=>q.mono aU.h⟩
  have k2:=bB.mp k2;cases e with
  |int j =>
   obtain⟨cY,au,q⟩:=yc k2;refine⟨i,j,by rw[cz.q6 aI,cz.q6 a5],cY,?_⟩
   exact q _ bJ aW (aU.trans bu) Cb au
  |_=>exact k2.elim
 |_=>exact k.elim
end
end bS
end
section
namespace bS
open PySem PySem.Spec PyProof.Rows bE
section
variable{xp:cj}{X:aV}{ak:List Nat}{m:ep}{f bg cZ:a0->br D}{l a b dv:Expr}{pos p:Pos}{pins:List (Addr×Obj)}{σ:bV}{G H:ax}{s:Shared}
def yj(ae:bM G H){d:D}{x:V}(bh:View X.K G H d x){Q:List D->Prop}{E:Nat->Prop}(h:dd (Den.dP d) Q E):∃ds a xs,x=.ref a/\(dW X.K H a xs\/fj X.K H a xs)/\bD X.K G ds xs/\Q ds:=by
 cases d with
 |tup ds =>
  obtain⟨a,ys,rfl,k,q⟩:=kH ae bh;exact⟨ds,a,ys,rfl,.inr k,q,h⟩
 |lst ds =>
  obtain⟨a,ys,rfl,k,q⟩:=kG bh;exact⟨ds,a,ys,rfl,.inl k,q,h⟩
 |_=>exact h.elim
end
end bS
end
section
namespace bS
open PySem PySem.Spec PyProof.Rows bE
section
variable{prog:Program}{w:World}{A:Around}{E:Value->Shared->Prop}{s:Shared}
def J7{t b1:Addr}{items:Array Value}{e1 e2:Value}{lo hi:Option Int}{Q:Value->Shared->Prop}(aS:IsTup s.heap t items)(ae:s.heap.IsSliceOf b1 e1 e2 .none)(cu:IsPart e1 lo)(pu:IsPart e2 hi)(hw:c6.bH items.size 0 lo=0/\c6.bH items.size items.size hi=items.size)(h:Q (.ref t) s):wpAny (model prog w) A (getItem (.ref t) (.ref b1)) Q E s:=by
 obtain⟨os,nj,hp,kg⟩:=id ae;have wL:s.TypeIs (.ref b1) "slice":=⟨os,nj,hp⟩;unfold getItem
 try with_reducible refine Vu ?_
 first|refine UA (wpAny_pure ?_)|skip
 refine UA (wpAny_sequenceKey aS.typeIs (by decide) ?_)
 refine UA (VY (name:=Str.ofString "__getitem__") aS.typeIs Vv
  (VG Vv aS.typeIs entry_tuple_getitem ?_ (args_tuple_getitem _ _)))
 show wpAny _ _ (Builtin.Tuple.tupleItemsOf (.ref t)>>=_) _ _ s;refine UA (PyProof.Rows.tupleItemsOf_ aS ?_);refine UA (Wr wL ?_);rw[if_pos (by decide)]
 refine UA (c6.Em ae cu pu ?_);have LM:(((c6.bH items.size 0 lo:Nat):Int)==0&&(1:Int)==1&&(c6.bH items.size items.size hi-c6.bH items.size 0 lo)==items.size)=true:=by
  rw[hw.1,hw.2];simp
 show wpAny _ _ (if (((c6.bH items.size 0 lo:Nat):Int)==0&&(1:Int)==1&&(c6.bH items.size items.size hi-c6.bH items.size 0 lo)==items.size)=true then _ else _) _ _ s;rw[if_pos LM];unfold Builtin.Tuple.tupleIsExact;refine UA (UA (Wr aS.typeIs (wpAny_pure ?_)));rw[if_pos (by decide)]
 refine UA (WU (wpAny_pure ⟨_,rfl,wpAny_pure h⟩))
end
section
variable{xp:cj}{X:aV}{ak:List Nat}{m:ep}{f bg cZ:a0->br D}{hk Ay:a0->br (Option Int)}{a b dv:Expr}{lo hi:Option Expr}{pos p bC:Pos}{pins:List (Addr×Obj)}{σ:bV}{G H:ax}{s:Shared}
def tQ(n d:Nat)(o:Option Int):Den.bH n d o=c6.bH n d o:=by
 cases o with
 |none=>rfl
 |some i =>
  simp only[Den.bH,c6.bH]
  by_cases h:i<0
  .rw[if_pos h,if_pos h];split<;>omega
  .rw[if_neg h,if_neg h];split<;>omega
def z0{K:W.Frag}{ds:List D}{xs:List V}(r:bD K G ds xs)(lo hi:Option Int):bD K G (Den.cut ds lo hi) (kU xs lo hi):=by
 unfold Den.cut kU;rw[tQ,tQ,r.length];exact(r.drop _).take _
noncomputable def pA(xp:cj)(X:aV)(ak:List Nat)(f:a0->br (Option Int)):kS:=λσ H Q =>
 ∃G C,ea X.K ak G H C σ/\dd (f C) (λo=>∀aP ao,Ext G H aP ao->Q o ao) (λc=>gK xp X c H)
def Qs:j1 X none (pA xp X ak λ_=>.ok none):=by
 intro pins s σ H Q I ⟨G,C,ae,hw⟩;exact OW pins s σ H Q I (hw G H (Ext.refl ae.sub))
def Qv(az:aR X a (bk xp X ak .view bg)):j1 X (some a) (pA xp X ak λC=>bg C>>=λx=>Den.gN x>>=λi=>.ok (some i)):=by
 intro pins s σ H Q I ⟨G,C,ae,hw⟩;refine OX az pins s σ H Q I ?_;refine⟨G,C,ae,b3 (bB.mp hw) (λd k v aJ H1 aU aI=>?_) λ_ q=>q⟩
 cases d with
 |int i=>exact⟨i,cz.q6 aI,k aJ H1 aU⟩
 |_=>exact k.elim
noncomputable def Pt(K:W.Frag):V->Option Int->Option Int->ax->c4->Prop:=λx lo hi H Q =>
 ∃G d,bM G H/\View K G H d x/\dd (Den.jR d lo hi) (λd'=>∀v aP ao,Ext G H aP ao->cz K H aP ao .fresh d' v->Q v ao) (λ_=>False)
def Q7:pW X (λx lo hi H Q=>∃a xs,x=.ref a/\fj X.K H a xs/\(c6.bH xs.length 0 lo=0/\c6.bH xs.length xs.length hi=xs.length)/\Q (.ref a) H):=by
 intro pins s σ H x v e1 e2 lo hi b1 Q I aY ae cu pu h;obtain⟨a,xs,rfl,ah,hw,q⟩:=h;cases aY;obtain⟨its,r,aS,au⟩:=I.tuple ah;have hlen:its.toArray.size=xs.length:=by rw[UT];exact r.length.symm
 refine⟨"tuple",_,Vv.lookup,aS.typeIs,?_⟩;exact J7 aS ae cu pu (by rw[hlen];exact hw) ⟨.ref a,H,I,rfl,q⟩
def Hy{ds:List D}{lo hi:Option Int}(h:c6.bH ds.length 0 lo=0/\c6.bH ds.length ds.length hi=ds.length):Den.cut ds lo hi=ds:=by
 unfold Den.cut;rw[tQ,tQ,h.1,h.2];simp
def Q6:pW X (Pt X.K):=by
 intro pins s σ H x v e1 e2 lo hi b1 Q I aY ae cu pu ⟨G,d,oM,bh,hw⟩;cases d with
 |tup ds =>
  obtain⟨a,xs,rfl,k,r⟩:=kH oM bh
  by_cases fC:c6.bH xs.length 0 lo=0/\c6.bH xs.length xs.length hi=xs.length
  .refine Q7 pins s σ H _ v e1 e2 lo hi b1 Q I aY ae cu pu ⟨a,xs,rfl,k,fC,?_⟩;rw[Den.tX,Hy (by rw[r.length];exact fC)]at hw
   exact hw _ G H (Ext.refl oM) bh
  .refine Ra pins s σ H _ v e1 e2 lo hi b1 Q I aY ae cu pu ⟨a,xs,rfl,k,fC,λp aC=>?_⟩
   rw[Den.tX]at hw;exact hw _ (upd G p (.tup (kU xs lo hi))) _ (Ext.put oM aC) ⟨p,_,rfl,eh,(z0 r lo hi).mono (gg (oM.free aC))⟩
 |lst ds =>
  obtain⟨a,xs,rfl,k,r⟩:=kG bh;refine Q8 pins s σ H _ v e1 e2 lo hi b1 Q I aY ae cu pu ⟨a,xs,rfl,k,λp aC=>?_⟩
  rw[Den.Eo]at hw;exact hw _ G _ (Ext.own oM aC) ⟨p,_,rfl,eh,aC,oM.free aC,z0 r lo hi⟩
 |_=>exact hw.elim
def Q9{d:D}{lo hi:Option Int}{c:Nat}:Den.jR d lo hi≠.exc c:=by cases d<;>simp[Den.jR]
def QC(az:aR X a (bk xp X ak .view bg))(aw:j1 X lo (pA xp X ak hk))(b5:j1 X hi (pA xp X ak Ay)):
  aR X (.Subscript a (.Slice lo hi none bC) pos) (bk xp X ak .fresh λC=>bg C>>=λx=>hk C>>=λl=>Ay C>>=λh=>Den.jR x l h):=by
 intro pins s σ H Q I ⟨G,C,ae,hw⟩;refine OE Q6 az aw b5 pins s σ H Q I ?_;refine⟨G,C,ae,b3 (bB.mp hw) (λa4 MH v aJ H1 aU aI=>?_) λ_ q=>q⟩
 refine⟨aJ,C,ae.ext aU,b3 (bB.mp MH) (λl k bJ aW bu=>?_) λ_ q=>q.mono aU.h⟩
 refine⟨bJ,C,(ae.ext aU).ext bu,b3 (bB.mp k) (λh k2 j0 b2 g0=>?_) λ_ q=>(q.mono aU.h).mono bu.h⟩
 refine⟨j0,a4,g0.sub,View.ext g0 (View.ext bu aI),?_⟩;exact b3 (mI k2 (λc=>Q9)) (λd q v4 FG iB Tg fe=>q v4 FG iB (((aU.trans bu).trans g0).trans Tg) (((fe.old g0.h).old bu.h).old aU.h)) λ_ q=>q
end
end bS
end
section
namespace bS
open PySem PySem.Spec PyProof.Rows bE
section
variable{prog:Program}{w:World}{A:Around}{E:Value->Shared->Prop}{s:Shared}
noncomputable def y8(prog:Program)(w:World)(A:Around)(ag:List Value)(s1:Shared)(Q:Value->Shared->Prop):Prop :=
 ∃(κ:SortKind)(lt:Nat->Nat->Bool),Tm.Ord lt/\(∀i j,i<ag.length->j<ag.length->ag.getD i Value.none=ag.getD j Value.none->∀k,lt i k=lt j k/\lt k i=lt k j)/\ag.length<128 /\
   (2<=ag.length->∀(h':Heap),(∀b o,s1.heap.get? b=some o->h'.get? b=some o)->∀iF:SortKind->Shared->Prop,iF κ { s1 with heap:=h' }->wpAny (model prog w) A (keyKind' ag.toArray) iF (λ_ _=>False) { s1 with heap:=h' }) /\
   (2<=ag.length->∀(h':Heap),(∀b o,s1.heap.get? b=some o->h'.get? b=some o)->∀(i j:Nat)(bU:Bool->Shared->Prop),i<ag.length->j<ag.length->bU (lt i j) { s1 with heap:=h' }->PySem.W.kas_ask prog w A κ ag i j bU { s1 with heap:=h' }) /\
   ∀p:List Nat,p.Perm (List.range ag.length)->p.Pairwise (λi j=>lt j i=false)->∀(h':Heap)(c:Nat),(∀b o,s1.heap.get? b=some o->h'.get? b=some o)->h'.get? s1.heap.objs.size=some (seqObj "list" (p.map λi=>ag.getD i Value.none).toArray c)->Q (.ref s1.heap.objs.size) { s1 with heap:=h' }
def tZ{src:Value}{Q:Value->Shared->Prop}(ai:wpAny (model prog w) A.in1 (collect src) (λag s1=>y8 prog w A.in1.in1 ag s1 Q) (λ_ _=>False) s):wpAny (model prog w) A (call (.builtin "sorted") [src]) Q E s:=by
 refine Calls.call_function_entry kind_sorted plain_sorted entry_sorted (args_sorted1 _) ?_;unfold Builtin.«sorted»;refine UA (m:=checkCount "sorted" 1 1 _) (wpAny_pure ?_);refine UA (VK ai (λag s1 ah=>?_) λ_ _ z=>z.elim)
 obtain⟨κ,lt,oD,aQ,Kd,aq,gS,aE⟩:=ah;refine UA (Yp ?_ (by rw[sizeLine_eq];omega))
 have sO:(s1.heap.push (seqObj "list" ag.toArray 0)).get? s1.heap.objs.size=some (seqObj "list" ag.toArray 0):=UQ _ rfl;have keep:∀{h':Heap},(∀b o,b≠s1.heap.objs.size->(s1.heap.push (seqObj "list" ag.toArray 0)).get? b=some o->h'.get? b=some o)->∀b o,s1.heap.get? b=some o->h'.get? b=some o:=λe7 b o q =>
  e7 b o (UZ (UK q)) (UD _ q)
 show wpAny _ _ _ _ _ { s1 with heap:=s1.heap.push (seqObj "list" ag.toArray 0) };refine UA (Vu (VG slot_list_sort ⟨_,sO,rfl⟩ entry_list_sort ?body (args_list_sort _)))
 case body =>
  refine Tm.M6 (s:={ s1 with heap:=s1.heap.push (seqObj "list" ag.toArray 0) }) (κ:=κ) (lt:=lt) oD aQ sO Kd (λaa h' k iF q=>?_) (λaa h' k=>gS aa h' (keep k)) λp bc bC h' c k ba=>?_
  .exact VK (aq aa h' (keep k) iF q) (λ_ _ z=>z) λ_ _ z=>z.elim
  .exact⟨_,rfl,wpAny_pure ⟨_,rfl,aE p bc bC h' c (keep k) ba⟩⟩
end
noncomputable abbrev en(c:List Int):D:=a9.ay c
def ints_of{ds:List D}(h:ds.all (Den.fa 0)=true):∃ns:List Int,ds=ns.map Den.D.int:=tg h
theorem ry:∀{ds:List D},ds.all Den.nC=true->∃ks:List (List Int),ds=ks.map en/\∀k∈ks,k≠[]
 |[],_=>⟨[],rfl,by simp⟩
 |d::ds,h=>by
  simp only[List.all_cons,UB]at h;obtain⟨ks,rfl,aq⟩:=ry h.2;cases d with
  |tup xs =>
   cases xs with
   |nil=>cases h.1
   |cons x xs =>
    have J:(Den.fa 0 x&&xs.all (Den.fa 0))=true:=h.1;have J:(x::xs).all (Den.fa 0)=true:=J;obtain⟨ns,e⟩:=tg J;refine⟨ns::ks,by rw[e];rfl,λk e7=>?_⟩
    rcases UI.mp e7 with rfl|e7
    .rintro rfl;cases e
    .exact aq k e7
  |_=>cases h.1
section
variable{X:aV}{pins:List (Addr×Obj)}{σ:bV}{G H:ax}{s:Shared}
theorem E2(I:Inv X pins σ H s)(ae:bM G H):∀{ks:List (List Int)}{xs:List V}{us:List Value},(∀k∈ks,k≠[])->bD X.K G (ks.map en) xs->Vals xs us->gH.iH s.heap us ks
 |[],_,_,_,r,v=>by cases r;cases v;exact trivial
 |k::ks,_,_,aD,⟨x,t,e,aI,a5⟩,v=>by
  subst e;cases v with
  |cons v1 v2 =>
   obtain⟨a,ys,rfl,h,q⟩:=aI;cases v1;obtain⟨its,bG,⟨o,ar,ai,n,hd⟩,_⟩:=I.tuple (hX ae h);rw[jP q]at bG;exact⟨⟨a,o,its.toArray,n,rfl,ar,ai,hd,by simpa using intsAre_of bG,aD k List.mem_cons_self⟩,E2 I ae (λz au=>aD z (List.mem_cons_of_mem _ au)) a5 v2⟩
theorem DG{K:W.Frag}{ds:List D}{xs:List V}{us:List Value}(r:bD K G ds xs)(v:Vals xs us):∀{p:List Nat},(∀i∈p,i<ds.length) ->
  ∃ys,bD K G (p.map λi=>ds.getD i .cU) ys/\Vals ys (p.map λi=>us.getD i Value.none)
 |[],_=>⟨[],rfl,.nil⟩
 |i::p,h=>by
  obtain⟨ys,J,aa⟩:=DG r v (p:=p) λj aH=>h j (List.mem_cons_of_mem _ aH)
  have hi:=h i List.mem_cons_self;have e:ds[i]?=some (ds.getD i .cU):=by rw[UJ hi];simp[List.getD,UJ hi]
  obtain⟨y,k1,k2⟩:=r.get e;obtain⟨u,bl,b0⟩:=v.get k1;have av:us.getD i Value.none=u:=by simp[List.getD,bl]
  exact⟨y::ys,⟨y,ys,rfl,k2,J⟩,by rw[List.map_cons,av];exact .cons b0 aa⟩
def DI{K:W.Frag}{κ:Type}{f:κ->D}{lt:κ->κ->Bool}(L:a9.gm lt)(hf:∀a b,Den.mr (f a) (f b)=some (lt a b))(z:κ){ks:List κ}{xs:List V}{us:List Value}(r:bD K G (ks.map f) xs)(v:Vals xs us){p:List Nat}(J:p.Perm (List.range us.length))(aa:p.Pairwise (λi j=>gH.ltI lt z ks j i=false)):
  ∃ys,bD K G (Den.gh (ks.map f)) ys/\Vals ys (p.map λi=>us.getD i Value.none):=by
 have aw:us.length=ks.length:=by rw[<- v.length,<- r.length,List.length_map]
 rw[aw]at J;rw[a9.jb hf,<- gH.Rk L z ks J aa,List.map_map];obtain⟨ys,k1,k2⟩:=DG r v (p:=p) λi hi=>by
  have:=J.mem_iff.mp hi;rw[List.length_map];simpa using this
 refine⟨ys,?_,k2⟩;have e:(p.map λi=>(ks.map f).getD i .cU)=p.map (f ∘ λi=>ks.getD i z):=by
  apply VH;intro i hi;have hi:i<ks.length:=by simpa using J.mem_iff.mp hi
  simp[List.getD,U1,UJ hi]
 rw[<- e];exact k1
def tY{Q:c4}{ds:List D}{xs:List V}{us:List Value}(b5:X.A.handled=none)(I:Inv X pins σ H s)(ae:bM G H)(r:bD X.K G ds xs)(v:Vals xs us)(hN:Den.gW ds=true)(fR:ds.length<=75)(k:∀v aP ao,Ext G H aP ao->cz X.K H aP ao .fresh (.lst (Den.gh ds)) v->Q v ao):y8 X.prog X.w X.A.in1.in1 us s (ei X pins σ Q):=by
 have hlen:us.length=ds.length:=by rw[<- v.length,<- r.length]
 have fin:∀{out:List Value}{ys:List V}(h':Heap)(c:Nat),bD X.K G (Den.gh ds) ys->Vals ys out->out.length=us.length->(∀b o,s.heap.get? b=some o->h'.get? b=some o)->h'.get? s.heap.objs.size=some (seqObj "list" out.toArray c)->ei X pins σ Q (.ref s.heap.objs.size) { s with heap:=h' }:=λ{out ys} h' c gf Fm ar aq ba=>by
  refine⟨.ref s.heap.objs.size,_,I.laid (t':=s.toks) (o:=.lst ys) aq (UE _) ⟨by rw[Fm.length,ar,hlen,sizeLine_eq];omega,out,c,Fm,ba⟩,rfl,?_⟩
  exact k _ G _ (Ext.own ae I.fresh) ⟨_,ys,rfl,eh,I.fresh,ae.free I.fresh,gf⟩
 have Cu:∀{p:List Nat},p.Perm (List.range us.length)->(p.map λi=>us.getD i Value.none).length=us.length:=λh=>by rw[List.length_map,h.length_eq,List.length_range]
 unfold Den.gW at hN;rw[Wg]at hN;rcases hN with h|h
 .obtain⟨ns,rfl⟩:=ints_of h;have dA:IntsAre us ns:=by rw[jP r]at v;exact intsAre_of v
  refine⟨oneType',gH.ltI a9.ltI 0 ns,gH.C4 a9.jL 0 ns,gH.CZ (gH.Mx dA),by omega,λaa h' _ iF q=>gH.MD dA aa q,λaa h' _ i j bU hi aH q=>gH.Gq dA i j bU hi aH q,λp bc bC h' c aq ba=>?_⟩
  obtain⟨ys,k1,k2⟩:=DI a9.jL (f:=Den.D.int) (λ_ _=>rfl) 0 r v bc bC
  exact fin h' c k1 k2 (Cu bc) aq ba
 .obtain⟨ks,rfl,dg⟩:=ry h;have cF:=E2 I ae dg r v;refine⟨tuples' true,gH.ltI a9.lexLt [] ks,gH.C4 a9.gc [] ks,gH.CZ (gH.MC cF),by omega,λaa h' k iF q=>gH.ME (s:={ s with heap:=h' }) (cF.kept k) aa q,λaa h' k i j bU hi aH q=>gH.Gr (s:={ s with heap:=h' }) (cF.kept k) i j bU hi aH q,λp bc bC h' c aq ba=>?_⟩
  obtain⟨ys,k1,k2⟩:=DI a9.gc (f:=en) (λa b=>a9.mu a b) [] r v bc bC
  exact fin h' c k1 k2 (Cu bc) aq ba
end
section
variable{xp:cj}{X:aV}{ak:List Nat}{m:ep}{f:a0->br D}{e:Expr}{pos pos' p eZ:Pos}
def Fu{ds:List D}{Q:D->Prop}{E:Nat->Prop}(h:dd (Den.sorted ds) Q E):Den.gW ds=true/\ds.length<=75/\Q (.lst (Den.gh ds)):=by
 unfold Den.sorted at h;cases q:(Den.gW ds&&decide (ds.length<=75)) with
 |false=>rw[q]at h;exact h.elim
 |true =>
  rw[q]at h;simp only[UB,UU]at q;exact⟨q.1,q.2,h⟩
def Jz(ai:X.calm=true):g6 X (.builtin "sorted") (nO X.K .fresh λd=>Den.dP d>>=λxs=>Den.sorted xs):=by
 intro pins s σ H xs us Q I r ⟨G,x,d,ex,ae,bh,hw⟩;subst ex;obtain⟨u,rfl,aY⟩:=vals1 r;obtain⟨ds,a,ys,rfl,aE,rs,hw⟩:=yj ae bh (bB.mp hw);obtain⟨hN,fR,hw⟩:=Fu hw;have b5:X.A.handled=none:=I.ok.hd ai;cases aY;rcases aE with aE|aE
 .obtain⟨its,bG,cu,au⟩:=I.list aE;refine tZ (collect_list cu.isList ?_ (by rw[<- bG.length];exact au))
  have a7:Inv X pins σ H { s with heap:=(s.heap.push (seqObj "list" #[] 0)).update s.heap.objs.size (Obj.mapSeq (·++its.toArray)) }:=I.kept (t':=s.toks) λb o q=>(VN _ _ (V3 (UZ (UK q)))).trans (UD _ q)
  exact tY b5 a7 ae rs bG hN fR hw
 .obtain⟨its,bG,cu,au⟩:=I.tuple aE;refine tZ (Pv.Hq (show s.heap.IsTuple a its.toArray from cu) ?_ (by rw[<- bG.length];exact au))
  have a7:Inv X pins σ H { s with heap:=(s.heap.push (seqObj "list" #[] 0)).update s.heap.objs.size (Obj.mapSeq (·++its.toArray)) }:=I.kept (t':=s.toks) λb o q=>(VN _ _ (V3 (UZ (UK q)))).trans (UD _ q)
  exact tY b5 a7 ae rs bG hN fR hw
end
end bS
end
section
namespace bS
open PySem PySem.Spec PyProof.Rows bE
structure dT(K:W.Frag)(ak:List Nat)(cN bR G H:ax)(C:a0)(σ:bV):Prop where
 bO:ea K ak G H C σ
 ext:Ext cN bR G H
 own:∀(i:Nat)(d:D)(a:Addr),C[i]?=some (some d)->gy d=true->i∈ak->σ[i]?=some (some (V.ref a))->bR a=none
noncomputable def sh(K:W.Frag)(ak:List Nat)(cN bR:ax)(T:Ends):Den.fh->Prop
 |.cV C=>∀σ G H,dT K ak cN bR G H C σ->T.cV σ H
 |.ec d=>∀v G H,Ext cN bR G H->Rep K G d v->T.ec v H
noncomputable def ew(xp:cj)(X:aV)(ak:List Nat)(f:a0->br Den.fh):gL:=λT σ H =>
 ∃cN bR G C,dT X.K ak cN bR G H C σ/\dd (f C) (sh X.K ak cN bR T) (λc=>gK xp X c bR)
def es{α:Type}{l:List α}{i j:Nat}{a:α}(h:i≠j):(l.set i a)[j]?=l[j]?:=Xr h
def get_eq{α:Type}{l:List α}{i:Nat}{a b:α}(h:(l.set i a)[i]?=some b):i<l.length/\b=a:=by
 rw[List.getElem?_set_self']at h;cases q:l[i]? with
 |none=>rw[q]at h;cases h
 |some c=>rw[q]at h;exact⟨(U2.mp q).1,(Vs h).symm⟩
def yk{α:Type}{l:List α}{i:Nat}{a:α}(h:i<l.length):(l.set i a)[i]?=some a:=by simp[h]
section
variable{K:W.Frag}{ak:List Nat}{cN bR G H aP ao:ax}{C:a0}{σ:bV}{i:Nat}{d:D}{v:V}
def ea.rn(h:ea K ak G H C σ)(hm:i∉ak)(r:Rep K G d v):ea K ak G H (C.set i (some d)) (σ.set i (some v)) where
 len:=by rw[Wq,Wq];exact h.len
 sub:=h.sub
 val:=λj e q aH=>by
  by_cases c:i=j
  .subst c;obtain⟨J,aa⟩:=get_eq q;cases aa;exact⟨v,yk (by rw[<- h.len];exact J),r⟩
  .rw[es c]at q ⊢;exact h.val j e q aH
 own:=λj e q aH aw=>by
  have c:i≠j:=λz=>hm (z▸aH)
  rw[es c]at q ⊢;exact h.own j e q aH aw
 lst:=λj e q aH aw=>by
  have c:i≠j:=λz=>hm (z▸aH)
  rw[es c]at q;obtain⟨a,o,J,aa⟩:=h.lst j e q aH aw;exact⟨a,o,by rw[es c];exact J,aa⟩
 d4:=h.d4
 apart:=λj k d e a b aK a6 cp dE aH aq ne aj av=>by
  have c:i≠j:=λz=>hm (z▸aH)
  have cO:i≠k:=λz=>hm (z▸aq)
  rw[es c]at aK aj;rw[es cO]at a6 av;exact h.apart j k d e a b aK a6 cp dE aH aq ne aj av
def ea.set_own(h:ea K ak G H C σ)(hm:i∈ak)(aw:gy d=false)(r:Rep K G d v):ea K ak G H (C.set i (some d)) (σ.set i (some v)) where
 len:=by rw[Wq,Wq];exact h.len
 sub:=h.sub
 val:=λj e q aH=>by
  have c:i≠j:=λz=>aH (z▸hm)
  rw[es c]at q ⊢;exact h.val j e q aH
 own:=λj e q aH hle=>by
  by_cases c:i=j
  .subst c;obtain⟨J,aa⟩:=get_eq q;cases aa;exact⟨v,yk (by rw[<- h.len];exact J),r⟩
  .rw[es c]at q ⊢;exact h.own j e q aH hle
 lst:=λj e q aH hle=>by
  by_cases c:i=j
  .subst c;obtain⟨J,aa⟩:=get_eq q;cases aa;rw[aw]at hle;cases hle
  .rw[es c]at q;obtain⟨a,o,J,aa⟩:=h.lst j e q aH hle;exact⟨a,o,by rw[es c];exact J,aa⟩
 d4:=h.d4
 apart:=λj k d e a b aK a6 cp dE aH aq ne aj av=>by
  have c:i≠j:=λz=>by subst z;obtain⟨J,aa⟩:=get_eq aK;cases aa;rw[aw]at cp;cases cp
  have cO:i≠k:=λz=>by subst z;obtain⟨J,aa⟩:=get_eq a6;cases aa;rw[aw]at dE;cases dE
  rw[es c]at aK aj;rw[es cO]at a6 av;exact h.apart j k d e a b aK a6 cp dE aH aq ne aj av
def ea.Q0 {a : Addr} {o : d8} {d : D} (h : ea K ak G H C σ) (hm : i ∈ ak) (e6 : gy d = true) (f5 : H a = some o) (oC : G a = none) (r : kP K G d o)
    (aD : ∀ (j : Nat) (e : D), j ≠ i -> j ∈ ak -> gy e = true -> C[j]? = some (some e) -> σ[j]? ≠ some (some (V.ref a))) : ea K ak G H (C.set i (some d)) (σ.set i (some (.ref a))) where
  len := by rw [Wq, Wq]; exact h.len
  sub := h.sub
  val := fun j e q aH => by
    have c : i ≠ j := fun z => aH (z ▸ hm)
    rw [es c] at q ⊢; exact h.val j e q aH
  own := fun j e q aH hle => by
    by_cases c : i = j
    · subst c
      obtain ⟨J, aa⟩ := get_eq q
      cases aa
      rw [e6] at hle; cases hle
    · rw [es c] at q ⊢; exact h.own j e q aH hle
  lst := fun j e q aH hle => by
    by_cases c : i = j
    · subst c
      obtain ⟨J, aa⟩ := get_eq q
      cases aa
      exact ⟨a, o, yk (by rw [<- h.len]; exact J), f5, oC, r⟩
    · rw [es c] at q
      obtain ⟨b, bN, J, aa⟩ := h.lst j e q aH hle
      exact ⟨b, bN, by rw [es c]; exact J, aa⟩
  d4 := h.d4
  apart := fun j k e f b h6 aK a6 cp dE aH aq ne aj av => by
    by_cases c : i = j
    · subst c
      have cO : i ≠ k := ne
      obtain ⟨J, aa⟩ := get_eq aj
      cases aa
      rw [es cO] at a6 av
      intro z
      exact aD k f (V3 cO) aq dE a6 (by rw [z]; exact av)
    · by_cases cO : i = k
      · subst cO
        obtain ⟨J, aa⟩ := get_eq av
        cases aa
        rw [es c] at aK aj
        intro z
        exact aD j e (V3 c) aH cp aK (by rw [<- z]; exact aj)
      · rw [es c] at aK aj
        rw [es cO] at a6 av
        exact h.apart j k e f b h6 aK a6 cp dE aH aq ne aj av
def kP.nt{o:d8}:∀{d:D},kP K G d o->∀xs,o≠.tup xs
 |.lst _,⟨_,e,_⟩,_,z=>by rw[e]at z;cases z
 |.c2 _,e,_,z=>by rw[show o=_ from e]at z;cases z
def dT.step(h:dT K ak cN bR G H C σ)(x:Ext G H aP ao):dT K ak cN bR aP ao C σ:=⟨h.bO.ext x,h.ext.trans x,h.own⟩
theorem dT.rn(h:dT K ak cN bR G H C σ)(hm:i∉ak)(r:Rep K G d v):dT K ak cN bR G H (C.set i (some d)) (σ.set i (some v)) :=
 ⟨h.bO.rn hm r,h.ext,λj e a q e6 aH z=>by
  have c:i≠j:=λz=>hm (z▸aH)
  rw[es c]at q z;exact h.own j e a q e6 aH z⟩
def dT.tT{a:Addr}{o:d8}(h:dT K ak cN bR G H C σ)(x:Ext G H aP ao)(hm:i∈ak)(e6:gy d=true)(J:ao a=some o)(aa:H a=none)(aL:aP a=none)(r:kP K aP d o):dT K ak cN bR aP ao (C.set i (some d)) (σ.set i (some (.ref a))):=by
 have h':=h.step x;refine⟨h'.bO.Q0 hm e6 J aL r λj e aH oI he q z=>?_,h'.ext,λj e b q he aH z=>?_⟩
 .obtain⟨b,bN,k1,k2,bl,b0⟩:=h.bO.lst j e q oI he;rw[k1]at z;cases z;rw[aa]at k2;cases k2
 .by_cases c:i=j
  .subst c;obtain⟨_,w⟩:=get_eq z;cases w;exact h.ext.h.free aa
  .rw[es c]at q z;exact h.own j e b q he aH z
def dT.D8(h:dT K ak cN bR G H C σ)(x:Ext G H aP ao)(hm:i∈ak)(r:cz K H aP ao .fresh d v):dT K ak cN bR aP ao (C.set i (some d)) (σ.set i (some v)):=by
 have go:gy d=false->Rep K aP d v->dT K ak cN bR aP ao (C.set i (some d)) (σ.set i (some v)):=λe6 r=>by
  refine⟨(h.step x).bO.set_own hm e6 r,(h.step x).ext,λj e b q he aH z=>?_⟩
  by_cases c:i=j
  .subst c;obtain⟨_,w⟩:=get_eq q;cases w;rw[e6]at he;cases he
  .rw[es c]at q z;exact h.own j e b q he aH z
 cases d with
 |lst ds =>
  obtain⟨a,xs,rfl,J,aa,aL,a8⟩:=r;exact h.tT x hm rfl J aa aL ⟨xs,rfl,a8⟩
 |c2 aB=>exact r.elim
 |_=>exact go rfl r
def dT.write {a : Addr} {bN : d8} {d e : D} (h : dT K ak cN bR G H C σ) (hm : i ∈ ak) (q : C[i]? = some (some d)) (hd : gy d = true) (he : gy e = true) (z : σ[i]? = some (some (V.ref a))) (oC : G a = none) (r : kP K G e bN) :
    dT K ak cN bR G (upd H a bN) (C.set i (some e)) σ := by
  have h0 : bR a = none := h.own i d a q hd hm z
  have hi : i < C.length := (U2.mp q).1
  have other : ∀ (j : Nat) (f : D), j ≠ i -> j ∈ ak -> gy f = true -> C[j]? = some (some f) -> σ[j]? ≠ some (some (V.ref a)) := fun j f aH oI hf Pn ju => h.bO.apart j i f d a a Pn q hf hd oI hm aH ju z rfl
  have EH : bM G (upd H a bN) := fun b o z => by
    have : b ≠ a := fun w => by rw [w, oC] at z; cases z
    rw [dc this]; exact h.bO.sub b o z
  have Eu : ea K ak G (upd H a bN) (C.set i (some e)) σ := by
    refine ⟨by rw [Wq]; exact h.bO.len, EH, fun j f cL aH => ?_, fun j f cL aH aw => ?_, fun j f cL aH aw => ?_, fun b xs w => ?_, fun j k f g b h6 aK a6 cp dE aH aq ne aj av => ?_⟩
    · have c : i ≠ j := fun z => aH (z ▸ hm)
      rw [es c] at cL; exact h.bO.val j f cL aH
    · by_cases c : i = j
      · subst c
        obtain ⟨_, w⟩ := get_eq cL
        cases w
        rw [he] at aw; cases aw
      · rw [es c] at cL; exact h.bO.own j f cL aH aw
    · by_cases c : i = j
      · subst c
        obtain ⟨_, w⟩ := get_eq cL
        cases w
        exact ⟨a, bN, z, eh, oC, r⟩
      · rw [es c] at cL
        obtain ⟨b, bx, k1, k2, bl, b0⟩ := h.bO.lst j f cL aH aw
        have : b ≠ a := fun w => other j f (V3 c) aH aw cL (by rw [k1, w])
        exact ⟨b, bx, k1, by rw [dc this]; exact k2, bl, b0⟩
    · by_cases c : b = a
      · subst c; rw [eh] at w; cases w; exact absurd rfl (r.nt xs)
      · rw [dc c] at w; exact h.bO.d4 b xs w
    · have full : ∀ (k : Nat) (g : D), gy g = true -> (C.set i (some e))[k]? = some (some g) -> ∃ g', gy g' = true /\ C[k]? = some (some g') := fun k g ba z => by
        by_cases c : i = k
        · subst c; exact ⟨d, hd, q⟩
        · rw [es c] at z; exact ⟨g, ba, z⟩
      obtain ⟨j9, ht, tK⟩ := full j f cp aK
      obtain ⟨g', jN, kx⟩ := full k g dE a6
      exact h.bO.apart j k j9 g' b h6 tK kx ht jN aH aq ne aj av
  refine ⟨Eu, ⟨h.ext.g, fun b o z => ?_, EH, h.ext.new, fun b xs w => .inr (Eu.d4 b xs w)⟩, fun j f b cL hf aH ju => ?_⟩
  · have : b ≠ a := fun w => by rw [w, h0] at z; cases z
    rw [dc this]; exact h.ext.h b o z
  · by_cases c : i = j
    · subst c; rw [z] at ju; cases ju; exact h0
    · rw [es c] at cL; exact h.own j f b cL hf aH ju
end
section
variable{xp:cj}{X:aV}{ak:List Nat}{m:ep}{f bg cZ cT:a0->br D}{g g1 g2:a0->br Den.fh}{a b c e dv:Expr}{ab:List Expr}{pos bc bC d2 i4:Pos}{st:Stmt}{rp dO cv:List Stmt}{i:Nat}{x:Str}
def DV(hm:i∉ak)(bj:X.N.Nodup)(hi:X.N[i]?=some x)(ah:Loc X.env.scope x)(he:aR X e (bk xp X ak .val f))(ae:swapsWith e (some (.Name x bc)) pos.line X.env=pure false)(hf:X.fn x=true\/X.env.scope.names.lookup x=some .local):
  eU X (.Assign [.Name x bc] e pos) (ew xp X ak λC=>f C>>=λd=>.ok (.cV (C.set i (some d)))):=by
 intro pins s σ H T I ⟨cN,bR,G,C,af,hw⟩;refine x2 bj hi ah he ae hf pins s σ H T I ?_;refine⟨G,C,af.bO,b3 (bB.mp hw) (λd k v aJ H1 aU aI=>?_) λ_ q=>q.mono af.ext.h⟩
 exact k _ aJ H1 ((af.step aU).rn hm aI)
def DW(hm:i∈ak)(bj:X.N.Nodup)(hi:X.N[i]?=some x)(ah:Loc X.env.scope x)(he:aR X e (bk xp X ak .fresh f))(ae:swapsWith e (some (.Name x bc)) pos.line X.env=pure false)(hf:X.fn x=true\/X.env.scope.names.lookup x=some .local):
  eU X (.Assign [.Name x bc] e pos) (ew xp X ak λC=>f C>>=λd=>.ok (.cV (C.set i (some d)))):=by
 intro pins s σ H T I ⟨cN,bR,G,C,af,hw⟩;refine x2 bj hi ah he ae hf pins s σ H T I ?_;refine⟨G,C,af.bO,b3 (bB.mp hw) (λd k v aJ H1 aU aI=>?_) λ_ q=>q.mono af.ext.h⟩
 exact k _ aJ H1 (af.D8 aU hm aI)
def Qx(he:aR X e (bk xp X ak .val f)):eU X (.Return (some e) pos) (ew xp X ak λC=>f C>>=λd=>.ok (.ec d)):=by
 intro pins s σ H T I ⟨cN,bR,G,C,af,hw⟩;refine Du he pins s σ H T I ?_;refine⟨G,C,af.bO,b3 (bB.mp hw) (λd k v aJ H1 aU aI=>?_) λ_ q=>q.mono af.ext.h⟩
 exact k v aJ H1 (af.ext.trans aU) aI
def Qy(hm:i∈ak)(bj:X.N[i]?=some x)(aQ:hE X.env.scope x)(J:(x==("__debug__":Str))=false)(aa:(x==("__classdict__":Str))=false):
  eU X (.Return (some (.Name x bc)) pos) (ew xp X ak λC=>Den.te C[i]?>>=λd=>.ok (.ec d)):=by
 intro pins s σ H T I ⟨cN,bR,G,C,af,hw⟩;refine Du (i5 bj aQ J aa) pins s σ H T I ?_;dsimp only at hw;have key:∀ds,C[i]?=some (some (.lst ds))->sh X.K ak cN bR T (.ec (.lst ds))->yC i σ H T.ec:=λds q hw=>by
  obtain⟨a,o,k1,k2,bl,xs,rfl,b0⟩:=af.bO.lst i (.lst ds) q hm rfl;refine⟨_,k1,?_⟩;have h0:bR a=none:=af.own i (.lst ds) a q rfl hm k1;refine hw _ (upd G a (.lst xs)) H ⟨af.ext.g.trans (gg bl),af.ext.h,λb o z=>?_,λb c3 c1=>?_,λb xs z=>.inr (gg bl _ _ (af.bO.d4 b xs z))⟩ ⟨a,xs,rfl,.inl (.inl eh),b0.mono (gg bl)⟩
  .by_cases c:b=a
   .subst c;rw[eh]at z;rw[k2];exact z
   .rw[dc c]at z;exact af.bO.sub b o z
  .have:b≠a:=λw=>c1 (by rw[w];exact h0)
   rw[dc this];exact af.ext.new b c3 c1
 cases q:C[i]? with
 |none=>rw[q]at hw;exact hw.elim
 |some o =>
  cases o with
  |none=>rw[q]at hw;exact hw.elim
  |some d =>
   rw[q]at hw;cases d with
   |lst ds=>exact key ds q hw
   |_=>exact hw.elim
noncomputable def QU(g1 g2:a0->br Den.fh):a0->br Den.fh:=λC=>g1 C>>=λr=>match r with
 |.cV dj=>g2 dj
 |.ec d=>.ok (.ec d)
def QD:gJ X [] (ew xp X ak λC=>.ok (.cV C)):=by
 intro pins s σ H T I ⟨cN,bR,G,C,af,hw⟩;exact O9 pins s σ H T I (hw σ G H af)
def QB(J:eU X st (ew xp X ak g1))(aa:gJ X rp (ew xp X ak g2)):gJ X (st::rp) (ew xp X ak (QU g1 g2)):=by
 intro pins s σ H T I ⟨cN,bR,G,C,af,hw⟩;refine O8 J aa pins s σ H T I ?_;refine⟨cN,bR,G,C,af,b3 (bB.mp hw) (λr k=>?_) λ_ q=>q⟩
 cases r with
 |cV dj=>exact λdy aP ao ke=>⟨cN,bR,aP,dj,ke,k⟩
 |ec d=>exact k
def Ql(ai:dV X c (gB xp X ak cT))(az:gJ X dO (ew xp X ak g1))(af:gJ X cv (ew xp X ak g2)):eU X (.If c dO cv pos) (ew xp X ak λC=>cT C>>=λx=>Den.fW x>>=λk=>if k then g1 C else g2 C):=by
 intro pins s σ H T I ⟨cN,bR,G,C,iO,hw⟩;refine O7 ai az af pins s σ H T I ?_;refine⟨G,C,iO.bO,?_⟩;refine bB.mpr (b3 (bB.mp hw) (λd k=>b3 (bB.mp k) (λcB q aJ H1 aU=>?_) λ_ q=>q.mono iO.ext.h) λ_ q=>q.mono iO.ext.h)
 cases cB with
 |true=>simp only[Vn]at q ⊢;exact⟨cN,bR,aJ,C,iO.step aU,q⟩
 |false=>simp only[UC,UX]at q ⊢;exact⟨cN,bR,aJ,C,iO.step aU,q⟩
end
end bS
end
section
namespace bS
open PySem PySem.Spec PyProof.Rows bE
theorem oR{prog:Program}{w:World}:∀{ag:List Value}{k:List Int},IntsAre ag k->ItemsAre (intKind prog w) k ag
 |_,_,.nil=>.nil
 |_,_,.cons n t r=>.cons (Pv.qM prog w n t) (oR r)
theorem u3{prog:Program}{w:World}:∀{k:List Int}{ag:List Value},ItemsAre (intKind prog w) k ag->IntsAre ag k
 |_,_,.nil=>.nil
 |_,_,.cons h r=>by
  obtain⟨t,rfl⟩:=XM h;exact .cons _ t (u3 r)
theorem xr:∀{ag:List Value}{a b:List Int},IntsAre ag a->IntsAre ag b->a=b
 |_,_,_,.nil,.nil=>rfl
 |_,_,_,.cons n t r,.cons _ _ q=>by rw[xr r q]
def tj{κ:Type}[DecidableEq κ](ks:List κ){i:Nat}(h:i<=ks.length):(Pv.met ks i).length<=(a9.cE ks).length :=
 a9.hT (Pv.qX ks i) λz au=>(a9.hu z ks).mpr (Xu ((Pv.o3 ks i h z).mp au))
def Ea{κ:Type}[DecidableEq κ]{lt:κ->κ->Bool}(L:a9.gm lt){b9 r bp:List κ}(J:b9.Perm r)(aa:r.Perm (Pv.met bp bp.length)):a9.cy lt b9=a9.cy lt (a9.cE bp):=by
 have h:=J.trans aa;have dU:b9.Nodup:=h.nodup_iff.mpr (Pv.qX bp _);refine a9.j3 L (a9.j5 L dU) (a9.j5 L (a9.kr bp)) λz=>?_
 rw[a9.ip,a9.ip,a9.hu,h.mem_iff,Pv.o3 bp _ (UE _),X8]
def D9{κ:Type}[DecidableEq κ]{b9 r bp:List κ}(J:b9.Perm r)(aa:r.Perm (Pv.met bp bp.length)):b9.length<=(a9.cE bp).length:=by
 rw[(J.trans aa).length_eq];exact tj bp (UE _)
def Cc{P:Nat->Value->Prop}{acc:Array Value}{l:List Value}(h:ItemsOf P acc l.length)(dK:∀i v,P i v->l[i]?=some v):acc.toList=l:=by
 obtain⟨J,aa⟩:=h;apply Xc;intro i
 by_cases hi:i<l.length
 .have fs:i<acc.size:=by omega
  have e:acc[i]?=some acc[i]:=UL fs;have:=dK i _ (aa i _ e);rw[this];simpa using e
 .rw[Vw (by simp;omega),Vw (by omega)]
section
variable{X:aV}{pins:List (Addr×Obj)}{σ:bV}{G H:ax}{s:Shared}
noncomputable def lJ(K:W.Frag)(G:ax)(v:Value):Prop:=∃b k,v=.ref b/\Rep K G (en k) (V.ref b)
theorem ye(I:Inv X pins σ H s)(ae:bM G H):∀{ks:List (List Int)}{xs:List V}{us:List Value},bD X.K G (ks.map en) xs->Vals xs us->Paired ((Pv.xA (lJ X.K G) X.prog X.w).Row s.heap) us ks
 |[],_,_,r,v=>by cases r;cases v;exact .nil
 |k::ks,_,_,⟨x,t,e,aI,a5⟩,v=>by
  subst e;cases v with
  |cons v1 v2 =>
   obtain⟨a,ys,rfl,h,q⟩:=id aI;cases v1;obtain⟨its,bG,⟨o,ar,ai,n,hd⟩,_⟩:=I.tuple (hX ae h);rw[jP q]at bG;exact .cons ⟨a,rfl,⟨o,its.toArray,n,ar,ai,hd,oR (by simpa using intsAre_of bG)⟩,a,k,rfl,aI⟩ (ye I ae a5 v2)
theorem DO:∀{ns:List Int}{us:List Value},IntsAre us ns->Paired (λv (k:Int)=>∃t,v=Value.int k t) us ns
 |_,_,.nil=>.nil
 |_,_,.cons n t r=>.cons ⟨t,rfl⟩ (DO r)
theorem yl(I:Inv X pins σ H s)(ae:bM G H):∀{ab:List (Int×Value)}{ks:List (List Int)},Paired (λe k=>Pv.fI X.prog X.w s.heap e k/\lJ X.K G e.2) ab ks->∃xs,bD X.K G (ks.map en) xs/\Vals xs (ab.map (·.2))
 |_,_,.nil=>⟨[],rfl,.nil⟩
 |e::ab,k::ks,.cons ⟨⟨b,aj,_,o,items,n,ar,ai,hd,aq⟩,h6,cB,av,r⟩ t=>by
  obtain⟨xs,aI,a5⟩:=yl I ae t;rw[aj]at av;injection av with av;subst av;have qC:cB=k:=by
   obtain⟨a,ys,dX,h,q⟩:=id r;cases dX;obtain⟨its,bG,⟨bN,dh,_,cG,f7⟩,_⟩:=I.tuple (hX ae h);rw[ar]at dh;cases dh;rw[hd]at f7;injection f7 with cp _;rw[jP q]at bG;have J:=intsAre_of bG;have aa:=u3 aq;rw[cp]at aa;exact xr (by simpa using J) (by simpa using aa)
  subst qC;exact⟨V.ref b::xs,⟨_,_,rfl,r,aI⟩,by rw[List.map_cons,aj];exact .cons rfl a5⟩
theorem Eb{K:W.Frag}:∀{ab:List (Int×Value)}{ks:List Int},Paired Pv.kL ab ks->∃xs,bD K G (ks.map Den.D.int) xs/\Vals xs (ab.map (·.2))
 |_,_,.nil=>⟨[],rfl,.nil⟩
 |e::ab,k::ks,.cons ⟨_,t,aj⟩ hz=>by
  obtain⟨xs,aI,a5⟩:=Eb (K:=K) hz;exact⟨V.int k::xs,⟨_,_,rfl,rfl,aI⟩,by rw[List.map_cons,aj];exact .cons ⟨t,rfl⟩ a5⟩
end
section
variable{xp:cj}{X:aV}{ak:List Nat}{m:ep}{f:a0->br D}{e:Expr}{pos pos' p eZ:Pos}{x y:Str}{pins:List (Addr×Obj)}{σ:bV}{G H:ax}{s:Shared}
def Tb{ds:List D}{Q:D->Prop}{E:Nat->Prop}(h:dd (Den.fG ds) Q E):Den.gW ds=true/\(Den.h7 ds).length<=75/\Q (.lst (Den.gh (Den.h7 ds))):=by
 unfold Den.fG at h;cases q:(Den.gW ds&&decide ((Den.h7 ds).length<=75)) with
 |false=>rw[q]at h;exact h.elim
 |true =>
  rw[q]at h;simp only[UB,UU]at q;exact⟨q.1,q.2,h⟩
def Inv.grown(I:Inv X pins σ H s){s':Shared}(g:Pv.rJ s s'):Inv X pins σ H s':=by
 obtain⟨h',g',d',pB,q8⟩:=s';obtain⟨k,aj,av,bF⟩:=g;have aj:g'=s.gens:=aj;have av:d'=s.drawn:=av;have bF:q8=s.os:=bF;subst aj av bF;exact I.kept k
def yq{Q:c4}(b5:X.A.handled=none)(I:Inv X pins σ H s)(ae:bM G H){a:Addr}{o:Obj}{ab:Array (Int×Value)}{aT:Nat}{t:SetTable}(ar:s.heap.get? a=some o)(O:Pv.j2 X.w o ab aT t){ds:List D}{xs:List V}(r:bD X.K G ds xs)(v:Vals xs ((Pv.eI X.w a ab aT).toList.map (·.2)))(hN:Den.gW ds=true)(fR:ds.length<=75)(k:∀v aP ao,Ext G H aP ao->cz X.K H aP ao .fresh (.lst (Den.gh ds)) v->Q v ao):wpAny (model X.prog X.w) X.A (call (.builtin "sorted") [.ref a]) (ei X pins σ Q) X.cR s:=by
 have hsz:(Pv.eI X.w a ab aT).size=ab.size:=by have:=(Pv.mB X.w a ab aT).length_eq;simpa using this
 have aw:ab.size<=75:=by
  have J:=v.length;have aa:=r.length;simp only[List.length_map,Array.length_toList]at J;omega
 refine tZ (Pv.Hp (A:=X.A.in1) b5 ar O (by rw[sizeLine_eq];omega) λs' acc g gR=>?_)
 have e:acc.toList=(Pv.eI X.w a ab aT).toList.map (·.2):=by
  refine Cc (P:=λi v=>∃x,(Pv.eI X.w a ab aT)[i]?=some x/\v=x.2) (l:=(Pv.eI X.w a ab aT).toList.map (·.2)) (by simpa[hsz] using gR) λi v aQ=>?_
  obtain⟨z,J,aa⟩:=aQ;rw[U1,U9,J,aa];rfl
 rw[e];exact tY b5 (Inv.grown I g) ae r v hN fR k
def Te {Q : c4} (ai : X.calm = true) (bQ : X.A.units + 64 < cLine) (I : Inv X pins σ H s) (ae : bM G H) {d : D} {z : V} {u : Value} (bh : View X.K G H d z) (aY : RelV z u)
    (hw : dd (Den.dP d >>= fun xs => Den.fG xs) (fun d' => ∀ v aP ao, Ext G H aP ao -> cz X.K H aP ao .fresh d' v -> Q v ao) (fun _ => False)) :
    wpAny (model X.prog X.w) X.A (call (.type "set") [u]) (fun w s1 => wpAny (model X.prog X.w) X.A (call (.builtin "sorted") [w]) (ei X pins σ Q) X.cR s1) X.cR s := by
  obtain ⟨ds, a, ys, rfl, aE, rs, hw⟩ := yj ae bh (bB.mp hw)
  obtain ⟨hN, fR, hw⟩ := Tb hw
  have b5 : X.A.handled = none := I.ok.hd ai
  cases aY
  obtain ⟨its, bG, T, cn, eJ, nl, cF, iR⟩ : ∃ (its : List Value), Vals ys its /\ ∃ T cn eJ nl, (T = "list" \/ T = "tuple") /\ s.heap.get? a = some { cls := .type T, dict := cn, data := .seq its.toArray nl, slots := eJ } := by
    rcases aE with aE | aE
    · obtain ⟨its, bG, ⟨⟨cls, cD, data, b1⟩, n, ar, J, _, aL⟩, _⟩ := I.list aE
      simp only at J aL
      subst J aL
      exact ⟨its, bG, "list", cD, b1, n, .inl rfl, ar⟩
    · obtain ⟨its, bG, ⟨⟨cls, cD, data, b1⟩, ar, J, n, aL⟩, _⟩ := I.tuple aE
      simp only at J aL
      subst J aL
      exact ⟨its, bG, "tuple", cD, b1, n, .inr rfl, ar⟩
  have keep : ∀ {h' : Heap} {tk : Nat}, (∀ b o, b < s.heap.objs.size -> s.heap.get? b = some o -> h'.get? b = some o) -> Inv X pins σ H { s with heap := h', toks := tk } := fun aq => I.kept fun b o q => aq b o (UK q) q
  unfold Den.gW at hN
  rw [Wg] at hN
  rcases hN with h | h
  · obtain ⟨ns, rfl⟩ := ints_of h
    have dA : IntsAre its ns := by rw [jP rs] at bG; exact intsAre_of bG
    rw [a9.lZ (f := Den.D.int) a9.IE] at fR hw
    rw [List.length_map] at fR
    refine Pv.vw (Pv.Mr X.prog X.w) cF b5 bQ iR (show Paired (fun v (k : Int) => ∃ t, v = Value.int k t) its.toArray.toList ns from by simpa using DO dA) (fun i hi => by have := tj ns (WD hi); omega) fun h' tk r aX aC aq => ?_
    obtain ⟨o, ab, aT, t, ar, hex, hd, ez, _, _, d1, fl, jG, gw⟩ := aX
    obtain ⟨b9, aK, a6⟩ := Pv.Paired.perm (Pv.mB X.w s.heap.objs.size ab aT) jG
    obtain ⟨xs, aI, a5⟩ := Eb (K := X.K) (G := G) a6
    have e : Den.gh (b9.map Den.D.int) = Den.gh ((a9.cE ns).map Den.D.int) := by
      rw [a9.jb (f := Den.D.int) (lt := a9.ltI) fun _ _ => rfl, a9.jb (f := Den.D.int) (lt := a9.ltI) fun _ _ => rfl, Ea a9.jL aK aC]
    refine yq (s := { s with heap := h', toks := tk }) b5 (keep aq) ae ar ⟨hex, hd, ez, d1, fl⟩ aI a5 ?_ ?_ (by rw [e]; exact hw)
    · unfold Den.gW; rw [a9.xJ]; rfl
    · rw [List.length_map]; have := D9 aK aC; omega
  · obtain ⟨ks, rfl, dg⟩ := ry h
    rw [a9.lZ (f := en) a9.jv] at fR hw
    rw [List.length_map] at fR
    refine Pv.vw (Pv.xA (lJ X.K G) X.prog X.w) cF b5 bQ iR (by simpa using ye I ae rs bG) (fun i hi => by have := tj ks (WD hi); omega) fun h' tk r aX aC aq => ?_
    obtain ⟨o, ab, aT, t, ar, hex, hd, ez, _, _, d1, fl, jG, gw⟩ := aX
    obtain ⟨b9, aK, a6⟩ := Pv.Paired.perm (Pv.mB X.w s.heap.objs.size ab aT) jG
    have cx : Inv X pins σ H { s with heap := h', toks := tk } := keep aq
    obtain ⟨xs, aI, a5⟩ := yl cx ae a6
    have e : Den.gh (b9.map en) = Den.gh ((a9.cE ks).map en) := by
      rw [a9.jb (f := en) (lt := a9.lexLt) a9.mu, a9.jb (f := en) (lt := a9.lexLt) a9.mu, Ea a9.gc aK aC]
    refine yq (s := { s with heap := h', toks := tk }) b5 cx ae ar ⟨hex, hd, ez, d1, fl⟩ aI a5 ?_ ?_ (by rw [e]; exact hw)
    · unfold Den.gW
      rw [a9.oi fun c ai => dg c ?_, Bool.or_true]
      have := ((aK.trans aC).mem_iff).mp ai
      exact Xu ((Pv.o3 ks _ (UE _) c).mp this)
    · rw [List.length_map]; have := D9 aK aC; omega
def QE(ai:X.calm=true)(bQ:X.A.units+64<cLine)(ah:x="sorted")(aA:y="set")(k4:dH X x)(hO:X.aF x=none)(jD:dH X y)(md:X.aF y=none)(az:aR X e (bk xp X ak .view f))(cA:starEach [e] X.env=[(false,eval e X.env)]):
  aR X (.Call (.Name x p) [.Call (.Name y eZ) [e] [] pos'] [] pos) (bk xp X ak .fresh λC=>f C>>=λd=>Den.dP d>>=λxs=>Den.fG xs):=by
 subst ah aA;intro pins s σ H Q I ⟨G,C,ae,hw⟩;refine Vt (hs I k4 hO (u:=.builtin "sorted") (by kernel_rfl) ?_)
 refine V6 ?_ rfl rfl;show wpAny _ _ (spliced ((false,eval (.Call (.Name "set" eZ) [e] [] pos') X.env)::[])) _ _ s;refine VW ?_;refine Vt (hs I jD md (u:=.type "set") (by kernel_rfl) ?_)
 refine U8 (bI (kv az cA pos' pins s σ H (λag H1=>∃v d aJ,ag=[v]/\Ext G H aJ H1/\View X.K aJ H1 d v/\dd (Den.dP d>>=λxs=>Den.fG xs) (λd'=>∀v aP ao,Ext aJ H1 aP ao->cz X.K H1 aP ao .fresh d' v->Q v ao) (λ_=>False)) I
  ⟨G,C,ae,b3 (bB.mp hw) (λd k v aJ H1 aU aI=>?_) λ_ q=>q⟩) λus s1 ⟨ag,H1,a7,aI,aK⟩=>?_) cA rfl
 .refine⟨v,d,aJ,rfl,aU,aI,?_⟩;refine b3 (mI k λc=>?_) (λd' q nY bJ aW bu a5=>q nY bJ aW (aU.trans bu) (a5.old aU.h)) λ_ q=>q
  intro z;cases hd:Den.dP d with
  |ok ds=>rw[hd]at z;have z:Den.fG ds=.exc c:=z;unfold Den.fG at z;split at z<;>cases z
  |exc cO=>cases d<;>cases hd
  |bad=>rw[hd]at z;cases z
 .obtain⟨v,d,aJ,aj,aU,bh,eR⟩:=aK;subst aj;obtain⟨u,rfl,aY⟩:=vals1 aI;refine bI (Te ai bQ a7 aU.sub bh aY eR) λw s2 aa=>?_
  exact V9 aa
end
end bS
end
section
namespace bS
open PySem PySem.Spec PyProof.Rows bE
def u0(c:List Int)(cs:List (List Int)):(cs.map en).any (Den.e4 (en c))=decide (c∈cs):=by
 induction cs with
 |nil=>simp
 |cons a cs aO =>
  rw[List.map_cons,List.any_cons,aO,show Den.e4 (en c) (en a)=decide (c=a) from a9.jv c a]
  by_cases h:c=a<;>simp[h]
def Az(as bs:List (List Int)):(as.map en).filter (λx=>!(bs.map en).any (Den.e4 x))=(as.filter λa=>!decide (a∈bs)).map en:=by
 induction as with
 |nil=>rfl
 |cons a as aO =>
  rw[List.map_cons,WB,WB,u0,aO]
  by_cases h:a∈bs<;>simp[h]
def Tc {x y : D} {Q : D -> Prop} {E : Nat -> Prop} (h : dd (Den.nZ x y) Q E) : ∃ as bs : List (List Int), Den.dP x = .ok (as.map en) /\ Den.dP y = .ok (bs.map en) /\ (∀ k ∈ as, k ≠ []) /\ (∀ k ∈ bs, k ≠ []) /\ (a9.cE (as ++ bs)).length <= 75
    /\ Q (.lst ((a9.cy a9.lexLt (a9.cE (as.filter (fun a => !decide (a ∈ bs)) ++ bs.filter fun b => !decide (b ∈ as)))).map en)) := by
  unfold Den.nZ at h
  have h := bB.mp h
  cases aj : Den.dP x with
  | bad => rw [aj] at h; exact h.elim
  | exc c => cases x <;> cases aj
  | ok xs =>
    rw [aj] at h
    have h := bB.mp h
    cases av : Den.dP y with
    | bad => rw [av] at h; exact h.elim
    | exc c => cases y <;> cases av
    | ok ys =>
      rw [av] at h
      have h : dd (Den.rC xs ys) Q E := h
      unfold Den.rC at h
      cases q : (xs.all Den.nC && ys.all Den.nC && decide ((Den.h7 (xs ++ ys)).length <= 75)) with
      | false => rw [q] at h; exact h.elim
      | true =>
        rw [q] at h
        have h : Q (.lst (Den.gh (Den.h7 (Den.uy xs ys)))) := h
        simp only [UB, UU] at q
        obtain ⟨as, rfl, az⟩ := ry q.1.1
        obtain ⟨bs, rfl, af⟩ := ry q.1.2
        refine ⟨as, bs, rfl, rfl, az, af, ?_, ?_⟩
        · have := q.2
          rw [<- List.map_append, a9.lZ (f := en) a9.jv, List.length_map] at this
          exact this
        · unfold Den.uy at h
          rw [Az, Az, <- List.map_append, a9.lZ (f := en) a9.jv, a9.jb (f := en) (lt := a9.lexLt) a9.mu] at h
          exact h
section
variable{xp:cj}{X:aV}{ak:List Nat}{f j9:a0->br D}{e bf:Expr}{p bc bC aK a6 bT pos:Pos}{x y:Str}{pins:List (Addr×Obj)}{σ:bV}{G H:ax}{s:Shared}
def Fw{Q:Value->Shared->Prop}{E:Value->Shared->Prop}(ai:X.calm=true)(bQ:X.A.units+64<cLine)(I:Inv X pins σ H s)(ae:bM G H){d:D}{z:V}{u:Value}{ks:List (List Int)}(bh:View X.K G H d z)(aY:RelV z u)(hd:Den.dP d=.ok (ks.map en))(jz:(a9.cE ks).length<=75)(h:∀(h':Heap)(tk:Nat)(r:List (List Int)),Pv.h5 (lJ X.K G) X.prog X.w h' s.heap.objs.size r->r.Perm (Pv.met ks ks.length)->(∀b o,s.heap.get? b=some o->h'.get? b=some o)->Q (.ref s.heap.objs.size) { s with heap:=h',toks:=tk }):
  wpAny (model X.prog X.w) X.A (call (.type "set") [u]) Q E s:=by
 obtain⟨ds,a,ys,rfl,aE,rs,rfl⟩:=yj (Q:=λds=>ks.map en=ds) (E:=λ_=>False) ae bh (by rw[hd];rfl)
 have b5:X.A.handled=none:=I.ok.hd ai;cases aY;obtain⟨its,bG,T,cn,eJ,nl,cF,iR⟩:∃(its:List Value),Vals ys its/\∃T cn eJ nl,(T="list"\/T="tuple")/\s.heap.get? a=some { cls:=.type T,dict:=cn,data:=.seq its.toArray nl,slots:=eJ }:=by
  rcases aE with aE|aE
  .obtain⟨its,bG,⟨⟨cls,cD,data,b1⟩,n,ar,J,_,aL⟩,_⟩:=I.list aE;simp only at J aL;subst J aL;exact⟨its,bG,"list",cD,b1,n,.inl rfl,ar⟩
  .obtain⟨its,bG,⟨⟨cls,cD,data,b1⟩,ar,J,n,aL⟩,_⟩:=I.tuple aE;simp only at J aL;subst J aL;exact⟨its,bG,"tuple",cD,b1,n,.inr rfl,ar⟩
 exact Pv.vw (Pv.xA (lJ X.K G) X.prog X.w) cF b5 bQ iR (by simpa using ye I ae rs bG) (λi hi=>by have:=tj ks (WD hi);omega) λh' tk r aX aC aq=>h h' tk r aX aC λb o e=>aq b o (UK e) e
def Im{OT:List (Addr×Obj)}{pI:bV}{bJ aW:ax}{s2:Shared}(I:Inv X pins σ H s)(ae:bM G H)(cx:Inv X OT pI aW s2)(nu:bM bJ aW)(g:bM G bJ){m4:Int×Value}{k:List Int}(h:Pv.fI X.prog X.w s.heap m4 k/\lJ X.K G m4.2):Pv.fI X.prog X.w s2.heap m4 k/\lJ X.K bJ m4.2:=by
 obtain⟨⟨b,aj,iL,o,items,n,ar,ai,hd,aq⟩,h6,cB,av,r⟩:=h;rw[aj]at av;injection av with av;subst av;obtain⟨a,ys,dX,J,q⟩:=id r;cases dX;have qC:cB=k:=by
  obtain⟨its,bG,⟨bN,dh,_,cG,f7⟩,_⟩:=I.tuple (hX ae J);rw[ar]at dh;cases dh;rw[hd]at f7;injection f7 with cp _;rw[jP q]at bG;have J:=intsAre_of bG;have aa:=u3 aq;rw[cp]at aa;exact xr (by simpa using J) (by simpa using aa)
 subst qC;obtain⟨its,bG,⟨bN,dh,c0,cG,f7⟩,_⟩:=cx.tuple (hX nu (g _ _ J));rw[jP q]at bG;exact⟨⟨b,aj,iL,bN,its.toArray,cG,dh,c0,f7,oR (by simpa using intsAre_of bG)⟩,b,cB,aj,Rep.mono g r⟩
def QF (ai : X.calm = true) (bQ : X.A.units + 64 < cLine) (ah : x = "sorted") (aA : y = "set") (k4 : dH X x) (hO : X.aF x = none) (jD : dH X y) (md : X.aF y = none) (az : aR X e (bk xp X ak .view f)) (af : aR X bf (bk xp X ak .view j9)) (cA : starEach [e] X.env = [(false, eval e X.env)]) (sT : starEach [bf] X.env = [(false, eval bf X.env)]) (ki : ∀ C c, j9 C ≠ .exc c) :
    aR X (.Call (.Name x p) [.BinOp (.Call (.Name y bc) [e] [] aK) .BitXor (.Call (.Name y bC) [bf] [] a6) bT] [] pos) (bk xp X ak .fresh fun C => f C >>= fun d => j9 C >>= fun d' => Den.nZ d d') := by
  subst ah aA
  intro pins s σ H Q I ⟨G, C, ae, hw⟩
  have b5 : X.A.handled = none := I.ok.hd ai
  refine Vt (hs I k4 hO (u := .builtin "sorted") (by kernel_rfl) ?_)
  refine V6 ?_ rfl rfl
  show wpAny _ _ (spliced ((false, eval (.BinOp (.Call (.Name "set" bc) [e] [] aK) .BitXor (.Call (.Name "set" bC) [bf] [] a6) bT) X.env) :: [])) _ _ s
  refine VW ?_
  refine wpAny_BinOp ?_
  refine Vt (hs I jD md (u := .type "set") (by kernel_rfl) ?_)
  refine U8 (bI (kv az cA aK pins s σ H (fun ag H1 => ∃ v d aJ, ag = [v] /\ Ext G H aJ H1 /\ View X.K aJ H1 d v /\ dd (j9 C >>= fun d' => Den.nZ d d') (fun d' => ∀ v aP ao, Ext G H aP ao -> cz X.K H aP ao .fresh d' v -> Q v ao) (fun c => gK xp X c H)) I
    ⟨G, C, ae, b3 (bB.mp hw) (fun d k v aJ H1 aU aI => ⟨v, d, aJ, rfl, aU, aI, k⟩) fun _ q => q⟩) fun us s1 ⟨ag, H1, a7, aI, x4⟩ => ?_) cA rfl
  obtain ⟨v, d, aJ, rfl, aU, bh, oQ⟩ := x4
  obtain ⟨u, rfl, aY⟩ := vals1 aI
  have oQ := bB.mp oQ
  obtain ⟨d', av⟩ : ∃ d', j9 C = .ok d' := by
    cases av : j9 C with
    | bad => rw [av] at oQ; exact oQ.elim
    | exc c => exact absurd av (ki C c)
    | ok d' => exact ⟨d', rfl⟩
  rw [av] at oQ
  obtain ⟨as, bs, dO, cv, na, nb, jz, aE⟩ := Tc oQ
  have Kp : (a9.cE as).length <= 75 := Vk (a9.hT (a9.kr as) fun z au => by rw [a9.hu] at au ⊢; exact VA _ au) jz
  have Kr : (a9.cE bs).length <= 75 := Vk (a9.hT (a9.kr bs) fun z au => by rw [a9.hu] at au ⊢; exact UP _ au) jz
  refine Fw ai bQ a7 aU.sub bh aY dO Kp fun J E0 k1 d0 Lu Ms => ?_
  have uH : Inv X pins σ H1 { s1 with heap := J, toks := E0 } := a7.kept Ms
  obtain ⟨hV, cK, qh, t1, k9, KN, ig, fo, ck, bo, cm, gp, Lw, kh⟩ := d0
  have yZ : Inv X ((s1.heap.objs.size, hV) :: pins) σ H1 { s1 with heap := J, toks := E0 } := uH.rb fun q aE => by
    rcases UI.mp aE with rfl | aE
    · refine ⟨k9, a7.bP.fresh (UE _), V3 (UZ a7.lt), a7.CT (UE _), fun v z => ?_⟩
      dsimp only at z
      rw [ig] at z; cases z
    · exact uH.pin q (UP _ aE)
  refine Vt (hs yZ jD md (u := .type "set") (by kernel_rfl) ?_)
  refine U8 (bI (kv af sT a6 _ _ σ H1 (fun ag aW => ∃ v bJ, ag = [v] /\ Ext aJ H1 bJ aW /\ View X.K bJ aW d' v) yZ
    ⟨aJ, C, ae.ext aU, by rw [av]; exact fun v bJ aW bu a5 => ⟨v, bJ, rfl, bu, a5⟩⟩) fun us s2 ⟨ag, aW, cx, a5, x4⟩ => ?_) sT rfl
  obtain ⟨v2, bJ, rfl, bu, S3⟩ := x4
  obtain ⟨hA, rfl, PW⟩ := vals1 a5
  refine Fw ai bQ cx bu.sub S3 PW cv Kr fun aL rx k2 qv xa Ci => ?_
  have eo : Inv X ((s1.heap.objs.size, hV) :: pins) σ aW { s2 with heap := aL, toks := rx } := cx.kept Ci
  have g1 : s2.heap.get? s1.heap.objs.size = some hV := (cx.pin (s1.heap.objs.size, hV) (UP _ List.mem_cons_self)).1
  have Km : Pv.h5 (lJ X.K bJ) X.prog X.w aL s1.heap.objs.size k1 := ⟨hV, cK, qh, t1, Ci _ _ g1, KN, ig, fo, ck, bo, cm, gp, Pv.Paired.mp (fun m4 k z => Im uH aU.sub eo bu.sub bu.g z) Lw, kh⟩
  have gT : ∀ k, k ∈ k1 <-> k ∈ as := fun k => by rw [Lu.mem_iff, Pv.o3 as _ (UE _), X8]
  have k7 : ∀ k, k ∈ k2 <-> k ∈ bs := fun k => by rw [xa.mem_iff, Pv.o3 bs _ (UE _), X8]
  have Lj : k2.Nodup := by obtain ⟨_, _, _, _, _, _, _, _, _, _, _, _, _, z⟩ := qv; exact z
  have jH : k2.length + (k1.filter fun k => !decide (k ∈ k2)).length <= 75 := by
    rw [<- UM]
    refine Vk (a9.hT (ys := a9.cE (as ++ bs)) ?_ fun z au => ?_) jz
    · refine Wu.mpr ⟨Lj, kh.filter _, fun a J b aa z => ?_⟩
      subst z
      have := (U0.mp aa).2
      simp [J] at this
    · rw [a9.hu]
      rcases UY.mp au with z | z
      · exact UP _ ((k7 _).mp z)
      · exact VA _ ((gT _).mp (U0.mp z).1)
  refine Pv.Ti (s := { s2 with heap := aL, toks := rx }) (by omega) (UZ (UK g1)) Km qv (by omega) fun a8 b0 c c3 c1 dx => ?_
  have Mt : ∀ b o, aL.get? b = some o -> a8.get? b = some o := fun b o e => (c3.2 b (UZ (UK e))).trans (UD _ e)
  have eL : Inv X ((s1.heap.objs.size, hV) :: pins) σ aW { s2 with heap := a8, toks := rx } := eo.kept Mt
  have jg : Inv X pins σ aW { s2 with heap := a8, toks := rx } := eL.rb fun q aE => eL.pin q (UP _ (List.mem_cons_of_mem _ aE))
  obtain ⟨o, ab, aT, t, ar, hex, hd, ez, _, _, d1, fl, jG, gw⟩ := c1
  obtain ⟨b9, hB, jd⟩ := Pv.Paired.perm (Pv.mB X.w _ ab aT) jG
  obtain ⟨xs, lD, jV⟩ := yl jg bu.sub jd
  have jF : ∀ k, k ∈ b9 <-> ((k ∈ as /\ k ∉ bs) \/ (k ∉ as /\ k ∈ bs)) := fun k => by rw [hB.mem_iff, dx, gT, k7]
  have hlen : b9.length <= 75 := by
    refine Vk (a9.hT ((hB.nodup_iff).mpr gw) (ys := a9.cE (as ++ bs)) fun z au => ?_) jz
    rw [a9.hu]
    rcases (jF z).mp au with y | y
    · exact VA _ y.1
    · exact UP _ y.2
  have jw : Den.gh (b9.map en) = (a9.cy a9.lexLt (a9.cE (as.filter (fun a => !decide (a ∈ bs)) ++ bs.filter fun b => !decide (b ∈ as)))).map en := by
    rw [a9.jb (f := en) (lt := a9.lexLt) a9.mu]
    congr 1
    refine a9.j3 a9.gc (a9.j5 a9.gc ((hB.nodup_iff).mpr gw)) (a9.j5 a9.gc (a9.kr _)) fun z => ?_
    rw [a9.ip, a9.ip, a9.hu, jF, UY, U0, U0]
    simp only [Vg, X6]
    exact or_congr Iff.rfl and_comm
  refine V9 (yq (s := { s2 with heap := a8, toks := rx }) b5 jg bu.sub ar ⟨hex, hd, ez, d1, fl⟩ lD jV ?_ (by rw [List.length_map]; exact hlen) fun v aP ao g0 dn => ?_)
  · unfold Den.gW
    rw [a9.oi fun c ai => ?_, Bool.or_true]
    rcases (jF c).mp ai with z | z
    · exact na c z.1
    · exact nb c z.2
  · rw [jw] at dn
    exact aE v aP ao ((aU.trans bu).trans g0) (dn.old (aU.h.trans bu.h))
end
end bS
end
section
namespace bS
open PySem PySem.Spec PyProof.Rows bE
section
variable{xp:cj}{X:aV}{ak:List Nat}{m:ep}{f bg cZ:a0->br D}{a b e dv:Expr}{pos p bC d2 i4:Pos}{pins:List (Addr×Obj)}{σ:bV}{G H:ax}{s:Shared}{x:Str}
def Qi{d:D}{v:V}{u:Value}(ba:dH X x)(hm:X.aF x=some u)(r:RelV v u)(rep:∀G,Rep X.K G d v)(hd:(x==("__debug__":Str))=false):aR X (.Name x p) (bk xp X ak .val λ_=>.ok d):=by
 intro pins s σ H Q I ⟨G,C,ae,hw⟩;exact Oy ba hm r hd pins s σ H Q I (hw v G H (Ext.refl ae.sub) (rep G))
def DX{t:a0->br D}(h:∀C,t C=.bad):aR X e (bk xp X ak m t):=by
 intro pins s σ H Q I ⟨G,C,ae,hw⟩;rw[h]at hw;exact hw.elim
def f_int:g6 X (.type "int") (nO X.K m λd=>match d with|.aM b=>.ok (.int (if b then 1 else 0))|_=>.bad):=by
 intro pins s σ H xs us Q I r ⟨G,z,d,ex,ae,bh,hw⟩;subst ex;cases d with
 |aM b =>
  have bh:z=.aM b:=bh;subst bh;exact G4 pins s σ H _ us Q I r (.inr ⟨b,rfl,hw _ G H (Ext.refl ae) cz.int⟩)
 |_=>exact hw.elim
def SY (lo : Int) : ∀ {n : Nat} {l : List Value}, l.length = n -> (∀ (i : Nat) v, l[i]? = some v -> ∃ t, v = .int (lo + i * 1) t) -> Vals ((List.range n).map fun (k : Nat) => V.int (lo + (k : Nat))) l := by
  intro n l aw h
  subst aw
  induction l generalizing lo with
  | nil => exact .nil
  | cons v l aO =>
    rw [List.length_cons, Xf, List.map_cons, List.map_map]
    refine .cons ?_ ?_
    · obtain ⟨t, e⟩ := h 0 v rfl
      exact ⟨t, by rw [e]; simp⟩
    · have := aO (lo + 1) fun i w hw => by
        obtain ⟨t, e⟩ := h (i + 1) w (by simpa using hw)
        exact ⟨t, by rw [e]; congr 1; push_cast; omega⟩
      have av : ((fun (k : Nat) => V.int (lo + (k : Nat))) ∘ Nat.succ) = fun (k : Nat) => V.int (lo + 1 + (k : Nat)) := by
        funext k; simp only [Function.comp]; congr 1; push_cast; omega
      rw [av]; exact this
theorem DH{K:W.Frag}(lo:Int):∀(l:List Nat),bD K G (l.map λ(k:Nat)=>Den.D.int (lo+(k:Nat))) (l.map λ(k:Nat)=>V.int (lo+(k:Nat)))
 |[]=>rfl
 |k::l=>⟨_,_,rfl,rfl,DH lo l⟩
def Fv{R:Value->Shared->Prop}(ba:dH X "range")(hm:X.aF "range"=none)(az:aR X a (bk xp X ak .view bg))(cA:starEach [a] X.env=[(false,eval a X.env)])(I:Inv X pins σ H s){C:a0}(ae:ea X.K ak G H C σ){Q:List D->Prop}(hw:dd (bg C>>=λd=>Den.gN d>>=λi=>Den.iv 0 i) Q (λc=>gK xp X c H))(k:∀(s1:Shared)(aJ H1:ax)(n:Int)(r:Addr)(t u v:Tok)(h':Heap)(tk:Nat),Inv X pins σ H1 s1->Ext G H aJ H1->Q (Den.ek 0 n)->(-(2 ^ 62)<=n/\n<2 ^ 62/\(Den.ek 0 n).length<=16777216)->Inv X pins σ H1 { s1 with heap:=h',toks:=tk }->IsRange h' r 0 n 1 t u v->R (.ref r) { s1 with heap:=h',toks:=tk }):
  wpAny (model X.prog X.w) X.A (eval (.Call (.Name "range" p) [a] [] pos) X.env) R X.cR s:=by
 refine Call_ (hs I ba hm boot_range (U8 (bI (kv az cA pos pins s σ H (λag H1=>∃n aJ,ag=[.int n]/\Ext G H aJ H1/\Q (Den.ek 0 n)/\(-(2 ^ 62)<=n/\n<2 ^ 62/\(Den.ek 0 n).length<=16777216)) I
  ⟨G,C,ae,b3 (bB.mp hw) (λd q v aJ H1 aU aI=>?_) λ_ q=>q⟩) λus s1 ⟨ag,H1,a7,aI,n,aJ,aj,aU,aE,af⟩=>?_) cA rfl))
 .have q:=bB.mp q;cases d with
  |int i =>
   obtain⟨⟨_,_,cY,er⟩,au,q⟩:=yc q;exact⟨i,aJ,by rw[cz.q6 aI],aU,q,cY,er,au⟩
  |_=>exact q.elim
 .subst aj;obtain⟨u,rfl,ed⟩:=vals1 aI;obtain⟨t,rfl⟩:=ed;refine call_range_1 ?_;exact k s1 aJ H1 n _ _ _ _ _ _ a7 aU aE af (a7.kept λb o e=>UD _ e) (IsRange.new ..)
def DM(n:Int):Builtin.Range.rangeSize 0 n 1=((Den.ek 0 n).length:Int):=by
 unfold Den.ek;rw[List.length_map,List.length_range,rangeSize_one]
 split<;>omega
def PC(n:Int):(Den.ek 0 n).length=n.toNat:=by unfold Den.ek;rw[List.length_map,List.length_range];congr 1;omega
def DN{acc:Array Value}{n:Int}(h:ItemsOf (λi v=>∃t,v=.int (0+i*1) t) acc (Den.ek 0 n).length):∃xs,bD X.K G (Den.ek 0 n) xs/\Vals xs acc.toList:=by
 have aw:acc.toList.length=n.toNat:=by rw[Array.length_toList,h.1,PC]
 have v:=SY 0 aw λi v aQ=>h.2 i v (by simpa using aQ)
 have e:Den.ek 0 n=(List.range n.toNat).map λ(k:Nat)=>Den.D.int (0+(k:Nat)):=by
  unfold Den.ek;rw[Int.sub_zero]
 exact⟨_,by rw[e];exact DH 0 _,v⟩
def QH{y:Str}(ai:X.calm=true)(ah:x="range")(aA:y="tuple")(k4:dH X x)(hO:X.aF x=none)(jD:dH X y)(md:X.aF y=none)(az:aR X a (bk xp X ak .view bg))(cA:starEach [a] X.env=[(false,eval a X.env)]):
  aR X (.Call (.Name y bC) [.Call (.Name x p) [a] [] pos] [] d2) (bk xp X ak .val λC=>(bg C>>=λd=>Den.gN d>>=λi=>Den.iv 0 i)>>=λds=>.ok (.tup ds)):=by
 subst ah aA;intro pins s σ H Q I ⟨G,C,ae,hw⟩;refine Vt (hs I jD md (u:=.type "tuple") (by kernel_rfl) ?_)
 refine U8 ?_ rfl rfl;show wpAny _ _ (spliced ((false,eval (.Call (.Name "range" p) [a] [] pos) X.env)::[])) _ _ s;refine VW ?_;refine Fv k4 hO az cA I ae (bB.mp hw) λs1 aJ H1 n r t u v h' tk a7 aU aE af cx aZ=>V9 ?_
 have b5:X.A.handled=none:=cx.ok.hd ai;have aD:=DM n;have meets:Meets (Builtin.«tuple.__new__» ⟨[.type "tuple",.ref r],[]⟩) (λA R s'=>A.handled=none/\IsRange s'.heap r 0 n 1 t u v /\
   ∀(s2:Shared)(acc:Array Value),Pv.rJ s' s2->ItemsOf (λi v=>∃t,v=.int (0+i*1) t) acc (Den.ek 0 n).length->R (.ok (.ret (.ref s2.heap.objs.size))) { s2 with heap:=s2.heap.push { cls:=.type "tuple",data:=.seq acc } }) :=
  .of_wp λprog w A R s' h=>by
   obtain⟨J,aa,aL⟩:=h;have iT:=sub_tuple_self;have TS:=init_tuple_lookup;have TZ:=madeHere_tuple;have cF:s'.TypeIs (.ref r) "range":=⟨_,aa,rfl⟩;have a8:A.in1.handled=none:=J
   wp_walk using Wr cF,Pv.Ho (A:=A.in1) a8 aa (small_one (by omega) (by omega) af.1 af.2.1) aD af.2.2
   intro s2 acc g gR;have e:acc.toList.toArray=acc:=by simp
   refine UA (m:=Builtin.Tuple.tupleExact acc.toList.toArray) (Vc (wpAny_pure ⟨_,rfl,?_⟩) (show acc.toList.toArray.size<=sizeLine by rw[e,gR.1,sizeLine_eq];exact af.2.2))
   rw[e];exact aL s2 acc g gR
 refine callType_new F.called_tuple (by decide) (F.typeCall_tuple_1 _) (F.newCall_tuple_1 _) (λobj=>F.args_object_init_2 obj _) F.entry_tuple_new meets ⟨b5,aZ,λs2 acc g gR=>⟨⟨_,UQ _ rfl,rfl⟩,?_⟩⟩
 obtain⟨xs,k1,k2⟩:=DN (X:=X) (G:=aJ) gR;have eo:=Inv.grown cx g;have e:acc=acc.toList.toArray:=by simp
 rw[e];exact xM eo aU.sub k2 k1 (by rw[k2.length,Array.length_toList,gR.1,sizeLine_eq];exact af.2.2) λv aP ao bu a5=>aE v aP ao (aU.trans bu) a5
def Qq{y:Str}(ai:X.calm=true)(ah:x="range")(aA:y="list")(k4:dH X x)(hO:X.aF x=none)(jD:dH X y)(md:X.aF y=none)(az:aR X a (bk xp X ak .view bg))(cA:starEach [a] X.env=[(false,eval a X.env)]):
  aR X (.Call (.Name y bC) [.Call (.Name x p) [a] [] pos] [] d2) (bk xp X ak .fresh λC=>(bg C>>=λd=>Den.gN d>>=λi=>Den.iv 0 i)>>=λds=>.ok (.lst ds)):=by
 subst ah aA;intro pins s σ H Q I ⟨G,C,ae,hw⟩;refine Vt (hs I jD md (u:=.type "list") (by kernel_rfl) ?_)
 refine U8 ?_ rfl rfl;show wpAny _ _ (spliced ((false,eval (.Call (.Name "range" p) [a] [] pos) X.env)::[])) _ _ s;refine VW ?_;refine Fv k4 hO az cA I ae (bB.mp hw) λs1 aJ H1 n r t u v h' tk a7 aU aE af cx aZ=>V9 ?_
 have b5:X.A.handled=none:=cx.ok.hd ai;have aD:=DM n;refine call_list_range b5 aZ (small_one (by omega) (by omega) af.1 af.2.1) aD af.2.2 λaa Sm acc c aq ba gR=>?_
 obtain⟨xs,k1,k2⟩:=DN (X:=X) (G:=aJ) gR;have e:acc=acc.toList.toArray:=by simp
 rw[e]at ba;refine⟨.ref h'.objs.size,_,cx.laid (t':=Sm) (o:=.lst xs) aq (UE _) ⟨by rw[k2.length,Array.length_toList,gR.1,sizeLine_eq];exact af.2.2,acc.toList,c,k2,ba⟩,rfl,?_⟩
 have fr:H1 h'.objs.size=none:=cx.fresh;exact aE _ aJ _ (aU.trans (Ext.own aU.sub fr)) ⟨_,xs,rfl,eh,aU.h.free fr,aU.sub.free fr,k1⟩
end
end bS
end
section
namespace bS
open PySem PySem.Spec PyProof.Rows bE
section
variable{X:aV}{pins:List (Addr×Obj)}{σ:bV}{G H:ax}{s:Shared}{h':Heap}
def E3{t':Nat}{bq:List Addr}(I:Inv X pins σ H s)(k:∀b o,b∉bq->s.heap.get? b=some o->h'.get? b=some o)(hf:∀b∈bq,jf X pins H b):Inv X pins σ H { s with heap:=h',toks:=t' }:=by
 have q3:∀b u,H b=some u->b∉bq:=λb u e z=>by rw[(hf b z).1]at e;cases e
 have NB:X.env.locals∉bq:=λz=>(hf _ z).2.1 rfl
 refine I.step (g':=s.gens) (d':=s.drawn) (ch:=bq) (λb af=>?_) (λb o _ _ ai e _=>k b o ai e) (λb o _ _ ai e _=>⟨o.slots,k b o ai e⟩) (λ_ _ _ _ n=>n)
  (λb o ai e=>⟨o,k b o ai e⟩) (λ_ _ e=>e) (λ_ _ _ e=>e) (λb bt e=>⟨#[],by rw[e];simp⟩) (λm hm=>?_) (λb u e=>?_) I.bare
 .obtain⟨_,f1,_,eE,f4,eQ⟩:=hf b af;exact⟨eE,f1,f4,eQ⟩
 .obtain⟨o,ab,aT,ar,r⟩:=hm;exact⟨o,ab,aT,k _ o NB ar,r⟩
 .refine(I.bP b u e).jS (λc v ai q=>k c v ?_ q) (λ_ q=>q) λ_ _ q=>q
  rcases ai with z|z
  .rw[z];exact q3 b u e
  .exact q3 c _ z
def Sp{a:Addr}{o:d8}(I:Inv X pins σ H s)(f5:H a=none)(h0:X.eK.heap.objs.size<=a)(f6:a≠X.env.locals)(ai:∀x c,X.env.cells.lookup x=some c->c≠a)(aC:∀p∈X.e0++pins,p.1≠a)(new:ej X.prog X.w (upd H a o) s.heap a o):Inv X pins σ (upd H a o) s where
 ok:=I.ok
 os:=I.os
 bare:=I.bare
 base:=⟨I.base.keep,I.base.slot,λb bx e n ah=>by
   have:b≠a:=λz=>absurd (UK e) (Nat.not_lt.mpr (z▸h0))
   rw[dc this];exact I.base.free b bx e n ah,I.base.there,λb xs e=>by
   have q:=I.base.kF b xs e;rw[dc (iq q f5)];exact q,λb bx u e=>by
   have q:=I.base.jy b bx u e;rw[dc (iq q f5)];exact q,λb bt e=>by
   obtain⟨mo,q⟩:=I.base.kD b bt e;exact⟨mo,by rw[dc (iq q f5)];exact q⟩⟩
 loc:=I.loc
 cell:=I.cell
 free:=by rw[dc (V3 f6)];exact I.free
 ka:=λx c e=>by rw[dc (ai x c e)];exact I.ka x c e
 pin:=λp q=>by
  obtain⟨c3,c1,dx⟩:=I.pin p q;exact⟨c3,by rw[dc (aC p q)];exact c1,dx⟩
 bP:=λb u e=>by
  by_cases af:b=a
  .subst af;rw[eh]at e;cases e;exact new
  .rw[dc af]at e;exact(I.bP b u e).jS (λc v _ q=>q) (λc q=>by rw[dc (iq q f5)];exact q) λc xs q=>by rw[dc (iq q f5)];exact q
 len:=I.len
end
end bS
end
section
namespace bS
open PySem PySem.Spec PyProof.Rows bE
def boot_enumerate:bootBuiltins "enumerate"=some (.type "enumerate"):=by kernel_rfl
section
variable{xp:cj}{X:aV}{ak:List Nat}{m:ep}{f bg cZ:a0->br D}{a b:Expr}{elts:List Expr}{k:Nat}{pos p i4:Pos}{x:Str}
noncomputable def rM (K : W.Frag) (l : Addr) : jh :=
  ⟨fun i H => ∃ xs x, dW K H l xs /\ xs[i]? = some x,
   fun i H v ao => ∃ T x, H T = none /\ v = .ref T /\ ao = upd H T (.tup [.int (i : Nat), x]) /\ ∀ xs, dW K H l xs -> xs[i]? = some x,
   fun i H => ∃ xs, dW K H l xs /\ xs.length <= i⟩
noncomputable def Sn(e it l:Addr)(n:Nat)(h:Heap):Prop:=(∃old,IsEnum h e it (n:Nat) old)/\h.IsListIter it l n
def Sw{P:Program}{w:World}{K:W.Frag}{e it l:Addr}(dg:e≠it):Turn P w K (.Tuple elts k pos) (rM K l) [e,it] e (Sn e it l) where
 mem:=by simp
 obj:=λn h st c ai=>by
  obtain⟨⟨old,J⟩,⟨NR,eB,_,vK⟩⟩:=st;simp only[UI,Wl,Yj]at ai;rcases ai with rfl|rfl
  .exact⟨_,J,λv z=>by cases z⟩
  .exact⟨NR,eB,λv z=>by rw[vK]at z;cases z⟩
 keep:=λn h h' st k=>by
  obtain⟨⟨old,J⟩,a8⟩:=st;exact⟨⟨old,k e (by simp) _ J⟩,a8.at λo q=>k it (by simp) o q⟩
 item:=by
  intro X dK hw gs ai n pins s σ H E I hf st ba;subst dK hw gs;obtain⟨xs,x,aE,ah⟩:=ba;obtain⟨its,bG,cu,_⟩:=I.list aE;obtain⟨uf,LI,aY⟩:=bG.get ah;obtain⟨⟨old,J⟩,a8⟩:=st;refine wpAny_pyNext_enum_item J a8 cu.isList (x:=uf) (by simpa using LI) dg λg g1 g2 g3 ib JV=>⟨_,rfl,?_⟩
  refine wpAny_letOwnedTupleGo_enum (s:={ s with heap:=g,toks:=s.toks+1 }) g1 λg' fm bf=>?_
  have lt:∀c∈[e,it],c<s.heap.objs.size:=λc gS=>by
   simp only[UI,Wl,Yj]at gS;rcases gS with rfl|rfl
   .exact UK J
   .obtain⟨o,q,_⟩:=a8;exact UK q
  have keep:∀c o,c∉[e,it]->s.heap.get? c=some o->g'.get? c=some o:=λc o aD q=>by
   have o6:c≠e:=λw=>aD (by simp[w])
   exact bf.extBut _ _ o6 (JV c o o6 (λw=>aD (by simp[w])) q)
  have a7:Inv X pins σ H { s with heap:=g',toks:=s.toks+1 }:=E3 I keep hf;have fr:H s.heap.objs.size=none:=I.fresh;have cF:g'.get? s.heap.objs.size=some { cls:=.type "tuple",data:=.seq #[.int n s.toks,uf] }:=bf.extBut _ _ (X9 (lt e (by simp))) g3
  have cx:Inv X pins σ (upd H s.heap.objs.size (.tup [.int (n:Nat),x])) { s with heap:=g',toks:=s.toks+1 }:=by
   refine Sp a7 fr I.d3 (X9 I.lt) (λx c e w=>?_) (λpp sQ w=>?_) ⟨by show 2<=_;rw[sizeLine_eq];omega,[.int n s.toks,uf],.cons ⟨_,rfl⟩ (.cons aY .nil),⟨_,cF,rfl,_,rfl⟩⟩
   .obtain⟨v,o,ar,_⟩:=I.cell x c e;exact absurd (UK ar) (by rw[w];exact VT _)
   .exact absurd (UK (I.pin pp sQ).1) (by rw[w];exact VT _)
  refine⟨.ref s.heap.objs.size,upd H s.heap.objs.size (.tup [.int (n:Nat),x]),cx,rfl,⟨_,x,fr,rfl,rfl,λTj nq=>?_⟩,⟨⟨uf,fm⟩,g2.extBut bf.extBut (V3 dg)⟩,λc gS=>?_⟩
  .rw[I.CB nq aE];exact ah
  .rw[dc (UZ (lt c gS))];exact(hf c gS).1
 done:=by
  intro X dK hw gs ai n pins s σ H E I hf st ba;subst dK hw gs;obtain⟨xs,aE,TR⟩:=ba;obtain⟨its,bG,cu,_⟩:=I.list aE;obtain⟨⟨old,J⟩,a8⟩:=st;have aw:=bG.length;refine wpAny_pyNext_enum_end (I.ok.hd ai) J a8 cu.isList (by simp;omega) λg k=>⟨rfl,?_⟩
  exact E3 (t':=s.toks) I (λc o aD q=>k c o (λw=>aD (by simp[w])) q) hf
 self:=λ_ _ _ _ _ st h=>let ⟨⟨_,q⟩,_⟩:=st;wpAny_pyIter_enum q h
theorem Ab:∀(xs:List D)(j i:Nat){d:D},(Den.hh j xs)[i]?=some d->∃x,xs[i]?=some x/\d=.tup [.int ((j+i:Nat):Int),x]
 |[],j,i,d,h=>by simp[Den.hh]at h
 |x::xs,j,0,d,h=>by simp[Den.hh]at h;exact⟨x,rfl,h.symm⟩
 |x::xs,j,i+1,d,h=>by
  obtain⟨y,J,aa⟩:=Ab xs (j+1) i (by simpa[Den.hh] using h)
  exact⟨y,by simpa using J,by rw[aa];congr 3;omega⟩
theorem r4:∀(xs:List D)(j:Nat),(Den.hh j xs).length=xs.length
 |[],_=>rfl
 |x::xs,j=>by simp[Den.hh,r4 xs]
def Mg{K:W.Frag}{P:ax->ax->Prop}{G:ax}{l:Addr}{xs:List V}{ds:List D}(dK:∀aJ H1,P aJ H1->bM G aJ/\dW K H1 l xs)(r:bD K G ds xs):mQ K P (rM K l) (Den.hh 0 ds) where
 go:=λi aJ H1 h hi=>by
  obtain⟨_,aK⟩:=dK aJ H1 h;rw[r4,r.length]at hi;exact⟨xs,xs[i]'hi,aK,UJ _⟩
 kJ:=λi aJ H1 v aW d h ae hd ⟨T,x,cF,ev,m3,gb⟩=>by
  obtain⟨g,aK⟩:=dK aJ H1 h;obtain⟨a4,aj,rfl⟩:=Ab ds 0 i hd;obtain⟨bh,k1,k2⟩:=r.get aj;have c3:=gb xs aK;rw[k1]at c3;obtain rfl:bh=x:=Vs c3;subst ev m3;refine⟨upd aJ T (.tup [.int (i:Nat),bh]),Ext.put ae cF,T,[.int (i:Nat),bh],rfl,eh,?_⟩;have bO:=gg (o:=d8.tup [.int (i:Nat),bh]) (ae.free cF);exact⟨.int (i:Nat),[bh],rfl,by show V.int _=V.int _;congr 1;omega,bh,[],rfl,(k2.mono g).mono bO,rfl⟩
 stop:=λaJ H1 h=>by
  obtain⟨_,aK⟩:=dK aJ H1 h;exact⟨xs,aK,by rw[r4,r.length];exact UE _⟩
def Qk (hm : m = .view \/ m = .val) (ah : x = "enumerate") (ba : dH X x) (nh : X.aF x = none) (az : aR X a (bk xp X ak m bg)) (cA : starEach [a] X.env = [(false, eval a X.env)]) :
    gI X (.Tuple elts k i4) (.Call (.Name x p) [a] [] pos) (jT xp X ak m fun C => bg C >>= fun x => Den.r5 x) := by
  subst ah
  intro pins s σ H R I ⟨G, C, ae, hw⟩
  refine Call_ (hs I ba nh boot_enumerate (U8 (bI (kv az cA pos pins s σ H (fun ag aW => ∃ v bJ ds, ag = [v] /\ Ext G H bJ aW /\ cz X.K H bJ aW m (.lst ds) v /\
      ∀ cc aP ao, Ext G H aP ao -> mQ X.K (n3 m aP ao) cc (Den.hh 0 ds) -> (Den.hh 0 ds).length <= 16777216 -> R cc ao) I
    ⟨G, C, ae, b3 (bB.mp hw) (fun a4 q v aJ H1 aU aI => ?_) fun _ q => q⟩) fun us s1 ⟨ag, H1, a7, aI, v, aJ, ds, aj, aU, bG, hR⟩ => ?_) cA rfl))
  · cases a4 with
    | lst ds => exact ⟨v, aJ, ds, rfl, aU, aI, q⟩
    | _ => exact q.elim
  · subst aj
    obtain ⟨eg, rfl, PO⟩ := vals1 aI
    obtain ⟨l, xs, rfl, aw, aK, dK⟩ : ∃ l xs, v = V.ref l /\ dW X.K H1 l xs /\ bD X.K aJ ds xs /\ ∀ bJ aW, n3 m aJ H1 bJ aW -> bM aJ bJ /\ dW X.K aW l xs := by
      rcases hm with rfl | rfl
      · obtain ⟨l, xs, e, h, q⟩ := bG
        exact ⟨l, xs, e, h, q, fun bJ aW ⟨c3, c1⟩ => ⟨c3, jc c1 h⟩⟩
      · obtain ⟨l, xs, e, h, q⟩ := bG
        exact ⟨l, xs, e, jc aU.sub h, q, fun bJ aW ⟨c3, c1⟩ => ⟨c3, jc c1 (jc c3 h)⟩⟩
    cases PO
    obtain ⟨its, Uo, bc, LO⟩ := a7.list aw
    refine call_enumerate_list bc.isList fun g c3 c1 dx rE => ?_
    refine wpAny_pyIter_enum c3 ?_
    refine ⟨s1.heap.objs.size + 1, [s1.heap.objs.size + 1, s1.heap.objs.size], _, rM X.K l, H1, rfl, a7.kept (t' := s1.toks) rE, Sw ?_, ⟨⟨_, c3⟩, c1⟩, fun c ai => ?_, ?_⟩
    · intro z; have z : (_ : Nat) = _ := z; omega
    · have Bx : s1.heap.objs.size <= c := by
        simp only [UI, Wl, Yj] at ai
        rcases ai with rfl | rfl
        · exact Nat.le_add_right _ _
        · exact UE _
      exact a7.qn Bx (a7.bP.fresh Bx)
    · refine hR (rM X.K l) aJ H1 aU (Mg (G := aJ) dK aK) ?_
      rw [r4, aK.length]
      have := sizeLine_eq
      omega
end
end bS
end
section
namespace bS
open PySem PySem.Spec PyProof.Rows bE
section
variable{xp:cj}{X:aV}{ak:List Nat}{m:ep}{f:a0->br D}{e dv iter:Expr}{pos bc i4 ap eP:Pos}{i:Nat}{x n:Str}{rp:List Stmt}
def Hd{o:Option (Option D)}{Q:Unit->Prop}{E:Nat->Prop}(h:dd (Den.p9 o) Q E):∃ds,o=some (some (.lst ds))/\Q ():=by
 cases o with
 |none=>exact h.elim
 |some o =>
  cases o with
  |none=>exact h.elim
  |some d =>
   cases d with
   |lst ds=>exact⟨ds,rfl,h⟩
   |_=>exact h.elim
def KR(cA:starEach [e] X.env=[(false,eval e X.env)]):((backTo eP (starEach [e] X.env)).all (λx=>!x.1)&&(backToKw eP (keywordEach [] X.env)).all (λx=>x.1.isSome)&&decide ([e].length+([]:List Keyword).length+(if ([]:List Keyword).isEmpty then 0 else 1)<30))=true:=by
 rw[cA];rfl
def P1(hm:i∈ak)(aD:n="append")(bj:X.N[i]?=some x)(aQ:hE X.env.scope x)(J:(x==("__debug__":Str))=false)(aa:(x==("__classdict__":Str))=false)(qD:(ap.endLine==eP.line)=true)(he:aR X e (bk xp X ak .val f))(cA:starEach [e] X.env=[(false,eval e X.env)]):
  eU X (.Expr (.Call (.Attribute (.Name x bc) n ap) [e] [] eP) i4) (ew xp X ak λC=>Den.p9 C[i]?>>=λ_=>f C>>=λd=>Den.rT C[i]? d>>=λy=>.ok (.cV (C.set i (some y)))):=by
 subst aD;intro pins s σ H T I ⟨cN,bR,G,C,af,hw⟩;refine O5 (Om PySem.F.plainAttrs_list PySem.F.slot_list_append PySem.F.type_list_append CL (i5 bj aQ J aa) (kv he cA) rfl (KR cA) qD cA rfl) rfl pins s σ H T I ?_;obtain⟨ds,q,hw⟩:=Hd (bB.mp hw);obtain⟨a,o,k1,k2,bl,xs,rfl,b0⟩:=af.bO.lst i (.lst ds) q hm rfl;refine⟨_,k1,.inl ⟨rfl,xs,dW.of k2⟩,?_⟩;refine⟨G,C,af.bO,b3 (bB.mp hw) (λd k v aJ H1 aU aI=>?_) λ_ z=>z.mono af.ext.h⟩
 have m8:=af.step aU;rw[q,Den.u2]at k;have k:=bB.mp k
 by_cases au:ds.length<Den.SZ
 .rw[if_pos au]at k;have Kj:H1 a=some (.lst xs):=aU.h _ _ k2;have Kh:aJ a=none:=aU.new a bl (by rw[k2];exact λz=>nomatch z)
  refine⟨a,xs,v,rfl,rfl,Kj,by rw[<- b0.length,<- lM];exact au,?_⟩
  exact k σ aJ _ (m8.write (d:=.lst ds) (e:=.lst (ds++[d])) hm q rfl rfl k1 Kh ⟨_,rfl,(b0.mono aU.g).snoc aI⟩)
 .rw[if_neg au]at k;exact k.elim
noncomputable def iY(aJ bR:ax):ax:=λa=>match aJ a with
 |some o=>some o
 |none=>bR a
def qO{aJ bR:ax}{a:Addr}{o:d8}(h:aJ a=some o):iY aJ bR a=some o:=by unfold iY;rw[h]
def mm{aJ bR:ax}{a:Addr}(h:aJ a=none):iY aJ bR a=bR a:=by unfold iY;rw[h]
variable{K:W.Frag}{cN bR aJ H1 G H:ax}{C:a0}{σ:bV}
def D3(x:Ext cN bR aJ H1):bM bR (iY aJ bR):=λa o h=>by
 cases q:aJ a with
 |none=>rw[mm q];exact h
 |some bN =>
  rw[qO q];have aj:=x.sub a bN q;have av:=x.h a o h;rw[aj]at av;exact av
def Jw(x:Ext cN bR aJ H1)(y:Ext cN bR G H)(s:bM aJ G):Ext aJ (iY aJ bR) G H where
 g:=s
 h:=λa o e=>by
  cases q:aJ a with
  |some bN=>rw[qO q]at e;cases e;exact y.sub a o (s a o q)
  |none=>rw[mm q]at e;exact y.h a o e
 sub:=y.sub
 new:=λa aj av=>by
  rw[mm aj]at av;refine y.new a ?_ av;cases q:cN a with
  |none=>rfl
  |some o=>rw[x.g a o q]at aj;cases aj
 d4:=λb xs z=>(y.d4 b xs z).elim (λw=>.inl (by
  cases q:aJ b with
  |none=>rw[mm q];exact w
  |some o=>rw[qO q];rw[y.sub b o (s b o q)]at z;exact z)) .inr
def As(x:Ext cN bR aJ H1)(y:Ext aJ (iY aJ bR) G H):Ext cN bR G H where
 g:=x.g.trans y.g
 h:=(D3 x).trans y.h
 sub:=y.sub
 new:=λa aj av=>by
  have q:=x.new a aj av;exact y.new a q (by rw[mm q];exact av)
 d4:=λb xs z=>(y.d4 b xs z).elim (λw=>by
  cases q:aJ b with
  |none=>rw[mm q]at w;exact .inl w
  |some o=>rw[qO q]at w;exact .inr (y.g _ _ (q.trans w))) .inr
def dT.re(x:Ext cN bR aJ H1)(h:dT K ak cN bR G H C σ)(s:bM aJ G):dT K ak aJ (iY aJ bR) G H C σ:=by
 refine⟨h.bO,Jw x h.ext s,λi ds a q e6 hi e=>?_⟩
 obtain⟨b,xs,k1,k2,bl,b0⟩:=h.bO.lst i ds q hi e6;rw[k1]at e;cases e;have:aJ a=none:=by
  cases z:aJ a with
  |none=>rfl
  |some o=>rw[s a o z]at bl;cases bl
 rw[mm this];exact h.own i ds a q e6 hi k1
def dT.back(x:Ext cN bR aJ H1)(h:dT K ak aJ (iY aJ bR) G H C σ):dT K ak cN bR G H C σ:=by
 refine⟨h.bO,As x h.ext,λi ds a q e6 hi e=>?_⟩
 have:=h.own i ds a q e6 hi e;cases z:aJ a with
 |some o=>rw[qO z]at this;cases this
 |none=>rw[mm z]at this;exact this
theorem dT.D7:∀{ts:List Nat}{ws:List D}{ag:List V}{C:a0}{σ:bV},(∀t∈ts,t∉ak)->dT K ak cN bR G H C σ->bD K G ws ag->dT K ak cN bR G H (Den.lz ts (ws.map some) C) (mF ts ag σ)
 |[],ws,ag,C,σ,_,h,r=>by simpa[Den.lz,mF] using h
 |t::ts,[],ag,C,σ,_,h,r=>by cases r;simpa[Den.lz,mF] using h
 |t::ts,w::ws,ag,C,σ,aS,h,⟨v,r,e,aI,a5⟩=>by
  subst e;exact dT.D7 (ts:=ts) (λz au=>aS z (List.mem_cons_of_mem _ au)) (h.rn (aS t List.mem_cons_self) aI) a5
def JQ(g:D->a0->br Den.fh)(d:D)(ds:List D)(C:a0):Den.forL g (d::ds) C=g d C>>=λr=>match r with
  |.cV dj=>Den.forL g ds dj
  |.ec x=>.ok (.ec x):=rfl
def Qh {k : Nat} {ts : List Nat} {jx : a0 -> br (List D)} {sl : a0 -> br Den.fh} (aC : PassesOwn (model X.prog X.w) X.A X.env X.cR) (ai : X.calm = true) (LG : ∀ t ∈ ts, t ∉ ak) (hi : gI X dv iter (jT xp X ak .val jx)) (ba : iE X dv (wq X.K k ts)) (af : gJ X rp (ew xp X ak sl))
    (ae : ∀ z, foldedSetIterable iter X.env z = pure z) : eU X (.For dv iter rp [] pos) (ew xp X ak fun C => jx C >>= fun ds => Den.forL (fun d dj => Den.fA k d >>= fun ag => sl (Den.lz ts ag dj)) ds C) := by
  intro pins s σ H T I ⟨cN, bR, G, C, iO, hw⟩
  refine O6 aC ai hi ba af ae pins s σ H T I ?_
  refine ⟨G, C, iO.bO, b3 (bB.mp hw) (fun ds hr cc aJ H1 aU lj au => ?_) fun _ q => q.mono iO.ext.h⟩
  have ux : Ext cN bR aJ H1 := iO.ext.trans aU
  have Q4 := D3 ux
  refine ⟨fun j m dy ao => j + m = ds.length /\ ∃ aP dj, dT X.K ak aJ (iY aJ bR) aP ao dj dy /\ dd (Den.forL (fun d dj => Den.fA k d >>= fun ag => sl (Den.lz ts ag dj)) (ds.drop j) dj) (sh X.K ak cN bR T) (fun c => gK xp X c bR),
    ⟨ds.length, by omega, aJ, C, dT.re ux (iO.step aU) (bM.refl _), by simpa using hr⟩, ?_⟩
  rintro j m dy ao ⟨aH, aP, dj, cv, eR⟩
  have m7 : n3 .val aJ H1 aP ao := ⟨cv.ext.g, cv.bO.sub⟩
  by_cases cg : j < ds.length
  · refine .inr ⟨lj.go j aP ao m7 cg, fun pI aW => (j + 1) + (m - 1) = ds.length /\ ∃ bJ pH, dT X.K ak aJ (iY aJ bR) bJ aW pH pI /\ dd (Den.forL (fun d dj => Den.fA k d >>= fun ag => sl (Den.lz ts ag dj)) (ds.drop (j + 1)) pH) (sh X.K ak cN bR T) (fun c => gK xp X c bR),
      fun pI aW aa => ⟨m - 1, by omega, aa⟩, fun v aW aA => ?_⟩
    have hd : ds[j]? = some ds[j] := UJ cg
    obtain ⟨bJ, bu, i7⟩ := lj.kJ j aP ao v aW ds[j] m7 cv.bO.sub hd aA
    have QJ := cv.step bu
    have Ij : ds.drop j = ds[j] :: ds.drop (j + 1) := Vr cg
    rw [Ij, JQ] at eR
    have eR := bB.mp (bB.mp eR)
    refine ⟨bJ, ds[j], bu.sub, i7, ?_⟩
    cases q : Den.fA k ds[j] with
    | bad => rw [q] at eR; exact eR
    | exc c =>
      exfalso
      cases k with
      | zero => cases q
      | succ k =>
        cases f7 : ds[j] with
        | tup zs =>
          rw [f7] at q
          have Ku : Den.fA (k + 1) (.tup zs) = if zs.length = k + 1 then .ok (zs.map some) else .bad := rfl
          rw [Ku] at q
          split at q <;> cases q
        | _ => rw [f7] at q; cases q
    | ok os =>
      rw [q] at eR
      intro ws ag vQ PV
      subst vQ
      refine ⟨aJ, iY aJ bR, bJ, _, dT.D7 LG QJ PV, b3 eR (fun r Cm => ?_) fun c z => z.mono Q4⟩
      cases r with
      | cV pH => exact fun pJ j0 b2 QK => ⟨by omega, j0, pH, QK, Cm⟩
      | ec d => exact fun ug j0 b2 g0 dn => Cm ug j0 b2 (As ux g0) dn
  · have ju : j = ds.length := by omega
    subst ju
    refine .inl ⟨lj.stop aP ao m7, ?_⟩
    rw [Xm] at eR
    exact eR dy aP ao (dT.back ux cv)
end
end bS
end
section
namespace bS
open PySem PySem.Spec PyProof.Rows bE
def xq(a k:List Int):decide (a.map (Sum.inl (β:=Str))=k.map Sum.inl)=decide (a=k):=by
 by_cases h:a=k
 .simp[h]
 .have:a.map (Sum.inl (β:=Str))≠k.map Sum.inl:=λz=>h ((List.map_inj_right (λa b=>Sum.inl.inj)).mp z)
  simp[h,this]
def z5(aB:List (List Int×Int))(k:List Int):iy (gP aB) (k.map Sum.inl)=(Den.h2 aB k).map V.int:=by
 induction aB with
 |nil=>rfl
 |cons p aB aO =>
  unfold iy Den.h2 gP at aO ⊢;rw[List.map_cons,List.find?_cons,List.find?_cons];dsimp only;rw[xq]
  by_cases h:p.1=k
  .simp[h]
  .simp only[decide_eq_false h];exact aO
def H7(aB:List (List Int×Int))(k:List Int)(n:Int):putK (gP aB) (k.map Sum.inl) (V.int n)=gP (Den.putN aB k n):=by
 have aj:((gP aB).any λdM=>decide (dM.1=k.map Sum.inl))=aB.any λp=>decide (p.1=k):=by
  induction aB with
  |nil=>rfl
  |cons p aB aO=>unfold gP at aO ⊢;rw[List.map_cons,List.any_cons,List.any_cons,aO,xq]
 have av:(gP aB).map (λdM=>if dM.1=k.map Sum.inl then(dM.1,V.int n) else dM)=gP (aB.map λp=>if p.1=k then(p.1,n) else p):=by
  unfold gP;rw[List.map_map,List.map_map];refine VH λp _=>?_
  have:=xq p.1 k
  by_cases h:p.1=k
  .simp[h]
  .have h':¬p.1.map (Sum.inl (β:=Str))=k.map Sum.inl:=by simpa[h] using this
   simp[h,h']
 unfold putK Den.putN;rw[aj]
 split
 .exact av
 .unfold gP;rw[List.map_append];rfl
theorem B7:∀{ds:List D}{k:List Int},Den.intsOf ds=some k->ds=k.map .int
 |[],_,h=>by cases h;rfl
 |.int i::ds,k,h=>by
  cases q:Den.intsOf ds with
  |none=>simp[Den.intsOf,q]at h
  |some cB =>
   simp only[Den.intsOf,q,Option.map_some,VR]at h;subst h;rw[B7 q];rfl
 |.cU::_,_,h=>by cases h
 |.aM _::_,_,h=>by cases h
 |.str _::_,_,h=>by cases h
 |.tup _::_,_,h=>by cases h
 |.lst _::_,_,h=>by cases h
 |.c2 _::_,_,h=>by cases h
 |.eD _::_,_,h=>by cases h
def r0{o:Option (Option D)}{aB:List (List Int×Int)}(h:Den.jr o=some aB):o=some (some (.c2 aB)):=by
 unfold Den.jr at h
 split at h
 .cases h;rfl
 .cases h
def Ck{o:Option (Option D)}{k:List Int}(h:Den.keyOf o=some k):o=some (some (.tup (k.map .int))):=by
 unfold Den.keyOf at h
 split at h
 .rw[B7 h]
 .cases h
def Ce(k:List Int):(k.map (Sum.inl (β:=Str))).map de=k.map V.int:=by rw[List.map_map];rfl
section
variable{xp:cj}{X:aV}{ak:List Nat}{m:ep}{pos bc bC d2 i4 tG ap eP:Pos}{i j:Nat}{x y:Str}{pins:List (Addr×Obj)}{σ:bV}{G H:ax}{s:Shared}{C:a0}
def yp(ae:ea X.K ak G H C σ)(hm:i∈ak){aB:List (List Int×Int)}(h:C[i]?=some (some (.c2 aB))):∃a,σ[i]?=some (some (V.ref a))/\H a=some (.eu (gP aB))/\G a=none:=by
 obtain⟨a,o,J,aa,aL,a8⟩:=ae.lst i _ h hm rfl;cases a8;exact⟨a,J,aa,aL⟩
def Ez(ae:ea X.K ak G H C σ)(hm:j∉ak){k:List Int}(h:C[j]?=some (some (.tup (k.map .int)))):∃b,σ[j]?=some (some (V.ref b))/\H b=some (.tup ((k.map (Sum.inl (β:=Str))).map de)):=by
 obtain⟨v,J,b,ys,rfl,aa,aL⟩:=ae.val j _ h hm;rw[jP aL]at aa;exact⟨b,J,by rw[Ce];exact ae.sub _ _ aa⟩
def Qf(hm:i∈ak)(bj:X.N.Nodup)(hi:X.N[i]?=some x)(ah:Loc X.env.scope x)(hf:X.fn x=true\/X.env.scope.names.lookup x=some .local):eU X (.Assign [.Name x bc] (.Dict [] [] tG) pos) (ew xp X ak λC=>.ok (.cV (C.set i (some (.c2 []))))):=by
 intro pins s σ H T I ⟨cN,bR,G,C,af,hw⟩;refine x2 bj hi ah Ox rfl hf pins s σ H T I ?_;intro p aC;exact hw _ G _ (af.tT (Ext.own af.bO.sub aC) hm rfl eh aC (af.bO.sub.free aC) rfl)
def Qd (bQ : X.A.units + 64 < cLine) (hm : i ∈ ak) (aH : j ∉ ak) (bj : X.N[i]? = some x) (aQ : hE X.env.scope x) (J : (x == ("__debug__" : Str)) = false) (aa : (x == ("__classdict__" : Str)) = false)
    (sx : X.N[j]? = some y) (kk : hE X.env.scope y) (sq : (y == ("__debug__" : Str)) = false) (kd : (y == ("__classdict__" : Str)) = false) : aR X (.Subscript (.Name x bc) (.Name y bC) pos) (bk xp X ak m fun C => Den.m1 C[i]? C[j]?) := by
  intro pins s σ H Q I ⟨G, C, ae, hw⟩
  refine Ov (by omega) (i5 bj aQ J aa) (i5 sx kk sq kd) (fun _ _ => rfl) pins s σ H Q I ?_
  dsimp only at hw
  unfold Den.m1 at hw
  cases aj : Den.jr C[i]? with
  | none => rw [aj] at hw; exact hw.elim
  | some aB =>
    cases av : Den.keyOf C[j]? with
    | none => rw [aj, av] at hw; exact hw.elim
    | some k =>
      rw [aj, av] at hw
      dsimp only at hw
      obtain ⟨a, k1, k2, bl⟩ := yp ae hm (r0 aj)
      obtain ⟨b, b0, jK⟩ := Ez ae aH (Ck av)
      cases bF : Den.h2 aB k with
      | none => rw [bF] at hw; exact hw.elim
      | some n =>
        rw [bF] at hw
        refine ⟨_, k1, _, b0, a, .int n, rfl, ?_, hw _ G H (Ext.refl ae.sub) (by cases m <;> rfl)⟩
        have := kK.t k2 jK
        rw [z5, bF] at this
        exact this
def Qe (bQ : X.A.units + 64 < cLine) (hm : i ∈ ak) (aH : j ∉ ak) (bj : X.N[i]? = some x) (aQ : hE X.env.scope x) (J : (x == ("__debug__" : Str)) = false) (aa : (x == ("__classdict__" : Str)) = false)
    (sx : X.N[j]? = some y) (kk : hE X.env.scope y) (sq : (y == ("__debug__" : Str)) = false) (kd : (y == ("__classdict__" : Str)) = false) (qD : (ap.endLine == eP.line) = true) {zx ck : Nat} {jO aK a6 bT c9 : Pos} :
    eU X (.Assign [.Subscript (.Name x bc) (.Name y bC) d2] (.BinOp (.Call (.Attribute (.Name x jO) "get" ap) [.Name y aK, .Constant (.int 0) zx a6] [] eP) .Add (.Constant (.int 1) ck bT) c9) pos) (ew xp X ak fun C => Den.oo C[i]? C[j]? >>= fun d => .ok (.cV (C.set i (some d)))) := by
  intro pins s σ H T I ⟨cN, bR, G, C, af, hw⟩
  refine O4 (by omega) (i5 bj aQ J aa) (i5 sx kk sq kd) (Dh C2 (Ow (by omega) (i5 bj aQ J aa) (i5 sx kk sq kd) xX ⟨rfl, rfl, qD, rfl⟩) xX) rfl pins s σ H T I ?_
  have hw := bB.mp hw
  unfold Den.oo at hw
  cases aj : Den.jr C[i]? with
  | none => rw [aj] at hw; exact hw.elim
  | some aB =>
    cases av : Den.keyOf C[j]? with
    | none => rw [aj, av] at hw; exact hw.elim
    | some k =>
      rw [aj, av] at hw
      dsimp only at hw
      obtain ⟨a, k1, k2, bl⟩ := yp af.bO hm (r0 aj)
      obtain ⟨b, b0, jK⟩ := Ez af.bO aH (Ck av)
      by_cases au : aB.length < 1000
      · rw [if_pos au] at hw
        have ba := kK.t k2 jK
        rw [z5] at ba
        have ev : ((Den.h2 aB k).map V.int).getD (.int 0) = .int ((Den.h2 aB k).getD 0) := by cases Den.h2 aB k <;> rfl
        refine ⟨_, k1, a, rfl, .inr ⟨_, .inl k2⟩, _, b0, _, ba, ?_⟩
        refine ⟨_, _, ev, rfl, _, k1, _, b0, a, _, rfl, pM.t k2 jK (by unfold gP; rw [List.length_map, sizeLine_eq]; omega), ?_⟩
        rw [H7]
        exact hw σ G _ (af.write (d := .c2 aB) hm (r0 aj) rfl rfl k1 bl rfl)
      · rw [if_neg au] at hw; exact hw.elim
theorem z3(d4:∀b xs,H b=some (.tup xs)->G b=some (.tup xs)){K:W.Frag}:∀{aB:List (List Int×Int)}{xs:List (List Key×Addr×Value)},Paired (λ(p:List Key×V)(q:List Key×Addr×Value)=>p.1=q.1/\H q.2.1=some (.tup (p.1.map de))/\RelV p.2 q.2.2) (gP aB) xs ->
  bD K G (aB.map λp=>.tup (p.1.map .int)) (xs.map λq=>V.ref q.2.1)
 |[],_,h=>by cases h;rfl
 |p::aB,_,h=>by
  cases h with
  |@cons _ q _ xs J aa =>
   refine⟨V.ref q.2.1,_,rfl,⟨q.2.1,p.1.map V.int,rfl,d4 _ _ ?_,?_⟩,z3 d4 aa⟩
   .have:=J.2.1;dsimp only at this;rw[Ce]at this;exact this
   .exact ints_rep p.1
 where ints_rep {K:W.Frag} {G:ax}:∀ns:List Int,bD K G (ns.map Den.D.int) (ns.map V.int)
  |[]=>rfl
  |n::ns=>⟨.int n,ns.map V.int,rfl,rfl,ints_rep ns⟩
theorem Fl:∀xs:List (List Key×Addr×Value),Vals (xs.map λq=>V.ref q.2.1) (xs.map λq=>Value.ref q.2.1)
 |[]=>.nil
 |q::xs=>.cons (show RelV (V.ref q.2.1) (Value.ref q.2.1) from rfl) (Fl xs)
def Qg(ai:X.calm=true)(ah:x="sorted")(k4:dH X x)(hO:X.aF x=none)(hm:i∈ak)(bj:X.N[i]?=some y)(aQ:hE X.env.scope y)(J:(y==("__debug__":Str))=false)(aa:(y==("__classdict__":Str))=false):
  aR X (.Call (.Name x bc) [.Name y bC] [] pos) (bk xp X ak .fresh λC=>Den.ou C[i]?):=by
 subst ah;intro pins s σ H Q I ⟨G,C,ae,hw⟩;have b5:X.A.handled=none:=I.ok.hd ai;dsimp only at hw;unfold Den.ou at hw;cases aj:Den.jr C[i]? with
 |none=>rw[aj]at hw;exact hw.elim
 |some aB =>
  rw[aj]at hw;dsimp only at hw;obtain⟨hN,jz,hw⟩:=Fu hw;obtain⟨a,k1,k2,bl⟩:=yp ae hm (r0 aj);refine Vt (hs I k4 hO (u:=.builtin "sorted") (by kernel_rfl) ?_)
  refine V6 ?_ rfl rfl;show wpAny _ _ (spliced ((false,eval (.Name y bC) X.env)::[])) _ _ s;refine VW ?_;refine bI (i5 bj aQ J aa pins s σ H (λv H1=>v=.ref a/\H1=H) I ⟨_,k1,rfl,rfl⟩) λu s1 ⟨v,H1,a7,aI,av,bF⟩=>?_
  subst av bF;cases aI;refine V9 ?_;obtain⟨c3,c1,xs,dx,o,ab,aT,rE,To,Tp,Fx,Uz⟩:=(show ej X.prog X.w H1 s1.heap a (.eu (gP aB)) from a7.bP a _ k2);have aZ:=z3 (K:=X.K) ae.d4 dx;have hsz:ab.size=xs.length:=by rw[<- Array.length_toList,Fx,List.length_map]
  have TU:aB.length=xs.length:=by have:=aZ.length;simpa using this
  rw[List.length_map]at jz;refine tZ (PySem.W.kdu_collect (A:=X.A.in1) (Pv.Rn c1 To Tp) b5 rE (by rw[hsz,sizeLine_eq];omega) λh' tk acc aq gR=>?_)
  have cx:Inv X pins σ H1 { s1 with heap:=h',toks:=tk }:=a7.kept aq;have dX:acc.toList=xs.map λq=>Value.ref q.2.1:=by
   refine Cc (P:=Pv.uN ab) (l:=xs.map λq=>Value.ref q.2.1) (by rw[List.length_map,<- hsz];exact gR) λj v aQ=>?_
   obtain⟨e,he,rfl⟩:=aQ;rw[<- U9,Fx,U1]at he;cases q:xs[j]? with
   |none=>rw[q]at he;cases he
   |some x=>rw[q]at he;cases he;rw[U1,q];rfl
  rw[dX];refine tY b5 cx ae.sub aZ (Fl xs) hN (by rw[List.length_map];exact jz) λv aP ao x r=>hw v aP ao x r
end
end bS
end
section
namespace bS
open PySem PySem.Spec PyProof.Rows bE
def JR{K:W.Frag}{G H aP ao:ax}{d:D}{v:V}(x:Ext G H aP ao)(r:cz K H aP ao .fresh d v):∃bJ,Ext G H bJ ao/\Rep K bJ d v:=by
 cases d with
 |lst ds =>
  obtain⟨a,xs,rfl,J,aa,aL,a8⟩:=r;refine⟨upd aP a (.lst xs),⟨x.g.trans (gg aL),x.h,λb o q=>?_,λb aK a6=>?_,λb xs q=>(x.d4 b xs q).imp id λz=>gg aL _ _ z⟩,a,xs,rfl,.inl (.inl eh),a8.mono (gg aL)⟩
  .by_cases af:b=a
   .subst af;rw[eh]at q;rw[J];exact q
   .rw[dc af]at q;exact x.sub b o q
  .rw[dc (λz=>a6 (by rw[z];exact aa))];exact x.new b aK a6
 |_=>exact⟨aP,x,r⟩
section
variable{xp:cj}{X:aV}{ak:List Nat}{jx:a0->br (List D)}{fQ:a0->br D}{cT:a0->br Bool}{elt target iter:Expr}{ifs:List Expr}{scope:Scope}{pos bc i4:Pos}{xs cJ:List Str}{k i:Nat}{y:Str}
def P2 (ai : X.calm = true) (hq : ∀ i ∈ ak, i < X.N.length) (B : n1 X scope xs cJ) (aq : Den.eT k target = some xs) (nv : ∀ x, foldedSetIterable iter X.env x = pure x)
    (hi : gI X target iter (jT xp X ak .view jx)) (he : ∀ s3 b2 bq pins, aR (gk X scope cJ s3 b2 bq pins) elt (bk xp (gk X scope cJ s3 b2 bq pins) ak .val fQ)) (aS : pY xp X ak scope cJ ifs cT)
    (bj : X.N.Nodup) (aA : X.N[i]? = some y) (ah : Loc X.env.scope y) (hf : X.fn y = true \/ X.env.scope.names.lookup y = some .local) :
    eU X (.Assign [.Name y bc] (.ListComp elt [⟨target, iter, ifs, 0⟩] scope pos) i4) (ew xp X ak fun C => (jx C >>= fun ds => Den.ir (Den.df (iM k cT fQ C) ds) >>= fun ys => .ok (.lst ys)) >>= fun d => .ok (.cV (C.set i (some d)))) := by
  have mj : ∃ b : Bool, swapsWith (.ListComp elt [⟨target, iter, ifs, 0⟩] scope pos) (some (.Name y bc)) i4.line X.env = pure b := ⟨_, rfl⟩
  obtain ⟨b, mj⟩ := mj
  cases b with
  | false =>
    by_cases hm : i ∈ ak
    · exact DW hm bj aA ah (yh ai hq B aq nv hi he aS) mj hf
    · exact DV hm bj aA ah (aR.val (yh ai hq B aq nv hi he aS)) mj hf
  | true =>
    intro pins s σ H T I ⟨cN, bR, G, C, af, hw⟩
    rw [exec_Assign_Name_used _ _ _ _ mj]
    refine UA (wpAny_standAt (UA ?_))
    show wpAny _ X.A (do let _ <- comprehension (.ListComp elt [⟨target, iter, ifs, 0⟩] scope pos) scope X.env _ (newList []) false (eval iter X.env) (some (assign (.Name y bc) X.env))) _ _ s
    refine UA (VK (zW ai hq B aq nv hi he aS I af.bO (use := some (assign (.Name y bc) X.env)) (Qc := fun _ s' => uT X pins T .next s') ?_) (fun _ s' aE => wpAny_pure (wpAny_pure aE)) fun _ _ e => e)
    have hw := bB.mp (bB.mp hw)
    refine bB.mpr (b3 hw (fun ds k1 => ?_) fun _ q => q.mono af.ext.h)
    refine b3 (bB.mp k1) (fun ys k2 s4 ao aP bU c5 nJ x r aD KS inv => ?_) fun _ q => q.mono af.ext.h
    have eL : Inv X pins σ ao s4 := inv s4.heap (Wd _ _)
    obtain ⟨q5, ab, aT, ar, aZ⟩ := id aD
    have Li : ∀ v, q5.data ≠ .cell v := fun v z => by
      have := aZ.1
      rw [z] at this; cases this
    obtain ⟨f0, f1, f2, eE, f4, eQ⟩ := KS
    have FH : Inv X (pins ++ [(bU, q5)]) σ ao s4 := eL.rb fun p aC => by
      rcases UY.mp aC with z | z
      · exact eL.pin p (UP _ z)
      · have z := Vi.mp z
        subst z
        exact ⟨ar, f0, f1, f2, Li⟩
    show wpAny _ X.A (assign (.Name y bc) X.env (.ref c5)) _ _ s4
    refine wpAny_assign_Name (yw FH bj aA ah (v := .ref c5) rfl (fun s5 jg => ?_) hf)
    have cP : s5.heap.get? bU = some q5 := (jg.pin (bU, q5) (UP _ (UP _ (Vi.mpr rfl)))).1
    refine ⟨nJ, ⟨q5, ab, aT, cP, aZ⟩, fun h' cv => ⟨σ.set i (some (.ref c5)), ao, ?_, ?_⟩⟩
    · exact (jg.pD).turned (t' := s5.toks) (fun b o af e => (cv.2 b af).trans e) f0 f1 eE f4 eQ
    · by_cases hm : i ∈ ak
      · exact k2 _ aP ao (af.D8 x hm r)
      · obtain ⟨bJ, bu, a5⟩ := JR x r
        exact k2 _ bJ ao ((af.step bu).rn hm a5)
end
end bS
end
section
namespace bS
open PySem PySem.Spec PyProof.Rows bE
noncomputable def nice:Expr->Bool
 |.Starred ..=>false
 |.Set ..=>false
 |.SetComp ..=>false
 |.DictComp ..=>false
 |.Slice ..=>false
 |_=>true
def nn{α:Type}{a:α}{p:Prop}(h:none=some a):p:=nomatch h
def ix{x:Expr}{y:Str}(h:Den.h1 x=some y):∃p,x=.Name y p:=by
 cases x with
 |Name z p=>cases h;exact⟨p,rfl⟩
 |_=>exact nn h
def yJ{x:Expr}{c:Const}(h:Den.um x=some c):∃k p,x=.Constant c k p:=by
 cases x with
 |Constant z k p=>cases h;exact⟨k,p,rfl⟩
 |_=>exact nn h
def SV{x:Expr}{ab:List Expr}(h:Den.Ff x=some ab):∃k p,x=.Tuple ab k p:=by
 cases x with
 |Tuple z k p=>cases h;exact⟨k,p,rfl⟩
 |_=>exact nn h
def SQ{x:Expr}{ab:List Expr}(h:Den.Fc x=some ab):∃p,x=.List ab p:=by
 cases x with
 |List z p=>cases h;exact⟨p,rfl⟩
 |_=>exact nn h
def yG{x a b:Expr}{o:Operator}(h:Den.ui x=some (a,o,b)):∃p,x=.BinOp a o b p:=by
 cases x with
 |BinOp l o r p=>cases h;exact⟨p,rfl⟩
 |_=>exact nn h
def SW{x a:Expr}{o:UnaryOp}(h:Den.Fg x=some (o,a)):∃p,x=.UnaryOp o a p:=by
 cases x with
 |UnaryOp o r p=>cases h;exact⟨p,rfl⟩
 |_=>exact nn h
def E8{x a:Expr}{os:List CmpOp}{ys:List Expr}(h:Den.yI x=some (a,os,ys)):∃p,x=.Compare a os ys p:=by
 cases x with
 |Compare l o r p=>cases h;exact⟨p,rfl⟩
 |_=>exact nn h
def uj{x:Expr}{o:BoolOp}{ab:List Expr}{p:Pos}(h:Den.vBool x=some (o,ab,p)):x=.BoolOp o ab p:=by
 cases x with
 |BoolOp o ab p=>cases h;rfl
 |_=>exact nn h
def yM{x a b:Expr}(h:Den.uq x=some (a,b)):∃p,x=.Subscript a b p:=by
 cases x with
 |Subscript l r p=>cases h;exact⟨p,rfl⟩
 |_=>exact nn h
def SR{x:Expr}{a b c:Option Expr}(h:Den.Fe x=some (a,b,c)):∃p,x=.Slice a b c p:=by
 cases x with
 |Slice l r t p=>cases h;exact⟨p,rfl⟩
 |_=>exact nn h
def yH{x f:Expr}{ab:List Expr}{ks:List Keyword}(h:Den.uk x=some (f,ab,ks)):∃p,x=.Call f ab ks p:=by
 cases x with
 |Call l r t p=>cases h;exact⟨p,rfl⟩
 |_=>exact nn h
def iw{x:Expr}{y:Str}{ab:List Expr}(h:Den.hZ x=some (y,ab)):∃p q,x=.Call (.Name y p) ab [] q:=by
 unfold Den.hZ at h
 split at h
 .rename_i f jw aj;obtain⟨q,rfl⟩:=yH aj
  split at h
  .rename_i z av;obtain⟨p,rfl⟩:=ix av;cases h;exact⟨p,q,rfl⟩
  .cases h
 .cases h
def Fb{x a:Expr}{kc:List Comprehension}{sc:Scope}(h:Den.E9 x=some (a,kc,sc)):∃p,x=.ListComp a kc sc p:=by
 cases x with
 |ListComp l r t p=>cases h;exact⟨p,rfl⟩
 |_=>exact nn h
def fc{g:Den.Gt}{ct:Den.b4}{v:Bool}{e:Den.E}{x:Expr}(h:Den.bX g ct v e x=true):nice x=true:=by
 cases aD:nice x with
 |true=>rfl
 |false =>
  exfalso;cases x<;>first|(cases aD;done)|skip
  all_goals (cases e<;>exact Vo h)
def nS{e:Expr}{ab:List Expr}{env:Env}(h:nice e=true):starEach (e::ab) env=(false,eval e env)::starEach ab env:=by
 cases e<;>first|rfl|cases h
def hy{e:Expr}{env:Env}(h:nice e=true):starEach [e] env=[(false,eval e env)]:=nS h
def Rq{e bf:Expr}{env:Env}(h:nice e=true)(h':nice bf=true):starEach [e,bf] env=[(false,eval e env),(false,eval bf env)]:=by rw[nS h,hy h']
def OV{ab:List Expr}{env:Env}{pos:Pos}(h:∀e∈ab,nice e=true):(backTo pos (starEach ab env)).any (·.1)=false:=by
 induction ab with
 |nil=>rfl
 |cons e ab aO =>
  rw[nS (h e List.mem_cons_self)];show(false||(backTo pos (starEach ab env)).any (·.1))=false
  rw[aO λz au=>h z (List.mem_cons_of_mem _ au)];rfl
def Mm{b:Expr}(h:nice b=true):uS b:=by
 intro o i;cases b<;>first|rfl|cases h
def set_plain{b:Expr}{env:Env}(h:nice b=true):∀x,foldedSetIterable b env x=pure x:=by
 intro x;cases b<;>first|rfl|cases h
def CG{b:Expr}{op:CmpOp}(h:nice b=true):behindInMarks op b=false:=by
 cases b<;>first|rfl|cases h
def RB{e:Expr}{t:Option Expr}{n:Nat}{env:Env}(h:nice e=true)(ai:Den.CP e=true):swapsWith e t n env=pure false:=by
 cases e<;>first|rfl|(cases ai;done)|(cases h;done)
noncomputable def pK:List Str:=["len","isinstance","int","bool","str","tuple","list","sorted","set","range","enumerate"]
structure ez(P:Program)(w:World)(K:W.Frag)(aF:Str->Option Value)(base:Heap)(xp:cj)(k:Nat)(g:Den.Gt)(pg:Den.dk)(Φ:Den.dC):Prop where
 fn:∀(f:Nat)(x:Str),g.fns[f]?=some x->∃bg fd bt,aF x=some (.ref bg)/\W.keepIn K (.ref bg)=true/\Binds K fd bt []/\jZ P w K aF base (jY P w xp) k bg fd bt (nR K (Φ f) bt.length)/\∀ds,ds.length≠bt.length->Φ f ds=.bad
 blt:∀x:Str,x∈pK->aF x=none
 l7:∀(j:Nat)(x:Str)(d:D),g.l7[j]?=some x->pg.cs[j]?=some d->∃v u,aF x=some u/\RelV v u/\∀G,Rep K G d v
structure dz(xp:cj)(k:Nat)(g:Den.Gt)(pg:Den.dk)(Φ:Den.dC)(X:aV)(ct:Den.b4):Prop where
 cH:ez X.prog X.w X.K X.aF X.base xp k g pg Φ
 room:fy k X.A
 units:X.A.units+64<cLine
 calm:X.calm=true
 nm:X.N=ct.N
 dU:ct.N.Nodup
 ak:∀i∈ct.ak,i<ct.N.length
 lc:∀x,ct.sc.names.lookup x=some .local->X.env.scope.names.lookup x=some .local
 og:∀x,(ct.sc.names.lookup x=some .cell\/ct.sc.names.lookup x=some .free)->(X.env.scope.names.lookup x=some .cell\/X.env.scope.names.lookup x=some .free)
 gl:∀x,ct.sc.names.lookup x=some .globalImplicit->X.env.kindOf x=some .globalImplicit
section
variable{xp:cj}{k:Nat}{g:Den.Gt}{pg:Den.dk}{Φ:Den.dC}{X:aV}{ct:Den.b4}
def dz.mH(h:dz xp k g pg Φ X ct){x:Str}(q:Den.kI ct.sc x=true):hE X.env.scope x:=by
 unfold Den.kI at q;simp only[Wg,VP]at q;rcases q with(q|q)|q
 .exact .inl (h.lc x q)
 .exact .inr (h.og x (.inl q))
 .exact .inr (h.og x (.inr q))
def dz.wD(h:dz xp k g pg Φ X ct){x:Str}(q:Den.l8 ct.sc x=true):dH X x:=by
 unfold Den.l8 at q;exact h.gl x (by simpa using q)
def ku{x:Str}(h:Den.okN x=true):(x==("__debug__":Str))=false/\(x==("__classdict__":Str))=false/\x≠"__name__":=by
 unfold Den.okN at h;simp only[UB,Vg]at h;exact⟨h.1.1,h.1.2,λz=>by rw[z]at h;exact absurd h.2 (by decide)⟩
theorem dz.blt(h:dz xp k g pg Φ X ct){x:Str}(q:Den.ee g ct.sc x=true)(aD:x∈pK):dH X x/\X.aF x=none:=by
 unfold Den.ee at q;simp only[UB,Vg]at q;exact⟨h.wD q.1.1.1,h.cH.blt x aD⟩
end
noncomputable def kn(v:Bool):ep:=if v then .view else .val
structure Res(xp:cj)(X:aV)(ak:List Nat)(v fr:Bool)(x:Expr)(f:a0->br D):Prop where
 dN:aR X x (bk xp X ak (kn v) f)
 fresh:fr=true->aR X x (bk xp X ak .fresh f)
 pt:dV X x (gB xp X ak f)
 dw:(∃op ab p,x=.BoolOp op ab p)->h3 X x (gB xp X ak f)
section
variable{xp:cj}{X:aV}{ak:List Nat}{v fr:Bool}{x:Expr}{f:a0->br D}
theorem Res.view(h:Res xp X ak v fr x f):aR X x (bk xp X ak .view f):=aR.view h.dN
theorem Res.val(h:Res xp X ak false fr x f):aR X x (bk xp X ak .val f):=h.dN
def Df(h:aR X x (bk xp X ak .val f)):aR X x (bk xp X ak (kn v) f):=by
 cases v with
 |true=>exact aR.view h
 |false=>exact h
def Res.q7(h:aR X x (bk xp X ak .val f))(aS:∀whole,isTrue x X.env whole=(do let v <- whole;standAt x.pos;holding [v] (truthy v)))(af:∀op ab p,x≠.BoolOp op ab p)(hf:fr=false):Res xp X ak v fr x f :=
 ⟨Df h,λz=>(by rw[hf]at z;cases z),mE (aR.view h) aS,λ⟨op,ab,p,e⟩=>absurd e (af op ab p)⟩
def Res.lu(h:aR X x (bk xp X ak .fresh f))(aS:∀whole,isTrue x X.env whole=(do let v <- whole;standAt x.pos;holding [v] (truthy v)))(af:∀op ab p,x≠.BoolOp op ab p):Res xp X ak v fr x f :=
 ⟨Df (aR.val h),λ_=>h,mE (aR.view h) aS,λ⟨op,ab,p,e⟩=>absurd e (af op ab p)⟩
def Res.mA(h:∀m,aR X x (bk xp X ak m f))(aS:dV X x (gB xp X ak f))(af:∀op ab p,x≠.BoolOp op ab p):Res xp X ak v fr x f :=
 ⟨h _,λ_=>h _,aS,λ⟨op,ab,p,e⟩=>absurd e (af op ab p)⟩
end
end bS
end
section
namespace bS
open PySem PySem.Spec PyProof.Rows bE
def qV(N xs:List Str):(Den.mask N xs).length=N.length:=by unfold Den.mask;rw[List.length_map]
structure pL(ct:Den.b4)(scope:Scope)(xs:List Str):Prop where
 kind:scope.kind=.function
 mz:∀y∈scope.names,y.2≠.cell
 names:∀y∈scope.names,y.2=.local->scope.names.lookup y.1=some .local
 eT:∀y∈xs,scope.names.lookup y=some .local
 loc:∀y∈scope.names,y.2=.local->y.1∈xs\/y.1=(".0":Str)
 fr:∀y∈scope.names,y.2=.free->ct.sc.names.lookup y.1=some .cell\/ct.sc.names.lookup y.1=some .free
 same:∀p∈(Den.mask ct.N xs).zip ct.N,p.1=p.2\/scope.names.lookup p.1=none
 dU:(Den.mask ct.N xs++xs).Nodup
 dot:(".0":Str)∉Den.mask ct.N xs++xs
section
variable{xp:cj}{k:Nat}{g:Den.Gt}{pg:Den.dk}{Φ:Den.dC}{X:aV}{ct:Den.b4}{scope:Scope}{xs:List Str}
def pL.block(aN:dz xp k g pg Φ X ct)(b:pL ct scope xs):n1 X scope xs (Den.mask ct.N xs++xs) where
 kind:=b.kind
 mz:=b.mz
 names:=b.names
 loc:=λy h=>b.loc (y,.local) (Vq h) rfl
 eT:=b.eT
 fr:=λy aA e=>aN.og y.1 (b.fr y aA e)
 len:=by rw[UM,qV,aN.nm]
 old:=λi y hi e ae=>by
  rw[aN.nm]at hi ⊢;rw[UW (by rw[qV];exact hi)]at e
  have au:((Den.mask ct.N xs).zip ct.N)[i]?=some (y,ct.N[i]):=by
   rw[List.getElem?_zip_eq_some];exact⟨e,UJ hi⟩
  have hm:=b.same _ (VB au);have aA:y∈Den.mask ct.N xs:=VB e;rcases hm with hm|hm
  .refine⟨by have hm:y=ct.N[i]:=hm;rw[UJ hi,<- hm],λah=>?_,λz=>b.dot (VA _ (z▸aA))⟩
   exact(Wu.mp b.dU).2.2 y aA y ah rfl
  .simp only at hm;rw[hm]at ae;cases ae
 new:=λj=>by
  rw[aN.nm,Vp (by rw[qV];omega),qV];congr 1;omega
 dU:=b.dU
def pL.ok(aN:dz xp k g pg Φ X ct)(b:pL ct scope xs)(s3:Shared)(b2:ax)(bq:List Addr)(pins:List (Addr×Obj)):dz xp k g pg Φ (gk X scope (Den.mask ct.N xs++xs) s3 b2 bq pins) ⟨Den.mask ct.N xs++xs,scope,ct.ak⟩ where
 cH:=aN.cH
 room:=aN.room
 units:=aN.units
 calm:=aN.calm
 nm:=rfl
 dU:=b.dU
 ak:=λi hi=>by
  have:=aN.ak i hi;show i<(Den.mask ct.N xs++xs).length;rw[UM,qV];omega
 lc:=λx h=>tM h (by decide)
 og:=λx h=>by
  rcases h with h|h
  .exact absurd rfl (b.mz _ (Vq h))
  .exact x9 h
 gl:=λx h=>tM h (by decide)
end
def GJ {ct : Den.b4} {sc : Scope} {xs : List Str} (h : Den.p5 ct sc xs = true) : pL ct sc xs := by
  unfold Den.p5 at h
  rw [UB, UB, UB, UB, UB, UB, UB, UB, UB] at h
  obtain ⟨⟨⟨⟨⟨⟨⟨⟨⟨J, aa⟩, aL⟩, a8⟩, _⟩, cP⟩, f3⟩, ic⟩, dJ⟩, l9⟩ := h
  exact {
    kind := Wf J
    mz := fun y aA => by simpa using UR.mp aa y aA
    names := fun y aA e => by
      have := UR.mp aL y aA
      rw [e] at this
      simpa using this
    eT := fun y aA => by
      have := UR.mp a8 y aA
      simp only [UB, VP] at this
      exact this.1
    loc := fun y aA e => by
      have := UR.mp cP y aA
      rw [e] at this
      simpa using this
    fr := fun y aA e => by
      have := UR.mp f3 y aA
      rw [e] at this
      simpa using this
    same := fun p aC => by
      have := UR.mp ic p aC
      simpa using this
    dU := Wf dJ
    dot := by simpa using l9 }
section
variable{xp:cj}{k:Nat}{g:Den.Gt}{pg:Den.dk}{Φ:Den.dC}{X:aV}{ct:Den.b4}{v:Bool}
def Oe{ab:List Expr}:fi X ab (λ_ _ _=>False):=λ_ _ _ _ _ _ _ h=>h.elim
def Qn{ak:List Nat}{m:ep}{f:a0->br D}{up:Den.gM}{c:Nat}{e:Expr}{x t:Str}{p eZ pos:Pos}(nf:dH X x)(hm:X.aF x=none)(aQ:bootBuiltins x=some (.builtin "isinstance"))(az:aR X e (bk xp X ak .view f))(aD:x≠"__name__")(gu:(x==("__debug__":Str))=false)(cA:starEach [e,.Name t eZ] X.env=(false,eval e X.env)::starEach [.Name t eZ] X.env):
  aR X (.Call (.Name x p) [e,.Name t eZ] [] pos) (bk xp X ak m λC=>f C>>=λd=>Den.iW up d (.cls c)>>=λb=>.ok (.aM b)):=by
 intro pins s σ H Q I ⟨G,C,ae,hw⟩;refine xW (r:=λ_ _ _=>False) (λ_ _ _ _ _ _ _ _ _ z=>z.elim) nf hm aQ (o9 az Oe cA) aD gu cA rfl pins s σ H Q I ?_
 refine⟨G,C,ae,b3 (bB.mp hw) (λa4 k v aJ H1 aU aI=>?_) λ_ q=>q⟩
 cases a4<;>first|exact k.elim|exact aI.elim
def P6{ak:List Nat}{bK:a0->br (List D)}{g5:List D->br D}{fn:Addr}{fd:FuncData}{bt:List Str}{x:Str}{e:Expr}{ab:List Expr}{p pos:Pos}(F:jZ X.prog X.w X.K X.aF X.base (jY X.prog X.w xp) k fn fd bt (nR X.K g5 bt.length))(aZ:fy k X.A)(ba:dH X x)(hm:X.aF x=some (.ref fn))(aq:W.keepIn X.K (.ref fn)=true)(af:Binds X.K fd bt [])(az:fi X (e::ab) (mG xp X ak bK))(aw:∀ds,ds.length≠bt.length->g5 ds=.bad)(gu:(x==("__debug__":Str))=false)(he:starEach (e::ab) X.env=(false,eval e X.env)::starEach ab X.env)(d1:(backTo pos (starEach ab X.env)).any (·.1)=false):
  aR X (.Call (.Name x p) (e::ab) [] pos) (bk xp X ak .val λC=>bK C>>=λds=>g5 ds):=by
 intro pins s σ H Q I ⟨G,C,ae,hw⟩;refine Oo (dvs:=[]) (ds:=[]) (E:=z9 xp X) F aZ ba hm aq af .nil Oh az gu he d1 pins s σ H Q I ?_;have hw:=bB.mp hw;refine⟨G,C,ae,?_⟩;cases q:bK C with
 |ok ds =>
  rw[q]at hw;intro ag aJ H1 aU aI;rw[VD]
  by_cases hlen:ds.length=bt.length
  .refine⟨by rw[<- aI.length];exact hlen,aJ,ds,aU.sub,(ae.ext aU).d4,aI,?_⟩
   refine b3 hw (λd k v bJ aW bu a5=>k v bJ aW (aU.trans bu) a5) λc z aW aa cO h9=>?_
   injection h9 with h9 _;have:c=cO:=by omega
   subst this;exact(z.mono aU.h).mono aa
  .have hw:dd (g5 ds) _ _:=hw;rw[aw ds hlen]at hw;exact hw.elim
 |exc c=>rw[q]at hw;exact hw
 |bad=>rw[q]at hw;exact hw
end
end bS
end
section
namespace bS
open PySem PySem.Spec PyProof.Rows bE
section
variable{xp:cj}{k:Nat}{g:Den.Gt}{pg:Den.dk}{Φ:Den.dC}
def GC(o:Den.Op)(x y:D)(c:Nat):Den.e3 o x y≠.exc c:=by
 refine CQ ?_ c;cases o<;>cases x<;>cases y<;>first|rfl|exact o7 rfl rfl
def M0(d:D)(c:Nat):Den.km d≠.exc c:=by
 intro h;cases d<;>simp only[Den.km]at h<;>first|(cases h;done)|(split at h<;>cases h)
def Rl(d:D)(c:Nat):(Den.dP d>>=λxs=>Den.sorted xs)≠.exc c:=by
 intro h;have key:∀xs:List D,Den.sorted xs≠.exc c:=λxs h=>by
  unfold Den.sorted at h
  split at h<;>cases h
 cases d with
 |tup xs=>exact key xs h
 |lst xs=>exact key xs h
 |_=>cases h
def QQ(d:D)(c:Nat):(Den.dP d>>=λxs=>Den.R.ok (Den.D.lst xs))≠.exc c:=by
 intro h;cases d<;>cases h
def QT(d:D)(c:Nat):(Den.dP d>>=λxs=>Den.R.ok (Den.D.tup xs))≠.exc c:=by
 intro h;cases d<;>cases h
def L4(d:D)(c:Nat):(match d with|.aM b=>Den.R.ok (Den.D.int (if b then 1 else 0))|_=>Den.R.bad)≠.exc c:=by
 intro h;cases d<;>cases h
def eA{x y:Str}(h:(x==y)=true):x=y:=by simpa using h
def Qw{X:aV}{ct:Den.b4}{ak:List Nat}{m:ep}{p:Den.eN}{f:a0->br D}{e:Expr}{x:Str}{q pos:Pos}(aN:dz xp k g pg Φ X ct)(aC:Den.rf p=true)(ah:x=Den.rd p)(af:Den.ee g ct.sc x=true)(az:aR X e (bk xp X ak .view f))(aD:nice e=true):
  aR X (.Call (.Name x q) [e] [] pos) (bk xp X ak .fresh λC=>f C>>=λd=>Den.lx pg.up p d):=by
 cases p with
 |len =>
  subst ah;obtain⟨J,aa⟩:=aN.blt af (by decide)
  exact DY (m:=.fresh) M0 f_len J aa (by kernel_rfl) az (by decide) (by decide) (hy aD)
 |sorted =>
  subst ah;obtain⟨J,aa⟩:=aN.blt af (by decide)
  exact DY (m:=.fresh) Rl (Jz aN.calm) J aa (by kernel_rfl) az (by decide) (by decide) (hy aD)
 |int =>
  subst ah;obtain⟨J,aa⟩:=aN.blt af (by decide)
  have aj:(λC=>f C>>=λd=>Den.lx pg.up .int d)=λC=>f C>>=λd=>(match d with|.aM b=>Den.R.ok (Den.D.int (if b then 1 else 0))|_=>Den.R.bad):=by
   funext C;congr 1;funext d;cases d<;>rfl
  rw[aj];exact yg (m:=.fresh) L4 f_int J aa (by kernel_rfl) az (by decide) (by decide) (hy aD)
 |inst t=>cases aC
 |fG=>cases aC
def pk{X:aV}{ct:Den.b4}(aN:dz xp k g pg Φ X ct){o:Den.gC}{op:CmpOp}(h:Den.rX o op=true):c7 X (compareOp op) (fF X.K (Den.dm o)):=by
 cases o<;>cases op<;>first|(cases h;done)|skip
 .exact GU aN.units
 .exact G2 aN.units
 .exact G1 aN.units
 .exact G0
 .exact GW
 .exact GV
 .exact GY
 .exact GZ
 .exact GX aN.units
 .exact G3 aN.units
def P5{X:aV}{o:Den.Op}{op:Operator}(h:Den.C1 o op=true):c7 X (binaryOp op) (nN X.K (Den.e3 o)):=by
 cases o<;>cases op<;>first|(cases h;done)|skip
 .exact HS
 .exact HZ
 .exact HX
 .exact HT
 .exact HW
def MK{op op':CmpOp}{b c:Expr}(h:nice c=true):lastMarks [op,op'] [b,c]=false:=CG h
def boot_isinstance:bootBuiltins "isinstance"=some (.builtin "isinstance"):=by kernel_rfl
def GN(t:Den.Ty)(aS:∀c,t≠.cls c):bootBuiltins (Den.tyName t)=some (.type (pC t))/\Den.tyName t≠"__name__"/\(Den.tyName t==("__debug__":Str))=false/\Den.tyName t∈pK:=by
 cases t with
 |cls c=>exact absurd rfl (aS c)
 |int=>exact⟨by kernel_rfl,by decide,by decide,by decide⟩
 |bool=>exact⟨by kernel_rfl,by decide,by decide,by decide⟩
 |str=>exact⟨by kernel_rfl,by decide,by decide,by decide⟩
 |tuple=>exact⟨by kernel_rfl,by decide,by decide,by decide⟩
end
end bS
end
section
namespace bS
open PySem PySem.Spec PyProof.Rows bE
section
variable{xp:cj}{k:Nat}{g:Den.Gt}{pg:Den.dk}{Φ:Den.dC}
variable(xp k g pg Φ) in
structure iA (n:Nat):Prop where
 e:∀(e:Den.E)(x:Expr)(ct:Den.b4)(v:Bool)(X:aV),sizeOf e<n->dz xp k g pg Φ X ct->Den.bX g ct v e x=true->Res xp X ct.ak v (Den.ia e) x (λC=>Den.ev pg Φ C e)
 a:∀(a:Den.A)(ab:List Expr)(ct:Den.b4)(X:aV),sizeOf a<n->dz xp k g pg Φ X ct->Den.lX g ct a ab=true->fi X ab (mG xp X ct.ak λC=>Den.hj pg Φ C a)/\(∀e∈ab,nice e=true)/\∀C ds,Den.hj pg Φ C a=.ok ds->ds.length=ab.length
 o:∀(o:Den.O)(x:Option Expr)(ct:Den.b4)(X:aV),sizeOf o<n->dz xp k g pg Φ X ct->Den.qa g ct o x=true->j1 X x (pA xp X ct.ak λC=>Den.l3 pg Φ C o)
 i:∀(s:Den.I)(x:Expr)(ct:Den.b4)(v:Bool)(X:aV)(dv:Expr),sizeOf s<n->dz xp k g pg Φ X ct->Den.fY g ct v s x=true->(Den.mC s=true->∃elts j p,dv=.Tuple elts j p)->gI X dv x (jT xp X ct.ak (kn v) λC=>Den.gr pg Φ C s)/\nice x=true
def CH(v:Bool):kn v=.view\/kn v=.val:=by cases v<;>simp[kn]
variable{n:Nat}
def Gk{ct:Den.b4}{v:Bool}{X:aV}(aN:dz xp k g pg Φ X ct){i:Nat}{x:Str}{p:Pos}(h:(ct.N[i]?==some x&&Den.kI ct.sc x&&Den.okN x&&(v||!ct.ak.contains i))=true):Res xp X ct.ak v (Den.ia (.var i)) (.Name x p) (λC=>Den.ev pg Φ C (.var i)):=by
 simp only[UB,VP,Wg,Vg]at h;obtain⟨⟨⟨J,aa⟩,aL⟩,a8⟩:=h;obtain⟨cp,dE,jq⟩:=ku aL;have bj:X.N[i]?=some x:=by rw[aN.nm];exact J
 have aQ:=aN.mH aa;refine⟨?_,λz=>(by cases z),mE (D2 bj aQ cp dE) λ_=>rfl,λ⟨_,_,_,z⟩=>(by cases z)⟩
 cases v with
 |true=>exact D2 bj aQ cp dE
 |false =>
  rcases a8 with a8|a8
  .cases a8
  .exact QI (λz=>by rw[VS.mpr z]at a8;cases a8) bj aQ cp dE
def Gd{ct:Den.b4}{v:Bool}{X:aV}(aN:dz xp k g pg Φ X ct){j:Nat}{x:Str}{p:Pos}(h:(g.l7[j]?==some x&&Den.l8 ct.sc x&&Den.okN x)=true):Res xp X ct.ak v (Den.ia (.glob j)) (.Name x p) (λC=>Den.ev pg Φ C (.glob j)):=by
 simp only[UB,VP]at h;obtain⟨⟨J,aa⟩,aL⟩:=h;obtain⟨cp,dE,jq⟩:=ku aL;cases q:pg.cs[j]? with
 |none =>
  have e:∀C,Den.ev pg Φ C (.glob j)=.bad:=λC=>Wm Den.wC q
  exact Res.mA (λm=>DX e) (mE (DX e) λ_=>rfl) λ_ _ _ z=>by cases z
 |some d =>
  obtain⟨w,u,aj,av,bF⟩:=aN.cH.l7 j x d J q;have e:(λC=>Den.ev pg Φ C (.glob j))=λ_=>.ok d:=funext λC=>Den.I8 j q
  rw[e];exact Res.q7 (Qi (aN.wD aa) aj av bF cp) (λ_=>rfl) (λ_ _ _ z=>by cases z) rfl
def F9(aO:iA xp k g pg Φ n){ct:Den.b4}{v:Bool}{X:aV}(aN:dz xp k g pg Φ X ct){f:Nat}{a:Den.A}(ae:sizeOf a<n){x:Str}{ab:List Expr}{p pos:Pos}(h:(g.fns[f]?==some x&&Den.l8 ct.sc x&&Den.okN x&&!ab.isEmpty&&Den.lX g ct a ab)=true):
  Res xp X ct.ak v (Den.ia (.call f a)) (.Call (.Name x p) ab [] pos) (λC=>Den.ev pg Φ C (.call f a)):=by
 simp only[UB,VP,Vg]at h;obtain⟨⟨⟨⟨J,aa⟩,aL⟩,a8⟩,cP⟩:=h;obtain⟨cp,dE,jq⟩:=ku aL;obtain⟨bc,bC,d2⟩:=aO.a a ab ct X ae aN cP;obtain⟨bg,fd,bt,aj,av,bF,eB,hc⟩:=aN.cH.fn f x J;cases ab with
 |nil=>cases a8
 |cons e ab =>
  exact Res.q7 (P6 eB aN.room (aN.wD aa) aj av bF bc hc cp (nS (bC e List.mem_cons_self)) (OV λz au=>bC z (List.mem_cons_of_mem _ au))) (λ_=>rfl) (λ_ _ _ z=>by cases z) rfl
def Ge(aO:iA xp k g pg Φ n){ct:Den.b4}{v:Bool}{X:aV}(aN:dz xp k g pg Φ X ct){t:Den.Ty}(aS:∀c,t=.cls c->False){a:Den.E}(ae:sizeOf a<n){x y:Str}{e:Expr}{p eZ pos:Pos}(h:(x==("isinstance":Str)&&Den.ee g ct.sc x&&y==Den.tyName t&&Den.ee g ct.sc y&&Den.bX g ct true a e)=true):
  Res xp X ct.ak v (Den.ia (.prim (.inst t) a)) (.Call (.Name x p) [e,.Name y eZ] [] pos) (λC=>Den.ev pg Φ C (.prim (.inst t) a)):=by
 simp only[UB]at h;obtain⟨⟨⟨⟨J,aa⟩,aL⟩,a8⟩,cP⟩:=h;have J:=eA J;have aL:=eA aL;subst J aL;have oP:∀c,t≠.cls c:=λc z=>aS c z
 obtain⟨cY,er,d6,fX⟩:=GN t oP;obtain⟨g1,g2⟩:=aN.blt aa (by decide)
 obtain⟨g3,ib⟩:=aN.blt a8 fX;have r:=aO.e a e ct true X ae aN cP;have dN:∀m,aR X (.Call (.Name "isinstance" p) [e,.Name (Den.tyName t) eZ] [] pos) (bk xp X ct.ak m λC=>Den.ev pg Φ C (.prim (.inst t) a)):=λm =>
  Qm (up:=pg.up) oP g1 g2 boot_isinstance g3 ib cY r.view (by decide) (by decide) er d6 (nS (fc cP))
 exact Res.mA dN (mE (dN _) λ_=>rfl) λ_ _ _ z=>by cases z
def Gf(aO:iA xp k g pg Φ n){ct:Den.b4}{v:Bool}{X:aV}(aN:dz xp k g pg Φ X ct){c:Nat}{a:Den.E}(ae:sizeOf a<n){x t:Str}{e:Expr}{p eZ pos:Pos}(J:(x==("isinstance":Str))=true)(aa:Den.ee g ct.sc x=true)(cP:Den.bX g ct true a e=true):
  Res xp X ct.ak v (Den.ia (.prim (.inst (.cls c)) a)) (.Call (.Name x p) [e,.Name t eZ] [] pos) (λC=>Den.ev pg Φ C (.prim (.inst (.cls c)) a)):=by
 have J:=eA J;subst J;obtain⟨g1,g2⟩:=aN.blt aa (by decide)
 have r:=aO.e a e ct true X ae aN cP;have dN:∀m,aR X (.Call (.Name "isinstance" p) [e,.Name t eZ] [] pos) (bk xp X ct.ak m λC=>Den.ev pg Φ C (.prim (.inst (.cls c)) a)):=λm =>
  Qn (up:=pg.up) (c:=c) g1 g2 boot_isinstance r.view (by decide) (by decide) (nS (fc cP))
 exact Res.mA dN (mE (dN _) λ_=>rfl) λ_ _ _ z=>by cases z
def zK{ct:Den.b4}{v:Bool}{a:Den.E}{x:Expr}(h:Den.fY g ct v (.eS a) x=true):∃m p y pos,x=.Call (.Name m p) [y] [] pos/\m="range"/\Den.ee g ct.sc m=true/\Den.bX g ct true a y=true:=by
 rw[Den.fY]at h
 split at h
 .rename_i m y aj;obtain⟨p,pos,rfl⟩:=iw aj;simp only[UB]at h;exact⟨m,p,y,pos,rfl,eA h.1.1,h.1.2,h.2⟩
 .cases h
def Gi(aO:iA xp k g pg Φ n){ct:Den.b4}{v:Bool}{X:aV}(aN:dz xp k g pg Φ X ct){s:Den.I}(ae:sizeOf s<=n){x:Str}{e:Expr}{p pos:Pos}(h:(x==("tuple":Str)&&Den.ee g ct.sc x&&Den.tW s&&Den.fY g ct true s e)=true):
  aR X (.Call (.Name x p) [e] [] pos) (bk xp X ct.ak .val λC=>Den.ev pg Φ C (.tupI s)):=by
 simp only[UB]at h;obtain⟨⟨⟨J,aa⟩,aL⟩,a8⟩:=h;have J:=eA J;subst J;obtain⟨g1,g2⟩:=aN.blt aa (by decide)
 cases s with
 |seq a =>
  rw[Den.fY]at a8;have r:=aO.e a e ct true X (by simp at ae;omega) aN a8
  have aj:(λC=>Den.ev pg Φ C (.tupI (.seq a)))=λC=>Den.ev pg Φ C a>>=λd=>Den.dP d>>=λds=>.ok (.tup ds):=funext λC=>by
   rw[Den.Ao,Den.vY];cases Den.ev pg Φ C a<;>rfl
  rw[aj];exact yg (m:=.val) QT JA g1 g2 (by kernel_rfl) r.view (by decide) (by decide) (hy (fc a8))
 |eS a =>
  obtain⟨m,aK,y,a6,rfl,k1,k2,bl⟩:=zK a8;obtain⟨g3,ib⟩:=aN.blt k2 (by rw[k1];decide)
  have r:=aO.e a y ct true X (by simp at ae;omega) aN bl
  exact QH aN.calm k1 rfl g3 ib g1 g2 r.view (hy (fc bl))
 |_=>cases aL
def Gg(aO:iA xp k g pg Φ n){ct:Den.b4}{v:Bool}{X:aV}(aN:dz xp k g pg Φ X ct){s:Den.I}(ae:sizeOf s<=n){x:Str}{e:Expr}{p pos:Pos}(h:(x==("list":Str)&&Den.ee g ct.sc x&&Den.tW s&&Den.fY g ct true s e)=true):
  aR X (.Call (.Name x p) [e] [] pos) (bk xp X ct.ak .fresh λC=>Den.ev pg Φ C (.mq s)):=by
 simp only[UB]at h;obtain⟨⟨⟨J,aa⟩,aL⟩,a8⟩:=h;have J:=eA J;subst J;obtain⟨g1,g2⟩:=aN.blt aa (by decide)
 cases s with
 |seq a =>
  rw[Den.fY]at a8;have r:=aO.e a e ct true X (by simp at ae;omega) aN a8
  have aj:(λC=>Den.ev pg Φ C (.mq (.seq a)))=λC=>Den.ev pg Φ C a>>=λd=>Den.dP d>>=λds=>.ok (.lst ds):=funext λC=>by
   rw[Den.An,Den.vY];cases Den.ev pg Φ C a<;>rfl
  rw[aj];exact yg (m:=.fresh) QQ f_list g1 g2 (by kernel_rfl) r.view (by decide) (by decide) (hy (fc a8))
 |eS a =>
  obtain⟨m,aK,y,a6,rfl,k1,k2,bl⟩:=zK a8;obtain⟨g3,ib⟩:=aN.blt k2 (by rw[k1];decide)
  have r:=aO.e a y ct true X (by simp at ae;omega) aN bl
  exact Qq aN.calm k1 rfl g3 ib g1 g2 r.view (hy (fc bl))
 |_=>cases aL
def zk(aO:iA xp k g pg Φ n){ct:Den.b4}{X:aV}(aN:dz xp k g pg Φ X ct){e:Den.E}{j:Nat}{s:Den.I}{c:Den.O}(ae:sizeOf e<n/\sizeOf s<n/\sizeOf c<n){x t it:Expr}{ifs:List Expr}{sc:Scope}{pos:Pos}{xs:List Str}(aq:Den.eT j t=some xs)(h:((!Den.mC s||j==2)&&Den.p5 ct sc xs&&Den.fY g ct true s it&&Den.bX g ⟨Den.mask ct.N xs++xs,sc,ct.ak⟩ false e x&&Den.mT g ⟨Den.mask ct.N xs++xs,sc,ct.ak⟩ c ifs)=true):
  n1 X sc xs (Den.mask ct.N xs++xs)/\(∀z,foldedSetIterable it X.env z=pure z)/\gI X t it (jT xp X ct.ak .view λC=>Den.gr pg Φ C s)/\(∀s3 b2 bq pins,aR (gk X sc (Den.mask ct.N xs++xs) s3 b2 bq pins) x (bk xp (gk X sc (Den.mask ct.N xs++xs) s3 b2 bq pins) ct.ak .val λC=>Den.ev pg Φ C e)) /\
   pY xp X ct.ak sc (Den.mask ct.N xs++xs) ifs (λC=>Den.kZ pg Φ C c)/\(λC=>Den.ev pg Φ C (.comp e j s c))=λC=>Den.gr pg Φ C s>>=λds=>Den.ir (Den.df (iM j (λC=>Den.kZ pg Φ C c) (λC=>Den.ev pg Φ C e) C) ds)>>=λys=>.ok (.lst ys):=by
 simp only[UB]at h;obtain⟨⟨⟨⟨h0,J⟩,sr⟩,A0⟩,hl⟩:=h;have B:=GJ J;have xb:Den.mC s=true->∃elts j p,t=.Tuple elts j p:=λaC=>by
  rw[aC]at h0;have aH:j=2:=by simpa using h0
  subst aH;cases t with
  |Tuple elts j p=>exact⟨elts,j,p,rfl⟩
  |_=>simp only[Den.eT]at aq;cases aq
 obtain⟨e8,e9⟩:=aO.i s it ct true X t ae.2.1 aN sr xb;refine⟨B.block aN,set_plain e9,e8,λs3 b2 bq pins=>(aO.e e x _ false _ ae.1 (B.ok aN s3 b2 bq pins) A0).dN,?_,rfl⟩
 cases c with
 |none =>
  cases ifs with
  |nil=>exact .inl ⟨rfl,rfl⟩
  |cons _ _=>unfold Den.mT at hl;cases hl
 |some av =>
  match ifs,hl with
  |[],hl=>unfold Den.mT at hl;cases hl
  |[bu],hl =>
   refine .inr ⟨bu,λC=>Den.ev pg Φ C av,rfl,rfl,λs3 b2 bq pins=>?_⟩
   have hl:Den.bX g ⟨Den.mask ct.N xs++xs,sc,ct.ak⟩ true av bu=true:=by unfold Den.mT at hl;exact hl
   exact(aO.e av bu _ true _ (by have:=ae.2.2;simp at this;omega) (B.ok aN s3 b2 bq pins) hl).pt
  |_::_::_,hl=>unfold Den.mT at hl;cases hl
end
end bS
end
section
namespace bS
open PySem PySem.Spec PyProof.Rows bE
section
variable{xp:cj}{k:Nat}{g:Den.Gt}{pg:Den.dk}{Φ:Den.dC}{n:Nat}
def Cq{ab:List Expr}(h:ab.length<=1000):ab.length<=sizeLine:=by rw[sizeLine_eq];omega
def S1{ct:Den.b4}{x:Str}{t:Den.Ty}{a y e:Expr}(h:Den.ur g ct x t a y=some e):a=e/\∃m p,y=.Name m p/\(x==("isinstance":Str))=true/\Den.ee g ct.sc x=true/\((∀c,t≠.cls c)->(m==Den.tyName t&&Den.ee g ct.sc m)=true):=by
 unfold Den.ur at h
 split at h
 .rename_i m av;obtain⟨p,rfl⟩:=ix av
  split at h
  .rename_i ai;cases h;rw[UB,UB]at ai;exact⟨rfl,m,p,rfl,ai.1.1,ai.1.2,λaS=>by cases t<;>first|exact ai.2|exact(aS _ rfl).elim⟩
  .cases h
 .cases h
def S2{ct:Den.b4}{x:Str}{a e:Expr}(h:Den.uu g ct x a=some e):∃y p q,a=.Call (.Name y p) [e] [] q/\(x==("sorted":Str))=true/\Den.ee g ct.sc x=true/\(y==("set":Str))=true/\Den.ee g ct.sc y=true:=by
 unfold Den.uu at h
 split at h
 .rename_i y b av;obtain⟨py,bc,rfl⟩:=iw av
  split at h
  .rename_i ai;cases h;simp only[UB]at ai;exact⟨y,py,bc,rfl,ai.1.1.1,ai.1.1.2,ai.1.2,ai.2⟩
  .cases h
 .cases h
def yQ{ct:Den.b4}{x:Str}{q:Den.eN}{ab:List Expr}{e:Expr}(h:(match ab with|[e]=>if Den.rf q&&x==Den.rd q&&Den.ee g ct.sc x then some e else none|_=>none)=some e):ab=[e]/\Den.rf q=true/\(x==Den.rd q)=true/\Den.ee g ct.sc x=true:=by
 match ab,h with
 |[a],h =>
  simp only at h
  split at h
  .rename_i ai;cases h;simp only[UB]at ai;exact⟨rfl,ai.1.1,ai.1.2,ai.2⟩
  .cases h
def Gj (aO : iA xp k g pg Φ n) {ct : Den.b4} {v : Bool} {X : aV} (aN : dz xp k g pg Φ X ct) {pr : Den.eN} {a : Den.E} (ae : sizeOf a < n) {x : Str} {ab : List Expr} {e : Expr} {p pos : Pos} (aQ : Den.Fn g ct x pr ab = some e) (h : Den.bX g ct true a e = true) :
    Res xp X ct.ak v (Den.ia (.prim pr a)) (.Call (.Name x p) ab [] pos) (fun C => Den.ev pg Φ C (.prim pr a)) := by
  have one : ∀ {q : Den.eN}, ab = [e] /\ Den.rf q = true /\ (x == Den.rd q) = true /\ Den.ee g ct.sc x = true -> Res xp X ct.ak v (Den.ia (.prim q a)) (.Call (.Name x p) ab [] pos) (fun C => Den.ev pg Φ C (.prim q a)) := fun {q} ⟨h0, J, aa, aL⟩ => by
    subst h0
    have bW := aO.e a e ct true X ae aN h
    exact Res.lu (Qw (m := .fresh) aN J (eA aa) aL bW.view (fc h)) (fun _ => rfl) (fun _ _ _ z => by cases z)
  cases pr with
  | inst t =>
    match ab, aQ with
    | [bf, y], aQ =>
      have aQ : Den.ur g ct x t bf y = some e := aQ
      obtain ⟨rfl, m, eZ, rfl, J, aa, aL⟩ := S1 aQ
      by_cases aS : ∃ c, t = .cls c
      · obtain ⟨c, rfl⟩ := aS
        exact Gf aO aN ae J aa h
      · refine Ge aO aN (fun c ai => aS ⟨c, ai⟩) ae ?_
        have aL := aL fun c ai => aS ⟨c, ai⟩
        rw [UB] at aL
        simp only [UB]
        exact ⟨⟨⟨⟨J, aa⟩, aL.1⟩, aL.2⟩, h⟩
  | fG =>
    match ab, aQ with
    | [bf], aQ =>
      have aQ : Den.uu g ct x bf = some e := aQ
      obtain ⟨y, bc, bC, rfl, J, aa, aL, a8⟩ := S2 aQ
      obtain ⟨g1, g2⟩ := aN.blt aa (by rw [eA J]; decide)
      obtain ⟨g3, ib⟩ := aN.blt a8 (by rw [eA aL]; decide)
      have bW := aO.e a e ct true X ae aN h
      exact Res.lu (QE aN.calm aN.units (eA J) (eA aL) g1 g2 g3 ib bW.view (hy (fc h))) (fun _ => rfl) (fun _ _ _ z => by cases z)
  | len => exact one (yQ aQ)
  | sorted => exact one (yQ aQ)
  | int => exact one (yQ aQ)
def Fd{z:Expr}{n k:Str}(h:Den.uo z=some (n,k)):∃bc bC pos,z=.Subscript (.Name n bc) (.Name k bC) pos:=by
 unfold Den.uo at h
 split at h
 .rename_i x y aj;obtain⟨pos,rfl⟩:=yM aj
  split at h
  .rename_i cG cB av bF;cases h;obtain⟨bc,rfl⟩:=ix av;obtain⟨bC,rfl⟩:=ix bF;exact⟨bc,bC,pos,rfl⟩
  .cases h
 .cases h
def SS{z:Expr}{x n:Str}(h:Den.yL z=some (x,n)):∃bc bC pos,z=.Call (.Name x bc) [.Name n bC] [] pos:=by
 unfold Den.yL at h
 split at h
 .rename_i iz e aj;obtain⟨bc,pos,rfl⟩:=iw aj
  split at h
  .rename_i cG av;cases h;obtain⟨bC,rfl⟩:=ix av;exact⟨bc,bC,pos,rfl⟩
  .cases h
 .cases h
def SU{z c cO:Expr}{x y g4:Str}(h:Den.yN z=some (x,y,c,g4,cO)):∃p bc bC aK a6 bT pos,z=.Call (.Name x p) [.BinOp (.Call (.Name y bc) [c] [] aK) .BitXor (.Call (.Name g4 bC) [cO] [] a6) bT] [] pos:=by
 unfold Den.yN at h
 split at h
 .rename_i iz e aj;obtain⟨p,pos,rfl⟩:=iw aj
  split at h
  .rename_i l r av;obtain⟨bT,rfl⟩:=yG av
   split at h
   .rename_i bF eB;cases h;obtain⟨bc,aK,rfl⟩:=iw bF;obtain⟨bC,a6,rfl⟩:=iw eB;exact⟨p,bc,bC,aK,a6,bT,pos,rfl⟩
   .cases h
  .cases h
 .cases h
def tn{ct:Den.b4}{i:Nat}{n:Str}(h:Den.o5 ct i n=true):ct.N[i]?=some n/\Den.kI ct.sc n=true/\Den.okN n=true/\i∈ct.ak:=by
 unfold Den.o5 at h;simp only[UB,VP]at h;exact⟨h.1.1.1,h.1.1.2,h.1.2,VS.mp h.2⟩
def Dq{ct:Den.b4}{i:Nat}{n:Str}(h:Den.tI ct i n=true):ct.N[i]?=some n/\Den.kI ct.sc n=true/\Den.okN n=true/\i∉ct.ak:=by
 unfold Den.tI at h;simp only[UB,VP,Vg]at h;exact⟨h.1.1.1,h.1.1.2,h.1.2,λz=>by rw[VS.mpr z]at h;cases h.2⟩
def S0{pg:Den.dk}{Φ:Den.dC}{b:Den.E}(h:Den.isVar b=true)(C:a0)(c:Nat):Den.ev pg Φ C b≠.exc c:=by
 cases b with
 |var j =>
  intro z;have z:Den.qs C[j]?=.exc c:=z;unfold Den.qs at z
  split at z<;>cases z
 |_=>cases h
def E7{x o:Expr}{n:Str}{p:Pos}(h:Den.yF x=some (o,n,p)):x=.Attribute o n p:=by
 cases x with
 |Attribute o n p=>cases h;rfl
 |_=>exact nn h
def Ru (aO : iA xp k g pg Φ n) (e : Den.E) (x : Expr) (ct : Den.b4) (v : Bool) (X : aV) (ae : sizeOf e < n + 1) (aN : dz xp k g pg Φ X ct) (h : Den.bX g ct v e x = true) : Res xp X ct.ak v (Den.ia e) x (fun C => Den.ev pg Φ C e) := by
  cases e with
  | var i =>
    rw [Den.bX] at h
    split at h
    · rename_i y aj
      obtain ⟨p, rfl⟩ := ix aj
      exact Gk aN h
    · cases h
  | lit d =>
    rw [Den.bX] at h
    split at h
    · rename_i c aj
      obtain ⟨lq, p, rfl⟩ := yJ aj
      exact Res.mA (fun m => DZ h) (mE (DZ h) fun _ => rfl) fun _ _ _ z => by cases z
    · cases h
  | glob j =>
    rw [Den.bX] at h
    split at h
    · rename_i y aj
      obtain ⟨p, rfl⟩ := ix aj
      exact Gd aN h
    · cases h
  | tup a =>
    rw [Den.bX] at h
    split at h
    · rename_i ab aj
      obtain ⟨j, p, rfl⟩ := SV aj
      simp only [UB, UU] at h
      obtain ⟨bc, bC, d2⟩ := aO.a a ab ct X (by simp at ae; omega) aN h.1
      exact Res.q7 (QG bc fun C ds q => by rw [d2 C ds q]; exact Cq h.2) (fun _ => rfl) (fun _ _ _ z => by cases z) rfl
    · cases h
  | lst a =>
    rw [Den.bX] at h
    split at h
    · rename_i ab aj
      obtain ⟨p, rfl⟩ := SQ aj
      simp only [UB, UU] at h
      obtain ⟨bc, bC, d2⟩ := aO.a a ab ct X (by simp at ae; omega) aN h.1
      exact Res.lu (Qp bc fun C ds q => by rw [d2 C ds q]; exact Cq h.2) (fun _ => rfl) (fun _ _ _ z => by cases z)
    · cases h
  | bin op a b =>
    rw [Den.bX] at h
    split at h
    · rename_i x o y aj
      obtain ⟨p, rfl⟩ := yG aj
      simp only [UB] at h
      have bW := aO.e a x ct true X (by simp at ae; omega) aN h.1.2
      have cS := aO.e b y ct true X (by simp at ae; omega) aN h.2
      exact Res.lu (P4 (GC op) (P5 h.1.1) bW.view cS.view) (fun _ => rfl) (fun _ _ _ z => by cases z)
    · cases h
  | not a =>
    rw [Den.bX] at h
    split at h
    · rename_i x aj
      obtain ⟨p, rfl⟩ := SW aj
      have bW := aO.e a x ct true X (by simp at ae; omega) aN h
      exact Res.mA (fun m => Qt bW.view) (Qu bW.pt) fun _ _ _ z => by cases z
    · cases h
  | cmp op a b =>
    rw [Den.bX] at h
    split at h
    · rename_i x o y aj
      obtain ⟨p, rfl⟩ := E8 aj
      simp only [UB] at h
      have bW := aO.e a x ct true X (by simp at ae; omega) aN h.1.2
      have cS := aO.e b y ct true X (by simp at ae; omega) aN h.2
      have hm := CG (op := o) (fc h.2)
      exact Res.mA (fun m => P7 (pk aN h.1.1) bW.view cS.view hm) (Qa (pk aN h.1.1) bW.view cS.view hm) fun _ _ _ z => by cases z
    · cases h
  | qc op op' a b c =>
    rw [Den.bX] at h
    split at h
    · rename_i x o bN y z aj
      obtain ⟨p, rfl⟩ := E8 aj
      simp only [UB] at h
      obtain ⟨⟨⟨⟨J, aa⟩, aL⟩, a8⟩, cP⟩ := h
      have bW := aO.e a x ct true X (by simp at ae; omega) aN aL
      have cS := aO.e b y ct true X (by simp at ae; omega) aN a8
      have rc := aO.e c z ct true X (by simp at ae; omega) aN cP
      have hm := MK (op := o) (op' := bN) (b := y) (fc cP)
      exact Res.mA (fun m => P8 (pk aN J) (pk aN aa) bW.view cS.view rc.view hm) (P9 (pk aN J) (pk aN aa) bW.view cS.view rc.view hm) fun _ _ _ z => by cases z
    · cases h
  | and a b =>
    rw [Den.bX] at h
    split at h
    · rename_i x y p aj
      obtain rfl := uj aj
      simp only [UB] at h
      have bW := aO.e a x ct true X (by simp at ae; omega) aN h.1
      have cS := aO.e b y ct v X (by simp at ae; omega) aN h.2
      have dw := DU (pos := p) bW.pt (Pf cS.pt)
      exact ⟨DT bW.view (Dg cS.dN), fun z => (by cases z), dw.pt, fun _ => dw⟩
    · rename_i x y z r p aj
      obtain rfl := uj aj
      simp only [UB] at h
      have bW := aO.e a x ct true X (by simp at ae; omega) aN h.1
      have cS := aO.e b _ ct v X (by simp at ae; omega) aN h.2
      have dw := DU (pos := p) bW.pt (cS.dw ⟨_, _, _, rfl⟩)
      exact ⟨DT bW.view cS.dN, fun z => (by cases z), dw.pt, fun _ => dw⟩
    · cases h
  | or a b =>
    rw [Den.bX] at h
    split at h
    · rename_i x y p aj
      obtain rfl := uj aj
      simp only [UB] at h
      have bW := aO.e a x ct true X (by simp at ae; omega) aN h.1
      have cS := aO.e b y ct v X (by simp at ae; omega) aN h.2
      have dw := D1 (pos := p) bW.pt (Ph cS.pt)
      exact ⟨D0 bW.view (Dg cS.dN), fun z => (by cases z), dw.pt, fun _ => dw⟩
    · rename_i x y z r p aj
      obtain rfl := uj aj
      simp only [UB] at h
      have bW := aO.e a x ct true X (by simp at ae; omega) aN h.1
      have cS := aO.e b _ ct v X (by simp at ae; omega) aN h.2
      have dw := D1 (pos := p) bW.pt (cS.dw ⟨_, _, _, rfl⟩)
      exact ⟨D0 bW.view cS.dN, fun z => (by cases z), dw.pt, fun _ => dw⟩
    · cases h
  | idx a b =>
    rw [Den.bX] at h
    split at h
    · rename_i x y aj
      obtain ⟨p, rfl⟩ := yM aj
      simp only [UB] at h
      have bW := aO.e a x ct true X (by simp at ae; omega) aN h.1
      have cS := aO.e b y ct true X (by simp at ae; omega) aN h.2
      exact Res.q7 (Qj bW.view cS.view (Mm (fc h.2))) (fun _ => rfl) (fun _ _ _ z => by cases z) rfl
    · cases h
  | slice a lo hi =>
    rw [Den.bX] at h
    split at h
    · rename_i x y aj
      obtain ⟨p, rfl⟩ := yM aj
      split at h
      · rename_i l u av
        obtain ⟨eZ, rfl⟩ := SR av
        simp only [UB] at h
        have bW := aO.e a x ct true X (by simp at ae; omega) aN h.1.1
        have PK := aO.o lo l ct X (by simp at ae; omega) aN h.1.2
        have PI := aO.o hi u ct X (by simp at ae; omega) aN h.2
        exact Res.lu (QC bW.view PK PI) (fun _ => rfl) (fun _ _ _ z => by cases z)
      · cases h
    · cases h
  | call f a =>
    rw [Den.bX] at h
    split at h
    · rename_i x ab aj
      obtain ⟨p, q, rfl⟩ := iw aj
      exact F9 aO aN (by simp at ae; omega) h
    · cases h
  | prim pr a =>
    rw [Den.bX] at h
    split at h
    · rename_i x ab aj
      obtain ⟨p, q, rfl⟩ := iw aj
      split at h
      · rename_i e av
        exact Gj aO aN (by simp at ae; omega) av h
      · cases h
    · cases h
  | om i j =>
    rw [Den.bX] at h
    split at h
    · rename_i cG cB aj
      obtain ⟨bc, bC, pos, rfl⟩ := Fd aj
      rw [UB] at h
      obtain ⟨a1, a2, a3, lR⟩ := tn h.1
      obtain ⟨cY, er, d6, fX⟩ := Dq h.2
      obtain ⟨cp, dE, _⟩ := ku a3
      obtain ⟨f1, f2, _⟩ := ku d6
      have aC : ∀ m, aR X (.Subscript (.Name cG bc) (.Name cB bC) pos) (bk xp X ct.ak m fun C => Den.m1 C[i]? C[j]?) := fun m => Qd aN.units lR fX (by rw [aN.nm]; exact a1) (aN.mH a2) cp dE (by rw [aN.nm]; exact cY) (aN.mH er) f1 f2
      exact Res.mA aC (mE (aC .view) fun _ => rfl) fun _ _ _ z => by cases z
    · cases h
  | ot i =>
    rw [Den.bX] at h
    split at h
    · rename_i x cG aj
      obtain ⟨bc, bC, pos, rfl⟩ := SS aj
      simp only [UB] at h
      obtain ⟨⟨J, aa⟩, aL⟩ := h
      obtain ⟨g1, g2⟩ := aN.blt aa (by rw [eA J]; decide)
      obtain ⟨a1, a2, a3, lR⟩ := tn aL
      obtain ⟨cp, dE, _⟩ := ku a3
      exact Res.lu (Qg aN.calm (eA J) g1 g2 lR (by rw [aN.nm]; exact a1) (aN.mH a2) cp dE) (fun _ => rfl) (fun _ _ _ z => by cases z)
    · cases h
  | pw a b =>
    rw [Den.bX] at h
    split at h
    · rename_i x y c g4 cO aj
      obtain ⟨p, bc, bC, aK, a6, bT, pos, rfl⟩ := SU aj
      simp only [UB] at h
      obtain ⟨⟨⟨⟨⟨⟨⟨J, aa⟩, aL⟩, a8⟩, cP⟩, f3⟩, ic⟩, dJ⟩ := h
      obtain ⟨g1, g2⟩ := aN.blt aa (by rw [eA J]; decide)
      obtain ⟨g3, ib⟩ := aN.blt a8 (by rw [eA aL]; decide)
      have fp : g4 = y := (eA cP).trans (eA aL).symm
      subst fp
      have bW := aO.e a c ct true X (by simp at ae; omega) aN ic
      have cS := aO.e b cO ct true X (by simp at ae; omega) aN dJ
      exact Res.lu (QF aN.calm aN.units (eA J) (eA aL) g1 g2 g3 ib bW.view cS.view (hy (fc ic)) (hy (fc dJ)) (S0 f3)) (fun _ => rfl) (fun _ _ _ z => by cases z)
    · cases h
  | tupI s =>
    rw [Den.bX] at h
    split at h
    · rename_i x e aj
      obtain ⟨p, q, rfl⟩ := iw aj
      exact Res.q7 (Gi (v := v) aO aN (by simp at ae; omega) h) (fun _ => rfl) (fun _ _ _ z => by cases z) rfl
    · cases h
  | mq s =>
    rw [Den.bX] at h
    split at h
    · rename_i x e aj
      obtain ⟨p, q, rfl⟩ := iw aj
      exact Res.lu (Gg (v := v) aO aN (by simp at ae; omega) h) (fun _ => rfl) (fun _ _ _ z => by cases z)
    · cases h
  | comp e j s c =>
    rw [Den.bX] at h
    split at h
    · rename_i x t it ifs sc aj
      obtain ⟨p, rfl⟩ := Fb aj
      split at h
      · rename_i xs aq
        obtain ⟨B, e8, e9, nA, xj, xk⟩ := zk (pos := p) aO aN (by simp at ae; omega) aq h
        rw [xk]
        exact Res.lu (yh aN.calm (by rw [aN.nm]; exact aN.ak) B aq e8 e9 nA xj) (fun _ => rfl) (fun _ _ _ z => by cases z)
      · cases h
    · cases h
def Rr (aO : iA xp k g pg Φ n) (a : Den.A) (ab : List Expr) (ct : Den.b4) (X : aV) (ae : sizeOf a < n + 1) (aN : dz xp k g pg Φ X ct) (h : Den.lX g ct a ab = true) : fi X ab (mG xp X ct.ak fun C => Den.hj pg Φ C a) /\ (∀ e ∈ ab, nice e = true) /\ ∀ C ds, Den.hj pg Φ C a = .ok ds -> ds.length = ab.length := by
  unfold Den.lX at h
  split at h
  · exact ⟨Qr, by simp, fun C ds q => by rw [Den.Al] at q; cases q; rfl⟩
  · rename_i e a x xs
    simp only [UB] at h
    have re := aO.e e x ct false X (by simp at ae; omega) aN h.1
    obtain ⟨bc, bC, d2⟩ := aO.a a xs ct X (by simp at ae; omega) aN h.2
    refine ⟨Qb re.val bc (nS (fc h.1)), fun z au => ?_, fun C ds q => ?_⟩
    · rcases UI.mp au with rfl | au
      · exact fc h.1
      · exact bC z au
    · rw [Den.Ak] at q
      cases aK : Den.ev pg Φ C e with
      | ok d =>
        rw [aK] at q
        simp only [Den.R.iu] at q
        cases a6 : Den.hj pg Φ C a with
        | ok H9 => rw [a6] at q; cases q; simp [d2 C H9 a6]
        | exc c => rw [a6] at q; cases q
        | bad => rw [a6] at q; cases q
      | exc c => rw [aK] at q; cases q
      | bad => rw [aK] at q; cases q
  · cases h
def Rv(aO:iA xp k g pg Φ n)(o:Den.O)(x:Option Expr)(ct:Den.b4)(X:aV)(ae:sizeOf o<n+1)(aN:dz xp k g pg Φ X ct)(h:Den.qa g ct o x=true):j1 X x (pA xp X ct.ak λC=>Den.l3 pg Φ C o):=by
 unfold Den.qa at h
 split at h
 .exact Qs
 .rename_i e x;exact Qv (aO.e e x ct true X (by simp at ae;omega) aN h).view
 .cases h
def stepI(aO:iA xp k g pg Φ n)(s:Den.I)(x:Expr)(ct:Den.b4)(v:Bool)(X:aV)(dv:Expr)(ae:sizeOf s<n+1)(aN:dz xp k g pg Φ X ct)(h:Den.fY g ct v s x=true)(aC:Den.mC s=true->∃elts j p,dv=.Tuple elts j p):
  gI X dv x (jT xp X ct.ak (kn v) λC=>Den.gr pg Φ C s)/\nice x=true:=by
 cases s with
 |seq e =>
  rw[Den.fY]at h;exact⟨Qo (CH v) (aO.e e x ct v X (by simp at ae;omega) aN h).dN,fc h⟩
 |eS a =>
  rw[Den.fY]at h
  split at h
  .rename_i x y aj;obtain⟨Dv,p,rfl⟩:=iw aj;simp only[UB]at h;obtain⟨⟨J,aa⟩,aL⟩:=h;obtain⟨g1,g2⟩:=aN.blt aa (by rw[eA J];decide)
   have bW:=aO.e a y ct true X (by simp at ae;omega) aN aL
   exact⟨Qz (eA J) g1 g2 bW.view (hy (fc aL)),rfl⟩
  .cases h
 |pj a b =>
  rw[Den.fY]at h
  split at h
  .rename_i x y z aj;obtain⟨Dv,p,rfl⟩:=iw aj;simp only[UB]at h;obtain⟨⟨⟨J,aa⟩,aL⟩,a8⟩:=h;obtain⟨g1,g2⟩:=aN.blt aa (by rw[eA J];decide)
   have bW:=aO.e a y ct true X (by simp at ae;omega) aN aL
   have cS:=aO.e b z ct true X (by simp at ae;omega) aN a8
   exact⟨QA (eA J) g1 g2 bW.view cS.view (Rq (fc aL) (fc a8)) (hy (fc a8)),rfl⟩
  .cases h
 |enum a =>
  rw[Den.fY]at h
  split at h
  .rename_i x y aj;obtain⟨Dv,p,rfl⟩:=iw aj;simp only[UB]at h;obtain⟨⟨J,aa⟩,aL⟩:=h;obtain⟨g1,g2⟩:=aN.blt aa (by rw[eA J];decide)
   obtain⟨elts,j,eZ,rfl⟩:=aC rfl;have bW:=aO.e a y ct v X (by simp at ae;omega) aN aL
   exact⟨Qk (CH v) (eA J) g1 g2 bW.dN (hy (fc aL)),rfl⟩
  .cases h
theorem mR:∀n,iA xp k g pg Φ n
 |0=>⟨λ_ _ _ _ _ h=>by omega,λ_ _ _ _ h=>by omega,λ_ _ _ _ h=>by omega,λ_ _ _ _ _ _ h=>by omega⟩
 |n+1=>⟨Ru (mR n),Rr (mR n),Rv (mR n),stepI (mR n)⟩
def tA{e:Den.E}{x:Expr}{ct:Den.b4}{v:Bool}{X:aV}(aN:dz xp k g pg Φ X ct)(h:Den.bX g ct v e x=true):Res xp X ct.ak v (Den.ia e) x (λC=>Den.ev pg Φ C e):=(mR (sizeOf e+1)).e e x ct v X (WA _) aN h
end
end bS
end
section
namespace bS
open PySem PySem.Spec PyProof.Rows bE
def yx{x:Stmt}{ts:List Expr}{y:Expr}(h:Den.pz x=some (ts,y)):∃p,x=.Assign ts y p:=by
 cases x with
 |Assign a b p=>cases h;exact⟨p,rfl⟩
 |_=>exact nn h
def RK{x:Stmt}{y:Expr}(h:Den.EP x=some y):∃p,x=.Expr y p:=by
 cases x with
 |Expr a p=>cases h;exact⟨p,rfl⟩
 |_=>exact nn h
def ER{x:Stmt}{y:Option Expr}(h:Den.rr x=some y):∃p,x=.Return y p:=by
 cases x with
 |Return a p=>cases h;exact⟨p,rfl⟩
 |_=>exact nn h
def RN{x:Stmt}{t:Expr}{a b:List Stmt}(h:Den.yz x=some (t,a,b)):∃p,x=.If t a b p:=by
 cases x with
 |If t a b p=>cases h;exact⟨p,rfl⟩
 |_=>exact nn h
def RL{x:Stmt}{t it:Expr}{a b:List Stmt}(h:Den.t7 x=some (t,it,a,b)):∃p,x=.For t it a b p:=by
 cases x with
 |For t it a b p=>cases h;exact⟨p,rfl⟩
 |_=>exact nn h
def SO{z y:Expr}{x n:Str}{ap:Pos}(h:Den.yE z=some (x,n,ap,y)):∃p eP,z=.Call (.Attribute (.Name x p) n ap) [y] [] eP:=by
 unfold Den.yE at h
 split at h
 .rename_i f g4 aj;obtain⟨eP,rfl⟩:=yH aj
  split at h
  .rename_i o cG F4 av;obtain rfl:=E7 av
   split at h
   .rename_i iz bF;obtain⟨p,rfl⟩:=ix bF;cases h;exact⟨p,eP,rfl⟩
   .cases h
  .cases h
 .cases h
structure n4(xp:cj)(g:Den.Gt)(pg:Den.dk)(X:aV)(ct:Den.b4):Prop where
 yv:X.stack=X.env::X.outer/\X.env.frame=some X.env.locals
 loc:∀x,Den.jM ct.sc x=true->Loc X.env.scope x
 fn:∀x,X.fn x=true
 pass:PassesOwn (model X.prog X.w) X.A X.env X.cR
section
variable{xp:cj}{k:Nat}{g:Den.Gt}{pg:Den.dk}{Φ:Den.dC}
def Hf {ct : Den.b4} {v : Bool} {e : Den.E} {x : Expr} {kc : List Comprehension} {sc : Scope} {pos : Pos} (h : Den.bX g ct v e (.ListComp x kc sc pos) = true) : ∃ bf j s c t it ifs xs, e = .comp bf j s c /\ kc = [⟨t, it, ifs, 0⟩] /\ Den.eT j t = some xs /\
    ((!Den.mC s || j == 2) && Den.p5 ct sc xs && Den.fY g ct true s it && Den.bX g ⟨Den.mask ct.N xs ++ xs, sc, ct.ak⟩ false bf x && Den.mT g ⟨Den.mask ct.N xs ++ xs, sc, ct.ak⟩ c ifs) = true := by
  cases e with
  | comp bf j s c =>
    rw [Den.bX] at h
    split at h
    · rename_i iz t it ifs Uq aj
      obtain ⟨p, av⟩ := Fb aj
      cases av
      split at h
      · rename_i xs aq
        exact ⟨bf, j, s, c, t, it, ifs, xs, rfl, rfl, aq, h⟩
      · cases h
    · cases h
  | _ => exact (Vo h).elim
def Ht(x:Expr):(∃y kc sc pos,x=.ListComp y kc sc pos)\/Den.CP x=true:=by
 cases x<;>first|exact .inr rfl|exact .inl ⟨_,_,_,_,rfl⟩
def F7 {ct : Den.b4} {X : aV} (aN : dz xp k g pg Φ X ct) (oJ : ∀ x, Den.jM ct.sc x = true -> Loc X.env.scope x) (nc : ∀ x, X.fn x = true) {i : Nat} {e : Den.E} {x : Str} {y : Expr} {p pos : Pos} (h : (ct.N[i]? == some x && Den.jM ct.sc x && Den.okN x && (!ct.ak.contains i || Den.ia e) && Den.bX g ct false e y) = true) :
    eU X (.Assign [.Name x p] y pos) (ew xp X ct.ak fun C => Den.ex pg Φ C (.asg i e)) := by
  simp only [UB, VP, Wg, Vg] at h
  obtain ⟨⟨⟨⟨J, aa⟩, aL⟩, a8⟩, cP⟩ := h
  have bj : X.N.Nodup := by rw [aN.nm]; exact aN.dU
  have hi : X.N[i]? = some x := by rw [aN.nm]; exact J
  have ah := oJ x aa
  have hf : X.fn x = true \/ X.env.scope.names.lookup x = some .local := .inl (nc x)
  rcases Ht y with ⟨z, kc, sc, pos', rfl⟩ | ai
  · obtain ⟨bf, j, s, c, t, it, ifs, xs, rfl, rfl, aq, b5⟩ := Hf cP
    obtain ⟨B, e8, e9, nA, xj, xk⟩ := zk (pos := pos') (mR (xp := xp) (k := k) (pg := pg) (Φ := Φ) (sizeOf (Den.E.comp bf j s c))) aN (by simp only [Den.E.comp.sizeOf_spec]; omega) aq b5
    have aj : (fun C => Den.ex pg Φ C (.asg i (.comp bf j s c))) = fun C => (Den.gr pg Φ C s >>= fun ds => Den.ir (Den.df (iM j (fun C => Den.kZ pg Φ C c) (fun C => Den.ev pg Φ C bf) C) ds) >>= fun ys => .ok (.lst ys)) >>= fun d => .ok (.cV (C.set i (some d))) := by
      funext C
      have := congrFun xk C
      rw [Den.Aq]
      rw [this]
    rw [aj]
    exact P2 aN.calm (by rw [aN.nm]; exact aN.ak) B aq e8 e9 nA xj bj hi ah hf
  · have r := tA aN cP
    have mj := RB (t := some (.Name x p)) (n := pos.line) (env := X.env) (fc cP) ai
    by_cases hm : i ∈ ct.ak
    · have KV : Den.ia e = true := by
        rcases a8 with a8 | a8
        · rw [VS.mpr hm] at a8; cases a8
        · exact a8
      exact DW hm bj hi ah (r.fresh KV) mj hf
    · exact DV hm bj hi ah r.val mj hf
def F8{ct:Den.b4}{X:aV}(aN:dz xp k g pg Φ X ct)(oJ:∀x,Den.jM ct.sc x=true->Loc X.env.scope x)(nc:∀x,X.fn x=true){i:Nat}{e:Den.E}{st:Stmt}(h:Den.vx g ct i e st=true):
  eU X st (ew xp X ct.ak λC=>Den.ex pg Φ C (.asg i e)):=by
 unfold Den.vx at h
 split at h
 .rename_i t y aj;obtain⟨pos,rfl⟩:=yx aj
  split at h
  .rename_i x av;obtain⟨p,rfl⟩:=ix av;exact F7 aN oJ nc h
  .cases h
 .cases h
def Gh{ct:Den.b4}{i:Nat}{e:Den.E}{nm:Str}{st:Stmt}(h:Den.vA g ct i e nm st=true):∃x n ap y bc eP i4,st=.Expr (.Call (.Attribute (.Name x bc) n ap) [y] [] eP) i4/\(ap.endLine==eP.line)=true/\ct.N[i]?=some x/\Den.kI ct.sc x=true/\Den.okN x=true/\i∈ct.ak/\n=nm/\Den.bX g ct false e y=true:=by
 unfold Den.vA at h
 split at h
 .rename_i c aj;obtain⟨pos,rfl⟩:=RK aj
  split at h
  .rename_i x n ap y av;obtain⟨bc,eP,rfl⟩:=SO av;simp only[UB,VP]at h;obtain⟨⟨⟨⟨⟨⟨h0,J⟩,aa⟩,aL⟩,a8⟩,cP⟩,f3⟩:=h;have h0:ap.endLine=eP.line:=h0;exact⟨x,n,ap,y,bc,eP,pos,rfl,by simpa using h0,J,aa,aL,VS.mp a8,cP,f3⟩
  .cases h
 .cases h
theorem zJ{ct:Den.b4}:∀{ts:List Nat}{xs:List Str},Den.oh ct ts xs=true->ts.length=xs.length/\(∀t∈ts,t∉ct.ak)/\∀(j i:Nat) y,ts[j]?=some i->xs[j]?=some y->ct.N[i]?=some y/\Den.jM ct.sc y=true
 |[],[],_=>⟨rfl,by simp,λj i y e=>by simp at e⟩
 |[],_::_,h=>by unfold Den.oh at h;cases h
 |_::_,[],h=>by unfold Den.oh at h;cases h
 |t::ts,x::xs,h=>by
  unfold Den.oh at h;simp only[UB,VP,Vg]at h;obtain⟨⟨⟨⟨J,aa⟩,aL⟩,a8⟩,cP⟩:=h;obtain⟨aI,a5,dn⟩:=zJ cP;refine⟨by simp[aI],λz au=>?_,λj i y aj av=>?_⟩
  .rcases UI.mp au with rfl|au
   .intro w;rw[VS.mpr w]at a8;cases a8
   .exact a5 z au
  .cases j with
   |zero=>simp at aj av;subst aj av;exact⟨J,aa⟩
   |succ j=>exact dn j i y (by simpa using aj) (by simpa using av)
variable(xp k g pg Φ) in
structure fg (n:Nat):Prop where
 s:∀(s:Den.S)(st:Stmt)(ct:Den.b4)(X:aV),sizeOf s<n->dz xp k g pg Φ X ct->n4 xp g pg X ct->Den.mU g ct s st=true->eU X st (ew xp X ct.ak λC=>Den.ex pg Φ C s)
 b:∀(b:Den.B)(st:List Stmt)(ct:Den.b4)(X:aV),sizeOf b<n->dz xp k g pg Φ X ct->n4 xp g pg X ct->Den.j6 g ct b st=true->gJ X st (ew xp X ct.ak λC=>Den.eC pg Φ C b)
variable{n:Nat}
def SP{z:Expr}{x y:Str}{ap:Pos}(h:Den.yK z=some (x,y,ap)):∃bc bC c d2 eP,z=.Call (.Attribute (.Name x bc) "get" ap) [.Name y bC,.Constant (.int 0) c d2] [] eP:=by
 unfold Den.yK at h
 split at h
 .rename_i f k o aj;obtain⟨eP,rfl⟩:=yH aj
  split at h
  .rename_i d n F4 av;obtain rfl:=E7 av
   split at h
   .rename_i iz g4 bw bF eB hc
    split at h
    .rename_i h8;cases h;simp only[UB]at h8;obtain⟨bc,rfl⟩:=ix bF;obtain⟨bC,rfl⟩:=ix eB;obtain⟨c,d2,rfl⟩:=yJ hc;obtain rfl:=eA h8.1;obtain rfl:bw=0:=by simpa using h8.2
     exact⟨bc,bC,c,d2,eP,rfl⟩
    .cases h
   .cases h
  .cases h
 .cases h
def Gb{ct:Den.b4}{X:aV}(aN:dz xp k g pg Φ X ct)(aX:n4 xp g pg X ct){i:Nat}{st:Stmt}(h:Den.vz ct i st=true):eU X st (ew xp X ct.ak λC=>Den.ex pg Φ C (.m2 i)):=by
 unfold Den.vz at h
 split at h
 .rename_i t y aj;obtain⟨pos,rfl⟩:=yx aj
  split at h
  .rename_i x av;obtain⟨bc,rfl⟩:=ix av;simp only[UB,VP]at h;obtain⟨⟨⟨⟨J,aa⟩,aL⟩,a8⟩,cP⟩:=h;obtain⟨tG,rfl⟩:∃tG,y=.Dict [] [] tG:=by
    unfold Den.B8 at cP
    split at cP
    .exact⟨_,rfl⟩
    .cases cP
   exact Qf (VS.mp a8) (by rw[aN.nm];exact aN.dU) (by rw[aN.nm];exact J) (aX.loc x aa) (.inl (aX.fn x))
  .cases h
 .cases h
def Ga{ct:Den.b4}{X:aV}(aN:dz xp k g pg Φ X ct){i j:Nat}{st:Stmt}(h:Den.vy ct i j st=true):eU X st (ew xp X ct.ak λC=>Den.ex pg Φ C (.kW i j)):=by
 unfold Den.vy at h
 split at h
 .rename_i t v aj;obtain⟨pos,rfl⟩:=yx aj
  split at h
  .rename_i x y av;obtain⟨bc,bC,d2,rfl⟩:=Fd av
   split at h
   .rename_i c one bF;obtain⟨c9,rfl⟩:=yG bF
    split at h
    .rename_i iz g4 ap n eB hc;simp only[UB,VP]at h;obtain⟨⟨⟨⟨⟨J,aa⟩,aL⟩,a8⟩,cP⟩,f3⟩:=h;subst J;subst aa;subst aL;obtain⟨jO,aK,zx,a6,eP,rfl⟩:=SP eB;obtain⟨ck,bT,rfl⟩:=yJ hc;obtain⟨a1,a2,a3,lR⟩:=tn a8;obtain⟨cY,er,d6,fX⟩:=Dq cP;obtain⟨cp,dE,_⟩:=ku a3;obtain⟨f1,f2,_⟩:=ku d6;have f3:ap.endLine=eP.line:=f3;exact Qe aN.units lR fX (by rw[aN.nm];exact a1) (aN.mH a2) cp dE (by rw[aN.nm];exact cY) (aN.mH er) f1 f2 (by simpa using f3)
    .cases h
   .cases h
  .cases h
 .cases h
def Rw (aO : fg xp k g pg Φ n) (s : Den.S) (st : Stmt) (ct : Den.b4) (X : aV) (ae : sizeOf s < n + 1) (aN : dz xp k g pg Φ X ct) (aX : n4 xp g pg X ct) (h : Den.mU g ct s st = true) : eU X st (ew xp X ct.ak fun C => Den.ex pg Φ C s) := by
  cases s with
  | asg i e => exact F8 aN aX.loc aX.fn h
  | app i e =>
    obtain ⟨x, n, ap, y, bc, eP, i4, rfl, J, aa, aL, a8, cP, f3, ic⟩ := Gh (nm := "append") h
    obtain ⟨cp, dE, jq⟩ := ku a8
    exact P1 cP f3 (by rw [aN.nm]; exact aa) (aN.mH aL) cp dE J (tA aN ic).val (hy (fc ic))
  | ret e =>
    rw [Den.mU] at h
    split at h
    · rename_i y aj
      obtain ⟨pos, rfl⟩ := ER aj
      exact Qx (tA aN h).val
    · cases h
  | ri i =>
    rw [Den.mU] at h
    split at h
    · rename_i y aj
      obtain ⟨pos, rfl⟩ := ER aj
      split at h
      · rename_i x av
        obtain ⟨bc, rfl⟩ := ix av
        obtain ⟨a1, a2, a3, lR⟩ := tn h
        obtain ⟨cp, dE, _⟩ := ku a3
        exact Qy lR (by rw [aN.nm]; exact a1) (aN.mH a2) cp dE
      · cases h
    · cases h
  | m2 i => exact Gb aN aX h
  | kW i j => exact Ga aN h
  | iff c a b =>
    rw [Den.mU] at h
    split at h
    · rename_i t x y aj
      obtain ⟨pos, rfl⟩ := RN aj
      simp only [UB] at h
      have bW := aO.b a x ct X (by simp at ae; omega) aN aX h.1.2
      have cS := aO.b b y ct X (by simp at ae; omega) aN aX h.2
      exact Ql (tA aN h.1.1).pt bW cS
    · cases h
  | hG j ts s b =>
    rw [Den.mU] at h
    split at h
    · rename_i t it x aj
      obtain ⟨pos, rfl⟩ := RL aj
      split at h
      · rename_i xs aq
        simp only [UB] at h
        obtain ⟨⟨⟨⟨h0, J⟩, _⟩, aL⟩, a8⟩ := h
        obtain ⟨ck, bo, cm⟩ := zJ J
        have bj : X.N.Nodup := by rw [aN.nm]; exact aN.dU
        have xb : Den.mC s = true -> ∃ elts j p, t = .Tuple elts j p := fun aC => by
          rw [aC] at h0
          have aH : j = 2 := by simpa using h0
          subst aH
          cases t with
          | Tuple elts j p => exact ⟨elts, j, p, rfl⟩
          | _ => simp only [Den.eT] at aq; cases aq
        obtain ⟨e8, e9⟩ := (mR (xp := xp) (k := k) (g := g) (pg := pg) (Φ := Φ) (sizeOf s + 1)).i s it ct false X t (WA _) aN aL xb
        have ba := Dl aN.calm bj aq ck fun j i y aj av => by
          obtain ⟨c3, c1⟩ := cm j i y aj av
          exact ⟨by rw [aN.nm]; exact c3, aX.loc y c1, .inl (aX.fn y)⟩
        have cS := aO.b b x ct X (by simp at ae; omega) aN aX a8
        exact Qh aX.pass aN.calm bo e8 ba cS (set_plain e9)
      · cases h
    · cases h
def Rt(aO:fg xp k g pg Φ n)(b:Den.B)(st:List Stmt)(ct:Den.b4)(X:aV)(ae:sizeOf b<n+1)(aN:dz xp k g pg Φ X ct)(aX:n4 xp g pg X ct)(h:Den.j6 g ct b st=true):gJ X st (ew xp X ct.ak λC=>Den.eC pg Φ C b):=by
 unfold Den.j6 at h
 split at h
 .exact QD
 .rename_i s b x xs;simp only[UB]at h;have aI:=aO.s s x ct X (by simp at ae;omega) aN aX h.1
  have a5:=aO.b b xs ct X (by simp at ae;omega) aN aX h.2
  exact QB aI a5
 .cases h
theorem uY:∀n,fg xp k g pg Φ n
 |0=>⟨λ_ _ _ _ h=>by omega,λ_ _ _ _ h=>by omega⟩
 |n+1=>⟨Rw (uY n),Rt (uY n)⟩
def NX{b:Den.B}{st:List Stmt}{ct:Den.b4}{X:aV}(aN:dz xp k g pg Φ X ct)(aX:n4 xp g pg X ct)(h:Den.j6 g ct b st=true):gJ X st (ew xp X ct.ak λC=>Den.eC pg Φ C b):=(uY (sizeOf b+1)).b b st ct X (WA _) aN aX h
end
end bS
end
section
namespace bS
open PySem PySem.Spec PyProof.Rows bE
def EF{fd:Den.fJ}{ds:List D}{i:Nat}{d:D}(h:(Den.start fd ds)[i]?=some (some d)):ds[i]?=some d/\i<ds.length:=by
 unfold Den.start at h
 by_cases hi:i<ds.length
 .rw[UW (by simpa using hi),U1]at h
  refine⟨?_,hi⟩;cases e:ds[i]? with
  |none=>rw[e]at h;cases h
  |some a=>rw[e]at h;cases h;rfl
 .rw[Vp (by simpa using hi),W7]at h
  split at h<;>cases h
def Rp{N:List Str}{ag:List V}{i:Nat}{v:V}(h:ag[i]?=some v):(bE.start N ag)[i]?=some (some v):=by
 have hi:=(U2.mp h).1;unfold bE.start;rw[UW (by simpa using hi),U1,h];rfl
def Rh{K:W.Frag}{ak:List Nat}{G H:ax}{fd:Den.fJ}{N:List Str}{ds:List D}{ag:List V}(ae:bM G H)(d4:∀b xs,H b=some (.tup xs)->G b=some (.tup xs))(r:bD K G ds ag)(aD:N.length=fd.np+fd.nl)(aw:ds.length=fd.np)(hm:∀i∈ak,fd.np<=i):
  dT K ak G H G H (Den.start fd ds) (bE.start N ag):=by
 have no:∀{i:Nat}{d:D},(Den.start fd ds)[i]?=some (some d)->i∈ak->False:=λh q=>by
  have:=(EF h).2;have:=hm _ q;omega
 refine⟨⟨?_,ae,λi d h _=>?_,λi d h q=>(no h q).elim,λi d h q=>(no h q).elim,d4,λi j d e a b h _ _ _ q=>(no h q).elim⟩,Ext.refl ae,λi d a h _ q=>(no h q).elim⟩
 .unfold Den.start bE.start;rw[UM,UM,List.length_map,List.length_map,WL,WL,<- r.length];omega
 .obtain⟨v,J,aa⟩:=r.get (EF h).1;exact⟨v,Rp J,aa⟩
noncomputable def rF(K:W.Frag)(aF:Str->Option Value)(g:Den.Gt)(fds:List Den.fJ)(f:Nat)(x:Str):Prop :=
 ∃fd N st bg k0,fds[f]?=some fd/\Den.lY g N fd st=true/\aF x=some (.ref bg)/\bE.pN K x x st bg k0/\Binds K k0 ((gO st).args.map (·.arg)) []
section
variable{P:Program}{w:World}{K:W.Frag}{aF:Str->Option Value}{base:Heap}{xp:cj}{g:Den.Gt}{pg:Den.dk}{fds:List Den.fJ}
def zI{N:List Str}{fd:Den.fJ}{st:Stmt}(h:Den.lY g N fd st=true):((gO st).args.map (·.arg)).length=fd.np/\uF N ((gO st).args.map (·.arg)) (hb st)/\N.length=fd.np+fd.nl/\(∀i∈Den.kp fd.body,fd.np<=i/\i<N.length) /\
  Den.j6 g ⟨N,hb st,Den.kp fd.body⟩ fd.body (kV st)=true:=by
 unfold Den.lY at h
 split at h
 .rename_i name args body sc bind pos;simp only[UB,VP,Vg,UR,bne_iff_ne,ne_eq,UU]at h;obtain⟨⟨⟨⟨⟨⟨⟨⟨⟨⟨⟨⟨⟨⟨⟨J,aa⟩,aL⟩,a8⟩,cP⟩,f3⟩,_⟩,_⟩,_⟩,_⟩,_⟩,_⟩,ic⟩,dJ⟩,l9⟩,sr⟩:=h;have aw:(args.args.map (·.arg)).length=fd.np:=by rw[f3,Vl];omega
  refine⟨aw,⟨J,aa,aL,a8,?_,λx ah=>?_,dJ⟩,cP,l9,sr⟩
  .show N.take (args.args.map (·.arg)).length=args.args.map (·.arg)
   rw[aw,f3]
  .have ah:x∈args.args.map (·.arg):=ah
   rw[f3]at ah;have:=ic x ah;unfold Den.jM at this;have this:sc.names.lookup x=some .local\/sc.names.lookup x=some .cell:=by simpa using this
   exact this
 .cases h
def AH (lg : ∀ c e l h, ¬ xp c e l h) {n f : Nat} (T : ez P w K aF base xp n g pg (Den.run pg fds n)) {x : Str} {fd : Den.fJ} {N : List Str} {st : Stmt} {bg : Addr} {k0 : FuncData} (e : fds[f]? = some fd) (dG : Den.lY g N fd st = true) (F : bE.pN K x x st bg k0) :
    jZ P w K aF base (jY P w xp) (n + 1) bg k0 ((gO st).args.map (·.arg)) (nR K (Den.run pg fds (n + 1) f) ((gO st).args.map (·.arg)).length) := by
  obtain ⟨aw, S, bj, hq, Ke⟩ := zI dG
  have Lz : ∀ ds, Den.run pg fds (n + 1) f ds = Den.el pg (Den.run pg fds n) fd ds := fun ds => by rw [Den.rk, e]
  obtain ⟨eH, cn, de, doc, pm, an, dF, ct, eJ, rfl, lk, jB⟩ := F.ex
  refine JM lk jB S (fun ag H Q E h => h.1) fun A outer s H ag Q E aZ ⟨aQ, G, ds, ae, d4, r, hw⟩ => ?_
  have kg : ds.length = fd.np := by rw [r.length, aQ, aw]
  rw [Lz] at hw
  unfold Den.el at hw
  rw [if_pos kg] at hw
  refine ⟨ew xp (mY (jY P w xp) P w K aF base N x (hb st) bg dF A outer s H E) (Den.kp fd.body) fun C => Den.eC pg (Den.run pg fds n) C fd.body, ?_, ?_⟩
  · refine NX (ct := ⟨N, hb st, Den.kp fd.body⟩) (k := n) (g := g) (Φ := Den.run pg fds n) ⟨T, aZ, aZ.units, rfl, rfl, S.dU, fun i hi => (hq i hi).2, fun x h => h, fun x h => h, fun x h => h⟩ ⟨⟨rfl, rfl⟩, fun x h => ?_, fun _ => rfl, PassesOwn.leaving⟩ Ke
    unfold Den.jM at h
    have h : (hb st).names.lookup x = some .local \/ (hb st).names.lookup x = some .cell := by simpa using h
    exact h
  · refine ⟨G, H, G, Den.start fd ds, Rh ae d4 r bj kg fun i hi => (hq i hi).1, ?_⟩
    show dd (Den.eC pg (Den.run pg fds n) (Den.start fd ds) fd.body) _ _
    generalize Den.eC pg (Den.run pg fds n) (Den.start fd ds) fd.body = gf at hw ⊢
    have hR : ∀ c : Nat, (∀ ao, bM H ao -> E (.int c 0) none ao) -> gK xp (mY (jY P w xp) P w K aF base N x (hb st) bg dF A outer s H E) c H := fun c A6 pins σ ao s' e l I bO nw ah => absurd ah (lg _ _ _ _)
    cases gf with
    | bad => exact hw.elim
    | exc c => exact hR c hw
    | ok hk =>
      cases hk with
      | cV C => exact fun σ aP ao cv => hw .cU aP ao cv.ext rfl
      | ec d => exact fun v aP ao ext rep => hw v aP ao ext rep
def Sj(lg:∀c e l h,¬xp c e l h){n:Nat}(T:ez P w K aF base xp n g pg (Den.run pg fds n))(hd:∀f x,g.fns[f]?=some x->rF K aF g fds f x):ez P w K aF base xp (n+1) g pg (Den.run pg fds (n+1)):=by
 refine⟨λf x ah=>?_,T.blt,T.l7⟩
 obtain⟨fd,N,st,bg,k0,e,dG,hm,F,af⟩:=hd f x ah;obtain⟨aw,_⟩:=zI dG;exact⟨bg,k0,_,hm,F.iZ,af,AH lg T e dG F,λds kg=>by rw[Den.rk,e];unfold Den.el;exact if_neg (by rw[<- aw];exact kg)⟩
theorem EZ(lg:∀c e l h,¬xp c e l h)(hd:∀f x,g.fns[f]?=some x->rF K aF g fds f x)(af:∀x:Str,x∈pK->aF x=none)(ba:∀(j:Nat)(x:Str)(d:D),g.l7[j]?=some x->pg.cs[j]?=some d->∃v u,aF x=some u/\RelV v u/\∀G,Rep K G d v):
  ∀n,ez P w K aF base xp n g pg (Den.run pg fds n)
 |0=>⟨λf x ah=>by
   obtain⟨fd,N,st,bg,k0,e,dG,hm,F,af⟩:=hd f x ah;exact⟨bg,k0,_,hm,F.iZ,af,⟨λag H Q E h=>h.1,λA outer s H args us ag Q E _ _ _ _ ⟨_,_,_,_,_,_,h⟩=>h.elim⟩,λ_ _=>rfl⟩,af,ba⟩
 |n+1=>Sj lg (EZ lg hd af ba n) hd
end
noncomputable def n0(Q:Nat->Str->Prop):Nat->List Str->Prop
 |_,[]=>True
 |n,x::xs=>Q n x/\n0 Q (n+1) xs
theorem n0.get{Q:Nat->Str->Prop}:∀{xs:List Str}{n f:Nat}{x:Str},n0 Q n xs->xs[f]?=some x->Q (n+f) x
 |[],_,_,_,_,h=>by simp at h
 |y::xs,n,0,x,q,h=>by simp at h;subst h;exact q.1
 |y::xs,n,f+1,x,q,h=>by
  have:=n0.get (n:=n+1) (f:=f) q.2 (by simpa using h)
  rwa[Nat.add_right_comm,Nat.add_assoc]at this
def Jj{us:List Value}(h:us.length=1):∃a,us=[a]:=List.length_eq_one_iff.mp h
def Jk{us:List Value}(h:us.length=2):∃a b,us=[a,b]:=by
 match us,h with
 |[a,b],_=>exact⟨a,b,rfl⟩
def Jl{us:List Value}(h:us.length=3):∃a b c,us=[a,b,c]:=by
 match us,h with
 |[a,b,c],_=>exact⟨a,b,c,rfl⟩
noncomputable def AllB(K:W.Frag):List Str->Prop
 |[]=>True
 |x::xs=>W.nsIn K mainGlobals x=some none/\AllB K xs
theorem AllB.get{K:W.Frag}{h:Heap}{aF:Str->Option Value}(X:K.In h)(G:h.Ns mainGlobals aF):∀{xs:List Str},AllB K xs->∀x∈xs,aF x=none
 |[],_,x,ah=>by simp at ah
 |y::ys,q,x,ah=>by
  rcases UI.mp ah with rfl|ah
  .exact PySem.W.mg_none_of X G q.1
  .exact AllB.get X G q.2 x ah
noncomputable def rG(K:W.Frag)(x:Str)(st:Stmt):Prop :=
 ∃(f:Addr)(eH:Value)(cn:Option Addr)(de doc pm:Value)(an:Option Addr)(dF ct:Value)(eJ:Array (Option Value)),W.nsIn K mainGlobals x=some (some (.ref f)) /\
  K.lookup f=some ⟨eH,cn,.func (W.fnOf x x (gO st) (kV st) (hb st) .none de doc pm an dF ct),eJ⟩/\W.codeIn K dF x=true/\W.keepIn K (.ref f)=true
def H0{K:W.Frag}{x:Str}{st:Stmt}{f:Addr}{eH:Value}{cn:Option Addr}{de doc pm:Value}{an:Option Addr}{dF ct:Value}{eJ:Array (Option Value)}(a:W.nsIn K mainGlobals x=some (some (.ref f)))(l:K.lookup f=some ⟨eH,cn,.func (W.fnOf x x (gO st) (kV st) (hb st) .none de doc pm an dF ct),eJ⟩)(c:W.codeIn K dF x=true)(k:W.keepIn K (.ref f)=true):rG K x st:=⟨f,eH,cn,de,doc,pm,an,dF,ct,eJ,a,l,c,k⟩
def fP{K:W.Frag}{h:Heap}{aF:Str->Option Value}{g:Den.Gt}{fds:List Den.fJ}{j:Nat}{x:Str}{st:Stmt}{fd:Den.fJ}{N:List Str}(X:K.In h)(G:h.Ns mainGlobals aF)(d:rG K x st)(hf:fds[j]?=some fd)(dG:Den.lY g N fd st=true)(af:∀(de doc pm:Value)(an:Option Addr)(dF ct:Value)(us:List Value),us.length=((gO st).args.map (·.arg)).length->bindArgs (W.fnOf x x (gO st) (kV st) (hb st) .none de doc pm an dF ct) ⟨us,[]⟩=pure (((gO st).args.map (·.arg)).zip us)):rF K aF g fds j x:=by
 obtain⟨f,eH,cn,de,doc,pm,an,dF,ct,eJ,a,l,c,k⟩:=d;have F:=AO l c k;exact⟨fd,N,st,f,_,hf,dG,PySem.W.mg_of X G a,F,F.binds af⟩
theorem DF{K:W.Frag}{G:ax}:∀ns:List Int,bD K G (ns.map Den.D.int) (ns.map V.int)
 |[]=>rfl
 |n::ns=>⟨.int n,ns.map V.int,rfl,rfl,DF ns⟩
def Rm{K:W.Frag}{H:ax}{a:Addr}{ns:List Int}{g5:List D->br D}(aX:dW K H a (ns.map V.int))(aS:g5 [.lst (ns.map .int)]=.ok (.aM true)):nR K g5 1 [.ref a] H (λv _=>v=.aM true) λ_ _ _=>False:=by
 refine⟨rfl,H,[.lst (ns.map .int)],bM.refl H,λ_ _ z=>z,⟨.ref a,[],rfl,⟨a,_,rfl,aX,DF ns⟩,rfl⟩,?_⟩
 rw[aS];exact λv aP ao _ r=>r
def HA{P:Program}{w:World}{xp:cj}{outer:List Env}{H:ax}{s:Shared}{e:Value}{s':Shared}:jY P w xp outer H s (λ_ _ _=>False) e s'->False:=λ⟨_,_,_,_,_,_,_,_,_,_,h⟩=>h
noncomputable def ir:cj:=λ_ _ _ _=>False
def MS{l:PySem.W.OpenLaw}{w:World}{K:W.Frag}{h:Heap}{aF:Str->Option Value}{bg:Addr}{g:Den.Gt}{pg:Den.dk}{fds:List Den.fJ}{xp:cj}{n f:Nat}{st:Stmt}{fd:Den.fJ}{N:List Str}{x:Str}(X:K.In h)(G:h.Ns mainGlobals aF)(KP:aF "law"=some (.ref bg))(dl:rG K "law" st)(hf:fds[f]?=some fd)(dG:Den.lY g N fd st=true)(ah:(gO st).args.map (·.arg)=[x])(wR:∀(de doc pm:Value)(an:Option Addr)(dF ct:Value)(s:Shared)(u:Value),BindsTo s (W.fnOf "law" "law" (gO st) (kV st) (hb st) .none de doc pm an dF ct) ⟨[u],[]⟩ [(x,u)])(lg:∀c e l h,¬xp c e l h)(T:∀base:Heap,K.In base->base.Ns mainGlobals aF->ez l.prog w K aF base xp n g pg (Den.run pg fds n)):
  ∃fd:FuncData,(∀(s:Shared)(u:Value),BindsTo s fd ⟨[u],[]⟩ [(x,u)])/\∀base:Heap,K.In base->base.Ns mainGlobals aF->jZ l.prog w K aF base (jY l.prog w xp) (n+1) bg fd [x] (nR K (Den.run pg fds (n+1) f) 1):=by
 obtain⟨j9,eH,cn,de,doc,pm,an,dF,ct,eJ,a,il,c,k⟩:=dl;have e:=KP.symm.trans (PySem.W.mg_of X G a);cases e;refine⟨_,wR de doc pm an dF ct,λbase qQ nb=>?_⟩
 have F:=AO il c k;have:=AH lg (T base qQ nb) (f:=f) hf dG F;rw[ah]at this;exact this
def walk{g:Den.Gt}{l:PySem.W.OpenLaw}{q:Program}{loose:List Str}{cj:(Str->Option Value)->Heap->Prop}{lQ:World->Heap->Prop}{d:DefRec}{K:Params->W.Frag}{pg:Den.dk}{fds:List Den.fJ}{n f:Nat}{x:Str}(aD:l.most=some 63)(qz:d.params.defaults=[])(aZ:n<=40)(aS:∀ns:List Int,Den.run pg fds n f [.lst (ns.map .int)]=.ok (.aM true))(fS:∀(w:World)(h:Heap),lQ w h->(K w.params).In h)(F:∀(w:World)(aF:Str->Option Value)(bg:Addr)(h:Heap),(K w.params).In h->h.Ns mainGlobals aF->aF d.name=some (.ref bg) ->
   ∃fd:FuncData,(∀(s:Shared)(u:Value),BindsTo s fd ⟨[u],[]⟩ [(x,u)])/\∀base:Heap,(K w.params).In base->base.Ns mainGlobals aF->jZ l.prog w (K w.params) aF base (jY l.prog w ir) n bg fd [x] (nR (K w.params) (Den.run pg fds n f) 1)):
  PySem.W.WalkO q loose cj lQ l.row.toRowW d [] (λf ag=>PySem.call f ag) :=
 bE.S7 (n:=63) (k:=n) (x:=x) (CX:=λw=>jY l.prog w ir) (sp:=λw=>nR (K w.params) (Den.run pg fds n f) 1) aD (by decide) qz (fy.mono (⟨rfl,by decide,by decide⟩:fy 40 callerA) aZ) fS F (λw H a ns _ _ aX=>Rm aX (aS ns)) λ_ _ _ _ _ z=>HA z
end bS
end
section
set_option Elab.async false
namespace rK
open PySem PySem.Spec PyProof.Rows bE bS
noncomputable def s7:List Nat:=[1,2,3,4,6,7,8,9,10,11,12,13,14,15,16,17,18,19,20]
noncomputable def st(j:Nat):Stmt:=PySem.Challenge.pw_holeyard_k10_rims.main.body.getD (s7.getD j 0) (.Pass ⟨0,0,0,0⟩)
def He:((List.range 19).all λj=>Den.lY fM.gt (fM.CO.getD j []) (fM.fds.getD j ⟨0,0,.nil⟩) (st j))=true:=by decide +kernel
def dG(j:Nat)(h:j<19):Den.lY fM.gt (fM.CO.getD j []) (fM.fds.getD j ⟨0,0,.nil⟩) (st j)=true:=UR.mp He j (List.mem_range.mpr h)
structure Txt(K:W.Frag):Prop where
 ds:n0 (λj x=>rG K x (st j)) 0 fM.gt.fns
 aM:AllB K pK
section
variable{K:W.Frag}{h:Heap}{aF:Str->Option Value}
theorem fns(X:K.In h)(G:h.Ns mainGlobals aF)(t:Txt K):n0 (rF K aF fM.gt fM.fds) 0 fM.gt.fns:=by
 obtain⟨mZ,cp,dE,jq,vK,HK,HL,HM,HN,HO,HB,HC,HD,HE,HF,HG,HH,HI,HJ,-⟩:=t.ds;refine⟨fP X G mZ rfl (dG 0 (by decide)) ?_,fP X G cp rfl (dG 1 (by decide)) ?_,fP X G dE rfl (dG 2 (by decide)) ?_,fP X G jq rfl (dG 3 (by decide)) ?_,fP X G vK rfl (dG 4 (by decide)) ?_,fP X G HK rfl (dG 5 (by decide)) ?_,fP X G HL rfl (dG 6 (by decide)) ?_,fP X G HM rfl (dG 7 (by decide)) ?_,fP X G HN rfl (dG 8 (by decide)) ?_,fP X G HO rfl (dG 9 (by decide)) ?_,fP X G HB rfl (dG 10 (by decide)) ?_,fP X G HC rfl (dG 11 (by decide)) ?_,fP X G HD rfl (dG 12 (by decide)) ?_,fP X G HE rfl (dG 13 (by decide)) ?_,fP X G HF rfl (dG 14 (by decide)) ?_,fP X G HG rfl (dG 15 (by decide)) ?_,fP X G HH rfl (dG 16 (by decide)) ?_,fP X G HI rfl (dG 17 (by decide)) ?_,fP X G HJ rfl (dG 18 (by decide)) ?_,trivial⟩<;>intro _ _ _ _ _ _ us aw<;>first|(obtain⟨_,rfl⟩:=Jj aw;rfl)|(obtain⟨_,_,rfl⟩:=Jk aw;rfl)|(obtain⟨_,_,_,rfl⟩:=Jl aw;rfl)
def cH{P:Program}{w:World}(X:K.In h)(G:h.Ns mainGlobals aF)(t:Txt K)(base:Heap)(qQ:K.In base)(nb:base.Ns mainGlobals aF):ez P w K aF base ir 20 fM.gt fM.pg (Den.run fM.pg fM.fds 20) :=
 EZ (λ_ _ _ _ z=>z) (λf x e=>by have:=(fns X G t).get e;rwa[WW]at this) (AllB.get X G t.aM) (λj x d aj av=>by cases aj) _
end
end rK
noncomputable def PySem.W.Fast.tw7964003458658710534:=PySem.Challenge.pw_holeyard_k10_rims
theorem PySem.W.Fast.te7964003458658710534:PySem.Challenge.pw_holeyard_k10_rims=PySem.W.Fast.tw7964003458658710534:=rfl
noncomputable def PySem.W.Fast.tw10200143856477241550:=()
noncomputable def PySem.W.Fast.tw10896188593671948082:=()
noncomputable def PySem.W.Fast.tw1098437881727807379:=()
noncomputable def PySem.W.Fast.tw11458764575331316649:=()
noncomputable def PySem.W.Fast.tw11585031057122638167:=()
noncomputable def PySem.W.Fast.tw11788387826663103121:=()
noncomputable def PySem.W.Fast.tw12073919570461690260:=()
noncomputable def PySem.W.Fast.tw1212839253380731089:=()
noncomputable def PySem.W.Fast.tw1242541817106789081:=()
noncomputable def PySem.W.Fast.tw12494978766611756664:=()
noncomputable def PySem.W.Fast.tw12937015919191189081:=()
noncomputable def PySem.W.Fast.tw13109308446397929066:=()
noncomputable def PySem.W.Fast.tw13702501310961103912:=()
noncomputable def PySem.W.Fast.tw14775959155244172219:=()
noncomputable def PySem.W.Fast.tw15255686111158124016:=()
noncomputable def PySem.W.Fast.tw15875890452874880480:=()
noncomputable def PySem.W.Fast.tw16047892030161170722:=()
noncomputable def PySem.W.Fast.tw16537702412994686318:=()
noncomputable def PySem.W.Fast.tw16778928992269757822:=()
noncomputable def PySem.W.Fast.tw1681410307147447751:=()
noncomputable def PySem.W.Fast.tw16947208527435187445:=()
noncomputable def PySem.W.Fast.tw17015172362261317517:=()
noncomputable def PySem.W.Fast.tw17062368817336137584:=()
noncomputable def PySem.W.Fast.tw17275279494740828664:=()
noncomputable def PySem.W.Fast.tw17887252441580457212:=()
noncomputable def PySem.W.Fast.tw1830420073274928512:=()
noncomputable def PySem.W.Fast.tw189373614646608352:=()
noncomputable def PySem.W.Fast.tw2151676428442312235:=()
noncomputable def PySem.W.Fast.tw2920821317349958627:=()
noncomputable def PySem.W.Fast.tw3286956410450708637:=()
noncomputable def PySem.W.Fast.tw332936460059642017:=()
noncomputable def PySem.W.Fast.tw3696168977179889892:=()
noncomputable def PySem.W.Fast.tw3958768600328293473:=()
noncomputable def PySem.W.Fast.tw4071731274047384115:=()
noncomputable def PySem.W.Fast.tw4147051024862163336:=()
noncomputable def PySem.W.Fast.tw4546822922366967114:=()
noncomputable def PySem.W.Fast.tw4551041906595667265:=()
noncomputable def PySem.W.Fast.tw4592035782131260100:=()
noncomputable def PySem.W.Fast.tw4693197257732123941:=()
noncomputable def PySem.W.Fast.tw5914442705135639127:=()
noncomputable def PySem.W.Fast.tw6190669416198168049:=()
noncomputable def PySem.W.Fast.tw7065038363558046931:=()
noncomputable def PySem.W.Fast.tw7140746535839647853:=()
noncomputable def PySem.W.Fast.tw7467201251089706620:=()
noncomputable def PySem.W.Fast.tw7487270811965311912:=()
noncomputable def PySem.W.Fast.tw7884511456288874813:=()
noncomputable def PySem.W.Fast.tw7928374743113614792:=()
noncomputable def PySem.W.Fast.tw7932294403091155958:=()
noncomputable def PySem.W.Fast.tw8057515440063609185:=()
noncomputable def PySem.W.Fast.tw830495586979337150:=()
noncomputable def PySem.W.Fast.tw9381150582425527120:=()
noncomputable def PySem.W.Fast.tw9659285789296799550:=()
noncomputable def PySem.W.Fast.tw9829051227374319432:=()
noncomputable def PySem.W.Fast.tw993281300052759781:=()
open PySem PySem.W PyProof.Rows
set_option maxRecDepth 100000 in
set_option maxHeartbeats 0 in
theorem PySem.Challenge.cw_holeyard_k10_rims_holds : PySem.Challenge.rw_holeyard_k10_rims.Holds := by
 w_on;o_law;k_head;(case hw=>w_witness2)
 k_fill
 refine bS.walk (g:=fM.gt) (l:=PySem.Challenge.rw_holeyard_k10_rims) (pg:=fM.pg) (fds:=fM.fds) (n:=21) (f:=18) (x:="_law_script") rfl rfl (by decide) y6.R0 (λw h Y=>PySem.W.kIn_of Y) ?F
 case F =>
  intro w aF bg h iD G nh;have t:rK.Txt (bE.y1 iD):=by
   refine⟨⟨?_,?_,?_,?_,?_,?_,?_,?_,?_,?_,?_,?_,?_,?_,?_,?_,?_,?_,?_,trivial⟩,⟨?_,?_,?_,?_,?_,?_,?_,?_,?_,?_,?_,trivial⟩⟩<;>dsimp only[bE.y1]<;>first|(refine' bS.H0 ?a ?l ?c ?k;(case a=>k_is);(case l=>k_is);(case c=>k_is);(case k=>k_is))|k_is
  exact bS.MS iD G nh (t.ds.get (f:=18) rfl) rfl (rK.dG 18 (by decide)) rfl (λ_ _ _ _ _ _ s u=>.of_eq rfl) (λ_ _ _ _ z=>z) (rK.cH iD G t)
end
