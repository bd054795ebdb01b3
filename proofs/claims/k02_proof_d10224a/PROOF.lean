import PyProof.Rows.All
import Wide.All
import OpenK.AllK
import Wide.FinOn
import Lean
import PyProof.EqAt
import PyProof.EqKinds
import PyProof.TupleCall
import PySem.Value
import PySem.Sem
import PySem.SetTable
import PyProof.TupleKey
import PyProof.SetKind
import PyProof.DictKinds
import PyProof.IsRules
import PyProof.CompMap
import PyProof.Rows.SetFrom
import PyProof.WalksMore
import PyProof.FactsAll.subtypes_4
import PyProof.FactsAll.set
import PyProof.Seq
import PyProof.Walks
import PyProof.CollectStr
import PyProof.ListRange
import PyProof.Rows.SortShell
import PyProof.Rows.SortRuns
import KE.KSortAsk
import KE.KSortTup
import PyProof.ZipIter
import PyProof.TupleIter
import PyProof.StrLaws
import PyProof.StationsW
import PyProof.RulesAs
import PyProof.ExcClass3
import PyProof.IsInstance
import OpenK.KMore
import PyProof.ExcArgsOwn
import OpenK.KDescr
import PyProof.EnumMake
import PyProof.EnumFor
import PyProof.EnumStmt
import PyProof.StrCalls2
import PyProof.ExcBaseAll.ValueError
import PySem.Challenge.RW_holeyard_k02_written
set_option linter.all false
def Wh:=@PySem.wpAny_bind
def Wi:=@Bool.and_eq_true
def Wj:=@PySem.Heap.get?_push_of_some
def Wk:=@Bool.false_eq_true
def Wl:=@PySem.Heap.lt_size
def Wm:=@Nat.le_refl
def Wn:=@PyProof.Rows.wpS_bind
def Wo.{u}:=@List.mem_cons.{u}
def Wq:=@PySem.Heap.get?_push_size
def Wr.{u}:=@List.getElem?_eq_getElem.{u}
def Ws:=@Nat.zero_le
def Wt.{u}:=@List.all_eq_true.{u}
def Wu.{u}:=@List.length_append.{u}
def Wv.{u}:=@List.size_toArray.{u}
def Ww:=@PyProof.Rows.wpS_pure
def Wx.{u}:=@List.append_assoc.{u}
def Wy.{u}:=@Array.getElem?_eq_getElem.{u}
def Wz.{u}:=@List.pairwise_append.{u}
def WA.{u,v}:=@List.map_cons.{u,v}
def WB:=@Nat.ne_of_lt
def WC.{u}:=@List.getElem?_append_left.{u}
def WD.{u}:=@List.mem_append_right.{u}
def WE.{u}:=@List.getElem?_eq_some_iff.{u}
def WG:=@PySem.wpAny_newObj_type
def WH:=@decide_eq_true_eq
def WI:=@Nat.lt_of_lt_of_le
def WJ.{u,v}:=@List.getElem?_map.{u,v}
def WK:=@PySem.Heap.get?_update_other
def WL.{u}:=@Array.toList_append.{u}
def WM.{u}:=@if_false.{u}
def WN:=@List.mem_range
def WO.{u}:=@Array.getElem?_eq_some_iff.{u}
def WQ:=@PyProof.Rows.slot_tuple_getitem
def WR.{u}:=@Array.size_push.{u}
def WS.{u}:=@List.pairwise_cons.{u}
def WT.{u}:=@List.mem_append.{u}
def WU.{u}:=@Option.some.inj.{u}
def WV.{u}:=@List.getElem?_eq_none.{u}
def WW:=@PySem.Heap.get?_update_self
def WX:=@PySem.wpAny_field
def WY.{u,v}:=@List.lookup_cons.{u,v}
def WZ.{u}:=@List.mem_append_left.{u}
def W0:=@Bool.false_and
def W2.{u}:=@List.length_take.{u}
def W3.{u}:=@List.length_drop.{u}
def W4:=@PySem.wpAny_callSpecial?_slot
def W5:=@Bool.false_ne_true
def W6:=@PySem.sizeLine_eq
def W7:=@PyProof.Rows.callWith_type1
def W8:=@Nat.max_eq_right
def W9.{u}:=@Array.getElem?_toList.{u}
def Xa:=@PySem.mem_of_lookup
def Xb:=@PySem.wpAny_call_entry
def Xc:=@Bool.and_false
def Xd:=@Bool.not_eq_true'
def Xe:=@PySem.Heap.SameBut.update
def Xf:=@PyProof.Rows.wpS_forRange
def Xg:=@PySem.W.kia_one
def Xh.{u}:=@List.getElem?_append_right.{u}
def Xi.{u}:=@beq_iff_eq.{u}
def Xj:=@PySem.wpAny_truthy_bool
def Xk:=@PySem.wpAny_loadPart_at
def Xl.{u}:=@if_true.{u}
def Xm.{u}:=@Array.size_extract.{u}
def Xn.{u}:=@List.take_of_length_le.{u}
def Xo.{u}:=@List.mem_singleton.{u}
def Xp.{u}:=@List.nodup_cons.{u}
def Xq.{u}:=@Array.getElem?_setIfInBounds.{u}
def Xr:=@PySem.codeAny_builtin
def Xs.{u}:=@Array.getInternal_eq_getElem.{u}
def Xt:=@Nat.le_trans
def Xu.{u}:=@Option.some.injEq.{u}
def Xv.{u}:=@Array.getD_eq_getD_getElem?.{u}
def Xw.{u,v}:=@List.mem_map.{u,v}
def Xx:=@PySem.wpAny_setState_of
def Xy:=@PySem.wpAny_mono
def Xz:=@Nat.lt_irrefl
def XA:=@PySem.wpAny_holding
def XB.{u}:=@Ne.symm.{u}
def XC:=@PySem.wpAny_seqItems
def XD:=@PySem.wpAny_setField
def XE:=@PyProof.Rows.wpS_modify
def XF.{u}:=@List.mem_of_getElem?.{u}
def XG.{u}:=@List.mem_iff_getElem.{u}
def XH:=@PySem.Around.under_plainId
def XI:=@PyProof.Rows.wpS_mono
def XJ:=@Bool.not_true
def XK.{u}:=@List.replicate_succ.{u}
def XM.{u,v}:=@List.map_congr_left.{u,v}
def XN:=@PySem.wpAny_isSubtype_exc
def XO.{u}:=@List.append_nil.{u}
def XP.{u}:=@List.drop_eq_getElem_cons.{u}
def XQ.{u,v}:=@congrArg.{u,v}
def XR:=@PySem.wpAny_Call_Name_kw
def XS:=@PySem.wpAny_rule
def XT.{u}:=@List.not_mem_nil.{u}
def XU:=@PySem.Obj.data_mapFields
def XW:=@PySem.Heap.size_push
def XX.{u}:=@List.pairwise_singleton.{u}
def XY.{u}:=@Array.size_append.{u}
def XZ.{u}:=@beq_eq_false_iff_ne.{u}
def X0:=@PyProof.Rows.F.plain_set_update_loop
def X1:=@PySem.F.slot_tuple_iterator_next
def X2:=@PySem.wpAny_setField_rec
def X3.{u}:=@List.take_append_drop.{u}
def X4.{u}:=@List.Perm.append_left.{u}
def X5.{u}:=@List.length_filter_le.{u}
def X6.{u}:=@List.pairwise_iff_getElem.{u}
def X7:=@Bool.or_eq_true
def X8.{u}:=@List.length_set.{u}
def X9:=@PySem.wpAny_typeOf
def Ya.{u,v}:=@List.pairwise_map.{u,v}
def Yb.{u}:=@List.ext_getElem?.{u}
def Yc.{u}:=@bne_self_eq_false.{u}
def Yd.{u}:=@List.getElem_take.{u}
def Ye.{u}:=@List.mem_of_mem_take.{u}
def Yf.{u}:=@Array.toList_reverse.{u}
def Yg:=@of_decide_eq_true
def Yh:=@PySem.AutoSeq1.wpAny_loadPart'
def Yi.{u}:=@List.getElem?_replicate.{u}
def Yj.{u,v}:=@List.mem_filterMap.{u,v}
def Yk:=@PySem.wpAny_pyIter_tuple
def Yl:=@PySem.F.called_set
def Ym.{u}:=@List.Perm.append_right.{u}
def Yn.{u}:=@List.drop_eq_nil_of_le.{u}
def Yo.{u}:=@List.contains_cons.{u}
def Yp.{u}:=@List.length_replicate.{u}
def Yq.{u}:=@List.getElem?_toArray.{u}
def Yr.{u}:=@List.perm_append_comm.{u}
def Ys:=@PySem.Obj.isFreed_of_fields
def Yt.{u}:=@List.contains_iff_mem.{u}
def Yu.{u}:=@Array.toList_push.{u}
def Yv.{u}:=@List.getElem_drop.{u}
def Yw.{u}:=@List.mem_of_mem_drop.{u}
def Yx:=@Nat.le_of_lt
def Yy:=@Nat.ne_of_gt
def Yz:=@Nat.le_add_right
def YA:=@PySem.wpAny_askSetting
def YB:=@Nat.lt_succ_self
def YC:=@List.getElem?_range
def YD:=@PyProof.Rows.F.entry_set_update_loop
def YE.{u}:=@List.reverse_append.{u}
def YF:=@PySem.F.args_tuple_add_2
def YG.{u}:=@List.Pairwise.imp_of_mem.{u}
def YH:=@PySem.wpAny_attempt
def YI.{u}:=@List.mem_filter.{u}
def YJ:=@PySem.wpAny_passesOwn
def YK:=@PyProof.Rows.wpS_get
def YL:=@PySem.Calls.spliced_cons
def YM:=@PySem.F.entry_tuple_add
def YN:=@PySem.Str.length_append
def YO:=@PySem.Calls.spliced_nil
def YP:=@PySem.F.slot_tuple_add
def YQ.{u}:=@List.reverse_cons.{u}
def YR:=@Nat.zero_add
def YS.{u}:=@Array.getElem?_eq_none.{u}
def YT:=@List.pairwise_lt_range
def YU:=@PySem.wpAny_storeSet_of
def YV:=@PySem.wpAny_pyIter_list
def YW:=@PySem.wpAny_runValue
def YX:=@PySem.F.plain_list_iadd
def YY:=@List.range_succ_eq_map
def YZ:=@PySem.builtinLookup_eq_fast
def Y0:=@PySem.F.typeOf_object_class
def Y1:=@PyProof.Rows.callWith_builtin1
def Y2:=@PySem.wpAny_forIn_list
def Y3:=@PySem.putSet_of
def Y4:=@PySem.wpAny_isInstance
def Y5.{u}:=@List.drop_length.{u}
def Y6:=@PyProof.Rows.reverseSlice'_eq
def Y7:=@PySem.plainId_quiet
def Y8:=@PySem.wpAny_onRaise
def Y9.{u}:=@List.getElem?_set_ne.{u}
def Za:=@Nat.pow_le_pow_right
def Zb:=@PySem.codeAny_call_builtin
def Zc.{u}:=@Array.toList_extract.{u}
def Zd:=@PySem.wpAny_updateSeq_pair
def Ze:=@Bool.and_eq_true_iff
def Zf:=@PySem.wpAny_execs_nil
def Zg:=@PySem.wpAny_ite_split
def Zh:=@PySem.F.args_tuple_iterator_next_1
def Zi:=@PySem.F.slot_zip_next
def Zj:=@PyProof.Rows.entry_tuple_getitem
def Zk:=@PySem.wpAny_setEntries_of
def Zl.{u,v}:=@List.flatMap_append.{u,v}
def Zm.{u,v}:=@List.mem_map_of_mem.{u,v}
def Zn:=@PySem.codeAny_mono
def Zo:=@Nat.succ_mul
def Zp:=@PySem.F.entry_tuple_iterator_next
def Zq:=@Bool.or_true
def Zr:=@PySem.Calls.Name_function_global
def Zs:=@PyProof.Rows.slicePart_none
def Zt:=@PyProof.Rows.args_tuple_getitem
def Zu:=@Bool.not_false
def Zv.{u}:=@List.nodup_nil.{u}
def Zw.{u}:=@List.Perm.refl.{u}
def Zx:=@PySem.Code.quiet_builtin
def Zy:=@PySem.isSubtype_type
def Zz.{u}:=@List.take_zero.{u}
def ZA.{u}:=@Array.toList_setIfInBounds.{u}
def ZC.{u}:=@Array.perm_iff_toList_perm.{u}
def ZD:=@PyProof.Rows.tupleItemsOf_
def ZE:=@Classical.byContradiction
def ZF:=@PySem.Value.isInt_shape
def ZG.{u}:=@List.any_eq_false.{u}
def ZH:=@PySem.W.kitx_list
def ZI:=@PySem.wpAny_sequenceKey
def ZJ.{u}:=@List.Pairwise.imp.{u}
def ZK:=@PySem.Heap.SameBut.refl
def ZL.{u}:=@dif_pos.{u}
def ZM:=@PySem.AutoSeq1.sub_tuple_tuple
def ZN:=@Bool.and_true
def ZO:=@PyProof.Rows.listUpdate_at
def ZP:=@PySem.W.mg_of
def ZQ:=@PySem.noFill_tuple_add
def ZR:=@or_false
def ZS:=@PyProof.Rows.wpS_lift
def ZT.{u}:=@Array.toList_inj.{u}
def ZU:=@PySem.isinstance_outer
def ZV:=@PySem.F.slot_tuple_mul
def ZW:=@PySem.F.plainAttrs_list
def ZX:=@PySem.W.cellsFrom_some
def ZY:=@PySem.concat_meets
def ZZ:=@PySem.typeLookup_type
def Z0:=@PySem.wpAny_updateSeq
def Z1:=@Bool.eq_iff_iff
def Z2.{u}:=@List.cons.injEq.{u}
def Z3:=@PySem.call_isinstance
def Z4:=@PySem.wpAny_of_eq
def Z5:=@PySem.isSubtype_stop
def Z6.{u}:=@List.drop_zero.{u}
def Z7:=@PySem.wpAny_loadPart
def Z8:=@PySem.seq_tuple_add
def Z9:=@Bool.and_self
def aaa:=@Nat.mod_lt
def aab:=@Nat.not_lt
section
set_option Elab.async false
set_option linter.all false
set_option maxRecDepth 100000
namespace bx
open PySem PySem.Spec PyProof.Rows
noncomputable abbrev Key:=Sum Int Str
noncomputable def Dg:Key->Value->Bool
 |.inl k,v=>Value.isInt k v
 |.inr x,v=>Value.isStrOf x v
noncomputable def OA(w:World):Key->Int
 |.inl k=>hashInt k
 |.inr x=>hashStr w x
def la:∀{k:Key}{v:Value},Dg k v=true->(∃i t,k=Sum.inl i/\v=Value.int i t)\/(∃x t,k=Sum.inr x/\v=Value.str x t)
 |.inl i,v,h=>by
  obtain⟨t,e⟩:=ZF (k:=i) (v:=v) h;exact .inl ⟨i,t,rfl,e⟩
 |.inr x,v,h=>by
  obtain⟨t,e⟩:=Value.isStrOf_shape (x:=x) (v:=v) h;exact .inr ⟨x,t,rfl,e⟩
def OC(a b:Int):decide ((Sum.inl a:Key)=Sum.inl b)=(a==b):=by
 by_cases e:a=b
 .subst e;simp
 .have h:¬(Sum.inl a:Key)=Sum.inl b:=λq=>e (Sum.inl.inj q)
  rw[decide_eq_false h];exact(XZ.mpr e).symm
def OF(a b:Str):decide ((Sum.inr a:Key)=Sum.inr b)=decide (a=b):=by
 by_cases e:a=b
 .subst e;simp
 .have h:¬(Sum.inr a:Key)=Sum.inr b:=λq=>e (Sum.inr.inj q)
  rw[decide_eq_false h,decide_eq_false e]
def OD(a:Int)(b:Str):decide ((Sum.inl a:Key)=Sum.inr b)=false:=decide_eq_false (λq=>nomatch q)
def OE(a:Str)(b:Int):decide ((Sum.inr a:Key)=Sum.inl b)=false:=decide_eq_false (λq=>nomatch q)
noncomputable def DO(prog:Program)(w:World):PySem.KeyKind prog w Key where
 is:=Dg
 hash:=OA w
 inj:=λv a b aC ae=>by
  rcases la aC with⟨i,t,rfl,rfl⟩|⟨x,t,rfl,rfl⟩
  .rcases la ae with⟨j,u,rfl,e⟩|⟨y,u,rfl,e⟩
   .injection e with e1 _;rw[e1]
   .exact nomatch e
  .rcases la ae with⟨j,u,rfl,e⟩|⟨y,u,rfl,e⟩
   .exact nomatch e
   .injection e with e1 _;rw[e1]
 byValue:=λk v h=>by
  rcases la h with⟨i,t,rfl,rfl⟩|⟨x,t,rfl,rfl⟩<;>rfl
 pyHash:=λaL h=>by
  rcases la aL with⟨i,t,rfl,rfl⟩|⟨x,t,rfl,rfl⟩
  .exact wpAny_pyHash_int h
  .exact wpAny_pyHash_str h
 eqBool:=λb3 aL h=>by
  rcases la b3 with⟨i,t,rfl,rfl⟩|⟨x,t,rfl,rfl⟩
  .rcases la aL with⟨j,u,rfl,rfl⟩|⟨y,u,rfl,rfl⟩
   .rw[OC]at h;exact wpAny_eqBool_int h
   .rw[OD]at h;exact SeqAt.EqAt.int_str i t y u _ _ _ _ h
  .rcases la aL with⟨j,u,rfl,rfl⟩|⟨y,u,rfl,rfl⟩
   .rw[OE]at h;exact SeqAt.EqAt.str_int x t j u _ _ _ _ h
   .rw[OF]at h;exact wpAny_eqBool_str h
 «strs»:=λk x t v h=>by
  rcases la h with⟨i,u,rfl,e⟩|⟨y,u,rfl,e⟩
  .exact nomatch e
  .injection e with e1 _;subst e1;cases v<;>rfl
end bx
namespace bx
open PySem PySem.Spec PyProof.Rows
inductive V where
 |cM|av (b:Bool)|int (i:Int)|str (x:Str)|vZ (b:Array UInt8)|o2 (b:UInt64)|ref (a:Addr)|ty (n:String)
 deriving DecidableEq
noncomputable def RelV:V->Value->Prop
 |.cM,u=>u=Value.none
 |.av b,u=>u=Value.bool b
 |.int i,u=>∃t,u=Value.int i t
 |.str x,u=>∃t,u=Value.str x t
 |.vZ b,u=>∃t,u=Value.bytes b t
 |.o2 b,u=>∃t,u=Value.float b t
 |.ref a,u=>u=Value.ref a
 |.ty n,u=>u=Value.type n
noncomputable abbrev Vals:List V->List Value->Prop:=Paired RelV
theorem Vals.length{xs:List V}{us:List Value}(r:Vals xs us):xs.length=us.length:=Paired.length r
theorem Vals.get:∀{xs:List V}{us:List Value}{i:Nat}{x:V},Vals xs us->xs[i]?=some x->∃u,us[i]?=some u/\RelV x u
 |_,_,_,_,.nil,e=>by simp at e
 |_,_,0,_,.cons r _,e=>by simp at e;subst e;exact⟨_,rfl,r⟩
 |_,_,i+1,x,.cons _ t,e=>by
  obtain⟨u,aa,h2⟩:=Vals.get (i:=i) (x:=x) t (by simpa using e)
  exact⟨u,by simpa using aa,h2⟩
theorem Vals.append:∀{xs ys:List V}{us ws:List Value},Vals xs us->Vals ys ws->Vals (xs++ys) (us++ws)
 |_,_,_,_,.nil,s=>s
 |_,_,_,_,.cons r t,s=>.cons r (Vals.append t s)
theorem Vals.take:∀{xs:List V}{us:List Value}(n:Nat),Vals xs us->Vals (xs.take n) (us.take n)
 |_,_,0,_=>.nil
 |_,_,_+1,.nil=>.nil
 |_,_,n+1,.cons r t=>.cons r (Vals.take n t)
theorem Vals.drop:∀{xs:List V}{us:List Value}(n:Nat),Vals xs us->Vals (xs.drop n) (us.drop n)
 |_,_,0,r=>r
 |_,_,_+1,.nil=>.nil
 |_,_,n+1,.cons _ t=>Vals.drop n t
def Vals.none_of:∀{xs:List V}{us:List Value}{i:Nat},Vals xs us->xs[i]?=none->us[i]?=none:=λ{xs us i} r e=>by
 have aa:=r.length;have h2:xs.length<=i:=List.getElem?_eq_none_iff.mp e;exact List.getElem?_eq_none_iff.mpr (by omega)
noncomputable def vl:Option V->Option Value->Prop
 |some v,some u=>RelV v u
 |none,none=>True
 |_,_=>False
noncomputable def G8{κ:Type}:List (κ×V)->List (κ×Value)->Prop:=Paired λ(p:κ×V)(q:κ×Value)=>p.1=q.1/\RelV p.2 q.2
noncomputable def eb:Key->V
 |.inl i=>.int i
 |.inr x=>.str x
inductive e8 where
  |lst (xs:List V)
  |tup (xs:List V)
  |jL (et:List (Key×V))|jM (et:List (List Key×V))
  |set (S:Int->Bool) (n:Nat)
  |ins (C ba:Addr) (fs:List (Str×V))
  |own (x:Addr)
  |uV (fs:List (Str×V))
  |met (f x:Addr)
  |eD (lo hi:Int)
  |hp (o:Obj) (u:e8)
  |mQ (br:Array Value)
  |ext (gL:Heap->Prop)
noncomputable abbrev az:=Addr->Option e8
noncomputable def upd(H:az)(a:Addr)(o:e8):az:=λb=>if b=a then some o else H b
def eE{H:az}{a:Addr}{o:e8}:upd H a o a=some o:=by unfold upd;rw[if_pos rfl]
def de{H:az}{a b:Addr}{o:e8}(h:b≠a):upd H a o b=H b:=by unfold upd;rw[if_neg h]
def ij{H:az}{a b:Addr}{o:e8}(h:H a=some o)(h':H b=none):a≠b:=by
 intro e;subst e;rw[h]at h';cases h'
section
variable(P:Program)(w:World)
noncomputable def fi(H:az)(h:Heap)(a:Addr):e8->Prop
 |.lst xs=>xs.length<=sizeLine/\∃(its:List Value)(n:Nat),Vals xs its/\h.get? a=some { cls:=.type "list",data:=.seq its.toArray n }
 |.tup xs=>xs.length<=sizeLine/\∃its:List Value,Vals xs its/\IsTup h a its.toArray
 |.jL et=>et.length<=sizeLine/\(a==sysModules)=false/\∃ai,G8 et ai/\h.DictOf (DO P w) a ai
 |.jM et=>et.length<=sizeLine/\(a==sysModules)=false/\∃xs:List (List Key×Addr×Value),
   Paired (λ(p:List Key×V)(q:List Key×Addr×Value)=>p.1=q.1/\H q.2.1=some (.tup (p.1.map eb))/\RelV p.2 q.2.2) et xs /\
   ∃o ah aY,h.get? a=some o/\o.ExactDict/\o.data=.dict ah aY/\ah.toList=xs.map (entryOfKey (tupleKind (DO P w)))/\(xs.map (·.1)).Nodup
 |.set S n=>h.SetOf (intKind P w) a S n
 |.ins C ba fs=>H ba=some (.own a)/\fs.length<=1000/\ba≠a/\h.get? a=some (PySem.W.instObj C ba) /\
   ∃eC,h.Ns1 ba eC/\(∀f,vl (fs.lookup f) (eC f))/\PySem.Within eC (fs.map (·.1))
 |.own _=>∃o,h.get? a=some o
 |.uV fs=>∃eC,h.Ns1 a eC/\∀f,vl (fs.lookup f) (eC f)
 |.eD lo hi=>∃t u v,h.get? a=some { cls:=.type "range",data:=.fields #[.int lo t,.int hi u,.int 1 v] }
 |.hp o u=>h.get? a=some o/\fi H h a u
 |.mQ br=>h.get? a=some { cls:=.none,data:=.fields br }
 |.met f x=>h.get? a=some (PySem.W.methodObj (.ref f) (.ref x))
 |.ext gL=>gL h/\(∃o,h.get? a=some o)/\∀aa h2:Heap,gL aa->(∀o,aa.get? a=some o->h2.get? a=some o)->gL h2
noncomputable def el(H:az)(h:Heap):Prop:=∀a o,H a=some o->fi P w H h a o
end
section
variable{P:Program}{w:World}{H ao:az}{h h':Heap}{a:Addr}{o:e8}
theorem fi.lt(x:fi P w H h a o):a<h.objs.size:=by
 cases o with
 |lst xs=>obtain⟨_,_,_,_,e⟩:=x;exact Wl e
 |tup xs=>obtain⟨_,_,_,p⟩:=x;exact p.lt
 |jL et=>obtain⟨_,_,_,_,o,_,_,e,_⟩:=x;exact Wl e
 |jM et=>obtain⟨_,_,_,_,o,_,_,e,_⟩:=x;exact Wl e
 |set S n=>obtain⟨o,_,_,_,e,_⟩:=x;exact Wl e
 |ins C ba fs=>obtain⟨_,_,_,e,_⟩:=x;exact Wl e
 |own y=>obtain⟨_,e⟩:=x;exact Wl e
 |uV fs=>obtain⟨_,⟨_,_,_,e,_⟩,_⟩:=x;exact Wl e
 |eD lo hi=>obtain⟨_,_,_,e⟩:=x;exact Wl e
 |hp bB u=>obtain⟨e,_⟩:=x;exact Wl e
 |mQ br=>exact Wl (show h.get? a=some _ from x)
 |met f y=>exact Wl (show h.get? a=some _ from x)
 |ext gL=>obtain⟨_,⟨_,e⟩,_⟩:=x;exact Wl e
theorem Paired.DH{α β:Type}{F G:α->β->Prop}:∀{DF:List α}{DG:List β},Paired F DF DG->(∀a b,F a b->G a b)->Paired G DF DG
 |_,_,.nil,_=>.nil
 |_,_,.cons r t,f=>.cons (f _ _ r) (Paired.DH t f)
def fi.kd(x:fi P w H h a o)(k:∀b u,(b=a\/H b=some (.own a))->h.get? b=some u->h'.get? b=some u)(ay:∀b,H b=some (.own a)->ao b=some (.own a))(aW:∀b xs,H b=some (.tup xs)->ao b=some (.tup xs)):fi P w ao h' a o:=by
 induction o with
 |lst xs=>obtain⟨z,its,n,r,e⟩:=x;exact⟨z,its,n,r,k _ _ (.inl rfl) e⟩
 |tup xs=>obtain⟨z,its,r,bB,e,c⟩:=x;exact⟨z,its,r,bB,k _ _ (.inl rfl) e,c⟩
 |jL et=>obtain⟨z,y,ai,r,bB,ah,aY,e,c⟩:=x;exact⟨z,y,ai,r,bB,ah,aY,k _ _ (.inl rfl) e,c⟩
 |jM et =>
  obtain⟨z,y,xs,r,bB,ah,aY,e,c⟩:=x;exact⟨z,y,xs,Paired.DH r λp q z=>⟨z.1,aW _ _ z.2.1,z.2.2⟩,bB,ah,aY,k _ _ (.inl rfl) e,c⟩
 |set S n=>obtain⟨bB,ah,aY,t,e,c⟩:=x;exact⟨bB,ah,aY,t,k _ _ (.inl rfl) e,c⟩
 |ins C ba fs =>
  obtain⟨d,z,ne,e,eC,⟨c9,ah,aY,e2,c⟩,r⟩:=x;exact⟨ay _ d,z,ne,k _ _ (.inl rfl) e,eC,⟨c9,ah,aY,k _ _ (.inr d) e2,c⟩,r⟩
 |own y=>obtain⟨bB,e⟩:=x;exact⟨bB,k _ _ (.inl rfl) e⟩
 |uV fs=>obtain⟨eC,⟨c9,ah,aY,e,c⟩,r⟩:=x;exact⟨eC,⟨c9,ah,aY,k _ _ (.inl rfl) e,c⟩,r⟩
 |eD lo hi=>obtain⟨t,u,v,e⟩:=x;exact⟨t,u,v,k _ _ (.inl rfl) e⟩
 |hp bB u aN=>obtain⟨e,q⟩:=x;exact⟨k _ _ (.inl rfl) e,aN q⟩
 |mQ br =>
  have e:h.get? a=some { cls:=.none,data:=.fields br }:=x;show h'.get? a=some { cls:=.none,data:=.fields br };exact k a _ (.inl rfl) e
 |met f y =>
  have e:h.get? a=some (PySem.W.methodObj (.ref f) (.ref y)):=x;show h'.get? a=some (PySem.W.methodObj (.ref f) (.ref y));exact k a _ (.inl rfl) e
 |ext gL=>obtain⟨p,⟨o,e⟩,st⟩:=x;exact⟨st _ _ p λo q=>k _ _ (.inl rfl) q,⟨o,k _ _ (.inl rfl) e⟩,st⟩
theorem el.lt(x:el P w H h)(e:H a=some o):a<h.objs.size:=(x a o e).lt
def el.fresh(x:el P w H h)(e:h.objs.size<=a):H a=none:=by
 cases q:H a with
 |none=>rfl
 |some u=>exact absurd (WI (x.lt q) e) (Xz _)
def el.kept(x:el P w H h)(k:∀b u,h.get? b=some u->h'.get? b=some u):el P w H h':=λa o e =>
 (x a o e).kd (λb u _ q=>k b u q) (λ_ q=>q) λ_ _ q=>q
def el.laid(x:el P w H h)(k:∀b u,h.get? b=some u->h'.get? b=some u)(ax:h.objs.size<=a)(new:fi P w (upd H a o) h' a o):el P w (upd H a o) h':=λb u e=>by
 have aw:=x.fresh ax
 by_cases ae:b=a
 .subst ae;rw[eE]at e;cases e;exact new
 .rw[de ae]at e;exact(x b u e).kd (λc v _ q=>k c v q) (λc q=>by rw[de (ij q aw)];exact q) λc xs q=>by rw[de (ij q aw)];exact q
end
noncomputable def sh(H:az)(a:Addr)(u:e8):Prop:=H a=some u\/∃o,H a=some (.hp o u)
def sh.ok{P:Program}{w:World}{H:az}{h:Heap}{a:Addr}{u:e8}(r:sh H a u)(x:el P w H h):fi P w H h a u:=by
 rcases r with r|⟨o,r⟩
 .exact x a u r
 .obtain⟨_,q⟩:=x a _ r;exact q
noncomputable def r9:Option e8->Prop
 |some (.lst _)=>True
 |some (.jL _)=>True
 |some (.jM _)=>True
 |some (.set _ _)=>True
 |some (.ins _ _ _)=>True
 |some (.ext _)=>True
 |_=>False
section
variable{P:Program}{w:World}{H:az}{h h':Heap}{x e:Addr}{bO:e8}
def el.write (ok : el P w H h) (ak : r9 (H x)) (he : e = x \/ H e = some (.own x)) (k : ∀ b u, b ≠ e -> h.get? b = some u -> h'.get? b = some u) (pb : ∃ u, h'.get? e = some u)
    (new : fi P w (upd H x bO) h' x bO) : el P w (upd H x bO) h' := fun b u q => by
  have D3 : ∀ c y, H c = some (.own y) -> c ≠ x := fun c y r z => by subst z; rw [r] at ak; exact ak
  have PS : ∀ c xs, H c = some (.tup xs) -> c ≠ x := fun c xs r z => by subst z; rw [r] at ak; exact ak
  by_cases ae : b = x
  · subst ae; rw [eE] at q; cases q; exact new
  · rw [de ae] at q
    by_cases nE : b = e
    · have cB : H b = some (.own x) := by
        rcases he with z | z
        · exact absurd (nE.trans z) ae
        · rw [nE]; exact z
      rw [q] at cB; cases cB
      obtain ⟨v, aL⟩ := pb
      exact ⟨v, by rw [nE]; exact aL⟩
    · refine (ok b u q).kd (fun c v aj r => k c v ?_ r) (fun c r => by rw [de (D3 c b r)]; exact r) fun c xs r => by rw [de (PS c xs r)]; exact r
      rcases aj with rfl | aj
      · exact nE
      · rintro rfl
        rcases he with z | z
        · exact D3 c b aj z
        · rw [aj] at z; cases z; exact ae rfl
end
structure eJ(fs ex:List Addr)(H ao:az)(h h':Heap):Prop where
 keep:∀b o,h.get? b=some o->H b=none->b∉fs->b∉ex->h'.get? b=some o
 slot:∀b o,h.get? b=some o->H b=none->b∈fs->b∉ex->∃bl,h'.get? b=some { o with slots:=bl }
 free:∀b o,h.get? b=some o->H b=none->b∉ex->ao b=none
 there:∀b o,h.get? b=some o->b∉ex->∃bO,h'.get? b=some bO
 iV:∀b xs,H b=some (.tup xs)->ao b=some (.tup xs)
 ic:∀b o u,H b=some (.hp o u)->ao b=some (.hp o u)
 iU:∀b br,H b=some (.mQ br)->∃more,ao b=some (.mQ (br++more))
section
variable{fs w5 ex Bm:List Addr}{H H1 aV:az}{h aa h2 h':Heap}{a x e:Addr}{o:e8}
def eJ.any(u:eJ fs ex H H1 h aa){b:Addr}{bB:Obj}(q:h.get? b=some bB)(n:H b=none)(af:b∉ex):∃bl,aa.get? b=some { bB with slots:=bl }:=by
 by_cases ae:b∈fs
 .exact u.slot b bB q n ae af
 .exact⟨bB.slots,u.keep b bB q n ae af⟩
def eJ.kept(k:∀b u,h.get? b=some u->h'.get? b=some u):eJ fs ex H H h h' :=
 ⟨λb bB q _ _ _=>k b bB q,λb bB q _ _ _=>⟨bB.slots,k b bB q⟩,λ_ _ _ n _=>n,λb bB q _=>⟨bB,k b bB q⟩,λ_ _ q=>q,λ_ _ _ q=>q,λ_ br q=>⟨#[],by rw[q];simp⟩⟩
def eJ.refl:eJ fs ex H H h h:=eJ.kept λ_ _ q=>q
def eJ.laid(k:∀b u,h.get? b=some u->h'.get? b=some u)(ax:h.objs.size<=a)(aw:H a=none):eJ fs ex H (upd H a o) h h' where
 keep:=λb u q _ _ _=>k b u q
 slot:=λb u q _ _ _=>⟨u.slots,k b u q⟩
 free:=λb u q n _=>by rw[de (WB (WI (Wl q) ax))];exact n
 there:=λb u q _=>⟨u,k b u q⟩
 iV:=λb xs q=>by rw[de (ij q aw)];exact q
 ic:=λb u xs q=>by rw[de (ij q aw)];exact q
 iU:=λb br q=>⟨#[],by rw[de (ij q aw),q];simp⟩
def eJ.write(ak:r9 (H x))(he:e=x\/H e=some (.own x))(k:∀b u,b≠e->h.get? b=some u->h'.get? b=some u)(pb:∃u,h'.get? e=some u):eJ fs ex H (upd H x o) h h':=by
 have af:∀b,H b=none->b≠x:=λb n z=>by subst z;rw[n]at ak;exact ak
 have ae:∀b,H b=none->b≠e:=λb n z=>by
  subst z;rcases he with r|r
  .exact af b n r
  .rw[n]at r;cases r
 have hm:∀b u,H b=some u->¬r9 (some u)->b≠x:=λb u q nm z=>by subst z;rw[q]at ak;exact nm ak
 refine⟨λb u q n _ _=>k b u (ae b n) q,λb u q n _ _=>⟨u.slots,k b u (ae b n) q⟩,λb u q n _=>by rw[de (af b n)];exact n,λb u q _=>?_,
  λb xs q=>by rw[de (hm b _ q λz=>z)];exact q,λb u xs q=>by rw[de (hm b _ q λz=>z)];exact q,λb br q=>⟨#[],by rw[de (hm b _ q λz=>z),q];simp⟩⟩
 by_cases nE:b=e
 .subst nE;exact pb
 .exact⟨u,k b u nE q⟩
end
noncomputable def uD(h:Heap)(H:az):List Addr:=(List.range h.objs.size).filter λa=>(H a).isSome
noncomputable def kV(h:Heap)(H:az):Heap:=PySem.W.hideAll h (uD h H)
def MM(h:Heap)(H:az):(kV h H).objs.size=h.objs.size:=PySem.W.hideAll_size _ _
def ML{h:Heap}{H:az}{b:Addr}{o:Obj}(e:h.get? b=some o)(n:H b=none):(kV h H).get? b=some o :=
 PySem.W.hideAll_get _ e λhm=>by
  have q:(H b).isSome=true:=(YI.mp hm).2;rw[n]at q;simp at q
def P4{h:Heap}{H:az}{b:Addr}{o:Obj}(e:(kV h H).get? b=some o):h.get? b=some o/\H b=none:=by
 have bj:h.get? b=some o:=PySem.W.of_hideAll (uD h H) e;refine⟨bj,?_⟩;cases q:H b with
 |none=>rfl
 |some x =>
  have hm:b∈uD h H:=YI.mpr ⟨WN.mpr (Wl bj),by simp[q]⟩
  have z:(kV h H).get? b=none:=PySem.W.hideAll_none (uD h H) hm;rw[z]at e;cases e
noncomputable def Hx(g h:Heap)(L:Addr):List (Addr×Obj):=(List.range h.objs.size).filterMap λa=>if a=L\/(g.get? a).isSome=true then none else(h.get? a).map λo=>(a,o)
noncomputable def rest(g h:Heap)(L d:Addr):List (Addr×Obj):=(Hx g h L).filter λp=>decide (p.1≠d)
end bx
namespace bx
open PySem PySem.Spec PyProof.Rows
structure Mod(K:W.Frag)(aB:Str->Option Value)(base:Heap):Prop where
 rh:K.In base
 glob:base.Ns mainGlobals aB
 blt:∃iP,base.Ns builtinsNs iP/\∀x:Str,x≠"__name__"->iP x=bootBuiltins x
 nolimit:base.NoLimit
structure aR where
 prog:Program
 w:World
 K:W.Frag
 aB:Str->Option Value
 base:Heap
 A:Around
 N:List Str
 ef:Shared
 qe:az
 env:Env
 outer:List Env
 stack:List Env
 ex:List Addr
 fn:Str->Bool
 calm:Bool
 bS:List (Addr×Obj)
 b8:Value->Shared->Prop
noncomputable def fL(l:List Env):List Addr:=l.filterMap (·.frame)
noncomputable abbrev aR.fs(X:aR):List Addr:=fL X.outer
noncomputable def h9(sc:Scope)(x:Str):Prop:=sc.names.lookup x=some .local\/sc.names.lookup x=some .cell\/sc.names.lookup x=some .free
noncomputable def Loc(sc:Scope)(x:Str):Prop:=sc.names.lookup x=some .local\/sc.names.lookup x=some .cell
noncomputable def Look(env:Env)(h:Heap)(m:Str->Option Value)(x:Str)(u:Value):Prop :=
 (env.kindOf x=some .local/\m x=some u)\/((env.kindOf x=some .cell\/env.kindOf x=some .free)/\∃c,env.cells.lookup x=some c/\h.IsCell c (some u))
structure aR.Ok(X:aR):Prop where
 mod:Mod X.K X.aB X.base
 kind:X.env.scope.kind=.function
 glob:X.env.globals=mainGlobals
 blt:X.env.builtins=builtinsNs
 above:X.ef.heap.objs.size<=X.env.locals
 inj:∀x y c,X.env.cells.lookup x=some c->X.env.cells.lookup y=some c->x=y
 has:∀x,(X.env.kindOf x=some .cell\/X.env.kindOf x=some .free)->∃c,X.env.cells.lookup x=some c
 qy:∀x c,X.fn x=true->X.env.cells.lookup x=some c->X.ef.heap.objs.size<=c
 hd:X.calm=true->X.A.handled=none
 frames:X.A.frames=some X.stack
 og:X.stack=X.outer\/(X.stack=X.env::X.outer/\X.env.frame=some X.env.locals)
 sI:∀b∈X.ex,b≠X.env.locals/\∀x c,X.env.cells.lookup x=some c->c≠b
 bs:∀b o,X.base.get? b=some o->X.ef.heap.get? b=some o/\X.qe b=none
 ng:X.base.objs.size<=X.ef.heap.objs.size
 mA:∀b o,X.base.get? b=some o->b∉X.ex
 nv:∀b∈X.ex,b∉X.fs
 iE:X.ef.heap.FunFrames X.base X.outer
 o3:∀b∈X.fs,X.qe b=none
structure Inv(X:aR)(pins:List (Addr×Obj))(σ:List (Option V))(H:az)(s:Shared):Prop where
 ok:X.Ok
 os:s.os=X.ef.os
 bare:AllBare s.gens
 base:eJ X.fs X.ex X.qe H X.ef.heap s.heap
 loc:∃m,s.heap.Ns X.env.locals m/\∀(i:Nat)(x:Str)(v:V),X.N[i]?=some x->σ[i]?=some (some v)->h9 X.env.scope x->∃u,RelV v u/\Look X.env s.heap m x u
 cell:∀x c,X.env.cells.lookup x=some c->∃v,s.heap.IsCell c v
 free:H X.env.locals=none
 g5:∀x c,X.env.cells.lookup x=some c->H c=none
 pin:∀p∈X.bS++pins,s.heap.get? p.1=some p.2/\H p.1=none/\p.1≠X.env.locals/\p.1∉X.fs/\∀v,p.2.data≠.cell v
 bU:el X.prog X.w H s.heap
 len:σ.length=X.N.length
section
variable{X:aR}{pins:List (Addr×Obj)}{σ:List (Option V)}{H ao:az}{s:Shared}{h':Heap}
def aR.Ok.PM(ok:X.Ok){b:Addr}{o:Obj}(e:X.base.get? b=some o):b∉X.fs:=λae=>by
 have:=(ok.iE.mem ae).1;rw[e]at this;cases this
theorem Inv.bs(I:Inv X pins σ H s):∀b o,X.base.get? b=some o->s.heap.get? b=some o/\H b=none:=λb o e =>
 ⟨I.base.keep b o (I.ok.bs b o e).1 (I.ok.bs b o e).2 (I.ok.PM e) (I.ok.mA b o e),I.base.free b o (I.ok.bs b o e).1 (I.ok.bs b o e).2 (I.ok.mA b o e)⟩
def Inv.gX(I:Inv X pins σ H s):∀b o,X.base.get? b=some o->s.heap.get? b=some o:=λb o e=>(I.bs b o e).1
theorem Inv.mod(I:Inv X pins σ H s):Mod X.K X.aB X.base:=I.ok.mod
def Inv.fM(I:Inv X pins σ H s):X.K.In s.heap:=I.ok.mod.rh.keeps I.gX
theorem Inv.lt(I:Inv X pins σ H s):X.env.locals<s.heap.objs.size:=let ⟨_,aw,_⟩:=I.loc;aw.lt
def Inv.dJ(I:Inv X pins σ H s):X.ef.heap.objs.size<=s.heap.objs.size:=Xt I.ok.above (Yx I.lt)
def Inv.tR(I:Inv X pins σ H s){a:Addr}(h:s.heap.objs.size<=a):a∉X.fs:=λae=>by
 obtain⟨_,o,ay,_⟩:=I.ok.iE.mem ae;exact absurd (WI (Wl ay) (Xt I.dJ h)) (Xz _)
def Inv.lZ(I:Inv X pins σ H s):∀x c,X.env.cells.lookup x=some c->c≠X.env.locals:=λx c e z=>by
 obtain⟨v,o,ay,hd⟩:=I.cell x c e;obtain⟨m,⟨bO,ah,aY,dH,ig,_⟩,_⟩:=I.loc;rw[z,dH]at ay;cases ay;rw[ig]at hd;cases hd
theorem Inv.iE(I:Inv X pins σ H s):s.heap.FunFrames X.base X.outer:=by
 have all:∀(l:List Env),(∀b∈fL l,b∈X.fs)->X.ef.heap.FunFrames X.base l->s.heap.FunFrames X.base l:=by
  intro l
  induction l with
  |nil=>intro _ _;trivial
  |cons env r aN =>
   intro ag au;obtain⟨aq,⟨L,o,hf,aw,ay,hd⟩,aZ⟩:=au;have gi:L∈X.fs:=ag L (by unfold fL;rw[List.filterMap_cons,hf];exact List.mem_cons_self)
   obtain⟨bl,e⟩:=I.base.slot L o ay (I.ok.o3 L gi) gi λz=>I.ok.nv L z gi
   exact⟨aq,⟨L,_,hf,aw,e,hd⟩,aN (λb ae=>ag b (by unfold fL;rw[List.filterMap_cons,hf];exact List.mem_cons_of_mem _ ae)) aZ⟩
 exact all X.outer (λ_ ae=>ae) I.ok.iE
theorem Inv.stack(I:Inv X pins σ H s):s.heap.FunFrames X.base X.stack:=by
 rcases I.ok.og with e|⟨e,hf⟩
 .rw[e];exact I.iE
 .rw[e];obtain⟨m,aw,_⟩:=I.loc;refine .cons (by rw[I.ok.kind];decide) hf aw ?_ I.iE
  exact Heap.get?_none_of_le (Xt I.ok.ng I.ok.above)
def Inv.oh(I:Inv X pins σ H s):∀b∈fL X.stack,b∈X.env.locals::X.fs:=λb ae=>by
 rcases I.ok.og with e|⟨e,hf⟩
 .rw[e]at ae;exact List.mem_cons_of_mem _ ae
 .rw[e]at ae;unfold fL at ae;rw[List.filterMap_cons,hf]at ae;exact ae
def Inv.zp(I:Inv X pins σ H s):∀b∈fL X.stack,H b=none:=λb ae=>by
 rcases Wo.mp (I.oh b ae) with e|ae
 .rw[e];exact I.free
 .obtain⟨_,o,ay,_⟩:=I.ok.iE.mem ae;exact I.base.free b o ay (I.ok.o3 b ae) λz=>I.ok.nv b z ae
def Inv.step{g':Array GenState}{t':Nat}{d':Drawn}{ch:List Addr}(I:Inv X pins σ H s)(jS:∀b∈ch,(b∈X.ex\/X.ef.heap.objs.size<=b)/\b≠X.env.locals/\(∀x c,X.env.cells.lookup x=some c->c≠b)/\∀p∈X.bS++pins,p.1≠b)(keep:∀b o,b≠X.env.locals->b∉X.fs->b∉ch->s.heap.get? b=some o->H b=none->h'.get? b=some o)(slot:∀b o,b≠X.env.locals->b∈X.fs->b∉ch->s.heap.get? b=some o->H b=none->∃bl,h'.get? b=some { o with slots:=bl })(free:∀b o,b∉ch->s.heap.get? b=some o->H b=none->ao b=none)(there:∀b o,b∉ch->s.heap.get? b=some o->∃bO,h'.get? b=some bO)(iV:∀b xs,H b=some (.tup xs)->ao b=some (.tup xs))(ic:∀b o u,H b=some (.hp o u)->ao b=some (.hp o u))(iU:∀b br,H b=some (.mQ br)->∃more,ao b=some (.mQ (br++more)))(ns:∀m,s.heap.Ns X.env.locals m->h'.Ns X.env.locals m)(bU:el X.prog X.w ao h')(aT:AllBare g'):
  Inv X pins σ ao { s with heap:=h',gens:=g',drawn:=d',toks:=t' }:=by
 have DV:∀b o,X.ef.heap.get? b=some o->b≠X.env.locals:=λb o e=>WB (WI (Wl e) I.ok.above)
 have my:∀b o,X.ef.heap.get? b=some o->b∉X.ex->b∉ch:=λb o e af ae=>by
  rcases(jS b ae).1 with z|z
  .exact af z
  .exact absurd (WI (Wl e) z) (Xz _)
 have cellK:∀x c,X.env.cells.lookup x=some c->∀v,s.heap.IsCell c v->h'.IsCell c v:=λx c e v ⟨o,ay,hd⟩=>by
  have rv:c∉ch:=λz=>(jS c z).2.2.1 x c e rfl
  by_cases aj:c∈X.fs
  .obtain⟨bl,q⟩:=slot c o (I.lZ x c e) aj rv ay (I.g5 x c e);exact⟨_,q,hd⟩
  .exact⟨o,keep c o (I.lZ x c e) aj rv ay (I.g5 x c e),hd⟩
 refine⟨I.ok,I.os,aT,⟨λb o e n ae af=>?_,λb o e n ae af=>?_,λb o e n af=>?_,λb o e af=>?_,λb xs e=>iV b xs (I.base.iV b xs e),λb o xs e=>ic b o xs (I.base.ic b o xs e),λb br e=>?_⟩,?_,λx c e=>?_,?_,λx c e=>?_,λp ax=>?_,bU,I.len⟩
 .exact keep b o (DV b o e) ae (my b o e af) (I.base.keep b o e n ae af) (I.base.free b o e n af)
 .obtain⟨bl,e1⟩:=I.base.slot b o e n ae af;obtain⟨zf,e2⟩:=slot b _ (DV b o e) ae (my b o e af) e1 (I.base.free b o e n af);exact⟨zf,e2⟩
 .obtain⟨bO,e1⟩:=I.base.there b o e af;exact free b bO (my b o e af) e1 (I.base.free b o e n af)
 .obtain⟨bO,e1⟩:=I.base.there b o e af;exact there b bO (my b o e af) e1
 .obtain⟨hC,e1⟩:=I.base.iU b br e;obtain⟨m2,e2⟩:=iU b _ e1;exact⟨hC++m2,by rw[e2,Array.append_assoc]⟩
 .obtain⟨m,aw,au⟩:=I.loc;refine⟨m,ns m aw,λi x v e1 e2 e3=>?_⟩
  obtain⟨u,r,l⟩:=au i x v e1 e2 e3;refine⟨u,r,?_⟩;rcases l with l|⟨k,c,e,z⟩
  .exact .inl l
  .exact .inr ⟨k,c,e,cellK x c e _ z⟩
 .obtain⟨v,z⟩:=I.cell x c e;exact⟨v,cellK x c e v z⟩
 .obtain⟨m,⟨o,_,_,ay,_⟩,_⟩:=I.loc;exact free _ o (λz=>(jS _ z).2.1 rfl) ay I.free
 .obtain⟨v,o,ay,hd⟩:=I.cell x c e;exact free c o (λz=>(jS c z).2.2.1 x c e rfl) ay (I.g5 x c e)
 .obtain⟨e,n,ne,ik,d⟩:=I.pin p ax;have rv:p.1∉ch:=λz=>(jS p.1 z).2.2.2 p ax rfl
  exact⟨keep p.1 p.2 ne ik rv e n,free p.1 p.2 rv e n,ne,ik,d⟩
def Inv.un{t':Nat}(I:Inv X pins σ H s)(u:eJ X.fs [] H ao s.heap h')(bU:el X.prog X.w ao h'):Inv X pins σ ao { s with heap:=h',toks:=t' }:=by
 obtain⟨m,⟨o,ah,aY,ay,r⟩,_⟩:=id I.loc;obtain⟨bl,gi⟩:=u.any ay I.free (by simp)
 exact I.step (g':=s.gens) (d':=s.drawn) (ch:=[]) (λ_ z=>nomatch z) (λb o _ ae _ e n=>u.keep b o e n ae (by simp)) (λb o _ ae _ e n=>u.slot b o e n ae (by simp)) (λb o _ e n=>u.free b o e n (by simp)) (λb o _ e=>u.there b o e (by simp)) u.iV u.ic u.iU (λcN hm=>by
  obtain⟨bO,oV,wA,dH,bC⟩:=hm;rw[ay]at dH;cases dH;exact⟨_,oV,wA,gi,bC⟩) bU I.bare
def Inv.call{g':Array GenState}{t':Nat}{d':Drawn}{ch:List Addr}(I:Inv X pins σ H s)(u:eJ (fL X.stack) ch H ao s.heap h')(bU:el X.prog X.w ao h')(aT:AllBare g')(jS:∀b∈ch,(b∈X.ex\/X.ef.heap.objs.size<=b)/\b≠X.env.locals/\(∀x c,X.env.cells.lookup x=some c->c≠b)/\∀p∈X.bS++pins,p.1≠b):
  Inv X pins σ ao { s with heap:=h',gens:=g',drawn:=d',toks:=t' }:=by
 obtain⟨m,⟨o,ah,aY,ay,r⟩,_⟩:=id I.loc;obtain⟨bl,gi⟩:=u.any ay I.free λz=>(jS _ z).2.1 rfl
 exact I.step (ch:=ch) jS (λb o gi ae aj e n=>u.keep b o e n (λz=>(Wo.mp (I.oh b z)).elim gi ae) aj) (λb o _ _ aj e n=>u.any e n aj) (λb o aj e n=>u.free b o e n aj) (λb o aj e=>u.there b o e aj) u.iV u.ic u.iU (λcN hm=>by
  obtain⟨bO,oV,wA,dH,bC⟩:=hm;rw[ay]at dH;cases dH;exact⟨_,oV,wA,gi,bC⟩) bU aT
def Inv.turned{t':Nat}{it:Addr}(I:Inv X pins σ H s)(k:∀b o,b≠it->s.heap.get? b=some o->h'.get? b=some o)(aw:H it=none)(gi:it≠X.env.locals)(aa:it∈X.ex\/X.ef.heap.objs.size<=it)(h2:∀x c,X.env.cells.lookup x=some c->c≠it)(h3:∀p∈X.bS++pins,p.1≠it):Inv X pins σ H { s with heap:=h',toks:=t' }:=by
 have rx:∀b u,H b=some u->b≠it:=λb u e z=>by rw[z,aw]at e;cases e
 refine I.step (g':=s.gens) (d':=s.drawn) (ch:=[it]) (λb ae=>?_) (λb o _ _ aj e _=>k b o (λz=>aj (by simp[z])) e) (λb o _ _ aj e _=>⟨o.slots,k b o (λz=>aj (by simp[z])) e⟩) (λ_ _ _ _ n=>n)
  (λb o aj e=>⟨o,k b o (λz=>aj (by simp[z])) e⟩) (λ_ _ e=>e) (λ_ _ _ e=>e) (λb br e=>⟨#[],by rw[e];simp⟩) (λm hm=>?_) (λb u e=>?_) I.bare
 .have e:b=it:=by simpa using ae
  subst e;exact⟨aa,gi,h2,h3⟩
 .obtain⟨o,ah,aY,ay,r⟩:=hm;exact⟨o,ah,aY,k _ o (XB gi) ay,r⟩
 .refine(I.bU b u e).kd (λc v aj q=>k c v ?_ q) (λ_ q=>q) λ_ _ q=>q
  rcases aj with z|z
  .rw[z];exact rx b u e
  .exact rx c _ z
def Inv.tok(I:Inv X pins σ H s)(t:Nat):Inv X pins σ H { s with toks:=t }:=I.un (h':=s.heap) (t':=t) eJ.refl I.bU
theorem Inv.kept{t':Nat}(I:Inv X pins σ H s)(k:∀b u,s.heap.get? b=some u->h'.get? b=some u):Inv X pins σ H { s with heap:=h',toks:=t' }:=I.un (eJ.kept k) (I.bU.kept k)
theorem Inv.laid{a:Addr}{o:e8}{t':Nat}(I:Inv X pins σ H s)(k:∀b u,s.heap.get? b=some u->h'.get? b=some u)(ax:s.heap.objs.size<=a)(new:fi X.prog X.w (upd H a o) h' a o):
  Inv X pins σ (upd H a o) { s with heap:=h',toks:=t' }:=I.un (eJ.laid k ax (I.bU.fresh ax)) (I.bU.laid k ax new)
theorem Inv.write{x e:Addr}{o:e8}{t':Nat}(I:Inv X pins σ H s)(ak:r9 (H x))(he:e=x\/H e=some (.own x))(k:∀b u,b≠e->s.heap.get? b=some u->h'.get? b=some u)(pb:∃u,h'.get? e=some u)(new:fi X.prog X.w (upd H x o) h' x o):Inv X pins σ (upd H x o) { s with heap:=h',toks:=t' }:=I.un (eJ.write ak he k pb) (I.bU.write ak he k pb new)
def Inv.yU{yT:List (Addr×Obj)}(I:Inv X pins σ H s)(h:∀p∈yT,s.heap.get? p.1=some p.2/\H p.1=none/\p.1≠X.env.locals/\p.1∉X.fs/\∀v,p.2.data≠.cell v):Inv X yT σ H s :=
 ⟨I.ok,I.os,I.bare,I.base,I.loc,I.cell,I.free,I.g5,λp ax=>(WT.mp ax).elim (λz=>I.pin p (WZ _ z)) (h p),I.bU,I.len⟩
def DZ{N:List Str}(bq:N.Nodup){i j:Nat}{x:Str}(a:N[i]?=some x)(b:N[j]?=some x):i=j:=by
 obtain⟨aa,e1⟩:=WE.mp a;obtain⟨h2,e2⟩:=WE.mp b;exact(List.getElem_inj bq).mp (e1.trans e2.symm)
def Ts {M : Model} {A : Around} {E : Value -> Shared -> Prop} {i : Nat} {x : Str} {v : V} {u : Value} {Q : Unit -> Shared -> Prop} (I : Inv X pins σ H s) (bq : X.N.Nodup) (hi : X.N[i]? = some x) (af : Loc X.env.scope x) (r : RelV v u)
    (h : ∀ s', Inv X pins (σ.set i (some v)) H s' -> (∃ a, Heap.SameBut a s.heap s'.heap /\ (a = X.env.locals \/ X.env.cells.lookup x = some a)) -> Q () s') (hf : X.fn x = true \/ X.env.scope.names.lookup x = some .local := by first | exact .inl rfl | exact .inr rfl | assumption) : wpAny M A (storeName X.env x u) Q E s := by
  obtain ⟨m, aw, au⟩ := id I.loc
  have xG : (X.env.scope.kind == .class || (X.env.scope.kind == .module && X.env.locals != X.env.globals)) = false := by rw [I.ok.kind]; rfl
  have CE : i < σ.length := by rw [I.len]; exact (WE.mp hi).1
  have lZ := I.lZ
  have tracked : ∀ {a : Addr} {h' : Heap}, (∃ o, s.heap.get? a = some o /\ H a = none) -> Heap.SameBut a s.heap h' -> el X.prog X.w H h' := fun {a h'} aC ag b bB e => by
    obtain ⟨_, _, mg⟩ := aC
    refine (I.bU b bB e).kd (fun c eF aj q => (ag.2 c ?_).trans q) (fun _ q => q) fun _ _ q => q
    rintro rfl
    rcases aj with rfl | aj
    · rw [mg] at e; cases e
    · rw [mg] at aj; cases aj
  rcases af with aq | aq
  · refine wpAny_storeName_local aq aw (fun h' hS ag => ?_) xG
    obtain ⟨PW, _, _, tf, _⟩ := id aw
    refine h _ ⟨I.ok, I.os, I.bare, ⟨fun b o e n ae af => ?_, fun b o e n ae af => ?_, I.base.free, fun b o e af => ?_, I.base.iV, I.base.ic, I.base.iU⟩, ⟨_, hS, fun j y pZ e1 e2 e3 => ?_⟩, fun y c e => ?_, I.free, I.g5, fun p ax => ?_, tracked ⟨PW, tf, I.free⟩ ag, by simpa using I.len⟩ ⟨_, ag, .inl rfl⟩
    · exact (ag.2 b (WB (WI (Wl e) I.ok.above))).trans (I.base.keep b o e n ae af)
    · obtain ⟨bl, e1⟩ := I.base.slot b o e n ae af
      exact ⟨bl, (ag.2 b (WB (WI (Wl e) I.ok.above))).trans e1⟩
    · obtain ⟨bO, e1⟩ := I.base.there b o e af
      exact ⟨bO, (ag.2 b (WB (WI (Wl e) I.ok.above))).trans e1⟩
    · by_cases aG : j = i
      · subst aG
        rw [hi] at e1; cases e1
        rw [List.getElem?_set_self CE] at e2
        cases e2
        exact ⟨u, r, .inl ⟨aq, by simp⟩⟩
      · rw [Y9 (XB aG)] at e2
        obtain ⟨rU, bC, q⟩ := au j y pZ e1 e2 e3
        refine ⟨rU, bC, ?_⟩
        rcases q with ⟨k, e⟩ | ⟨k, c, e, z⟩
        · refine .inl ⟨k, ?_⟩
          have : y ≠ x := fun e => aG (DZ bq e1 (e ▸ hi))
          simp [this, e]
        · exact .inr ⟨k, c, e, z.sameBut ag (lZ y c e)⟩
    · obtain ⟨eF, z⟩ := I.cell y c e
      exact ⟨eF, z.sameBut ag (lZ y c e)⟩
    · obtain ⟨e, n, ne, ik, d⟩ := I.pin p ax
      exact ⟨(ag.2 p.1 ne).trans e, n, ne, ik, d⟩
  · have nG : X.fn x = true := by
      rcases hf with z | z
      · exact z
      · rw [z] at aq; cases aq
    obtain ⟨c, aj⟩ := I.ok.has x (.inl aq)
    obtain ⟨eF, z⟩ := I.cell x c aj
    refine wpAny_storeName_cell I.ok.kind aq aj z (fun h' c8 ag => ?_)
    obtain ⟨fe, CN, Nc⟩ := id z
    refine h { s with heap := h' } ⟨I.ok, I.os, I.bare, ⟨fun b o e n ae af => ?_, fun b o e n ae af => ?_, I.base.free, fun b o e af => ?_, I.base.iV, I.base.ic, I.base.iU⟩, ⟨m, aw.sameBut ag (XB (lZ x c aj)), fun j y pZ e1 e2 e3 => ?_⟩, fun y cQ e => ?_, I.free, I.g5, fun p ax => ?_, tracked ⟨fe, CN, I.g5 x c aj⟩ ag, by simpa using I.len⟩ ⟨c, ag, .inr aj⟩
    · exact (ag.2 b (WB (WI (Wl e) (I.ok.qy x c nG aj)))).trans (I.base.keep b o e n ae af)
    · obtain ⟨bl, e1⟩ := I.base.slot b o e n ae af
      exact ⟨bl, (ag.2 b (WB (WI (Wl e) (I.ok.qy x c nG aj)))).trans e1⟩
    · obtain ⟨bO, e1⟩ := I.base.there b o e af
      exact ⟨bO, (ag.2 b (WB (WI (Wl e) (I.ok.qy x c nG aj)))).trans e1⟩
    · by_cases aG : j = i
      · subst aG
        rw [hi] at e1; cases e1
        rw [List.getElem?_set_self CE] at e2
        cases e2
        exact ⟨u, r, .inr ⟨.inl aq, c, aj, c8⟩⟩
      · rw [Y9 (XB aG)] at e2
        obtain ⟨rU, bC, q⟩ := au j y pZ e1 e2 e3
        refine ⟨rU, bC, ?_⟩
        rcases q with q | ⟨k, cQ, e, fx⟩
        · exact .inl q
        · refine .inr ⟨k, cQ, e, fx.sameBut ag ?_⟩
          rintro rfl
          exact aG (DZ bq e1 (I.ok.inj _ _ _ e aj ▸ hi))
    · by_cases Cw : cQ = c
      · subst Cw; exact ⟨_, c8⟩
      · obtain ⟨ki, cO⟩ := I.cell y cQ e
        exact ⟨ki, cO.sameBut ag Cw⟩
    · obtain ⟨e, n, ne, ik, d⟩ := I.pin p ax
      refine ⟨(ag.2 p.1 ?_).trans e, n, ne, ik, d⟩
      intro q
      rw [q, CN] at e
      have cB : fe = p.2 := WU e
      exact d eF (by rw [<- cB]; exact Nc)
def uv{M:Model}{A:Around}{E:Value->Shared->Prop}{i:Nat}{x:Str}{v:V}{u:Value}{Q:Unit->Shared->Prop}(I:Inv X pins σ H s)(bq:X.N.Nodup)(hi:X.N[i]?=some x)(af:Loc X.env.scope x)(r:RelV v u)(h:∀s',Inv X pins (σ.set i (some v)) H s'->Q () s')(hf:X.fn x=true\/X.env.scope.names.lookup x=some .local:=by first|exact .inl rfl|exact .inr rfl|assumption):wpAny M A (storeName X.env x u) Q E s :=
 Ts I bq hi af r (λs' dX _=>h s' dX) hf
def Inv.Az{s':Shared}{ch:List Addr}(I:Inv X pins σ H s)(ay:s'.os=s.os)(u:eJ (fL X.stack) ch H ao s.heap s'.heap)(bU:el X.prog X.w ao s'.heap)(aT:AllBare s'.gens)(jS:∀b∈ch,(b∈X.ex\/X.ef.heap.objs.size<=b)/\b≠X.env.locals/\(∀x c,X.env.cells.lookup x=some c->c≠b)/\∀p∈X.bS++pins,p.1≠b):Inv X pins σ ao s':=by
 obtain⟨h',g',d',t',bO⟩:=s';have e:bO=s.os:=ay;subst e;exact I.call (g':=g') (t':=t') (d':=d') u bU aT jS
end
noncomputable abbrev iB:=Value->Option Addr->az->Prop
noncomputable abbrev St:=List (Option V)
noncomputable abbrev cG:=V->az->Prop
noncomputable abbrev TE:=St->az->cG->Prop
noncomputable abbrev TT:=St->az->(Bool->az->Prop)->Prop
noncomputable abbrev e9:=St->az->(List V->az->Prop)->Prop
structure Ends where
 b6:St->az->Prop
 dC:cG
 gX:St->az->Prop:=λ_ _=>False
 ct:St->az->Prop:=λ_ _=>False
noncomputable abbrev gV:=Ends->St->az->Prop
noncomputable def dT(X:aR)(pins:List (Addr×Obj))(σ:St)(Q:cG)(u:Value)(s':Shared):Prop:=∃v ao,Inv X pins σ ao s'/\RelV v u/\Q v ao
noncomputable def qm(X:aR)(pins:List (Addr×Obj))(σ:St)(Q:Bool->az->Prop)(b:Bool)(s':Shared):Prop:=∃ao,Inv X pins σ ao s'/\Q b ao
noncomputable def GX(X:aR)(pins:List (Addr×Obj))(σ:St)(Q:List V->az->Prop)(us:List Value)(s':Shared):Prop:=∃ai ao,Inv X pins σ ao s'/\Vals ai us/\Q ai ao
noncomputable def oI(X:aR)(pins:List (Addr×Obj))(D:Ends)(f:Flow)(s':Shared):Prop :=
 match f with
 |.next=>∃cF ao,Inv X pins cF ao s'/\D.b6 cF ao
 |.brk=>∃cF ao,Inv X pins cF ao s'/\D.gX cF ao
 |.cont=>∃cF ao,Inv X pins cF ao s'/\D.ct cF ao
 |.ret u=>∃v cF ao,Inv X pins cF ao s'/\RelV v u/\D.dC v ao
noncomputable def aQ(X:aR)(e:Expr)(t:TE):Prop :=
 ∀(pins:List (Addr×Obj))(s:Shared)(σ:St)(H:az)(Q:cG),Inv X pins σ H s->t σ H Q->wpAny (model X.prog X.w) X.A (eval e X.env) (dT X pins σ Q) X.b8 s
noncomputable def dM(X:aR)(e:Expr)(t:TT):Prop :=
 ∀(pins:List (Addr×Obj))(s:Shared)(σ:St)(H:az)(Q:Bool->az->Prop),Inv X pins σ H s->t σ H Q->wpAny (model X.prog X.w) X.A (isTrue e X.env (eval e X.env)) (qm X pins σ Q) X.b8 s
noncomputable def h8(X:aR)(e:Expr)(t:TT):Prop :=
 ∀(whole:Sem Value)(pins:List (Addr×Obj))(s:Shared)(σ:St)(H:az)(Q:Bool->az->Prop),Inv X pins σ H s->t σ H Q->wpAny (model X.prog X.w) X.A (isTrue e X.env whole) (qm X pins σ Q) X.b8 s
def h8.pt{X:aR}{e:Expr}{t:TT}(h:h8 X e t):dM X e t:=h _
noncomputable def eT(X:aR)(ah:List Expr)(t:e9):Prop :=
 ∀(pos:Pos)(pins:List (Addr×Obj))(s:Shared)(σ:St)(H:az)(Q:List V->az->Prop),Inv X pins σ H s->t σ H Q->wpAny (model X.prog X.w) X.A (spliced (backTo pos (starEach ah X.env))) (GX X pins σ Q) X.b8 s
noncomputable def eg(X:aR)(st:Stmt)(t:gV):Prop :=
 ∀(pins:List (Addr×Obj))(s:Shared)(σ:St)(H:az)(D:Ends),Inv X pins σ H s->t D σ H->wpAny (model X.prog X.w) X.A (exec st X.env) (oI X pins D) X.b8 s
noncomputable def fC(X:aR)(st:List Stmt)(t:gV):Prop :=
 ∀(pins:List (Addr×Obj))(s:Shared)(σ:St)(H:az)(D:Ends),Inv X pins σ H s->t D σ H->wpAny (model X.prog X.w) X.A (execs st X.env) (oI X pins D) X.b8 s
def bM{α:Type}{t:Sem α}{Q dj:α->Shared->Prop}{M:Model}{A:Around}{E:Value->Shared->Prop}{s:Shared}(h:wpAny M A t Q E s)(dh:∀a s,Q a s->dj a s):wpAny M A t dj E s:=Xy h dh λ_ _ x=>x
end bx
namespace bx
open PySem PySem.Spec PyProof.Rows
section
variable{X:aR}
def bin{a b:Expr}{b0 cq:TE}(aC:aQ X a b0)(ae:aQ X b cq){pins:List (Addr×Obj)}{s:Shared}{σ:St}{H:az}{R:V->V->az->Prop}(I:Inv X pins σ H s)(h:b0 σ H λx H1=>cq σ H1 λy aV=>R x y aV){α:Type}{Q:α->Shared->Prop}{f:Value->Value->Sem α}(hf:∀v u s2 x y aV,Inv X pins σ aV s2->RelV x v->RelV y u->R x y aV->wpAny (model X.prog X.w) X.A (f v u) Q X.b8 s2):
  wpAny (model X.prog X.w) X.A (eval a X.env) (λv cE=>wpAny (model X.prog X.w) X.A (eval b X.env) (λu hE=>wpAny (model X.prog X.w) X.A (f v u) Q X.b8 hE) X.b8 cE) X.b8 s:=by
 refine bM (aC pins s σ H _ I h) λv s1 ⟨x,H1,a9,aE,aD⟩=>?_
 refine bM (ae pins s1 σ H1 _ a9 aD) λu s2 ⟨y,aV,cy,aX,aO⟩=>?_
 exact hf v u s2 x y aV cy aE aX aO
noncomputable def F6(i:Nat):TE:=λσ H Q=>∃v,σ[i]?=some (some v)/\Q v H
noncomputable def mP(v:V):TE:=λ_ H Q=>Q v H
def mF{i:Nat}{x:Str}{pos:Pos}(bq:X.N[i]?=some x)(aL:h9 X.env.scope x)(hd:(x==("__debug__":Str))=false:=by decide)(hO:(x==("__classdict__":Str))=false:=by decide):aQ X (.Name x pos) (F6 i):=by
 intro pins s σ H Q I h;obtain⟨v,e,h⟩:=h;obtain⟨m,aw,au⟩:=I.loc;obtain⟨u,r,l⟩:=au i x v bq e aL;have fin:dT X pins σ Q u s:=⟨v,H,I,r,h⟩;rcases l with⟨aq,hm⟩|⟨aq,c,aj,s8⟩
 .exact wpAny_Name (wpAny_loadName_local I.ok.kind aq aw hm fin) hd
 .rcases aq with aq|aq
  .exact wpAny_Name (wpAny_loadName_cell I.ok.kind aq aj s8 fin) hd
  .exact wpAny_Name (wpAny_loadName_free I.ok.kind aq aj s8 fin hO) hd
def Eo{i j pos}:aQ X (.Constant (.int i) j pos) (mP (.int i)):=λ_ _ _ H _ I h=>wpAny_Constant_int ⟨.int i,H,I.tok _,⟨_,rfl⟩,h⟩
def El{b j pos}:aQ X (.Constant (.bool b) j pos) (mP (.av b)):=λ_ _ _ H _ I h=>Constant_bool ⟨.av b,H,I,rfl,h⟩
def QC{j pos}:aQ X (.Constant .none j pos) (mP .cM):=λ_ _ _ H _ I h=>Constant_none ⟨.cM,H,I,rfl,h⟩
def yR{x j pos}:aQ X (.Constant (.str x) j pos) (mP (.str x)):=λ_ _ _ H _ I h=>Calls.Constant_str ⟨.str x,H,I.tok _,⟨_,rfl⟩,h⟩
noncomputable def dv(X:aR)(x:Str):Prop:=X.env.kindOf x=some .globalImplicit
def rj{E:Value->Shared->Prop}{pins:List (Addr×Obj)}{s:Shared}{σ:St}{H:az}{x:Str}{u:Value}{pos:Pos}{Q:Value->Shared->Prop}(I:Inv X pins σ H s)(aT:dv X x)(hm:X.aB x=some u)(h:Q u s)(hd:(x==("__debug__":Str))=false:=by decide):wpAny (model X.prog X.w) X.A (eval (.Name x pos) X.env) Q E s :=
 Zr I.ok.kind aT (Calls.loadGlobal_global (by rw[I.ok.glob];exact I.mod.glob.keeps I.gX) hm h) hd
def jt{E:Value->Shared->Prop}{pins:List (Addr×Obj)}{s:Shared}{σ:St}{H:az}{x:Str}{u:Value}{pos:Pos}{Q:Value->Shared->Prop}(I:Inv X pins σ H s)(aT:dv X x)(hm:X.aB x=none)(aL:bootBuiltins x=some u)(h:Q u s)(aw:x≠"__name__":=by decide)(hd:(x==("__debug__":Str))=false:=by decide):wpAny (model X.prog X.w) X.A (eval (.Name x pos) X.env) Q E s:=by
 obtain⟨iP,aa,h2⟩:=I.mod.blt;exact Zr I.ok.kind aT (Calls.loadGlobal_builtin (by rw[I.ok.glob];exact I.mod.glob.keeps I.gX) hm (by rw[I.ok.blt];exact aa.keeps I.gX) ((h2 x aw).trans aL) h) hd
def En{x:Str}{v:V}{u:Value}{pos:Pos}(aT:dv X x)(hm:X.aB x=some u)(r:RelV v u)(hd:(x==("__debug__":Str))=false:=by decide):aQ X (.Name x pos) (mP v) :=
 λ_ _ _ H _ I h=>rj I aT hm ⟨v,H,I,r,h⟩ hd
def Em{x:Str}{v:V}{u:Value}{pos:Pos}(aT:dv X x)(hm:X.aB x=none)(aL:bootBuiltins x=some u)(r:RelV v u)(aw:x≠"__name__":=by decide)(hd:(x==("__debug__":Str))=false:=by decide):aQ X (.Name x pos) (mP v) :=
 λ_ _ _ H _ I h=>jt I aT hm aL ⟨v,H,I,r,h⟩ aw hd
variable{a b:Expr}{b0 cq:TE}{pos:Pos}
noncomputable def qi(X:aR)(op:CmpOp)(a b:Expr)(t:TE):Prop :=
 ∀(pins:List (Addr×Obj))(s:Shared)(σ:St)(H:az)(Q:cG),Inv X pins σ H s->t σ H Q ->
  wpAny (model X.prog X.w) X.A (eval a X.env) (λv cE=>wpAny (model X.prog X.w) X.A (eval b X.env) (λu hE=>wpAny (model X.prog X.w) X.A (compareOp op v u) (dT X pins σ Q) X.b8 hE) X.b8 cE) X.b8 s
def PL(b:Expr){op:CmpOp}(h:op≠.In)(h2:op≠.NotIn):behindInMarks op b=false:=by
 have e1:(op==CmpOp.In)=false:=by cases op<;>first|rfl|exact absurd rfl h
 have e2:(op==CmpOp.NotIn)=false:=by cases op<;>first|rfl|exact absurd rfl h2
 cases b<;>simp[behindInMarks,e1,e2]
noncomputable def F1(t:TE):TT:=λσ H Q=>t σ H λx H1=>∃c,x=.av c/\Q c H1
def V3{op:CmpOp}{t:TE}(h:qi X op a b t)(aa:behindInMarks op b=false:=by first|exact PL _ (by decide) (by decide)|rfl):dM X (.Compare a [op] [b] pos) (F1 t):=by
 intro pins s σ H Q I hw;refine wpAny_isTrue_Compare1 (bM (h pins s σ H _ I hw) λv s1 aa=>bM aa λu s2 h2=>bM h2 λc s3 ⟨x,H1,a9,aE,aD⟩=>?_) aa
 obtain⟨d,rfl,q⟩:=aD;cases aE;exact Xj ⟨H1,a9,q⟩
def Rg{e:Expr}{t:TE}(h:aQ X e t)(he:∀whole,isTrue e X.env whole=(do let v <- whole;standAt e.pos;holding [v] (truthy v)):=by intro _;rfl):dM X e (F1 t):=by
 intro pins s σ H Q I hw;refine isTrue_plain (bM (h pins s σ H _ I hw) λv s1 ⟨x,H1,a9,aE,aD⟩=>?_) (he _)
 obtain⟨d,rfl,q⟩:=aD;cases aE;exact Xj ⟨H1,a9,q⟩
variable{ke ux:TT}{rest:List Expr}
noncomputable def Tv(t u:TT):TT:=λσ H Q=>t σ H λc H1=>if c=true then u σ H1 Q else Q false H1
noncomputable def TO(t u:TT):TT:=λσ H Q=>t σ H λc H1=>if c=true then Q true H1 else u σ H1 Q
noncomputable def TM(t:TT):TT:=λσ H Q=>t σ H λc H1=>Q (!c) H1
def Ri(aC:dM X a ke):h8 X (.BoolOp .And [a] pos) ke:=by
 intro lD pins s σ H Q I h;refine isTrue_and (bM (aC pins s σ H Q I h) λc s1 e=>?_)
 cases c with
 |true=>exact isTrue_and_nil e
 |false=>exact e
def Rk(aC:dM X a ke):h8 X (.BoolOp .Or [a] pos) ke:=by
 intro lD pins s σ H Q I h;refine isTrue_or (bM (aC pins s σ H Q I h) λc s1 e=>?_)
 cases c with
 |false=>exact isTrue_or_nil e
 |true=>exact e
def Rh(aC:dM X a ke)(ae:h8 X (.BoolOp .And (b::rest) pos) ux):h8 X (.BoolOp .And (a::b::rest) pos) (Tv ke ux):=by
 intro lD pins s σ H Q I h;refine isTrue_and (bM (aC pins s σ H _ I h) λc s1 ⟨H1,a9,aD⟩=>?_)
 cases c with
 |true=>exact ae lD pins s1 σ H1 Q a9 aD
 |false=>exact⟨H1,a9,aD⟩
def Rj(aC:dM X a ke)(ae:h8 X (.BoolOp .Or (b::rest) pos) ux):h8 X (.BoolOp .Or (a::b::rest) pos) (TO ke ux):=by
 intro lD pins s σ H Q I h;refine isTrue_or (bM (aC pins s σ H _ I h) λc s1 ⟨H1,a9,aD⟩=>?_)
 cases c with
 |true=>exact⟨H1,a9,aD⟩
 |false=>exact ae lD pins s1 σ H1 Q a9 aD
def Rf(aC:dM X a ke):dM X (.UnaryOp .Not a pos) (TM ke):=by
 intro pins s σ H Q I h;exact isTrue_not (aC pins s σ H (λc H1=>Q (!c) H1) I h)
noncomputable def Tw(b0 cq:TE):TE:=λσ H Q=>b0 σ H λx H1=>∃c,x=.av c/\if c=true then cq σ H1 Q else Q (.av false) H1
noncomputable def TP(b0 cq:TE):TE:=λσ H Q=>b0 σ H λx H1=>∃c,x=.av c/\if c=true then Q (.av true) H1 else cq σ H1 Q
noncomputable def TN(b0:TE):TE:=λσ H Q=>b0 σ H λx H1=>∃c,x=.av c/\Q (.av (!c)) H1
def yQ{op}{t:TE}(h:aQ X a t):aQ X (.BoolOp op [a] pos) t:=λpins s σ H Q I hw=>BoolOp_one (h pins s σ H Q I hw)
def yN(aC:aQ X a b0)(ae:aQ X (.BoolOp .And (b::rest) pos) cq):aQ X (.BoolOp .And (a::b::rest) pos) (Tw b0 cq):=by
 intro pins s σ H Q I h;refine BoolOp_and (bM (aC pins s σ H _ I h) λv s1 ⟨x,H1,a9,aE,aD⟩=>?_)
 obtain⟨c,rfl,aD⟩:=aD;cases aE;refine Xj ?_;cases c with
 |true=>exact ae pins s1 σ H1 Q a9 aD
 |false=>exact⟨.av false,H1,a9,rfl,aD⟩
def QE(aC:aQ X a b0)(ae:aQ X (.BoolOp .Or (b::rest) pos) cq):aQ X (.BoolOp .Or (a::b::rest) pos) (TP b0 cq):=by
 intro pins s σ H Q I h;refine BoolOp_or (bM (aC pins s σ H _ I h) λv s1 ⟨x,H1,a9,aE,aD⟩=>?_)
 obtain⟨c,rfl,aD⟩:=aD;cases aE;refine Xj ?_;cases c with
 |false=>exact ae pins s1 σ H1 Q a9 aD
 |true=>exact⟨.av true,H1,a9,rfl,aD⟩
def Es(aC:aQ X a b0):aQ X (.UnaryOp .Not a pos) (TN b0):=by
 intro pins s σ H Q I h;refine UnaryOp_ (bM (aC pins s σ H _ I h) λv s1 ⟨x,H1,a9,aE,aD⟩=>?_)
 obtain⟨c,rfl,aD⟩:=aD;cases aE;exact not_of (Xj ⟨.av (!c),H1,a9,rfl,aD⟩)
noncomputable def zv(t:TT)(b0 cq:TE):TE:=λσ H Q=>t σ H λc H1=>if c=true then b0 σ H1 Q else cq σ H1 Q
end
end bx
namespace bx
open PySem PySem.Spec PyProof.Rows
noncomputable def dF(K:W.Frag)(H:az)(a:Addr)(xs:List V):Prop :=
 sh H a (.lst xs) \/
  ∃(o:Obj)(its:Array Value)(n:Nat),K.lookup a=some o/\o.cls=.type "list"/\o.dict=none/\o.data=.seq its n/\its.size<=sizeLine/\Vals xs its.toList
noncomputable def c4(K:W.Frag)(H:az)(a:Addr)(xs:List V):Prop :=
 sh H a (.tup xs) \/
  ∃(o:Obj)(its:Array Value)(n:Nat),K.lookup a=some o/\o.cls=.type "tuple"/\o.data=.seq its n/\its.size<=sizeLine/\Vals xs its.toList
noncomputable def Hp:Value->Option V
 |.none=>some .cM
 |.bool b=>some (.av b)
 |.int i _=>some (.int i)
 |.str x _=>some (.str x)
 |.bytes b _=>some (.vZ b)
 |.float b _=>some (.o2 b)
 |.ref a=>some (.ref a)
 |.type n=>some (.ty n)
 |_=>none
def RelV.abs{x:V}{u:Value}(r:RelV x u):Hp u=some x:=by
 cases x with
 |cM=>cases r;rfl
 |av _=>cases r;rfl
 |int _=>obtain⟨t,rfl⟩:=r;rfl
 |str _=>obtain⟨t,rfl⟩:=r;rfl
 |vZ _=>obtain⟨t,rfl⟩:=r;rfl
 |o2 _=>obtain⟨t,rfl⟩:=r;rfl
 |ref _=>cases r;rfl
 |ty _=>cases r;rfl
def RelV.inj{x y:V}{u:Value}(r:RelV x u)(q:RelV y u):x=y:=WU (r.abs.symm.trans q.abs)
theorem Vals.inj:∀{xs ys:List V}{us:List Value},Vals xs us->Vals ys us->xs=ys
 |_,_,_,.nil,.nil=>rfl
 |_,_,_,.cons r t,.cons bC t'=>by rw[r.inj bC,Vals.inj t t']
section
variable{X:aR}{pins:List (Addr×Obj)}{σ:St}{H:az}{s:Shared}{a:Addr}{xs ys:List V}
def dF.of{K:W.Frag}(h:H a=some (.lst xs)):dF K H a xs:=.inl (.inl h)
def c4.of{K:W.Frag}(h:H a=some (.tup xs)):c4 K H a xs:=.inl (.inl h)
def Inv.list(I:Inv X pins σ H s)(h:dF X.K H a xs):∃its:List Value,Vals xs its/\PlainL s.heap a its.toArray/\xs.length<=sizeLine:=by
 rcases h with h|⟨o,its,n,aq,aj,hd,ag,hz,r⟩
 .obtain⟨z,its,n,r,e⟩:=h.ok I.bU;exact⟨its,r,⟨_,n,e,rfl,rfl,rfl⟩,z⟩
 .refine⟨its.toList,r,⟨o,n,I.fM a o aq,aj,hd,by simpa using ag⟩,?_⟩
  have e:=r.length;simp only[Array.length_toList]at e;omega
def Inv.tuple(I:Inv X pins σ H s)(h:c4 X.K H a xs):∃its:List Value,Vals xs its/\IsTup s.heap a its.toArray/\xs.length<=sizeLine:=by
 rcases h with h|⟨o,its,n,aq,aj,ag,hz,r⟩
 .obtain⟨z,its,r,p⟩:=h.ok I.bU;exact⟨its,r,p,z⟩
 .refine⟨its.toList,r,⟨o,I.fM a o aq,aj,n,by simpa using ag⟩,?_⟩
  have e:=r.length;simp only[Array.length_toList]at e;omega
def Inv.O7(I:Inv X pins σ H s)(h:dF X.K H a xs)(h':dF X.K H a ys):xs=ys:=by
 obtain⟨its,r,⟨o,n,e,_,_,d⟩,_⟩:=I.list h;obtain⟨its',bC,⟨bO,cL,bj,_,_,d'⟩,_⟩:=I.list h';rw[e]at bj;cases bj;rw[d]at d';injection d' with dg _;have:its=its':=by simpa using XQ Array.toList dg
 subst this;exact r.inj bC
def Inv.zD(I:Inv X pins σ H s)(h:c4 X.K H a xs)(h':c4 X.K H a ys):xs=ys:=by
 obtain⟨its,r,⟨o,e,_,n,d⟩,_⟩:=I.tuple h;obtain⟨its',bC,⟨bO,bj,_,cL,d'⟩,_⟩:=I.tuple h';rw[e]at bj;cases bj;rw[d]at d';injection d' with dg _;have:its=its':=by simpa using XQ Array.toList dg
 subst this;exact r.inj bC
end
section
variable{X:aR}{pins:List (Addr×Obj)}{σ:St}{H:az}{s:Shared}{E:Value->Shared->Prop}
end
section
variable{X:aR}{st:Stmt}{rest:List Stmt}{t u:gV}{e:Expr}{ey:TE}{pos:Pos}
noncomputable def TK:gV:=λD σ H=>D.b6 σ H
noncomputable def TS(t u:gV):gV:=λD σ H=>t { D with b6:=u D } σ H
def Rb:fC X [] TK:=λ_ _ σ H _ I h=>Zf ⟨σ,H,I,h⟩
def EG(aa:eg X st t)(h2:fC X rest u):fC X (st::rest) (TS t u):=by
 intro pins s σ H D I h;refine wpAny_execs_cons (bM (aa pins s σ H { D with b6:=u D } I h) λf s1 q=>?_)
 cases f with
 |next =>
  obtain⟨cF,ao,dX,q⟩:=q;exact h2 pins s1 cF ao D dX q
 |ret v=>exact q
 |brk=>exact q
 |cont=>exact q
def y1(aa:eg X st t):fC X [st] t:=by
 intro pins s σ H D I h;refine wpAny_execs_cons (bM (aa pins s σ H D I h) λf s1 q=>?_)
 cases f with
 |next=>exact Zf q
 |ret v=>exact q
 |brk=>exact q
 |cont=>exact q
def Inv.quiet{pins:List (Addr×Obj)}{σ:St}{H:az}{s:Shared}(I:Inv X pins σ H s):interactive X.env=false:=by simp[interactive,I.ok.kind]
noncomputable def TA(ey:TE):gV:=λD σ H=>ey σ H λ_ H1=>D.b6 σ H1
def yZ(he:aQ X e ey)(ag:swapsWith e none pos.line X.env=pure false:=by rfl):eg X (.Expr e pos) (TA ey):=by
 intro pins s σ H D I h;exact wpAny_Expr_any (bM (he pins s σ H _ I h) λv s1 ⟨x,H1,a9,aE,aD⟩=>⟨σ,H1,a9,aD⟩) I.quiet ag
noncomputable def pV(ey:TE):gV:=λD σ H=>ey σ H D.dC
def t6(he:aQ X e ey):eg X (.Return (some e) pos) (pV ey):=by
 intro pins s σ H D I h;exact wpAny_Return_some (bM (he pins s σ H _ I h) λv s1 ⟨x,H1,a9,aE,aD⟩=>⟨x,σ,H1,a9,aE,aD⟩)
noncomputable def TG(c:TT)(t u:gV):gV:=λD σ H=>c σ H λb H1=>if b=true then t D σ H1 else u D σ H1
def Q9{c:Expr}{a b:List Stmt}{kf:TT}(aj:dM X c kf)(aC:fC X a t)(ae:fC X b u):eg X (.If c a b pos) (TG kf t u):=by
 intro pins s σ H D I h;refine wpAny_If (bM (aj pins s σ H _ I h) λd s1 ⟨H1,a9,aD⟩=>?_)
 cases d with
 |true=>exact aC pins s1 σ H1 D a9 aD
 |false=>exact ae pins s1 σ H1 D a9 aD
end
noncomputable abbrev ky:=V->St->az->(St->az->Prop)->Prop
noncomputable abbrev lP:=List V->St->az->(St->az->Prop)->Prop
noncomputable def ix(X:aR)(target:Expr)(t:ky):Prop :=
 ∀(pins:List (Addr×Obj))(s:Shared)(σ:St)(H:az)(v:V)(u:Value)(Q:St->az->Prop),Inv X pins σ H s->RelV v u->t v σ H Q ->
  wpAny (model X.prog X.w) X.A (assign target X.env u) (λ_ s'=>∃cF ao,Inv X pins cF ao s'/\Q cF ao) X.b8 s
noncomputable def qj(X:aR)(ts:List Expr)(t:lP):Prop :=
 ∀(pins:List (Addr×Obj))(s:Shared)(σ:St)(H:az)(ai:List V)(us:List Value)(Q:St->az->Prop),Inv X pins σ H s->Vals ai us->t ai σ H Q ->
  wpAny (model X.prog X.w) X.A (assignInOrder ((assignEach ts X.env).map (·.2)) us) (λ_ s'=>∃cF ao,Inv X pins cF ao s'/\Q cF ao) X.b8 s
section
variable{X:aR}{pos:Pos}
noncomputable def w9(i:Nat):ky:=λv σ H Q=>Q (σ.set i (some v)) H
def Ey{i:Nat}{x:Str}(bq:X.N.Nodup)(hi:X.N[i]?=some x)(af:Loc X.env.scope x)(hf:X.fn x=true\/X.env.scope.names.lookup x=some .local:=by first|exact .inl rfl|exact .inr rfl|assumption):ix X (.Name x pos) (w9 i):=by
 intro pins s σ H v u Q I r h;exact wpAny_assign_Name (uv I bq hi af r (λs' dX=>⟨_,H,dX,h⟩) hf)
noncomputable def BX:lP:=λai σ H Q=>ai=[]/\Q σ H
noncomputable def BV(t:ky)(u:lP):lP:=λai σ H Q=>∃v r,ai=v::r/\t v σ H λcF ao=>u r cF ao Q
def QQ:qj X [] BX:=by
 intro pins s σ H ai us Q I r h;obtain⟨e,h⟩:=h;subst e;cases r;exact assignInOrder_nil ⟨σ,H,I,h⟩
def QP{e:Expr}{ah:List Expr}{t:ky}{u:lP}(aa:ix X e t)(h2:qj X ah u)(ag:(assignEach (e::ah) X.env).map (·.2)=assign e X.env::(assignEach ah X.env).map (·.2):=by rfl):qj X (e::ah) (BV t u):=by
 intro pins s σ H ai us Q I r h;obtain⟨v,Wd,e1,h⟩:=h;subst e1;cases r with
 |cons r gr =>
  rw[ag];refine assignInOrder_cons (bM (aa pins s σ H _ _ _ I r h) λ_ s1 ⟨Vf,H1,a9,aD⟩=>?_)
  exact h2 pins s1 Vf H1 _ _ Q a9 gr aD
noncomputable def LK(K:W.Frag)(n:Nat)(t:lP):ky:=λv σ H Q=>∃a xs,v=.ref a/\c4 K H a xs/\xs.length=n/\t xs σ H Q
def QO{ah:List Expr}{k:Nat}{t:lP}{n:Nat}(aj:X.calm=true)(h:qj X ah t)(aw:(assignEach ah X.env).length=n:=by rfl)(bX:(assignEach ah X.env).findIdx? (·.1)=none:=by rfl):ix X (.Tuple ah k pos) (LK X.K n t):=by
 intro pins s σ H v u Q I r hw;obtain⟨a,xs,e1,aF,au,hw⟩:=hw;subst e1;cases r;obtain⟨its,bL,aW,hz⟩:=I.tuple aF;refine assign_Tuple_tuple (I.ok.hd aj) aW (by simp[aw,<- au,bL.length]) bX λh' af=>?_
 have a9:Inv X pins σ H { s with heap:=h' }:=I.kept (t':=s.toks) λb o e=>af b o (WB (Wl e)) e
 exact h pins _ σ H xs _ Q a9 (by simpa using bL) hw
noncomputable def rQ(ey:TE)(g:ky):gV:=λD σ H=>ey σ H λx H1=>g x σ H1 D.b6
def y0{i:Nat}{x:Str}{e:Expr}{ey:TE}{pos':Pos}(bq:X.N.Nodup)(hi:X.N[i]?=some x)(af:Loc X.env.scope x)(he:aQ X e ey)(ag:swapsWith e (some (.Name x pos')) pos.line X.env=pure false:=by rfl)(hf:X.fn x=true\/X.env.scope.names.lookup x=some .local:=by first|exact .inl rfl|exact .inr rfl|assumption):
  eg X (.Assign [.Name x pos'] e pos) (rQ ey (w9 i)):=by
 intro pins s σ H D I h;refine wpAny_Assign_Name (bM (he pins s σ H _ I h) λv s1 ⟨y,H1,a9,aE,aD⟩=>?_) ag
 exact uv a9 bq hi af aE (λs2 cy=>⟨_,H1,cy,aD⟩) hf
end
section
variable{X:aR}{pos:Pos}
end
structure i4 where
 go:Nat->az->Prop
 kj:Nat->az->V->az->Prop
 stop:Nat->az->Prop
noncomputable def i1(X:aR)(pins:List (Addr×Obj))(H:az)(b:Addr):Prop :=
 H b=none/\b≠X.env.locals/\b∉X.fs/\(b∈X.ex\/X.ef.heap.objs.size<=b)/\(∀x c,X.env.cells.lookup x=some c->c≠b)/\∀p∈X.bS++pins,p.1≠b
def Inv.qK{X:aR}{pins:List (Addr×Obj)}{σ:St}{H ao:az}{s:Shared}{b:Addr}(I:Inv X pins σ H s)(ae:s.heap.objs.size<=b)(aw:ao b=none):i1 X pins ao b:=by
 refine⟨aw,Yy (WI I.lt ae),I.tR ae,.inr (Xt I.dJ ae),λx c e z=>?_,λp ax z=>?_⟩
 .obtain⟨v,q⟩:=I.cell x c e;exact absurd (WI q.lt (by rw[z];exact ae)) (Xz _)
 .exact absurd (WI (Wl (I.pin p ax).1) (by rw[z];exact ae)) (Xz _)
structure Turn(P:Program)(w:World)(K:W.Frag)(c3:Expr)(bP:i4)(bk:List Addr)(it:Addr)(gu:Nat->Heap->Prop):Prop where
 mem:it∈bk
 obj:∀i h,gu i h->∀b∈bk,∃o,h.get? b=some o/\∀v,o.data≠.cell v
 keep:∀i h h',gu i h->(∀b∈bk,∀o,h.get? b=some o->h'.get? b=some o)->gu i h'
 item:∀(X:aR),X.prog=P->X.w=w->X.K=K->X.calm=true->∀(i:Nat)(pins:List (Addr×Obj))(s:Shared)(σ:St)(H:az)(E:Value->Shared->Prop),Inv X pins σ H s->(∀b∈bk,i1 X pins H b)->gu i s.heap->bP.go i H ->
  wpAny (model P w) X.A (pyNext (.ref it)) (λr s1=>∃u,r=some u /\
   wpAny (model P w) X.A (letOwnedTupleGo c3 (.ref it) u) (λ_ s2=>∃x ao,Inv X pins σ ao s2/\RelV x u/\bP.kj i H x ao/\gu (i+1) s2.heap/\∀b∈bk,ao b=none) E s1) E s
 done:∀(X:aR),X.prog=P->X.w=w->X.K=K->X.calm=true->∀(i:Nat)(pins:List (Addr×Obj))(s:Shared)(σ:St)(H:az)(E:Value->Shared->Prop),Inv X pins σ H s->(∀b∈bk,i1 X pins H b)->gu i s.heap->bP.stop i H ->
  wpAny (model P w) X.A (pyNext (.ref it)) (λr s1=>r=none/\Inv X pins σ H s1) E s
 self:∀(A:Around)(i:Nat)(s:Shared)(Q:Value->Shared->Prop)(E:Value->Shared->Prop),gu i s.heap->Q (.ref it) s->wpAny (model P w) A (pyIter (.ref it)) Q E s
noncomputable abbrev TI:=St->az->(i4->az->Prop)->Prop
noncomputable def z3(X:aR)(pins:List (Addr×Obj))(σ:St)(c3:Expr)(R:i4->az->Prop)(yr:Value)(s2:Shared):Prop :=
 ∃(it:Addr)(bk:List Addr)(gu:Nat->Heap->Prop)(bP:i4)(ao:az),yr=.ref it/\Inv X pins σ ao s2/\Turn X.prog X.w X.K c3 bP bk it gu/\gu 0 s2.heap/\(∀b∈bk,i1 X pins ao b)/\R bP ao
noncomputable def fB(X:aR)(c3 iter:Expr)(p6:TI):Prop :=
 ∀(pins:List (Addr×Obj))(s:Shared)(σ:St)(H:az)(R:i4->az->Prop),Inv X pins σ H s->p6 σ H R ->
  wpAny (model X.prog X.w) X.A (eval iter X.env) (λv s1=>wpAny (model X.prog X.w) X.A (pyIter v) (z3 X pins σ c3 R) X.b8 s1) X.b8 s
def xj {M : Model} {A : Around} {E : Value -> Shared -> Prop} {s : Shared} {c3 : Expr} {it : Addr} {u : Value} {o : Obj} {n : String} {ai : Array Value} {Q : Unit -> Shared -> Prop} (ay : s.heap.get? it = some o) (aj : o.cls = .type n) (hd : o.data = .fields ai)
    (aw : ["enumerate", "zip", "dict_itemiterator", "dict_reverseitemiterator", "odict_iterator", "itertools.zip_longest", "itertools.pairwise"].contains n = false) (dh : Q () s) : wpAny M A (letOwnedTupleGo c3 (.ref it) u) Q E s := by
  unfold letOwnedTupleGo
  cases c3 <;> first
    | exact wpAny_pure dh
    | (cases u <;> first
        | exact wpAny_pure dh
        | (refine Wh (wpAny_load ay ?_)
           rw [aj, hd]
           show wpAny M A (if (["enumerate", "zip", "dict_itemiterator", "dict_reverseitemiterator", "odict_iterator", "itertools.zip_longest", "itertools.pairwise"].contains n && ai[0]? == some (rawInt _)) = true then _ else _) Q E s
           rw [if_neg (by intro h; rw [aw, W0] at h; cases h)]
           exact wpAny_pure dh))
noncomputable def vc(K:W.Frag)(a:Addr):i4 :=
 ⟨λi H=>∃xs x,dF K H a xs/\xs[i]?=some x,λi H x ao=>ao=H/\∀xs,dF K H a xs->xs[i]?=some x,λi H=>∃xs,dF K H a xs/\xs.length<=i⟩
noncomputable def vd(K:W.Frag)(a:Addr):i4 :=
 ⟨λi H=>∃xs x,c4 K H a xs/\xs[i]?=some x,λi H x ao=>ao=H/\∀xs,c4 K H a xs->xs[i]?=some x,λi H=>∃xs,c4 K H a xs/\xs.length<=i⟩
noncomputable def oE(lo:Int)(n:Nat):i4:=⟨λi _=>i<n,λi H x ao=>ao=H/\x=.int (lo+i),λi _=>n<=i⟩
def Uy{P:Program}{w:World}{K:W.Frag}{c3:Expr}(a it:Addr):Turn P w K c3 (vc K a) [it] it (λi h=>h.IsListIter it a i) where
 mem:=by simp
 obj:=λi h st b ae=>by
  have e:b=it:=by simpa using ae
  subst e;obtain⟨o,e,c,d⟩:=st;exact⟨o,e,λv z=>by rw[d]at z;cases z⟩
 keep:=λi h h' st k=>st.at λo e=>k it (by simp) o e
 item:=by
  intro X dO hw gC aj i pins s σ H E I hf st aT;subst dO hw gC;obtain⟨xs,x,aF,af⟩:=aT;obtain⟨its,bL,p,hz⟩:=I.list aF;obtain⟨u,b3,c5⟩:=bL.get af;obtain⟨f0,f1,f2,dm,f4,eW⟩:=hf it (by simp)
  refine wpAny_pyNext_list_item st p.isList (x:=u) (by simpa using b3) λh' aH cC=>?_
  have a9:Inv X pins σ H { s with heap:=h' }:=I.turned (t':=s.toks) (λb o ae e=>(cC.2 b ae).trans e) f0 f1 dm f4 eW
  obtain⟨o,e,c,d⟩:=id aH;exact⟨u,rfl,xj (s:={ s with heap:=h' }) e c d (by decide) ⟨x,H,a9,c5,⟨rfl,λys aA=>by rw[I.O7 aA aF];exact af⟩,aH,λb ae=>(hf b ae).1⟩⟩
 done:=by
  intro X dO hw gC aj i pins s σ H E I hf st aT;subst dO hw gC;obtain⟨xs,aF,af⟩:=aT;obtain⟨its,bL,p,hz⟩:=I.list aF;obtain⟨f0,f1,f2,dm,f4,eW⟩:=hf it (by simp)
  have au:=bL.length;exact wpAny_pyNext_list_end (I.ok.hd aj) st p.isList (by simp;omega) λh' fX=>⟨rfl,I.turned (t':=s.toks) (λb o ae e=>fX b o ae e) f0 f1 dm f4 eW⟩
 self:=λ_ _ _ _ _ st h=>wpAny_pyIter_listiter st h
def UA{P:Program}{w:World}{K:W.Frag}{c3:Expr}(a it:Addr):Turn P w K c3 (vd K a) [it] it (λi h=>h.IsTupleIter it a i) where
 mem:=by simp
 obj:=λi h st b ae=>by
  have e:b=it:=by simpa using ae
  subst e;obtain⟨o,e,c,d⟩:=st;exact⟨o,e,λv z=>by rw[d]at z;cases z⟩
 keep:=λi h h' st k=>st.at λo e=>k it (by simp) o e
 item:=by
  intro X dO hw gC aj i pins s σ H E I hf st aT;subst dO hw gC;obtain⟨xs,x,aF,af⟩:=aT;obtain⟨its,bL,p,hz⟩:=I.tuple aF;obtain⟨u,b3,c5⟩:=bL.get af;obtain⟨f0,f1,f2,dm,f4,eW⟩:=hf it (by simp)
  refine wpAny_pyNext_tuple_item st (show s.heap.IsTuple a its.toArray from p) (x:=u) (by simpa using b3) λh' aH cC=>?_
  have a9:Inv X pins σ H { s with heap:=h' }:=I.turned (t':=s.toks) (λb o ae e=>(cC.2 b ae).trans e) f0 f1 dm f4 eW
  obtain⟨o,e,c,d⟩:=id aH;exact⟨u,rfl,xj (s:={ s with heap:=h' }) e c d (by decide) ⟨x,H,a9,c5,⟨rfl,λys aA=>by rw[I.zD aA aF];exact af⟩,aH,λb ae=>(hf b ae).1⟩⟩
 done:=by
  intro X dO hw gC aj i pins s σ H E I hf st aT;subst dO hw gC;obtain⟨xs,aF,af⟩:=aT;obtain⟨its,bL,p,hz⟩:=I.tuple aF;obtain⟨f0,f1,f2,dm,f4,eW⟩:=hf it (by simp)
  have au:=bL.length;exact wpAny_pyNext_tuple_end (I.ok.hd aj) st (show s.heap.IsTuple a its.toArray from p) (by simp;omega) λh' fX=>⟨rfl,I.turned (t':=s.toks) (λb o ae e=>fX b o ae e) f0 f1 dm f4 eW⟩
 self:=λ_ _ _ _ _ st h=>wpAny_pyIter_tupleiter st h
def Uz{P:Program}{w:World}{K:W.Frag}{c3:Expr}(it:Addr)(lo:Int)(n:Nat):Turn P w K c3 (oE lo n) [it] it (λi h=>IsRangeIter h it (lo+(i:Nat)*1) ((n:Int)-(i:Nat)) 1) where
 mem:=by simp
 obj:=λi h st b ae=>by
  have e:b=it:=by simpa using ae
  subst e;exact⟨_,st,λv z=>by
   have fx:Data.fields _=Data.cell v:=z;cases fx⟩
 keep:=λi h h' st k=>k it (by simp) _ st
 item:=by
  intro X dO hw gC aj i pins s σ H E I hf st aT;subst dO hw gC;obtain⟨f0,f1,f2,dm,f4,eW⟩:=hf it (by simp)
  have W:=Walks.range (prog:=X.prog) (w:=X.w) (I.ok.hd aj) it lo 1 n;refine W.item i s _ _ aT st λv h' tk aL aH j1=>?_
  obtain⟨t,rfl⟩:=aL;have a9:Inv X pins σ H { s with heap:=h',toks:=tk }:=I.turned (λb o ae e=>j1 b o (by simpa using ae) e) f0 f1 dm f4 eW
  refine⟨_,rfl,xj (s:={ s with heap:=h',toks:=tk }) (n:="range_iterator") aH rfl rfl (by decide) ⟨.int (lo+i),H,a9,⟨t,?_⟩,⟨rfl,rfl⟩,aH,λb ae=>(hf b ae).1⟩⟩
  rw[Int.mul_one]
 done:=by
  intro X dO hw gC aj i pins s σ H E I hf st aT;subst dO hw gC;obtain⟨f0,f1,f2,dm,f4,eW⟩:=hf it (by simp)
  exact wpAny_pyNext_range_end (I.ok.hd aj) st (by have:n<=i:=aT;omega) λh' fX=>⟨rfl,I.turned (t':=s.toks) (λb o ae e=>fX b o ae e) f0 f1 dm f4 eW⟩
 self:=λ_ _ _ _ _ st h=>wpAny_pyIter_rangeiter st h
end bx
namespace bx
open PySem PySem.Spec PyProof.Rows
section
variable{X:aR}{c3:Expr}
def EO{pins:List (Addr×Obj)}{σ:St}{H:az}{s:Shared}{R:i4->az->Prop}{E:Value->Shared->Prop}{lo hi:Int}{t u v:Tok}{tk:Nat}(I:Inv X pins σ H s)(aa:-(2 ^ 62)<=lo)(h2:lo<2 ^ 62)(h3:-(2 ^ 62)<=hi)(h4:hi<2 ^ 62)(q:R (oE lo (hi-lo).toNat) H):wpAny (model X.prog X.w) X.A (pyIter (.ref s.heap.objs.size)) (z3 X pins σ c3 R) E { s with heap:=s.heap.push { cls:=.type "range",data:=.fields #[.int lo t,.int hi u,.int 1 v] },toks:=tk }:=by
 refine wpAny_pyIter_range (IsRange.new ..) (small_one aa h2 h3 h4) ?_;have a9:Inv X pins σ H { s with heap:=s.heap.push { cls:=.type "range",data:=.fields #[.int lo t,.int hi u,.int 1 v] },toks:=tk }:=I.kept λb o e=>Wj _ e
 refine⟨(s.heap.push { cls:=.type "range",data:=.fields #[.int lo t,.int hi u,.int 1 v] }).objs.size,[(s.heap.push { cls:=.type "range",data:=.fields #[.int lo t,.int hi u,.int 1 v] }).objs.size],_,_,H,rfl,
  a9.kept (t':=tk) λb o e=>Wj _ e,Uz _ lo (hi-lo).toNat,?_,λb ae=>?_,q⟩
 .have e1:lo+((0:Nat):Int)*1=lo:=by simp
  have e2:(((hi-lo).toNat:Nat):Int)-((0:Nat):Int)=Builtin.Range.rangeSize lo hi 1:=by rw[rangeSize_one];split<;>omega
  show IsRangeIter _ _ (lo+((0:Nat):Int)*1) ((((hi-lo).toNat:Nat):Int)-((0:Nat):Int)) 1;rw[e1,e2];exact Wq _ rfl
 .have e:b=(s.heap.push { cls:=.type "range",data:=.fields #[.int lo t,.int hi u,.int 1 v] }).objs.size:=by simpa using ae
  subst e;exact a9.qK (Wm _) (a9.bU.fresh (Wm _))
noncomputable def NR(b0:e9):TI:=λσ H R=>b0 σ H λai H1=>∃j:Int,ai=[.int j]/\-(2 ^ 62)<=j/\j<2 ^ 62/\R (oE 0 j.toNat) H1
noncomputable def NS(b0:e9):TI:=λσ H R=>b0 σ H λai H1=>∃i j:Int,ai=[.int i,.int j]/\(-(2 ^ 62)<=i/\i<2 ^ 62/\-(2 ^ 62)<=j/\j<2 ^ 62)/\R (oE i (j-i).toNat) H1
def QR{a:Expr}{b0:e9}{p pos:Pos}(aT:dv X "range")(hm:X.aB "range"=none)(aC:eT X [a] b0)(ag:starEach [a] X.env=[(false,eval a X.env)]:=by rfl):fB X c3 (.Call (.Name "range" p) [a] [] pos) (NR b0):=by
 intro pins s σ H R I h;refine Call_ (jt I aT hm boot_range (W7 (bM (aC pos pins s σ H _ I h) λus s1 ⟨ai,H1,a9,aE,aD⟩=>?_) ag rfl))
 obtain⟨j,e,aD,aO,q⟩:=aD;subst e;cases aE with
 |cons r gr =>
  cases gr;obtain⟨t,rfl⟩:=r;exact call_range_1 (EO a9 (by omega) (by omega) aD aO (by simpa using q))
def QS{a b:Expr}{b0:e9}{p pos:Pos}(aT:dv X "range")(hm:X.aB "range"=none)(aC:eT X [a,b] b0)(ag:starEach [a,b] X.env=[(false,eval a X.env),(false,eval b X.env)]:=by rfl)(x7:starEach [b] X.env=[(false,eval b X.env)]:=by rfl):
  fB X c3 (.Call (.Name "range" p) [a,b] [] pos) (NS b0):=by
 intro pins s σ H R I h;refine Call_ (jt I aT hm boot_range (W7 (bM (aC pos pins s σ H _ I h) λus s1 ⟨ai,H1,a9,aE,aD⟩=>?_) (by rw[ag,x7]) (by rw[x7];rfl)))
 obtain⟨i,j,e,⟨aD,aO,bE,cb⟩,q⟩:=aD;subst e;cases aE with
 |cons r gr =>
  cases gr with
  |cons bC gr =>
   cases gr;obtain⟨t,rfl⟩:=r;obtain⟨t',rfl⟩:=bC;exact call_range_2 (EO a9 aD aO bE cb q)
noncomputable def uA(p6:TI)(g:ky)(cq:gV):gV:=λD σ H=>p6 σ H λbP H1=>∃W:Nat->Nat->St->az->Prop,(∃m,W 0 m σ H1)/\∀i m σ H,W i m σ H ->
 (bP.stop i H/\D.b6 σ H)\/(bP.go i H/\∃N:St->az->Prop,(∀cF ao,N cF ao->∃cN,cN<m/\W (i+1) cN cF ao)/\∀x ao,bP.kj i H x ao->g x σ ao λu0 aV=>cq { D with b6:=N,ct:=N,gX:=D.b6 } u0 aV)
noncomputable def t5(bk:List Addr)(h:Heap):List (Addr×Obj):=bk.filterMap λb=>(h.get? b).map λo=>(b,o)
def pA{bk:List Addr}{h:Heap}{b:Addr}{o:Obj}(ae:b∈bk)(e:h.get? b=some o):(b,o)∈t5 bk h:=Yj.mpr ⟨b,ae,by rw[e];rfl⟩
def P5{bk:List Addr}{h:Heap}{p:Addr×Obj}(ax:p∈t5 bk h):p.1∈bk/\h.get? p.1=some p.2:=by
 obtain⟨b,ae,e⟩:=Yj.mp ax;cases q:h.get? b with
 |none=>rw[q]at e;cases e
 |some o =>
  rw[q]at e;have bj:(b,o)=p:=WU e;subst bj;exact⟨ae,q⟩
def Inv.pinned{pins:List (Addr×Obj)}{σ:St}{H:az}{s:Shared}{bk:List Addr}(I:Inv X pins σ H s)(hf:∀b∈bk,i1 X pins H b)(ay:∀b∈bk,∃o,s.heap.get? b=some o/\∀v,o.data≠.cell v):Inv X (pins++t5 bk s.heap) σ H s :=
 I.yU λp ax=>(WT.mp ax).elim (λz=>I.pin p (WD _ z)) λz=>by
  obtain⟨ae,e⟩:=P5 z;obtain⟨f0,f1,f2,_⟩:=hf p.1 ae;obtain⟨o,bj,d⟩:=ay p.1 ae;rw[e]at bj;cases bj;exact⟨e,f0,f1,f2,d⟩
def Inv.pY{pins bW:List (Addr×Obj)}{σ:St}{H:az}{s:Shared}(I:Inv X (pins++bW) σ H s):Inv X pins σ H s:=I.yU λp ax=>I.pin p (WD _ (WZ _ ax))
def Q8{iter:Expr}{body:List Stmt}{p6:TI}{g:ky}{cq:gV}{pos:Pos}(ax:PassesOwn (model X.prog X.w) X.A X.env X.b8)(aj:X.calm=true)(hi:fB X c3 iter p6)(aT:ix X c3 g)(ae:fC X body cq)(ag:∀x,foldedSetIterable iter X.env x=pure x:=by intro _;rfl):eg X (.For c3 iter body [] pos) (uA p6 g cq):=by
 intro pins s σ H D I h;refine wpAny_For (bM (hi pins s σ H _ I h) λv s1 aa=>bM aa λyr s2 h2=>?_) ag
 obtain⟨it,bk,gu,bP,aV,e,cy,T,cH,f2,W,⟨m0,UW⟩,turn⟩:=h2;subst e;have zm:∀{ao:az},(∀b∈bk,ao b=none)->∀b∈bk,i1 X pins ao b:=λaw b ae=>⟨aw b ae,(f2 b ae).2⟩
 refine codeAny_forLoop_any (λn s'=>∃i cF ao,Inv X pins cF ao s'/\gu i s'.heap/\(∀b∈bk,ao b=none)/\W i n cF ao) ?_ m0 ⟨0,σ,aV,cy,cH,λb ae=>(f2 b ae).1,UW⟩
 rintro n s3 ⟨i,p8,bw,eG,gI,BO,UX⟩;rcases turn i n p8 bw UX with⟨stop,Ro⟩|⟨go,N,bq,step⟩
 .refine YJ ax (bM (T.done X rfl rfl rfl aj i pins s3 p8 bw X.b8 eG (zm BO) gI stop) λr s4 ⟨aZ,fA⟩=>?_)
  subst aZ;exact Zf ⟨p8,bw,fA,Ro⟩
 .refine YJ ax (bM (T.item X rfl rfl rfl aj i pins s3 p8 bw X.b8 eG (zm BO) gI go) λr s4 ⟨u,aZ,h4⟩=>?_)
  subst aZ;refine YJ ax (bM h4 λ_ s5 ⟨x,i3,hg,fP,zQ,lB,w4⟩=>?_)
  have va:=hg.pinned (zm w4) (T.obj _ _ lB);refine YJ ax (bM (aT _ s5 p8 i3 x u _ va fP (step x i3 zQ)) λ_ mJ ⟨oz,gN,lK,mG⟩=>?_)
  refine YJ ax (bM (ae _ mJ oz gN _ lK mG) λf rM h1=>?_)
  have again:∀{jF:St}{gO:az},Inv X (pins++t5 bk s5.heap) jF gO rM->N jF gO->∃m,m<n/\∃i cF ao,Inv X pins cF ao rM/\gu i rM.heap/\(∀b∈bk,ao b=none)/\W i m cF ao:=λ{jF gO} gP ru=>by
   obtain⟨cN,hm,UY⟩:=bq jF gO ru;refine⟨cN,hm,i+1,jF,gO,gP.pY,T.keep _ _ _ lB λb ae o e=>(gP.pin (b,o) (WD _ (WD _ (pA ae e)))).1,λb ae=>?_,UY⟩
   obtain⟨o,e,d⟩:=T.obj _ _ lB b ae;exact(gP.pin (b,o) (WD _ (WD _ (pA ae e)))).2.1
  cases f with
  |next=>obtain⟨jF,gO,gP,ru⟩:=h1;exact again gP ru
  |cont=>obtain⟨jF,gO,gP,ru⟩:=h1;exact again gP ru
  |brk=>obtain⟨jF,gO,gP,h1⟩:=h1;exact⟨jF,gO,gP.pY,h1⟩
  |ret v=>obtain⟨mU,jF,gO,gP,y3,h1⟩:=h1;exact⟨mU,jF,gO,gP.pY,y3,h1⟩
end
end bx
namespace bx
open PySem PySem.Spec PyProof.Rows
noncomputable abbrev fD:=V->V->az->cG->Prop
noncomputable def c1(X:aR)(f:Value->Value->Sem Value)(r:fD):Prop :=
 ∀(pins:List (Addr×Obj))(s:Shared)(σ:St)(H:az)(x y:V)(v u:Value)(Q:cG),Inv X pins σ H s->RelV x v->RelV y u->r x y H Q ->
  wpAny (model X.prog X.w) X.A (f v u) (dT X pins σ Q) X.b8 s
noncomputable def vm(X:aR)(f:Value->Sem Value)(r:V->az->cG->Prop):Prop :=
 ∀(pins:List (Addr×Obj))(s:Shared)(σ:St)(H:az)(x:V)(v:Value)(Q:cG),Inv X pins σ H s->RelV x v->r x H Q ->
  wpAny (model X.prog X.w) X.A (f v) (dT X pins σ Q) X.b8 s
noncomputable def fS(X:aR)(f:Value)(r:List V->az->cG->Prop):Prop :=
 ∀(pins:List (Addr×Obj))(s:Shared)(σ:St)(H:az)(xs:List V)(us:List Value)(Q:cG),Inv X pins σ H s->Vals xs us->r xs H Q ->
  wpAny (model X.prog X.w) X.A (call f us) (dT X pins σ Q) X.b8 s
noncomputable def rR(r:fD)(b0 cq:TE):TE:=λσ H Q=>b0 σ H λx H1=>cq σ H1 λy aV=>r x y aV Q
noncomputable def TY(r:V->az->cG->Prop)(b0:TE):TE:=λσ H Q=>b0 σ H λx H1=>r x H1 Q
noncomputable def t8(C:Int->Int->Prop)(g:Int->Int->V):fD:=λx y H Q=>∃i j,x=.int i/\y=.int j/\C i j/\Q (g i j) H
noncomputable def mH(g:Int->Int->V):fD:=λx y H Q=>∃i j,x=.int i/\y=.int j/\Q (g i j) H
noncomputable def EM(g:Int->V):V->az->cG->Prop:=λx H Q=>∃i,x=.int i/\Q (g i) H
section
variable{X:aR}{a b c:Expr}{b0 cq kf:TE}{pos:Pos}
def vU(aC:aQ X a b0)(ae:aQ X b cq){pins:List (Addr×Obj)}{s:Shared}{σ:St}{H:az}{R:V->V->az->Prop}(I:Inv X pins σ H s)(h:b0 σ H λx H1=>cq σ H1 λy aV=>R x y aV){Q:Value->Shared->Prop}{f:Value->Value->Sem Value}(hf:∀v u s2 x y aV,Inv X pins σ aV s2->RelV x v->RelV y u->R x y aV->wpAny (model X.prog X.w) X.A (f v u) Q X.b8 s2):
  wpAny (model X.prog X.w) X.A (eval a X.env) (λv cE=>wpAny (model X.prog X.w) X.A (eval b X.env) (λu hE=>wpAny (model X.prog X.w) X.A (f v u) Q X.b8 hE) X.b8 cE) X.b8 s:=by
 refine bM (aC pins s σ H _ I h) λv s1 ⟨x,H1,a9,aE,aD⟩=>?_
 refine bM (ae pins s1 σ H1 _ a9 aD) λu s2 ⟨y,aV,cy,aX,aO⟩=>?_
 exact hf v u s2 x y aV cy aE aX aO
def QD{op:Operator}{r:fD}(ay:c1 X (binaryOp op) r)(aC:aQ X a b0)(ae:aQ X b cq):aQ X (.BinOp a op b pos) (rR r b0 cq):=by
 intro pins s σ H Q I h;exact wpAny_BinOp (vU aC ae I h λv u s2 x y aV cy bb cg q=>ay pins s2 σ aV x y v u Q cy bb cg q)
def Et{op:UnaryOp}{r:V->az->cG->Prop}(ay:vm X (unaryOp op) r)(aC:aQ X a b0):aQ X (.UnaryOp op a pos) (TY r b0):=by
 intro pins s σ H Q I h;exact UnaryOp_ (bM (aC pins s σ H _ I h) λv s1 ⟨x,H1,a9,aE,aD⟩=>ay pins s1 σ H1 x v Q a9 aE aD)
def yK{f:Value->Value->Sem Value}{C:Int->Int->Prop}{g:Int->Int->Int}(rule:∀(i j:Int)(t u:Tok)(s:Shared)(Q:Value->Shared->Prop)(E:Value->Shared->Prop),C i j->Q (.int (g i j) s.toks) { s with toks:=s.toks+1 }->wpAny (model X.prog X.w) X.A (f (.int i t) (.int j u)) Q E s):
  c1 X f (t8 C λi j=>.int (g i j)):=by
 intro pins s σ H x y v u Q I bb cg h;obtain⟨i,j,rfl,rfl,aj,q⟩:=h;obtain⟨t,rfl⟩:=bb;obtain⟨t',rfl⟩:=cg;exact rule i j t t' s _ _ aj ⟨.int (g i j),H,I.tok _,⟨_,rfl⟩,q⟩
def D8{f:Value->Value->Sem Value}{g:Int->Int->Int}(rule:∀(i j:Int)(t u:Tok)(s:Shared)(Q:Value->Shared->Prop)(E:Value->Shared->Prop),Q (.int (g i j) s.toks) { s with toks:=s.toks+1 }->wpAny (model X.prog X.w) X.A (f (.int i t) (.int j u)) Q E s):
  c1 X f (mH λi j=>.int (g i j)):=by
 intro pins s σ H x y v u Q I bb cg h;obtain⟨i,j,rfl,rfl,q⟩:=h;obtain⟨t,rfl⟩:=bb;obtain⟨t',rfl⟩:=cg;exact rule i j t t' s _ _ ⟨.int (g i j),H,I.tok _,⟨_,rfl⟩,q⟩
def tX{f:Value->Value->Sem Value}{g:Int->Int->Bool}(rule:∀(i j:Int)(t u:Tok)(s:Shared)(Q:Value->Shared->Prop)(E:Value->Shared->Prop),Q (.bool (g i j)) s->wpAny (model X.prog X.w) X.A (f (.int i t) (.int j u)) Q E s):
  c1 X f (mH λi j=>.av (g i j)):=by
 intro pins s σ H x y v u Q I bb cg h;obtain⟨i,j,rfl,rfl,q⟩:=h;obtain⟨t,rfl⟩:=bb;obtain⟨t',rfl⟩:=cg;exact rule i j t t' s _ _ ⟨.av (g i j),H,I,rfl,q⟩
noncomputable def GY(i j:Int):Prop:=0<j/\j<1073741824
noncomputable def u2(i j:Int):Prop:=(-(2 ^ 64)<i/\i<2 ^ 64)\/(-(2 ^ 64)<j/\j<2 ^ 64)
def u2.ok{i j:Int}(h:u2 i j):IntMulOk i j:=by
 rcases h with⟨aa,h2⟩|⟨aa,h2⟩
 .exact .of_left (intBits_le_64 aa h2)
 .exact .of_right (intBits_le_64 aa h2)
def P9:c1 X (binaryOp .Add) (mH λi j=>.int (i+j)):=D8 λ_ _ _ _ _ _ _ q=>add_int q
def Qk:c1 X (binaryOp .Sub) (mH λi j=>.int (i-j)):=D8 λ_ _ _ _ _ _ _ q=>sub_int q
def Qj:c1 X (binaryOp .Mult) (t8 u2 λi j=>.int (i*j)):=yK λ_ _ _ _ _ _ _ aj q=>mul_int q aj.ok
def Qb:c1 X (binaryOp .FloorDiv) (t8 GY λi j=>.int (i / j)):=yK λi j _ _ _ _ _ aj q=>by
 have aa:(0:Int)<j:=aj.1;have h2:j<1073741824:=aj.2;exact floordiv_int (by omega) (by rw[Int.fdiv_eq_ediv_of_nonneg i (by omega)];exact q) (.inl (PyProof.noPylong_small (by omega)))
def Qi:c1 X (binaryOp .Mod) (t8 (λ_ j=>0<j) λi j=>.int (i%j)):=yK λi j _ _ _ _ _ aj q=>by
 have aa:(0:Int)<j:=aj;exact mod_int' (by omega) (by rw[Int.fmod_eq_emod_of_nonneg i (by omega)];exact q)
def uF{f:Value->Sem Value}{g:Int->Int}(rule:∀(i:Int)(t:Tok)(s:Shared)(Q:Value->Shared->Prop)(E:Value->Shared->Prop),Q (.int (g i) s.toks) { s with toks:=s.toks+1 }->wpAny (model X.prog X.w) X.A (f (.int i t)) Q E s):
  vm X f (EM λi=>.int (g i)):=by
 intro pins s σ H x v Q I bb h;obtain⟨i,rfl,q⟩:=h;obtain⟨t,rfl⟩:=bb;exact rule i t s _ _ ⟨.int (g i),H,I.tok _,⟨_,rfl⟩,q⟩
def Gr:vm X (unaryOp .USub) (EM λi=>.int (-i)):=uF λ_ _ _ _ _ q=>neg_int q
end
section
variable{X:aR}{a b c:Expr}{b0 cq kf:TE}{pos:Pos}
def Qg:c1 X (compareOp .Lt) (mH λi j=>.av (decide (i<j))):=tX λ_ _ _ _ _ _ _ q=>lt_int q
def Qf:c1 X (compareOp .LtE) (mH λi j=>.av (decide (i<=j))):=tX λ_ _ _ _ _ _ _ q=>le_int q
def Qe:c1 X (compareOp .Gt) (mH λi j=>.av (decide (j<i))):=tX λ_ _ _ _ _ _ _ q=>gt_int q
def Qd:c1 X (compareOp .GtE) (mH λi j=>.av (decide (j<=i))):=tX λ_ _ _ _ _ _ _ q=>ge_int q
def QA{op:CmpOp}{r:fD}(ay:c1 X (compareOp op) r)(aC:aQ X a b0)(ae:aQ X b cq)(hm:behindInMarks op b=false):aQ X (.Compare a [op] [b] pos) (rR r b0 cq):=by
 intro pins s σ H Q I h;exact wpAny_Compare1 (vU aC ae I h λv u s2 x y aV cy bb cg q=>ay pins s2 σ aV x y v u Q cy bb cg q) hm
noncomputable def F4(t:TE):TT:=λσ H Q=>t σ H λx ao=>∃k,x=.av k/\Q k ao
def Rd{op:CmpOp}{r:fD}(ay:c1 X (compareOp op) r)(aC:aQ X a b0)(ae:aQ X b cq)(hm:behindInMarks op b=false):dM X (.Compare a [op] [b] pos) (F4 (rR r b0 cq)):=by
 intro pins s σ H Q I h;refine wpAny_isTrue_Compare1 (bM (aC pins s σ H _ I h) λv s1 ⟨x,H1,a9,aE,aD⟩=>bM (ae pins s1 σ H1 _ a9 aD) λu s2 ⟨y,aV,cy,aX,aO⟩ =>
  bM (ay pins s2 σ aV x y v u _ cy aE aX aO) λc s3 ⟨z,bw,eG,dR,k,e,bE⟩=>?_) hm
 subst e;cases dR;exact Xj ⟨bw,eG,bE⟩
noncomputable def zt(r bC:fD)(b0 cq kf:TE):TE:=λσ H Q=>b0 σ H λx H1=>cq σ H1 λy aV=>r x y aV λz bw=>∃k,z=.av k /\
 (if k=true then kf σ bw λeF i2=>bC y eF i2 Q else Q (.av false) bw)
def Qz{op op':CmpOp}{r bC:fD}(ay:c1 X (compareOp op) r)(dH:c1 X (compareOp op') bC)(aC:aQ X a b0)(ae:aQ X b cq)(aj:aQ X c kf)(hm:lastMarks [op,op'] [b,c]=false:=by with_unfolding_all rfl):aQ X (.Compare a [op,op'] [b,c] pos) (zt r bC b0 cq kf):=by
 intro pins s σ H Q I h;refine Compare_chain (bM (aC pins s σ H _ I h) λv s1 ⟨x,H1,a9,aE,aD⟩=>chain_link (bM (ae pins s1 σ H1 _ a9 aD) λu s2 ⟨y,aV,cy,aX,aO⟩ =>
  bM (ay pins s2 σ aV x y v u _ cy aE aX aO) λd s3 ⟨z,bw,eG,dR,k,e,bE⟩=>?_)) hm
 subst e;cases dR;refine Xj ?_;cases k with
 |false=>exact ite_ff ⟨.av false,bw,eG,rfl,bE⟩
 |true=>exact ite_tt (chain_last (bM (aj pins s3 σ bw _ eG bE) λeF s4 ⟨fx,i2,fA,fv,cb⟩=>dH pins s4 σ i2 y fx u eF Q fA aX fv cb))
def Rc{op op':CmpOp}{r bC:fD}(ay:c1 X (compareOp op) r)(dH:c1 X (compareOp op') bC)(aC:aQ X a b0)(ae:aQ X b cq)(aj:aQ X c kf)(hm:lastMarks [op,op'] [b,c]=false:=by with_unfolding_all rfl):dM X (.Compare a [op,op'] [b,c] pos) (F4 (zt r bC b0 cq kf)):=by
 intro pins s σ H Q I h;refine isTrue_chain (bM (aC pins s σ H _ I h) λv s1 ⟨x,H1,a9,aE,aD⟩=>test_link (bM (ae pins s1 σ H1 _ a9 aD) λu s2 ⟨y,aV,cy,aX,aO⟩ =>
  bM (ay pins s2 σ aV x y v u _ cy aE aX aO) λd s3 ⟨z,bw,eG,dR,k,e,bE⟩=>?_)) hm
 subst e;cases dR;refine Xj ?_;cases k with
 |false =>
  obtain⟨cS,bj,cB⟩:=bE;cases bj;exact ite_ff ⟨bw,eG,cB⟩
 |true =>
  refine ite_tt (test_last (bM (aj pins s3 σ bw _ eG bE) λeF s4 ⟨fx,i2,fA,fv,cb⟩=>bM (dH pins s4 σ i2 y fx u eF _ fA aX fv cb) λd' s5 ⟨cO,i3,hg,fP,k2,e2,gp⟩=>?_))
  subst e2;cases fP;exact Xj ⟨i3,hg,gp⟩
def rl:(sizeLine:Nat)<2 ^ 63:=by rw[W6];decide
def Qa:c1 X (binaryOp .Add) (λx y H Q=>∃i j,x=.str i/\y=.str j/\i.length+j.length<=sizeLine/\Q (.str (i++j)) H):=by
 intro pins s σ H x y v u Q I bb cg h;obtain⟨i,j,rfl,rfl,hz,q⟩:=h;obtain⟨t,rfl⟩:=bb;obtain⟨t',rfl⟩:=cg;exact add_str (λt' tk=>⟨.str (i++j),H,I.tok _,⟨_,rfl⟩,q⟩) hz
def vals1{x:V}{us:List Value}(r:Vals [x] us):∃u,us=[u]/\RelV x u:=by
 cases r with
 |cons aE aX=>cases aX;exact⟨_,rfl,aE⟩
def vals2{x y:V}{us:List Value}(r:Vals [x,y] us):∃u eF,us=[u,eF]/\RelV x u/\RelV y eF:=by
 cases r with
 |cons aE aX =>
  cases aX with
  |cons dR fv=>cases fv;exact⟨_,_,rfl,aE,dR⟩
def IQ:fS X (.type "str") (λxs H Q=>∃i,xs=[.int i]/\i.natAbs.log2<1920/\Q (.str (toString i)) H):=by
 intro pins s σ H xs us Q I r h;obtain⟨i,rfl,hz,q⟩:=h;obtain⟨u,rfl,t,rfl⟩:=vals1 r;exact PySem.P.str_of_int hz ⟨.str _,H,I.tok _,⟨_,rfl⟩,q⟩
end
end bx
namespace bx
open PySem PySem.Spec PyProof.Rows
structure vi(h:Heap)(x ba C:Addr)(eC:Str->Option Value):Prop where
 obj:h.get? x=some (PySem.W.instObj C ba)
 ns:h.Ns1 ba eC
 ne:ba≠x
def Pa {h : Heap} {ba : Addr} {eC : Str -> Option Value} (n : h.Ns1 ba eC) : ∃ c9, h.get? ba = some c9 /\ ∀ name, PySem.W.lookIn name c9 = some (eC name) := by
  obtain ⟨o, ah, aY, ay, hd, aq, _, hm⟩ := n
  refine ⟨o, ay, fun name => ?_⟩
  have e := hm name
  unfold nsFind findBy at e
  rw [<- Array.find?_toList] at e
  unfold PySem.W.lookIn
  rw [hd]
  dsimp only
  split
  · rename_i y q
    rw [q] at e
    exact XQ some e
  · rename_i q
    rw [q] at e
    have a : ah.toList.any (·.refKey) = false := by
      rw [ZG]
      intro y aA
      obtain ⟨z, t, xU⟩ := aq y (Array.mem_toList_iff.mp aA)
      simp [DictEntry.refKey, xU]
    have jI : ¬ ah.toList.any (·.refKey) = true := by rw [a]; exact W5
    rw [if_neg jI]
    exact XQ some e
def vi.look{h:Heap}{x ba C:Addr}{eC:Str->Option Value}(I:vi h x ba C eC):∃c9,PySem.W.InstAt h x (PySem.W.instObj C ba) C (some c9)/\∀name,PySem.W.lookIn name c9=some (eC name) :=
 let ⟨c9,ay,au⟩:=Pa I.ns
 ⟨c9,⟨I.obj,rfl,rfl,ay⟩,au⟩
section
variable{prog:Program}{w:World}{A:Around}{E:Value->Shared->Prop}{s:Shared}{K:W.Frag}{x ba C f:Addr}{eC:Str->Option Value}{name:Str}{v:Value}
end
section
variable{P:Program}{w:World}{H ao:az}{h h':Heap}{a C ba:Addr}{fs w5:List (Str×V)}
def tr(bU:el P w H h)(e:H a=some (.ins C ba fs)):∃eC,vi h a ba C eC/\(∀f,vl (fs.lookup f) (eC f))/\PySem.Within eC (fs.map (·.1))/\fs.length<=1000/\H ba=some (.own a):=by
 obtain⟨d,z,ne,bB,eC,n,r,q⟩:=(show fi P w H h a (.ins C ba fs) from bU a _ e);exact⟨eC,⟨bB,n,ne⟩,r,q,z,d⟩
end
structure u4(K:W.Frag)(C:Addr):Prop where
 pg:PySem.W.plainGet K C Str.empty=true
 hd:PySem.W.hasDictIn K C=true
 po:PySem.W.plainOver K C=true
 ee:PySem.W.findIn K (.ref C) "__setattr__"=some (some (.builtin "object.__setattr__"))
def u4.get{K:W.Frag}{C:Addr}(c:u4 K C)(f:Str):PySem.W.plainGet K C f=true:=c.pg
structure Vg(K:W.Frag)(C:Addr)(f:Str)(v:V)(u:Value):Prop where
 at_:PySem.W.findIn K (.ref C) f=some (some u)
 rel:RelV v u
 get:PySem.W.specialIn K u "__get__"=some none
 dU:PySem.W.copiedNames.contains f=false
structure Meth(K:W.Frag)(C:Addr)(m:Str)(f:Addr):Prop where
 at_:PySem.W.findIn K (.ref C) m=some (some (.ref f))
 fn:PySem.W.isFn K (.ref f)=true
 f7:W.keepIn K (.ref f)=true
section
variable{X:aR}{pins:List (Addr×Obj)}{σ:St}{H:az}{s:Shared}{a C ba:Addr}{fs:List (Str×V)}{f:Str}{v:V}{A:Around}{E:Value->Shared->Prop}
end
section
variable{X:aR}{o e value:Expr}{f:Str}{pos pos' Wa:Pos}{b0 Wb:TE}
end
section
variable{X:aR}{pins:List (Addr×Obj)}{σ:St}{H:az}{s:Shared}{A:Around}{E:Value->Shared->Prop}{Q:Value->Shared->Prop}{c:Value}{b:Bool}
inductive iA(K:W.Frag)(H:az):V->Value->Prop where
 |cM:iA K H .cM (.type "NoneType")
 |av (x:Bool):iA K H (.av x) (.type "bool")
 |int (i:Int):iA K H (.int i) (.type "int")
 |str (x:Str):iA K H (.str x) (.type "str")
 |o2 (x:UInt64):iA K H (.o2 x) (.type "float")
 |lst {a:Addr} {xs:List V} (e:H a=some (.lst xs)):iA K H (.ref a) (.type "list")
 |hp {a:Addr} {o:Obj} {xs:List V} (e:H a=some (.hp o (.lst xs))):iA K H (.ref a) (.type "list")
 |tup {a:Addr} {xs:List V} (e:H a=some (.tup xs)):iA K H (.ref a) (.type "tuple")
 |jL {a:Addr} {et:List (Key×V)} (e:H a=some (.jL et)):iA K H (.ref a) (.type "dict")
 |jM {a:Addr} {et:List (List Key×V)} (e:H a=some (.jM et)):iA K H (.ref a) (.type "dict")
 |ins {a C ba:Addr} {fs:List (Str×V)} (e:H a=some (.ins C ba fs)) (cl:u4 K C) (aC:PySem.W.findIn K (.ref C) "__class__"=some (some (.builtin "object.__class__")))
   (aw:PySem.W.specialIn K (.builtin "object.__class__") "__get__"=some (some (.builtin "getset_descriptor.__get__"))) (CR:PySem.W.takesIn K (.builtin "object.__class__")=some true)
   (hm:PySem.W.mroIn K C (.type "object")=some true):iA K H (.ref a) (.ref C)
def tA{x:V}{u t:Value}(I:Inv X pins σ H s)(bb:RelV x u)(ty:iA X.K H x t)(e:PySem.W.kitOne X.K t c=some b)(h:∀tk,Q (.bool b) { s with toks:=tk }):
  wpAny (model X.prog X.w) A (call (.builtin "isinstance") [u,c]) Q E s:=by
 cases ty with
 |cM=>cases (show u=Value.none from bb);exact Xg PySem.W.kitx_none I.fM True.intro e (λz=>nomatch z) h
 |av y=>cases (show u=Value.bool y from bb);exact Xg PySem.W.kitx_bool I.fM True.intro e (λz=>nomatch z) h
 |int i=>obtain⟨t,q⟩:=(show ∃t,u=Value.int i t from bb);cases q;exact Xg PySem.W.kitx_int I.fM True.intro e (λz=>nomatch z) h
 |str y=>obtain⟨t,q⟩:=(show ∃t,u=Value.str y t from bb);cases q;exact Xg PySem.W.kitx_str I.fM True.intro e (λz=>nomatch z) h
 |o2 y=>obtain⟨t,q⟩:=(show ∃t,u=Value.float y t from bb);cases q;exact Xg PySem.W.kitx_float I.fM True.intro e (λz=>nomatch z) h
 |@lst a xs a8 =>
  cases (show u=Value.ref a from bb);obtain⟨_,_,n,_,aa⟩:=(show fi X.prog X.w H s.heap a (.lst xs) from I.bU a _ a8);exact Xg ZH I.fM ⟨_,aa,rfl⟩ e (λz=>nomatch z) h
 |@hp a bB xs a8 =>
  cases (show u=Value.ref a from bb);obtain⟨_,_,_,n,_,aa⟩:=(show fi X.prog X.w H s.heap a (.hp bB (.lst xs)) from I.bU a _ a8);exact Xg ZH I.fM ⟨_,aa,rfl⟩ e (λz=>nomatch z) h
 |@tup a xs a8 =>
  cases (show u=Value.ref a from bb);obtain⟨_,_,_,p⟩:=(show fi X.prog X.w H s.heap a (.tup xs) from I.bU a _ a8);obtain⟨o,aa,h2,_⟩:=p;exact Xg PySem.W.kitx_tuple I.fM ⟨o,aa,h2⟩ e (λz=>nomatch z) h
 |@jL a et a8 =>
  cases (show u=Value.ref a from bb);obtain⟨_,_,ai,_,p⟩:=(show fi X.prog X.w H s.heap a (.jL et) from I.bU a _ a8);obtain⟨o,ah,aY,aa,h2,_⟩:=p;exact Xg PySem.W.kitx_dict I.fM ⟨o,aa,h2.1⟩ e (λz=>nomatch z) h
 |@jM a et a8 =>
  cases (show u=Value.ref a from bb);obtain⟨_,_,xs,_,o,ah,aY,aa,h2,_⟩:=(show fi X.prog X.w H s.heap a (.jM et) from I.bU a _ a8);exact Xg PySem.W.kitx_dict I.fM ⟨o,aa,h2.1⟩ e (λz=>nomatch z) h
 |@ins a C ba fs a8 cl aC aw CR hm =>
  cases (show u=Value.ref a from bb);obtain⟨eC,O,_⟩:=tr I.bU a8;obtain⟨c9,bP,_⟩:=O.look;exact Xg (PySem.W.kitx_own (cl.get _) cl.hd aC aw CR hm) I.fM bP e (λz=>nomatch z) h
end
end bx
namespace bx
open PySem PySem.Spec PyProof.Rows
structure fE(k:Nat)(A:Around):Prop where
 hd:A.handled=none
 eB:A.depth+3*k+5<recursionLimit
 un:A.units+16*k+200<cLine
def fE.mono{j k:Nat}{A:Around}(r:fE k A)(h:j<=k):fE j A:=⟨r.hd,by have:=r.eB;omega,by have:=r.un;omega⟩
theorem fE.deeper{k:Nat}{A:Around}(r:fE (k+1) A)(env:Env):fE k (A.deeper env) :=
 ⟨r.hd,by have:=r.eB;show A.depth+1+3*k+5<_;omega,by have:=r.un;show A.units+3+16*k+200<_;omega⟩
theorem fE.depth{k:Nat}{A:Around}(r:fE k A):A.depth<recursionLimit:=by have:=r.eB;omega
theorem fE.units{k:Nat}{A:Around}(r:fE k A):A.units+64<cLine:=by have:=r.un;omega
noncomputable def zw:e9:=λ_ H Q=>Q [] H
noncomputable def uy(b0:TE)(dn:e9):e9:=λσ H Q=>b0 σ H λx H1=>dn σ H1 λxs aV=>Q (x::xs) aV
section
variable{X:aR}{e:Expr}{ah:List Expr}{ey:TE}{t:e9}{pos:Pos}
def n6:eT X [] zw:=λ_ _ _ _ H Q I h=>YO ⟨[],H,I,.nil,h⟩
def iS(aC:aQ X e ey)(aZ:eT X ah t)(ag:starEach (e::ah) X.env=(false,eval e X.env)::starEach ah X.env:=by rfl):eT X (e::ah) (uy ey t):=by
 intro pos pins s σ H Q I h;rw[ag];show wpAny _ _ (spliced ((false,eval e X.env)::backTo pos (starEach ah X.env))) _ _ s;refine YL (bM (aC pins s σ H _ I h) λu s1 ⟨x,H1,a9,aE,aD⟩=>?_)
 exact bM (aZ pos pins s1 σ H1 _ a9 aD) λus s2 ⟨xs,aV,cy,aX,aO⟩=>⟨x::xs,aV,cy,.cons aE aX,aO⟩
noncomputable def TX(t:e9):TE:=λσ H Q=>t σ H λxs H1=>xs.length<=sizeLine/\∀p,H1 p=none->Q (.ref p) (upd H1 p (.tup xs))
noncomputable def TJ(t:e9):TE:=λσ H Q=>t σ H λxs H1=>xs.length<=sizeLine/\∀p,H1 p=none->Q (.ref p) (upd H1 p (.lst xs))
def QG{aM}(h:eT X ah t):aQ X (.Tuple ah aM pos) (TX t):=by
 intro pins s σ H Q I aF;refine wpAny_Tuple_spliced (bM (h pos pins s σ H _ I aF) λus s1 ⟨xs,H1,a9,r,z,q⟩=>⟨by rw[<- r.length];exact z,?_⟩)
 have hf:H1 s1.heap.objs.size=none:=a9.bU.fresh (Wm _);refine⟨.ref s1.heap.objs.size,upd H1 s1.heap.objs.size (.tup xs),a9.laid (t':=s1.toks) (λb u e=>Wj _ e) (Wm _) ?_,rfl,q _ hf⟩
 exact⟨z,us,r,⟨_,Wq _ rfl,rfl,_,rfl⟩⟩
def Ep(h:eT X ah t):aQ X (.List ah pos) (TJ t):=by
 intro pins s σ H Q I aF;refine wpAny_List_spliced (bM (h pos pins s σ H _ I aF) λus s1 ⟨xs,H1,a9,r,z,q⟩=>⟨by rw[<- r.length];exact z,?_⟩)
 have hf:H1 s1.heap.objs.size=none:=a9.bU.fresh (Wm _);refine⟨.ref s1.heap.objs.size,upd H1 s1.heap.objs.size (.lst xs),a9.laid (t':=s1.toks) (λb u e=>Wj _ e) (Wm _) ?_,rfl,q _ hf⟩
 exact⟨z,us,0,r,Wq _ rfl⟩
end
noncomputable abbrev d8:=List V->az->cG->iB->Prop
noncomputable abbrev iY:=List Env->az->Shared->iB->Value->Shared->Prop
structure r4(P:Program)(w:World)(K:W.Frag)(aB:Str->Option Value)(base:Heap)(A:Around)(outer:List Env)(s:Shared)(H:az):Prop where
 frames:A.frames=some outer
 mod:Mod K aB base
 bs:∀b o,base.get? b=some o->s.heap.get? b=some o/\H b=none
 ng:base.objs.size<=s.heap.objs.size
 iE:s.heap.FunFrames base outer
 o3:∀b∈fL outer,H b=none
 bU:el P w H s.heap
 bare:AllBare s.gens
noncomputable def u1(outer:List Env)(P:Program)(w:World)(H:az)(s:Shared)(Q:cG)(u:Value)(s':Shared):Prop :=
 ∃v ao,s'.os=s.os/\AllBare s'.gens/\eJ (fL outer) [] H ao s.heap s'.heap/\el P w ao s'.heap/\RelV v u/\Q v ao
noncomputable def G0(CX:iY)(outer:List Env)(P:Program)(w:World)(H:az)(s:Shared)(Q:cG)(E:iB)(r:Result)(s':Shared):Prop :=
 match r with
 |.ok (.ret u)=>u1 outer P w H s Q u s'
 |.ok _=>False
 |.error e=>CX outer H s E e s'
structure jG(P:Program)(w:World)(K:W.Frag)(aB:Str->Option Value)(base:Heap)(CX:iY)(k:Nat)(f:Addr)(fd:FuncData)(br:List Str)(sp:d8):Prop where
 len:∀ai H Q E,sp ai H Q E->ai.length=br.length
 run:∀(A:Around)(outer:List Env)(s:Shared)(H:az)(args:Args)(us:List Value)(ai:List V)(Q:cG)(E:iB),fE k A->r4 P w K aB base A outer s H->BindsTo s fd args (br.zip us)->Vals ai us->sp ai H Q E ->
  codeAny (model P w) A (.call (.ref f) args) (G0 CX outer P w H s Q E) s
section
variable{X:aR}{pins:List (Addr×Obj)}{σ:St}{H:az}{s s':Shared}
def Inv.Ko(I:Inv X pins σ H s):r4 X.prog X.w X.K X.aB X.base X.A X.stack s H :=
 ⟨I.ok.frames,I.ok.mod,I.bs,Xt I.ok.ng I.dJ,I.stack,I.zp,I.bU,I.bare⟩
def Inv.after{Q:cG}{u:Value}(I:Inv X pins σ H s)(h:u1 X.stack X.prog X.w H s Q u s'):dT X pins σ Q u s':=by
 obtain⟨v,ao,os,bare,un,bU,r,q⟩:=h;obtain⟨bJ,g,d,t,rC⟩:=s';obtain rfl:rC=s.os:=os;exact⟨v,ao,I.call (h':=bJ) (g':=g) (d':=d) (t':=t) (ch:=[]) un bU bare (λb z=>absurd z (by simp)),r,q⟩
end
noncomputable def Tz(sp:d8)(dvs:List V)(E:iB)(t:e9):TE:=λσ H Q=>t σ H λai H1=>sp (ai++dvs) H1 Q E
noncomputable def Binds(K:W.Frag)(fd:FuncData)(br:List Str)(ds:List Value):Prop :=
 ∀(s:Shared)(us:List Value),K.In s.heap->(us++ds).length=br.length->BindsTo s fd ⟨us,[]⟩ (br.zip (us++ds))
def Binds.all{K:W.Frag}{fd:FuncData}{br:List Str}(h:∀us:List Value,us.length=br.length->bindArgs fd ⟨us,[]⟩=pure (br.zip us)):Binds K fd br []:=λs us _ au=>by
 rw[XO]at au ⊢;exact .of_eq (h us au)
noncomputable def Passes(CX:iY)(X:aR)(E:iB):Prop:=∀(pins:List (Addr×Obj))(σ:St)(H:az)(s:Shared)(e:Value)(s':Shared),Inv X pins σ H s->CX X.stack H s E e s'->X.b8 e s'
section
variable{X:aR}{CX:iY}{k:Nat}{f C:Addr}{fd:FuncData}{br:List Str}{sp:d8}{dvs:List V}{ds:List Value}{E:iB}{x m:Str}{p pos apos:Pos}{e o:Expr}{ah:List Expr}{b0:TE}{t:e9}
def RP{pins:List (Addr×Obj)}{σ:St}{H:az}{s:Shared}{Q:cG}{us:List Value}{ai:List V}(F:jG X.prog X.w X.K X.aB X.base CX k f fd br sp)(aZ:fE k X.A)(ae:Binds X.K fd br ds)(hd:Vals dvs ds)(af:Passes CX X E)(I:Inv X pins σ H s)(r:Vals ai us)(h:sp (ai++dvs) H Q E):wpAny (model X.prog X.w) X.A (call (.ref f) us) (dT X pins σ Q) X.b8 s:=by
 have aX:Vals (ai++dvs) (us++ds):=r.append hd;have au:(us++ds).length=br.length:=by rw[<- aX.length];exact F.len _ _ _ _ h
 refine wpAny_call (Zn (F.run X.A X.stack s H ⟨us,[]⟩ (us++ds) (ai++dvs) Q E aZ I.Ko (ae s us I.fM au) aX h) λr s' aF=>?_)
 cases r with
 |error e=>exact af pins σ H s e s' I aF
 |ok ho =>
  cases ho with
  |ret u=>exact I.after aF
  |next=>exact False.elim aF
  |brk=>exact False.elim aF
  |cont=>exact False.elim aF
def Qx(F:jG X.prog X.w X.K X.aB X.base CX k f fd br sp)(aZ:fE k X.A)(aT:dv X x)(hm:X.aB x=some (.ref f))(aq:W.keepIn X.K (.ref f)=true)(ae:Binds X.K fd br ds)(hd:Vals dvs ds)(af:Passes CX X E)(aC:eT X (e::ah) t)(hu:(x==("__debug__":Str))=false:=by decide)(he:starEach (e::ah) X.env=(false,eval e X.env)::starEach ah X.env:=by rfl)(ej:(backTo pos (starEach ah X.env)).any (·.1)=false:=by rfl):
  aQ X (.Call (.Name x p) (e::ah) [] pos) (Tz sp dvs E t):=by
 intro pins s σ H Q I h;refine XR (rj I aT hm ?_ hu);refine PySem.W.callWith_K (h₀:=X.base) I.ok.mod.rh aq (bM (aC pos pins s σ H _ I h) λus s1 ⟨ai,H1,a9,r,q⟩=>⟨a9.fM,?_⟩) he ej
 exact RP F aZ ae hd af a9 r q
structure gc(K:W.Frag)(C f:Addr):Prop where
 makes:PySem.W.makesIn K C=true
 init:PySem.W.findIn K (.ref C) "__init__"=some (some (.ref f))
 fn:PySem.W.isFn K (.ref f)=true
 f7:W.keepIn K (.ref C)=true
end
section
variable{X:aR}{CX:iY}{k:Nat}{f C:Addr}{fd:FuncData}{br ar:List Str}{sp:d8}{E:iB}{x m:Str}{p pos apos VV:Pos}{e o:Expr}{ah:List Expr}{VW:List Keyword}{ey b0:TE}{t tk:e9}{nm:Option Str}
structure Vh(K:W.Frag)(fd:FuncData)(br ar:List Str)(g:List Value->List Value->List Value)(BY:List V->List V->List V):Prop where
 to:∀(s:Shared)(us ws:List Value),K.In s.heap->(g us ws).length=br.length->BindsTo s fd ⟨us,ar.zip ws⟩ (br.zip (g us ws))
 rel:∀{ai:List V}{us:List Value}{zs:List V}{ws:List Value},Vals ai us->Vals zs ws->Vals (BY ai zs) (g us ws)
variable{g:List Value->List Value->List Value}{BY:List V->List V->List V}
end
structure u5(N P:List Str)(sc:Scope):Prop where
 kind:sc.kind=.function
 co:sc.isCoroutine=false
 gen:sc.isGenerator=false
 dB:N.Nodup
 pre:N.take P.length=P
 par:∀x∈P,sc.names.lookup x=some .local\/sc.names.lookup x=some .cell
 PN:∀y∈sc.names,y.2≠.free
theorem Aw{kindOf:Str->Option NameKind}{x:Str}:∀{binds:List (Str×Value)}{m:Str->Option Value},(∀v,(x,v)∉binds)->bindL kindOf binds m x=m x
 |[],_,_=>rfl
 |(n,v)::r,m,h=>by
  unfold bindL;rw[Aw λw hw=>h w (List.mem_cons_of_mem _ hw)]
  split
  .have:x≠n:=by rintro rfl;exact h v List.mem_cons_self
   simp[this]
  .rfl
theorem Au{kindOf:Str->Option NameKind}{x:Str}:∀{binds:List (Str×Value)}{m:Str->Option Value},(∀v,(x,v)∉binds)->bindC kindOf binds m x=m x
 |[],_,_=>rfl
 |(n,v)::r,m,h=>by
  unfold bindC;rw[Au λw hw=>h w (List.mem_cons_of_mem _ hw)]
  split
  .rfl
  .have:x≠n:=by rintro rfl;exact h v List.mem_cons_self
   simp[this]
theorem Av{kindOf:Str->Option NameKind}{x:Str}{v:Value}:∀{P:List Str}{ai:List Value}{i:Nat}{m:Str->Option Value},P.Nodup->P[i]?=some x->ai[i]?=some v->kindOf x=some .local ->
  bindL kindOf (P.zip ai) m x=some v
 |[],_,_,_,_,h,_,_=>by simp at h
 |_::_,[],_,_,_,_,h,_=>by simp at h
 |p::P,w::ai,0,m,dB,aa,h2,aq=>by
  simp at aa h2;subst aa;subst h2;show bindL kindOf ((p,w)::P.zip ai) m p=_;unfold bindL;rw[Aw λv aL=>(Xp.mp dB).1 (List.of_mem_zip aL).1,if_pos aq]
  simp
 |p::P,w::ai,i+1,m,dB,aa,h2,aq=>by
  show bindL kindOf ((p,w)::P.zip ai) m x=_;unfold bindL;exact Av (i:=i) (Xp.mp dB).2 (by simpa using aa) (by simpa using h2) aq
theorem As{kindOf:Str->Option NameKind}{x:Str}{v:Value}:∀{P:List Str}{ai:List Value}{i:Nat}{m:Str->Option Value},P.Nodup->P[i]?=some x->ai[i]?=some v->kindOf x≠some .local ->
  bindC kindOf (P.zip ai) m x=some v
 |[],_,_,_,_,h,_,_=>by simp at h
 |_::_,[],_,_,_,_,h,_=>by simp at h
 |p::P,w::ai,0,m,dB,aa,h2,aq=>by
  simp at aa h2;subst aa;subst h2;show bindC kindOf ((p,w)::P.zip ai) m p=_;unfold bindC;rw[Au λv aL=>(Xp.mp dB).1 (List.of_mem_zip aL).1,if_neg aq]
  simp
 |p::P,w::ai,i+1,m,dB,aa,h2,aq=>by
  show bindC kindOf ((p,w)::P.zip ai) m x=_;unfold bindC;exact As (i:=i) (Xp.mp dB).2 (by simpa using aa) (by simpa using h2) aq
noncomputable def start(N:List Str)(ai:List V):St:=ai.map some++List.replicate (N.length-ai.length) none
noncomputable def l7(CX:iY)(P:Program)(w:World)(K:W.Frag)(aB:Str->Option Value)(base:Heap)(N:List Str)(qual:Str)(scope:Scope)(f:Addr)(cd:Value)(A:Around)(outer:List Env)(s:Shared)(H:az)(E:iB):aR where
 prog:=P
 w:=w
 K:=K
 aB:=aB
 base:=base
 A:=A.deeper (envOfC qual scope s.heap.objs.size f cd)
 N:=N
 ef:=s
 qe:=H
 env:=envOfC qual scope s.heap.objs.size f cd
 outer:=outer
 stack:=envOfC qual scope s.heap.objs.size f cd::outer
 ex:=[]
 calm:=true
 fn:=λ_=>true
 bS:=[]
 b8:=λe s'=>wpAny (model P w) (A.deeper (envOfC qual scope s.heap.objs.size f cd)) (leaving (envOfC qual scope s.heap.objs.size f cd) e) (λ_ rL=>CX outer H s E e rL) (λbj rL=>CX outer H s E bj rL) s'
def AF{sc:Scope}{n:Nat}{x:Str}(h:sc.names.lookup x=some .cell):∃c,(cellsFrom n sc.names []).lookup x=some c:=by
 have q:=ZX sc.names n [] (.inl h);exact Option.isSome_iff_exists.mp q
def N2{CX:iY}{P:Program}{w:World}{K:W.Frag}{aB:Str->Option Value}{base:Heap}{N br:List Str}{qual:Str}{scope:Scope}{f:Addr}{cd:Value}{A:Around}{outer:List Env}{s s1:Shared}{H:az}{E:iB}{us:List Value}{ai:List V}(S:u5 N br scope)(hd:A.handled=none)(e0:r4 P w K aB base A outer s H)(au:ai.length=br.length)(r:Vals ai us)(x:InCallC s s.heap.objs.size (bindL (envOfC qual scope s.heap.objs.size f cd).kindOf (br.zip us) λ_=>none) (cellsFrom (s.heap.objs.size+1) scope.names []) (bindC (envOfC qual scope s.heap.objs.size f cd).kindOf (br.zip us) λ_=>none) s1):
  Inv (l7 CX P w K aB base N qual scope f cd A outer s H E) [] (start N ai) H s1:=by
 have ej:br.length<=N.length:=by have:=XQ List.length S.pre;rw[W2]at this;omega
 obtain⟨aa,tk,rfl,aq⟩:=x.done;have ry:∀b:Addr,b∉(l7 CX P w K aB base N qual scope f cd A outer s H E).ex:=λb z=>absurd (show b∈([]:List Addr) from z) (by simp)
 refine⟨⟨e0.mod,S.kind,rfl,rfl,Wm _,λy z c aa h2=>?_,λy aA=>?_,λy c _ h=>?_,λ_=>hd,Around.frames_deeper e0.frames,.inr ⟨rfl,rfl⟩,λb z=>absurd z (ry b),e0.bs,e0.ng,λb _ _=>ry b,λb z=>absurd z (ry b),e0.iE,e0.o3⟩,
  rfl,e0.bare,eJ.kept aq,⟨_,x.toInCall.ns,λi y v aa h2 h3=>?_⟩,λy c h=>⟨_,x.cell y c h⟩,e0.bU.fresh (Wm _),λy c h=>?_,λp ax=>absurd (show p∈([]:List (Addr×Obj)) from ax) (by simp),e0.bU.kept aq,?_⟩
 .exact name_of_addr x.apart (Xa aa) (Xa h2)
 .have aA:scope.names.lookup y=some .cell\/scope.names.lookup y=some .free:=aA;rcases aA with aA|aA
  .exact AF aA
  .exact absurd rfl (S.PN _ (Xa aA))
 .exact Yx (x.above y c (Xa h))
 .have hi:i<ai.length:=by
   unfold start at h2
   by_cases hi:i<ai.length
   .exact hi
   .rw[Xh (by simpa using hi)]at h2
    rw[Yi]at h2
    split at h2<;>cases h2
  have aC:ai[i]?=some v:=by
   unfold start at h2;rw[WC (by simpa using hi),WJ]at h2
   cases e:ai[i]? with
   |none=>rw[e]at h2;cases h2
   |some a=>rw[e]at h2;cases h2;rfl
  obtain⟨u,b3,bL⟩:=r.get aC;have ax:br[i]?=some y:=by
   rw[<- S.pre,List.getElem?_take_of_lt (by omega)];exact aa
  have DU:br.Nodup:=by rw[<- S.pre];exact S.dB.sublist (List.take_sublist _ _)
  refine⟨u,bL,?_⟩;rcases S.par y (XF ax) with k|k
  .exact .inl ⟨k,Av DU ax b3 k⟩
  .obtain⟨c,e⟩:=AF (n:=s.heap.objs.size+1) k;refine .inr ⟨.inl k,c,e,?_⟩;have q:=x.cell y c e;rw[As DU ax b3 (by show scope.names.lookup y≠_;rw[k];decide)]at q
   exact q
 .exact e0.bU.fresh (Yx (x.above y c (Xa h)))
 .unfold start;show _=N.length;rw[Wu,List.length_map,Yp];omega
def Ly{CX:iY}{P:Program}{w:World}{K:W.Frag}{aB:Str->Option Value}{base:Heap}{k:Nat}{f:Addr}{name qual:Str}{params:Arguments}{body:List Stmt}{scope:Scope}{sE eb doc pm dq ct fe:Value}{an c9:Option Addr}{eM:Array (Option Value)}{N br:List Str}{sp:d8}(lk:K.lookup f=some ⟨fe,c9,.func (W.fnOf name qual params body scope sE eb doc pm an dq ct),eM⟩)(hO:W.codeIn K dq qual=true)(S:u5 N br scope)(len:∀ai H Q E,sp ai H Q E->ai.length=br.length)(xD:∀(A:Around)(outer:List Env)(s:Shared)(H:az)(ai:List V)(Q:cG)(E:iB),fE k (A.deeper (envOfC qual scope s.heap.objs.size f dq))->sp ai H Q E ->
   ∃t,fC (l7 CX P w K aB base N qual scope f dq A outer s H E) body t/\t { b6:=λ_ ao=>Q .cM ao,dC:=Q } (start N ai) H):
  jG P w K aB base CX (k+1) f (W.fnOf name qual params body scope sE eb doc pm an dq ct) br sp:=by
 refine⟨len,λA outer s H args us ai Q E aZ e0 ae r pq=>?_⟩
 have au:=len _ _ _ _ pq;have hG:K.In s.heap:=e0.mod.rh.keeps λb o e=>(e0.bs b o e).1
 have lim:s.heap.NoLimit:=e0.mod.nolimit.keeps λb o e=>(e0.bs b o e).1
 have MS:∀y∈br.zip us,scope.names.lookup y.1=some .local\/(scope.names.lookup y.1=some .cell/\((cellsFrom (s.heap.objs.size+1) scope.names []).lookup y.1).isSome=true):=λ⟨n,v⟩ aA=>by
  rcases S.par n (List.of_mem_zip aA).1 with q|q
  .exact .inl q
  .exact .inr ⟨q,ZX _ _ _ (.inl q)⟩
 refine codeAny_call_function aZ.depth (hG _ _ lk) rfl S.co S.gen rfl (PySem.W.codeRec_of hG hO) (ae _ _ _ _ ?_);refine wpAny_newFunctionEnv_cells S.kind MS λenv he s1 x=>?_
 subst he;refine⟨lim.keeps x.toInCall.keep,codeAny_func ?_⟩;obtain⟨t,aW,aF⟩:=xD A outer s H ai Q E (aZ.deeper _) pq;have I:Inv (l7 CX P w K aB base N qual scope f dq A outer s H E) [] (start N ai) H s1:=N2 S aZ.hd e0 au r x;refine Xy (aW [] s1 (start N ai) H _ I aF) (λho s' ag=>?_) λe s' ag=>ag
 have fin:∀{cF:St}{ao:az}{v:V}{u:Value},Inv (l7 CX P w K aB base N qual scope f dq A outer s H E) [] cF ao s'->RelV v u->Q v ao->u1 outer P w H s Q u s' :=
  λ{cF ao v u} bP bL q=>⟨v,ao,bP.os,bP.bare,bP.base,bP.bU,bL,q⟩
 cases ho with
 |ret u =>
  obtain⟨v,cF,ao,bP,bL,q⟩:=ag;exact fin bP bL q
 |next =>
  obtain⟨cF,ao,bP,q⟩:=ag;exact fin (v:=V.cM) (u:=Value.none) bP rfl q
 |brk =>
  obtain⟨_,_,_,q⟩:=ag;exact False.elim q
 |cont =>
  obtain⟨_,_,_,q⟩:=ag;exact False.elim q
end bx
namespace bx
open PySem PySem.Spec PyProof.Rows
section
variable{X:aR}{x:Str}{p pos:Pos}{e:Expr}{ah:List Expr}{t:e9}{id T:String}{r:List V->az->cG->Prop}
noncomputable def F2(r:List V->az->cG->Prop)(t:e9):TE:=λσ H Q=>t σ H λai H1=>r ai H1 Q
def rD(aj:fS X (.builtin id) r)(aT:dv X x)(hm:X.aB x=none)(aL:bootBuiltins x=some (.builtin id))(aC:eT X (e::ah) t)(aw:x≠"__name__":=by decide)(hu:(x==("__debug__":Str))=false:=by decide)(he:starEach (e::ah) X.env=(false,eval e X.env)::starEach ah X.env:=by rfl)(ej:(backTo pos (starEach ah X.env)).any (·.1)=false:=by rfl):aQ X (.Call (.Name x p) (e::ah) [] pos) (F2 r t):=by
 intro pins s σ H Q I h;refine XR (jt I aT hm aL ?_ aw hu);exact Y1 (bM (aC pos pins s σ H _ I h) λus s1 ⟨ai,H1,a9,aE,aD⟩=>aj pins s1 σ H1 ai us Q a9 aE aD) he ej
def Qy(aj:fS X (.type T) r)(aT:dv X x)(hm:X.aB x=none)(aL:bootBuiltins x=some (.type T))(aC:eT X (e::ah) t)(aw:x≠"__name__":=by decide)(hu:(x==("__debug__":Str))=false:=by decide)(he:starEach (e::ah) X.env=(false,eval e X.env)::starEach ah X.env:=by rfl)(ej:(backTo pos (starEach ah X.env)).any (·.1)=false:=by rfl):aQ X (.Call (.Name x p) (e::ah) [] pos) (F2 r t):=by
 intro pins s σ H Q I h;refine XR (jt I aT hm aL ?_ aw hu);exact W7 (bM (aC pos pins s σ H _ I h) λus s1 ⟨ai,H1,a9,aE,aD⟩=>aj pins s1 σ H1 ai us Q a9 aE aD) he ej
end
end bx
namespace cP
open PySem PyProof.Rows
noncomputable def lexLt:List Int->List Int->Bool
 |[],[]=>false
 |[],_::_=>true
 |_::_,[]=>false
 |x::xs,y::ys=>if x=y then lexLt xs ys else decide (x<y)
def O1(x y:Int)(xs ys:List Int):lexLt (x::xs) (y::ys)=if x=y then lexLt xs ys else decide (x<y):=rfl
def O4:lexLt [] []=false:=rfl
def O3(y:Int)(ys:List Int):lexLt [] (y::ys)=true:=rfl
def O2(x:Int)(xs:List Int):lexLt (x::xs) []=false:=rfl
def Kp(A:Around)(s:Shared)(a:Int)(t:Tok)(c:Int)(u:Tok):∃e,SeqAt.EqAt A s (.int a t) (.int c u) e/\(e=true<->a=c) :=
 ⟨(a==c),SeqAt.EqAt.int_int a t c u,by simp⟩
def RA(A:Around)(s:Shared)(a:Int)(t:Tok)(c:Int)(u:Tok)(prog:Program)(w:World)(E:Value->Shared->Prop)(Q:Value->Shared->Prop)(h:Q (.bool (decide (a<c))) s):
  wpAny (model prog w) A (richCompare .Lt (.int a t) (.int c u)) Q E s :=
 (PyProof.Rows.lt_int h:wpAny (model prog w) A (compareOp .Lt (.int a t) (.int c u)) Q E s)
section
open PySem.SeqAt
open PySem.AutoSeq1 (wpAny_loadPart')
open PySem.MeetsSeq PySem.MeetsSeq2 PySem.MeetsSeq3
def Uu (l b : Addr) (items ha : Array Value) (n fN : Nat) (dd jN : Option Addr) (bl jx : Array (Option Value)) (ns ms : List Int) (hi : IntsAre items.toList ns) (aG : IntsAre ha.toList ms) :
    Meets (Builtin.«tuple.__lt__» ⟨[.ref l, .ref b], []⟩)
      (fun _ R s => s.heap.get? l = some { cls := .type "tuple", dict := dd, data := .seq items n, slots := bl } /\ s.heap.get? b = some { cls := .type "tuple", dict := jN, data := .seq ha fN, slots := jx } /\
        R (.ok (.ret (.bool (lexLt ns ms)))) s) :=
  .of_wp fun prog w A R s h => by
    obtain ⟨ax, g, d, tk, os⟩ := s; obtain ⟨au, ae, h⟩ := h
    have f2 := ZM
    have c6 : items.size = ns.length := by rw [<- hi.length]; simp
    have cO : ha.size = ms.length := by rw [<- aG.length]; simp
    wp_walk using wpAny_loadPart' au, wpAny_loadPart' ae, Y2 _ (fun rest b s' => b.1 = none /\ s' = ⟨ax, g, d, tk, os⟩ /\ ∃ (ai ws : List Value) (pF pD : List Int), rest = ai.zip ws /\
      IntsAre ai pF /\ IntsAre ws pD /\ pF.length + ha.size = pD.length + items.size /\ R (.ok (.ret (.bool (lexLt pF pD)))) ⟨ax, g, d, tk, os⟩) _
    case turn =>
      rintro ⟨y, x⟩ rest b s' ⟨iH, rfl, ai, ws, pF, pD, hz, yc, tl, hlen, hR⟩
      cases yc with
      | nil => rw [List.zip_nil_left] at hz; cases hz
      | cons a t NC =>
        cases tl with
        | nil => rw [List.zip_nil_right] at hz; cases hz
        | cons c u NF =>
          rw [List.zip_cons_cons] at hz
          injection hz with yf jX
          injection yf with aA af
          subst aA af
          rw [O1] at hR
          simp only [List.length_cons] at hlen
          obtain ⟨e, he, CD⟩ := Kp A.in1 ⟨ax, g, d, tk, os⟩ a t c u
          refine Wh (he prog w _ _ ?_)
          cases e with
          | true =>
            rw [if_pos (CD.mp rfl)] at hR
            wp_walk
            exact ⟨rfl, rfl, _, _, _, _, jX, NC, NF, by omega, hR⟩
          | false =>
            rw [if_neg (fun q => absurd (CD.mpr q) W5)] at hR
            have Nm := RA A.in1 ⟨ax, g, d, tk, os⟩ a t c u prog w
            wp_walk using Nm
            exact ⟨_, rfl, by simpa using hR⟩
    case fin =>
      rintro ⟨cf, dQ⟩ s' ⟨iH, rfl, ai, ws, pF, pD, hz, yc, tl, hlen, hR⟩
      simp only at iH
      subst iH
      have aL : lexLt pF pD = decide (items.size < ha.size) := by
        cases yc with
        | nil =>
          cases tl with
          | nil =>
            simp only [List.length_nil] at hlen
            rw [O4]
            exact (decide_eq_false (by omega)).symm
          | cons c u hw =>
            simp only [List.length_nil, List.length_cons] at hlen
            rw [O3]
            exact (decide_eq_true (by omega)).symm
        | cons a t aL =>
          cases tl with
          | nil =>
            simp only [List.length_nil, List.length_cons] at hlen
            rw [O2]
            exact (decide_eq_false (by omega)).symm
          | cons c u hw =>
            rw [List.zip_cons_cons] at hz
            cases hz
      rw [aL] at hR
      wp_walk
      exact ⟨_, rfl, by simpa [Builtin.Tuple.tupleCompareSizes] using hR⟩
    case h =>
      exact ⟨rfl, rfl, items.toList, ha.toList, ns, ms, rfl, hi, aG, by omega, h⟩
end
section
variable{prog:Program}{w:World}{A:Around}{E:Value->Shared->Prop}{s:Shared}
def Pd{l b:Addr}{items ha:Array Value}{ns ms:List Int}{Q:Value->Shared->Prop}(au:IsTup s.heap l items)(ae:IsTup s.heap b ha)(hi:IntsAre items.toList ns)(aG:IntsAre ha.toList ms)(b3:A.units<cLine)(h:Q (.bool (lexLt ns ms)) s):wpAny (model prog w) A (compareOp .Lt (.ref l) (.ref b)) Q E s:=by
 obtain⟨⟨cls,dd,data,bl⟩,ay,aj,n,hd⟩:=id au;obtain⟨⟨wg,jN,data2,jx⟩,jV,ie,fN,hd2⟩:=id ae;simp only at aj hd ie hd2;subst aj hd ie hd2;exact richCompare_meets_room (op:=.Lt) ⟨_,ay,rfl⟩ ⟨_,jV,rfl⟩ PySem.F.slot_tuple_lt PySem.F.entry_tuple_lt (PySem.F.args_tuple_lt_2 _ _) (Uu l b items ha n fN dd jN bl jx ns ms hi aG)
  ⟨ay,jV,show Value.bool (lexLt ns ms)≠Value.notImplemented/\Q (.bool (lexLt ns ms)) s from⟨(λx=>nomatch x),h⟩⟩ b3
def IS{t b:Addr}{ai ws:List Value}{Q:Value->Shared->Prop}(aW:IsTup s.heap t ai.toArray)(ae:IsTup s.heap b ws.toArray)(aL:ai≠[])(aa:ws=[]->Q (.ref t) s)(h2:ws≠[]->Q (.ref s.heap.objs.size) { s with heap:=s.heap.push { cls:=.type "tuple",data:=.seq (ai++ws).toArray } })(ft:ai.length+ws.length<=sizeLine):wpAny (model prog w) A (binaryOp .Add (.ref t) (.ref b)) Q E s:=by
 obtain⟨⟨cls,dd,data,bl⟩,ay,aj,n,hd⟩:=id aW;obtain⟨⟨wg,jN,data2,jx⟩,jV,ie,fN,hd2⟩:=id ae;simp only at aj hd ie hd2;subst aj hd ie hd2;have e:ai.toArray++ws.toArray=(ai++ws).toArray:=by simp
 by_cases hw:ws=[]
 .exact ZY ⟨_,ay,rfl⟩ ⟨_,jV,rfl⟩ ZQ Z8 YP YM (YF _ _)
   (tuple_addW1 t b ai.toArray ws.toArray n fN dd jN bl jx (by simpa using aL) (by simp[hw])) ⟨ay,jV,aa hw⟩
 .refine ZY ⟨_,ay,rfl⟩ ⟨_,jV,rfl⟩ ZQ Z8 YP YM (YF _ _)
   (tuple_addW2 t b ai.toArray ws.toArray n fN dd jN bl jx (by simpa using aL) (by simpa using hw) (by rw[Wv,Wv];exact ft)) ⟨ay,jV,?_⟩
  rw[e];exact h2 hw
noncomputable def bA(n d:Nat):Option Int->Nat
 |none=>d
 |some v=>if v<0 then(v+(n:Int)).toNat else min v.toNat n
def ui(n d:Nat)(hd:d<=n)(o:Option Int):bA n d o<=n:=by
 cases o with
 |none=>exact hd
 |some v =>
  show(if v<0 then(v+(n:Int)).toNat else min v.toNat n)<=n
  by_cases aL:v<0
  .rw[if_pos aL];omega
  .rw[if_neg aL];exact Nat.min_le_right _ _
def AQ(v:Int)(n d:Nat):(if v<0 then max (v+(n:Int)) 0 else min v (n:Int))=((bA n d (some v):Nat):Int):=by
 show(if v<0 then max (v+(n:Int)) 0 else min v (n:Int))=(((if v<0 then(v+(n:Int)).toNat else min v.toNat n):Nat):Int)
 by_cases aL:v<0
 .simp only[if_pos aL];omega
 .simp only[if_neg aL];omega
def Hu(lo hi:Option Int)(n:Nat):Builtin.Slice.sliceAdjust lo hi 1 (n:Int)=(((bA n 0 lo:Nat):Int),((bA n n hi:Nat):Int)):=by
 have aa:¬((1:Int)<0):=by omega
 unfold Builtin.Slice.sliceAdjust;simp only[aa,WM];refine Prod.ext ?_ ?_
 .cases lo with
  |none=>rfl
  |some v=>exact AQ v n 0
 .cases hi with
  |none=>rfl
  |some v=>exact AQ v n n
def QX(i j:Nat):Builtin.Slice.slicePlaces (i:Int) (j:Int) 1=j-i:=by
 unfold Builtin.Slice.slicePlaces;have aa:(1:Int)>0:=by omega
 simp only[aa,Xl,Int.ediv_one]
 split<;>omega
def zg{v:Value}{o:Option Int}{Q:Option Int->Shared->Prop}(p:IsPart v o)(h:Q o s):wpAny (model prog w) A (Builtin.Slice.slicePartIndex v) Q E s:=by
 cases p with
 |none=>exact Zs h
 |int i t=>exact slicePart_int h
def FE{bl:Addr}{eQ eR:Value}{lo hi:Option Int}{n:Nat}{Q:Int×Int×Nat->Shared->Prop}(ag:s.heap.IsSliceOf bl eQ eR .none)(bW:IsPart eQ lo)(pu:IsPart eR hi)(h:Q (((bA n 0 lo:Nat):Int),1,bA n n hi-bA n 0 lo) s):wpAny (model prog w) A (Builtin.Slice.sliceApplied (.ref bl) (pure (n:Int))) Q E s:=by
 obtain⟨os,ih,ji,hv⟩:=id ag;unfold Builtin.Slice.sliceApplied Builtin.Slice.sliceFields;refine Wh (Wh (WX ih hv (x:=eQ) rfl (Wh (WX ih hv (x:=eR) rfl (Wh (WX ih hv (x:=.none) rfl (wpAny_pure ?_)))))));refine Wh (Zs ?_);show wpAny _ _ (if ((1:Int)==0)=true then _ else _) _ _ s;rw[if_neg (by decide)]
 refine Wh (zg bW (Wh (zg pu (Wh (wpAny_pure ?_)))));show wpAny _ _ (match Builtin.Slice.sliceAdjust lo hi 1 (n:Int) with|(lo,hi)=>pure (lo,(1:Int),Builtin.Slice.slicePlaces lo hi 1)) _ _ s
 rw[Hu lo hi n];show wpAny _ _ (pure (((bA n 0 lo:Nat):Int),(1:Int),Builtin.Slice.slicePlaces ((bA n 0 lo:Nat):Int) ((bA n n hi:Nat):Int) 1)) _ _ s;rw[QX];exact wpAny_pure h
def QU(xs:Array Value)(i k:Nat):((List.range k).filterMap λ(m:Nat)=>xs[((i:Int)+(m:Int)*1).toNat]?).toArray=((xs.toList.drop i).take k).toArray:=by
 have e:(λ(m:Nat)=>xs[((i:Int)+(m:Int)*1).toNat]?)=λm=>xs[i+m]?:=by
  funext m;have:((i:Int)+(m:Int)*1).toNat=i+m:=by omega
  rw[this]
 rw[e];have:=pick_run xs i k;rw[List.filterMap_map]at this;have e2:((λx=>xs[x]?) ∘ λx=>i+x)=λm=>xs[i+m]?:=rfl
 rw[e2]at this;rw[this]
def LZ{t bl:Addr}{items:Array Value}{eQ eR:Value}{lo hi:Option Int}{Q:Value->Shared->Prop}(aW:IsTup s.heap t items)(ag:s.heap.IsSliceOf bl eQ eR .none)(bW:IsPart eQ lo)(pu:IsPart eR hi)(hw:¬(bA items.size 0 lo=0/\bA items.size items.size hi=items.size))(h:Q (.ref s.heap.objs.size) { s with heap:=s.heap.push { cls:=.type "tuple",data:=.seq ((items.toList.drop (bA items.size 0 lo)).take (bA items.size items.size hi-bA items.size 0 lo)).toArray } })(ft:items.size<=sizeLine):wpAny (model prog w) A (getItem (.ref t) (.ref bl)) Q E s:=by
 have kY:sizeOk (.seq ((items.toList.drop (bA items.size 0 lo)).take (bA items.size items.size hi-bA items.size 0 lo)).toArray):=by
  show((items.toList.drop (bA items.size 0 lo)).take (bA items.size items.size hi-bA items.size 0 lo)).toArray.size<=sizeLine;rw[Wv,W2,W3,Array.length_toList];omega
 have aG:bA items.size items.size hi<=items.size:=ui _ _ (Wm _) hi;obtain⟨os,ih,ji,hv⟩:=id ag;have qQ:s.TypeIs (.ref bl) "slice":=⟨os,ih,ji⟩;unfold getItem
 try with_reducible refine XA ?_
 first|refine Wh (wpAny_pure ?_)|skip
 refine Wh (ZI aW.typeIs (by decide) ?_)
 refine Wh (W4 (name:=Str.ofString "__getitem__") aW.typeIs WQ
  (Xb WQ aW.typeIs Zj ?_ (Zt _ _)))
 show wpAny _ _ (Builtin.Tuple.tupleItemsOf (.ref t)>>=_) _ _ s;refine Wh (tupleItemsOf_ aW ?_);refine Wh (X9 qQ ?_);rw[if_pos (by decide)]
 refine Wh (FE ag bW pu ?_);have jn:¬((((bA items.size 0 lo:Nat):Int)==0&&(1:Int)==1&&(bA items.size items.size hi-bA items.size 0 lo)==items.size)=true):=by
  intro q;rw[Wi,Wi]at q;have aD:((bA items.size 0 lo:Nat):Int)=0:=eq_of_beq q.1.1;have aO:bA items.size items.size hi-bA items.size 0 lo=items.size:=eq_of_beq q.2;exact hw ⟨by omega,by omega⟩
 show wpAny _ _ (if (((bA items.size 0 lo:Nat):Int)==0&&(1:Int)==1&&(bA items.size items.size hi-bA items.size 0 lo)==items.size)=true then _ else _) _ _ s;rw[if_neg jn,QU]
 first
  |exact Wh (m:=Builtin.Tuple.tupleExact _) (WG (wpAny_pure ⟨_,rfl,wpAny_pure h⟩) kY)
  |exact Wh (m:=Builtin.Tuple.tupleExact _) (WG (Wh (wpAny_pure (wpAny_pure ⟨_,rfl,wpAny_pure h⟩))) kY)
  |exact Wh (Wh (m:=Builtin.Tuple.tupleExact _) (WG (wpAny_pure (wpAny_pure ⟨_,rfl,wpAny_pure h⟩)) kY))
  |exact Wh (Wh (m:=Builtin.Tuple.tupleExact _) (WG (wpAny_pure ⟨_,rfl,wpAny_pure h⟩) kY))
end
end cP
namespace bx
open PySem PySem.Spec PyProof.Rows
noncomputable abbrev kz:=St->az->(Option Int->az->Prop)->Prop
noncomputable def hH(X:aR)(e:Option Expr)(t:kz):Prop :=
 ∀(pins:List (Addr×Obj))(s:Shared)(σ:St)(H:az)(Q:Option Int->az->Prop),Inv X pins σ H s->t σ H Q ->
  wpAny (model X.prog X.w) X.A (evalPart e X.env) (λu s'=>∃o ao,Inv X pins σ ao s'/\IsPart u o/\Q o ao) X.b8 s
noncomputable def TL:kz:=λ_ H Q=>Q none H
noncomputable def TQ(t:TE):kz:=λσ H Q=>t σ H λx H1=>∃i,x=.int i/\Q (some i) H1
def intsAre_of{ns:List Int}:∀{us:List Value},Vals (ns.map V.int) us->IntsAre us ns:=by
 induction ns with
 |nil=>intro us r;rw[List.map_nil]at r;cases r;exact .nil
 |cons n ns aN =>
  intro us r;rw[WA]at r;cases r with
  |cons aE aX =>
   obtain⟨t,e⟩:=aE;subst e;exact .cons n t (aN aX)
section
variable{X:aR}{e:Expr}{ey:TE}{lo hi:Option Expr}{hF uC:kz}{pos p2:Pos}
def yW:hH X none TL:=by
 intro pins s σ H Q I h;rw[evalPart_none];exact wpAny_pure ⟨none,H,I,.none,h⟩
def EC(h:aQ X e ey):hH X (some e) (TQ ey):=by
 intro pins s σ H Q I hw;rw[evalPart_some];refine bM (h pins s σ H _ I hw) λu s1 ⟨x,H1,a9,aE,aD⟩=>?_
 obtain⟨i,rfl,q⟩:=aD;obtain⟨t,rfl⟩:=aE;exact⟨some i,H1,a9,.int i t,q⟩
noncomputable def ql(X:aR)(r:V->Option Int->Option Int->az->cG->Prop):Prop :=
 ∀(pins:List (Addr×Obj))(s:Shared)(σ:St)(H:az)(x:V)(v eQ eR:Value)(lo hi:Option Int)(bl:Addr)(Q:cG),Inv X pins σ H s->RelV x v->s.heap.IsSliceOf bl eQ eR .none->IsPart eQ lo->IsPart eR hi->r x lo hi H Q ->
  ∃T id,typeLookup (.type T) "__getitem__"=pure (some (.builtin id))/\s.TypeIs v T/\wpAny (model X.prog X.w) X.A (getItem v (.ref bl)) (dT X pins σ Q) X.b8 s
noncomputable def TU(r:V->Option Int->Option Int->az->cG->Prop)(ey:TE)(hF uC:kz):TE:=λσ H Q=>ey σ H λx H1=>hF σ H1 λl aV=>uC σ aV λu bw=>r x l u bw Q
def QF{r:V->Option Int->Option Int->az->cG->Prop}(aZ:ql X r)(he:aQ X e ey)(au:hH X lo hF)(b3:hH X hi uC):aQ X (.Subscript e (.Slice lo hi none p2) pos) (TU r ey hF uC):=by
 intro pins s σ H Q I h;refine Subscript_ (bM (he pins s σ H _ I h) λv s1 ⟨x,H1,a9,aE,aD⟩=>?_)
 refine wpAny_Slice (bM (au pins s1 σ H1 _ a9 aD) λeQ s2 ⟨l,aV,cy,bW,aO⟩=>bM (b3 pins s2 σ aV _ cy aO) λeR s3 ⟨u,bw,eG,pu,bE⟩=>?_)
 rw[evalPart_none];refine wpAny_pure ?_;have fA:Inv X pins σ bw { s3 with heap:=s3.heap.push { cls:=.type "slice",data:=.fields #[eQ,eR,.none] } }:=eG.kept (t':=s3.toks) λb bB q=>Wj _ q
 obtain⟨T,id,cR,aW,aT⟩:=aZ pins { s3 with heap:=s3.heap.push { cls:=.type "slice",data:=.fields #[eQ,eR,.none] } } σ bw x v eQ eR l u s3.heap.objs.size Q fA aE (Heap.IsSliceOf.new ..) bW pu bE;show wpAny (model X.prog X.w) X.A (subscriptTail e (.Slice lo hi none p2) v (.ref s3.heap.objs.size)) (dT X pins σ Q) X.b8 { s3 with heap:=s3.heap.push { cls:=.type "slice",data:=.fields #[eQ,eR,.none] } };exact tail_any (ops:=[.ref s3.heap.objs.size,v]) aW cR aT (by with_unfolding_all rfl)
noncomputable def kE(xs:List V)(lo hi:Option Int):List V:=(xs.drop (cP.bA xs.length 0 lo)).take (cP.bA xs.length xs.length hi-cP.bA xs.length 0 lo)
def A1(xs:List V)(lo hi:Option Int):(kE xs lo hi).length<=xs.length:=by
 unfold kE;rw[W2,W3];omega
noncomputable def Rw(K:W.Frag):V->Option Int->Option Int->az->cG->Prop:=λx lo hi H Q=>∃a xs,x=.ref a/\c4 K H a xs /\
 ¬(cP.bA xs.length 0 lo=0/\cP.bA xs.length xs.length hi=xs.length)/\∀p,H p=none->Q (.ref p) (upd H p (.tup (kE xs lo hi)))
def S1:ql X (Rw X.K):=by
 intro pins s σ H x v eQ eR lo hi bl Q I bb ag bW pu h;obtain⟨a,xs,rfl,af,hw,q⟩:=h;cases bb;obtain⟨its,r,aW,hz⟩:=I.tuple af;have hlen:its.toArray.size=xs.length:=by rw[Wv];exact r.length.symm
 refine⟨"tuple",_,WQ.lookup,aW.typeIs,?_⟩;refine cP.LZ aW ag bW pu (by rw[hlen];exact hw) ?_ (by rw[hlen];exact hz)
 rw[hlen];refine⟨.ref s.heap.objs.size,_,I.laid (t':=s.toks) (o:=.tup (kE xs lo hi)) (λb bB q=>Wj _ q) (Wm _) ?_,rfl,q _ (I.bU.fresh (Wm _))⟩
 exact⟨Xt (A1 xs lo hi) hz,_,(r.drop (cP.bA xs.length 0 lo)).take (cP.bA xs.length xs.length hi-cP.bA xs.length 0 lo),IsTup.new _ _⟩
noncomputable def Rt(K:W.Frag):fD:=λx y H Q=>∃a b ns ms,x=.ref a/\y=.ref b/\c4 K H a (ns.map V.int)/\c4 K H b (ms.map V.int)/\Q (.av (cP.lexLt ns ms)) H
def Qh(b3:X.A.units<cLine):c1 X (compareOp .Lt) (Rt X.K):=by
 intro pins s σ H x y v u Q I bb cg h;obtain⟨a,b,ns,ms,rfl,rfl,aC,ae,q⟩:=h;cases bb;cases cg;obtain⟨its,aE,p1,_⟩:=I.tuple aC;obtain⟨gF,aX,p2,_⟩:=I.tuple ae;have dI:IntsAre its.toArray.toList ns:=intsAre_of aE;have es:IntsAre gF.toArray.toList ms:=intsAre_of aX;exact cP.Pd p1 p2 dI es b3 ⟨.av (cP.lexLt ns ms),H,I,rfl,q⟩
end
end bx
namespace bx
open PySem PySem.Spec PyProof.Rows
noncomputable def hV(n:Nat)(i:Int):Option Nat:=if 0<=i then(if i<n then some i.toNat else none) else if -(n:Int)<=i then some (i+n).toNat else none
noncomputable def lU{α:Type}(xs:List α)(i:Int):Option α:=(hV xs.length i).bind λj=>xs[j]?
def Oh{n:Nat}{i:Int}{j:Nat}(h:hV n i=some j):seqIndex? i n=some j/\j<n/\-(n:Int)<=i/\i<n:=by
 unfold hV at h
 by_cases h0:0<=i
 .rw[if_pos h0]at h
  by_cases aa:i<n
  .rw[if_pos aa]at h;have e:i.toNat=j:=WU h;exact⟨by rw[seqIndex_of h0 aa,e],by omega,by omega,aa⟩
  .rw[if_neg aa]at h;cases h
 .rw[if_neg h0]at h
  by_cases aa:-(n:Int)<=i
  .rw[if_pos aa]at h;have e:(i+n).toNat=j:=WU h;exact⟨by rw[seqIndex_neg (by omega) aa,e],by omega,aa,by omega⟩
  .rw[if_neg aa]at h;cases h
def vt{α:Type}{xs:List α}{i:Int}{v:α}(h:lU xs i=some v):∃j,seqIndex? i xs.length=some j/\xs[j]?=some v/\j<xs.length/\-(xs.length:Int)<=i/\i<xs.length:=by
 unfold lU at h;cases e:hV xs.length i with
 |none=>rw[e]at h;cases h
 |some j =>
  rw[e]at h;obtain⟨aa,h2,h3,h4⟩:=Oh e;exact⟨j,aa,h,h2,h3,h4⟩
noncomputable def vk(b:Expr):Prop:=∀o i,subscripted b false o i=operate [o,i] (getItem o i)
noncomputable def ks(X:aR)(r:fD):Prop :=
 ∀(value slice:Expr)(pins:List (Addr×Obj))(s:Shared)(σ:St)(H:az)(x y:V)(v u:Value)(Q:cG),Inv X pins σ H s->RelV x v->RelV y u->r x y H Q ->
  subscripted slice false v u=operate [v,u] (getItem v u)->wpAny (model X.prog X.w) X.A (subscriptTail value slice v u) (dT X pins σ Q) X.b8 s
noncomputable def zY(X:aR)(id:String)(r:V->List V->az->cG->Prop):Prop :=
 ∀(pins:List (Addr×Obj))(s:Shared)(σ:St)(H:az)(x:V)(xs:List V)(v:Value)(us:List Value)(Q:cG),Inv X pins σ H s->RelV x v->Vals xs us->r x xs H Q ->
  wpAny (model X.prog X.w) X.A (call (.builtin id) (v::us)) (dT X pins σ Q) X.b8 s
section
variable{X:aR}{a b:Expr}{b0 cq:TE}{pos:Pos}
def ks.or{r bC:fD}(h:ks X r)(h':ks X bC):ks X (λx y H Q=>r x y H Q\/bC x y H Q):=by
 intro value slice pins s σ H x y v u Q I bb cg q ag;rcases q with q|q
 .exact h value slice pins s σ H x y v u Q I bb cg q ag
 .exact h' value slice pins s σ H x y v u Q I bb cg q ag
def QB{r:fD}(aZ:ks X r)(aC:aQ X a b0)(ae:aQ X b cq)(ag:vk b):aQ X (.Subscript a b pos) (rR r b0 cq):=by
 intro pins s σ H Q I h;exact Subscript_ (vU aC ae I h λv u s2 x y aV cy bb cg q=>aZ a b pins s2 σ aV x y v u Q cy bb cg q (ag _ _))
noncomputable def EJ(K:W.Frag):fD:=λx y H Q=>∃p xs i v,x=.ref p/\y=.int i/\dF K H p xs/\lU xs i=some v/\Q v H
noncomputable def EL(K:W.Frag):fD:=λx y H Q=>∃p xs i v,x=.ref p/\y=.int i/\c4 K H p xs/\lU xs i=some v/\Q v H
noncomputable def EK:fD:=λx y H Q=>∃z i c,x=.str z/\y=.int i/\z.length<=sizeLine/\lU z.cps.toList i=some c/\Q (.str ⟨#[c]⟩) H
def Oi:ks X (EJ X.K):=by
 intro value slice pins s σ H x y v u Q I bb cg h ag;obtain⟨p,xs,i,z,rfl,rfl,aF,he,q⟩:=h;cases bb;obtain⟨t,rfl⟩:=cg;obtain⟨its,r,bW,hz⟩:=I.list aF;obtain⟨j,aa,h2,h3,h4,h5⟩:=vt he;obtain⟨w,sH,lx⟩:=r.get h2;have au:=r.length;have aw:=rl;have fin:dT X pins σ Q w s:=⟨z,H,I,lx,q⟩
 by_cases h0:0<=i
 .have aG:i.toNat=j:=by
   rw[seqIndex_of h0 h5]at aa;exact WU aa
  exact item_listR bW.isList h0 (by omega) (by rw[aG];simpa using sH) fin ag
 .have aG:(i+(its.toArray.size:Int)).toNat=j:=by
   rw[seqIndex_neg (by omega) h4]at aa
   rw[Wv,<- au];exact WU aa
  exact subscriptTail_builtinR (x:=w) bW.isList.typeIs slot_list_getitem.lookup
   (wpAny_getItem_list_neg (Q:=λr s'=>r=w/\dT X pins σ Q r s') bW.isList (by omega) (by rw[Wv]<;>omega) (by omega) (by rw[aG];simpa using sH) ⟨rfl,fin⟩) ag
def Oo:ks X (EL X.K):=by
 intro value slice pins s σ H x y v u Q I bb cg h ag;obtain⟨p,xs,i,z,rfl,rfl,aF,he,q⟩:=h;cases bb;obtain⟨t,rfl⟩:=cg;obtain⟨its,r,bW,hz⟩:=I.tuple aF;obtain⟨j,aa,h2,h3,h4,h5⟩:=vt he;obtain⟨w,sH,lx⟩:=r.get h2;have au:=r.length;have aw:=rl;have fin:dT X pins σ Q w s:=⟨z,H,I,lx,q⟩;exact subscriptTail_builtinR (x:=w) bW.typeIs slot_tuple_getitem.lookup
  (getItem_tuple (j:=j) (Q:=λr s'=>r=w/\dT X pins σ Q r s') bW (by omega) (by omega) (by rw[Wv,<- au];exact aa) (by simpa using sH) ⟨rfl,fin⟩) ag
def Om:ks X EK:=by
 intro value slice pins s σ H x y v u Q I bb cg h ag;obtain⟨z,i,c,rfl,rfl,hz,he,q⟩:=h;obtain⟨t,rfl⟩:=bb;obtain⟨t',rfl⟩:=cg;obtain⟨j,aa,h2,h3,h4,h5⟩:=vt he;have au:z.cps.toList.length=z.length:=by simp[Str.length]
 rw[au]at aa h4 h5;have aw:=rl;exact tail_any (typeIs_str s z t) slot_str_getitem.lookup (getItem_str (c:=c) (by
  have e1:decide (i < -(2 ^ 63:Int))=false:=decide_eq_false (by omega)
  have e2:decide (i>=2 ^ 63)=false:=decide_eq_false (by omega)
  rw[e1,e2,Bool.or_false]) (by rw[aa];simpa using h2) ⟨.str ⟨#[c]⟩,H,I.tok _,⟨_,rfl⟩,q⟩) ag
noncomputable def Rr(K:W.Frag):fD:=λx y H Q=>EJ K x y H Q\/EL K x y H Q\/EK x y H Q
def Ol:ks X (Rr X.K):=Oi.or (Oo.or Om)
def S4(lo hi:Option Int)(n:Nat):(sliceBounds lo hi none n).1=((cP.bA n 0 lo:Nat):Int)/\(sliceBounds lo hi none n).2.1=((cP.bA n n hi:Nat):Int)/\(sliceBounds lo hi none n).2.2=1:=by
 refine⟨?_,?_,rfl⟩
 .cases lo with
  |none=>simp[sliceBounds,cP.bA]
  |some i =>
   simp only[sliceBounds,cP.bA,Option.getD_none,show(1:Int)>0 by decide,Xl]
   by_cases h:i<0
   .simp only[h,Xl]<;>omega
   .simp only[h,WM]<;>omega
 .cases hi with
  |none=>simp[sliceBounds,cP.bA]
  |some i =>
   simp only[sliceBounds,cP.bA,Option.getD_none,show(1:Int)>0 by decide,Xl]
   by_cases h:i<0
   .simp only[h,Xl]<;>omega
   .simp only[h,WM]<;>omega
def S3(its:List Value)(lo hi:Option Int):slicePick its.toArray lo hi none=((its.drop (cP.bA its.length 0 lo)).take (cP.bA its.length its.length hi-cP.bA its.length 0 lo)).toArray:=by
 obtain⟨aa,h2,h3⟩:=S4 lo hi its.toArray.size;unfold slicePick;rw[aa,h2,h3];simp only[sliceRange_one,pick_run,Wv]<;>rfl
noncomputable def Rv(K:W.Frag):V->Option Int->Option Int->az->cG->Prop:=λx lo hi H Q=>∃a xs,x=.ref a/\dF K H a xs/\∀p,H p=none->Q (.ref p) (upd H p (.lst (kE xs lo hi)))
def SY:ql X (Rv X.K):=by
 intro pins s σ H x v eQ eR lo hi bl Q I bb ag bW pu h;obtain⟨a,xs,rfl,af,q⟩:=h;cases bb;obtain⟨its,r,aW,hz⟩:=I.list af;have hlen:=r.length;refine⟨"list",_,slot_list_getitem.lookup,aW.isList.typeIs,?_⟩;refine wpAny_getItem_list_slice aW.isList ag bW pu .none (by simp) ?_ (by rw[Wv]<;>omega)
 rw[S3,<- hlen];refine⟨.ref s.heap.objs.size,_,I.laid (t':=s.toks) (o:=.lst (kE xs lo hi)) (λb bB q=>Wj _ q) (Wm _) ?_,rfl,q _ (I.bU.fresh (Wm _))⟩
 exact⟨Xt (A1 xs lo hi) hz,_,0,(r.drop (cP.bA xs.length 0 lo)).take (cP.bA xs.length xs.length hi-cP.bA xs.length 0 lo),Wq _ rfl⟩
def AA:fS X (.builtin "len") (λxs H Q=>∃p ys,xs=[.ref p]/\(dF X.K H p ys\/c4 X.K H p ys)/\Q (.int ys.length) H):=by
 intro pins s σ H xs us Q I r h;obtain⟨p,ys,rfl,aF,q⟩:=h;obtain⟨u,rfl,bb⟩:=vals1 r;cases bb;have aw:=rl;rcases aF with aF|aF
 .obtain⟨its,bC,bW,hz⟩:=I.list aF;have hlen:=bC.length;exact Calls.call_len_list bW.isList (by simp only[Wv]<;>omega) ⟨.int ys.length,H,I.tok _,⟨s.toks+1,by rw[Wv,hlen]⟩,q⟩
 .obtain⟨its,bC,bW,hz⟩:=I.tuple aF;have hlen:=bC.length;exact len_tuple bW (by simp only[Wv]<;>omega) ⟨.int ys.length,H,I.tok _,⟨s.toks+1,by rw[Wv,hlen]⟩,q⟩
def IP:fS X (.builtin "len") (λxs H Q=>∃z,xs=[.str z]/\z.length<=sizeLine/\Q (.int z.length) H):=by
 intro pins s σ H xs us Q I r h;obtain⟨z,rfl,hz,q⟩:=h;obtain⟨u,rfl,t,rfl⟩:=vals1 r;have aw:=rl;exact len_str (by omega) ⟨.int z.length,H,I.tok _,⟨_,rfl⟩,q⟩
def AB:fS X (.type "list") (λxs H Q=>∃p ys,xs=[.ref p]/\(dF X.K H p ys\/c4 X.K H p ys)/\∀l,H l=none->Q (.ref l) (upd H l (.lst ys))):=by
 intro pins s σ H xs us Q I r h;obtain⟨p,ys,rfl,aF,q⟩:=h;obtain⟨u,rfl,bb⟩:=vals1 r;cases bb;have fin:∀(its:List Value),Vals ys its->ys.length<=sizeLine->∀(h':Heap)(cQ:Nat),(∀b bO,s.heap.get? b=some bO->h'.get? b=some bO) ->
   h'.get? s.heap.objs.size=some { cls:=.type "list",dict:=none,data:=.seq its.toArray cQ,slots:=#[] }->dT X pins σ Q (.ref s.heap.objs.size) { s with heap:=h' }:=λits bC hz h' cQ f7 e =>
  ⟨.ref s.heap.objs.size,_,I.laid (t':=s.toks) f7 (Wm _) (show fi X.prog X.w _ h' _ (.lst ys) from⟨hz,its,cQ,bC,e⟩),rfl,q _ (I.bU.fresh (Wm _))⟩
 rcases aF with aF|aF
 .obtain⟨its,bC,bW,hz⟩:=I.list aF;have hlen:=bC.length;obtain⟨o,ay,aj,n,hd⟩:=bW.isList;exact call_list_seq p (.inl rfl) ay aj hd (λh' cQ f7 e=>fin its bC hz h' cQ f7 e) (by simp only[Wv]<;>omega)
 .obtain⟨its,bC,bW,hz⟩:=I.tuple aF;have hlen:=bC.length;obtain⟨o,ay,aj,n,hd⟩:=bW;exact call_list_seq p (.inr rfl) ay aj hd (λh' cQ f7 e=>fin its bC hz h' cQ f7 e) (by simp only[Wv]<;>omega)
def AE:fS X (.type "tuple") (λxs H Q=>∃p ys,xs=[.ref p]/\((dF X.K H p ys/\∀l,H l=none->Q (.ref l) (upd H l (.tup ys)))\/(c4 X.K H p ys/\Q (.ref p) H))):=by
 intro pins s σ H xs us Q I r h;obtain⟨p,ys,rfl,h⟩:=h;obtain⟨u,rfl,bb⟩:=vals1 r;cases bb;rcases h with⟨aF,q⟩|⟨aF,q⟩
 .obtain⟨its,bC,bW,hz⟩:=I.list aF;have hlen:=bC.length;refine call_tuple_list bW.isList (λh' f7=>?_) (by simp only[Wv]<;>omega)
  have a9:Inv X pins σ H { s with heap:=h' }:=I.kept (t':=s.toks) f7;have cy:Inv X pins σ (upd H h'.objs.size (.tup ys)) { s with heap:=h'.push { cls:=.type "tuple",data:=.seq its.toArray } } :=
   a9.laid (t':=s.toks) (λb o e=>Wj _ e) (Wm _) (show fi X.prog X.w _ _ _ (.tup ys) from⟨hz,its,bC,IsTup.new _ _⟩)
  exact⟨.ref h'.objs.size,_,cy,rfl,q _ (a9.bU.fresh (Wm _))⟩
 .obtain⟨its,bC,bW,hz⟩:=I.tuple aF;exact call_tuple_same bW ⟨.ref p,H,I,rfl,q⟩
noncomputable def Gn(K:W.Frag)(T:String)(x:V)(H:az):Prop:=match x with
 |.str _=>T="str"
 |.int _=>T="int"
 |.ref p=>(T="list"/\∃xs,dF K H p xs)\/(T="tuple"/\∃o,K.lookup p=some o/\o.cls=.type "tuple"/\o.dict=none) \/
   (T="dict"/\((∃et,H p=some (.jL et))\/∃et,H p=some (.jM et)))\/(T="set"/\∃S n,H p=some (.set S n))
 |_=>False
def UE{pins:List (Addr×Obj)}{σ:St}{H:az}{s:Shared}{T:String}{x:V}{v:Value}(I:Inv X pins σ H s)(r:RelV x v)(ty:Gn X.K T x H):
  s.TypeIs v T/\∀a,v=.ref a->∃bB,s.heap.get? a=some bB/\bB.dict=none:=by
 cases x with
 |str z =>
  obtain⟨t,rfl⟩:=r;cases (show T="str" from ty);exact⟨typeIs_str s z t,λ_ e=>nomatch e⟩
 |int i =>
  obtain⟨t,rfl⟩:=r;cases (show T="int" from ty);exact⟨typeIs_int s i t,λ_ e=>nomatch e⟩
 |ref p =>
  cases r;rcases ty with⟨rfl,xs,aF⟩|⟨rfl,o,aq,aj,hd⟩|⟨rfl,aq⟩|⟨rfl,S,n,aq⟩
  .obtain⟨its,_,bW,_⟩:=I.list aF;refine⟨bW.isList.typeIs,λa e=>?_⟩
   cases e;obtain⟨o,n,e,c,hd,_⟩:=bW;exact⟨o,e,hd⟩
  .refine⟨⟨o,I.fM p o aq,aj⟩,λa e=>?_⟩
   cases e;exact⟨o,I.fM _ o aq,hd⟩
  .have z:∃o,s.heap.get? p=some o/\o.ExactDict:=by
    rcases aq with⟨et,aq⟩|⟨et,aq⟩
    .obtain⟨_,_,_,_,o,_,_,e,ex,_⟩:=I.bU p _ aq;exact⟨o,e,ex⟩
    .obtain⟨_,_,_,_,o,_,_,e,ex,_⟩:=I.bU p _ aq;exact⟨o,e,ex⟩
   obtain⟨o,e,ex⟩:=z;refine⟨⟨o,e,ex.1⟩,λa e2=>?_⟩
   cases e2;exact⟨o,e,ex.2.1⟩
  .obtain⟨o,_,_,_,e,ex,_⟩:=I.bU p _ aq;refine⟨⟨o,e,ex.1⟩,λa e2=>?_⟩
   cases e2;exact⟨o,e,ex.2.1⟩
 |_=>exact False.elim ty
noncomputable def Tx(K:W.Frag)(T:String)(r:V->List V->az->cG->Prop)(to:TE)(t:e9):TE:=λσ H Q=>to σ H λx H1=>Gn K T x H1/\t σ H1 λxs aV=>r x xs aV Q
variable{o e:Expr}{ah:List Expr}{to:TE}{t:e9}{name:Str}{apos jc:Pos}{T id:String}{r:V->List V->az->cG->Prop}
def yO(Eh:PlainAttrs T)(slot:Slot T name id)(k4:typeOf (.builtin id)=pure (.type "method_descriptor"))(hm:zY X id r)(ay:aQ X o to)(aC:eT X (e::ah) t)(xA:attributeBase o name X.env (eval o X.env)=eval o X.env:=by rfl)(MA:((backTo jc (starEach (e::ah) X.env)).all (λx=>!x.1)&&(backToKw jc (keywordEach [] X.env)).all (λx=>x.1.isSome)
   && decide ((e::ah).length+([]:List Keyword).length+(if ([]:List Keyword).isEmpty then 0 else 1)<30))=true:=by rfl)(nI:(apos.endLine==jc.line)=true:=by rfl)(ag:starEach (e::ah) X.env=(false,eval e X.env)::starEach ah X.env:=by rfl)(Nh:(backTo jc (starEach ah X.env)).any (·.1)=false:=by rfl):
  aQ X (.Call (.Attribute o name apos) (e::ah) [] jc) (Tx X.K T r to t):=by
 intro pins s σ H Q I h;refine wpAny_Call_method_late xA MA nI rfl (bM (ay pins s σ H _ I h) λv s1 ⟨x,H1,a9,aE,ty,aD⟩=>?_)
 obtain⟨aa,h2⟩:=UE a9 aE ty;refine⟨T,id,Eh,slot,k4,aa,h2,?_⟩;have kR:=aC jc pins s1 σ H1 _ a9 aD;rw[ag]at kR ⊢;refine Calls.callWith_builtin (by show(false||(backTo jc (starEach ah X.env)).any (·.1))=false;rw[Nh]<;>rfl) (Calls.evalArgs_plain ?_)
 exact bM kR λus s2 ⟨ai,aV,cy,aX,aO⟩=>hm pins s2 σ aV x ai v us Q cy aE aX aO
end
end bx
namespace bx
open PySem PySem.Spec PyProof.Rows
noncomputable def zX(X:aR)(id:String)(r:V->List V->az->cG->Prop):Prop :=
 ∀(pins:List (Addr×Obj))(s:Shared)(σ:St)(H:az)(x:V)(xs:List V)(v:Value)(us:List Value)(Q:cG),Inv X pins σ H s->RelV x v->Vals xs us->r x xs H Q ->
  wpAny (model X.prog X.w) X.A (call (.builtin id) (v::us)) (dT X pins σ Q) X.b8 s
def Vals.one:∀{x:V}{us:List Value},Vals [x] us->∃u,us=[u]/\RelV x u
 |_,_,.cons r .nil=>⟨_,rfl,r⟩
theorem Vals.reverse{xs:List V}{us:List Value}(h:Vals xs us):Vals xs.reverse us.reverse:=by
 induction h with
 |nil=>exact .nil
 |cons r t aN=>rw[YQ,YQ];exact Vals.append aN (.cons r .nil)
theorem Vals.rep{xs:List V}{us:List Value}(h:Vals xs us):∀k:Nat,Vals (List.replicate k xs).flatten (List.replicate k us).flatten
 |0=>.nil
 |k+1=>by
  rw[XK,XK,List.flatten_cons,List.flatten_cons];exact Vals.append h (Vals.rep h k)
theorem foldl_rep(its:List Value):∀(k:Nat)(acc:List Value),
  List.foldl (λaM bt=>aM++bt) acc.toArray (List.replicate k its.toArray)=(acc++(List.replicate k its).flatten).toArray
 |0,acc=>by simp
 |k+1,acc=>by
  have e:acc.toArray++its.toArray=(acc++its).toArray:=by simp
  have e2:(acc++its)++(List.replicate k its).flatten=acc++(List.replicate (k+1) its).flatten:=by
   rw[XK,List.flatten_cons,Wx]
  rw[<- e2,<- foldl_rep its k (acc++its),<- e,XK,List.foldl_cons]
section
variable{X:aR}{pins:List (Addr×Obj)}{σ:St}{H:az}{s:Shared}{l b:Addr}{xs ys zs:List V}
def Inv.DA{its its':List Value}{n:Nat}{f:Array Value->Array Value}{t':Nat}(I:Inv X pins σ H s)(er:H l=some (.lst xs))(e:s.heap.get? l=some { cls:=.type "list",data:=.seq its.toArray n })(hf:f its.toArray=its'.toArray)(aL:Vals ys its')(hz:ys.length<=sizeLine):
  Inv X pins σ (upd H l (.lst ys)) { s with heap:=s.heap.update l (Obj.mapSeq f),toks:=t' }:=by
 have q:=PySem.IsL.update e f;rw[hf]at q;refine I.write (x:=l) (e:=l) (by rw[er];exact trivial) (.inl rfl) (λi8 u ae b3=>(WK s.heap (Obj.mapSeq f) (XB ae)).trans b3) ⟨_,q⟩ ?_
 exact⟨hz,its',_,aL,q⟩
def Inv.Dz{its:List Value}{t':Nat}(I:Inv X pins σ H s)(aL:Vals ys its)(hz:ys.length<=sizeLine):
  Inv X pins σ (upd H s.heap.objs.size (.lst ys)) { s with heap:=s.heap.push { cls:=.type "list",data:=.seq its.toArray },toks:=t' } :=
 I.laid (λ_ _ q=>Wj _ q) (Wm _) ⟨hz,its,0,aL,Wq _ rfl⟩
theorem Inv.fresh(I:Inv X pins σ H s):H s.heap.objs.size=none:=I.bU.fresh (Wm _)
def Inv.DB(I:Inv X pins σ H s)(er:H l=some (.lst xs)):xs.length<=sizeLine/\∃(its:List Value)(n:Nat),Vals xs its/\xs.length=its.length/\s.heap.get? l=some { cls:=.type "list",data:=.seq its.toArray n }:=by
 obtain⟨z,its,n,r,e⟩:=I.bU l _ er;exact⟨z,its,n,r,r.length,e⟩
def PO{n:Nat}(h:n<=sizeLine):Builtin.List.listTooLong n=false:=by
 unfold Builtin.List.listTooLong;exact decide_eq_false (by omega)
end
section
variable{X:aR}
noncomputable def Rp:V->List V->az->cG->Prop:=λx ai H Q=>∃l xs y,x=.ref l/\ai=[y]/\H l=some (.lst xs)/\xs.length<sizeLine/\Q .cM (upd H l (.lst (xs++[y])))
def DP:zX X "list.append" Rp:=by
 intro pins s σ H x ai v us Q I bb bL h;obtain⟨l,xs,y,rfl,rfl,er,hz,q⟩:=h;cases bb;obtain⟨u,rfl,c5⟩:=bL.one;obtain⟨z,its,n,r,au,e⟩:=I.DB er;refine call_meets F.slot_list_append ⟨_,e,rfl⟩ F.entry_list_append (F.args_list_append_2 _ _) (PySem.list_append l its.toArray n u (by rw[Wv];omega)) ⟨e,?_⟩
 refine⟨.cM,_,I.DA (its':=its++[u]) er e (by simp) (r.append (.cons c5 .nil)) ?_,rfl,q⟩
 rw[Wu,List.length_singleton];omega
def len_rep{α:Type}(xs:List α)(k:Nat):(List.replicate k xs).flatten.length=k*xs.length:=by
 induction k with
 |zero=>simp
 |succ k aN=>rw[XK,List.flatten_cons,Wu,aN,Zo,Nat.add_comm]
end
section
variable{prog:Program}{w:World}{A:Around}{E:Value->Shared->Prop}{s:Shared}
end
section
variable{X:aR}
end
end bx
namespace zT
open PySem PySem.W PySem.Calls PyProof.Rows
def N0{P:Params}{h:Heap}:∀(ns:List Int)(ai:List Value),WellAll P h ai (ns.map WData.int)->IntsAre ai ns:=by
 intro ns
 induction ns with
 |nil =>
  intro ai w;rw[List.map_nil]at w;cases w;exact .nil
 |cons n ns aN =>
  intro ai w;rw[WA]at w;cases w with
  |cons a b =>
   cases a;exact .cons _ _ (aN _ b)
def SD{l:OpenLaw}{n:Nat}(aw:l.most=some n){P:Params}{h:Heap}{args:List WData}{vals:List Value}(th:l.row.toRowW.claim.pre args=true)(q4:WellAll P h vals args):
  ∃a ai ns,vals=[Value.ref a]/\args=[WData.list (ns.map WData.int)]/\h.get? a=some { cls:=.type "list",data:=.seq ai.toArray }/\IntsAre ai ns/\ns.length<=n:=by
 have pl:WShape.hasAll [] args [.list .int]=true:=(pre_splitW th).1;have aj:l.pre.holds [] { args:=args }=true:=(pre_splitW th).2;obtain⟨d,r,rfl,aa,h2⟩:=hasAllW_cons pl;obtain rfl:=hasAllW_nil h2;obtain⟨xs,rfl,h3⟩:=hasW_list aa;obtain⟨ns,rfl⟩:=items_int h3;have hlen:ns.length<=n:=by
  unfold OpenLaw.pre at aj;have h4:(WTm.not (.lt (.lit (.int (n:Int))) (.len (.arg 0)))).holds [] { args:=[.list (ns.map .int)] }=true:=by
   have h4:=(holds_andW aj).1;rw[aw]at h4;exact h4
  have h5:=condW_of h4 (w_not (w_lt w_lit (w_len_list (w_arg rfl))));rw[List.length_map]at h5;refine Nat.le_of_not_lt λq=>?_
  have cB:(n:Int)<((ns.length:Nat):Int):=by omega
  first
   |(rw[decide_eq_true cB]at h5;exact absurd h5 (by decide))
   |(simp at h5;omega)
 cases q4 with
 |cons jE ki =>
  cases ki;cases jE with
  |list ay gj=>exact⟨_,_,ns,rfl,rfl,ay,N0 ns _ gj,hlen⟩
def Q0(l:OpenLaw)(args:List WData):l.row.toRowW.claim.post args (.bool true) args=true :=
 postW_of (r:=l.row.toRowW) (X:=(true==true))
  (show WShape.has [] (.bool true) .bool=true by first|rfl|decide|simp[WShape.has,WShape.arms,WShape.armsAll])
  (show(WTm.eq .res (.lit (.bool true))).value [] { args:=args,res:=some (.bool true),after:=args }=some (.bool (true==true)) from w_eq_bool (w_res rfl) w_lit) rfl
def H6{l:OpenLaw}{n:Nat}{q:Program}{loose:List Str}{b5:(Str->Option Value)->Heap->Prop}{lR:World->Heap->Prop}{d:DefRec}(aw:l.most=some n)(qT:d.params.defaults=[])(call:∀(w:World)(ef cE:Shared)(aB iP:Str->Option Value)(bc:Addr)(o:Obj)(pm cd doc:Value)(a:Addr)(ai:List Value)(ns:List Int),
   Ground q loose [] b5 w ef aB iP cE.heap->lR w cE.heap ->
   cE.heap.get? bc=some o->o.data=.func (docDef d.name d.params d.body d.scope pm cd doc)->cE.heap.CodeRec cd d.name->aB d.name=some (.ref bc) ->
   cE.heap.get? a=some { cls:=.type "list",data:=.seq ai.toArray }->IntsAre ai ns->ns.length<=n->cE.gens=#[] ->
   codeAny (model l.prog w) callerA (.call (.ref bc) ⟨[.ref a],[]⟩) (λr s'=>r=.ok (.ret (.bool true))/\OldK cE.heap s'.heap/\s'.os=cE.os/\AllBare s'.gens) cE):
  WalkO q loose b5 lR l.row.toRowW d [] (λf ai=>PySem.call f ai):=by
 intro w ef cE aB iP G Y bc o pm cd doc sE eb ay hd hO d1 nJ aT args vals as th CI VQ q4 VG;obtain rfl:sE=.none:=Dflts.none d1 qT;obtain rfl:eb=.none:=Dflts.noKw d1;obtain⟨a,ai,ns,rfl,rfl,x1,hints,hlen⟩:=SD aw th q4;refine enter_call (Zn (call w ef cE aB iP bc o pm cd doc a ai ns G Y ay (fd_plain hd) hO nJ x1 hints hlen aT) λr s' aF=>?_)
 obtain⟨rfl,h2,h3,h4⟩:=aF;exact⟨.inl ⟨.bool true,.bool true,[],rfl,λ_=>rfl,.bool true,Q0 l _,λ_=>⟨List.Pairwise.nil,λ_ hm=>(nomatch hm)⟩⟩,h2,h3,h4⟩
section
variable{prog:Program}{w:World}{A:Around}{E:Value->Shared->Prop}{s:Shared}{K:Frag}
end
end zT
namespace bx
open PySem PySem.Spec PyProof.Rows
theorem GF:∀{ai:List Value}{ns:List Int},IntsAre ai ns->Vals (ns.map V.int) ai
 |_,_,.nil=>.nil
 |_,_,.cons n t h=>.cons ⟨t,rfl⟩ (GF h)
noncomputable def vj(H:az):Prop:=∀b,H b=none\/∃o xs,H b=some (.hp o (.lst xs))
def OQ {P : Program} {w : World} {K : W.Frag} {aB iP : Str -> Option Value} {CX : iY} {k : Nat} {bc a : Addr} {fd : FuncData} {x : Str} {sp : d8} {cE : Shared} {ai : List Value} {ns : List Int}
    (hG : K.In cE.heap) (pf : cE.heap.Ns mainGlobals aB) (ae : cE.heap.Ns builtinsNs iP) (iI : ∀ x : Str, x ≠ "__name__" -> iP x = bootBuiltins x) (MW : cE.heap.NoLimit) (aT : cE.gens = #[])
    (aC : cE.heap.get? a = some { cls := .type "list", data := .seq ai.toArray }) (hi : IntsAre ai ns) (au : ns.length <= sizeLine) (aZ : fE k callerA)
    (F : ∀ base : Heap, K.In base -> base.Ns mainGlobals aB -> jG P w K aB base CX k bc fd [x] sp) (xC : ∀ (s : Shared) (u : Value), BindsTo s fd ⟨[u], []⟩ [(x, u)])
    (pq : ∀ H : az, vj H -> dF K H a (ns.map V.int) -> sp [.ref a] H (fun v _ => v = .av true) fun _ _ _ => False)
    (xm : ∀ H e s', CX [] H cE (fun _ _ _ => False) e s' -> False) :
    codeAny (model P w) callerA (.call (.ref bc) ⟨[.ref a], []⟩) (fun r s' => r = .ok (.ret (.bool true)) /\ OldK cE.heap s'.heap /\ s'.os = cE.os /\ AllBare s'.gens) cE := by
  have bL := GF hi
  have OX := hi.length
  have core : ∀ H : az, vj H -> dF K H a (ns.map V.int) -> el P w H cE.heap -> (∀ b, H b ≠ none -> b = a) -> (H a ≠ none -> K.lookup a = none) ->
      codeAny (model P w) callerA (.call (.ref bc) ⟨[.ref a], []⟩) (fun r s' => r = .ok (.ret (.bool true)) /\ OldK cE.heap s'.heap /\ s'.os = cE.os /\ AllBare s'.gens) cE := by
    intro H d2 aS bU kR gC
    have Ar : ∀ {b : Addr} {o : Obj}, cE.heap.get? b = some o -> H b = none -> (kV cE.heap H).get? b = some o := fun e n => ML e n
    have ry : ∀ {b : Addr} {o : Obj} {ah : Array DictEntry} {aY : Nat}, cE.heap.get? b = some o -> o.data = .dict ah aY -> H b = none := fun {b o ah aY} e d => by
      cases q : H b with
      | none => rfl
      | some u =>
        have bj : b = a := kR b (by rw [q]; simp)
        subst bj
        rw [aC] at e; cases e
        have d' : Data.seq ai.toArray _ = Data.dict ah aY := d
        cases d'
    have tT : ∀ {b : Addr} {m : Str -> Option Value}, cE.heap.Ns b m -> (kV cE.heap H).Ns b m := fun {b m} ⟨o, ah, aY, e, d, r⟩ => ⟨o, ah, aY, Ar e (ry e d), d, r⟩
    have Ck : K.In (kV cE.heap H) := fun b o e => Ar (hG b o e) (by
      cases q : H b with
      | none => rfl
      | some u =>
        have bj : b = a := kR b (by rw [q]; simp)
        subst bj
        rw [gC (by rw [q]; simp)] at e; cases e)
    have nC : Mod K aB (kV cE.heap H) := ⟨Ck, tT pf, ⟨iP, tT ae, iI⟩, let ⟨Ph, aa, h2⟩ := MW; ⟨Ph, tT aa, h2⟩⟩
    have e0 : r4 P w K aB (kV cE.heap H) callerA [] cE H := ⟨rfl, nC, fun b o e => P4 e, Nat.le_of_eq (MM _ _), trivial, fun b ae => absurd (show b ∈ ([] : List Addr) from ae) (by simp), bU, .of_eq aT⟩
    refine Zn ((F _ Ck (tT pf)).run callerA [] cE H ⟨[.ref a], []⟩ [.ref a] [.ref a] _ _ aZ e0 (xC cE (.ref a)) (.cons rfl .nil) (pq H d2 aS)) fun r s' h => ?_
    cases r with
    | error e => exact (xm H e s' h).elim
    | ok ho =>
      cases ho with
      | next => exact False.elim h
      | brk => exact False.elim h
      | cont => exact False.elim h
      | ret u =>
        obtain ⟨v, ao, os, bare, un, x3, bC, q⟩ := h
        have cB : v = .av true := q
        subst cB
        obtain rfl : u = Value.bool true := bC
        refine ⟨rfl, OldK.of_keep fun b o e => ?_, os, bare⟩
        cases q : H b with
        | none => exact un.keep b o e q (by intro z; exact absurd (show b ∈ ([] : List Addr) from z) (by simp)) (by simp)
        | some u =>
          rcases d2 b with z | ⟨bB, xs, z⟩
          · rw [q] at z; cases z
          · have cO := un.ic b bB _ z
            obtain ⟨e1, _⟩ := bU b _ z
            obtain ⟨e2, _⟩ := x3 b _ cO
            rw [e] at e1; cases e1
            exact e2
  cases aq : K.lookup a with
  | some o =>
    have e := hG a o aq
    rw [aC] at e
    cases e
    refine core (fun _ => none) (fun _ => .inl rfl) (.inr ⟨_, ai.toArray, _, aq, rfl, rfl, rfl, by rw [Wv, OX]; exact au, by simpa using bL⟩) (fun b u z => by have fx : (none : Option e8) = some u := z; cases fx) (fun b z => absurd rfl z) fun z => absurd rfl z
  | none =>
    refine core (fun b => if b = a then some (.hp { cls := .type "list", data := .seq ai.toArray } (.lst (ns.map V.int))) else none) (fun b => ?_) (.inl (.inr ⟨{ cls := .type "list", data := .seq ai.toArray }, if_pos rfl⟩)) (fun b u z => ?_) (fun b z => ?_) fun _ => aq
    · by_cases ae : b = a
      · exact .inr ⟨_, _, if_pos ae⟩
      · exact .inl (if_neg ae)
    · by_cases ae : b = a
      · have fx := (if_pos ae).symm.trans z
        cases fx
        subst ae
        exact ⟨aC, by rw [List.length_map]; exact au, ai, _, bL, aC⟩
      · have fx := (if_neg ae).symm.trans z
        cases fx
    · by_cases ae : b = a
      · exact ae
      · exact absurd (if_neg ae) z
end bx
namespace bx
open PySem PySem.Spec PyProof.Rows
noncomputable abbrev oF{K:W.Frag}{h:Heap}(_:K.In h):W.Frag:=K
def U1{l:PySem.W.OpenLaw}{n k:Nat}{q:Program}{loose:List Str}{b5:(Str->Option Value)->Heap->Prop}{lR:World->Heap->Prop}{d:DefRec}{K:Params->W.Frag}{CX:World->iY}{sp:World->d8}{x:Str}(aw:l.most=some n)(M4:n<=sizeLine)(qT:d.params.defaults=[])(aZ:fE k callerA)(f3:∀(w:World)(h:Heap),lR w h->(K w.params).In h)(F:∀(w:World)(aB:Str->Option Value)(bc:Addr)(h:Heap),(K w.params).In h->h.Ns mainGlobals aB->aB d.name=some (.ref bc) ->
   ∃fd:FuncData,(∀(s:Shared)(u:Value),BindsTo s fd ⟨[u],[]⟩ [(x,u)]) /\
    ∀base:Heap,(K w.params).In base->base.Ns mainGlobals aB->jG l.prog w (K w.params) aB base (CX w) k bc fd [x] (sp w))(pq:∀(w:World)(H:az)(a:Addr)(ns:List Int),ns.length<=n->vj H->dF (K w.params) H a (ns.map V.int)->sp w [.ref a] H (λv _=>v=.av true) λ_ _ _=>False)(xm:∀(w:World)(H:az)(s:Shared)(e:Value)(s':Shared),CX w [] H s (λ_ _ _=>False) e s'->False):
  PySem.W.WalkO q loose b5 lR l.row.toRowW d [] (λf ai=>PySem.call f ai):=by
 refine zT.H6 aw qT λw ef cE aB iP bc o pm cd doc a ai ns G Y ay hd hO nJ x1 hints hlen aT=>?_
 have hG:=f3 w _ Y;obtain⟨fd,ae,qO⟩:=F w aB bc _ hG G.T.g nJ;exact OQ hG G.T.g G.T.b G.T.builtins G.T.nolimit aT x1 hints (Xt hlen M4) aZ qO ae (λH d2 aS=>pq w H a ns hlen d2 aS) λH e s'=>xm w H cE e s'
end bx
namespace bx
open PySem PySem.Spec PyProof.Rows
noncomputable def gY(s:Stmt):Arguments:=match s with
 |.FunctionDef _ a _ _ _ _ _ _ _ _=>a
 |_=>{ posonlyargs:=[],args:=[],vararg:=none,kwonlyargs:=[],kw_defaults:=[],kwarg:=none,defaults:=[] }
noncomputable def kH(s:Stmt):List Stmt:=match s with
 |.FunctionDef _ _ b _ _ _ _ _ _ _=>b
 |_=>[]
noncomputable def gZ(s:Stmt):Scope:=match s with
 |.FunctionDef _ _ _ _ _ _ sc _ _ _=>sc
 |_=>{ kind:=.function,names:=[],isGenerator:=false,isCoroutine:=false }
structure qb(K:W.Frag)(x qual:Str)(st:Stmt)(f:Addr)(fd:FuncData):Prop where
 ex:∃(fe:Value)(c9:Option Addr)(eb doc pm:Value)(an:Option Addr)(dq ct:Value)(eM:Array (Option Value)),
  fd=W.fnOf x qual (gY st) (kH st) (gZ st) .none eb doc pm an dq ct/\K.lookup f=some ⟨fe,c9,.func fd,eM⟩/\W.codeIn K dq qual=true
 f7:W.keepIn K (.ref f)=true
section
variable{P:Program}{w:World}{K:W.Frag}{aB:Str->Option Value}{base:Heap}
def qb.binds{x qual:Str}{st:Stmt}{f:Addr}{fd:FuncData}{br:List Str}(F:qb K x qual st f fd)(h:∀(eb doc pm:Value)(an:Option Addr)(dq ct:Value)(us:List Value),us.length=br.length->bindArgs (W.fnOf x qual (gY st) (kH st) (gZ st) .none eb doc pm an dq ct) ⟨us,[]⟩=pure (br.zip us)):Binds K fd br []:=by
 obtain⟨fe,c9,eb,doc,pm,an,dq,ct,eM,rfl,lk,hO⟩:=F.ex;exact .all (h eb doc pm an dq ct)
def BS{x qual:Str}{st:Stmt}{f:Addr}{fe:Value}{c9 an:Option Addr}{eM:Array (Option Value)}{eb doc pm dq ct:Value}(l:K.lookup f=some ⟨fe,c9,.func (W.fnOf x qual (gY st) (kH st) (gZ st) .none eb doc pm an dq ct),eM⟩)(c:W.codeIn K dq qual=true)(k:W.keepIn K (.ref f)=true):qb K x qual st f (W.fnOf x qual (gY st) (kH st) (gZ st) .none eb doc pm an dq ct):=⟨⟨fe,c9,eb,doc,pm,an,dq,ct,eM,rfl,l,c⟩,k⟩
end
section
variable{X:aR}
def rH(i:Nat){x:Str}{pos:Pos}(bq:X.N[i]?=some x:=by rfl)(aL:h9 X.env.scope x:=by first|exact Or.inl rfl|exact Or.inr (Or.inl rfl)|exact Or.inr (Or.inr rfl))(hd:(x==("__debug__":Str))=false:=by decide)(hO:(x==("__classdict__":Str))=false:=by decide):aQ X (.Name x pos) (F6 i):=mF bq aL hd hO
end
noncomputable def bz(H ao:az):Prop:=∀b o,H b=some o->ao b=some o
def bz.refl(H:az):bz H H:=λ_ _ h=>h
def bz.trans{H H1 aV:az}(a:bz H H1)(b:bz H1 aV):bz H aV:=λc o h=>b c o (a c o h)
def bz.free{H ao:az}(e:bz H ao){l:Addr}(h:ao l=Option.none):H l=Option.none:=by
 cases q:H l with
 |none=>rfl
 |some o =>
  rw[e l o q]at h;cases h
end bx
end
set_option autoImplicit false
set_option linter.all false
set_option maxRecDepth 100000
set_option maxHeartbeats 8000000
local macro_rules | `(tactic| omega) => `(tactic| first | decide | assumption | exact Nat.le_trans (by assumption) (by decide) | exact Nat.lt_succ_of_le (by assumption) | exact Nat.le_of_succ_le_succ (by assumption) | exact Nat.le_succ_of_le (by assumption) | exact Nat.le_of_lt (by assumption) | exact Nat.not_le.mp (by assumption) | exact Nat.not_lt.mp (by assumption) | exact Int.le_trans (by assumption) (by decide) | lia)
section
namespace Den
open PySem
inductive R(α:Type) where
 |ok (a:α)
 |exc (c:Nat)
 |bad
noncomputable def R.bind{α β:Type}:R α->(α->R β)->R β
 |.ok a,f=>f a
 |.exc c,_=>.exc c
 |.bad,_=>.bad
noncomputable instance:Monad R where
 pure:=R.ok
 bind:=R.bind
def a6{α:Type}{a b:α}(h:a=b):a=b:=h
@[simp] theorem R.ip {α β:Type} (a:α) (f:α->R β):(R.ok a>>=f)=f a:=a6 rfl
@[simp] theorem R.Lb {α β:Type} (c:Nat) (f:α->R β):(R.exc c>>=f)=R.exc c:=a6 rfl
@[simp] theorem R.Vj {α β:Type} (f:α->R β):(R.bad>>=f)=R.bad:=a6 rfl
@[simp] theorem R.V4 {α:Type} (a:α):(pure a:R α)=R.ok a:=rfl
inductive D where
 |cM
 |av (b:Bool)
 |int (i:Int)
 |str (x:Str)
 |tup (xs:List D)
 |lst (xs:List D)
 |eV (c:Nat)
mutual
noncomputable def g4:D->D->Bool
 |.cM,.cM=>true
 |.av a,.av b=>a==b
 |.av a,.int j=>(if a then 1 else 0)==j
 |.int i,.av b=>i==(if b then 1 else 0)
 |.int i,.int j=>i==j
 |.str x,.str y=>x==y
 |.tup xs,.tup ys=>kM xs ys
 |.lst xs,.lst ys=>kM xs ys
 |_,_=>false
noncomputable def kM:List D->List D->Bool
 |[],[]=>true
 |x::xs,y::ys=>g4 x y&&kM xs ys
 |_,_=>false
end
mutual
noncomputable def mu:D->D->Option Bool
 |.int i,.int j=>some (decide (i<j))
 |.tup xs,.tup ys=>nU xs ys
 |_,_=>none
noncomputable def nU:List D->List D->Option Bool
 |[],[]=>some false
 |[],_::_=>some true
 |_::_,[]=>some false
 |x::xs,y::ys=>if g4 x y then nU xs ys else mu x y
end
noncomputable def fc:Nat->D->Bool
 |0,.int _=>true
 |n+1,.tup xs=>xs.all (fc n)
 |_,_=>false
noncomputable def tq(x:D):List D->List D
 |[]=>[x]
 |y::ys=>if mu y x=some true then y::tq x ys else x::y::ys
noncomputable def hD:List D->List D
 |[]=>[]
 |x::xs=>tq x (hD xs)
noncomputable def kG:List D->List D
 |[]=>[]
 |x::xs=>if xs.any (g4 x) then kG xs else x::kG xs
noncomputable def yo:D->Bool
 |.tup (x::xs)=>fc 0 x&&xs.all (fc 0)
 |_=>false
noncomputable def hB(xs:List D):Bool:=xs.all (fc 0)||xs.all yo
noncomputable def SZ:Nat:=16777216
noncomputable def gv:Int:=18446744073709551616
noncomputable def sorted(xs:List D):R D:=if hB xs&&xs.length<=75 then .ok (.lst (hD xs)) else .bad
noncomputable def ff(xs:List D):R D:=if hB xs&&(kG xs).length<=75 then .ok (.lst (hD (kG xs))) else .bad
inductive Op where
 |add|sub|mul|fdiv|mod
inductive gM where
 |eq|ne|lt|le|gt|ge|mem|ll
noncomputable def eK:Op->D->D->R D
 |.add,.int i,.int j=>.ok (.int (i+j))
 |.add,.str x,.str y=>if x.length+y.length<=SZ then .ok (.str (x++y)) else .bad
 |.add,.tup xs,.tup ys=>if xs.length+ys.length<=SZ then .ok (.tup (xs++ys)) else .bad
 |.add,.lst xs,.lst ys=>if xs.length+ys.length<=SZ then .ok (.lst (xs++ys)) else .bad
 |.sub,.int i,.int j=>.ok (.int (i-j))
 |.mul,.int i,.int j=>if (-gv<i/\i<gv)\/(-gv<j/\j<gv) then .ok (.int (i*j)) else .bad
 |.mul,.tup xs,.int j=>if 2<=j/\xs≠[]/\xs.length*j.toNat<=SZ/\j<1000 then .ok (.tup (List.replicate j.toNat xs).flatten) else .bad
 |.fdiv,.int i,.int j=>if 0<j/\j<1073741824 then .ok (.int (i / j)) else .bad
 |.mod,.int i,.int j=>if 0<j then .ok (.int (i%j)) else .bad
 |_,_,_=>.bad
noncomputable def j8:R Bool->R Bool
 |.ok b=>.ok (!b)
 |.exc c=>.exc c
 |.bad=>.bad
noncomputable def cD:Nat->D->Bool
 |_,.cM=>true
 |_,.av _=>true
 |_,.int _=>true
 |_,.str x=>x.cps.all (· < 0x110000)
 |n+1,.tup xs=>xs.all (cD n)
 |n+1,.lst xs=>xs.all (cD n)
 |_,_=>false
noncomputable def fk(x y:D):R Bool:=if cD 60 x&&cD 60 y then .ok (g4 x y) else .bad
noncomputable def memD(x:D)(xs:List D):Bool:=xs.any λy=>g4 y x
noncomputable def hY(x:D)(ys:List D):R Bool:=if cD 60 x&&ys.all (cD 60) then .ok (memD x ys) else .bad
noncomputable def yH:Option Bool->R Bool
 |some b=>.ok b
 |none=>.bad
noncomputable def nV(x y:D):R Bool:=if (fc 0 x&&fc 0 y)||(fc 1 x&&fc 1 y) then yH (mu x y) else .bad
noncomputable def df:gM->D->D->R Bool
 |.eq,x,y=>fk x y
 |.ne,x,y=>j8 (fk x y)
 |.lt,x,y=>nV x y
 |.gt,.int i,.int j=>.ok (decide (j<i))
 |.le,.int i,.int j=>.ok (decide (i<=j))
 |.ge,.int i,.int j=>.ok (decide (j<=i))
 |.mem,x,.tup ys=>hY x ys
 |.mem,x,.lst ys=>hY x ys
 |.ll,x,.tup ys=>j8 (hY x ys)
 |.ll,x,.lst ys=>j8 (hY x ys)
 |_,_,_=>.bad
noncomputable def hV(n:Nat)(i:Int):Option Nat:=if 0<=i then(if i<n then some i.toNat else none) else(if 0<=i+n then some (i+n).toNat else none)
noncomputable def eX{α:Type}(xs:List α)(i:Int):Option α:=(hV xs.length i).bind (xs[·]?)
noncomputable def gE:D->D->R D
 |.tup xs,.int i=>match eX xs i with|some d=>.ok d|none=>.bad
 |.lst xs,.int i=>match eX xs i with|some d=>.ok d|none=>.bad
 |.str x,.int i=>if x.length<=SZ then(match eX x.cps.toList i with|some c=>.ok (.str ⟨#[c]⟩)|none=>.bad) else .bad
 |_,_=>.bad
noncomputable def bA(n d:Nat):Option Int->Nat
 |none=>d
 |some i=>if i<0 then(if i+n<0 then 0 else(i+n).toNat) else(if (n:Int)<i then n else i.toNat)
noncomputable def cut{α:Type}(xs:List α)(lo hi:Option Int):List α:=(xs.drop (bA xs.length 0 lo)).take (bA xs.length xs.length hi-bA xs.length 0 lo)
noncomputable def lz(d:D)(lo hi:Option Int):R D:=match d with
 |.tup xs=>.ok (.tup (cut xs lo hi))
 |.lst xs=>.ok (.lst (cut xs lo hi))
 |_=>.bad
noncomputable def rK:D->R D
 |.tup xs=>.ok (.tup xs.reverse)
 |_=>.bad
noncomputable def lb:D->R D
 |.tup xs=>.ok (.int xs.length)
 |.lst xs=>.ok (.int xs.length)
 |.str x=>if x.length<=SZ then .ok (.int x.length) else .bad
 |_=>.bad
inductive Ty where
 |int|bool|str|tuple|cls (c:Nat)
noncomputable abbrev fG:=Nat->List Nat
noncomputable def hU(up:fG)(d:D):Ty->R Bool
 |.int=>.ok (match d with|.int _=>true|.av _=>true|_=>false)
 |.bool=>.ok (match d with|.av _=>true|_=>false)
 |.str=>.ok (match d with|.str _=>true|_=>false)
 |.tuple=>.ok (match d with|.tup _=>true|_=>false)
 |.cls c=>match d with|.eV k=>.ok ((up k).contains c)|_=>.bad
noncomputable def hK:List D->Option (List Bool)
 |[]=>some []
 |.av b::xs=>(hK xs).map (b::·)
 |_=>none
noncomputable def kA(xs:List D):R Bool:=match hK xs with
 |some bs=>.ok (bs.all id)
 |none=>.bad
noncomputable def lT(xs:List D):R Bool:=match hK xs with
 |some bs=>.ok (bs.any id)
 |none=>.bad
noncomputable def dt:D->R (List D)
 |.tup xs=>.ok xs
 |.lst xs=>.ok xs
 |_=>.bad
noncomputable def ed(lo hi:Int):List D:=(List.range (hi-lo).toNat).map λk=>.int (lo+(k:Nat))
noncomputable def oa(i:Int):Bool:=decide (-4611686018427387904<=i/\i<4611686018427387904)
noncomputable def ir(i j:Int):R (List D):=if oa i&&oa j&&decide ((j-i).toNat<=1000000) then .ok (ed i j) else .bad
noncomputable def gb:List D->List D->List D
 |x::xs,y::ys=>.tup [x,y]::gb xs ys
 |_,_=>[]
noncomputable def uZ:D->D->R (List D)
 |.tup xs,.tup ys=>.ok (gb xs ys)
 |_,_=>.bad
inductive ez where
 |len|inst (t:Ty)|all|any|sorted|ff|str
inductive vg where
 |join
mutual
inductive E where
 |var (i:Nat)
 |lit (d:D)
 |glob (j:Nat)
 |tup (a:A)
 |lst (a:A)
 |bin (op:Op) (a b:E)
 |neg (a:E)
 |not (a:E)
 |cmp (op:gM) (a b:E)
 |oS (op op':gM) (a b c:E)
 |and (a b:E)
 |or (a b:E)
 |idx (a b:E)
 |slice (a:E) (lo hi:O)
 |rev (a:E)
 |call (f:Nat) (a:A)
 |prim (p:ez) (a:E)
 |rq (m:vg) (o a:E)
 |tupI (s:I)
 |iO (s:I)
 |comp (elt:E) (k:Nat) (s:I) (c:O)
inductive A where
 |nil
 |cons (e:E) (a:A)
inductive O where
 |none
 |some (e:E)
inductive I where
 |seq (e:E)
 |eD (a:E)
 |pO (a b:E)
 |zip (a b:E)
end
noncomputable abbrev a7:=List (Option D)
noncomputable abbrev cV:=Nat->List D->R D
noncomputable def fK:Nat->D->R (List (Option D))
 |0,d=>.ok [some d]
 |k,.tup xs=>if xs.length=k then .ok (xs.map some) else .bad
 |_,_=>.bad
noncomputable def cJ(f:D->R (Option D)):List D->R (List D)
 |[]=>.ok []
 |d::ds=>f d>>=λo=>cJ f ds>>=λr=>match o with|some x=>.ok (x::r)|none=>.ok r
noncomputable def lj{α:Type}:R α->R α
 |.exc _=>.bad
 |r=>r
noncomputable def jy(i:Int):R D:=if i.natAbs<10000000000 then .ok (.str (Str.ofString (toString i))) else .bad
noncomputable def jw(up:fG):ez->D->R D
 |.len,d=>lb d
 |.inst t,d=>hU up d t>>=λb=>.ok (.av b)
 |.all,d=>dt d>>=λxs=>kA xs>>=λb=>.ok (.av b)
 |.any,d=>dt d>>=λxs=>lT xs>>=λb=>.ok (.av b)
 |.sorted,d=>dt d>>=λxs=>sorted xs
 |.ff,d=>dt d>>=λxs=>ff xs
 |.str,.int i=>jy i
 |_,_=>.bad
noncomputable def strsOf:List D->Option (List Str)
 |[]=>some []
 |.str x::xs=>(strsOf xs).map (x::·)
 |_=>none
noncomputable def oi(ss:List Str):Nat:=(ss.map (·.length)).sum
noncomputable def rf(sep:Str)(xs:List D):R D:=match strsOf xs with
 |some ss=>if oi ss+ss.length*sep.length<=SZ then .ok (.str (Str.join sep ss)) else .bad
 |none=>.bad
noncomputable def tL:vg->D->D->R D
 |.join,.str x,.lst xs=>rf x xs
 |_,_,_=>.bad
noncomputable def gd:D->R Bool
 |.av b=>.ok b
 |_=>.bad
noncomputable def fU:D->R Int
 |.int i=>.ok i
 |_=>.bad
noncomputable def xh:Option (Option D)->R D
 |some (some d)=>.ok d
 |_=>.bad
noncomputable def xg:Option D->R D
 |some d=>.ok d
 |none=>.bad
structure cI where
 up:fG
 cs:List D
section
variable(pg:cI)(Φ:cV)
mutual
noncomputable def ev (J:a7):E->R D
 |.var i=>xh J[i]?
 |.lit d=>.ok d
 |.glob j=>xg pg.cs[j]?
 |.tup a=>hl J a>>=λds=>.ok (.tup ds)
 |.lst a=>hl J a>>=λds=>.ok (.lst ds)
 |.bin op a b=>ev J a>>=λx=>ev J b>>=λy=>eK op x y
 |.neg a=>ev J a>>=λx=>fU x>>=λi=>.ok (.int (-i))
 |.not a=>ev J a>>=λx=>gd x>>=λb=>.ok (.av (!b))
 |.cmp op a b=>ev J a>>=λx=>ev J b>>=λy=>df op x y>>=λc=>.ok (.av c)
 |.oS op op' a b c=>ev J a>>=λx=>ev J b>>=λy=>df op x y>>=λk=>if k then ev J c>>=λz=>df op' y z>>=λcS=>.ok (.av cS) else .ok (.av false)
 |.and a b=>ev J a>>=λx=>gd x>>=λk=>if k then ev J b else .ok (.av false)
 |.or a b=>ev J a>>=λx=>gd x>>=λk=>if k then .ok (.av true) else ev J b
 |.idx a b=>ev J a>>=λx=>ev J b>>=λy=>gE x y
 |.slice a lo hi=>ev J a>>=λx=>ma J lo>>=λl=>ma J hi>>=λh=>lz x l h
 |.rev a=>ev J a>>=λx=>rK x
 |.call f a=>hl J a>>=λds=>Φ f ds
 |.prim p a=>ev J a>>=λx=>jw pg.up p x
 |.rq m o a=>ev J o>>=λx=>ev J a>>=λy=>tL m x y
 |.tupI s=>gA J s>>=λds=>.ok (.tup ds)
 |.iO s=>gA J s>>=λds=>.ok (.lst ds)
 |.comp e k s c=>gA J s>>=λds=>lj (cJ (λd=>fK k d>>=λai=>kN (J++ai) c>>=λb=>if b then ev (J++ai) e>>=λy=>.ok (some y) else .ok none) ds)>>=λys=>.ok (.lst ys)
noncomputable def hl (J:a7):A->R (List D)
 |.nil=>.ok []
 |.cons e a=>ev J e>>=λx=>hl J a>>=λxs=>.ok (x::xs)
noncomputable def ma (J:a7):O->R (Option Int)
 |.none=>.ok none
 |.some e=>ev J e>>=λx=>fU x>>=λi=>.ok (some i)
noncomputable def kN (J:a7):O->R Bool
 |.none=>.ok true
 |.some e=>ev J e>>=λx=>gd x
noncomputable def gA (J:a7):I->R (List D)
 |.seq e=>ev J e>>=λx=>dt x
 |.eD a=>ev J a>>=λx=>fU x>>=λi=>ir 0 i
 |.pO a b=>ev J a>>=λx=>fU x>>=λi=>ev J b>>=λy=>fU y>>=λj=>ir i j
 |.zip a b=>ev J a>>=λx=>ev J b>>=λy=>uZ x y
end
end
structure aV where
 j:Nat
 i:Nat
 ar:List Nat
 k5:Nat
 j0:Nat
noncomputable def tj(up:fG)(ar:List Nat)(k5 j0:Nat):Bool:=(up 1).contains k5&&((up 1).contains j0&&!(ar.map λk=>(up 1).contains k).any id)
noncomputable def ya(up:fG):Option aV->Bool
 |none=>true
 |some h=>tj up h.ar h.k5 h.j0
mutual
inductive S where
 |asg (i:Nat) (e:E)
 |app (i:Nat) (e:E)
 |ext (i:Nat) (e:E)
 |ret (e:E)
 |iff (c:E) (a b:B)
 |hM (k:Nat) (ts:List Nat) (s:I) (b:B)
 |expr (e:E)
 |raise (c:Nat)
 |mR (e:E) (k:Nat) (h:Option aV)
inductive B where
 |nil
 |cons (s:S) (b:B)
end
inductive d6 where
 |b6 (J:a7)
 |dC (d:D)
noncomputable def ly:List Nat->List (Option D)->a7->a7
 |i::is,v::ai,J=>ly is ai (J.set i v)
 |_,_,J=>J
noncomputable def forL(f:D->a7->R d6):List D->a7->R d6
 |[],J=>.ok (.b6 J)
 |d::ds,J=>f d J>>=λr=>match r with
  |.b6 c7=>forL f ds c7
  |.dC x=>.ok (.dC x)
noncomputable def jd(pg:cI)(c k:Nat)(h:Option aV):R d6:=if c==1&&(pg.up c).contains k then .ok (.dC (.av (ya pg.up h))) else .bad
noncomputable def Gk:R d6->(Nat->R d6)->R d6
 |.ok r,_=>.ok r
 |.exc c,f=>f c
 |.bad,_=>.bad
noncomputable def sl:Option (Option D)->D->R D
 |some (some (.lst xs)),d=>if xs.length<SZ then .ok (.lst (xs++[d])) else .bad
 |_,_=>.bad
noncomputable def sJ:Option (Option D)->D->R D
 |some (some (.lst xs)),.lst ys=>if xs.length+ys.length<=SZ then .ok (.lst (xs++ys)) else .bad
 |_,_=>.bad
noncomputable def lW:Option (Option D)->R Unit
 |some (some (.lst _))=>.ok ()
 |_=>.bad
section
variable(pg:cI)(Φ:cV)
mutual
noncomputable def ex (J:a7):S->R d6
 |.asg i e=>ev pg Φ J e>>=λd=>.ok (.b6 (J.set i (some d)))
 |.app i e=>lW J[i]?>>=λ_=>ev pg Φ J e>>=λd=>sl J[i]? d>>=λx=>.ok (.b6 (J.set i (some x)))
 |.ext i e=>lW J[i]?>>=λ_=>ev pg Φ J e>>=λd=>sJ J[i]? d>>=λx=>.ok (.b6 (J.set i (some x)))
 |.ret e=>ev pg Φ J e>>=λd=>.ok (.dC d)
 |.iff c a b=>ev pg Φ J c>>=λx=>gd x>>=λk=>if k then ei J a else ei J b
 |.hM k ts s b=>gA pg Φ J s>>=λds=>forL (λd c7=>fK k d>>=λai=>ei (ly ts ai c7) b) ds J
 |.expr e=>ev pg Φ J e>>=λ_=>.ok (.b6 J)
 |.raise c=>.exc c
 |.mR e k h=>Gk (ev pg Φ J e>>=λ_=>.ok (.b6 J)) λc=>jd pg c k h
noncomputable def ei (J:a7):B->R d6
 |.nil=>.ok (.b6 J)
 |.cons s b=>ex J s>>=λr=>match r with
  |.b6 c7=>ei c7 b
  |.dC d=>.ok (.dC d)
end
end
structure fz where
 np:Nat
 nl:Nat
 body:B
noncomputable def start(fd:fz)(ds:List D):a7:=ds.map some++List.replicate fd.nl none
noncomputable def jO:R d6->R D
 |.ok (.dC d)=>.ok d
 |.ok (.b6 _)=>.ok .cM
 |.exc c=>.exc c
 |.bad=>.bad
noncomputable def dc(pg:cI)(Φ:cV)(fd:fz)(ds:List D):R D:=if ds.length=fd.np then jO (ei pg Φ (start fd ds) fd.body) else .bad
noncomputable def run(pg:cI)(fds:List fz):Nat->cV
 |0=>λ_ _=>.bad
 |n+1=>λf ds=>match fds[f]? with
  |some fd=>dc pg (run pg fds n) fd ds
  |none=>.bad
def ob(pg:cI)(fds:List fz)(n f:Nat)(ds:List D):run pg fds (n+1) f ds=(match fds[f]? with|some fd=>dc pg (run pg fds n) fd ds|none=>.bad):=rfl
end Den
end
section
namespace Den
open PySem
structure Gt where
 fns:List Str
 cls:List Str
 md:List Str
structure bR where
 N:List Str
 sc:Scope
 ak:List Nat
noncomputable def ov(sc:Scope)(x:Str):Bool:=sc.names.lookup x==some .local||sc.names.lookup x==some .cell||sc.names.lookup x==some .free
noncomputable def j2(sc:Scope)(x:Str):Bool:=sc.names.lookup x==some .local||sc.names.lookup x==some .cell
noncomputable def iF(sc:Scope)(x:Str):Bool:=sc.names.lookup x==some .globalImplicit
noncomputable def okN(x:Str):Bool:=!(x==("__debug__":Str))&&!(x==("__classdict__":Str))&&!(x==("__name__":Str))
noncomputable def D9:Op->Operator->Bool
 |.add,.Add=>true|.sub,.Sub=>true|.mul,.Mult=>true|.fdiv,.FloorDiv=>true|.mod,.Mod=>true
 |_,_=>false
noncomputable def sA:gM->CmpOp->Bool
 |.mem,.In=>true|.ll,.NotIn=>true|.eq,.Eq=>true|.ne,.NotEq=>true|.lt,.Lt=>true|.le,.LtE=>true|.gt,.Gt=>true|.ge,.GtE=>true
 |_,_=>false
noncomputable def litOk:D->Const->Bool
 |.cM,.none=>true
 |.av a,.bool b=>a==b
 |.int i,.int j=>i==j
 |.str x,.str y=>x==y
 |_,_=>false
noncomputable def tyName:Ty->Str
 |.int=>"int"|.bool=>"bool"|.str=>"str"|.tuple=>"tuple"|.cls _=>""
noncomputable def rF:ez->Str
 |.len=>"len"|.all=>"all"|.any=>"any"|.sorted=>"sorted"|.str=>"str"|_=>""
noncomputable def rG:ez->Bool
 |.len=>true|.all=>true|.any=>true|.sorted=>true|.str=>true|_=>false
noncomputable def nameOf:Expr->Option Str
 |.Name x _=>some x
 |_=>none
noncomputable def namesOf:List Expr->Option (List Str)
 |[]=>some []
 |e::ah=>match nameOf e,namesOf ah with|some x,some xs=>some (x::xs)|_,_=>none
noncomputable def eN:Nat->Expr->Option (List Str)
 |0,.Name x _=>some [x]
 |k+1,.Tuple ah _ _=>match namesOf ah with|some xs=>if xs.length=k+1 then some xs else none|none=>none
 |_,_=>none
noncomputable def mask(N xs:List Str):List Str:=N.map λn=>if xs.contains n then(((".":Str))++n) else n
noncomputable def mE:I->Bool
 |.zip _ _=>true
 |_=>false
noncomputable def uq:I->Bool
 |.seq _=>true
 |.eD _=>true
 |_=>false
noncomputable def tQ:Expr->Bool
 |.ListComp ..=>false
 |_=>true
noncomputable def dY(g:Gt)(sc:Scope)(x:Str):Bool:=iF sc x&&!(g.fns.contains x)&&!(g.cls.contains x)&&!(g.md.contains x)
noncomputable def iX:Expr->Option Str
 |.Name x _=>some x
 |_=>none
noncomputable def p0:Expr->Option Const
 |.Constant c _ _=>some c
 |_=>none
noncomputable def GD:Expr->Option (List Expr)
 |.Tuple ah _ _=>some ah
 |_=>none
noncomputable def zJ:Expr->Option (List Expr)
 |.List ah _=>some ah
 |_=>none
noncomputable def Gx:Expr->Option (Expr×Operator×Expr)
 |.BinOp x o y _=>some (x,o,y)
 |_=>none
noncomputable def rY:Expr->Option (UnaryOp×Expr)
 |.UnaryOp o x _=>some (o,x)
 |_=>none
noncomputable def zI:Expr->Option (Expr×List CmpOp×List Expr)
 |.Compare x os ys _=>some (x,os,ys)
 |_=>none
noncomputable def vBool:Expr->Option (BoolOp×List Expr×Pos)
 |.BoolOp o ah p=>some (o,ah,p)
 |_=>none
noncomputable def uL:Expr->Option (Expr×Expr)
 |.Subscript x y _=>some (x,y)
 |_=>none
noncomputable def zL:Expr->Option (Option Expr×Option Expr×Option Expr)
 |.Slice l h t _=>some (l,h,t)
 |_=>none
noncomputable def uK:Expr->Option (Expr×List Expr×List Keyword)
 |.Call f ah ar _=>some (f,ah,ar)
 |_=>none
noncomputable def iu(x:Expr):Option (Str×List Expr):=match uK x with
 |some (f,ah,[])=>(match iX f with|some y=>some (y,ah)|none=>none)
 |_=>none
noncomputable def zG:Expr->Option (Expr×Str×Pos)
 |.Attribute o n p=>some (o,n,p)
 |_=>none
noncomputable def zK(z:Expr):Option (Str×Str×Pos×Expr):=match uK z with
 |some (f,[y],[])=>(match zG f with
  |some (o,n,ap)=>(match p0 o with|some (.str x)=>some (x,n,ap,y)|_=>none)
  |none=>none)
 |_=>none
noncomputable def litS:E->Option Str
 |.lit (.str x)=>some x
 |_=>none
noncomputable def Gz:Expr->Option (Expr×List Comprehension×Scope)
 |.ListComp x g7 sc _=>some (x,g7,sc)
 |_=>none
noncomputable def yp(x:Expr):Bool:=match rY x with
 |some (.USub,y)=>(match p0 y with|some (.int i)=>i==1|_=>false)
 |_=>false
noncomputable def tyB(g:Gt)(ct:bR)(n:Str):Ty->Bool
 |.cls c=>iF ct.sc n&&okN n&&(if c=1000 then n==("ValueError":Str)&&dY g ct.sc n else g.cls[c]?==some n)
 |t=>n==tyName t&&dY g ct.sc n
noncomputable def uP(g:Gt)(ct:bR)(x:Str)(t:Ty)(e y:Expr):Option Expr:=match iX y with
 |some n=>if x==("isinstance":Str)&&dY g ct.sc x&&tyB g ct n t then some e else none
 |none=>none
noncomputable def uQ(g:Gt)(ct:bR)(x:Str)(e:Expr):Option Expr:=match iu e with
 |some (y,[a])=>if x==("sorted":Str)&&dY g ct.sc x&&y==("set":Str)&&dY g ct.sc y then some a else none
 |_=>none
noncomputable def GH(g:Gt)(ct:bR)(x:Str)(p:ez)(ah:List Expr):Option Expr:=match p with
 |.inst t=>(match ah with|[e,y]=>uP g ct x t e y|_=>none)
 |.ff=>(match ah with|[e]=>uQ g ct x e|_=>none)
 |p=>(match ah with|[e]=>if rG p&&x==rF p&&dY g ct.sc x then some e else none|_=>none)
noncomputable def qv(ct:bR)(sc:Scope)(xs:List Str):Bool:=decide (sc.kind=.function)&&sc.names.all (λy=>y.2 != .cell)&&sc.names.all (λy=>y.2 != .local||sc.names.lookup y.1==some .local)
 && xs.all (λy=>sc.names.lookup y==some .local&&okN y)&&decide xs.Nodup&&sc.names.all (λy=>y.2 != .local||xs.contains y.1||y.1==(".0":Str))
 && sc.names.all (λy=>y.2 != .free||(ct.sc.names.lookup y.1==some .cell||ct.sc.names.lookup y.1==some .free))&&((mask ct.N xs).zip ct.N).all (λp=>p.1==p.2||sc.names.lookup p.1==none)&&decide (mask ct.N xs++xs).Nodup&&!((mask ct.N xs++xs).contains (".0":Str))
section
variable(g:Gt)
mutual
noncomputable def bI (ct:bR) (v:Bool):E->Expr->Bool
 |.var i,z=>(match iX z with|some x=>ct.N[i]?==some x&&ov ct.sc x&&okN x&&(v||!ct.ak.contains i)|none=>false)
 |.lit d,z=>(match p0 z with|some c=>litOk d c|none=>false)
 |.glob j,z=>(match iX z with|some x=>g.md[j]?==some x&&iF ct.sc x&&okN x|none=>false)
 |.tup a,z=>(match GD z with|some ah=>lX ct a ah&&decide (ah.length<=1000)|none=>false)
 |.lst a,z=>(match zJ z with|some ah=>lX ct a ah&&decide (ah.length<=1000)|none=>false)
 |.bin op a b,z=>(match Gx z with|some (x,o,y)=>D9 op o&&bI ct true a x&&bI ct true b y|none=>false)
 |.neg a,z=>(match rY z with|some (.USub,x)=>bI ct true a x|_=>false)
 |.not a,z=>(match rY z with|some (.Not,x)=>bI ct true a x|_=>false)
 |.cmp op a b,z=>(match zI z with|some (x,[o],[y])=>sA op o&&bI ct true a x&&bI ct true b y|_=>false)
 |.oS op op' a b c,z=>(match zI z with|some (x,[o,bO],[y,w])=>sA op o&&sA op' bO&&bI ct true a x&&bI ct true b y&&bI ct true c w|_=>false)
 |.and a b,z=>(match vBool z with|some (.And,[x,y],_)=>bI ct true a x&&bI ct v b y|some (.And,x::y::w::r,p)=>bI ct true a x&&bI ct v b (.BoolOp .And (y::w::r) p)|_=>false)
 |.or a b,z=>(match vBool z with|some (.Or,[x,y],_)=>bI ct true a x&&bI ct v b y|some (.Or,x::y::w::r,p)=>bI ct true a x&&bI ct v b (.BoolOp .Or (y::w::r) p)|_=>false)
 |.idx a b,z=>(match uL z with|some (x,y)=>bI ct true a x&&bI ct true b y|none=>false)
 |.slice a lo hi,z=>(match uL z with|some (x,y)=>(match zL y with|some (l,h,none)=>bI ct true a x&&qA ct lo l&&qA ct hi h|_=>false)|none=>false)
 |.rev a,z=>(match uL z with|some (x,y)=>(match zL y with|some (none,none,some t)=>yp t&&bI ct true a x|_=>false)|none=>false)
 |.call f a,z=>(match iu z with|some (x,ah)=>g.fns[f]?==some x&&iF ct.sc x&&okN x&&!ah.isEmpty&&lX ct a ah|none=>false)
 |.prim p a,z=>(match iu z with|some (x,ah)=>(match GH g ct x p ah with|some e=>bI ct true a e|none=>false)|none=>false)
 |.rq m o a,z=>(match zK z with|some (x,n,ap,y)=>n==("join":Str)&&litS o==some x&&(ap.endLine==z.pos.line)&&bI ct true a y|none=>false)
 |.tupI s,z=>(match iu z with|some (x,[e])=>x==("tuple":Str)&&dY g ct.sc x&&uq s&&gg ct true s e|_=>false)
 |.iO s,z=>(match iu z with|some (x,[e])=>x==("list":Str)&&dY g ct.sc x&&uq s&&gg ct true s e|_=>false)
 |.comp e k s c,z=>(match Gz z with
   |some (x,[⟨t,it,ifs,0⟩],sc)=>(match eN k t with
    |some xs=>(!mE s||k==2)&&qv ct sc xs&&gg ct true s it&&bI ⟨mask ct.N xs++xs,sc,ct.ak⟩ false e x&&nj ⟨mask ct.N xs++xs,sc,ct.ak⟩ c ifs
    |none=>false)
   |_=>false)
noncomputable def lX (ct:bR):A->List Expr->Bool
 |.nil,[]=>true
 |.cons e a,x::xs=>bI ct false e x&&lX ct a xs
 |_,_=>false
noncomputable def qA (ct:bR):O->Option Expr->Bool
 |.none,none=>true
 |.some e,some x=>bI ct true e x
 |_,_=>false
noncomputable def nj (ct:bR):O->List Expr->Bool
 |.none,[]=>true
 |.some e,[x]=>bI ct true e x
 |_,_=>false
noncomputable def gg (ct:bR) (v:Bool):I->Expr->Bool
 |.seq e,z=>bI ct v e z
 |.eD a,z=>(match iu z with|some (x,[y])=>x==("range":Str)&&dY g ct.sc x&&bI ct true a y|_=>false)
 |.pO a b,z=>(match iu z with|some (x,[y,w])=>x==("range":Str)&&dY g ct.sc x&&bI ct true a y&&bI ct true b w|_=>false)
 |.zip a b,z=>(match iu z with|some (x,[y,w])=>x==("zip":Str)&&dY g ct.sc x&&bI ct v a y&&bI ct v b w|_=>false)
end
noncomputable def ib:E->Bool
 |.lst _=>true
 |.comp ..=>true
 |.bin .add _ _=>true
 |.bin .mul _ _=>true
 |.prim .sorted _=>true
 |.prim .ff _=>true
 |.iO _=>true
 |_=>false
noncomputable def oR(ct:bR):List Nat->List Str->Bool
 |[],[]=>true
 |i::is,x::xs=>ct.N[i]?==some x&&j2 ct.sc x&&okN x&&!ct.ak.contains i&&oR ct is xs
 |_,_=>false
noncomputable def rQ:Stmt->Option (List Expr×Expr)
 |.Assign ts y _=>some (ts,y)
 |_=>none
noncomputable def uz:Stmt->Option Expr
 |.Expr y _=>some y
 |_=>none
noncomputable def pV:Stmt->Option (Option Expr)
 |.Return y _=>some y
 |_=>none
noncomputable def zv:Stmt->Option (Expr×List Stmt×List Stmt)
 |.If t x y _=>some (t,x,y)
 |_=>none
noncomputable def uA:Stmt->Option (Expr×Expr×List Stmt×List Stmt)
 |.For t it x y _=>some (t,it,x,y)
 |_=>none
noncomputable def zF(z:Expr):Option (Str×Str×Pos×Expr):=match uK z with
 |some (f,[y],[])=>(match zG f with
  |some (o,n,ap)=>(match iX o with|some x=>some (x,n,ap,y)|none=>none)
  |none=>none)
 |_=>none
noncomputable def zx:Stmt->Option Expr
 |.Raise (some y) none _=>some y
 |_=>none
noncomputable def F5:Stmt->Option (List Stmt×List ExceptHandler×List Stmt×List Stmt)
 |.Try a h e f _=>some (a,h,e,f)
 |_=>none
noncomputable def UP:ExceptHandler->Option Expr×Option Str×List Stmt
 |.ExceptHandler t n b _=>(t,n,b)
noncomputable def v5(ct:bR)(i:Nat)(e:E)(z:Stmt):Bool:=match rQ z with
 |some ([t],y)=>(match iX t with|some x=>ct.N[i]?==some x&&j2 ct.sc x&&okN x&&(!ct.ak.contains i||ib e)&&bI g ct false e y|none=>false)
 |_=>false
noncomputable def sy(ct:bR)(i:Nat)(e:E)(nm:Str)(z:Stmt):Bool:=match uz z with
 |some c=>(match zF c with|some (x,n,ap,y)=>(ap.endLine==c.pos.line)&&ct.N[i]?==some x&&ov ct.sc x&&okN x&&ct.ak.contains i&&n==nm&&bI g ct false e y|none=>false)
 |none=>false
noncomputable def wb(ct:bR)(c:Nat)(z:Stmt):Bool:=match zx z with
 |some y=>(match iu y with
  |some (x,[a])=>(match p0 a with|some (.str _)=>c==1&&g.cls[c]?==some x&&iF ct.sc x&&okN x|_=>false)
  |_=>false)
 |none=>false
noncomputable def qz(ct:bR)(n:Str)(k:Nat)(z:Expr):Bool:=match iu z with
 |some (x,[e,d])=>(match iX e,iX d with|some y,some t=>x==("isinstance":Str)&&dY g ct.sc x&&y==n&&tyB g ct t (.cls k)&&(k==1000||decide (k<g.cls.length))|_,_=>false)
 |_=>false
noncomputable def sx(ct:bR)(n:Str):List Nat->List Expr->Bool
 |[],[]=>true
 |k::ar,z::zs=>qz g ct n k z&&sx ct n ar zs
 |_,_=>false
noncomputable def v7(ct:bR)(k:Nat)(t:Expr):Bool:=match iX t with
 |some x=>g.cls[k]?==some x&&iF ct.sc x&&okN x
 |none=>false
noncomputable def C5(y:Expr):Bool:=match p0 y with
 |some (.bool b)=>b
 |_=>false
noncomputable def v8(st:List Stmt):Bool:=match st with
 |[r]=>(match pV r with|some (some y)=>C5 y|_=>false)
 |_=>false
noncomputable def v9 (ct : bR) (j i : Nat) (n : Str) (ar : List Nat) (k5 j0 : Nat) (t1 ek : Stmt) : Bool := match rQ t1 with
  | some ([c3], l) => (match iX c3 with
    | some x => (match zJ l with
      | some zs => (match pV ek with
        | some (some y) => (match vBool y with
          | some (.And, [du, eO, jB], _) => (match rY jB with
            | some (.Not, w) => (match iu w with
              | some (f, [c]) => ct.N[i]? == some x && ct.sc.names.lookup x == some .local && okN x && i != j && sx g ct n ar zs && qz g ct n k5 du && qz g ct n j0 eO && f == ("any" : Str) && dY g ct.sc f && iX c == some x && decide (ar.length <= 1000)
              | _ => false)
            | _ => false)
          | _ => false)
        | _ => false)
      | none => false)
    | none => false)
  | _ => false
noncomputable def wa(ct:bR)(h:Option aV)(n:Option Str)(st:List Stmt):Bool:=match h with
 |none=>n.isNone&&v8 st
 |some h=>(match n with|some n=>ct.N[h.j]?==some n&&ct.sc.names.lookup n==some .local&&okN n&&(match st with|[t1,ek]=>v9 g ct h.j h.i n h.ar h.k5 h.j0 t1 ek|_=>false)|none=>false)
noncomputable def AL(ct:bR)(k:Nat)(h:Option aV)(q:Option Expr×Option Str×List Stmt):Bool:=match q.1 with
 |some t=>v7 g ct k t&&wa g ct h q.2.1 q.2.2
 |none=>false
noncomputable def wc(ct:bR)(e:E)(k:Nat)(h:Option aV)(z:Stmt):Bool:=match F5 z with
 |some ([a],[hd],[],[])=>(match uz a with
  |some y=>tQ y&&bI g ct true e y&&decide (k<2)&&AL g ct k h (UP hd)
  |none=>false)
 |_=>false
mutual
noncomputable def nk (ct:bR):S->Stmt->Bool
 |.asg i e,z=>v5 g ct i e z
 |.app i e,z=>sy g ct i e "append" z
 |.ext i e,z=>sy g ct i e "extend" z
 |.raise c,z=>wb g ct c z
 |.mR e k h,z=>wc g ct e k h z
 |.ret e,z=>(match pV z with|some (some y)=>bI g ct false e y||(match e,y with|.var i,.Name x _=>ct.N[i]?==some x&&ov ct.sc x&&okN x|_,_=>false)|_=>false)
 |.iff c a b,z=>(match zv z with|some (t,x,y)=>bI g ct true c t&&jJ ct a x&&jJ ct b y|none=>false)
 |.hM k ts s b,z=>(match uA z with|some (t,it,x,[])=>(match eN k t with|some xs=>(!mE s||k==2)&&oR ct ts xs&&decide ts.Nodup&&gg g ct false s it&&jJ ct b x|none=>false)|_=>false)
 |.expr e,z=>(match uz z with|some y=>tQ y&&bI g ct true e y|none=>false)
noncomputable def jJ (ct:bR):B->List Stmt->Bool
 |.nil,[]=>true
 |.cons s b,x::xs=>nk ct s x&&jJ ct b xs
 |_,_=>false
end
mutual
noncomputable def Pw:S->List Nat
 |.app j _=>[j]
 |.ext j _=>[j]
 |.iff _ a b=>j6 a++j6 b
 |.hM _ _ _ b=>j6 b
 |_=>[]
noncomputable def j6:B->List Nat
 |.nil=>[]
 |.cons s b=>Pw s++j6 b
end
noncomputable def lY(N:List Str)(fd:fz):Stmt->Bool
 |.FunctionDef name args body [] none [] sc none bind _ =>
   decide (sc.kind=.function)&&!sc.isCoroutine&&!sc.isGenerator&&decide N.Nodup&&N.length==fd.np+fd.nl
   && (args.args.map (·.arg))==N.take fd.np&&args.posonlyargs.isEmpty&&args.vararg.isNone&&args.kwonlyargs.isEmpty&&args.kwarg.isNone&&args.defaults.isEmpty&&args.kw_defaults.isEmpty
   && (N.take fd.np).all (λx=>j2 sc x)&&sc.names.all (λy=>y.2 != .free)
   && (j6 fd.body).all (λi=>decide (fd.np<=i)&&decide (i<N.length))&&jJ g ⟨N,sc,j6 fd.body⟩ fd.body body
 |_=>false
end
end Den
end
section
namespace bh
open PySem Den
noncomputable def Aq :B:=.cons (.ret (.and (.prim (.inst .int) (.var 0)) (.not (.prim (.inst .bool) (.var 0))))) (.nil)
noncomputable def vy(sM:Nat)(LL:Nat):B:=.cons (.ret (.and (.call sM (.cons (.var 0) (.nil))) (.oS .le .le (.lit (.int 1)) (.var 0) (.glob LL)))) (.nil)
noncomputable def vA :B:=.cons (.ret (.prim .all (.comp (.cmp .lt (.var 1) (.var 2)) 2 (.zip (.var 0) (.slice (.var 0) (.some (.lit (.int 1))) (.none))) (.none)))) (.nil)
noncomputable def vx(Lk:Nat)(sM:Nat):B:=.cons (.iff (.or (.not (.prim (.inst .tuple) (.var 0))) (.not (.call sM (.cons (.var 1) (.nil))))) (.cons (.ret (.lit (.av false))) (.nil)) (.nil)) (.cons (.iff (.or (.cmp .eq (.prim .len (.var 0)) (.lit (.int 0))) (.not (.prim .all (.comp (.call sM (.cons (.var 2) (.nil))) 0 (.seq (.var 0)) (.none))))) (.cons (.ret (.lit (.av false))) (.nil)) (.nil)) (.cons (.ret (.and (.cmp .ge (.idx (.var 0) (.lit (.int 0))) (.lit (.int 0))) (.and (.cmp .lt (.idx (.var 0) (.neg (.lit (.int 1)))) (.var 1)) (.call Lk (.cons (.var 0) (.nil)))))) (.nil)))
noncomputable def vw(Lh:Nat):B:=.cons (.ret (.and (.prim (.inst .tuple) (.var 0)) (.prim .all (.comp (.call Lh (.cons (.var 2) (.cons (.var 1) (.nil)))) 0 (.seq (.var 0)) (.none))))) (.nil)
noncomputable def vO :B:=.cons (.ret (.prim .all (.comp (.cmp .mem (.var 2) (.var 1)) 0 (.seq (.var 0)) (.none)))) (.nil)
noncomputable def vP(Ll:Nat):B:=.cons (.ret (.prim .any (.comp (.call Ll (.cons (.var 0) (.cons (.var 2) (.nil)))) 0 (.seq (.var 1)) (.none)))) (.nil)
noncomputable def vR(wO:Nat):B:=.cons (.asg 1 (.prim .ff (.var 0))) (.cons (.asg 2 (.lst (.nil))) (.cons (.hM 0 [3] (.seq (.var 1)) (.cons (.asg 4 (.comp (.var 5) 0 (.seq (.var 1)) (.some (.cmp .gt (.prim .len (.var 5)) (.prim .len (.var 3)))))) (.cons (.iff (.not (.call wO (.cons (.var 3) (.cons (.var 4) (.nil))))) (.cons (.app 2 (.var 3)) (.nil)) (.nil)) (.nil)))) (.cons (.ret (.tupI (.seq (.var 2)))) (.nil))))
noncomputable def vQ(wO:Nat):B:=.cons (.ret (.prim .all (.comp (.call wO (.cons (.tup (.cons (.var 2) (.nil))) (.cons (.var 0) (.nil)))) 0 (.eD (.var 1)) (.none)))) (.nil)
noncomputable def vz(Lm:Nat)(Lq:Nat)(Lg:Nat)(Li:Nat):B:=.cons (.iff (.or (.not (.prim (.inst .tuple) (.var 0))) (.cmp .ne (.prim .len (.var 0)) (.lit (.int 2)))) (.cons (.ret (.lit (.av false))) (.nil)) (.nil)) (.cons (.asg 1 (.idx (.var 0) (.lit (.int 0)))) (.cons (.asg 2 (.idx (.var 0) (.lit (.int 1)))) (.cons (.iff (.or (.not (.call Li (.cons (.var 1) (.nil)))) (.not (.call Lg (.cons (.var 2) (.cons (.var 1) (.nil)))))) (.cons (.ret (.lit (.av false))) (.nil)) (.nil)) (.cons (.ret (.and (.cmp .eq (.var 2) (.call Lq (.cons (.var 2) (.nil)))) (.call Lm (.cons (.var 2) (.cons (.var 1) (.nil)))))) (.nil)))))
noncomputable def vS(Lj:Nat)(qx:Nat):B:=.cons (.iff (.not (.call Lj (.cons (.var 0) (.nil)))) (.cons (.raise qx) (.nil)) (.nil)) (.cons (.asg 1 (.lst (.cons (.lit (.str (Str.ofString "net"))) (.cons (.prim .str (.idx (.var 0) (.lit (.int 0)))) (.nil))))) (.cons (.hM 0 [2] (.seq (.idx (.var 0) (.lit (.int 1)))) (.cons (.app 1 (.lit (.str (Str.ofString "cell")))) (.cons (.ext 1 (.comp (.prim .str (.var 3)) 0 (.seq (.var 2)) (.none))) (.nil)))) (.cons (.ret (.rq .join (.lit (.str (Str.ofString " "))) (.var 1))) (.nil))))
noncomputable def vB :B:=.cons (.iff (.cmp .lt (.var 1) (.prim .len (.var 0))) (.cons (.ret (.idx (.var 0) (.var 1))) (.nil)) (.nil)) (.cons (.ret (.lit (.int 0))) (.nil))
noncomputable def vG(Lr:Nat):B:=.cons (.asg 2 (.bin .mod (.bin .mul (.bin .add (.bin .add (.call Lr (.cons (.var 0) (.cons (.var 1) (.nil)))) (.bin .mul (.lit (.int 7919)) (.var 1))) (.lit (.int 1))) (.lit (.int 48271))) (.lit (.int 2147483647)))) (.cons (.ret (.bin .mod (.bin .add (.bin .add (.bin .mul (.var 2) (.var 2)) (.bin .mul (.lit (.int 7)) (.var 2))) (.var 1)) (.lit (.int 2147483629)))) (.nil))
noncomputable def vC :B:=.cons (.asg 2 (.bin .mod (.bin .mul (.bin .add (.bin .add (.var 0) (.bin .mul (.lit (.int 104729)) (.var 1))) (.lit (.int 17))) (.lit (.int 69621))) (.lit (.int 2147483647)))) (.cons (.ret (.bin .mod (.bin .add (.bin .add (.bin .mul (.var 2) (.var 2)) (.bin .mul (.lit (.int 3)) (.var 2))) (.var 1)) (.lit (.int 2147483629)))) (.nil))
noncomputable def vF :B:=.cons (.ret (.cmp .eq (.comp (.var 2) 0 (.seq (.var 0)) (.some (.cmp .ll (.var 2) (.var 1)))) (.lst (.nil)))) (.nil)
noncomputable def vM(Lw:Nat):B:=.cons (.asg 1 (.lst (.nil))) (.cons (.hM 0 [2] (.seq (.prim .ff (.var 0))) (.cons (.iff (.cmp .eq (.comp (.var 3) 0 (.seq (.var 0)) (.some (.and (.cmp .ne (.var 2) (.var 3)) (.call Lw (.cons (.var 2) (.cons (.var 3) (.nil))))))) (.lst (.nil))) (.cons (.app 1 (.var 2)) (.nil)) (.nil)) (.nil))) (.cons (.ret (.tupI (.seq (.var 1)))) (.nil)))
noncomputable def oQ(w3:Nat):B:=.cons (.iff (.cmp .eq (.var 1) (.lit (.int 0))) (.cons (.ret (.lst (.cons (.tup (.nil)) (.nil)))) (.nil)) (.nil)) (.cons (.asg 2 (.lst (.nil))) (.cons (.hM 0 [3] (.eD (.prim .len (.var 0))) (.cons (.asg 2 (.bin .add (.var 2) (.comp (.bin .add (.tup (.cons (.idx (.var 0) (.var 3)) (.nil))) (.var 4)) 0 (.seq (.call w3 (.cons (.slice (.var 0) (.some (.bin .add (.var 3) (.lit (.int 1)))) (.none)) (.cons (.bin .sub (.var 1) (.lit (.int 1))) (.nil))))) (.none)))) (.nil))) (.cons (.ret (.var 2)) (.nil))))
noncomputable def vL(Bw:Nat):B:=.cons (.asg 2 (.comp (.tup (.cons (.var 6) (.nil))) 0 (.eD (.var 1)) (.none))) (.cons (.hM 0 [3] (.eD (.bin .mod (.var 0) (.lit (.int 9)))) (.cons (.asg 4 (.call Bw (.cons (.var 0) (.cons (.var 3) (.nil))))) (.cons (.asg 5 (.tupI (.seq (.comp (.var 6) 0 (.eD (.var 1)) (.some (.cmp .lt (.bin .mod (.call Bw (.cons (.var 4) (.cons (.var 6) (.nil)))) (.lit (.int 5))) (.bin .add (.lit (.int 2)) (.bin .mod (.var 4) (.lit (.int 2)))))))))) (.cons (.iff (.cmp .ne (.var 5) (.tup (.nil))) (.cons (.app 2 (.var 5)) (.nil)) (.nil)) (.nil))))) (.cons (.ret (.var 2)) (.nil)))
noncomputable def vH(w7:Nat)(w3:Nat)(LI:Nat):B:=.cons (.asg 2 (.bin .add (.lit (.int 1)) (.bin .mod (.var 0) (.var 1)))) (.cons (.asg 3 (.bin .mod (.bin .fdiv (.var 0) (.lit (.int 12))) (.lit (.int 8)))) (.cons (.iff (.cmp .eq (.var 3) (.lit (.int 0))) (.cons (.asg 4 (.call w3 (.cons (.tupI (.eD (.var 2))) (.cons (.bin .add (.lit (.int 1)) (.bin .mod (.bin .fdiv (.var 0) (.lit (.int 96))) (.var 2))) (.nil))))) (.nil)) (.cons (.iff (.and (.cmp .eq (.var 3) (.lit (.int 1))) (.cmp .gt (.var 1) (.lit (.int 5)))) (.cons (.asg 2 (.lit (.int 6))) (.cons (.asg 4 (.comp (.tup (.cons (.lit (.int 0)) (.cons (.bin .add (.lit (.int 1)) (.var 5)) (.cons (.bin .add (.lit (.int 1)) (.bin .mod (.bin .add (.var 5) (.lit (.int 1))) (.lit (.int 5)))) (.nil))))) 0 (.eD (.lit (.int 5))) (.none))) (.cons (.asg 4 (.bin .add (.var 4) (.comp (.tup (.cons (.bin .add (.lit (.int 1)) (.var 5)) (.cons (.bin .add (.lit (.int 1)) (.bin .mod (.bin .add (.var 5) (.lit (.int 1))) (.lit (.int 5)))) (.cons (.bin .add (.lit (.int 1)) (.bin .mod (.bin .add (.var 5) (.lit (.int 3))) (.lit (.int 5)))) (.nil))))) 0 (.eD (.lit (.int 5))) (.none)))) (.nil)))) (.cons (.iff (.and (.cmp .eq (.var 3) (.lit (.int 2))) (.cmp .gt (.var 1) (.lit (.int 6)))) (.cons (.asg 2 (.lit (.int 7))) (.cons (.asg 4 (.comp (.tup (.cons (.var 5) (.cons (.bin .mod (.bin .add (.var 5) (.lit (.int 1))) (.lit (.int 7))) (.cons (.bin .mod (.bin .add (.var 5) (.lit (.int 3))) (.lit (.int 7))) (.nil))))) 0 (.eD (.lit (.int 7))) (.none))) (.cons (.asg 4 (.bin .add (.var 4) (.comp (.tup (.cons (.var 5) (.cons (.bin .mod (.bin .add (.var 5) (.lit (.int 2))) (.lit (.int 7))) (.cons (.bin .mod (.bin .add (.var 5) (.lit (.int 3))) (.lit (.int 7))) (.nil))))) 0 (.eD (.lit (.int 7))) (.none)))) (.nil)))) (.cons (.asg 4 (.call LI (.cons (.bin .fdiv (.var 0) (.lit (.int 96))) (.cons (.var 2) (.nil))))) (.nil))) (.nil))) (.nil))) (.cons (.ret (.tup (.cons (.var 2) (.cons (.call w7 (.cons (.comp (.tupI (.seq (.prim .sorted (.var 5)))) 0 (.seq (.var 4)) (.none)) (.nil))) (.nil))))) (.nil))))
noncomputable def vI :B:=.cons (.ret (.and (.prim (.inst .int) (.var 0)) (.and (.not (.prim (.inst .bool) (.var 0))) (.oS .le .le (.var 1) (.var 0) (.var 2))))) (.nil)
noncomputable def vD(w1:Nat):B:=.cons (.iff (.or (.not (.prim (.inst .tuple) (.var 0))) (.cmp .eq (.var 0) (.tup (.nil)))) (.cons (.ret (.lit (.av false))) (.nil)) (.nil)) (.cons (.iff (.cmp .ne (.comp (.var 2) 0 (.seq (.var 0)) (.some (.not (.call w1 (.cons (.var 2) (.cons (.lit (.int 0)) (.cons (.bin .sub (.var 1) (.lit (.int 1))) (.nil)))))))) (.lst (.nil))) (.cons (.ret (.lit (.av false))) (.nil)) (.nil)) (.cons (.ret (.cmp .eq (.comp (.var 2) 0 (.pO (.lit (.int 1)) (.prim .len (.var 0))) (.some (.cmp .ge (.idx (.var 0) (.bin .sub (.var 2) (.lit (.int 1)))) (.idx (.var 0) (.var 2))))) (.lst (.nil)))) (.nil)))
noncomputable def vE(w7:Nat)(Lu:Nat)(w1:Nat):B:=.cons (.iff (.or (.not (.prim (.inst .tuple) (.var 0))) (.or (.cmp .ne (.prim .len (.var 0)) (.lit (.int 2))) (.not (.call w1 (.cons (.idx (.var 0) (.lit (.int 0))) (.cons (.lit (.int 1)) (.cons (.lit (.int 8)) (.nil)))))))) (.cons (.ret (.lit (.av false))) (.nil)) (.nil)) (.cons (.iff (.or (.not (.prim (.inst .tuple) (.idx (.var 0) (.lit (.int 1))))) (.cmp .ne (.comp (.var 3) 0 (.seq (.idx (.var 0) (.lit (.int 1)))) (.some (.not (.call Lu (.cons (.var 3) (.cons (.idx (.var 0) (.lit (.int 0))) (.nil))))))) (.lst (.nil)))) (.cons (.ret (.lit (.av false))) (.nil)) (.nil)) (.cons (.iff (.cmp .ne (.idx (.var 0) (.lit (.int 1))) (.call w7 (.cons (.idx (.var 0) (.lit (.int 1))) (.nil)))) (.cons (.ret (.lit (.av false))) (.nil)) (.nil)) (.cons (.asg 1 (.lst (.nil))) (.cons (.hM 0 [2] (.seq (.idx (.var 0) (.lit (.int 1)))) (.cons (.asg 1 (.bin .add (.var 1) (.iO (.seq (.var 2))))) (.nil))) (.cons (.ret (.cmp .eq (.prim .ff (.var 1)) (.iO (.eD (.idx (.var 0) (.lit (.int 0))))))) (.nil))))))
noncomputable def sr :B:=.cons (.asg 1 (.lst (.cons (.neg (.lit (.int 1))) (.cons (.lit (.int 0)) (.cons (.lit (.int 1)) (.cons (.lit (.int 2)) (.cons (.lit (.int 8)) (.cons (.lit (.int 9)) (.cons (.lit (.av true)) (.cons (.lit (.av false)) (.cons (.lit (.cM)) (.cons (.lit (.str (Str.ofString ""))) (.cons (.lit (.str (Str.ofString "a"))) (.cons (.tup (.nil)) (.cons (.lst (.nil)) (.cons (.tup (.cons (.lit (.int 0)) (.nil))) (.cons (.tup (.cons (.lit (.int 0)) (.cons (.lit (.int 1)) (.nil)))) (.cons (.tup (.cons (.lit (.int 1)) (.cons (.lit (.int 0)) (.nil)))) (.cons (.tup (.cons (.lit (.int 1)) (.cons (.lit (.int 1)) (.nil)))) (.cons (.tup (.cons (.tup (.cons (.lit (.int 0)) (.nil))) (.nil))) (.cons (.lst (.cons (.lit (.int 0)) (.nil))) (.cons (.tup (.cons (.lit (.int 8)) (.nil))) (.nil))))))))))))))))))))))) (.cons (.asg 1 (.bin .add (.var 1) (.lst (.cons (.tup (.cons (.lit (.int 1)) (.cons (.tup (.cons (.tup (.cons (.lit (.int 0)) (.nil))) (.nil))) (.nil)))) (.cons (.tup (.cons (.lit (.int 0)) (.cons (.tup (.nil)) (.nil)))) (.cons (.tup (.cons (.lit (.av true)) (.nil))) (.cons (.tup (.cons (.lit (.int 0)) (.cons (.lit (.int 1)) (.cons (.lit (.int 2)) (.nil))))) (.cons (.tup (.cons (.neg (.lit (.int 1))) (.nil))) (.cons (.tup (.cons (.lit (.int 9)) (.cons (.tup (.cons (.tupI (.eD (.lit (.int 9)))) (.nil))) (.nil)))) (.cons (.tup (.cons (.lit (.int 7)) (.cons (.lit (.int 8)) (.nil)))) (.nil))))))))))) (.cons (.ret (.idx (.var 1) (.bin .mod (.var 0) (.lit (.int 27))))) (.nil)))
noncomputable def kD(LA:Nat)(w6:Nat):B:=.cons (.iff (.and (.cmp .gt (.var 2) (.lit (.int 0))) (.and (.prim (.inst .tuple) (.var 0)) (.and (.cmp .gt (.prim .len (.var 0)) (.lit (.int 0))) (.cmp .gt (.bin .mod (.var 1) (.lit (.int 6))) (.lit (.int 0)))))) (.cons (.asg 3 (.bin .mod (.bin .fdiv (.var 1) (.lit (.int 6))) (.prim .len (.var 0)))) (.cons (.asg 4 (.call w6 (.cons (.idx (.var 0) (.var 3)) (.cons (.bin .fdiv (.bin .fdiv (.var 1) (.lit (.int 6))) (.prim .len (.var 0))) (.cons (.bin .sub (.var 2) (.lit (.int 1))) (.nil)))))) (.cons (.ret (.bin .add (.bin .add (.slice (.var 0) (.none) (.some (.var 3))) (.tup (.cons (.var 4) (.nil)))) (.slice (.var 0) (.some (.bin .add (.var 3) (.lit (.int 1)))) (.none)))) (.nil)))) (.nil)) (.cons (.iff (.and (.prim (.inst .tuple) (.var 0)) (.and (.cmp .gt (.prim .len (.var 0)) (.lit (.int 0))) (.cmp .eq (.bin .mod (.bin .fdiv (.var 1) (.lit (.int 6))) (.lit (.int 2))) (.lit (.int 0))))) (.cons (.ret (.idx (.lst (.cons (.iO (.seq (.var 0))) (.cons (.slice (.var 0) (.none) (.some (.neg (.lit (.int 1))))) (.cons (.bin .add (.var 0) (.slice (.var 0) (.some (.neg (.lit (.int 1)))) (.none))) (.cons (.slice (.var 0) (.some (.lit (.int 1))) (.none)) (.cons (.rev (.var 0)) (.cons (.bin .mul (.var 0) (.lit (.int 2))) (.nil)))))))) (.bin .mod (.bin .fdiv (.var 1) (.lit (.int 12))) (.lit (.int 6))))) (.nil)) (.nil)) (.cons (.iff (.and (.prim (.inst .int) (.var 0)) (.cmp .eq (.bin .mod (.bin .fdiv (.var 1) (.lit (.int 6))) (.lit (.int 2))) (.lit (.int 0)))) (.cons (.ret (.idx (.lst (.cons (.prim .str (.var 0)) (.cons (.neg (.var 0)) (.cons (.bin .add (.var 0) (.lit (.int 1))) (.cons (.cmp .eq (.var 0) (.lit (.int 1))) (.cons (.bin .sub (.var 0) (.lit (.int 1))) (.nil))))))) (.bin .mod (.bin .fdiv (.var 1) (.lit (.int 12))) (.lit (.int 5))))) (.nil)) (.nil)) (.cons (.ret (.call LA (.cons (.bin .fdiv (.var 1) (.lit (.int 6))) (.nil)))) (.nil))))
noncomputable def vN :B:=.cons (.asg 1 (.bin .add (.lit (.str (Str.ofString "net "))) (.prim .str (.idx (.var 0) (.lit (.int 0)))))) (.cons (.hM 0 [2] (.seq (.idx (.var 0) (.lit (.int 1)))) (.cons (.asg 1 (.bin .add (.var 1) (.lit (.str (Str.ofString " cell"))))) (.cons (.hM 0 [3] (.seq (.var 2)) (.cons (.asg 1 (.bin .add (.bin .add (.var 1) (.lit (.str (Str.ofString " ")))) (.prim .str (.var 3)))) (.nil))) (.nil)))) (.cons (.ret (.var 1)) (.nil)))
noncomputable def vJ(oZ:Nat)(qx:Nat):B:=.cons (.mR (.call oZ (.cons (.var 0) (.nil))) qx none) (.cons (.ret (.lit (.av false))) (.nil))
noncomputable def vK(oZ:Nat)(IC:Nat)(IB:Nat)(ID:Nat)(IA:Nat)(qx:Nat)(Iz:Nat):B:=.cons (.mR (.call oZ (.cons (.var 0) (.nil))) Iz (some ⟨1,2,[IC,IB,ID,IA],qx,1000⟩)) (.cons (.ret (.lit (.av false))) (.nil))
noncomputable def sq(oZ:Nat)(LJ:Nat)(Lv:Nat)(LG:Nat)(LF:Nat)(w6:Nat)(w0:Nat)(Lz:Nat):B:=.cons (.asg 1 (.call Lz (.cons (.call w0 (.cons (.var 0) (.cons (.lit (.int 0)) (.nil)))) (.cons (.lit (.int 8)) (.nil))))) (.cons (.asg 2 (.call w0 (.cons (.var 0) (.cons (.lit (.int 1)) (.nil))))) (.cons (.iff (.cmp .eq (.bin .mod (.var 2) (.lit (.int 3))) (.lit (.int 1))) (.cons (.asg 1 (.call w6 (.cons (.var 1) (.cons (.call w0 (.cons (.var 0) (.cons (.lit (.int 2)) (.nil)))) (.cons (.bin .mod (.bin .fdiv (.var 2) (.lit (.int 3))) (.lit (.int 4))) (.nil)))))) (.nil)) (.nil)) (.cons (.iff (.not (.call Lv (.cons (.var 1) (.nil)))) (.cons (.iff (.cmp .eq (.bin .mod (.bin .fdiv (.var 2) (.lit (.int 12))) (.lit (.int 2))) (.lit (.int 0))) (.cons (.ret (.call LF (.cons (.var 1) (.nil)))) (.nil)) (.nil)) (.cons (.ret (.call LG (.cons (.var 1) (.nil)))) (.nil))) (.nil)) (.cons (.asg 3 (.call oZ (.cons (.var 1) (.nil)))) (.cons (.ret (.and (.prim (.inst .str) (.var 3)) (.and (.cmp .eq (.var 3) (.call LJ (.cons (.var 1) (.nil)))) (.cmp .eq (.call oZ (.cons (.var 1) (.nil))) (.var 3))))) (.nil))))))
end bh
end
section
namespace ep
open PySem Den
noncomputable def fds:List fz:=[
 ⟨1,0,bh.Aq⟩,
 ⟨1,0,bh.vy 0 0⟩,
 ⟨1,0,bh.vA⟩,
 ⟨2,0,bh.vx 2 0⟩,
 ⟨2,0,bh.vw 3⟩,
 ⟨2,0,bh.vO⟩,
 ⟨2,0,bh.vP 5⟩,
 ⟨1,4,bh.vR 6⟩,
 ⟨2,0,bh.vQ 6⟩,
 ⟨1,2,bh.vz 8 7 4 1⟩,
 ⟨1,2,bh.vS 9 1⟩,
 ⟨2,0,bh.vB⟩,
 ⟨2,1,bh.vG 11⟩,
 ⟨2,1,bh.vC⟩,
 ⟨2,0,bh.vF⟩,
 ⟨1,2,bh.vM 14⟩,
 ⟨2,2,bh.oQ 16⟩,
 ⟨2,4,bh.vL 13⟩,
 ⟨2,3,bh.vH 15 16 17⟩,
 ⟨3,0,bh.vI⟩,
 ⟨2,0,bh.vD 19⟩,
 ⟨1,2,bh.vE 15 20 19⟩,
 ⟨1,1,bh.sr⟩,
 ⟨3,2,bh.kD 22 23⟩,
 ⟨1,3,bh.vN⟩,
 ⟨1,0,bh.vJ 10 1⟩,
 ⟨1,2,bh.vK 10 2 3 4 5 1 0⟩,
 ⟨1,3,bh.sq 10 24 21 26 25 23 12 18⟩]
noncomputable def cs:List D:=[.int 8]
noncomputable def up:fG:=λc=>match c with|0=>[0,1000]|1=>[1,0,1000]|2=>[2,0,1000]|3=>[3,0,1000]|4=>[4,0,1000]|5=>[5,0,1000]|_=>[]
noncomputable def pg:cI:=⟨up,cs⟩
noncomputable def DW:List (List Str):=[
 ["thing"],
 ["thing"],
 ["row"],
 ["thing","many"],
 ["thing","many"],
 ["cell","other"],
 ["cell","others"],
 ["some","distinct","tops","cell","longer"],
 ["some","many"],
 ["thing","many","tops"],
 ["net","words","top"],
 ["_law_script","_law_k"],
 ["_law_script","_law_k","_law_drawn_here"],
 ["_law_number_here","_law_k","_law_drawn_here"],
 ["_law_cell","_law_other"],
 ["_law_some_here","_law_found","_law_cell"],
 ["_law_cell","_law_size","_law_found","_law_at"],
 ["_law_number_here","_law_many","_law_found","_law_k","_law_drawn_here","_law_cell"],
 ["_law_number_here","_law_most","_law_many","_law_kind","_law_some_here"],
 ["_law_thing","_law_low","_law_high"],
 ["_law_thing","_law_many"],
 ["_law_thing","_law_corners","_law_top"],
 ["_law_number_here","_law_some_here"],
 ["_law_thing","_law_number_here","_law_deep","_law_at","_law_part"],
 ["_law_net_here","_law_found","_law_top","_law_corner"],
 ["_law_thing"],
 ["_law_thing","e","_law_some_here"],
 ["_law_script","_law_thing","_law_number_here","_law_found"]]
noncomputable def gt:Gt:=⟨["is_whole","is_many","is_rising","is_cell","are_cells","lies_in","lies_in_one","uppermost","meet_all_corners","is_net","written","_law_cell_at","_law_mixed","_law_drawn","_law_lies","_law_tops","_law_parts","_law_some","_law_net","_law_number","_law_is_cell","_law_is_net","_law_odd","_law_spoilt","_law_written","_law_refused","_law_refused_by_base","law"],["HoleError","NoNet","NoText","NoRound","NotFree","NoRoom"],["MOST_CORNERS"]⟩
end ep
end
section
namespace Den
section
variable{pg:cI}{Φ:cV}{J:a7}
noncomputable def vr(pg:cI)(Φ:cV)(J:a7)(r:R D)(b:E):R D:=r>>=λx=>gd x>>=λk=>if k then ev pg Φ J b else .ok (.av false)
noncomputable def yL(pg:cI)(Φ:cV)(J:a7)(r:R D)(b:E):R D:=r>>=λx=>gd x>>=λk=>if k then .ok (.av true) else ev pg Φ J b
noncomputable def uk(pg:cI)(Φ:cV)(r:R d6)(b:B):R d6:=r>>=λx=>match x with
 |.b6 c7=>ei pg Φ c7 b
 |.dC d=>.ok (.dC d)
noncomputable def yj(pg:cI)(Φ:cV)(J:a7)(r:R D)(a b:B):R d6:=r>>=λx=>gd x>>=λk=>if k then ei pg Φ J a else ei pg Φ J b
noncomputable def turn(pg:cI)(Φ:cV)(k:Nat)(ts:List Nat)(b:B)(d:D)(J:a7):R d6:=fK k d>>=λai=>ei pg Φ (ly ts ai J) b
noncomputable def elem(pg:cI)(Φ:cV)(J:a7)(e:E)(k:Nat)(c:O)(d:D):R (Option D):=fK k d>>=λai=>kN pg Φ (J++ai) c>>=λb=>if b then ev pg Φ (J++ai) e>>=λy=>.ok (some y) else .ok none
noncomputable def zC(pg:cI)(r:R d6)(k:Nat)(h:Option aV):R d6:=Gk r λc=>jd pg c k h
def wJ(i:Nat){d:D}(h:J[i]?=some (some d)):ev pg Φ J (.var i)=.ok d:=XQ xh h
def oW(i:Nat):ev pg Φ J (.var i)=xh J[i]?:=a6 rfl
def K0{d:D}{r:a7}:ev pg Φ (some d::r) (.var 0)=.ok d:=a6 rfl
def K1{o:Option D}{r:a7}{i:Nat}:ev pg Φ (o::r) (.var (i+1))=ev pg Φ r (.var i):=a6 rfl
def Bj(d:D):ev pg Φ J (.lit d)=.ok d:=a6 rfl
def wI(j:Nat){d:D}(h:pg.cs[j]?=some d):ev pg Φ J (.glob j)=.ok d:=XQ xg h
def KZ(a:A):ev pg Φ J (.tup a)=hl pg Φ J a>>=λds=>.ok (.tup ds):=a6 rfl
def KQ(a:A):ev pg Φ J (.lst a)=hl pg Φ J a>>=λds=>.ok (.lst ds):=a6 rfl
def KI(op:Op)(a b:E):ev pg Φ J (.bin op a b)=ev pg Φ J a>>=λx=>ev pg Φ J b>>=λy=>eK op x y:=a6 rfl
def KS(a:E):ev pg Φ J (.neg a)=ev pg Φ J a>>=λx=>fU x>>=λi=>.ok (.int (-i)):=a6 rfl
def KU(a:E):ev pg Φ J (.not a)=ev pg Φ J a>>=λx=>gd x>>=λb=>.ok (.av (!b)):=a6 rfl
def KL(op:gM)(a b:E):ev pg Φ J (.cmp op a b)=ev pg Φ J a>>=λx=>ev pg Φ J b>>=λy=>df op x y>>=λc=>.ok (.av c):=a6 rfl
def KN(op op':gM)(a b c:E):ev pg Φ J (.oS op op' a b c)=ev pg Φ J a>>=λx=>ev pg Φ J b>>=λy=>df op x y>>=λk=>if k then ev pg Φ J c>>=λz=>df op' y z>>=λcS=>.ok (.av cS) else .ok (.av false):=a6 rfl
def KH(a b:E):ev pg Φ J (.and a b)=vr pg Φ J (ev pg Φ J a) b:=a6 rfl
def KV(a b:E):ev pg Φ J (.or a b)=yL pg Φ J (ev pg Φ J a) b:=a6 rfl
def KP(a b:E):ev pg Φ J (.idx a b)=ev pg Φ J a>>=λx=>ev pg Φ J b>>=λy=>gE x y:=a6 rfl
def KY(a:E)(lo hi:O):ev pg Φ J (.slice a lo hi)=ev pg Φ J a>>=λx=>ma pg Φ J lo>>=λl=>ma pg Φ J hi>>=λh=>lz x l h:=a6 rfl
def KX(a:E):ev pg Φ J (.rev a)=ev pg Φ J a>>=λx=>rK x:=a6 rfl
def KJ(f:Nat)(a:A):ev pg Φ J (.call f a)=hl pg Φ J a>>=λds=>Φ f ds:=a6 rfl
def KW(p:ez)(a:E):ev pg Φ J (.prim p a)=ev pg Φ J a>>=λx=>jw pg.up p x:=a6 rfl
def KR(m:vg)(o a:E):ev pg Φ J (.rq m o a)=ev pg Φ J o>>=λx=>ev pg Φ J a>>=λy=>tL m x y:=a6 rfl
def Bl(s:I):ev pg Φ J (.tupI s)=gA pg Φ J s>>=λds=>.ok (.tup ds):=a6 rfl
def Bk(s:I):ev pg Φ J (.iO s)=gA pg Φ J s>>=λds=>.ok (.lst ds):=a6 rfl
def KO(e:E)(k:Nat)(s:I)(c:O):ev pg Φ J (.comp e k s c)=gA pg Φ J s>>=λds=>lj (cJ (elem pg Φ J e k c) ds)>>=λys=>.ok (.lst ys):=a6 rfl
def yE{α:Type}(a:α):lj (.ok a)=.ok a:=a6 rfl
def Bi:hl pg Φ J .nil=.ok []:=a6 rfl
def Bh(e:E)(a:A):hl pg Φ J (.cons e a)=ev pg Φ J e>>=λx=>hl pg Φ J a>>=λxs=>.ok (x::xs):=a6 rfl
def KD:ma pg Φ J .none=.ok none:=a6 rfl
def KG(e:E):ma pg Φ J (.some e)=ev pg Φ J e>>=λx=>fU x>>=λi=>.ok (some i):=a6 rfl
def Kx:kN pg Φ J .none=.ok true:=a6 rfl
def Ky(e:E):kN pg Φ J (.some e)=ev pg Φ J e>>=λx=>gd x:=a6 rfl
def wH(e:E):gA pg Φ J (.seq e)=ev pg Φ J e>>=λx=>dt x:=a6 rfl
def Kz(a:E):gA pg Φ J (.eD a)=ev pg Φ J a>>=λx=>fU x>>=λi=>ir 0 i:=a6 rfl
def KA(a b:E):gA pg Φ J (.pO a b)=ev pg Φ J a>>=λx=>fU x>>=λi=>ev pg Φ J b>>=λy=>fU y>>=λj=>ir i j:=a6 rfl
def KC(a b:E):gA pg Φ J (.zip a b)=ev pg Φ J a>>=λx=>ev pg Φ J b>>=λy=>uZ x y:=a6 rfl
def Vc(xs ys:List D):uZ (.tup xs) (.tup ys)=.ok (gb xs ys):=a6 rfl
def HV(b:Bool):gd (.av b)=.ok b:=a6 rfl
def HW(i:Int):fU (.int i)=.ok i:=a6 rfl
def SJ(xs:List D):dt (.tup xs)=.ok xs:=a6 rfl
def SI(xs:List D):dt (.lst xs)=.ok xs:=a6 rfl
def Ig(d:D):fK 0 d=.ok [some d]:=a6 rfl
def Ih(x y:D):fK 2 (.tup [x,y])=.ok [some x,some y]:=a6 rfl
def HB(b:E):vr pg Φ J (.ok (.av true)) b=ev pg Φ J b:=a6 rfl
def HA(b:E):vr pg Φ J (.ok (.av false)) b=.ok (.av false):=a6 rfl
def Qm(b:E):yL pg Φ J (.ok (.av true)) b=.ok (.av true):=a6 rfl
def Ql(b:E):yL pg Φ J (.ok (.av false)) b=ev pg Φ J b:=a6 rfl
def Bo:ei pg Φ J .nil=.ok (.b6 J):=a6 rfl
def Bn(s:S)(b:B):ei pg Φ J (.cons s b)=uk pg Φ (ex pg Φ J s) b:=a6 rfl
def Fn(b:B):uk pg Φ (.ok (.b6 J)) b=ei pg Φ J b:=a6 rfl
def SG(d:D)(b:B):uk pg Φ (.ok (.dC d)) b=.ok (.dC d):=a6 rfl
def SF(c:Nat)(b:B):uk pg Φ (.exc c) b=.exc c:=a6 rfl
def Bp(i:Nat)(e:E):ex pg Φ J (.asg i e)=ev pg Φ J e>>=λd=>.ok (.b6 (J.set i (some d))):=a6 rfl
def K5(i:Nat)(e:E):ex pg Φ J (.app i e)=lW J[i]?>>=λ_=>ev pg Φ J e>>=λd=>sl J[i]? d>>=λx=>.ok (.b6 (J.set i (some x))):=a6 rfl
def K7(i:Nat)(e:E):ex pg Φ J (.ext i e)=lW J[i]?>>=λ_=>ev pg Φ J e>>=λd=>sJ J[i]? d>>=λx=>.ok (.b6 (J.set i (some x))):=a6 rfl
def La(e:E):ex pg Φ J (.ret e)=ev pg Φ J e>>=λd=>.ok (.dC d):=a6 rfl
def Bq(c:E)(a b:B):ex pg Φ J (.iff c a b)=yj pg Φ J (ev pg Φ J c) a b:=a6 rfl
def NV(a b:B):yj pg Φ J (.ok (.av true)) a b=ei pg Φ J a:=a6 rfl
def CW(a b:B):yj pg Φ J (.ok (.av false)) a b=ei pg Φ J b:=a6 rfl
def K8(k:Nat)(ts:List Nat)(s:I)(b:B):ex pg Φ J (.hM k ts s b)=gA pg Φ J s>>=λds=>forL (turn pg Φ k ts b) ds J:=a6 rfl
def K6(e:E):ex pg Φ J (.expr e)=ev pg Φ J e>>=λ_=>.ok (.b6 J):=a6 rfl
def K9(c:Nat):ex pg Φ J (.raise c)=.exc c:=a6 rfl
def Br(e:E)(k:Nat)(h:Option aV):ex pg Φ J (.mR e k h)=zC pg (ex pg Φ J (.expr e)) k h:=a6 rfl
def Gj(x:d6)(k:Nat)(h:Option aV):zC pg (.ok x) k h=.ok x:=a6 rfl
def Gi(c k:Nat)(h:Option aV):zC pg (.exc c) k h=jd pg c k h:=a6 rfl
def RM{nl:Nat}{b:B}(x:D):dc pg Φ ⟨1,nl,b⟩ [x]=jO (ei pg Φ (some x::List.replicate nl none) b):=a6 rfl
def RN{nl:Nat}{b:B}(x y:D):dc pg Φ ⟨2,nl,b⟩ [x,y]=jO (ei pg Φ (some x::some y::List.replicate nl none) b):=a6 rfl
def RO{nl:Nat}{b:B}(x y z:D):dc pg Φ ⟨3,nl,b⟩ [x,y,z]=jO (ei pg Φ (some x::some y::some z::List.replicate nl none) b):=a6 rfl
def Kj(d:D):jO (.ok (.dC d))=.ok d:=a6 rfl
def Ki(J:a7):jO (.ok (.b6 J))=.ok .cM:=a6 rfl
def Kh(c:Nat):jO (.exc c)=.exc c:=a6 rfl
def Q4(up:fG)(d:D):jw up .len d=lb d:=a6 rfl
def Q3(up:fG)(t:Ty)(d:D):jw up (.inst t) d=hU up d t>>=λb=>.ok (.av b):=a6 rfl
def Q1(up:fG)(d:D):jw up .all d=dt d>>=λxs=>kA xs>>=λb=>.ok (.av b):=a6 rfl
def Q2(up:fG)(d:D):jw up .any d=dt d>>=λxs=>lT xs>>=λb=>.ok (.av b):=a6 rfl
def Q5(up:fG)(d:D):jw up .sorted d=dt d>>=λxs=>sorted xs:=a6 rfl
def Q6(up:fG)(d:D):jw up .ff d=dt d>>=λxs=>ff xs:=a6 rfl
def Q7(up:fG)(i:Int):jw up .str (.int i)=jy i:=a6 rfl
def Dq(xs:List D):lb (.tup xs)=.ok (.int xs.length):=a6 rfl
def OZ(xs:List D):lb (.lst xs)=.ok (.int xs.length):=a6 rfl
def AR(x y:D):df .eq x y=fk x y:=a6 rfl
def AS(x y:D):df .ne x y=j8 (fk x y):=a6 rfl
def wj(x y:D):df .lt x y=nV x y:=a6 rfl
def cmp_gt(i j:Int):df .gt (.int i) (.int j)=.ok (decide (j<i)):=a6 rfl
def Je(i j:Int):df .le (.int i) (.int j)=.ok (decide (i<=j)):=a6 rfl
def Jd(i j:Int):df .ge (.int i) (.int j)=.ok (decide (j<=i)):=a6 rfl
def Jg(x:D)(ys:List D):df .mem x (.tup ys)=hY x ys:=a6 rfl
def Jf(x:D)(ys:List D):df .mem x (.lst ys)=hY x ys:=a6 rfl
def Ji(x:D)(ys:List D):df .ll x (.tup ys)=j8 (hY x ys):=a6 rfl
def Jh(x:D)(ys:List D):df .ll x (.lst ys)=j8 (hY x ys):=a6 rfl
def Pc(i j:Int):nV (.int i) (.int j)=.ok (decide (i<j)):=a6 rfl
def PQ(b:Bool):j8 (.ok b)=.ok (!b):=a6 rfl
def Ks(i j:Int):fk (.int i) (.int j)=.ok (i==j):=a6 rfl
def Kq(i j:Bool):fk (.av i) (.av j)=.ok (i==j):=a6 rfl
def add_int(i j:Int):eK .add (.int i) (.int j)=.ok (.int (i+j)):=a6 rfl
def sub_int(i j:Int):eK .sub (.int i) (.int j)=.ok (.int (i-j)):=a6 rfl
def add_str(x y:PySem.Str):eK .add (.str x) (.str y)=if x.length+y.length<=SZ then .ok (.str (x++y)) else .bad:=a6 rfl
def qo(xs ys:List D):eK .add (.tup xs) (.tup ys)=if xs.length+ys.length<=SZ then .ok (.tup (xs++ys)) else .bad:=a6 rfl
def oM(xs ys:List D):eK .add (.lst xs) (.lst ys)=if xs.length+ys.length<=SZ then .ok (.lst (xs++ys)) else .bad:=a6 rfl
def mul_int(i j:Int):eK .mul (.int i) (.int j)=if (-gv<i/\i<gv)\/(-gv<j/\j<gv) then .ok (.int (i*j)) else .bad:=a6 rfl
def DQ(xs:List D)(j:Int):eK .mul (.tup xs) (.int j)=if 2<=j/\xs≠[]/\xs.length*j.toNat<=SZ/\j<1000 then .ok (.tup (List.replicate j.toNat xs).flatten) else .bad:=a6 rfl
def Bv(i j:Int):eK .fdiv (.int i) (.int j)=if 0<j/\j<1073741824 then .ok (.int (i / j)) else .bad:=a6 rfl
def mod_int(i j:Int):eK .mod (.int i) (.int j)=if 0<j then .ok (.int (i%j)) else .bad:=a6 rfl
def js(xs:List D)(i:Int):gE (.tup xs) (.int i)=(match eX xs i with|some d=>.ok d|none=>.bad):=a6 rfl
def yh(xs:List D)(i:Int):gE (.lst xs) (.int i)=(match eX xs i with|some d=>.ok d|none=>.bad):=a6 rfl
def ur(xs:List D)(lo hi:Option Int):lz (.tup xs) lo hi=.ok (.tup (cut xs lo hi)):=a6 rfl
def FF(xs:List D)(lo hi:Option Int):lz (.lst xs) lo hi=.ok (.lst (cut xs lo hi)):=a6 rfl
def RH(xs:List D):rK (.tup xs)=.ok (.tup xs.reverse):=a6 rfl
def AI(xs:List D):lW (some (some (.lst xs)))=.ok ():=a6 rfl
def qr(xs:List D)(d:D):sl (some (some (.lst xs))) d=if xs.length<SZ then .ok (.lst (xs++[d])) else .bad:=a6 rfl
def Bu(xs ys:List D):sJ (some (some (.lst xs))) (.lst ys)=if xs.length+ys.length<=SZ then .ok (.lst (xs++ys)) else .bad:=a6 rfl
def SN{o v:Option D}{r:a7}:(o::r:a7).set 0 v=v::r:=a6 rfl
def SQ{o v:Option D}{r:a7}{i:Nat}:(o::r:a7).set (i+1) v=o::r.set i v:=a6 rfl
def LR{o:Option D}{r:a7}:(o::r:a7)[0]?=some o:=a6 rfl
def L1{o:Option D}{r:a7}{i:Nat}:(o::r:a7)[i+1]?=r[i]?:=a6 rfl
def RF{α:Type}(x:α):List.replicate 0 x=[]:=a6 rfl
def RG{α:Type}(n:Nat)(x:α):List.replicate (n+1) x=x::List.replicate n x:=a6 rfl
def Uw(i:Nat)(b:B)(d:D):turn pg Φ 0 [i] b d J=ei pg Φ (J.set i (some d)) b:=a6 rfl
def Ux(i j:Nat)(b:B)(x y:D):turn pg Φ 2 [i,j] b (.tup [x,y]) J=ei pg Φ ((J.set i (some x)).set j (some y)) b:=a6 rfl
def Ke(e:E)(c:O)(d:D):elem pg Φ J e 0 c d=kN pg Φ (J++[some d]) c>>=λb=>if b then ev pg Φ (J++[some d]) e>>=λy=>.ok (some y) else .ok none:=a6 rfl
def Kf(e:E)(c:O)(x y:D):elem pg Φ J e 2 c (.tup [x,y])=kN pg Φ (J++[some x,some y]) c>>=λb=>if b then ev pg Φ (J++[some x,some y]) e>>=λy=>.ok (some y) else .ok none:=a6 rfl
def C1(up:fG)(d:D):hU up d .int=.ok (match d with|.int _=>true|.av _=>true|_=>false):=a6 rfl
def NY(up:fG)(xs:List D):hU up (.tup xs) .tuple=.ok true:=a6 rfl
end
end Den
end
section
def Den.aU:=And.intro (And.intro (And.intro (And.intro (And.intro (And.intro (@Den.K0) (And.intro (@Den.K1) (@Den.Bj))) (And.intro (And.intro (@Den.KZ) (@Den.KQ)) (And.intro (@Den.KI) (@Den.KS)))) (And.intro (And.intro (@Den.KU) (And.intro (@Den.KL) (@Den.KN))) (And.intro (And.intro (@Den.KH) (@Den.KV)) (And.intro (@Den.KP) (@Den.KY))))) (And.intro (And.intro (And.intro (@Den.KX) (And.intro (@Den.KJ) (@Den.KW))) (And.intro (And.intro (@Den.Bl) (@Den.Bk)) (And.intro (@Den.KO) (@Den.yE)))) (And.intro (And.intro (And.intro (@Den.Bi) (@Den.Bh)) (And.intro (@Den.KD) (@Den.KG))) (And.intro (And.intro (@Den.Kx) (@Den.Ky)) (And.intro (@Den.wH) (@Den.Kz)))))) (And.intro (And.intro (And.intro (And.intro (@Den.KA) (And.intro (@Den.KC) (@Den.Vc))) (And.intro (And.intro (@Den.HV) (@Den.HW)) (And.intro (@Den.SJ) (@Den.SI)))) (And.intro (And.intro (And.intro (@Den.Ig) (@Den.Ih)) (And.intro (@Den.HB) (@Den.HA))) (And.intro (And.intro (@Den.Qm) (@Den.Ql)) (And.intro (@Den.Bo) (@Den.Bn))))) (And.intro (And.intro (And.intro (@Den.Fn) (And.intro (@Den.SG) (@Den.SF))) (And.intro (And.intro (@Den.Bp) (@Den.K5)) (And.intro (@Den.AI) (@Den.K7)))) (And.intro (And.intro (And.intro (@Den.La) (@Den.Bq)) (And.intro (@Den.NV) (@Den.CW))) (And.intro (And.intro (@Den.K8) (@Den.K6)) (And.intro (@Den.K9) (@Den.Br))))))) (And.intro (And.intro (And.intro (And.intro (And.intro (@Den.Gj) (And.intro (@Den.Gi) (@Den.RM))) (And.intro (And.intro (@Den.RN) (@Den.RO)) (And.intro (@Den.Kj) (@Den.Ki)))) (And.intro (And.intro (@Den.Kh) (And.intro (@Den.Q4) (@Den.Q3))) (And.intro (And.intro (@Den.Q1) (@Den.Q2)) (And.intro (@Den.Q5) (@Den.Q6))))) (And.intro (And.intro (And.intro (@Den.Q7) (And.intro (@Den.Dq) (@Den.OZ))) (And.intro (And.intro (@Den.AR) (@Den.AS)) (And.intro (@Den.wj) (@Den.cmp_gt)))) (And.intro (And.intro (And.intro (@Den.Je) (@Den.Jd)) (And.intro (@Den.Jg) (@Den.Jf))) (And.intro (And.intro (@Den.Ji) (@Den.Jh)) (And.intro (@Den.Pc) (@Den.PQ)))))) (And.intro (And.intro (And.intro (And.intro (@Den.Ks) (And.intro (@Den.Kq) (@Den.add_int))) (And.intro (And.intro (@Den.sub_int) (@Den.ur)) (And.intro (@Den.FF) (@Den.RH)))) (And.intro (And.intro (And.intro (@Den.SN) (@Den.SQ)) (And.intro (@Den.LR) (@Den.L1))) (And.intro (And.intro (@Den.RF) (@Den.RG)) (And.intro (@Den.Uw) (@Den.Ux))))) (And.intro (And.intro (And.intro (@Den.Ke) (And.intro (@Den.Kf) (@Den.NY))) (And.intro (And.intro (@Den.R.ip) (@Den.R.Lb)) (And.intro (@List.cons_append.{0}) (@List.nil_append.{0})))) (And.intro (And.intro (And.intro (@List.length_cons.{0}) (@List.length_nil.{0})) (And.intro (@YR) (@Xl.{1}))) (And.intro (And.intro (@XJ) (@Zu)) (And.intro (@Wk) (@WM.{1})))))))
end
section
namespace bH
open Den
theorem qC{f:D->R (Option D)}{g:D->Option D}:∀{ds:List D},(∀d∈ds,f d=.ok (g d))->cJ f ds=.ok (ds.filterMap g)
 |[],_=>rfl
 |d::ds,h=>by
  have aa:=h d List.mem_cons_self;have h2:=qC (f:=f) (g:=g) (ds:=ds) λx af=>h x (List.mem_cons_of_mem _ af)
  unfold cJ;rw[aa];simp only[R.ip];rw[h2];simp only[R.ip,List.filterMap_cons];cases g d<;>rfl
def AX{f:D->R (Option D)}{g:D->D}{ds:List D}(h:∀d∈ds,f d=.ok (some (g d))):cJ f ds=.ok (ds.map g):=by
 rw[qC (g:=λd=>some (g d)) h]
 congr 1
 induction ds with
 |nil=>rfl
 |cons d ds aN=>simp
theorem vV{α:Type}(p:α->Bool):∀xs:List α,hK (xs.map λx=>.av (p x))=some (xs.map p)
 |[]=>rfl
 |x::xs=>by simp only[WA,hK,vV p xs,Option.map_some]
def nc{α:Type}(p:α->Bool)(xs:List α):kA (xs.map λx=>.av (p x))=.ok (xs.all p):=by
 unfold kA;rw[vV];simp only[List.all_map];rfl
def HC{α:Type}(p:α->Bool)(xs:List α):lT (xs.map λx=>.av (p x))=.ok (xs.any p):=by
 unfold lT;rw[vV];simp only[List.any_map];rfl
theorem BM{α:Type}{f:α->D}{g:D->a7->R d6}(I:List α->a7->Prop)(all:List α):∀(xs pre:List α)(J:a7),all=pre++xs->I pre J ->
  (∀pre x post J,all=pre++x::post->I pre J->∃c7,g (f x) J=.ok (.b6 c7)/\I (pre++[x]) c7)->∃c7,forL g (xs.map f) J=.ok (.b6 c7)/\I all c7
 |[],pre,J,e,h,_=>⟨J,rfl,by rw[e];simpa using h⟩
 |x::xs,pre,J,e,h,ag=>by
  obtain⟨Ve,e1,dI⟩:=ag pre x xs J e h;obtain⟨oy,e2,es⟩:=BM I all xs (pre++[x]) Ve (by rw[e];simp) dI ag
  refine⟨oy,?_,es⟩;simp only[WA,forL,e1,R.ip];exact e2
def mc{α:Type}{f:α->D}{g:D->a7->R d6}(I:List α->a7->Prop)(xs:List α)(J:a7)(h:I [] J)(ag:∀pre x post J,xs=pre++x::post->I pre J->∃c7,g (f x) J=.ok (.b6 c7)/\I (pre++[x]) c7):∃c7,forL g (xs.map f) J=.ok (.b6 c7)/\I xs c7 :=
 BM I xs xs [] J rfl h ag
noncomputable def aK(c:List Int):D:=.tup (c.map .int)
theorem wC:∀a b:List Int,kM (a.map .int) (b.map .int)=decide (a=b)
 |[],[]=>rfl
 |[],_::_=>rfl
 |_::_,[]=>rfl
 |x::a,y::b=>by
  show(x==y&&kM (a.map .int) (b.map .int))=_;rw[wC a b]
  by_cases aa:x=y
  .subst aa;by_cases h2:a=b<;>simp[h2]
  .simp[aa]
def sG(a b:List Int):g4 (aK a) (aK b)=decide (a=b):=wC a b
theorem Bb:∀a b:List (List Int),kM (a.map aK) (b.map aK)=decide (a=b)
 |[],[]=>rfl
 |[],_::_=>rfl
 |_::_,[]=>rfl
 |x::a,y::b=>by
  show(g4 (aK x) (aK y)&&kM (a.map aK) (b.map aK))=_;rw[sG,Bb a b]
  by_cases aa:x=y
  .subst aa;by_cases h2:a=b<;>simp[h2]
  .simp[aa]
noncomputable def lexLt:List Int->List Int->Bool
 |[],[]=>false
 |[],_::_=>true
 |_::_,[]=>false
 |x::xs,y::ys=>if x=y then lexLt xs ys else decide (x<y)
theorem rm:∀a b:List Int,nU (a.map .int) (b.map .int)=some (lexLt a b)
 |[],[]=>rfl
 |[],_::_=>rfl
 |_::_,[]=>rfl
 |x::a,y::b=>by
  show(if (x==y)=true then nU (a.map .int) (b.map .int) else some (decide (x<y)))=some (if x=y then lexLt a b else decide (x<y));rw[rm a b]
  by_cases h:x=y<;>simp[h]
def tF(a b:List Int):mu (aK a) (aK b)=some (lexLt a b):=rm a b
def Pk(x:Int)(xs:List Int):memD (.int x) (xs.map .int)=decide (x∈xs):=by
 unfold memD
 induction xs with
 |nil=>simp
 |cons y ys aN =>
  rw[WA,List.any_cons,aN];show(y==x||_)=_
  by_cases h:y=x
  .subst h;simp
  .have:¬x=y:=λe=>h e.symm
   simp[h,this]
theorem Du:∀a:List Int,lexLt a a=false
 |[]=>rfl
 |x::a=>by simp[lexLt,Du a]
theorem Dv:∀{a b c:List Int},lexLt a b=true->lexLt b c=true->lexLt a c=true
 |[],[],_,h,_=>by simp[lexLt]at h
 |[],_::_,[],_,h=>by simp[lexLt]at h
 |[],_::_,_::_,_,_=>rfl
 |_::_,[],_,h,_=>by simp[lexLt]at h
 |_::_,_::_,[],_,h=>by simp[lexLt]at h
 |x::a,y::b,z::c,aa,h2=>by
  simp only[lexLt]at *
  split at aa<;>split at h2
  .rename_i e1 e2;subst e1;subst e2;rw[if_pos rfl];exact Dv aa h2
  .rename_i e1 e2;subst e1;rw[if_neg e2];exact h2
  .rename_i e1 e2;subst e2;rw[if_neg e1];exact aa
  .rename_i e1 e2;simp only[WH]at aa h2;rw[if_neg (by omega)];simp;omega
theorem Dt:∀a b:List Int,a≠b->lexLt a b=true\/lexLt b a=true
 |[],[],h=>absurd rfl h
 |[],_::_,_=>.inl rfl
 |_::_,[],_=>.inr rfl
 |x::a,y::b,h=>by
  simp only[lexLt]
  by_cases e:x=y
  .subst e;have h':a≠b:=λe=>h (by rw[e])
   simpa using Dt a b h'
  .have bj:¬y=x:=λz=>e z.symm
   rw[if_neg e,if_neg bj];simp only[WH];omega
section
variable{α:Type}
noncomputable def ins(lt:α->α->Bool)(x:α):List α->List α
 |[]=>[x]
 |y::ys=>if lt y x=true then y::ins lt x ys else x::y::ys
noncomputable def cp(lt:α->α->Bool):List α->List α
 |[]=>[]
 |x::xs=>ins lt x (cp lt xs)
noncomputable def cv[DecidableEq α]:List α->List α
 |[]=>[]
 |x::xs=>if x∈xs then cv xs else x::cv xs
variable{lt:α->α->Bool}
theorem CZ{f:α->D}(h:∀a b,mu (f a) (f b)=some (lt a b))(x:α):∀ys:List α,tq (f x) (ys.map f)=(ins lt x ys).map f
 |[]=>rfl
 |y::ys=>by
  simp only[WA,tq,ins,h,Xu]
  split
  .simp[CZ h x ys]
  .rfl
theorem lA{f:α->D}(h:∀a b,mu (f a) (f b)=some (lt a b)):∀xs:List α,hD (xs.map f)=(cp lt xs).map f
 |[]=>rfl
 |x::xs=>by simp only[WA,hD,cp,lA h xs,CZ h]
theorem qD[DecidableEq α]{f:α->D}(h:∀a b,g4 (f a) (f b)=decide (a=b)):∀xs:List α,kG (xs.map f)=(cv xs).map f
 |[]=>rfl
 |x::xs=>by
  have e:(xs.map f).any (g4 (f x))=decide (x∈xs):=by
   rw[List.any_map]
   induction xs with
   |nil=>simp
   |cons y ys aN=>simp only[List.any_cons,aN,Function.comp,h,Wo];by_cases q:x=y<;>simp[q]
  simp only[WA,kG,cv,e,qD h xs,WH]
  split<;>rfl
theorem tI(x z:α):∀ys:List α,z∈ins lt x ys<->z=x\/z∈ys
 |[]=>by simp[ins]
 |y::ys=>by
  unfold ins
  split
  .simp only[Wo,tI x z ys];constructor
   .rintro(h|h|h)
    .exact .inr (.inl h)
    .exact .inl h
    .exact .inr (.inr h)
   .rintro(h|h|h)
    .exact .inr (.inl h)
    .exact .inl h
    .exact .inr (.inr h)
  .simp
theorem mw(z:α):∀xs:List α,z∈cp lt xs<->z∈xs
 |[]=>by simp[cp]
 |x::xs=>by unfold cp;rw[tI,mw z xs];simp
theorem Dp(x:α):∀ys:List α,(ins lt x ys).length=ys.length+1
 |[]=>rfl
 |y::ys=>by unfold ins;split<;>simp[Dp x ys]
theorem pz:∀xs:List α,(cp lt xs).length=xs.length
 |[]=>rfl
 |x::xs=>by unfold cp;rw[Dp,pz xs];simp
theorem j4[DecidableEq α](z:α):∀xs:List α,z∈cv xs<->z∈xs
 |[]=>by simp[cv]
 |x::xs=>by
  unfold cv
  split
  .rename_i h;rw[j4 z xs,Wo];exact⟨.inr,λq=>q.elim (λe=>e▸h) id⟩
  .simp[j4 z xs]
theorem nY[DecidableEq α]:∀xs:List α,(cv xs).Nodup
 |[]=>Zv
 |x::xs=>by
  unfold cv
  split
  .exact nY xs
  .rename_i h;exact Xp.mpr ⟨λq=>h ((j4 x xs).mp q),nY xs⟩
structure gx(lt:α->α->Bool):Prop where
 gm:∀a,lt a a=false
 dn:∀{a b c},lt a b=true->lt b c=true->lt a c=true
 conn:∀a b,a≠b->lt a b=true\/lt b a=true
noncomputable def fh(lt:α->α->Bool)(xs:List α):Prop:=xs.Pairwise λa b=>lt a b=true
theorem An(L:gx lt)(x:α):∀{ys:List α},fh lt ys->x∉ys->fh lt (ins lt x ys)
 |[],_,_=>XX _ _
 |y::ys,h,af=>by
  obtain⟨aa,h2⟩:=WS.mp h;have gk:x≠y:=λe=>af (by simp[e])
  unfold ins
  split
  .rename_i q;refine WS.mpr ⟨λz hz=>?_,An L x h2 λq=>af (List.mem_cons_of_mem _ q)⟩
   rcases(tI x z ys).mp hz with e|e
   .subst e;exact q
   .exact aa z e
  .rename_i q;have cB:lt x y=true:=(L.conn x y gk).resolve_right q;refine WS.mpr ⟨λz hz=>?_,h⟩
   rcases Wo.mp hz with e|e
   .subst e;exact cB
   .exact L.dn cB (aa z e)
theorem oO(L:gx lt):∀{xs:List α},xs.Nodup->fh lt (cp lt xs)
 |[],_=>List.Pairwise.nil
 |x::xs,h=>An L x (oO L (Xp.mp h).2) λq=>(Xp.mp h).1 ((mw x xs).mp q)
def fh.nodup(L:gx lt){xs:List α}(h:fh lt xs):xs.Nodup:=ZJ (λ{a b} q e=>by subst e;rw[L.gm]at q;cases q) h
theorem oN(L:gx lt):∀{xs ys:List α},fh lt xs->fh lt ys->(∀z,z∈xs<->z∈ys)->xs=ys
 |[],[],_,_,_=>rfl
 |[],y::_,_,_,h=>absurd ((h y).mpr List.mem_cons_self) (by simp)
 |x::_,[],_,_,h=>absurd ((h x).mp List.mem_cons_self) (by simp)
 |x::xs,y::ys,af,aA,h=>by
  obtain⟨aM,bt⟩:=WS.mp af;obtain⟨uX,zP⟩:=WS.mp aA;have e:x=y:=by
   rcases Wo.mp ((h x).mp List.mem_cons_self) with e|e
   .exact e
   .rcases Wo.mp ((h y).mpr List.mem_cons_self) with bj|bj
    .exact bj.symm
    .have a:=uX x e;have b:=aM y bj;have:=L.dn a b;rw[L.gm]at this;cases this
  subst e;have b6:x∉xs:=λq=>by have:=aM x q;rw[L.gm]at this;cases this
  have PV:x∉ys:=λq=>by have:=uX x q;rw[L.gm]at this;cases this
  rw[oN L bt zP λz=>?_]
  constructor
  .intro hz;rcases Wo.mp ((h z).mp (List.mem_cons_of_mem _ hz)) with e|e
   .subst e;exact absurd hz b6
   .exact e
  .intro hz;rcases Wo.mp ((h z).mpr (List.mem_cons_of_mem _ hz)) with e|e
   .subst e;exact absurd hz PV
   .exact e
def Tg(L:gx lt){xs:List α}(h:fh lt xs):cp lt xs=xs:=oN L (oO L (h.nodup L)) h λz=>mw z xs
theorem oU[DecidableEq α]:∀xs:List α,(cv xs).length<=xs.length
 |[]=>Wm _
 |x::xs=>by unfold cv;have:=oU xs;split<;>simp<;>omega
theorem nZ[DecidableEq α]:∀{xs ys:List α},xs.Nodup->(∀z∈xs,z∈ys)->xs.length<=ys.length
 |[],_,_,_=>Ws _
 |x::xs,ys,h,ag=>by
  obtain⟨aa,h2⟩:=Xp.mp h;have af:=ag x List.mem_cons_self;have:=nZ (xs:=xs) (ys:=ys.erase x) h2 λz hz=>by
   have dG:z≠x:=λe=>aa (e▸hz)
   exact(List.mem_erase_of_ne dG).mpr (ag z (List.mem_cons_of_mem _ hz))
  rw[List.length_erase_of_mem af]at this;have ax:0<ys.length:=List.length_pos_of_mem af;simp only[List.length_cons];omega
end
def rk:gx lexLt:=⟨Du,Dv,Dt⟩
noncomputable def ltI(a b:Int):Bool:=decide (a<b)
def hX:gx ltI:=⟨λa=>by simp[ltI],λaa h2=>by simp[ltI]at *;omega,λa b h=>by simp[ltI];omega⟩
def tG(is:List Int):(is.map D.int).all (fc 0)=true:=by simp[List.all_map,fc]
def A3{cs:List (List Int)}(aw:∀c∈cs,c≠[]):(cs.map aK).all yo=true:=by
 rw[List.all_map,Wt];intro c aj;cases c with
 |nil=>exact absurd rfl (aw [] aj)
 |cons x c=>show(fc 0 (.int x)&&(c.map D.int).all (fc 0))=true;rw[tG];rfl
def Ta{cs:List Int}(h:cs.length<=75):sorted (cs.map .int)=.ok (.lst ((cp ltI cs).map .int)):=by
 unfold sorted hB;rw[tG];simp[lA (f:=D.int) (lt:=ltI) λa b=>rfl,h]
def FP{cs:List (List Int)}(aw:∀c∈cs,c≠[])(h:(cv cs).length<=75):ff (cs.map aK)=.ok (.lst ((cp lexLt (cv cs)).map aK)):=by
 unfold ff hB;rw[A3 aw,qD sG,lA (lt:=lexLt) tF];simp[h]
def Ba(a b:Int):g4 (.int a) (.int b)=decide (a=b):=Bool.beq_eq_decide_eq a b
def Th{cs:List Int}(h:(cv cs).length<=75):ff (cs.map .int)=.ok (.lst ((cp ltI (cv cs)).map .int)):=by
 unfold ff hB;rw[tG,qD (f:=D.int) Ba,lA (f:=D.int) (lt:=ltI) λa b=>rfl]
 simp[h]
def rO(n:Nat)(i:Int):cD n (.int i)=true:=by cases n<;>rfl
def zd(n:Nat)(c:List Int):(c.map D.int).all (cD n)=true:=by simp[List.all_map,rO]
def zc(n:Nat)(c:List Int):cD (n+1) (aK c)=true:=zd n c
def Fx(n:Nat)(cs:List (List Int)):(cs.map aK).all (cD (n+1))=true:=by simp[List.all_map,zc]
def DL(x:Int)(c:List Int):hY (.int x) (c.map .int)=.ok (decide (x∈c)):=by
 unfold hY;rw[rO,zd,Pk];rfl
def Kr(a b:List Int):fk (aK a) (aK b)=.ok (decide (a=b)):=by unfold fk;rw[zc,zc,sG];rfl
def Bd(a b:List (List Int)):fk (.tup (a.map aK)) (.tup (b.map aK))=.ok (decide (a=b)):=by
 have h:∀a:List (List Int),cD 60 (.tup (a.map aK))=true:=λa=>Fx 58 a
 unfold fk;rw[h,h];exact XQ R.ok (Bb a b)
def Kt(a b:List Int):fk (.lst (a.map .int)) (.lst (b.map .int))=.ok (decide (a=b)):=by
 have h:∀a:List Int,cD 60 (.lst (a.map .int))=true:=λa=>zd 59 a
 unfold fk;rw[h,h];exact XQ R.ok (wC a b)
def qI{ys:List D}(h:ys.all (cD 59)=true):fk (.lst ys) (.lst [])=.ok ys.isEmpty:=by
 have aa:cD 60 (.lst ys)=true:=h;have h2:cD 60 (.lst [])=true:=rfl;unfold fk;rw[aa,h2];cases ys<;>rfl
def Be{ys:List D}(h:ys.all (cD 59)=true):fk (.tup ys) (.tup [])=.ok ys.isEmpty:=by
 have aa:cD 60 (.tup ys)=true:=h;have h2:cD 60 (.tup [])=true:=rfl;unfold fk;rw[aa,h2];cases ys<;>rfl
end bH
end
section
namespace bH
open Den
section
variable{α:Type}{lt:α->α->Bool}
noncomputable def oL(lt:α->α->Bool)(xs:List α):Prop:=xs.Pairwise λa b=>lt b a=false
theorem Eu(x:α):∀ys:List α,(ins lt x ys).Perm (x::ys)
 |[]=>Zw _
 |y::ys=>by
  unfold ins
  split
  .exact(List.Perm.cons y (Eu x ys)).trans (List.Perm.swap x y ys)
  .exact Zw _
theorem Ew:∀xs:List α,(cp lt xs).Perm xs
 |[]=>Zw _
 |x::xs=>(Eu x (cp lt xs)).trans (List.Perm.cons x (Ew xs))
def Dy(L:gx lt){a b:α}(h:lt a b=true):lt b a=false:=by
 cases q:lt b a with
 |false=>rfl
 |true=>have:=L.dn h q;rw[L.gm]at this;cases this
def Dx(L:gx lt){a b c:α}(aa:lt b a=false)(h2:lt c b=false):lt c a=false:=by
 cases q:lt c a with
 |false=>rfl
 |true =>
  by_cases e:a=b
  .subst e;rw[h2]at q;cases q
  .rcases L.conn a b e with w|w
   .have:=L.dn q w;rw[h2]at this;cases this
   .rw[aa]at w;cases w
theorem GI(L:gx lt)(x:α):∀{ys:List α},oL lt ys->oL lt (ins lt x ys)
 |[],_=>XX _ _
 |y::ys,h=>by
  obtain⟨aa,h2⟩:=WS.mp h;unfold ins
  split
  .rename_i c;refine WS.mpr ⟨λz hz=>?_,GI L x h2⟩
   rcases(tI x z ys).mp hz with rfl|hz
   .exact Dy L c
   .exact aa z hz
  .rename_i c;refine WS.mpr ⟨λz hz=>?_,h⟩
   have c:lt y x=false:=by simpa using c
   rcases Wo.mp hz with rfl|hz
   .exact c
   .exact Dx L c (aa z hz)
theorem GJ(L:gx lt):∀xs:List α,oL lt (cp lt xs)
 |[]=>.nil
 |x::xs=>GI L x (GJ L xs)
theorem GK(L:gx lt):∀{xs ys:List α},oL lt xs->oL lt ys->xs.Perm ys->xs=ys
 |[],ys,_,_,p=>(List.Perm.nil_eq p)
 |x::xs,[],_,_,p=>by have:=p.length_eq;simp at this
 |x::xs,y::ys,af,aA,p=>by
  obtain⟨aM,bt⟩:=WS.mp af;obtain⟨uX,zP⟩:=WS.mp aA;have e:x=y:=by
   apply ZE;intro ne;have gk:y∈xs:=by
    rcases Wo.mp (p.mem_iff.mpr List.mem_cons_self) with q|q
    .exact absurd q.symm ne
    .exact q
   have yf:x∈ys:=by
    rcases Wo.mp (p.mem_iff.mp List.mem_cons_self) with q|q
    .exact absurd q ne
    .exact q
   rcases L.conn x y ne with w|w
   .rw[uX x yf]at w;cases w
   .rw[aM y gk]at w;cases w
  subst e;rw[GK L bt zP (List.Perm.cons_inv p)]
end
end bH
end
section
namespace fp
open PySem PySem.SetTable
noncomputable def lN(xs:Array Nat):Prop:=∀(i j a b:Nat),i<j->xs[i]?=some a->xs[j]?=some b->a<b
noncomputable def ve(xs:Array Nat)(j p:Nat):Prop:=∀(q a:Nat),q<p->xs[q]?=some a->a<j
noncomputable def u9(xs:Array Nat)(j p:Nat):Prop:=∀(q a:Nat),p<=q->xs[q]?=some a->j<=a
theorem xk{xs:Array Nat}(aZ:lN xs)(j:Nat):∀(fuel lo hi:Nat),hi-lo<=fuel->lo<=hi->hi<=xs.size->ve xs j lo->u9 xs j hi ->
  below.go xs j fuel lo hi<=xs.size/\ve xs j (below.go xs j fuel lo hi)/\u9 xs j (below.go xs j fuel lo hi)
 |0,lo,hi,aa,h2,h3,au,bJ=>by
  have e:lo=hi:=by omega
  subst e;exact⟨h3,au,bJ⟩
 |fuel+1,lo,hi,aa,h2,h3,au,bJ=>by
  unfold below.go
  by_cases c2:lo<hi
  .rw[if_pos c2];have hm:(lo+hi) / 2<xs.size:=by omega
   have aT:xs[(lo+hi) / 2]?=some xs[(lo+hi) / 2]:=Wy hm;have hd:xs.getD ((lo+hi) / 2) j=xs[(lo+hi) / 2]:=by simp[Array.getD,hm]
   simp only[hd]
   by_cases aj:xs[(lo+hi) / 2]<j
   .rw[if_pos aj];refine xk aZ j fuel _ _ (by omega) (by omega) h3 ?_ bJ
    intro q a aF aC
    by_cases e:q=(lo+hi) / 2
    .subst e;rw[aT]at aC;cases aC;exact aj
    .have:=aZ q ((lo+hi) / 2) a _ (by omega) aC aT;omega
   .rw[if_neg aj];refine xk aZ j fuel _ _ (by omega) (by omega) (by omega) au ?_
    intro q a aF aC
    by_cases e:q=(lo+hi) / 2
    .subst e;rw[aT]at aC;cases aC;omega
    .have:=aZ ((lo+hi) / 2) q _ a (by omega) aT aC;omega
  .rw[if_neg c2];have e:lo=hi:=by omega
   subst e;exact⟨h3,au,bJ⟩
def vT{xs:Array Nat}(aZ:lN xs)(j:Nat):below xs j<=xs.size/\ve xs j (below xs j)/\u9 xs j (below xs j):=by
 unfold below;refine xk aZ j _ _ _ (by omega) (by omega) (by omega) (λq a aF _=>by omega) (λq a aF aC=>?_)
 have:=(WO.mp aC).1;omega
def below_at{xs:Array Nat}(aZ:lN xs){i j:Nat}(h:xs[i]?=some j):below xs j=i:=by
 obtain⟨aa,h2,h3⟩:=vT aZ j
 by_cases cu:i<below xs j
 .exact absurd (h2 i j cu h) (Xz _)
 .by_cases bg:below xs j=i
  .exact bg
  .have hi:=(WO.mp h).1;have aT:xs[below xs j]?=some (xs[below xs j]'(by omega)):=Wy (by omega)
   have a:=h3 _ _ (Wm _) aT;have b:=aZ (below xs j) i _ _ (by omega) aT h
   omega
def od{t:SetTable}(aZ:lN t.place){i j:Nat}(h:t.place[i]?=some j):t.slot j=.live i:=by
 unfold slot;rw[below_at aZ h];simp[h]
def S5{t:SetTable}(hd:t.dummies=#[]){j:Nat}(h:∀i:Nat,t.place[i]?≠some j):t.slot j=.empty:=by
 unfold slot has;have h0:(t.place[below t.place j]?==some j)=false:=by
  rw[XZ];exact h _
 simp only[h0,hd];simp
noncomputable def hJ(m:Nat)(p:Probe):Probe :=
 if p.more>0 then { p with j:=p.j+1,more:=p.more-1 } else
 { p with j:=(leap m p.i p.perturb).1,more:=runEnd m (leap m p.i p.perturb).1-(leap m p.i p.perturb).1,i:=(leap m p.i p.perturb).1,perturb:=(leap m p.i p.perturb).2 }
def Hv(t:SetTable)(p:Probe):t.advance p=hJ t.mask p:=rfl
noncomputable def NW(m:Nat)(h:Int):Probe:={ j:=bits h%(m+1),more:=runEnd m (bits h%(m+1))-bits h%(m+1),i:=bits h%(m+1),perturb:=bits h,dummy:=none }
noncomputable def pr(m:Nat)(h:Int):Nat->Probe
 |0=>NW m h
 |n+1=>hJ m (pr m h n)
noncomputable def b7(m:Nat)(h:Int)(n:Nat):Nat:=(pr m h n).j
theorem ED(m:Nat)(h:Int):∀n,(pr m h n).dummy=none
 |0=>rfl
 |n+1=>by
  have aN:=ED m h n;show(hJ m (pr m h n)).dummy=none;unfold hJ
  split<;>exact aN
def ud{m i:Nat}(h:i<=m):runEnd m i<=m/\i<=runEnd m i/\runEnd m i<=i+9:=by
 unfold runEnd;split<;>omega
def Dm(m i p:Nat):(leap m i p).1<=m:=by
 unfold leap;have:(i*5+1+p / 32)%(m+1)<m+1:=aaa _ (by omega)
 show(i*5+1+p / 32)%(m+1)<=m;omega
theorem EE(m:Nat)(h:Int):∀n,(pr m h n).j+(pr m h n).more<=m
 |0=>by
  have:bits h%(m+1)<m+1:=aaa _ (by omega)
  have:=ud (m:=m) (i:=bits h%(m+1)) (by omega)
  show bits h%(m+1)+(runEnd m (bits h%(m+1))-bits h%(m+1))<=m;omega
 |n+1=>by
  have aN:=EE m h n;show(hJ m (pr m h n)).j+(hJ m (pr m h n)).more<=m;unfold hJ
  split
  .show(pr m h n).j+1+((pr m h n).more-1)<=m;omega
  .have:=Dm m (pr m h n).i (pr m h n).perturb;have:=ud this;show(leap m (pr m h n).i (pr m h n).perturb).1+(runEnd m (leap m (pr m h n).i (pr m h n).perturb).1-(leap m (pr m h n).i (pr m h n).perturb).1)<=m;omega
def zk(m:Nat)(h:Int)(n:Nat):b7 m h n<=m:=by have:=EE m h n;unfold b7;omega
noncomputable def run(m:Nat)(h:Int):Nat->Nat×Nat
 |0=>(bits h%(m+1),bits h)
 |r+1=>leap m (run m h r).1 (run m h r).2
def y8(m:Nat)(h:Int):∀r,(run m h r).1<=m
 |0=>by have:bits h%(m+1)<m+1:=aaa _ (by omega);show bits h%(m+1)<=m;omega
 |r+1=>Dm _ _ _
noncomputable def st(m:Nat)(h:Int)(r d:Nat):Probe:={ j:=(run m h r).1+d,more:=runEnd m (run m h r).1-(run m h r).1-d,i:=(run m h r).1,perturb:=(run m h r).2,dummy:=none }
noncomputable def len(m:Nat)(h:Int)(r:Nat):Nat:=runEnd m (run m h r).1-(run m h r).1
def OY(m:Nat)(h:Int)(r:Nat):len m h r<=9:=by have:=ud (y8 m h r);unfold len;omega
def Ae{m:Nat}{h:Int}{r d:Nat}(hd:d<len m h r):hJ m (st m h r d)=st m h r (d+1):=by
 unfold hJ;have:(st m h r d).more>0:=by show runEnd m (run m h r).1-(run m h r).1-d>0;unfold len at hd;omega
 rw[if_pos this];show Probe.mk _ _ _ _ _=Probe.mk _ _ _ _ _;congr 1
def Hw{m:Nat}{h:Int}{r:Nat}:hJ m (st m h r (len m h r))=st m h (r+1) 0:=by
 unfold hJ;have:¬(st m h r (len m h r)).more>0:=by show ¬(runEnd m (run m h r).1-(run m h r).1-len m h r>0);unfold len;omega
 rw[if_neg this];rfl
theorem vv(m:Nat)(h:Int):∀r:Nat,∃n,n<=10*r/\pr m h n=st m h r 0/\∀k,k<n->∃bC d',bC<r/\d'<=len m h bC/\pr m h k=st m h bC d'
 |0=>⟨0,Wm _,rfl,λk aq=>absurd aq (Nat.not_lt_zero k)⟩
 |r+1=>by
  obtain⟨n,aw,e,aq⟩:=vv m h r;have walk:∀d,d<=len m h r->pr m h (n+d)=st m h r d:=by
   intro d
   induction d with
   |zero=>intro _;exact e
   |succ d aN =>
    intro hd;show hJ m (pr m h (n+d))=_;rw[aN (by omega)]
    exact Ae (by omega)
  have au:=OY m h r;refine⟨n+len m h r+1,by omega,?_,λk eZ=>?_⟩
  .show hJ m (pr m h (n+len m h r))=_;rw[walk _ (Wm _)];exact Hw
  .by_cases c:k<n
   .obtain⟨bC,d',a,b,c⟩:=aq k c;exact⟨bC,d',by omega,b,c⟩
   .refine⟨r,k-n,by omega,by omega,?_⟩
    have:=walk (k-n) (by omega)
    rw[show n+(k-n)=k by omega]at this
    exact this
def H5(m:Nat)(h:Int)(r d:Nat)(hd:d<=len m h r):∃n,n<=10*r+d/\pr m h n=st m h r d/\∀k,k<n->∃bC d',d'<=len m h bC/\(bC<r\/(bC=r/\d'<d))/\pr m h k=st m h bC d':=by
 obtain⟨n,aw,e,aq⟩:=vv m h r;have walk:∀d,d<=len m h r->pr m h (n+d)=st m h r d:=by
  intro d
  induction d with
  |zero=>intro _;exact e
  |succ d aN =>
   intro hd;show hJ m (pr m h (n+d))=_;rw[aN (by omega)]
   exact Ae (by omega)
 refine⟨n+d,by omega,walk d hd,λk eZ=>?_⟩
 by_cases c:k<n
 .obtain⟨bC,d',a,b,c⟩:=aq k c;exact⟨bC,d',b,.inl a,c⟩
 .refine⟨r,k-n,by omega,.inr ⟨rfl,by omega⟩,?_⟩
  have:=walk (k-n) (by omega)
  rw[show n+(k-n)=k by omega]at this
  exact this
def Ik(h:Int):bits h<2 ^ 64:=by
 unfold bits;have aa:=Int.emod_nonneg h (show(2 ^ 64:Int)≠0 by decide)
 have h2:=Int.emod_lt_of_pos h (show(0:Int)<2 ^ 64 by decide)
 have e:((2:Int) ^ 64)=18446744073709551616:=by decide
 rw[e]at aa h2 ⊢;omega
theorem Ex(m:Nat)(h:Int):∀r,(run m h r).2=bits h / 32 ^ r
 |0=>by simp[run]
 |r+1=>by
  show(run m h r).2 / 32=_;rw[Ex m h r,Nat.div_div_eq_div_mul,Nat.pow_succ]
def QN(m:Nat)(h:Int)(r:Nat)(aZ:13<=r):(run m h r).2=0:=by
 rw[Ex];refine Nat.div_eq_of_lt (WI (Ik h) (Xt (show 2 ^ 64<=32 ^ 13 by decide) (Za (by decide) aZ)))
noncomputable def gH(m:Nat):Nat->Nat->Nat
 |0,i=>i
 |n+1,i=>(gH m n i*5+1)%(m+1)
theorem E3(m:Nat)(h:Int):∀n,(run m h (13+n)).1=gH m n (run m h 13).1
 |0=>rfl
 |n+1=>by
  show(leap m (run m h (13+n)).1 (run m h (13+n)).2).1=_;rw[E3 m h n,QN m h (13+n) (by omega)]
  rfl
noncomputable def tY(m:Nat):Nat->Nat->List Nat
 |0,_=>[]
 |n+1,i=>i::tY m n ((i*5+1)%(m+1))
theorem Ea(m:Nat):∀n i,gH m n ((i*5+1)%(m+1))=gH m (n+1) i
 |0,i=>rfl
 |n+1,i=>by
  show(gH m n ((i*5+1)%(m+1))*5+1)%(m+1)=(gH m (n+1) i*5+1)%(m+1);rw[Ea m n i]
theorem tZ(m:Nat):∀a b i,gH m (a+b) i=gH m b (gH m a i)
 |a,0,i=>rfl
 |a,b+1,i=>by
  show(gH m (a+b) i*5+1)%(m+1)=_;rw[tZ m a b i];rfl
theorem DN(m:Nat):∀n i j,j∈tY m n i->∃k,k<n/\gH m k i=j
 |0,i,j,h=>by simp[tY]at h
 |n+1,i,j,h=>by
  rcases Wo.mp h with e|h
  .exact⟨0,by omega,e.symm⟩
  .obtain⟨k,aq,e⟩:=DN m n _ j h;exact⟨k+1,by omega,by rw[<- Ea];exact e⟩
noncomputable def gc(m:Nat):Prop:=m=7\/m=31\/m=127
noncomputable def sC(m:Nat):Bool:=(List.range (m+1)).all λj=>(tY m (m+1) 0).contains j
def Jt:sC 7=true:=by decide +kernel
def Js:sC 31=true:=by decide +kernel
def Jr:sC 127=true:=by decide +kernel
def QJ:gH 7 8 0=0:=by decide +kernel
def QI:gH 31 32 0=0:=by decide +kernel
def QH:gH 127 128 0=0:=by decide +kernel
def gc.eA{m:Nat}(h:gc m):sC m=true/\gH m (m+1) 0=0:=by
 rcases h with rfl|rfl|rfl
 .exact⟨Jt,QJ⟩
 .exact⟨Js,QI⟩
 .exact⟨Jr,QH⟩
def gc.EP{m:Nat}(h:gc m){j:Nat}(aG:j<=m):∃k,k<m+1/\gH m k 0=j:=by
 have:=Wt.mp h.eA.1 j (WN.mpr (by omega))
 exact DN m (m+1) 0 j (by simpa using this)
def gc.reach{m:Nat}(h:gc m){i j:Nat}(hi:i<=m)(aG:j<=m):∃k,k<m+1/\gH m k i=j:=by
 obtain⟨a,aC,a8⟩:=h.EP hi;obtain⟨b,ae,fX⟩:=h.EP aG
 by_cases c:a<=b
 .refine⟨b-a,by omega,?_⟩
  rw[<- a8,<- tZ,show a+(b-a)=b by omega];exact fX
 .refine⟨m+1-a+b,by omega,?_⟩
  rw[<- a8,<- tZ,show a+(m+1-a+b)=(m+1)+b by omega,tZ,h.eA.2];exact fX
def gc.met{m:Nat}(hm:gc m)(h:Int){j:Nat}(aG:j<=m):∃r,r<m+14/\(run m h r).1=j:=by
 obtain⟨k,aq,e⟩:=hm.reach (y8 m h 13) aG;exact⟨13+k,by omega,by rw[E3];exact e⟩
def gc.Pl{m:Nat}(hm:gc m)(h:Int){j:Nat}(aG:j<=m):∃n,n<10*turns m/\b7 m h n=j:=by
 obtain⟨r,aZ,e⟩:=hm.met h aG;obtain⟨n,aw,nu,_⟩:=vv m h r;refine⟨n,by unfold turns;omega,?_⟩
 unfold b7;rw[nu];show(run m h r).1+0=j;omega
def least{P:Nat->Prop}(n:Nat)(h:P n):∃k,k<=n/\P k/\∀q,q<k->¬P q:=by
 induction n using Nat.strongRecOn with
 |ind n aN =>
  by_cases c:∃q,q<n/\P q
  .obtain⟨q,aF,ax⟩:=c;obtain⟨k,a,b,d⟩:=aN q aF ax;exact⟨k,by omega,b,d⟩
  .exact⟨n,Wm _,h,λq aF ax=>c ⟨q,aF,ax⟩⟩
def hole{xs:Array Nat}{m:Nat}(aZ:lN xs)(ag:xs.size<=m):∃j,j<=m/\∀i:Nat,xs[i]?≠some j:=by
 by_cases c:∃j,j<=m/\∀i:Nat,xs[i]?≠some j
 .exact c
 .exfalso;have all:∀j,j<=m->∃i:Nat,xs[i]?=some j:=λj aG=>by
   by_cases cQ:∃i:Nat,xs[i]?=some j
   .exact cQ
   .exact absurd ⟨j,aG,λi e=>cQ ⟨i,e⟩⟩ c
  have ge:∀j,j<=m->∀i:Nat,xs[i]?=some j->j<=i:=by
   intro j
   induction j with
   |zero=>intro _ i _;omega
   |succ j aN =>
    intro aG i hi;obtain⟨ck,d3⟩:=all j (by omega)
    have:=aN (by omega) ck d3
    by_cases cu:i<ck
    .have:=aZ i ck _ _ cu hi d3;omega
    .by_cases bg:i=ck
     .subst bg;rw[hi]at d3;injection d3 with e;omega
     .omega
  obtain⟨i,hi⟩:=all m (Wm _);have aa:=ge m (Wm _) i hi;have h2:=(WO.mp hi).1;omega
def BC{t:SetTable}(hm:gc t.mask)(aZ:lN t.place)(hd:t.dummies=#[])(ag:t.place.size<=t.mask)(h:Int):
  ∃N,N<10*turns t.mask/\t.slot (b7 t.mask h N)=.empty/\(∀i:Nat,t.place[i]?≠some (b7 t.mask h N))/\∀k,k<N->∃i:Nat,t.place[i]?=some (b7 t.mask h k):=by
 obtain⟨j,aG,aw⟩:=hole aZ ag;obtain⟨n,hS,e⟩:=hm.Pl h aG;obtain⟨N,aa,h2,h3⟩:=least (P:=λn=>∀i:Nat,t.place[i]?≠some (b7 t.mask h n)) n (by rw[e];exact aw)
 refine⟨N,by omega,S5 hd h2,h2,λk aq=>?_⟩
 by_cases c:∃i:Nat,t.place[i]?=some (b7 t.mask h k)
 .exact c
 .exact absurd (λi e=>c ⟨i,e⟩) (h3 k aq)
theorem yX {t : SetTable} {h : Int} {hashAt : Nat -> Int} (aZ : lN t.place) {N : Nat} (he : t.slot (b7 t.mask h N) = .empty) (au : ∀ k, k < N -> ∃ i : Nat, t.place[i]? = some (b7 t.mask h k)) :
    ∀ (fuel n : Nat), n <= N -> N - n < fuel ->
      (∃ k i, n <= k /\ k < N /\ t.place[i]? = some (b7 t.mask h k) /\ hashAt i = h /\ (∀ cS, n <= cS -> cS < k -> ∀ ck : Nat, t.place[ck]? = some (b7 t.mask h cS) -> hashAt ck ≠ h) /\ probe.go t hashAt h fuel (pr t.mask h n) = some (.candidate (b7 t.mask h k) i (pr t.mask h (k + 1))))
      \/ ((∀ cS, n <= cS -> cS < N -> ∀ ck : Nat, t.place[ck]? = some (b7 t.mask h cS) -> hashAt ck ≠ h) /\ probe.go t hashAt h fuel (pr t.mask h n) = some (.empty (b7 t.mask h N) none))
  | 0, n, aa, h2 => by omega
  | fuel + 1, n, aa, h2 => by
    unfold probe.go
    by_cases c : n = N
    · subst c
      have e : t.slot (pr t.mask h n).j = .empty := he
      rw [e]
      refine .inr ⟨fun cS a b => by omega, ?_⟩
      show some (Met.empty _ (pr t.mask h n).dummy) = _
      rw [ED]; rfl
    · obtain ⟨i, hi⟩ := au n (by omega)
      have e : t.slot (pr t.mask h n).j = .live i := od aZ hi
      rw [e]
      by_cases q : hashAt i = h
      · refine .inl ⟨n, i, Wm _, by omega, hi, q, fun cS a b => by omega, ?_⟩
        simp only [q, beq_self_eq_true, Xl]
        rfl
      · have cB : (hashAt i == h) = false := by rw [XZ]; exact q
        simp only [cB, Wk, WM]
        have ne : ∀ ck : Nat, t.place[ck]? = some (b7 t.mask h n) -> hashAt ck ≠ h := fun ck d3 => by
          have bj := od aZ d3
          rw [od aZ hi] at bj
          injection bj with bj
          rw [<- bj]; exact q
        rw [Hv]
        show (∃ k i, _ /\ _ /\ _ /\ _ /\ _ /\ probe.go t hashAt h fuel (pr t.mask h (n + 1)) = _) \/ (_ /\ probe.go t hashAt h fuel (pr t.mask h (n + 1)) = _)
        rcases yX aZ he au fuel (n + 1) (by omega) (by omega) with ⟨k, dI, a, b, d, e1, f, g⟩ | ⟨f, g⟩
        · refine .inl ⟨k, dI, by omega, b, d, e1, fun cS p1 p2 ck p3 => ?_, g⟩
          by_cases cQ : cS = n
          · subst cQ; exact ne ck p3
          · exact f cS (by omega) p2 ck p3
        · refine .inr ⟨fun cS p1 p2 ck p3 => ?_, g⟩
          by_cases cQ : cS = n
          · subst cQ; exact ne ck p3
          · exact f cS (by omega) p2 ck p3
end fp
end
section
namespace fp
open PySem PySem.SetTable
def tr {α : Type} (xs : Array α) (p : Nat) (x : α) (ax : p <= xs.size) (i : Nat) :
    (insertAt xs p x)[i]? = if i < p then xs[i]? else if i = p then some x else xs[i - 1]? := by
  unfold insertAt
  rw [Array.getElem?_append, Array.getElem?_push, Array.getElem?_extract, Array.getElem?_extract, WR, Xm]
  have e : min p xs.size - 0 = p := by omega
  rw [e, YR]
  by_cases cu : i < p
  · simp only [if_pos (show i < p + 1 by omega), if_neg (show ¬ i = p by omega), if_pos cu]
  · by_cases bg : i = p
    · simp only [if_pos (show i < p + 1 by omega), if_neg cu, if_pos bg]
    · simp only [if_neg (show ¬ i < p + 1 by omega), if_neg cu, if_neg bg, Nat.min_self]
      have e2 : min p xs.size = p := by omega
      by_cases b2 : i - (p + 1) < xs.size - p
      · rw [if_pos b2]; congr 1; omega
      · rw [if_neg b2]; rw [YS (by omega)]
def pw{α:Type}(xs:Array α)(p:Nat)(x:α)(ax:p<=xs.size):(insertAt xs p x).size=xs.size+1:=by
 unfold insertAt;rw[XY,WR,Xm,Xm];omega
def C0{α:Type}(xs:Array α)(p:Nat)(x:α)(ax:p<=xs.size):(insertAt xs p x).toList.Perm (x::xs.toList):=by
 have e:(insertAt xs p x).toList=xs.toList.take p++x::xs.toList.drop p:=by
  unfold insertAt;simp[List.extract_eq_drop_take];rw[Xn (by simp)]
 rw[e];refine(List.perm_middle).trans (List.Perm.cons x ?_);rw[X3]
structure Tab{α:Type}(ah:Array (Int×α))(t:SetTable):Prop where
 h7:lN t.place
 le:∀i j:Nat,t.place[i]?=some j->j<=t.mask
 dJ:t.place.size=ah.size
 qE:t.dummies=#[]
 lh:gc t.mask
 full:t.place.size<=t.mask
 path:∀(i j:Nat)(e:Int×α),t.place[i]?=some j->ah[i]?=some e->∃n,b7 t.mask e.1 n=j/\∀k,k<n->∃ck:Nat,t.place[ck]?=some (b7 t.mask e.1 k)
section
variable{α:Type}{ah:Array (Int×α)}{t:SetTable}
theorem Tab.fill(T:Tab ah t):t.fill=ah.size:=by unfold SetTable.fill;rw[T.qE,T.dJ];simp
def Tab.met (T : Tab ah t) {h : Int} {N : Nat} (he : ∀ i : Nat, t.place[i]? ≠ some (b7 t.mask h N)) {i : Nat} {e : Int × α} (hi : ah[i]? = some e) (bJ : e.1 = h) : ∃ k, k < N /\ t.place[i]? = some (b7 t.mask h k) := by
  have ag := (WO.mp hi).1
  rw [<- T.dJ] at ag
  have ax : t.place[i]? = some t.place[i] := Wy ag
  obtain ⟨n, aw, ay⟩ := T.path i _ e ax hi
  subst bJ
  refine ⟨n, ?_, by rw [aw]; exact ax⟩
  by_cases c : n < N
  · exact c
  · exfalso
    by_cases bg : n = N
    · subst bg; exact he i (by rw [aw]; exact ax)
    · obtain ⟨ck, d3⟩ := ay N (by omega)
      exact he ck d3
theorem Tab.put (T : Tab ah t) {h : Int} {x : α} {N : Nat} (he : ∀ i : Nat, t.place[i]? ≠ some (b7 t.mask h N)) (au : ∀ k, k < N -> ∃ i : Nat, t.place[i]? = some (b7 t.mask h k)) (hf : t.place.size + 1 <= t.mask) :
    Tab (insertAt ah (t.put (b7 t.mask h N)).2 (h, x)) (t.put (b7 t.mask h N)).1 /\ (t.put (b7 t.mask h N)).2 <= ah.size /\ (t.put (b7 t.mask h N)).1.mask = t.mask /\ (t.put (b7 t.mask h N)).1.plain = t.plain /\ (t.put (b7 t.mask h N)).1.led = t.led
      /\ (t.put (b7 t.mask h N)).1.place.size = ah.size + 1 := by
  obtain ⟨cf, dQ, d9⟩ := vT T.h7 (b7 t.mask h N)
  generalize aG : b7 t.mask h N = j at he cf dQ d9 ⊢
  have hd : has t.dummies j = false := by unfold has; rw [T.qE]; simp
  have e1 : t.put j = ({ t with place := insertAt t.place (below t.place j) j }, below t.place j) := by
    unfold SetTable.put; simp only [hd]; rfl
  rw [e1]
  generalize below t.place j = p at cf dQ d9
  have sv : p <= ah.size := by rw [<- T.dJ]; exact cf
  have pg := tr t.place p j cf
  have wz := tr ah p (h, x) sv
  have H7 : ∀ (q a : Nat), p <= q -> t.place[q]? = some a -> j < a := fun q a aF aC => by
    have := d9 q a aF aC
    have : j ≠ a := fun e => he q (by rw [e]; exact aC)
    omega
  have mem : ∀ v i : Nat, t.place[i]? = some v -> ∃ ck : Nat, (insertAt t.place p j)[ck]? = some v := fun v i hi => by
    by_cases c : i < p
    · exact ⟨i, by rw [pg, if_pos c]; exact hi⟩
    · exact ⟨i + 1, by rw [pg, if_neg (show ¬ i + 1 < p by omega), if_neg (show ¬ i + 1 = p by omega)]; exact hi⟩
  refine ⟨⟨?_, ?_, ?_, T.qE, T.lh, ?_, ?_⟩, sv, rfl, rfl, rfl, ?_⟩
  · intro i ck a b MO aC ae
    dsimp only at aC ae
    rw [pg] at aC ae
    by_cases cu : i < p
    · rw [if_pos cu] at aC
      by_cases bg : ck < p
      · rw [if_pos bg] at ae; exact T.h7 i ck a b MO aC ae
      · rw [if_neg bg] at ae
        by_cases b2 : ck = p
        · rw [if_pos b2] at ae; injection ae with ae; subst ae; exact dQ i a cu aC
        · rw [if_neg b2] at ae; exact T.h7 i (ck - 1) a b (by omega) aC ae
    · rw [if_neg cu] at aC
      rw [if_neg (show ¬ ck < p by omega), if_neg (show ¬ ck = p by omega)] at ae
      by_cases b2 : i = p
      · rw [if_pos b2] at aC; injection aC with aC; subst aC; exact H7 (ck - 1) b (by omega) ae
      · rw [if_neg b2] at aC; exact T.h7 (i - 1) (ck - 1) a b (by omega) aC ae
  · intro i v aL
    dsimp only at aL ⊢
    rw [pg] at aL
    split at aL
    · exact T.le _ _ aL
    · split at aL
      · injection aL with aL; rw [<- aL, <- aG]; exact zk _ _ _
      · exact T.le _ _ aL
  · show (insertAt t.place p j).size = (insertAt ah p (h, x)).size
    rw [pw _ _ _ cf, pw _ _ _ sv, T.dJ]
  · show (insertAt t.place p j).size <= t.mask
    rw [pw _ _ _ cf]; exact hf
  · intro i v e aL jj
    dsimp only at aL ⊢
    rw [pg] at aL
    rw [wz] at jj
    have old : ∀ iN : Nat, t.place[iN]? = some v -> ah[iN]? = some e -> ∃ n, b7 t.mask e.1 n = v /\ ∀ k, k < n -> ∃ ck : Nat, (insertAt t.place p j)[ck]? = some (b7 t.mask e.1 k) := fun iN a b => by
      obtain ⟨n, aw, ay⟩ := T.path iN v e a b
      exact ⟨n, aw, fun k aq => let ⟨ck, d3⟩ := ay k aq; mem _ _ d3⟩
    by_cases cu : i < p
    · rw [if_pos cu] at aL jj; exact old i aL jj
    · rw [if_neg cu] at aL jj
      by_cases bg : i = p
      · rw [if_pos bg] at aL jj
        injection aL with aL; injection jj with jj
        subst jj
        exact ⟨N, by rw [aG]; exact aL, fun k aq => let ⟨ck, d3⟩ := au k aq; mem _ _ d3⟩
      · rw [if_neg bg] at aL jj; exact old _ aL jj
  · show (insertAt t.place p j).size = ah.size + 1
    rw [pw _ _ _ cf, T.dJ]
end
theorem yF:∀(k:Nat)(l:List Nat),l.Nodup->(∀x∈l,x<k)->l.length<=k
 |0,l,_,h=>by
  cases l with
  |nil=>simp
  |cons a r=>exact absurd (h a List.mem_cons_self) (Nat.not_lt_zero a)
 |k+1,l,dB,h=>by
  by_cases c:k∈l
  .have aa:=yF k (l.erase k) (dB.erase k) λx af=>by
    have:=(dB.mem_erase_iff).mp af;have:=h x this.2;omega
   rw[List.length_erase_of_mem c]at aa;omega
  .have:=yF k l dB λx af=>by
    have:=h x af;have:x≠k:=λe=>c (e▸af)
    omega
   omega
noncomputable def lM(b4:Array (Option Nat))(j:Nat):Prop:=∃q,b4[j]?=some (some q)
theorem BP{m:Nat}{h:Int}{b4:Array (Option Nat)}(hz:b4.size=m+1):∀(fuel r:Nat),(∃h6,r<=h6/\h6<r+fuel/\b4[(run m h h6).1]?=some none) ->
  (∀bC d,d<=len m h bC->bC<r->lM b4 ((run m h bC).1+d)) ->
  ∃aE dg,dg<=len m h aE/\layClean.free m b4 fuel (run m h r).1 (run m h r).2=some ((run m h aE).1+dg)/\b4[(run m h aE).1+dg]?=some none/\∀bC d,d<=len m h bC->(bC<aE\/(bC=aE/\d<dg))->lM b4 ((run m h bC).1+d)
 |0,r,⟨h6,a,b,_⟩,_=>by omega
 |fuel+1,r,⟨h6,a,b,c⟩,ae=>by
  unfold layClean.free;have VR:=ud (y8 m h r);have get:∀d,d<=len m h r->∃o,b4[(run m h r).1+d]?=some o/\b4.getD ((run m h r).1+d) (some 0)=o:=λd hd=>by
   unfold len at hd;have c2:(run m h r).1+d<b4.size:=by rw[hz];omega
   exact⟨b4[(run m h r).1+d],Wy c2,by simp[Array.getD,c2]⟩
  cases hf:(List.range (runEnd m (run m h r).1+1-(run m h r).1)).find? λk=>(b4.getD ((run m h r).1+k) (some 0)).isNone with
  |some k =>
   obtain⟨aa,h2,h3⟩:=List.find?_range_eq_some.mp hf;have aq:k<=len m h r:=by have:=WN.mp h2;unfold len;omega
   refine⟨r,k,aq,rfl,?_,λbC d hd c2=>?_⟩
   .obtain⟨o,e1,e2⟩:=get k aq;rw[e2]at aa;rw[e1];cases o with
    |none=>rfl
    |some _=>simp at aa
   .rcases c2 with c2|⟨rfl,c2⟩
    .exact ae bC d hd c2
    .obtain⟨o,e1,e2⟩:=get d hd;have:=h3 d c2;rw[e2]at this;cases o with
     |none=>simp at this
     |some q=>exact⟨q,e1⟩
  |none =>
   have aw:=List.find?_range_eq_none.mp hf;have full:∀d,d<=len m h r->lM b4 ((run m h r).1+d):=λd hd=>by
    obtain⟨o,e1,e2⟩:=get d hd;have:=aw d (by unfold len at hd;omega)
    rw[e2]at this;cases o with
    |none=>simp at this
    |some q=>exact⟨q,e1⟩
   have V0:h6≠r:=λe=>by
    subst e;obtain⟨q,aF⟩:=full 0 (Ws _);rw[Nat.add_zero,c]at aF;cases aF
   show ∃aE dg,_/\layClean.free m b4 fuel (run m h (r+1)).1 (run m h (r+1)).2=_/\_;refine BP hz fuel (r+1) ⟨h6,by omega,by omega,c⟩ λbC d hd c2=>?_
   by_cases e:bC=r
   .subst e;exact full d hd
   .exact ae bC d hd (by omega)
structure Own(m:Nat)(ag:List Int)(b4:Array (Option Nat)):Prop where
 size:b4.size=m+1
 lt:∀j q:Nat,b4[j]?=some (some q)->q<ag.length
 inj:∀j k8 q:Nat,b4[j]?=some (some q)->b4[k8]?=some (some q)->j=k8
 all:∀(q:Nat)(h:Int),ag[q]?=some h->∃n,b4[b7 m h n]?=some (some q)/\∀k,k<n->lM b4 (b7 m h k)
def Own.hole{m:Nat}{ag:List Int}{b4:Array (Option Nat)}(O:Own m ag b4)(au:ag.length<=m):∃j,j<=m/\b4[j]?=some none:=by
 by_cases c:∃j,j<=m/\b4[j]?=some none
 .exact c
 .exfalso;have fe:∀j,j<=m->lM b4 j:=λj aG=>by
   have aT:b4[j]?=some (b4[j]'(by rw[O.size];omega)):=Wy (by rw[O.size];omega)
   cases e:b4[j]'(by rw[O.size];omega) with
   |none=>exact absurd ⟨j,aG,by rw[aT,e]⟩ c
   |some q=>exact⟨q,by rw[aT,e]⟩
  have aa:=yF ag.length ((List.range (m+1)).map λj=>(b4.getD j none).getD 0) ?_ ?_
  .simp at aa;omega
  .have key:∀j,j<=m->b4[j]?=some (some ((b4.getD j none).getD 0)):=λj aG=>by
    obtain⟨q,aF⟩:=fe j aG;have:b4.getD j none=some q:=by rw[Xv,aF];rfl
    rw[this];exact aF
   rw[List.Nodup,Ya];refine YG ?_ (List.nodup_range (n:=m+1));intro a b aC ae o9 e;have rg:=key a (by have:=WN.mp aC;omega)
   have nS:=key b (by have:=WN.mp ae;omega)
   rw[<- e]at nS;exact o9 (O.inj a b _ rg nS)
  .intro x af;obtain⟨j,aG,e⟩:=Xw.mp af;obtain⟨q,aF⟩:=fe j (by have:=WN.mp aG;omega)
   have:b4.getD j none=some q:=by rw[Xv,aF];rfl
   rw[this]at e;have bj:q=x:=e;rw[<- bj];exact O.lt j q aF
def Own.step {m : Nat} (hm : gc m) {ag : List Int} {b4 : Array (Option Nat)} (O : Own m ag b4) (au : ag.length <= m) (h : Int) :
    ∃ j, layClean.free m b4 (turns m) (bits h % (m + 1)) (bits h) = some j /\ Own m (ag ++ [h]) (b4.setIfInBounds j (some ag.length)) := by
  obtain ⟨k9, MQ, e0⟩ := O.hole au
  obtain ⟨h6, VP, Ku⟩ := hm.met h MQ
  obtain ⟨aE, dg, jT, sF, nu, Nb⟩ := BP (h := h) O.size (turns m) 0 ⟨h6, Ws _, by unfold turns; omega, by rw [Ku]; exact e0⟩ (fun bC d _ c2 => absurd c2 (Nat.not_lt_zero _))
  obtain ⟨n, _, aw, aq⟩ := H5 m h aE dg jT
  have Kv : b7 m h n = (run m h aE).1 + dg := by unfold b7; rw [aw]; rfl
  rw [<- Kv] at sF nu
  have PY : ∀ k, k < n -> lM b4 (b7 m h k) := fun k eZ => by
    obtain ⟨bC, d', a, b, c⟩ := aq k eZ
    unfold b7
    rw [c]
    exact Nb bC d' a b
  refine ⟨b7 m h n, sF, ?_, ?_, ?_, ?_⟩
  · rw [Array.size_setIfInBounds]; exact O.size
  · intro j q aF
    rw [Xq] at aF
    rw [Wu, List.length_singleton]
    split at aF
    · split at aF
      · injection aF with aF; injection aF with aF; omega
      · cases aF
    · have := O.lt j q aF; omega
  · intro j k8 q a b
    rw [Xq] at a b
    split at a
    · rename_i e1
      split at b
      · rename_i e2; rw [<- e1, <- e2]
      · split at a
        · injection a with a; injection a with a
          have := O.lt k8 q b
          omega
        · cases a
    · split at b
      · split at b
        · injection b with b; injection b with b
          have := O.lt j q a
          omega
        · cases b
      · exact O.inj j k8 q a b
  · intro q h' aF
    have mono : ∀ j, lM b4 j -> lM (b4.setIfInBounds (b7 m h n) (some ag.length)) j := fun j ⟨cB, nO⟩ => by
      by_cases c : b7 m h n = j
      · refine ⟨ag.length, ?_⟩
        rw [Xq, if_pos c, if_pos (by rw [O.size]; have := zk m h n; omega)]
      · exact ⟨cB, by rw [Xq, if_neg c]; exact nO⟩
    by_cases c : q < ag.length
    · rw [WC c] at aF
      obtain ⟨cL, a, b⟩ := O.all q h' aF
      refine ⟨cL, ?_, fun k eZ => mono _ (b k eZ)⟩
      rw [Xq, if_neg]
      · exact a
      · intro e; rw [<- e, nu] at a; cases a
    · have nO := (WE.mp aF).1
      rw [Wu, List.length_singleton] at nO
      have e : q = ag.length := by omega
      subst e
      rw [Xh (Wm _), Nat.sub_self] at aF
      simp at aF
      subst aF
      refine ⟨n, ?_, fun k eZ => mono _ (PY k eZ)⟩
      rw [Xq, if_pos rfl, if_pos (by rw [O.size]; have := zk m h n; omega)]
def Qo(m:Nat):Own m [] (Array.replicate (m+1) none):=by
 have no:∀j q:Nat,(Array.replicate (m+1) (none:Option Nat))[j]?≠some (some q):=λj q aF=>by
  rw[Array.getElem?_replicate]at aF
  split at aF<;>cases aF
 exact⟨by simp,λj q aF=>absurd aF (no j q),λj k8 q aF=>absurd aF (no j q),λq h aF=>by simp at aF⟩
def OW {m : Nat} (hm : gc m) (ag : Array Int) (au : ag.size <= m) : ∃ b4, layClean m ag = some b4 /\ Own m ag.toList b4 := by
  unfold layClean
  rw [<- Array.foldl_toList]
  have main : ∀ (rest done : List Int) (b4 : Array (Option Nat)), Own m done b4 -> (done ++ rest).length <= m ->
      ∃ t2, rest.foldl (fun (acc : Option (Array (Option Nat) × Nat)) h => do
        let (owner, k) <- acc
        let j <- layClean.free m owner (turns m) (bits h % (m + 1)) (bits h)
        pure (owner.setIfInBounds j (some k), k + 1)) (some (b4, done.length)) = some (t2, (done ++ rest).length) /\ Own m (done ++ rest) t2 := by
    intro rest
    induction rest with
    | nil => intro done b4 O _; exact ⟨b4, by simp, by simpa using O⟩
    | cons h r aN =>
      intro done b4 O hlen
      rw [Wu, List.length_cons] at hlen
      obtain ⟨j, sF, Hg⟩ := O.step hm (by omega) h
      have := aN (done ++ [h]) _ Hg (by simp; omega)
      rw [Wx] at this
      simp only [List.singleton_append, Wu, List.length_cons, List.length_nil, YR] at this
      obtain ⟨t2, e, Hh⟩ := this
      refine ⟨t2, ?_, Hh⟩
      rw [List.foldl_cons]
      simp only [Option.bind_eq_bind, Option.bind_some, sF, Option.pure_def] at e ⊢
      rw [e]
      simp only [Wu, List.length_cons]
  obtain ⟨b4, e, O⟩ := main ag.toList [] (Array.replicate (m + 1) none) (Qo m) (by simpa using au)
  refine ⟨b4, ?_, by simpa using O⟩
  simp only [List.length_nil] at e
  rw [e]; rfl
theorem wZ{α β:Type}(f:α->Option β):∀(l:List α),(∀x∈l,(f x).isSome=true)->∀i:Nat,(l.filterMap f)[i]?=l[i]?.bind f
 |[],_,i=>by simp
 |x::r,h,i=>by
  have af:=h x List.mem_cons_self;cases e:f x with
  |none=>rw[e]at af;cases af
  |some y =>
   rw[List.filterMap_cons,e];cases i with
   |zero=>simp[e]
   |succ i =>
    simp only[List.getElem?_cons_succ];exact wZ f r (λz hz=>h z (List.mem_cons_of_mem _ hz)) i
theorem BH{α β:Type}(f:α->Option β):∀(l:List α),(∀x∈l,(f x).isSome=true)->(l.filterMap f).length=l.length
 |[],_=>rfl
 |x::r,h=>by
  have af:=h x List.mem_cons_self;cases e:f x with
  |none=>rw[e]at af;cases af
  |some y=>rw[List.filterMap_cons,e,List.length_cons,List.length_cons,BH f r λz hz=>h z (List.mem_cons_of_mem _ hz)]
def Di {α : Type} {m : Nat} (hm : gc m) (ah : Array (Int × α)) (au : ah.size <= m) (f DR : Nat) (led bW : Bool) :
    ∃ t' order, laid m f DR led bW (ah.map (·.1)) = some (t', order) /\ t'.mask = m /\ t'.led = led /\ t'.plain = bW /\ (order.filterMap (ah[·]?)).size = ah.size /\ Tab (order.filterMap (ah[·]?)) t' /\ (order.filterMap (ah[·]?)).toList.Perm ah.toList /\ order.toList.Perm (List.range ah.size) := by
  obtain ⟨b4, e, O⟩ := OW hm (ah.map (·.1)) (by simpa using au)
  have hlen : (ah.map (·.1)).toList.length = ah.size := by simp
  generalize gi : (List.range (m + 1)).filterMap (fun j => (b4.getD j none).map (j, ·)) = L
  have nW : ∀ j q, (j, q) ∈ L <-> b4[j]? = some (some q) := fun j q => by
    rw [<- gi, Yj]
    constructor
    · rintro ⟨k8, fq, bj⟩
      cases h0 : b4.getD k8 none with
      | none => rw [h0] at bj; cases bj
      | some cB =>
        rw [h0] at bj
        injection bj with bj
        injection bj with e1 e2
        subst e1; subst e2
        rw [Xv] at h0
        cases aa : b4[k8]? with
        | none => rw [aa] at h0; cases h0
        | some o => rw [aa] at h0; exact XQ some h0
    · intro h
      refine ⟨j, WN.mpr ?_, ?_⟩
      · have := (WO.mp h).1; rw [O.size] at this; exact this
      · rw [Xv, h]; rfl
  have rise : L.Pairwise (fun a b => a.1 < b.1) := by
    rw [<- gi]
    refine List.Pairwise.filterMap _ ?_ (YT (n := m + 1))
    intro a jI c2 b ae i8 iH
    cases h0 : b4.getD a none with
    | none => rw [h0] at ae; cases ae
    | some q =>
      cases aa : b4.getD jI none with
      | none => rw [aa] at iH; cases iH
      | some cB =>
        rw [h0] at ae; rw [aa] at iH
        cases ae; cases iH
        exact c2
  have lt : ∀ p ∈ L, p.2 < ah.size := fun p ax => by
    have := O.lt p.1 p.2 ((nW p.1 p.2).mp ax)
    rw [hlen] at this; exact this
  have PA : (L.map (·.2)).Nodup := by
    rw [List.Nodup, Ya]
    refine YG ?_ rise
    intro a b aC ae o9 bj
    have := O.inj a.1 b.1 a.2 ((nW _ _).mp aC) (by rw [bj]; exact (nW _ _).mp ae)
    omega
  have yS : (L.map (·.2)).Perm (List.range ah.size) := by
    refine (List.perm_ext_iff_of_nodup PA List.nodup_range).mpr fun q => ?_
    rw [WN, Xw]
    constructor
    · rintro ⟨p, ax, rfl⟩; exact lt p ax
    · intro aF
      obtain ⟨n, a, _⟩ := O.all q (ah[q].1) (by rw [W9, Array.getElem?_map, Wy aF]; rfl)
      exact ⟨(_, q), (nW _ _).mpr a, rfl⟩
  have yv : L.length = ah.size := by have := yS.length_eq; simpa using this
  have D6 : ∀ q ∈ L.map (·.2), (ah[q]?).isSome = true := fun q aF => by
    obtain ⟨p, ax, rfl⟩ := Xw.mp aF
    rw [Wy (lt p ax)]; rfl
  have P7 : ∀ q ∈ List.range ah.size, (ah[q]?).isSome = true := fun q aF => by
    rw [Wy (WN.mp aF)]; rfl
  have wG : ((L.map (·.2)).toArray.filterMap (ah[·]?)).toList = (L.map (·.2)).filterMap (ah[·]?) := by simp
  have LX : ∀ (i : Nat), ((L.map (·.2)).toArray.filterMap (ah[·]?))[i]? = (L[i]?).bind fun p => ah[p.2]? := by
    intro i
    rw [<- W9, wG, wZ _ _ D6, WJ]
    cases L[i]? <;> rfl
  have FD : ((L.map (·.2)).toArray.filterMap (ah[·]?)).size = ah.size := by
    rw [<- Array.length_toList, wG, BH _ _ D6, List.length_map, yv]
  have QK : ((L.map (·.2)).toArray.filterMap (ah[·]?)).toList.Perm ah.toList := by
    rw [wG]
    refine (yS.filterMap (ah[·]?)).trans (List.Perm.of_eq ?_)
    refine Yb fun i => ?_
    rw [wZ _ _ P7]
    by_cases c : i < ah.size
    · rw [YC c]; simp
    · rw [WV (by simpa using c), WV (by simpa using c)]; rfl
  refine ⟨{ mask := m, place := (L.map (·.1)).toArray, dummies := #[], finger := f, led, moves := DR, plain := bW }, (L.map (·.2)).toArray, ?_, rfl, rfl, rfl, FD, ⟨?_, ?_, ?_, rfl, hm, ?_, ?_⟩, QK, by simpa using yS⟩
  · unfold laid
    rw [e]
    simp only [Option.bind_eq_bind, Option.bind_some, Option.pure_def, gi]
  · intro i j a b xQ aC ae
    simp only [Yq, WJ] at aC ae
    cases a8 : L[i]? with
    | none => rw [a8] at aC; cases aC
    | some Eh =>
      cases fX : L[j]? with
      | none => rw [fX] at ae; cases ae
      | some V2 =>
        rw [a8] at aC; rw [fX] at ae
        cases aC; cases ae
        obtain ⟨aa, e1⟩ := WE.mp a8
        obtain ⟨h2, e2⟩ := WE.mp fX
        have := X6.mp rise i j aa h2 xQ
        rw [e1, e2] at this
        exact this
  · intro i j hi
    simp only [Yq, WJ] at hi
    cases kK : L[i]? with
    | none => rw [kK] at hi; cases hi
    | some p =>
      rw [kK] at hi
      cases hi
      have := (nW p.1 p.2).mp (XF kK)
      have := (WO.mp this).1
      rw [O.size] at this
      show p.1 <= m
      omega
  · show (L.map (·.1)).toArray.size = _
    rw [FD]; simp [yv]
  · show (L.map (·.1)).toArray.size <= m
    simp [yv]; exact au
  · intro i j bj hi he
    simp only [Yq, WJ] at hi
    rw [LX] at he
    cases kK : L[i]? with
    | none => rw [kK] at hi; cases hi
    | some p =>
      rw [kK] at hi he
      cases hi
      have ax := (nW p.1 p.2).mp (XF kK)
      have kS : ah[p.2]? = some bj := he
      obtain ⟨n, a, b⟩ := O.all p.2 bj.1 (by rw [W9, Array.getElem?_map, kS]; rfl)
      refine ⟨n, O.inj _ _ _ a ax, fun k aq => ?_⟩
      obtain ⟨cB, nO⟩ := b k aq
      obtain ⟨ck, d3, Kc⟩ := XG.mp ((nW _ _).mpr nO)
      refine ⟨ck, ?_⟩
      show (L.map (·.1)).toArray[ck]? = _
      simp only [Yq, WJ]
      rw [Wr d3, Kc]; rfl
end fp
end
section
namespace Pv
open PySem fp PySem.SetTable
section
variable{prog:Program}{w:World}{A:Around}{E:Value->Shared->Prop}{s:Shared}
noncomputable def gW(prog:Program)(w:World)(h:Heap)(ar:List Int)(b:Addr):Prop:=IsTupleKey (intKind prog w) h ar b
noncomputable def fb(prog:Program)(w:World)(ar:List Int):Int:=tupleKeyHash (intKind prog w) ar
noncomputable def kr(prog:Program)(w:World)(h:Heap)(e:Int×Value)(ar:List Int):Prop:=∃b,e.2=.ref b/\e.1=fb prog w ar/\gW prog w h ar b
def gW.kept{h h':Heap}{ar:List Int}{b:Addr}(x:gW prog w h ar b)(k:∀o,h.get? b=some o->h'.get? b=some o):gW prog w h' ar b :=
 let ⟨o,items,n,ay,r⟩:=x;⟨o,items,n,k o ay,r⟩
def gW.ne{h:Heap}{ar:List Int}{a b:Addr}{o:Obj}{ah aY t}(x:gW prog w h ar b)(ay:h.get? a=some o)(hd:o.data=.set ah aY t):b≠a:=by
 rintro rfl;obtain⟨bO,items,n,dH,_,ig,_⟩:=x;rw[ay]at dH;cases dH;rw[hd]at ig;cases ig
def AP {M : Model} {ar : List Int} {a : Addr} {Q : Bool -> Shared -> Prop} (aq : gW prog w s.heap ar a) (h : Q false s) : wpAny M A (ofAClassStatement 8 (.ref a)) Q E s := by
  have cR : s.TypeIs (.ref a) "tuple" := IsTupleKey.typeIs aq
  obtain ⟨o, items, n, ay, _, hd, hi⟩ := aq
  unfold ofAClassStatement
  refine Wh (X9 cR ?_)
  dsimp only
  rw [if_pos (by rfl)]
  refine Wh (wpAny_pure ?_)
  simp only [XJ, Wk, WM]
  refine Wh (XC ay hd ?_)
  dsimp only
  refine Wh ?_
  rw [<- Array.forIn_toList]
  refine Y2 _ (fun rest r s' => r.1 = none /\ s' = s /\ ∀ v ∈ rest, carriedByValue v = true) _ ?_ ?_ _ _ ⟨rfl, rfl, hi.byValue⟩
  · rintro v rest r s' ⟨aZ, rfl, gj⟩
    have aL := gj v List.mem_cons_self
    have e : ofAClassStatement 7 v = pure false := by
      cases v with
      | ref b => simp [carriedByValue] at aL
      | _ => unfold ofAClassStatement; rfl
    rw [e]
    refine Wh (wpAny_pure ?_)
    simp only [Wk, WM]
    exact wpAny_pure ⟨rfl, rfl, fun u q3 => gj u (List.mem_cons_of_mem _ q3)⟩
  · rintro ⟨aE, aX⟩ s' ⟨aZ, rfl, _⟩
    simp only at aZ
    subst aZ
    exact wpAny_pure h
def SE{ar:List Int}{b:Addr}{stored:List Value}{Q:Bool->Shared->Prop}(aq:gW prog w s.heap ar b)(ag:∀v∈stored,∃c cx,v=.ref c/\gW prog w s.heap cx c)(h:Q false s):
  wpAny (model prog w) A (searchCouldBeSeen (.ref b) stored) Q E s:=by
 unfold searchCouldBeSeen;refine Wh ?_;refine Y2 _ (λrest r s'=>r.1=none/\s'=s/\∀v∈rest,∃c cx,v=.ref c/\gW prog w s.heap cx c) _ ?_ ?_ _ _ ⟨rfl,rfl,ag⟩
 .rintro v rest r s' ⟨aZ,rfl,gj⟩;obtain⟨c,cx,rfl,aj⟩:=gj v List.mem_cons_self;have jX:∀v∈rest,∃c cx,v=.ref c/\gW prog w s'.heap cx c:=λu q3=>gj u (List.mem_cons_of_mem _ q3)
  dsimp only
  split
  .exact wpAny_pure ⟨rfl,rfl,jX⟩
  .refine Wh (wpAny_eqIsQuiet_tuple aq ?_);simp only[XJ,Wk,WM];refine Wh (wpAny_eqIsQuiet_tuple aj ?_);simp only[XJ,Wk,WM];refine Wh (AP aq ?_);simp only[Wk,WM];refine Wh (AP aj ?_);simp only[Wk,WM];exact wpAny_pure ⟨rfl,rfl,jX⟩
 .rintro⟨aE,aX⟩ s' ⟨aZ,rfl,_⟩;simp only at aZ;subst aZ;exact wpAny_pure h
def Iv {ar : List Int} {a : Addr} {Q : Bool -> Shared -> Prop} (aq : gW prog w s.heap ar a) (h : Q true s) : wpAny (model prog w) A (hashByValue 8 (.ref a)) Q E s := by
  have cR : s.TypeIs (.ref a) "tuple" := IsTupleKey.typeIs aq
  obtain ⟨o, items, n, ay, _, hd, hi⟩ := aq
  unfold hashByValue
  refine Wh (wpAny_specialOf cR F.slot_tuple_hash.lookup ?_)
  dsimp only
  refine Wh (XC ay hd ?_)
  refine Wh ?_
  show wpAny _ _ (forIn items _ _) _ _ s
  rw [<- Array.forIn_toList]
  have gj : ∀ v ∈ items.toList, ∃ i t, v = Value.int i t := by
    clear hd ay
    generalize items.toList = l at hi
    induction hi with
    | nil => intro v aL; simp at aL
    | @cons k pZ cx ai aa _ aN =>
      intro v aL
      rcases Wo.mp aL with rfl | aL
      · obtain ⟨t, e⟩ := ZF aa
        exact ⟨_, t, e⟩
      · exact aN v aL
  refine Y2 _ (fun rest r s' => r.1 = none /\ s' = s /\ ∀ v ∈ rest, ∃ i t, v = Value.int i t) _ ?_ ?_ _ _ ⟨rfl, rfl, gj⟩
  · rintro v rest r s' ⟨aZ, rfl, gj⟩
    obtain ⟨i, t, rfl⟩ := gj v List.mem_cons_self
    have e : hashByValue 7 (Value.int i t) = pure true := by unfold hashByValue; rfl
    rw [e]
    refine Wh (wpAny_pure ?_)
    simp only [XJ, Wk, WM]
    exact wpAny_pure ⟨rfl, rfl, fun u q3 => gj u (List.mem_cons_of_mem _ q3)⟩
  · rintro ⟨aE, aX⟩ s' ⟨aZ, rfl, _⟩
    simp only at aZ
    subst aZ
    exact wpAny_pure h
theorem Tab.fits{ah:Array (Int×Value)}{t:SetTable}(T:Tab ah t):t.fits ah.size=true:=by
 unfold SetTable.fits;have aa:=T.dJ;have h2:=T.fill;have h3:=T.full;simp only[Wi,Xi,WH];exact⟨aa,by rw[h2,<- aa];exact h3⟩
def Tab.LN{ah:Array (Int×Value)}{t:SetTable}(T:Tab ah t):t.gaveWay=false:=by
 unfold SetTable.gaveWay;rcases T.lh with e|e|e<;>rw[e]<;>rfl
theorem Fm {a b : Addr} {o : Obj} {ah : Array (Int × Value)} {aY : Nat} {t : SetTable} {ar : List Int} {cA : List (List Int)} {qp : Bool} {R : SetFound -> Shared -> Prop} {N : Nat} (b3 : A.units < cLine)
    (ay : s.heap.get? a = some o) (hd : o.data = .set ah aY t) (T : Tab ah t) (ax : Paired (kr prog w s.heap) ah.toList cA) (aq : gW prog w s.heap ar b)
    (bq : N < 10 * turns t.mask) (he : t.slot (b7 t.mask (fb prog w ar) N) = .empty) (kT : ∀ i : Nat, t.place[i]? ≠ some (b7 t.mask (fb prog w ar) N)) (au : ∀ k, k < N -> ∃ i : Nat, t.place[i]? = some (b7 t.mask (fb prog w ar) k))
    (hf : ar ∉ cA -> R (.free (b7 t.mask (fb prog w ar) N) false) s) (aW : ar ∈ cA -> ∀ r, R (.there r) s) :
    ∀ (fuel n : Nat) (uu : Option Probe), n <= N -> N - n < fuel -> uu.getD (t.probeStart (fb prog w ar)) = pr t.mask (fb prog w ar) n ->
      (∀ k, k < n -> ∀ (i : Nat) (e : Int × Value), t.place[i]? = some (b7 t.mask (fb prog w ar) k) -> ah[i]? = some e -> ¬ kr prog w s.heap e ar) ->
      wpAny (model prog w) A (setSearchFrom a (.ref b) (fb prog w ar) qp fuel uu) R E s
  | 0, n, uu, aa, h2, _, _ => by omega
  | fuel + 1, n, uu, aa, h2, bX, jn => by
    unfold setSearchFrom
    refine Wh (Xx ay hd (Tab.fits T) ?_)
    dsimp only
    rw [Tab.LN T]
    simp only [Wk, WM]
    rw [bX]
    have s6 : ∀ (i : Nat) (e : Int × Value), ah[i]? = some e -> (fun i => (ah[i]?.map (·.1)).getD 0) i = e.1 := fun i e h => by simp [h]
    generalize aJ : t.probe _ (fb prog w ar) (pr t.mask (fb prog w ar) n) = X
    have mem_of : ∀ (i : Nat) (e : Int × Value), ah[i]? = some e -> ∃ cx, cx ∈ cA /\ kr prog w s.heap e cx := fun i e h => by
      have hm : e ∈ ah.toList := by rw [<- W9] at h; exact XF h
      clear s6 jn kT au he aW hf
      generalize ah.toList = l at ax hm
      induction ax with
      | nil => simp at hm
      | cons aa _ aN =>
        rcases Wo.mp hm with rfl | hm
        · exact ⟨_, List.mem_cons_self, aa⟩
        · obtain ⟨cx, a1, a2⟩ := aN hm
          exact ⟨cx, List.mem_cons_of_mem _ a1, a2⟩
    rcases yX (h := fb prog w ar) (hashAt := fun i => (ah[i]?.map (·.1)).getD 0) T.h7 he au (10 * turns t.mask) n aa (by omega) with ⟨k, i, cf, dQ, d9, fI, fJ, kC⟩ | ⟨fJ, kC⟩
    · have so : X = _ := aJ.symm.trans kC
      rw [so]
      dsimp only
      have hi : i < ah.size := by rw [<- T.dJ]; exact (WO.mp d9).1
      have pa : ah[i]? = some ah[i] := Wy hi
      obtain ⟨cx, xW, c, l8, qG, aj⟩ := mem_of i _ pa
      have rest : wpAny (model prog w) A (do
          let some (_, y) := ah[i]? | unsupported "internal:set-entry"
          let equal <- holding [y] (eqBool y (.ref b))
          let (oV, _, t') <- setState a
          if qp && equal then return SetFound.there none
          let some same := t'.sameMemory t.moves t.mask | unsupported "set.changed-during-lookup:is-the-new-block-at-the-old-address"
          let Tr <- match (if same then t'.slot (b7 t.mask (fb prog w ar) k) else .empty) with
            | .live ck => match oV[ck]? with
              | some (_, uW) => do pure (if <- isSame uW y then some ck else none)
              | none => pure none
            | _ => pure none
          match Tr with
          | none => rule "set.search.anew"; setSearchFrom a (.ref b) (fb prog w ar) qp fuel none
          | some ck => if equal then return SetFound.there (some ck) else setSearchFrom a (.ref b) (fb prog w ar) qp fuel (some (pr t.mask (fb prog w ar) (k + 1)))) R E s := by
        rw [pa]
        generalize jj : ah[i] = ev at l8 qG pa
        obtain ⟨Vn, Vo⟩ := ev
        dsimp only at l8 qG ⊢
        subst l8
        refine Wh (XA (wpAny_eqBool_tuple b3 aj aq ?_))
        refine Wh (Xx ay hd (Tab.fits T) ?_)
        dsimp only
        have same : t.sameMemory t.moves t.mask = some true := by unfold SetTable.sameMemory; simp
        by_cases q : cx = ar
        · subst q
          simp only [decide_true, ZN]
          cases qp
          · simp only [Wk, WM]
            rw [same]
            dsimp only
            rw [if_pos rfl, od T.h7 d9]
            dsimp only
            rw [pa]
            dsimp only
            refine Wh (wpAny_isSame_ref_self (Wh (wpAny_pure ?_)))
            rw [if_pos rfl]
            dsimp only
            first | exact wpAny_pure (aW xW _) | (rw [if_pos trivial]; exact wpAny_pure (aW xW _))
          · simp only [Xl]
            exact wpAny_pure (aW xW _)
        · simp only [decide_eq_false q, Xc, Wk, WM]
          rw [same]
          dsimp only
          rw [if_pos rfl, od T.h7 d9]
          dsimp only
          rw [pa]
          dsimp only
          refine Wh (wpAny_isSame_ref_self (Wh (wpAny_pure ?_)))
          rw [if_pos rfl]
          dsimp only
          refine Fm b3 ay hd T ax aq bq he kT au hf aW fuel (k + 1) _ (by omega) (by omega) rfl fun cS eZ ck bj q0 kS af => ?_
          by_cases cu : cS < n
          · exact jn cS cu ck bj q0 kS af
          · by_cases bg : cS = k
            · subst bg
              have e1 : ck = i := by
                have := od T.h7 q0
                rw [od T.h7 d9] at this
                injection this with this
                exact this.symm
              subst e1
              rw [pa] at kS
              cases kS
              obtain ⟨cQ, J8, _, c8⟩ := af
              cases J8
              exact q (IsTupleKey.inj aj c8)
            · obtain ⟨_, _, Kb, _⟩ := af
              exact fJ cS (by omega) (by omega) ck q0 ((s6 ck bj kS).trans Kb)
      cases hQ : t.led
      · simp only [Zu, Xl]
        refine Wh (SE aq (fun v aL => ?_) ?_)
        · obtain ⟨e, kS, rfl⟩ := Xw.mp aL
          have hm : e ∈ ah.toList := by
            rw [Array.toList_filter] at kS
            exact (YI.mp kS).1
          obtain ⟨j, aG⟩ := List.mem_iff_getElem?.mp hm
          obtain ⟨OK, _, bg, e2, _, h2⟩ := mem_of j e (by rw [<- W9]; exact aG)
          exact ⟨bg, OK, e2, h2⟩
        · simp only [Wk, WM]
          exact rest
      · simp only [XJ, Wk, WM]
        exact rest
    · have so : X = _ := aJ.symm.trans kC
      rw [so]
      dsimp only
      refine wpAny_pure (hf fun g8 => ?_)
      obtain ⟨e, hm, af⟩ : ∃ e ∈ ah.toList, kr prog w s.heap e ar := by
        clear s6 jn kT au he aW hf mem_of fJ kC so
        generalize ah.toList = l at ax
        induction ax with
        | nil => simp at g8
        | @cons bj cx _ _ aa _ aN =>
          rcases Wo.mp g8 with rfl | g8
          · exact ⟨bj, List.mem_cons_self, aa⟩
          · obtain ⟨e, a1, a2⟩ := aN g8
            exact ⟨e, List.mem_cons_of_mem _ a1, a2⟩
      obtain ⟨j, aG⟩ := List.mem_iff_getElem?.mp hm
      rw [W9] at aG
      obtain ⟨_, _, qG, _⟩ := id af
      obtain ⟨k, g9, xT⟩ := T.met kT aG qG
      by_cases c : k < n
      · exact jn k c j e xT aG af
      · exact fJ k (by omega) g9 j xT ((s6 j e aG).trans qG)
noncomputable def oK(M:Value->Prop)(prog:Program)(w:World)(h:Heap)(a:Addr)(cA:List (List Int)):Prop :=
 ∃o ah aY t,h.get? a=some o/\o.ExactSet/\o.data=.set ah aY t/\Tab ah t/\ah.size*5<t.mask*3/\t.plain=true/\(t.led=true<->w.params.followText "set-order"=false)/\Paired (λe ar=>kr prog w h e ar/\M e.2) ah.toList cA/\cA.Nodup
def Paired.perm{α β:Type}{F:α->β->Prop}{l1 l2:List α}(p:l1.Perm l2):∀{ar:List β},Paired F l2 ar->∃cx,cx.Perm ar/\Paired F l1 cx:=by
 induction p with
 |nil=>intro ar h;cases h;exact⟨[],.refl _,.nil⟩
 |cons x _ aN =>
  intro ar h;cases h with
  |cons aa t =>
   obtain⟨cx,e6,h'⟩:=aN t;exact⟨_::cx,e6.cons _,.cons aa h'⟩
 |swap x y l =>
  intro ar h;cases h with
  |cons aa t =>
   cases t with
   |cons h2 t=>exact⟨_::_::_,List.Perm.swap _ _ _,.cons h2 (.cons aa t)⟩
 |trans _ _ yk yl =>
  intro ar h;obtain⟨k1,p1,aa⟩:=yl h;obtain⟨k2,p2,h2⟩:=yk aa;exact⟨k2,p2.trans p1,h2⟩
theorem Paired.len{α β:Type}{F:α->β->Prop}:∀{l:List α}{ar:List β},Paired F l ar->l.length=ar.length
 |_,_,.nil=>rfl
 |_,_,.cons _ t=>by simp[Paired.len t]
theorem Paired.mp{α β:Type}{F G:α->β->Prop}(f:∀a b,F a b->G a b):∀{l:List α}{ar:List β},Paired F l ar->Paired G l ar
 |_,_,.nil=>.nil
 |_,_,.cons h t=>.cons (f _ _ h) (Paired.mp f t)
def Ht {M : Value -> Prop} {a b : Addr} {ar : List Int} {cA : List (List Int)} {Q : Bool -> Shared -> Prop} (b3 : A.units < cLine) (aS : oK M prog w s.heap a cA) (aq : gW prog w s.heap ar b) (nC : M (.ref b)) (q2 : cA.length < 76)
    (h : ∀ h' hW r, Heap.SameBut a s.heap h' -> oK M prog w h' a hW -> hW.Perm (if ar ∈ cA then cA else ar :: cA) -> Q r { s with heap := h' }) :
    wpAny (model prog w) A (setAddHashed a (.ref b) (fb prog w ar)) Q E s := by
  obtain ⟨o, ah, aY, t, ay, hex, hd, T, jm, ej, hQ, ax, nK⟩ := aS
  obtain ⟨N, bq, he, kT, au⟩ := BC T.lh T.h7 T.qE T.full (fb prog w ar)
  have hlen : ah.size = cA.length := by have := Paired.len ax; simpa using this
  unfold setAddHashed setAddHashedIn
  refine XA (Wh (Xx ay hd (Tab.fits T) ?_))
  dsimp only
  have Mn : byScan (.ref b) ah = false := by unfold byScan; simp [Value.scannable]
  rw [Mn]
  simp only [Wk, WM]
  refine Wh ?_
  unfold setSearch
  refine Fm b3 ay hd T (Paired.mp (fun _ _ x => x.1) ax) aq bq he kT au (fun jU => ?_) (fun g8 r => ?_) 100000 0 none (Ws _) ?_ rfl (fun k eZ => absurd eZ (Nat.not_lt_zero k))
  · -- it is new
    dsimp only
    have xN : t.place.size + 1 <= t.mask := by
      rw [T.dJ]
      rcases T.lh with e | e | e <;> rw [e] at jm ⊢ <;> omega
    obtain ⟨hI, cf, dQ, d9, fI, fJ⟩ := T.put (x := Value.ref b) kT au xN
    refine Wh (Xx ay hd (Tab.fits T) ?_)
    dsimp only
    generalize dO : t.put (b7 t.mask (fb prog w ar) N) = P at hI cf dQ d9 fI fJ
    obtain ⟨t1, p1⟩ := P
    dsimp only at hI cf dQ d9 fI fJ ⊢
    rw [d9, ej]
    simp only [Xl]
    refine Wh (Iv aq ?_)
    simp only [Xl]
    have nN := C0 ah p1 (fb prog w ar, Value.ref b) cf
    have ps : (insertAt ah p1 (fb prog w ar, Value.ref b)).size = ah.size + 1 := pw _ _ _ cf
    have xH : Paired (fun e ar => kr prog w s.heap e ar /\ M e.2) ((fb prog w ar, Value.ref b) :: ah.toList) (ar :: cA) := .cons ⟨⟨b, rfl, rfl, aq⟩, nC⟩ ax
    obtain ⟨ri, aD, aO⟩ := Paired.perm nN xH
    have qZ : ri.Nodup := (aD.nodup_iff).mpr (Xp.mpr ⟨jU, nK⟩)
    generalize My : insertAt ah p1 (fb prog w ar, Value.ref b) = cw at hI nN ps aO
    refine Wh (YU ay hd ?_ (by rw [ps]; have : sizeLine = 2 ^ 40 \/ True := .inr trivial; rw [W6]; omega))
    have hx : (s.heap.update a (Obj.putSet cw t1)).get? a = some { o with data := .set cw (aY + 1) t1 } := by
      have := WW (Obj.putSet cw t1) ay (by rw [Y3 cw t1 hd]; rfl)
      rw [Y3 cw t1 hd] at this; exact this
    have pk := Xe s.heap a (Obj.putSet cw t1)
    have move : ∀ {h' : Heap}, Heap.SameBut a s.heap h' -> ∀ (e : Int × Value) (cx : List Int), (kr prog w s.heap e cx /\ M e.2) -> (kr prog w h' e cx /\ M e.2) := fun {h'} ag e cx ⟨⟨c, e1, e2, e3⟩, e4⟩ =>
      ⟨⟨c, e1, e2, e3.kept fun bO dH => (ag.2 c (e3.ne ay hd)).trans dH⟩, e4⟩
    have goal : ∀ h' hW, Heap.SameBut a s.heap h' -> oK M prog w h' a hW -> hW.Perm (ar :: cA) -> Q true { s with heap := h' } := fun h' hW c6 cO dK => h h' hW true c6 cO (by rw [if_neg jU]; exact dK)
    have qU : t1.fill = cw.size := hI.fill
    by_cases jq : t1.tooFull = true
    · simp only [jq, Zu, Z9, Xl]
      have xB : ∃ m, gc m /\ sizeAbove (grown cw.size) - 1 = m /\ cw.size * 5 < m * 3 /\ sizeAbove (grown cw.size) <= 128 := by
        unfold SetTable.tooFull at jq
        rw [qU, dQ] at jq
        have gD : cw.size * 5 >= t.mask * 3 := by simpa using jq
        rcases T.lh with e | e | e
        · rw [e] at gD jm
          have : cw.size = 5 := by omega
          rw [this]
          exact ⟨31, .inr (.inl rfl), by decide, by decide, by decide⟩
        · rw [e] at gD jm
          have : cw.size = 19 := by omega
          rw [this]
          exact ⟨127, .inr (.inr rfl), by decide, by decide, by decide⟩
        · rw [e] at gD jm
          omega
      obtain ⟨m, hm, te, pe, CL⟩ := xB
      refine Wh ?_
      unfold setRelay
      refine Wh (Xx hx rfl (Tab.fits hI) ?_)
      dsimp only
      rw [<- ps]
      have Nt : ¬ sizeAbove (grown cw.size) > sizeLine := by rw [W6]; omega
      rw [if_neg Nt]
      obtain ⟨ek, order, cu, bg, b2, gf, jb, nh, v3, _⟩ := Di (α := Value) hm cw (by
        rcases hm with e | e | e <;> rw [e] at pe ⊢ <;> omega) t1.finger (t1.movedTo m) t1.led t1.plain
      have x5 : t1.relaid (cw.map (·.1)) (grown cw.size) = some (ek, order) := by
        unfold SetTable.relaid; rw [te]; exact cu
      refine Wh ?_
      rw [x5]
      show wpAny (model prog w) A (if ((order.filterMap (cw[·]?)).size != cw.size) = true then _ else pure (order.filterMap (cw[·]?), ek)) _ E _
      rw [if_neg (by rw [jb]; simp)]
      refine wpAny_pure ?_
      dsimp only
      refine YU hx rfl ?_ (by rw [jb, W6]; omega)
      obtain ⟨yu, bE, cb⟩ := Paired.perm v3 aO
      have qV : ((s.heap.update a (Obj.putSet cw t1)).update a (Obj.putSet (order.filterMap (cw[·]?)) ek)).get? a = some { o with data := .set (order.filterMap (cw[·]?)) (aY + 1 + 1) ek } := by
        have := WW (Obj.putSet (order.filterMap (cw[·]?)) ek) hx (by rw [Y3 _ ek rfl]; rfl)
        rw [Y3 _ ek rfl] at this; exact this
      have ti := pk.trans (Xe _ a (Obj.putSet (order.filterMap (cw[·]?)) ek))
      refine wpAny_pure (goal _ yu ti ⟨_, _, _, ek, qV, hex, rfl, nh, by rw [jb, bg]; exact pe, by rw [gf, d9]; exact ej, by rw [b2, fI]; exact hQ, Paired.mp (move ti) cb, (bE.nodup_iff).mpr qZ⟩ (bE.trans aD))
    · have gD : t1.tooFull = false := by simpa using jq
      simp only [gD, Xc, Wk, WM]
      refine wpAny_pure (goal _ ri pk ⟨_, _, _, t1, hx, hex, rfl, hI, ?_, by rw [d9]; exact ej, by rw [fI]; exact hQ, Paired.mp (move pk) aO, qZ⟩ aD)
      unfold SetTable.tooFull at gD
      rw [qU] at gD
      have : ¬ cw.size * 5 >= t1.mask * 3 := by simpa using gD
      omega
  · dsimp only
    exact wpAny_pure (h s.heap cA false (ZK a s.heap) ⟨o, ah, aY, t, ay, hex, hd, T, jm, ej, hQ, ax, nK⟩ (by rw [if_pos g8]))
  · have : turns t.mask <= 142 := by unfold turns; rcases T.lh with e | e | e <;> rw [e] <;> omega
    omega
def SP{M:Value->Prop}{a b:Addr}{ar:List Int}{cA:List (List Int)}{Q:Bool->Shared->Prop}(b3:A.units<cLine)(aS:oK M prog w s.heap a cA)(aq:gW prog w s.heap ar b)(nC:M (.ref b))(q2:cA.length<76)(h:∀h' tk hW r,s.toks<=tk->Heap.SameBut a s.heap h'->oK M prog w h' a hW->hW.Perm (if ar∈cA then cA else ar::cA)->Q r { s with heap:=h',toks:=tk }):
  wpAny (model prog w) A (setAdd a (.ref b)) Q E s:=by
 unfold setAdd;refine XA (Wh (wpAny_pyHash_tuple b3 aq ?_));exact Ht (s:={ s with toks:=_ }) b3 aS aq nC q2 λh' hW r c6 cO dK=>h h' _ hW r (Yz _ _) c6 cO dK
noncomputable def kq(e:Int×Value)(k:Int):Prop:=e.1=hashInt k/\∃t,e.2=.int k t
noncomputable def oJ(w:World)(h:Heap)(a:Addr)(ar:List Int):Prop :=
 ∃o ah aY t,h.get? a=some o/\o.ExactSet/\o.data=.set ah aY t/\Tab ah t/\ah.size*5<t.mask*3/\t.plain=true/\(t.led=true<->w.params.followText "set-order"=false)/\Paired kq ah.toList ar/\ar.Nodup
def rb(prog:Program)(w:World)(i:Int)(t:Tok):(intKind prog w).is i (.int i t)=true:=by show Value.isInt i (.int i t)=true;simp[Value.isInt]
def kq.elems{ah:List (Int×Value)}{ar:List Int}(ax:Paired kq ah ar):ElemsOf (intKind prog w) ah:=by
 intro e he
 induction ax with
 |nil=>simp at he
 |@cons bj k _ _ aa _ aN =>
  rcases Wo.mp he with rfl|he
  .obtain⟨h2,t,e2⟩:=aa;refine⟨⟨k,?_,h2⟩,?_⟩
   .rw[e2];exact rb _ _ _ _
   .rw[e2];rfl
  .exact aN he
def kq.find{ah:List (Int×Value)}{ar:List Int}(ax:Paired kq ah ar)(k:Int):(ah.findIdx? λe=>(intKind prog w).is k e.2).isSome=true<->k∈ar:=by
 induction ax with
 |nil=>simp
 |@cons bj cS _ _ aa _ aN =>
  obtain⟨_,t,e2⟩:=aa;have hd:(intKind prog w).is k bj.2=decide (k=cS):=by
   rw[e2];exact KeyKind.is_eq_decide (rb prog w cS t) k
  rw[List.findIdx?_cons,hd]
  by_cases c:k=cS
  .subst c;simp
  .simp only[decide_eq_false c];simp only[Wk,WM,Option.isSome_map];rw[aN];simp[c]
def Hs {a : Addr} {k : Int} {tk : Tok} {ar : List Int} {Q : Bool -> Shared -> Prop} (aS : oJ w s.heap a ar) (q2 : ar.length < 76)
    (h : ∀ h' cx r, Heap.SameBut a s.heap h' -> oJ w h' a cx -> cx.Perm (if k ∈ ar then ar else k :: ar) -> Q r { s with heap := h' }) :
    wpAny (model prog w) A (setAddHashed a (.int k tk) (hashInt k)) Q E s := by
  obtain ⟨o, ah, aY, t, ay, hex, hd, T, jm, ej, hQ, ax, nK⟩ := aS
  obtain ⟨N, bq, he, kT, au⟩ := BC T.lh T.h7 T.qE T.full (hashInt k)
  have hlen : ah.size = ar.length := by have := Paired.len ax; simpa using this
  have iJ : ElemsOf (intKind prog w) ah.toList := kq.elems ax
  have Nr : ah.size < scanBound := by unfold scanBound; omega
  unfold setAddHashed setAddHashedIn
  refine XA (Wh (Xx ay hd (Tab.fits T) ?_))
  dsimp only
  rw [byScan_of (knd := intKind prog w) (x := .int k tk) rfl Nr iJ]
  simp only [Xl]
  unfold setAddByScan
  refine Wh ?_
  refine Wh (XS ?_)
  refine Wh (wpAny_setScan_of (knd := intKind prog w) (k := k) (rb _ _ _ _) ay hd (Tab.fits T) iJ ?_)
  have ta := kq.find (prog := prog) (w := w) ax k
  cases aZ : List.findIdx? (fun e => (intKind prog w).is k e.2) ah.toList with
  | some j =>
    dsimp only
    rw [aZ] at ta
    have g8 : k ∈ ar := ta.mp rfl
    refine wpAny_pure (wpAny_pure ?_)
    exact h s.heap ar _ (ZK a s.heap) ⟨o, ah, aY, t, ay, hex, hd, T, jm, ej, hQ, ax, nK⟩ (by rw [if_pos g8])
  | none =>
    dsimp only
    rw [aZ] at ta
    have jU : k ∉ ar := fun z => by have := ta.mpr z; cases this
    have xN : t.place.size + 1 <= t.mask := by
      rw [T.dJ]
      rcases T.lh with e | e | e <;> rw [e] at jm ⊢ <;> omega
    obtain ⟨hI, cf, dQ, d9, fI, fJ⟩ := T.put (x := Value.int k tk) kT au xN
    have mg : t.freeSlot (hashInt k) = some (b7 t.mask (hashInt k) N, false) := by
      unfold SetTable.freeSlot
      rcases yX (h := hashInt k) (hashAt := fun _ => hashInt k + 1) T.h7 he au (10 * turns t.mask) 0 (Ws _) (by omega) with ⟨_, _, _, _, _, z, _⟩ | ⟨_, z⟩
      · exact absurd z (by omega)
      · have fx : t.probe (fun _ => hashInt k + 1) (hashInt k) (t.probeStart (hashInt k)) = _ := z
        rw [fx]; rfl
    have CI : layNew t ah (hashInt k) (.int k tk) = (insertAt ah (t.put (b7 t.mask (hashInt k) N)).2 (hashInt k, .int k tk), (t.put (b7 t.mask (hashInt k) N)).1, false, false) := by
      unfold layNew
      rw [mg]
      dsimp only
      have xP := Tab.fits hI
      generalize t.put (b7 t.mask (hashInt k) N) = P at hI cf xP
      obtain ⟨t1, p1⟩ := P
      dsimp only at xP ⊢
      unfold SetTable.orStandIn
      rw [xP]
      rfl
    rw [CI]
    dsimp only
    generalize dO : t.put (b7 t.mask (hashInt k) N) = P at hI cf dQ d9 fI fJ
    obtain ⟨t1, p1⟩ := P
    dsimp only at hI cf dQ d9 fI fJ ⊢
    refine Wh (wpAny_pure ?_)
    rw [d9, ej]
    simp only [Xl]
    rw [show hashByValue 8 (Value.int k tk) = pure true from by unfold hashByValue; rfl]
    refine Wh (wpAny_pure ?_)
    simp only [Xl]
    have nN := C0 ah p1 (hashInt k, Value.int k tk) cf
    have ps : (insertAt ah p1 (hashInt k, Value.int k tk)).size = ah.size + 1 := pw _ _ _ cf
    have xH : Paired kq ((hashInt k, Value.int k tk) :: ah.toList) (k :: ar) := .cons ⟨rfl, _, rfl⟩ ax
    obtain ⟨ri, aD, aO⟩ := Paired.perm nN xH
    have qZ : ri.Nodup := (aD.nodup_iff).mpr (Xp.mpr ⟨jU, nK⟩)
    generalize My : insertAt ah p1 (hashInt k, Value.int k tk) = cw at hI nN ps aO
    refine Wh (YU ay hd ?_ (by rw [ps, W6]; omega))
    have hx : (s.heap.update a (Obj.putSet cw t1)).get? a = some { o with data := .set cw (aY + 1) t1 } := by
      have := WW (Obj.putSet cw t1) ay (by rw [Y3 cw t1 hd]; rfl)
      rw [Y3 cw t1 hd] at this; exact this
    have pk := Xe s.heap a (Obj.putSet cw t1)
    have goal : ∀ h' cx, Heap.SameBut a s.heap h' -> oJ w h' a cx -> cx.Perm (k :: ar) -> Q true { s with heap := h' } := fun h' cx c6 cO dK => h h' cx true c6 cO (by rw [if_neg jU]; exact dK)
    have qU : t1.fill = cw.size := hI.fill
    by_cases jq : t1.tooFull = true
    · simp only [jq, Zu, Z9, Xl]
      have xB : ∃ m, gc m /\ sizeAbove (grown cw.size) - 1 = m /\ cw.size * 5 < m * 3 /\ sizeAbove (grown cw.size) <= 128 := by
        unfold SetTable.tooFull at jq
        rw [qU, dQ] at jq
        have gD : cw.size * 5 >= t.mask * 3 := by simpa using jq
        rcases T.lh with e | e | e
        · rw [e] at gD jm
          have : cw.size = 5 := by omega
          rw [this]
          exact ⟨31, .inr (.inl rfl), by decide, by decide, by decide⟩
        · rw [e] at gD jm
          have : cw.size = 19 := by omega
          rw [this]
          exact ⟨127, .inr (.inr rfl), by decide, by decide, by decide⟩
        · rw [e] at gD jm
          omega
      obtain ⟨m, hm, te, pe, CL⟩ := xB
      obtain ⟨ek, order, cu, bg, b2, gf, jb, nh, v3, Iy⟩ := Di (α := Value) hm cw (by
        rcases hm with e | e | e <;> rw [e] at pe ⊢ <;> omega) t1.finger (t1.movedTo m) t1.led t1.plain
      have x5 : t1.relaid (cw.map (·.1)) (grown cw.size) = some (ek, order) := by
        unfold SetTable.relaid; rw [te]; exact cu
      have gj : relayAll t1 cw (grown cw.size) = (order.filterMap (cw[·]?), ek, false) := by
        unfold relayAll
        rw [x5]
        dsimp only
        have aa : coversAll order cw.size = true := by unfold coversAll; exact List.isPerm_iff.mpr Iy
        rw [aa, Tab.fits nh]
        rfl
      rw [gj]
      dsimp only
      refine Wh (wpAny_pure ?_)
      refine Wh (YU hx rfl ?_ (by rw [jb, W6]; omega))
      obtain ⟨yu, bE, cb⟩ := Paired.perm v3 aO
      have qV : ((s.heap.update a (Obj.putSet cw t1)).update a (Obj.putSet (order.filterMap (cw[·]?)) ek)).get? a = some { o with data := .set (order.filterMap (cw[·]?)) (aY + 1 + 1) ek } := by
        have := WW (Obj.putSet (order.filterMap (cw[·]?)) ek) hx (by rw [Y3 _ ek rfl]; rfl)
        rw [Y3 _ ek rfl] at this; exact this
      have ti := pk.trans (Xe _ a (Obj.putSet (order.filterMap (cw[·]?)) ek))
      exact wpAny_pure (wpAny_pure (goal _ yu ti ⟨_, _, _, ek, qV, hex, rfl, nh, by rw [jb, bg]; exact pe, by rw [gf, d9]; exact ej, by rw [b2, fI]; exact hQ, cb, (bE.nodup_iff).mpr qZ⟩ (bE.trans aD)))
    · have gD : t1.tooFull = false := by simpa using jq
      simp only [gD, Xc, Wk, WM]
      refine wpAny_pure (wpAny_pure (goal _ ri pk ⟨_, _, _, t1, hx, hex, rfl, hI, ?_, by rw [d9]; exact ej, by rw [fI]; exact hQ, aO, qZ⟩ aD))
      unfold SetTable.tooFull at gD
      rw [qU] at gD
      have : ¬ cw.size * 5 >= t1.mask * 3 := by simpa using gD
      omega
def SO{a:Addr}{k:Int}{tk:Tok}{ar:List Int}{Q:Bool->Shared->Prop}(aS:oJ w s.heap a ar)(q2:ar.length<76)(h:∀h' pW cx r,s.toks<=pW->Heap.SameBut a s.heap h'->oJ w h' a cx->cx.Perm (if k∈ar then ar else k::ar)->Q r { s with heap:=h',toks:=pW }):
  wpAny (model prog w) A (setAdd a (.int k tk)) Q E s:=by
 unfold setAdd;refine XA (Wh ((intKind prog w).pyHash (k:=k) (rb _ _ _ _) ?_));exact Hs (s:={ s with toks:=s.toks+1 }) aS q2 λh' hW r c6 cO dK=>h h' _ hW r (Nat.le_succ _) c6 cO dK
end
end Pv
end
section
namespace Pv
open PySem PySem.Spec PyProof.Rows fp PySem.SetTable
section
variable{prog:Program}{w:World}
structure si(prog:Program)(w:World)(κ:Type)[DecidableEq κ] where
 Row:Heap->Value->κ->Prop
 Set:Heap->Addr->List κ->Prop
 fresh:∀(h:Heap)(a:Addr),h.get? a=some { cls:=.type "set",dict:=none,data:=.set #[] 0 (.fresh 0 0 (!w.params.followText "set-order")) }->Set h a []
 moved:∀{h h':Heap}{a:Addr}{ar:List κ},Set h a ar->(∀o,h.get? a=some o->h'.get? a=some o)->(∀b o,h.get? b=some o->o.cls=.type "tuple"->h'.get? b=some o)->Set h' a ar
 y7:∀{h h':Heap}{v:Value}{k:κ},Row h v k->(∀b o,h.get? b=some o->o.cls=.type "tuple"->h'.get? b=some o)->Row h' v k
 yG:∀{h:Heap}{a:Addr}{ar:List κ},Set h a ar->∀o,h.get? a=some o->o.cls≠.type "tuple"
 add:∀{A:Around}{E:Value->Shared->Prop}{s:Shared}{a:Addr}{v:Value}{k:κ}{ar:List κ}{Q:Bool->Shared->Prop},A.units<cLine->Set s.heap a ar->Row s.heap v k->ar.length<76 ->
  (∀h' tk cx r,s.toks<=tk->Heap.SameBut a s.heap h'->Set h' a cx->cx.Perm (if k∈ar then ar else k::ar)->Q r { s with heap:=h',toks:=tk })->wpAny (model prog w) A (setAdd a v) Q E s
section
variable{κ:Type}[DecidableEq κ]
noncomputable def met(ar:List κ):Nat->List κ
 |0=>[]
 |i+1=>match ar[i]? with
  |some k=>if k∈met ar i then met ar i else k::met ar i
  |none=>met ar i
theorem tK (ar : List κ) : ∀ (i : Nat), i <= ar.length -> ∀ k, k ∈ met ar i <-> k ∈ ar.take i
  | 0, _, k => by simp [met]
  | i + 1, hi, k => by
    have aN := tK ar i (by omega) k
    have aT : ar[i]? = some ar[i] := Wr (by omega)
    have e : ar.take (i + 1) = ar.take i ++ [ar[i]] := by rw [List.take_succ, aT]; rfl
    unfold met
    rw [aT, e, WT, <- aN, Xo]
    dsimp only
    split
    · rename_i c
      constructor
      · exact .inl
      · rintro (h | h)
        · exact h
        · rw [h]; exact c
    · rw [Wo]
      exact ⟨fun h => h.symm, fun h => h.symm⟩
theorem rp(ar:List κ):∀i,(met ar i).Nodup
 |0=>Zv
 |i+1=>by
  unfold met
  split
  .split
   .exact rp ar i
   .rename_i c;exact Xp.mpr ⟨c,rp ar i⟩
  .exact rp ar i
def QL{k:κ}{l m:List κ}{fu:List κ}(h:l.Perm m)(h':fu.Perm (if k∈l then l else k::l)):fu.Perm (if k∈m then m else k::m):=by
 by_cases c:k∈l
 .rw[if_pos c]at h';rw[if_pos (h.mem_iff.mp c)];exact h'.trans h
 .rw[if_neg c]at h';rw[if_neg (λz=>c (h.mem_iff.mpr z))];exact h'.trans (h.cons k)
def UK(K:si prog w κ){A:Around}{R:Result->Shared->Prop}{I:Addr}{bk wr:List Addr}{n:Nat}{P:Nat->Value->Prop}{St:Nat->Shared->Prop}{G:Array GenState->Array GenState->Prop}(W:WalksS prog w A.in1 I bk wr G n P St)(S:Addr)(o8:S∉bk)(b3:A.in1.units<cLine)(cA:List κ)(h0:Heap)(CT:∀i s,St i s->∀b∈wr,∀o,s.heap.get? b=some o->o.cls≠.type "tuple")(yb:∀i v,P i v->∃k,cA[i]?=some k/\K.Row h0 v k)(ae:∀i,i<n->(met cA i).length<76):
  ∀(k i:Nat)(s:Shared),n-i=k->i<=n->St i s->(∀b o,h0.get? b=some o->o.cls=.type "tuple"->s.heap.get? b=some o)->(∃l,K.Set s.heap S l/\l.Perm (met cA i)) ->
   (∀s' l,Moved (S::wr) G s s'->K.Set s'.heap S l->l.Perm (met cA n)->R (.ok (.ret .none)) s') ->
   codeAny (model prog w) A (.builtin "set.update.loop" ⟨[.ref S,.ref I],[]⟩) R s:=by
 have Cp:S∉wr:=λh=>o8 (W.sub _ h)
 have jo:∀b∈wr,b∈S::wr:=λb ae=>List.mem_cons_of_mem _ ae
 intro k
 induction k with
 |zero =>
  intro i s aq hi bX CG ⟨l,aS,au⟩ hR;have g8:i=n:=by omega
  subst g8;refine Xr YD ?_;rw[XH X0 _];show wpAny _ A.in1 (pyNext (.ref I)>>=_) _ _ s;refine Wh (W.done s _ _ bX λs' hm=>?_)
  show wpAny _ A.in1 (ret Value.none) _ _ s';exact wpAny_pure (hR s' l (hm.mono jo) (K.moved aS (λo e=>hm.heap S o Cp e) λb o e aj=>hm.heap b o (λxE=>CT _ s bX b xE o e aj) e) au)
 |succ k aN =>
  intro i s aq hi bX CG ⟨l,aS,au⟩ hR;have c2:i<n:=by omega
  refine Xr YD ?_;rw[XH X0 _];show wpAny _ A.in1 (pyNext (.ref I)>>=_) _ _ s;refine Wh (W.item i s _ _ c2 bX λv s' dO Nx hm=>?_)
  obtain⟨key,xU,Mm⟩:=yb i v dO;have tk:∀b o,s.heap.get? b=some o->o.cls=.type "tuple"->s'.heap.get? b=some o:=λb o e aj=>hm.heap b o (λxE=>CT _ s bX b xE o e aj) e
  have jR:K.Set s'.heap S l:=K.moved aS (λo e=>hm.heap S o Cp e) tk
  have CH:∀b o,h0.get? b=some o->o.cls=.type "tuple"->s'.heap.get? b=some o:=λb o e aj=>tk b o (CG b o e aj) aj
  have eZ:K.Row s'.heap v key:=K.y7 Mm CH;show wpAny _ A.in1 (holding [v] (setAdd S v)>>=_) _ _ s';refine Wh (XA (K.add b3 jR eZ (by rw[au.length_eq];exact ae i c2) λh' pW fu r ow c6 cO dK=>?_))
  have xZ:∀b o,s'.heap.get? b=some o->o.cls=.type "tuple"->b≠S:=λb o e aj=>by
   rintro rfl;exact K.yG jR o e aj
  refine wpAny_pure ⟨Y7 X0 _,aN (i+1) _ (by omega) c2 (W.frame _ s' _ _ Nx ow λb ae o e=>?_) (λb o e aj=>?_) ⟨fu,cO,?_⟩ λrL OM M1 Mf MT=>?_⟩
  .rw[c6.2 b (λh:b=S=>o8 (by rw[<- h];exact ae))];exact e
  .have bj:=CH b o e aj;show h'.get? b=some o;rw[c6.2 b (xZ b o bj aj)];exact bj
  .unfold met;rw[xU];exact QL au dK
  .refine hR rL OM (Moved.trans W.gtrans ((hm.mono jo).then_heap ow λb o ae e=>?_) M1) Mf MT
   rw[c6.2 b (λh:b=S=>ae (by rw[h];exact List.mem_cons_self))];exact e
end
def SS{A:Around}{E:Value->Shared->Prop}{s:Shared}(a:Value){Q₁:Value->Shared->Prop}(h:Q₁ (.ref s.heap.objs.size) { s with heap:=s.heap.push { cls:=.type "set",dict:=none,data:=.set #[] 0 (.fresh 0 0 (!w.params.followText "set-order")) } }):
  codeAny (model prog w) A (.call (.builtin "set.__new__") ⟨[.type "set",a],[]⟩) (wants Q₁ E) s:=by
 refine codeAny_of_tree ?_;show wpAny _ A.in1 (do checkBuiltinCall "set.__new__" ⟨[.type "set",a],[]⟩;again (.builtin "set.__new__" ⟨[.type "set",a],[]⟩)) _ _ s
 refine Wh (Z4 (F.newCall_set_1 a) (wpAny_pure ⟨Y7 F.plain_set_new _,Xr F.entry_set_new ?_⟩));rw[XH F.plain_set_new _];unfold Builtin.«set.__new__» Builtin.Frozenset.newClass;have jo:=sub_set_self;obtain⟨ax,g,d,tk,os⟩:=s;dsimp only
 wp_walk
 refine YA (wpAny_pure ?_);dsimp only;simp only[newObj];refine Wh (wpAny_alloc (wpAny_pure ?_));exact wpAny_pure h
def Ge(led:Bool):Tab (α:=Value) #[] (SetTable.fresh 0 0 led):=by
 refine⟨λi j a b _ h=>?_,λi j h=>?_,rfl,rfl,.inl rfl,Ws _,λi j e h=>?_⟩
 .simp[SetTable.fresh]at h
 .simp[SetTable.fresh]at h
 .simp[SetTable.fresh]at h
theorem Ej{α β:Type}{F:α->β->Prop}:∀{l:List α}{ar:List β},Paired F l ar->∀(i:Nat)(v:α),l[i]?=some v->∃k,ar[i]?=some k/\F v k
 |_,_,.nil,i,v,h=>by simp at h
 |_,_,.cons aa t,0,v,h=>by simp at h;subst h;exact⟨_,rfl,aa⟩
 |_,_,.cons aa t,i+1,v,h=>by
  have:=Ej t i v (by simpa using h)
  simpa using this
def U2{A:Around}(bJ:A.handled=none){T:String}(cR:T="list"\/T="tuple"){h:Heap}{l:Addr}{c9:Option Addr}{eM:Array (Option Value)}{items:Array Value}{nl:Nat}(jW:h.get? l=some { cls:=.type T,dict:=c9,data:=.seq items nl,slots:=eM }):
  ∃(tU:Obj)(St:Nat->Heap->Prop),tU.cls≠.type "tuple"/\(∀(e7:Around)(E:Value->Shared->Prop)(s:Shared)(Q:Value->Shared->Prop),s.heap=h->Q (.ref h.objs.size) { s with heap:=h.push tU }->wpAny (model prog w) e7 (pyIter (.ref l)) Q E s) /\
   Walks prog w A h.objs.size [h.objs.size,l] [h.objs.size] items.size (λi v=>items[i]?=some v) St/\St 0 (h.push tU)/\∀i h',St i h'->∀o,h'.get? h.objs.size=some o->o.cls≠.type "tuple":=by
 have c2:l<h.objs.size:=Wl jW;rcases cR with rfl|rfl
 .have au:h.IsList l items:=⟨_,jW,rfl,nl,rfl⟩;refine⟨{ cls:=.type "list_iterator",data:=.fields #[.ref l,.int 0 0] },_,by show Value.type _≠Value.type _;decide,λe7 E s Q e q=>?_,Walks.list bJ h.objs.size l (WB c2) items,⟨⟨_,Wq _ rfl,rfl,rfl⟩,au.push _⟩,λi h' st o e=>?_⟩
  .subst e;exact YV au q
  .obtain⟨⟨bO,bj,c,_⟩,_⟩:=st;rw[e]at bj;cases bj;rw[c];decide
 .have au:h.IsTuple l items:=⟨_,jW,rfl,nl,rfl⟩;refine⟨{ cls:=.type "tuple_iterator",data:=.fields #[.ref l,.int 0 0] },_,by show Value.type _≠Value.type _;decide,λe7 E s Q e q=>?_,Walks.tuple bJ h.objs.size l (WB c2) items,⟨⟨_,Wq _ rfl,rfl,rfl⟩,⟨_,Wj _ jW,rfl,nl,rfl⟩⟩,λi h' st o e=>?_⟩
  .subst e;exact Yk au q
  .obtain⟨⟨bO,bj,c,_⟩,_⟩:=st;rw[e]at bj;cases bj;rw[c];decide
def AD {κ : Type} [DecidableEq κ] (K : si prog w κ) {A : Around} {E : Value -> Shared -> Prop} {s : Shared} {l : Addr} {T : String} {c9 : Option Addr} {eM : Array (Option Value)} {items : Array Value} {nl : Nat} {cA : List κ} {Q : Value -> Shared -> Prop} (cR : T = "list" \/ T = "tuple")
    (bJ : A.handled = none) (b3 : A.units + 64 < cLine) (jW : s.heap.get? l = some { cls := .type T, dict := c9, data := .seq items nl, slots := eM }) (hi : Paired (K.Row s.heap) items.toList cA) (ae : ∀ i, i < cA.length -> (met cA i).length < 76)
    (h : ∀ (h' : Heap) (tk : Nat) (r : List κ), K.Set h' s.heap.objs.size r -> r.Perm (met cA cA.length) ->
      (∀ b o, b < s.heap.objs.size -> s.heap.get? b = some o -> h'.get? b = some o) -> Q (.ref s.heap.objs.size) { s with heap := h', toks := tk }) :
    wpAny (model prog w) A (call (.type "set") [.ref l]) Q E s := by
  obtain ⟨c, hF, VL⟩ := Yl.mro
  have VJ := Yl.made
  have jo := Yl.sub
  refine wpAny_call (codeAny_of_tree ?_)
  show wpAny _ _ (callAny (.type "set") _) _ _ _
  refine wpAny_pure ⟨Zx _ (by decide +kernel), Xr F.entry_type_call ?_⟩
  rw [Around.under_plain (weight_type_call_type "set" [.ref l] []) rfl]
  have aa := Yl.notType
  have h2 := Yl.canCreate
  have Vz := F.typeCall_set_1 (.ref l)
  repeat (any_goals (first | assumption | wp_step))
  refine Zn (SS (.ref l) (E := E) (Q₁ := fun obj cE => ∃ led : Bool, led = (!w.params.followText "set-order") /\ obj = .ref s.heap.objs.size /\ cE = { s with heap := s.heap.push { cls := .type "set", dict := none, data := .set #[] 0 (.fresh 0 0 led) } }) ⟨_, rfl, rfl, rfl⟩) fun r cE aZ => ?_
  cases r with
  | error e => exact aZ
  | ok ho =>
    cases ho with
    | ret obj =>
      obtain ⟨led, hQ, rfl, rfl⟩ := aZ
      have aS : (s.heap.push { cls := .type "set", dict := none, data := .set #[] 0 (.fresh 0 0 led) }).get? s.heap.objs.size = some { cls := .type "set", dict := none, data := .set #[] 0 (.fresh 0 0 led) } := Wq _ rfl
      have Mh : Shared.TypeIs { s with heap := s.heap.push { cls := .type "set", dict := none, data := .set #[] 0 (.fresh 0 0 led) } } (.ref s.heap.objs.size) "set" := ⟨_, aS, rfl⟩
      have VE := Yl.init.lookup
      have Vy := Yl.init.bind (.ref s.heap.objs.size)
      repeat (any_goals (first | assumption | wp_step))
      refine Zn (Zb (R := wants (fun r hE => r = .none /\ ∃ h' tk gr, hE = { s with heap := h', toks := tk } /\ K.Set h' s.heap.objs.size gr /\ gr.Perm (met cA cA.length) /\
          (∀ b o, b < s.heap.objs.size -> s.heap.get? b = some o -> h'.get? b = some o)) E) Yl.init.plain F.entry_set_init (check_set_init_1 Mh ?_)) fun RS hE x6 => ?_
      · have Nd : (s.heap.push { cls := .type "set", dict := none, data := .set #[] 0 (.fresh 0 0 led) }).get? l = some { cls := .type T, dict := c9, data := .seq items nl, slots := eM } := Wj _ jW
        have VT : isSubtype (.type T) (.type "set") = pure false := by rcases cR with rfl | rfl; exact F.sub_list_set; exact F.sub_tuple_set
        have VS : isSubtype (.type T) (.type "frozenset") = pure false := by rcases cR with rfl | rfl; exact F.sub_list_frozenset; exact F.sub_tuple_frozenset
        have dG : (Value.type T == Value.type "dict") = false := by rcases cR with rfl | rfl <;> decide
        have MH : A.in1.in1.in1.handled = none := by simp [bJ]
        obtain ⟨tU, St, VN, hit, W, st0, xZ⟩ := U2 (prog := prog) (w := w) MH cR Nd
        unfold Builtin.«set.__init__» noKeywords Builtin.Frozenset.updateFrom
        generalize Me : pyIter = fB
        wp_walk
        subst Me
        refine hit _ _ _ _ rfl ?_
        refine Wh (YW ?_)
        have MU : l < s.heap.objs.size := Wl jW
        have o8 : s.heap.objs.size ∉ [(s.heap.push { cls := .type "set", dict := none, data := .set #[] 0 (.fresh 0 0 led) }).objs.size, l] := by
          rw [XW]; simp only [Wo, Xo, XT, ZR, not_or]
          exact ⟨WB (YB _), Yy MU⟩
        have hlen : items.size = cA.length := by have := Paired.len hi; simpa using this
        refine UK K (W.toS) s.heap.objs.size o8 ?hu2 cA s.heap (fun i s' st b ae o e => ?nt) (fun i v aL => ?val) (fun i d3 => ae i (by omega)) (items.size - 0) 0 _ (by omega) (Ws _)
          st0 (fun b o e _ => Wj _ (Wj _ e)) ⟨[], ?hS0, .refl _⟩ ?hR
        case hu2 => first | (show A.units + 1 + 1 + 1 + 1 < cLine; omega) | (show A.units + 1 + 1 + 1 < cLine; omega) | (simp [Around.in1]; omega)
        case nt =>
          rw [Xo] at ae
          subst ae
          exact xZ i _ st o e
        case val => exact Ej hi i v (by rw [W9]; exact aL)
        case hS0 =>
          refine K.fresh _ _ ?_
          rw [<- hQ]
          exact Wj _ aS
        case hR =>
          intro s' gr hm jR nN
          obtain ⟨h', g', d', pW, rC⟩ := s'
          have wz : g' = s.gens := hm.gens
          have J9 : d' = s.drawn := hm.drawn
          have qH : rC = s.os := hm.os
          subst wz; subst J9; subst qH
          show wpAny _ _ _ _ _ _
          refine wpAny_pure ?_
          show wpAny _ _ (ret Value.none) _ _ _
          refine wpAny_pure ⟨rfl, h', pW, gr, rfl, jR, by rw [<- hlen]; exact nN, fun b o ae e => ?_⟩
          have jf : b ≠ s.heap.objs.size := WB ae
          have jg : b ≠ (s.heap.push { cls := .type "set", dict := none, data := .set #[] 0 (.fresh 0 0 led) }).objs.size := by
            rw [XW]; exact WB (Nat.lt_succ_of_lt ae)
          exact hm.heap b o (by simp only [Wo, Xo, XT, ZR, not_or]; exact ⟨jf, jg⟩) (Wj _ (Wj _ e))
      · cases RS with
        | error e => exact x6
        | ok Lx =>
          cases Lx with
          | ret r =>
            obtain ⟨rfl, h', tk, gr, rfl, jR, Nj, eZ⟩ := x6
            repeat (any_goals (first | assumption | wp_step))
            exact h _ _ gr jR Nj eZ
          | _ => exact x6.elim
    | _ => exact aZ.elim
end
end Pv
end
section
namespace Pv
open PySem PySem.Spec PyProof.Rows fp PySem.SetTable
section
variable{prog:Program}{w:World}
noncomputable def Dd(M:Value->Prop)(prog:Program)(w:World):si prog w (List Int) where
 Row:=λh v ar=>∃b,v=.ref b/\gW prog w h ar b/\M v
 Set:=oK M prog w
 fresh:=λh a e=>⟨_,#[],0,_,e,⟨rfl,rfl,rfl⟩,rfl,Ge _,by show 0*5<7*3;decide,rfl,by show(!w.params.followText "set-order")=true<->_;simp,.nil,Zv⟩
 moved:=λ{h h' a cA} x rg k=>by
  obtain⟨o,ah,aY,t,ay,aE,aX,dR,fv,fP,n7,y3,rJ⟩:=x;refine⟨o,ah,aY,t,rg _ ay,aE,aX,dR,fv,fP,n7,Paired.mp (λe ar ⟨⟨b,e1,e2,e3⟩,e4⟩=>⟨⟨b,e1,e2,?_⟩,e4⟩) y3,rJ⟩
  obtain⟨bB,items,n,aa,h2,h3⟩:=e3;exact⟨bB,items,n,k b bB aa h2,h2,h3⟩
 y7:=λx k=>by
  obtain⟨b,e,⟨bB,items,m,c6,cO,dK⟩,ox⟩:=x;exact⟨b,e,⟨bB,items,m,k b bB c6 cO,cO,dK⟩,ox⟩
 yG:=λx o e=>by
  obtain⟨bO,_,_,_,dH,hex,_⟩:=x;rw[e]at dH;cases dH;rw[hex.1];decide
 add:=λ{A E s a v k ar Q} b3 aS aZ au h=>by
  obtain⟨b,rfl,aq,nC⟩:=aZ;refine SP b3 aS aq nC au λh' tk cx r ow c6 cO dK=>h h' tk cx r ow c6 cO ?_
  by_cases c:k∈ar
  .rw[if_pos c]at dK ⊢;exact dK
  .rw[if_neg c]at dK ⊢;exact dK
noncomputable def Oz(prog:Program)(w:World):si prog w Int where
 Row:=λ_ v k=>∃t,v=.int k t
 Set:=oJ w
 fresh:=λh a e=>⟨_,#[],0,_,e,⟨rfl,rfl,rfl⟩,rfl,Ge _,by show 0*5<7*3;decide,rfl,by show(!w.params.followText "set-order")=true<->_;simp,.nil,Zv⟩
 moved:=λ{h h' a cA} x rg k=>by
  obtain⟨o,ah,aY,t,ay,r⟩:=x;exact⟨o,ah,aY,t,rg _ ay,r⟩
 y7:=λx _=>x
 yG:=λx o e=>by
  obtain⟨bO,_,_,_,dH,hex,_⟩:=x;rw[e]at dH;cases dH;rw[hex.1];decide
 add:=λ{A E s a v k ar Q} b3 aS aZ au h=>by
  obtain⟨t,rfl⟩:=aZ;refine SO aS au λh' tk cx r ow c6 cO dK=>h h' tk cx r ow c6 cO ?_
  by_cases c:k∈ar
  .rw[if_pos c]at dK ⊢;exact dK
  .rw[if_neg c]at dK ⊢;exact dK
end
end Pv
end
section
namespace Pv
open PySem PySem.Spec PyProof.Rows fp PySem.SetTable
def pS:Slot "set_iterator" "__next__" "set_iterator.__next__" :=
 .of (owner:="set_iterator") (n:="__next__") (by rw[ZZ,YZ];kernel_rfl) (by decide +kernel) (by decide +kernel) (by decide +kernel)
  (by first|exact .inl (by decide +kernel)|exact .inr (by decide +kernel)) (by rw[Zy];kernel_rfl)
def A9:entryFor table "set_iterator.__next__"=some Builtin.«set_iterator.__next__»:=entryFor_of_tree (by kernel_rfl)
def Ed:Manifest.owners.lookup (String.ofList ['r','o','t','a','r','e','t','i','_','t','e','s'].reverse)=some Manifest.sig_set_iterator:=by kernel_rfl
def Ak(a:Value):argsOk "set_iterator.__next__" ⟨[a],[]⟩:=by
 unfold argsOk;rw[signature?_of (id:="set_iterator.__next__") (n:=['_','_','t','x','e','n','_','_']) (o:=['r','o','t','a','r','e','t','i','_','t','e','s']) (by kernel_rfl) Ed];kernel_rfl
def FH:Slot "set_iterator" "__iter__" "set_iterator.__iter__" :=
 .of (owner:="set_iterator") (n:="__iter__") (by rw[ZZ,YZ];kernel_rfl) (by decide +kernel) (by decide +kernel) (by decide +kernel)
  (by first|exact .inl (by decide +kernel)|exact .inr (by decide +kernel)) (by rw[Zy];kernel_rfl)
def HI(a:Value):argsOk "set_iterator.__iter__" ⟨[a],[]⟩:=by
 unfold argsOk;rw[signature?_of (id:="set_iterator.__iter__") (n:=['_','_','r','e','t','i','_','_']) (o:=['r','o','t','a','r','e','t','i','_','t','e','s']) (by kernel_rfl) Ed];kernel_rfl
def FG:Slot "set" "__iter__" "set.__iter__" :=
 .of (owner:="set") (n:="__iter__") (by rw[ZZ,YZ];kernel_rfl) (by decide +kernel) (by decide +kernel) (by decide +kernel)
  (by first|exact .inl (by decide +kernel)|exact .inr (by decide +kernel)) (by rw[Zy];kernel_rfl)
def HH(a:Value):argsOk "set.__iter__" ⟨[a],[]⟩:=by
 unfold argsOk;rw[signature?_of (id:="set.__iter__") (n:=['_','_','r','e','t','i','_','_']) (o:=['t','e','s']) (by kernel_rfl) PySem.F.owner_set];kernel_rfl
def Kl:entryFor table "set.__iter__"=some Builtin.«frozenset.__iter__»:=entryFor_alias (id':="frozenset.__iter__") (by kernel_rfl) rfl (by decide +kernel) (by kernel_rfl)
def Km:entryFor table "set_iterator.__iter__"=some Builtin.«dict_keyiterator.__iter__»:=entryFor_alias (id':="dict_keyiterator.__iter__") (by kernel_rfl) rfl (by decide +kernel) (by kernel_rfl)
end Pv
end
section
namespace Pv
open PySem PySem.Spec PyProof.Rows fp PySem.SetTable
theorem Bf{α:Type}:∀(l:List α)(i:Nat)(h:i<l.length),(l[i]::l.eraseIdx i).Perm l
 |x::r,0,_=>by simp
 |x::r,i+1,h=>by
  simp only[List.getElem_cons_succ,List.eraseIdx_cons_succ];exact(List.Perm.swap _ _ _).trans ((Bf r i (by simpa using h)).cons x)
theorem EB{α:Type}(next:Nat->Nat):∀(fuel k:Nat)(left:List α)(out:Array α),left.length<=fuel->(pickOrder.go next fuel k left out).toList.Perm (out.toList++left)
 |0,k,left,out,h=>by
  have:left=[]:=List.length_eq_zero_iff.mp (by omega)
  subst this;simp[pickOrder.go]
 |fuel+1,k,left,out,h=>by
  unfold pickOrder.go;cases left with
  |nil=>simp
  |cons x r =>
   have c2:next k%(x::r).length<(x::r).length:=aaa _ (by simp)
   have aT:(x::r)[next k%(x::r).length]?=some (x::r)[next k%(x::r).length]:=Wr c2
   rw[aT];dsimp only;refine(EB next fuel (k+1) _ _ (by rw[List.length_eraseIdx_of_lt c2];simp only[List.length_cons]at h ⊢;omega)).trans ?_
   rw[Yu,Wx];exact X4 _ (Bf _ _ c2)
def QV{α:Type}(next:Nat->Nat)(xs:Array α):(pickOrder next xs).toList.Perm xs.toList:=by
 unfold pickOrder;have:=EB next xs.size 0 xs.toList #[] (by simp)
 simpa using this
section
variable{prog:Program}{w:World}
structure m9(w:World)(o:Obj)(ah:Array (Int×Value))(aY:Nat)(t:SetTable):Prop where
 ex:o.ExactSet
 data:o.data=.set ah aY t
 tab:Tab ah t
 plain:t.plain=true
 led:t.led=true<->w.params.followText "set-order"=false
noncomputable def fO(w:World)(a:Addr)(ah:Array (Int×Value))(aY:Nat):Array (Int×Value):=if w.params.followText "set-order"=true then pickOrder (w.params.setOrder a aY) ah else ah
def pH(w:World)(a:Addr)(ah:Array (Int×Value))(aY:Nat):(fO w a ah aY).toList.Perm ah.toList:=by
 unfold fO;split
 .exact QV _ _
 .exact .refl _
noncomputable def slotAt(w:World)(t:SetTable)(i:Nat):Nat:=if w.params.followText "set-order"=true then 0 else match i with
 |0=>0
 |j+1=>t.place.getD j 0+1
noncomputable def mZ(h:Heap)(it a:Addr)(slot i n aY:Nat):Prop:=∃o,h.get? it=some o/\o.cls=.type "set_iterator"/\o.data=.fields #[.int slot 0,.int i 0,.ref a,.int n 0,.int aY 0]
def mZ.typeIs{s:Shared}{it a:Addr}{slot i n aY:Nat}(h:mZ s.heap it a slot i n aY):s.TypeIs (.ref it) "set_iterator":=let ⟨o,ay,aj,_⟩:=h;⟨o,ay,aj⟩
def Ia {ah : Array (Int × Value)} {t : SetTable} (T : Tab ah t) (hw : w.params.followText "set-order" = false) {i : Nat} (hi : i <= ah.size) : below t.place (slotAt w t i) = i := by
  unfold slotAt
  rw [if_neg (by rw [hw]; decide)]
  obtain ⟨aa, h2, h3⟩ := vT T.h7 (match i with | 0 => 0 | j + 1 => t.place.getD j 0 + 1)
  rw [T.dJ] at aa
  cases i with
  | zero =>
    dsimp only at aa h2 h3 ⊢
    by_cases c : below t.place 0 = 0
    · exact c
    · exfalso
      have c2 : 0 < t.place.size := by rw [T.dJ]; omega
      have := h2 0 _ (by omega) (Wy c2)
      omega
  | succ j =>
    have aG : j < t.place.size := by rw [T.dJ]; omega
    have aT : t.place[j]? = some t.place[j] := Wy aG
    have hd : t.place.getD j 0 = t.place[j] := by simp [Array.getD, aG]
    dsimp only at aa h2 h3 ⊢
    rw [hd] at aa h2 h3 ⊢
    by_cases cu : below t.place (t.place[j] + 1) <= j
    · exfalso
      have := h3 j _ cu aT
      omega
    · by_cases bg : j + 1 < below t.place (t.place[j] + 1)
      · exfalso
        have jk : j + 1 < t.place.size := by rw [T.dJ]; omega
        have hx : t.place[j + 1]? = some t.place[j + 1] := Wy jk
        have a1 := h2 (j + 1) _ bg hx
        have a2 := T.h7 j (j + 1) _ _ (by omega) aT hx
        omega
      · omega
variable{A:Around}{E:Value->Shared->Prop}{s:Shared}
def Fo{a:Addr}{o:Obj}{ah:Array (Int×Value)}{aY:Nat}{t:SetTable}{i:Nat}{Q:Option (Value×Nat)->Shared->Prop}(ay:s.heap.get? a=some o)(O:m9 w o ah aY t)(hi:i<=ah.size)(h:Q ((fO w a ah aY)[i]?.map λe=>(e.2,slotAt w t (i+1))) s):wpAny (model prog w) A (setNext a (slotAt w t i) i aY) Q E s:=by
 unfold setNext;refine Wh (Xx ay O.data (Tab.fits O.tab) ?_);dsimp only;unfold setsByText;refine Wh (Wh (YA (wpAny_pure ?_)));cases hw:w.params.followText "set-order" with
 |true =>
  have f6:(model prog w).w.params.followText "set-order"=true:=hw;simp only[f6,Xl];simp only[Yc,Wk,WM];refine Wh ?_;unfold setWalk;refine Wh (Xx ay O.data (Tab.fits O.tab) ?_);dsimp only;unfold setsByText;refine Wh (Wh (YA (wpAny_pure ?_)));simp only[f6,Xl];refine Wh (YA (wpAny_pure ?_));have e1:fO w a ah aY=pickOrder (w.params.setOrder a aY) ah:=by unfold fO;rw[if_pos hw]
  have e2:∀i,slotAt w t i=0:=λi=>by unfold slotAt;rw[if_pos hw]
  rw[e1]at h;refine wpAny_pure ?_;simp only[e2]at h ⊢;exact h
 |false =>
  have f6:(model prog w).w.params.followText "set-order"=false:=hw;simp only[f6,Wk,WM];have xJ:(!t.plain&&decide (ah.size>1))=false:=by rw[O.plain];rfl
  show wpAny (model prog w) A (if (!t.plain&&decide (ah.size>1))=true then _ else _) Q E s;rw[xJ];simp only[Wk,WM];have MV:t.led=true:=O.led.mpr hw;refine Wh ?_;show wpAny (model prog w) A (if (!t.led&&!ah.isEmpty)=true then _ else pure ()) _ E s;rw[MV];simp only[XJ,W0,Wk,WM];refine wpAny_pure ?_;rw[Ia O.tab hw hi];have e1:fO w a ah aY=ah:=by unfold fO;rw[if_neg (by rw[hw];decide)]
  rw[e1]at h;refine wpAny_pure ?_
  by_cases c:i<ah.size
  .have g1:ah[i]?=some ah[i]:=Wy c;have ax:i<t.place.size:=by rw[O.tab.dJ];exact c
   have g2:t.place[i]?=some t.place[i]:=Wy ax;rw[g1]at h ⊢;rw[g2];have e3:slotAt w t (i+1)=t.place[i]+1:=by unfold slotAt;rw[if_neg (by rw[hw];decide)];simp[Array.getD,ax]
   rw[e3]at h;exact h
  .have g1:ah[i]?=none:=YS (by omega)
   rw[g1]at h ⊢;exact h
def next_item{it a:Addr}{o:Obj}{ah:Array (Int×Value)}{aY:Nat}{t:SetTable}{i:Nat}{x:Int×Value}{Q:Option Value->Shared->Prop}(ay:s.heap.get? a=some o)(O:m9 w o ah aY t)(hit:mZ s.heap it a (slotAt w t i) i ah.size aY)(af:(fO w a ah aY)[i]?=some x)(dh:∀h',mZ h' it a (slotAt w t (i+1)) (i+1) ah.size aY->Heap.SameBut it s.heap h'->Q (some x.2) { s with heap:=h' }):wpAny (model prog w) A (pyNext (.ref it)) Q E s:=by
 obtain⟨n4,mj,xF,hP⟩:=id hit;have ft:(fO w a ah aY).size=ah.size:=by have:=(pH w a ah aY).length_eq;simpa using this
 have hi:i<=ah.size:=by rw[<- ft];exact Yx (WO.mp af).1
 have dG:it≠a:=by
  rintro rfl;rw[ay]at mj;cases mj;rw[O.data]at hP;cases hP
 unfold pyNext;refine Wh (YH (W4 (name:=Str.ofString "__next__") hit.typeIs pS
  (Xb pS hit.typeIs A9 ?_ (Ak _))))
 unfold Builtin.«set_iterator.__next__»;refine Wh (m:=slotArgs _ _ _) (wpAny_pure ?_);refine Wh (wpAny_fieldsOf mj hP ?_);dsimp only;refine Wh (Zk ay O.data (Tab.fits O.tab) ?_);simp only[Yc,Wk,WM];simp only[Int.toNat_natCast];refine Wh (Fo ay O hi ?_);rw[af];simp only[Option.map_some];have hx:=WW (Obj.mapFields (·.setIfInBounds 0 (rawInt (slotAt w t (i+1):Nat)))) mj (by obtain⟨c,d,qF,bl⟩:=n4;simp only at hP;subst hP;rfl)
 refine Wh (XD mj hP (by simp) ?_)
 have jT:(Obj.mapFields (·.setIfInBounds 0 (rawInt (slotAt w t (i+1):Nat))) n4).data=.fields #[.int (slotAt w t (i+1):Nat) 0,.int i 0,.ref a,.int ah.size 0,.int aY 0]:=by
  obtain⟨c,d,qF,bl⟩:=n4;simp only at hP;subst hP;rfl
 have s7:(Obj.mapFields (·.setIfInBounds 0 (rawInt (slotAt w t (i+1):Nat))) n4).cls=.type "set_iterator":=by
  obtain⟨c,d,qF,bl⟩:=n4;simp only at hP xF;subst hP;exact xF
 generalize Obj.mapFields (·.setIfInBounds 0 (rawInt (slotAt w t (i+1):Nat))) n4=iQ at hx jT s7
 refine Wh (XD hx jT (by simp) ?_)
 have qV:=WW (Obj.mapFields (·.setIfInBounds 1 (rawInt ((i:Int)+1)))) hx (by obtain⟨c,d,qF,bl⟩:=iQ;simp only at jT;subst jT;rfl)
 refine wpAny_pure ?_;dsimp only;refine⟨_,rfl,wpAny_pure ?_⟩;refine dh _ ⟨_,qV,?_,?_⟩ ((Xe ..).trans (Xe ..))
 .obtain⟨c,d,qF,bl⟩:=iQ;simp only at jT s7;subst jT;exact s7
 .obtain⟨c,d,qF,bl⟩:=iQ;simp only at jT s7;subst jT;rfl
def next_end{it a:Addr}{o:Obj}{ah:Array (Int×Value)}{aY:Nat}{t:SetTable}{Q:Option Value->Shared->Prop}(bJ:A.handled=none)(ay:s.heap.get? a=some o)(O:m9 w o ah aY t)(hit:mZ s.heap it a (slotAt w t ah.size) ah.size ah.size aY)(dh:∀h',Heap.ExtBut it s.heap h'->Q none { s with heap:=h' }):wpAny (model prog w) A (pyNext (.ref it)) Q E s:=by
 obtain⟨n4,mj,xF,hP⟩:=id hit;have ft:(fO w a ah aY).size=ah.size:=by have:=(pH w a ah aY).length_eq;simpa using this
 unfold pyNext;refine Wh (YH (W4 (name:=Str.ofString "__next__") hit.typeIs pS
  (Xb pS hit.typeIs A9 ?_ (Ak _))))
 unfold Builtin.«set_iterator.__next__»;refine Wh (m:=slotArgs _ _ _) (wpAny_pure ?_);refine Wh (wpAny_fieldsOf mj hP ?_);dsimp only;refine Wh (Zk ay O.data (Tab.fits O.tab) ?_);simp only[Yc,Wk,WM];simp only[Int.toNat_natCast];refine Wh (Fo ay O (Wm _) ?_);rw[YS (by omega)]
 simp only[Option.map_none];refine Wh (XD mj hP (by simp) ?_)
 show wpAny _ _ (newExc (.type "StopIteration") []>>=_) _ _ _;refine Wh ?_;simp only[newExc,newTuple];refine Wh (WG ?_ (by size_fits))
 refine Wh (m:=firstArgMember _ _) (Z4 (a:=Value.none) (by first|rfl|(simp only[firstArgMember];rfl)) ?_)
 refine WG ?_ (by size_fits)
 simp only[raiseNew];refine Wh (wpAny_handled ?_);rw[show A.in1.handled=none from bJ];refine Wh (wpAny_pure (wpAny_throw ?_));refine Wh (Y4 (T:="StopIteration") (b:=true) ⟨_,Wq _ rfl,rfl⟩ Z5 ?_);exact wpAny_pure (dh _ (((Xe ..).extBut.push _).push _))
def Of{it a:Addr}{slot i n aY:Nat}{Q:Value->Shared->Prop}(hit:mZ s.heap it a slot i n aY)(h:Q (.ref it) s):wpAny (model prog w) A (pyIter (.ref it)) Q E s:=by
 refine wpAny_pyIter_slot hit.typeIs FH (Xb FH hit.typeIs Km ?_ (HI _));show wpAny _ _ (ret (.ref it)) _ _ s;exact wpAny_pure ⟨_,rfl,"set_iterator",_,hit.typeIs,pS.lookup,h⟩
def Og{a:Addr}{o:Obj}{ah:Array (Int×Value)}{aY:Nat}{t:SetTable}{Q:Value->Shared->Prop}(ay:s.heap.get? a=some o)(O:m9 w o ah aY t)(dh:Q (.ref s.heap.objs.size) { s with heap:=s.heap.push { cls:=.type "set_iterator",data:=.fields #[.int 0 0,.int 0 0,.ref a,.int ah.size 0,.int aY 0] } }):wpAny (model prog w) A (pyIter (.ref a)) Q E s:=by
 have cR:s.TypeIs (.ref a) "set":=⟨o,ay,O.ex.1⟩;refine wpAny_pyIter_slot cR FG (Xb FG cR Kl ?_ (HH _));unfold Builtin.«frozenset.__iter__» Builtin.Frozenset.slot0 slotArgs;simp only[List.isEmpty_nil,XJ,Wk,↓reduceIte,bind_assoc,List.length_nil,Yc];unfold Builtin.Frozenset.addrOf Builtin.Frozenset.sizeOf;simp only[pure_bind,bind_assoc];refine Wh (Zk ay O.data (Tab.fits O.tab) ?_);unfold setDrawn;simp only[bind_assoc];refine Wh (Xx ay O.data (Tab.fits O.tab) ?_);unfold setsByText;simp only[bind_assoc];refine Wh (YA ?_);simp only[pure_bind];have xJ:∀b:Bool,(!b&&(!t.plain&&decide (ah.size>1)))=false:=λb=>by rw[O.plain];simp
 show wpAny (model prog w) A.in1 (if (!(model prog w).w.params.followText "set-order"&&(!t.plain&&decide (ah.size>1)))=true then _ else _) _ _ s;rw[xJ];simp only[Wk,WM,pure_bind];unfold setEpoch;simp only[bind_assoc,pure_bind];refine Wh (Xx ay O.data (Tab.fits O.tab) ?_);dsimp only;refine Wh (WG (wpAny_pure ⟨_,rfl,"set_iterator",_,⟨_,Wq _ rfl,rfl⟩,pS.lookup,?_⟩));exact dh
def U4{A:Around}(bJ:A.handled=none){I a:Addr}(dG:a≠I){o:Obj}{ah:Array (Int×Value)}{aY:Nat}{t:SetTable}(O:m9 w o ah aY t):
  Walks prog w A I [I,a] [I] ah.size (λi v=>∃x,(fO w a ah aY)[i]?=some x/\v=x.2) (λi h=>mZ h I a (slotAt w t i) i ah.size aY/\h.get? a=some o) where
 sub:=λb ae=>by simp at ae;simp[ae]
 frame:=λi h h' st aq=>⟨let ⟨bO,e,r⟩:=st.1;⟨bO,aq I (by simp) bO e,r⟩,aq a (by simp) o st.2⟩
 item:=λi s Q E hi st dh=>by
  have ft:(fO w a ah aY).size=ah.size:=by have:=(pH w a ah aY).length_eq;simpa using this
  have af:(fO w a ah aY)[i]?=some (fO w a ah aY)[i]:=Wy (by omega)
  exact next_item st.2 O st.1 af λh' aH cC=>dh _ h' s.toks ⟨_,af,rfl⟩ ⟨aH,(cC.2 a dG).trans st.2⟩ λb bO ae e=>cC.extBut b bO (λh=>ae (by simp[h])) e
 done:=λs Q E st dh=>next_end bJ st.2 O st.1 λh' he=>dh h' s.toks λb bO ae e=>he b bO (λh=>ae (by simp[h])) e
 self:=λi s Q E st dh=>Of st.1 dh
def MP{r:Addr}{Q:Bool->Shared->Prop}(cR:s.TypeIs (.ref r) "set")(h:Q false s):wpAny (model prog w) A (Builtin.List.listLengthHint (.ref r)) Q E s:=by
 unfold Builtin.List.listLengthHint;refine Wh (wpAny_specialOf cR PySem.F.slot_set_len.lookup ?_);generalize CC:("set.__len__":String)=NT
 wp_delta
 rw[show splitId NT=some ("set","__len__") from by subst CC;decide +kernel]
 subst CC;refine Wh (Y4 (T:="set") (b:=true) cR (by rw[Zy];kernel_rfl) ?_)
 refine Zg (λo9=>absurd o9 (by decide)) (λ_=>?_)
 refine Zg (λ_=>?_) (λo9=>absurd (by decide +kernel) o9)
 refine Wh (X9 cR ?_);exact wpAny_pure h
end
end Pv
end
section
namespace Pv
open PySem PySem.Spec PyProof.Rows fp PySem.SetTable
section
variable{prog:Program}{w:World}{A:Around}{E:Value->Shared->Prop}{s:Shared}
def Jm {l : Addr} {ai : List Value} {Q : List Value -> Shared -> Prop} (au : s.heap.IsTuple l ai.toArray)
    (h : Q ai { s with heap := (s.heap.push (seqObj "list" #[] 0)).update s.heap.objs.size (Obj.mapSeq (· ++ ai.toArray)) }) (ft : ai.length <= sizeLine) :
    wpAny (model prog w) A (collect (.ref l)) Q E s := by
  obtain ⟨o, ay, aj, n, hd⟩ := id au
  unfold collect
  refine Wh (YW (Xr entry_proto_collect' ?_))
  show wpAny _ _ (do again (.builtin "list.__iadd__" ⟨[<- newList [], .ref l], []⟩)) _ _ s
  refine Wh (wpAny_newList (wpAny_pure ⟨Zx _ (by decide +kernel), Xr entry_list_iadd' ?_⟩))
  show wpAny _ _ (Builtin.List.listExtendWith (.ref s.heap.objs.size) (.ref l) (.ref s.heap.objs.size)) _ _ { s with heap := s.heap.push (seqObj "list" #[] 0) }
  unfold Builtin.List.listExtendWith
  have dH : (s.heap.push (seqObj "list" #[] 0)).get? l = some o := Wj _ ay
  refine Wh (X9 (T := "tuple") ⟨o, dH, aj⟩ ?_)
  have aW : (Value.type "tuple" == Value.type "tuple") = true := by rfl
  rw [if_pos (by rw [aW]; simp)]
  refine Wh (listItems_at dH hd ?_)
  refine Wh (listItems_at (xs := #[]) (n := 0) (Wq _ rfl) rfl ?_)
  rw [if_neg (by simp)]
  refine Wh (ZO (xs := #[]) (n := 0) (Wq _ rfl) rfl ?_ (Ws _) (by show (#[] ++ ai.toArray).size <= sizeLine + 1; simp only [XY, Wv, List.length_nil]; omega))
  refine wpAny_pure ?_
  show wpAny (model prog w) A (do
      let o <- load s.heap.objs.size
      match o.data with
      | .seq xs _ => pure xs.toList
      | _ => unsupported "internal:collect") Q E { s with heap := (s.heap.push (seqObj "list" #[] 0)).update s.heap.objs.size (Obj.mapSeq (· ++ ai.toArray)) }
  refine Wh (wpAny_load (get?_update_seq (Wq _ rfl) _) ?_)
  show wpAny _ _ (pure ((#[] : Array Value) ++ ai.toArray).toList) Q E _
  rw [show ((#[] : Array Value) ++ ai.toArray).toList = ai by simp]
  exact wpAny_pure h
noncomputable def r5(s s':Shared):Prop:=(∀b o,s.heap.get? b=some o->s'.heap.get? b=some o)/\s'.gens=s.gens/\s'.drawn=s.drawn/\s'.os=s.os
def Jk{r:Addr}{a b c:Int}{t u v:Tok}{n:Nat}{Q:List Value->Shared->Prop}(bJ:A.handled=none)(aZ:IsRange s.heap r a b c t u v)(Nu:Builtin.Range.small a b c=true)(aw:Builtin.Range.rangeSize a b c=n)(hlen:n<=2 ^ 24)(dh:∀s' acc,r5 s s'->ItemsOf (λi v=>∃t,v=.int (a+i*c) t) acc n->Q acc.toList s'):wpAny (model prog w) A (collect (.ref r)) Q E s:=by
 unfold collect;refine Wh (YW (Xr F.entry_proto_collect ?_));rw[XH F.plain_proto_collect _];show wpAny _ A.in1 (newList []>>=λl=>again (.builtin "list.__iadd__" ⟨[l,.ref r],[]⟩)) _ _ s
 refine Wh (WG ?_);refine wpAny_pure ⟨Y7 YX _,Xr F.entry_list_iadd ?_⟩;rw[XH YX _];show wpAny _ A.in1 (Builtin.List.listExtendWith (.ref s.heap.objs.size) (.ref r) (.ref s.heap.objs.size)) _ _ _;have aS:(s.heap.push { cls:=.type "list",data:=.seq ([]:List Value).toArray }).get? s.heap.objs.size=some { cls:=.type "list",data:=.seq ([]:List Value).toArray }:=Wq _ rfl;refine wpAny_extend_range (A:=A) (R:=wants _ E) (s:={ s with heap:=s.heap.push { cls:=.type "list",data:=.seq ([]:List Value).toArray } }) bJ (Wj _ aZ) Nu aw hlen s.heap.objs.size (.ref s.heap.objs.size) 0 aS λh' tk vo cQ aq jR hN=>?_
 show wpAny _ A (load s.heap.objs.size>>=_) _ _ _;refine Wh (wpAny_load jR ?_);exact wpAny_pure (dh _ vo ⟨λb o e=>aq b o (WB (Wl e)) (Wj _ e),rfl,rfl,rfl⟩ hN)
def Jl{a:Addr}{o:Obj}{ah:Array (Int×Value)}{aY:Nat}{t:SetTable}{Q:List Value->Shared->Prop}(bJ:A.handled=none)(ay:s.heap.get? a=some o)(O:m9 w o ah aY t)(aw:ah.size<=sizeLine)(dh:∀s' acc,r5 s s'->ItemsOf (λi v=>∃x,(fO w a ah aY)[i]?=some x/\v=x.2) acc ah.size->Q acc.toList s'):wpAny (model prog w) A (collect (.ref a)) Q E s:=by
 have c2:a<s.heap.objs.size:=Wl ay;unfold collect;refine Wh (YW (Xr F.entry_proto_collect ?_));rw[XH F.plain_proto_collect _];show wpAny _ A.in1 (newList []>>=λl=>again (.builtin "list.__iadd__" ⟨[l,.ref a],[]⟩)) _ _ s
 refine Wh (WG ?_);refine wpAny_pure ⟨Y7 YX _,Xr F.entry_list_iadd ?_⟩;rw[XH YX _];show wpAny _ A.in1 (Builtin.List.listExtendWith (.ref s.heap.objs.size) (.ref a) (.ref s.heap.objs.size)) _ _ _;unfold Builtin.List.listExtendWith;have nL:(s.heap.push { cls:=.type "list",data:=.seq ([]:List Value).toArray }).get? a=some o:=Wj _ ay;refine Wh (X9 (T:="set") ⟨o,nL,O.ex.1⟩ ?_);have aa:Builtin.List.listSameRef (.ref s.heap.objs.size) (.ref a)=false:=by
  have dG:s.heap.objs.size≠a:=XB (WB c2);simp[Builtin.List.listSameRef,dG]
 have h2:(Value.type "set"==Value.type "list")=false:=by decide
 have h3:(Value.type "set"==Value.type "tuple")=false:=by decide
 simp only[aa,h2,h3,Bool.or_false,Wk,WM];refine Wh (Og (s:={ s with heap:=s.heap.push { cls:=.type "list",data:=.seq ([]:List Value).toArray } }) nL O ?_);generalize er:s.heap.push { cls:=.type "list",data:=.seq ([]:List Value).toArray }=H at *;have xt:H.objs.size=s.heap.objs.size+1:=by rw[<- er,XW]
 have MZ:a<H.objs.size:=by rw[xt];exact Nat.lt_succ_of_lt c2
 refine Wh (XA (MP ⟨o,Wj _ nL,O.ex.1⟩ ?_));rw[if_pos (by decide)]
 have dG:a≠H.objs.size:=WB MZ;have Cn:s.heap.objs.size≠H.objs.size:=by rw[xt];exact WB (YB _)
 have Co:s.heap.objs.size≠a:=XB (WB c2);have o8:s.heap.objs.size∉[H.objs.size,a]:=λhm=>by
  rcases Wo.mp hm with e|e
  .exact Cn e
  .exact Co (Xo.mp e)
 generalize o7:H.push { cls:=.type "set_iterator",data:=.fields #[.int 0 0,.int 0 0,.ref a,.int ah.size 0,.int aY 0] }=bP;have aS:bP.get? s.heap.objs.size=some { cls:=.type "list",data:=.seq ([]:List Value).toArray }:=o7▸Wj _ (er▸Wq _ rfl);have Na:bP.get? a=some o:=o7▸Wj _ nL;have MJ:bP.get? H.objs.size=some { cls:=.type "set_iterator",data:=.fields #[.int 0 0,.int 0 0,.ref a,.int ah.size 0,.int aY 0] }:=o7▸Wq _ rfl;have MG:A.in1.handled=none:=bJ;have st0:slotAt w t 0=0:=by unfold slotAt;split<;>rfl
 refine Wh (XS ?_);refine Wh ?_;show wpAny _ A.in1 (updateSeq s.heap.objs.size (·.push .none)>>=λ_=>updateSeq s.heap.objs.size (·.pop)) _ _ _
 refine Wh (Z0 aS rfl ?_);have Cq:=WW (Obj.mapSeq (·.push Value.none)) aS rfl
 refine Z0 Cq rfl ?_;have Mg:=WW (Obj.mapSeq (·.pop)) Cq rfl
 have yM:∀b bB,b≠s.heap.objs.size->bP.get? b=some bB->((bP.update s.heap.objs.size (Obj.mapSeq (·.push Value.none))).update s.heap.objs.size (Obj.mapSeq (·.pop))).get? b=some bB :=
  λb bB ae e=>(WK _ _ (XB ae)).trans ((WK _ _ (XB ae)).trans e)
 refine wpAny_pure ⟨Y7 F.plain_extend_loop _,codeAny_extend_loopS (U4 (prog:=prog) (A:=A.in1) MG dG O).toS aw _ o8 _ ah.size 0 _ _ _ rfl (Ws _) ⟨⟨_,yM _ _ (XB Cn) MJ,rfl,by rw[st0];rfl⟩,yM _ _ (XB Co) Na⟩ Mg (ItemsOf.nil _) λs' vo cQ hm jR hN=>?_⟩
 show wpAny _ A (load s.heap.objs.size>>=_) _ _ s';refine Wh (wpAny_load jR ?_);refine wpAny_pure (dh s' vo ⟨λb bB e=>hm.heap b bB (λae=>?_) (yM b bB (WB (Wl e)) (o7▸Wj _ (er▸Wj _ e))),hm.gens,hm.drawn,hm.os⟩ hN)
 have tc:=Wl e;rcases Wo.mp ae with h|h
 .rw[h]at tc;exact Xz _ tc
 .rw[Xo.mp h,xt]at tc;exact absurd tc (aab.mpr (Nat.le_succ _))
end
end Pv
end
section
namespace Tm
open PySem PyProof.Rows
noncomputable def g6:Bool->Keyed->Array Keyed->Nat->Nat->Nat->StateT SortSt Sem (Option Nat):=sortPriv% PySem.Builtin.gallop
noncomputable def H2(left:Bool)(key x:Keyed):StateT SortSt Sem (Option Bool):=if left then lt' x key else do return (<- lt' key x).map (!·)
noncomputable def ja(left:Bool)(key:Keyed)(arr:Array Keyed)(j:Nat):StateT SortSt Sem (Option Bool):=do
 let x <- elem' arr j
 H2 left key x
def LM(left:Bool)(key:Keyed)(arr:Array Keyed)(b n h:Nat):g6 left key arr b n h=(do
 let mut u:=0
 let mut v:=1
 let mut lo:=0
 let mut hi:=0
 let some r <- ja left key arr (b+h)|return none
 if r then
  let rt:=n-h
  for _ in [0:n] do
   if v>=rt then break
   let some q <- ja left key arr (b+(h+v))|return none
   if !q then break
   u:=v
   v:=2*v+1
  lo:=h+u+1
  hi:=h+min v rt
 else
  let rt:=h+1
  for _ in [0:n] do
   if v>=rt then break
   let some q <- ja left key arr (b+(h-v))|return none
   if q then break
   u:=v
   v:=2*v+1
  lo:=h+1-min v rt
  hi:=h-u
 for _ in [0:n] do
  if lo>=hi then break
  let m:=lo+(hi-lo) / 2
  let some q <- ja left key arr (b+m)|return none
  if q then lo:=m+1 else hi:=m
 return some hi):=rfl
end Tm
end
section
namespace Tm
open PySem PyProof.Rows
noncomputable def bs(left:Bool)(key:Keyed)(arr:Array Keyed)(b n lo hi:Nat):StateT SortSt Sem (Option Nat):=do
 let mut lo:=lo
 let mut hi:=hi
 for _ in [0:n] do
  if lo>=hi then break
  let m:=lo+(hi-lo) / 2
  let some q <- ja left key arr (b+m)|return none
  if q then lo:=m+1 else hi:=m
 return some hi
section
variable{M:Model}{A:Around}{E:Value->Shared->Prop}{s:Shared}{left:Bool}{key:Keyed}{arr:Array Keyed}{b n h:Nat}{p:Nat->Bool}{st:SortSt}{Q:Option Nat->SortSt->Prop}
def Ay (ax : ∀ j, j < n -> ∀ Q : Option Bool -> SortSt -> Prop, Q (some (p j)) st -> wpS M A E s (ja left key arr (b + j)) Q st) (mono : ∀ i j, i <= j -> j < n -> p j = true -> p i = true)
    (aF : ∀ k, k <= n -> (∀ i, i < k -> p i = true) -> (∀ i, k <= i -> i < n -> p i = false) -> Q (some k) st) {lo hi : Nat} (aa : lo <= hi) (h2 : hi <= n) (au : ∀ i, i < lo -> p i = true) (aZ : ∀ i, hi <= i -> i < n -> p i = false) : wpS M A E s (bs left key arr b n lo hi) Q st := by
  unfold bs
  refine Wn (XI (Xf (I := fun x (c : Option (Option Nat) × Nat × Nat) aH => aH = st /\ c.1 = none /\ c.2.1 <= c.2.2 /\ c.2.2 <= n /\ (∀ i, i < c.2.1 -> p i = true) /\ (∀ i, c.2.2 <= i -> i < n -> p i = false) /\ c.2.2 - c.2.1 + x <= n)
    (Q := fun (c : Option (Option Nat) × Nat × Nat) aH => aH = st /\ c.1 = none /\ c.2.2 <= n /\ (∀ i, i < c.2.2 -> p i = true) /\ ∀ i, c.2.2 <= i -> i < n -> p i = false) ?step ?fin ⟨rfl, rfl, aa, h2, au, aZ, by show hi - lo + 0 <= n; omega⟩) ?post)
  case step =>
    rintro x ⟨o, lo, hi⟩ aH _ af ⟨rfl, rfl, k1, k2, k3, bY, k5⟩
    dsimp only at k1 k2 k3 bY k5 ⊢
    by_cases c : lo >= hi
    · rw [if_pos c]
      have e : lo = hi := by omega
      subst e
      exact Ww ⟨rfl, rfl, k2, k3, bY⟩
    · rw [if_neg c]
      have hm : lo + (hi - lo) / 2 < hi := by omega
      refine Wn (ax _ (by omega) _ ?_)
      dsimp only
      cases e : p (lo + (hi - lo) / 2) with
      | true =>
        rw [if_pos rfl]
        refine Ww ⟨rfl, rfl, by dsimp only; omega, k2, fun i d3 => ?_, bY, by dsimp only; omega⟩
        exact mono i _ (by dsimp only at d3; omega) (by omega) e
      | false =>
        rw [if_neg (by simp)]
        refine Ww ⟨rfl, rfl, by dsimp only; omega, by dsimp only; omega, k3, fun i d3 g8 => ?_, by dsimp only; omega⟩
        cases q : p i with
        | false => rfl
        | true => rw [mono _ i d3 g8 q] at e; cases e
  case fin =>
    rintro ⟨o, lo, hi⟩ aH ⟨rfl, rfl, k1, k2, k3, bY, k5⟩
    dsimp only at k1 k2 k3 bY k5 ⊢
    have e : lo = hi := by rw [W8 (Ws n)] at k5; omega
    subst e
    exact ⟨rfl, rfl, k2, k3, bY⟩
  case post =>
    rintro ⟨o, lo, hi⟩ aH ⟨rfl, rfl, k2, k3, bY⟩
    exact Ww (aF hi k2 k3 bY)
def BZ (ax : ∀ j, j < n -> ∀ Q : Option Bool -> SortSt -> Prop, Q (some (p j)) st -> wpS M A E s (ja left key arr (b + j)) Q st)
    (bJ : h < n) (mono : ∀ i j, i <= j -> j < n -> p j = true -> p i = true) (aF : ∀ k, k <= n -> (∀ i, i < k -> p i = true) -> (∀ i, k <= i -> i < n -> p i = false) -> Q (some k) st) : wpS M A E s (g6 left key arr b n h) Q st := by
  have Ai : ∀ i j, i <= j -> j < n -> p i = false -> p j = false := fun i j xQ aG hi => by
    cases q : p j with
    | false => rfl
    | true => rw [mono i j xQ aG q] at hi; cases hi
  rw [LM]
  refine Wn (ax h bJ _ ?_)
  cases e : p h with
  | true =>
    dsimp only
    rw [if_pos rfl]
    refine Wn (XI (Xf (I := fun x (c : Option (Option Nat) × Nat × Nat) aH => aH = st /\ c.1 = none /\ c.2.1 < c.2.2 /\ h + c.2.1 < n /\ p (h + c.2.1) = true /\ x + 1 <= c.2.2)
      (Q := fun (c : Option (Option Nat) × Nat × Nat) aH => aH = st /\ c.1 = none /\ c.2.1 < c.2.2 /\ h + c.2.1 < n /\ p (h + c.2.1) = true /\ (n - h <= c.2.2 \/ p (h + c.2.2) = false)) ?step ?fin ⟨rfl, rfl, Nat.zero_lt_one, bJ, e, Wm _⟩) ?post)
    case step =>
      rintro x ⟨o, u, v⟩ aH _ af ⟨rfl, rfl, k1, k2, k3, bY⟩
      dsimp only at k1 k2 k3 bY ⊢
      by_cases c : v >= n - h
      · rw [if_pos c]; exact Ww ⟨rfl, rfl, k1, k2, k3, .inl c⟩
      · rw [if_neg c]
        refine Wn (ax _ (by omega) _ ?_)
        dsimp only
        cases bj : p (h + v) with
        | true => rw [if_neg (by simp)]; exact Ww ⟨rfl, rfl, by dsimp only; omega, by dsimp only; omega, bj, by dsimp only; omega⟩
        | false => rw [if_pos (by simp)]; exact Ww ⟨rfl, rfl, k1, k2, k3, .inr bj⟩
    case fin =>
      rintro ⟨o, u, v⟩ aH ⟨rfl, rfl, k1, k2, k3, bY⟩
      rw [W8 (Ws n)] at bY
      exact ⟨rfl, rfl, k1, k2, k3, .inl (by dsimp only at bY ⊢; omega)⟩
    case post =>
      rintro ⟨o, u, v⟩ aH ⟨rfl, rfl, k1, k2, k3, bY⟩
      dsimp only at k1 k2 k3 bY ⊢
      refine Ay (p := p) ax mono aF (lo := h + u + 1) (hi := h + min v (n - h)) (by omega) (by omega) (fun i hi => mono i _ (by omega) k2 k3) fun i hi g8 => ?_
      rcases bY with bY | bY
      · omega
      · by_cases c : v <= n - h
        · exact Ai _ i (by omega) g8 bY
        · omega
  | false =>
    dsimp only
    rw [if_neg (by simp)]
    refine Wn (XI (Xf (I := fun x (c : Option (Option Nat) × Nat × Nat) aH => aH = st /\ c.1 = none /\ c.2.1 < c.2.2 /\ c.2.1 <= h /\ p (h - c.2.1) = false /\ x + 1 <= c.2.2)
      (Q := fun (c : Option (Option Nat) × Nat × Nat) aH => aH = st /\ c.1 = none /\ c.2.1 < c.2.2 /\ c.2.1 <= h /\ p (h - c.2.1) = false /\ (h + 1 <= c.2.2 \/ p (h - c.2.2) = true)) ?step ?fin ⟨rfl, rfl, Nat.zero_lt_one, Ws _, e, Wm _⟩) ?post)
    case step =>
      rintro x ⟨o, u, v⟩ aH _ af ⟨rfl, rfl, k1, k2, k3, bY⟩
      dsimp only at k1 k2 k3 bY ⊢
      by_cases c : v >= h + 1
      · rw [if_pos c]; exact Ww ⟨rfl, rfl, k1, k2, k3, .inl c⟩
      · rw [if_neg c]
        refine Wn (ax _ (by omega) _ ?_)
        dsimp only
        cases bj : p (h - v) with
        | true => rw [if_pos rfl]; exact Ww ⟨rfl, rfl, k1, k2, k3, .inr bj⟩
        | false => rw [if_neg (by simp)]; exact Ww ⟨rfl, rfl, by dsimp only; omega, by dsimp only; omega, bj, by dsimp only; omega⟩
    case fin =>
      rintro ⟨o, u, v⟩ aH ⟨rfl, rfl, k1, k2, k3, bY⟩
      rw [W8 (Ws n)] at bY
      exact ⟨rfl, rfl, k1, k2, k3, .inl (by dsimp only at bY ⊢; omega)⟩
    case post =>
      rintro ⟨o, u, v⟩ aH ⟨rfl, rfl, k1, k2, k3, bY⟩
      dsimp only at k1 k2 k3 bY ⊢
      refine Ay (p := p) ax mono aF (lo := h + 1 - min v (h + 1)) (hi := h - u) (by omega) (by omega) (fun i hi => ?_) fun i hi g8 => Ai _ i hi g8 k3
      rcases bY with bY | bY
      · omega
      · by_cases c : v <= h + 1
        · exact mono i _ (by omega) (by omega) bY
        · omega
end
end Tm
end
section
namespace Tm
open PySem PyProof.Rows
noncomputable def tN:Array Keyed->Array Keyed->StateT SortSt Sem (Array Keyed):=sortPriv% PySem.Builtin.mergeLo
noncomputable abbrev setG(st:SortSt)(g:Nat):SortSt:=SortSt.mk' (kindOf st) (arrOf st) (pendingOf st) g (failedOf st)
def Pq (a b : Array Keyed) : tN a b = (do
  rule "list.sort.merge-lo"
  let om := a.size + b.size
  let fin (r : Array Keyed) (i j : Nat) := r ++ a.extract i a.size ++ b.extract j b.size
  let fla (r : Array Keyed) (i j : Nat) := r ++ b.extract j b.size ++ a.extract i a.size
  let mut r : Array Keyed := #[<- elem' b 0]
  let mut i := 0
  let mut j := 1
  if j == b.size then return fin r i j
  if i + 1 == a.size then return fla r i j
  let mut aB := gallopOf (<- get)
  for _ in [0:om] do
    let mut ca := 0
    let mut bZ := 0
    for _ in [0:om] do
      let some w <- lt' (<- elem' b j) (<- elem' a i) | return fin r i j
      if w then
        r := r.push (<- elem' b j); j := j + 1; bZ := bZ + 1; ca := 0
        if j == b.size then return fin r i j
        if bZ >= aB then break
      else
        r := r.push (<- elem' a i); i := i + 1; ca := ca + 1; bZ := 0
        if i + 1 == a.size then return fla r i j
        if ca >= aB then break
    rule "list.sort.gallop"
    aB := aB + 1
    for _ in [0:om] do
      if aB > 1 then aB := aB - 1
      modify fun s => setG s aB
      let some k <- g6 false (<- elem' b j) a i (a.size - i) 0 | return fin r i j
      ca := k
      if k > 0 then
        r := r ++ a.extract i (i + k); i := i + k
        if i + 1 == a.size then return fla r i j
        if i == a.size then return fin r i j
      r := r.push (<- elem' b j); j := j + 1
      if j == b.size then return fin r i j
      let some k <- g6 true (<- elem' a i) b j (b.size - j) 0 | return fin r i j
      bZ := k
      if k > 0 then
        r := r ++ b.extract j (j + k); j := j + k
        if j == b.size then return fin r i j
      r := r.push (<- elem' a i); i := i + 1
      if i + 1 == a.size then return fla r i j
      if ca < 7 && bZ < 7 then break
    aB := aB + 1
    modify fun s => setG s aB
  unsupported "internal:list.sort.merge-bound") := rfl
structure eo(M:Model)(A:Around)(E:Value->Shared->Prop)(s:Shared)(κ:SortKind)(S:Keyed->Prop)(lt:Keyed->Keyed->Bool):Prop where
 ask:∀(x y:Keyed)(st:SortSt)(Q:Option Bool->SortSt->Prop),S x->S y->kindOf st=κ->Q (some (lt x y)) st->wpS M A E s (lt' x y) Q st
 hk:∀x y,S x->S y->lt x y=true->lt y x=false
 dn:∀x y z,S x->S y->S z->lt y x=false->lt z y=false->lt z x=false
noncomputable abbrev le(lt:Keyed->Keyed->Bool)(x y:Keyed):Prop:=lt y x=false
noncomputable def bQ(st aH:SortSt):Prop:=kindOf aH=kindOf st/\arrOf aH=arrOf st/\pendingOf aH=pendingOf st/\failedOf aH=failedOf st
def bQ.refl(st:SortSt):bQ st st:=⟨rfl,rfl,rfl,rfl⟩
def bQ.set{st aH:SortSt}(h:bQ st aH)(g:Nat):bQ st (setG aH g):=h
section
variable{M:Model}{A:Around}{E:Value->Shared->Prop}{s:Shared}{κ:SortKind}{S:Keyed->Prop}{lt:Keyed->Keyed->Bool}{a b:Array Keyed}{st aH:SortSt}
def eU{i:Nat}{Q:Keyed->SortSt->Prop}(h:i<a.size)(q:Q a[i] st):wpS M A E s (elem' a i) Q st:=by
 rw[elem'_eq,Wy h];exact Ww q
def Ib(O:eo M A E s κ S lt)(aq:kindOf st=κ){key:Keyed}{j:Nat}(h:j<a.size)(ag:S key)(aC:S a[j]){Q:Option Bool->SortSt->Prop}(q:Q (some (!lt key a[j])) st):wpS M A E s (ja false key a j) Q st:=by
 unfold ja;refine Wn (eU h ?_);show wpS M A E s (do return (<- lt' key a[j]).map (!·)) Q st
 exact Wn (O.ask _ _ _ _ ag aC aq (Ww q))
def Ic(O:eo M A E s κ S lt)(aq:kindOf st=κ){key:Keyed}{j:Nat}(h:j<a.size)(ag:S key)(aC:S a[j]){Q:Option Bool->SortSt->Prop}(q:Q (some (lt a[j] key)) st):wpS M A E s (ja true key a j) Q st:=by
 unfold ja;refine Wn (eU h ?_);show wpS M A E s (lt' a[j] key) Q st;exact O.ask _ _ _ _ aC ag aq q
noncomputable def iy(lt:Keyed->Keyed->Bool)(a:Array Keyed)(i n:Nat):Prop:=∀x y (af:x<a.size) (aA:y<a.size),i<=x->x<=y->y<i+n->le lt a[x] a[y]
def xb(O:eo M A E s κ S lt)(aq:kindOf st=κ){key:Keyed}{i n h:Nat}{Q:Option Nat->SortSt->Prop}(aS:∀x (af:x<a.size),S a[x])(ag:S key)(aw:i+n<=a.size)(bJ:h<n)(x9:iy lt a i n)(aF:∀k,k<=n->(∀x (af:x<a.size),i<=x->x<i+k->le lt a[x] key)->(∀x (af:x<a.size),i+k<=x->x<i+n->lt key a[x]=true)->Q (some k) st):wpS M A E s (g6 false key a i n h) Q st:=by
 refine BZ (p:=λx=>!lt key (a.getD (i+x) key)) (λj aG Q q=>?_) bJ (λx y gk aA q=>?_) λk aq aa h2=>?_
 .have fq:i+j<a.size:=by omega
  refine Ib O aq fq ag (aS _ fq) ?_;simp only[Array.getD,fq,ZL]at q;exact q
 .have jY:i+x<a.size:=by omega
  have nQ:i+y<a.size:=by omega
  simp only[Array.getD,jY,nQ,ZL,Xd,Xs]at q ⊢;exact O.dn _ _ _ (aS _ jY) (aS _ nQ) ag (x9 _ _ jY nQ (by omega) (by omega) (by omega)) q
 .refine aF k aq (λx af l1 l2=>?_) λx af l1 l2=>?_
  .have:=aa (x-i) (by omega)
   have e:i+(x-i)=x:=by omega
   simp only[e,Array.getD,af,ZL,Xd,Xs]at this;exact this
  .have:=h2 (x-i) (by omega) (by omega)
   have e:i+(x-i)=x:=by omega
   simp only[e,Array.getD,af,ZL,Bool.not_eq_false',Xs]at this;exact this
def xc(O:eo M A E s κ S lt)(aq:kindOf st=κ){key:Keyed}{i n h:Nat}{Q:Option Nat->SortSt->Prop}(aS:∀x (af:x<a.size),S a[x])(ag:S key)(aw:i+n<=a.size)(bJ:h<n)(x9:iy lt a i n)(aF:∀k,k<=n->(∀x (af:x<a.size),i<=x->x<i+k->lt a[x] key=true)->(∀x (af:x<a.size),i+k<=x->x<i+n->le lt key a[x])->Q (some k) st):wpS M A E s (g6 true key a i n h) Q st:=by
 refine BZ (p:=λx=>lt (a.getD (i+x) key) key) (λj aG Q q=>?_) bJ (λx y gk aA q=>?_) λk aq aa h2=>?_
 .have fq:i+j<a.size:=by omega
  refine Ic O aq fq ag (aS _ fq) ?_;simp only[Array.getD,fq,ZL]at q;exact q
 .have jY:i+x<a.size:=by omega
  have nQ:i+y<a.size:=by omega
  simp only[Array.getD,jY,nQ,ZL,Xs]at q ⊢;cases e:lt a[i+x] key with
  |true=>rfl
  |false=>rw[O.dn _ _ _ ag (aS _ jY) (aS _ nQ) e (x9 _ _ jY nQ (by omega) (by omega) (by omega))]at q;cases q
 .refine aF k aq (λx af l1 l2=>?_) λx af l1 l2=>?_
  .have:=aa (x-i) (by omega)
   have e:i+(x-i)=x:=by omega
   simp only[e,Array.getD,af,ZL,Xs]at this;exact this
  .have:=h2 (x-i) (by omega) (by omega)
   have e:i+(x-i)=x:=by omega
   simp only[e,Array.getD,af,ZL,Xs]at this;exact this
end
end Tm
end
section
namespace Tm
open PySem PyProof.Rows
structure dp(lt:Keyed->Keyed->Bool)(a b r:List Keyed)(i j:Nat):Prop where
 perm:(r++(a.drop i++b.drop j)).Perm (a++b)
 bK:(r++a.drop i).Pairwise (le lt)
 cT:(r++b.drop j).Pairwise (le lt)
noncomputable def eH(lt:Keyed->Keyed->Bool)(a b r:List Keyed):Prop:=r.Perm (a++b)/\r.Pairwise (le lt)
section
variable{lt:Keyed->Keyed->Bool}{a b r:List Keyed}{i j k:Nat}
def dp.rS(h:dp lt a b r i j)(k:Nat)(au:∀x∈(a.drop i).take k,∀y∈b.drop j,le lt x y):dp lt a b (r++(a.drop i).take k) (i+k) j:=by
 have e:a.drop i=(a.drop i).take k++a.drop (i+k):=by rw[<- List.drop_drop,X3]
 refine⟨?_,?_,?_⟩
 .rw[Wx,<- Wx ((a.drop i).take k),<- e];exact h.perm
 .rw[Wx,<- e];exact h.bK
 .have ae:=Wz.mp h.cT;have aC:=Wz.mp h.bK;rw[e]at aC;have xx:=Wz.mp aC.2.1;rw[Wx];refine Wz.mpr ⟨ae.1,Wz.mpr ⟨xx.1,ae.2.1,au⟩,λx af y aA=>?_⟩
  rcases WT.mp aA with aA|aA
  .exact aC.2.2 x af y (WZ _ aA)
  .exact ae.2.2 x af y aA
def dp.rT(h:dp lt a b r i j)(k:Nat)(au:∀x∈(b.drop j).take k,∀y∈a.drop i,le lt x y):dp lt a b (r++(b.drop j).take k) i (j+k):=by
 have e:b.drop j=(b.drop j).take k++b.drop (j+k):=by rw[<- List.drop_drop,X3]
 refine⟨?_,?_,?_⟩
 .have p1:(r++(b.drop j).take k++(a.drop i++b.drop (j+k))).Perm (r++(a.drop i++b.drop j)):=by
   rw[Wx];refine X4 r ?_;rw[<- Wx]
   conv=>rhs;rw[e,<- Wx]
   exact Ym _ Yr
  exact p1.trans h.perm
 .have aC:=Wz.mp h.bK;have ae:=Wz.mp h.cT;rw[e]at ae;have jg:=Wz.mp ae.2.1;rw[Wx];refine Wz.mpr ⟨aC.1,Wz.mpr ⟨jg.1,aC.2.1,au⟩,λx af y aA=>?_⟩
  rcases WT.mp aA with aA|aA
  .exact ae.2.2 x af y (WZ _ aA)
  .exact aC.2.2 x af y aA
 .rw[Wx,<- e];exact h.cT
def dp.wR(h:dp lt a b r i b.length):eH lt a b (r++a.drop i):=by
 have:=h.perm;rw[Y5,XO]at this;exact⟨this,h.bK⟩
def dp.wU(h:dp lt a b r a.length j):eH lt a b (r++b.drop j):=by
 have:=h.perm;rw[Y5,List.nil_append]at this;exact⟨this,h.cT⟩
def dp.last(h:dp lt a b r i j)(hi:i+1=a.length)(au:∀y∈b,∀x,a[a.length-1]?=some x->le lt y x):eH lt a b (r++b.drop j++a.drop i):=by
 have e:∃x,a.drop i=[x]/\a[a.length-1]?=some x:=by
  have d3:i<a.length:=by omega
  refine⟨a[i],?_,?_⟩
  .rw[XP d3,Yn (by omega)]
  .rw[show a.length-1=i by omega];exact Wr d3
 obtain⟨x,e,ex⟩:=e;have aC:=Wz.mp h.bK;have ae:=Wz.mp h.cT;refine⟨?_,?_⟩
 .refine List.Perm.trans ?_ h.perm;rw[Wx];exact X4 r Yr
 .refine Wz.mpr ⟨h.cT,by rw[e];simp,λz hz y aA=>?_⟩
  rw[e]at aA;have:y=x:=by simpa using aA
  subst this;rcases WT.mp hz with hz|hz
  .exact aC.2.2 z hz y (by rw[e];simp)
  .exact au z (Yw hz) y ex
end
end Tm
end
section
namespace Tm
open PySem PyProof.Rows
def Bt(a:Array Keyed)(i k:Nat):(a.extract i (i+k)).toList=(a.toList.drop i).take k:=by
 rw[Zc,List.extract_eq_drop_take,Nat.add_sub_cancel_left]
def oY(a:Array Keyed)(i:Nat):(a.extract i a.size).toList=a.toList.drop i:=by
 rw[Zc,List.extract_eq_drop_take,<- Array.length_toList,Xn (by rw[W3];exact Wm _)]
def DM{l:List Keyed}{i k:Nat}{x:Keyed}(h:x∈(l.drop i).take k):∃n,∃(aw:n<l.length),i<=n/\n<i+k/\x=l[n]:=by
 obtain⟨n,aw,rfl⟩:=XG.mp h;rw[W2,W3]at aw;exact⟨i+n,by omega,by omega,by omega,by rw[Yd,Yv]⟩
def ro{l:List Keyed}{i:Nat}{x:Keyed}(h:x∈l.drop i):∃n,∃(aw:n<l.length),i<=n/\x=l[n]:=by
 obtain⟨n,aw,rfl⟩:=XG.mp h;rw[W3]at aw;exact⟨i+n,by omega,by omega,by rw[Yv]⟩
def take1{l:List Keyed}{i:Nat}(h:i<l.length):(l.drop i).take 1=[l[i]]:=by
 rw[XP h];rfl
noncomputable abbrev mW(a b r:Array Keyed)(i j:Nat):Array Keyed:=r++a.extract i a.size++b.extract j b.size
noncomputable abbrev d6(a b r:Array Keyed)(i j:Nat):Array Keyed:=r++b.extract j b.size++a.extract i a.size
noncomputable abbrev TT:Type:=Option (Array Keyed)×Array Keyed×Nat×Nat×Nat×Nat×Nat
noncomputable def p3(a b r:Array Keyed)(i j aB ca bZ:Nat):StateT SortSt Sem (ForInStep TT):=do
 let x <- elem' a i
 if i+1+1==a.size then pure (.done (some (d6 a b (r.push x) (i+1) j),r.push x,i+1,j,aB,ca,bZ))
 else if ca<7&&bZ<7 then pure (.done (none,r.push x,i+1,j,aB,ca,bZ)) else pure (.yield (none,r.push x,i+1,j,aB,ca,bZ))
noncomputable def p2(a b r:Array Keyed)(i j aB ca bZ:Nat):StateT SortSt Sem (ForInStep TT):=do
 let y <- elem' b j
 if j+1==b.size then pure (.done (some (mW a b (r.push y) i (j+1)),r.push y,i,j+1,aB,ca,bZ))
 else do
  let x <- elem' a i
  let q <- g6 true x b (j+1) (b.size-(j+1)) 0
  match q with
  |some k =>
   if k>0 then
    if j+1+k==b.size then pure (.done (some (mW a b (r.push y++b.extract (j+1) (j+1+k)) i (j+1+k)),r.push y++b.extract (j+1) (j+1+k),i,j+1+k,aB,ca,k))
    else p3 a b (r.push y++b.extract (j+1) (j+1+k)) i (j+1+k) aB ca k
   else p3 a b (r.push y) i (j+1) aB ca k
  |_=>pure (.done (some (mW a b (r.push y) i (j+1)),r.push y,i,j+1,aB,ca,bZ))
noncomputable def p1(a b r:Array Keyed)(i j aB ca bZ:Nat):StateT SortSt Sem (ForInStep TT):=do
 modify λs=>setG s aB
 let y <- elem' b j
 let q <- g6 false y a i (a.size-i) 0
 match q with
 |some k =>
  if k>0 then
   if i+k+1==a.size then pure (.done (some (d6 a b (r++a.extract i (i+k)) (i+k) j),r++a.extract i (i+k),i+k,j,aB,k,bZ))
   else if i+k==a.size then pure (.done (some (mW a b (r++a.extract i (i+k)) (i+k) j),r++a.extract i (i+k),i+k,j,aB,k,bZ))
   else p2 a b (r++a.extract i (i+k)) (i+k) j aB k bZ
  else p2 a b r i j aB k bZ
 |_=>pure (.done (some (mW a b r i j),r,i,j,aB,ca,bZ))
section
variable{M:Model}{A:Around}{E:Value->Shared->Prop}{s:Shared}{κ:SortKind}{S:Keyed->Prop}{lt:Keyed->Keyed->Bool}{a b r:Array Keyed}{st0 st:SortSt}{i j aB ca bZ N:Nat}
structure Pre(S:Keyed->Prop)(lt:Keyed->Keyed->Bool)(a b:Array Keyed):Prop where
 ee:∀x (af:x<a.size),S a[x]
 cC:∀x (af:x<b.size),S b[x]
 lp:iy lt a 0 a.size
 bB:iy lt b 0 b.size
 last:∀y∈b.toList,∀x,a.toList[a.toList.length-1]?=some x->le lt y x
noncomputable def gR(lt:Keyed->Keyed->Bool)(a b:Array Keyed)(N:Nat)(r:Array Keyed)(i j:Nat):Prop:=dp lt a.toList b.toList r.toList i j/\i+1<a.size/\j<b.size/\r.size=i+j/\N<=r.size
noncomputable def dM(lt:Keyed->Keyed->Bool)(a b:Array Keyed)(N:Nat)(t:TT):Prop:=match t.1 with
 |some res=>eH lt a.toList b.toList res.toList
 |none=>gR lt a b N t.2.1 t.2.2.1 t.2.2.2.1
noncomputable def sf(lt:Keyed->Keyed->Bool)(a b:Array Keyed)(N:Nat)(st0:SortSt)(f:ForInStep TT)(st:SortSt):Prop:=bQ st0 st/\match f with
 |.done t=>dM lt a b N t
 |.yield t=>t.1=none/\dM lt a b N t
def sQ(P:Pre S lt a b)(h:dp lt a.toList b.toList r.toList i j)(hi:i+1=a.size):eH lt a.toList b.toList (d6 a b r i j).toList:=by
 show eH _ _ _ (r++b.extract j b.size++a.extract i a.size).toList;rw[WL,WL,oY,oY];exact h.last (by rw[Array.length_toList];exact hi) P.last
def sO(h:dp lt a.toList b.toList r.toList i j)(aG:j=b.size):eH lt a.toList b.toList (mW a b r i j).toList:=by
 show eH _ _ _ (r++a.extract i a.size++b.extract j b.size).toList;subst aG;have e:b.toList.drop b.size=[]:=Yn (by rw[Array.length_toList];exact Wm _)
 rw[WL,WL,oY,oY,e,XO];exact dp.wR (by rw[Array.length_toList];exact h)
def Ls(h:dp lt a.toList b.toList r.toList i j)(hi:i=a.size):eH lt a.toList b.toList (mW a b r i j).toList:=by
 show eH _ _ _ (r++a.extract i a.size++b.extract j b.size).toList;subst hi;have e:a.toList.drop a.size=[]:=Yn (by rw[Array.length_toList];exact Wm _)
 rw[WL,WL,oY,oY,e,XO];exact dp.wU (by rw[Array.length_toList];exact h)
def dp.pJ(h:dp lt a.toList b.toList r.toList i j)(hi:i<a.size)(au:∀y (aA:y<b.size),j<=y->le lt a[i] b[y]):dp lt a.toList b.toList (r.push a[i]).toList (i+1) j:=by
 have d3:i<a.toList.length:=by rw[Array.length_toList];exact hi
 have:=h.rS 1 (λx af y aA=>by
  rw[take1 d3]at af;obtain rfl:x=a.toList[i]:=by simpa using af
  obtain⟨n,aw,l1,rfl⟩:=ro aA;exact au n (by rw[Array.length_toList]at aw;exact aw) l1)
 rw[take1 d3]at this;rw[Yu];exact this
def dp.pK(h:dp lt a.toList b.toList r.toList i j)(aG:j<b.size)(au:∀y (aA:y<a.size),i<=y->le lt b[j] a[y]):dp lt a.toList b.toList (r.push b[j]).toList i (j+1):=by
 have fq:j<b.toList.length:=by rw[Array.length_toList];exact aG
 have:=h.rT 1 (λx af y aA=>by
  rw[take1 fq]at af;obtain rfl:x=b.toList[j]:=by simpa using af
  obtain⟨n,aw,l1,rfl⟩:=ro aA;exact au n (by rw[Array.length_toList]at aw;exact aw) l1)
 rw[take1 fq]at this;rw[Yu];exact this
def dp.wK{k:Nat}(h:dp lt a.toList b.toList r.toList i j)(au:∀x (af:x<a.size) y (aA:y<b.size),i<=x->x<i+k->j<=y->le lt a[x] b[y]):dp lt a.toList b.toList (r++a.extract i (i+k)).toList (i+k) j:=by
 rw[WL,Bt];refine h.rS k λx af y aA=>?_
 obtain⟨n,aw,l1,l2,rfl⟩:=DM af;obtain⟨m,hm,l3,rfl⟩:=ro aA;rw[Array.length_toList]at aw hm;exact au n aw m hm l1 l2 l3
def dp.wL{k:Nat}(h:dp lt a.toList b.toList r.toList i j)(au:∀x (af:x<b.size) y (aA:y<a.size),j<=x->x<j+k->i<=y->le lt b[x] a[y]):dp lt a.toList b.toList (r++b.extract j (j+k)).toList i (j+k):=by
 rw[WL,Bt];refine h.rT k λx af y aA=>?_
 obtain⟨n,aw,l1,l2,rfl⟩:=DM af;obtain⟨m,hm,l3,rfl⟩:=ro aA;rw[Array.length_toList]at aw hm;exact au n aw m hm l1 l2 l3
def Eg(P:Pre S lt a b)(g:bQ st0 st)(h:dp lt a.toList b.toList r.toList i j)(hi:i+1<a.size)(aG:j<b.size)(aZ:r.size=i+j)(bq:N<=r.size+1)(au:∀y (aA:y<b.size),j<=y->le lt a[i] b[y]):
  wpS M A E s (p3 a b r i j aB ca bZ) (sf lt a b N st0) st:=by
 unfold p3;have eY:i<a.size:=by omega
 refine Wn (eU eY ?_);have h':=h.pJ eY au
 split
 .rename_i c;have c:i+1+1=a.size:=by simpa using c
  exact Ww ⟨g,sQ P h' c⟩
 .rename_i c;have c:¬i+1+1=a.size:=by simpa using c
  have bP:gR lt a b N (r.push a[i]) (i+1) j:=⟨h',by omega,aG,by rw[WR];omega,by rw[WR];exact bq⟩
  split
  .exact Ww ⟨g,bP⟩
  .exact Ww ⟨g,rfl,bP⟩
def Ee (O : eo M A E s κ S lt) (f5 : kindOf st0 = κ) (P : Pre S lt a b) (g : bQ st0 st) (h : dp lt a.toList b.toList r.toList i j) (hi : i + 1 < a.size) (aG : j < b.size) (aZ : r.size = i + j) (bq : N <= r.size + 2) (au : ∀ y (aA : y < a.size), i <= y -> le lt b[j] a[y]) :
    wpS M A E s (p2 a b r i j aB ca bZ) (sf lt a b N st0) st := by
  unfold p2
  have eY : i < a.size := by omega
  refine Wn (eU aG ?_)
  have h' := h.pK aG au
  split
  · rename_i c
    have c : j + 1 = b.size := by simpa using c
    exact Ww ⟨g, sO h' c⟩
  · rename_i c
    have c : ¬ j + 1 = b.size := by simpa using c
    refine Wn (eU eY ?_)
    refine Wn (xc O (g.1.trans f5) P.cC (P.ee _ eY) (by omega) (by omega) (fun x y af aA l1 l2 l3 => P.bB x y af aA (Ws _) l2 (by omega)) fun k aq f1 f2 => ?_)
    dsimp only
    have h2 : dp lt a.toList b.toList (r.push b[j] ++ b.extract (j + 1) (j + 1 + k)).toList i (j + 1 + k) := h'.wL fun x af y aA l1 l2 l3 =>
      O.dn _ _ _ (P.cC _ af) (P.ee _ eY) (P.ee _ aA) (O.hk _ _ (P.cC _ af) (P.ee _ eY) (f1 x af l1 l2)) (P.lp i y eY aA (Ws _) l3 (by omega))
    have dJ : (r.push b[j] ++ b.extract (j + 1) (j + 1 + k)).size = i + (j + 1 + k) := by
      rw [XY, WR, Xm]; omega
    split
    · split
      · rename_i bg
        have bg : j + 1 + k = b.size := by simpa using bg
        exact Ww ⟨g, sO h2 bg⟩
      · rename_i bg
        have bg : ¬ j + 1 + k = b.size := by simpa using bg
        exact Eg P g h2 hi (by omega) dJ (by rw [dJ]; omega) fun y aA l1 => f2 y aA l1 (by omega)
    · have k0 : k = 0 := by omega
      subst k0
      exact Eg P g h' hi (by omega) (by rw [WR]; omega) (by rw [WR]; omega) fun y aA l1 => f2 y aA l1 (by omega)
def Qp (O : eo M A E s κ S lt) (f5 : kindOf st0 = κ) (P : Pre S lt a b) (g : bQ st0 st) (h : dp lt a.toList b.toList r.toList i j) (hi : i + 1 < a.size) (aG : j < b.size) (aZ : r.size = i + j) (bq : N <= r.size + 2) :
    wpS M A E s (p1 a b r i j aB ca bZ) (sf lt a b N st0) st := by
  unfold p1
  refine Wn (XE ?_)
  have g := g.set aB
  refine Wn (eU aG ?_)
  refine Wn (xb O (g.1.trans f5) P.ee (P.cC _ aG) (by omega) (by omega) (fun x y af aA l1 l2 l3 => P.lp x y af aA (Ws _) l2 (by omega)) fun k aq f1 f2 => ?_)
  dsimp only
  have h2 : dp lt a.toList b.toList (r ++ a.extract i (i + k)).toList (i + k) j := h.wK fun x af y aA l1 l2 l3 =>
    O.dn _ _ _ (P.ee _ af) (P.cC _ aG) (P.cC _ aA) (f1 x af l1 l2) (P.bB j y aG aA (Ws _) l3 (by omega))
  have dJ : (r ++ a.extract i (i + k)).size = i + k + j := by
    rw [XY, Xm]; omega
  have rest : ∀ y (aA : y < a.size), i + k <= y -> le lt b[j] a[y] := fun y aA l1 => O.hk _ _ (P.cC _ aG) (P.ee _ aA) (f2 y aA l1 (by omega))
  split
  · split
    · rename_i c
      have c : i + k + 1 = a.size := by simpa using c
      exact Ww ⟨g, sQ P h2 c⟩
    · rename_i c
      have c : ¬ i + k + 1 = a.size := by simpa using c
      split
      · rename_i bg
        have bg : i + k = a.size := by simpa using bg
        exact Ww ⟨g, Ls h2 bg⟩
      · rename_i bg
        have bg : ¬ i + k = a.size := by simpa using bg
        exact Ee O f5 P g h2 (by omega) aG dJ (by rw [dJ]; omega) rest
  · have k0 : k = 0 := by omega
    subst k0
    exact Ee O f5 P g h hi aG aZ bq rest
end
end Tm
end
section
namespace Tm
open PySem PyProof.Rows
noncomputable abbrev e9:Type:=Option (Array Keyed)×Array Keyed×Nat×Nat×Nat×Nat
noncomputable abbrev kz:Type:=Option (Array Keyed)×Array Keyed×Nat×Nat×Nat
section
variable{M:Model}{A:Around}{E:Value->Shared->Prop}{s:Shared}{κ:SortKind}{S:Keyed->Prop}{lt:Keyed->Keyed->Bool}{a b r:Array Keyed}{st0 st:SortSt}{i j aB ca bZ N:Nat}
def dS{α:Type}{c:Prop}[Decidable c]{t e:StateT SortSt Sem α}{Q:α->SortSt->Prop}(aa:c->wpS M A E s t Q st)(h2:¬c->wpS M A E s e Q st):wpS M A E s (if c then t else e) Q st:=by
 by_cases h:c
 .rw[if_pos h];exact aa h
 .rw[if_neg h];exact h2 h
def gR.less{cm:Nat}(h:gR lt a b N r i j)(bq:cm<=N):gR lt a b cm r i j:=⟨h.1,h.2.1,h.2.2.1,h.2.2.2.1,Xt bq h.2.2.2.2⟩
def gR.no(h:gR lt a b N r i j)(bq:a.size+b.size<=N):False:=by
 obtain⟨_,aa,h2,h3,h4⟩:=h;omega
theorem dM.less{t:TT}{cm:Nat}(h:dM lt a b N t)(bq:cm<=N):dM lt a b cm t:=by
 obtain⟨o,t⟩:=t;cases o with
 |some res=>exact h
 |none=>exact gR.less h bq
def pT(h:iy lt a 0 a.size):a.toList.Pairwise (le lt):=by
 rw[X6];intro x y af aA gk;rw[Array.length_toList]at af aA;exact h x y af aA (Ws _) (Yx gk) (by omega)
def Pr {Q : Array Keyed -> SortSt -> Prop} (O : eo M A E s κ S lt) (aq : kindOf st = κ) (P : Pre S lt a b) (aC : 0 < a.size) (ae : 0 < b.size) (h0 : ∀ y (aA : y < a.size), le lt b[0] a[y]) (aF : ∀ res aH, bQ st aH -> eH lt a.toList b.toList res.toList -> Q res aH) :
    wpS M A E s (tN a b) Q st := by
  rw [Pq]
  dsimp only
  refine Wn (ZS (XS ⟨rfl, ?_⟩))
  refine Wn (eU ae ?_)
  have m0 : dp lt a.toList b.toList (#[] : Array Keyed).toList 0 0 := ⟨Zw _, pT P.lp, pT P.bB⟩
  have hC : dp lt a.toList b.toList (#[b[0]] : Array Keyed).toList 0 1 := m0.pK ae fun y aA _ => h0 y aA
  refine dS (fun fV => ?_) fun fV => ?_
  · have c := fV
    have c : 1 = b.size := by simpa using c
    exact Ww (aF _ _ (.refl st) (sO hC c))
  · have c := fV
    have c : ¬ 1 = b.size := by simpa using c
    refine dS (fun fV => ?_) fun fV => ?_
    · have bg := fV
      have bg : 0 + 1 = a.size := by simpa using bg
      exact Ww (aF _ _ (.refl st) (sQ P hC bg))
    · have bg := fV
      have bg : ¬ 0 + 1 = a.size := by simpa using bg
      refine Wn (YK ?_)
      refine Wn (XI (Xf (I := fun x (c : kz) aH => bQ st aH /\ c.1 = none /\ gR lt a b (x + 1) c.2.1 c.2.2.1 c.2.2.2.1) (Q := fun (c : kz) aH => bQ st aH /\ ∃ res, c.1 = some res /\ eH lt a.toList b.toList res.toList)
        ?step ?fin ⟨.refl st, rfl, hC, by show 0 + 1 < a.size; omega, by show 1 < b.size; omega, rfl, Wm _⟩) ?post)
      case fin =>
        rintro ⟨o, r, i, j, aB⟩ aH ⟨g, _, bP⟩
        exact (bP.no (by rw [W8 (Ws _)]; omega)).elim
      case post =>
        rintro ⟨o, r, i, j, aB⟩ aH ⟨g, res, rfl, m⟩
        exact Ww (aF res aH g m)
      case step =>
        rintro x ⟨o, r, i, j, aB⟩ cc _ af ⟨g1, rfl, qf⟩
        dsimp only at qf ⊢
        refine Wn (XI (Xf (I := fun y (c : e9) aH => bQ st aH /\ c.1 = none /\ gR lt a b (x + 1 + y) c.2.1 c.2.2.1 c.2.2.2.1)
          (Q := fun (c : e9) aH => bQ st aH /\ dM lt a b (x + 2) (c.1, c.2.1, c.2.2.1, c.2.2.2.1, 0, 0, 0)) ?step2 ?fin2 ⟨g1, rfl, qf⟩) ?post2)
        case fin2 =>
          rintro ⟨o, r, i, j, ca, bZ⟩ aH ⟨g, _, bP⟩
          exact (bP.no (by rw [W8 (Ws _)]; omega)).elim
        case step2 =>
          rintro y ⟨o, r, i, j, ca, bZ⟩ cH _ aA ⟨g2, rfl, ku⟩
          dsimp only at ku ⊢
          obtain ⟨m2, aD, aO, bE, cb⟩ := ku
          have eY : i < a.size := by omega
          refine Wn (eU aO (Wn (eU eY ?_)))
          refine Wn (O.ask _ _ _ _ (P.cC _ aO) (P.ee _ eY) (g2.1.trans aq) ?_)
          cases e : lt b[j] a[i] with
          | true =>
            dsimp only
            rw [if_pos rfl]
            refine Wn (eU aO ?_)
            have m3 := m2.pK aO fun y aA l1 => O.dn _ _ _ (P.cC _ aO) (P.ee _ eY) (P.ee _ aA) (O.hk _ _ (P.cC _ aO) (P.ee _ eY) e) (P.lp i y eY aA (Ws _) l1 (by omega))
            refine dS (fun fV => ?_) fun fV => ?_
            · have b2 := fV
              have b2 : j + 1 = b.size := by simpa using b2
              exact Ww ⟨g2, sO m3 b2⟩
            · have b2 := fV
              have b2 : ¬ j + 1 = b.size := by simpa using b2
              have i5 : gR lt a b (x + 1 + (y + 1)) (r.push b[j]) i (j + 1) := ⟨m3, aD, by omega, by rw [WR]; omega, by rw [WR]; omega⟩
              refine dS (fun fV => ?_) fun fV => ?_
              · exact Ww ⟨g2, gR.less i5 (by omega)⟩
              · exact Ww ⟨g2, rfl, i5⟩
          | false =>
            dsimp only
            rw [if_neg (by simp)]
            refine Wn (eU eY ?_)
            have m3 := m2.pJ eY fun y aA l1 => O.dn _ _ _ (P.ee _ eY) (P.cC _ aO) (P.cC _ aA) e (P.bB j y aO aA (Ws _) l1 (by omega))
            refine dS (fun fV => ?_) fun fV => ?_
            · have b2 := fV
              have b2 : i + 1 + 1 = a.size := by simpa using b2
              exact Ww ⟨g2, sQ P m3 b2⟩
            · have b2 := fV
              have b2 : ¬ i + 1 + 1 = a.size := by simpa using b2
              have i5 : gR lt a b (x + 1 + (y + 1)) (r.push a[i]) (i + 1) j := ⟨m3, by omega, aO, by rw [WR]; omega, by rw [WR]; omega⟩
              refine dS (fun fV => ?_) fun fV => ?_
              · exact Ww ⟨g2, gR.less i5 (by omega)⟩
              · exact Ww ⟨g2, rfl, i5⟩
        case post2 =>
          rintro ⟨o, r, i, j, ca, bZ⟩ cH ⟨g2, p⟩
          cases o with
          | some res => exact Ww ⟨g2, res, rfl, p⟩
          | none =>
            have ku : gR lt a b (x + 2) r i j := p
            dsimp only
            refine Wn (ZS (XS ⟨rfl, ?_⟩))
            refine Wn (XI (Xf (I := fun z (c : TT) aH => bQ st aH /\ c.1 = none /\ gR lt a b (x + 2 + z) c.2.1 c.2.2.1 c.2.2.2.1) (Q := fun (c : TT) aH => bQ st aH /\ dM lt a b (x + 2) c)
              ?step3 ?fin3 ⟨g2, rfl, ku⟩) ?post3)
            case fin3 =>
              rintro ⟨o, r, i, j, aB, ca, bZ⟩ aH ⟨g, _, bP⟩
              exact (bP.no (by rw [W8 (Ws _)]; omega)).elim
            case step3 =>
              rintro z ⟨o, r, i, j, aB, ca, bZ⟩ gI _ hz ⟨g3, rfl, m3, aD, aO, bE, cb⟩
              dsimp only at m3 aD aO bE cb ⊢
              have go : ∀ rr, wpS M A E s (p1 a b r i j rr ca bZ) (sf lt a b (x + 2 + (z + 1)) st) gI := fun rr => Qp O aq P g3 m3 aD aO bE (by omega)
              refine dS (fun _ => ?_) fun _ => ?_
              · refine XI (go (aB - 1)) fun f aH hf => ?_
                cases f with
                | done t => exact ⟨hf.1, dM.less hf.2 (by omega)⟩
                | yield t =>
                  obtain ⟨o, t⟩ := t
                  obtain ⟨g', rfl, hf⟩ := hf
                  exact ⟨g', rfl, hf⟩
              · refine XI (go aB) fun f aH hf => ?_
                cases f with
                | done t => exact ⟨hf.1, dM.less hf.2 (by omega)⟩
                | yield t =>
                  obtain ⟨o, t⟩ := t
                  obtain ⟨g', rfl, hf⟩ := hf
                  exact ⟨g', rfl, hf⟩
            case post3 =>
              rintro ⟨o, r, i, j, aB, ca, bZ⟩ gI ⟨g3, p⟩
              cases o with
              | some res => exact Ww ⟨g3, res, rfl, p⟩
              | none => exact Wn (XE (Ww ⟨g3.set _, rfl, p⟩))
end
end Tm
end
section
namespace Tm
open PySem PyProof.Rows
noncomputable def tM:Array Keyed->Array Keyed->StateT SortSt Sem (Array Keyed):=sortPriv% PySem.Builtin.mergeHi
def Pm (a b : Array Keyed) : tM a b = (do
  rule "list.sort.merge-hi"
  let om := a.size + b.size
  let fin (r : Array Keyed) (i j : Nat) := a.extract 0 i ++ b.extract 0 j ++ r.reverse
  let sN (r : Array Keyed) (i j : Nat) := b.extract 0 j ++ a.extract 0 i ++ r.reverse
  let mut i := a.size - 1
  let mut j := b.size
  let mut r : Array Keyed := #[<- elem' a i]
  if i == 0 then return fin r i j
  if j == 1 then return sN r i j
  let mut aB := gallopOf (<- get)
  for _ in [0:om] do
    let mut ca := 0
    let mut bZ := 0
    for _ in [0:om] do
      let some w <- lt' (<- elem' b (j - 1)) (<- elem' a (i - 1)) | return fin r i j
      if w then
        i := i - 1; r := r.push (<- elem' a i); ca := ca + 1; bZ := 0
        if i == 0 then return fin r i j
        if ca >= aB then break
      else
        j := j - 1; r := r.push (<- elem' b j); bZ := bZ + 1; ca := 0
        if j == 1 then return sN r i j
        if bZ >= aB then break
    rule "list.sort.gallop"
    aB := aB + 1
    for _ in [0:om] do
      if aB > 1 then aB := aB - 1
      modify fun s => setG s aB
      let some q <- g6 false (<- elem' b (j - 1)) a 0 i (i - 1) | return fin r i j
      let k := i - q
      ca := k
      if k > 0 then
        r := r ++ (a.extract q i).reverse; i := q
        if i == 0 then return fin r i j
      j := j - 1; r := r.push (<- elem' b j)
      if j == 1 then return sN r i j
      let some q <- g6 true (<- elem' a (i - 1)) b 0 j (j - 1) | return fin r i j
      let k := j - q
      bZ := k
      if k > 0 then
        r := r ++ (b.extract q j).reverse; j := q
        if j == 1 then return sN r i j
        if j == 0 then return fin r i j
      i := i - 1; r := r.push (<- elem' a i)
      if i == 0 then return fin r i j
      if ca < 7 && bZ < 7 then break
    aB := aB + 1
    modify fun s => setG s aB
  unsupported "internal:list.sort.merge-bound") := rfl
structure dz(lt:Keyed->Keyed->Bool)(a b t:List Keyed)(i j:Nat):Prop where
 perm:(a.take i++b.take j++t).Perm (a++b)
 b0:(a.take i++t).Pairwise (le lt)
 cq:(b.take j++t).Pairwise (le lt)
section
variable{lt:Keyed->Keyed->Bool}{a b t:List Keyed}{i j q:Nat}
def uB(l:List Keyed){q i:Nat}(h:q<=i):l.take i=l.take q++(l.take i).drop q:=by
 conv=>lhs;rw[<- X3 q (l.take i)]
 rw[List.take_take,Nat.min_eq_left h]
def dz.rS(h:dz lt a b t i j)(aF:q<=i)(au:∀x∈b.take j,∀y∈(a.take i).drop q,le lt x y):dz lt a b ((a.take i).drop q++t) q j:=by
 have e:=uB a aF;refine⟨?_,?_,?_⟩
 .refine List.Perm.trans ?_ h.perm
  conv=>rhs;rw[e]
  rw[Wx,Wx,Wx];refine X4 _ ?_;rw[<- Wx,<- Wx];exact Ym t Yr
 .rw[<- Wx,<- e];exact h.b0
 .have ae:=Wz.mp h.cq;have aC:=h.b0;rw[e,Wx]at aC;have xx:=(Wz.mp aC).2.1;refine Wz.mpr ⟨ae.1,xx,λx af y aA=>?_⟩
  rcases WT.mp aA with aA|aA
  .exact au x af y aA
  .exact ae.2.2 x af y aA
def dz.rT(h:dz lt a b t i j)(aF:q<=j)(au:∀x∈a.take i,∀y∈(b.take j).drop q,le lt x y):dz lt a b ((b.take j).drop q++t) i q:=by
 have e:=uB b aF;refine⟨?_,?_,?_⟩
 .refine List.Perm.trans ?_ h.perm
  conv=>rhs;rw[e]
  rw[Wx,Wx,Wx]
 .have aC:=Wz.mp h.b0;have ae:=h.cq;rw[e,Wx]at ae;have jg:=(Wz.mp ae).2.1;refine Wz.mpr ⟨aC.1,jg,λx af y aA=>?_⟩
  rcases WT.mp aA with aA|aA
  .exact au x af y aA
  .exact aC.2.2 x af y aA
 .rw[<- Wx,<- e];exact h.cq
def dz.wR(h:dz lt a b t 0 j):eH lt a b (b.take j++t):=by
 have:=h.perm;rw[Zz,List.nil_append]at this;exact⟨this,h.cq⟩
def dz.wU(h:dz lt a b t i 0):eH lt a b (a.take i++t):=by
 have:=h.perm;rw[Zz,XO]at this;exact⟨this,h.b0⟩
def dz.first(h:dz lt a b t i 1)(au:∀x∈b.take 1,∀y∈a,le lt x y):eH lt a b (b.take 1++a.take i++t):=by
 have ae:=Wz.mp h.cq;refine⟨?_,?_⟩
 .refine List.Perm.trans ?_ h.perm;exact Ym t Yr
 .rw[Wx];refine Wz.mpr ⟨ae.1,h.b0,λx af y aA=>?_⟩
  rcases WT.mp aA with aA|aA
  .exact au x af y (Ye aA)
  .exact ae.2.2 x af y aA
end
end Tm
end
section
namespace Tm
open PySem PyProof.Rows
def nx(a:Array Keyed)(q i:Nat):(a.extract q i).toList=(a.toList.take i).drop q:=by
 rw[Zc,List.extract_eq_drop_take,List.drop_take]
def oX(a:Array Keyed)(i:Nat):(a.extract 0 i).toList=a.toList.take i:=by rw[nx,Z6]
def tJ{l:List Keyed}{q i:Nat}{x:Keyed}(h:x∈(l.take i).drop q):∃n,∃(aw:n<l.length),q<=n/\n<i/\x=l[n]:=by
 obtain⟨n,aw,rfl⟩:=XG.mp h;rw[W3,W2]at aw;exact⟨q+n,by omega,by omega,by omega,by rw[Yv,Yd]⟩
def pB{l:List Keyed}{i:Nat}{x:Keyed}(h:x∈l.take i):∃n,∃(aw:n<l.length),n<i/\x=l[n]:=by
 obtain⟨n,aw,rfl⟩:=XG.mp h;rw[W2]at aw;exact⟨n,by omega,by omega,by rw[Yd]⟩
def tC{l:List Keyed}{i:Nat}(h0:0<i)(h:i<=l.length):(l.take i).drop (i-1)=[l[i-1]'(by omega)]:=by
 have au:(l.take i).length=i:=by rw[W2];omega
 rw[XP (by rw[au];omega),Yn (by rw[au];omega),Yd]
noncomputable abbrev mX(a b r:Array Keyed)(i j:Nat):Array Keyed:=a.extract 0 i++b.extract 0 j++r.reverse
noncomputable abbrev dv(a b r:Array Keyed)(i j:Nat):Array Keyed:=b.extract 0 j++a.extract 0 i++r.reverse
noncomputable abbrev lQ:Type:=Option (Array Keyed)×Nat×Nat×Array Keyed×Nat×Nat×Nat
noncomputable def h3(a b r:Array Keyed)(i j aB ca bZ:Nat):StateT SortSt Sem (ForInStep lQ):=do
 let x <- elem' a (i-1)
 if i-1==0 then pure (.done (some (mX a b (r.push x) (i-1) j),i-1,j,r.push x,aB,ca,bZ))
 else if ca<7&&bZ<7 then pure (.done (none,i-1,j,r.push x,aB,ca,bZ)) else pure (.yield (none,i-1,j,r.push x,aB,ca,bZ))
noncomputable def h2(a b r:Array Keyed)(i j aB ca bZ:Nat):StateT SortSt Sem (ForInStep lQ):=do
 let y <- elem' b (j-1)
 if j-1==1 then pure (.done (some (dv a b (r.push y) i (j-1)),i,j-1,r.push y,aB,ca,bZ))
 else do
  let x <- elem' a (i-1)
  let o <- g6 true x b 0 (j-1) (j-1-1)
  match o with
  |some q =>
   if j-1-q>0 then
    if q==1 then pure (.done (some (dv a b (r.push y++(b.extract q (j-1)).reverse) i q),i,q,r.push y++(b.extract q (j-1)).reverse,aB,ca,j-1-q))
    else if q==0 then pure (.done (some (mX a b (r.push y++(b.extract q (j-1)).reverse) i q),i,q,r.push y++(b.extract q (j-1)).reverse,aB,ca,j-1-q))
    else h3 a b (r.push y++(b.extract q (j-1)).reverse) i q aB ca (j-1-q)
   else h3 a b (r.push y) i (j-1) aB ca (j-1-q)
  |_=>pure (.done (some (mX a b (r.push y) i (j-1)),i,j-1,r.push y,aB,ca,bZ))
noncomputable def aa(a b r:Array Keyed)(i j aB ca bZ:Nat):StateT SortSt Sem (ForInStep lQ):=do
 modify λs=>setG s aB
 let y <- elem' b (j-1)
 let o <- g6 false y a 0 i (i-1)
 match o with
 |some q =>
  if i-q>0 then
   if q==0 then pure (.done (some (mX a b (r++(a.extract q i).reverse) q j),q,j,r++(a.extract q i).reverse,aB,i-q,bZ))
   else h2 a b (r++(a.extract q i).reverse) q j aB (i-q) bZ
  else h2 a b r i j aB (i-q) bZ
 |_=>pure (.done (some (mX a b r i j),i,j,r,aB,ca,bZ))
section
variable{M:Model}{A:Around}{E:Value->Shared->Prop}{s:Shared}{κ:SortKind}{S:Keyed->Prop}{lt:Keyed->Keyed->Bool}{a b r:Array Keyed}{st0 st:SortSt}{i j aB ca bZ N:Nat}
structure qk(S:Keyed->Prop)(lt:Keyed->Keyed->Bool)(a b:Array Keyed):Prop where
 ee:∀x (af:x<a.size),S a[x]
 cC:∀x (af:x<b.size),S b[x]
 lp:iy lt a 0 a.size
 bB:iy lt b 0 b.size
 first:∀x∈b.toList.take 1,∀y∈a.toList,le lt x y
noncomputable abbrev fT(lt:Keyed->Keyed->Bool)(a b r:Array Keyed)(i j:Nat):Prop:=dz lt a.toList b.toList r.toList.reverse i j
noncomputable def gQ(lt:Keyed->Keyed->Bool)(a b:Array Keyed)(N:Nat)(r:Array Keyed)(i j:Nat):Prop:=fT lt a b r i j/\0<i/\i<=a.size/\1<j/\j<=b.size/\r.size+i+j=a.size+b.size/\N<=r.size
noncomputable def kv(lt:Keyed->Keyed->Bool)(a b:Array Keyed)(N:Nat)(t:lQ):Prop:=match t.1 with
 |some res=>eH lt a.toList b.toList res.toList
 |none=>gQ lt a b N t.2.2.2.1 t.2.1 t.2.2.1
noncomputable def ix(lt:Keyed->Keyed->Bool)(a b:Array Keyed)(N:Nat)(st0:SortSt)(f:ForInStep lQ)(st:SortSt):Prop:=bQ st0 st/\match f with
 |.done t=>kv lt a b N t
 |.yield t=>t.1=none/\kv lt a b N t
def sW(P:qk S lt a b)(h:fT lt a b r i j)(aG:j=1):eH lt a.toList b.toList (dv a b r i j).toList:=by
 subst aG;show eH _ _ _ (b.extract 0 1++a.extract 0 i++r.reverse).toList;rw[WL,WL,oX,oX,Yf];exact dz.first h P.first
def sV(h:fT lt a b r i j)(hi:i=0):eH lt a.toList b.toList (mX a b r i j).toList:=by
 subst hi;show eH _ _ _ (a.extract 0 0++b.extract 0 j++r.reverse).toList;rw[WL,WL,oX,oX,Yf,Zz,List.nil_append];exact dz.wR h
def L2(h:fT lt a b r i j)(aG:j=0):eH lt a.toList b.toList (mX a b r i j).toList:=by
 subst aG;show eH _ _ _ (a.extract 0 i++b.extract 0 0++r.reverse).toList;rw[WL,WL,oX,oX,Yf,Zz,XO];exact dz.wU h
def dz.wK{q:Nat}(h:fT lt a b r i j)(aF:q<=i)(au:∀x (af:x<b.size) y (aA:y<a.size),x<j->q<=y->y<i->le lt b[x] a[y]):fT lt a b (r++(a.extract q i).reverse) q j:=by
 show dz lt a.toList b.toList (r++(a.extract q i).reverse).toList.reverse q j;rw[WL,Yf,YE,List.reverse_reverse,nx];refine dz.rS h aF λx af y aA=>?_
 obtain⟨n,aw,l1,rfl⟩:=pB af;obtain⟨m,hm,l2,l3,rfl⟩:=tJ aA;rw[Array.length_toList]at aw hm;exact au n aw m hm l1 l2 l3
def dz.wL{q:Nat}(h:fT lt a b r i j)(aF:q<=j)(au:∀x (af:x<a.size) y (aA:y<b.size),x<i->q<=y->y<j->le lt a[x] b[y]):fT lt a b (r++(b.extract q j).reverse) i q:=by
 show dz lt a.toList b.toList (r++(b.extract q j).reverse).toList.reverse i q;rw[WL,Yf,YE,List.reverse_reverse,nx];refine dz.rT h aF λx af y aA=>?_
 obtain⟨n,aw,l1,rfl⟩:=pB af;obtain⟨m,hm,l2,l3,rfl⟩:=tJ aA;rw[Array.length_toList]at aw hm;exact au n aw m hm l1 l2 l3
def dz.pJ(h:fT lt a b r i j)(h0:0<i)(hi:i<=a.size)(au:∀x (af:x<b.size),x<j->le lt b[x] (a[i-1]'(by omega))):fT lt a b (r.push (a[i-1]'(by omega))) (i-1) j:=by
 have ht:i-1<a.toList.length:=by rw[Array.length_toList];omega
 have:=dz.rS (q:=i-1) h (by omega) (λx af y aA=>by
  rw[tC h0 (by rw[Array.length_toList];exact hi)]at aA
  obtain rfl:y=a.toList[i-1]'ht:=by simpa using aA
  obtain⟨n,aw,l1,rfl⟩:=pB af;exact au n (by rw[Array.length_toList]at aw;exact aw) l1)
 rw[tC h0 (by rw[Array.length_toList];exact hi)]at this
 show dz lt a.toList b.toList (r.push (a[i-1]'(by omega))).toList.reverse (i-1) j
 rw[Yu,YE];exact this
def dz.pK(h:fT lt a b r i j)(h0:0<j)(aG:j<=b.size)(au:∀x (af:x<a.size),x<i->le lt a[x] (b[j-1]'(by omega))):fT lt a b (r.push (b[j-1]'(by omega))) i (j-1):=by
 have ht:j-1<b.toList.length:=by rw[Array.length_toList];omega
 have:=dz.rT (q:=j-1) h (by omega) (λx af y aA=>by
  rw[tC h0 (by rw[Array.length_toList];exact aG)]at aA
  obtain rfl:y=b.toList[j-1]'ht:=by simpa using aA
  obtain⟨n,aw,l1,rfl⟩:=pB af;exact au n (by rw[Array.length_toList]at aw;exact aw) l1)
 rw[tC h0 (by rw[Array.length_toList];exact aG)]at this
 show dz lt a.toList b.toList (r.push (b[j-1]'(by omega))).toList.reverse i (j-1)
 rw[Yu,YE];exact this
def Ca(P:qk S lt a b)(g:bQ st0 st)(h:fT lt a b r i j)(eY:0<i)(hi:i<=a.size)(aG:1<j)(fq:j<=b.size)(aZ:r.size+i+j=a.size+b.size)(bq:N<=r.size+1)(au:∀x (af:x<b.size),x<j->le lt b[x] (a[i-1]'(by omega))):
  wpS M A E s (h3 a b r i j aB ca bZ) (ix lt a b N st0) st:=by
 unfold h3;refine Wn (eU (by omega) ?_)
 have h':=dz.pJ h eY hi au;refine dS (λc=>?_) λc=>?_
 .have c:i-1=0:=by simpa using c
  exact Ww ⟨g,sV h' c⟩
 .have c:¬i-1=0:=by simpa using c
  have bP:gQ lt a b N (r.push (a[i-1]'(by omega))) (i-1) j:=⟨h',by omega,by omega,aG,fq,by rw[WR];omega,by rw[WR];exact bq⟩
  refine dS (λ_=>?_) λ_=>?_
  .exact Ww ⟨g,bP⟩
  .exact Ww ⟨g,rfl,bP⟩
def B9 (O : eo M A E s κ S lt) (f5 : kindOf st0 = κ) (P : qk S lt a b) (g : bQ st0 st) (h : fT lt a b r i j) (eY : 0 < i) (hi : i <= a.size) (aG : 1 < j) (fq : j <= b.size) (aZ : r.size + i + j = a.size + b.size) (bq : N <= r.size + 2)
    (au : ∀ x (af : x < a.size), x < i -> le lt a[x] (b[j - 1]'(by omega))) : wpS M A E s (h2 a b r i j aB ca bZ) (ix lt a b N st0) st := by
  unfold h2
  refine Wn (eU (by omega) ?_)
  have h' := dz.pK h (by omega) fq au
  refine dS (fun c => ?_) fun c => ?_
  · have c : j - 1 = 1 := by simpa using c
    exact Ww ⟨g, sW P h' c⟩
  · have c : ¬ j - 1 = 1 := by simpa using c
    refine Wn (eU (by omega) ?_)
    refine Wn (xc O (g.1.trans f5) P.cC (P.ee _ (by omega)) (by omega) (by omega) (fun x y af aA l1 l2 l3 => P.bB x y af aA (Ws _) l2 (by omega)) fun q aF f1 f2 => ?_)
    dsimp only
    have h4 : fT lt a b (r.push (b[j - 1]'(by omega)) ++ (b.extract q (j - 1)).reverse) i q := dz.wL h' aF fun x af y aA l1 l2 l3 =>
      O.dn _ _ _ (P.ee _ af) (P.ee _ (by omega)) (P.cC _ aA) (P.lp x (i - 1) af (by omega) (Ws _) (by omega) (by omega)) (f2 y aA (by omega) (by omega))
    have dJ : (r.push (b[j - 1]'(by omega)) ++ (b.extract q (j - 1)).reverse).size + i + q = a.size + b.size := by
      rw [XY, WR, Array.size_reverse, Xm]; omega
    have rest : ∀ x (af : x < b.size), x < q -> le lt b[x] (a[i - 1]'(by omega)) := fun x af l1 => O.hk _ _ (P.cC _ af) (P.ee _ (by omega)) (f1 x af (Ws _) (by omega))
    refine dS (fun bg => ?_) fun bg => ?_
    · refine dS (fun b2 => ?_) fun b2 => ?_
      · have b2 : q = 1 := by simpa using b2
        exact Ww ⟨g, sW P h4 b2⟩
      · have b2 : ¬ q = 1 := by simpa using b2
        refine dS (fun gf => ?_) fun gf => ?_
        · have gf : q = 0 := by simpa using gf
          exact Ww ⟨g, L2 h4 gf⟩
        · have gf : ¬ q = 0 := by simpa using gf
          exact Ca P g h4 eY hi (by omega) (by omega) dJ (by omega) rest
    · have e : q = j - 1 := by omega
      subst e
      exact Ca P g h' eY hi (by omega) (by omega) (by rw [WR]; omega) (by rw [WR]; omega) rest
def L6(O:eo M A E s κ S lt)(f5:kindOf st0=κ)(P:qk S lt a b)(g:bQ st0 st)(h:fT lt a b r i j)(eY:0<i)(hi:i<=a.size)(aG:1<j)(fq:j<=b.size)(aZ:r.size+i+j=a.size+b.size)(bq:N<=r.size+2):
  wpS M A E s (aa a b r i j aB ca bZ) (ix lt a b N st0) st:=by
 unfold aa;refine Wn (XE ?_);have g:=g.set aB;refine Wn (eU (by omega) ?_)
 refine Wn (xb O (g.1.trans f5) P.ee (P.cC _ (by omega)) (by omega) (by omega) (λx y af aA l1 l2 l3=>P.lp x y af aA (Ws _) l2 (by omega)) λq aF f1 f2=>?_)
 dsimp only;have h4:fT lt a b (r++(a.extract q i).reverse) q j:=dz.wK h aF λx af y aA l1 l2 l3 =>
  O.dn _ _ _ (P.cC _ af) (P.cC _ (by omega)) (P.ee _ aA) (P.bB x (j-1) af (by omega) (Ws _) (by omega) (by omega)) (O.hk _ _ (P.cC _ (by omega)) (P.ee _ aA) (f2 y aA (by omega) (by omega)))
 have dJ:(r++(a.extract q i).reverse).size+q+j=a.size+b.size:=by
  rw[XY,Array.size_reverse,Xm];omega
 have rest:∀x (af:x<a.size),x<q->le lt a[x] (b[j-1]'(by omega)):=λx af l1=>f1 x af (Ws _) (by omega)
 refine dS (λc=>?_) λc=>?_
 .refine dS (λbg=>?_) λbg=>?_
  .have bg:q=0:=by simpa using bg
   exact Ww ⟨g,sV h4 bg⟩
  .have bg:¬q=0:=by simpa using bg
   exact B9 O f5 P g h4 (by omega) (by omega) aG fq dJ (by omega) rest
 .have e:q=i:=by omega
  subst e;exact B9 O f5 P g h eY hi aG fq aZ bq rest
end
end Tm
end
section
namespace Tm
open PySem PyProof.Rows
noncomputable abbrev z9:Type:=Option (Array Keyed)×Nat×Nat×Array Keyed×Nat×Nat
noncomputable abbrev qm:Type:=Option (Array Keyed)×Nat×Nat×Array Keyed×Nat
section
variable{M:Model}{A:Around}{E:Value->Shared->Prop}{s:Shared}{κ:SortKind}{S:Keyed->Prop}{lt:Keyed->Keyed->Bool}{a b r:Array Keyed}{st0 st:SortSt}{i j aB ca bZ N:Nat}
def gQ.less{cm:Nat}(h:gQ lt a b N r i j)(bq:cm<=N):gQ lt a b cm r i j:=⟨h.1,h.2.1,h.2.2.1,h.2.2.2.1,h.2.2.2.2.1,h.2.2.2.2.2.1,Xt bq h.2.2.2.2.2.2⟩
def gQ.no(h:gQ lt a b N r i j)(bq:a.size+b.size<=N):False:=by
 obtain⟨_,aa,h2,h3,h4,h5,d0⟩:=h;omega
theorem kv.less{t:lQ}{cm:Nat}(h:kv lt a b N t)(bq:cm<=N):kv lt a b cm t:=by
 obtain⟨o,t⟩:=t;cases o with
 |some res=>exact h
 |none=>exact gQ.less h bq
def Pn {Q : Array Keyed -> SortSt -> Prop} (O : eo M A E s κ S lt) (aq : kindOf st = κ) (P : qk S lt a b) (aC : 0 < a.size) (ae : 0 < b.size) (h0 : ∀ x (af : x < b.size), le lt b[x] (a[a.size - 1]'(by omega))) (aF : ∀ res aH, bQ st aH -> eH lt a.toList b.toList res.toList -> Q res aH) :
    wpS M A E s (tM a b) Q st := by
  rw [Pm]
  dsimp only
  refine Wn (ZS (XS ⟨rfl, ?_⟩))
  refine Wn (eU (by omega) ?_)
  have a8 : a.toList.take a.size = a.toList := Xn (by rw [Array.length_toList]; exact Wm _)
  have fX : b.toList.take b.size = b.toList := Xn (by rw [Array.length_toList]; exact Wm _)
  have m0 : fT lt a b #[] a.size b.size := by
    refine ⟨?_, ?_, ?_⟩
    · rw [a8, fX]; simp
    · rw [a8]; simpa using pT P.lp
    · rw [fX]; simpa using pT P.bB
  have hC : fT lt a b #[a[a.size - 1]'(by omega)] (a.size - 1) b.size := dz.pJ m0 aC (Wm _) fun x af _ => h0 x af
  refine dS (fun c => ?_) fun c => ?_
  · have c : a.size - 1 = 0 := by simpa using c
    exact Ww (aF _ _ (.refl st) (sV hC c))
  · have c : ¬ a.size - 1 = 0 := by simpa using c
    refine dS (fun bg => ?_) fun bg => ?_
    · have bg : b.size = 1 := by simpa using bg
      exact Ww (aF _ _ (.refl st) (sW P hC bg))
    · have bg : ¬ b.size = 1 := by simpa using bg
      refine Wn (YK ?_)
      refine Wn (XI (Xf (I := fun x (c : qm) aH => bQ st aH /\ c.1 = none /\ gQ lt a b (x + 1) c.2.2.2.1 c.2.1 c.2.2.1) (Q := fun (c : qm) aH => bQ st aH /\ ∃ res, c.1 = some res /\ eH lt a.toList b.toList res.toList)
        ?step ?fin ⟨.refl st, rfl, hC, by show 0 < a.size - 1; omega, by show a.size - 1 <= a.size; omega, by show 1 < b.size; omega, Wm _, by show 1 + (a.size - 1) + b.size = a.size + b.size; omega, Wm _⟩) ?post)
      case fin =>
        rintro ⟨o, i, j, r, aB⟩ aH ⟨g, _, bP⟩
        exact (bP.no (by rw [W8 (Ws _)]; omega)).elim
      case post =>
        rintro ⟨o, i, j, r, aB⟩ aH ⟨g, res, rfl, m⟩
        exact Ww (aF res aH g m)
      case step =>
        rintro x ⟨o, i, j, r, aB⟩ cc _ af ⟨g1, rfl, qf⟩
        dsimp only at qf ⊢
        refine Wn (XI (Xf (I := fun y (c : z9) aH => bQ st aH /\ c.1 = none /\ gQ lt a b (x + 1 + y) c.2.2.2.1 c.2.1 c.2.2.1)
          (Q := fun (c : z9) aH => bQ st aH /\ kv lt a b (x + 2) (c.1, c.2.1, c.2.2.1, c.2.2.2.1, 0, 0, 0)) ?step2 ?fin2 ⟨g1, rfl, qf⟩) ?post2)
        case fin2 =>
          rintro ⟨o, i, j, r, ca, bZ⟩ aH ⟨g, _, bP⟩
          exact (bP.no (by rw [W8 (Ws _)]; omega)).elim
        case step2 =>
          rintro y ⟨o, i, j, r, ca, bZ⟩ cH _ aA ⟨g2, rfl, ku⟩
          dsimp only at ku ⊢
          obtain ⟨m2, iq, aD, aO, ka, bE, cb⟩ := ku
          have kU : i - 1 < a.size := by omega
          have jk : j - 1 < b.size := by omega
          refine Wn (eU jk (Wn (eU kU ?_)))
          refine Wn (O.ask _ _ _ _ (P.cC _ jk) (P.ee _ kU) (g2.1.trans aq) ?_)
          cases e : lt (b[j - 1]'jk) (a[i - 1]'kU) with
          | true =>
            dsimp only
            rw [if_pos rfl]
            refine Wn (eU kU ?_)
            have m3 := dz.pJ m2 iq aD fun x af l1 => O.dn _ _ _ (P.cC _ af) (P.cC _ jk) (P.ee _ kU) (P.bB x (j - 1) af jk (Ws _) (by omega) (by omega)) (O.hk _ _ (P.cC _ jk) (P.ee _ kU) e)
            refine dS (fun b2 => ?_) fun b2 => ?_
            · have b2 : i - 1 = 0 := by simpa using b2
              exact Ww ⟨g2, sV m3 b2⟩
            · have b2 : ¬ i - 1 = 0 := by simpa using b2
              have i5 : gQ lt a b (x + 1 + (y + 1)) (r.push (a[i - 1]'kU)) (i - 1) j := ⟨m3, by omega, by omega, aO, ka, by rw [WR]; omega, by rw [WR]; omega⟩
              refine dS (fun _ => ?_) fun _ => ?_
              · exact Ww ⟨g2, gQ.less i5 (by omega)⟩
              · exact Ww ⟨g2, rfl, i5⟩
          | false =>
            dsimp only
            rw [if_neg (by simp)]
            refine Wn (eU jk ?_)
            have m3 := dz.pK m2 (by omega) ka fun x af l1 => O.dn _ _ _ (P.ee _ af) (P.ee _ kU) (P.cC _ jk) (P.lp x (i - 1) af kU (Ws _) (by omega) (by omega)) e
            refine dS (fun b2 => ?_) fun b2 => ?_
            · have b2 : j - 1 = 1 := by simpa using b2
              exact Ww ⟨g2, sW P m3 b2⟩
            · have b2 : ¬ j - 1 = 1 := by simpa using b2
              have i5 : gQ lt a b (x + 1 + (y + 1)) (r.push (b[j - 1]'jk)) i (j - 1) := ⟨m3, iq, aD, by omega, by omega, by rw [WR]; omega, by rw [WR]; omega⟩
              refine dS (fun _ => ?_) fun _ => ?_
              · exact Ww ⟨g2, gQ.less i5 (by omega)⟩
              · exact Ww ⟨g2, rfl, i5⟩
        case post2 =>
          rintro ⟨o, i, j, r, ca, bZ⟩ cH ⟨g2, p⟩
          cases o with
          | some res => exact Ww ⟨g2, res, rfl, p⟩
          | none =>
            have ku : gQ lt a b (x + 2) r i j := p
            dsimp only
            refine Wn (ZS (XS ⟨rfl, ?_⟩))
            refine Wn (XI (Xf (I := fun z (c : lQ) aH => bQ st aH /\ c.1 = none /\ gQ lt a b (x + 2 + z) c.2.2.2.1 c.2.1 c.2.2.1) (Q := fun (c : lQ) aH => bQ st aH /\ kv lt a b (x + 2) c)
              ?step3 ?fin3 ⟨g2, rfl, ku⟩) ?post3)
            case fin3 =>
              rintro ⟨o, i, j, r, aB, ca, bZ⟩ aH ⟨g, _, bP⟩
              exact (bP.no (by rw [W8 (Ws _)]; omega)).elim
            case step3 =>
              rintro z ⟨o, i, j, r, aB, ca, bZ⟩ gI _ hz ⟨g3, rfl, m3, iq, aD, aO, ka, bE, cb⟩
              dsimp only at m3 iq aD aO ka bE cb ⊢
              have go : ∀ rr, wpS M A E s (aa a b r i j rr ca bZ) (ix lt a b (x + 2 + (z + 1)) st) gI := fun rr => L6 O aq P g3 m3 iq aD aO ka bE (by omega)
              refine dS (fun _ => ?_) fun _ => ?_
              · refine XI (go (aB - 1)) fun f aH hf => ?_
                cases f with
                | done t => exact ⟨hf.1, kv.less hf.2 (by omega)⟩
                | yield t =>
                  obtain ⟨o, t⟩ := t
                  obtain ⟨g', rfl, hf⟩ := hf
                  exact ⟨g', rfl, hf⟩
              · refine XI (go aB) fun f aH hf => ?_
                cases f with
                | done t => exact ⟨hf.1, kv.less hf.2 (by omega)⟩
                | yield t =>
                  obtain ⟨o, t⟩ := t
                  obtain ⟨g', rfl, hf⟩ := hf
                  exact ⟨g', rfl, hf⟩
            case post3 =>
              rintro ⟨o, i, j, r, aB, ca, bZ⟩ gI ⟨g3, p⟩
              cases o with
              | some res => exact Ww ⟨g3, res, rfl, p⟩
              | none => exact Wn (XE (Ww ⟨g3.set _, rfl, p⟩))
end
end Tm
end
section
namespace Tm
open PySem PyProof.Rows
def Pf(i:Nat):mergeAt' i=(do
 let s <- get
 let (some (u,n,di),some (v,m,_)):=((pendingOf s)[i]?,(pendingOf s)[i+1]?)|unsupported "internal:list.sort.pending"
 set (setPending s (((pendingOf s).setIfInBounds i (u,n+m,di)).eraseIdxIfInBounds (i+1)))
 let some k <- g6 false (<- elem' (arrOf s) v) (arrOf s) u n 0|return false
 let (u,n):=(u+k,n-k)
 if n==0 then return true
 let some m <- g6 true (<- elem' (arrOf s) (u+n-1)) (arrOf s) v m (m-1)|return false
 if m==0 then return true
 let x:=(arrOf s).extract u v
 let y:=(arrOf s).extract v (v+m)
 let out <- if n<=m then tN x y else tM x y
 modify λs=>setArr s (out.toList.zipIdx.foldl (λa (p,j)=>a.setIfInBounds (u+j) p) (arrOf s))
 return (failedOf (<- get)).isNone):=rfl
theorem BL:∀(m:List Keyed)(arr:Array Keyed)(k o:Nat),k+o+m.length<=arr.size->((m.zipIdx o).foldl (λa (p:Keyed×Nat)=>a.setIfInBounds (k+p.2) p.1) arr).toList=arr.toList.take (k+o)++m++arr.toList.drop (k+o+m.length)
 |[],arr,k,o,h=>by simp
 |x::m,arr,k,o,h=>by
  rw[List.zipIdx_cons,List.foldl_cons];rw[List.length_cons]at h;rw[BL m _ k (o+1) (by rw[Array.size_setIfInBounds];omega)]
  rw[ZA];dsimp only;have au:k+o<arr.toList.length:=by rw[Array.length_toList];omega
  rw[show k+(o+1)=k+o+1 by omega,List.take_set,List.drop_set_of_lt (by omega),List.length_cons]
  have e:(arr.toList.take (k+o+1)).set (k+o) x=arr.toList.take (k+o)++[x]:=by
   rw[List.take_succ_eq_append_getElem au];rw[List.set_append_right _ _ (by rw[W2];omega)]
   congr 1;rw[W2,Nat.min_eq_left (by omega),Nat.sub_self]
   rfl
  rw[e,show k+o+1+m.length=k+o+(m.length+1) by omega]
  simp only[Wx,List.cons_append,List.nil_append]
def LB(m:List Keyed)(arr:Array Keyed)(k:Nat)(h:k+m.length<=arr.size):(m.zipIdx.foldl (λa (p:Keyed×Nat)=>a.setIfInBounds (k+p.2) p.1) arr).toList=arr.toList.take k++m++arr.toList.drop (k+m.length):=BL m arr k 0 h
section
variable{M:Model}{A:Around}{E:Value->Shared->Prop}{s:Shared}{κ:SortKind}{S:Keyed->Prop}{lt:Keyed->Keyed->Bool}{st:SortSt}
def jQ{a:Array Keyed}{p q x:Nat}(h:x<(a.extract p q).size):∃(h':p+x<a.size),(a.extract p q)[x]=a[p+x]:=by
 rw[Xm]at h;exact⟨by omega,Array.getElem_extract ..⟩
def eo.gm(O:eo M A E s κ S lt){x:Keyed}(h:S x):lt x x=false:=by
 cases e:lt x x with
 |false=>rfl
 |true=>exact(O.hk x x h h e▸e).symm▸rfl
def Pg {Q : Bool -> SortSt -> Prop} {n m : Nat} {di rH : Nat} (O : eo M A E s κ S lt) (aq : kindOf st = κ) (hf : failedOf st = none) (ax : pendingOf st = #[(0, n, di), (n, m, rH)]) (aw : 0 < n) (hm : 0 < m) (hz : (arrOf st).size = n + m)
    (aS : ∀ x (af : x < (arrOf st).size), S (arrOf st)[x]) (aa : iy lt (arrOf st) 0 n) (h2 : iy lt (arrOf st) n m)
    (aF : ∀ aH, kindOf aH = κ -> failedOf aH = none -> pendingOf aH = #[(0, n + m, di)] -> (arrOf aH).toList.Perm (arrOf st).toList -> (arrOf aH).toList.Pairwise (le lt) -> Q true aH) : wpS M A E s (mergeAt' 0) Q st := by
  rw [Pf]
  refine Wn (YK ?_)
  simp only [ax]
  show wpS M A E s (do
    set (setPending st ((#[(0, n, di), (n, m, rH)].setIfInBounds 0 (0, n + m, di)).eraseIdxIfInBounds (0 + 1)))
    let some k <- g6 false (<- elem' (arrOf st) n) (arrOf st) 0 n 0 | return false
    let (u, cL) := (0 + k, n - k)
    if cL == 0 then return true
    let some cN <- g6 true (<- elem' (arrOf st) (u + cL - 1)) (arrOf st) n m (m - 1) | return false
    if cN == 0 then return true
    let x := (arrOf st).extract u n
    let y := (arrOf st).extract n (n + cN)
    let out <- if cL <= cN then tN x y else tM x y
    modify fun s => setArr s (out.toList.zipIdx.foldl (fun a (p, j) => a.setIfInBounds (u + j) p) (arrOf s))
    return (failedOf (<- get)).isNone) Q st
  have Va : ∀ {Q : PUnit -> SortSt -> Prop} {x : SortSt}, Q ⟨⟩ x -> wpS M A E s (set x : StateT SortSt Sem PUnit) Q st := fun {Q x} h => by
    unfold wpS; rw [StateT.run_set]; exact wpAny_pure ⟨rfl, h⟩
  refine Wn (Va ?_)
  generalize e1 : setPending st ((#[(0, n, di), (n, m, rH)].setIfInBounds 0 (0, n + m, di)).eraseIdxIfInBounds (0 + 1)) = cc
  have k1 : kindOf cc = κ := by rw [<- e1]; exact aq
  have f1 : failedOf cc = none := by rw [<- e1]; exact hf
  have p1 : pendingOf cc = #[(0, n + m, di)] := by
    rw [<- e1]
    show ((#[(0, n, di), (n, m, rH)].setIfInBounds 0 (0, n + m, di)).eraseIdxIfInBounds (0 + 1)) = _
    apply ZT.mp
    rw [Array.toList_eraseIdxIfInBounds, ZA]
    rfl
  have a1 : arrOf cc = arrOf st := by rw [<- e1]
  generalize arrOf st = c at hz aS aa h2 aF a1 ⊢
  have hS : n < c.size := by omega
  refine Wn (eU hS ?_)
  refine Wn (xb O k1 aS (aS _ hS) (by omega) aw aa fun k aq g1 g2 => ?_)
  dsimp only
  have all : ∀ x y (af : x < c.size) (aA : y < c.size), x <= y -> (∀ x (af : x < c.size), x < n -> le lt c[x] c[n]) -> le lt c[x] c[y] := fun x y af aA gk aj => by
    by_cases sD : y < n
    · exact aa x y af aA (Ws _) gk (by omega)
    · by_cases oT : x < n
      · exact O.dn _ _ _ (aS _ af) (aS _ hS) (aS _ aA) (aj x af oT) (h2 n y hS aA (Wm _) (by omega) (by omega))
      · exact h2 x y af aA (by omega) gk (by omega)
  have whole : (∀ x (af : x < c.size), x < n -> le lt c[x] c[n]) -> c.toList.Pairwise (le lt) := fun aj => pT fun x y af aA _ gk _ => all x y af aA gk aj
  refine dS (fun cW => ?_) fun cW => ?_
  · have cW : n - k = 0 := by simpa using cW
    refine Ww (aF cc k1 f1 p1 (by rw [a1]) (by rw [a1]; exact whole fun x af l => g1 x af (Ws _) (by omega)))
  · have cW : ¬ n - k = 0 := by simpa using cW
    have au : 0 + k + (n - k) - 1 = n - 1 := by omega
    rw [au]
    have jl : n - 1 < c.size := by omega
    refine Wn (eU jl ?_)
    refine Wn (xc O k1 aS (aS _ jl) (by omega) (by omega) h2 fun cN td g3 fZ => ?_)
    dsimp only
    refine dS (fun qB => ?_) fun qB => ?_
    · have qB : cN = 0 := by simpa using qB
      have hw := whole fun x af l => O.dn _ _ _ (aS _ af) (aS _ jl) (aS _ hS) (aa x (n - 1) af jl (Ws _) (by omega) (by omega)) (fZ n hS (by omega) (by omega))
      exact Ww (aF cc k1 f1 p1 (by rw [a1]) (by rw [a1]; exact hw))
    · have qB : ¬ cN = 0 := by simpa using qB
      rw [YR]
      have lC : (c.extract k n).size = n - k := by rw [Xm]; omega
      have oj : (c.extract n (n + cN)).size = cN := by rw [Xm]; omega
      have z6 : ∀ x (af : x < (c.extract k n).size), S (c.extract k n)[x] := fun x af => by obtain ⟨h', e⟩ := jQ af; rw [e]; exact aS _ h'
      have z7 : ∀ x (af : x < (c.extract n (n + cN)).size), S (c.extract n (n + cN))[x] := fun x af => by obtain ⟨h', e⟩ := jQ af; rw [e]; exact aS _ h'
      have z1 : iy lt (c.extract k n) 0 (c.extract k n).size := fun x y af aA _ gk _ => by
        obtain ⟨du, e1⟩ := jQ af
        obtain ⟨eO, e2⟩ := jQ aA
        rw [e1, e2]
        exact aa _ _ du eO (Ws _) (by omega) (by rw [lC] at aA; omega)
      have z2 : iy lt (c.extract n (n + cN)) 0 (c.extract n (n + cN)).size := fun x y af aA _ gk _ => by
        obtain ⟨du, e1⟩ := jQ af
        obtain ⟨eO, e2⟩ := jQ aA
        rw [e1, e2]
        exact h2 _ _ du eO (by omega) (by omega) (by rw [oj] at aA; omega)
      have below : ∀ y (aA : y < (c.extract n (n + cN)).size), le lt (c.extract n (n + cN))[y] c[n - 1] := fun y aA => by
        obtain ⟨du, e1⟩ := jQ aA
        rw [e1]
        exact O.hk _ _ (aS _ du) (aS _ jl) (g3 _ du (by omega) (by rw [oj] at aA; omega))
      have Dk : ∀ z, (c.extract k n).toList[(c.extract k n).toList.length - 1]? = some z -> z = c[n - 1] := fun z hz => by
        rw [Array.length_toList, lC, W9, Wy (by rw [lC]; omega)] at hz
        obtain ⟨du, e1⟩ := jQ (a := c) (p := k) (q := n) (x := n - k - 1) (by rw [lC]; omega)
        rw [e1] at hz
        cases hz
        congr 1
        omega
      have BB : ∀ x (af : x < (c.extract k n).size), le lt c[n] (c.extract k n)[x] := fun x af => by
        obtain ⟨du, e1⟩ := jQ af
        rw [e1]
        exact O.hk _ _ (aS _ hS) (aS _ du) (g2 _ du (by omega) (by rw [lC] at af; omega))
      have GU : (c.extract n (n + cN))[0]'(by rw [oj]; omega) = c[n] := by
        obtain ⟨du, e1⟩ := jQ (a := c) (p := n) (q := n + cN) (x := 0) (by rw [oj]; omega)
        rw [e1]
        rfl
      have fin : ∀ (res : Array Keyed) (cH : SortSt), bQ cc cH -> eH lt (c.extract k n).toList (c.extract n (n + cN)).toList res.toList -> wpS M A E s (do
          modify fun s => setArr s (res.toList.zipIdx.foldl (fun a (p, j) => a.setIfInBounds (k + j) p) (arrOf s))
          return (failedOf (<- get)).isNone) Q cH := fun res cH g aB => by
        refine Wn (XE (Wn (YK (Ww ?_))))
        have wQ : failedOf cH = none := g.2.2.2.trans f1
        have Hn : arrOf cH = c := g.2.1.trans a1
        have hlen : res.toList.length = n - k + cN := by rw [aB.1.length_eq, Wu, Array.length_toList, Array.length_toList, lC, oj]
        have Bg : (res.toList.zipIdx.foldl (fun a (p : Keyed × Nat) => a.setIfInBounds (k + p.2) p.1) (arrOf cH)).toList = c.toList.take k ++ res.toList ++ c.toList.drop (n + cN) := by
          rw [Hn, LB _ _ _ (by rw [hlen]; omega), hlen]
          congr 2
          omega
        have e0 : c.toList = c.toList.take k ++ ((c.extract k n).toList ++ (c.extract n (n + cN)).toList) ++ c.toList.drop (n + cN) := by
          rw [nx, nx]
          have aD : c.toList.take n = c.toList.take k ++ (c.toList.take n).drop k := uB _ (by omega)
          have aO : c.toList.take (n + cN) = c.toList.take n ++ (c.toList.take (n + cN)).drop n := uB _ (by omega)
          rw [<- Wx, <- aD, <- aO, X3]
        show Q (failedOf cH).isNone _
        rw [wQ]
        refine aF _ (g.1.trans k1) wQ (g.2.2.1.trans p1) ?_ ?_
        · show (res.toList.zipIdx.foldl (fun a (p : Keyed × Nat) => a.setIfInBounds (k + p.2) p.1) (arrOf cH)).toList.Perm _
          rw [Bg]
          conv => rhs; rw [e0]
          exact Ym _ (X4 _ aB.1)
        · show (res.toList.zipIdx.foldl (fun a (p : Keyed × Nat) => a.setIfInBounds (k + p.2) p.1) (arrOf cH)).toList.Pairwise _
          rw [Bg]
          have lo : ∀ x ∈ c.toList.take k, ∃ i, ∃ (hi : i < c.size), i < k /\ x = c[i] := fun x af => by
            obtain ⟨i, hi, l1, rfl⟩ := pB af
            rw [Array.length_toList] at hi
            exact ⟨i, hi, l1, rfl⟩
          have up : ∀ x ∈ c.toList.drop (n + cN), ∃ i, ∃ (hi : i < c.size), n + cN <= i /\ x = c[i] := fun x af => by
            obtain ⟨i, hi, l1, rfl⟩ := ro af
            rw [Array.length_toList] at hi
            exact ⟨i, hi, l1, rfl⟩
          have j3 : ∀ x ∈ res.toList, ∃ i, ∃ (hi : i < c.size), k <= i /\ i < n + cN /\ x = c[i] := fun x af => by
            rcases WT.mp (aB.1.mem_iff.mp af) with af | af
            · rw [nx] at af
              obtain ⟨i, hi, l1, l2, rfl⟩ := tJ af
              rw [Array.length_toList] at hi
              exact ⟨i, hi, l1, by omega, rfl⟩
            · rw [nx] at af
              obtain ⟨i, hi, l1, l2, rfl⟩ := tJ af
              rw [Array.length_toList] at hi
              exact ⟨i, hi, by omega, l2, rfl⟩
          have Pb : ∀ i j (hi : i < c.size) (aG : j < c.size), i < k -> k <= j -> le lt c[i] c[j] := fun i j hi aG l1 l2 => by
            by_cases AJ : j < n
            · exact aa i j hi aG (Ws _) (by omega) (by omega)
            · exact O.dn _ _ _ (aS _ hi) (aS _ hS) (aS _ aG) (g1 i hi (Ws _) (by omega)) (h2 n j hS aG (Wm _) (by omega) (by omega))
          have Gu : ∀ i j (hi : i < c.size) (aG : j < c.size), i < n + cN -> n + cN <= j -> le lt c[i] c[j] := fun i j hi aG l1 l2 => by
            by_cases ci : i < n
            · exact O.dn _ _ _ (aS _ hi) (aS _ jl) (aS _ aG) (aa i (n - 1) hi jl (Ws _) (by omega) (by omega)) (fZ j aG (by omega) (by omega))
            · exact h2 i j hi aG (by omega) (by omega) (by omega)
          refine Wz.mpr ⟨Wz.mpr ⟨?_, aB.2, fun x af y aA => ?_⟩, ?_, fun x af y aA => ?_⟩
          · rw [X6]
            intro x y af aA gk
            rw [W2, Array.length_toList] at af aA
            rw [Yd, Yd]
            exact aa x y (by omega) (by omega) (Ws _) (by omega) (by omega)
          · obtain ⟨i, hi, l1, rfl⟩ := lo x af
            obtain ⟨j, aG, l2, l3, rfl⟩ := j3 y aA
            exact Pb i j hi aG l1 l2
          · rw [X6]
            intro x y af aA gk
            rw [W3, Array.length_toList] at af aA
            rw [Yv, Yv]
            exact h2 _ _ (by omega) (by omega) (by omega) (by omega) (by omega)
          · obtain ⟨j, aG, l2, rfl⟩ := up y aA
            rcases WT.mp af with af | af
            · obtain ⟨i, hi, l1, rfl⟩ := lo x af
              exact Gu i j hi aG (by omega) l2
            · obtain ⟨i, hi, l1, l3, rfl⟩ := j3 x af
              exact Gu i j hi aG l3 l2
      refine dS (fun _ => ?_) fun _ => ?_
      · refine Wn (Pr O k1 ⟨z6, z7, z1, z2, fun y aA z hz => ?_⟩ (by rw [lC]; omega) (by rw [oj]; omega) (fun x af => by rw [GU]; exact BB x af) fin)
        rw [Dk z hz]
        obtain ⟨i, hi, rfl⟩ := XG.mp aA
        rw [Array.length_toList] at hi
        exact below i hi
      · refine Wn (Pn O k1 ⟨z6, z7, z1, z2, fun z hz y aA => ?_⟩ (by rw [lC]; omega) (by rw [oj]; omega) (fun x af => ?_) fin)
        · obtain ⟨i, hi, l1, rfl⟩ := pB hz
          obtain rfl : i = 0 := by omega
          obtain ⟨j, aG, rfl⟩ := XG.mp aA
          rw [Array.length_toList] at aG
          have := BB j aG
          rw [<- GU] at this
          exact this
        · have := below x af
          have e := Dk ((c.extract k n)[(c.extract k n).size - 1]'(by rw [lC]; omega)) (by rw [Array.length_toList, W9]; exact Wy _)
          rw [e]
          exact this
end
end Tm
end
section
namespace Tm
open PySem PyProof.Rows
noncomputable abbrev at_(c:Array Keyed)(x:Nat):Keyed:=c.getD x (Value.none,Value.none)
def qt{c:Array Keyed}{x:Nat}(h:x<c.size):at_ c x=c[x]:=by
 show c.getD x _=_;unfold Array.getD;rw[ZL h];rfl
def oP{c d:Array Keyed}{x y:Nat}(h:c[x]?=d[y]?):at_ c x=at_ d y:=by
 show c.getD x _=d.getD y _;rw[Xv,Xv,h]
def i7{c:Array Keyed}{i j:Nat}(aG:j<=c.size)(k:Nat):at_ (mirror c i j ((j-i) / 2)) k=if i<=k/\k<j then at_ c (i+j-1-k) else at_ c k:=by
 have h:=getElem?_mirror (i:=i) aG ((j-i) / 2) (by omega) k
 by_cases cu:(i<=k/\k<i+(j-i) / 2)\/(j-(j-i) / 2<=k/\k<j)
 .rw[if_pos cu]at h;rw[if_pos (by omega)]
  exact oP h
 .rw[if_neg cu]at h
  by_cases bg:i<=k/\k<j
  .rw[if_pos bg];have:i+j-1-k=k:=by omega
   rw[this];exact oP h
  .rw[if_neg bg];exact oP h
def vu{c:Array Keyed}{k d:Nat}(aq:k<c.size)(hd:d<=k)(x:Nat):at_ (bubble c k d) x=if x=k-d then at_ c k else if k-d<x/\x<=k then at_ c (x-1) else at_ c x:=by
 have h:=getElem?_bubble aq d hd x
 by_cases cu:x=k-d
 .rw[if_pos cu]at h ⊢;exact oP h
 .rw[if_neg cu]at h ⊢
  by_cases bg:k-d<x/\x<=k
  .rw[if_pos bg]at h ⊢;exact oP h
  .rw[if_neg bg]at h ⊢;exact oP h
noncomputable def dD(lt:Keyed->Keyed->Bool)(c:Array Keyed)(l n:Nat):Prop:=∀x y,l<=x->x<=y->y<l+n->le lt (at_ c x) (at_ c y)
noncomputable def Dec(lt:Keyed->Keyed->Bool)(c:Array Keyed)(l n:Nat):Prop:=∀x y,l<=x->x<=y->y<l+n->le lt (at_ c y) (at_ c x)
structure dE(c d:Array Keyed)(l h:Nat):Prop where
 size:d.size=c.size
 perm:d.toList.Perm c.toList
 out:∀k,(k<l\/h<=k)->at_ d k=at_ c k
theorem dE.refl(c:Array Keyed)(l h:Nat):dE c c l h:=⟨rfl,.refl _,λ_ _=>rfl⟩
theorem dE.trans{c d e:Array Keyed}{l h:Nat}(x:dE c d l h)(y:dE d e l h):dE c e l h:=⟨y.size.trans x.size,y.perm.trans x.perm,λk q=>(y.out k q).trans (x.out k q)⟩
def dE.mono{c d:Array Keyed}{l h fu h':Nat}(x:dE c d l h)(a:fu<=l)(b:h<=h'):dE c d fu h':=⟨x.size,x.perm,λk q=>x.out k (by omega)⟩
def dE.rev{c:Array Keyed}{i j:Nat}(aG:j<=c.size):dE c (mirror c i j ((j-i) / 2)) i j :=
 ⟨mirror_size ..,ZC.mp (mirror_perm ..),λk q=>by rw[i7 aG,if_neg (by omega)]⟩
def dE.It{c:Array Keyed}{k d:Nat}(aq:k<c.size)(hd:d<=k):dE c (bubble c k d) (k-d) (k+1) :=
 ⟨bubble_size ..,ZC.mp (bubble_perm ..),λx q=>by rw[vu aq hd,if_neg (by omega),if_neg (by omega)]⟩
section
variable{M:Model}{A:Around}{E:Value->Shared->Prop}{s:Shared}{κ:SortKind}{S:Keyed->Prop}{lt:Keyed->Keyed->Bool}{st aH:SortSt}{c d:Array Keyed}{l h n:Nat}
noncomputable abbrev fg(S:Keyed->Prop)(c:Array Keyed):Prop:=∀x∈c.toList,S x
theorem fg.at_(h:fg S c){x:Nat}(af:x<c.size):S (at_ c x):=by rw[qt af];exact h _ (by simp)
def fg.perm(h:fg S c)(p:d.toList.Perm c.toList):fg S d:=λx af=>h x (p.mem_iff.mp af)
def qs(O:eo M A E s κ S lt)(aq:kindOf st=κ)(aS:fg S (arrOf st)){i j:Nat}(hi:i<(arrOf st).size)(aG:j<(arrOf st).size){Q:Option Bool->SortSt->Prop}(q:Q (some (lt (at_ (arrOf st) i) (at_ (arrOf st) j))) st):wpS M A E s (ltAt' i j) Q st:=by
 rw[ltAt'_eq];refine Wn (YK ?_);show wpS _ _ _ _ (do let x <- elem' (arrOf st) i;let y <- elem' (arrOf st) j;lt' x y) Q st
 refine Wn (eU hi (Wn (eU aG ?_)));rw[qt hi,qt aG]at q;exact O.ask _ _ _ _ (aS _ (by simp)) (aS _ (by simp)) aq q
def dD.snoc(O:eo M A E s κ S lt)(aS:fg S c)(aw:l+n<c.size)(h0:0<n)(h:dD lt c l n)(q:le lt (at_ c (l+n-1)) (at_ c (l+n))):dD lt c l (n+1):=by
 intro x y aa h2 h3
 by_cases e:y=l+n
 .subst e
  by_cases e2:x=l+n
  .subst e2;exact O.gm (aS.at_ aw)
  .exact O.dn _ _ _ (aS.at_ (by omega)) (aS.at_ (by omega)) (aS.at_ aw) (h x (l+n-1) aa (by omega) (by omega)) q
 .exact h x y aa h2 (by omega)
def Dec.snoc(O:eo M A E s κ S lt)(aS:fg S c)(aw:l+n<c.size)(h0:0<n)(h:Dec lt c l n)(q:le lt (at_ c (l+n)) (at_ c (l+n-1))):Dec lt c l (n+1):=by
 intro x y aa h2 h3
 by_cases e:y=l+n
 .subst e
  by_cases e2:x=l+n
  .subst e2;exact O.gm (aS.at_ aw)
  .exact O.dn _ _ _ (aS.at_ aw) (aS.at_ (by omega)) (aS.at_ (by omega)) q (h x (l+n-1) aa (by omega) (by omega))
 .exact h x y aa h2 (by omega)
def dD.one(O:eo M A E s κ S lt)(aS:fg S c)(aw:l<c.size):dD lt c l 1:=λx y aa h2 h3=>by
 obtain rfl:x=l:=by omega
 obtain rfl:y=x:=by omega
 exact O.gm (aS.at_ aw)
def Dec.rev(h:Dec lt c l n)(aw:l+n<=c.size):dD lt (mirror c l (l+n) ((l+n-l) / 2)) l n:=by
 intro x y aa h2 h3;rw[i7 aw,i7 aw,if_pos (by omega),if_pos (by omega)]
 exact h _ _ (by omega) (by omega) (by omega)
def dD.P2(h:dD lt c l n){a b:Nat}(p:dE c d a b)(q:l+n<=a\/b<=l):dD lt d l n:=λx y aa h2 h3=>by
 rw[p.out x (by omega),p.out y (by omega)];exact h x y aa h2 h3
def dD.cp(h:dD lt c l n):iy lt c l n:=λx y af aA aa h2 h3=>by
 have:=h x y aa h2 h3;rw[qt af,qt aA]at this;exact this
end
end Tm
end
section
namespace Tm
open PySem PyProof.Rows
noncomputable def hF(l z hZ:Nat):StateT SortSt Sem (Option Nat):=do
 reverseSlice' l (l+hZ)
 let mut n:=hZ
 for _ in [n:z] do
  let some q <- ltAt' (l+n) (l+n-1)|return none
  if q then break
  n:=n+1
 return some n
noncomputable def eB(l z hZ:Nat):StateT SortSt Sem (Option Nat):=do
 rule "list.sort.descending-run"
 let mut n:=hZ+1
 let mut e:=0
 for _ in [n:z] do
  let some q <- ltAt' (l+n) (l+n-1)|return none
  if q then
   if e>0 then reverseSlice' (l+n-(e+1)) (l+n)
   e:=0
  else
   let some g <- ltAt' (l+n-1) (l+n)|return none
   if g then break
   e:=e+1
  n:=n+1
 if e>0 then reverseSlice' (l+n-(e+1)) (l+n)
 hF l z n
def Jv(l z:Nat):countRun' l z=(do
 let mut n:=1
 for _ in [1:z] do
  let some q <- ltAt' (l+n) (l+n-1)|return none
  if q then break
  n:=n+1
 if n==z then return some n
 if n>1 then
  let some g <- ltAt' l (l+n-1)|return none
  if g then return some n
  reverseSlice' l (l+n)
 eB l z n):=by
 rw[countRun'_eq];unfold eB hF;rfl
noncomputable def i6(st aH:SortSt):Prop:=kindOf aH=kindOf st/\pendingOf aH=pendingOf st/\failedOf aH=failedOf st
section
variable{M:Model}{A:Around}{E:Value->Shared->Prop}{s:Shared}{κ:SortKind}{S:Keyed->Prop}{lt:Keyed->Keyed->Bool}{st st0:SortSt}{l z n hZ:Nat}
noncomputable def qi(lt:Keyed->Keyed->Bool)(l z:Nat)(st0:SortSt)(o:Option Nat)(aH:SortSt):Prop:=∃m,o=some m/\1<=m/\m<=z/\i6 st0 aH/\dE (arrOf st0) (arrOf aH) l (l+z)/\dD lt (arrOf aH) l m
def Ao (O : eo M A E s κ S lt) (aq : kindOf st = κ) (aS : fg S (arrOf st)) (hz : l + z <= (arrOf st).size) (aa : 1 <= hZ) (aw : hZ <= z) (h : dD lt (arrOf st) l hZ) {Q : Option (Option Nat) × Nat -> SortSt -> Prop}
    (aF : ∀ n, hZ <= n -> n <= z -> dD lt (arrOf st) l n -> (n = z \/ lt (at_ (arrOf st) (l + n)) (at_ (arrOf st) (l + n - 1)) = true) -> Q (none, n) st) : wpS M A E s (forIn [hZ:z] ((none : Option (Option Nat)), hZ) fun x __s => do
      let __x <- ltAt' (l + __s.snd) (l + __s.snd - 1)
      match __x with
        | some q => if q = true then pure (ForInStep.done (none, __s.snd)) else pure (ForInStep.yield (none, __s.snd + 1))
        | x => pure (ForInStep.done (some none, __s.snd))) Q st := by
  refine Xf (I := fun x (c : Option (Option Nat) × Nat) aH => aH = st /\ c.1 = none /\ c.2 = x /\ hZ <= x /\ x <= z /\ dD lt (arrOf st) l x) ?step ?fin ⟨rfl, rfl, rfl, Wm _, aw, h⟩
  case fin =>
    rintro ⟨o, n⟩ aH ⟨rfl, rfl, rfl, k1, k2, k3⟩
    rw [W8 aw] at k3 ⊢
    exact aF z aw (Wm _) k3 (.inl rfl)
  case step =>
    rintro x ⟨o, n⟩ aH _ af ⟨rfl, rfl, e, k1, k2, k3⟩
    dsimp only at e ⊢
    subst e
    refine Wn (qs O aq aS (by omega) (by omega) ?_)
    cases e : lt (at_ (arrOf aH) (l + n)) (at_ (arrOf aH) (l + n - 1)) with
    | true => dsimp only; rw [if_pos rfl]; exact Ww (aF n k1 k2 k3 (.inr e))
    | false => dsimp only; rw [if_neg (by simp)]; exact Ww ⟨rfl, rfl, rfl, by omega, by omega, k3.snoc O aS (by omega) (by omega) e⟩
def Gg(O:eo M A E s κ S lt)(f5:kindOf st0=κ)(hS0:fg S (arrOf st0))(ag:i6 st0 st)(ax:dE (arrOf st0) (arrOf st) l (l+z))(hz:l+z<=(arrOf st0).size)(aa:1<=n)(aw:n<=z)(h:Dec lt (arrOf st) l n):wpS M A E s (hF l z n) (qi lt l z st0) st:=by
 unfold hF;rw[Y6];refine Wn (XE ?_);have jr:l+z<=(arrOf st).size:=by rw[ax.size];exact hz
 generalize e1:setArr st (mirror (arrOf st) l (l+n) ((l+n-l) / 2))=cc;have a1:arrOf cc=mirror (arrOf st) l (l+n) ((l+n-l) / 2):=by rw[<- e1]
 have s1:i6 st0 cc:=by rw[<- e1];exact ag
 have p1:dE (arrOf st0) (arrOf cc) l (l+z):=by rw[a1];exact ax.trans ((dE.rev (by omega)).mono (Wm _) (by omega))
 have dI:dD lt (arrOf cc) l n:=by rw[a1];exact h.rev (by omega)
 refine Wn (Ao O (s1.1.trans f5) (hS0.perm p1.perm) (by rw[p1.size];exact hz) aa aw dI λm k1 k2 k3 _=>?_)
 exact Ww ⟨m,rfl,by omega,k2,s1,p1,k3⟩
def Im (O : eo M A E s κ S lt) {c : Array Keyed} (aS : fg S c) {e : Nat} (aw : l + n <= c.size) (he : e + 1 <= n) (h : Dec lt c l n) (ae : ∀ x y, l + n - (e + 1) <= x -> x < l + n -> l + n - (e + 1) <= y -> y < l + n -> le lt (at_ c x) (at_ c y)) :
    Dec lt (mirror c (l + n - (e + 1)) (l + n) ((l + n - (l + n - (e + 1))) / 2)) l n := by
  intro x y aa h2 h3
  rw [i7 aw, i7 aw]
  by_cases sD : l + n - (e + 1) <= x
  · rw [if_pos (by omega), if_pos (by omega)]
    exact ae _ _ (by omega) (by omega) (by omega) (by omega)
  · rw [if_neg (show ¬ (l + n - (e + 1) <= x /\ x < l + n) by omega)]
    by_cases oT : l + n - (e + 1) <= y
    · rw [if_pos (by omega)]
      exact h _ _ aa (by omega) (by omega)
    · rw [if_neg (by omega)]
      exact h _ _ aa h2 h3
structure lI(lt:Keyed->Keyed->Bool)(S:Keyed->Prop)(l z:Nat)(st0 st:SortSt)(n e:Nat):Prop where
 ss:i6 st0 st
 dx:dE (arrOf st0) (arrOf st) l (l+z)
 dec:Dec lt (arrOf st) l n
 len:e+1<=n
 mB:n<=z
 eq:∀x y,l+n-(e+1)<=x->x<l+n->l+n-(e+1)<=y->y<l+n->le lt (at_ (arrOf st) x) (at_ (arrOf st) y)
def lI.turn{e:Nat}(O:eo M A E s κ S lt)(hS0:fg S (arrOf st0))(hz:l+z<=(arrOf st0).size)(h:lI lt S l z st0 st n e):lI lt S l z st0 (setArr st (mirror (arrOf st) (l+n-(e+1)) (l+n) ((l+n-(l+n-(e+1))) / 2))) n 0:=by
 have aa:=h.len;have h2:=h.mB;have jr:l+n<=(arrOf st).size:=by rw[h.dx.size];omega
 refine⟨h.ss,h.dx.trans ((dE.rev jr).mono (by omega) (by omega)),Im O (hS0.perm h.dx.perm) jr aa h.dec h.eq,by omega,h.mB,λx y k1 k2 k3 bY=>?_⟩
 have ex:x=l+n-1:=by omega
 have ny:y=l+n-1:=by omega
 subst ex ny;have dx:dE (arrOf st0) (mirror (arrOf st) (l+n-(e+1)) (l+n) ((l+n-(l+n-(e+1))) / 2)) l (l+z):=h.dx.trans ((dE.rev jr).mono (by omega) (by omega))
 exact O.gm ((hS0.perm dx.perm).at_ (by rw[dx.size];omega))
def A4 (O : eo M A E s κ S lt) (f5 : kindOf st0 = κ) (hS0 : fg S (arrOf st0)) (ag : i6 st0 st) (ax : dE (arrOf st0) (arrOf st) l (l + z)) (hz : l + z <= (arrOf st0).size) (aw : n < z) (h : Dec lt (arrOf st) l (n + 1)) : wpS M A E s (eB l z n) (qi lt l z st0) st := by
  unfold eB
  refine Wn (ZS (XS ⟨rfl, ?_⟩))
  have nq : lI lt S l z st0 st (n + 1) 0 := by
    refine ⟨ag, ax, h, by omega, aw, fun x y k1 k2 k3 bY => ?_⟩
    have ex : x = l + n := by omega
    have ny : y = l + n := by omega
    subst ex ny
    exact O.gm ((hS0.perm ax.perm).at_ (by rw [ax.size]; omega))
  refine Wn (XI (Xf (I := fun x (c : Option (Option Nat) × Nat × Nat) aH => c.1 = none /\ c.2.1 = x /\ lI lt S l z st0 aH x c.2.2) (Q := fun (c : Option (Option Nat) × Nat × Nat) aH => c.1 = none /\ lI lt S l z st0 aH c.2.1 c.2.2) ?step ?fin ⟨rfl, rfl, nq⟩) ?post)
  case fin =>
    rintro ⟨o, cL, e⟩ aH ⟨rfl, rfl, D⟩
    exact ⟨rfl, D⟩
  case post =>
    rintro ⟨o, cL, e⟩ aH ⟨rfl, D⟩
    dsimp only at D ⊢
    refine dS (fun _ => ?_) fun _ => ?_
    · rw [Y6]
      have i0 := D.turn O hS0 hz
      exact Wn (XE (Gg O f5 hS0 i0.ss i0.dx hz (by have := i0.len; omega) i0.mB i0.dec))
    · exact Gg O f5 hS0 D.ss D.dx hz (by have := D.len; omega) D.mB D.dec
  case step =>
    rintro x ⟨o, cL, e⟩ cc tm af ⟨rfl, e1, D⟩
    dsimp only at e1 D ⊢
    subst e1
    have aa := D.len
    have jr : l + z <= (arrOf cc).size := by rw [D.dx.size]; exact hz
    have dV := hS0.perm D.dx.perm
    have g9 := D.ss.1.trans f5
    refine Wn (qs O g9 dV (by omega) (by omega) ?_)
    cases e2 : lt (at_ (arrOf cc) (l + cL)) (at_ (arrOf cc) (l + cL - 1)) with
    | true =>
      dsimp only
      rw [if_pos rfl]
      have next : ∀ cH, lI lt S l z st0 cH cL 0 -> le lt (at_ (arrOf cH) (l + cL)) (at_ (arrOf cH) (l + cL - 1)) -> lI lt S l z st0 cH (cL + 1) 0 := fun cH i0 q => by
        have q7 : l + z <= (arrOf cH).size := by rw [i0.dx.size]; exact hz
        have Cm := hS0.perm i0.dx.perm
        refine ⟨i0.ss, i0.dx, i0.dec.snoc O Cm (by omega) (by omega) q, by omega, by omega, fun x y k1 k2 k3 bY => ?_⟩
        have ex : x = l + cL := by omega
        have ny : y = l + cL := by omega
        subst ex ny
        exact O.gm (Cm.at_ (by omega))
      have iq := O.hk _ _ (dV.at_ (by omega)) (dV.at_ (by omega)) e2
      refine dS (fun c => ?_) fun c => ?_
      · rw [Y6]
        refine Wn (XE (Ww ⟨rfl, rfl, next _ (D.turn O hS0 hz) ?_⟩))
        show le lt (at_ (mirror (arrOf cc) (l + cL - (e + 1)) (l + cL) ((l + cL - (l + cL - (e + 1))) / 2)) (l + cL)) (at_ (mirror (arrOf cc) (l + cL - (e + 1)) (l + cL) ((l + cL - (l + cL - (e + 1))) / 2)) (l + cL - 1))
        rw [i7 (by omega), i7 (by omega), if_neg (by omega), if_pos (by omega)]
        exact O.dn _ _ _ (dV.at_ (by omega)) (dV.at_ (by omega)) (dV.at_ (by omega)) iq (D.eq _ _ (by omega) (by omega) (by omega) (by omega))
      · have e0 : e = 0 := by omega
        subst e0
        exact Ww ⟨rfl, rfl, next cc D iq⟩
    | false =>
      dsimp only
      rw [if_neg (by simp)]
      refine Wn (qs O g9 dV (by omega) (by omega) ?_)
      cases e3 : lt (at_ (arrOf cc) (l + cL - 1)) (at_ (arrOf cc) (l + cL)) with
      | true => dsimp only; rw [if_pos rfl]; exact Ww ⟨rfl, D⟩
      | false =>
        dsimp only
        rw [if_neg (by simp)]
        refine Ww ⟨rfl, rfl, D.ss, D.dx, D.dec.snoc O dV (by omega) (by omega) e3, by show e + 1 + 1 <= cL + 1; omega, by omega, fun x y k1 k2 k3 bY => ?_⟩
        have k1 : l + (cL + 1) - (e + 1 + 1) <= x := k1
        have k3 : l + (cL + 1) - (e + 1 + 1) <= y := k3
        have tt : ∀ u, l + cL - (e + 1) <= u -> u < l + cL -> le lt (at_ (arrOf cc) u) (at_ (arrOf cc) (l + cL)) /\ le lt (at_ (arrOf cc) (l + cL)) (at_ (arrOf cc) u) := fun u du eO =>
          ⟨O.dn _ _ _ (dV.at_ (by omega)) (dV.at_ (by omega)) (dV.at_ (by omega)) (D.eq u (l + cL - 1) du eO (by omega) (by omega)) e2, O.dn _ _ _ (dV.at_ (by omega)) (dV.at_ (by omega)) (dV.at_ (by omega)) e3 (D.eq (l + cL - 1) u (by omega) (by omega) du eO)⟩
        by_cases sD : x = l + cL
        · by_cases oT : y = l + cL
          · subst sD oT; exact O.gm (dV.at_ (by omega))
          · subst sD; exact (tt y (by omega) (by omega)).2
        · by_cases oT : y = l + cL
          · subst oT; exact (tt x (by omega) (by omega)).1
          · exact D.eq x y (by omega) (by omega) (by omega) (by omega)
def Jw (O : eo M A E s κ S lt) (aq : kindOf st = κ) (aS : fg S (arrOf st)) (hz : l + z <= (arrOf st).size) (aa : 1 <= z) : wpS M A E s (countRun' l z) (qi lt l z st) st := by
  rw [Jv]
  refine Wn (Ao O aq aS hz (Wm 1) aa (dD.one O aS (by omega)) fun n k1 k2 k3 bY => ?_)
  dsimp only
  refine dS (fun c => ?_) fun c => ?_
  · exact Ww ⟨n, rfl, k1, k2, ⟨rfl, rfl, rfl⟩, .refl .., k3⟩
  · have c : ¬ n = z := by simpa using c
    have q := O.hk _ _ (aS.at_ (by omega)) (aS.at_ (by omega)) (bY.resolve_left c)
    refine dS (fun bg => ?_) fun bg => ?_
    · refine Wn (qs O aq aS (by omega) (by omega) ?_)
      cases e : lt (at_ (arrOf st) l) (at_ (arrOf st) (l + n - 1)) with
      | true => dsimp only; rw [if_pos rfl]; exact Ww ⟨n, rfl, k1, k2, ⟨rfl, rfl, rfl⟩, .refl .., k3⟩
      | false =>
        dsimp only
        rw [if_neg (by simp), Y6]
        refine Wn (XE ?_)
        have jr : l + n <= (arrOf st).size := by omega
        have dx : dE (arrOf st) (mirror (arrOf st) l (l + n) ((l + n - l) / 2)) l (l + z) := (dE.rev jr).mono (Wm _) (by omega)
        have Ag : ∀ x y, l <= x -> x < l + n -> l <= y -> y < l + n -> le lt (at_ (arrOf st) x) (at_ (arrOf st) y) := fun x y du eO jB uE =>
          O.dn _ _ _ (aS.at_ (by omega)) (aS.at_ (by omega)) (aS.at_ (by omega)) (k3 x (l + n - 1) du (by omega) (by omega))
            (O.dn _ _ _ (aS.at_ (by omega)) (aS.at_ (by omega)) (aS.at_ (by omega)) e (k3 l y (Wm _) jB uE))
        refine A4 (st0 := st) O aq aS ⟨rfl, rfl, rfl⟩ dx hz (by omega) ?_
        show Dec lt (mirror (arrOf st) l (l + n) ((l + n - l) / 2)) l (n + 1)
        have nq : Dec lt (mirror (arrOf st) l (l + n) ((l + n - l) / 2)) l n := fun x y du eO jB => by
          rw [i7 jr, i7 jr, if_pos (by omega), if_pos (by omega)]
          exact Ag _ _ (by omega) (by omega) (by omega) (by omega)
        refine nq.snoc O (aS.perm dx.perm) (by rw [dx.size]; omega) (by omega) ?_
        rw [i7 jr, i7 jr, if_neg (by omega), if_pos (by omega)]
        exact O.dn _ _ _ (aS.at_ (by omega)) (aS.at_ (by omega)) (aS.at_ (by omega)) q (Ag _ _ (by omega) (by omega) (by omega) (by omega))
    · have j7 : n = 1 := by omega
      subst j7
      refine A4 (st0 := st) O aq aS ⟨rfl, rfl, rfl⟩ (.refl ..) hz (by omega) ?_
      have nq : Dec lt (arrOf st) l 1 := fun x y du eO jB => by
        obtain rfl : x = l := by omega
        obtain rfl : y = x := by omega
        exact O.gm (aS.at_ (by omega))
      exact nq.snoc O aS (by omega) (by omega) q
end
end Tm
end
section
namespace Tm
open PySem PyProof.Rows
section
variable{M:Model}{A:Around}{E:Value->Shared->Prop}{s:Shared}{κ:SortKind}{S:Keyed->Prop}{lt:Keyed->Keyed->Bool}{st st0:SortSt}{l z n ok:Nat}
def Iu (O : eo M A E s κ S lt) {c : Array Keyed} (aS : fg S c) {k p : Nat} (aq : l + k < c.size) (ax : p <= k) (h : dD lt c l k) (aa : ∀ x, x < p -> le lt (at_ c (l + x)) (at_ c (l + k))) (h2 : ∀ x, p <= x -> x < k -> le lt (at_ c (l + k)) (at_ c (l + x))) : dD lt (bubble c (l + k) (k - p)) l (k + 1) := by
  intro x y du eO jB
  have e : l + k - (k - p) = l + p := by omega
  rw [vu aq (by omega), vu aq (by omega), e]
  have g1 : ∀ u, l <= u -> u < l + p -> le lt (at_ c u) (at_ c (l + k)) := fun u a b => by have := aa (u - l) (by omega); rwa [show l + (u - l) = u by omega] at this
  have g2 : ∀ u, l + p <= u -> u < l + k -> le lt (at_ c (l + k)) (at_ c u) := fun u a b => by have := h2 (u - l) (by omega) (by omega); rwa [show l + (u - l) = u by omega] at this
  by_cases a : x = l + p
  · rw [if_pos a]
    by_cases b : y = l + p
    · rw [if_pos b]; exact O.gm (aS.at_ aq)
    · rw [if_neg b, if_pos (by omega)]; exact g2 _ (by omega) (by omega)
  · rw [if_neg a]
    by_cases a2 : l + p < x
    · rw [if_pos (by omega), if_neg (by omega), if_pos (by omega)]
      exact h _ _ (by omega) (by omega) (by omega)
    · rw [if_neg (by omega)]
      by_cases b : y = l + p
      · rw [if_pos b]; exact g1 _ du (by omega)
      · rw [if_neg b]
        by_cases dQ : l + p < y
        · rw [if_pos (by omega)]; exact h _ _ du (by omega) (by omega)
        · rw [if_neg (by omega)]; exact h _ _ du eO (by omega)
def Ir (O : eo M A E s κ S lt) (f5 : kindOf st = κ) (hS0 : fg S (arrOf st)) (hz : l + n <= (arrOf st).size) (aa : 1 <= ok) (aw : ok <= n) (h : dD lt (arrOf st) l ok) {Q : Bool -> SortSt -> Prop}
    (aF : ∀ aH, i6 st aH -> dE (arrOf st) (arrOf aH) l (l + n) -> dD lt (arrOf aH) l n -> Q true aH) : wpS M A E s (binarySort' l n ok) Q st := by
  rw [binarySort'_eq]
  rw [Nat.max_eq_left aa]
  refine Wn (XI (Xf (I := fun k (c : Option Bool × Unit) aH => c = (none, ()) /\ k <= n /\ i6 st aH /\ dE (arrOf st) (arrOf aH) l (l + n) /\ dD lt (arrOf aH) l k)
    (Q := fun (c : Option Bool × Unit) aH => c = (none, ()) /\ i6 st aH /\ dE (arrOf st) (arrOf aH) l (l + n) /\ dD lt (arrOf aH) l n) ?step ?fin ⟨rfl, aw, ⟨rfl, rfl, rfl⟩, .refl .., h⟩) ?post)
  case fin =>
    rintro c aH ⟨rfl, k1, k2, k3, bY⟩
    rw [W8 aw] at bY
    exact ⟨rfl, k2, k3, bY⟩
  case post =>
    rintro c aH ⟨rfl, k2, k3, bY⟩
    exact Ww (aF aH k2 k3 bY)
  case step =>
    rintro k c cc g9 xT ⟨rfl, aD, aO, bE, cb⟩
    dsimp only
    have NJ : l + n <= (arrOf cc).size := by rw [bE.size]; exact hz
    have dV := hS0.perm bE.perm
    have j1 := aO.1.trans f5
    refine Wn (XI (Xf (I := fun x (c : Option Bool × Nat × Nat) aH => aH = cc /\ c.1 = none /\ c.2.1 <= c.2.2 /\ c.2.2 <= k /\ (∀ x, x < c.2.1 -> le lt (at_ (arrOf cc) (l + x)) (at_ (arrOf cc) (l + k))) /\ (∀ x, c.2.2 <= x -> x < k -> le lt (at_ (arrOf cc) (l + k)) (at_ (arrOf cc) (l + x))) /\ c.2.2 - c.2.1 + x <= k)
      (Q := fun (c : Option Bool × Nat × Nat) aH => aH = cc /\ c.1 = none /\ c.2.1 <= k /\ (∀ x, x < c.2.1 -> le lt (at_ (arrOf cc) (l + x)) (at_ (arrOf cc) (l + k))) /\ ∀ x, c.2.1 <= x -> x < k -> le lt (at_ (arrOf cc) (l + k)) (at_ (arrOf cc) (l + x))) ?step2 ?fin2
      ⟨rfl, rfl, Ws _, Wm _, fun x af => absurd af (Nat.not_lt_zero _), fun x du eO => absurd eO (by dsimp only at du; omega), by show k - 0 + 0 <= k; omega⟩) ?post2)
    case fin2 =>
      rintro ⟨o, a, b⟩ aH ⟨rfl, rfl, aE, aX, dR, fv, fP⟩
      dsimp only at aE aX dR fv fP ⊢
      rw [W8 (Ws _)] at fP
      have e : a = b := by omega
      subst e
      exact ⟨rfl, rfl, aX, dR, fv⟩
    case step2 =>
      rintro x ⟨o, a, b⟩ aH _ af ⟨rfl, rfl, aE, aX, dR, fv, fP⟩
      dsimp only at aE aX dR fv fP ⊢
      refine dS (fun c => ?_) fun c => ?_
      · have e : a = b := by omega
        subst e
        exact Ww ⟨rfl, rfl, aX, dR, fv⟩
      · have hm : (a + b) / 2 < b := by omega
        have td : a <= (a + b) / 2 := by omega
        refine Wn (qs O j1 dV (by omega) (by omega) ?_)
        cases e : lt (at_ (arrOf aH) (l + k)) (at_ (arrOf aH) (l + (a + b) / 2)) with
        | true =>
          dsimp only
          rw [if_pos rfl]
          refine Ww ⟨rfl, rfl, td, by dsimp only; omega, dR, fun y du eO => ?_, by dsimp only; omega⟩
          exact O.dn _ _ _ (dV.at_ (by omega)) (dV.at_ (by omega)) (dV.at_ (by omega)) (O.hk _ _ (dV.at_ (by omega)) (dV.at_ (by omega)) e) (cb _ _ (by omega) (by dsimp only at du; omega) (by omega))
        | false =>
          dsimp only
          rw [if_neg (by simp)]
          refine Ww ⟨rfl, rfl, by dsimp only; omega, aX, fun y du => ?_, fv, by dsimp only; omega⟩
          exact O.dn _ _ _ (dV.at_ (by dsimp only at du; omega)) (dV.at_ (by omega)) (dV.at_ (by omega)) (cb _ _ (by omega) (by dsimp only at du; omega) (by omega)) e
    case post2 =>
      rintro ⟨o, p, b⟩ aH ⟨rfl, rfl, aX, dR, fv⟩
      dsimp only at aX dR fv ⊢
      rw [moveDown'_eq]
      refine Wn (XE (Ww ⟨rfl, by omega, aO, ?_, ?_⟩))
      · show dE (arrOf st) (bubble (arrOf aH) (l + k) (l + k - (l + p))) l (l + n)
        exact bE.trans ((dE.It (by omega) (by omega)).mono (by omega) (by omega))
      · show dD lt (bubble (arrOf aH) (l + k) (l + k - (l + p))) l (k + 1)
        rw [show l + k - (l + p) = k - p by omega]
        exact Iu O dV (by omega) aX cb dR fv
end
end Tm
end
section
namespace Tm
open PySem PyProof.Rows
def Po{n:Nat}(h:2<=n)(h2:n<128):minRun' n n 0=if n<64 then n else n / 2+n%2:=by
 obtain⟨f,rfl⟩:∃f,n=f+2:=⟨n-2,by omega⟩
 have e:minRun' (f+1+1) (f+2) 0=if f+2<64 then f+2+0 else minRun' (f+1) ((f+2) / 2) (max 0 ((f+2)%2)):=minRun'_succ _ _ _;have bj:minRun' (f+2) (f+2) 0=if f+2<64 then f+2+0 else minRun' (f+1) ((f+2) / 2) (max 0 ((f+2)%2)):=e;rw[bj]
 by_cases c:f+2<64
 .rw[if_pos c,if_pos c]
 .rw[if_neg c,if_neg c,minRun'_succ,if_pos (by omega),Nat.zero_max]
section
variable{M:Model}{A:Around}{E:Value->Shared->Prop}{s:Shared}{κ:SortKind}{S:Keyed->Prop}{lt:Keyed->Keyed->Bool}{st st0:SortSt}{dJ lo f r:Nat}
noncomputable def sg (lt : Keyed -> Keyed -> Bool) (st0 : SortSt) (N x : Nat) (c : Option Unit × Nat) (st : SortSt) : Prop := c.1 = none /\ kindOf st = kindOf st0 /\ failedOf st = none /\ dE (arrOf st0) (arrOf st) 0 N /\
  ((x = 0 /\ c.2 = 0 /\ pendingOf st = #[]) \/ (x = 1 /\ 1 <= c.2 /\ c.2 < N /\ N <= c.2 + c.2 /\ pendingOf st = #[(0, c.2, 0)] /\ dD lt (arrOf st) 0 c.2) \/
    (1 <= x /\ c.2 = N /\ ((pendingOf st = #[(0, N, 0)] /\ dD lt (arrOf st) 0 N) \/ ∃ n m di, 0 < n /\ 0 < m /\ n + m = N /\ pendingOf st = #[(0, n, di), (n, m, 0)] /\ dD lt (arrOf st) 0 n /\ dD lt (arrOf st) n m)))
def RQ {Q : Unit -> SortSt -> Prop} (O : eo M A E s κ S lt) (aq : kindOf st = κ) (hf : failedOf st = none) (ax : pendingOf st = #[]) (aS : fg S (arrOf st)) (h2 : 2 <= (arrOf st).size) (sY : (arrOf st).size < 128)
    (aF : ∀ aH, failedOf aH = none -> (arrOf aH).toList.Perm (arrOf st).toList -> (arrOf aH).toList.Pairwise (le lt) -> Q () aH) : wpS M A E s sortRuns' Q st := by
  rw [sortRuns'_eq]
  refine Wn (YK ?_)
  dsimp only
  have qX := Po h2 sY
  generalize xX : minRun' (arrOf st).size (arrOf st).size 0 = j5 at qX ⊢
  generalize bq : (arrOf st).size = N at h2 sY qX ⊢
  have te : 1 <= j5 := by rw [qX]; split <;> omega
  have pe : j5 <= N := by rw [qX]; split <;> omega
  have CL : N <= j5 + j5 := by rw [qX]; split <;> omega
  refine Wn (XI (Xf (I := sg lt st N) (Q := fun (c : Option Unit × Nat) aH => ∃ x, 2 <= x /\ sg lt st N x c aH) ?step ?fin ⟨rfl, rfl, hf, .refl .., .inl ⟨rfl, rfl, ax⟩⟩) ?post)
  case fin =>
    intro c aH h
    rw [W8 (Ws _)] at h
    exact ⟨N, h2, h⟩
  case step =>
    rintro x ⟨o, lo⟩ cc _ af ⟨rfl, k1, k2, k3, bY⟩
    dsimp only at bY ⊢
    have j1 : kindOf cc = κ := k1.trans aq
    have dV := aS.perm k3.perm
    have ft : (arrOf cc).size = N := k3.size.trans bq
    refine dS (fun c => ?_) fun c => ?_
    · refine Ww ⟨x + 2, by omega, rfl, k1, k2, k3, .inr (.inr ?_)⟩
      rcases bY with ⟨e1, e2, _⟩ | ⟨e1, e2, e3, _⟩ | ⟨e1, e2, e3⟩
      · omega
      · omega
      · exact ⟨by omega, e2, e3⟩
    · -- a run of length f at lo, and We Vt
      have BA : ∀ f cH aH, x = 0 -> lo = 0 -> 1 <= f -> lo + f <= N -> j5 <= f \/ lo + f = N -> i6 cc cH -> dE (arrOf cc) (arrOf cH) lo (lo + (N - lo)) -> dD lt (arrOf cH) lo f -> kindOf aH = kindOf cH -> failedOf aH = failedOf cH -> arrOf aH = arrOf cH -> pendingOf aH = #[(lo, f, 0)] -> sg lt st N (x + 1) (none, lo + f) aH := by
        intro f cH aH e1 e2 f1 f2 dm s2 p2 es aD aO bE cb
        subst e2
        refine ⟨rfl, aD.trans (s2.1.trans k1), aO.trans (s2.2.2.trans k2), by rw [bE]; exact k3.trans (p2.mono (Ws _) (by omega)), ?_⟩
        dsimp only
        rw [YR]
        by_cases ni : f = N
        · subst ni
          exact .inr (.inr ⟨by omega, rfl, .inl ⟨cb, by rw [bE]; exact es⟩⟩)
        · exact .inr (.inl ⟨by omega, f1, by omega, by omega, cb, by rw [bE]; exact es⟩)
      have fin2 : ∀ f cH aH di, 1 <= lo -> N <= lo + lo -> dD lt (arrOf cc) 0 lo -> 1 <= f -> lo + f <= N -> j5 <= f \/ lo + f = N -> lo < N -> j5 <= lo \/ True -> N - lo <= f -> i6 cc cH -> dE (arrOf cc) (arrOf cH) lo (lo + (N - lo)) -> dD lt (arrOf cH) lo f -> kindOf aH = kindOf cH -> failedOf aH = failedOf cH -> arrOf aH = arrOf cH -> pendingOf aH = #[(0, lo, di), (lo, f, 0)] -> sg lt st N (x + 1) (none, lo + f) aH := by
        intro f cH aH di e2 e4 ia f1 f2 dm e3 _ wQ s2 p2 es aD aO bE cb
        refine ⟨rfl, aD.trans (s2.1.trans k1), aO.trans (s2.2.2.trans k2), by rw [bE]; exact k3.trans (p2.mono (Ws _) (by omega)), .inr (.inr ⟨by omega, by dsimp only; omega, .inr ⟨lo, f, di, by omega, by omega, by omega, cb, ?_, by rw [bE]; exact es⟩⟩)⟩
        rw [bE]
        exact ia.P2 p2 (.inl (by omega))
      refine Wn (XI (Jw (l := lo) (z := N - lo) O j1 dV (by rw [ft]; omega) (by omega)) ?_)
      rintro o cH ⟨m, rfl, hC, m2, s2, p2, es⟩
      dsimp only
      refine dS (fun bg => ?_) fun bg => ?_
      · refine Wn (ZS (XS ⟨rfl, ?_⟩))
        refine Wn (Ir O (s2.1.trans j1) (dV.perm p2.perm) (by rw [p2.size, ft]; omega) hC (by omega) es fun gI s3 p3 mn => ?_)
        rw [if_neg (by simp)]
        have uf : i6 cc gI := ⟨s3.1.trans s2.1, s3.2.1.trans s2.2.1, s3.2.2.trans s2.2.2⟩
        have Ef : dE (arrOf cc) (arrOf gI) lo (lo + (N - lo)) := p2.trans (p3.mono (Wm _) (by omega))
        refine Wn (YK ?_)
        rcases bY with ⟨e1, e2, e3⟩ | ⟨e1, e2, e3, e4, e5, ia⟩ | ⟨e1, e2, e3⟩
        · have aY : pendingOf gI = #[] := (uf).2.1.trans e3
          rw [aY]
          refine Wn (XE (Ww (BA (min (N - lo) j5) gI _ e1 e2 (by omega) (by omega) (by omega) uf Ef mn rfl rfl rfl ?_)))
          show (pendingOf gI).push _ = _
          rw [aY]
          rfl
        · have aY : pendingOf gI = #[(0, lo, 0)] := (uf).2.1.trans e5
          rw [aY]
          refine Wn (XI (Xf (I := fun x (c : Option Unit × Unit) aH => aH = gI /\ c = (none, ())) (Q := fun (c : Option Unit × Unit) aH => aH = gI /\ c = (none, ())) ?a1 ?a2 ⟨rfl, rfl⟩) ?a3)
          case a2 => exact fun c aH h => h
          case a1 =>
            rintro x c aH _ _ ⟨rfl, rfl⟩
            refine Wn (YK ?_)
            rw [aY]
            exact Ww ⟨rfl, rfl⟩
          case a3 =>
            rintro c aH ⟨rfl, rfl⟩
            refine Wn (XE (Wn (XE (Ww (fin2 (min (N - lo) j5) aH _ (power' N (2 * 0 + lo) (2 * 0 + lo + lo + (min (N - lo) j5)) N) e2 e4 ia (by omega) (by omega) (by omega) e3 (.inr trivial) (by omega) uf Ef mn rfl rfl rfl ?_)))))
            show ((pendingOf aH).modify ((pendingOf aH).size - 1) _).push _ = _
            rw [aY]
            rfl
        · omega
      · have hm : m <= N - lo := m2
        refine Wn (YK ?_)
        rcases bY with ⟨e1, e2, e3⟩ | ⟨e1, e2, e3, e4, e5, ia⟩ | ⟨e1, e2, e3⟩
        · have aY : pendingOf cH = #[] := (s2).2.1.trans e3
          rw [aY]
          refine Wn (XE (Ww (BA m cH _ e1 e2 hC (by omega) (by omega) s2 p2 es rfl rfl rfl ?_)))
          show (pendingOf cH).push _ = _
          rw [aY]
          rfl
        · have aY : pendingOf cH = #[(0, lo, 0)] := (s2).2.1.trans e5
          rw [aY]
          refine Wn (XI (Xf (I := fun x (c : Option Unit × Unit) aH => aH = cH /\ c = (none, ())) (Q := fun (c : Option Unit × Unit) aH => aH = cH /\ c = (none, ())) ?a1 ?a2 ⟨rfl, rfl⟩) ?a3)
          case a2 => exact fun c aH h => h
          case a1 =>
            rintro x c aH _ _ ⟨rfl, rfl⟩
            refine Wn (YK ?_)
            rw [aY]
            exact Ww ⟨rfl, rfl⟩
          case a3 =>
            rintro c aH ⟨rfl, rfl⟩
            refine Wn (XE (Wn (XE (Ww (fin2 m aH _ (power' N (2 * 0 + lo) (2 * 0 + lo + lo + m) N) e2 e4 ia hC (by omega) (by omega) e3 (.inr trivial) (by omega) s2 p2 es rfl rfl rfl ?_)))))
            show ((pendingOf aH).modify ((pendingOf aH).size - 1) _).push _ = _
            rw [aY]
            rfl
        · omega
  case post =>
    rintro ⟨o, lo⟩ cc ⟨x, af, rfl, k1, k2, k3, bY⟩
    have j1 : kindOf cc = κ := k1.trans aq
    have dV := aS.perm k3.perm
    have ft : (arrOf cc).size = N := k3.size.trans bq
    have k5 : (pendingOf cc = #[(0, N, 0)] /\ dD lt (arrOf cc) 0 N) \/ ∃ n m di, 0 < n /\ 0 < m /\ n + m = N /\ pendingOf cc = #[(0, n, di), (n, m, 0)] /\ dD lt (arrOf cc) 0 n /\ dD lt (arrOf cc) n m := by
      rcases bY with ⟨e1, _⟩ | ⟨e1, _⟩ | ⟨_, _, e⟩
      · omega
      · omega
      · exact e
    dsimp only
    refine Wn (XI (Xf (I := fun x (c : Option Unit × Unit) aH => c = (none, ()) /\ ((x = 0 /\ aH = cc) \/ (1 <= x /\ failedOf aH = none /\ (∃ di, pendingOf aH = #[(0, N, di)]) /\ (arrOf aH).toList.Perm (arrOf st).toList /\ (arrOf aH).toList.Pairwise (le lt))))
      (Q := fun (c : Option Unit × Unit) aH => c = (none, ()) /\ failedOf aH = none /\ (arrOf aH).toList.Perm (arrOf st).toList /\ (arrOf aH).toList.Pairwise (le lt)) ?step2 ?fin2 ⟨rfl, .inl ⟨rfl, rfl⟩⟩) ?post2)
    case fin2 =>
      rintro c aH ⟨rfl, ⟨e, _⟩ | ⟨_, aD, _, bE, cb⟩⟩
      · rw [W8 (Ws _)] at e; omega
      · exact ⟨rfl, aD, bE, cb⟩
    case post2 =>
      rintro c aH ⟨rfl, aD, bE, cb⟩
      exact Ww (aF aH aD bE cb)
    case step2 =>
      rintro y c aH _ aA ⟨rfl, ⟨rfl, rfl⟩ | ⟨_, aD, ⟨di, aO⟩, bE, cb⟩⟩
      · refine Wn (YK ?_)
        rcases k5 with ⟨e1, e2⟩ | ⟨n, m, di, hZ, m0, nm, e1, e2, e3⟩
        · rw [e1]
          refine Ww ⟨rfl, k2, k3.perm, ?_⟩
          exact pT (by rw [ft]; exact e2.cp)
        · rw [e1]
          show wpS M A E s (do
            let b <- mergeAt' 0
            if (!b) = true then pure (ForInStep.done (some (), ())) else pure (ForInStep.yield (none, ()))) _ aH
          refine Wn (Pg O j1 k2 e1 hZ m0 (by rw [ft]; exact nm.symm) (fun x af => dV _ (by simp)) e2.cp e3.cp fun cH aE aX dR fv fP => ?_)
          exact Ww ⟨rfl, .inr ⟨by omega, aX, ⟨di, by rw [dR, nm]⟩, fv.trans k3.perm, fP⟩⟩
      · refine Wn (YK ?_)
        rw [aO]
        exact Ww ⟨rfl, aD, bE, cb⟩
end
end Tm
end
section
namespace Tm
open PySem PySem.W PyProof.Rows PySem.Calls
def QM{α β:Type}(f:α->β){fu m:List β}(h:fu.Perm m):∀l:List α,m=l.map f->∃p:List α,p.Perm l/\fu=p.map f:=by
 induction h with
 |nil=>intro l e;cases l with
  |nil=>exact⟨[],.refl _,rfl⟩
  |cons=>cases e
 |cons x _ aN =>
  intro l e;cases l with
  |nil=>cases e
  |cons y l =>
   rw[WA]at e;injection e with e1 e2;obtain⟨p,aa,h2⟩:=aN l e2;exact⟨y::p,aa.cons y,by rw[WA,e1,h2]⟩
 |swap x y m =>
  intro l e
  match l,e with
  |u::v::l,e =>
   rw[WA,WA]at e;injection e with e1 e2;injection e2 with e2 e3;exact⟨v::u::l,.swap u v l,by rw[WA,WA,e1,e2,e3]⟩
 |trans _ _ yk yl =>
  intro l e;obtain⟨p,aa,h2⟩:=yl l e;obtain⟨q,h3,h4⟩:=yk p h2;exact⟨q,h3.trans aa,h4⟩
structure Ord(lt:Nat->Nat->Bool):Prop where
 gm:∀x,lt x x=false
 dn:∀x y z,lt y x=false->lt z y=false->lt z x=false
 hk:∀x y,lt x y=true->lt y x=false
section
variable{prog:Program}{w:World}{A:Around}{E:Value->Shared->Prop}{s:Shared}
noncomputable abbrev pr(ai:List Value)(i:Nat):Keyed:=(ai.getD i Value.none,ai.getD i Value.none)
def Vd(ai:List Value):(ai.toArray.zip ai.toArray).toList=(List.range ai.length).map (pr ai):=by
 apply Yb;intro i;rw[WJ]
 by_cases h:i<ai.length
 .rw[YC h];simp[List.getElem?_zip_eq_some,List.getD,Wr h]
 .rw[WV (by simpa using h),WV (by simpa using h)];rfl
def O8 {a : Addr} {ai : List Value} {n : Nat} {κ : SortKind} {lt : Nat -> Nat -> Bool} {P : PySem.Fin -> Shared -> Prop} (O : Ord lt) (aL : ∀ i j, i < ai.length -> j < ai.length -> ai.getD i Value.none = ai.getD j Value.none -> ∀ k, lt i k = lt j k /\ lt k i = lt k j)
    (ay : s.heap.get? a = some (seqObj "list" ai.toArray n)) (sY : ai.length < 128)
    (aq : 2 <= ai.length -> ∀ (h' : Heap), (∀ b o, b ≠ a -> s.heap.get? b = some o -> h'.get? b = some o) -> ∀ Q : SortKind -> Shared -> Prop, Q κ { s with heap := h' } -> wpAny (model prog w) A (keyKind' ai.toArray) Q E { s with heap := h' })
    (aj : 2 <= ai.length -> ∀ (h' : Heap), (∀ b o, b ≠ a -> s.heap.get? b = some o -> h'.get? b = some o) -> ∀ (i j : Nat) (C : Bool -> Shared -> Prop), i < ai.length -> j < ai.length -> C (lt i j) { s with heap := h' } -> kas_ask prog w A κ ai i j C { s with heap := h' })
    (h : ∀ p : List Nat, p.Perm (List.range ai.length) -> p.Pairwise (fun i j => lt j i = false) -> ∀ (h' : Heap) (c : Nat), (∀ b o, b ≠ a -> s.heap.get? b = some o -> h'.get? b = some o) -> h'.get? a = some (seqObj "list" (p.map fun i => ai.getD i Value.none).toArray c) -> P (.done (.ret .none)) { s with heap := h' }) :
    wpAny (model prog w) A (Builtin.«list.sort» ⟨[.ref a], []⟩) P E s := by
  rw [list_sort_plain]
  have aC : a < s.heap.objs.size := Wl ay
  refine Wh (listItems_at ay rfl ?_)
  refine Wh (ZO ay rfl ?_ (by rw [Wv, W6]; omega) (Ws _))
  obtain ⟨e1, nL⟩ : ∃ e1, (s.heap.update a (Obj.mapSeq fun _ => (#[] : Array Value))).get? a = some (seqObj "list" #[] e1) := ⟨_, get?_update_seq ay fun _ => #[]⟩
  refine Wh (seqEpoch_at nL rfl ?_)
  refine Wh (wpAny_newTuple ?_ (by show ai.length <= _; rw [W6]; omega))
  refine Wh (wpAny_newList ?_ (Ws _))
  refine XA ?_
  have ph : (((s.heap.update a (Obj.mapSeq fun _ => (#[] : Array Value))).push (seqObj "tuple" ai.toArray 0)).push (seqObj "list" #[] 0)).get? a = some (seqObj "list" #[] e1) := Wj _ (Wj _ nL)
  have keep : ∀ b o, b ≠ a -> s.heap.get? b = some o -> (((s.heap.update a (Obj.mapSeq fun _ => (#[] : Array Value))).push (seqObj "tuple" ai.toArray 0)).push (seqObj "list" #[] 0)).get? b = some o := fun b o ae q =>
    Wj _ (Wj _ ((WK _ _ (XB ae)).trans q))
  show wpAny (model prog w) A _ P E { s with heap := ((s.heap.update a (Obj.mapSeq fun _ => (#[] : Array Value))).push (seqObj "tuple" ai.toArray 0)).push (seqObj "list" #[] 0) }
  generalize ((s.heap.update a (Obj.mapSeq fun _ => (#[] : Array Value))).push (seqObj "tuple" ai.toArray 0)).push (seqObj "list" #[] 0) = aa at ph keep
  dsimp only
  have fin : ∀ p : List Nat, p.Perm (List.range ai.length) -> p.Pairwise (fun i j => lt j i = false) -> P (.done (.ret .none)) { s with heap := aa.update a (Obj.mapSeq fun _ => (p.map fun i => ai.getD i Value.none).toArray) } := fun p ax ag => by
    obtain ⟨bg, ie⟩ : ∃ bg, (aa.update a (Obj.mapSeq fun _ => (p.map fun i => ai.getD i Value.none).toArray)).get? a = some (seqObj "list" (p.map fun i => ai.getD i Value.none).toArray bg) := ⟨_, get?_update_seq ph fun _ => (p.map fun i => ai.getD i Value.none).toArray⟩
    exact h p ax ag _ bg (fun b o ae q => (WK _ _ (XB ae)).trans (keep b o ae q)) ie
  have hz := Vd ai
  by_cases h2 : ai.toArray.size < 2
  · rw [if_pos h2, if_pos h2]
    refine Wh (wpAny_pure ?_)
    rw [StateT.run_pure]
    refine Wh (wpAny_pure ?_)
    dsimp only
    refine Wh (seqEpoch_at ph rfl ?_)
    have e3 : (arrOf (SortSt.mk' general' (ai.toArray.zip ai.toArray) #[] 7 none)).map (·.2) = ((List.range ai.length).map fun i => ai.getD i Value.none).toArray := by
      show (ai.toArray.zip ai.toArray).map (·.2) = _
      apply ZT.mp
      rw [Array.toList_map, hz, List.map_map]
      rfl
    rw [e3]
    refine Wh (ZO ph rfl ?_ (Ws _) (by rw [Wv, List.length_map, List.length_range, W6]; omega))
    simp only [Yc, Wk, WM]
    refine wpAny_pure (fin _ (.refl _) ?_)
    have nA : ai.length < 2 := by simpa using h2
    match ai, nA with
    | [], _ => exact List.Pairwise.nil
    | [_], _ => exact XX _ _
  · rw [if_neg h2, if_neg h2]
    have nA : 2 <= ai.length := by simp at h2; exact h2
    refine Wh (aq nA aa keep _ ?_)
    have tB : ∀ x : Keyed, ∃ i, (∃ i, i < ai.length /\ x = pr ai i) -> i < ai.length /\ x = pr ai i := fun x => by
      by_cases c : ∃ i, i < ai.length /\ x = pr ai i
      · obtain ⟨i, hi⟩ := c; exact ⟨i, fun _ => hi⟩
      · exact ⟨0, fun q => absurd q c⟩
    obtain ⟨idx, tb⟩ : ∃ idx : Keyed -> Nat, ∀ x, (∃ i, i < ai.length /\ x = pr ai i) -> idx x < ai.length /\ x = pr ai (idx x) := ⟨fun x => (tB x).choose, fun x => (tB x).choose_spec⟩
    have Or : eo (model prog w) A E { s with heap := aa } κ (fun x => ∃ i, i < ai.length /\ x = pr ai i) (fun x y => lt (idx x) (idx y)) := by
      refine ⟨fun x y st Q af aA xV q => ?_, fun x y _ _ q => O.hk _ _ q, fun x y z _ _ _ aD aO => O.dn _ _ _ aD aO⟩
      obtain ⟨dI, ex⟩ := tb x af
      obtain ⟨yt, ny⟩ := tb y aA
      rw [lt'_eq]
      refine Wn (YK ?_)
      refine Wn (ZS (YH ?_))
      have := aj nA aa keep (idx x) (idx y) (fun b s' => s' = { s with heap := aa } /\ b = lt (idx x) (idx y)) dI yt ⟨rfl, rfl⟩
      unfold kas_ask at this
      have e1 : ai.getD (idx x) Value.none = x.1 := (XQ Prod.fst ex).symm
      have e2 : ai.getD (idx y) Value.none = y.1 := (XQ Prod.fst ny).symm
      rw [e1, e2] at this
      rw [xV]
      refine Xy this (fun b s' ⟨ag, ae⟩ => ⟨ag, ?_⟩) fun _ _ z => z.elim
      subst ae
      exact Ww q
    have run := RQ (st := SortSt.mk' κ (ai.toArray.zip ai.toArray) #[] 7 none) (Q := fun _ aH => failedOf aH = none /\ ∃ p : List Nat, p.Perm (List.range ai.length) /\ p.Pairwise (fun i j => lt j i = false) /\ (arrOf aH).toList = p.map (pr ai)) Or rfl rfl rfl
      (fun x af => by
        have af : x ∈ (ai.toArray.zip ai.toArray).toList := af
        rw [hz] at af
        obtain ⟨i, hi, rfl⟩ := Xw.mp af
        exact ⟨i, WN.mp hi, rfl⟩) (by show 2 <= (ai.toArray.zip ai.toArray).size; rw [<- Array.length_toList, hz]; simpa using nA) (by show (ai.toArray.zip ai.toArray).size < 128; rw [<- Array.length_toList, hz]; simpa using sY) fun aH aE aX dR => by
          have aX : (arrOf aH).toList.Perm (ai.toArray.zip ai.toArray).toList := aX
          rw [hz] at aX
          obtain ⟨p, p1, p2⟩ := QM (pr ai) aX _ rfl
          refine ⟨aE, p, p1, ?_, p2⟩
          rw [p2, Ya] at dR
          refine YG (fun {i j} hi aG q => ?_) dR
          have hi := WN.mp (p1.mem_iff.mp hi)
          have aG := WN.mp (p1.mem_iff.mp aG)
          obtain ⟨dI, kK⟩ := tb (pr ai i) ⟨i, hi, rfl⟩
          obtain ⟨yt, kL⟩ := tb (pr ai j) ⟨j, aG, rfl⟩
          have q : lt (idx (pr ai j)) (idx (pr ai i)) = false := q
          rw [(aL j (idx (pr ai j)) aG yt (XQ Prod.fst kL) i).1, (aL i (idx (pr ai i)) hi dI (XQ Prod.fst kK) _).2]
          exact q
    refine Wh (Xy run ?_ fun _ _ e => e)
    rintro ⟨⟨⟩, aH⟩ s' ⟨rfl, hf, p, p1, p2, p3⟩
    dsimp only at hf p3 ⊢
    have Nf : (arrOf aH).map (·.2) = (p.map fun i => ai.getD i Value.none).toArray := by
      apply ZT.mp
      rw [Array.toList_map, p3, List.map_map]
      rfl
    rw [Nf]
    refine Wh (seqEpoch_at ph rfl ?_)
    refine Wh (ZO ph rfl ?_ (Ws _) (by rw [Wv, List.length_map, p1.length_eq, List.length_range, W6]; omega))
    rw [hf]
    simp only [Yc, Wk, WM]
    exact wpAny_pure (fin p p1 p2)
end
end Tm
end
section
namespace gS
open PySem PySem.W PyProof.Rows PySem.Calls
section
variable{prog:Program}{w:World}{A:Around}{E:Value->Shared->Prop}{s:Shared}
noncomputable def ltI{κ:Type}(lt:κ->κ->Bool)(z:κ)(ar:List κ)(i j:Nat):Bool:=lt (ar.getD i z) (ar.getD j z)
def Eb{κ:Type}{lt:κ->κ->Bool}(L:bH.gx lt)(z:κ)(ar:List κ):Tm.Ord (ltI lt z ar) where
 gm:=λx=>L.gm _
 dn:=λx y z aa h2=>bH.Dx L aa h2
 hk:=λx y h=>bH.Dy L h
def LW{κ:Type}(z:κ)(ar:List κ):(List.range ar.length).map (λi=>ar.getD i z)=ar:=by
 apply Yb;intro i;rw[WJ]
 by_cases h:i<ar.length
 .rw[YC h];simp[List.getD,h]
 .rw[WV (by simpa using h),WV (by simpa using h)];rfl
def Tb{κ:Type}{lt:κ->κ->Bool}(L:bH.gx lt)(z:κ)(ar:List κ){p:List Nat}(aa:p.Perm (List.range ar.length))(h2:p.Pairwise (λi j=>ltI lt z ar j i=false)):(p.map λi=>ar.getD i z)=bH.cp lt ar:=by
 refine bH.GK L ?_ (bH.GJ L ar) ?_
 .unfold bH.oL;rw[Ya];exact h2
 .refine((aa.map λi=>ar.getD i z).trans ?_).trans (bH.Ew ar).symm
  rw[LW]
def D7{κ:Type}{lt:κ->κ->Bool}{z:κ}{ar:List κ}{ai:List Value}(h:∀i j,i<ai.length->j<ai.length->ai.getD i Value.none=ai.getD j Value.none->ar.getD i z=ar.getD j z):
  ∀i j,i<ai.length->j<ai.length->ai.getD i Value.none=ai.getD j Value.none->∀k,ltI lt z ar i k=ltI lt z ar j k/\ltI lt z ar k i=ltI lt z ar k j:=λi j hi aG e k=>by
 unfold ltI;rw[h i j hi aG e];exact⟨rfl,rfl⟩
theorem ints_get:∀{ai:List Value}{ns:List Int}(h:IntsAre ai ns)(i:Nat),i<ai.length->∃t,ai.getD i Value.none=.int (ns.getD i 0) t
 |_,_,.nil,i,h=>by simp at h
 |_,_,.cons n t _,0,_=>⟨t,rfl⟩
 |_,_,.cons n t r,i+1,h=>by
  obtain⟨u,e⟩:=ints_get r i (by simpa using h)
  exact⟨u,by simpa[List.getD] using e⟩
theorem ym:∀{ai:List Value}{ns:List Int}(h:IntsAre ai ns),ns.length=ai.length
 |_,_,.nil=>rfl
 |_,_,.cons n t r=>by simp[ym r]
def OB{ai:List Value}{ns:List Int}(h:IntsAre ai ns):∀i j,i<ai.length->j<ai.length->ai.getD i Value.none=ai.getD j Value.none->ns.getD i 0=ns.getD j 0:=λi j hi aG e=>by
 obtain⟨t,e1⟩:=ints_get h i hi;obtain⟨u,e2⟩:=ints_get h j aG;rw[e1,e2]at e;injection e
def H3{ai:List Value}{ns:List Int}(dw:IntsAre ai ns)(i j:Nat)(C:Bool->Shared->Prop)(hi:i<ai.length)(aG:j<ai.length)(h:C (ltI bH.ltI 0 ns i j) s):kas_ask prog w A oneType' ai i j C s:=by
 obtain⟨t,e1⟩:=ints_get dw i hi;obtain⟨u,e2⟩:=ints_get dw j aG;unfold kas_ask;rw[e1,e2];exact kat_lt_int h
def OH{ai:List Value}{ns:List Int}(dw:IntsAre ai ns)(h2:2<=ai.length){Q:SortKind->Shared->Prop}(h:Q oneType' s):wpAny (model prog w) A (keyKind' ai.toArray) Q E s:=by
 obtain⟨uR,uS,rest,rfl⟩:∃uR uS rest,ai=uR::uS::rest:=by
  match ai,h2 with
  |uR::uS::rest,_=>exact⟨uR,uS,rest,rfl⟩
 rw[keyKind_ints dw];exact wpAny_pure h
noncomputable def iz(h:Heap):List Value->List (List Int)->Prop
 |[],[]=>True
 |v::ai,k::ar=>(∃a o xs n,v=.ref a/\h.get? a=some o/\o.cls=.type "tuple"/\o.data=.seq xs n/\IntsAre xs.toList k/\k≠[])/\iz h ai ar
 |_,_=>False
theorem iz.kept{h h':Heap}(k:∀b o,h.get? b=some o->h'.get? b=some o):∀{ai:List Value}{ar:List (List Int)},iz h ai ar->iz h' ai ar
 |[],[],_=>trivial
 |v::ai,x::ar,⟨⟨a,o,xs,n,e,ay,r⟩,t⟩=>⟨⟨a,o,xs,n,e,k a o ay,r⟩,t.kept k⟩
theorem iz.get{h:Heap}:∀{ai:List Value}{ar:List (List Int)},iz h ai ar->∀i,i<ai.length->∃a o xs n,ai.getD i Value.none=.ref a/\h.get? a=some o/\o.cls=.type "tuple"/\o.data=.seq xs n/\IntsAre xs.toList (ar.getD i [])/\ar.getD i []≠[]
 |[],[],_,i,hi=>by simp at hi
 |v::ai,x::ar,⟨q,t⟩,0,_=>q
 |v::ai,x::ar,⟨q,t⟩,i+1,hi=>by
  have:=t.get i (by simpa using hi)
  simpa[List.getD] using this
def N1{us:List Value}{xs:List Int}(h:IntsAre us xs):∀{ys:List Int},IntsAre us ys->xs=ys:=by
 induction h with
 |nil=>intro ys q;cases q;rfl
 |cons n t _ aN =>
  intro ys q;cases q with
  |cons _ _ q=>rw[aN q]
def OG{h:Heap}{ai:List Value}{ar:List (List Int)}(H:iz h ai ar):∀i j,i<ai.length->j<ai.length->ai.getD i Value.none=ai.getD j Value.none->ar.getD i []=ar.getD j []:=λi j hi aG e=>by
 obtain⟨a,o,xs,n,e1,aD,_,aO,bE,_⟩:=H.get i hi;obtain⟨jI,bO,zO,cL,e2,t7,_,ka,Rl,_⟩:=H.get j aG;rw[e1,e2]at e;injection e with e;subst e;rw[aD]at t7;cases t7;rw[aO]at ka;cases ka;exact N1 bE Rl
theorem iz.De {h : Heap} : ∀ {ai : List Value} {ar : List (List Int)}, iz h ai ar -> ∃ fs : List Value, KatTups h ai fs /\ fs.length = ai.length /\ ∀ v ∈ fs, ∃ i t, v = Value.int i t
  | [], [], _ => ⟨[], KatTups.nil, rfl, by simp⟩
  | v :: ai, x :: ar, ⟨⟨a, o, xs, n, e, ay, aj, hd, dw, dG⟩, t⟩ => by
    subst e
    obtain ⟨fs, aa, h2, h3⟩ := t.De
    obtain ⟨i, u, hf⟩ : ∃ i u, xs[0]? = some (Value.int i u) := by
      cases q : xs.toList with
      | nil => rw [q] at dw; cases dw; exact absurd rfl dG
      | cons y ys =>
        rw [q] at dw
        cases dw with
        | cons n t r => exact ⟨n, t, by have : xs.toList[0]? = some (Value.int n t) := by rw [q]; rfl
                                        simpa using this⟩
    refine ⟨Value.int i u :: fs, KatTups.cons ay aj hd hf aa, by simp [h2], fun z hz => ?_⟩
    rcases Wo.mp hz with rfl | hz
    · exact ⟨i, u, rfl⟩
    · exact h3 z hz
noncomputable def nT(fin:Bool):List Int->List Int->Bool
 |x::xs,y::ys=>if x=y then nT fin xs ys else decide (x<y)
 |_,_=>fin
theorem Ds:∀(xs ys:List Int),nT (decide (xs.length<ys.length)) xs ys=bH.lexLt xs ys
 |[],[]=>rfl
 |[],_::_=>rfl
 |_::_,[]=>rfl
 |x::xs,y::ys=>by
  have e:decide ((x::xs).length<(y::ys).length)=decide (xs.length<ys.length):=by simp
  rw[e];simp only[nT,bH.lexLt,Ds xs ys]
theorem Df{fin:Bool}{Q:Bool->Shared->Prop}:∀{us ai:List Value}{xs ys:List Int}(i:Nat),IntsAre us xs->IntsAre ai ys->Q (nT fin xs ys) s->KatLex prog w A true fin Q (us.zip ai) i s
 |_,_,_,_,i,.nil,_,h=>by simpa[nT] using kat_nil (prog:=prog) (w:=w) (A:=A) (b:=true) (i:=i) h
 |_,_,_,_,i,.cons x t r,.nil,h=>by simpa[nT] using kat_nil (prog:=prog) (w:=w) (A:=A) (b:=true) (i:=i) h
 |_,_,_,_,i,.cons x t r,.cons y u q,h=>by
  refine kat_cons (wpAny_eqBool_int ?_);simp only[nT]at h
  by_cases e:x=y
  .subst e;rw[if_pos rfl]at h;rw[show(x==x)=true by simp]
   exact kat_yes (Df (i+1) r q h)
  .rw[if_neg e]at h;rw[show(x==y)=false by simpa using e]
   refine kat_no ?_;cases ae:(true&&i==0) with
   |true=>exact oneLt_int h
   |false=>exact kat_one _ _ (lt_int (show W.BoolBack Q (Value.bool (decide (x<y))) s from h))
def H4{ai:List Value}{ar:List (List Int)}(cR:iz s.heap ai ar)(i j:Nat)(C:Bool->Shared->Prop)(hi:i<ai.length)(aG:j<ai.length)(h:C (ltI bH.lexLt [] ar i j) s):kas_ask prog w A (tuples' true) ai i j C s:=by
 obtain⟨a,o,xs,n,e1,ay,aj,hd,dw,_⟩:=cR.get i hi;obtain⟨b,bO,ys,cL,e2,dH,c8,ig,Cj,_⟩:=cR.get j aG;unfold kas_ask;rw[e1,e2];refine kat_lt ay hd dH ig (Df 0 dw Cj ?_);have l1:(ar.getD i []).length=xs.size:=by rw[ym dw,Array.length_toList]
 have l2:(ar.getD j []).length=ys.size:=by rw[ym Cj,Array.length_toList]
 rw[<- l1,<- l2,Ds];exact h
def OI{ai:List Value}{ar:List (List Int)}(cR:iz s.heap ai ar)(h2:2<=ai.length){Q:SortKind->Shared->Prop}(h:Q (tuples' true) s):wpAny (model prog w) A (keyKind' ai.toArray) Q E s:=by
 obtain⟨fs,k1,k2,k3⟩:=cR.De;refine kat_kind (T:=Value.type "int") k1 (by omega) (λv aL=>?_) (by decide) (by rw[show(Value.type "int" != Value.type "tuple")=true by decide];exact h)
 obtain⟨i,t,rfl⟩:=k3 v aL;exact Looks.of_pure rfl
end
end gS
end
section
namespace sk
open PySem
section
variable{prog:Program}{w:World}{A:Around}{E:Value->Shared->Prop}{s:Shared}
def zo{j t:Addr}{n:Nat}{ai:Array Value}{v:Value}{Q:Value->Shared->Prop}(bP:s.heap.IsTupleIter j t n)(T:s.heap.IsTuple t ai)(aL:ai[n]?=some v)(k:∀g,g.IsTupleIter j t (n+1)->Heap.SameBut j s.heap g->Q v { s with heap:=g }):wpAny (model prog w) A (Builtin.SmallTypes.nextOf (.ref j)) Q E s:=by
 obtain⟨p,ax,pc,lq⟩:=id bP;obtain⟨q,aF,_,m,y2⟩:=T;have ne:¬((Value.ref t==Value.none)=true):=W5;refine Wh (W4 (name:=Str.ofString "__next__") bP.typeIs X1 (Xb X1 bP.typeIs Zp ?_ (Zh _)));refine Wh (m:=field (.ref j) 0) (WX ax lq (x:=.ref t) rfl ?_);refine(Zg (λz=>absurd z ne) λ_=>?_)
 refine Wh (m:=field (.ref j) 1) (WX ax lq (x:=.int n 0) rfl ?_);refine Wh (m:=seqItems? (.ref t)) (XC aF y2 ?_);simp only[Int.toNat_natCast,aL];refine Wh (XD ax lq (by simp) (wpAny_pure ⟨v,rfl,wpAny_pure (k _ ⟨_,WW _ ax (Ys (XU lq _)),(Obj.cls_mapFields ..).trans pc,?_⟩ (Xe ..))⟩))
 rw[XU lq];simp[rawInt]
def Dj{j t:Addr}{n:Nat}{ai:Array Value}{Q:Value->Shared->Prop}(bJ:A.handled=none)(bP:s.heap.IsTupleIter j t n)(T:s.heap.IsTuple t ai)(aL:ai[n]?=none)(k:∀g e,Heap.ExtBut j s.heap g->(∃o,g.get? e=some o/\o.cls=.type "StopIteration")->E (.ref e) { s with heap:=g }):wpAny (model prog w) A (Builtin.SmallTypes.nextOf (.ref j)) Q E s:=by
 obtain⟨p,ax,pc,lq⟩:=id bP;obtain⟨q,aF,_,m,y2⟩:=T;have ne:¬((Value.ref t==Value.none)=true):=W5;refine Wh (W4 (name:=Str.ofString "__next__") bP.typeIs X1 (Xb X1 bP.typeIs Zp ?_ (Zh _)));refine Wh (m:=field (.ref j) 0) (WX ax lq (x:=.ref t) rfl ?_);refine(Zg (λz=>absurd z ne) λ_=>?_)
 refine Wh (m:=field (.ref j) 1) (WX ax lq (x:=.int n 0) rfl ?_);refine Wh (m:=seqItems? (.ref t)) (XC aF y2 ?_);simp only[Int.toNat_natCast,aL];refine Wh (XS (Wh (XD ax lq (by simp) (Wh (m:=newExc (.type "StopIteration") []) ?_))))
 unfold newExc newTuple;refine Wh (WG (Wh (m:=firstArgMember _ _) (Z4 (a:=Value.none) (by first|rfl|(simp only[firstArgMember];rfl)) (WG ?_ (by size_fits)))) (by size_fits))
 unfold raiseNew;refine Wh (wpAny_handled ?_)
 first|rw[show A.in1.handled=none from bJ]|rw[bJ]
 refine Wh (wpAny_pure (wpAny_throw (k _ _ (((Xe ..).extBut.push _).push _) ⟨_,Wq _ rfl,rfl⟩)))
noncomputable abbrev zS:=ZipApart
def next_item{z a b i j p q:Addr}{n:Nat}{xs ys:Array Value}{x y u v:Value}{Q:Option Value->Shared->Prop}(D:zS z a b i j p q)(Z:IsZip s.heap z a b .none)(fB:IsPair s.heap a (.ref i) (.ref j))(hH:IsPair s.heap b u v)(I:s.heap.IsTupleIter i p n)(bP:s.heap.IsTupleIter j q n)(P:s.heap.IsTuple p xs)(R:s.heap.IsTuple q ys)(af:xs[n]?=some x)(aA:ys[n]?=some y)(k:∀g,IsZip g z a b (rawInt s.heap.objs.size)->IsPair g b x y->g.IsTupleIter i p (n+1)->g.IsTupleIter j q (n+1)->IsPair g s.heap.objs.size x y->g.objs.size=s.heap.objs.size+1 ->
   (∀c o,c≠z->c≠b->c≠i->c≠j->s.heap.get? c=some o->g.get? c=some o)->Q (some (.ref s.heap.objs.size)) { s with heap:=g }):wpAny (model prog w) A (pyNext (.ref z)) Q E s:=by
 have tz:s.TypeIs (.ref z) "zip":=⟨_,Z,rfl⟩;refine Wh (YH (W4 (name:=Str.ofString "__next__") tz Zi (Xb Zi tz F.entry_zip_next ?_ (F.args_zip_next_1 _))));refine Wh (m:=field (.ref z) 2) (WX Z rfl (x:=.bool false) rfl ?_);refine Wh (m:=field (.ref z) 3) (WX Z rfl (x:=.ref a) rfl (Wh (XC fB rfl ?_)));refine Wh (m:=Builtin.SmallTypes.ownedTupleIsFree (.ref z)) ?_;refine Wh (m:=field (.ref z) 0) (WX Z rfl (x:=.none) rfl (wpAny_pure ?_));simp only[Xl];refine Wh (XS (Wh (WX Z rfl (x:=.ref b) rfl (Wh (X2 Z (by simp) λg1 lS e1=>?_)))))
 replace lS:IsZip g1 z a b .ellipsis:=lS;simp only[List.zipIdx_cons,List.zipIdx_nil,List.forIn_cons,List.forIn_nil];refine Wh (Wh (Wh (Y8 (Wh (m:=Builtin.SmallTypes.nextOf (.ref i)) (zo (I.extBut e1.extBut D.i1z) (P.extBut e1.extBut D.l1z) af λg2 cy e2=>wpAny_pure ?_)))))
 have qh:IsPair g2 b u v:=e2.extBut _ _ D.TOi1 (e1.extBut _ _ D.TOz hH);refine Wh (XC qh rfl (Wh (Zd qh λg3 sa e3=>Wh (wpAny_letGo (wpAny_pure ?_)))))
 replace sa:IsPair g3 b x v:=sa;refine Wh (Wh (Y8 (Wh (m:=Builtin.SmallTypes.nextOf (.ref j)) (zo (((bP.extBut e1.extBut D.i2z).extBut e2.extBut D.i12.symm).extBut e3.extBut D.TOi2.symm) (((R.extBut e1.extBut D.l2z).extBut e2.extBut D.l2i1).extBut e3.extBut D.l2TO) aA λfZ G5 e4=>wpAny_pure ?_))))
 have z0:IsPair fZ b x v:=e4.extBut _ _ D.TOi2 sa;refine Wh (XC z0 rfl (Wh (Zd z0 λfa sb e5=>Wh (wpAny_letGo (wpAny_pure (wpAny_pure ?_))))))
 replace sb:IsPair fa b x y:=sb;refine Wh (XC sb rfl (Wh (wpAny_newTuple ?_)));have dJ:fa.objs.size=s.heap.objs.size:=by rw[e5.1,e4.1,e3.1,e2.1,e1.1]
 have Ac:IsZip fa z a b .ellipsis:=e5.extBut _ _ D.TOz.symm (e4.extBut _ _ D.i2z.symm (e3.extBut _ _ D.TOz.symm (e2.extBut _ _ D.i1z.symm lS)));have G7:∀c o,c≠z->c≠b->c≠i->c≠j->s.heap.get? c=some o->fa.get? c=some o:=λc o cu bg b2 gf e =>
  e5.extBut _ _ bg (e4.extBut _ _ gf (e3.extBut _ _ bg (e2.extBut _ _ b2 (e1.extBut _ _ cu e))))
 have hg:fa.IsTupleIter i p (n+1):=((cy.extBut e3.extBut D.TOi1.symm).extBut e4.extBut D.i12).extBut e5.extBut D.TOi1.symm;have G6:fa.IsTupleIter j q (n+1):=G5.extBut e5.extBut D.TOi2.symm;have DE:z<fa.objs.size:=Wl Ac;refine Wh (m:=Builtin.SmallTypes.ownedTupleHandOut (.ref z) (.ref fa.objs.size)) ?_;have Hm:IsZip (fa.push { cls:=.type "tuple",data:=.seq #[x,y] }) z a b .ellipsis:=Wj _ Ac;refine Wh (m:=setField (.ref z) 0 (rawInt fa.objs.size)) (X2 Hm (by simp) λsS vn kI=>?_)
 replace vn:IsZip sS z a b (rawInt fa.objs.size):=vn;refine X2 vn (by simp) λo4 sj nr=>?_
 replace sj:IsZip o4 z a b (rawInt fa.objs.size):=sj;have up:∀c o,c≠z->fa.get? c=some o->o4.get? c=some o:=λc o cu e=>nr.extBut _ _ cu (kI.extBut _ _ cu (Wj _ e))
 have z8:IsPair o4 fa.objs.size x y:=nr.extBut _ _ (Yy DE) (kI.extBut _ _ (Yy DE) (Wq _ rfl));have ug:o4.objs.size=fa.objs.size+1:=by rw[nr.1,kI.1,XW]
 rw[dJ]at sj z8 ug;refine wpAny_pure ⟨_,rfl,?_⟩;have fin:Q (some (.ref s.heap.objs.size)) { s with heap:=o4 }:=k o4 sj (up _ _ D.TOz sb) (hg.at λo e=>up _ o D.i1z e) (G6.at λo e=>up _ o D.i2z e) z8 ug λc o cu bg b2 gf e=>up c o cu (G7 c o cu bg b2 gf e)
 rw[<- dJ]at fin;exact wpAny_pure fin
def next_end{z a b i j p q:Addr}{n:Nat}{xs ys:Array Value}{u v:Value}{Q:Option Value->Shared->Prop}(bJ:A.handled=none)(D:zS z a b i j p q)(Z:IsZip s.heap z a b .none)(fB:IsPair s.heap a (.ref i) (.ref j))(hH:IsPair s.heap b u v)(I:s.heap.IsTupleIter i p n)(bP:s.heap.IsTupleIter j q n)(P:s.heap.IsTuple p xs)(R:s.heap.IsTuple q ys)(xM:xs[n]?=none\/ys[n]?=none)(k:∀g,(∀c o,c≠z->c≠b->c≠i->c≠j->s.heap.get? c=some o->g.get? c=some o)->Q none { s with heap:=g }):wpAny (model prog w) A (pyNext (.ref z)) Q E s:=by
 have tz:s.TypeIs (.ref z) "zip":=⟨_,Z,rfl⟩;have stop:∀(g:Heap)(e:Addr),(∃o,g.get? e=some o/\o.cls=.type "StopIteration")->(∀c o,c≠z->c≠b->c≠i->c≠j->s.heap.get? c=some o->g.get? c=some o) ->
   wpAny (model prog w) A (isInstance (.ref e) (.type "StopIteration")>>=λr=>if r=true then pure none else throw (.ref e)) Q E { s with heap:=g }:=λg e ⟨o,ay,aj⟩ K =>
  Wh (Y4 (T:="StopIteration") (b:=true) ⟨o,ay,aj⟩ Z5 (wpAny_pure (k g K)))
 refine Wh (YH (W4 (name:=Str.ofString "__next__") tz Zi (Xb Zi tz F.entry_zip_next ?_ (F.args_zip_next_1 _))));refine Wh (m:=field (.ref z) 2) (WX Z rfl (x:=.bool false) rfl ?_);refine Wh (m:=field (.ref z) 3) (WX Z rfl (x:=.ref a) rfl (Wh (XC fB rfl ?_)));refine Wh (m:=Builtin.SmallTypes.ownedTupleIsFree (.ref z)) ?_;refine Wh (m:=field (.ref z) 0) (WX Z rfl (x:=.none) rfl (wpAny_pure ?_));simp only[Xl];refine Wh (XS (Wh (WX Z rfl (x:=.ref b) rfl (Wh (X2 Z (by simp) λg1 lS e1=>?_)))))
 replace lS:IsZip g1 z a b .ellipsis:=lS;simp only[List.zipIdx_cons,List.zipIdx_nil,List.forIn_cons,List.forIn_nil];cases af:xs[n]? with
 |none =>
  refine Wh (Wh (Wh (Y8 (Wh (m:=Builtin.SmallTypes.nextOf (.ref i)) (Dj bJ (I.extBut e1.extBut D.i1z) (P.extBut e1.extBut D.l1z) af λg2 e e2 he=>?_)))))
  obtain⟨cn,nM,qS⟩:=he;have Aa:IsZip g2 z a b .ellipsis:=e2 _ _ D.i1z.symm lS;have mB:e≠z:=λw=>by subst w;rw[Aa]at nM;cases nM;simp at qS
  exact X2 Aa (by simp) λg3 _ e3=>stop g3 e ⟨cn,e3.extBut _ _ mB nM,qS⟩ λc o cu _ b2 _ y=>e3.extBut _ _ cu (e2 _ _ b2 (e1.extBut _ _ cu y))
 |some x =>
  have aA:ys[n]?=none:=by rcases xM with h|h;rw[af]at h;cases h;exact h
  refine Wh (Wh (Wh (Y8 (Wh (m:=Builtin.SmallTypes.nextOf (.ref i)) (zo (I.extBut e1.extBut D.i1z) (P.extBut e1.extBut D.l1z) af λg2 cy e2=>wpAny_pure ?_)))))
  have qh:IsPair g2 b u v:=e2.extBut _ _ D.TOi1 (e1.extBut _ _ D.TOz hH);refine Wh (XC qh rfl (Wh (Zd qh λg3 sa e3=>Wh (wpAny_letGo (wpAny_pure ?_)))))
  refine Wh (Wh (Y8 (Wh (m:=Builtin.SmallTypes.nextOf (.ref j)) (Dj bJ (((bP.extBut e1.extBut D.i2z).extBut e2.extBut D.i12.symm).extBut e3.extBut D.TOi2.symm) (((R.extBut e1.extBut D.l2z).extBut e2.extBut D.l2i1).extBut e3.extBut D.l2TO) aA λfZ e e4 he=>?_))))
  obtain⟨cn,nM,qS⟩:=he;have Ab:IsZip fZ z a b .ellipsis:=e4 _ _ D.i2z.symm (e3.extBut _ _ D.TOz.symm (e2.extBut _ _ D.i1z.symm lS));have mB:e≠z:=λw=>by subst w;rw[Ab]at nM;cases nM;simp at qS
  exact X2 Ab (by simp) λfa _ e5=>stop fa e ⟨cn,e5.extBut _ _ mB nM,qS⟩ λc o cu bg b2 gf y=>e5.extBut _ _ cu (e4 _ _ gf (e3.extBut _ _ bg (e2.extBut _ _ b2 (e1.extBut _ _ cu y))))
def make{p q:Addr}{xs ys:Array Value}{Q:Value->Shared->Prop}(P:s.heap.IsTuple p xs)(R:s.heap.IsTuple q ys)(k:∀g,IsZip g (s.heap.objs.size+4) (s.heap.objs.size+2) (s.heap.objs.size+3) .none->IsPair g (s.heap.objs.size+2) (.ref s.heap.objs.size) (.ref (s.heap.objs.size+1))->IsPair g (s.heap.objs.size+3) .none .none ->
   g.IsTupleIter s.heap.objs.size p 0->g.IsTupleIter (s.heap.objs.size+1) q 0->g.objs.size=s.heap.objs.size+5->(∀c o,s.heap.get? c=some o->g.get? c=some o)->Q (.ref (s.heap.objs.size+4)) { s with heap:=g }):
  wpAny (model prog w) A (call (.type "zip") [.ref p,.ref q]) Q E s:=by
 have meets:Meets (Builtin.«zip.__new__» ⟨[.type "zip",.ref p,.ref q],[]⟩) (λ_ z4 s'=>s'.heap.IsTuple p xs/\s'.heap.IsTuple q ys /\
   ∀aa h2 h3 h4 h5:Heap,aa=s'.heap.push { cls:=.type "tuple_iterator",data:=.fields #[.ref p,.int 0 0] }->h2=aa.push { cls:=.type "tuple_iterator",data:=.fields #[.ref q,.int 0 0] }->h3=h2.push { cls:=.type "tuple",data:=.seq #[.ref s'.heap.objs.size,.ref aa.objs.size] } ->
    h4=h3.push { cls:=.type "tuple",data:=.seq #[.none,.none] }->h5=h4.push { cls:=.type "zip",data:=.fields #[.none,.bool false,.bool false,.ref h2.objs.size,.ref h3.objs.size] }->z4 (.ok (.ret (.ref h4.objs.size))) { s' with heap:=h5 }) :=
  .of_wp λprog w A z4 s' h=>by
   obtain⟨ax,g,d,tk,os⟩:=s';obtain⟨Hi,Hk,h⟩:=h;have jo:=sub_zip;have Hj:Heap.IsTuple (Shared.heap ⟨ax,g,d,tk,os⟩) p xs:=Hi;have Hl:Heap.IsTuple (Shared.heap ⟨ax.push { cls:=.type "tuple_iterator",data:=.fields #[.ref p,.int 0 0] },g,d,tk,os⟩) q ys:=Heap.IsTuple.push Hk _
   wp_walk using Yk Hj,Yk Hl
   exact⟨_,rfl,h _ _ _ _ _ rfl rfl rfl rfl rfl⟩
 refine callType_new F.called_zip (by decide) (F.typeCall_zip_2 _ _) (F.newCall_zip_2 _ _) (λobj=>F.args_object_init_3 obj _ _) F.entry_zip_new meets ⟨P,R,λaa h2 h3 h4 h5 e1 e2 e3 e4 e5=>?_⟩
 have c6:aa.objs.size=s.heap.objs.size+1:=by rw[e1,XW]
 have cO:h2.objs.size=s.heap.objs.size+2:=by rw[e2,XW,c6]
 have dK:h3.objs.size=s.heap.objs.size+3:=by rw[e3,XW,cO]
 have ox:h4.objs.size=s.heap.objs.size+4:=by rw[e4,XW,dK]
 have zR:h5.objs.size=s.heap.objs.size+5:=by rw[e5,XW,ox]
 have Gp:∀{c o},h4.get? c=some o->h5.get? c=some o:=λy=>e5▸Wj _ y
 have uE:∀{c o},h3.get? c=some o->h5.get? c=some o:=λy=>Gp (e4▸Wj _ y)
 have jB:∀{c o},h2.get? c=some o->h5.get? c=some o:=λy=>uE (e3▸Wj _ y)
 have eO:∀{c o},aa.get? c=some o->h5.get? c=some o:=λy=>jB (e2▸Wj _ y)
 have fa:h5.get? h4.objs.size=some _:=e5▸Wq _ rfl;have fZ:h4.get? h3.objs.size=some _:=e4▸Wq _ rfl;have g3:h3.get? h2.objs.size=some _:=e3▸Wq _ rfl;have g2:h2.get? aa.objs.size=some _:=e2▸Wq _ rfl;have g1:aa.get? s.heap.objs.size=some _:=e1▸Wq _ rfl;rw[cO,dK,ox]at fa;rw[dK]at fZ;rw[c6,cO]at g3;rw[c6]at g2;rw[ox];exact⟨⟨_,fa,rfl⟩,k h5 fa (uE g3) (Gp fZ) ⟨_,eO g1,rfl,rfl⟩ ⟨_,jB g2,rfl,rfl⟩ zR λc o y=>eO (e1▸Wj _ y)⟩
end
end sk
end
section
namespace ez
open Den bH
variable{pg:cI}{Φ:cV}
noncomputable def hA:D->Bool
 |.int _=>true
 |_=>false
def N8(d:D):dc pg Φ ⟨1,0,bh.Aq⟩ [d]=.ok (.av (hA d)):=by cases d<;>rfl
noncomputable def nR:D->Bool
 |.int i=>decide (1<=i)&&decide (i<=8)
 |_=>false
def N5{f g:Nat}(hf:∀d,Φ f [d]=.ok (.av (hA d)))(aT:pg.cs[g]?=some (.int 8))(d:D):dc pg Φ ⟨1,0,bh.vy f g⟩ [d]=.ok (.av (nR d)):=by
 simp only[Den.aU,Nat.reduceAdd,bh.vy,hf,wI g aT];cases d with
 |int i =>
  simp only[Den.aU,Nat.reduceAdd,hA,nR]
  by_cases h:1<=i
  .simp only[Den.aU,Nat.reduceAdd,decide_eq_true h,wI g aT,Bool.true_and]
  .simp only[Den.aU,Nat.reduceAdd,decide_eq_false h,W0]
 |_=>rfl
section
variable{α:Type}{lt:α->α->Bool}
noncomputable def hj(lt:α->α->Bool):List α->Bool
 |a::b::r=>lt a b&&hj lt (b::r)
 |_=>true
theorem qq(L:gx lt):∀xs:List α,hj lt xs=true<->fh lt xs
 |[]=>⟨λ_=>.nil,λ_=>rfl⟩
 |[a]=>⟨λ_=>XX _ _,λ_=>rfl⟩
 |a::b::r=>by
  simp only[hj,Wi,qq L (b::r)];constructor
  .rintro⟨aa,h2⟩;refine WS.mpr ⟨λz hz=>?_,h2⟩
   rcases Wo.mp hz with e|e
   .subst e;exact aa
   .exact L.dn aa ((WS.mp h2).1 z e)
  .intro h;exact⟨(WS.mp h).1 b List.mem_cons_self,(WS.mp h).2⟩
def ui{n d k:Nat}(h:k<=n):bA n d (some (k:Int))=k:=by
 have aa:¬((k:Int)<0):=by omega
 have h2:¬((n:Int)<(k:Int)):=by omega
 simp only[bA,if_neg aa,if_neg h2];omega
def E4{n d k:Nat}(h:n<k):bA n d (some (k:Int))=n:=by
 have aa:¬((k:Int)<0):=by omega
 have h2:((n:Int)<(k:Int)):=by omega
 simp only[bA,if_neg aa,if_pos h2]
def wq{β:Type}(xs:List β)(k:Nat):cut xs (some (k:Int)) none=xs.drop k:=by
 unfold cut
 by_cases h:k<=xs.length
 .rw[ui h];show List.take (xs.length-k) (xs.drop k)=_;rw[Xn (by simp)]
 .rw[E4 (by omega),List.drop_of_length_le (Wm _),List.drop_of_length_le (by omega)]
  simp
def JA{β:Type}(xs:List β)(k:Nat):cut xs none (some (k:Int))=xs.take k:=by
 unfold cut
 by_cases h:k<=xs.length
 .rw[ui h];simp[bA]
 .rw[E4 (by omega)];simp only[bA,Z6,Nat.sub_zero]
  rw[Xn (Wm _),Xn (by omega)]
def A0{β:Type}(xs:List β):cut xs (some 1) none=xs.drop 1:=wq xs 1
theorem GW{f:α->D}(h:∀a b,nV (f a) (f b)=.ok (lt a b)){g:D->R (Option D)}(aT:∀x y,g (.tup [x,y])=(df .lt x y>>=λc=>.ok (some (.av c)))):∀xs:List α,
  ∃bs:List Bool,cJ g (gb (xs.map f) ((xs.drop 1).map f))=.ok (bs.map .av)/\bs.all id=hj lt xs
 |[]=>⟨[],rfl,rfl⟩
 |[a]=>⟨[],rfl,rfl⟩
 |a::b::r=>by
  obtain⟨bs,aN,e⟩:=GW h aT (b::r);have e1:gb ((a::b::r).map f) (((a::b::r).drop 1).map f)=.tup [f a,f b]::gb ((b::r).map f) (((b::r).drop 1).map f):=by
   simp only[List.drop_succ_cons,Z6,WA,gb]
  refine⟨lt a b::bs,?_,?_⟩
  .rw[e1];simp only[cJ,aT,wj,h,R.ip,aN];rfl
  .simp only[List.all_cons,id,hj,e]
def N7{f:α->D}(h:∀a b,nV (f a) (f b)=.ok (lt a b))(xs:List α):dc pg Φ ⟨1,0,bh.vA⟩ [.tup (xs.map f)]=.ok (.av (hj lt xs)):=by
 simp only[Den.aU,Nat.reduceAdd,bh.vA,A0];have e:(List.map f xs).drop 1=(xs.drop 1).map f:=by rw[List.map_drop]
 rw[e];obtain⟨bs,e1,e2⟩:=GW h (g:=elem pg Φ [some (D.tup (List.map f xs))] (.cmp .lt (.var 1) (.var 2)) 2 .none) (λx y=>by
  simp only[Den.aU,Nat.reduceAdd];cases nV x y<;>rfl) xs
 have e3:kA (bs.map .av)=.ok (bs.all id):=nc id bs;simp only[Den.aU,Nat.reduceAdd,e1,e3,e2]
end
theorem tu:∀xs:List D,(∃c:List Int,xs=c.map .int)\/xs.all hA=false
 |[]=>.inl ⟨[],rfl⟩
 |x::xs=>by
  rcases tu xs with⟨c,rfl⟩|h
  .cases x with
   |int i=>exact .inl ⟨i::c,rfl⟩
   |_=>exact .inr (by simp[hA])
  .exact .inr (by simp[h])
noncomputable def IsCell(m:Int)(c:List Int):Prop:=c≠[]/\(∀x∈c,0<=x/\x<m)/\fh ltI c
noncomputable instance (m:Int) (c:List Int):Decidable (IsCell m c):=by unfold IsCell fh;infer_instance
noncomputable def eL(m:Int):D->Bool
 |.tup xs=>match xs.all hA with|true=>decide (IsCell m (xs.map λd=>match d with|.int i=>i|_=>0))|false=>false
 |_=>false
def C2(c:List Int):((c.map D.int).map λd=>match d with|.int i=>i|_=>0)=c:=by
 induction c with
 |nil=>rfl
 |cons x c aN=>simp only[WA,aN]
def Af(c:List Int):(c.map D.int).all hA=true:=by simp[List.all_map,hA]
def C4{m:Int}{xs:List D}(h:xs.all hA=false):eL m (.tup xs)=false:=by
 simp only[eL,h]
def tv(m:Int)(c:List Int):eL m (aK c)=decide (IsCell m c):=by
 simp only[eL,aK,Af,C2]
def yn (m : Int) (d : D) : eL m d = true <-> ∃ c, d = aK c /\ IsCell m c := by
  constructor
  · intro h
    cases d with
    | tup xs =>
      rcases tu xs with ⟨c, rfl⟩ | q
      · have := tv m c
        unfold aK at this
        rw [this] at h
        exact ⟨c, rfl, Yg h⟩
      · rw [C4 q] at h; cases h
    | _ => cases h
  · rintro ⟨c, rfl, h⟩
    rw [tv]; exact decide_eq_true h
def HX {m : Int} : ∀ {c : List Int} (a : Int) (r : List Int), c = a :: r -> fh ltI c -> ∀ l, c.getLast? = some l -> 0 <= a -> l < m -> ∀ x ∈ c, 0 <= x /\ x < m := by
  intro c a r e h l au aC VF x af
  subst e
  obtain ⟨aa, h2⟩ := WS.mp h
  constructor
  · rcases Wo.mp af with e | e
    · omega
    · have := aa x e; simp [ltI] at this; omega
  · -- x is not above zB last
    have key : ∀ (c : List Int), fh ltI c -> c.getLast? = some l -> ∀ x ∈ c, x <= l := by
      intro c
      induction c with
      | nil => intro _ h; simp at h
      | cons y ys aN =>
        intro aj au x af
        obtain ⟨g1, g2⟩ := WS.mp aj
        cases ys with
        | nil => simp at au af; omega
        | cons z zs =>
          rw [List.getLast?_cons_cons] at au
          rcases Wo.mp af with e | e
          · have aD := aN g2 au z List.mem_cons_self
            have aO := g1 z List.mem_cons_self
            simp [ltI] at aO; omega
          · exact aN g2 au x e
    have := key _ h au x af
    omega
def LU{α:Type}(x:α)(xs:List α):eX (x::xs) (-1)=(x::xs).getLast?:=by
 have e:hV (x::xs).length (-1)=some xs.length:=by
  unfold hV;have aa:¬((0:Int)<=-1):=by decide
  have h2:(0:Int)<=-1+((x::xs).length:Nat):=by simp only[List.length_cons];omega
  rw[if_neg aa,if_pos h2];simp only[List.length_cons];congr 1;omega
 unfold eX;rw[e];simp[List.getLast?_eq_getElem?]
def sU{α:Type}(xs:List α)(k:Nat):eX xs (k:Int)=xs[k]?:=by
 unfold eX hV;rw[if_pos (by omega)]
 by_cases h:k<xs.length
 .rw[if_pos (by omega)];simp
 .rw[if_neg (by omega)];simp;omega
def LS{α:Type}(x:α)(xs:List α):eX (x::xs) 0=some x:=by have:=sU (x::xs) 0;simpa using this
def getLast?_map{α β:Type}(f:α->β)(xs:List α):(xs.map f).getLast?=xs.getLast?.map f:=by simp
def N4 {f g : Nat} (aT : ∀ d, Φ g [d] = .ok (.av (hA d))) (hf : ∀ c : List Int, Φ f [aK c] = .ok (.av (hj ltI c))) (d : D) (m : Int) : dc pg Φ ⟨2, 0, bh.vx f g⟩ [d, .int m] = .ok (.av (eL m d)) := by
  cases d with
  | tup xs =>
    have e1 : cJ (elem pg Φ [some (D.tup xs), some (D.int m)] (.call g (.cons (.var 2) .nil)) 0 .none) xs = .ok (xs.map fun d => .av (hA d)) := AX fun d _ => by simp only [Den.aU, Nat.reduceAdd, aT]
    have hm : hA (D.int m) = true := rfl
    simp only [Den.aU, Nat.reduceAdd, bh.vx, aT, hm, e1, nc]
    rcases tu xs with ⟨c, rfl⟩ | q
    · cases c with
      | nil => rfl
      | cons a r =>
        have h0 : (((((a :: r).map D.int).length : Nat) : Int) == 0) = false := by simp; omega
        rw [h0]
        simp only [Den.aU, Nat.reduceAdd, e1, nc, Af]
        have iN : gE (.tup ((a :: r).map D.int)) (.int 0) = .ok (.int a) := by rw [WA, js, LS]
        have hO := tv m (a :: r)
        have Cy := hf (a :: r)
        unfold aK at hO Cy
        obtain ⟨l, au⟩ : ∃ l, (a :: r).getLast? = some l := ⟨_, List.getLast?_eq_some_getLast (by simp)⟩
        have dI : gE (.tup ((a :: r).map D.int)) (.int (-1)) = .ok (.int l) := by
          have : eX ((a :: r).map D.int) (-1) = some (.int l) := by
            rw [WA, LU, <- WA, getLast?_map, au]; rfl
          rw [js, this]
        rw [hO]
        simp only [Den.aU, Nat.reduceAdd, iN]
        have fin : decide (IsCell m (a :: r)) = (decide (0 <= a) && (decide (l < m) && hj ltI (a :: r))) := by
          by_cases aD : 0 <= a
          · by_cases aO : l < m
            · by_cases bE : hj ltI (a :: r) = true
              · have : IsCell m (a :: r) := ⟨by simp, HX a r rfl ((qq hX _).mp bE) l au aD aO, (qq hX _).mp bE⟩
                simp [aD, aO, bE, this]
              · have : ¬ IsCell m (a :: r) := fun h => bE ((qq hX _).mpr h.2.2)
                simp [aD, aO, bE, this]
            · have : ¬ IsCell m (a :: r) := fun h => aO (h.2.1 l (List.mem_of_getLast? au)).2
              simp [aD, aO, this]
          · have : ¬ IsCell m (a :: r) := fun h => aD (h.2.1 a List.mem_cons_self).1
            simp [aD, this]
        rw [fin]
        by_cases aD : 0 <= a
        · by_cases aO : l < m
          · simp only [Den.aU, Nat.reduceAdd, decide_eq_true aD, Bool.true_and, dI, decide_eq_true aO, Cy]
          · simp only [Den.aU, Nat.reduceAdd, decide_eq_true aD, Bool.true_and, dI, decide_eq_false aO, W0]
        · simp only [Den.aU, Nat.reduceAdd, decide_eq_false aD, W0]
    · rw [C4 q]
      cases iq : (((xs.length : Nat) : Int) == 0)
      · simp only [Den.aU, Nat.reduceAdd, e1, nc, q]
      · rfl
  | _ => rfl
noncomputable def kB(m:Int):D->Bool
 |.tup xs=>xs.all (eL m)
 |_=>false
def HG{f:Nat}(hf:∀d (m:Int),Φ f [d,.int m]=.ok (.av (eL m d)))(d:D)(m:Int):dc pg Φ ⟨2,0,bh.vw f⟩ [d,.int m]=.ok (.av (kB m d)):=by
 cases d with
 |tup xs =>
  have e1:cJ (elem pg Φ [some (D.tup xs),some (D.int m)] (.call f (.cons (.var 2) (.cons (.var 1) .nil))) 0 .none) xs=.ok (xs.map λd=>.av (eL m d)):=AX λd _=>by simp only[Den.aU,Nat.reduceAdd,hf]
  simp only[Den.aU,Nat.reduceAdd,bh.vw,e1,nc,kB]
 |_=>rfl
def sm (m : Int) (d : D) : kB m d = true <-> ∃ cs : List (List Int), d = .tup (cs.map aK) /\ ∀ c ∈ cs, IsCell m c := by
  constructor
  · intro h
    cases d with
    | tup xs =>
      have h : xs.all (eL m) = true := h
      induction xs with
      | nil => exact ⟨[], rfl, by simp⟩
      | cons x xs aN =>
        simp only [List.all_cons, Wi] at h
        obtain ⟨cs, e, aj⟩ := aN h.2 h.2
        obtain ⟨c, rfl, aa⟩ := (yn m x).mp h.1
        injection e with e
        refine ⟨c :: cs, by rw [e]; rfl, fun z hz => ?_⟩
        rcases Wo.mp hz with rfl | hz
        · exact aa
        · exact aj z hz
    | _ => cases h
  · rintro ⟨cs, rfl, h⟩
    show (cs.map aK).all (eL m) = true
    rw [List.all_map, Wt]
    intro c aj
    exact (yn m _).mpr ⟨c, rfl, h c aj⟩
noncomputable def lies(c o:List Int):Bool:=c.all λx=>decide (x∈o)
def yx{c o:List Int}:lies c o=true<->∀x∈c,x∈o:=by simp[lies]
def AW{g:D->R (Option D)}{p:Int->D}{c:List Int}(h:∀x∈c,g (.int x)=.ok (some (p x))):cJ g (c.map .int)=.ok (c.map p):=by
 rw[qC (g:=λd=>match d with|.int x=>some (p x)|_=>none)]
 .congr 1
  induction c with
  |nil=>rfl
  |cons x c aN=>simp[aN λy aA=>h y (List.mem_cons_of_mem _ aA)]
 .intro d hd;obtain⟨x,af,rfl⟩:=Xw.mp hd;exact h x af
def AU{g:D->R (Option D)}{p:List Int->Option D}{cs:List (List Int)}(h:∀c∈cs,g (aK c)=.ok (p c)):cJ g (cs.map aK)=.ok (cs.filterMap p):=by
 induction cs with
 |nil=>rfl
 |cons c cs aN =>
  simp only[WA,cJ,h c List.mem_cons_self,R.ip,aN λy aA=>h y (List.mem_cons_of_mem _ aA),List.filterMap_cons]
  cases p c<;>rfl
def BI{α β:Type}(f:α->β)(xs:List α):xs.filterMap (λx=>some (f x))=xs.map f:=by
 induction xs with
 |nil=>rfl
 |cons x xs aN=>simp
def BG{α β:Type}(q:α->Bool)(f:α->β)(xs:List α):xs.filterMap (λx=>if q x then some (f x) else none)=(xs.filter q).map f:=by
 induction xs with
 |nil=>rfl
 |cons x xs aN=>cases h:q x<;>simp[h,aN]
def O5(c o:List Int):dc pg Φ ⟨2,0,bh.vO⟩ [aK c,aK o]=.ok (.av (lies c o)):=by
 have e1:cJ (elem pg Φ [some (aK c),some (aK o)] (.cmp .mem (.var 2) (.var 1)) 0 .none) (c.map .int)=.ok (c.map λx=>.av (decide (x∈o))):=AW λx _=>by
  simp only[Den.aU,Nat.reduceAdd];unfold aK;simp only[Den.aU,Nat.reduceAdd,DL]
 have e2:dt (aK c)=.ok (c.map .int):=rfl;simp only[Den.aU,Nat.reduceAdd,bh.vO,e2,e1,nc,lies]
def Dw{f:Nat}(hf:∀c o:List Int,Φ f [aK c,aK o]=.ok (.av (lies c o)))(c:List Int){d:D}{os:List (List Int)}(hd:dt d=.ok (os.map aK)):dc pg Φ ⟨2,0,bh.vP f⟩ [aK c,d]=.ok (.av (os.any (lies c))):=by
 have e1:cJ (elem pg Φ [some (aK c),some d] (.call f (.cons (.var 0) (.cons (.var 2) .nil))) 0 .none) (os.map aK)=.ok (os.map λo=>.av (lies c o)):=by
  rw[AU (p:=λo=>some (.av (lies c o))) λo _=>by simp only[Den.aU,Nat.reduceAdd,hf],BI]
 simp only[Den.aU,Nat.reduceAdd,bh.vP,hd,e1,HC]
noncomputable def bN(m:Int):List Int:=(List.range m.toNat).map λ(k:Nat)=>(k:Int)
def lu(m:Int):ed 0 m=(bN m).map .int:=by
 unfold ed bN;rw[List.map_map];have:(m-0).toNat=m.toNat:=by omega
 rw[this];apply XM;intro k _;simp
def mv{m x:Int}:x∈bN m<->0<=x/\x<m:=by
 unfold bN;rw[Xw];constructor
 .rintro⟨k,aq,rfl⟩;have:=WN.mp aq;omega
 .rintro⟨aa,h2⟩;exact⟨x.toNat,WN.mpr (by omega),by omega⟩
noncomputable def eA(m:Int)(ts:List (List Int)):Bool:=(bN m).all λk=>ts.any (lies [k])
def wo{m:Int}{ts:List (List Int)}:eA m ts=true<->∀x,0<=x->x<m->∃t∈ts,x∈t:=by
 unfold eA;simp only[Wt,List.any_eq_true,yx,mv,Xo,forall_eq];exact⟨λh x a b=>h x ⟨a,b⟩,λh x ab=>h x ab.1 ab.2⟩
def EY{m:Int}(h:-1000<=m)(h':m<=1000):oa m=true:=by unfold oa;simp;omega
def kb{i j:Int}(aa:-1000<=i)(h2:i<=1000)(h3:-1000<=j)(h4:j<=1000):ir i j=.ok (ed i j):=by
 have h5:(j-i).toNat<=1000000:=by omega
 unfold ir;rw[EY aa h2,EY h3 h4,decide_eq_true h5];rfl
def Pj{f:Nat}(hf:∀(c:List Int)(os:List (List Int)),Φ f [aK c,.tup (os.map aK)]=.ok (.av (os.any (lies c))))(ts:List (List Int)){m:Int}(h0:0<=m)(ea:m<=8):dc pg Φ ⟨2,0,bh.vQ f⟩ [.tup (ts.map aK),.int m]=.ok (.av (eA m ts)):=by
 have e1:cJ (elem pg Φ [some (.tup (ts.map aK)),some (.int m)] (.call f (.cons (.tup (.cons (.var 2) .nil)) (.cons (.var 0) .nil))) 0 .none) ((bN m).map .int)=.ok ((bN m).map λk=>.av (ts.any (lies [k]))):=AW λk _=>by
  have:=hf [k] ts;unfold aK at this ⊢;simp only[WA,List.map_nil]at this;simp only[Den.aU,Nat.reduceAdd,this]
 simp only[Den.aU,Nat.reduceAdd,bh.vQ,kb (i:=0) (j:=m) (by omega) (by omega) (by omega) (by omega),lu,e1,nc,eA]
def Bz{α:Type}{p:α->Bool}{c:α}(pre:List α)(h:p c=true):(pre++[c]).filter p=pre.filter p++[c]:=by rw[List.filter_append];simp[h]
def By{α:Type}{p:α->Bool}{c:α}(pre:List α)(h:p c=false):(pre++[c]).filter p=pre.filter p:=by rw[List.filter_append];simp[h]
noncomputable def eP(cs:List (List Int)):List (List Int):=(cp lexLt (cv cs)).filter λc=>!((cp lexLt (cv cs)).filter λo=>decide (c.length<o.length)).any (lies c)
def fF:SZ=16777216:=rfl
def UM {f : Nat} (hf : ∀ (c : List Int) (os : List (List Int)), Φ f [aK c, .lst (os.map aK)] = .ok (.av (os.any (lies c)))) {d : D} {cs : List (List Int)} (hd : dt d = .ok (cs.map aK)) (aw : ∀ c ∈ cs, c ≠ []) (Cb : (cv cs).length <= 75) :
    dc pg Φ ⟨1, 4, bh.vR f⟩ [d] = .ok (.tup ((eP cs).map aK)) := by
  simp only [Den.aU, Nat.reduceAdd, bh.vR, hd, FP aw Cb]
  have hlen : (cp lexLt (cv cs)).length <= 75 := by rw [pz]; exact Cb
  unfold eP
  generalize cp lexLt (cv cs) = ds at *
  obtain ⟨c7, e, x, y, he⟩ := mc (f := aK) (g := turn pg Φ 0 [3] (.cons (.asg 4 (.comp (.var 5) 0 (.seq (.var 1)) (.some (.cmp .gt (.prim .len (.var 5)) (.prim .len (.var 3)))))) (.cons (.iff (.not (.call f (.cons (.var 3) (.cons (.var 4) .nil)))) (.cons (.app 2 (.var 3)) .nil) .nil) .nil)))
    (fun br J => ∃ (x y : Option D), J = [some d, some (.lst (ds.map aK)), some (.lst ((br.filter fun c => !(ds.filter fun o => decide (c.length < o.length)).any (lies c)).map aK)), x, y])
    ds [some d, some (.lst (ds.map aK)), some (.lst []), none, none] ⟨none, none, rfl⟩ (fun pre c post J ax ⟨x, y, dw⟩ => by
      subst dw
      have e1 : ∀ z, cJ (elem pg Φ [some d, some (.lst (ds.map aK)), z, some (aK c), y] (.var 5) 0 (.some (.cmp .gt (.prim .len (.var 5)) (.prim .len (.var 3))))) (ds.map aK) = .ok ((ds.filter fun o => decide (c.length < o.length)).map aK) := fun z => by
        rw [AU (p := fun o => if decide (c.length < o.length) then some (aK o) else none) fun o _ => by
          simp only [Den.aU, Nat.reduceAdd, aK, List.length_map]
          by_cases q : c.length < o.length
          · have cB : ((c.length : Nat) : Int) < (o.length : Nat) := by omega
            simp only [decide_eq_true q, decide_eq_true cB, Xl]
          · have cB : ¬ ((c.length : Nat) : Int) < (o.length : Nat) := by omega
            simp only [decide_eq_false q, decide_eq_false cB, Wk, WM], BG]
      have au : ((pre.filter fun c => !(ds.filter fun o => decide (c.length < o.length)).any (lies c)).map aK).length < SZ := by
        have aa := X5 (fun c => !(ds.filter fun o => decide (c.length < o.length)).any (lies c)) pre
        have h2 : pre.length <= ds.length := by rw [ax]; simp
        rw [List.length_map, fF]; omega
      simp only [Den.aU, Nat.reduceAdd, e1, hf]
      cases q : (ds.filter fun o => decide (c.length < o.length)).any (lies c)
      · refine ⟨_, by simp only [Den.aU, Nat.reduceAdd, qr, if_pos au]; rfl, some (aK c), some (.lst ((ds.filter fun o => decide (c.length < o.length)).map aK)), ?_⟩
        rw [Bz pre (by rw [q]; rfl), List.map_append]; rfl
      · refine ⟨_, by simp only [Den.aU, Nat.reduceAdd]; rfl, some (aK c), some (.lst ((ds.filter fun o => decide (c.length < o.length)).map aK)), ?_⟩
        rw [By pre (by rw [q]; rfl)])
  rw [e, he]
  simp only [Den.aU, Nat.reduceAdd]
noncomputable def d4(m:Int)(ts:List (List Int)):D:=.tup [.int m,.tup (ts.map aK)]
noncomputable def dA:D->Bool
 |.tup [.int m,t]=>decide (1<=m)&&decide (m<=8)&&kB m t&&(match t with
  |.tup xs=>let cs:=xs.map λd=>match d with|.tup ys=>ys.map (λd=>match d with|.int i=>i|_=>0)|_=>[]
    decide (cs=eP cs)&&eA m cs
  |_=>false)
 |_=>false
def AZ(cs:List (List Int)):((cs.map aK).map λd=>match d with|.tup ys=>ys.map (λd=>match d with|.int i=>i|_=>0)|_=>[])=cs:=by
 induction cs with
 |nil=>rfl
 |cons c cs aN=>rw[WA,WA,aN];congr 1;exact C2 c
def yq(m:Int)(ts:List (List Int))(h:∀c∈ts,IsCell m c):dA (d4 m ts)=(decide (1<=m)&&decide (m<=8)&&(decide (ts=eP ts)&&eA m ts)):=by
 have aa:kB m (.tup (ts.map aK))=true:=(sm m _).mpr ⟨ts,rfl,h⟩;simp only[dA,d4,aa,AZ,ZN]
def tw(d:D):dA d=true<->∃m ts,d=d4 m ts/\1<=m/\m<=8/\(∀c∈ts,IsCell m c)/\ts=eP ts/\eA m ts=true:=by
 constructor
 .intro h;unfold dA at h
  split at h
  .rename_i m t;simp only[Wi,WH]at h;obtain⟨⟨⟨aa,h2⟩,h3⟩,h4⟩:=h;obtain⟨ts,rfl,aj⟩:=(sm m t).mp h3;simp only[AZ,Wi,WH]at h4;exact⟨m,ts,rfl,aa,h2,aj,h4.1,h4.2⟩
  .cases h
 .rintro⟨m,ts,rfl,aa,h2,aj,h3,h4⟩;rw[yq m ts aj,decide_eq_true aa,decide_eq_true h2,decide_eq_true h3,h4];rfl
def tx{xs:List D}(h:xs.length≠2):dA (.tup xs)=false:=by
 cases q:dA (.tup xs) with
 |false=>rfl
 |true =>
  obtain⟨m,ts,e,_⟩:=(tw _).mp q;unfold d4 at e;injection e with e;subst e;exact absurd rfl h
noncomputable def hn(d:D):Prop:=∀m ts,d=d4 m ts->(∀c∈ts,IsCell m c)->(cv ts).length<=75
def N6 {mb BR bc BU : Nat} (aA : ∀ d, Φ BU [d] = .ok (.av (nR d))) (aC : ∀ d (m : Int), Φ bc [d, .int m] = .ok (.av (kB m d)))
    (b3 : ∀ ts : List (List Int), (∀ c ∈ ts, c ≠ []) -> (cv ts).length <= 75 -> Φ BR [.tup (ts.map aK)] = .ok (.tup ((eP ts).map aK))) (hm : ∀ (ts : List (List Int)) (m : Int), 0 <= m -> m <= 8 -> Φ mb [.tup (ts.map aK), .int m] = .ok (.av (eA m ts)))
    (d : D) (hf : hn d) : dc pg Φ ⟨1, 2, bh.vz mb BR bc BU⟩ [d] = .ok (.av (dA d)) := by
  cases d with
  | tup xs =>
    simp only [Den.aU, Nat.reduceAdd, bh.vz]
    match xs, hf with
    | [], _ => rfl
    | [x], _ =>
      rw [tx (by simp)]
      rfl
    | x :: y :: z :: r, _ =>
      have h0 : (((((x :: y :: z :: r)).length : Nat) : Int) == 2) = false := by simp only [List.length_cons]; rw [XZ]; omega
      rw [h0, tx (by simp)]; rfl
    | [x, t], hf =>
      have h0 : (((([x, t]).length : Nat) : Int) == 2) = true := rfl
      have kP : eX [x, t] 0 = some x := rfl
      have g1 : eX [x, t] 1 = some t := rfl
      rw [h0]
      simp only [Den.aU, Nat.reduceAdd, js, kP, g1, aA]
      cases x with
      | int m =>
        by_cases aD : 1 <= m
        · by_cases aO : m <= 8
          · simp only [Den.aU, Nat.reduceAdd, nR, decide_eq_true aD, decide_eq_true aO, Bool.true_and, aC]
            cases bE : kB m t
            · simp only [Den.aU, Nat.reduceAdd]
              have : dA (.tup [.int m, t]) = false := by simp only [dA, bE, Xc, W0]
              rw [this]
            · obtain ⟨ts, rfl, aj⟩ := (sm m t).mp bE
              have e2 := b3 ts (fun c h => (aj c h).1) (hf m ts rfl aj)
              have e4 : dA (.tup [.int m, .tup (ts.map aK)]) = _ := yq m ts aj
              rw [e4]
              simp only [Den.aU, Nat.reduceAdd, e2, Bd]
              by_cases cb : ts = eP ts
              · simp only [Den.aU, Nat.reduceAdd, decide_eq_true cb, hm ts m (by omega) aO, decide_eq_true aD, decide_eq_true aO, Bool.true_and]
              · simp only [Den.aU, Nat.reduceAdd, decide_eq_false cb, Xc, W0]
          · simp only [Den.aU, Nat.reduceAdd, nR, decide_eq_false aO, Xc]
            have : dA (.tup [.int m, t]) = false := by simp only [dA, decide_eq_false aO, Xc, W0]
            rw [this]
        · simp only [Den.aU, Nat.reduceAdd, nR, decide_eq_false aD, W0]
          have : dA (.tup [.int m, t]) = false := by simp only [dA, decide_eq_false aD, Xc, W0]
          rw [this]
      | _ => rfl
  | _ => rfl
end ez
end
section
namespace eI
open Den bH ez
variable{pg:cI}{Φ:cV}
noncomputable def gn(lo hi:Int):D->Bool
 |.int i=>decide (lo<=i)&&decide (i<=hi)
 |_=>false
def PT(d:D)(lo hi:Int):dc pg Φ ⟨3,0,bh.vI⟩ [d,.int lo,.int hi]=.ok (.av (gn lo hi d)):=by
 cases d with
 |int i =>
  simp only[Den.aU,Nat.reduceAdd,bh.vI,C1,gn];have e:hU pg.up (.int i) .bool=.ok false:=rfl;simp only[Den.aU,Nat.reduceAdd,e]
  by_cases h:lo<=i
  .simp only[Den.aU,Nat.reduceAdd,decide_eq_true h,Bool.true_and]
  .simp only[Den.aU,Nat.reduceAdd,decide_eq_false h,W0]
 |_=>rfl
mutual
theorem FA:∀(n:Nat)(d:D),cD n d=true->cD (n+1) d=true
 |n,.cM,_=>rfl
 |n,.av _,_=>rfl
 |n,.int _,_=>rfl
 |0,.str _,h=>h
 |n+1,.str _,h=>h
 |0,.tup _,h=>by cases h
 |n+1,.tup xs,h=>iT n xs h
 |0,.lst _,h=>by cases h
 |n+1,.lst xs,h=>iT n xs h
 |0,.eV _,h=>by cases h
 |n+1,.eV _,h=>by cases h
theorem iT:∀(n:Nat)(xs:List D),xs.all (cD n)=true->xs.all (cD (n+1))=true
 |_,[],_=>rfl
 |n,x::xs,h=>by
  simp only[List.all_cons,Wi]at h ⊢;exact⟨FA n x h.1,iT n xs h.2⟩
end
def Fz{xs:List D}(h:xs.all (cD 50)=true):xs.all (cD 59)=true:=by
 have:=iT 58 xs (iT 57 xs (iT 56 xs (iT 55 xs (iT 54 xs (iT 53 xs (iT 52 xs (iT 51 xs (iT 50 xs h))))))));exact this
def Fy{xs:List D}{p:D->Bool}{n:Nat}(h:xs.all (cD n)=true):(xs.filterMap λd=>if p d=true then none else some d).all (cD n)=true:=by
 rw[Wt]at h ⊢;intro d hd;obtain⟨x,af,e⟩:=Yj.mp hd
 split at e
 .cases e
 .cases e;exact h _ af
def wY{α β:Type}(p:α->Option β)(xs:List α):(xs.filterMap p).isEmpty=xs.all λx=>(p x).isNone:=by
 induction xs with
 |nil=>rfl
 |cons x xs aN=>simp only[List.filterMap_cons,List.all_cons];cases p x<;>simp[aN]
def yg{c:List Int}{k:Nat}{x:Int}(h:c[k]?=some x):gE (.tup (c.map .int)) (.int (k:Int))=.ok (.int x):=by
 rw[js,sU,WJ,h];rfl
def Ry(n:Nat):ed 1 (n:Int)=(List.range (n-1)).map λ(k:Nat)=>D.int ((k:Int)+1):=by
 unfold ed;have:((n:Int)-1).toNat=n-1:=by omega
 rw[this];apply XM;intro k _;congr 1;omega
def Jn{g:D->R (Option D)}{p:Nat->Option D}{f:Nat->D}{ar:List Nat}(h:∀k∈ar,g (f k)=.ok (p k)):cJ g (ar.map f)=.ok (ar.filterMap p):=by
 induction ar with
 |nil=>rfl
 |cons c cs aN =>
  simp only[WA,cJ,h c List.mem_cons_self,R.ip,aN λy aA=>h y (List.mem_cons_of_mem _ aA),List.filterMap_cons]
  cases p c<;>rfl
theorem Ad:∀(c:List Int),hj ltI c=(List.range (c.length-1)).all λk=>decide (c.getD k 0<c.getD (k+1) 0)
 |[]=>rfl
 |[_]=>rfl
 |a::b::r=>by
  have e:(a::b::r).length-1=(b::r).length-1+1:=by simp
  rw[e,YY,List.all_cons,List.all_map];simp only[hj,Ad (b::r)];rfl
def OP(c:List Int)(m:Int)(hlen:c.length<=1000):ev pg Φ [some (D.tup (c.map .int)),some (D.int m)] (.cmp .eq (.comp (.var 2) 0 (.pO (.lit (.int 1)) (.prim .len (.var 0))) (.some (.cmp .ge (.idx (.var 0) (.bin .sub (.var 2) (.lit (.int 1)))) (.idx (.var 0) (.var 2))))) (.lst (.nil)))=.ok (.av (hj ltI c)):=by
 have e3:cJ (elem pg Φ [some (D.tup (c.map .int)),some (D.int m)] (.var 2) 0 (.some (.cmp .ge (.idx (.var 0) (.bin .sub (.var 2) (.lit (.int 1)))) (.idx (.var 0) (.var 2))))) ((List.range (c.length-1)).map λ(k:Nat)=>D.int ((k:Int)+1))
   = .ok ((List.range (c.length-1)).filterMap λk=>if decide (c.getD k 0<c.getD (k+1) 0) then none else some (D.int ((k:Int)+1))):=Jn λk aq=>by
  have aq:=WN.mp aq;have g1:c[k]?=some (c.getD k 0):=by rw[Wr (by omega)];simp[List.getD,Wr (show k<c.length by omega)]
  have g2:c[k+1]?=some (c.getD (k+1) 0):=by rw[Wr (by omega)];simp[List.getD,Wr (show k+1<c.length by omega)]
  have dI:=yg g1;have es:=yg g2;have e5:(k:Int)+1-1=(k:Int):=by omega
  have ia:(k:Int)+1=((k+1:Nat):Int):=by omega
  simp only[Den.aU,Nat.reduceAdd,e5,dI];rw[ia,es];simp only[Den.aU,Nat.reduceAdd]
  by_cases z:c.getD k 0<c.getD (k+1) 0
  .have fx:¬c.getD (k+1) 0<=c.getD k 0:=by omega
   simp only[Den.aU,Nat.reduceAdd,decide_eq_true z,decide_eq_false fx]
  .have fx:c.getD (k+1) 0<=c.getD k 0:=by omega
   simp only[Den.aU,Nat.reduceAdd,decide_eq_false z,decide_eq_true fx]
 have aZ:=kb (i:=1) (j:=((c.length:Nat):Int)) (by omega) (by omega) (by omega) (by omega)
 simp only[Den.aU,Nat.reduceAdd,List.length_map,aZ,Ry,e3,qI (ys:=(List.range (c.length-1)).filterMap λk=>if decide (c.getD k 0<c.getD (k+1) 0) then none else some (D.int ((k:Int)+1))) (by rw[Wt];intro d hd;obtain⟨k,_,aq⟩:=Yj.mp hd;split at aq<;>cases aq;exact rO _ _),wY]
 have e4:((List.range (c.length-1)).all λk=>(if decide (c.getD k 0<c.getD (k+1) 0)=true then(none:Option D) else some (D.int ((k:Int)+1))).isNone)=hj ltI c:=by
  rw[Ad];exact XQ (λp=>List.all (List.range (c.length-1)) p) (funext λk=>by generalize decide (c.getD k 0<c.getD (k+1) 0)=b;cases b<;>rfl)
 rw[e4]
def OR {f : Nat} (hf : ∀ d (lo hi : Int), Φ f [d, .int lo, .int hi] = .ok (.av (gn lo hi d))) (d : D) (m : Int) (hlen : ∀ xs, d = .tup xs -> xs.length <= 1000 /\ xs.all (cD 50) = true) : dc pg Φ ⟨2, 0, bh.vD f⟩ [d, .int m] = .ok (.av (eL m d)) := by
  cases d with
  | tup xs =>
    obtain ⟨hlen, pl⟩ := hlen xs rfl
    simp only [Den.aU, Nat.reduceAdd, bh.vD, Be (Fz pl)]
    cases xs with
    | nil => rfl
    | cons x xs =>
      have e0 : (x :: xs).isEmpty = false := rfl
      have e1 : cJ (elem pg Φ [some (D.tup (x :: xs)), some (D.int m)] (.var 2) 0 (.some (.not (.call f (.cons (.var 2) (.cons (.lit (.int 0)) (.cons (.bin .sub (.var 1) (.lit (.int 1))) .nil))))))) (x :: xs) = .ok ((x :: xs).filterMap fun d => if gn 0 (m - 1) d then none else some d) :=
        qC fun d _ => by
          simp only [Den.aU, Nat.reduceAdd, hf]
          cases gn 0 (m - 1) d <;> simp only [Den.aU, Nat.reduceAdd]
      simp only [Den.aU, Nat.reduceAdd, e0, e1, qI (Fy (Fz pl)), wY]
      have e2 : ((x :: xs).all fun d => (if gn 0 (m - 1) d = true then (none : Option D) else some d).isNone) = (x :: xs).all (gn 0 (m - 1)) := by
        congr 1; funext d; cases gn 0 (m - 1) d <;> rfl
      rw [e2]
      cases q : (x :: xs).all (gn 0 (m - 1))
      · -- one is no V9 number
        simp only [Den.aU, Nat.reduceAdd]
        have : eL m (.tup (x :: xs)) = false := by
          cases cB : eL m (.tup (x :: xs)) with
          | false => rfl
          | true =>
            obtain ⟨c, e, aj⟩ := (yn _ _).mp cB
            unfold aK at e; injection e with e
            rw [e, List.all_map] at q
            have : c.all (gn 0 (m - 1) ∘ D.int) = true := by
              rw [Wt]; intro z hz
              have := aj.2.1 z hz
              simp [gn]; omega
            rw [this] at q; cases q
        rw [this]
      · -- all are
        have dw : (x :: xs).all hA = true := by
          rw [Wt] at q ⊢
          intro z hz
          have := q z hz
          cases z <;> simp [gn, hA] at *
        rcases tu (x :: xs) with ⟨c, e⟩ | h
        · rw [e] at q hlen ⊢
          have Mq : c ≠ [] := by rintro rfl; simp at e
          rw [List.length_map] at hlen
          simp only [Den.aU, Nat.reduceAdd, OP c m hlen]
          have kI : eL m (.tup (c.map .int)) = _ := tv m c
          have nr : decide (IsCell m c) = hj ltI c := by
            rw [Z1, qq hX, decide_eq_true_iff]
            refine ⟨fun h => h.2.2, fun h => ?_⟩
            refine ⟨Mq, fun z hz => ?_, h⟩
            rw [List.all_map, Wt] at q
            have := q z hz
            simp [gn] at this
            omega
          rw [kI, nr]
        · rw [dw] at h; cases h
  | _ => rfl
end eI
end
section
namespace eI
open Den bH ez
variable{pg:cI}{Φ:cV}
def AV{α:Type}{g:D->R (Option D)}{p:α->Option D}{f:α->D}{ar:List α}(h:∀k∈ar,g (f k)=.ok (p k)):cJ g (ar.map f)=.ok (ar.filterMap p):=by
 induction ar with
 |nil=>rfl
 |cons c cs aN =>
  simp only[WA,cJ,h c List.mem_cons_self,R.ip,aN λy aA=>h y (List.mem_cons_of_mem _ aA),List.filterMap_cons]
  cases p c<;>rfl
def wm{α:Type}{g:D->R (Option D)}{q:α->Bool}{h:α->D}{f:α->D}{ar:List α}(e:∀k∈ar,g (f k)=.ok (if q k then some (h k) else none)):cJ g (ar.map f)=.ok ((ar.filter q).map h):=by
 rw[AV e,BG]
def l6{α:Type}{g:D->R (Option D)}{h:α->D}{f:α->D}{ar:List α}(e:∀k∈ar,g (f k)=.ok (some (h k))):cJ g (ar.map f)=.ok (ar.map h):=by
 rw[AV (p:=λk=>some (h k)) e,BI]
def zb(c:List Int):dt (aK c)=.ok (c.map .int):=rfl
def BF{α:Type}(q:α->Bool)(xs:List α):(xs.filter q).isEmpty=xs.all λx=>!q x:=by
 induction xs with
 |nil=>rfl
 |cons x xs aN=>cases h:q x<;>simp[h,aN]
def yB{α β:Type}(f:α->β)(xs:List α):(xs.map f).isEmpty=xs.isEmpty:=by cases xs<;>rfl
def OT(c o:List Int):dc pg Φ ⟨2,0,bh.vF⟩ [aK c,aK o]=.ok (.av (lies c o)):=by
 have e1:cJ (elem pg Φ [some (aK c),some (aK o)] (.var 2) 0 (.some (.cmp .ll (.var 2) (.var 1)))) (c.map .int)=.ok ((c.filter λx=>!decide (x∈o)).map .int):=wm λx _=>by
  simp only[Den.aU,Nat.reduceAdd];unfold aK;simp only[Den.aU,Nat.reduceAdd,DL];cases decide (x∈o)<;>simp only[Den.aU,Nat.reduceAdd]
 simp only[Den.aU,Nat.reduceAdd,bh.vF,zb,e1,qI (ys:=(c.filter λx=>!decide (x∈o)).map .int) (by simp[List.all_map,rO]),yB,BF,lies,Bool.not_not]
noncomputable def lg(cs:List (List Int)):List (List Int):=(cp lexLt (cv cs)).filter λc=>cs.all λo=>!(!decide (c=o)&&lies c o)
def Dl {f : Nat} (hf : ∀ c o : List Int, Φ f [aK c, aK o] = .ok (.av (lies c o))) {d : D} {cs : List (List Int)} (hd : dt d = .ok (cs.map aK)) (aw : ∀ c ∈ cs, c ≠ []) (hr : (cv cs).length <= 75) :
    dc pg Φ ⟨1, 2, bh.vM f⟩ [d] = .ok (.tup ((lg cs).map aK)) := by
  simp only [Den.aU, Nat.reduceAdd, bh.vM, hd, FP aw hr]
  have hlen : (cp lexLt (cv cs)).length <= 75 := by rw [pz]; exact hr
  unfold lg
  generalize cp lexLt (cv cs) = ds at *
  obtain ⟨c7, e, x, he⟩ := mc (f := aK) (g := turn pg Φ 0 [2] (.cons (.iff (.cmp .eq (.comp (.var 3) 0 (.seq (.var 0)) (.some (.and (.cmp .ne (.var 2) (.var 3)) (.call f (.cons (.var 2) (.cons (.var 3) (.nil))))))) (.lst (.nil))) (.cons (.app 1 (.var 2)) (.nil)) (.nil)) (.nil)))
    (fun br J => ∃ (x : Option D), J = [some d, some (.lst ((br.filter fun c => cs.all fun o => !(!decide (c = o) && lies c o)).map aK)), x])
    ds [some d, some (.lst []), none] ⟨none, rfl⟩ (fun pre c post J ax ⟨x, dw⟩ => by
      subst dw
      have e1 : ∀ z, cJ (elem pg Φ [some d, z, some (aK c)] (.var 3) 0 (.some (.and (.cmp .ne (.var 2) (.var 3)) (.call f (.cons (.var 2) (.cons (.var 3) (.nil))))))) (cs.map aK) = .ok ((cs.filter fun o => !decide (c = o) && lies c o).map aK) := fun z => wm fun o _ => by
        simp only [Den.aU, Nat.reduceAdd, Kr, hf]
        cases decide (c = o) <;> simp only [Den.aU, Nat.reduceAdd, hf, W0, Bool.true_and]
        cases lies c o <;> simp only [Den.aU, Nat.reduceAdd]
      have au : ((pre.filter fun c => cs.all fun o => !(!decide (c = o) && lies c o)).map aK).length < SZ := by
        have aa := X5 (fun c => cs.all fun o => !(!decide (c = o) && lies c o)) pre
        have h2 : pre.length <= ds.length := by rw [ax]; simp
        rw [List.length_map, fF]; omega
      simp only [Den.aU, Nat.reduceAdd, hd, e1, qI (Fx 58 _), yB, BF]
      cases q : (cs.all fun o => !(!decide (c = o) && lies c o))
      · refine ⟨_, by simp only [Den.aU, Nat.reduceAdd]; rfl, some (aK c), ?_⟩
        rw [By pre (by rw [q])]
      · refine ⟨_, by simp only [Den.aU, Nat.reduceAdd, qr, if_pos au]; rfl, some (aK c), ?_⟩
        rw [Bz pre (by rw [q]), List.map_append]; rfl)
  rw [e, he]
  simp only [Den.aU, Nat.reduceAdd]
def H0{c o:List Int}(aj:fh ltI c)(ay:fh ltI o)(h:∀x∈c,x∈o)(ne:c≠o):c.length<o.length:=by
 have aa:c.length<=o.length:=nZ (aj.nodup hX) h;rcases Nat.lt_or_ge c.length o.length with q|q
 .exact q
 .exfalso;apply ne;refine oN hX aj ay λz=>⟨h z,λhz=>?_⟩
  by_cases CU:z∈c
  .exact CU
  .exfalso;have:(z::c).length<=o.length:=nZ (Xp.mpr ⟨CU,aj.nodup hX⟩) λw hw=>by
    rcases Wo.mp hw with rfl|hw
    .exact hz
    .exact h w hw
   simp at this;omega
def DC {cs : List (List Int)} (h : ∀ c ∈ cs, fh ltI c) : lg cs = eP cs := by
  unfold lg eP
  apply List.filter_congr
  intro c aj
  have hm : ∀ z, z ∈ cp lexLt (cv cs) <-> z ∈ cs := fun z => by rw [mw, j4]
  have aj := (hm c).mp aj
  rw [Z1]
  simp only [Wt, Xd, Bool.and_eq_false_iff, Bool.not_eq_false', WH, ZG, YI, hm]
  constructor
  · intro q o ⟨ay, au⟩
    rcases q o ay with rfl | q
    · omega
    · rw [q]; exact W5
  · intro q o ay
    by_cases e : c = o
    · exact .inl e
    · refine .inr ?_
      cases z : lies c o with
      | false => rfl
      | true => exact absurd z (q o ⟨ay, H0 (h c aj) (h o ay) (yx.mp z) e⟩)
end eI
end
section
namespace eI
open Den bH ez
variable{pg:cI}{Φ:cV}
noncomputable def cK(w:Nat):Nat->D->Bool
 |_,.cM=>true
 |_,.av _=>true
 |_,.int _=>true
 |_,.str x=>x.cps.all (· < 0x110000)
 |n+1,.tup xs=>decide (xs.length<=w)&&xs.all (cK w n)
 |n+1,.lst xs=>decide (xs.length<=w)&&xs.all (cK w n)
 |_,_=>false
def xd{w n:Nat}{xs:List D}(h:(decide (xs.length<=w)&&xs.all (cK w n))=true):xs.length<=w/\xs.all (cK w n)=true:=let ⟨a,b⟩:=Ze.mp h;⟨Yg a,b⟩
mutual
theorem LQ {w:Nat}:∀(n:Nat)(d:D),cK w n d=true->cD n d=true
 |n,.cM,_=>by cases n<;>rfl
 |n,.av _,_=>by cases n<;>rfl
 |n,.int _,_=>by cases n<;>rfl
 |0,.str _,h=>h
 |n+1,.str _,h=>h
 |0,.tup _,h=>by cases h
 |n+1,.tup xs,h=>qM n xs (Ze.mp (show(decide _&&xs.all (cK w n))=true from h)).2
 |0,.lst _,h=>by cases h
 |n+1,.lst xs,h=>qM n xs (Ze.mp (show(decide _&&xs.all (cK w n))=true from h)).2
 |0,.eV _,h=>by cases h
 |n+1,.eV _,h=>by cases h
theorem qM {w:Nat}:∀(n:Nat)(xs:List D),xs.all (cK w n)=true->xs.all (cD n)=true
 |_,[],_=>rfl
 |n,x::xs,h=>by
  simp only[List.all_cons,Wi]at h ⊢;exact⟨LQ n x h.1,qM n xs h.2⟩
end
def SU{n k:Nat}(h:n<=k){d:D}(hd:cD n d=true):cD k d=true:=by
 induction h with
 |refl=>exact hd
 |step _ aN=>exact FA _ _ aN
def FC{n k:Nat}(h:n<=k){xs:List D}(hd:xs.all (cD n)=true):xs.all (cD k)=true:=by
 rw[Wt]at hd ⊢;exact λd af=>SU h (hd d af)
mutual
theorem xe {w eF:Nat} (hw:w<=eF):∀(n:Nat)(d:D),cK w n d=true->cK eF (n+1) d=true
 |n,.cM,_=>rfl
 |n,.av _,_=>rfl
 |n,.int _,_=>rfl
 |0,.str _,h=>h
 |n+1,.str _,h=>h
 |0,.tup _,h=>by cases h
 |n+1,.tup xs,h=>by
  have h:=xd (show(decide (xs.length<=w)&&xs.all (cK w n))=true from h);show(decide (xs.length<=eF)&&xs.all (cK eF (n+1)))=true;rw[xf hw n xs h.2,ZN];exact decide_eq_true (by omega)
 |0,.lst _,h=>by cases h
 |n+1,.lst xs,h=>by
  have h:=xd (show(decide (xs.length<=w)&&xs.all (cK w n))=true from h);show(decide (xs.length<=eF)&&xs.all (cK eF (n+1)))=true;rw[xf hw n xs h.2,ZN];exact decide_eq_true (by omega)
 |0,.eV _,h=>by cases h
 |n+1,.eV _,h=>by cases h
theorem xf {w eF:Nat} (hw:w<=eF):∀(n:Nat)(xs:List D),xs.all (cK w n)=true->xs.all (cK eF (n+1))=true
 |_,[],_=>rfl
 |n,x::xs,h=>by
  simp only[List.all_cons,Wi]at h ⊢;exact⟨xe hw n x h.1,xf hw n xs h.2⟩
end
def kQ{w eF n k:Nat}(hw:w<=eF)(h:n<k){d:D}(hd:cK w n d=true):cK eF k d=true:=by
 induction h with
 |refl=>exact xe hw _ _ hd
 |step _ aN=>exact xe (Wm _) _ _ aN
def qL{w n:Nat}{xs:List D}(h:cK w (n+1) (.tup xs)=true):xs.length<=w/\xs.all (cK w n)=true:=by
 exact xd h
def LO{w n:Nat}(aw:n<=50){d:D}(h:cK w n d=true)(hw:w<=150:=by omega):∀xs,d=.tup xs->xs.length<=1000/\xs.all (cD 50)=true:=by
 intro xs e;subst e;cases n with
 |zero=>cases h
 |succ n =>
  obtain⟨a,b⟩:=qL h;exact⟨by omega,FC (by omega) (qM n xs b)⟩
def Ju {m : Int} {ts : List (List Int)} (h0 : 0 <= m) (h : ∀ c ∈ ts, IsCell m c) : decide (cp ltI (cv ts.flatten) = bN m) = eA m ts := by
  have HY : fh ltI (bN m) := by
    unfold bN fh
    rw [Ya]
    exact ZJ (fun {a b} (q : a < b) => by simp [ltI]; omega) YT
  rw [Z1, WH, wo]
  have hm : ∀ z, z ∈ cp ltI (cv ts.flatten) <-> ∃ t ∈ ts, z ∈ t := fun z => by rw [mw, j4, List.mem_flatten]
  constructor
  · intro e x a b
    have : x ∈ bN m := mv.mpr ⟨a, b⟩
    rw [<- e] at this
    exact (hm x).mp this
  · intro q
    refine oN hX (oO hX (nY _)) HY fun z => ?_
    rw [hm, mv]
    constructor
    · rintro ⟨t, aW, hz⟩
      exact (h t aW).2.1 z hz
    · rintro ⟨a, b⟩
      exact q z a b
def lV{m:Int}{c:List Int}(h:IsCell m c):c.length<=m.toNat:=by
 have:c.length<=(bN m).length:=nZ (h.2.2.nodup hX) λz hz=>mv.mpr (h.2.1 z hz)
 simpa[bN] using this
theorem BD{k:Nat}:∀{ts:List (List Int)},(∀c∈ts,c.length<=k)->ts.flatten.length<=ts.length*k
 |[],_=>by simp
 |t::ts,h=>by
  have:=BD (ts:=ts) λc aj=>h c (List.mem_cons_of_mem _ aj)
  have aa:=h t List.mem_cons_self;simp only[List.flatten_cons,Wu,List.length_cons,Zo];omega
def Jq {t0 : D} (ts : List (List Int)) (h : ts.flatten.length <= SZ) : ∃ x, forL (turn pg Φ 0 [2] (.cons (.asg 1 (.bin .add (.var 1) (.iO (.seq (.var 2))))) (.nil))) (ts.map aK) [some t0, some (.lst []), none] = .ok (.b6 [some t0, some (.lst (ts.flatten.map .int)), x]) := by
  obtain ⟨c7, e, x, he⟩ := mc (f := aK) (g := turn pg Φ 0 [2] (.cons (.asg 1 (.bin .add (.var 1) (.iO (.seq (.var 2))))) (.nil)))
    (fun br J => ∃ (x : Option D), J = [some t0, some (.lst (br.flatten.map .int)), x])
    ts [some t0, some (.lst []), none] ⟨none, rfl⟩ (fun pre c post J ax ⟨x, dw⟩ => by
      subst dw
      have au : (pre.flatten.map D.int).length + (c.map D.int).length <= SZ := by
        rw [ax] at h
        simp only [List.flatten_append, List.flatten_cons, Wu] at h
        rw [List.length_map, List.length_map]; omega
      refine ⟨_, by simp only [Den.aU, Nat.reduceAdd, zb, oM, if_pos au]; rfl, some (aK c), ?_⟩
      simp [List.flatten_append])
  exact ⟨x, by rw [e, he]⟩
def rd{m:Int}(h:m<=8):(bN m).length<=8:=by unfold bN;simp;omega
def OS {ho cX fn w : Nat} (aw : ∀ d (lo hi : Int), Φ fn [d, .int lo, .int hi] = .ok (.av (gn lo hi d))) (aj : ∀ d (m : Int), cK w 50 d = true -> Φ cX [d, .int m] = .ok (.av (eL m d)))
    (au : ∀ ts : List (List Int), (∀ c ∈ ts, c ≠ []) -> (cv ts).length <= 75 -> Φ ho [.tup (ts.map aK)] = .ok (.tup ((lg ts).map aK))) (d : D) (aT : cK w 50 d = true) (hw : w <= 150) (MD : hn d) : dc pg Φ ⟨1, 2, bh.vE ho cX fn⟩ [d] = .ok (.av (dA d)) := by
  cases d with
  | tup xs =>
    simp only [Den.aU, Nat.reduceAdd, bh.vE]
    match xs, aT with
    | [], _ => rfl
    | [x], _ =>
      rw [tx (by simp)]
      rfl
    | x :: y :: z :: r, _ =>
      have h0 : (((((x :: y :: z :: r)).length : Nat) : Int) == 2) = false := by simp only [List.length_cons]; rw [XZ]; omega
      rw [h0, tx (by simp)]; rfl
    | [x, t], aT =>
      have h0 : (((([x, t]).length : Nat) : Int) == 2) = true := rfl
      have kP : eX [x, t] 0 = some x := rfl
      have g1 : eX [x, t] 1 = some t := rfl
      obtain ⟨_, iK⟩ := qL aT
      simp only [List.all_cons, Wi] at iK
      have MF := iK.2.1
      rw [h0]
      simp only [Den.aU, Nat.reduceAdd, js, kP, g1, aw]
      cases x with
      | int m =>
        by_cases aD : 1 <= m
        · by_cases aO : m <= 8
          · simp only [Den.aU, Nat.reduceAdd, gn, decide_eq_true aD, decide_eq_true aO, Bool.true_and]
            cases t with
            | tup ys =>
              obtain ⟨aA, mh⟩ := qL MF
              have e1 : cJ (elem pg Φ [some (.tup [.int m, .tup ys]), none, none] (.var 3) 0 (.some (.not (.call cX (.cons (.var 3) (.cons (.idx (.var 0) (.lit (.int 0))) (.nil))))))) ys = .ok (ys.filterMap fun d => if eL m d then none else some d) :=
                qC fun d hd => by
                  have Mu : cK w 50 d = true := kQ (Wm _) (by omega) (Wt.mp mh d hd)
                  simp only [Den.aU, Nat.reduceAdd, js, kP, aj d m Mu]
                  cases eL m d <;> simp only [Den.aU, Nat.reduceAdd]
              have pl : ys.all (cD 59) = true := FC (by omega) (qM 48 ys mh)
              simp only [Den.aU, Nat.reduceAdd, js, g1, e1, qI (Fy pl), wY]
              have e2 : (ys.all fun d => (if eL m d = true then (none : Option D) else some d).isNone) = ys.all (eL m) := by
                congr 1; funext d; cases eL m d <;> rfl
              rw [e2]
              have e3 : kB m (.tup ys) = ys.all (eL m) := rfl
              cases bE : ys.all (eL m)
              · have : dA (.tup [.int m, .tup ys]) = false := by simp only [dA, e3, bE, Xc, W0]
                rw [this]
                simp only [Den.aU, Nat.reduceAdd]
              · obtain ⟨ts, e4, kZ⟩ := (sm m (.tup ys)).mp (by rw [e3]; exact bE)
                injection e4 with e4
                subst e4
                rw [List.length_map] at aA
                have Ml : ∀ c ∈ ts, fh ltI c := fun c aj => (kZ c aj).2.2
                have e5 := au ts (fun c h => (kZ c h).1) (MD m ts rfl kZ)
                rw [DC Ml] at e5
                have ia : dA (.tup [.int m, .tup (ts.map aK)]) = _ := yq m ts kZ
                rw [ia]
                simp only [Den.aU, Nat.reduceAdd, js, g1, e5, Bd]
                by_cases cb : ts = eP ts
                · have VB : ts.flatten.length <= 1200 := by
                    have := BD (k := 8) (ts := ts) fun c aj => by have := lV (kZ c aj); omega
                    omega
                  obtain ⟨x, kI⟩ := Jq (pg := pg) (Φ := Φ) (t0 := .tup [.int m, .tup (ts.map aK)]) ts (by rw [fF]; omega)
                  have Mr : (cv ts.flatten).length <= 75 := by
                    have : (cv ts.flatten).length <= (bN m).length := nZ (nY _) fun z hz => by
                      rw [j4, List.mem_flatten] at hz
                      obtain ⟨t, aW, hz⟩ := hz
                      exact mv.mpr ((kZ t aW).2.1 z hz)
                    have := rd aO
                    omega
                  simp only [Den.aU, Nat.reduceAdd, decide_eq_true cb, js, kP, g1, kI, Th Mr, kb (i := 0) (j := m) (by omega) (by omega) (by omega) (by omega), lu, Kt, decide_eq_true aD, decide_eq_true aO, Bool.true_and]
                  rw [Ju (by omega) kZ]
                · simp only [Den.aU, Nat.reduceAdd, decide_eq_false cb, Xc, W0]
            | _ =>
              have nr : ∀ t, (∀ ys, t ≠ .tup ys) -> dA (.tup [.int m, t]) = false := fun t aW => by
                cases q : dA (.tup [.int m, t]) with
                | false => rfl
                | true =>
                  obtain ⟨cN, ts, e, _⟩ := (tw _).mp q
                  unfold d4 at e
                  injection e with e
                  simp only [Z2] at e
                  exact absurd e.2.1 (aW _)
              rw [nr _ (by intro _ z; cases z)]
              rfl
          · simp only [Den.aU, Nat.reduceAdd, gn, decide_eq_false aO, Xc]
            have : dA (.tup [.int m, t]) = false := by simp only [dA, decide_eq_false aO, Xc, W0]
            rw [this]
        · simp only [Den.aU, Nat.reduceAdd, gn, decide_eq_false aD, W0]
          have : dA (.tup [.int m, t]) = false := by simp only [dA, decide_eq_false aD, Xc, W0]
          rw [this]
      | _ => rfl
  | _ => rfl
end eI
end
section
namespace eI
open Den bH ez
variable{pg:cI}{Φ:cV}
noncomputable def da:Nat->List Int->List (List Int)
 |0,_=>[[]]
 |_+1,[]=>[]
 |s+1,x::r=>(da s r).map (x::·)++da (s+1) r
theorem yz:∀(s:Nat)(c z:List Int),z∈da s c<->z.length=s/\z.Sublist c
 |0,c,z=>by
  simp only[da,Xo,List.length_eq_zero_iff];exact⟨λh=>⟨h,by subst h;exact List.nil_sublist _⟩,λh=>h.1⟩
 |s+1,[],z=>by
  simp only[da,XT,List.sublist_nil,false_iff];rintro⟨aa,h2⟩;subst h2;simp at aa
 |s+1,x::r,z=>by
  simp only[da,WT,Xw,yz s r,yz (s+1) r,List.sublist_cons_iff];constructor
  .rintro(⟨y,⟨aa,h2⟩,rfl⟩|⟨aa,h2⟩)
   .exact⟨by simp[aa],.inr ⟨y,rfl,h2⟩⟩
   .exact⟨aa,.inl h2⟩
  .rintro⟨aa,h2|⟨y,rfl,h2⟩⟩
   .exact .inr ⟨aa,h2⟩
   .exact .inl ⟨y,⟨by simpa using aa,h2⟩,rfl⟩
theorem tE:∀(s:Nat)(c:List Int),(da s c).length<=2 ^ c.length
 |0,c=>by simp only[da,List.length_singleton];exact Nat.one_le_two_pow
 |s+1,[]=>by simp[da]
 |s+1,x::r=>by
  have aa:=tE s r;have h2:=tE (s+1) r;simp only[da,Wu,List.length_map,List.length_cons,Nat.pow_succ];omega
noncomputable def bS:Nat->Nat->Nat
 |0,_=>1
 |_+1,0=>0
 |s+1,n+1=>bS s n+bS (s+1) n
theorem yY:∀(s:Nat)(c:List Int),(da s c).length=bS s c.length
 |0,c=>by simp[da,bS]
 |s+1,[]=>by simp[da,bS]
 |s+1,x::r=>by simp only[da,Wu,List.length_map,List.length_cons,bS,yY s r,yY (s+1) r]
theorem yV:∀{s n:Nat},n<s->bS s n=0
 |0,_,h=>by omega
 |s+1,0,_=>rfl
 |s+1,n+1,h=>by simp only[bS,yV (s:=s) (n:=n) (by omega),yV (s:=s+1) (n:=n) (by omega)]
theorem EF:∀(s:Nat)(c:List Int),da (s+1) c=(List.range c.length).flatMap λk=>(da s (c.drop (k+1))).map (c.getD k 0::·)
 |s,[]=>rfl
 |s,x::r=>by
  rw[List.length_cons,YY,List.flatMap_cons,List.flatMap_map];show _=(da s r).map (x::·)++(List.range r.length).flatMap λk=>(da s (r.drop (k+1))).map (r.getD k 0::·)
  rw[<- EF s r];rfl
def NU{c:List Int}{k:Nat}(h:k<c.length):gE (.tup (c.map .int)) (.int (k:Int))=.ok (.int (c.getD k 0)):=yg (by rw[Wr h];simp[List.getD,Wr h])
def Rx(n:Nat):ed 0 (n:Int)=(List.range n).map λ(k:Nat)=>D.int (k:Int):=by
 unfold ed;have:((n:Int)-0).toNat=n:=by omega
 rw[this];apply XM;intro k _;congr 1;omega
theorem wV{α β:Type}{f:α->List β}{k:Nat}:∀{xs:List α},(∀x∈xs,(f x).length<=k)->(xs.flatMap f).length<=xs.length*k
 |[],_=>by simp
 |x::xs,h=>by
  have:=wV (f:=f) (xs:=xs) λc aj=>h c (List.mem_cons_of_mem _ aj)
  have aa:=h x List.mem_cons_self;simp only[List.flatMap_cons,Wu,List.length_cons,Zo];omega
def Qu{f:Nat}(c:List Int):dc pg Φ ⟨2,2,bh.oQ f⟩ [aK c,.int 0]=.ok (.lst ((da 0 c).map aK)):=by
 have e:fk (.int 0) (.int 0)=.ok true:=rfl;simp only[Den.aU,Nat.reduceAdd,bh.oQ,e,da];rfl
def Qv{f:Nat}{c:List Int}{s:Nat}(aj:c.length<=8)(hf:∀cQ:List Int,cQ.length<=8->Φ f [aK cQ,.int (s:Int)]=.ok (.lst ((da s cQ).map aK))):dc pg Φ ⟨2,2,bh.oQ f⟩ [aK c,.int ((s:Int)+1)]=.ok (.lst ((da (s+1) c).map aK)):=by
 have h0:((s:Int)+1==0)=false:=by rw[XZ];omega
 have aa:lb (aK c)=.ok (.int (c.length:Int)):=by unfold aK;rw[Dq,List.length_map]
 simp only[Den.aU,Nat.reduceAdd,bh.oQ,h0,aa,kb (i:=0) (j:=(c.length:Int)) (by omega) (by omega) (by omega) (by omega),Rx]
 have vY:∀ar:List Nat,ar.length<=8->(ar.flatMap λk=>(da s (c.drop (k+1))).map (c.getD k 0::·)).length<=2048:=λar aq=>by
  have:=wV (f:=λk=>(da s (c.drop (k+1))).map (c.getD k 0::·)) (k:=256) (xs:=ar) λk _=>by
   have h2:=tE s (c.drop (k+1));have h3:(c.drop (k+1)).length<=8:=by rw[W3];omega
   have h4:2 ^ (c.drop (k+1)).length<=2 ^ 8:=Za (by decide) h3
   rw[List.length_map];omega
  omega
 obtain⟨c7,e,x,he⟩:=mc (f:=λk:Nat=>D.int (k:Int)) (g:=turn pg Φ 0 [3] (.cons (.asg 2 (.bin .add (.var 2) (.comp (.bin .add (.tup (.cons (.idx (.var 0) (.var 3)) (.nil))) (.var 4)) 0 (.seq (.call f (.cons (.slice (.var 0) (.some (.bin .add (.var 3) (.lit (.int 1)))) (.none)) (.cons (.bin .sub (.var 1) (.lit (.int 1))) (.nil))))) (.none)))) (.nil)))
  (λbr J=>∃(x:Option D),J=[some (aK c),some (.int ((s:Int)+1)),some (.lst ((br.flatMap λk=>(da s (c.drop (k+1))).map (c.getD k 0::·)).map aK)),x])
  (List.range c.length) [some (aK c),some (.int ((s:Int)+1)),some (.lst []),none] ⟨none,rfl⟩ (λpre k post J ax ⟨x,dw⟩=>by
   subst dw;have aq:k<c.length:=by
    have:k∈List.range c.length:=by rw[ax];simp
    exact WN.mp this
   have ej:pre.length+1<=c.length:=by
    have:(List.range c.length).length=(pre++k::post).length:=by rw[ax]
    simp at this;omega
   have ag:lz (aK c) (some ((k:Int)+1)) none=.ok (aK (c.drop (k+1))):=by
    unfold aK;rw[ur];have:((k:Int)+1)=((k+1:Nat):Int):=by omega
    rw[this,wq,List.map_drop]
   have jo:(s:Int)+1-1=(s:Int):=by omega
   have hd:(c.drop (k+1)).length<=8:=by rw[W3];omega
   have e1:∀a b,cJ (elem pg Φ [some (aK c),a,b,some (D.int (k:Int))] (.bin .add (.tup (.cons (.idx (.var 0) (.var 3)) (.nil))) (.var 4)) 0 .none) ((da s (c.drop (k+1))).map aK)=.ok ((da s (c.drop (k+1))).map λz=>aK (c.getD k 0::z)):=λa b=>l6 λz hz=>by
    have hz:=(yz _ _ _).mp hz;have VU:=hz.2.length_le;have dI:=NU aq;have au:[D.int (c.getD k 0)].length+(z.map D.int).length<=SZ:=by rw[List.length_map,fF];simp only[List.length_singleton];omega
    simp only[Den.aU,Nat.reduceAdd];unfold aK;simp only[Den.aU,Nat.reduceAdd,dI,qo];rw[if_pos (by simpa using au)]
    rfl
   have hlen:((pre.flatMap λk=>(da s (c.drop (k+1))).map (c.getD k 0::·)).map aK).length+((da s (c.drop (k+1))).map λz=>aK (c.getD k 0::z)).length<=SZ:=by
    have aa:=vY pre (by omega)
    have h2:=tE s (c.drop (k+1));have h4:2 ^ (c.drop (k+1)).length<=2 ^ 8:=Za (by decide) hd
    rw[List.length_map,List.length_map,fF];omega
   refine⟨_,by simp only[Den.aU,Nat.reduceAdd,ag,jo,hf _ hd,e1,oM,if_pos hlen];rfl,some (.int (k:Int)),?_⟩
   simp[Zl])
 rw[e,he,<- EF];simp only[Den.aU,Nat.reduceAdd]
theorem Ek{fds:List fz}{f:Nat}(hf:fds[f]?=some ⟨2,2,bh.oQ f⟩):∀(s n:Nat)(c:List Int),s<n->c.length<=8->run pg fds n f [aK c,.int (s:Int)]=.ok (.lst ((da s c).map aK))
 |0,0,c,h,_=>by omega
 |s+1,0,c,h,_=>by omega
 |0,n+1,c,_,_=>by rw[ob,hf];exact Qu c
 |s+1,n+1,c,h,aj=>by
  rw[ob,hf];have:((s+1:Nat):Int)=(s:Int)+1:=by omega
  rw[this];exact Qv aj λcQ c8=>Ek hf s n cQ (by omega) c8
end eI
end
section
namespace eI
open Den bH ez
variable{pg:cI}{Φ:cV}
def HZ(m:Int):fh ltI (bN m):=by
 unfold bN fh;rw[Ya];exact ZJ (λ{a b}(q:a<b)=>by simp[ltI];omega) YT
noncomputable def uF:D->Int
 |.int i=>i
 |_=>0
noncomputable def rV:D->List Int
 |.tup ys=>ys.map uF
 |_=>[]
def Gq(c:List Int):rV (aK c)=c:=by
 show(c.map D.int).map uF=c;rw[List.map_map];exact(XM (λx _=>rfl)).trans (List.map_id c)
def UI(cs:List (List Int)):(cs.map aK).map rV=cs:=by
 rw[List.map_map];exact(XM (λx _=>Gq x)).trans (List.map_id cs)
end eI
end
section
namespace eI
open Den bH ez
variable{pg:cI}{Φ:cV}
def mx(i j:Int)(h:(-gv<i/\i<gv)\/(-gv<j/\j<gv)):eK .mul (.int i) (.int j)=.ok (.int (i*j)):=by rw[mul_int,if_pos h]
def ec(i j:Int)(h:0<j):eK .mod (.int i) (.int j)=.ok (.int (i%j)):=by rw[mod_int,if_pos h]
def hL(i j:Int)(h:0<j)(h':j<1073741824):eK .fdiv (.int i) (.int j)=.ok (.int (i / j)):=by rw[Bv,if_pos ⟨h,h'⟩]
def lG:gv=18446744073709551616:=rfl
noncomputable def m6:Int:=2147483629
def zZ:m6=2147483629:=rfl
def g0(a:Int){b:Int}(h:0<b):0<=a%b/\a%b<b:=⟨Int.emod_nonneg a (by omega),Int.emod_lt_of_pos a h⟩
def J5(i k:Int):∃r:Int,0<=r/\r<m6/\dc pg Φ ⟨2,1,bh.vC⟩ [.int i,.int k]=.ok (.int r):=by
 have cf:=g0 ((i+104729*k+17)*69621) (b:=2147483647) (by decide)
 refine⟨((i+104729*k+17)*69621%2147483647*((i+104729*k+17)*69621%2147483647)+3*((i+104729*k+17)*69621%2147483647)+k)%2147483629,?_,?_,by
  simp only[Den.aU,Nat.reduceAdd,bh.vC,mx 104729 k (.inl (by rw[lG];omega)),mx _ 69621 (.inr (by rw[lG];omega)),ec _ 2147483647 (by decide),ec _ 2147483629 (by decide),
   mx ((i+104729*k+17)*69621%2147483647) ((i+104729*k+17)*69621%2147483647) (.inl (by rw[lG];omega)),mx 3 ((i+104729*k+17)*69621%2147483647) (.inl (by rw[lG];omega))]⟩
 .exact(g0 _ (by decide)).1
 .rw[zZ];exact(g0 _ (by decide)).2
def IT(is:List Int)(k:Nat):dc pg Φ ⟨2,0,bh.vB⟩ [.lst (is.map .int),.int (k:Int)]=.ok (.int (is.getD k 0)):=by
 simp only[Den.aU,Nat.reduceAdd,bh.vB,List.length_map]
 by_cases h:k<is.length
 .have h':(k:Int)<(is.length:Int):=by omega
  have e:gE (.lst (is.map D.int)) (.int (k:Int))=.ok (.int (is.getD k 0)):=by
   rw[yh,sU,WJ,Wr h];simp[List.getD,Wr h]
  simp only[Den.aU,Nat.reduceAdd,decide_eq_true h',e]
 .have h':¬(k:Int)<(is.length:Int):=by omega
  have e:is.getD k 0=0:=by simp[List.getD,WV (Nat.le_of_not_lt h)]
  simp only[Den.aU,Nat.reduceAdd,decide_eq_false h',e]
def Pp{f:Nat}{is:List Int}(hf:∀k:Nat,Φ f [.lst (is.map .int),.int (k:Int)]=.ok (.int (is.getD k 0)))(k:Nat):∃r:Int,0<=r/\r<m6/\dc pg Φ ⟨2,1,bh.vG f⟩ [.lst (is.map .int),.int (k:Int)]=.ok (.int r):=by
 have cf:=g0 ((is.getD k 0+7919*(k:Int)+1)*48271) (b:=2147483647) (by decide)
 refine⟨((is.getD k 0+7919*(k:Int)+1)*48271%2147483647*((is.getD k 0+7919*(k:Int)+1)*48271%2147483647)+7*((is.getD k 0+7919*(k:Int)+1)*48271%2147483647)+(k:Int))%2147483629,?_,?_,by
  simp only[Den.aU,Nat.reduceAdd,bh.vG,hf,mx 7919 (k:Int) (.inl (by rw[lG];omega)),mx _ 48271 (.inr (by rw[lG];omega)),ec _ 2147483647 (by decide),ec _ 2147483629 (by decide),
   mx ((is.getD k 0+7919*(k:Int)+1)*48271%2147483647) ((is.getD k 0+7919*(k:Int)+1)*48271%2147483647) (.inl (by rw[lG];omega)),mx 7 ((is.getD k 0+7919*(k:Int)+1)*48271%2147483647) (.inl (by rw[lG];omega))]⟩
 .exact(g0 _ (by decide)).1
 .rw[zZ];exact(g0 _ (by decide)).2
def S9 {f : Nat} (hf : ∀ i k : Int, ∃ r : Int, 0 <= r /\ r < m6 /\ Φ f [.int i, .int k] = .ok (.int r)) (i m : Int) (aa : 1 <= m) (ea : m <= 8) :
    ∃ cs : List (List Int), dc pg Φ ⟨2, 4, bh.vL f⟩ [.int i, .int m] = .ok (.lst (cs.map aK)) /\ (∀ c ∈ cs, IsCell m c) /\ eA m cs = true /\ cs.length <= 16 := by
  have aZ := kb (i := 0) (j := m) (by omega) (by omega) (by omega) (by omega)
  have H8 := g0 i (b := 9) (by decide)
  have Nl := kb (i := 0) (j := i % 9) (by omega) (by omega) (by omega) (by omega)
  have A6 : ed 0 (i % 9) = (bN (i % 9)).map .int := lu _
  have e0 : cJ (elem pg Φ [some (.int i), some (.int m), none, none, none, none] (.tup (.cons (.var 6) (.nil))) 0 .none) ((bN m).map .int) = .ok ((bN m).map fun k => aK [k]) := l6 fun k _ => by
    simp only [Den.aU, Nat.reduceAdd]; rfl
  simp only [Den.aU, Nat.reduceAdd, bh.vL, aZ, lu, e0, ec i 9 (by decide), Nl]
  have h0 : ∀ k ∈ bN m, IsCell m [k] := fun k aq => ⟨by simp, by simpa using mv.mp aq, XX _ _⟩
  obtain ⟨c7, e, cs, x, y, z, he, aj, au⟩ := mc (f := D.int) (g := turn pg Φ 0 [3] (.cons (.asg 4 (.call f (.cons (.var 0) (.cons (.var 3) (.nil))))) (.cons (.asg 5 (.tupI (.seq (.comp (.var 6) 0 (.eD (.var 1)) (.some (.cmp .lt (.bin .mod (.call f (.cons (.var 4) (.cons (.var 6) (.nil)))) (.lit (.int 5))) (.bin .add (.lit (.int 2)) (.bin .mod (.var 4) (.lit (.int 2)))))))))) (.cons (.iff (.cmp .ne (.var 5) (.tup (.nil))) (.cons (.app 2 (.var 5)) (.nil)) (.nil)) (.nil)))))
    (fun br J => ∃ (cs : List (List Int)) (x y z : Option D), J = [some (.int i), some (.int m), some (.lst (((bN m).map fun k => [k]).map aK ++ cs.map aK)), x, y, z] /\ (∀ c ∈ cs, IsCell m c) /\ cs.length <= br.length)
    (bN (i % 9)) [some (.int i), some (.int m), some (.lst ((bN m).map fun k => aK [k])), none, none, none] ⟨[], none, none, none, by simp [Function.comp_def], by simp, by simp⟩ (fun pre k post J ax ⟨cs, x, y, z, dw, aj, au⟩ => by
      subst dw
      obtain ⟨r, aE, aX, Nk⟩ := hf i k
      have ex : ∃ q : Int -> Bool, ∀ x y z, cJ (elem pg Φ [some (.int i), some (.int m), x, y, some (.int r), z] (.var 6) 0 (.some (.cmp .lt (.bin .mod (.call f (.cons (.var 4) (.cons (.var 6) (.nil)))) (.lit (.int 5))) (.bin .add (.lit (.int 2)) (.bin .mod (.var 4) (.lit (.int 2))))))) ((bN m).map .int) = .ok (((bN m).filter q).map .int) := by
        obtain ⟨g, aT⟩ : ∃ g : Int -> Int, ∀ k, Φ f [.int r, .int k] = .ok (.int (g k)) := ⟨fun k => Classical.choose (hf r k), fun k => (Classical.choose_spec (hf r k)).2.2⟩
        refine ⟨fun k => decide (g k % 5 < 2 + r % 2), fun x y z => wm fun k _ => ?_⟩
        have ag := aT k
        simp only [Den.aU, Nat.reduceAdd, ag, ec _ 5 (by decide), ec _ 2 (by decide)]
        split <;> rfl
      obtain ⟨q, aF⟩ := ex
      have jo : ((bN m).filter q).Sublist (bN m) := List.filter_sublist
      simp only [Den.aU, Nat.reduceAdd, Nk, aZ, lu, aF]
      have aw : fk (.tup (((bN m).filter q).map .int)) (.tup []) = .ok ((bN m).filter q).isEmpty := by
        rw [Be (by simp [List.all_map, rO]), yB]
      simp only [Den.aU, Nat.reduceAdd, aw]
      have ej : pre.length + 1 <= 9 := by
        have aa : (bN (i % 9)).length = (pre ++ k :: post).length := by rw [<- ax]
        have h2 : (bN (i % 9)).length <= 9 := by unfold bN; simp; omega
        simp at aa; omega
      cases CO : ((bN m).filter q).isEmpty
      · have dG : (bN m).filter q ≠ [] := by intro z; rw [z] at CO; cases CO
        have s8 : IsCell m ((bN m).filter q) := ⟨dG, fun x af => mv.mp (jo.subset af), List.Pairwise.sublist jo (HZ m)⟩
        have hlen : (((bN m).map fun k => [k]).map aK ++ cs.map aK).length < SZ := by
          have := rd ea
          simp only [Wu, List.length_map, fF]; omega
        refine ⟨_, by simp only [Den.aU, Nat.reduceAdd, qr, if_pos hlen]; rfl, cs ++ [(bN m).filter q], _, _, _, by simp only [List.map_append, Wx]; rfl, fun c c8 => ?_, by simp; omega⟩
        rcases WT.mp c8 with w | w
        · exact aj c w
        · simp at w; subst w; exact s8
      · exact ⟨_, by simp only [Den.aU, Nat.reduceAdd]; rfl, cs, _, _, _, rfl, aj, by simp; omega⟩)
  rw [e, he]
  simp only [Den.aU, Nat.reduceAdd]
  refine ⟨((bN m).map fun k => [k]) ++ cs, by rw [List.map_append], fun c c8 => ?_, ?_, ?_⟩
  · rcases WT.mp c8 with w | w
    · obtain ⟨k, aq, rfl⟩ := Xw.mp w
      exact h0 k aq
    · exact aj c w
  · rw [wo]
    intro x a b
    exact ⟨[x], by simp [mv]; exact .inl ⟨a, b⟩, by simp⟩
  · have := rd ea
    have h2 : (bN (i % 9)).length <= 8 := by unfold bN; simp; omega
    simp only [Wu, List.length_map]; omega
end eI
end
section
namespace eI
open Den bH ez
variable{pg:cI}{Φ:cV}
def pC{cs:List (List Int)}{c:List Int}:c∈eP cs<->c∈cs/\∀o∈cs,c.length<o.length->¬lies c o=true:=by
 unfold eP;simp only[YI,mw,j4,Xd,ZG,WH,and_imp]
def Ap(cs:List (List Int)):fh lexLt (eP cs):=List.Pairwise.sublist List.filter_sublist (oO rk (nY _))
def UL(cs:List (List Int)):eP (eP cs)=eP cs:=by
 refine oN rk (Ap _) (Ap _) λz=>?_
 rw[pC];refine⟨λh=>h.1,λh=>⟨h,λo ay au=>(pC.mp h).2 o (pC.mp ay).1 au⟩⟩
theorem Gs{m:Int}{cs:List (List Int)}(h:∀c∈cs,IsCell m c):∀(n:Nat)(c:List Int),c∈cs->m.toNat<=c.length+n->∃t∈eP cs,∀x∈c,x∈t
 |0,c,aj,aw=>⟨c,pC.mpr ⟨aj,λo ay au=>by have:=lV (h o ay);omega⟩,λ_ af=>af⟩
 |n+1,c,aj,aw=>by
  by_cases q:∀o∈cs,c.length<o.length->¬lies c o=true
  .exact⟨c,pC.mpr ⟨aj,q⟩,λ_ af=>af⟩
  .obtain⟨o,ay,au,ag⟩:∃o,o∈cs/\c.length<o.length/\lies c o=true:=by
    apply ZE;intro z;exact q λo ay au ag=>z ⟨o,ay,au,ag⟩
   obtain⟨t,aW,Np⟩:=Gs h n o ay (by omega)
   exact⟨t,aW,λx af=>Np x (yx.mp ag x af)⟩
structure Net(m:Int)(ts:List (List Int)):Prop where
 lo:1<=m
 hi:m<=8
 cell:∀c∈ts,IsCell m c
 top:ts=eP ts
 eA:eA m ts=true
def PD{m:Int}{cs:List (List Int)}(aa:1<=m)(ea:m<=8)(aj:∀c∈cs,IsCell m c)(aL:eA m cs=true):Net m (eP cs) where
 lo:=aa
 hi:=ea
 cell:=λc h=>aj c (pC.mp h).1
 top:=(UL cs).symm
 eA:=by
  rw[wo]at aL ⊢;intro x a b;obtain⟨c,h,af⟩:=aL x a b;obtain⟨t,aW,ag⟩:=Gs aj m.toNat c h (by omega)
  exact⟨t,aW,ag x af⟩
def Gv(cs:List (List Int)):(eP cs).length<=cs.length:=by
 unfold eP;have aa:=X5 (λc=>!((cp lexLt (cv cs)).filter λo=>decide (c.length<o.length)).any (lies c)) (cp lexLt (cv cs))
 have h2:=oU cs;rw[pz]at aa;omega
def zl{m:Int}{c:List Int}(h:IsCell m c):cp ltI c=c:=Tg hX h.2.2
def FO{m:Int}{cs:List (List Int)}(h:∀c∈cs,IsCell m c):cs.map (cp ltI)=cs:=by
 conv=>rhs;rw[<- List.map_id cs]
 exact XM λc aj=>zl (h c aj)
noncomputable def IW:Bool:=(List.range 7).all λm=>(List.range 7).all λs=>(decide (s=0)||decide (m<s))||((da s (bN (m:Int))).all (λc=>decide (IsCell (m:Int) c))&&eA (m:Int) (da s (bN (m:Int))))
def AI:IW=true:=by decide +kernel
noncomputable def band:List (List Int):=(bN 5).map (λk=>[0,1+k,1+(k+1)%5])++(bN 5).map λk=>[1+k,1+(k+1)%5,1+(k+3)%5]
def H9:(band.map (cp ltI)).all (λc=>decide (IsCell 6 c))&&eA 6 (band.map (cp ltI))&&decide (band.length<=20)&&band.all (λc=>decide (c.length<=75))=true:=by decide +kernel
end eI
end
section
namespace eI
open Den bH ez
open PySem (Str)
variable{pg:cI}{Φ:cV}
noncomputable def cl(w:Nat):Nat->D->Bool
 |_,.int i=>decide (0<=i)&&decide (i<=8)
 |n+1,.tup xs=>decide (xs.length<=w)&&xs.all (cl w n)
 |_,_=>false
theorem sz{w:Nat}:∀(n:Nat)(d:D),cl w n d=true->cK w n d=true
 |n,.int _,_=>by cases n<;>rfl
 |0,.tup _,h=>by cases h
 |n+1,.tup xs,h=>by
  simp only[cl,Wi]at h;show(decide (xs.length<=w)&&xs.all (cK w n))=true;rw[h.1,Bool.true_and,Wt];exact λx af=>sz n x ((Wt.mp h.2) x af)
 |0,.cM,h=>by cases h
 |0,.av _,h=>by cases h
 |0,.str _,h=>by cases h
 |0,.lst _,h=>by cases h
 |0,.eV _,h=>by cases h
 |n+1,.cM,h=>by cases h
 |n+1,.av _,h=>by cases h
 |n+1,.str _,h=>by cases h
 |n+1,.lst _,h=>by cases h
 |n+1,.eV _,h=>by cases h
def B2{xs:List D}{k:Int}(h0:0<=k)(h:k<xs.length):∃d,d∈xs/\eX xs k=some d:=by
 have e:eX xs ((k.toNat:Nat):Int)=xs[k.toNat]?:=sU xs k.toNat;have e2:((k.toNat:Nat):Int)=k:=by omega
 rw[e2]at e;have aq:k.toNat<xs.length:=by omega
 exact⟨xs[k.toNat],List.getElem_mem aq,by rw[e,Wr aq]⟩
def yi{xs:List D}{k:Int}(h0:0<=k)(h:k<xs.length):∃d,d∈xs/\gE (.lst xs) (.int k)=.ok d:=by
 obtain⟨d,hd,e⟩:=B2 h0 h;exact⟨d,hd,by rw[yh,e]⟩
noncomputable def tV:List D:=[.int (-1),.int 0,.int 1,.int 2,.int 8,.int 9,.av true,.av false,.cM,.str (Str.ofString ""),.str (Str.ofString "a"),.tup [],.lst [],.tup [.int 0],.tup [.int 0,.int 1],.tup [.int 1,.int 0],.tup [.int 1,.int 1],.tup [.tup [.int 0]],.lst [.int 0],.tup [.int 8]]
 ++ [.tup [.int 1,.tup [.tup [.int 0]]],.tup [.int 0,.tup []],.tup [.av true],.tup [.int 0,.int 1,.int 2],.tup [.int (-1)],.tup [.int 9,.tup [.tup ((bN 9).map .int)]],.tup [.int 7,.int 8]]
def P0:tV.all (cK 75 5)=true:=by decide +kernel
def PZ(i:Int):∃d,dc pg Φ ⟨1,1,bh.sr⟩ [.int i]=.ok d/\cK 75 5 d=true:=by
 have b:=g0 i (b:=27) (by decide)
 obtain⟨d,hd,e⟩:=yi (xs:=tV) (k:=i%27) b.1 (by have:tV.length=27:=rfl;omega)
 refine⟨d,?_,Wt.mp P0 d hd⟩;have L8:27<=SZ:=by rw[fF];omega
 unfold tV at e;simp only[List.cons_append,List.nil_append]at e;simp only[Den.aU,Nat.reduceAdd,bh.sr,ec i 27 (by decide),oM,if_pos L8,kb (i:=0) (j:=9) (by omega) (by omega) (by omega) (by omega),lu,e]
def Tu:((List.range 10).all λk=>(Str.ofString (toString (k:Int))).cps.all (· < 0x110000))=true:=by decide +kernel
def Jy{β:Type}(xs:List β):cut xs none (some (-1))=xs.take (xs.length-1):=by
 unfold cut;have:bA xs.length xs.length (some (-1))=xs.length-1:=by
  simp only[bA];rw[if_pos (show(-1:Int)<0 by decide)]
  split<;>omega
 rw[this];simp[bA]
def Jz{β:Type}(xs:List β):cut xs (some (-1)) none=xs.drop (xs.length-1):=by
 unfold cut;have:bA xs.length 0 (some (-1))=xs.length-1:=by
  simp only[bA];rw[if_pos (show(-1:Int)<0 by decide)]
  split<;>omega
 rw[this];show List.take (xs.length-(xs.length-1)) _=_;rw[Xn (by rw[W3];omega)]
def Px{xs:List D}(h:xs≠[])(au:xs.length<=1000):eK .mul (.tup xs) (.int 2)=.ok (.tup (List.replicate 2 xs).flatten):=by
 have h2:xs.length*(2:Int).toNat<=SZ:=by rw[fF];show xs.length*2<=_;omega
 rw[DQ,if_pos ⟨by decide,h,h2,by decide⟩];rfl
def B0{w n:Nat}{xs:List D}(h:xs.length<=w)(aC:∀x∈xs,cK w n x=true):cK w (n+1) (.tup xs)=true:=by
 show(decide (xs.length<=w)&&xs.all (cK w n))=true;rw[decide_eq_true h,Bool.true_and,Wt];exact aC
def LP{w n:Nat}{xs:List D}(h:xs.length<=w)(aC:∀x∈xs,cK w n x=true):cK w (n+1) (.lst xs)=true:=by
 show(decide (xs.length<=w)&&xs.all (cK w n))=true;rw[decide_eq_true h,Bool.true_and,Wt];exact aC
end eI
end
section
namespace eI
open Den bH ez
open PySem (Str)
variable{pg:cI}{Φ:cV}
def AO{w n:Nat}{i:Int}(h0:0<=i)(ea:i<=8):cl w n (.int i)=true:=by cases n<;>simp[cl,h0,ea]
def I3{w n:Nat}{m:Int}{c:List Int}(ea:m<=8)(hw:8<=w)(h:IsCell m c):cl w (n+1) (aK c)=true:=by
 have au:=lV h;show(decide ((c.map D.int).length<=w)&&(c.map D.int).all (cl w n))=true;rw[decide_eq_true (by rw[List.length_map];omega),Bool.true_and,Wt]
 intro d hd;obtain⟨x,af,rfl⟩:=Xw.mp hd;have:=h.2.1 x af;exact AO (by omega) (by omega)
def I4{w n:Nat}{m:Int}{cs:List (List Int)}(ea:m<=8)(hw:8<=w)(au:cs.length<=w)(h:∀c∈cs,IsCell m c):cl w (n+2) (.tup (cs.map aK))=true:=by
 show(decide ((cs.map aK).length<=w)&&(cs.map aK).all (cl w (n+1)))=true;rw[decide_eq_true (by rw[List.length_map];omega),Bool.true_and,Wt]
 intro d hd;obtain⟨x,af,rfl⟩:=Xw.mp hd;exact I3 ea hw (h x af)
def I5{w n:Nat}{m:Int}{ts:List (List Int)}(h0:0<=m)(ea:m<=8)(hw:8<=w)(au:ts.length<=w)(h:∀c∈ts,IsCell m c):cl w (n+3) (d4 m ts)=true:=by
 show(decide (2<=w)&&(cl w (n+2) (.int m)&&(cl w (n+2) (.tup (ts.map aK))&&true)))=true;rw[AO h0 ea,I4 ea hw au h,decide_eq_true (by omega)];rfl
end eI
end
section
namespace eI
open Den bH ez
variable{pg:cI}{Φ:cV}
def QZ{s n:Nat}(h:n<=8):bS s n<=70:=by
 rcases Nat.lt_or_ge n s with q|q
 .rw[yV q];omega
 .have:∀n:Fin 9,∀s:Fin 9,bS s.val n.val<=70:=by decide
  exact this ⟨n,by omega⟩ ⟨s,by omega⟩
def tO{iD:Nat}{cs:List (List Int)}{m:Int}(hf:∀cs:List (List Int),(∀c∈cs,c≠[])->(cv cs).length<=75->Φ iD [.lst (cs.map aK)]=.ok (.tup ((lg cs).map aK)))(aa:1<=m)(ea:m<=8)(au:cs.length<=70)(L7:∀c∈cs,c.length<=75)(aj:∀c∈cs,IsCell m (cp ltI c))(aL:eA m (cs.map (cp ltI))=true){a b c:D}:
  ∃ts,jO (ei pg Φ [some a,some b,some (.int m),some c,some (.lst (cs.map aK))] (.cons (.ret (.tup (.cons (.var 2) (.cons (.call iD (.cons (.comp (.tupI (.seq (.prim .sorted (.var 5)))) 0 (.seq (.var 4)) (.none)) (.nil))) (.nil))))) (.nil)))=.ok (d4 m ts)/\Net m ts/\ts.length<=70:=by
 have ji:∀c∈cs.map (cp ltI),IsCell m c:=λc c8=>by obtain⟨o,ay,rfl⟩:=Xw.mp c8;exact aj o ay
 refine⟨eP (cs.map (cp ltI)),?_,PD aa ea ji aL,by have:=Gv (cs.map (cp ltI));rw[List.length_map]at this;omega⟩
 have e1:cJ (elem pg Φ [some a,some b,some (.int m),some c,some (.lst (cs.map aK))] (.tupI (.seq (.prim .sorted (.var 5)))) 0 .none) (cs.map aK)=.ok (cs.map λc=>aK (cp ltI c)):=l6 λc c8=>by
  simp only[Den.aU,Nat.reduceAdd,zb,Ta (L7 c c8)];rfl
 have e2:(cs.map λc=>aK (cp ltI c))=(cs.map (cp ltI)).map aK:=by rw[List.map_map];rfl
 have hr:(cv (cs.map (cp ltI))).length<=75:=by have:=oU (cs.map (cp ltI));rw[List.length_map]at this;omega
 simp only[Den.aU,Nat.reduceAdd,e1,e2,hf _ (λc c8=>(ji c c8).1) hr,DC (λc c8=>(ji c c8).2.2)]
 rfl
noncomputable def AG:Bool:=(List.range 9).all λm=>(List.range 9).all λs=>(decide (s=0)||decide (m<s))||((da s (bN (m:Int))).all (λc=>decide (IsCell (m:Int) c))&&eA (m:Int) (da s (bN (m:Int))))
def IX:AG=true:=by decide +kernel
def Hz{m:Int}{s:Nat}(aa:1<=m)(d0:m<=8)(ag:1<=s)(x7:(s:Int)<=m):(∀c∈da s (bN m),IsCell m c)/\eA m (da s (bN m))=true:=by
 have h:=IX;unfold AG at h;rw[Wt]at h;have h:=h m.toNat (WN.mpr (by omega))
 rw[Wt]at h;have h:=h s (WN.mpr (by omega))
 have e:((m.toNat:Nat):Int)=m:=by omega
 rw[e]at h;have j7:¬s=0:=by omega
 have fN:¬m.toNat<s:=by omega
 simp only[decide_eq_false j7,decide_eq_false fN,Bool.or_self,Bool.false_or,Wi,Wt,WH]at h;exact h
noncomputable def ot:List (List Int):=(bN 7).map (λk=>[k,(k+1)%7,(k+3)%7])++(bN 7).map λk=>[k,(k+2)%7,(k+3)%7]
def UG:(ot.map (cp ltI)).all (λc=>decide (IsCell 7 c))&&eA 7 (ot.map (cp ltI))&&decide (ot.length<=70)&&ot.all (λc=>decide (c.length<=75))=true:=by decide +kernel
def PC{iD bk fs:Nat}(aW:∀cs:List (List Int),(∀c∈cs,c≠[])->(cv cs).length<=75->Φ iD [.lst (cs.map aK)]=.ok (.tup ((lg cs).map aK)))(ax:∀(s:Nat)(c:List Int),s<=8->c.length<=8->Φ bk [aK c,.int (s:Int)]=.ok (.lst ((da s c).map aK)))(ag:∀i m:Int,1<=m->m<=8->∃cs:List (List Int),Φ fs [.int i,.int m]=.ok (.lst (cs.map aK))/\(∀c∈cs,IsCell m c)/\eA m cs=true/\cs.length<=16)(i:Int)(h0:0<=i):
  ∃m ts,dc pg Φ ⟨2,3,bh.vH iD bk fs⟩ [.int i,.int 8]=.ok (d4 m ts)/\Net m ts/\ts.length<=70:=by
 have kC:=g0 i (b:=8) (by decide)
 have dg:decide ((5:Int)<8)=true:=rfl;have fj:decide ((6:Int)<8)=true:=rfl;simp only[Den.aU,Nat.reduceAdd,bh.vH,ec i 8 (by decide),hL i 12 (by decide) (by decide),ec _ 8 (by decide)]
 cases k0:(i / 12%8==0)
 .cases k1:(i / 12%8==1)
  .cases k2:(i / 12%8==2)
   .obtain⟨cs,e,aj,aL,au⟩:=ag (i / 96) (1+i%8) (by omega) (by omega)
    obtain⟨ts,e2,aw,iL⟩:=tO (pg:=pg) (Φ:=Φ) (cs:=cs) (m:=1+i%8) (a:=.int i) (b:=.int 8) (c:=.int (i / 12%8)) aW (by omega) (by omega) (by omega) (λc c8=>by have:=lV (aj c c8);omega) (λc c8=>by rw[zl (aj c c8)];exact aj c c8) (by rw[FO aj];exact aL)
    refine⟨1+i%8,ts,?_,aw,iL⟩;rw[<- e2];simp only[Den.aU,Nat.reduceAdd,k1,k2,hL i 96 (by decide) (by decide),e]
   .have ae:=UG;simp only[Wi,Wt,WH]at ae;obtain⟨⟨⟨jf,jg⟩,Cv⟩,xy⟩:=ae;obtain⟨ts,e2,aw,iL⟩:=tO (pg:=pg) (Φ:=Φ) (cs:=ot) (m:=7) (a:=.int i) (b:=.int 8) (c:=.int (i / 12%8)) aW (by decide) (by decide) Cv xy (λc c8=>jf _ (Zm c8)) jg
    refine⟨7,ts,?_,aw,iL⟩;rw[<- e2];have fP:=kb (i:=0) (j:=7) (by omega) (by omega) (by omega) (by omega)
    have cu:∀a b c d e,cJ (elem pg Φ [a,b,c,d,e] (.tup (.cons (.var 5) (.cons (.bin .mod (.bin .add (.var 5) (.lit (.int 1))) (.lit (.int 7))) (.cons (.bin .mod (.bin .add (.var 5) (.lit (.int 3))) (.lit (.int 7))) (.nil))))) 0 .none) ((bN 7).map .int)=.ok ((bN 7).map λk=>aK [k,(k+1)%7,(k+3)%7]):=λa b c d e=>l6 λk _=>by
     simp only[Den.aU,Nat.reduceAdd,ec _ 7 (by decide)];rfl
    have bg:∀a b c d e,cJ (elem pg Φ [a,b,c,d,e] (.tup (.cons (.var 5) (.cons (.bin .mod (.bin .add (.var 5) (.lit (.int 2))) (.lit (.int 7))) (.cons (.bin .mod (.bin .add (.var 5) (.lit (.int 3))) (.lit (.int 7))) (.nil))))) 0 .none) ((bN 7).map .int)=.ok ((bN 7).map λk=>aK [k,(k+2)%7,(k+3)%7]):=λa b c d e=>l6 λk _=>by
     simp only[Den.aU,Nat.reduceAdd,ec _ 7 (by decide)];rfl
    have fX:ot.map aK=(bN 7).map (λk=>aK [k,(k+1)%7,(k+3)%7])++(bN 7).map λk=>aK [k,(k+2)%7,(k+3)%7]:=by
     unfold ot;rw[List.map_append,List.map_map,List.map_map];rfl
    have hlen:((bN 7).map (λk=>aK [k,(k+1)%7,(k+3)%7])).length+((bN 7).map λk=>aK [k,(k+2)%7,(k+3)%7]).length<=SZ:=by
     have:=rd (m:=7) (by decide)
     rw[List.length_map,List.length_map,fF];omega
    simp only[Den.aU,Nat.reduceAdd,k1,k2,fj,fP,lu,cu,bg,oM,if_pos hlen,<- fX]
  .have ae:=H9;simp only[Wi,Wt,WH]at ae;obtain⟨⟨⟨jf,jg⟩,Cv⟩,xy⟩:=ae;obtain⟨ts,e2,aw,iL⟩:=tO (pg:=pg) (Φ:=Φ) (cs:=band) (m:=6) (a:=.int i) (b:=.int 8) (c:=.int (i / 12%8)) aW (by decide) (by decide) (by omega) xy (λc c8=>jf _ (Zm c8)) jg
   refine⟨6,ts,?_,aw,iL⟩;rw[<- e2];have fP:=kb (i:=0) (j:=5) (by omega) (by omega) (by omega) (by omega)
   have cu:∀a b c d e,cJ (elem pg Φ [a,b,c,d,e] (.tup (.cons (.lit (.int 0)) (.cons (.bin .add (.lit (.int 1)) (.var 5)) (.cons (.bin .add (.lit (.int 1)) (.bin .mod (.bin .add (.var 5) (.lit (.int 1))) (.lit (.int 5)))) (.nil))))) 0 .none) ((bN 5).map .int)=.ok ((bN 5).map λk=>aK [0,1+k,1+(k+1)%5]):=λa b c d e=>l6 λk _=>by
    simp only[Den.aU,Nat.reduceAdd,ec _ 5 (by decide)];rfl
   have bg:∀a b c d e,cJ (elem pg Φ [a,b,c,d,e] (.tup (.cons (.bin .add (.lit (.int 1)) (.var 5)) (.cons (.bin .add (.lit (.int 1)) (.bin .mod (.bin .add (.var 5) (.lit (.int 1))) (.lit (.int 5)))) (.cons (.bin .add (.lit (.int 1)) (.bin .mod (.bin .add (.var 5) (.lit (.int 3))) (.lit (.int 5)))) (.nil))))) 0 .none) ((bN 5).map .int)=.ok ((bN 5).map λk=>aK [1+k,1+(k+1)%5,1+(k+3)%5]):=λa b c d e=>l6 λk _=>by
    simp only[Den.aU,Nat.reduceAdd,ec _ 5 (by decide)];rfl
   have fX:band.map aK=(bN 5).map (λk=>aK [0,1+k,1+(k+1)%5])++(bN 5).map λk=>aK [1+k,1+(k+1)%5,1+(k+3)%5]:=by
    unfold band;rw[List.map_append,List.map_map,List.map_map];rfl
   have hlen:((bN 5).map (λk=>aK [0,1+k,1+(k+1)%5])).length+((bN 5).map λk=>aK [1+k,1+(k+1)%5,1+(k+3)%5]).length<=SZ:=by
    have:=rd (m:=5) (by decide)
    rw[List.length_map,List.length_map,fF];omega
   simp only[Den.aU,Nat.reduceAdd,k1,dg,fP,lu,cu,bg,oM,if_pos hlen,<- fX]
 .have H8:=g0 (i / 96) (b:=1+i%8) (by omega)
  obtain⟨s,pj⟩:∃s:Nat,(s:Int)=1+i / 96%(1+i%8):=⟨(1+i / 96%(1+i%8)).toNat,by omega⟩
  obtain⟨aj,aL⟩:=Hz (m:=1+i%8) (s:=s) (by omega) (by omega) (by omega) (by omega)
  have qW:(bN (1+i%8)).length<=8:=by unfold bN;simp;omega
  have CJ:(da s (bN (1+i%8))).length<=70:=by rw[yY];exact QZ qW
  obtain⟨ts,e2,aw,iL⟩:=tO (pg:=pg) (Φ:=Φ) (cs:=da s (bN (1+i%8))) (m:=1+i%8) (a:=.int i) (b:=.int 8) (c:=.int (i / 12%8)) aW (by omega) (by omega) CJ (λc c8=>by have:=lV (aj c c8);omega) (λc c8=>by rw[zl (aj c c8)];exact aj c c8) (by rw[FO aj];exact aL)
  refine⟨1+i%8,ts,?_,aw,iL⟩;rw[<- e2];have tg:=ax s (bN (1+i%8)) (by omega) (by omega)
  unfold aK at tg;simp only[Den.aU,Nat.reduceAdd,hL i 96 (by decide) (by decide),ec (i / 96) (1+i%8) (by omega),<- pj,kb (i:=0) (j:=1+i%8) (by omega) (by omega) (by omega) (by omega),lu,tg]
  rfl
end eI
end
section
namespace eI
open Den bH ez
open PySem (Str)
variable{pg:cI}{Φ:cV}
noncomputable def iD(d:D):Prop:=∀ts:List (List Int),d=.tup (ts.map aK)->(cv ts).length<=75
def BQ{xs ys:List D}(au:ys.length<=75)(h:∀x∈xs,x∈ys):iD (.tup xs):=λts e=>by
 injection e with e;subst e;have:=nZ (nY ts) (ys:=ys.map rV) λz hz=>Xw.mpr ⟨aK z,h _ (Zm ((j4 _ _).mp hz)),Gq z⟩
 rw[List.length_map]at this;omega
def sR{n:Nat}{d:D}(h:cK 75 n d=true):iD d:=λts e=>by
 subst e;cases n with
 |zero=>cases h
 |succ n =>
  have:=(qL h).1;rw[List.length_map]at this;exact Xt (oU ts) this
structure d8(n:Nat)(r:D):Prop where
 g:cK 150 n r=true
 t:iD r
 e:∀xs,r=.tup xs->∀x∈xs,iD x
def d8.yI{n k:Nat}{r:D}(h:cK 75 n r=true)(aq:n<k):d8 k r:=⟨kQ (by omega) aq h,sR h,λxs e x af=>by
 subst e;cases n with
 |zero=>cases h
 |succ n=>exact sR (Wt.mp (qL h).2 x af)⟩
theorem d8.tup{n:Nat}{xs ys:List D}(au:xs.length<=150)(aA:ys.length<=75)(aT:∀x∈ys,cK 75 n x=true)(ag:∀x∈xs,x∈ys):d8 (n+2) (.tup xs) :=
 ⟨B0 au λx h=>kQ (by omega) (by omega:n<n+1) (aT x (ag x h)),BQ aA ag,λzO e x af=>by injection e with e;subst e;exact sR (aT x (ag x af))⟩
theorem d8.hn{n:Nat}{r:D}(h:d8 n r):hn r:=λm ts e _=>h.e _ e (.tup (ts.map aK)) (by simp) ts rfl
def Te {fo fs n : Nat} (ay : ∀ i : Int, ∃ r, Φ fo [.int i] = .ok r /\ cK 75 5 r = true) (d : D) (hd : cl 72 n d = true) (i deep : Int) (h0 : 0 <= i) (xI : deep = 0 \/ (∀ xs, d ≠ .tup xs) \/ d = .tup [] \/ i % 6 = 0) :
    ∃ r, dc pg Φ ⟨3, 2, bh.kD fo fs⟩ [d, .int i, .int deep] = .ok r /\ d8 (n + 6) r := by
  obtain ⟨c9, x2, qN⟩ := ay (i / 6)
  have qN : d8 (n + 6) c9 := d8.yI qN (by omega)
  have dQ := g0 (i / 6) (b := 2) (by decide)
  have kC := g0 (i / 12) (b := 6) (by decide)
  have fJ := g0 (i / 12) (b := 5) (by decide)
  cases d with
  | int j =>
    have aG : 0 <= j /\ j <= 8 := by cases n <;> simpa [cl] using hd
    have dI : hU pg.up (.int j) .tuple = .ok false := rfl
    cases iq : decide (0 < deep) <;> cases aD : (i / 6 % 2 == 0)
    all_goals simp only [Den.aU, Nat.reduceAdd, bh.kD, iq, dI, C1, hL i 6 (by decide) (by decide), ec (i / 6) 2 (by decide), aD, x2]
    all_goals first | exact ⟨_, rfl, qN⟩ | skip
    all_goals
      have ag : jy j = .ok (.str (Str.ofString (toString j))) := by
        unfold jy; rw [if_pos (by omega)]
      obtain ⟨r, aZ, e⟩ := yi (xs := [.str (Str.ofString (toString j)), .int (-j), .int (j + 1), .av (j == 1), .int (j - 1)]) (k := i / 12 % 5) fJ.1 fJ.2
      simp only [Den.aU, Nat.reduceAdd, ag, hL i 12 (by decide) (by decide), ec (i / 12) 5 (by decide), e]
      refine ⟨r, rfl, d8.yI (n := n + 5) ?_ (by omega)⟩
      simp only [Wo, XT, ZR] at aZ
      rcases aZ with rfl | rfl | rfl | rfl | rfl
      · have := Wt.mp Tu j.toNat (WN.mpr (by omega))
        have e2 : ((j.toNat : Nat) : Int) = j := by omega
        rw [e2] at this
        exact this
      all_goals rfl
  | tup xs =>
    cases n with
    | zero => cases hd
    | succ n =>
      have hd : decide (xs.length <= 72) = true /\ xs.all (cl 72 n) = true := by simpa [cl] using hd
      have au : xs.length <= 72 := Yg hd.1
      have af : ∀ x ∈ xs, cK 75 (n + 5) x = true := fun x af => kQ (by omega) (by omega) (sz n x (Wt.mp hd.2 x af))
      have es : hU pg.up (.tup xs) .int = .ok false := rfl
      have t1 : ∀ a b, ev pg Φ [some (.tup xs), some (.int i), some (.int deep), a, b] (.and (.cmp .gt (.var 2) (.lit (.int 0))) (.and (.prim (.inst .tuple) (.var 0)) (.and (.cmp .gt (.prim .len (.var 0)) (.lit (.int 0))) (.cmp .gt (.bin .mod (.var 1) (.lit (.int 6))) (.lit (.int 0)))))) = .ok (.av false) := fun a b => by
        simp only [Den.aU, Nat.reduceAdd, ec i 6 (by decide)]
        by_cases aa : 0 < deep
        · simp only [Den.aU, Nat.reduceAdd, decide_eq_true aa]
          by_cases h2 : 0 < ((xs.length : Nat) : Int)
          · simp only [Den.aU, Nat.reduceAdd, decide_eq_true h2, ec i 6 (by decide)]
            have h3 : ¬ 0 < i % 6 := by
              rcases xI with q | q | q | q
              · omega
              · exact absurd rfl (q xs)
              · injection q with q; subst q; simp at h2
              · omega
            simp only [decide_eq_false h3]
          · simp only [Den.aU, Nat.reduceAdd, decide_eq_false h2]
        · simp only [Den.aU, Nat.reduceAdd, decide_eq_false aa]
      have UJ : dc pg Φ ⟨3, 2, bh.kD fo fs⟩ [.tup xs, .int i, .int deep] = jO (ei pg Φ [some (.tup xs), some (.int i), some (.int deep), none, none] (bh.kD fo fs)) := a6 rfl
      rw [UJ]
      unfold bh.kD
      rw [Bn, Bq, t1]
      simp only [CW, Bo, Fn]
      by_cases h2 : 0 < ((xs.length : Nat) : Int)
      · cases aD : (i / 6 % 2 == 0)
        · simp only [Den.aU, Nat.reduceAdd, decide_eq_true h2, hL i 6 (by decide) (by decide), ec (i / 6) 2 (by decide), aD, es, x2]
          exact ⟨_, rfl, qN⟩
        · have dG : xs ≠ [] := by intro z; subst z; simp at h2
          have kW : xs.length + (xs.drop (xs.length - 1)).length <= SZ := by rw [fF, W3]; omega
          obtain ⟨r, aZ, e⟩ := yi (xs := [.lst xs, .tup (xs.take (xs.length - 1)), .tup (xs ++ xs.drop (xs.length - 1)), .tup (xs.drop 1), .tup xs.reverse, .tup [xs, xs].flatten]) (k := i / 12 % 6) kC.1 kC.2
          have m2 := Px dG (by omega)
          have PH : (-(1 : Int)) = -1 := rfl
          simp only [Den.aU, Nat.reduceAdd, decide_eq_true h2, hL i 6 (by decide) (by decide), ec (i / 6) 2 (by decide), aD, PH, Jy, Jz, A0, qo, if_pos kW, m2, hL i 12 (by decide) (by decide), ec (i / 12) 6 (by decide), e]
          refine ⟨r, rfl, ?_⟩
          simp only [Wo, XT, ZR] at aZ
          rcases aZ with rfl | rfl | rfl | rfl | rfl | rfl
          · exact d8.yI (LP (by omega) af) (by omega)
          · exact d8.tup (by rw [W2]; omega) (by omega) af fun x h => Ye h
          · exact d8.tup (by rw [Wu, W3]; omega) (by omega) af fun x h => by
              rcases WT.mp h with w | w
              · exact w
              · exact Yw w
          · exact d8.tup (by rw [W3]; omega) (by omega) af fun x h => Yw h
          · exact d8.tup (by rw [List.length_reverse]; omega) (by omega) af fun x h => List.mem_reverse.mp h
          · exact d8.tup (by simp; omega) (by omega) af fun x h => by simp at h; exact h
      · simp only [Den.aU, Nat.reduceAdd, decide_eq_false h2, es, hL i 6 (by decide) (by decide), x2]
        exact ⟨_, rfl, qN⟩
  | _ => cases n <;> cases hd
def Tf{fo fs n:Nat}{xs:List D}{i deep:Int}(ax:0<deep)(d0:0<i%6)(h0:0<=i)(dG:xs≠[])(hd:cl 72 (n+1) (.tup xs)=true)(ag:∀x j,cl 72 n x=true->0<=j->∃r,Φ fs [x,.int j,.int (deep-1)]=.ok r/\d8 (n+6) r):
  ∃r,dc pg Φ ⟨3,2,bh.kD fo fs⟩ [.tup xs,.int i,.int deep]=.ok r/\d8 (n+7) r:=by
 have hd:decide (xs.length<=72)=true/\xs.all (cl 72 n)=true:=by simpa[cl] using hd
 have au:xs.length<=72:=Yg hd.1;have af:∀x∈xs,cK 75 (n+5) x=true:=λx af=>kQ (by omega) (by omega) (sz n x (Wt.mp hd.2 x af))
 have CJ:0<xs.length:=List.length_pos_iff.mpr dG;have h2:0<((xs.length:Nat):Int):=by omega
 have b:=g0 (i / 6) (b:=((xs.length:Nat):Int)) h2;have MI:0<=i / 6:=Int.ediv_nonneg h0 (by decide)
 obtain⟨x,NG,ex⟩:=B2 (xs:=xs) b.1 b.2;obtain⟨r,wF,B8⟩:=ag x (i / 6 / ((xs.length:Nat):Int)) (Wt.mp hd.2 x NG) (Int.ediv_nonneg MI (by omega))
 obtain⟨k,aq⟩:∃k:Nat,(k:Int)=i / 6%((xs.length:Nat):Int):=⟨(i / 6%((xs.length:Nat):Int)).toNat,by omega⟩
 have cu:cut xs none (some (k:Int))=xs.take k:=JA xs k;have bg:cut xs (some ((k:Int)+1)) none=xs.drop (k+1):=wq xs (k+1);have l1:(xs.take k).length+[r].length<=SZ:=by rw[fF,W2];simp only[List.length_singleton];omega
 have l2:(xs.take k++[r]).length+(xs.drop (k+1)).length<=SZ:=by rw[fF,Wu,W2,W3];simp only[List.length_singleton];omega
 have MX:(xs.take k++[r]++xs.drop (k+1)).length<=75:=by rw[Wu,Wu,W2,W3];simp only[List.length_singleton];omega
 have xX:∀z∈xs.take k++[r]++xs.drop (k+1),cK 150 (n+6) z=true/\iD z:=λz hz=>by
  have jY:∀z∈xs,cK 150 (n+6) z=true/\iD z:=λz h=>⟨kQ (by omega) (by omega) (af z h),sR (af z h)⟩
  rcases WT.mp hz with w|w
  .rcases WT.mp w with w|w
   .exact jY z (Ye w)
   .simp at w;subst w;exact⟨B8.g,B8.t⟩
  .exact jY z (Yw w)
 refine⟨.tup (xs.take k++[r]++xs.drop (k+1)),?_,B0 (by omega) λz hz=>(xX z hz).1,BQ MX λ_ h=>h,λzO e z hz=>by injection e with e;subst e;exact(xX z hz).2⟩
 rw[<- aq]at ex;have Bm:gE (.tup xs) (.int (k:Int))=.ok x:=by rw[js,ex]
 have Hq:eK .add (.tup (xs.take k)) (.tup [r])=.ok (.tup (xs.take k++[r])):=by rw[qo,if_pos l1]
 have Hr:eK .add (.tup (xs.take k++[r])) (.tup (xs.drop (k+1)))=.ok (.tup (xs.take k++[r]++xs.drop (k+1))):=by rw[qo,if_pos l2]
 have h3:((xs.length:Nat):Int)<1073741824:=Int.ofNat_lt.mpr (Nat.lt_of_le_of_lt au (by decide))
 simp only[Den.aU,Nat.reduceAdd,bh.kD,decide_eq_true ax,decide_eq_true h2,ec i 6 (by decide),decide_eq_true d0,hL i 6 (by decide) (by decide),ec (i / 6) ((xs.length:Nat):Int) h2,<- aq,Bm,hL (i / 6) ((xs.length:Nat):Int) h2 h3,wF,cu,bg,Hq,Hr]
theorem FL {fds : List fz} {fo fs : Nat} (hf : fds[fs]? = some ⟨3, 2, bh.kD fo fs⟩) (Cz : fds[fo]? = some ⟨1, 1, bh.sr⟩) : ∀ (eB N n : Nat) (d : D) (i : Int), eB + 1 < N -> cl 72 n d = true -> 0 <= i -> ∃ r, run pg fds N fs [d, .int i, .int (eB : Int)] = .ok r /\ d8 (n + 6) r
  | _, 0, _, _, _, h, _, _ => by omega
  | _, 1, _, _, _, h, _, _ => by omega
  | eB, N + 2, n, d, i, h, aj, h0 => by
    rw [ob, hf]
    have ay : ∀ i : Int, ∃ r, run pg fds (N + 1) fo [.int i] = .ok r /\ cK 75 5 r = true := fun i => by
      rw [ob, Cz]; exact PZ i
    by_cases q : eB = 0 \/ (∀ xs, d ≠ .tup xs) \/ d = .tup [] \/ i % 6 = 0
    · refine Te ay d aj i (eB : Int) h0 ?_
      rcases q with q | q
      · exact .inl (by omega)
      · exact .inr q
    · simp only [not_or] at q
      obtain ⟨aD, aO, bE, cb⟩ := q
      have kC := g0 i (b := 6) (by decide)
      cases d with
      | tup xs =>
        cases n with
        | zero => cases aj
        | succ n =>
          refine Tf (by omega) (by omega) h0 (fun z => bE (by rw [z])) aj fun x j af aG => ?_
          have e : (eB : Int) - 1 = ((eB - 1 : Nat) : Int) := by omega
          rw [e]
          exact FL hf Cz (eB - 1) (N + 1) n x j (by omega) af aG
      | _ => exact absurd (fun _ z => by cases z) aO
end eI
end
section
namespace eI
open Den bH ez
open PySem (Str)
variable{pg:cI}{Φ:cV}
noncomputable def sp:Str:=Str.ofString " "
noncomputable def d5(i:Int):Str:=Str.ofString (toString i)
noncomputable def gl(a:Str)(ws:List Str):Str:=ws.foldl (λa w=>a++sp++w) a
def L4(a:Str):gl a []=a:=rfl
def B4(a w:Str)(ws:List Str):gl a (w::ws)=gl (a++sp++w) ws:=rfl
def B3(a:Str)(us ws:List Str):gl a (us++ws)=gl (gl a us) ws:=List.foldl_append
theorem B5:∀(ws:List Str)(a:Str),Str.join sp (a::ws)=gl a ws
 |[],a=>rfl
 |w::ws,a=>by rw[B4,<- B5 ws,PySem.StrLaws.join_shift];rfl
noncomputable def iG(x:Str):Bool:=x.cps.all (· < 0x110000)
def B6{a b:Str}(aC:iG a=true)(ae:iG b=true):iG (a++b)=true:=by
 unfold iG at *;rw[PySem.Str.cps_append,Array.all_append,aC,ae];rfl
theorem B7:∀(ws:List Str)(a:Str),iG a=true->(∀w∈ws,iG w=true)->iG (gl a ws)=true
 |[],a,h,_=>h
 |w::ws,a,h,hw=>B7 ws _ (B6 (B6 h (by decide +kernel)) (hw w List.mem_cons_self)) λz hz=>hw z (List.mem_cons_of_mem _ hz)
theorem tD{k:Nat}:∀(ws:List Str)(a:Str),(∀w∈ws,w.length<=k)->(gl a ws).length<=a.length+ws.length*(k+1)
 |[],a,_=>by simp[L4]
 |w::ws,a,h=>by
  have aa:=tD ws (a++sp++w) λz hz=>h z (List.mem_cons_of_mem _ hz)
  have h2:=h w List.mem_cons_self;have h3:sp.length=1:=by decide +kernel
  rw[B4];rw[YN,YN,h3]at aa;simp only[List.length_cons,Zo];omega
def RT:((List.range 10).all λk=>iG (d5 (k:Int))&&decide ((d5 (k:Int)).length<=4))=true:=by decide +kernel
def oc{i:Int}(h0:0<=i)(h:i<=9):iG (d5 i)=true/\(d5 i).length<=4/\jy i=.ok (.str (d5 i)):=by
 have:=Wt.mp RT i.toNat (WN.mpr (by omega))
 have e2:((i.toNat:Nat):Int)=i:=by omega
 rw[e2,Wi,WH]at this;exact⟨this.1,this.2,by unfold jy;rw[if_pos (by omega)];rfl⟩
noncomputable def wT(t:List Int):List Str:=Str.ofString "cell"::t.map d5
noncomputable def UZ(m:Int)(ts:List (List Int)):List Str:=d5 m::ts.flatMap wT
noncomputable def txt(m:Int)(ts:List (List Int)):Str:=gl (Str.ofString "net") (UZ m ts)
def U0{m:Int}{t:List Int}(hm:m<=9)(h:IsCell m t):∀w∈wT t,iG w=true/\w.length<=4:=λw hw=>by
 rcases Wo.mp hw with rfl|hw
 .exact⟨by decide +kernel,by decide +kernel⟩
 .obtain⟨i,hi,rfl⟩:=Xw.mp hw;have:=h.2.1 i hi;have:=oc (i:=i) (by omega) (by omega)
  exact⟨this.1,this.2.1⟩
def wN{m:Int}{ts:List (List Int)}(hm:m<=9)(h:∀t∈ts,IsCell m t):∀w∈ts.flatMap wT,iG w=true/\w.length<=4:=λw hw=>by
 obtain⟨t,aW,hw⟩:=List.mem_flatMap.mp hw;exact U0 hm (h t aW) w hw
def wM{m:Int}{ts:List (List Int)}(hm:m<=9)(h:∀t∈ts,IsCell m t):(ts.flatMap wT).length<=ts.length*10:=by
 refine wV λt aW=>?_
 have:=lV (h t aW);unfold wT;rw[List.length_cons,List.length_map];omega
def UC{m:Int}{ts:List (List Int)}(h0:0<=m)(hm:m<=9)(h:∀t∈ts,IsCell m t):iG (txt m ts)=true:=by
 refine B7 _ _ (by decide +kernel) λw hw=>?_
 rcases Wo.mp hw with rfl|hw
 .exact(oc h0 hm).1
 .exact(wN hm h w hw).1
def vp(x y:Str):eK .add (.str x) (.str y)=if x.length+y.length<=SZ then .ok (.str (x++y)) else .bad:=a6 rfl
def IU:Str.ofString " cell"=sp++Str.ofString "cell":=by decide +kernel
def PE:Str.ofString "net "=Str.ofString "net"++sp:=by decide +kernel
def OV {m : Int} {ts : List (List Int)} (h0 : 0 <= m) (hm : m <= 9) (h : ∀ t ∈ ts, IsCell m t) (au : ts.length <= 75) : dc pg Φ ⟨1, 3, bh.vN⟩ [d4 m ts] = .ok (.str (txt m ts)) := by
  have iN : gE (d4 m ts) (.int 0) = .ok (.int m) := rfl
  have dI : gE (d4 m ts) (.int 1) = .ok (.tup (ts.map aK)) := rfl
  obtain ⟨hC, m2, m3⟩ := oc h0 hm
  have l4 : (Str.ofString "net ").length = 4 := by decide +kernel
  have l5 : (Str.ofString " cell").length = 5 := by decide +kernel
  have l1 : (Str.ofString " ").length = 1 := by decide +kernel
  have a1 : (Str.ofString "net ").length + (d5 m).length <= SZ := by rw [l4, fF]; omega
  simp only [Den.aU, Nat.reduceAdd, bh.vN, iN, dI, m3, vp, if_pos a1]
  have e0 : Str.ofString "net " ++ d5 m = gl (Str.ofString "net") [d5 m] := by rw [PE]; rfl
  rw [e0]
  have vY : ∀ ar : List (List Int), (∀ t ∈ ar, IsCell m t) -> ar.length <= 75 -> (gl (gl (Str.ofString "net") [d5 m]) (ar.flatMap wT)).length <= 3800 := fun ar aq VD => by
    have aa := tD (k := 4) (ar.flatMap wT) (gl (Str.ofString "net") [d5 m]) fun w hw => (wN hm aq w hw).2
    have h2 := tD (k := 4) [d5 m] (Str.ofString "net") fun w hw => by simp at hw; subst hw; exact m2
    have h3 := wM hm aq
    have h4 : (Str.ofString "net").length = 3 := by decide +kernel
    rw [h4] at h2
    simp only [List.length_singleton] at h2
    omega
  obtain ⟨c7, e, x, y, he⟩ := mc (f := aK) (g := turn pg Φ 0 [2] (.cons (.asg 1 (.bin .add (.var 1) (.lit (.str (Str.ofString " cell"))))) (.cons (.hM 0 [3] (.seq (.var 2)) (.cons (.asg 1 (.bin .add (.bin .add (.var 1) (.lit (.str (Str.ofString " ")))) (.prim .str (.var 3)))) (.nil))) (.nil))))
    (fun br J => ∃ (x y : Option D), J = [some (d4 m ts), some (.str (gl (gl (Str.ofString "net") [d5 m]) (br.flatMap wT))), x, y])
    ts [some (d4 m ts), some (.str (gl (Str.ofString "net") [d5 m])), none, none] ⟨none, none, rfl⟩ (fun pre t post J ax ⟨x, y, dw⟩ => by
      subst dw
      have pv : IsCell m t := h t (by rw [ax]; simp)
      have ej : pre.length + 1 <= ts.length := by rw [ax]; simp
      have Ni : ∀ t ∈ pre, IsCell m t := fun t aW => h t (by rw [ax]; simp [aW])
      have aa := vY pre Ni (by omega)
      generalize qO : gl (gl (Str.ofString "net") [d5 m]) (pre.flatMap wT) = F at aa ⊢
      have a2 : F.length + (Str.ofString " cell").length <= SZ := by rw [l5, fF]; omega
      have e1 : F ++ Str.ofString " cell" = gl F [Str.ofString "cell"] := by rw [IU, <- PySem.Str.append_assoc]; rfl
      have b7 : dt (aK t) = .ok (t.map .int) := rfl
      simp only [Den.aU, Nat.reduceAdd, vp, if_pos a2, b7]
      rw [e1]
      obtain ⟨oy, e2, bt, Mw⟩ := mc (f := D.int) (g := turn pg Φ 0 [3] (.cons (.asg 1 (.bin .add (.bin .add (.var 1) (.lit (.str (Str.ofString " ")))) (.prim .str (.var 3)))) (.nil)))
        (fun br J => ∃ (x : Option D), J = [some (d4 m ts), some (.str (gl F (Str.ofString "cell" :: br.map d5))), some (aK t), x])
        t [some (d4 m ts), some (.str (gl F [Str.ofString "cell"])), some (aK t), y] ⟨y, rfl⟩ (fun pr c po J aF ⟨x, o7⟩ => by
          subst o7
          have aj := pv.2.1 c (by rw [aF]; simp)
          obtain ⟨cu, bg, b2⟩ := oc (i := c) (by omega) (by omega)
          have VO : pr.length + 1 <= t.length := by rw [aF]; simp
          have Ny := lV pv
          have cf := tD (k := 4) (Str.ofString "cell" :: pr.map d5) F fun w hw => by
            rcases Wo.mp hw with rfl | hw
            · decide +kernel
            · obtain ⟨i, hi, rfl⟩ := Xw.mp hw
              have hi := pv.2.1 i (by rw [aF]; simp [hi])
              exact (oc (i := i) (by omega) (by omega)).2.1
          rw [List.length_cons, List.length_map] at cf
          have A8 : gl F (Str.ofString "cell" :: pr.map d5) ++ Str.ofString " " ++ d5 c = gl F (Str.ofString "cell" :: (pr ++ [c]).map d5) := by
            rw [List.map_append, <- List.cons_append, B3]; rfl
          generalize gl F (Str.ofString "cell" :: pr.map d5) = V at cf A8
          have a3 : V.length + (Str.ofString " ").length <= SZ := by rw [l1, fF]; omega
          have a4 : (V ++ Str.ofString " ").length + (d5 c).length <= SZ := by rw [YN, l1, fF]; omega
          refine ⟨_, by simp only [Den.aU, Nat.reduceAdd, vp, if_pos a3, b2, if_pos a4]; rfl, some (.int c), by rw [A8]⟩)
      rw [e2, Mw]
      refine ⟨_, by simp only [Den.aU, Nat.reduceAdd]; rfl, some (aK t), bt, ?_⟩
      rw [Zl, B3, qO]
      simp [wT])
  rw [e, he]
  simp only [Den.aU, Nat.reduceAdd]
  rfl
theorem FU:∀ws:List Str,strsOf (ws.map .str)=some ws
 |[]=>rfl
 |w::ws=>by simp only[WA,strsOf,FU ws,Option.map_some]
theorem FW{k:Nat}:∀ws:List Str,(∀w∈ws,w.length<=k)->oi ws<=ws.length*k
 |[],_=>by simp[oi]
 |w::ws,h=>by
  have aa:=FW ws λz hz=>h z (List.mem_cons_of_mem _ hz)
  have h2:=h w List.mem_cons_self;unfold oi at *;simp only[WA,List.sum_cons,List.length_cons,Zo];omega
def Ot{ws:List Str}(h:∀w∈ws,w.length<=4)(au:ws.length<=1000):tL .join (.str sp) (.lst (ws.map .str))=.ok (.str (Str.join sp ws)):=by
 show rf sp (ws.map .str)=_;unfold rf;rw[FU];have aa:=FW ws h;have h3:sp.length=1:=by decide +kernel
 dsimp only;rw[if_pos (by rw[h3,fF];omega)]
noncomputable def lE(d:D):R D:=if dA d then(match d with|.tup [.int m,.tup ts]=>.ok (.str (txt m (ts.map rV)))|_=>.bad) else .exc 1
def GR{m:Int}{ts:List (List Int)}(h:dA (d4 m ts)=true):lE (d4 m ts)=.ok (.str (txt m ts)):=by
 unfold lE;rw[if_pos h];show R.ok (D.str (txt m ((ts.map aK).map rV)))=_;rw[UI]
def U9 {fn : Nat} {d : D} (aw : Φ fn [d] = .ok (.av (dA d))) (hf : hn d) : dc pg Φ ⟨1, 2, bh.vS fn 1⟩ [d] = lE d := by
  simp only [Den.aU, Nat.reduceAdd, bh.vS, aw]
  cases q : dA d
  · rw [show lE d = R.exc 1 by unfold lE; rw [q]; rfl]; simp only [Den.aU, Nat.reduceAdd]
  · obtain ⟨m, ts, rfl, aa, ea, aj, aW, aL⟩ := (tw d).mp q
    have au : ts.length <= 75 := by
      have := hf m ts rfl aj
      have e : (cv ts).length = ts.length := by
        have h2 := Gv ts
        have h3 : ts.length <= (cv ts).length := by
          conv => lhs; rw [aW]
          unfold eP
          have := X5 (fun c => !((cp lexLt (cv ts)).filter fun o => decide (c.length < o.length)).any (lies c)) (cp lexLt (cv ts))
          rw [pz] at this; exact this
        have h4 := oU ts
        omega
      omega
    rw [GR q]
    have iN : gE (d4 m ts) (.int 0) = .ok (.int m) := rfl
    have dI : gE (d4 m ts) (.int 1) = .ok (.tup (ts.map aK)) := rfl
    obtain ⟨hC, m2, m3⟩ := oc (i := m) (by omega) (by omega)
    simp only [Den.aU, Nat.reduceAdd, iN, dI, m3]
    obtain ⟨c7, e, x, he⟩ := mc (f := aK) (g := turn pg Φ 0 [2] (.cons (.app 1 (.lit (.str (Str.ofString "cell")))) (.cons (.ext 1 (.comp (.prim .str (.var 3)) 0 (.seq (.var 2)) (.none))) (.nil))))
      (fun br J => ∃ (x : Option D), J = [some (d4 m ts), some (.lst ((Str.ofString "net" :: d5 m :: br.flatMap wT).map .str)), x])
      ts [some (d4 m ts), some (.lst [.str (Str.ofString "net"), .str (d5 m)]), none] ⟨none, rfl⟩ (fun pre t post J ax ⟨x, dw⟩ => by
        subst dw
        have pv : IsCell m t := aj t (by rw [ax]; simp)
        have ej : pre.length + 1 <= ts.length := by rw [ax]; simp
        have h3 := wM (m := m) (ts := pre) (by omega) fun t aW => aj t (by rw [ax]; simp [aW])
        have Ny := lV pv
        generalize qO : pre.flatMap wT = F at h3 ⊢
        have a1 : ((Str.ofString "net" :: d5 m :: F).map D.str).length < SZ := by rw [List.length_map, fF]; simp only [List.length_cons]; omega
        have a2 : ((Str.ofString "net" :: d5 m :: F).map D.str ++ [D.str (Str.ofString "cell")]).length + ((t.map fun c => D.str (d5 c))).length <= SZ := by
          rw [Wu, List.length_map, List.length_map, fF]; simp only [List.length_cons, List.length_nil]; omega
        have e1 : ∀ a b c, cJ (elem pg Φ [a, b, c] (.prim .str (.var 3)) 0 .none) (t.map .int) = .ok (t.map fun c => D.str (d5 c)) := fun a b c => l6 fun k aq => by
          have aq := pv.2.1 k aq
          simp only [Den.aU, Nat.reduceAdd, (oc (i := k) (by omega) (by omega)).2.2]
        have b7 : dt (aK t) = .ok (t.map .int) := rfl
        refine ⟨_, by simp only [Den.aU, Nat.reduceAdd, qr, if_pos a1, b7, e1, Bu, if_pos a2]; rfl, some (aK t), ?_⟩
        rw [Zl, qO]
        simp [wT, Function.comp_def])
    rw [e, he]
    have aG := Ot (ws := Str.ofString "net" :: d5 m :: ts.flatMap wT) (fun w hw => by
      rcases Wo.mp hw with rfl | hw
      · decide +kernel
      · rcases Wo.mp hw with rfl | hw
        · exact m2
        · exact (wN (by omega) aj w hw).2) (by have := wM (m := m) (ts := ts) (by omega) aj; simp only [List.length_cons]; omega)
    rw [B5] at aG
    unfold sp at aG
    simp only [Den.aU, Nat.reduceAdd, KR, aG]
    rfl
end eI
end
section
namespace se
open Den bH ez eI ep
variable{pg:cI}{Φ:cV}
def RC{jP:Nat}{d:D}(b3:pg.up 1=[1,0,1000])(h:Φ jP [d]=.exc 1):dc pg Φ ⟨1,0,bh.vJ jP 1⟩ [d]=.ok (.av true):=by
 simp only[Den.aU,Nat.reduceAdd,bh.vJ,h,jd,b3];rfl
def Iw{jP:Nat}{d:D}(b3:pg.up 1=[1,0,1000])(h:Φ jP [d]=.exc 1):dc pg Φ ⟨1,2,bh.vK jP 2 3 4 5 1 0⟩ [d]=.ok (.av true):=by
 simp only[Den.aU,Nat.reduceAdd,bh.vK,h,jd,ya,tj,b3];rfl
def OO {jP wX wW cz fr fs mb BK : Nat} {is : List Int} (b3 : pg.up 1 = [1, 0, 1000])
    (kX : ∀ k : Nat, ∃ r : Int, 0 <= r /\ r < m6 /\ Φ mb [.lst (is.map .int), .int (k : Int)] = .ok (.int r))
    (dG : ∀ i : Int, 0 <= i -> ∃ m ts, Φ BK [.int i, .int 8] = .ok (d4 m ts) /\ Net m ts /\ ts.length <= 70)
    (ag : ∀ (eB n : Nat) (d : D) (i : Int), eB <= 3 -> cl 72 n d = true -> 0 <= i -> ∃ r, Φ fs [d, .int i, .int (eB : Int)] = .ok r /\ d8 (n + 6) r)
    (MY : ∀ d, cK 150 50 d = true -> hn d -> Φ wW [d] = .ok (.av (dA d)))
    (aZ : ∀ d, hn d -> dA d = false -> Φ fr [d] = .ok (.av true)) (ae : ∀ d, hn d -> dA d = false -> Φ cz [d] = .ok (.av true))
    (hw : ∀ d, hn d -> Φ jP [d] = lE d) (M0 : ∀ m ts, 0 <= m -> m <= 9 -> (∀ t ∈ ts, IsCell m t) -> ts.length <= 75 -> Φ wX [d4 m ts] = .ok (.str (txt m ts))) :
    dc pg Φ ⟨1, 3, bh.sq jP wX wW cz fr fs mb BK⟩ [.lst (is.map .int)] = .ok (.av true) := by
  obtain ⟨h6, a0, _, e0⟩ := kX 0
  obtain ⟨aE, a1, _, e1⟩ := kX 1
  obtain ⟨aX, a2, _, e2⟩ := kX 2
  have e0 : Φ mb [.lst (is.map .int), .int 0] = .ok (.int h6) := e0
  have e1 : Φ mb [.lst (is.map .int), .int 1] = .ok (.int aE) := e1
  have e2 : Φ mb [.lst (is.map .int), .int 2] = .ok (.int aX) := e2
  obtain ⟨m, ts, nu, bq, Vw⟩ := dG h6 a0
  have lo := bq.lo
  have hi := bq.hi
  have fI := g0 (aE / 3) (b := 4) (by decide)
  obtain ⟨eB, xI⟩ : ∃ eB : Nat, (eB : Int) = aE / 3 % 4 := ⟨(aE / 3 % 4).toNat, by omega⟩
  have c0 : cl 72 3 (d4 m ts) = true := I5 (by omega) bq.hi (by omega) (by omega) bq.cell
  obtain ⟨r, wF, FN⟩ := ag eB 3 (d4 m ts) aX (by omega) c0 a2
  have tail : ∀ d, cK 150 50 d = true -> hn d -> jO (ei pg Φ [some (.lst (is.map .int)), some d, some (.int aE), none] (.cons (.iff (.not (.call wW (.cons (.var 1) (.nil)))) (.cons (.iff (.cmp .eq (.bin .mod (.bin .fdiv (.var 2) (.lit (.int 12))) (.lit (.int 2))) (.lit (.int 0))) (.cons (.ret (.call fr (.cons (.var 1) (.nil)))) (.nil)) (.nil)) (.cons (.ret (.call cz (.cons (.var 1) (.nil)))) (.nil))) (.nil)) (.cons (.asg 3 (.call jP (.cons (.var 1) (.nil)))) (.cons (.ret (.and (.prim (.inst .str) (.var 3)) (.and (.cmp .eq (.var 3) (.call wX (.cons (.var 1) (.nil)))) (.cmp .eq (.call jP (.cons (.var 1) (.nil))) (.var 3))))) (.nil))))) = .ok (.av true) := fun d g f => by
    have aD := MY d g f
    cases q : dA d
    · rw [q] at aD
      cases k : (aE / 12 % 2 == 0)
      · simp only [Den.aU, Nat.reduceAdd, aD, hL aE 12 (by decide) (by decide), ec (aE / 12) 2 (by decide), k, ae d f q]
      · simp only [Den.aU, Nat.reduceAdd, aD, hL aE 12 (by decide) (by decide), ec (aE / 12) 2 (by decide), k, aZ d f q]
    · obtain ⟨cN, f9, rfl, aa, ea, aj, aW, aL⟩ := (tw d).mp q
      have au : f9.length <= 75 := by
        have := f cN f9 rfl aj
        have h3 : f9.length <= (cv f9).length := by
          conv => lhs; rw [aW]
          unfold eP
          have := X5 (fun c => !((cp lexLt (cv f9)).filter fun o => decide (c.length < o.length)).any (lies c)) (cp lexLt (cv f9))
          rw [pz] at this; exact this
        omega
      have aO := hw _ f
      rw [GR q] at aO
      have bE := M0 cN f9 (by omega) (by omega) aj au
      have aT := UC (m := cN) (ts := f9) (by omega) (by omega) aj
      have dI : hU pg.up (.str (txt cN f9)) .str = .ok true := rfl
      have cb : fk (.str (txt cN f9)) (.str (txt cN f9)) = .ok true := by
        have ag : cD 60 (.str (txt cN f9)) = true := aT
        unfold fk
        rw [ag]
        show R.ok (txt cN f9 == txt cN f9) = _; simp
      rw [q] at aD
      simp only [Den.aU, Nat.reduceAdd, aD, aO, dI, bE, cb]
  cases k : (aE % 3 == 1)
  · have g : cK 150 50 (d4 m ts) = true := kQ (by omega) (by omega : 4 < 50) (kQ (Wm _) (by omega : 3 < 4) (sz 3 _ c0))
    have f : hn (d4 m ts) := fun cN f9 e _ => by
      unfold d4 at e
      injection e with e
      simp only [Z2, D.int.injEq, D.tup.injEq, and_true] at e
      have : f9.length = ts.length := by have := XQ List.length e.2; simpa using this.symm
      have := oU f9
      omega
    have := tail _ g f
    simp only [Den.aU, Nat.reduceAdd, bh.sq, e0, e1, nu, ec aE 3 (by decide), k] at this ⊢
    exact this
  · have := tail r (kQ (Wm _) (by omega) FN.g) FN.hn
    simp only [Den.aU, Nat.reduceAdd, bh.sq, e0, e1, e2, nu, ec aE 3 (by decide), k, hL aE 3 (by decide) (by decide), ec (aE / 3) 4 (by decide), <- xI, wF] at this ⊢
    exact this
end se
namespace se
open Den bH ez eI ep
def ew{f:Nat}{fd:fz}(h:fds[f]?=some fd)(n:Nat)(ds:List D):run pg fds (n+1) f ds=dc pg (run pg fds n) fd ds:=by rw[ob,h]
noncomputable abbrev c5(n:Nat):cV:=run pg fds n
def Gd(n:Nat)(d:D):c5 (n+1) 0 [d]=.ok (.av (hA d)):=(ew (f:=0) rfl n _).trans (N8 d)
def T8(n:Nat)(d:D):c5 (n+2) 1 [d]=.ok (.av (nR d)):=(ew (f:=1) rfl _ _).trans (N5 (Gd n) rfl d)
def Ug(n:Nat)(c:List Int):c5 (n+1) 2 [aK c]=.ok (.av (hj ltI c)):=(ew (f:=2) rfl n _).trans (N7 (f:=D.int) (lt:=ltI) (λa b=>rfl) c)
def T1(n:Nat)(d:D)(m:Int):c5 (n+2) 3 [d,.int m]=.ok (.av (eL m d)):=(ew (f:=3) rfl _ _).trans (N4 (Gd n) (Ug n) d m)
def T2(n:Nat)(d:D)(m:Int):c5 (n+3) 4 [d,.int m]=.ok (.av (kB m d)):=(ew (f:=4) rfl _ _).trans (HG (T1 n) d m)
def F9(n:Nat)(c o:List Int):c5 (n+1) 5 [aK c,aK o]=.ok (.av (lies c o)):=(ew (f:=5) rfl n _).trans (O5 c o)
def Uc(n:Nat)(c:List Int)(os:List (List Int)):c5 (n+2) 6 [aK c,.tup (os.map aK)]=.ok (.av (os.any (lies c))):=(ew (f:=6) rfl _ _).trans (Dw (F9 n) c rfl)
def Ud(n:Nat)(c:List Int)(os:List (List Int)):c5 (n+2) 6 [aK c,.lst (os.map aK)]=.ok (.av (os.any (lies c))):=(ew (f:=6) rfl _ _).trans (Dw (F9 n) c rfl)
def Uk(n:Nat)(ts:List (List Int))(aw:∀c∈ts,c≠[])(h:(cv ts).length<=75):c5 (n+3) 7 [.tup (ts.map aK)]=.ok (.tup ((eP ts).map aK)):=(ew (f:=7) rfl _ _).trans (UM (Ud n) rfl aw h)
def T9(n:Nat)(ts:List (List Int))(m:Int)(h0:0<=m)(ea:m<=8):c5 (n+3) 8 [.tup (ts.map aK),.int m]=.ok (.av (eA m ts)):=(ew (f:=8) rfl _ _).trans (Pj (Uc n) ts h0 ea)
def Ub(n:Nat)(d:D)(h:hn d):c5 (n+4) 9 [d]=.ok (.av (dA d)):=(ew (f:=9) rfl _ _).trans (N6 (T8 (n+1)) (T2 n) (Uk n) (T9 n) d h)
def zA(n:Nat)(d:D)(h:hn d):c5 (n+5) 10 [d]=lE d:=(ew (f:=10) rfl _ _).trans (U9 (Ub n d h) h)
def TZ(n:Nat)(is:List Int)(k:Nat):c5 (n+1) 11 [.lst (is.map .int),.int (k:Int)]=.ok (.int (is.getD k 0)):=(ew (f:=11) rfl _ _).trans (IT is k)
def Ua(n:Nat)(is:List Int)(k:Nat):∃r:Int,0<=r/\r<m6/\c5 (n+2) 12 [.lst (is.map .int),.int (k:Int)]=.ok (.int r):=by
 obtain⟨r,a,b,e⟩:=Pp (pg:=pg) (TZ n is) k;exact⟨r,a,b,(ew (f:=12) rfl _ _).trans e⟩
def T3(n:Nat)(i k:Int):∃r:Int,0<=r/\r<m6/\c5 (n+1) 13 [.int i,.int k]=.ok (.int r):=by
 obtain⟨r,a,b,e⟩:=J5 (pg:=pg) (Φ:=c5 n) i k;exact⟨r,a,b,(ew (f:=13) rfl _ _).trans e⟩
def Ga(n:Nat)(c o:List Int):c5 (n+1) 14 [aK c,aK o]=.ok (.av (lies c o)):=(ew (f:=14) rfl n _).trans (OT c o)
def Ui(n:Nat)(ts:List (List Int))(aw:∀c∈ts,c≠[])(h:(cv ts).length<=75):c5 (n+2) 15 [.tup (ts.map aK)]=.ok (.tup ((lg ts).map aK)):=(ew (f:=15) rfl _ _).trans (Dl (Ga n) rfl aw h)
def Uj(n:Nat)(ts:List (List Int))(aw:∀c∈ts,c≠[])(h:(cv ts).length<=75):c5 (n+2) 15 [.lst (ts.map aK)]=.ok (.tup ((lg ts).map aK)):=(ew (f:=15) rfl _ _).trans (Dl (Ga n) rfl aw h)
def Ue(n s:Nat)(c:List Int)(ag:s<=8)(aj:c.length<=8):c5 (n+9) 16 [aK c,.int (s:Int)]=.ok (.lst ((da s c).map aK)):=Ek (fds:=fds) (f:=16) rfl s (n+9) c (by omega) aj
def Uh(n:Nat)(i m:Int)(aa:1<=m)(ea:m<=8):∃cs:List (List Int),c5 (n+2) 17 [.int i,.int m]=.ok (.lst (cs.map aK))/\(∀c∈cs,IsCell m c)/\eA m cs=true/\cs.length<=16:=by
 obtain⟨cs,e,r⟩:=S9 (pg:=pg) (T3 n) i m aa ea;exact⟨cs,(ew (f:=17) rfl _ _).trans e,r⟩
def T7(n:Nat)(i:Int)(h0:0<=i):∃m ts,c5 (n+10) 18 [.int i,.int 8]=.ok (d4 m ts)/\Net m ts/\ts.length<=70:=by
 obtain⟨m,ts,e,r⟩:=PC (pg:=pg) (Φ:=c5 (n+9)) (Uj (n+7)) (Ue n) (Uh (n+7)) i h0;exact⟨m,ts,(ew (f:=18) rfl _ _).trans e,r⟩
def Gb(n:Nat)(d:D)(lo hi:Int):c5 (n+1) 19 [d,.int lo,.int hi]=.ok (.av (gn lo hi d)):=(ew (f:=19) rfl n _).trans (PT d lo hi)
def T5(n:Nat)(d:D)(m:Int)(h:cK 150 50 d=true):c5 (n+2) 20 [d,.int m]=.ok (.av (eL m d)):=(ew (f:=20) rfl _ _).trans (OR (Gb n) d m (LO (by omega) h))
def T6(n:Nat)(d:D)(h:cK 150 50 d=true)(hf:hn d):c5 (n+3) 21 [d]=.ok (.av (dA d)):=(ew (f:=21) rfl _ _).trans (OS (Gb (n+1)) (T5 n) (Ui n) d h (by omega) hf)
def GS{d:D}(h:dA d=false):lE d=.exc 1:=by unfold lE;rw[h];rfl
def T4(is:List Int):run pg fds 21 27 [.lst (is.map .int)]=.ok (.av true) :=
 (ew (f:=27) rfl _ _).trans (OO rfl (Ua 18 is) (T7 10) (λeB n d i h aj h0=>FL (fds:=fds) (fo:=22) (fs:=23) rfl rfl eB 20 n d i (by omega) aj h0) (T6 17)
  (λd f q=>(ew (f:=25) rfl 19 _).trans (RC rfl ((zA 14 d f).trans (GS q)))) (λd f q=>(ew (f:=26) rfl 19 _).trans (Iw rfl ((zA 14 d f).trans (GS q))))
  (zA 15) (λm ts h0 ht aj au=>(ew (f:=24) rfl 19 _).trans (OV h0 ht aj au)))
end se
end
section
namespace dN
open PySem
noncomputable def fr(l:List Env):List Addr:=l.filterMap (·.frame)
noncomputable def fH(cls:Nat->Option Addr)(c:Nat)(e:Value)(l:List Addr)(h:Heap):Prop :=
 ∃a8 C cn ai,e=.ref a8/\cls c=some C/\h.get? a8=some cn/\cn.cls=.ref C/\cn.data=.fields ai/\ai[2]?=some .none /\
  ((l=[a8]/\ai[1]?=some .none)\/∃T jv ts,l=[a8,T]/\ai[1]?=some (.ref T)/\T≠a8/\h.get? T=some jv/\jv.data=.fields ts/\ts[3]?=some .none)
def Un{s:Shared}{base:Heap}{l:List Env}{a:Addr}{o:Obj}{ai:Array Value}(au:s.heap.FunFrames base l)(he:s.heap.get? a=some o)(hd:o.data=.fields ai):a∉fr l:=λhm=>by
 obtain⟨_,bO,q,aw⟩:=au.mem hm;rw[he]at q;cases q;exact aw ai hd
def entry{M:Model}{A:Around}{E:Value->Shared->Prop}{s:Shared}{env:Env}{outer:List Env}{L a8:Addr}{base:Heap}{cn:Obj}{ai:Array Value}{head:Value}{b6:Bool}{Q:Unit->Shared->Prop}(mf:A.frames=some (env::outer))(au:s.heap.FunFrames base (env::outer))(hf:env.frame=some L)(he:s.heap.get? a8=some cn)(hd:cn.data=.fields ai)(hz:1<ai.size)(k:∀h' T jv ts,h'.get? a8=some (cn.mapFields (·.setIfInBounds 1 (.ref T)))->T≠a8->s.heap.get? T=none->h'.get? T=some jv->jv.data=.fields ts->3<ts.size ->
   (∀b o,s.heap.get? b=some o->b≠a8->b∉fr (env::outer)->h'.get? b=some o)->(∀b o,s.heap.get? b=some o->b≠a8->∃bl,h'.get? b=some { o with slots:=bl })->Q () { s with heap:=h' }):
  wpAny M A (do let a <- frameOf env;let bW <- entryPlaceOf L b6;let b <- EntryCells.newEntry head a .none (rawInt L) .none bW;setField (.ref a8) 1 b) Q E s:=by
 refine Wh (wpAny_frameOf_fun mf au hf λg1 ⟨c6,cO,dK⟩=>Wh (wpAny_entryPlaceOf λbW ej=>?_))
 unfold EntryCells.newEntry newFields;have e1:g1.get? a8=some cn:=(cO a8 (Un au he hd)).trans he;have ne:g1.objs.size≠a8:=Yy (Wl e1);refine Wh (WG (XD (Wj _ e1) hd hz (k _ g1.objs.size _ _ (WW _ (Wj _ e1) (Ys (XU hd _))) ne ?_ ((WK _ _ ne.symm).trans (Wq g1 rfl)) rfl ?_ (λb o q ae aw=>?_) λb o q ae=>?_)) (ej.sizeOk5 _ _ _ _ _))
 .cases q:s.heap.get? g1.objs.size with
  |none=>rfl
  |some o=>exact absurd (Wl q) (by rw[c6];exact Xz _)
 .simp
 .rw[WK _ _ (XB ae)];exact Wj _ ((cO b aw).trans q)
 .obtain⟨bl,cB⟩:=dK b o q;exact⟨bl,by rw[WK _ _ (XB ae)];exact Wj _ cB⟩
def note {M : Model} {A : Around} {E : Value -> Shared -> Prop} {s : Shared} {env : Env} {outer : List Env} {L : Addr} {base : Heap} {cls : Nat -> Option Addr} {c : Nat} {e : Value} {l : List Addr} {Q : Unit -> Shared -> Prop}
    (mf : A.frames = some (env :: outer)) (au : s.heap.FunFrames base (env :: outer)) (hf : env.frame = some L) (af : fH cls c e l s.heap)
    (k : ∀ h' fu, fH cls c e fu h' -> (∀ a ∈ fu, a ∈ l \/ s.heap.get? a = none) -> (∀ b o, s.heap.get? b = some o -> b ∉ l -> b ∉ fr (env :: outer) -> h'.get? b = some o) ->
      (∀ b o, s.heap.get? b = some o -> b ∈ fr (env :: outer) -> ∃ bl, h'.get? b = some { o with slots := bl }) -> Q () { s with heap := h' }) :
    wpAny M A (noteFrame e env) (fun _ s2 => wpAny M A (setFlight e none) Q E s2) E s := by
  obtain ⟨a8, C, cn, ai, rfl, aj, he, c0, hd, h2, aZ⟩ := af
  have hz : 1 < ai.size := Nat.lt_trans (by decide) (WO.mp h2).1
  have fin : ∀ {h0 aa : Heap} {T : Addr} {jv : Obj} {ts : Array Value}, (∀ b o, s.heap.get? b = some o -> b ∉ l -> h0.get? b = some o) -> a8 ∈ l -> aa.get? a8 = some (cn.mapFields (·.setIfInBounds 1 (.ref T))) -> T ≠ a8 -> s.heap.get? T = none -> aa.get? T = some jv -> jv.data = .fields ts -> 3 < ts.size ->
      (∀ b o, h0.get? b = some o -> b ≠ a8 -> b ∉ fr (env :: outer) -> aa.get? b = some o) -> (∀ b o, h0.get? b = some o -> b ≠ a8 -> ∃ bl, aa.get? b = some { o with slots := bl }) -> (∀ b, b ∈ l -> ∀ o, s.heap.get? b = some o -> ∃ ws, o.data = .fields ws) -> wpAny M A (setFlight (.ref a8) none) Q E { s with heap := aa } := by
    intro h0 aa T jv ts k0 iJ aD aO bE cb gp mG h1 rI Rm
    have dg := XU hd (·.setIfInBounds 1 (Value.ref T))
    have v1 : (ai.setIfInBounds 1 (Value.ref T))[1]? = some (Value.ref T) := by simp [hz]
    have v2 : (ai.setIfInBounds 1 (Value.ref T))[2]? = some Value.none := by rw [Array.getElem?_setIfInBounds_ne (by decide)]; exact h2
    have nl : ∀ b o, s.heap.get? b = some o -> b ∈ fr (env :: outer) -> b ∉ l := fun b o q ae hm => by
      obtain ⟨_, bO, cB, aw⟩ := au.mem ae
      rw [q] at cB; cases cB
      obtain ⟨ws, hw⟩ := Rm b hm o q
      exact aw ws hw
    have DS : ∀ b o, s.heap.get? b = some o -> b ≠ T := fun b o q z => by rw [z, bE] at q; cases q
    have mD : ∀ b, b ≠ T -> (aa.update T (Obj.mapFields (·.setIfInBounds 3 ((none : Option Addr).elim Value.none fun f => rawInt f)))).get? b = aa.get? b := fun b ae => WK _ _ (XB ae)
    unfold setFlight
    refine Wh (WX aD dg v1 ?_)
    rw [if_pos (show (Value.ref T != Value.none) = true from by simp)]
    refine XD cb gp mG (k _ [a8, T] ⟨a8, C, _, _, rfl, aj, (mD a8 (XB aO)).trans aD, (Obj.cls_mapFields _ _).trans c0, dg, v2, .inr ⟨T, _, _, rfl, v1, aO, WW _ cb (Ys (XU gp _)), XU gp _, by simp [mG]⟩⟩ (fun a aC => ?_) (fun b o q ae aw => ?_) fun b o q ae => ?_)
    · rcases Wo.mp aC with rfl | aC
      · exact .inl iJ
      · obtain rfl : a = T := by simpa using aC
        exact .inr bE
    · exact (mD b (DS b o q)).trans (h1 b o (k0 b o q ae) (fun z => ae (by rw [z]; exact iJ)) aw)
    · have hm := nl b o q ae
      obtain ⟨bl, z⟩ := rI b o (k0 b o q hm) fun z => hm (by rw [z]; exact iJ)
      exact ⟨bl, (mD b (DS b o q)).trans z⟩
  unfold noteFrame
  simp only [hf]
  rcases aZ with ⟨rfl, aa⟩ | ⟨T, jv, ts, rfl, aa, xu, cR, nF, h3⟩
  · refine Wh (WX he hd aa ?_)
    rw [if_neg (by decide)]
    refine entry mf au hf he hd hz fun h' lO PX f9 aD aO bE cb gp mG h1 rI => fin (h0 := s.heap) (fun b o q _ => q) (by simp) aD aO bE cb gp mG h1 rI fun b ae o q => ?_
    obtain rfl : b = a8 := by simpa using ae
    rw [he] at q; cases q
    exact ⟨ai, hd⟩
  · refine Wh (WX he hd aa ?_)
    rw [if_pos (show (Value.ref T != Value.none) = true from by simp)]
    refine Wh (WX cR nF h3 ?_)
    rw [if_neg (show ¬ ((Value.none == rawInt L) = true) from by simp [rawInt])]
    refine Wh (XD cR nF (WO.mp h3).1 ?_)
    have mD : ∀ b, b ≠ T -> (s.heap.update T (Obj.mapFields (·.setIfInBounds 3 Value.none))).get? b = s.heap.get? b := fun b ae => WK _ _ (XB ae)
    have RB : ∀ b, b ∈ [a8, T] -> ∀ o, s.heap.get? b = some o -> ∃ ws, o.data = .fields ws := fun b ae o q => by
      rcases Wo.mp ae with rfl | ae
      · rw [he] at q; cases q; exact ⟨ai, hd⟩
      · obtain rfl : b = T := by simpa using ae
        rw [cR] at q; cases q; exact ⟨ts, nF⟩
    have iL : (s.heap.update T (Obj.mapFields (·.setIfInBounds 3 Value.none))).FunFrames base (env :: outer) := au.of_keeps fun b o q aw => ⟨o, (mD b fun z => by rw [z, cR] at q; cases q; exact aw ts nF).trans q, rfl⟩
    have Mi : ∀ lO, (s.heap.update T (Obj.mapFields (·.setIfInBounds 3 Value.none))).get? lO = none -> s.heap.get? lO = none := fun lO q => by
      by_cases z : lO = T
      · subst z
        rw [WW _ cR (Ys (XU nF _))] at q; cases q
      · rw [mD lO z] at q; exact q
    exact entry (s := { s with heap := s.heap.update T (Obj.mapFields (·.setIfInBounds 3 Value.none)) }) mf iL hf ((mD a8 (XB xu)).trans he) hd hz fun h' lO PX f9 aD aO bE cb gp mG h1 rI =>
      fin (h0 := s.heap.update T (Obj.mapFields (·.setIfInBounds 3 Value.none))) (fun b o q ae => (mD b fun z => ae (by simp [z])).trans q) (by simp) aD aO (Mi lO bE) cb gp mG h1 rI RB
def leave{M:Model}{A:Around}{E:Value->Shared->Prop}{s:Shared}{env:Env}{outer:List Env}{L:Addr}{base:Heap}{cls:Nat->Option Addr}{c:Nat}{e:Value}{l:List Addr}{Q:Unit->Shared->Prop}(mf:A.frames=some (env::outer))(au:s.heap.FunFrames base (env::outer))(hf:env.frame=some L)(af:fH cls c e l s.heap)(k:∀h' fu,fH cls c e fu h'->(∀a∈fu,a∈l\/s.heap.get? a=none)->(∀b o,s.heap.get? b=some o->b∉l->b∉fr (env::outer)->h'.get? b=some o) ->
   (∀b o,s.heap.get? b=some o->b∈fr (env::outer)->∃bl,h'.get? b=some { o with slots:=bl })->Q () { s with heap:=h' }):
  wpAny M A (leaving env e) Q E s:=by
 unfold leaving;exact Wh (note mf au hf af k)
def BE{M:Model}{A:Around}{E:Value->Shared->Prop}{s:Shared}{cls:Nat->Option Addr}{c:Nat}{e:Value}{l:List Addr}{Q:Unit->Shared->Prop}(af:fH cls c e l s.heap)(k:∀(h':Heap)(fu:List Addr),(∀a∈fu,a∈l/\e≠.ref a)->(∀b o,s.heap.get? b=some o->b∉fu->h'.get? b=some o)->Q () { s with heap:=h' }):wpAny M A (setFlight e none) Q E s:=by
 obtain⟨a8,C,cn,ai,rfl,aj,he,c0,hd,h0,aZ⟩:=af;rcases aZ with⟨rfl,aa⟩|⟨T,jv,ts,rfl,aa,xu,cR,nF,h3⟩
 .unfold setFlight;refine Wh (WX he hd aa ?_);rw[if_neg (by decide)]
  exact wpAny_pure (k s.heap [] (λ_ z=>nomatch z) λb o q _=>q)
 .unfold setFlight;refine Wh (WX he hd aa ?_);rw[if_pos (show(Value.ref T != Value.none)=true from by simp)]
  refine XD cR nF (WO.mp h3).1 (k _ [T] (λa aC=>?_) λb o q ae=>?_)
  .obtain rfl:a=T:=by simpa using aC
   exact⟨by simp,λz=>xu (Value.ref.inj z).symm⟩
  .rw[WK _ _ (λz=>ae (by simp[z]))];exact q
def made{cls:Nat->Option Addr}{c:Nat}{C e:Addr}{h h':Heap}{args:List Value}(aj:cls c=some C)(hm:Heap.MadeExcOf h h' e (.ref C) args):fH cls c (.ref e) [e] h':=by
 obtain⟨t,he,_,_⟩:=hm.there;exact⟨e,C,_,_,rfl,aj,he,rfl,rfl,rfl,.inl ⟨rfl,rfl⟩⟩
section
variable{prog:Program}{w:World}{A:Around}{E:Value->Shared->Prop}
variable{nm q:Str}{C N:Addr}{bs bm:List Value}{hdct:Bool}{sn:List Str}{sub:List Value}{ab:Bool}{col:Option Bool}{dd:Option Addr}{k0 k1 k2 k3 k5:Option Value}{newId:String}
def C6{s:Shared}{x:Addr}{fl:Obj}{c:Value}{dep:Int}{tk:Tok}{Q:Fin->Shared->Prop}(af:s.heap.get? x=some fl)(c0:fl.cls=.ref C)(dr:s.heap.get? C=some (excClassObj nm q C N bs bm hdct sn sub ab col dd k0 k1 k2 k3 k5 newId))(k4:∀{e7:Around}{dj:Value->Shared->Prop}{eS},dj (.type "type") s->wpAny (model prog w) e7 (typeOf c) dj eS s)(xR:∀{e7:Around}{dj:Bool->Shared->Prop}{eS},dj true s->wpAny (model prog w) e7 (isType c) dj eS s)(hm:(Value.ref C::bm).contains c=true)(h:Q (.done (.ret (.bool true))) s):wpAny (model prog w) A (Builtin.«isinstance.nested» ⟨[.ref x,c,.int dep tk],[]⟩) Q E s:=by
 obtain⟨h0,g,d,tt,os⟩:=s;have qg:∀{e7:Around}{dj:Value->Shared->Prop}{eS},dj (.ref C) ⟨h0,g,d,tt,os⟩->wpAny (model prog w) e7 (typeOf (.ref x)) dj eS ⟨h0,g,d,tt,os⟩:=λ{e7 dj eS} z=>by
  unfold typeOf
  repeat (first|(with_reducible refine Xk af ?_;rw[c0])|wp_step)
  exact z
 unfold Builtin.«isinstance.nested»;refine Wh (qg ?_)
 by_cases he:(Value.ref C==c)=true
 .rw[if_pos he];show wpAny (model prog w) A (pure _) Q E _;exact wpAny_pure h
 .rw[if_neg he];refine Wh (k4 ?_);rw[if_pos (by decide)]
  k_delta "plainIsInstance"
  refine Wh (Wh (xR ?_));simp only[XJ,Wk,WM];refine Wh ?_;unfold isInstance;refine Wh (qg ?_);refine XN dr ?_;rw[hm];simp only[Xl]
  first
   |exact wpAny_pure h
   |exact wpAny_pure (wpAny_pure h)
   |exact Wh (wpAny_pure (wpAny_pure h))
def Oa{s:Shared}{x D:Addr}{fl ju:Obj}{Q:Value->Shared->Prop}(af:s.heap.get? x=some fl)(c0:fl.cls=.ref C)(dr:s.heap.get? C=some (excClassObj nm q C N bs bm hdct sn sub ab col dd k0 k1 k2 k3 k5 newId))(d1:s.heap.get? D=some ju)(xo:ju.cls=.type "type")(xq:∃cd,ju.data=.cls cd)(hm:(Value.ref C::bm).contains (.ref D)=true)(h:Q (.bool true) s):wpAny (model prog w) A (call (.builtin "isinstance") [.ref x,.ref D]) Q E s:=by
 refine Z3 (S:=λ_ R s=>(s.heap.get? x=some fl/\s.heap.get? C=some (excClassObj nm q C N bs bm hdct sn sub ab col dd k0 k1 k2 k3 k5 newId)/\s.heap.get? D=some ju)/\R (.ok (.ret (.bool true))) s)
  (λ_ _ _ _ _ ag=>ZU (C6 ag.1.1 c0 ag.1.2.1 (λ{e7 dj eS} z=>?_) (λ{e7 dj eS} z=>?_) hm ag.2) (by intro q;cases q)) ⟨⟨af,dr,d1⟩,h⟩
 .have d1:=ag.1.2.2;rename_i s';obtain⟨h0,g,d,tt,os⟩:=s';unfold typeOf
  repeat (first|(with_reducible refine Xk d1 ?_;rw[xo])|wp_step)
  exact z
 .have d1:=ag.1.2.2;obtain⟨fe,c9,P1,eM⟩:=ju;obtain⟨cd,rfl⟩:=xq;unfold isType loadHead;exact Wh (Z7 d1 (wpAny_pure z))
def Ob{s:Shared}{x:Addr}{fl:Obj}{T:String}{Q:Value->Shared->Prop}(af:s.heap.get? x=some fl)(c0:fl.cls=.ref C)(dr:s.heap.get? C=some (excClassObj nm q C N bs bm hdct sn sub ab col dd k0 k1 k2 k3 k5 newId))(k4:typeOf (.type T)=pure (.type "type"))(hm:bm.contains (.type T)=true)(h:Q (.bool true) s):wpAny (model prog w) A (call (.builtin "isinstance") [.ref x,.type T]) Q E s:=by
 refine Z3 (S:=λ_ R s=>(s.heap.get? x=some fl/\s.heap.get? C=some (excClassObj nm q C N bs bm hdct sn sub ab col dd k0 k1 k2 k3 k5 newId))/\R (.ok (.ret (.bool true))) s)
  (λ_ _ _ _ _ ag=>ZU (C6 ag.1.1 c0 ag.1.2 (λ{e7 dj eS} z=>?_) (λ{e7 dj eS} z=>?_) (by rw[Yo,hm,Zq]) ag.2) (by intro q;cases q)) ⟨⟨af,dr⟩,h⟩
 .rw[k4];exact wpAny_pure z
 .exact wpAny_pure z
end
end dN
end
section
namespace dN
open PySem PySem.W
section
variable{prog:Program}{w:World}{A:Around}{E:Value->Shared->Prop}{h:Heap}{g:Array GenState}{d:Drawn}{t:Nat}{os:OsState}{a:Addr}{o:Obj}{K:Frag}{nm q:Str}{C N:Addr}{bs bm:List Value}{hdct:Bool}{sn:List Str}{sub:List Value}{ab:Bool}{col:Option Bool}{dd:Option Addr}{k0 k1 k2 k3 k5:Option Value}{newId:String}
def DJ{PI cB:Str}{D cm:Addr}{Iq vX:List Value}{Mt:Bool}{S8:List Str}{uw:List Value}{Ho:Bool}{Jj:Option Bool}{J3:Option Addr}{Ou Ov Ow Ox Oy:Option Value}{PF:String}{M:Model}{e:Addr}{cn:Obj}{Q:Bool->Shared->Prop}(dr:h.get? C=some (excClassObj nm q C N bs bm hdct sn sub ab col dd k0 k1 k2 k3 k5 newId))(d1:h.get? D=some (excClassObj PI cB D cm Iq vX Mt S8 uw Ho Jj J3 Ou Ov Ow Ox Oy PF))(he:h.get? e=some cn)(xG:cn.cls=.ref C)(xA:vX.contains (.type "BaseException")=true)(hm:(Value.ref C::bm).contains (.ref D)=true)(aF:Q true ⟨h,g,d,t,os⟩):wpAny M A (excMatches (.ref e) (.ref D)) Q E ⟨h,g,d,t,os⟩:=by
 have qR:(Value.ref D::vX).contains (.type "BaseException")=true:=by rw[Yo,xA,Zq]
 have f:=tc_notTuple;unfold excMatches
 repeat (first|(with_reducible refine Xk he ?_;rw[xG])|with_reducible refine Xk d1 ?_|(with_reducible refine XN d1 ?_;rw[qR])|(with_reducible refine XN dr ?_;rw[hm])|wp_step)
 exact aF
def Jc{R:Result->Shared->Prop}(dr:h.get? C=some (excClassObj nm q C N bs bm hdct sn sub ab col dd k0 k1 k2 k3 k5 newId))(d2:bm.contains (.type "object")=true)(af:h.get? a=some o)(aj:o.cls=.ref C)(aF:R (.ok (.ret (.ref C))) ⟨h,g,d,t,os⟩):
  codeAny (model prog w) A (.call (.builtin "getset_descriptor.__get__") ⟨[.builtin "object.__class__",.ref a,.ref C],[]⟩) R ⟨h,g,d,t,os⟩:=by
 have Cr:(⟨h,g,d,t,os⟩:Shared).TypeIs (.builtin "object.__class__") "getset_descriptor":=Y0;have qR:(Value.ref C::bm).contains (.type (".".intercalate ("object.__class__".cutAt '.').dropLast))=true:=by
  rw[F.owner_object_class,Yo,d2,Zq]
 refine Zb F.slot_gs_get.plain F.entry_gs_get (F.slot_gs_get.check _ _ _ _ _ _ _ _ Cr (F.args_gs_get _ _ _) ?_)
 repeat (any_goals (first|assumption|(with_reducible refine Xk af ?_;rw[aj])|(with_reducible refine XN dr ?_;rw[qR])|wp_step))
 refine⟨Zx _ (by decide +kernel),Xr F.entry_object_class ?_⟩
 repeat (any_goals (first|assumption|(with_reducible refine Xk af ?_;rw[aj])|wp_step))
def Ja{M:Model}{DT:Value}{Q:Unit->Shared->Prop}(dr:h.get? C=some (excClassObj nm q C N bs bm hdct sn sub ab col dd k0 k1 k2 k3 k5 newId))(gh:bm.contains (.type "BaseException")=true)(af:h.get? a=some o)(aj:o.cls=.ref C)(aF:Q () ⟨h,g,d,t,os⟩):wpAny M A (checkBuiltinCall "BaseException.__getattribute__" ⟨[.ref a,DT],[]⟩) Q E ⟨h,g,d,t,os⟩:=by
 have aq:builtinKind "BaseException.__getattribute__"=some .slot:=by decide +kernel
 have Nw:splitId "BaseException.__getattribute__"=some ("BaseException","__getattribute__"):=by decide +kernel
 have qR:(Value.ref C::bm).contains (.type "BaseException")=true:=by rw[Yo,gh,Zq]
 have aC:=F.args_bexc_ga (.ref a) DT;simp only[checkBuiltinCall,aq,Nw];refine Wh ?_
 .unfold isInstance
  repeat (first|(with_reducible refine Xk af ?_;rw[aj])|(with_reducible refine XN dr ?_;rw[qR])|wp_step)
  exact aF
def Jb{tk:Tok}{Q:Fin->Shared->Prop}(X:K.In h)(aa:findIn K (.ref C) "__class__"=some (some (.builtin "object.__class__")))(dr:h.get? C=some (excClassObj nm q C N bs bm hdct sn sub ab col dd k0 k1 k2 k3 k5 newId))(d2:bm.contains (.type "object")=true)(af:h.get? a=some o)(aj:o.cls=.ref C)(aF:Q (.done (.ret (.ref C))) ⟨h,g,d,t,os⟩):
  wpAny (model prog w) A (Builtin.«object.__getattribute__» ⟨[.ref a,.str "__class__" tk],[]⟩) Q E ⟨h,g,d,t,os⟩:=by
 have Cr:(⟨h,g,d,t,os⟩:Shared).TypeIs (.builtin "object.__class__") "getset_descriptor":=Y0;have eW:=Y0;have Vr:=F.slot_gs_get.lookup;have Vs:=F.slot_gs_set.lookup;have G9:=looks_findIn (M:=model prog w) X aa
 repeat (any_goals (first|assumption|(with_reducible refine Xk af ?_;rw[aj])|with_reducible refine Looks.at G9 ?_|wp_step))
 refine Jc dr d2 af aj ?_
 repeat (any_goals (first|assumption|wp_step))
def I9{tk:Tok}{Q:Value->Shared->Prop}(X:K.In h)(aa:findIn K (.ref C) "__class__"=some (some (.builtin "object.__class__")))(h2:findIn K (.ref C) "__getattribute__"=some (some (.builtin "BaseException.__getattribute__")))(h3:findIn K (.ref C) "__getattr__"=some none)(dr:h.get? C=some (excClassObj nm q C N bs bm hdct sn sub ab col dd k0 k1 k2 k3 k5 newId))(d2:bm.contains (.type "object")=true)(gh:bm.contains (.type "BaseException")=true)(af:h.get? a=some o)(aj:o.cls=.ref C)(aF:Q (.ref C) ⟨h,g,d,t,os⟩):wpAny (model prog w) A (getAttrBy (.ref a) (.str "__class__" tk) false) Q E ⟨h,g,d,t,os⟩:=by
 have dm:=F.excAttr_ValueError.ga.bind (.ref a);have q5:(Value.builtin "BaseException.__getattribute__"==Value.builtin "object.__getattribute__")=false:=by decide +kernel
 have tn:(onTheHeap (Value.ref C)&&Value.builtin "BaseException.__getattribute__"==Value.builtin "object.__getattribute__")=false:=by rw[q5];rfl
 have bx:=looks_findIn (M:=model prog w) X h2;have Ha:=looks_findIn (M:=model prog w) X h3
 repeat (any_goals (first|assumption|(with_reducible refine Xk af ?_;rw[aj])|with_reducible refine Looks.at bx ?_|with_reducible refine Looks.at Ha ?_|wp_step))
 refine Zb F.excAttr_ValueError.ga.plain F.entry_bexc_ga (Ja dr gh af aj (Jb X aa dr d2 af aj ?_))
 repeat (any_goals (first|assumption|wp_step))
def I8{Q:Option Value->Shared->Prop}(X:K.In h)(aa:findIn K (.ref C) "__class__"=some (some (.builtin "object.__class__")))(h2:findIn K (.ref C) "__getattribute__"=some (some (.builtin "BaseException.__getattribute__")))(h3:findIn K (.ref C) "__getattr__"=some none)(dr:h.get? C=some (excClassObj nm q C N bs bm hdct sn sub ab col dd k0 k1 k2 k3 k5 newId))(d2:bm.contains (.type "object")=true)(gh:bm.contains (.type "BaseException")=true)(af:h.get? a=some o)(aj:o.cls=.ref C)(aF:Q (some (.ref C)) ⟨h,g,d,t+1,os⟩):wpAny (model prog w) A (getAttr? (.ref a) "__class__") Q E ⟨h,g,d,t,os⟩:=by
 unfold getAttr? getAttrBy?
 repeat (any_goals (first|assumption|with_reducible apply I9 X aa h2 h3 dr d2 gh af aj|wp_step))
structure Plain(K:Frag)(C:Addr)(bm:List Value):Prop where
 a1:findIn K (.ref C) "__class__"=some (some (.builtin "object.__class__"))
 a2:findIn K (.ref C) "__getattribute__"=some (some (.builtin "BaseException.__getattribute__"))
 a3:findIn K (.ref C) "__getattr__"=some none
 d2:bm.contains (.type "object")=true
 gh:bm.contains (.type "BaseException")=true
def PB{c:Value}{dep:Int}{tk:Tok}{Q:Fin->Shared->Prop}(X:K.In h)(P:Plain K C bm)(dr:h.get? C=some (excClassObj nm q C N bs bm hdct sn sub ab col dd k0 k1 k2 k3 k5 newId))(af:h.get? a=some o)(aj:o.cls=.ref C)(k4:∀{e7:Around}{dj:Value->Shared->Prop}{eS},dj (.type "type") ⟨h,g,d,t,os⟩->wpAny (model prog w) e7 (typeOf c) dj eS ⟨h,g,d,t,os⟩)(xR:∀{e7:Around}{dj:Bool->Shared->Prop}{eS},dj true ⟨h,g,d,t,os⟩->wpAny (model prog w) e7 (isType c) dj eS ⟨h,g,d,t,os⟩)(hm:(Value.ref C::bm).contains c=false)(aF:Q (.done (.ret (.bool false))) ⟨h,g,d,t+1,os⟩):wpAny (model prog w) A (Builtin.«isinstance.nested» ⟨[.ref a,c,.int dep tk],[]⟩) Q E ⟨h,g,d,t,os⟩:=by
 have qg:∀{e7:Around}{dj:Value->Shared->Prop}{eS},dj (.ref C) ⟨h,g,d,t,os⟩->wpAny (model prog w) e7 (typeOf (.ref a)) dj eS ⟨h,g,d,t,os⟩:=λ{e7 dj eS} z=>by
  unfold typeOf
  repeat (first|(with_reducible refine Xk af ?_;rw[aj])|wp_step)
  exact z
 have he:¬(Value.ref C==c)=true:=λz=>by
  rw[Yo]at hm;have:=Xi.mp z;subst this;simp at hm
 unfold Builtin.«isinstance.nested»;refine Wh (qg ?_);rw[if_neg he];refine Wh (k4 ?_);rw[if_pos (by decide)]
 k_delta "plainIsInstance"
 refine Wh (Wh (xR ?_));simp only[XJ,Wk,WM];refine Wh ?_;unfold isInstance;refine Wh (qg ?_);refine XN dr ?_;rw[hm];simp only[Wk,WM];refine Wh (I8 X P.a1 P.a2 P.a3 dr P.d2 P.gh af aj ?_);refine Wh ?_;unfold isType loadHead;refine Wh (Z7 dr (wpAny_pure ?_));simp only[excClassObj,XJ,Wk,WM];refine Wh (XS ?_);refine XN dr ?_;rw[hm]
 first
  |exact wpAny_pure aF
  |exact wpAny_pure (wpAny_pure aF)
  |exact Wh (wpAny_pure (wpAny_pure aF))
def N9{s:Shared}{x D:Addr}{fl ju:Obj}{Q:Value->Shared->Prop}(X:K.In s.heap)(P:Plain K C bm)(af:s.heap.get? x=some fl)(c0:fl.cls=.ref C)(dr:s.heap.get? C=some (excClassObj nm q C N bs bm hdct sn sub ab col dd k0 k1 k2 k3 k5 newId))(d1:s.heap.get? D=some ju)(xo:ju.cls=.type "type")(xq:∃cd,ju.data=.cls cd)(hm:(Value.ref C::bm).contains (.ref D)=false)(h:Q (.bool false) { s with toks:=s.toks+1 }):wpAny (model prog w) A (call (.builtin "isinstance") [.ref x,.ref D]) Q E s:=by
 refine Z3 (S:=λ_ R s=>(K.In s.heap/\s.heap.get? x=some fl/\s.heap.get? C=some (excClassObj nm q C N bs bm hdct sn sub ab col dd k0 k1 k2 k3 k5 newId)/\s.heap.get? D=some ju)/\R (.ok (.ret (.bool false))) { s with toks:=s.toks+1 })
  (λ_ _ _ _ s' ag=>ZU ?_ (by intro q;cases q)) ⟨⟨X,af,dr,d1⟩,h⟩
 obtain⟨h0,g,d,tt,os⟩:=s';refine PB ag.1.1 P ag.1.2.2.1 ag.1.2.1 c0 (λ{e7 dj eS} z=>?_) (λ{e7 dj eS} z=>?_) hm ag.2
 .have d1:=ag.1.2.2.2;unfold typeOf
  repeat (first|(with_reducible refine Xk d1 ?_;rw[xo])|wp_step)
  exact z
 .have d1:=ag.1.2.2.2;obtain⟨fe,c9,P1,eM⟩:=ju;obtain⟨cd,rfl⟩:=xq;unfold isType loadHead;exact Wh (Z7 d1 (wpAny_pure z))
end
end dN
end
section
namespace dN
open PySem
def Kn:entryFor table "proto.unchain"=some Builtin.«proto.unchain»:=entryFor_of_tree (by kernel_rfl)
section
variable{prog:Program}{w:World}{A:Around}{E:Value->Shared->Prop}{s:Shared}
def Kk{k9 l x:Addr}{i:Nat}{items:Array Value}{fl:Obj}{ai:Array Value}{Q:Option Value->Shared->Prop}(bJ:A.handled=some (.ref x))(af:s.heap.get? x=some fl)(yd:fl.data=.fields ai)(q5:ai[2]?=some .none)(q6:x≠k9)(hit:s.heap.IsListIter k9 l i)(au:s.heap.IsList l items)(aw:items[i]?=none)(dh:∀h',(∀b o,b≠k9->s.heap.get? b=some o->h'.get? b=some o)->Q none { s with heap:=h' }):wpAny (model prog w) A (pyNext (.ref k9)) Q E s:=by
 obtain⟨o,du,jB,eO⟩:=id hit;obtain⟨V1,v1,_,Wc,v2⟩:=au;unfold pyNext;refine Wh (YH (W4 (name:=Str.ofString "__next__") hit.typeIs slot_listiter_next (Xb slot_listiter_next hit.typeIs entry_listiter_next ?_ (args_listiter_next _))));show wpAny _ _ (field (.ref k9) 0>>=_) _ _ s;refine Wh (WX du eO (x:=.ref l) rfl ?_);show wpAny _ _ (if (Value.ref l==Value.none)=true then _ else _) _ _ s;rw[if_neg (show ¬((Value.ref l==Value.none)=true) by simp)]
 refine Wh (WX du eO (x:=.int i 0) rfl (Wh (XC v1 v2 ?_)));simp only[Int.toNat_natCast,aw];refine Wh (XS (Wh (XD du eO (by simp) (Wh ?_))))
 simp only[newExc,newTuple];refine Wh (WG (Wh (m:=firstArgMember _ _) (Z4 (a:=Value.none) (by first|rfl|(simp only[firstArgMember];rfl)) (WG ?_ (by size_fits)))) (by size_fits))
 simp only[raiseNew];refine Wh (wpAny_handled ?_);rw[show A.in1.handled=some (.ref x) from bJ];have VX:x<s.heap.objs.size:=Wl af;generalize b3:s.heap.update k9 (Obj.mapFields λx=>x.setIfInBounds 0 Value.none)=h0
 have ow:h0.objs.size=s.heap.objs.size:=by rw[<- b3];exact(Xe ..).1
 have k0:∀b o,b≠k9->s.heap.get? b=some o->h0.get? b=some o:=λb o nb q=>by rw[<- b3];exact(WK _ _ (XB nb)).trans q
 generalize ax:h0.push { cls:=Value.type "tuple",data:=Data.seq #[] }=aa;have k1:∀b o,b≠k9->s.heap.get? b=some o->aa.get? b=some o:=λb o nb q=>by rw[<- ax];exact Wj _ (k0 b o nb q)
 have b6:x≠aa.objs.size:=WB (Wl (k1 x fl q6 af));dsimp only;rw[if_pos (show(Value.ref x != Value.ref aa.objs.size)=true by simp[b6])]
 refine Wh (XA (YW (Xr Kn ?_)));show wpAny _ _ (field (.ref x) 2>>=_) _ _ _;refine Wh (WX (Wj _ (k1 x fl q6 af)) yd q5 ?_);rw[if_pos (by decide)]
 refine wpAny_pure ?_;show wpAny _ _ (updateField aa.objs.size 2 (.ref x)>>=_) _ _ _;refine Wh (XD (a:=aa.objs.size) (i:=2) (x:=.ref x) (Wq aa rfl) rfl (by simp;omega) (wpAny_throw ?_))
 refine Wh (Y4 (T:="StopIteration") (b:=true) ⟨_,WW _ (Wq aa rfl) rfl,rfl⟩ Z5 ?_);refine wpAny_pure (dh _ λb o nb q=>?_)
 have:=k1 b o nb q;rw[WK _ _ (XB (WB (Wl this)))];exact Wj _ this
def U3{x:Addr}{fl:Obj}{ai:Array Value}(bJ:A.handled=some (.ref x))(yd:fl.data=.fields ai)(q5:ai[2]?=some .none)(I qu:Addr)(dG:qu≠I)(q6:x≠I)(items:Array Value):
  Walks prog w A I [I,qu,x] [I] items.size (λi v=>items[i]?=some v) (λi h=>(h.IsListIter I qu i/\h.IsList qu items)/\h.get? x=some fl) where
 sub:=λc aj=>by simp at aj;simp[aj]
 frame:=λ_ _ _ st aq=>⟨⟨st.1.1.at λo e=>aq I (by simp) o e,st.1.2.at λo e=>aq qu (by simp) o e⟩,aq x (by simp) _ st.2⟩
 item:=λi s Q E hi st dh=>wpAny_pyNext_list_item st.1.1 st.1.2 (x:=items[i]) (by simp[hi]) λh' a b =>
  dh _ h' s.toks (by simp[hi]) ⟨⟨a,st.1.2.extBut b.extBut dG⟩,b.extBut x _ q6 st.2⟩ λc o aj e=>b.extBut c o (λh=>aj (by simp[h])) e
 done:=λs Q E st dh=>Kk bJ st.2 yd q5 q6 st.1.1 st.1.2 (by simp) λh' q=>dh h' s.toks λb o ae e=>q b o (λh=>ae (by simp[h])) e
 self:=λ_ _ _ _ st dh=>wpAny_pyIter_listiter st.1.1 dh
end
end dN
end
section
namespace bD
open PySem PySem.Spec PyProof.Rows bx
noncomputable abbrev D:=Den.D
noncomputable abbrev a7:=Den.a7
noncomputable abbrev bp:=Den.R
noncomputable abbrev bQ:=List (Option V)
noncomputable def cY{α:Type}(r:bp α)(Q:α->Prop)(E:Nat->Prop):Prop:=match r with
 |.ok a=>Q a
 |.exc c=>E c
 |.bad=>False
def bo{α β:Type}{r:bp α}{f:α->bp β}{Q:β->Prop}{E:Nat->Prop}:cY (r>>=f) Q E<->cY r (λa=>cY (f a) Q E) E:=by
 cases r<;>exact Iff.rfl
def bT{α:Type}{r:bp α}{Q dj:α->Prop}{E eS:Nat->Prop}(h:cY r Q E)(aF:∀a,Q a->dj a)(he:∀c,E c->eS c):cY r dj eS:=by
 cases r with
 |ok a=>exact aF a h
 |exc c=>exact he c h
 |bad=>exact h
mutual
noncomputable def Rep (K:W.Frag) (G:az):D->V->Prop
 |.cM,v=>v=.cM
 |.av b,v=>v=.av b
 |.int i,v=>v=.int i
 |.str x,v=>v=.str x
 |.tup ds,v=>∃a xs,v=.ref a/\c4 K G a xs/\bu K G ds xs
 |.lst ds,v=>∃a xs,v=.ref a/\dF K G a xs/\bu K G ds xs
 |.eV _,_=>False
noncomputable def bu (K:W.Frag) (G:az):List D->List V->Prop
 |[],xs=>xs=[]
 |d::ds,xs=>∃v r,xs=v::r/\Rep K G d v/\bu K G ds r
end
section
variable{K:W.Frag}{G aP H ao:az}
def fw(s:bz G aP){a:Addr}{xs:List V}(h:c4 K G a xs):c4 K aP a xs:=by
 rcases h with(h|⟨o,h⟩)|h
 .exact .inl (.inl (s _ _ h))
 .exact .inl (.inr ⟨o,s _ _ h⟩)
 .exact .inr h
def kc(s:bz G aP){a:Addr}{xs:List V}(h:dF K G a xs):dF K aP a xs:=by
 rcases h with(h|⟨o,h⟩)|h
 .exact .inl (.inl (s _ _ h))
 .exact .inl (.inr ⟨o,s _ _ h⟩)
 .exact .inr h
mutual
theorem Rep.mono (s:bz G aP):∀{d:D}{v:V},Rep K G d v->Rep K aP d v
 |.cM,_,h=>h
 |.av _,_,h=>h
 |.int _,_,h=>h
 |.str _,_,h=>h
 |.tup ds,_,⟨a,xs,e,h,r⟩=>⟨a,xs,e,fw s h,bu.mono s r⟩
 |.lst ds,_,⟨a,xs,e,h,r⟩=>⟨a,xs,e,kc s h,bu.mono s r⟩
 |.eV _,_,h=>h
theorem bu.mono (s:bz G aP):∀{ds:List D}{xs:List V},bu K G ds xs->bu K aP ds xs
 |[],_,h=>h
 |d::ds,_,⟨v,r,e,aa,h2⟩=>⟨v,r,e,Rep.mono s aa,bu.mono s h2⟩
end
theorem bu.length:∀{ds:List D}{xs:List V},bu K G ds xs->ds.length=xs.length
 |[],_,h=>by cases h;rfl
 |d::ds,_,⟨v,r,e,aa,h2⟩=>by subst e;simp[bu.length h2]
theorem bu.append:∀{ds ah:List D}{xs ys:List V},bu K G ds xs->bu K G ah ys->bu K G (ds++ah) (xs++ys)
 |[],_,_,_,h,q=>by cases h;exact q
 |d::ds,_,_,_,⟨v,r,e,aa,h2⟩,q=>by subst e;exact⟨v,r++_,rfl,aa,bu.append h2 q⟩
theorem bu.get:∀{ds:List D}{xs:List V}{i:Nat}{d:D},bu K G ds xs->ds[i]?=some d->∃v,xs[i]?=some v/\Rep K G d v
 |[],_,_,_,h,e=>by simp at e
 |d::ds,_,0,_,⟨v,r,e,aa,h2⟩,q=>by subst e;simp at q;subst q;exact⟨v,rfl,aa⟩
 |d::ds,_,i+1,_,⟨v,r,e,aa,h2⟩,q=>by subst e;simpa using bu.get h2 (by simpa using q)
theorem bu.drop:∀{ds:List D}{xs:List V}(n:Nat),bu K G ds xs->bu K G (ds.drop n) (xs.drop n)
 |_,_,0,h=>by simpa using h
 |[],_,n+1,h=>by cases h;simp[bu]
 |d::ds,_,n+1,⟨v,r,e,aa,h2⟩=>by subst e;simpa using bu.drop n h2
theorem bu.take:∀{ds:List D}{xs:List V}(n:Nat),bu K G ds xs->bu K G (ds.take n) (xs.take n)
 |_,_,0,h=>by simp[bu]
 |[],_,n+1,h=>by cases h;simp[bu]
 |d::ds,_,n+1,⟨v,r,e,aa,h2⟩=>by subst e;exact⟨v,r.take n,by simp,aa,bu.take n h2⟩
def bu.snoc{ds:List D}{xs:List V}{d:D}{v:V}(h:bu K G ds xs)(q:Rep K G d v):bu K G (ds++[d]) (xs++[v]):=h.append ⟨v,[],rfl,q,rfl⟩
theorem bu.rev:∀{ds:List D}{xs:List V},bu K G ds xs->bu K G ds.reverse xs.reverse
 |[],_,h=>by cases h;simp[bu]
 |d::ds,_,⟨v,r,e,aa,h2⟩=>by subst e;rw[YQ,YQ];exact h2.rev.snoc aa
noncomputable def View(K:W.Frag)(G H:az):D->V->Prop
 |.lst ds,v=>∃a xs,v=.ref a/\dF K H a xs/\bu K G ds xs
 |d,v=>Rep K G d v
def Rep.view(s:bz G H):∀{d:D}{v:V},Rep K G d v->View K G H d v
 |.lst ds,_,⟨a,xs,e,h,r⟩=>⟨a,xs,e,kc s h,r⟩
 |.cM,_,h=>h
 |.av _,_,h=>h
 |.int _,_,h=>h
 |.str _,_,h=>h
 |.tup _,_,h=>h
 |.eV _,_,h=>h
structure Ext(G H aP ao:az):Prop where
 g:bz G aP
 h:bz H ao
 sub:bz aP ao
 new:∀a,G a=none->H a≠none->aP a=none
theorem Ext.refl(s:bz G H):Ext G H G H:=⟨bz.refl G,bz.refl H,s,λ_ h _=>h⟩
theorem Ext.trans{aI H1:az}(x:Ext G H aI H1)(y:Ext aI H1 aP ao):Ext G H aP ao :=
 ⟨x.g.trans y.g,x.h.trans y.h,y.sub,λa aa h2=>y.new a (x.new a aa h2) λz=>by
  cases q:H a with
  |none=>exact h2 q
  |some o=>rw[x.h a o q]at z;cases z⟩
def gs{H:az}{a:Addr}{o:e8}(h:H a=none):bz H (upd H a o):=λb u e=>by rw[de (ij e h)];exact e
def View.ext{H1 aI:az}(x:Ext G H aI H1):∀{d:D}{v:V},View K G H d v->View K aI H1 d v
 |.lst ds,_,⟨a,xs,e,h,r⟩=>⟨a,xs,e,kc x.h h,r.mono x.g⟩
 |.cM,_,h=>h
 |.av _,_,h=>h
 |.int _,_,h=>h
 |.str _,_,h=>h
 |.tup _,_,h=>Rep.mono (K:=K) x.g h
 |.eV _,_,h=>h
def Ext.own(s:bz G H){a:Addr}{o:e8}(h:H a=none):Ext G H G (upd H a o):=⟨bz.refl G,gs h,s.trans (gs h),λ_ aa _=>aa⟩
def Ext.put(s:bz G H){a:Addr}{o:e8}(h:H a=none):Ext G H (upd G a o) (upd H a o):=by
 have me:G a=none:=s.free h;refine⟨gs me,gs h,λb u e=>?_,λb aa h2=>?_⟩
 .by_cases q:b=a
  .subst q;rw[eE]at e ⊢;exact e
  .rw[de q]at e ⊢;exact s b u e
 .rw[de (λq=>h2 (by rw[q];exact h))];exact aa
end
inductive en where
 |view|val|fresh
noncomputable def b9(K:W.Frag)(H aP ao:az):en->D->V->Prop
 |.view,d,v=>View K aP ao d v
 |.val,d,v=>Rep K aP d v
 |.fresh,.lst ds,v=>∃a xs,v=.ref a/\ao a=some (.lst xs)/\H a=none/\aP a=none/\bu K aP ds xs
 |.fresh,d,v=>Rep K aP d v
structure d7(K:W.Frag)(ak:List Nat)(G H:az)(J:a7)(σ:bQ):Prop where
 len:J.length=σ.length
 sub:bz G H
 val:∀(i:Nat)(d:D),J[i]?=some (some d)->i∉ak->∃v,σ[i]?=some (some v)/\Rep K G d v
 own:∀(i:Nat)(d:D),J[i]?=some (some d)->i∈ak->(∀ds,d≠.lst ds)->∃v,σ[i]?=some (some v)/\Rep K G d v
 lst:∀(i:Nat)(ds:List D),J[i]?=some (some (.lst ds))->i∈ak->∃a xs,σ[i]?=some (some (V.ref a))/\H a=some (.lst xs)/\G a=none/\bu K G ds xs
 apart:∀(i j:Nat)(ds ah:List D)(a b:Addr),J[i]?=some (some (.lst ds))->J[j]?=some (some (.lst ah))->i∈ak->j∈ak->i≠j->σ[i]?=some (some (V.ref a))->σ[j]?=some (some (V.ref b))->a≠b
def d7.ext{K:W.Frag}{ak:List Nat}{G H aP ao:az}{J:a7}{σ:bQ}(h:d7 K ak G H J σ)(x:Ext G H aP ao):d7 K ak aP ao J σ where
 len:=h.len
 sub:=x.sub
 val:=λi d e hm=>let ⟨v,a,b⟩:=h.val i d e hm;⟨v,a,b.mono x.g⟩
 own:=λi d e hm au=>let ⟨v,a,b⟩:=h.own i d e hm au;⟨v,a,b.mono x.g⟩
 lst:=λi ds e hm=>let ⟨a,xs,aa,h2,h3,h4⟩:=h.lst i ds e hm;⟨a,xs,aa,x.h _ _ h2,x.new a h3 (by rw[h2];exact λz=>nomatch z),h4.mono x.g⟩
 apart:=h.apart
theorem d7.view{K:W.Frag}{ak:List Nat}{G H:az}{J:a7}{σ:bQ}(h:d7 K ak G H J σ){i:Nat}{d:D}(e:J[i]?=some (some d)):∃v,σ[i]?=some (some v)/\View K G H d v:=by
 by_cases hm:i∈ak
 .cases d with
  |lst ds=>obtain⟨a,xs,aa,h2,h3,h4⟩:=h.lst i ds e hm;exact⟨_,aa,a,xs,rfl,.inl (.inl h2),h4⟩
  |_=>obtain⟨v,aa,h2⟩:=h.own i _ e hm (λ_ q=>nomatch q);exact⟨v,aa,h2.view h.sub⟩
 .obtain⟨v,aa,h2⟩:=h.val i d e hm;exact⟨v,aa,h2.view h.sub⟩
noncomputable abbrev b5:=Nat->Value->List Addr->Heap->Prop
noncomputable def gy(X:aR)(pins:List (Addr×Obj))(H:az)(a:Addr):Prop :=
 H a=none/\(a∈X.ex\/X.ef.heap.get? a=none)/\a≠X.env.locals/\(∀x c,X.env.cells.lookup x=some c->c≠a)/\∀p∈X.bS++pins,p.1≠a
def gy.of{X:aR}{pins:List (Addr×Obj)}{σ:bQ}{H ao:az}{s:Shared}{a:Addr}(I:Inv X pins σ H s)(h:s.heap.get? a=none)(h':ao a=none):gy X pins ao a:=by
 have no:∀{b:Addr}{o:Obj},s.heap.get? b=some o->b≠a:=λq z=>by rw[z,h]at q;cases q
 refine⟨h',?_,λz=>?_,λx c q=>?_,λp q=>no (I.pin p q).1⟩
 .by_cases af:a∈X.ex
  .exact .inl af
  .refine .inr ?_;cases q:X.ef.heap.get? a with
   |none=>rfl
   |some o=>obtain⟨bO,e⟩:=I.base.there a o q af;rw[h]at e;cases e
 .obtain⟨m,⟨o,_,_,ay,_⟩,_⟩:=I.loc;exact no ay z.symm
 .obtain⟨v,o,ay,_⟩:=I.cell x c q;exact no ay
noncomputable def gU(xp:b5)(X:aR)(c:Nat)(H:az):Prop:=∀(pins:List (Addr×Obj))(σ:bQ)(ao:az)(s':Shared)(e:Value)(l:List Addr),Inv X pins σ ao s'->bz H ao->(∀a∈l,gy X pins ao a)->xp c e l s'.heap->X.b8 e s'
def gU.mono{xp:b5}{X:aR}{c:Nat}{H ao:az}(h:gU xp X c H)(s:bz H ao):gU xp X c ao:=λpins σ aV s' e l I q n x=>h pins σ aV s' e l I (s.trans q) n x
noncomputable def bf(xp:b5)(X:aR)(ak:List Nat)(m:en)(f:a7->bp D):TE:=λσ H Q =>
 ∃G J,d7 X.K ak G H J σ/\cY (f J) (λd=>∀v aP ao,Ext G H aP ao->b9 X.K H aP ao m d v->Q v ao) (λc=>gU xp X c H)
theorem b9.view{K:W.Frag}{H aP ao:az}(s:bz aP ao):∀{m:en}{d:D}{v:V},b9 K H aP ao m d v->View K aP ao d v
 |.view,_,_,h=>h
 |.val,_,_,h=>Rep.view s h
 |.fresh,.lst ds,_,⟨a,xs,e,aa,_,_,r⟩=>⟨a,xs,e,.inl (.inl aa),r⟩
 |.fresh,.cM,_,h=>h
 |.fresh,.av _,_,h=>h
 |.fresh,.int _,_,h=>h
 |.fresh,.str _,_,h=>h
 |.fresh,.tup _,_,h=>h
 |.fresh,.eV _,_,h=>h
theorem aQ.val{xp:b5}{X:aR}{ak:List Nat}{e:Expr}{f:a7->bp D}(h:aQ X e (bf xp X ak .fresh f)):aQ X e (bf xp X ak .val f):=by
 intro pins s σ H Q I ⟨G,J,ag,hw⟩;refine h pins s σ H Q I ⟨G,J,ag,bT hw (λd k v aP ao x r=>?_) λ_ q=>q⟩
 cases d with
 |lst ds =>
  obtain⟨a,xs,rfl,aa,h2,h3,h4⟩:=r;refine k _ (upd aP a (.lst xs)) ao ⟨x.g.trans (gs h3),x.h,λb o q=>?_,λb aD aO=>?_⟩ ⟨a,xs,rfl,.inl (.inl eE),h4.mono (gs h3)⟩
  .by_cases ae:b=a
   .subst ae;rw[eE]at q;rw[aa];exact q
   .rw[de ae]at q;exact x.sub b o q
  .rw[de (λz=>aO (by rw[z];exact h2))];exact x.new b aD aO
 |_=>exact k v aP ao x r
theorem aQ.view{xp:b5}{X:aR}{ak:List Nat}{m:en}{e:Expr}{f:a7->bp D}(h:aQ X e (bf xp X ak m f)):aQ X e (bf xp X ak .view f):=by
 intro pins s σ H Q I ⟨G,J,ag,hw⟩;exact h pins s σ H Q I ⟨G,J,ag,bT hw (λd k v aP ao x r=>k v aP ao x (r.view x.sub)) λ_ q=>q⟩
end bD
end
section
namespace bD
open PySem PySem.Spec PyProof.Rows bx
section
variable{xp:b5}{X:aR}{ak:List Nat}{pg:Den.cI}{Φ:Den.cV}
def Fi{i:Nat}{x:Str}{p:Pos}(bq:X.N[i]?=some x)(aL:h9 X.env.scope x)(aa:(x==("__debug__":Str))=false)(h2:(x==("__classdict__":Str))=false):aQ X (.Name x p) (bf xp X ak .view λJ=>Den.ev pg Φ J (.var i)):=by
 intro pins s σ H Q I ⟨G,J,ag,hw⟩;dsimp only at hw;cases e:J[i]? with
 |none=>rw[Den.oW,e]at hw;exact hw.elim
 |some o =>
  cases o with
  |none=>rw[Den.oW,e]at hw;exact hw.elim
  |some d =>
   rw[Den.wJ i e]at hw;obtain⟨v,a,b⟩:=ag.view e;exact mF bq aL aa h2 pins s σ H Q I ⟨v,a,hw v G H (Ext.refl ag.sub) b⟩
def Fj{i:Nat}{x:Str}{p:Pos}(hm:i∉ak)(bq:X.N[i]?=some x)(aL:h9 X.env.scope x)(aa:(x==("__debug__":Str))=false)(h2:(x==("__classdict__":Str))=false):aQ X (.Name x p) (bf xp X ak .val λJ=>Den.ev pg Φ J (.var i)):=by
 intro pins s σ H Q I ⟨G,J,ag,hw⟩;dsimp only at hw;cases e:J[i]? with
 |none=>rw[Den.oW,e]at hw;exact hw.elim
 |some o =>
  cases o with
  |none=>rw[Den.oW,e]at hw;exact hw.elim
  |some d =>
   rw[Den.wJ i e]at hw;obtain⟨v,a,b⟩:=ag.val i d e hm;exact mF bq aL aa h2 pins s σ H Q I ⟨v,a,hw v G H (Ext.refl ag.sub) b⟩
def Fc{d:D}{c:Const}{j:Nat}{p:Pos}{m:en}(h:Den.litOk d c=true):aQ X (.Constant c j p) (bf xp X ak m λJ=>Den.ev pg Φ J (.lit d)):=by
 intro pins s σ H Q I ⟨G,J,ag,hw⟩;dsimp only at hw;rw[Den.Bj]at hw;have fin:∀v,b9 X.K H G H m d v->Q v H:=λv r=>hw v G H (Ext.refl ag.sub) r
 cases d with
 |cM=>cases c<;>simp[Den.litOk]at h;exact QC pins s σ H Q I (fin _ (by cases m<;>rfl))
 |av b =>
  cases c<;>simp[Den.litOk]at h;subst h;exact El pins s σ H Q I (fin _ (by cases m<;>rfl))
 |int i =>
  cases c<;>simp[Den.litOk]at h;subst h;exact Eo pins s σ H Q I (fin _ (by cases m<;>rfl))
 |str x =>
  cases c<;>simp[Den.litOk]at h;subst h;exact yR pins s σ H Q I (fin _ (by cases m<;>rfl))
 |_=>cases c<;>simp[Den.litOk]at h
noncomputable def n8(K:W.Frag)(g:D->D->bp D):fD:=λx y H Q=>∃G ba cj,bz G H/\View K G H ba x/\View K G H cj y/\cY (g ba cj) (λd=>∀v aP ao,Ext G H aP ao->b9 K H aP ao .fresh d v->Q v ao) (λ_=>False)
def b9.old{K:W.Frag}{H H1 aP ao:az}(s:bz H H1):∀{m:en}{d:D}{v:V},b9 K H1 aP ao m d v->b9 K H aP ao m d v
 |.view,_,_,h=>h
 |.val,_,_,h=>h
 |.fresh,.lst ds,_,⟨a,xs,e,aa,h2,h3,r⟩=>⟨a,xs,e,aa,s.free h2,h3,r⟩
 |.fresh,.cM,_,h=>h
 |.fresh,.av _,_,h=>h
 |.fresh,.int _,_,h=>h
 |.fresh,.str _,_,h=>h
 |.fresh,.tup _,_,h=>h
 |.fresh,.eV _,_,h=>h
def RW{bc cz:a7->bp D}{g:D->D->bp D}{a b:Expr}{op:Operator}{pos:Pos}(aT:∀x y c,g x y≠.exc c)(ay:c1 X (binaryOp op) (n8 X.K g))(aC:aQ X a (bf xp X ak .view bc))(ae:aQ X b (bf xp X ak .view cz)):
  aQ X (.BinOp a op b pos) (bf xp X ak .fresh λJ=>bc J>>=λx=>cz J>>=λy=>g x y):=by
 intro pins s σ H Q I ⟨G,J,ag,hw⟩;refine QD ay aC ae pins s σ H Q I ?_;refine⟨G,J,ag,bT (bo.mp hw) (λba k v aI H1 aM aE=>?_) λ_ q=>q⟩
 refine⟨aI,J,ag.ext aM,bT (bo.mp k) (λcj k2 v2 bV aV bt aX=>?_) λ_ q=>q.mono aM.h⟩
 refine⟨bV,ba,cj,bt.sub,View.ext bt aE,aX,?_⟩;cases q:g ba cj with
 |ok d =>
  rw[q]at k2;exact λuI jH bw fQ dR=>k2 uI jH bw ((aM.trans bt).trans fQ) (dR.old (aM.h.trans bt.h))
 |exc c=>exact absurd q (aT _ _ _)
 |bad=>rw[q]at k2;exact k2
def o1{K:W.Frag}{G H:az}{Q:cG}{d:D}{v:V}(ag:bz G H)(k:∀v aP ao,Ext G H aP ao->b9 K H aP ao .fresh d v->Q v ao)(r:b9 K H G H .fresh d v):Q v H:=k v G H (Ext.refl ag) r
def J2:c1 X (binaryOp .Sub) (n8 X.K (Den.eK .sub)):=by
 intro pins s σ H x y v u Q I bb cg ⟨G,ba,cj,ag,bF,dy,hw⟩;cases ba<;>cases cj<;>first|exact hw.elim|skip
 exact Qk pins s σ H x y v u Q I bb cg ⟨_,_,bF,dy,o1 ag hw rfl⟩
def J0:c1 X (binaryOp .Mod) (n8 X.K (Den.eK .mod)):=by
 intro pins s σ H x y v u Q I bb cg ⟨G,ba,cj,ag,bF,dy,hw⟩;cases ba<;>cases cj<;>first|exact hw.elim|skip
 rename_i i j;rw[Den.mod_int]at hw
 by_cases h:0<j
 .rw[if_pos h]at hw;exact Qi pins s σ H x y v u Q I bb cg ⟨_,_,bF,dy,h,o1 ag hw rfl⟩
 .rw[if_neg h]at hw;exact hw.elim
def JZ:c1 X (binaryOp .FloorDiv) (n8 X.K (Den.eK .fdiv)):=by
 intro pins s σ H x y v u Q I bb cg ⟨G,ba,cj,ag,bF,dy,hw⟩;cases ba<;>cases cj<;>first|exact hw.elim|skip
 rename_i i j;rw[Den.Bv]at hw
 by_cases h:0<j/\j<1073741824
 .rw[if_pos h]at hw;exact Qb pins s σ H x y v u Q I bb cg ⟨_,_,bF,dy,h,o1 ag hw rfl⟩
 .rw[if_neg h]at hw;exact hw.elim
end
end bD
end
section
namespace bD
open PySem PySem.Spec PyProof.Rows bx
mutual
noncomputable def toPy:D->PyData
 |.cM=>.none
 |.av b=>.bool b
 |.int i=>.int i
 |.str x=>.str x
 |.tup xs=>.tuple (hc xs)
 |.lst xs=>.list (hc xs)
 |.eV _=>.dict []
noncomputable def hc:List D->List PyData
 |[]=>[]
 |d::ds=>toPy d::hc ds
end
mutual
theorem qJ:∀a b:D,PyData.eqv (toPy a) (toPy b)=Den.g4 a b
 |.cM,b=>by cases b<;>rfl
 |.av _,b=>by cases b<;>rfl
 |.int _,b=>by cases b<;>rfl
 |.str _,b=>by cases b<;>rfl
 |.tup xs,b=>by
  cases b with
  |tup ys=>exact wD xs ys
  |_=>rfl
 |.lst xs,b=>by
  cases b with
  |lst ys=>exact wD xs ys
  |_=>rfl
 |.eV _,b=>by cases b<;>rfl
theorem wD:∀a b:List D,PyData.eqvAll (hc a) (hc b)=Den.kM a b
 |[],[]=>rfl
 |[],_::_=>rfl
 |_::_,[]=>rfl
 |x::xs,y::ys=>by simp only[hc,PyData.eqvAll,Den.kM,qJ x y,wD xs ys]
end
mutual
theorem pR:∀(n:Nat)(d:D),Den.cD n d=true->(toPy d).canLay0=true/\(toPy d).depth<=n
 |n,.cM,_=>⟨rfl,Ws _⟩
 |n,.av _,_=>⟨rfl,Ws _⟩
 |n,.int _,_=>⟨rfl,Ws _⟩
 |0,.str x,h=>⟨h,Ws _⟩
 |n+1,.str x,h=>⟨h,Ws _⟩
 |0,.tup _,h=>by cases h
 |n+1,.tup xs,h=>by
  obtain⟨a,b⟩:=ze n xs h;exact⟨a,by show PyData.depthAll (hc xs)+1<=n+1;omega⟩
 |0,.lst _,h=>by cases h
 |n+1,.lst xs,h=>by
  obtain⟨a,b⟩:=ze n xs h;exact⟨a,by show PyData.depthAll (hc xs)+1<=n+1;omega⟩
 |0,.eV _,h=>by cases h
 |n+1,.eV _,h=>by cases h
theorem ze:∀(n:Nat)(ds:List D),ds.all (Den.cD n)=true->PyData.canLayAll0 (hc ds)=true/\PyData.depthAll (hc ds)<=n
 |n,[],_=>⟨rfl,Ws _⟩
 |n,d::ds,h=>by
  simp only[List.all_cons,Wi]at h;obtain⟨a,b⟩:=pR n d h.1;obtain⟨jI,i8⟩:=ze n ds h.2;refine⟨by simp only[hc,PyData.canLayAll0,a,jI,Z9],?_⟩
  show max (PyData.depth (toPy d)) (PyData.depthAll (hc ds))<=n;omega
end
def uo{d:D}(h:Den.cD 60 d=true):SeqAt.shaped (toPy d)=true:=by
 obtain⟨a,b⟩:=pR 60 d h;unfold SeqAt.shaped;rw[a,Bool.true_and];exact decide_eq_true (by omega)
section
variable{xp:b5}{X:aR}{ak:List Nat}{pg:Den.cI}{Φ:Den.cV}{pins:List (Addr×Obj)}{σ:bQ}{G H:az}{s:Shared}
mutual
theorem ER (I:Inv X pins σ H s) (ag:bz G H):∀{d:D}{v:V}{u:Value},Rep X.K G d v->RelV v u->∃as,Reads s.heap u (toPy d) as
 |.cM,_,_,h,r=>by cases h;cases r;exact⟨_,.none⟩
 |.av b,_,_,h,r=>by cases h;cases r;exact⟨_,.bool b⟩
 |.int i,_,_,h,r=>by cases h;obtain⟨t,rfl⟩:=r;exact⟨_,.int i t⟩
 |.str x,_,_,h,r=>by cases h;obtain⟨t,rfl⟩:=r;exact⟨_,.str x t⟩
 |.tup ds,_,_,⟨a,xs,e,h,q⟩,r=>by
  subst e;cases r;obtain⟨its,bL,⟨o,ay,aj,n,hd⟩,_⟩:=I.tuple (fw ag h);obtain⟨as,bK⟩:=pM I ag q bL;exact⟨as,.tuple ay aj hd (by simpa using bK)⟩
 |.lst ds,_,_,⟨a,xs,e,h,q⟩,r=>by
  subst e;cases r;obtain⟨its,bL,⟨o,n,ay,aj,_,hd⟩,_⟩:=I.list (kc ag h);obtain⟨as,bK⟩:=pM I ag q bL;exact⟨a::as,.list ay aj hd (by simpa using bK)⟩
 |.eV _,_,_,h,_=>h.elim
theorem pM (I:Inv X pins σ H s) (ag:bz G H):∀{ds:List D}{xs:List V}{us:List Value},bu X.K G ds xs->Vals xs us->∃as,ReadsAll s.heap us (hc ds) as
 |[],_,_,h,r=>by cases h;cases r;exact⟨_,.nil⟩
 |d::ds,_,_,⟨v,t,e,aa,h2⟩,r=>by
  subst e;cases r with
  |cons aE aX =>
   obtain⟨as,bK⟩:=ER I ag aa aE;obtain⟨bs,cT⟩:=pM I ag h2 aX;exact⟨as++bs,.cons bK cT⟩
end
def pL(I:Inv X pins σ H s)(ag:bz G H){d:D}{v:V}{u:Value}(h:View X.K G H d v)(r:RelV v u):∃as,Reads s.heap u (toPy d) as:=by
 cases d with
 |lst ds =>
  obtain⟨a,xs,rfl,h,q⟩:=h;cases r;obtain⟨its,bL,⟨o,n,ay,aj,_,hd⟩,_⟩:=I.list h;obtain⟨as,bK⟩:=pM I ag q bL;exact⟨a::as,.list ay aj hd (by simpa using bK)⟩
 |_=>exact ER I ag h r
noncomputable def gq(K:W.Frag)(g:D->D->bp Bool):fD:=λx y H Q=>∃G ba cj,bz G H/\View K G H ba x/\View K G H cj y/\cY (g ba cj) (λb=>Q (.av b) H) (λ_=>False)
def GP{r:bp Bool}{Q:Bool->Prop}{E:Nat->Prop}:cY (Den.j8 r) Q E<->cY r (λb=>Q (!b)) E:=by cases r<;>exact Iff.rfl
def GN{x y:D}{Q:Bool->Prop}{E:Nat->Prop}(h:cY (Den.fk x y) Q E):Den.cD 60 x=true/\Den.cD 60 y=true/\Q (Den.g4 x y):=by
 unfold Den.fk at h;cases q:(Den.cD 60 x&&Den.cD 60 y) with
 |false=>rw[q]at h;exact h.elim
 |true =>
  rw[q]at h;simp only[Wi]at q;exact⟨q.1,q.2,h⟩
def IE(b3:X.A.units+64<cLine):c1 X (compareOp .Eq) (gq X.K (Den.df .eq)):=by
 intro pins s σ H x y v u Q I bb cg ⟨G,ba,cj,ag,bF,dy,hw⟩;rw[Den.AR]at hw;obtain⟨aa,h2,q⟩:=GN hw;obtain⟨as,bK⟩:=pL I ag bF bb;obtain⟨bs,cT⟩:=pL I ag dy cg;refine eq_dataH bK cT (uo aa) (uo h2) b3 ?_;rw[qJ];exact⟨.av _,H,I,rfl,q⟩
def IK(b3:X.A.units+64<cLine):c1 X (compareOp .NotEq) (gq X.K (Den.df .ne)):=by
 intro pins s σ H x y v u Q I bb cg ⟨G,ba,cj,ag,bF,dy,hw⟩;rw[Den.AS]at hw;obtain⟨aa,h2,q⟩:=GN (GP.mp hw);obtain⟨as,bK⟩:=pL I ag bF bb;obtain⟨bs,cT⟩:=pL I ag dy cg;refine ne_dataH bK cT (uo aa) (uo h2) b3 ?_;rw[qJ];exact⟨.av _,H,I,rfl,q⟩
end
end bD
end
section
namespace bD
open PySem PySem.Spec PyProof.Rows bx
section
variable{xp:b5}{X:aR}{ak:List Nat}{pg:Den.cI}{Φ:Den.cV}{pins:List (Addr×Obj)}{σ:bQ}{G H:az}{s:Shared}
open Classical in
noncomputable def l9 (h:Heap) (ba:D) (y:Value):Bool:=decide (∃(d:D)(as:List Addr),Reads h y (toPy d) as/\Den.cD 60 d=true/\Den.g4 d ba=true)
open Classical in
theorem Bc {h:Heap} {ba d:D} {y:Value} {as:List Addr} (r:Reads h y (toPy d) as) (hd:Den.cD 60 d=true):l9 h ba y=Den.g4 d ba:=by
 unfold l9;cases q:Den.g4 d ba with
 |true=>exact decide_eq_true ⟨d,as,r,hd,q⟩
 |false =>
  refine decide_eq_false ?_;rintro⟨d',Vi,bC,ig,cB⟩;have e:=SeqAt.Reads.unique _ _ _ _ _ (pR 60 d hd).1 r bC;rw[<- qJ]at q cB;rw[e,cB]at q;cases q
theorem vs{h:Heap}{ba:D}:∀{ds:List D}{us:List Value}{as:List Addr},ReadsAll h us (hc ds) as->ds.all (Den.cD 60)=true->us.any (l9 h ba)=ds.any λd=>Den.g4 d ba
 |[],_,_,r,_=>by cases r;rfl
 |d::ds,_,_,r,hd=>by
  cases r with
  |cons aE aX =>
   simp only[List.all_cons,Wi]at hd;simp only[List.any_cons,Bc aE hd.1,vs aX hd.2]
theorem wB(b3:X.A.units+64<cLine){ba:D}{v:Value}{bs:List Addr}(bb:Reads s.heap v (toPy ba) bs)(af:Den.cD 60 ba=true):∀{ds:List D}{us:List Value}{as:List Addr},ReadsAll s.heap us (hc ds) as->ds.all (Den.cD 60)=true->∀y,y∈us->SeqAt.EqAt X.A.in1 s y v (l9 s.heap ba y)
 |[],_,_,r,_,y,aA=>by cases r;simp at aA
 |d::ds,_,_,r,hd,y,aA=>by
  cases r with
  |cons aE aX =>
   simp only[List.all_cons,Wi]at hd;rcases Wo.mp aA with rfl|aA
   .rw[Bc aE hd.1,<- qJ];refine SeqAt.eqAt_reads _ _ _ _ _ _ _ _ aE bb (pR 60 _ hd.1).1 (pR 60 _ af).1 ?_;have aa:=(pR 60 _ hd.1).2;show X.A.units+1+_<cLine;have:min (toPy d).depth (toPy ba).depth<=60:=Xt (Nat.min_le_left _ _) aa;omega
   .exact wB b3 bb af aX hd.2 y aA
def GO{x:D}{ys:List D}{Q:Bool->Prop}{E:Nat->Prop}(h:cY (Den.hY x ys) Q E):Den.cD 60 x=true/\ys.all (Den.cD 60)=true/\Q (Den.memD x ys):=by
 unfold Den.hY at h;cases q:(Den.cD 60 x&&ys.all (Den.cD 60)) with
 |false=>rw[q]at h;exact h.elim
 |true =>
  rw[q]at h;simp only[Wi]at q;exact⟨q.1,q.2,h⟩
def CY{ys:List D}{y:V}{u:Value}(I:Inv X pins σ H s)(ag:bz G H)(h:View X.K G H (.tup ys) y\/View X.K G H (.lst ys) y)(r:RelV y u):
  ∃(a:Addr)(its:List Value)(as:List Addr),u=.ref a/\ReadsAll s.heap its (hc ys) as/\(s.heap.IsTuple a its.toArray\/s.heap.IsList a its.toArray):=by
 rcases h with⟨a,xs,rfl,h,q⟩|⟨a,xs,rfl,h,q⟩
 .cases r;obtain⟨its,bL,⟨o,ay,aj,n,hd⟩,_⟩:=I.tuple (fw ag h);obtain⟨as,bK⟩:=pM I ag q bL;exact⟨a,its,as,rfl,bK,.inl ⟨o,ay,aj,n,hd⟩⟩
 .cases r;obtain⟨its,bL,⟨o,n,ay,aj,_,hd⟩,_⟩:=I.list h;obtain⟨as,bK⟩:=pM I ag q bL;exact⟨a,its,as,rfl,bK,.inr ⟨o,ay,aj,n,hd⟩⟩
def IH(b3:X.A.units+64<cLine):c1 X (compareOp .In) (gq X.K (Den.df .mem)):=by
 intro pins s σ H x y v u Q I bb cg ⟨G,ba,cj,ag,bF,dy,hw⟩;have key:∀ys,(View X.K G H (.tup ys) y\/View X.K G H (.lst ys) y)->cY (Den.hY ba ys) (λb=>Q (.av b) H) (λ_=>False)->wpAny (model X.prog X.w) X.A (compareOp .In v u) (dT X pins σ Q) X.b8 s:=by
  intro ys aA hw;obtain⟨aa,h2,q⟩:=GO hw;obtain⟨bs,cT⟩:=pL I ag bF bb;obtain⟨a,its,as,rfl,bK,ay⟩:=CY I ag aA cg;have e:its.toArray.any (l9 s.heap ba)=Den.memD ba ys:=by rw[List.any_toArray];exact vs bK h2
  have he:∀z,z∈its.toArray->SeqAt.EqAt X.A.in1 s z v (l9 s.heap ba z):=λz hz=>wB b3 cT aa bK h2 z (by simpa using hz)
  rcases ay with ay|ay
  .exact SeqAt.in_tupleAt _ ay he (by rw[e];exact⟨.av _,H,I,rfl,q⟩)
  .exact SeqAt.in_listAt _ ay he (by rw[e];exact⟨.av _,H,I,rfl,q⟩)
 cases cj with
 |tup ys=>exact key ys (.inl dy) hw
 |lst ys=>exact key ys (.inr dy) hw
 |_=>cases ba<;>exact hw.elim
def IL(b3:X.A.units+64<cLine):c1 X (compareOp .NotIn) (gq X.K (Den.df .ll)):=by
 intro pins s σ H x y v u Q I bb cg ⟨G,ba,cj,ag,bF,dy,hw⟩;have key:∀ys,(View X.K G H (.tup ys) y\/View X.K G H (.lst ys) y)->cY (Den.j8 (Den.hY ba ys)) (λb=>Q (.av b) H) (λ_=>False)->wpAny (model X.prog X.w) X.A (compareOp .NotIn v u) (dT X pins σ Q) X.b8 s:=by
  intro ys aA hw;obtain⟨aa,h2,q⟩:=GO (GP.mp hw);obtain⟨bs,cT⟩:=pL I ag bF bb;obtain⟨a,its,as,rfl,bK,ay⟩:=CY I ag aA cg;have e:its.toArray.any (l9 s.heap ba)=Den.memD ba ys:=by rw[List.any_toArray];exact vs bK h2
  have he:∀z,z∈its.toArray->SeqAt.EqAt X.A.in1 s z v (l9 s.heap ba z):=λz hz=>wB b3 cT aa bK h2 z (by simpa using hz)
  rcases ay with ay|ay
  .exact SeqAt.notIn_tupleAt _ ay he (by rw[e];exact⟨.av _,H,I,rfl,q⟩)
  .exact SeqAt.notIn_listAt _ ay he (by rw[e];exact⟨.av _,H,I,rfl,q⟩)
 cases cj with
 |tup ys=>exact key ys (.inl dy) hw
 |lst ys=>exact key ys (.inr dy) hw
 |_=>cases ba<;>exact hw.elim
end
end bD
end
section
namespace bD
open PySem PySem.Spec PyProof.Rows bx
section
variable{xp:b5}{X:aR}{ak:List Nat}{m:en}{bc cz cX:a7->bp D}{a b c:Expr}{pos:Pos}
def yy{d:D}(h:Den.fc 0 d=true):∃i,d=.int i:=by
 cases d with
 |int i=>exact⟨i,rfl⟩
 |_=>cases h
theorem tH:∀{ds:List D},ds.all (Den.fc 0)=true->∃ns:List Int,ds=ns.map Den.D.int
 |[],_=>⟨[],rfl⟩
 |d::ds,h=>by
  simp only[List.all_cons,Wi]at h;obtain⟨i,rfl⟩:=yy h.1;obtain⟨ns,rfl⟩:=tH h.2;exact⟨i::ns,rfl⟩
def DD{d:D}(h:Den.fc 1 d=true):∃ns:List Int,d=.tup (ns.map Den.D.int):=by
 cases d with
 |tup ds=>obtain⟨ns,rfl⟩:=tH h;exact⟨ns,rfl⟩
 |_=>cases h
theorem mI{K:W.Frag}{G:az}:∀{ns:List Int}{xs:List V},bu K G (ns.map Den.D.int) xs->xs=ns.map V.int
 |[],_,h=>h
 |n::ns,_,⟨v,r,e,aa,h2⟩=>by
  subst e;have aa:v=.int n:=aa;rw[aa,mI h2];rfl
theorem rm:∀a b:List Int,Den.nU (a.map Den.D.int) (b.map Den.D.int)=some (cP.lexLt a b)
 |[],[]=>rfl
 |[],_::_=>rfl
 |_::_,[]=>rfl
 |x::a,y::b=>by
  rw[show Den.nU ((x::a).map Den.D.int) ((y::b).map Den.D.int)=if (x==y)=true then Den.nU (a.map .int) (b.map .int) else some (decide (x<y)) from rfl,rm a b];simp only[cP.lexLt]
  by_cases h:x=y<;>simp[h]
def IJ (b3 : X.A.units + 64 < cLine) : c1 X (compareOp .Lt) (gq X.K (Den.df .lt)) := by
  intro pins s σ H x y v u Q I bb cg ⟨G, ba, cj, ag, bF, dy, hw⟩
  rw [Den.wj] at hw
  unfold Den.nV at hw
  cases q : ((Den.fc 0 ba && Den.fc 0 cj) || (Den.fc 1 ba && Den.fc 1 cj)) with
  | false => rw [q] at hw; exact hw.elim
  | true =>
    rw [q] at hw
    simp only [Xl] at hw
    simp only [X7, Wi] at q
    rcases q with ⟨aa, h2⟩ | ⟨aa, h2⟩
    · obtain ⟨i, rfl⟩ := yy aa
      obtain ⟨j, rfl⟩ := yy h2
      exact Qg pins s σ H x y v u Q I bb cg ⟨i, j, bF, dy, hw⟩
    · obtain ⟨ns, rfl⟩ := DD aa
      obtain ⟨ms, rfl⟩ := DD h2
      obtain ⟨a, xs, e1, k1, aE⟩ := bF
      obtain ⟨b, ys, e2, k2, aX⟩ := dy
      rw [mI aE] at k1
      rw [mI aX] at k2
      refine Qh (by omega) pins s σ H x y v u Q I bb cg ⟨a, b, ns, ms, e1, e2, fw ag k1, fw ag k2, ?_⟩
      simp only [Den.mu, rm, Den.yH] at hw
      exact hw
def IG:c1 X (compareOp .Gt) (gq X.K (Den.df .gt)):=by
 intro pins s σ H x y v u Q I bb cg ⟨G,ba,cj,ag,bF,dy,hw⟩;cases ba<;>cases cj<;>first|exact hw.elim|skip
 exact Qe pins s σ H x y v u Q I bb cg ⟨_,_,bF,dy,hw⟩
def II:c1 X (compareOp .LtE) (gq X.K (Den.df .le)):=by
 intro pins s σ H x y v u Q I bb cg ⟨G,ba,cj,ag,bF,dy,hw⟩;cases ba<;>cases cj<;>first|exact hw.elim|skip
 exact Qf pins s σ H x y v u Q I bb cg ⟨_,_,bF,dy,hw⟩
def IF:c1 X (compareOp .GtE) (gq X.K (Den.df .ge)):=by
 intro pins s σ H x y v u Q I bb cg ⟨G,ba,cj,ag,bF,dy,hw⟩;cases ba<;>cases cj<;>first|exact hw.elim|skip
 exact Qd pins s σ H x y v u Q I bb cg ⟨_,_,bF,dy,hw⟩
theorem b9.av{K:W.Frag}{H aP ao:az}{b:Bool}:b9 K H aP ao m (.av b) (.av b):=by cases m<;>rfl
theorem b9.int{K:W.Frag}{H aP ao:az}{i:Int}:b9 K H aP ao m (.int i) (.int i):=by cases m<;>rfl
def b9.tW{K:W.Frag}{H aP ao:az}{b:Bool}{v:V}(h:b9 K H aP ao m (.av b) v):v=.av b:=by cases m<;>exact h
def b9.pG{K:W.Frag}{H aP ao:az}{i:Int}{v:V}(h:b9 K H aP ao m (.int i) v):v=.int i:=by cases m<;>exact h
noncomputable def wk(o:Den.gM)(bc cz:a7->bp D):a7->bp D:=λJ=>bc J>>=λx=>cz J>>=λy=>Den.df o x y>>=λk=>.ok (.av k)
noncomputable def nX{α:Type}:bp α->Bool
 |.exc _=>false
 |_=>true
def DX{α:Type}{r:bp α}(h:nX r=true)(c:Nat):r≠.exc c:=λe=>by rw[e]at h;cases h
def pE{α:Type}{p:Prop}[Decidable p]{a b:bp α}(aC:nX a=true)(ae:nX b=true):nX (if p then a else b)=true:=by by_cases h:p<;>simp[h,aC,ae]
def DY{r:bp Bool}(h:nX r=true):nX (Den.j8 r)=true:=by cases r<;>first|rfl|exact h
def PJ(o:Option Bool):nX (Den.yH o)=true:=by cases o<;>rfl
def wh(o:Den.gM)(x y:D)(c:Nat):Den.df o x y≠.exc c:=by
 refine DX ?_ c;cases o with
 |eq=>exact pE rfl rfl
 |ne=>exact DY (pE rfl rfl)
 |lt=>exact pE (PJ _) rfl
 |mem=>cases y<;>first|rfl|exact pE rfl rfl
 |ll=>cases y<;>first|rfl|exact DY (pE rfl rfl)
 |le=>cases x<;>cases y<;>rfl
 |gt=>cases x<;>cases y<;>rfl
 |ge=>cases x<;>cases y<;>rfl
def mS{α:Type}{r:bp α}{Q:α->Prop}{E eS:Nat->Prop}(h:cY r Q E)(aw:∀c,r≠.exc c):cY r Q eS:=by
 cases r with
 |ok a=>exact h
 |exc c=>exact absurd rfl (aw c)
 |bad=>exact h
def F7{o:Den.gM}{σ:bQ}{H:az}{Q:cG}(h:bf xp X ak m (wk o bc cz) σ H Q):rR (gq X.K (Den.df o)) (bf xp X ak .view bc) (bf xp X ak .view cz) σ H Q:=by
 obtain⟨G,J,ag,hw⟩:=h;refine⟨G,J,ag,bT (bo.mp hw) (λba k v aI H1 aM aE=>?_) λ_ q=>q⟩
 refine⟨aI,J,ag.ext aM,bT (bo.mp k) (λcj k2 v2 bV aV bt aX=>?_) λ_ q=>q.mono aM.h⟩
 refine⟨bV,ba,cj,bt.sub,View.ext bt aE,aX,?_⟩;exact bT (mS (bo.mp k2) (λc=>wh o ba cj c)) (λk q=>q (.av k) bV aV (aM.trans bt) b9.av) λ_ q=>q
def RZ{o:Den.gM}{op:CmpOp}(ay:c1 X (compareOp op) (gq X.K (Den.df o)))(aC:aQ X a (bf xp X ak .view bc))(ae:aQ X b (bf xp X ak .view cz))(hm:behindInMarks op b=false):
  aQ X (.Compare a [op] [b] pos) (bf xp X ak m (wk o bc cz)):=λpins s σ H Q I h=>QA ay aC ae hm pins s σ H Q I (F7 h)
noncomputable def gK(xp:b5)(X:aR)(ak:List Nat)(f:a7->bp D):TT:=λσ H Q =>
 ∃G J,d7 X.K ak G H J σ/\cY (f J>>=Den.gd) (λb=>∀aP ao,Ext G H aP ao->Q b ao) (λc=>gU xp X c H)
def zz{f:a7->bp D}{σ:bQ}{H:az}{Q:Bool->az->Prop}(h:gK xp X ak f σ H Q):bf xp X ak .view f σ H (λx ao=>∃k,x=.av k/\Q k ao):=by
 obtain⟨G,J,ag,hw⟩:=h;refine⟨G,J,ag,bT (bo.mp hw) (λd k v aP ao x r=>?_) λ_ q=>q⟩
 cases d with
 |av b=>exact⟨b,b9.tW r,k aP ao x⟩
 |_=>exact k.elim
def R2{o:Den.gM}{op:CmpOp}(ay:c1 X (compareOp op) (gq X.K (Den.df o)))(aC:aQ X a (bf xp X ak .view bc))(ae:aQ X b (bf xp X ak .view cz))(hm:behindInMarks op b=false):
  dM X (.Compare a [op] [b] pos) (gK xp X ak (wk o bc cz)):=λpins s σ H Q I h=>Rd ay aC ae hm pins s σ H Q I (F7 (zz h))
def mK{f:a7->bp D}(h:aQ X a (bf xp X ak .view f))(he:∀whole,isTrue a X.env whole=(do let v <- whole;standAt a.pos;holding [v] (truthy v))):dM X a (gK xp X ak f):=λpins s σ H Q I hw=>Rg h he pins s σ H Q I (zz hw)
noncomputable def wi(o bO:Den.gM)(bc cz cX:a7->bp D):a7->bp D:=λJ=>bc J>>=λx=>cz J>>=λy=>Den.df o x y>>=λk=>if k then cX J>>=λz=>Den.df bO y z>>=λcS=>.ok (.av cS) else .ok (.av false)
def F8{o bO:Den.gM}{σ:bQ}{H:az}{Q:cG}(h:bf xp X ak m (wi o bO bc cz cX) σ H Q):zt (gq X.K (Den.df o)) (gq X.K (Den.df bO)) (bf xp X ak .view bc) (bf xp X ak .view cz) (bf xp X ak .view cX) σ H Q:=by
 obtain⟨G,J,ag,hw⟩:=h;refine⟨G,J,ag,bT (bo.mp hw) (λba k v aI H1 aM aE=>?_) λ_ q=>q⟩
 refine⟨aI,J,ag.ext aM,bT (bo.mp k) (λcj k2 v2 bV aV bt aX=>?_) λ_ q=>q.mono aM.h⟩
 refine⟨bV,ba,cj,bt.sub,View.ext bt aE,aX,?_⟩;refine bT (mS (bo.mp k2) (λc=>wh o ba cj c)) (λk q=>?_) λ_ q=>q
 refine⟨k,rfl,?_⟩;cases k with
 |false =>
  simp only[Wk,WM]at q ⊢;exact q (.av false) bV aV (aM.trans bt) b9.av
 |true =>
  simp only[Xl]at q ⊢;refine⟨bV,J,(ag.ext aM).ext bt,bT (bo.mp q) (λA5 k3 uI jH bw fQ dR=>?_) λ_ z=>(z.mono aM.h).mono bt.h⟩
  refine⟨jH,cj,A5,fQ.sub,View.ext fQ aX,dR,?_⟩;exact bT (mS (bo.mp k3) (λc=>wh bO cj A5 c)) (λk q=>q (.av k) jH bw ((aM.trans bt).trans fQ) b9.av) λ_ q=>q
def R0{o bO:Den.gM}{op op':CmpOp}(ay:c1 X (compareOp op) (gq X.K (Den.df o)))(dH:c1 X (compareOp op') (gq X.K (Den.df bO)))(aC:aQ X a (bf xp X ak .view bc))(ae:aQ X b (bf xp X ak .view cz))(aj:aQ X c (bf xp X ak .view cX))(hm:lastMarks [op,op'] [b,c]=false):
  aQ X (.Compare a [op,op'] [b,c] pos) (bf xp X ak m (wi o bO bc cz cX)):=λpins s σ H Q I h=>Qz ay dH aC ae aj hm pins s σ H Q I (F8 h)
def R1{o bO:Den.gM}{op op':CmpOp}(ay:c1 X (compareOp op) (gq X.K (Den.df o)))(dH:c1 X (compareOp op') (gq X.K (Den.df bO)))(aC:aQ X a (bf xp X ak .view bc))(ae:aQ X b (bf xp X ak .view cz))(aj:aQ X c (bf xp X ak .view cX))(hm:lastMarks [op,op'] [b,c]=false):
  dM X (.Compare a [op,op'] [b,c] pos) (gK xp X ak (wi o bO bc cz cX)):=λpins s σ H Q I h=>Rc ay dH aC ae aj hm pins s σ H Q I (F8 (zz h))
noncomputable def Ah(bc cz:a7->bp D):a7->bp D:=λJ=>bc J>>=λx=>Den.gd x>>=λk=>if k then cz J else .ok (.av false)
noncomputable def Ec(bc cz:a7->bp D):a7->bp D:=λJ=>bc J>>=λx=>Den.gd x>>=λk=>if k then .ok (.av true) else cz J
noncomputable def D2(bc:a7->bp D):a7->bp D:=λJ=>bc J>>=λx=>Den.gd x>>=λk=>.ok (.av (!k))
def b9.back{K:W.Frag}{H H1 aP ao:az}(s:bz H H1){d:D}{v:V}(h:b9 K H1 aP ao m d v):b9 K H aP ao m d v:=b9.old s h
def E5{rest:List Expr}(aC:aQ X a (bf xp X ak .view bc))(ae:aQ X (.BoolOp .And (b::rest) pos) (bf xp X ak m cz)):aQ X (.BoolOp .And (a::b::rest) pos) (bf xp X ak m (Ah bc cz)):=by
 intro pins s σ H Q I ⟨G,J,ag,hw⟩;refine yN aC ae pins s σ H Q I ?_;refine⟨G,J,ag,bT (bo.mp hw) (λba k v aI H1 aM aE=>?_) λ_ q=>q⟩
 cases ba with
 |av b =>
  refine⟨b,b9.tW aE,?_⟩;cases b with
  |true =>
   simp only[Xl];exact⟨aI,J,ag.ext aM,bT k (λd q v2 bV aV bt aX=>q v2 bV aV (aM.trans bt) (b9.back aM.h aX)) λ_ q=>q.mono aM.h⟩
  |false =>
   simp only[Wk,WM];exact k (.av false) aI H1 aM b9.av
 |_=>exact k.elim
def Fe{rest:List Expr}(aC:aQ X a (bf xp X ak .view bc))(ae:aQ X (.BoolOp .Or (b::rest) pos) (bf xp X ak m cz)):aQ X (.BoolOp .Or (a::b::rest) pos) (bf xp X ak m (Ec bc cz)):=by
 intro pins s σ H Q I ⟨G,J,ag,hw⟩;refine QE aC ae pins s σ H Q I ?_;refine⟨G,J,ag,bT (bo.mp hw) (λba k v aI H1 aM aE=>?_) λ_ q=>q⟩
 cases ba with
 |av b =>
  refine⟨b,b9.tW aE,?_⟩;cases b with
  |false =>
   simp only[Wk,WM];exact⟨aI,J,ag.ext aM,bT k (λd q v2 bV aV bt aX=>q v2 bV aV (aM.trans bt) (b9.back aM.h aX)) λ_ q=>q.mono aM.h⟩
  |true =>
   simp only[Xl];exact k (.av true) aI H1 aM b9.av
 |_=>exact k.elim
def Sj(aC:aQ X a (bf xp X ak .view bc)):aQ X (.UnaryOp .Not a pos) (bf xp X ak m (D2 bc)):=by
 intro pins s σ H Q I ⟨G,J,ag,hw⟩;refine Es aC pins s σ H Q I ?_;refine⟨G,J,ag,bT (bo.mp hw) (λba k v aI H1 aM aE=>?_) λ_ q=>q⟩
 cases ba with
 |av b=>exact⟨b,b9.tW aE,k (.av (!b)) aI H1 aM b9.av⟩
 |_=>exact k.elim
def E6{rest:List Expr}(aC:dM X a (gK xp X ak bc))(ae:h8 X (.BoolOp .And (b::rest) pos) (gK xp X ak cz)):h8 X (.BoolOp .And (a::b::rest) pos) (gK xp X ak (Ah bc cz)):=by
 intro lD pins s σ H Q I ⟨G,J,ag,hw⟩;refine Rh aC ae lD pins s σ H Q I ?_;refine⟨G,J,ag,?_⟩;refine bo.mpr (bT (bo.mp (bo.mp hw)) (λba k=>bT (bo.mp k) (λb k2 aI H1 aM=>?_) λ_ q=>q) λ_ q=>q)
 cases b with
 |true =>
  simp only[Xl]at k2 ⊢;exact⟨aI,J,ag.ext aM,bT (bo.mpr k2) (λd q bV aV bt=>q bV aV (aM.trans bt)) λ_ q=>q.mono aM.h⟩
 |false =>
  simp only[Wk,WM]at k2 ⊢;exact k2 aI H1 aM
def Ff{rest:List Expr}(aC:dM X a (gK xp X ak bc))(ae:h8 X (.BoolOp .Or (b::rest) pos) (gK xp X ak cz)):h8 X (.BoolOp .Or (a::b::rest) pos) (gK xp X ak (Ec bc cz)):=by
 intro lD pins s σ H Q I ⟨G,J,ag,hw⟩;refine Rj aC ae lD pins s σ H Q I ?_;refine⟨G,J,ag,?_⟩;refine bo.mpr (bT (bo.mp (bo.mp hw)) (λba k=>bT (bo.mp k) (λb k2 aI H1 aM=>?_) λ_ q=>q) λ_ q=>q)
 cases b with
 |false =>
  simp only[Wk,WM]at k2 ⊢;exact⟨aI,J,ag.ext aM,bT (bo.mpr k2) (λd q bV aV bt=>q bV aV (aM.trans bt)) λ_ q=>q.mono aM.h⟩
 |true =>
  simp only[Xl]at k2 ⊢;exact k2 aI H1 aM
def Sk(aC:dM X a (gK xp X ak bc)):dM X (.UnaryOp .Not a pos) (gK xp X ak (D2 bc)):=by
 intro pins s σ H Q I ⟨G,J,ag,hw⟩;refine Rf aC pins s σ H Q I ?_;refine⟨G,J,ag,?_⟩;exact bo.mpr (bT (bo.mp (bo.mp hw)) (λba k=>bT (bo.mp k) (λb k2 aI H1 aM=>k2 aI H1 aM) λ_ q=>q) λ_ q=>q)
end
end bD
end
section
namespace bD
open PySem PySem.Spec PyProof.Rows bx
section
variable{xp:b5}{X:aR}{ak:List Nat}{m:en}{bc cz cX:a7->bp D}{a b c:Expr}{pos:Pos}{pins:List (Addr×Obj)}{σ:bQ}{G H:az}{s:Shared}
def tP(I:Inv X pins σ H s)(ag:bz G H){ds:List D}{xs:List V}{its:List Value}{Q:cG}(r:Vals xs its)(q:bu X.K G ds xs)(hz:xs.length<=sizeLine)(k:∀v aP ao,Ext G H aP ao->Rep X.K aP (.tup ds) v->Q v ao):dT X pins σ Q (.ref s.heap.objs.size) { s with heap:=s.heap.push { cls:=.type "tuple",data:=.seq its.toArray } }:=by
 refine⟨.ref s.heap.objs.size,_,I.laid (t':=s.toks) (o:=.tup xs) (λb bB q=>Wj _ q) (Wm _) ⟨hz,its,r,IsTup.new _ _⟩,rfl,?_⟩
 exact k _ (upd G s.heap.objs.size (.tup xs)) _ (Ext.put ag I.fresh) ⟨_,xs,rfl,c4.of eE,q.mono (gs (ag.free I.fresh))⟩
def PG(I:Inv X pins σ H s)(ag:bz G H){ds:List D}{xs:List V}{its:List Value}{Q:cG}(r:Vals xs its)(q:bu X.K G ds xs)(hz:xs.length<=sizeLine)(k:∀v aP ao,Ext G H aP ao->b9 X.K H aP ao .fresh (.lst ds) v->Q v ao):dT X pins σ Q (.ref s.heap.objs.size) { s with heap:=s.heap.push { cls:=.type "list",data:=.seq its.toArray } }:=by
 refine⟨.ref s.heap.objs.size,_,I.Dz (t':=s.toks) r hz,rfl,?_⟩;exact k _ G _ (Ext.own ag I.fresh) ⟨_,xs,rfl,eE,I.fresh,ag.free I.fresh,q⟩
def kg{ds:List D}{v:V}(h:View X.K G H (.lst ds) v):∃a xs,v=.ref a/\dF X.K H a xs/\bu X.K G ds xs:=h
def jD(ag:bz G H){ds:List D}{v:V}(h:View X.K G H (.tup ds) v):∃a xs,v=.ref a/\c4 X.K H a xs/\bu X.K G ds xs:=by
 obtain⟨a,xs,e,k,r⟩:=h;exact⟨a,xs,e,fw ag k,r⟩
def kx:Den.SZ=sizeLine:=by rw[W6];rfl
def JY : c1 X (binaryOp .Add) (n8 X.K (Den.eK .add)) := by
  intro pins s σ H x y v u Q I bb cg ⟨G, ba, cj, ag, bF, dy, hw⟩
  cases ba with
  | int i =>
    cases cj with
    | int j => exact P9 pins s σ H x y v u Q I bb cg ⟨_, _, bF, dy, o1 ag hw rfl⟩
    | _ => exact hw.elim
  | str i =>
    cases cj with
    | str j =>
      rw [Den.add_str] at hw
      by_cases h : i.length + j.length <= Den.SZ
      · rw [if_pos h] at hw
        exact Qa pins s σ H x y v u Q I bb cg ⟨_, _, bF, dy, by rw [<- kx]; exact h, o1 ag hw rfl⟩
      · rw [if_neg h] at hw; exact hw.elim
    | _ => exact hw.elim
  | tup ds =>
    cases cj with
    | tup ah =>
      rw [Den.qo] at hw
      by_cases h : ds.length + ah.length <= Den.SZ
      · rw [if_pos h] at hw
        obtain ⟨l, xs, rfl, k1, aE⟩ := jD ag bF
        obtain ⟨b, ys, rfl, k2, aX⟩ := jD ag dy
        cases bb
        cases cg
        obtain ⟨its, jE, p1, _⟩ := I.tuple k1
        obtain ⟨gF, ki, p2, _⟩ := I.tuple k2
        have hz : xs.length + ys.length <= sizeLine := by rw [<- aE.length, <- aX.length, <- kx]; exact h
        by_cases e0 : its = []
        · -- zB left one is empty
          subst e0
          have : ds = [] := by
            have aa := aE.length; have h2 := jE.length
            simp at h2; rw [h2] at aa; simp at aa; exact aa
          subst this
          obtain ⟨⟨cls, dd, data, bl⟩, ay, aj, n, hd⟩ := id p1
          obtain ⟨⟨wg, jN, data2, jx⟩, jV, ie, fN, hd2⟩ := id p2
          simp only at aj hd ie hd2
          subst aj hd ie hd2
          refine ZY ⟨_, ay, rfl⟩ ⟨_, jV, rfl⟩ ZQ Z8 YP YM (YF _ _)
            (tuple_addW0 l b _ gF.toArray n fN dd jN bl jx rfl) ⟨ay, jV, ?_⟩
          exact ⟨.ref b, H, I, rfl, hw _ G H (Ext.refl ag) dy⟩
        · refine cP.IS p1 p2 e0 (fun z => ?_) (fun z => ?_) (by rw [<- jE.length, <- ki.length]; exact hz)
          · have : ah = [] := by
              have aa := aX.length; have h2 := ki.length
              rw [z] at h2; simp at h2; rw [h2] at aa; simp at aa; exact aa
            subst this
            rw [XO] at hw
            exact ⟨.ref l, H, I, rfl, hw _ G H (Ext.refl ag) bF⟩
          · exact tP I ag (jE.append ki) (aE.append aX) (by rw [Wu]; exact hz) hw
      · rw [if_neg h] at hw; exact hw.elim
    | _ => exact hw.elim
  | lst ds =>
    cases cj with
    | lst ah =>
      rw [Den.oM] at hw
      by_cases h : ds.length + ah.length <= Den.SZ
      · rw [if_pos h] at hw
        obtain ⟨l, xs, rfl, k1, aE⟩ := kg bF
        obtain ⟨b, ys, rfl, k2, aX⟩ := kg dy
        cases bb
        cases cg
        obtain ⟨its, jE, ⟨iQ, n, e1, aj, hP, hd⟩, _⟩ := I.list k1
        obtain ⟨gF, ki, ⟨il, fN, e2, ie, VA, hd2⟩, _⟩ := I.list k2
        have hz : xs.length + ys.length <= sizeLine := by rw [<- aE.length, <- aX.length, <- kx]; exact h
        obtain ⟨cls, dd, data, bl⟩ := iQ
        obtain ⟨wg, jN, data2, jx⟩ := il
        simp only at aj hd ie hd2
        subst aj hd ie hd2
        refine ZY ⟨_, e1, rfl⟩ ⟨_, e2, rfl⟩ noFill_list_add seq_list_add F.slot_list_add F.entry_list_add (F.args_list_add_2 _ _)
          (list_addW l b its.toArray gF.toArray n fN dd jN bl jx (by rw [Wv, Wv, <- jE.length, <- ki.length]; exact hz)) ⟨e1, e2, ?_⟩
        have a8 : its.toArray ++ gF.toArray = (its ++ gF).toArray := by simp
        rw [a8]
        exact PG I ag (jE.append ki) (aE.append aX) (by rw [Wu]; exact hz) hw
      · rw [if_neg h] at hw; exact hw.elim
    | _ => exact hw.elim
  | _ => cases cj <;> exact hw.elim
end
end bD
end
section
namespace bD
open PySem PySem.Spec PyProof.Rows bx PySem.MeetsSeq
def PK:fillsNumberSlot (.type "tuple") "mul"=pure false :=
 PySem.fillsNumberSlot_seq (id:="tuple.__mul__") (r:=some (.builtin "tuple.__rmul__")) ZV.lookup (by decide +kernel) F.slot_tuple_rmul.lookup (by decide +kernel)
def RE:seqRepeat? (.type "tuple")=pure (some (.builtin "tuple.__mul__")):=by
 unfold seqRepeat?;rw[PySem.seqSlot_of (T:="tuple") (name:="__mul__") (id:="tuple.__mul__") ZV.lookup (by decide +kernel),PySem.seqSlot_of (T:="tuple") (name:="__rmul__") (id:="tuple.__rmul__") F.slot_tuple_rmul.lookup (by decide +kernel)]
 rfl
def NZ(a:Int)(t:Tok)(l:Addr)(items:Array Value)(n:Nat)(dd:Option Addr)(bl:Array (Option Value)):
  Meets (Builtin.«int.__rmul__» ⟨[.int a t,.ref l],[]⟩) (λ_ R s=>s.heap.get? l=some { cls:=.type "tuple",dict:=dd,data:=.seq items n,slots:=bl }/\R (.ok (.ret Value.notImplemented)) s) :=
 .of_wp λprog w A R s h=>by obtain⟨ax,g,d,tk,os⟩:=s;obtain⟨au,h⟩:=h;wp_walk;exact⟨_,rfl,h⟩
def Uv(l:Addr)(items:Array Value)(n:Nat)(dd:Option Addr)(bl:Array (Option Value))(x:Int)(u:Tok)(h2:2<=x)(af:x<1000)(dG:items.isEmpty=false)(ft:items.size*x.toNat<=sizeLine):
  Meets (Builtin.«tuple.__mul__» ⟨[.ref l,.int x u],[]⟩) (λ_ R s=>s.heap.get? l=some { cls:=.type "tuple",dict:=dd,data:=.seq items n,slots:=bl } /\
   R (.ok (.ret (Value.ref s.heap.objs.size))) { s with heap:=s.heap.push { cls:=Value.type "tuple",data:=Data.seq ((List.replicate x.toNat items).foldl (·++·) #[]) } }) :=
 .of_wp λprog w A R s h=>by
  obtain⟨ax,g,d,tk,os⟩:=s;obtain⟨au,h⟩:=h;have f1:=AutoSeq1.idx_int;have cu:(decide (x < -2 ^ 63)||decide (x>=2 ^ 63))=false:=by simp;omega
  have bg:(items.isEmpty||x==1)=false:=by rw[dG];simp;omega
  have b2:(decide (x<=0)||items.isEmpty)=false:=by rw[dG];simp;omega
  have hm:((items.size:Nat):Int)*x=((items.size*x.toNat:Nat):Int):=by
   rw[Int.natCast_mul];congr 1;omega
  have ag:sizeLine=16777216:=W6;have jb:Builtin.Tuple.tupleTooMany (((items.size:Nat):Int)*x)=false:=by unfold Builtin.Tuple.tupleTooMany;rw[hm];exact decide_eq_false (by omega)
  have gf:¬((items.size:Nat):Int)*x>(2 ^ 63-1) / 8:=by rw[hm];omega
  wp_walk using Yh au
  rw[if_neg (by rw[cu];exact W5)]
  wp_walk using Yh au
  rw[if_neg (by rw[bg];exact W5)]
  dsimp only;rw[if_neg (by rw[b2];exact W5)]
  rw[if_neg gf];rw[if_neg (by rw[jb];exact W5)]
  have hz:sizeOk (.seq (List.foldl (λaM bt=>aM++bt) #[] (List.replicate x.toNat items))):=by
   show(List.foldl (λaM bt=>aM++bt) #[] (List.replicate x.toNat items)).size<=sizeLine
   have f0:=foldl_rep items.toList x.toNat [];rw[List.nil_append]at f0;have e:items.toList.toArray=items:=by simp
   rw[e]at f0;rw[show(#[]:Array Value)=([]:List Value).toArray from rfl,f0,Wv,len_rep,Nat.mul_comm];simpa using ft
  exact Wh (m:=Builtin.Tuple.tupleExact _) (WG (wpAny_pure ⟨_,rfl,h⟩) hz)
section
variable{xp:b5}{X:aR}{ak:List Nat}{m:en}{bc cz cX:a7->bp D}{a b c:Expr}{pos:Pos}{pins:List (Addr×Obj)}{σ:bQ}{G H:az}{s:Shared}
theorem bu.rep{K:W.Frag}{ds:List D}{xs:List V}(h:bu K G ds xs):∀k:Nat,bu K G (List.replicate k ds).flatten (List.replicate k xs).flatten
 |0=>by simp[bu]
 |k+1=>by rw[XK,XK,List.flatten_cons,List.flatten_cons];exact h.append (bu.rep h k)
def J1 : c1 X (binaryOp .Mult) (n8 X.K (Den.eK .mul)) := by
  intro pins s σ H x y v u Q I bb cg ⟨G, ba, cj, ag, bF, dy, hw⟩
  cases ba with
  | int i =>
    cases cj with
    | int j =>
      rw [Den.mul_int] at hw
      by_cases h : (-Den.gv < i /\ i < Den.gv) \/ (-Den.gv < j /\ j < Den.gv)
      · rw [if_pos h] at hw
        exact Qj pins s σ H x y v u Q I bb cg ⟨_, _, bF, dy, h, o1 ag hw rfl⟩
      · rw [if_neg h] at hw; exact hw.elim
    | _ => exact hw.elim
  | tup ds =>
    cases cj with
    | int j =>
      rw [Den.DQ] at hw
      by_cases h : 2 <= j /\ ds ≠ [] /\ ds.length * j.toNat <= Den.SZ /\ j < 1000
      · rw [if_pos h] at hw
        obtain ⟨h2, dG, hz, af⟩ := h
        obtain ⟨l, xs, rfl, k1, aE⟩ := jD ag bF
        cases bb
        have dy : y = .int j := dy
        subst dy
        obtain ⟨t, rfl⟩ := cg
        obtain ⟨its, jE, p1, _⟩ := I.tuple k1
        obtain ⟨⟨cls, dd, data, bl⟩, ay, aj, n, hd⟩ := id p1
        simp only at aj hd
        subst aj hd
        have au : its.length = ds.length := by rw [<- jE.length, <- aE.length]
        have M8 : its.toArray.isEmpty = false := by
          cases its with
          | nil => cases ds with
            | nil => exact absurd rfl dG
            | cons _ _ => simp at au
          | cons _ _ => rfl
        refine wpAny_binaryOp_repeat_ref (T := "tuple") (U := "int") (by decide) ⟨_, ay, rfl⟩ (fun s' => typeIs_int s' j t) PK F.fills_int_mul F.slot_int_rmul RE F.slot_int_index.lookup
          (call_meets F.slot_int_rmul (typeIs_int s j t) F.entry_int_rmul (F.args_int_rmul_2 _ _) (NZ j t l its.toArray n dd bl)
            ⟨ay, rfl, ⟨_, ay, rfl⟩, call_meets ZV ⟨_, ay, rfl⟩ F.entry_tuple_mul (F.args_tuple_mul_2 _ _) (Uv l its.toArray n dd bl j t h2 af M8 (by rw [Wv, au, <- kx]; exact hz)) ⟨ay, ?_⟩⟩)
        have f0 := foldl_rep its j.toNat []
        rw [List.nil_append] at f0
        rw [show (#[] : Array Value) = ([] : List Value).toArray from rfl, f0]
        exact tP I ag (jE.rep j.toNat) (aE.rep j.toNat) (by rw [len_rep, Nat.mul_comm, <- aE.length, <- kx]; exact hz) hw
      · rw [if_neg h] at hw; exact hw.elim
    | _ => exact hw.elim
  | _ => cases cj <;> exact hw.elim
end
end bD
end
section
namespace bD
open PySem PySem.Spec PyProof.Rows bx
section
variable{xp:b5}{X:aR}{ak:List Nat}{m:en}{f bc cz cX:a7->bp D}{fs:a7->bp (List D)}{a b c e:Expr}{ah:List Expr}{pos:Pos}{pins:List (Addr×Obj)}{σ:bQ}{G H:az}{s:Shared}
def Fd(aC:aQ X a (bf xp X ak .view bc)):aQ X (.UnaryOp .USub a pos) (bf xp X ak m λJ=>bc J>>=λx=>Den.fU x>>=λi=>.ok (.int (-i))):=by
 intro pins s σ H Q I ⟨G,J,ag,hw⟩;refine Et Gr aC pins s σ H Q I ?_;refine⟨G,J,ag,bT (bo.mp hw) (λba k v aI H1 aM aE=>?_) λ_ q=>q⟩
 cases ba with
 |int i=>exact⟨i,b9.pG aE,k (.int (-i)) aI H1 aM b9.int⟩
 |_=>exact k.elim
noncomputable def mO(xp:b5)(X:aR)(ak:List Nat)(f:a7->bp (List D)):e9:=λσ H Q =>
 ∃G J,d7 X.K ak G H J σ/\cY (f J) (λds=>∀ai aP ao,Ext G H aP ao->bu X.K aP ds ai->Q ai ao) (λc=>gU xp X c H)
def Sh:eT X [] (mO xp X ak λ_=>.ok []):=by
 intro p pins s σ H Q I ⟨G,J,ag,hw⟩;exact n6 p pins s σ H Q I (hw [] G H (Ext.refl ag.sub) rfl)
def R3(he:aQ X e (bf xp X ak .val f))(aZ:eT X ah (mO xp X ak fs))(bX:starEach (e::ah) X.env=(false,eval e X.env)::starEach ah X.env):eT X (e::ah) (mO xp X ak λJ=>f J>>=λx=>fs J>>=λxs=>.ok (x::xs)):=by
 intro p pins s σ H Q I ⟨G,J,ag,hw⟩;refine iS he aZ bX p pins s σ H Q I ?_;refine⟨G,J,ag,bT (bo.mp hw) (λba k v aI H1 aM aE=>?_) λ_ q=>q⟩
 refine⟨aI,J,ag.ext aM,bT (bo.mp k) (λds k2 ai bV aV bt aX=>?_) λ_ q=>q.mono aM.h⟩
 exact k2 (v::ai) bV aV (aM.trans bt) ⟨v,ai,rfl,Rep.mono bt.g aE,aX⟩
def Sx{j:Nat}(h:eT X ah (mO xp X ak fs))(au:∀J ds,fs J=.ok ds->ds.length<=sizeLine):aQ X (.Tuple ah j pos) (bf xp X ak .val λJ=>fs J>>=λds=>.ok (.tup ds)):=by
 intro pins s σ H Q I ⟨G,J,ag,hw⟩;refine QG h pins s σ H Q I ?_;refine⟨G,J,ag,?_⟩;have hw:=bo.mp hw;cases q:fs J with
 |ok ds =>
  rw[q]at hw;intro ai aI H1 aM aE;refine⟨by rw[<- aE.length];exact au J ds q,λp ax=>?_⟩
  exact hw (.ref p) (upd aI p (.tup ai)) _ (aM.trans (Ext.put aM.sub ax)) ⟨p,ai,rfl,c4.of eE,aE.mono (gs (aM.sub.free ax))⟩
 |exc c=>rw[q]at hw;exact hw
 |bad=>rw[q]at hw;exact hw
def Sf(h:eT X ah (mO xp X ak fs))(au:∀J ds,fs J=.ok ds->ds.length<=sizeLine):aQ X (.List ah pos) (bf xp X ak .fresh λJ=>fs J>>=λds=>.ok (.lst ds)):=by
 intro pins s σ H Q I ⟨G,J,ag,hw⟩;refine Ep h pins s σ H Q I ?_;refine⟨G,J,ag,?_⟩;have hw:=bo.mp hw;cases q:fs J with
 |ok ds =>
  rw[q]at hw;intro ai aI H1 aM aE;refine⟨by rw[<- aE.length];exact au J ds q,λp ax=>?_⟩
  exact hw (.ref p) aI _ (aM.trans (Ext.own aM.sub ax)) ⟨p,ai,rfl,eE,aM.h.free ax,aM.sub.free ax,aE⟩
 |exc c=>rw[q]at hw;exact hw
 |bad=>rw[q]at hw;exact hw
def Dc(n:Nat)(i:Int):Den.hV n i=bx.hV n i:=by
 unfold Den.hV bx.hV
 by_cases h:0<=i
 .rw[if_pos h,if_pos h]
 .rw[if_neg h,if_neg h]
  by_cases q:0<=i+(n:Int)
  .rw[if_pos q,if_pos (by omega)]
  .rw[if_neg q,if_neg (by omega)]
def B1{K:W.Frag}{ds:List D}{xs:List V}{i:Int}{d:D}(r:bu K G ds xs)(h:Den.eX ds i=some d):∃v,lU xs i=some v/\Rep K G d v:=by
 unfold Den.eX at h;rw[Dc,r.length]at h;unfold lU;cases q:bx.hV xs.length i with
 |none=>rw[q]at h;cases h
 |some j =>
  rw[q]at h;obtain⟨v,e,z⟩:=r.get (i:=j) h;exact⟨v,e,z⟩
def LV{xs:List Nat}{i:Int}{c:Nat}(h:Den.eX xs i=some c):lU xs i=some c:=by
 unfold Den.eX at h;rw[Dc]at h;exact h
def R7 (aC : aQ X a (bf xp X ak .view bc)) (ae : aQ X b (bf xp X ak .view cz)) (ax : vk b) : aQ X (.Subscript a b pos) (bf xp X ak .val fun J => bc J >>= fun x => cz J >>= fun y => Den.gE x y) := by
  intro pins s σ H Q I ⟨G, J, ag, hw⟩
  refine QB Ol aC ae ax pins s σ H Q I ?_
  refine ⟨G, J, ag, bT (bo.mp hw) (fun ba k v aI H1 aM aE => ?_) fun _ q => q⟩
  refine ⟨aI, J, ag.ext aM, bT (bo.mp k) (fun cj k2 v2 bV aV bt aX => ?_) fun _ q => q.mono aM.h⟩
  have aE := View.ext bt aE
  cases ba with
  | lst ds =>
    cases cj with
    | int i =>
      simp only [Den.yh] at k2
      cases q : Den.eX ds i with
      | none => rw [q] at k2; exact k2.elim
      | some d =>
        rw [q] at k2
        obtain ⟨l, xs, rfl, e, r⟩ := kg aE
        obtain ⟨w, e2, lx⟩ := B1 r q
        exact .inl ⟨l, xs, i, w, rfl, aX, e, e2, k2 w bV aV (aM.trans bt) lx⟩
    | _ => exact k2.elim
  | tup ds =>
    cases cj with
    | int i =>
      simp only [Den.js] at k2
      cases q : Den.eX ds i with
      | none => rw [q] at k2; exact k2.elim
      | some d =>
        rw [q] at k2
        obtain ⟨l, xs, rfl, e, r⟩ := jD bt.sub aE
        obtain ⟨w, e2, lx⟩ := B1 r q
        exact .inr (.inl ⟨l, xs, i, w, rfl, aX, e, e2, k2 w bV aV (aM.trans bt) lx⟩)
    | _ => exact k2.elim
  | str z =>
    cases cj with
    | int i =>
      simp only [Den.gE] at k2
      by_cases hz : z.length <= Den.SZ
      · rw [if_pos hz] at k2
        cases q : Den.eX z.cps.toList i with
        | none => rw [q] at k2; exact k2.elim
        | some c =>
          rw [q] at k2
          exact .inr (.inr ⟨z, i, c, aE, aX, by rw [<- kx]; exact hz, LV q, k2 _ bV aV (aM.trans bt) rfl⟩)
      · rw [if_neg hz] at k2; exact k2.elim
    | _ => exact k2.elim
  | _ => cases cj <;> exact k2.elim
noncomputable def lr(K:W.Frag)(m:en)(g:D->bp D):List V->az->cG->Prop:=λxs H Q=>∃G x d,xs=[x]/\bz G H/\View K G H d x/\cY (g d) (λd'=>∀v aP ao,Ext G H aP ao->b9 K H aP ao m d' v->Q v ao) (λ_=>False)
def j9{ey:TE}(he:aQ X e ey)(bX:starEach [e] X.env=[(false,eval e X.env)]):eT X [e] (uy ey zw):=iS he n6 bX
def uj{g:D->bp D}{id:String}{x:Str}{p:Pos}(aT:∀d c,g d≠.exc c)(aj:fS X (.builtin id) (lr X.K m g))(nH:dv X x)(hm:X.aB x=none)(aL:bootBuiltins x=some (.builtin id))(aC:aQ X e (bf xp X ak .view f))(aw:x≠"__name__")(hu:(x==("__debug__":Str))=false)(bX:starEach [e] X.env=[(false,eval e X.env)]):aQ X (.Call (.Name x p) [e] [] pos) (bf xp X ak m λJ=>f J>>=λd=>g d):=by
 intro pins s σ H Q I ⟨G,J,ag,hw⟩;refine rD aj nH hm aL (j9 aC bX) aw hu bX rfl pins s σ H Q I ?_;refine⟨G,J,ag,bT (bo.mp hw) (λba k v aI H1 aM aE=>?_) λ_ q=>q⟩
 refine⟨aI,v,ba,rfl,aM.sub,aE,?_⟩;exact bT (mS k (aT ba)) (λd q v2 bV aV bt aX=>q v2 bV aV (aM.trans bt) (aX.old aM.h)) λ_ q=>q
def y9{g:D->bp D}{T:String}{x:Str}{p:Pos}(aT:∀d c,g d≠.exc c)(aj:fS X (.type T) (lr X.K m g))(nH:dv X x)(hm:X.aB x=none)(aL:bootBuiltins x=some (.type T))(aC:aQ X e (bf xp X ak .view f))(aw:x≠"__name__")(hu:(x==("__debug__":Str))=false)(bX:starEach [e] X.env=[(false,eval e X.env)]):aQ X (.Call (.Name x p) [e] [] pos) (bf xp X ak m λJ=>f J>>=λd=>g d):=by
 intro pins s σ H Q I ⟨G,J,ag,hw⟩;refine Qy aj nH hm aL (j9 aC bX) aw hu bX rfl pins s σ H Q I ?_;refine⟨G,J,ag,bT (bo.mp hw) (λba k v aI H1 aM aE=>?_) λ_ q=>q⟩
 refine⟨aI,v,ba,rfl,aM.sub,aE,?_⟩;exact bT (mS k (aT ba)) (λd q v2 bV aV bt aX=>q v2 bV aV (aM.trans bt) (aX.old aM.h)) λ_ q=>q
def f_len:fS X (.builtin "len") (lr X.K m Den.lb):=by
 intro pins s σ H xs us Q I r ⟨G,x,d,ex,ag,bF,hw⟩;subst ex;cases d with
 |tup ds =>
  obtain⟨a,ys,rfl,k,q⟩:=jD ag bF;refine AA pins s σ H _ us Q I r ⟨a,ys,rfl,.inr k,?_⟩;rw[<- q.length];exact hw _ G H (Ext.refl ag) b9.int
 |lst ds =>
  obtain⟨a,ys,rfl,k,q⟩:=kg bF;refine AA pins s σ H _ us Q I r ⟨a,ys,rfl,.inl k,?_⟩;rw[<- q.length];exact hw _ G H (Ext.refl ag) b9.int
 |str z =>
  simp only[Den.lb]at hw
  by_cases hz:z.length<=Den.SZ
  .rw[if_pos hz]at hw;have bF:x=.str z:=bF;subst bF;exact IP pins s σ H _ us Q I r ⟨z,rfl,by rw[<- kx];exact hz,hw _ G H (Ext.refl ag) b9.int⟩
  .rw[if_neg hz]at hw;exact hw.elim
 |_=>exact hw.elim
def f_list:fS X (.type "list") (lr X.K .fresh λd=>Den.dt d>>=λds=>.ok (.lst ds)):=by
 intro pins s σ H xs us Q I r ⟨G,x,d,ex,ag,bF,hw⟩;subst ex;cases d with
 |tup ds =>
  obtain⟨a,ys,rfl,k,q⟩:=jD ag bF;exact AB pins s σ H _ us Q I r ⟨a,ys,rfl,.inr k,λl au=>hw _ G _ (Ext.own ag au) ⟨l,ys,rfl,eE,au,ag.free au,q⟩⟩
 |lst ds =>
  obtain⟨a,ys,rfl,k,q⟩:=kg bF;exact AB pins s σ H _ us Q I r ⟨a,ys,rfl,.inl k,λl au=>hw _ G _ (Ext.own ag au) ⟨l,ys,rfl,eE,au,ag.free au,q⟩⟩
 |_=>exact hw.elim
def Lp:fS X (.type "tuple") (lr X.K .val λd=>Den.dt d>>=λds=>.ok (.tup ds)):=by
 intro pins s σ H xs us Q I r ⟨G,x,d,ex,ag,bF,hw⟩;subst ex;cases d with
 |tup ds =>
  obtain⟨a,ys,rfl,k,q⟩:=jD ag bF;exact AE pins s σ H _ us Q I r ⟨a,ys,rfl,.inr ⟨k,hw _ G H (Ext.refl ag) bF⟩⟩
 |lst ds =>
  obtain⟨a,ys,rfl,k,q⟩:=kg bF;exact AE pins s σ H _ us Q I r ⟨a,ys,rfl,.inl ⟨k,λl au=>hw _ (upd G l (.tup ys)) _ (Ext.put ag au) ⟨l,ys,rfl,c4.of eE,q.mono (gs (ag.free au))⟩⟩⟩
 |_=>exact hw.elim
end
end bD
end
section
namespace bD
open PySem PySem.Spec PyProof.Rows bx
section
variable{xp:b5}{X:aR}{ak:List Nat}{m:en}{f bc cz cX:a7->bp D}{fs:a7->bp (List D)}{a b c e:Expr}{ah:List Expr}{pos:Pos}{pins:List (Addr×Obj)}{σ:bQ}{G H:az}{s:Shared}
noncomputable def UD:D->String
 |.cM=>"NoneType"
 |.av _=>"bool"
 |.int _=>"int"
 |.str _=>"str"
 |.tup _=>"tuple"
 |.lst _=>"list"
 |.eV _=>""
noncomputable def pX:Den.Ty->String
 |.int=>"int"|.bool=>"bool"|.str=>"str"|.tuple=>"tuple"|.cls _=>""
def OJ(K:W.Frag)(up:Den.fG)(d:D)(t:Den.Ty)(aW:∀c,t≠.cls c)(hd:∀c,d≠.eV c):∃b,Den.hU up d t=.ok b/\PySem.W.kitOne K (.type (UD d)) (.type (pX t))=some b:=by
 cases t with
 |cls c=>exact absurd rfl (aW c)
 |int=>cases d<;>first|exact absurd rfl (hd _)|exact⟨_,rfl,by kernel_rfl⟩
 |bool=>cases d<;>first|exact absurd rfl (hd _)|exact⟨_,rfl,by kernel_rfl⟩
 |str=>cases d<;>first|exact absurd rfl (hd _)|exact⟨_,rfl,by kernel_rfl⟩
 |tuple=>cases d<;>first|exact absurd rfl (hd _)|exact⟨_,rfl,by kernel_rfl⟩
def U7(I:Inv X pins σ H s)(ag:bz G H){d:D}{x:V}{u:Value}{up:Den.fG}{t:Den.Ty}(aW:∀c,t≠.cls c)(bF:View X.K G H d x)(bb:RelV x u){Q:cG}(hw:cY (Den.hU up d t) (λb=>Q (.av b) H) (λ_=>False)):
  wpAny (model X.prog X.w) X.A (call (.builtin "isinstance") [u,.type (pX t)]) (dT X pins σ Q) X.b8 s:=by
 have hd:∀c,d≠.eV c:=λc e=>by subst e;exact bF.elim
 obtain⟨b,e1,e2⟩:=OJ X.K up d t aW hd;rw[e1]at hw;have fin:∀tk,dT X pins σ Q (.bool b) { s with toks:=tk }:=λtk=>⟨.av b,H,I.tok tk,rfl,hw⟩
 cases d with
 |cM=>cases bF;exact tA I bb .cM e2 fin
 |av y=>cases bF;exact tA I bb (.av y) e2 fin
 |int i=>cases bF;exact tA I bb (.int i) e2 fin
 |str y=>cases bF;exact tA I bb (.str y) e2 fin
 |tup ds =>
  obtain⟨a,ys,rfl,k,q⟩:=jD ag bF;cases bb;obtain⟨its,bC,⟨o,aa,h2,_⟩,hz⟩:=I.tuple k;exact Xg PySem.W.kitx_tuple I.fM ⟨o,aa,h2⟩ e2 (λz=>nomatch z) fin
 |lst ds =>
  obtain⟨a,ys,rfl,k,q⟩:=kg bF;cases bb;obtain⟨its,bC,⟨o,n,aa,h2,_⟩,z⟩:=I.list k;exact Xg ZH I.fM ⟨o,aa,h2⟩ e2 (λz=>nomatch z) fin
 |eV c=>exact absurd rfl (hd c)
def NX{up:Den.fG}{d:D}{t:Den.Ty}{c:Nat}:Den.hU up d t≠.exc c:=by
 intro h;cases t<;>first|(cases h;done)|skip
 cases d<;>cases h
def R9{up:Den.fG}{t:Den.Ty}{x y:Str}{p e6:Pos}(aW:∀c,t≠.cls c)(nH:dv X x)(hm:X.aB x=none)(aL:bootBuiltins x=some (.builtin "isinstance"))(ME:dv X y)(td:X.aB y=none)(NB:bootBuiltins y=some (.type (pX t)))(aC:aQ X e (bf xp X ak .view f))(aw:x≠"__name__")(hu:(x==("__debug__":Str))=false)(hS:y≠"__name__")(Ms:(y==("__debug__":Str))=false)(bX:starEach [e,.Name y e6] X.env=(false,eval e X.env)::starEach [.Name y e6] X.env):
  aQ X (.Call (.Name x p) [e,.Name y e6] [] pos) (bf xp X ak m λJ=>f J>>=λd=>Den.hU up d t>>=λb=>.ok (.av b)):=by
 intro pins s σ H Q I ⟨G,J,ag,hw⟩;have aj:fS X (.builtin "isinstance") (λxs H Q=>∃G x d,xs=[x,.ty (pX t)]/\bz G H/\View X.K G H d x/\cY (Den.hU up d t) (λb=>Q (.av b) H) (λ_=>False)):=by
  intro pins s σ H xs us Q I r ⟨G,x,d,ex,ag,bF,hw⟩;subst ex;obtain⟨u,rU,rfl,c5,uc⟩:=vals2 r;cases uc;exact U7 I ag aW bF c5 hw
 have q1:eT X [e,.Name y e6] (uy (bf xp X ak .view f) (uy (mP (.ty (pX t))) zw)):=iS aC (iS (Em ME td NB rfl hS Ms) n6 rfl) bX;refine rD aj nH hm aL q1 aw hu bX rfl pins s σ H Q I ?_;refine⟨G,J,ag,bT (bo.mp hw) (λba k v aI H1 aM aE=>?_) λ_ q=>q⟩
 refine⟨aI,v,ba,rfl,aM.sub,aE,?_⟩;exact bT (mS (bo.mp k) (λc=>NX)) (λb q=>q (.av b) aI H1 aM b9.av) λ_ q=>q
end
end bD
end
section
namespace bD
open PySem PySem.Spec PyProof.Rows bx
noncomputable def iZ(P:Program)(w:World)(xp:b5):iY:=λouter H s E e s' =>
 ∃(c:Nat)(ao:az)(l:List Addr),s'.os=s.os/\AllBare s'.gens/\eJ (fL outer) [] H ao s.heap s'.heap/\el P w ao s'.heap/\bz H ao/\(∀a∈l,s.heap.get? a=none/\ao a=none)/\xp c e l s'.heap/\E (.int c 0) none ao
noncomputable def oe(K:W.Frag)(gL:List D->bp D)(n:Nat):d8:=λai H Q E =>
 ai.length=n/\∃G ds,bz G H/\bu K G ds ai/\cY (gL ds) (λd=>∀v aP ao,Ext G H aP ao->Rep K aP d v->Q v ao) (λc=>∀ao,bz H ao->E (.int c 0) none ao)
section
variable{xp:b5}{X:aR}{ak:List Nat}{m:en}{f bc cz cX:a7->bp D}{fs:a7->bp (List D)}{a b c e:Expr}{ah:List Expr}{pos:Pos}{pins:List (Addr×Obj)}{σ:bQ}{G H:az}{s:Shared}
noncomputable def A7(xp:b5)(X:aR):iB:=λu _ ao=>∀c:Nat,u=.int c 0->gU xp X c ao
def Qw:Passes (iZ X.prog X.w xp) X (A7 xp X):=by
 intro pins σ H s e s' I ⟨c,ao,l,os,bare,un,bU,cU,aw,af,nB⟩;have dX:Inv X pins σ ao s':=I.Az os un bU bare (λb z=>absurd z (by simp))
 exact nB c rfl pins σ ao s' e l dX (bz.refl _) (λa aC=>.of I (aw a aC).1 (aw a aC).2) af
end
end bD
end
section
namespace bD
open PySem PySem.Spec PyProof.Rows bx
section
variable{prog:Program}{w:World}{A:Around}{R:Result->Shared->Prop}{s:Shared}
def Jo {elt target iter : Expr} {ifs : List Expr} {scope : Scope} {pos : Pos} {it acc : Value} {env : Env} (I : Nat -> Shared -> Prop)
    (turn : ∀ n s, I n s -> wpAny (model prog w) A (pyNext it) (fun r cE => match r with
      | none => R (.ok .next) cE
      | some v => wpAny (model prog w) A (letOwnedTupleGo target it v) (fun _ FX => wpAny (model prog w) A (assign target env v) (fun _ hE =>
          wpAny (model prog w) A (forIn ifs true fun c r => if r = true then do let ok <- isTrue c env (eval c env); pure (ForInStep.yield ok) else pure (ForInStep.yield r)) (fun ok zr =>
            if ok = true then wpAny (model prog w) A (eval elt env) (fun x FY =>
              wpAny (model prog w) A (call (.builtin "list.append") [acc, x]) (fun _ FZ => ∃ m, m < n /\ I m FZ) (fun _ _ => False) FY) (fun _ _ => False) zr
            else ∃ m, m < n /\ I m zr) (fun _ _ => False) hE) (fun _ _ => False) FX) (fun _ _ => False) cE) (fun _ _ => False) s)
    (n : Nat) (h : I n s) :
    codeAny (model prog w) A (.compLoop (.ListComp elt [⟨target, iter, ifs, 0⟩] scope pos) 0 it acc env) R s := by
  have up : ∀ {α : Type} {t : Sem α} {Q : α -> Shared -> Prop} {E : Value -> Shared -> Prop} {s : Shared}, wpAny (model prog w) A t Q (fun _ _ => False) s -> wpAny (model prog w) A t Q E s := fun h => Xy h (fun _ _ q => q) fun _ _ z => z.elim
  refine codeAny_loop rfl I (fun n s dw => ?_) n h
  show wpAny _ A ((compTurn (.ListComp elt [⟨target, iter, ifs, 0⟩] scope pos) 0 it acc env).onRaise (fun x => do noteFrame x env; theTreesLotGoes x)) _ _ s
  refine wpAny_noted ?_
  rw [compTurn_list]
  refine Wh (wpAny_standAt (Wh (Xy (turn n s dw) (fun r cE hT => ?_) fun _ _ z => z.elim)))
  cases r with
  | none => exact wpAny_pure hT
  | some v =>
    refine Wh (Xy hT (fun _ FX NN => ?_) fun _ _ z => z.elim)
    refine Wh (Xy NN (fun _ hE NO => Wh (Xy NO (fun ok zr CV => ?_) fun _ _ z => z.elim)) fun _ _ z => z.elim)
    cases ok with
    | false => exact wpAny_pure ⟨rfl, CV⟩
    | true =>
      refine Wh (Wh (Xy CV (fun x FY NP => Wh (Xy NP (fun _ FZ NQ => ?_) fun _ _ z => z.elim)) fun _ _ z => z.elim))
      exact wpAny_pure (wpAny_pure ⟨rfl, NQ⟩)
end
noncomputable def fW(env:Env):List (Str×NameKind)->List (Str×Addr)->List (Str×Addr)
 |[],cs=>cs
 |(n,k)::r,cs=>if k==.free then fW env r ((n,(env.cells.lookup n).getD 0)::cs) else fW env r cs
def I6{scope:Scope}{env:Env}(h:∀x∈scope.names,x.2=.free->∃c,env.cells.lookup x.1=some c):closureFor scope env=pure (fW env scope.names []):=by
 have key:∀(l:List (Str×NameKind))(cs:List (Str×Addr)),(∀x∈l,x.2=.free->∃c,env.cells.lookup x.1=some c) ->
   (forIn l cs λ(x:Str×NameKind)(r:List (Str×Addr))=>(match x with
    |(name,kind)=>if (kind==NameKind.free)=true then do let a <- cellOf env name;pure (ForInStep.yield ((name,a)::r)) else pure (ForInStep.yield r):Sem (ForInStep (List (Str×Addr)))))=(pure (fW env l cs):Sem _):=by
  intro l
  induction l with
  |nil=>intro cs _;rfl
  |cons x l aN =>
   intro cs af;obtain⟨n,k⟩:=x;simp only[List.forIn_cons,fW];cases q:(k==NameKind.free) with
   |false =>
    simp only[Wk,WM,pure_bind];exact aN cs λy aA=>af y (List.mem_cons_of_mem _ aA)
   |true =>
    have aq:k=.free:=by simpa using q
    obtain⟨c,e⟩:=af (n,k) List.mem_cons_self aq;simp only at e;simp only[Xl,cellOf,e,pure_bind,Option.getD_some];exact aN _ λy aA=>af y (List.mem_cons_of_mem _ aA)
 unfold closureFor;have:=key scope.names [] h;simp only[bind_pure];exact this
theorem we {env : Env} {x : Str} {c : Addr} : ∀ (l : List (Str × NameKind)) (cs : List (Str × Addr)), (fW env l cs).lookup x = some c -> cs.lookup x = some c \/ (∃ y ∈ l, y.1 = x /\ y.2 = .free /\ c = (env.cells.lookup x).getD 0)
  | [], cs, h => .inl h
  | (n, k) :: r, cs, h => by
    unfold fW at h
    cases q : (k == NameKind.free) with
    | false =>
      rw [q] at h
      rcases we r cs h with aa | ⟨y, aA, aa⟩
      · exact .inl aa
      · exact .inr ⟨y, List.mem_cons_of_mem _ aA, aa⟩
    | true =>
      rw [q] at h
      have aq : k = .free := by simpa using q
      rcases we r _ h with aa | ⟨y, aA, aa⟩
      · rw [WY] at aa
        cases z : (x == n) with
        | false => rw [z] at aa; exact .inl aa
        | true =>
          rw [z] at aa
          have e : x = n := by simpa using z
          subst e
          exact .inr ⟨(x, k), List.mem_cons_self, rfl, aq, (WU aa).symm⟩
      · exact .inr ⟨y, List.mem_cons_of_mem _ aA, aa⟩
theorem wd{env:Env}{x:Str}:∀(l:List (Str×NameKind))(cs:List (Str×Addr)),((∃y∈l,y.1=x/\y.2=.free)\/(cs.lookup x).isSome=true)->((fW env l cs).lookup x).isSome=true
 |[],cs,h=>by
  rcases h with⟨y,aA,_⟩|h
  .simp at aA
  .exact h
 |(n,k)::r,cs,h=>by
  unfold fW;cases q:(k==NameKind.free) with
  |false =>
   refine wd r cs ?_;rcases h with⟨y,aA,aa,h2⟩|h
   .rcases Wo.mp aA with e|aA
    .subst e;simp only at h2;rw[h2]at q;cases q
    .exact .inl ⟨y,aA,aa,h2⟩
   .exact .inr h
  |true =>
   refine wd r _ ?_;rcases h with⟨y,aA,aa,h2⟩|h
   .rcases Wo.mp aA with e|aA
    .subst e;simp only at aa;subst aa;exact .inr (by simp)
    .exact .inl ⟨y,aA,aa,h2⟩
   .refine .inr ?_;rw[WY];cases z:(x==n)
    .exact h
    .rfl
end bD
end
section
namespace bD
open PySem PySem.Spec PyProof.Rows bx
theorem mr {env : Env} {x : Str} : ∀ {names : List (Str × NameKind)} {k : NameKind}, (names.map fun (n, k) => if (k == NameKind.free && env.scope.kind == .function && env.kindOf n == some .cell) then (n, NameKind.cell) else (n, k)).lookup x = some k ->
    names.lookup x = some k \/ (names.lookup x = some .free /\ k = .cell)
  | [], _, h => by simp at h
  | (n, j) :: r, k, h => by
    have h : List.lookup x ((if (j == NameKind.free && env.scope.kind == .function && env.kindOf n == some .cell) = true then (n, NameKind.cell) else (n, j)) :: (r.map fun (n, k) => if (k == NameKind.free && env.scope.kind == .function && env.kindOf n == some .cell) then (n, NameKind.cell) else (n, k))) = some k := h
    rw [WY]
    cases af : x == n with
    | true =>
      by_cases aj : (j == NameKind.free && env.scope.kind == .function && env.kindOf n == some .cell) = true
      · rw [if_pos aj, WY] at h
        simp only [af] at h
        have aG : j = .free := by simp only [Wi, Xi] at aj; exact aj.1.1
        exact .inr ⟨by rw [aG], (WU h).symm⟩
      · rw [if_neg aj, WY] at h
        simp only [af] at h
        exact .inl h
    | false =>
      by_cases aj : (j == NameKind.free && env.scope.kind == .function && env.kindOf n == some .cell) = true
      · rw [if_pos aj, WY] at h
        simp only [af] at h
        exact mr h
      · rw [if_neg aj, WY] at h
        simp only [af] at h
        exact mr h
theorem t9 {env : Env} {x : Str} {k : NameKind} : ∀ {names : List (Str × NameKind)}, names.lookup x = some k -> k ≠ .free -> (names.map fun (n, k) => if (k == NameKind.free && env.scope.kind == .function && env.kindOf n == some .cell) then (n, NameKind.cell) else (n, k)).lookup x = some k
  | [], h, _ => by simp at h
  | (n, j) :: r, h, aq => by
    show List.lookup x ((if (j == NameKind.free && env.scope.kind == .function && env.kindOf n == some .cell) = true then (n, NameKind.cell) else (n, j)) :: _) = _
    rw [WY] at h
    cases af : x == n with
    | true =>
      simp only [af] at h
      have aG : j = k := WU h
      subst aG
      have aj : ¬ (j == NameKind.free && env.scope.kind == .function && env.kindOf n == some .cell) = true := by
        intro z; simp only [Wi, Xi] at z; exact aq z.1.1
      rw [if_neg aj, WY]; simp only [af]
    | false =>
      simp only [af] at h
      have aN := t9 (env := env) h aq
      by_cases aj : (j == NameKind.free && env.scope.kind == .function && env.kindOf n == some .cell) = true
      · rw [if_pos aj, WY]; simp only [af]; exact aN
      · rw [if_neg aj, WY]; simp only [af]; exact aN
theorem y5{env:Env}{x:Str}:∀{names:List (Str×NameKind)},names.lookup x=some .free->(names.map λ(n,k)=>if (k==NameKind.free&&env.scope.kind==.function&&env.kindOf n==some .cell) then(n,NameKind.cell) else(n,k)).lookup x=some .cell\/(names.map λ(n,k)=>if (k==NameKind.free&&env.scope.kind==.function&&env.kindOf n==some .cell) then(n,NameKind.cell) else(n,k)).lookup x=some .free
 |[],h=>by simp at h
 |(n,j)::r,h=>by
  show List.lookup x ((if (j==NameKind.free&&env.scope.kind==.function&&env.kindOf n==some .cell)=true then(n,NameKind.cell) else(n,j))::_)=_\/List.lookup x ((if (j==NameKind.free&&env.scope.kind==.function&&env.kindOf n==some .cell)=true then(n,NameKind.cell) else(n,j))::_)=_;rw[WY]at h;cases af:x==n with
  |true =>
   simp only[af]at h
   by_cases aj:(j==NameKind.free&&env.scope.kind==.function&&env.kindOf n==some .cell)=true
   .rw[if_pos aj,WY];simp[af]
   .rw[if_neg aj,WY];simp only[af];exact .inr h
  |false =>
   simp only[af]at h;have aN:=y5 (env:=env) h
   by_cases aj:(j==NameKind.free&&env.scope.kind==.function&&env.kindOf n==some .cell)=true
   .rw[if_pos aj,WY];simp only[af];exact aN
   .rw[if_neg aj,WY];simp only[af];exact aN
noncomputable def nf(X:aR)(IV:Env)(cm:List Str)(s3:Shared)(bw:az)(bk:List Addr)(pins:List (Addr×Obj)):aR :=
 { X with N:=cm,ef:=s3,qe:=bw,env:=IV,outer:=X.stack,ex:=bk,fn:=λ_=>false,bS:=X.bS++pins,b8:=λ_ _=>False }
structure oC(X:aR)(scope:Scope)(xs:List Str)(cm:List Str):Prop where
 kind:scope.kind=.function
 mz:∀y∈scope.names,y.2≠.cell
 names:∀y∈scope.names,y.2=.local->scope.names.lookup y.1=some .local
 loc:∀y,scope.names.lookup y=some .local->y∈xs\/y=(".0":Str)
 eN:∀y∈xs,scope.names.lookup y=some .local
 fr:∀y∈scope.names,y.2=.free->X.env.scope.names.lookup y.1=some .cell\/X.env.scope.names.lookup y.1=some .free
 len:cm.length=X.N.length+xs.length
 old:∀(i:Nat) y,i<X.N.length->cm[i]?=some y->(scope.names.lookup y).isSome=true->X.N[i]?=some y/\y∉xs/\y≠(".0":Str)
 new:∀(j:Nat),cm[X.N.length+j]?=xs[j]?
 dB:cm.Nodup
section
variable{X:aR}{pins:List (Addr×Obj)}{σ:bQ}{H:az}{s:Shared}{bk:List Addr}{scope:Scope}{xs cm:List Str}{hT:Heap}{tk:Nat}
def Io (I : Inv X pins σ H s) (hf : ∀ b ∈ bk, i1 X pins H b) (ay : ∀ b ∈ bk, ∃ o, s.heap.get? b = some o) (B : oC X scope xs cm)
    (pf : hT.Ns s.heap.objs.size (fun _ => none)) (aq : ∀ b o, s.heap.get? b = some o -> hT.get? b = some o) :
    Inv (nf X (compEnvC scope (fW X.env scope.names []) s.heap.objs.size X.env) cm s H bk pins) [] (σ ++ List.replicate xs.length none) H { s with heap := hT, toks := tk } := by
  have look : ∀ y c, (fW X.env scope.names []).lookup y = some c -> X.env.cells.lookup y = some c := fun y c e => by
    rcases we _ _ e with h | ⟨z, hz, e1, e2, e3⟩
    · simp at h
    · have := B.fr z hz e2
      rw [e1] at this
      obtain ⟨cQ, c8⟩ := I.ok.has y (by rcases this with q | q; exact .inl q; exact .inr q)
      rw [c8] at e3
      simp at e3
      rw [c8, e3]
  have has : ∀ y, scope.names.lookup y = some .free -> ∃ c, (fW X.env scope.names []).lookup y = some c := fun y e =>
    Option.isSome_iff_exists.mp (wd _ _ (.inl ⟨(y, .free), Xa e, rfl, rfl⟩))
  have Vk : ∀ y c, X.env.cells.lookup y = some c -> c < s.heap.objs.size := fun y c e => by
    obtain ⟨v, q⟩ := I.cell y c e; exact q.lt
  have D1 : ∀ b, b < s.heap.objs.size -> b ≠ s.heap.objs.size := fun b ae => WB ae
  refine ⟨⟨I.ok.mod, B.kind, I.ok.glob, I.ok.blt, Wm _, fun y z c e1 e2 => I.ok.inj y z c (look y c e1) (look z c e2), fun y aA => ?_, fun y c q _ => Bool.noConfusion q, I.ok.hd, I.ok.frames, .inl rfl, fun b ae => ?_, I.bs, Xt I.ok.ng I.dJ, fun b o e ae => ?_, fun b ae jg => ?_, I.stack, I.zp⟩,
    rfl, I.bare, eJ.kept aq, ⟨_, pf, fun i y v e1 e2 e3 => ?_⟩, fun y c e => ?_, I.fresh, fun y c e => I.g5 y c (look y c e), fun p ax => ?_, I.bU.kept aq, ?_⟩
  · -- has
    have aA : (relabel scope X.env).names.lookup y = some .cell \/ (relabel scope X.env).names.lookup y = some .free := aA
    have : scope.names.lookup y = some .free := by
      rcases aA with q | q
      · rcases mr q with z | z
        · exact absurd rfl (B.mz _ (Xa z))
        · exact z.1
      · rcases mr q with z | z
        · exact z
        · exact z.1
    exact has y this
  · -- sI
    obtain ⟨f0, f1, f2, dm, f4, eW⟩ := hf b ae
    obtain ⟨o, ay⟩ := ay b ae
    exact ⟨D1 b (Wl ay), fun y c e => f4 y c (look y c e)⟩
  · -- mA
    obtain ⟨f0, f1, f2, dm, f4, eW⟩ := hf b ae
    rcases dm with q | q
    · exact I.ok.mA b o e q
    · have := Wl (I.ok.bs b o e).1
      exact absurd (WI this q) (Xz _)
  · -- nv
    obtain ⟨f0, f1, f2, dm, f4, eW⟩ := hf b ae
    rcases Wo.mp (I.oh b jg) with q | q
    · exact f1 q
    · exact f2 q
  · -- zB names
    have hi : i < σ.length := by
      by_cases hi : i < σ.length
      · exact hi
      · rw [Xh (by omega), Yi] at e2
        split at e2 <;> cases e2
    rw [WC hi] at e2
    have MK : i < X.N.length := by rw [<- I.len]; exact hi
    have e3 : h9 (relabel scope X.env) y := e3
    have Nv : (scope.names.lookup y).isSome = true := by
      rcases e3 with q | q | q
      all_goals
        rcases mr q with z | z
        · rw [z]; rfl
        · rw [z.1]; rfl
    obtain ⟨J7, af, h0⟩ := B.old i y MK e1 Nv
    have mg : scope.names.lookup y = some .free := by
      rcases e3 with q | q | q
      · rcases mr q with z | z
        · rcases B.loc y z with w | w
          · exact absurd w af
          · exact absurd w h0
        · exact z.1
      · rcases mr q with z | z
        · exact absurd rfl (B.mz _ (Xa z))
        · exact z.1
      · rcases mr q with z | z
        · exact z
        · exact z.1
    have aJ := B.fr (y, .free) (Xa mg) rfl
    obtain ⟨m, aw, au⟩ := I.loc
    obtain ⟨u, r, l⟩ := au i y v J7 e2 (by rcases aJ with q | q; exact .inr (.inl q); exact .inr (.inr q))
    refine ⟨u, r, .inr ⟨?_, ?_⟩⟩
    · exact y5 mg
    · rcases l with ⟨k, _⟩ | ⟨_, c, l8, z⟩
      · exfalso
        have k : X.env.scope.names.lookup y = some .local := k
        simp only at aJ
        rcases aJ with q | q <;> rw [k] at q <;> cases q
      · obtain ⟨cQ, c8⟩ := has y mg
        have e : cQ = c := by have := look y cQ c8; rw [l8] at this; exact (WU this).symm
        subst e
        obtain ⟨o, aa, h2⟩ := z
        exact ⟨cQ, c8, o, aq _ _ aa, h2⟩
  · -- cells
    obtain ⟨v, o, aa, h2⟩ := I.cell y c (look y c e)
    exact ⟨v, o, aq _ _ aa, h2⟩
  · -- pins
    have ax : p ∈ X.bS ++ pins := by simpa [nf] using ax
    obtain ⟨e, n, ne, ik, d⟩ := I.pin p ax
    refine ⟨aq _ _ e, n, D1 _ (Wl e), fun ae => ?_, d⟩
    rcases Wo.mp (I.oh p.1 ae) with q | q
    · exact ne q
    · exact ik q
  · show _ = cm.length
    rw [Wu, Yp, B.len, I.len]
end
end bD
end
section
namespace bD
open PySem PySem.Spec PyProof.Rows bx
noncomputable def mL:List Nat->List V->bQ->bQ
 |i::is,v::ai,σ=>mL is ai (σ.set i (some v))
 |_,_,σ=>σ
noncomputable def xa:List Nat->lP
 |[]=>BX
 |i::is=>BV (w9 i) (xa is)
theorem BW:∀(ts:List Nat)(ai:List V)(σ:bQ)(H:az)(Q:bQ->az->Prop),ai.length=ts.length->Q (mL ts ai σ) H->xa ts ai σ H Q
 |[],[],σ,H,Q,_,q=>⟨rfl,q⟩
 |[],_::_,_,_,_,h,_=>by simp at h
 |_::_,[],_,_,_,h,_=>by simp at h
 |i::is,v::ai,σ,H,Q,h,q=>⟨v,ai,rfl,BW is ai _ H Q (by simpa using h) q⟩
noncomputable def w8(K:W.Frag)(k:Nat)(ts:List Nat):ky:=λv σ H Q=>∃G d,bz G H/\Rep K G d v/\cY (Den.fK k d) (λos=>∀(ws:List D)(ai:List V),os=ws.map some->bu K G ws ai->Q (mL ts ai σ) H) (λ_=>False)
section
variable{X:aR}
theorem EA (bq : X.N.Nodup) : ∀ (ts : List Nat) (ys : List Str) (ah : List Expr), Den.namesOf ah = some ys -> ts.length = ys.length -> (∀ (j i : Nat) y, ts[j]? = some i -> ys[j]? = some y -> X.N[i]? = some y /\ Loc X.env.scope y /\ (X.fn y = true \/ X.env.scope.names.lookup y = some .local)) ->
    qj X ah (xa ts) /\ (assignEach ah X.env).length = ts.length /\ (assignEach ah X.env).findIdx? (·.1) = none
  | ts, ys, [], h, au, _ => by
    simp only [Den.namesOf, Xu] at h
    subst h
    have : ts = [] := by simpa using au
    subst this
    exact ⟨QQ, rfl, rfl⟩
  | ts, ys, e :: ah, h, au, af => by
    simp only [Den.namesOf] at h
    cases e with
    | Name x p =>
      cases q : Den.namesOf ah with
      | none => simp only [Den.nameOf, q] at h; cases h
      | some zs =>
        simp only [Den.nameOf, q, Xu] at h
        subst h
        cases ts with
        | nil => simp at au
        | cons i is =>
          obtain ⟨a, b, c⟩ := af 0 i x rfl rfl
          obtain ⟨aa, h2, h3⟩ := EA bq is zs ah q (by simpa using au) fun j i y e1 e2 => af (j + 1) i y (by simpa using e1) (by simpa using e2)
          refine ⟨QP (Ey bq a b c) aa rfl, ?_, ?_⟩
          · show (assignEach ah X.env).length + 1 = is.length + 1; rw [h2]
          · show ((false, assign (.Name x p) X.env) :: assignEach ah X.env).findIdx? (·.1) = none
            rw [List.findIdx?_cons]
            simp only [Wk, WM]
            rw [h3]; rfl
    | _ => simp only [Den.nameOf] at h; cases h
def Ez (aj : X.calm = true) (bq : X.N.Nodup) {k : Nat} {target : Expr} {ys : List Str} {ts : List Nat} (aW : Den.eN k target = some ys) (au : ts.length = ys.length)
    (af : ∀ (j i : Nat) y, ts[j]? = some i -> ys[j]? = some y -> X.N[i]? = some y /\ Loc X.env.scope y /\ (X.fn y = true \/ X.env.scope.names.lookup y = some .local)) : ix X target (w8 X.K k ts) := by
  cases k with
  | zero =>
    cases target with
    | Name x p =>
      simp only [Den.eN, Xu] at aW
      subst aW
      obtain ⟨i, rfl⟩ : ∃ i, ts = [i] := by
        match ts, au with
        | [i], _ => exact ⟨i, rfl⟩
      obtain ⟨a, b, c⟩ := af 0 i x rfl rfl
      intro pins s σ H v u Q I r ⟨G, d, ag, n9, hw⟩
      refine Ey bq a b c pins s σ H v u Q I r ?_
      exact hw [d] [v] rfl ⟨v, [], rfl, n9, rfl⟩
    | _ => simp only [Den.eN] at aW; cases aW
  | succ k =>
    cases target with
    | Tuple ah j p =>
      simp only [Den.eN] at aW
      cases q : Den.namesOf ah with
      | none => rw [q] at aW; cases aW
      | some zs =>
        rw [q] at aW
        simp only at aW
        by_cases hz : zs.length = k + 1
        · rw [if_pos hz] at aW
          simp only [Xu] at aW
          subst aW
          obtain ⟨aa, h2, h3⟩ := EA bq ts zs ah q au af
          intro pins s σ H v u Q I r ⟨G, d, ag, n9, hw⟩
          refine QO (n := ts.length) aj aa h2 h3 pins s σ H v u Q I r ?_
          cases d with
          | tup ds =>
            obtain ⟨a, xs, e, gG, ub⟩ := n9
            have ae : Den.fK (k + 1) (.tup ds) = if ds.length = k + 1 then .ok (ds.map some) else .bad := rfl
            rw [ae] at hw
            by_cases hd : ds.length = k + 1
            · rw [if_pos hd] at hw
              have CK : xs.length = ts.length := by rw [<- ub.length, hd, au, hz]
              exact ⟨a, xs, e, fw ag gG, CK, BW ts xs σ H Q CK (hw ds xs rfl ub)⟩
            · rw [if_neg hd] at hw; exact hw.elim
          | _ => exact hw.elim
        · rw [if_neg hz] at aW; cases aW
    | _ => simp only [Den.eN] at aW; cases aW
end
structure m1(K:W.Frag)(P:az->az->Prop)(bP:i4)(ds:List D):Prop where
 go:∀(i:Nat) aI H1,P aI H1->i<ds.length->bP.go i H1
 kj:∀(i:Nat) aI H1 x aV d,P aI H1->bz aI H1->ds[i]?=some d->bP.kj i H1 x aV->∃bV,Ext aI H1 bV aV/\Rep K bV d x
 stop:∀aI H1,P aI H1->bP.stop ds.length H1
noncomputable def oH(m:en)(G H:az):az->az->Prop:=λaI H1=>bz G aI/\(match m with|.view=>bz H H1|_=>bz aI H1)
noncomputable def jA(xp:b5)(X:aR)(ak:List Nat)(m:en)(f:a7->bp (List D)):TI:=λσ H R =>
 ∃G J,d7 X.K ak G H J σ/\cY (f J) (λds=>∀bP aP ao,Ext G H aP ao->m1 X.K (oH m aP ao) bP ds->ds.length<=16777216->R bP ao) (λc=>gU xp X c H)
end bD
end
section
namespace bD
open PySem PySem.Spec PyProof.Rows bx
def yE{α:Type}{r:bp α}{Q:α->Prop}{E:Nat->Prop}(h:cY (Den.lj r) Q E):∃a,r=.ok a/\Q a:=by
 cases r with
 |ok a=>exact⟨a,rfl,h⟩
 |exc c=>exact h.elim
 |bad=>exact h.elim
def d7.more{K:W.Frag}{ak:List Nat}{G H:az}{J:a7}{σ:bQ}(h:d7 K ak G H J σ)(hy:∀i∈ak,i<J.length){ws:List D}{ai:List V}(r:bu K G ws ai):d7 K ak G H (J++ws.map some) (σ++ai.map some) where
 len:=by rw[Wu,Wu,h.len,List.length_map,List.length_map,r.length]
 sub:=h.sub
 val:=λi d e hm=>by
  by_cases hi:i<J.length
  .rw[WC hi]at e;obtain⟨v,a,b⟩:=h.val i d e hm;exact⟨v,by rw[WC (by rw[<- h.len];exact hi)];exact a,b⟩
  .rw[Xh (by omega),WJ]at e
   cases q:ws[i-J.length]? with
   |none=>rw[q]at e;cases e
   |some w =>
    rw[q]at e;simp only[Option.map_some,Xu]at e;subst e;obtain⟨v,a,b⟩:=r.get q;exact⟨v,by rw[Xh (by rw[<- h.len];omega),WJ,<- h.len,a];rfl,b⟩
 own:=λi d e hm au=>by
  have hi:=hy i hm;rw[WC hi]at e;obtain⟨v,a,b⟩:=h.own i d e hm au;exact⟨v,by rw[WC (by rw[<- h.len];exact hi)];exact a,b⟩
 lst:=λi ds e hm=>by
  have hi:=hy i hm;rw[WC hi]at e;obtain⟨a,xs,aa,h2⟩:=h.lst i ds e hm;exact⟨a,xs,by rw[WC (by rw[<- h.len];exact hi)];exact aa,h2⟩
 apart:=λi j ds ah a b e1 e2 hi aG ne aa h2=>by
  have d3:=hy i hi;have fq:=hy j aG;rw[WC d3]at e1;rw[WC fq]at e2;rw[WC (by rw[<- h.len];exact d3)]at aa
  rw[WC (by rw[<- h.len];exact fq)]at h2
  exact h.apart i j ds ah a b e1 e2 hi aG ne aa h2
theorem Fp:∀(ai:List V)(σ:bQ)(fR:bQ)(n:Nat),n=σ.length->fR.length=ai.length->mL (List.range' n ai.length) ai (σ++fR)=σ++ai.map some
 |[],σ,fR,n,aw,aW=>by
  have:fR=[]:=by simpa using aW
  subst this;rfl
 |v::ai,σ,fR,n,aw,aW=>by
  cases fR with
  |nil=>simp at aW
  |cons t fR =>
   rw[List.length_cons,List.range'_succ,mL];have e:(σ++t::fR).set n (some v)=(σ++[some v])++fR:=by
    rw[List.set_append_right _ _ (by omega),aw];simp
   rw[e,Fp ai (σ++[some v]) fR (n+1) (by simp[aw]) (by simpa using aW)]
   simp
section
variable{xp:b5}{X:aR}{ak:List Nat}{je:a7->bp (List D)}{fY:a7->bp D}{cX:a7->bp Bool}{elt target iter:Expr}{ifs:List Expr}{scope:Scope}{pos:Pos}{xs cm:List Str}{k:Nat}
noncomputable def iC(k:Nat)(cX:a7->bp Bool)(fY:a7->bp D)(J:a7)(d:D):bp (Option D):=Den.fK k d>>=λai=>cX (J++ai)>>=λb=>if b then fY (J++ai)>>=λy=>.ok (some y) else .ok none
noncomputable def gw(X:aR)(scope:Scope)(cm:List Str)(s3:Shared)(bw:az)(bk:List Addr)(pins:List (Addr×Obj)):aR:=nf X (compEnvC scope (fW X.env scope.names []) s3.heap.objs.size X.env) cm s3 bw bk pins
def Ii{k:Nat}{d:D}{os:List (Option D)}(h:Den.fK k d=.ok os):∃ws:List D,os=ws.map some:=by
 cases k with
 |zero=>cases h;exact⟨[d],rfl⟩
 |succ k =>
  cases d with
  |tup ds =>
   have ae:Den.fK (k+1) (.tup ds)=if ds.length=k+1 then .ok (ds.map some) else .bad:=rfl;rw[ae]at h
   by_cases hd:ds.length=k+1
   .rw[if_pos hd]at h;cases h;exact⟨ds,rfl⟩
   .rw[if_neg hd]at h;cases h
  |_=>cases h
end
end bD
end
section
namespace bD
open PySem PySem.Spec PyProof.Rows bx
section
variable{xp:b5}{X:aR}{ak:List Nat}{je:a7->bp (List D)}{fY:a7->bp D}{cX:a7->bp Bool}{elt target iter:Expr}{ifs:List Expr}{scope:Scope}{pos:Pos}{xs cm:List Str}{k:Nat}
noncomputable def qn(xp:b5)(X:aR)(ak:List Nat)(scope:Scope)(cm:List Str)(ifs:List Expr)(cX:a7->bp Bool):Prop :=
 (ifs=[]/\cX=λ_=>.ok true)\/∃(c:Expr)(sL:a7->bp D),ifs=[c]/\(cX=λJ=>sL J>>=Den.gd)/\∀s3 bw bk pins,dM (gw X scope cm s3 bw bk pins) c (gK xp (gw X scope cm s3 bw bk pins) ak sL)
def Um(aW:qn xp X ak scope cm ifs cX){s3:Shared}{bw:az}{bk:List Addr}{pp pins:List (Addr×Obj)}{s:Shared}{σ:bQ}{G H:az}{J:a7}{b:Bool}{Q:Bool->Shared->Prop}(I:Inv (gw X scope cm s3 bw bk pp) pins σ H s)(ag:d7 X.K ak G H J σ)(ae:cX J=.ok b)(aF:∀s' aP ao,Inv (gw X scope cm s3 bw bk pp) pins σ ao s'->Ext G H aP ao->Q b s'):
  wpAny (model X.prog X.w) X.A (forIn ifs true λc r=>if r=true then do let ok <- isTrue c (gw X scope cm s3 bw bk pp).env (eval c (gw X scope cm s3 bw bk pp).env);pure (ForInStep.yield ok) else pure (ForInStep.yield r)) Q (λ_ _=>False) s:=by
 rcases aW with⟨rfl,rfl⟩|⟨c,sL,rfl,rfl,h⟩
 .cases ae;exact wpAny_tests_nil (aF s G H I (Ext.refl ag.sub))
 .refine wpAny_tests_one (Xy (h s3 bw bk pp pins s σ H (λi8 ao=>i8=b/\∃aP,Ext G H aP ao) I ⟨G,J,ag,?_⟩) (λi8 s' ⟨ao,dX,e,aP,x⟩=>?_) λ_ _ z=>z)
  .have ae:(sL J>>=Den.gd)=.ok b:=ae;rw[ae];exact λaP ao x=>⟨rfl,aP,x⟩
  .subst e;exact aF s' aP ao dX x
def Ij{d:D}{os:List (Option D)}(aq:Den.eN k target=some xs)(h:Den.fK k d=.ok os):os.length=xs.length:=by
 cases k with
 |zero =>
  cases h;cases target with
  |Name x p=>simp only[Den.eN,Xu]at aq;subst aq;rfl
  |_=>simp only[Den.eN]at aq;cases aq
 |succ k =>
  have af:xs.length=k+1:=by
   cases target with
   |Tuple ah j p =>
    simp only[Den.eN]at aq;cases q:Den.namesOf ah with
    |none=>rw[q]at aq;cases aq
    |some zs =>
     rw[q]at aq;simp only at aq
     by_cases hz:zs.length=k+1
     .rw[if_pos hz]at aq;cases aq;exact hz
     .rw[if_neg hz]at aq;cases aq
   |_=>simp only[Den.eN]at aq;cases aq
  cases d with
  |tup ds =>
   have ae:Den.fK (k+1) (.tup ds)=if ds.length=k+1 then .ok (ds.map some) else .bad:=rfl;rw[ae]at h
   by_cases hd:ds.length=k+1
   .rw[if_pos hd]at h;cases h;rw[List.length_map,hd,af]
   .rw[if_neg hd]at h;cases h
  |_=>cases h
def Pe{a b:List D}(h:a.map some=b.map some):a=b:=by
 induction a generalizing b with
 |nil=>cases b with|nil=>rfl|cons _ _=>simp at h
 |cons x a aN=>cases b with
  |nil=>simp at h
  |cons y b=>simp only[WA,Z2,Xu]at h;rw[h.1,aN h.2]
noncomputable def zU(X:aR)(pins:List (Addr×Obj))(σ:bQ)(G H:az)(use:Option (Value->Sem Unit))(Qc:Value->Shared->Prop)(ys:List D):Prop :=
 ∀(s4:Shared)(ao aP:az)(C cZ:Addr)(m4:Str->Option Value),Ext G H aP ao->b9 X.K H aP ao .fresh (.lst ys) (.ref cZ)->s4.heap.Ns C m4->i1 X pins ao C->(∀h',Heap.SameBut C s4.heap h'->Inv X pins σ ao { s4 with heap:=h' }) ->
  compPost (model X.prog X.w) X.A X.b8 use Qc (.ref cZ) C (.ok .next) s4
structure GZ(X Y:aR)(f:D->bp (Option D))(gu:Nat->Heap->Prop)(bk:List Addr)(ds ys:List D)(xs:List Str)(σ:bQ)(bV aV:az)(cZ:Addr)(n:Nat)(s':Shared)(i:Nat)(fR:bQ)(ao aP:az)(kk rest:List D)(hh:List V):Prop where
 aa:n=ds.length-i
 h2:i<=ds.length
 h3:fR.length=xs.length
 h4:Inv Y [] (σ++fR) ao s'
 h5:gu i s'.heap
 d0:∀b∈bk,ao b=none
 hs:Ext bV aV aP ao
 ea:ao cZ=some (.lst hh)
 ht:aP cZ=none
 o5:bu X.K aP kk hh
 sX:kk.length<=i
 hq:Den.cJ f (ds.drop i)=.ok rest
 Vv:ys=kk++rest
def Kg{cX:a7->bp Bool}{fY:a7->bp D}{k:Nat}{J:a7}{d:D}{r rest:List D}(h:Den.cJ (iC k cX fY J) (d::r)=.ok rest):∃(ws:List D)(b:Bool)(pN:List D),Den.fK k d=.ok (ws.map some)/\cX (J++ws.map some)=.ok b /\
  Den.cJ (iC k cX fY J) r=.ok pN/\((b=false/\rest=pN)\/∃y,b=true/\fY (J++ws.map some)=.ok y/\rest=y::pN):=by
 simp only[Den.cJ]at h;cases aD:iC k cX fY J d with
 |exc c=>rw[aD]at h;cases h
 |bad=>rw[aD]at h;cases h
 |ok o =>
 rw[aD]at h;simp only[Den.R.ip]at h;cases aO:Den.cJ (iC k cX fY J) r with
 |exc c=>rw[aO]at h;cases h
 |bad=>rw[aO]at h;cases h
 |ok pN =>
 rw[aO]at h;simp only[Den.R.ip]at h;unfold iC at aD;cases bE:Den.fK k d with
 |exc c=>rw[bE]at aD;cases aD
 |bad=>rw[bE]at aD;cases aD
 |ok os =>
 rw[bE]at aD;simp only[Den.R.ip]at aD;obtain⟨ws,rfl⟩:=Ii bE;cases cb:cX (J++ws.map some) with
 |exc c=>rw[cb]at aD;cases aD
 |bad=>rw[cb]at aD;cases aD
 |ok b =>
 rw[cb]at aD;simp only[Den.R.ip]at aD;cases b with
 |false=>cases aD;cases h;exact⟨ws,false,_,rfl,cb,rfl,.inl ⟨rfl,rfl⟩⟩
 |true =>
  simp only[Xl]at aD;cases gp:fY (J++ws.map some) with
  |exc c=>rw[gp]at aD;cases aD
  |bad=>rw[gp]at aD;cases aD
  |ok y =>
  rw[gp]at aD;cases aD;cases h;exact⟨ws,true,_,rfl,cb,rfl,.inr ⟨y,rfl,gp,rfl⟩⟩
def AY (aj : X.calm = true) (hy : ∀ i ∈ ak, i < X.N.length) (B : oC X scope xs cm) (aq : Den.eN k target = some xs) (nP : ∀ x, foldedSetIterable iter X.env x = pure x)
    (hi : fB X target iter (jA xp X ak .view je)) (he : ∀ s3 bw bk pins, aQ (gw X scope cm s3 bw bk pins) elt (bf xp (gw X scope cm s3 bw bk pins) ak .val fY)) (aW : qn xp X ak scope cm ifs cX)
    {use : Option (Value -> Sem Unit)} {Qc : Value -> Shared -> Prop} {pins : List (Addr × Obj)} {s : Shared} {σ : bQ} {H G : az} {J : a7} (I : Inv X pins σ H s) (ag : d7 X.K ak G H J σ)
    (hw : cY (je J >>= fun ds => Den.lj (Den.cJ (iC k cX fY J) ds)) (zU X pins σ G H use Qc) (fun c => gU xp X c H)) {pos' : Pos} :
    wpAny (model X.prog X.w) X.A (comprehension (.ListComp elt [⟨target, iter, ifs, 0⟩] scope pos) scope X.env pos' (newList []) false (eval iter X.env) use) Qc X.b8 s := by
  have Mp : closureFor scope X.env = pure (fW X.env scope.names []) := I6 fun x af e => by
    have := B.fr x af e
    exact I.ok.has x.1 (by rcases this with q | q; exact .inl q; exact .inr q)
  refine wpAny_comprehension_free (use := use) rfl nP Mp B.kind B.names ?_
  refine bM (hi pins s σ H (fun bP ao => ∃ aP ds ys, Ext G H aP ao /\ m1 X.K (oH .view aP ao) bP ds /\ ds.length <= 16777216 /\ Den.cJ (iC k cX fY J) ds = .ok ys /\ zU X pins σ G H use Qc ys) I
    ⟨G, J, ag, bT (bo.mp hw) (fun ds gG bP aP ao x k7 hz => ?_) fun _ q => q⟩) fun v s1 aa => bM aa fun yr s2 h2 => ?_
  · obtain ⟨ys, e, q⟩ := yE gG
    exact ⟨aP, ds, ys, x, k7, hz, e, q⟩
  obtain ⟨it, bk, gu, bP, aV, rfl, cy, T, cH, f2, bV, ds, ys, bt, k7, hz, NI, fin⟩ := h2
  refine WG (wpAny_newFunctionEnv B.mz (by intro y aA; simp at aA) (fun hT xY x8 => ?_) B.kind)
  dsimp only at xY x8 ⊢
  have eG : Inv X pins σ (upd aV s2.heap.objs.size (.lst [])) { s2 with heap := s2.heap.push { cls := .type "list", data := .seq ([] : List Value).toArray } } := cy.Dz (t' := s2.toks) (ys := []) (its := []) .nil (Ws _)
  generalize CP : ({ s2 with heap := s2.heap.push { cls := .type "list", data := .seq ([] : List Value).toArray } } : Shared) = s3 at eG
  have CB : s3.heap = s2.heap.push { cls := .type "list", data := .seq ([] : List Value).toArray } := by rw [<- CP]
  rw [<- CB] at xY x8 ⊢
  generalize Ce : s2.heap.objs.size = cZ at *
  have o6 : aV cZ = none := by rw [<- Ce]; exact cy.fresh
  have MC : ∀ b ∈ bk, b ≠ cZ := fun b ae z => by
    obtain ⟨o, e, _⟩ := T.obj _ _ cH b ae
    have := Wl e
    rw [z, <- Ce] at this
    exact absurd this (Xz _)
  have CF : ∀ b o, s2.heap.get? b = some o -> s3.heap.get? b = some o := fun b o e => by rw [CB]; exact Wj _ e
  have bX : ({ heap := hT, gens := s2.gens, drawn := s2.drawn, toks := s2.toks + ([] : List (Str × Value)).length, os := s2.os } : Shared) = { s3 with heap := hT, toks := s2.toks } := by rw [<- CP]; rfl
  rw [bX]
  show codeAny (model X.prog X.w) X.A (Code.compStart (elt.ListComp [{ target := target, iter := iter, ifs := ifs, is_async := 0 }] scope pos) 0 (Value.ref it) (Value.ref cZ) (compEnvC scope (fW X.env scope.names []) s3.heap.objs.size X.env))
    (compPost (model X.prog X.w) X.A X.b8 use Qc (Value.ref cZ) s3.heap.objs.size) { s3 with heap := hT, toks := s2.toks }
  have pf : hT.Ns s3.heap.objs.size (fun _ => none) := by simpa using xY
  have g9 : ∀ b o, s3.heap.get? b = some o -> hT.get? b = some o := fun b o e => x8.extBut b o (WB (Wl e)) (Wj _ e)
  have s9 : ∀ b ∈ bk, i1 X pins (upd aV cZ (.lst [])) b := fun b ae => ⟨by rw [de (MC b ae)]; exact (f2 b ae).1, (f2 b ae).2⟩
  have M9 : ∀ b ∈ bk, ∃ o, s3.heap.get? b = some o := fun b ae => by
    obtain ⟨o, e, _⟩ := T.obj _ _ cH b ae
    exact ⟨o, CF b o e⟩
  have r7 := Io (tk := s2.toks) eG s9 M9 B pf g9
  generalize f3 : nf X (compEnvC scope (fW X.env scope.names []) s3.heap.objs.size X.env) cm s3 (upd aV cZ (.lst [])) bk pins = Y at r7
  have Vm : Y = gw X scope cm s3 (upd aV cZ (.lst [])) bk pins := f3.symm
  have FQ : gu 0 hT := T.keep _ _ _ cH fun b ae o e => g9 b o (CF b o e)
  have FI : d7 X.K ak bV aV J σ := ag.ext bt
  have M3 : ∀ i ∈ ak, i < J.length := fun i hi => by rw [ag.len, I.len]; exact hy i hi
  have VM : ∀ (i : Nat) (ah : List D), i ∈ ak -> J[i]? = some (some (.lst ah)) -> σ[i]? ≠ some (some (V.ref cZ)) := fun i ah hi e z => by
    obtain ⟨a, ai, aa, h2, _⟩ := FI.lst i ah e hi
    rw [aa] at z
    injection z with z
    injection z with z
    injection z with z
    rw [z, o6] at h2; cases h2
  have w2 : ∀ {ao : az}, (∀ b ∈ bk, ao b = none) -> ∀ b ∈ bk, i1 Y [] ao b := fun aw b ae => by
    obtain ⟨f0, f1, Ld, dm, f4, eW⟩ := s9 b ae
    obtain ⟨e1, e2⟩ := r7.ok.sI b (by rw [<- f3]; exact ae)
    refine ⟨aw b ae, e1, r7.ok.nv b (by rw [<- f3]; exact ae), .inl (by rw [<- f3]; exact ae), e2, fun p ax => ?_⟩
    rw [<- f3] at ax
    exact eW p (by simpa [nf] using ax)
  have loop : codeAny (model X.prog X.w) X.A (.compLoop (.ListComp elt [⟨target, iter, ifs, 0⟩] scope pos) 0 (.ref it) (.ref cZ) (compEnvC scope (fW X.env scope.names []) s3.heap.objs.size X.env))
      (compPost (model X.prog X.w) X.A X.b8 use Qc (Value.ref cZ) s3.heap.objs.size) { s3 with heap := hT, toks := s2.toks } := by
    refine Jo (fun n s' => ∃ (i : Nat) (fR : bQ) (ao aP : az) (kk rest : List D) (hh : List V), GZ X Y (iC k cX fY J) gu bk ds ys xs σ bV aV cZ n s' i fR ao aP kk rest hh) ?_ ds.length
      ⟨0, List.replicate xs.length none, _, bV, [], ys, [], by simp, Ws _, by simp, r7, FQ, fun b ae => (s9 b ae).1, ⟨bz.refl _, gs o6, bt.sub.trans (gs o6), fun _ h _ => h⟩, eE, bt.sub.free o6, rfl, Wm _, by simpa using NI, rfl⟩
    rintro n s' ⟨i, fR, ao, aP, kk, rest, hh, rfl, qW, NM, dX, aH, BN, mT, d1, Cf, y4, VI, jX, tp⟩
    have nD : oH .view bV aV aP ao := ⟨mT.g, mT.h⟩
    have Cu : Y.calm = true := by rw [<- f3]; exact aj
    have xv : Y.prog = X.prog := by rw [<- f3]; rfl
    have xw : Y.w = X.w := by rw [<- f3]; rfl
    have Ct : Y.K = X.K := by rw [<- f3]; rfl
    have Cs : Y.A = X.A := by rw [<- f3]; rfl
    have Vx : Y.b8 = fun _ _ => False := by rw [<- f3]; rfl
    by_cases c2 : i < ds.length
    · have hd : ds[i]? = some ds[i] := Wr c2
      generalize ds[i] = d at hd
      have Mv : ds.drop i = d :: ds.drop (i + 1) := by
        have := WE.mp hd
        obtain ⟨aa, h2⟩ := this
        rw [<- h2]; exact XP aa
      rw [Mv] at jX
      have item := T.item Y xv xw Ct Cu i [] s' (σ ++ fR) ao (fun _ _ => False) dX (w2 BN) aH (k7.go i aP ao nD c2)
      rw [Cs] at item
      refine bM item fun r s4 ⟨u, aZ, h4⟩ => ?_
      subst aZ
      refine bM h4 fun _ s5 ⟨x, i3, hg, fP, zQ, lB, w4⟩ => ?_
      obtain ⟨qc, iv, n9⟩ := k7.kj i aP ao x i3 d nD mT.sub hd zQ
      have va := hg.pinned (w2 w4) (T.obj _ _ lB)
      obtain ⟨ws, b, pN, bE, cb, aO, ae⟩ := Kg jX
      have q4 : ws.length = xs.length := by have := Ij aq bE; simpa using this
      subst f3
      have aT : ix (nf X (compEnvC scope (fW X.env scope.names []) s3.heap.objs.size X.env) cm s3 (upd aV cZ (.lst [])) bk pins) target (w8 X.K k (List.range' X.N.length xs.length)) := by
        refine Ez (X := nf X (compEnvC scope (fW X.env scope.names []) s3.heap.objs.size X.env) cm s3 (upd aV cZ (.lst [])) bk pins) aj B.dB aq (by simp) fun j ck y e1 e2 => ?_
        rw [List.getElem?_range' (WE.mp e2).1] at e1
        have aA : y ∈ xs := XF e2
        have pd : (relabel scope X.env).names.lookup y = some .local := t9 (B.eN y aA) (by decide)
        cases e1
        refine ⟨?_, .inl pd, .inr pd⟩
        show cm[X.N.length + 1 * j]? = some y
        rw [Nat.one_mul, B.new j]; exact e2
      refine bM (aT _ s5 (σ ++ fR) i3 x u (fun oz gN => ∃ ai : List V, oz = σ ++ ai.map some /\ ai.length = xs.length /\ gN = i3 /\ bu X.K qc ws ai) va fP ⟨qc, d, iv.sub, n9, ?_⟩) fun _ mJ ⟨oz, gN, lK, ai, ia, CS, kJ, rws⟩ => ?_
      · rw [bE]
        intro Wf ai e r
        have e := Pe e
        subst e
        have au : ai.length = xs.length := by rw [<- r.length, q4]
        refine ⟨ai, ?_, au, rfl, r⟩
        rw [<- au]
        exact Fp ai σ fR X.N.length (I.len.symm) (by rw [NM, au])
      subst ia
      subst kJ
      have zN : Ext bV aV qc gN := mT.trans iv
      have FJ : d7 X.K ak qc gN (J ++ ws.map some) (σ ++ ai.map some) := (FI.ext zN).more M3 rws
      have Cd : gN cZ = some (.lst hh) := iv.h _ _ d1
      have Mb : qc cZ = none := iv.new cZ Cf (by rw [d1]; exact fun z => nomatch z)
      refine Um aW lK FJ cb fun rM qd gO gP mU => ?_
      have xn : gO cZ = some (.lst hh) := mU.h _ _ Cd
      have Cg : qd cZ = none := mU.new cZ Mb (by rw [Cd]; exact fun z => nomatch z)
      have EN : bu X.K qd kk hh := (y4.mono iv.g).mono mU.g
      rcases ae with ⟨rfl, rfl⟩ | ⟨y, rfl, gp, rfl⟩
      · simp only [Wk, WM]
        refine ⟨ds.length - (i + 1), by omega, i + 1, ai.map some, gO, qd, kk, rest, hh, rfl, by omega, by rw [List.length_map]; exact CS, gP.pY, T.keep _ _ _ lB fun b ae o e => (gP.pin (b, o) (WD _ (WD _ (pA ae e)))).1, fun b ae => ?_, zN.trans mU, xn, Cg, EN, by omega, aO, tp⟩
        obtain ⟨bB, e, _⟩ := T.obj _ _ lB b ae
        exact (gP.pin (b, bB) (WD _ (WD _ (pA ae e)))).2.1
      · simp only [Xl]
        refine bM (he s3 (upd aV cZ (.lst [])) bk pins _ rM (σ ++ ai.map some) gO (fun v mY => ∃ lJ, Ext qd gO lJ mY /\ Rep X.K lJ y v) gP ⟨qd, J ++ ws.map some, FJ.ext mU, by rw [gp]; exact fun v lJ mY p7 rJ => ⟨lJ, p7, rJ⟩⟩) fun u8 ug ⟨uJ, mY, G3, rJ, lJ, p7, RD⟩ => ?_
        have Ma : mY cZ = some (.lst hh) := p7.h _ _ xn
        have Ci : lJ cZ = none := p7.new cZ Cg (by rw [xn]; exact fun z => nomatch z)
        have hlen : hh.length < sizeLine := by rw [<- y4.length, W6]; omega
        refine bM (DP (X := gw X scope cm s3 (upd aV cZ (.lst [])) bk pins) _ ug (σ ++ ai.map some) mY (.ref cZ) [uJ] (.ref cZ) [u8] (fun _ zV => zV = upd mY cZ (.lst (hh ++ [uJ]))) G3 rfl (.cons rJ .nil) ⟨cZ, hh, uJ, rfl, rfl, Ma, hlen, rfl⟩) fun _ V6 ⟨_, zV, vb, _, A6⟩ => ?_
        subst A6
        have uU : Ext bV aV lJ mY := (zN.trans mU).trans p7
        refine ⟨ds.length - (i + 1), by omega, i + 1, ai.map some, _, lJ, kk ++ [y], pN, hh ++ [uJ], rfl, by omega, by rw [List.length_map]; exact CS, vb.pY, T.keep _ _ _ lB fun b ae o e => (vb.pin (b, o) (WD _ (WD _ (pA ae e)))).1, fun b ae => ?_,
          ⟨uU.g, fun b o e => ?_, fun b o e => ?_, uU.new⟩, eE, Ci, (EN.mono p7.g).snoc RD, by rw [Wu, List.length_singleton]; omega, aO, by rw [tp, Wx]; rfl⟩
        · obtain ⟨bB, e, _⟩ := T.obj _ _ lB b ae
          exact (vb.pin (b, bB) (WD _ (WD _ (pA ae e)))).2.1
        · rw [de (ij e o6)]; exact uU.h b o e
        · rw [de (ij e Ci)]; exact uU.sub b o e
    · have MN : i = ds.length := by omega
      subst MN
      have aZ : rest = [] := by
        rw [Y5] at jX
        simp only [Den.cJ] at jX
        cases jX; rfl
      subst aZ
      rw [XO] at tp
      subst tp
      have done := T.done Y xv xw Ct Cu ds.length [] s' (σ ++ fR) ao (fun _ _ => False) dX (w2 BN) aH (k7.stop aP ao nD)
      rw [Cs] at done
      refine bM done fun r s4 ⟨aZ, fA⟩ => ?_
      subst aZ
      obtain ⟨m4, CM, _⟩ := fA.loc
      have wy : Y.env.locals = s3.heap.objs.size := by rw [<- f3]; rfl
      rw [wy] at CM
      refine fin s4 ao aP s3.heap.objs.size cZ m4 (bt.trans mT) ⟨cZ, hh, rfl, d1, bt.h.free o6, Cf, y4⟩ CM (eG.qK (Wm _) (by have := fA.free; rw [wy] at this; exact this)) fun h' cC => ?_
      have Cc : ao s3.heap.objs.size = none := by have := fA.free; rw [wy] at this; exact this
      have un : eJ (fL X.stack) bk (upd aV cZ (.lst [])) ao s3.heap s4.heap := by have := fA.base; rw [<- f3] at this; exact this
      have my : ∀ b o, s3.heap.get? b = some o -> b ≠ s3.heap.objs.size := fun b o e => WB (Wl e)
      have UH : eJ (fL X.stack) bk (upd aV cZ (.lst [])) ao s3.heap h' :=
        ⟨fun b o e n ae af => (cC.2 b (my b o e)).trans (un.keep b o e n ae af), fun b o e n ae af => by obtain ⟨bl, q⟩ := un.slot b o e n ae af; exact ⟨bl, (cC.2 b (my b o e)).trans q⟩, un.free,
          fun b o e af => by obtain ⟨bO, q⟩ := un.there b o e af; exact ⟨bO, (cC.2 b (my b o e)).trans q⟩, un.iV, un.ic, un.iU⟩
      have x3 : el X.prog X.w ao h' := fun b o e => by
        have q := fA.bU b o e
        rw [xv, xw] at q
        refine q.kd (fun c v c8 q => (cC.2 c ?_).trans q) (fun _ q => q) fun _ _ q => q
        rcases c8 with z | z
        · rw [z]; rintro rfl; rw [Cc] at e; cases e
        · rintro rfl; rw [Cc] at z; cases z
      have Qn : s4.os = s3.os := by have := fA.os; rw [<- f3] at this; exact this
      have G4 : Inv X pins σ ao { s4 with heap := h' } := eG.Az (s' := { s4 with heap := h' }) Qn UH x3 fA.bare fun b ae => by
        obtain ⟨f0, f1, Ld, dm, f4, eW⟩ := s9 b ae
        exact ⟨dm, f1, f4, eW⟩
      exact G4
  refine codeAny_compStart_list loop (T.self _ _ _ _ _ FQ loop)
def za(aj:X.calm=true)(hy:∀i∈ak,i<X.N.length)(B:oC X scope xs cm)(aq:Den.eN k target=some xs)(nP:∀x,foldedSetIterable iter X.env x=pure x)(hi:fB X target iter (jA xp X ak .view je))(he:∀s3 bw bk pins,aQ (gw X scope cm s3 bw bk pins) elt (bf xp (gw X scope cm s3 bw bk pins) ak .val fY))(aW:qn xp X ak scope cm ifs cX):
  aQ X (.ListComp elt [⟨target,iter,ifs,0⟩] scope pos) (bf xp X ak .fresh λJ=>je J>>=λds=>Den.lj (Den.cJ (iC k cX fY J) ds)>>=λys=>.ok (.lst ys)):=by
 intro pins s σ H Q I ⟨G,J,ag,hw⟩;rw[eval_ListComp];refine AY aj hy B aq nP hi he aW I ag (use:=none) (Qc:=dT X pins σ Q) ?_;have hw:=bo.mp hw;refine bo.mpr (bT hw (λds k1=>?_) λ_ q=>q)
 refine bT (bo.mp k1) (λys k2 s4 ao aP C cZ m4 x r aw hf inv=>?_) λ_ q=>q
 exact⟨m4,aw,λh' cC=>⟨.ref cZ,ao,inv h' cC,rfl,k2 _ aP ao x r⟩⟩
end
end bD
end
section
namespace bD
open PySem PySem.Spec PyProof.Rows bx
section
variable{xp:b5}{X:aR}{ak:List Nat}{m:en}{f bc cz:a7->bp D}{l a b c3:Expr}{pos p:Pos}
def QT{hF:TE}(au:aQ X l hF):fB X c3 l (λσ H R=>hF σ H λx H1=>∃a xs,x=.ref a/\((dF X.K H1 a xs/\(xs.length<=sizeLine->R (vc X.K a) H1))\/(c4 X.K H1 a xs/\(xs.length<=sizeLine->R (vd X.K a) H1)))):=by
 intro pins s σ H R I h;refine bM (au pins s σ H _ I h) λv s1 ⟨x,H1,a9,aE,aD⟩=>?_
 obtain⟨a,xs,e,⟨aF,q⟩|⟨aF,q⟩⟩:=aD
 .subst e;cases aE;obtain⟨its,bL,p,hz⟩:=a9.list aF;refine YV p.isList ?_;refine⟨s1.heap.objs.size,[s1.heap.objs.size],_,_,H1,rfl,a9.kept (t':=s1.toks) λb o e=>Wj _ e,Uy a _,⟨_,Wq _ rfl,rfl,rfl⟩,λb ae=>?_,q hz⟩
  have e:b=s1.heap.objs.size:=by simpa using ae
  subst e;exact a9.qK (Wm _) (a9.bU.fresh (Wm _))
 .subst e;cases aE;obtain⟨its,bL,p,hz⟩:=a9.tuple aF;refine Yk (show s1.heap.IsTuple a its.toArray from p) ?_;refine⟨s1.heap.objs.size,[s1.heap.objs.size],_,_,H1,rfl,a9.kept (t':=s1.toks) λb o e=>Wj _ e,UA a _,⟨_,Wq _ rfl,rfl,rfl⟩,λb ae=>?_,q hz⟩
  have e:b=s1.heap.objs.size:=by simpa using ae
  subst e;exact a9.qK (Wm _) (a9.bU.fresh (Wm _))
def C7{K:W.Frag}{P:az->az->Prop}{G:az}{a:Addr}{xs:List V}{ds:List D}(dO:∀aI H1,P aI H1->bz G aI/\dF K H1 a xs)(r:bu K G ds xs):m1 K P (vc K a) ds where
 go:=λi aI H1 h hi=>by
  obtain⟨_,q⟩:=dO aI H1 h;have af:i<xs.length:=by rw[<- r.length];exact hi
  exact⟨xs,xs[i],q,Wr af⟩
 kj:=λi aI H1 x aV d h ag hd ⟨e,y⟩=>by
  obtain⟨g,q⟩:=dO aI H1 h;subst e;obtain⟨v,aa,h2⟩:=r.get hd;have:=y xs q;rw[aa]at this;cases this;exact⟨aI,Ext.refl ag,h2.mono g⟩
 stop:=λaI H1 h=>⟨xs,(dO aI H1 h).2,by rw[r.length];exact Wm _⟩
def Oc{K:W.Frag}{P:az->az->Prop}{G:az}{a:Addr}{xs:List V}{ds:List D}(dO:∀aI H1,P aI H1->bz G aI/\c4 K H1 a xs)(r:bu K G ds xs):m1 K P (vd K a) ds where
 go:=λi aI H1 h hi=>by
  obtain⟨_,q⟩:=dO aI H1 h;have af:i<xs.length:=by rw[<- r.length];exact hi
  exact⟨xs,xs[i],q,Wr af⟩
 kj:=λi aI H1 x aV d h ag hd ⟨e,y⟩=>by
  obtain⟨g,q⟩:=dO aI H1 h;subst e;obtain⟨v,aa,h2⟩:=r.get hd;have:=y xs q;rw[aa]at this;cases this;exact⟨aI,Ext.refl ag,h2.mono g⟩
 stop:=λaI H1 h=>⟨xs,(dO aI H1 h).2,by rw[r.length];exact Wm _⟩
def yw{K:W.Frag}{G:az}{ds:List D}{xs:List V}(r:bu K G ds xs)(h:xs.length<=sizeLine):ds.length<=16777216:=by rw[r.length,<- W6];exact h
def Sb(hm:m=.view\/m=.val)(au:aQ X l (bf xp X ak m f)):fB X c3 l (jA xp X ak m λJ=>f J>>=λd=>Den.dt d):=by
 intro pins s σ H R I ⟨G,J,ag,hw⟩;refine QT au pins s σ H R I ?_;refine⟨G,J,ag,bT (bo.mp hw) (λd k v aI H1 aM aE=>?_) λ_ q=>q⟩
 cases d with
 |lst ds =>
  rcases hm with rfl|rfl
  .obtain⟨a,xs,rfl,gG,r⟩:=kg (X:=X) aE;exact⟨a,xs,rfl,.inl ⟨gG,λhz=>k _ aI H1 aM (C7 (G:=aI) (λbV aV ⟨aa,h2⟩=>⟨aa,kc h2 gG⟩) r) (yw r hz)⟩⟩
  .obtain⟨a,xs,rfl,gG,r⟩:=aE;exact⟨a,xs,rfl,.inl ⟨kc aM.sub gG,λhz=>k _ aI H1 aM (C7 (G:=aI) (λbV aV ⟨aa,h2⟩=>⟨aa,kc h2 (kc aa gG)⟩) r) (yw r hz)⟩⟩
 |tup ds =>
  have aE:Rep X.K aI (.tup ds) v:=by rcases hm with rfl|rfl<;>exact aE
  obtain⟨a,xs,rfl,gG,r⟩:=aE;refine⟨a,xs,rfl,.inr ⟨fw aM.sub gG,λhz=>k _ aI H1 aM (Oc (G:=aI) (λbV aV ⟨aa,h2⟩=>?_) r) (yw r hz)⟩⟩
  rcases hm with rfl|rfl
  .exact⟨aa,fw h2 (fw aM.sub gG)⟩
  .exact⟨aa,fw h2 (fw aa gG)⟩
 |_=>exact k.elim
def C8 {K : W.Frag} {P : az -> az -> Prop} {lo hi : Int} : m1 K P (oE lo (hi - lo).toNat) (Den.ed lo hi) where
  go := fun i aI H1 _ c2 => by
    show i < (hi - lo).toNat
    unfold Den.ed at c2
    simpa using c2
  kj := fun i aI H1 x aV d _ ag hd ⟨e, y⟩ => by
    subst e
    unfold Den.ed at hd
    rw [WJ] at hd
    cases q : (List.range (hi - lo).toNat)[i]? with
    | none => rw [q] at hd; cases hd
    | some k =>
      rw [q] at hd
      have aq : k = i := by
        have := WE.mp q
        obtain ⟨_, e⟩ := this
        rw [<- e]; simp
      subst aq
      cases hd
      exact ⟨aI, Ext.refl ag, y⟩
  stop := fun aI H1 _ => by
    show (hi - lo).toNat <= _
    unfold Den.ed
    simp
def y6{i j:Int}{Q:List D->Prop}{E:Nat->Prop}(h:cY (Den.ir i j) Q E):(-(2 ^ 62)<=i/\i<2 ^ 62/\-(2 ^ 62)<=j/\j<2 ^ 62)/\(Den.ed i j).length<=16777216/\Q (Den.ed i j):=by
 unfold Den.ir at h;cases q:(Den.oa i&&Den.oa j&&decide ((j-i).toNat<=1000000)) with
 |false=>rw[q]at h;exact h.elim
 |true =>
  rw[q]at h;simp only[Wi,Den.oa,WH]at q;obtain⟨⟨⟨a1,a2⟩,a3,a4⟩,a5⟩:=q;refine⟨⟨by omega,by omega,by omega,by omega⟩,?_,h⟩
  unfold Den.ed;rw[List.length_map,List.length_range];omega
def Sq{x:Str}(af:x="range")(aT:dv X x)(hm:X.aB x=none)(aC:aQ X a (bf xp X ak .view bc))(bX:starEach [a] X.env=[(false,eval a X.env)]):
  fB X c3 (.Call (.Name x p) [a] [] pos) (jA xp X ak m λJ=>bc J>>=λd=>Den.fU d>>=λi=>Den.ir 0 i):=by
 subst af;intro pins s σ H R I ⟨G,J,ag,hw⟩;refine QR aT hm (j9 aC bX) bX pins s σ H R I ?_;refine⟨G,J,ag,bT (bo.mp hw) (λd k v aI H1 aM aE=>?_) λ_ q=>q⟩
 have k:=bo.mp k;cases d with
 |int i =>
  obtain⟨⟨_,_,cf,dQ⟩,hz,q⟩:=y6 k;refine⟨i,by rw[b9.pG aE],cf,dQ,?_⟩
  have:=q (oE 0 (i-0).toNat) aI H1 aM C8 hz;rw[Int.sub_zero]at this;exact this
 |_=>exact k.elim
def Sr{x:Str}(af:x="range")(aT:dv X x)(hm:X.aB x=none)(aC:aQ X a (bf xp X ak .view bc))(ae:aQ X b (bf xp X ak .view cz))(bX:starEach [a,b] X.env=[(false,eval a X.env),(false,eval b X.env)])(ml:starEach [b] X.env=[(false,eval b X.env)]):
  fB X c3 (.Call (.Name x p) [a,b] [] pos) (jA xp X ak m λJ=>bc J>>=λd=>Den.fU d>>=λi=>cz J>>=λe=>Den.fU e>>=λj=>Den.ir i j):=by
 subst af;intro pins s σ H R I ⟨G,J,ag,hw⟩;refine QS aT hm (iS aC (j9 ae ml) (by rw[bX,ml])) bX ml pins s σ H R I ?_
 refine⟨G,J,ag,bT (bo.mp hw) (λd k v aI H1 aM aE=>?_) λ_ q=>q⟩
 have k:=bo.mp k;cases d with
 |int i =>
  refine⟨aI,J,ag.ext aM,bT (bo.mp k) (λe k2 v2 bV aV bt aX=>?_) λ_ q=>q.mono aM.h⟩
  have k2:=bo.mp k2;cases e with
  |int j =>
   obtain⟨cf,hz,q⟩:=y6 k2;refine⟨i,j,by rw[b9.pG aE,b9.pG aX],cf,?_⟩
   exact q _ bV aV (aM.trans bt) C8 hz
  |_=>exact k2.elim
 |_=>exact k.elim
end
end bD
end
section
namespace bD
open PySem PySem.Spec PyProof.Rows bx
section
variable{xp:b5}{X:aR}{ak:List Nat}{m:en}{f bc cz:a7->bp D}{l a b c3:Expr}{pos p:Pos}{pins:List (Addr×Obj)}{σ:bQ}{G H:az}{s:Shared}
theorem vW{K:W.Frag}:∀{ds:List D}{bs:List Bool}{xs:List V},Den.hK ds=some bs->bu K G ds xs->xs=bs.map V.av
 |[],bs,xs,h,r=>by cases h;exact r
 |d::ds,bs,xs,h,⟨v,t,e,aE,aX⟩=>by
  subst e;cases d with
  |av b =>
   simp only[Den.hK]at h;cases q:Den.hK ds with
   |none=>rw[q]at h;cases h
   |some cs =>
    rw[q]at h;simp only[Option.map_some,Xu]at h;subst h;have aE:v=.av b:=aE;rw[aE,vW q aX];rfl
  |_=>simp only[Den.hK]at h;cases h
theorem uN:∀{bs:List Bool}{us:List Value},Vals (bs.map V.av) us->us=bs.map Value.bool
 |[],_,r=>by cases r;rfl
 |b::bs,_,r=>by
  cases r with
  |cons aE aX=>rw[uN aX,(show _=Value.bool b from aE)];rfl
def Ax(aj:X.calm=true)(I:Inv X pins σ H s){a:Addr}{bs:List Bool}(h:dF X.K H a (bs.map V.av)\/c4 X.K H a (bs.map V.av)){Q:Value->Shared->Prop}{r:List Nat->(Nat->Bool)->Bool}(aF:∀h' tk,Inv X pins σ H { s with heap:=h',toks:=tk }->Q (.bool (r (List.range bs.length) λi=>bs.getD i false)) { s with heap:=h',toks:=tk }):
  wpAny (model X.prog X.w) X.A.in1 (pyIter (.ref a)) (λit hE=>∃I bk wr n P St dn,it=.ref I/\Walks X.prog X.w X.A.in1 I bk wr n P St/\St 0 hE.heap/\TruthOf X.prog X.w X.A.in1 P dn /\
   ∀h' tk,(∀b o,b∉wr->hE.heap.get? b=some o->h'.get? b=some o)->Q (.bool (r (List.range n) dn)) { hE with heap:=h',toks:=tk }) X.b8 s:=by
 have bJ:X.A.in1.handled=none:=I.ok.hd aj;have Gh:∀its:List Value,its=bs.map Value.bool->TruthOf X.prog X.w X.A.in1 (λi v=>its.toArray[i]?=some v) λi=>bs.getD i false:=by
  intro its e i v s Q E aL dh;subst e;have aL:(bs.map Value.bool)[i]?=some v:=by simpa using aL
  rw[WJ]at aL;cases q:bs[i]? with
  |none=>rw[q]at aL;cases aL
  |some b =>
   rw[q]at aL;cases aL;refine Xj ?_;have:bs.getD i false=b:=by simp[List.getD,q]
   have dh:Q (bs.getD i false) s:=dh;rw[this]at dh;exact dh
 rcases h with h|h
 .obtain⟨its,bL,bW,hz⟩:=I.list h;have e:=uN bL;have au:its.toArray.size=bs.length:=by rw[Wv,e,List.length_map]
  refine YV bW.isList ?_;have dG:a≠s.heap.objs.size:=by obtain⟨o,n,ay,_⟩:=bW;exact WB (Wl ay)
  refine⟨s.heap.objs.size,_,_,_,_,_,λi=>bs.getD i false,rfl,Walks.list bJ _ a dG its.toArray,⟨⟨_,Wq _ rfl,rfl,rfl⟩,(let ⟨o,ay,r⟩:=bW.isList;⟨o,Wj _ ay,r⟩)⟩,Gh its e,λh' tk aq=>?_⟩
  rw[au];refine aF h' tk (I.kept λb o e=>aq b o (by simp;exact WB (Wl e)) (Wj _ e))
 .obtain⟨its,bL,bW,hz⟩:=I.tuple h;have e:=uN bL;have au:its.toArray.size=bs.length:=by rw[Wv,e,List.length_map]
  refine Yk (show s.heap.IsTuple a its.toArray from bW) ?_;have dG:a≠s.heap.objs.size:=by obtain⟨o,ay,_⟩:=bW;exact WB (Wl ay)
  refine⟨s.heap.objs.size,_,_,_,_,_,λi=>bs.getD i false,rfl,Walks.tuple bJ _ a dG its.toArray,⟨⟨_,Wq _ rfl,rfl,rfl⟩,(let ⟨o,ay,r⟩:=bW;⟨o,Wj _ ay,r⟩)⟩,Gh its e,λh' tk aq=>?_⟩
  rw[au];refine aF h' tk (I.kept λb o e=>aq b o (by simp;exact WB (Wl e)) (Wj _ e))
def range_getD(bs:List Bool):(List.range bs.length).map (λi=>bs.getD i false)=bs:=by
 apply Yb;intro i;rw[WJ]
 by_cases h:i<bs.length
 .rw[YC h];simp[List.getD,h]
 .rw[WV (by simpa using h),WV (by simpa using h)];rfl
def all_range(bs:List Bool):(List.range bs.length).all (λi=>bs.getD i false)=bs.all id:=by
 conv=>rhs;rw[<- range_getD bs]
 rw[List.all_map];rfl
def any_range(bs:List Bool):(List.range bs.length).any (λi=>bs.getD i false)=bs.any id:=by
 conv=>rhs;rw[<- range_getD bs]
 rw[List.any_map];rfl
def um(ag:bz G H){d:D}{x:V}(bF:View X.K G H d x){Q:List D->Prop}{E:Nat->Prop}(h:cY (Den.dt d) Q E):∃ds a xs,x=.ref a/\(dF X.K H a xs\/c4 X.K H a xs)/\bu X.K G ds xs/\Q ds:=by
 cases d with
 |tup ds =>
  obtain⟨a,ys,rfl,k,q⟩:=jD ag bF;exact⟨ds,a,ys,rfl,.inr k,q,h⟩
 |lst ds =>
  obtain⟨a,ys,rfl,k,q⟩:=kg bF;exact⟨ds,a,ys,rfl,.inl k,q,h⟩
 |_=>exact h.elim
def GL{ds:List D}{Q:Bool->Prop}{E:Nat->Prop}{r:List Bool->Bool}(h:cY (match Den.hK ds with|some bs=>Den.R.ok (r bs)|none=>.bad) Q E):∃bs,Den.hK ds=some bs/\Q (r bs):=by
 cases q:Den.hK ds with
 |none=>rw[q]at h;exact h.elim
 |some bs=>rw[q]at h;exact⟨bs,rfl,h⟩
def Le(aj:X.calm=true):fS X (.builtin "all") (lr X.K m λd=>Den.dt d>>=λxs=>Den.kA xs>>=λb=>.ok (.av b)):=by
 intro pins s σ H xs us Q I r ⟨G,x,d,ex,ag,bF,hw⟩;subst ex;obtain⟨u,rfl,bb⟩:=vals1 r;obtain⟨ds,a,ys,rfl,aF,rs,hw⟩:=um ag bF (bo.mp hw);obtain⟨bs,e,hw⟩:=GL (r:=λbs=>bs.all id) (bo.mp hw)
 rw[vW e rs]at aF;cases bb;refine call_all_walk (Ax aj I aF (r:=λl t=>l.all t) λh' tk dX=>?_)
 rw[all_range];exact⟨.av _,H,dX,rfl,hw _ G H (Ext.refl ag) b9.av⟩
def Lf(aj:X.calm=true):fS X (.builtin "any") (lr X.K m λd=>Den.dt d>>=λxs=>Den.lT xs>>=λb=>.ok (.av b)):=by
 intro pins s σ H xs us Q I r ⟨G,x,d,ex,ag,bF,hw⟩;subst ex;obtain⟨u,rfl,bb⟩:=vals1 r;obtain⟨ds,a,ys,rfl,aF,rs,hw⟩:=um ag bF (bo.mp hw);obtain⟨bs,e,hw⟩:=GL (r:=λbs=>bs.any id) (bo.mp hw)
 rw[vW e rs]at aF;cases bb;refine call_any_walk (Ax aj I aF (r:=λl t=>l.any t) λh' tk dX=>?_)
 rw[any_range];exact⟨.av _,H,dX,rfl,hw _ G H (Ext.refl ag) b9.av⟩
end
end bD
end
section
namespace bD
open PySem PySem.Spec PyProof.Rows bx
section
variable{prog:Program}{w:World}{A:Around}{E:Value->Shared->Prop}{s:Shared}
def LY{t bl:Addr}{items:Array Value}{eQ eR:Value}{lo hi:Option Int}{Q:Value->Shared->Prop}(aW:IsTup s.heap t items)(ag:s.heap.IsSliceOf bl eQ eR .none)(bW:IsPart eQ lo)(pu:IsPart eR hi)(hw:cP.bA items.size 0 lo=0/\cP.bA items.size items.size hi=items.size)(h:Q (.ref t) s):wpAny (model prog w) A (getItem (.ref t) (.ref bl)) Q E s:=by
 obtain⟨os,ih,ji,hv⟩:=id ag;have qQ:s.TypeIs (.ref bl) "slice":=⟨os,ih,ji⟩;unfold getItem
 try with_reducible refine XA ?_
 first|refine Wh (wpAny_pure ?_)|skip
 refine Wh (ZI aW.typeIs (by decide) ?_)
 refine Wh (W4 (name:=Str.ofString "__getitem__") aW.typeIs WQ
  (Xb WQ aW.typeIs Zj ?_ (Zt _ _)))
 show wpAny _ _ (Builtin.Tuple.tupleItemsOf (.ref t)>>=_) _ _ s;refine Wh (ZD aW ?_);refine Wh (X9 qQ ?_);rw[if_pos (by decide)]
 refine Wh (cP.FE ag bW pu ?_);have NH:(((cP.bA items.size 0 lo:Nat):Int)==0&&(1:Int)==1&&(cP.bA items.size items.size hi-cP.bA items.size 0 lo)==items.size)=true:=by
  rw[hw.1,hw.2];simp
 show wpAny _ _ (if (((cP.bA items.size 0 lo:Nat):Int)==0&&(1:Int)==1&&(cP.bA items.size items.size hi-cP.bA items.size 0 lo)==items.size)=true then _ else _) _ _ s;rw[if_pos NH];unfold Builtin.Tuple.tupleIsExact;refine Wh (Wh (X9 aW.typeIs (wpAny_pure ?_)));rw[if_pos (by decide)]
 refine Wh (XS (wpAny_pure ⟨_,rfl,wpAny_pure h⟩))
def S2{bl:Addr}{kh:Value}{n:Nat}{Q:Int×Int×Nat->Shared->Prop}(ag:s.heap.IsSliceOf bl .none .none kh)(rE:IsPart kh (some (-1)))(h:Q ((n:Int)-1,-1,n) s):wpAny (model prog w) A (Builtin.Slice.sliceApplied (.ref bl) (pure (n:Int))) Q E s:=by
 obtain⟨os,ih,ji,hv⟩:=id ag;unfold Builtin.Slice.sliceApplied Builtin.Slice.sliceFields;refine Wh (Wh (WX ih hv (x:=.none) rfl (Wh (WX ih hv (x:=.none) rfl (Wh (WX ih hv (x:=kh) rfl (wpAny_pure ?_)))))));refine Wh (cP.zg rE ?_);show wpAny _ _ (if ((-1:Int)==0)=true then _ else _) _ _ s;rw[if_neg (by decide)]
 refine Wh (Zs (Wh (Zs (Wh (wpAny_pure ?_)))));show wpAny _ _ (pure ((n:Int)-1,(-1:Int),Builtin.Slice.slicePlaces ((n:Int)-1) (-1) (-1))) _ _ s;have e:Builtin.Slice.slicePlaces ((n:Int)-1) (-1) (-1)=n:=by
  unfold Builtin.Slice.slicePlaces;rw[if_neg (by decide)]
  have e1:(-(-1:Int))=1:=by decide
  rw[e1,Int.ediv_one]
  split<;>omega
 rw[e];exact wpAny_pure h
def QW (xs : Array Value) : ((List.range xs.size).filterMap fun (m : Nat) => xs[(((xs.size : Int) - 1) + (m : Int) * (-1)).toNat]?).toArray = xs.toList.reverse.toArray := by
  congr 1
  have e : (List.range xs.size).filterMap (fun (m : Nat) => xs[(((xs.size : Int) - 1) + (m : Int) * (-1)).toNat]?) = ((List.range xs.size).map fun k => xs.size - 1 - k).filterMap (xs[·]?) := by
    rw [List.filterMap_map]
    have key : ∀ l : List Nat, (∀ m ∈ l, m < xs.size) -> l.filterMap (fun (m : Nat) => xs[(((xs.size : Int) - 1) + (m : Int) * (-1)).toNat]?) = l.filterMap ((fun x => xs[x]?) ∘ fun k => xs.size - 1 - k) := fun l => by
      induction l with
      | nil => intro _; rfl
      | cons m l aN =>
        intro h
        have hm := h m List.mem_cons_self
        have e : (((xs.size : Int) - 1) + (m : Int) * (-1)).toNat = xs.size - 1 - m := by omega
        rw [List.filterMap_cons, List.filterMap_cons, aN fun z hz => h z (List.mem_cons_of_mem _ hz), e]
        rfl
    exact key _ fun m hm => WN.mp hm
  rw [e, PySem.W.krv_range, List.filterMap_reverse, PySem.W.krv_all]
def L0{t bl:Addr}{items:Array Value}{kh:Value}{Q:Value->Shared->Prop}(aW:IsTup s.heap t items)(ag:s.heap.IsSliceOf bl .none .none kh)(rE:IsPart kh (some (-1)))(h:Q (.ref s.heap.objs.size) { s with heap:=s.heap.push { cls:=.type "tuple",data:=.seq items.toList.reverse.toArray } })(ft:items.size<=sizeLine):wpAny (model prog w) A (getItem (.ref t) (.ref bl)) Q E s:=by
 have kY:sizeOk (.seq items.toList.reverse.toArray):=by
  show items.toList.reverse.toArray.size<=sizeLine;simpa using ft
 obtain⟨os,ih,ji,hv⟩:=id ag;have qQ:s.TypeIs (.ref bl) "slice":=⟨os,ih,ji⟩;unfold getItem
 try with_reducible refine XA ?_
 first|refine Wh (wpAny_pure ?_)|skip
 refine Wh (ZI aW.typeIs (by decide) ?_)
 refine Wh (W4 (name:=Str.ofString "__getitem__") aW.typeIs WQ
  (Xb WQ aW.typeIs Zj ?_ (Zt _ _)))
 show wpAny _ _ (Builtin.Tuple.tupleItemsOf (.ref t)>>=_) _ _ s;refine Wh (ZD aW ?_);refine Wh (X9 qQ ?_);rw[if_pos (by decide)]
 refine Wh (S2 ag rE ?_);show wpAny _ _ (if (((items.size:Int)-1)==0&&(-1:Int)==1&&items.size==items.size)=true then _ else _) _ _ s;have e0:((-1:Int)==1)=false:=by decide
 rw[if_neg (by rw[e0,Xc,W0];exact W5),QW]
 first
  |exact Wh (m:=Builtin.Tuple.tupleExact _) (WG (wpAny_pure ⟨_,rfl,wpAny_pure h⟩) kY)
  |exact Wh (m:=Builtin.Tuple.tupleExact _) (WG (Wh (wpAny_pure (wpAny_pure ⟨_,rfl,wpAny_pure h⟩))) kY)
  |exact Wh (Wh (m:=Builtin.Tuple.tupleExact _) (WG (wpAny_pure (wpAny_pure ⟨_,rfl,wpAny_pure h⟩)) kY))
  |exact Wh (Wh (m:=Builtin.Tuple.tupleExact _) (WG (wpAny_pure ⟨_,rfl,wpAny_pure h⟩) kY))
end
section
variable{xp:b5}{X:aR}{ak:List Nat}{m:en}{f bc cz:a7->bp D}{ho Bx:a7->bp (Option Int)}{a b c3:Expr}{lo hi:Option Expr}{pos p p2:Pos}{pins:List (Addr×Obj)}{σ:bQ}{G H:az}{s:Shared}
def uh(n d:Nat)(o:Option Int):Den.bA n d o=cP.bA n d o:=by
 cases o with
 |none=>rfl
 |some i =>
  simp only[Den.bA,cP.bA]
  by_cases h:i<0
  .rw[if_pos h,if_pos h];split<;>omega
  .rw[if_neg h,if_neg h];split<;>omega
def A2{K:W.Frag}{ds:List D}{xs:List V}(r:bu K G ds xs)(lo hi:Option Int):bu K G (Den.cut ds lo hi) (kE xs lo hi):=by
 unfold Den.cut kE;rw[uh,uh,r.length];exact(r.drop _).take _
noncomputable def pU(xp:b5)(X:aR)(ak:List Nat)(f:a7->bp (Option Int)):kz:=λσ H Q =>
 ∃G J,d7 X.K ak G H J σ/\cY (f J) (λo=>∀aP ao,Ext G H aP ao->Q o ao) (λc=>gU xp X c H)
def Si:hH X none (pU xp X ak λ_=>.ok none):=by
 intro pins s σ H Q I ⟨G,J,ag,hw⟩;exact yW pins s σ H Q I (hw G H (Ext.refl ag.sub))
def Sl(aC:aQ X a (bf xp X ak .view bc)):hH X (some a) (pU xp X ak λJ=>bc J>>=λx=>Den.fU x>>=λi=>.ok (some i)):=by
 intro pins s σ H Q I ⟨G,J,ag,hw⟩;refine EC aC pins s σ H Q I ?_;refine⟨G,J,ag,bT (bo.mp hw) (λd k v aI H1 aM aE=>?_) λ_ q=>q⟩
 cases d with
 |int i=>exact⟨i,b9.pG aE,k aI H1 aM⟩
 |_=>exact k.elim
noncomputable def Ru(K:W.Frag):V->Option Int->Option Int->az->cG->Prop:=λx lo hi H Q =>
 ∃G d,bz G H/\View K G H d x/\cY (Den.lz d lo hi) (λd'=>∀v aP ao,Ext G H aP ao->b9 K H aP ao .fresh d' v->Q v ao) (λ_=>False)
def SX:ql X (λx lo hi H Q=>∃a xs,x=.ref a/\c4 X.K H a xs/\(cP.bA xs.length 0 lo=0/\cP.bA xs.length xs.length hi=xs.length)/\Q (.ref a) H):=by
 intro pins s σ H x v eQ eR lo hi bl Q I bb ag bW pu h;obtain⟨a,xs,rfl,af,hw,q⟩:=h;cases bb;obtain⟨its,r,aW,hz⟩:=I.tuple af;have hlen:its.toArray.size=xs.length:=by rw[Wv];exact r.length.symm
 refine⟨"tuple",_,WQ.lookup,aW.typeIs,?_⟩;exact LY aW ag bW pu (by rw[hlen];exact hw) ⟨.ref a,H,I,rfl,q⟩
def Jx{ds:List D}{lo hi:Option Int}(h:cP.bA ds.length 0 lo=0/\cP.bA ds.length ds.length hi=ds.length):Den.cut ds lo hi=ds:=by
 unfold Den.cut;rw[uh,uh,h.1,h.2];simp
def SW:ql X (Ru X.K):=by
 intro pins s σ H x v eQ eR lo hi bl Q I bb ag bW pu ⟨G,d,pn,bF,hw⟩;cases d with
 |tup ds =>
  obtain⟨a,xs,rfl,k,r⟩:=jD pn bF
  by_cases gj:cP.bA xs.length 0 lo=0/\cP.bA xs.length xs.length hi=xs.length
  .refine SX pins s σ H _ v eQ eR lo hi bl Q I bb ag bW pu ⟨a,xs,rfl,k,gj,?_⟩;rw[Den.ur,Jx (by rw[r.length];exact gj)]at hw
   exact hw _ G H (Ext.refl pn) bF
  .refine S1 pins s σ H _ v eQ eR lo hi bl Q I bb ag bW pu ⟨a,xs,rfl,k,gj,λp ax=>?_⟩
   rw[Den.ur]at hw;exact hw _ (upd G p (.tup (kE xs lo hi))) _ (Ext.put pn ax) ⟨p,_,rfl,c4.of eE,(A2 r lo hi).mono (gs (pn.free ax))⟩
 |lst ds =>
  obtain⟨a,xs,rfl,k,r⟩:=kg bF;refine SY pins s σ H _ v eQ eR lo hi bl Q I bb ag bW pu ⟨a,xs,rfl,k,λp ax=>?_⟩
  rw[Den.FF]at hw;exact hw _ G _ (Ext.own pn ax) ⟨p,_,rfl,eE,ax,pn.free ax,A2 r lo hi⟩
 |_=>exact hw.elim
def S0{d:D}{lo hi:Option Int}{c:Nat}:Den.lz d lo hi≠.exc c:=by cases d<;>simp[Den.lz]
def Su(aC:aQ X a (bf xp X ak .view bc))(au:hH X lo (pU xp X ak ho))(bJ:hH X hi (pU xp X ak Bx)):
  aQ X (.Subscript a (.Slice lo hi none p2) pos) (bf xp X ak .fresh λJ=>bc J>>=λx=>ho J>>=λl=>Bx J>>=λh=>Den.lz x l h):=by
 intro pins s σ H Q I ⟨G,J,ag,hw⟩;refine QF SW aC au bJ pins s σ H Q I ?_;refine⟨G,J,ag,bT (bo.mp hw) (λba OL v aI H1 aM aE=>?_) λ_ q=>q⟩
 refine⟨aI,J,ag.ext aM,bT (bo.mp OL) (λl k bV aV bt=>?_) λ_ q=>q.mono aM.h⟩
 refine⟨bV,J,(ag.ext aM).ext bt,bT (bo.mp k) (λh k2 jH bw fQ=>?_) λ_ q=>(q.mono aM.h).mono bt.h⟩
 refine⟨jH,ba,fQ.sub,View.ext fQ (View.ext bt aE),?_⟩;exact bT (mS k2 (λc=>S0)) (λd q v4 G1 i2 lF fv=>q v4 G1 i2 (((aM.trans bt).trans fQ).trans lF) (((fv.old fQ.h).old bt.h).old aM.h)) λ_ q=>q
end
end bD
end
section
namespace bD
open PySem PySem.Spec PyProof.Rows bx
section
variable{prog:Program}{w:World}{A:Around}{E:Value->Shared->Prop}{s:Shared}
noncomputable def z5(prog:Program)(w:World)(A:Around)(ai:List Value)(s1:Shared)(Q:Value->Shared->Prop):Prop :=
 ∃(κ:SortKind)(lt:Nat->Nat->Bool),Tm.Ord lt/\(∀i j,i<ai.length->j<ai.length->ai.getD i Value.none=ai.getD j Value.none->∀k,lt i k=lt j k/\lt k i=lt k j)/\ai.length<128 /\
   (2<=ai.length->∀(h':Heap),(∀b o,s1.heap.get? b=some o->h'.get? b=some o)->∀dj:SortKind->Shared->Prop,dj κ { s1 with heap:=h' }->wpAny (model prog w) A (keyKind' ai.toArray) dj (λ_ _=>False) { s1 with heap:=h' }) /\
   (2<=ai.length->∀(h':Heap),(∀b o,s1.heap.get? b=some o->h'.get? b=some o)->∀(i j:Nat)(C:Bool->Shared->Prop),i<ai.length->j<ai.length->C (lt i j) { s1 with heap:=h' }->PySem.W.kas_ask prog w A κ ai i j C { s1 with heap:=h' }) /\
   ∀p:List Nat,p.Perm (List.range ai.length)->p.Pairwise (λi j=>lt j i=false)->∀(h':Heap)(c:Nat),(∀b o,s1.heap.get? b=some o->h'.get? b=some o)->h'.get? s1.heap.objs.size=some (seqObj "list" (p.map λi=>ai.getD i Value.none).toArray c)->Q (.ref s1.heap.objs.size) { s1 with heap:=h' }
def zj{src:Value}{Q:Value->Shared->Prop}(aj:wpAny (model prog w) A.in1 (collect src) (λai s1=>z5 prog w A.in1.in1 ai s1 Q) (λ_ _=>False) s):wpAny (model prog w) A (call (.builtin "sorted") [src]) Q E s:=by
 refine Calls.call_function_entry kind_sorted plain_sorted entry_sorted (args_sorted1 _) ?_;unfold Builtin.«sorted»;refine Wh (m:=checkCount "sorted" 1 1 _) (wpAny_pure ?_);refine Wh (Xy aj (λai s1 af=>?_) λ_ _ z=>z.elim)
 obtain⟨κ,lt,d2,aL,L9,aq,jh,aF⟩:=af;refine Wh (wpAny_newList ?_ (by rw[W6];omega))
 have tf:(s1.heap.push (seqObj "list" ai.toArray 0)).get? s1.heap.objs.size=some (seqObj "list" ai.toArray 0):=Wq _ rfl;have keep:∀{h':Heap},(∀b o,b≠s1.heap.objs.size->(s1.heap.push (seqObj "list" ai.toArray 0)).get? b=some o->h'.get? b=some o)->∀b o,s1.heap.get? b=some o->h'.get? b=some o:=λeZ b o q =>
  eZ b o (WB (Wl q)) (Wj _ q)
 show wpAny _ _ _ _ _ { s1 with heap:=s1.heap.push (seqObj "list" ai.toArray 0) };refine Wh (XA (Xb slot_list_sort ⟨_,tf,rfl⟩ entry_list_sort ?body (args_list_sort _)))
 case body =>
  refine Tm.O8 (s:={ s1 with heap:=s1.heap.push (seqObj "list" ai.toArray 0) }) (κ:=κ) (lt:=lt) d2 aL tf L9 (λh2 h' k dj q=>?_) (λh2 h' k=>jh h2 h' (keep k)) λp p1 p2 h' c k aT=>?_
  .exact Xy (aq h2 h' (keep k) dj q) (λ_ _ z=>z) λ_ _ z=>z.elim
  .exact⟨_,rfl,wpAny_pure ⟨_,rfl,aF p p1 p2 h' c (keep k) aT⟩⟩
end
noncomputable abbrev jz(c:List Int):D:=bH.aK c
def ints_of{ds:List D}(h:ds.all (Den.fc 0)=true):∃ns:List Int,ds=ns.map Den.D.int:=tH h
theorem zE:∀{ds:List D},ds.all Den.yo=true->∃ar:List (List Int),ds=ar.map jz/\∀k∈ar,k≠[]
 |[],_=>⟨[],rfl,by simp⟩
 |d::ds,h=>by
  simp only[List.all_cons,Wi]at h;obtain⟨ar,rfl,aq⟩:=zE h.2;cases d with
  |tup xs =>
   cases xs with
   |nil=>cases h.1
   |cons x xs =>
    have aa:(Den.fc 0 x&&xs.all (Den.fc 0))=true:=h.1;have aa:(x::xs).all (Den.fc 0)=true:=aa;obtain⟨ns,e⟩:=tH aa;refine⟨ns::ar,by rw[e];rfl,λk eZ=>?_⟩
    rcases Wo.mp eZ with rfl|eZ
    .rintro rfl;cases e
    .exact aq k eZ
  |_=>cases h.1
section
variable{X:aR}{pins:List (Addr×Obj)}{σ:bQ}{G H:az}{s:Shared}
theorem Gl(I:Inv X pins σ H s)(ag:bz G H):∀{ar:List (List Int)}{xs:List V}{us:List Value},(∀k∈ar,k≠[])->bu X.K G (ar.map jz) xs->Vals xs us->gS.iz s.heap us ar
 |[],_,_,_,r,v=>by cases r;cases v;exact trivial
 |k::ar,_,_,aw,⟨x,t,e,aE,aX⟩,v=>by
  subst e;cases v with
  |cons v1 v2 =>
   obtain⟨a,ys,rfl,h,q⟩:=aE;cases v1;obtain⟨its,bL,⟨o,ay,aj,n,hd⟩,_⟩:=I.tuple (fw ag h);rw[mI q]at bL;exact⟨⟨a,o,its.toArray,n,rfl,ay,aj,hd,by simpa using intsAre_of bL,aw k List.mem_cons_self⟩,Gl I ag (λz hz=>aw z (List.mem_cons_of_mem _ hz)) aX v2⟩
theorem EU{K:W.Frag}{ds:List D}{xs:List V}{us:List Value}(r:bu K G ds xs)(v:Vals xs us):∀{p:List Nat},(∀i∈p,i<ds.length) ->
  ∃ys,bu K G (p.map λi=>ds.getD i .cM) ys/\Vals ys (p.map λi=>us.getD i Value.none)
 |[],_=>⟨[],rfl,.nil⟩
 |i::p,h=>by
  obtain⟨ys,aa,h2⟩:=EU r v (p:=p) λj aG=>h j (List.mem_cons_of_mem _ aG)
  have hi:=h i List.mem_cons_self;have e:ds[i]?=some (ds.getD i .cM):=by rw[Wr hi];simp[List.getD,Wr hi]
  obtain⟨y,k1,k2⟩:=r.get e;obtain⟨u,k3,bY⟩:=v.get k1;have e2:us.getD i Value.none=u:=by simp[List.getD,k3]
  exact⟨y::ys,⟨y,ys,rfl,k2,aa⟩,by rw[WA,e2];exact .cons bY h2⟩
def EW{K:W.Frag}{κ:Type}{f:κ->D}{lt:κ->κ->Bool}(L:bH.gx lt)(hf:∀a b,Den.mu (f a) (f b)=some (lt a b))(z:κ){ar:List κ}{xs:List V}{us:List Value}(r:bu K G (ar.map f) xs)(v:Vals xs us){p:List Nat}(aa:p.Perm (List.range us.length))(h2:p.Pairwise (λi j=>gS.ltI lt z ar j i=false)):
  ∃ys,bu K G (Den.hD (ar.map f)) ys/\Vals ys (p.map λi=>us.getD i Value.none):=by
 have au:us.length=ar.length:=by rw[<- v.length,<- r.length,List.length_map]
 rw[au]at aa;rw[bH.lA hf,<- gS.Tb L z ar aa h2,List.map_map];obtain⟨ys,k1,k2⟩:=EU r v (p:=p) λi hi=>by
  have:=aa.mem_iff.mp hi;rw[List.length_map];simpa using this
 refine⟨ys,?_,k2⟩;have e:(p.map λi=>(ar.map f).getD i .cM)=p.map (f ∘ λi=>ar.getD i z):=by
  apply XM;intro i hi;have hi:i<ar.length:=by simpa using aa.mem_iff.mp hi
  simp[List.getD,WJ,Wr hi]
 rw[<- e];exact k1
def zi{Q:cG}{ds:List D}{xs:List V}{us:List Value}(bJ:X.A.handled=none)(I:Inv X pins σ H s)(ag:bz G H)(r:bu X.K G ds xs)(v:Vals xs us)(iM:Den.hB ds=true)(hr:ds.length<=75)(k:∀v aP ao,Ext G H aP ao->b9 X.K H aP ao .fresh (.lst (Den.hD ds)) v->Q v ao):z5 X.prog X.w X.A.in1.in1 us s (dT X pins σ Q):=by
 have hlen:us.length=ds.length:=by rw[<- v.length,<- r.length]
 have fin:∀{out:List Value}{ys:List V}(h':Heap)(c:Nat),bu X.K G (Den.hD ds) ys->Vals ys out->out.length=us.length->(∀b o,s.heap.get? b=some o->h'.get? b=some o)->h'.get? s.heap.objs.size=some (seqObj "list" out.toArray c)->dT X pins σ Q (.ref s.heap.objs.size) { s with heap:=h' }:=λ{out ys} h' c gr GG ay aq aT=>by
  refine⟨.ref s.heap.objs.size,_,I.laid (t':=s.toks) (o:=.lst ys) aq (Wm _) ⟨by rw[GG.length,ay,hlen,W6];omega,out,c,GG,aT⟩,rfl,?_⟩
  exact k _ G _ (Ext.own ag I.fresh) ⟨_,ys,rfl,eE,I.fresh,ag.free I.fresh,gr⟩
 have Dr:∀{p:List Nat},p.Perm (List.range us.length)->(p.map λi=>us.getD i Value.none).length=us.length:=λh=>by rw[List.length_map,h.length_eq,List.length_range]
 unfold Den.hB at iM;rw[X7]at iM;rcases iM with h|h
 .obtain⟨ns,rfl⟩:=ints_of h;have dw:IntsAre us ns:=by rw[mI r]at v;exact intsAre_of v
  refine⟨oneType',gS.ltI bH.ltI 0 ns,gS.Eb bH.hX 0 ns,gS.D7 (gS.OB dw),by omega,λh2 h' _ dj q=>gS.OH dw h2 q,λh2 h' _ i j C hi aG q=>gS.H3 dw i j C hi aG q,λp p1 p2 h' c aq aT=>?_⟩
  obtain⟨ys,k1,k2⟩:=EW bH.hX (f:=Den.D.int) (λ_ _=>rfl) 0 r v p1 p2
  exact fin h' c k1 k2 (Dr p1) aq aT
 .obtain⟨ar,rfl,dG⟩:=zE h;have cR:=Gl I ag dG r v;refine⟨tuples' true,gS.ltI bH.lexLt [] ar,gS.Eb bH.rk [] ar,gS.D7 (gS.OG cR),by omega,λh2 h' k dj q=>gS.OI (s:={ s with heap:=h' }) (cR.kept k) h2 q,λh2 h' k i j C hi aG q=>gS.H4 (s:={ s with heap:=h' }) (cR.kept k) i j C hi aG q,λp p1 p2 h' c aq aT=>?_⟩
  obtain⟨ys,k1,k2⟩:=EW bH.rk (f:=jz) (λa b=>bH.tF a b) [] r v p1 p2
  exact fin h' c k1 k2 (Dr p1) aq aT
end
section
variable{xp:b5}{X:aR}{ak:List Nat}{m:en}{f:a7->bp D}{e:Expr}{pos pos' p e6:Pos}
def U5{ds:List D}{Q:D->Prop}{E:Nat->Prop}(h:cY (Den.sorted ds) Q E):Den.hB ds=true/\ds.length<=75/\Q (.lst (Den.hD ds)):=by
 unfold Den.sorted at h;cases q:(Den.hB ds&&decide (ds.length<=75)) with
 |false=>rw[q]at h;exact h.elim
 |true =>
  rw[q]at h;simp only[Wi,WH]at q;exact⟨q.1,q.2,h⟩
def Ln(aj:X.calm=true):fS X (.builtin "sorted") (lr X.K .fresh λd=>Den.dt d>>=λxs=>Den.sorted xs):=by
 intro pins s σ H xs us Q I r ⟨G,x,d,ex,ag,bF,hw⟩;subst ex;obtain⟨u,rfl,bb⟩:=vals1 r;obtain⟨ds,a,ys,rfl,aF,rs,hw⟩:=um ag bF (bo.mp hw);obtain⟨iM,hr,hw⟩:=U5 hw;have bJ:X.A.handled=none:=I.ok.hd aj;cases bb;rcases aF with aF|aF
 .obtain⟨its,bL,bW,hz⟩:=I.list aF;refine zj (collect_list bW.isList ?_ (by rw[<- bL.length];exact hz))
  have a9:Inv X pins σ H { s with heap:=(s.heap.push (seqObj "list" #[] 0)).update s.heap.objs.size (Obj.mapSeq (·++its.toArray)) }:=I.kept (t':=s.toks) λb o q=>(WK _ _ (XB (WB (Wl q)))).trans (Wj _ q)
  exact zi bJ a9 ag rs bL iM hr hw
 .obtain⟨its,bL,bW,hz⟩:=I.tuple aF;refine zj (Pv.Jm (show s.heap.IsTuple a its.toArray from bW) ?_ (by rw[<- bL.length];exact hz))
  have a9:Inv X pins σ H { s with heap:=(s.heap.push (seqObj "list" #[] 0)).update s.heap.objs.size (Obj.mapSeq (·++its.toArray)) }:=I.kept (t':=s.toks) λb o q=>(WK _ _ (XB (WB (Wl q)))).trans (Wj _ q)
  exact zi bJ a9 ag rs bL iM hr hw
end
end bD
end
section
namespace bD
open PySem PySem.Spec PyProof.Rows bx
structure dP(K:W.Frag)(ak:List Nat)(b1 bG G H:az)(J:a7)(σ:bQ):Prop where
 cU:d7 K ak G H J σ
 ext:Ext b1 bG G H
 own:∀(i:Nat)(ds:List D)(a:Addr),J[i]?=some (some (.lst ds))->i∈ak->σ[i]?=some (some (V.ref a))->bG a=none
noncomputable def sP(K:W.Frag)(ak:List Nat)(b1 bG:az)(T:Ends):Den.d6->Prop
 |.b6 J=>∀σ G H,dP K ak b1 bG G H J σ->T.b6 σ H
 |.dC d=>∀v G H,Ext b1 bG G H->Rep K G d v->T.dC v H
noncomputable def dW(xp:b5)(X:aR)(ak:List Nat)(f:a7->bp Den.d6):gV:=λT σ H =>
 ∃b1 bG G J,dP X.K ak b1 bG G H J σ/\cY (f J) (sP X.K ak b1 bG T) (λc=>gU xp X c bG)
def dZ{α:Type}{l:List α}{i j:Nat}{a:α}(h:i≠j):(l.set i a)[j]?=l[j]?:=Y9 h
def get_eq{α:Type}{l:List α}{i:Nat}{a b:α}(h:(l.set i a)[i]?=some b):i<l.length/\b=a:=by
 rw[List.getElem?_set_self']at h;cases q:l[i]? with
 |none=>rw[q]at h;cases h
 |some c=>rw[q]at h;exact⟨(WE.mp q).1,(WU h).symm⟩
def pQ{α:Type}{l:List α}{i:Nat}{a:α}(h:i<l.length):(l.set i a)[i]?=some a:=by simp[h]
section
variable{K:W.Frag}{ak:List Nat}{b1 bG G H aP ao:az}{J:a7}{σ:bQ}{i:Nat}{d:D}{v:V}
def d7.rN(h:d7 K ak G H J σ)(hm:i∉ak)(r:Rep K G d v):d7 K ak G H (J.set i (some d)) (σ.set i (some v)) where
 len:=by rw[X8,X8];exact h.len
 sub:=h.sub
 val:=λj e q aG=>by
  by_cases c:i=j
  .subst c;obtain⟨aa,h2⟩:=get_eq q;cases h2;exact⟨v,pQ (by rw[<- h.len];exact aa),r⟩
  .rw[dZ c]at q ⊢;exact h.val j e q aG
 own:=λj e q aG au=>by
  have c:i≠j:=λz=>hm (z▸aG)
  rw[dZ c]at q ⊢;exact h.own j e q aG au
 lst:=λj ds q aG=>by
  have c:i≠j:=λz=>hm (z▸aG)
  rw[dZ c]at q;obtain⟨a,xs,aa,h2⟩:=h.lst j ds q aG;exact⟨a,xs,by rw[dZ c];exact aa,h2⟩
 apart:=λj k ds ah a b aD aO aG aq ne e1 e2=>by
  have c:i≠j:=λz=>hm (z▸aG)
  have cQ:i≠k:=λz=>hm (z▸aq)
  rw[dZ c]at aD e1;rw[dZ cQ]at aO e2;exact h.apart j k ds ah a b aD aO aG aq ne e1 e2
def d7.set_own(h:d7 K ak G H J σ)(hm:i∈ak)(au:∀ds,d≠.lst ds)(r:Rep K G d v):d7 K ak G H (J.set i (some d)) (σ.set i (some v)) where
 len:=by rw[X8,X8];exact h.len
 sub:=h.sub
 val:=λj e q aG=>by
  have c:i≠j:=λz=>aG (z▸hm)
  rw[dZ c]at q ⊢;exact h.val j e q aG
 own:=λj e q aG hle=>by
  by_cases c:i=j
  .subst c;obtain⟨aa,h2⟩:=get_eq q;cases h2;exact⟨v,pQ (by rw[<- h.len];exact aa),r⟩
  .rw[dZ c]at q ⊢;exact h.own j e q aG hle
 lst:=λj ds q aG=>by
  by_cases c:i=j
  .subst c;obtain⟨aa,h2⟩:=get_eq q;exact absurd (WU h2).symm (au ds)
  .rw[dZ c]at q;obtain⟨a,xs,aa,h2⟩:=h.lst j ds q aG;exact⟨a,xs,by rw[dZ c];exact aa,h2⟩
 apart:=λj k ds ah a b aD aO aG aq ne e1 e2=>by
  have c:i≠j:=λz=>by subst z;obtain⟨aa,h2⟩:=get_eq aD;exact au ds (WU h2).symm
  have cQ:i≠k:=λz=>by subst z;obtain⟨aa,h2⟩:=get_eq aO;exact au ah (WU h2).symm
  rw[dZ c]at aD e1;rw[dZ cQ]at aO e2;exact h.apart j k ds ah a b aD aO aG aq ne e1 e2
def d7.SR {a : Addr} {xs : List V} {ds : List D} (h : d7 K ak G H J σ) (hm : i ∈ ak) (er : H a = some (.lst xs)) (me : G a = none) (r : bu K G ds xs)
    (aw : ∀ (j : Nat) (ah : List D), j ≠ i -> j ∈ ak -> J[j]? = some (some (.lst ah)) -> σ[j]? ≠ some (some (V.ref a))) : d7 K ak G H (J.set i (some (.lst ds))) (σ.set i (some (.ref a))) where
  len := by rw [X8, X8]; exact h.len
  sub := h.sub
  val := fun j e q aG => by
    have c : i ≠ j := fun z => aG (z ▸ hm)
    rw [dZ c] at q ⊢; exact h.val j e q aG
  own := fun j e q aG hle => by
    by_cases c : i = j
    · subst c
      obtain ⟨aa, h2⟩ := get_eq q
      exact absurd (WU h2) (hle ds)
    · rw [dZ c] at q ⊢; exact h.own j e q aG hle
  lst := fun j ah q aG => by
    by_cases c : i = j
    · subst c
      obtain ⟨aa, h2⟩ := get_eq q
      cases h2
      exact ⟨a, xs, pQ (by rw [<- h.len]; exact aa), er, me, r⟩
    · rw [dZ c] at q
      obtain ⟨b, ys, aa, h2⟩ := h.lst j ah q aG
      exact ⟨b, ys, by rw [dZ c]; exact aa, h2⟩
  apart := fun j k ah fs b i8 aD aO aG aq ne e1 e2 => by
    by_cases c : i = j
    · subst c
      have cQ : i ≠ k := ne
      obtain ⟨aa, h2⟩ := get_eq e1
      cases h2
      rw [dZ cQ] at aO e2
      intro z
      exact aw k fs (XB cQ) aq aO (by rw [z]; exact e2)
    · by_cases cQ : i = k
      · subst cQ
        obtain ⟨aa, h2⟩ := get_eq e2
        cases h2
        rw [dZ c] at aD e1
        intro z
        exact aw j ah (XB c) aG aD (by rw [<- z]; exact e1)
      · rw [dZ c] at aD e1
        rw [dZ cQ] at aO e2
        exact h.apart j k ah fs b i8 aD aO aG aq ne e1 e2
def dP.step(h:dP K ak b1 bG G H J σ)(x:Ext G H aP ao):dP K ak b1 bG aP ao J σ:=⟨h.cU.ext x,h.ext.trans x,h.own⟩
theorem dP.rN(h:dP K ak b1 bG G H J σ)(hm:i∉ak)(r:Rep K G d v):dP K ak b1 bG G H (J.set i (some d)) (σ.set i (some v)) :=
 ⟨h.cU.rN hm r,h.ext,λj ds a q aG e=>by
  have c:i≠j:=λz=>hm (z▸aG)
  rw[dZ c]at q e;exact h.own j ds a q aG e⟩
def dP.Fs(h:dP K ak b1 bG G H J σ)(x:Ext G H aP ao)(hm:i∈ak)(r:b9 K H aP ao .fresh d v):dP K ak b1 bG aP ao (J.set i (some d)) (σ.set i (some v)):=by
 have h':=h.step x;cases d with
 |lst ds =>
  obtain⟨a,xs,rfl,aa,h2,h3,h4⟩:=r;refine⟨h'.cU.SR hm aa h3 h4 λj ah aG xS q e=>?_,h'.ext,λj ah b q aG e=>?_⟩
  .obtain⟨b,ys,k1,k2,k3,bY⟩:=h.cU.lst j ah q xS;rw[k1]at e;cases e;rw[h2]at k2;cases k2
  .by_cases c:i=j
   .subst c;obtain⟨_,z⟩:=get_eq e;cases z;exact h.ext.h.free h2
   .rw[dZ c]at q e;exact h.own j ah b q aG e
 |_ =>
  refine⟨h'.cU.set_own hm (λ_ z=>nomatch z) r,h'.ext,λj ah b q aG e=>?_⟩
  by_cases c:i=j
  .subst c;obtain⟨_,z⟩:=get_eq q;cases z
  .rw[dZ c]at q e;exact h.own j ah b q aG e
def dP.write {a : Addr} {xs ys : List V} {ds ah : List D} (h : dP K ak b1 bG G H J σ) (hm : i ∈ ak) (q : J[i]? = some (some (.lst ds))) (e : σ[i]? = some (some (V.ref a))) (er : H a = some (.lst xs)) (me : G a = none) (r : bu K G ah ys) :
    dP K ak b1 bG G (upd H a (.lst ys)) (J.set i (some (.lst ah))) σ := by
  have h0 : bG a = none := h.own i ds a q hm e
  have hi : i < J.length := (WE.mp q).1
  have Vp : σ.set i (some (V.ref a)) = σ := by
    apply Yb
    intro j
    by_cases c : i = j
    · subst c; rw [pQ (by rw [<- h.cU.len]; exact hi), e]
    · rw [dZ c]
  have other : ∀ (j : Nat) (fs : List D), j ≠ i -> j ∈ ak -> J[j]? = some (some (.lst fs)) -> σ[j]? ≠ some (some (V.ref a)) := fun j fs aG xS Rn kL => h.cU.apart j i fs ds a a Rn q xS hm aG kL e rfl
  have uw : bz G (upd H a (.lst ys)) := fun b o z => by
    have : b ≠ a := fun w => by rw [w, me] at z; cases z
    rw [de this]; exact h.cU.sub b o z
  have S6 : d7 K ak G (upd H a (.lst ys)) (J.set i (some (.lst ah))) σ := by
    refine ⟨by rw [X8]; exact h.cU.len, uw, fun j d cB aG => ?_, fun j d cB aG au => ?_, fun j fs cB aG => ?_, fun j k fs g7 b i8 aD aO aG aq ne e1 e2 => ?_⟩
    · have c : i ≠ j := fun z => aG (z ▸ hm)
      rw [dZ c] at cB; exact h.cU.val j d cB aG
    · by_cases c : i = j
      · subst c
        obtain ⟨_, z⟩ := get_eq cB
        cases z
        exact absurd rfl (au ah)
      · rw [dZ c] at cB; exact h.cU.own j d cB aG au
    · by_cases c : i = j
      · subst c
        obtain ⟨_, z⟩ := get_eq cB
        cases z
        exact ⟨a, ys, e, eE, me, r⟩
      · rw [dZ c] at cB
        obtain ⟨b, zs, k1, k2, k3, bY⟩ := h.cU.lst j fs cB aG
        have : b ≠ a := fun w => other j fs (XB c) aG cB (by rw [k1, w])
        exact ⟨b, zs, k1, by rw [de this]; exact k2, k3, bY⟩
    · have full : ∀ (k : Nat) (g7 : List D), (J.set i (some (.lst ah)))[k]? = some (some (.lst g7)) -> ∃ xl, J[k]? = some (some (.lst xl)) := fun k g7 z => by
        by_cases c : i = k
        · subst c; exact ⟨ds, q⟩
        · rw [dZ c] at z; exact ⟨g7, z⟩
      obtain ⟨w5, t7⟩ := full j fs aD
      obtain ⟨xl, ka⟩ := full k g7 aO
      exact h.cU.apart j k w5 xl b i8 t7 ka aG aq ne e1 e2
  refine ⟨S6, ⟨h.ext.g, fun b o z => ?_, uw, h.ext.new⟩, fun j fs b cB aG kL => ?_⟩
  · have : b ≠ a := fun w => by rw [w, h0] at z; cases z
    rw [de this]; exact h.ext.h b o z
  · by_cases c : i = j
    · subst c; rw [e] at kL; cases kL; exact h0
    · rw [dZ c] at cB; exact h.own j fs b cB aG kL
end
section
variable{xp:b5}{X:aR}{ak:List Nat}{m:en}{f bc cz cX:a7->bp D}{g g1 g2:a7->bp Den.d6}{a b c e c3:Expr}{ah:List Expr}{pos p1 p2 p3 p4:Pos}{st:Stmt}{rP ee cC:List Stmt}{i:Nat}{x:Str}
def E7(hm:i∉ak)(bq:X.N.Nodup)(hi:X.N[i]?=some x)(af:Loc X.env.scope x)(he:aQ X e (bf xp X ak .val f))(ag:swapsWith e (some (.Name x p1)) pos.line X.env=pure false)(hf:X.fn x=true\/X.env.scope.names.lookup x=some .local):
  eg X (.Assign [.Name x p1] e pos) (dW xp X ak λJ=>f J>>=λd=>.ok (.b6 (J.set i (some d)))):=by
 intro pins s σ H T I ⟨b1,bG,G,J,ae,hw⟩;refine y0 bq hi af he ag hf pins s σ H T I ?_;refine⟨G,J,ae.cU,bT (bo.mp hw) (λd k v aI H1 aM aE=>?_) λ_ q=>q.mono ae.ext.h⟩
 exact k _ aI H1 ((ae.step aM).rN hm aE)
def E8(hm:i∈ak)(bq:X.N.Nodup)(hi:X.N[i]?=some x)(af:Loc X.env.scope x)(he:aQ X e (bf xp X ak .fresh f))(ag:swapsWith e (some (.Name x p1)) pos.line X.env=pure false)(hf:X.fn x=true\/X.env.scope.names.lookup x=some .local):
  eg X (.Assign [.Name x p1] e pos) (dW xp X ak λJ=>f J>>=λd=>.ok (.b6 (J.set i (some d)))):=by
 intro pins s σ H T I ⟨b1,bG,G,J,ae,hw⟩;refine y0 bq hi af he ag hf pins s σ H T I ?_;refine⟨G,J,ae.cU,bT (bo.mp hw) (λd k v aI H1 aM aE=>?_) λ_ q=>q.mono ae.ext.h⟩
 exact k _ aI H1 (ae.Fs aM hm aE)
def Fb(he:aQ X e (bf xp X ak .view f))(ag:swapsWith e none pos.line X.env=pure false):eg X (.Expr e pos) (dW xp X ak λJ=>f J>>=λ_=>.ok (.b6 J)):=by
 intro pins s σ H T I ⟨b1,bG,G,J,ae,hw⟩;refine yZ he ag pins s σ H T I ?_;refine⟨G,J,ae.cU,bT (bo.mp hw) (λd k v aI H1 aM aE=>?_) λ_ q=>q.mono ae.ext.h⟩
 exact k _ aI H1 (ae.step aM)
def Fg(he:aQ X e (bf xp X ak .val f)):eg X (.Return (some e) pos) (dW xp X ak λJ=>f J>>=λd=>.ok (.dC d)):=by
 intro pins s σ H T I ⟨b1,bG,G,J,ae,hw⟩;refine t6 he pins s σ H T I ?_;refine⟨G,J,ae.cU,bT (bo.mp hw) (λd k v aI H1 aM aE=>?_) λ_ q=>q.mono ae.ext.h⟩
 exact k v aI H1 (ae.ext.trans aM) aE
def So {pg : Den.cI} {Φ : Den.cV} (bq : X.N[i]? = some x) (aL : h9 X.env.scope x) (aa : (x == ("__debug__" : Str)) = false) (h2 : (x == ("__classdict__" : Str)) = false) :
    eg X (.Return (some (.Name x p1)) pos) (dW xp X ak fun J => Den.ev pg Φ J (.var i) >>= fun d => .ok (.dC d)) := by
  by_cases hm : i ∈ ak
  · intro pins s σ H T I ⟨b1, bG, G, J, ae, hw⟩
    refine t6 (mF bq aL aa h2) pins s σ H T I ?_
    cases q : J[i]? with
    | none => dsimp only at hw; rw [Den.oW, q] at hw; exact hw.elim
    | some o =>
      cases o with
      | none => dsimp only at hw; rw [Den.oW, q] at hw; exact hw.elim
      | some d =>
        have hw := bo.mp hw
        rw [Den.wJ i q] at hw
        cases d with
        | lst ds =>
          obtain ⟨a, xs, k1, k2, k3, bY⟩ := ae.cU.lst i ds q hm
          refine ⟨_, k1, ?_⟩
          have h0 : bG a = none := ae.own i ds a q hm k1
          refine hw _ (upd G a (.lst xs)) H ⟨ae.ext.g.trans (gs k3), ae.ext.h, fun b o z => ?_, fun b c6 cO => ?_⟩ ⟨a, xs, rfl, .inl (.inl eE), bY.mono (gs k3)⟩
          · by_cases c : b = a
            · subst c; rw [eE] at z; rw [k2]; exact z
            · rw [de c] at z; exact ae.cU.sub b o z
          · have : b ≠ a := fun w => cO (by rw [w]; exact h0)
            rw [de this]; exact ae.ext.new b c6 cO
        | _ =>
          obtain ⟨v, k1, k2⟩ := ae.cU.own i _ q hm (fun _ z => nomatch z)
          exact ⟨v, k1, hw v G H ae.ext k2⟩
  · exact Fg (Fj hm bq aL aa h2)
noncomputable def SM(g1 g2:a7->bp Den.d6):a7->bp Den.d6:=λJ=>g1 J>>=λr=>match r with
 |.b6 c7=>g2 c7
 |.dC d=>.ok (.dC d)
def Sv:fC X [] (dW xp X ak λJ=>.ok (.b6 J)):=by
 intro pins s σ H T I ⟨b1,bG,G,J,ae,hw⟩;exact Rb pins s σ H T I (hw σ G H ae)
def Ss(aa:eg X st (dW xp X ak g1))(h2:fC X rP (dW xp X ak g2)):fC X (st::rP) (dW xp X ak (SM g1 g2)):=by
 intro pins s σ H T I ⟨b1,bG,G,J,ae,hw⟩;refine EG aa h2 pins s σ H T I ?_;refine⟨b1,bG,G,J,ae,bT (bo.mp hw) (λr k=>?_) λ_ q=>q⟩
 cases r with
 |b6 c7=>exact λcF aP ao iH=>⟨b1,bG,aP,c7,iH,k⟩
 |dC d=>exact k
def R8(aj:dM X c (gK xp X ak cX))(aC:fC X ee (dW xp X ak g1))(ae:fC X cC (dW xp X ak g2)):eg X (.If c ee cC pos) (dW xp X ak λJ=>cX J>>=λx=>Den.gd x>>=λk=>if k then g1 J else g2 J):=by
 intro pins s σ H T I ⟨b1,bG,G,J,iI,hw⟩;refine Q9 aj aC ae pins s σ H T I ?_;refine⟨G,J,iI.cU,?_⟩;refine bo.mpr (bT (bo.mp hw) (λd k=>bT (bo.mp k) (λcS q aI H1 aM=>?_) λ_ q=>q.mono iI.ext.h) λ_ q=>q.mono iI.ext.h)
 cases cS with
 |true=>simp only[Xl]at q ⊢;exact⟨b1,bG,aI,J,iI.step aM,q⟩
 |false=>simp only[Wk,WM]at q ⊢;exact⟨b1,bG,aI,J,iI.step aM,q⟩
end
end bD
end
section
namespace bD
open PySem PySem.Spec PyProof.Rows bx
theorem C9{prog:Program}{w:World}:∀{ai:List Value}{k:List Int},IntsAre ai k->ItemsAre (intKind prog w) k ai
 |_,_,.nil=>.nil
 |_,_,.cons n t r=>.cons (Pv.rb prog w n t) (C9 r)
theorem Aj{prog:Program}{w:World}:∀{k:List Int}{ai:List Value},ItemsAre (intKind prog w) k ai->IntsAre ai k
 |_,_,.nil=>.nil
 |_,_,.cons h r=>by
  obtain⟨t,rfl⟩:=ZF h;exact .cons _ t (Aj r)
theorem C3:∀{ai:List Value}{a b:List Int},IntsAre ai a->IntsAre ai b->a=b
 |_,_,_,.nil,.nil=>rfl
 |_,_,_,.cons n t r,.cons _ _ q=>by rw[C3 r q]
def yA{κ:Type}[DecidableEq κ](ar:List κ){i:Nat}(h:i<=ar.length):(Pv.met ar i).length<=(bH.cv ar).length :=
 bH.nZ (Pv.rp ar i) λz hz=>(bH.j4 z ar).mpr (Ye ((Pv.tK ar i h z).mp hz))
def Fu{κ:Type}[DecidableEq κ]{lt:κ->κ->Bool}(L:bH.gx lt){cx r cA:List κ}(aa:cx.Perm r)(h2:r.Perm (Pv.met cA cA.length)):bH.cp lt cx=bH.cp lt (bH.cv cA):=by
 have h:=aa.trans h2;have dB:cx.Nodup:=h.nodup_iff.mpr (Pv.rp cA _);refine bH.oN L (bH.oO L dB) (bH.oO L (bH.nY cA)) λz=>?_
 rw[bH.mw,bH.mw,bH.j4,h.mem_iff,Pv.tK cA _ (Wm _),List.take_length]
def Ft{κ:Type}[DecidableEq κ]{cx r cA:List κ}(aa:cx.Perm r)(h2:r.Perm (Pv.met cA cA.length)):cx.length<=(bH.cv cA).length:=by
 rw[(aa.trans h2).length_eq];exact yA cA (Wm _)
def Oe{P:Nat->Value->Prop}{acc:Array Value}{l:List Value}(h:ItemsOf P acc l.length)(dO:∀i v,P i v->l[i]?=some v):acc.toList=l:=by
 obtain⟨aa,h2⟩:=h;apply Yb;intro i
 by_cases hi:i<l.length
 .have d3:i<acc.size:=by omega
  have e:acc[i]?=some acc[i]:=Wy d3;have:=dO i _ (h2 i _ e);rw[this];simpa using e
 .rw[WV (by simp;omega),WV (by omega)]
section
variable{X:aR}{pins:List (Addr×Obj)}{σ:bQ}{G H:az}{s:Shared}
noncomputable def vf(K:W.Frag)(G:az)(v:Value):Prop:=∃b k,v=.ref b/\Rep K G (jz k) (V.ref b)
theorem E2(I:Inv X pins σ H s)(ag:bz G H):∀{ar:List (List Int)}{xs:List V}{us:List Value},bu X.K G (ar.map jz) xs->Vals xs us->Paired ((Pv.Dd (vf X.K G) X.prog X.w).Row s.heap) us ar
 |[],_,_,r,v=>by cases r;cases v;exact .nil
 |k::ar,_,_,⟨x,t,e,aE,aX⟩,v=>by
  subst e;cases v with
  |cons v1 v2 =>
   obtain⟨a,ys,rfl,h,q⟩:=id aE;cases v1;obtain⟨its,bL,⟨o,ay,aj,n,hd⟩,_⟩:=I.tuple (fw ag h);rw[mI q]at bL;exact .cons ⟨a,rfl,⟨o,its.toArray,n,ay,aj,hd,C9 (by simpa using intsAre_of bL)⟩,a,k,rfl,aE⟩ (E2 I ag aX v2)
theorem E1:∀{ns:List Int}{us:List Value},IntsAre us ns->Paired (λv (k:Int)=>∃t,v=Value.int k t) us ns
 |_,_,.nil=>.nil
 |_,_,.cons n t r=>.cons ⟨t,rfl⟩ (E1 r)
theorem Fv(I:Inv X pins σ H s)(ag:bz G H):∀{ah:List (Int×Value)}{ar:List (List Int)},Paired (λe k=>Pv.kr X.prog X.w s.heap e k/\vf X.K G e.2) ah ar->∃xs,bu X.K G (ar.map jz) xs/\Vals xs (ah.map (·.2))
 |_,_,.nil=>⟨[],rfl,.nil⟩
 |e::ah,k::ar,.cons ⟨⟨b,e1,_,o,items,n,ay,aj,hd,aq⟩,i8,cS,e2,r⟩ t=>by
  obtain⟨xs,aE,aX⟩:=Fv I ag t;rw[e1]at e2;injection e2 with e2;subst e2;have xV:cS=k:=by
   obtain⟨a,ys,a8,h,q⟩:=id r;cases a8;obtain⟨its,bL,⟨bO,dH,_,cL,ig⟩,_⟩:=I.tuple (fw ag h);rw[ay]at dH;cases dH;rw[hd]at ig;injection ig with dg _;rw[mI q]at bL;have aa:=intsAre_of bL;have h2:=Aj aq;rw[dg]at h2;exact C3 (by simpa using aa) (by simpa using h2)
  subst xV;exact⟨V.ref b::xs,⟨_,_,rfl,r,aE⟩,by rw[WA,e1];exact .cons rfl aX⟩
theorem Fw{K:W.Frag}:∀{ah:List (Int×Value)}{ar:List Int},Paired Pv.kq ah ar->∃xs,bu K G (ar.map Den.D.int) xs/\Vals xs (ah.map (·.2))
 |_,_,.nil=>⟨[],rfl,.nil⟩
 |e::ah,k::ar,.cons ⟨_,t,e1⟩ hF=>by
  obtain⟨xs,aE,aX⟩:=Fw (K:=K) hF;exact⟨V.int k::xs,⟨_,_,rfl,rfl,aE⟩,by rw[WA,e1];exact .cons ⟨t,rfl⟩ aX⟩
end
section
variable{xp:b5}{X:aR}{ak:List Nat}{m:en}{f:a7->bp D}{e:Expr}{pos pos' p e6:Pos}{x y:Str}{pins:List (Addr×Obj)}{σ:bQ}{G H:az}{s:Shared}
def U6{ds:List D}{Q:D->Prop}{E:Nat->Prop}(h:cY (Den.ff ds) Q E):Den.hB ds=true/\(Den.kG ds).length<=75/\Q (.lst (Den.hD (Den.kG ds))):=by
 unfold Den.ff at h;cases q:(Den.hB ds&&decide ((Den.kG ds).length<=75)) with
 |false=>rw[q]at h;exact h.elim
 |true =>
  rw[q]at h;simp only[Wi,WH]at q;exact⟨q.1,q.2,h⟩
def Inv.grown(I:Inv X pins σ H s){s':Shared}(g:Pv.r5 s s'):Inv X pins σ H s':=by
 obtain⟨h',g',d',pW,rC⟩:=s';obtain⟨k,e1,e2,e3⟩:=g;have e1:g'=s.gens:=e1;have e2:d'=s.drawn:=e2;have e3:rC=s.os:=e3;subst e1 e2 e3;exact I.kept k
def FK{Q:cG}(bJ:X.A.handled=none)(I:Inv X pins σ H s)(ag:bz G H){a:Addr}{o:Obj}{ah:Array (Int×Value)}{aY:Nat}{t:SetTable}(ay:s.heap.get? a=some o)(O:Pv.m9 X.w o ah aY t){ds:List D}{xs:List V}(r:bu X.K G ds xs)(v:Vals xs ((Pv.fO X.w a ah aY).toList.map (·.2)))(iM:Den.hB ds=true)(hr:ds.length<=75)(k:∀v aP ao,Ext G H aP ao->b9 X.K H aP ao .fresh (.lst (Den.hD ds)) v->Q v ao):wpAny (model X.prog X.w) X.A (call (.builtin "sorted") [.ref a]) (dT X pins σ Q) X.b8 s:=by
 have ft:(Pv.fO X.w a ah aY).size=ah.size:=by have:=(Pv.pH X.w a ah aY).length_eq;simpa using this
 have au:ah.size<=75:=by
  have aa:=v.length;have h2:=r.length;simp only[List.length_map,Array.length_toList]at aa;omega
 refine zj (Pv.Jl (A:=X.A.in1) bJ ay O (by rw[W6];omega) λs' acc g hN=>?_)
 have e:acc.toList=(Pv.fO X.w a ah aY).toList.map (·.2):=by
  refine Oe (P:=λi v=>∃x,(Pv.fO X.w a ah aY)[i]?=some x/\v=x.2) (l:=(Pv.fO X.w a ah aY).toList.map (·.2)) (by simpa[ft] using hN) λi v aL=>?_
  obtain⟨z,aa,h2⟩:=aL;rw[WJ,W9,aa,h2];rfl
 rw[e];exact zi bJ (Inv.grown I g) ag r v iM hr k
def U8 {Q : cG} (aj : X.calm = true) (b3 : X.A.units + 64 < cLine) (I : Inv X pins σ H s) (ag : bz G H) {d : D} {z : V} {u : Value} (bF : View X.K G H d z) (bb : RelV z u)
    (hw : cY (Den.dt d >>= fun xs => Den.ff xs) (fun d' => ∀ v aP ao, Ext G H aP ao -> b9 X.K H aP ao .fresh d' v -> Q v ao) (fun _ => False)) :
    wpAny (model X.prog X.w) X.A (call (.type "set") [u]) (fun w s1 => wpAny (model X.prog X.w) X.A (call (.builtin "sorted") [w]) (dT X pins σ Q) X.b8 s1) X.b8 s := by
  obtain ⟨ds, a, ys, rfl, aF, rs, hw⟩ := um ag bF (bo.mp hw)
  obtain ⟨iM, hr, hw⟩ := U6 hw
  have bJ : X.A.handled = none := I.ok.hd aj
  cases bb
  obtain ⟨its, bL, T, c9, eM, nl, cR, jW⟩ : ∃ (its : List Value), Vals ys its /\ ∃ T c9 eM nl, (T = "list" \/ T = "tuple") /\ s.heap.get? a = some { cls := .type T, dict := c9, data := .seq its.toArray nl, slots := eM } := by
    rcases aF with aF | aF
    · obtain ⟨its, bL, ⟨⟨cls, dd, data, bl⟩, n, ay, aa, _, h3⟩, _⟩ := I.list aF
      simp only at aa h3
      subst aa h3
      exact ⟨its, bL, "list", dd, bl, n, .inl rfl, ay⟩
    · obtain ⟨its, bL, ⟨⟨cls, dd, data, bl⟩, ay, aa, n, h3⟩, _⟩ := I.tuple aF
      simp only at aa h3
      subst aa h3
      exact ⟨its, bL, "tuple", dd, bl, n, .inr rfl, ay⟩
  have keep : ∀ {h' : Heap} {tk : Nat}, (∀ b o, b < s.heap.objs.size -> s.heap.get? b = some o -> h'.get? b = some o) -> Inv X pins σ H { s with heap := h', toks := tk } := fun aq => I.kept fun b o q => aq b o (Wl q) q
  unfold Den.hB at iM
  rw [X7] at iM
  rcases iM with h | h
  · obtain ⟨ns, rfl⟩ := ints_of h
    have dw : IntsAre its ns := by rw [mI rs] at bL; exact intsAre_of bL
    rw [bH.qD (f := Den.D.int) bH.Ba] at hr hw
    rw [List.length_map] at hr
    refine Pv.AD (Pv.Oz X.prog X.w) cR bJ b3 jW (show Paired (fun v (k : Int) => ∃ t, v = Value.int k t) its.toArray.toList ns from by simpa using E1 dw) (fun i hi => by have := yA ns (Yx hi); omega) fun h' tk r aS ax aq => ?_
    obtain ⟨o, ah, aY, t, ay, hex, hd, fp, _, ej, hQ, q1, nK⟩ := aS
    obtain ⟨cx, aD, aO⟩ := Pv.Paired.perm (Pv.pH X.w s.heap.objs.size ah aY) q1
    obtain ⟨xs, aE, aX⟩ := Fw (K := X.K) (G := G) aO
    have e : Den.hD (cx.map Den.D.int) = Den.hD ((bH.cv ns).map Den.D.int) := by
      rw [bH.lA (f := Den.D.int) (lt := bH.ltI) fun _ _ => rfl, bH.lA (f := Den.D.int) (lt := bH.ltI) fun _ _ => rfl, Fu bH.hX aD ax]
    refine FK (s := { s with heap := h', toks := tk }) bJ (keep aq) ag ay ⟨hex, hd, fp, ej, hQ⟩ aE aX ?_ ?_ (by rw [e]; exact hw)
    · unfold Den.hB; rw [bH.tG]; rfl
    · rw [List.length_map]; have := Ft aD ax; omega
  · obtain ⟨ar, rfl, dG⟩ := zE h
    rw [bH.qD (f := jz) bH.sG] at hr hw
    rw [List.length_map] at hr
    refine Pv.AD (Pv.Dd (vf X.K G) X.prog X.w) cR bJ b3 jW (by simpa using E2 I ag rs bL) (fun i hi => by have := yA ar (Yx hi); omega) fun h' tk r aS ax aq => ?_
    obtain ⟨o, ah, aY, t, ay, hex, hd, fp, _, ej, hQ, q1, nK⟩ := aS
    obtain ⟨cx, aD, aO⟩ := Pv.Paired.perm (Pv.pH X.w s.heap.objs.size ah aY) q1
    have cy : Inv X pins σ H { s with heap := h', toks := tk } := keep aq
    obtain ⟨xs, aE, aX⟩ := Fv cy ag aO
    have e : Den.hD (cx.map jz) = Den.hD ((bH.cv ar).map jz) := by
      rw [bH.lA (f := jz) (lt := bH.lexLt) bH.tF, bH.lA (f := jz) (lt := bH.lexLt) bH.tF, Fu bH.rk aD ax]
    refine FK (s := { s with heap := h', toks := tk }) bJ cy ag ay ⟨hex, hd, fp, ej, hQ⟩ aE aX ?_ ?_ (by rw [e]; exact hw)
    · unfold Den.hB
      rw [bH.A3 fun c aj => dG c ?_, Zq]
      have := ((aD.trans ax).mem_iff).mp aj
      exact Ye ((Pv.tK ar _ (Wm _) c).mp this)
    · rw [List.length_map]; have := Ft aD ax; omega
def Sw(aj:X.calm=true)(b3:X.A.units+64<cLine)(af:x="sorted")(aA:y="set")(iK:dv X x)(kX:X.aB x=none)(mh:dv X y)(qY:X.aB y=none)(aC:aQ X e (bf xp X ak .view f))(bX:starEach [e] X.env=[(false,eval e X.env)]):
  aQ X (.Call (.Name x p) [.Call (.Name y e6) [e] [] pos'] [] pos) (bf xp X ak .fresh λJ=>f J>>=λd=>Den.dt d>>=λxs=>Den.ff xs):=by
 subst af aA;intro pins s σ H Q I ⟨G,J,ag,hw⟩;refine XR (jt I iK kX (u:=.builtin "sorted") (by kernel_rfl) ?_)
 refine Y1 ?_ rfl rfl;show wpAny _ _ (spliced ((false,eval (.Call (.Name "set" e6) [e] [] pos') X.env)::[])) _ _ s;refine YL ?_;refine XR (jt I mh qY (u:=.type "set") (by kernel_rfl) ?_)
 refine W7 (bM (j9 aC bX pos' pins s σ H (λai H1=>∃v d aI,ai=[v]/\Ext G H aI H1/\View X.K aI H1 d v/\cY (Den.dt d>>=λxs=>Den.ff xs) (λd'=>∀v aP ao,Ext aI H1 aP ao->b9 X.K H1 aP ao .fresh d' v->Q v ao) (λ_=>False)) I
  ⟨G,J,ag,bT (bo.mp hw) (λd k v aI H1 aM aE=>?_) λ_ q=>q⟩) λus s1 ⟨ai,H1,a9,aE,aD⟩=>?_) bX rfl
 .refine⟨v,d,aI,rfl,aM,aE,?_⟩;refine bT (mS k λc=>?_) (λd' q pZ bV aV bt aX=>q pZ bV aV (aM.trans bt) (aX.old aM.h)) λ_ q=>q
  intro z;cases hd:Den.dt d with
  |ok ds=>rw[hd]at z;have z:Den.ff ds=.exc c:=z;unfold Den.ff at z;split at z<;>cases z
  |exc cQ=>cases d<;>cases hd
  |bad=>rw[hd]at z;cases z
 .obtain⟨v,d,aI,e1,aM,bF,f6⟩:=aD;subst e1;obtain⟨u,rfl,bb⟩:=vals1 aE;refine bM (U8 aj b3 a9 aM.sub bF bb f6) λw s2 h2=>?_
  exact YO h2
end
end bD
end
section
namespace bD
open PySem PySem.Spec PyProof.Rows bx
section
variable{xp:b5}{X:aR}{ak:List Nat}{m:en}{f bc cz:a7->bp D}{a b e c3:Expr}{pos p p2 p3 p4:Pos}{pins:List (Addr×Obj)}{σ:bQ}{G H:az}{s:Shared}{x:Str}
def Sp{k:Nat}(aC:aQ X a (bf xp X ak .view bc)):aQ X (.Subscript a (.Slice none none (some (.UnaryOp .USub (.Constant (.int 1) k p3) p4)) p2) pos) (bf xp X ak .val λJ=>bc J>>=λx=>Den.rK x):=by
 intro pins s σ H Q I ⟨G,J,ag,hw⟩;refine Subscript_ (bM (aC pins s σ H (λv H1=>∃d aI,Ext G H aI H1/\View X.K aI H1 d v/\cY (Den.rK d) (λd'=>∀v aP ao,Ext G H aP ao->Rep X.K aP d' v->Q v ao) (λ_=>False)) I
  ⟨G,J,ag,bT (bo.mp hw) (λd q v aI H1 aM aE=>⟨d,aI,aM,aE,?_⟩) λ_ q=>q⟩) λv s1 ⟨z,H1,a9,aE,d,aI,aM,bF,f6⟩=>?_)
 .cases d<;>first|exact q.elim|exact q
 refine wpAny_Slice (bM (yW (X:=X) pins s1 σ H1 (λo ao=>o=none/\ao=H1) a9 ⟨rfl,rfl⟩) λeQ s2 ⟨l,aV,cy,bW,Kd,kJ⟩=>?_)
 subst Kd kJ;refine bM (yW (X:=X) pins s2 σ aV (λo ao=>o=none/\ao=aV) cy ⟨rfl,rfl⟩) λeR s3 ⟨u,bw,eG,pu,Kw,kJ⟩=>?_
 subst Kw kJ;refine bM (EC (Et Gr Eo) pins s3 σ bw (λo ao=>o=some (-1)/\ao=bw) eG ⟨1,rfl,-1,rfl,rfl,rfl⟩) λkh s4 ⟨o,i2,fA,rE,qH,kJ⟩=>?_
 subst qH kJ;cases bW;cases pu;have hg:Inv X pins σ i2 { s4 with heap:=s4.heap.push { cls:=.type "slice",data:=.fields #[.none,.none,kh] } }:=fA.kept (t':=s4.toks) λb bB q=>Wj _ q
 cases d with
 |tup ds =>
  obtain⟨jI,xs,rfl,gG,ub⟩:=jD aM.sub bF;cases aE;obtain⟨its,bL,aW,hz⟩:=hg.tuple gG;have aT:wpAny (model X.prog X.w) X.A (getItem (.ref jI) (.ref s4.heap.objs.size)) (dT X pins σ Q) X.b8 { s4 with heap:=s4.heap.push { cls:=.type "slice",data:=.fields #[.none,.none,kh] } }:=by
   refine L0 aW (Heap.IsSliceOf.new ..) rE ?_ (by rw[Wv,<- bL.length];exact hz)
   have e:its.toArray.toList.reverse.toArray=its.reverse.toArray:=by simp
   rw[e];exact tP hg aM.sub (Vals.reverse bL) ub.rev (by rw[List.length_reverse];exact hz) λv aP ao bt aX=>f6 v aP ao (aM.trans bt) aX
  show wpAny (model X.prog X.w) X.A (subscriptTail a (.Slice none none (some (.UnaryOp .USub (.Constant (.int 1) k p3) p4)) p2) (.ref jI) (.ref s4.heap.objs.size)) (dT X pins σ Q) X.b8 { s4 with heap:=s4.heap.push { cls:=.type "slice",data:=.fields #[.none,.none,kh] } };exact tail_any (ops:=[.ref jI,.ref s4.heap.objs.size]) aW.typeIs WQ.lookup aT (by with_unfolding_all rfl)
 |_=>exact f6.elim
def R6{d:D}{v:V}{u:Value}(aT:dv X x)(hm:X.aB x=some u)(r:RelV v u)(rep:∀G,Rep X.K G d v)(hd:(x==("__debug__":Str))=false):aQ X (.Name x p) (bf xp X ak .val λ_=>.ok d):=by
 intro pins s σ H Q I ⟨G,J,ag,hw⟩;exact En aT hm r hd pins s σ H Q I (hw v G H (Ext.refl ag.sub) (rep G))
def E9{t:a7->bp D}(h:∀J,t J=.bad):aQ X e (bf xp X ak m t):=by
 intro pins s σ H Q I ⟨G,J,ag,hw⟩;rw[h]at hw;exact hw.elim
def Lo:fS X (.type "str") (lr X.K m λd=>match d with|.int i=>Den.jy i|_=>.bad):=by
 intro pins s σ H xs us Q I r ⟨G,z,d,ex,ag,bF,hw⟩;subst ex;cases d with
 |int i =>
  dsimp only at hw;unfold Den.jy at hw
  by_cases h:i.natAbs<10000000000
  .rw[if_pos h]at hw;have bF:z=.int i:=bF;subst bF;refine IQ pins s σ H _ us Q I r ⟨i,rfl,?_,hw _ G H (Ext.refl ag) (by cases m<;>rfl)⟩
   by_cases h0:i.natAbs=0
   .rw[h0];decide
   .have:i.natAbs.log2<64:=(Nat.log2_lt h0).mpr (WI h (by decide))
    omega
  .rw[if_neg h]at hw;exact hw.elim
 |_=>exact hw.elim
def US (lo : Int) : ∀ {n : Nat} {l : List Value}, l.length = n -> (∀ (i : Nat) v, l[i]? = some v -> ∃ t, v = .int (lo + i * 1) t) -> Vals ((List.range n).map fun (k : Nat) => V.int (lo + (k : Nat))) l := by
  intro n l au h
  subst au
  induction l generalizing lo with
  | nil => exact .nil
  | cons v l aN =>
    rw [List.length_cons, YY, WA, List.map_map]
    refine .cons ?_ ?_
    · obtain ⟨t, e⟩ := h 0 v rfl
      exact ⟨t, by rw [e]; simp⟩
    · have := aN (lo + 1) fun i w hw => by
        obtain ⟨t, e⟩ := h (i + 1) w (by simpa using hw)
        exact ⟨t, by rw [e]; congr 1; push_cast; omega⟩
      have e2 : ((fun (k : Nat) => V.int (lo + (k : Nat))) ∘ Nat.succ) = fun (k : Nat) => V.int (lo + 1 + (k : Nat)) := by
        funext k; simp only [Function.comp]; congr 1; push_cast; omega
      rw [e2]; exact this
theorem EV{K:W.Frag}(lo:Int):∀(l:List Nat),bu K G (l.map λ(k:Nat)=>Den.D.int (lo+(k:Nat))) (l.map λ(k:Nat)=>V.int (lo+(k:Nat)))
 |[]=>rfl
 |k::l=>⟨_,_,rfl,rfl,EV lo l⟩
def GQ{R:Value->Shared->Prop}(aT:dv X "range")(hm:X.aB "range"=none)(aC:aQ X a (bf xp X ak .view bc))(bX:starEach [a] X.env=[(false,eval a X.env)])(I:Inv X pins σ H s){J:a7}(ag:d7 X.K ak G H J σ){Q:List D->Prop}(hw:cY (bc J>>=λd=>Den.fU d>>=λi=>Den.ir 0 i) Q (λc=>gU xp X c H))(k:∀(s1:Shared)(aI H1:az)(n:Int)(r:Addr)(t u v:Tok)(h':Heap)(tk:Nat),Inv X pins σ H1 s1->Ext G H aI H1->Q (Den.ed 0 n)->(-(2 ^ 62)<=n/\n<2 ^ 62/\(Den.ed 0 n).length<=16777216)->Inv X pins σ H1 { s1 with heap:=h',toks:=tk }->IsRange h' r 0 n 1 t u v->R (.ref r) { s1 with heap:=h',toks:=tk }):
  wpAny (model X.prog X.w) X.A (eval (.Call (.Name "range" p) [a] [] pos) X.env) R X.b8 s:=by
 refine Call_ (jt I aT hm boot_range (W7 (bM (j9 aC bX pos pins s σ H (λai H1=>∃n aI,ai=[.int n]/\Ext G H aI H1/\Q (Den.ed 0 n)/\(-(2 ^ 62)<=n/\n<2 ^ 62/\(Den.ed 0 n).length<=16777216)) I
  ⟨G,J,ag,bT (bo.mp hw) (λd q v aI H1 aM aE=>?_) λ_ q=>q⟩) λus s1 ⟨ai,H1,a9,aE,n,aI,e1,aM,aF,ae⟩=>?_) bX rfl))
 .have q:=bo.mp q;cases d with
  |int i =>
   obtain⟨⟨_,_,cf,dQ⟩,hz,q⟩:=y6 q;exact⟨i,aI,by rw[b9.pG aE],aM,q,cf,dQ,hz⟩
  |_=>exact q.elim
 .subst e1;obtain⟨u,rfl,c5⟩:=vals1 aE;obtain⟨t,rfl⟩:=c5;refine call_range_1 ?_;exact k s1 aI H1 n _ _ _ _ _ _ a9 aM aF ae (a9.kept λb o e=>Wj _ e) (IsRange.new ..)
def EZ(n:Int):Builtin.Range.rangeSize 0 n 1=((Den.ed 0 n).length:Int):=by
 unfold Den.ed;rw[List.length_map,List.length_range,rangeSize_one]
 split<;>omega
def Rz(n:Int):(Den.ed 0 n).length=n.toNat:=by unfold Den.ed;rw[List.length_map,List.length_range];congr 1;omega
def E0{acc:Array Value}{n:Int}(h:ItemsOf (λi v=>∃t,v=.int (0+i*1) t) acc (Den.ed 0 n).length):∃xs,bu X.K G (Den.ed 0 n) xs/\Vals xs acc.toList:=by
 have au:acc.toList.length=n.toNat:=by rw[Array.length_toList,h.1,Rz]
 have v:=US 0 au λi v aL=>h.2 i v (by simpa using aL)
 have e:Den.ed 0 n=(List.range n.toNat).map λ(k:Nat)=>Den.D.int (0+(k:Nat)):=by
  unfold Den.ed;rw[Int.sub_zero]
 exact⟨_,by rw[e];exact EV 0 _,v⟩
def Sy{y:Str}(aj:X.calm=true)(af:x="range")(aA:y="tuple")(iK:dv X x)(kX:X.aB x=none)(mh:dv X y)(qY:X.aB y=none)(aC:aQ X a (bf xp X ak .view bc))(bX:starEach [a] X.env=[(false,eval a X.env)]):
  aQ X (.Call (.Name y p2) [.Call (.Name x p) [a] [] pos] [] p3) (bf xp X ak .val λJ=>(bc J>>=λd=>Den.fU d>>=λi=>Den.ir 0 i)>>=λds=>.ok (.tup ds)):=by
 subst af aA;intro pins s σ H Q I ⟨G,J,ag,hw⟩;refine XR (jt I mh qY (u:=.type "tuple") (by kernel_rfl) ?_)
 refine W7 ?_ rfl rfl;show wpAny _ _ (spliced ((false,eval (.Call (.Name "range" p) [a] [] pos) X.env)::[])) _ _ s;refine YL ?_;refine GQ iK kX aC bX I ag (bo.mp hw) λs1 aI H1 n r t u v h' tk a9 aM aF ae cy aZ=>YO ?_
 have bJ:X.A.handled=none:=cy.ok.hd aj;have aw:=EZ n;have meets:Meets (Builtin.«tuple.__new__» ⟨[.type "tuple",.ref r],[]⟩) (λA R s'=>A.handled=none/\IsRange s'.heap r 0 n 1 t u v /\
   ∀(s2:Shared)(acc:Array Value),Pv.r5 s' s2->ItemsOf (λi v=>∃t,v=.int (0+i*1) t) acc (Den.ed 0 n).length->R (.ok (.ret (.ref s2.heap.objs.size))) { s2 with heap:=s2.heap.push { cls:=.type "tuple",data:=.seq acc } }) :=
  .of_wp λprog w A R s' h=>by
   obtain⟨aa,h2,h3⟩:=h;have jo:=sub_tuple_self;have VC:=init_tuple_lookup;have VK:=madeHere_tuple;have cR:s'.TypeIs (.ref r) "range":=⟨_,h2,rfl⟩;have h4:A.in1.handled=none:=aa
   wp_walk using X9 cR,Pv.Jk (A:=A.in1) h4 h2 (small_one (by omega) (by omega) ae.1 ae.2.1) aw ae.2.2
   intro s2 acc g hN;have e:acc.toList.toArray=acc:=by simp
   refine Wh (m:=Builtin.Tuple.tupleExact acc.toList.toArray) (WG (wpAny_pure ⟨_,rfl,?_⟩) (show acc.toList.toArray.size<=sizeLine by rw[e,hN.1,W6];exact ae.2.2))
   rw[e];exact h3 s2 acc g hN
 refine callType_new F.called_tuple (by decide) (F.typeCall_tuple_1 _) (F.newCall_tuple_1 _) (λobj=>F.args_object_init_2 obj _) F.entry_tuple_new meets ⟨bJ,aZ,λs2 acc g hN=>⟨⟨_,Wq _ rfl,rfl⟩,?_⟩⟩
 obtain⟨xs,k1,k2⟩:=E0 (X:=X) (G:=aI) hN;have eG:=Inv.grown cy g;have e:acc=acc.toList.toArray:=by simp
 rw[e];exact tP eG aM.sub k2 k1 (by rw[k2.length,Array.length_toList,hN.1,W6];exact ae.2.2) λv aP ao bt aX=>aF v aP ao (aM.trans bt) aX
def Sg{y:Str}(aj:X.calm=true)(af:x="range")(aA:y="list")(iK:dv X x)(kX:X.aB x=none)(mh:dv X y)(qY:X.aB y=none)(aC:aQ X a (bf xp X ak .view bc))(bX:starEach [a] X.env=[(false,eval a X.env)]):
  aQ X (.Call (.Name y p2) [.Call (.Name x p) [a] [] pos] [] p3) (bf xp X ak .fresh λJ=>(bc J>>=λd=>Den.fU d>>=λi=>Den.ir 0 i)>>=λds=>.ok (.lst ds)):=by
 subst af aA;intro pins s σ H Q I ⟨G,J,ag,hw⟩;refine XR (jt I mh qY (u:=.type "list") (by kernel_rfl) ?_)
 refine W7 ?_ rfl rfl;show wpAny _ _ (spliced ((false,eval (.Call (.Name "range" p) [a] [] pos) X.env)::[])) _ _ s;refine YL ?_;refine GQ iK kX aC bX I ag (bo.mp hw) λs1 aI H1 n r t u v h' tk a9 aM aF ae cy aZ=>YO ?_
 have bJ:X.A.handled=none:=cy.ok.hd aj;have aw:=EZ n;refine call_list_range bJ aZ (small_one (by omega) (by omega) ae.1 ae.2.1) aw ae.2.2 λh2 Uo acc c aq aT hN=>?_
 obtain⟨xs,k1,k2⟩:=E0 (X:=X) (G:=aI) hN;have e:acc=acc.toList.toArray:=by simp
 rw[e]at aT;refine⟨.ref h'.objs.size,_,cy.laid (t':=Uo) (o:=.lst xs) aq (Wm _) ⟨by rw[k2.length,Array.length_toList,hN.1,W6];exact ae.2.2,acc.toList,c,k2,aT⟩,rfl,?_⟩
 have fr:H1 h'.objs.size=none:=cy.fresh;exact aF _ aI _ (aM.trans (Ext.own aM.sub fr)) ⟨_,xs,rfl,eE,aM.h.free fr,aM.sub.free fr,k1⟩
end
end bD
end
section
namespace bD
open PySem PySem.Spec PyProof.Rows bx
section
variable{X:aR}{pins:List (Addr×Obj)}{σ:bQ}{G H:az}{s:Shared}{h':Heap}
def Gm{t':Nat}{bk:List Addr}(I:Inv X pins σ H s)(k:∀b o,b∉bk->s.heap.get? b=some o->h'.get? b=some o)(hf:∀b∈bk,i1 X pins H b):Inv X pins σ H { s with heap:=h',toks:=t' }:=by
 have rx:∀b u,H b=some u->b∉bk:=λb u e z=>by rw[(hf b z).1]at e;cases e
 have Pz:X.env.locals∉bk:=λz=>(hf _ z).2.1 rfl
 refine I.step (g':=s.gens) (d':=s.drawn) (ch:=bk) (λb ae=>?_) (λb o _ _ aj e _=>k b o aj e) (λb o _ _ aj e _=>⟨o.slots,k b o aj e⟩) (λ_ _ _ _ n=>n)
  (λb o aj e=>⟨o,k b o aj e⟩) (λ_ _ e=>e) (λ_ _ _ e=>e) (λb br e=>⟨#[],by rw[e];simp⟩) (λm hm=>?_) (λb u e=>?_) I.bare
 .obtain⟨_,f1,_,dm,f4,eW⟩:=hf b ae;exact⟨dm,f1,f4,eW⟩
 .obtain⟨o,ah,aY,ay,r⟩:=hm;exact⟨o,ah,aY,k _ o Pz ay,r⟩
 .refine(I.bU b u e).kd (λc v aj q=>k c v ?_ q) (λ_ q=>q) λ_ _ q=>q
  rcases aj with z|z
  .rw[z];exact rx b u e
  .exact rx c _ z
def Us{a:Addr}{o:e8}(I:Inv X pins σ H s)(er:H a=none)(h0:X.ef.heap.objs.size<=a)(gi:a≠X.env.locals)(aj:∀x c,X.env.cells.lookup x=some c->c≠a)(ax:∀p∈X.bS++pins,p.1≠a)(new:fi X.prog X.w (upd H a o) s.heap a o):Inv X pins σ (upd H a o) s where
 ok:=I.ok
 os:=I.os
 bare:=I.bare
 base:=⟨I.base.keep,I.base.slot,λb bB e n af=>by
   have:b≠a:=λz=>absurd (Wl e) (aab.mpr (z▸h0))
   rw[de this];exact I.base.free b bB e n af,I.base.there,λb xs e=>by
   have q:=I.base.iV b xs e;rw[de (ij q er)];exact q,λb bB u e=>by
   have q:=I.base.ic b bB u e;rw[de (ij q er)];exact q,λb br e=>by
   obtain⟨mo,q⟩:=I.base.iU b br e;exact⟨mo,by rw[de (ij q er)];exact q⟩⟩
 loc:=I.loc
 cell:=I.cell
 free:=by rw[de (XB gi)];exact I.free
 g5:=λx c e=>by rw[de (aj x c e)];exact I.g5 x c e
 pin:=λp q=>by
  obtain⟨c6,cO,dK⟩:=I.pin p q;exact⟨c6,by rw[de (ax p q)];exact cO,dK⟩
 bU:=λb u e=>by
  by_cases ae:b=a
  .subst ae;rw[eE]at e;cases e;exact new
  .rw[de ae]at e;exact(I.bU b u e).kd (λc v _ q=>q) (λc q=>by rw[de (ij q er)];exact q) λc xs q=>by rw[de (ij q er)];exact q
 len:=I.len
end
noncomputable def r8 (K : W.Frag) (p q : Addr) : i4 :=
  ⟨fun i H => ∃ xs ys x y, c4 K H p xs /\ c4 K H q ys /\ xs[i]? = some x /\ ys[i]? = some y,
   fun i H v ao => ∃ T x y, H T = none /\ v = .ref T /\ ao = upd H T (.tup [x, y]) /\ ∀ xs ys, c4 K H p xs -> c4 K H q ys -> xs[i]? = some x /\ ys[i]? = some y,
   fun i H => ∃ xs ys, c4 K H p xs /\ c4 K H q ys /\ (xs[i]? = none \/ ys[i]? = none)⟩
noncomputable def Up(z a b i j p q:Addr)(n:Nat)(h:Heap):Prop:=IsZip h z a b .none/\IsPair h a (.ref i) (.ref j)/\(∃u v,IsPair h b u v)/\h.IsTupleIter i p n/\h.IsTupleIter j q n
def UB{P:Program}{w:World}{K:W.Frag}{elts:List Expr}{k:Nat}{pos:Pos}{z a b i j p q:Addr}(fy:z≠a/\z≠b/\z≠i/\z≠j/\a≠b/\a≠i/\a≠j/\b≠i/\b≠j/\i≠j):Turn P w K (.Tuple elts k pos) (r8 K p q) [z,a,b,i,j] z (Up z a b i j p q) where
 mem:=by simp
 obj:=λn h st c aj=>by
  obtain⟨aa,h2,⟨u,v,h3⟩,⟨n0,e4,_,wt⟩,⟨n1,e5,_,wu⟩⟩:=st;simp only[Wo,XT,ZR]at aj;rcases aj with rfl|rfl|rfl|rfl|rfl
  .exact⟨_,aa,λv z=>by cases z⟩
  .exact⟨_,h2,λv z=>by cases z⟩
  .exact⟨_,h3,λv z=>by cases z⟩
  .exact⟨n0,e4,λv z=>by rw[wt]at z;cases z⟩
  .exact⟨n1,e5,λv z=>by rw[wu]at z;cases z⟩
 keep:=λn h h' st k=>by
  obtain⟨aa,h2,⟨u,v,h3⟩,h4,h5⟩:=st;exact⟨k z (by simp) _ aa,k a (by simp) _ h2,⟨u,v,k b (by simp) _ h3⟩,h4.at λo e=>k i (by simp) o e,h5.at λo e=>k j (by simp) o e⟩
 item:=by
  intro X dO hw gC aj n pins s σ H E I hf st aT;subst dO hw gC;obtain⟨xs,ys,x,y,ax,aF,af,aA⟩:=aT;obtain⟨its,bL,oo,_⟩:=I.tuple ax;obtain⟨gF,ue,oq,_⟩:=I.tuple aF;obtain⟨uG,Nz,bb⟩:=bL.get af;obtain⟨uH,NA,cg⟩:=ue.get aA;obtain⟨aa,h2,⟨u,v,h3⟩,h4,h5⟩:=st;have gB:∀(t:Addr)(ai:List V),c4 X.K H t ai->∀c∈[z,a,b,i,j],t≠c:=λt ai aL c jh e=>by
   obtain⟨f0,_,_,dm,_,_⟩:=hf c jh;rcases aL with aL|⟨o,its',cL,aq,_⟩
   .subst e;rcases aL with aL|⟨o,aL⟩<;>rw[f0]at aL<;>cases aL
   .-- an object of zB module
    have ae:=I.ok.mod.rh t o aq;subst e;rcases dm with dm|dm
    .exact I.ok.mA _ _ ae dm
    .exact absurd (Wl (I.ok.bs _ _ ae).1) (aab.mpr dm)
  have D:ZipApart z a b i j p q:=⟨fy.1.symm,fy.2.1.symm,fy.2.2.1.symm,fy.2.2.2.1.symm,fy.2.2.2.2.1,fy.2.2.2.2.2.1,fy.2.2.2.2.2.2.1,fy.2.2.2.2.2.2.2.1,fy.2.2.2.2.2.2.2.2.1,fy.2.2.2.2.2.2.2.2.2,
   gB p xs ax z (by simp),gB p xs ax b (by simp),gB p xs ax i (by simp),gB p xs ax j (by simp),gB q ys aF z (by simp),gB q ys aF b (by simp),gB q ys aF i (by simp),gB q ys aF j (by simp)⟩
  refine sk.next_item D aa h2 h3 h4 h5 (show s.heap.IsTuple p its.toArray from oo) (show s.heap.IsTuple q gF.toArray from oq) (x:=uG) (y:=uH) (by simpa using Nz) (by simpa using NA) λg g1 g2 g3 fZ fa Vu sS=>?_
  refine⟨_,rfl,?_⟩;refine wpAny_letOwnedTupleGo_zip (s:={ s with heap:=g }) g1 λg' fx bj=>?_
  have lt:∀c∈[z,a,b,i,j],c<s.heap.objs.size:=λc jh=>by
   simp only[Wo,XT,ZR]at jh;rcases jh with rfl|rfl|rfl|rfl|rfl
   .exact Wl aa
   .exact Wl h2
   .exact Wl h3
   .obtain⟨o,e,_⟩:=h4;exact Wl e
   .obtain⟨o,e,_⟩:=h5;exact Wl e
  have keep:∀c o,c∉[z,a,b,i,j]->s.heap.get? c=some o->g'.get? c=some o:=λc o aw e=>by
   have j7:c≠z:=λw=>aw (by simp[w])
   exact bj.extBut _ _ j7 (sS c o j7 (λw=>aw (by simp[w])) (λw=>aw (by simp[w])) (λw=>aw (by simp[w])) e)
  have a9:Inv X pins σ H { s with heap:=g',toks:=s.toks }:=Gm I keep hf;have fr:H s.heap.objs.size=none:=I.fresh;have cR:g'.get? s.heap.objs.size=some { cls:=.type "tuple",data:=.seq #[uG,uH] }:=bj.extBut _ _ (Yy (lt z (by simp))) fa
  have cy:Inv X pins σ (upd H s.heap.objs.size (.tup [x,y])) { s with heap:=g',toks:=s.toks }:=by
   refine Us a9 fr I.dJ (Yy I.lt) (λx c e w=>?_) (λpp tg w=>?_) ⟨by show 2<=_;rw[W6];omega,[uG,uH],.cons bb (.cons cg .nil),⟨_,cR,rfl,_,rfl⟩⟩
   .obtain⟨v,o,ay,_⟩:=I.cell x c e;exact absurd (Wl ay) (by rw[w];exact Xz _)
   .exact absurd (Wl (I.pin pp tg).1) (by rw[w];exact Xz _)
  refine⟨.ref s.heap.objs.size,upd H s.heap.objs.size (.tup [x,y]),cy,rfl,⟨_,x,y,fr,rfl,rfl,λzO kk q0 nO=>?_⟩,⟨fx,bj.extBut _ _ D.TIz (sS a _ D.TIz D.TITO D.TIi1 D.TIi2 h2),⟨uG,uH,bj.extBut _ _ D.TOz g2⟩,g3.extBut bj.extBut D.i1z,fZ.extBut bj.extBut D.i2z⟩,λc jh=>?_⟩
  .rw[I.zD q0 ax,I.zD nO aF];exact⟨af,aA⟩
  .rw[de (WB (lt c jh))];exact(hf c jh).1
 done:=by
  intro X dO hw gC aj n pins s σ H E I hf st aT;subst dO hw gC;obtain⟨xs,ys,ax,aF,xM⟩:=aT;obtain⟨its,bL,oo,_⟩:=I.tuple ax;obtain⟨gF,ue,oq,_⟩:=I.tuple aF;obtain⟨aa,h2,⟨u,v,h3⟩,h4,h5⟩:=st;have gB:∀(t:Addr)(ai:List V),c4 X.K H t ai->∀c∈[z,a,b,i,j],t≠c:=λt ai aL c jh e=>by
   obtain⟨f0,_,_,dm,_,_⟩:=hf c jh;rcases aL with aL|⟨o,its',cL,aq,_⟩
   .subst e;rcases aL with aL|⟨o,aL⟩<;>rw[f0]at aL<;>cases aL
   .have ae:=I.ok.mod.rh t o aq;subst e;rcases dm with dm|dm
    .exact I.ok.mA _ _ ae dm
    .exact absurd (Wl (I.ok.bs _ _ ae).1) (aab.mpr dm)
  have D:ZipApart z a b i j p q:=⟨fy.1.symm,fy.2.1.symm,fy.2.2.1.symm,fy.2.2.2.1.symm,fy.2.2.2.2.1,fy.2.2.2.2.2.1,fy.2.2.2.2.2.2.1,fy.2.2.2.2.2.2.2.1,fy.2.2.2.2.2.2.2.2.1,fy.2.2.2.2.2.2.2.2.2,
   gB p xs ax z (by simp),gB p xs ax b (by simp),gB p xs ax i (by simp),gB p xs ax j (by simp),gB q ys aF z (by simp),gB q ys aF b (by simp),gB q ys aF i (by simp),gB q ys aF j (by simp)⟩
  have Mx:its.toArray[n]?=none\/gF.toArray[n]?=none:=by
   rcases xM with h|h
   .exact .inl (by simpa using bL.none_of h)
   .exact .inr (by simpa using ue.none_of h)
  refine sk.next_end (I.ok.hd aj) D aa h2 h3 h4 h5 (show s.heap.IsTuple p its.toArray from oo) (show s.heap.IsTuple q gF.toArray from oq) Mx λg k=>⟨rfl,?_⟩
  exact Gm (t':=s.toks) I (λc o aw e=>k c o (λw=>aw (by simp[w])) (λw=>aw (by simp[w])) (λw=>aw (by simp[w])) (λw=>aw (by simp[w])) e) hf
 self:=λ_ _ _ _ _ st h=>wpAny_pyIter_zip st.1 h
theorem GV:∀(xs ys:List D)(i:Nat){d:D},(Den.gb xs ys)[i]?=some d->∃x y,xs[i]?=some x/\ys[i]?=some y/\d=.tup [x,y]
 |[],_,i,d,h=>by simp[Den.gb]at h
 |_::_,[],i,d,h=>by simp[Den.gb]at h
 |x::xs,y::ys,0,d,h=>by simp[Den.gb]at h;exact⟨x,y,rfl,rfl,h.symm⟩
 |x::xs,y::ys,i+1,d,h=>by simpa using GV xs ys i (by simpa[Den.gb] using h)
theorem uY:∀(xs ys:List D),(Den.gb xs ys).length=min xs.length ys.length
 |[],_=>by simp[Den.gb]
 |_::_,[]=>by simp[Den.gb]
 |x::xs,y::ys=>by simp[Den.gb,uY xs ys]
def Od{K:W.Frag}{P:az->az->Prop}{G:az}{p q:Addr}{xs ys:List V}{ds ah:List D}(dO:∀aI H1,P aI H1->bz G aI/\c4 K H1 p xs/\c4 K H1 q ys)(r:bu K G ds xs)(bC:bu K G ah ys):m1 K P (r8 K p q) (Den.gb ds ah) where
 go:=λi aI H1 h hi=>by
  obtain⟨_,aD,aO⟩:=dO aI H1 h;rw[uY,r.length,bC.length]at hi;exact⟨xs,ys,xs[i]'(by omega),ys[i]'(by omega),aD,aO,Wr _,Wr _⟩
 kj:=λi aI H1 v aV d h ag hd ⟨T,x,y,cR,ev,kJ,gk⟩=>by
  obtain⟨g,aD,aO⟩:=dO aI H1 h;obtain⟨ba,cj,e1,e2,rfl⟩:=GV ds ah i hd;obtain⟨bF,k1,k2⟩:=r.get e1;obtain⟨dy,k3,bY⟩:=bC.get e2;obtain⟨c6,cO⟩:=gk xs ys aD aO;rw[k1]at c6;cases c6;rw[k3]at cO;cases cO;subst ev kJ;refine⟨upd aI T (.tup [x,y]),Ext.put ag cR,T,[x,y],rfl,c4.of eE,?_⟩;have cU:=gs (o:=e8.tup [x,y]) (ag.free cR);exact⟨x,[y],rfl,(k2.mono g).mono cU,y,[],rfl,(bY.mono g).mono cU,rfl⟩
 stop:=λaI H1 h=>by
  obtain⟨_,aD,aO⟩:=dO aI H1 h;refine⟨xs,ys,aD,aO,?_⟩;rw[uY,r.length,bC.length]
  by_cases c:xs.length<=ys.length
  .exact .inl (WV (by omega))
  .exact .inr (WV (by omega))
end bD
end
section
namespace bD
open PySem PySem.Spec PyProof.Rows bx
def boot_zip:bootBuiltins "zip"=some (.type "zip"):=by kernel_rfl
section
variable{xp:b5}{X:aR}{ak:List Nat}{m:en}{f bc cz:a7->bp D}{a b:Expr}{elts:List Expr}{k:Nat}{pos p p4:Pos}{x:Str}
def ES{K:W.Frag}{H aP ao:az}{ds:List D}{v:V}(h:b9 K H aP ao m (.tup ds) v):Rep K aP (.tup ds) v:=by cases m<;>exact h
def EH{K:W.Frag}{G H aI H1:az}{t:Addr}{xs:List V}(hm:m=.view\/m=.val)(ag:bz G H)(h:c4 K G t xs)(q:oH m G H aI H1):c4 K H1 t xs:=by
 obtain⟨aD,aO⟩:=q;rcases hm with rfl|rfl
 .exact fw aO (fw ag h)
 .exact fw aO (fw aD h)
def Sd (hm : m = .view \/ m = .val) (af : x = "zip") (aT : dv X x) (nJ : X.aB x = none) (aC : aQ X a (bf xp X ak m bc)) (ae : aQ X b (bf xp X ak m cz)) (bX : starEach [a, b] X.env = [(false, eval a X.env), (false, eval b X.env)]) (ml : starEach [b] X.env = [(false, eval b X.env)]) :
    fB X (.Tuple elts k p4) (.Call (.Name x p) [a, b] [] pos) (jA xp X ak m fun J => bc J >>= fun x => cz J >>= fun y => Den.uZ x y) := by
  subst af
  intro pins s σ H R I ⟨G, J, ag, hw⟩
  refine Call_ (jt I aT nJ boot_zip (W7 (bM (iS aC (j9 ae ml) (by rw [bX, ml]) pos pins s σ H (fun ai aV => ∃ v w bV ds ah, ai = [v, w] /\ Ext G H bV aV /\ Rep X.K bV (.tup ds) v /\ Rep X.K bV (.tup ah) w /\
      ∀ bP aP ao, Ext G H aP ao -> m1 X.K (oH m aP ao) bP (Den.gb ds ah) -> (Den.gb ds ah).length <= 16777216 -> R bP ao) I
    ⟨G, J, ag, bT (bo.mp hw) (fun ba q v aI H1 aM aE => ?_) fun _ q => q⟩) fun us s1 ⟨ai, H1, a9, aE, v, w, aI, ds, ah, e1, aM, bL, lx, hR⟩ => ?_) (by rw [bX, ml]) (by rw [ml]; rfl)))
  · refine ⟨aI, J, ag.ext aM, bT (bo.mp q) (fun cj aO w bV aV bt aX => ?_) fun _ q => q.mono aM.h⟩
    cases ba with
    | tup ds =>
      cases cj with
      | tup ah => exact ⟨v, w, bV, ds, ah, rfl, aM.trans bt, (ES aE).mono bt.g, ES aX, aO⟩
      | _ => exact aO.elim
    | _ => cases cj <;> exact aO.elim
  · subst e1
    obtain ⟨du, eO, rfl, RK, RL⟩ := vals2 aE
    obtain ⟨oo, xs, rfl, ax, aD⟩ := bL
    obtain ⟨oq, ys, rfl, aF, aO⟩ := lx
    cases RK
    cases RL
    obtain ⟨its, V5, p1, NJ⟩ := a9.tuple (fw aM.sub ax)
    obtain ⟨gF, ue, p2, q7⟩ := a9.tuple (fw aM.sub aF)
    refine sk.make (show s1.heap.IsTuple oo its.toArray from p1) (show s1.heap.IsTuple oq gF.toArray from p2) fun g c6 cO dK ox zR Wg Vb => ?_
    refine wpAny_pyIter_zip c6 ?_
    refine ⟨s1.heap.objs.size + 4, [s1.heap.objs.size + 4, s1.heap.objs.size + 2, s1.heap.objs.size + 3, s1.heap.objs.size, s1.heap.objs.size + 1], _, r8 X.K oo oq, H1, rfl, a9.kept (t' := s1.toks) Vb, UB ?_, ⟨c6, cO, ⟨_, _, dK⟩, ox, zR⟩, fun c aj => ?_, ?_⟩
    · refine ⟨?_, ?_, ?_, ?_, ?_, ?_, ?_, ?_, ?_, ?_⟩ <;> (intro z; have z : (_ : Nat) = _ := z; omega)
    · have CA : s1.heap.objs.size <= c := by
        simp only [Wo, XT, ZR] at aj
        rcases aj with rfl | rfl | rfl | rfl | rfl
        · exact Yz _ _
        · exact Yz _ _
        · exact Yz _ _
        · exact Wm _
        · exact Yz _ _
      exact a9.qK CA (a9.bU.fresh CA)
    · refine hR (r8 X.K oo oq) aI H1 aM (Od (G := aI) (fun bV aV h => ⟨h.1, EH hm aM.sub ax h, EH hm aM.sub aF h⟩) aD aO) ?_
      rw [uY, aD.length]
      have := W6
      omega
end
end bD
end
section
namespace bD
open PySem PySem.Spec PyProof.Rows bx
section
variable{xp:b5}{X:aR}{ak:List Nat}{m:en}{f:a7->bp D}{e c3 iter:Expr}{pos p1 p4 ap dU:Pos}{i:Nat}{x n:Str}{rP:List Stmt}
def AH{o:Option (Option D)}{Q:Unit->Prop}{E:Nat->Prop}(h:cY (Den.lW o) Q E):∃ds,o=some (some (.lst ds))/\Q ():=by
 cases o with
 |none=>exact h.elim
 |some o =>
  cases o with
  |none=>exact h.elim
  |some d =>
   cases d with
   |lst ds=>exact⟨ds,rfl,h⟩
   |_=>exact h.elim
def xO(bX:starEach [e] X.env=[(false,eval e X.env)]):((backTo dU (starEach [e] X.env)).all (λx=>!x.1)&&(backToKw dU (keywordEach [] X.env)).all (λx=>x.1.isSome)&&decide ([e].length+([]:List Keyword).length+(if ([]:List Keyword).isEmpty then 0 else 1)<30))=true:=by
 rw[bX];rfl
def RU(hm:i∈ak)(aw:n="append")(bq:X.N[i]?=some x)(aL:h9 X.env.scope x)(aa:(x==("__debug__":Str))=false)(h2:(x==("__classdict__":Str))=false)(nI:(ap.endLine==dU.line)=true)(he:aQ X e (bf xp X ak .val f))(bX:starEach [e] X.env=[(false,eval e X.env)]):
  eg X (.Expr (.Call (.Attribute (.Name x p1) n ap) [e] [] dU) p4) (dW xp X ak λJ=>Den.lW J[i]?>>=λ_=>f J>>=λd=>Den.sl J[i]? d>>=λy=>.ok (.b6 (J.set i (some y)))):=by
 subst aw;intro pins s σ H T I ⟨b1,bG,G,J,ae,hw⟩;refine yZ (yO ZW PySem.F.slot_list_append PySem.F.type_list_append DP (mF bq aL aa h2) (j9 he bX) rfl (xO bX) nI bX rfl) rfl pins s σ H T I ?_;obtain⟨ds,q,hw⟩:=AH (bo.mp hw);obtain⟨a,xs,k1,k2,k3,bY⟩:=ae.cU.lst i ds q hm;refine⟨_,k1,.inl ⟨rfl,xs,dF.of k2⟩,?_⟩;refine⟨G,J,ae.cU,bT (bo.mp hw) (λd k v aI H1 aM aE=>?_) λ_ z=>z.mono ae.ext.h⟩
 have jf:=ae.step aM;rw[q,Den.qr]at k;have k:=bo.mp k
 by_cases hz:ds.length<Den.SZ
 .rw[if_pos hz]at k;have qP:H1 a=some (.lst xs):=aM.h _ _ k2;have xr:aI a=none:=aM.new a k3 (by rw[k2];exact λz=>nomatch z)
  refine⟨a,xs,v,rfl,rfl,qP,by rw[<- bY.length,<- kx];exact hz,?_⟩
  exact k σ aI _ (jf.write hm q k1 qP xr ((bY.mono aM.g).snoc aE))
 .rw[if_neg hz]at k;exact k.elim
noncomputable def hb(aI bG:az):az:=λa=>match aI a with
 |some o=>some o
 |none=>bG a
def px{aI bG:az}{a:Addr}{o:e8}(h:aI a=some o):hb aI bG a=some o:=by unfold hb;rw[h]
def jZ{aI bG:az}{a:Addr}(h:aI a=none):hb aI bG a=bG a:=by unfold hb;rw[h]
variable{K:W.Frag}{b1 bG aI H1 G H:az}{J:a7}{σ:bQ}
def Fl(x:Ext b1 bG aI H1):bz bG (hb aI bG):=λa o h=>by
 cases q:aI a with
 |none=>rw[jZ q];exact h
 |some bO =>
  rw[px q];have e1:=x.sub a bO q;have e2:=x.h a o h;rw[e1]at e2;exact e2
def Lc(x:Ext b1 bG aI H1)(y:Ext b1 bG G H)(s:bz aI G):Ext aI (hb aI bG) G H where
 g:=s
 h:=λa o e=>by
  cases q:aI a with
  |some bO=>rw[px q]at e;cases e;exact y.sub a o (s a o q)
  |none=>rw[jZ q]at e;exact y.h a o e
 sub:=y.sub
 new:=λa e1 e2=>by
  rw[jZ e1]at e2;refine y.new a ?_ e2;cases q:b1 a with
  |none=>rfl
  |some o=>rw[x.g a o q]at e1;cases e1
def Bs(x:Ext b1 bG aI H1)(y:Ext aI (hb aI bG) G H):Ext b1 bG G H where
 g:=x.g.trans y.g
 h:=(Fl x).trans y.h
 sub:=y.sub
 new:=λa e1 e2=>by
  have q:=x.new a e1 e2;exact y.new a q (by rw[jZ q];exact e2)
def dP.re(x:Ext b1 bG aI H1)(h:dP K ak b1 bG G H J σ)(s:bz aI G):dP K ak aI (hb aI bG) G H J σ:=by
 refine⟨h.cU,Lc x h.ext s,λi ds a q hi e=>?_⟩
 obtain⟨b,xs,k1,k2,k3,bY⟩:=h.cU.lst i ds q hi;rw[k1]at e;cases e;have:aI a=none:=by
  cases z:aI a with
  |none=>rfl
  |some o=>rw[s a o z]at k3;cases k3
 rw[jZ this];exact h.own i ds a q hi k1
def dP.back(x:Ext b1 bG aI H1)(h:dP K ak aI (hb aI bG) G H J σ):dP K ak b1 bG G H J σ:=by
 refine⟨h.cU,Bs x h.ext,λi ds a q hi e=>?_⟩
 have:=h.own i ds a q hi e;cases z:aI a with
 |some o=>rw[px z]at this;cases this
 |none=>rw[jZ z]at this;exact this
theorem dP.Fq:∀{ts:List Nat}{ws:List D}{ai:List V}{J:a7}{σ:bQ},(∀t∈ts,t∉ak)->dP K ak b1 bG G H J σ->bu K G ws ai->dP K ak b1 bG G H (Den.ly ts (ws.map some) J) (mL ts ai σ)
 |[],ws,ai,J,σ,_,h,r=>by simpa[Den.ly,mL] using h
 |t::ts,[],ai,J,σ,_,h,r=>by cases r;simpa[Den.ly,mL] using h
 |t::ts,w::ws,ai,J,σ,aW,h,⟨v,r,e,aE,aX⟩=>by
  subst e;exact dP.Fq (ts:=ts) (λz hz=>aW z (List.mem_cons_of_mem _ hz)) (h.rN (aW t List.mem_cons_self) aE) aX
def LC(g:D->a7->bp Den.d6)(d:D)(ds:List D)(J:a7):Den.forL g (d::ds) J=g d J>>=λr=>match r with
  |.b6 c7=>Den.forL g ds c7
  |.dC x=>.ok (.dC x):=rfl
def R5 {k : Nat} {ts : List Nat} {je : a7 -> bp (List D)} {sT : a7 -> bp Den.d6} (ax : PassesOwn (model X.prog X.w) X.A X.env X.b8) (aj : X.calm = true) (kZ : ∀ t ∈ ts, t ∉ ak) (hi : fB X c3 iter (jA xp X ak .val je)) (aT : ix X c3 (w8 X.K k ts)) (ae : fC X rP (dW xp X ak sT))
    (ag : ∀ z, foldedSetIterable iter X.env z = pure z) : eg X (.For c3 iter rP [] pos) (dW xp X ak fun J => je J >>= fun ds => Den.forL (fun d c7 => Den.fK k d >>= fun ai => sT (Den.ly ts ai c7)) ds J) := by
  intro pins s σ H T I ⟨b1, bG, G, J, iI, hw⟩
  refine Q8 ax aj hi aT ae ag pins s σ H T I ?_
  refine ⟨G, J, iI.cU, bT (bo.mp hw) (fun ds gG bP aI H1 aM k7 hz => ?_) fun _ q => q.mono iI.ext.h⟩
  have uT : Ext b1 bG aI H1 := iI.ext.trans aM
  have SV := Fl uT
  refine ⟨fun j m cF ao => j + m = ds.length /\ ∃ aP c7, dP X.K ak aI (hb aI bG) aP ao c7 cF /\ cY (Den.forL (fun d c7 => Den.fK k d >>= fun ai => sT (Den.ly ts ai c7)) (ds.drop j) c7) (sP X.K ak b1 bG T) (fun c => gU xp X c bG),
    ⟨ds.length, by omega, aI, J, dP.re uT (iI.step aM) (bz.refl _), by simpa using gG⟩, ?_⟩
  rintro j m cF ao ⟨aG, aP, c7, cC, f6⟩
  have nD : oH .val aI H1 aP ao := ⟨cC.ext.g, cC.cU.sub⟩
  by_cases c2 : j < ds.length
  · refine .inr ⟨k7.go j aP ao nD c2, fun u0 aV => (j + 1) + (m - 1) = ds.length /\ ∃ bV oy, dP X.K ak aI (hb aI bG) bV aV oy u0 /\ cY (Den.forL (fun d c7 => Den.fK k d >>= fun ai => sT (Den.ly ts ai c7)) (ds.drop (j + 1)) oy) (sP X.K ak b1 bG T) (fun c => gU xp X c bG),
      fun u0 aV h2 => ⟨m - 1, by omega, h2⟩, fun v aV aA => ?_⟩
    have hd : ds[j]? = some ds[j] := Wr c2
    obtain ⟨bV, bt, n9⟩ := k7.kj j aP ao v aV ds[j] nD cC.cU.sub hd aA
    have Sz := cC.step bt
    have Ka : ds.drop j = ds[j] :: ds.drop (j + 1) := XP c2
    rw [Ka, LC] at f6
    have f6 := bo.mp (bo.mp f6)
    refine ⟨bV, ds[j], bt.sub, n9, ?_⟩
    cases q : Den.fK k ds[j] with
    | bad => rw [q] at f6; exact f6
    | exc c =>
      exfalso
      cases k with
      | zero => cases q
      | succ k =>
        cases ig : ds[j] with
        | tup zs =>
          rw [ig] at q
          have Mo : Den.fK (k + 1) (.tup zs) = if zs.length = k + 1 then .ok (zs.map some) else .bad := rfl
          rw [Mo] at q
          split at q <;> cases q
        | _ => rw [ig] at q; cases q
    | ok os =>
      rw [q] at f6
      intro ws ai qH RR
      subst qH
      refine ⟨aI, hb aI bG, bV, _, dP.Fq kZ Sz RR, bT f6 (fun r Dh => ?_) fun c z => z.mono SV⟩
      cases r with
      | b6 oy => exact fun p8 jH bw SA => ⟨by omega, jH, oy, SA, Dh⟩
      | dC d => exact fun uI jH bw fQ dR => Dh uI jH bw (Bs uT fQ) dR
  · have kL : j = ds.length := by omega
    subst kL
    refine .inl ⟨k7.stop aP ao nD, ?_⟩
    rw [Y5] at f6
    exact f6 cF aP ao (dP.back uT cC)
end
end bD
end
section
namespace bD
open PySem PySem.Spec PyProof.Rows bx
def LH{K:W.Frag}{G H aP ao:az}{d:D}{v:V}(x:Ext G H aP ao)(r:b9 K H aP ao .fresh d v):∃bV,Ext G H bV ao/\Rep K bV d v:=by
 cases d with
 |lst ds =>
  obtain⟨a,xs,rfl,aa,h2,h3,h4⟩:=r;refine⟨upd aP a (.lst xs),⟨x.g.trans (gs h3),x.h,λb o q=>?_,λb aD aO=>?_⟩,a,xs,rfl,.inl (.inl eE),h4.mono (gs h3)⟩
  .by_cases ae:b=a
   .subst ae;rw[eE]at q;rw[aa];exact q
   .rw[de ae]at q;exact x.sub b o q
  .rw[de (λz=>aO (by rw[z];exact h2))];exact x.new b aD aO
 |_=>exact⟨aP,x,r⟩
section
variable{xp:b5}{X:aR}{ak:List Nat}{je:a7->bp (List D)}{fY:a7->bp D}{cX:a7->bp Bool}{elt target iter:Expr}{ifs:List Expr}{scope:Scope}{pos p1 p4:Pos}{xs cm:List Str}{k i:Nat}{y:Str}
def RV (aj : X.calm = true) (hy : ∀ i ∈ ak, i < X.N.length) (B : oC X scope xs cm) (aq : Den.eN k target = some xs) (nP : ∀ x, foldedSetIterable iter X.env x = pure x)
    (hi : fB X target iter (jA xp X ak .view je)) (he : ∀ s3 bw bk pins, aQ (gw X scope cm s3 bw bk pins) elt (bf xp (gw X scope cm s3 bw bk pins) ak .val fY)) (aW : qn xp X ak scope cm ifs cX)
    (bq : X.N.Nodup) (aA : X.N[i]? = some y) (af : Loc X.env.scope y) (hf : X.fn y = true \/ X.env.scope.names.lookup y = some .local) :
    eg X (.Assign [.Name y p1] (.ListComp elt [⟨target, iter, ifs, 0⟩] scope pos) p4) (dW xp X ak fun J => (je J >>= fun ds => Den.lj (Den.cJ (iC k cX fY J) ds) >>= fun ys => .ok (.lst ys)) >>= fun d => .ok (.b6 (J.set i (some d)))) := by
  have mm : ∃ b : Bool, swapsWith (.ListComp elt [⟨target, iter, ifs, 0⟩] scope pos) (some (.Name y p1)) p4.line X.env = pure b := ⟨_, rfl⟩
  obtain ⟨b, mm⟩ := mm
  cases b with
  | false =>
    by_cases hm : i ∈ ak
    · exact E8 hm bq aA af (za aj hy B aq nP hi he aW) mm hf
    · exact E7 hm bq aA af (aQ.val (za aj hy B aq nP hi he aW)) mm hf
  | true =>
    intro pins s σ H T I ⟨b1, bG, G, J, ae, hw⟩
    rw [exec_Assign_Name_used _ _ _ _ mm]
    refine Wh (wpAny_standAt (Wh ?_))
    show wpAny _ X.A (do let _ <- comprehension (.ListComp elt [⟨target, iter, ifs, 0⟩] scope pos) scope X.env _ (newList []) false (eval iter X.env) (some (assign (.Name y p1) X.env))) _ _ s
    refine Wh (Xy (AY aj hy B aq nP hi he aW I ae.cU (use := some (assign (.Name y p1) X.env)) (Qc := fun _ s' => oI X pins T .next s') ?_) (fun _ s' aF => wpAny_pure (wpAny_pure aF)) fun _ _ e => e)
    have hw := bo.mp (bo.mp hw)
    refine bo.mpr (bT hw (fun ds k1 => ?_) fun _ q => q.mono ae.ext.h)
    refine bT (bo.mp k1) (fun ys k2 s4 ao aP C cZ m4 x r aw MB inv => ?_) fun _ q => q.mono ae.ext.h
    have fA : Inv X pins σ ao s4 := inv s4.heap (ZK _ _)
    obtain ⟨rA, ah, aY, ay, aZ⟩ := id aw
    have M7 : ∀ v, rA.data ≠ .cell v := fun v z => by
      have := aZ.1
      rw [z] at this; cases this
    obtain ⟨f0, f1, f2, dm, f4, eW⟩ := MB
    have G2 : Inv X (pins ++ [(C, rA)]) σ ao s4 := fA.yU fun p ax => by
      rcases WT.mp ax with z | z
      · exact fA.pin p (WD _ z)
      · have z := Xo.mp z
        subst z
        exact ⟨ay, f0, f1, f2, M7⟩
    show wpAny _ X.A (assign (.Name y p1) X.env (.ref cZ)) _ _ s4
    refine wpAny_assign_Name (uv G2 bq aA af (v := .ref cZ) rfl (fun s5 hg => ?_) hf)
    have h5 : s5.heap.get? C = some rA := (hg.pin (C, rA) (WD _ (WD _ (Xo.mpr rfl)))).1
    refine ⟨m4, ⟨rA, ah, aY, h5, aZ⟩, fun h' cC => ⟨σ.set i (some (.ref cZ)), ao, ?_, ?_⟩⟩
    · exact (hg.pY).turned (t' := s5.toks) (fun b o ae e => (cC.2 b ae).trans e) f0 f1 dm f4 eW
    · by_cases hm : i ∈ ak
      · exact k2 _ aP ao (ae.Fs x hm r)
      · obtain ⟨bV, bt, aX⟩ := LH x r
        exact k2 _ bV ao ((ae.step bt).rN hm aX)
end
end bD
end
section
namespace bD
open PySem PySem.Spec PyProof.Rows bx
noncomputable def nice:Expr->Bool
 |.Starred ..=>false
 |.Set ..=>false
 |.SetComp ..=>false
 |.DictComp ..=>false
 |.Slice ..=>false
 |_=>true
def nn{α:Type}{a:α}{p:Prop}(h:none=some a):p:=nomatch h
def jC{x:Expr}{y:Str}(h:Den.iX x=some y):∃p,x=.Name y p:=by
 cases x with
 |Name z p=>cases h;exact⟨p,rfl⟩
 |_=>exact nn h
def rX{x:Expr}{c:Const}(h:Den.p0 x=some c):∃k p,x=.Constant c k p:=by
 cases x with
 |Constant z k p=>cases h;exact⟨k,p,rfl⟩
 |_=>exact nn h
def UR{x:Expr}{ah:List Expr}(h:Den.GD x=some ah):∃k p,x=.Tuple ah k p:=by
 cases x with
 |Tuple z k p=>cases h;exact⟨k,p,rfl⟩
 |_=>exact nn h
def GB{x:Expr}{ah:List Expr}(h:Den.zJ x=some ah):∃p,x=.List ah p:=by
 cases x with
 |List z p=>cases h;exact⟨p,rfl⟩
 |_=>exact nn h
def UO{x a b:Expr}{o:Operator}(h:Den.Gx x=some (a,o,b)):∃p,x=.BinOp a o b p:=by
 cases x with
 |BinOp l o r p=>cases h;exact⟨p,rfl⟩
 |_=>exact nn h
def uM{x a:Expr}{o:UnaryOp}(h:Den.rY x=some (o,a)):∃p,x=.UnaryOp o a p:=by
 cases x with
 |UnaryOp o r p=>cases h;exact⟨p,rfl⟩
 |_=>exact nn h
def Gy{x a:Expr}{os:List CmpOp}{ys:List Expr}(h:Den.zI x=some (a,os,ys)):∃p,x=.Compare a os ys p:=by
 cases x with
 |Compare l o r p=>cases h;exact⟨p,rfl⟩
 |_=>exact nn h
def rW{x:Expr}{o:BoolOp}{ah:List Expr}{p:Pos}(h:Den.vBool x=some (o,ah,p)):x=.BoolOp o ah p:=by
 cases x with
 |BoolOp o ah p=>cases h;rfl
 |_=>exact nn h
def zM{x a b:Expr}(h:Den.uL x=some (a,b)):∃p,x=.Subscript a b p:=by
 cases x with
 |Subscript l r p=>cases h;exact⟨p,rfl⟩
 |_=>exact nn h
def GC{x:Expr}{a b c:Option Expr}(h:Den.zL x=some (a,b,c)):∃p,x=.Slice a b c p:=by
 cases x with
 |Slice l r t p=>cases h;exact⟨p,rfl⟩
 |_=>exact nn h
def zH{x f:Expr}{ah:List Expr}{ar:List Keyword}(h:Den.uK x=some (f,ah,ar)):∃p,x=.Call f ah ar p:=by
 cases x with
 |Call l r t p=>cases h;exact⟨p,rfl⟩
 |_=>exact nn h
def iW{x:Expr}{y:Str}{ah:List Expr}(h:Den.iu x=some (y,ah)):∃p q,x=.Call (.Name y p) ah [] q:=by
 unfold Den.iu at h
 split at h
 .rename_i f oV e1;obtain⟨q,rfl⟩:=zH e1
  split at h
  .rename_i z e2;obtain⟨p,rfl⟩:=jC e2;cases h;exact⟨p,q,rfl⟩
  .cases h
 .cases h
def GA{x a:Expr}{g7:List Comprehension}{sc:Scope}(h:Den.Gz x=some (a,g7,sc)):∃p,x=.ListComp a g7 sc p:=by
 cases x with
 |ListComp l r t p=>cases h;exact⟨p,rfl⟩
 |_=>exact nn h
def N3{x:Expr}(h:Den.yp x=true):∃k p q,x=.UnaryOp .USub (.Constant (.int 1) k p) q:=by
 unfold Den.yp at h
 split at h
 .rename_i y e1;obtain⟨q,rfl⟩:=uM e1
  split at h
  .rename_i i e2;obtain⟨k,p,rfl⟩:=rX e2;have:i=1:=by simpa using h
   subst this;exact⟨k,p,q,rfl⟩
  .cases h
 .cases h
def eu{g:Den.Gt}{ct:Den.bR}{v:Bool}{e:Den.E}{x:Expr}(h:Den.bI g ct v e x=true):nice x=true:=by
 cases aw:nice x with
 |true=>rfl
 |false =>
  exfalso;cases x<;>first|(cases aw;done)|skip
  all_goals (cases e<;>exact W5 h)
def mM{e:Expr}{ah:List Expr}{env:Env}(h:nice e=true):starEach (e::ah) env=(false,eval e env)::starEach ah env:=by
 cases e<;>first|rfl|cases h
def gJ{e:Expr}{env:Env}(h:nice e=true):starEach [e] env=[(false,eval e env)]:=mM h
def FT{e bj:Expr}{env:Env}(h:nice e=true)(h':nice bj=true):starEach [e,bj] env=[(false,eval e env),(false,eval bj env)]:=by rw[mM h,gJ h']
def QY{ah:List Expr}{env:Env}{pos:Pos}(h:∀e∈ah,nice e=true):(backTo pos (starEach ah env)).any (·.1)=false:=by
 induction ah with
 |nil=>rfl
 |cons e ah aN =>
  rw[mM (h e List.mem_cons_self)];show(false||(backTo pos (starEach ah env)).any (·.1))=false
  rw[aN λz hz=>h z (List.mem_cons_of_mem _ hz)];rfl
def Oj{b:Expr}(h:nice b=true):vk b:=by
 intro o i;cases b<;>first|rfl|cases h
def set_plain{b:Expr}{env:Env}(h:nice b=true):∀x,foldedSetIterable b env x=pure x:=by
 intro x;cases b<;>first|rfl|cases h
def DI{b:Expr}{op:CmpOp}(h:nice b=true):behindInMarks op b=false:=by
 cases b<;>first|rfl|cases h
def zq{e:Expr}{t:Option Expr}{n:Nat}{env:Env}(h:nice e=true)(aj:Den.tQ e=true):swapsWith e t n env=pure false:=by
 cases e<;>first|rfl|(cases aj;done)|(cases h;done)
noncomputable def oB:List Str:=["len","isinstance","int","bool","str","tuple","list","zip","all","any","sorted","set","range"]
structure fp(P:Program)(w:World)(K:W.Frag)(aB:Str->Option Value)(base:Heap)(xp:b5)(k:Nat)(g:Den.Gt)(pg:Den.cI)(Φ:Den.cV):Prop where
 fn:∀(f:Nat)(x:Str),g.fns[f]?=some x->∃bc fd br,aB x=some (.ref bc)/\W.keepIn K (.ref bc)=true/\Binds K fd br []/\jG P w K aB base (iZ P w xp) k bc fd br (oe K (Φ f) br.length)/\∀ds,ds.length≠br.length->Φ f ds=.bad
 blt:∀x:Str,x∈oB->aB x=none
 md:∀(j:Nat)(x:Str)(d:D),g.md[j]?=some x->pg.cs[j]?=some d->∃v u,aB x=some u/\RelV v u/\∀G,Rep K G d v
structure dk(xp:b5)(k:Nat)(g:Den.Gt)(pg:Den.cI)(Φ:Den.cV)(X:aR)(ct:Den.bR):Prop where
 cq:fp X.prog X.w X.K X.aB X.base xp k g pg Φ
 room:fE k X.A
 units:X.A.units+64<cLine
 calm:X.calm=true
 nm:X.N=ct.N
 dB:ct.N.Nodup
 ak:∀i∈ct.ak,i<ct.N.length
 lc:∀x,ct.sc.names.lookup x=some .local->X.env.scope.names.lookup x=some .local
 ni:∀x,(ct.sc.names.lookup x=some .cell\/ct.sc.names.lookup x=some .free)->(X.env.scope.names.lookup x=some .cell\/X.env.scope.names.lookup x=some .free)
 gl:∀x,ct.sc.names.lookup x=some .globalImplicit->X.env.kindOf x=some .globalImplicit
section
variable{xp:b5}{k:Nat}{g:Den.Gt}{pg:Den.cI}{Φ:Den.cV}{X:aR}{ct:Den.bR}
def dk.uO(h:dk xp k g pg Φ X ct){x:Str}(q:Den.ov ct.sc x=true):h9 X.env.scope x:=by
 unfold Den.ov at q;simp only[X7,Xi]at q;rcases q with(q|q)|q
 .exact .inl (h.lc x q)
 .exact .inr (h.ni x (.inl q))
 .exact .inr (h.ni x (.inr q))
def dk.nz(h:dk xp k g pg Φ X ct){x:Str}(q:Den.iF ct.sc x=true):dv X x:=by
 unfold Den.iF at q;exact h.gl x (by simpa using q)
def iR{x:Str}(h:Den.okN x=true):(x==("__debug__":Str))=false/\(x==("__classdict__":Str))=false/\x≠"__name__":=by
 unfold Den.okN at h;simp only[Wi,Xd]at h;exact⟨h.1.1,h.1.2,λz=>by rw[z]at h;exact absurd h.2 (by decide)⟩
theorem dk.blt(h:dk xp k g pg Φ X ct){x:Str}(q:Den.dY g ct.sc x=true)(aw:x∈oB):dv X x/\X.aB x=none:=by
 unfold Den.dY at q;simp only[Wi,Xd]at q;exact⟨h.nz q.1.1.1,h.cq.blt x aw⟩
end
noncomputable def j3(v:Bool):en:=if v then .view else .val
structure Res(xp:b5)(X:aR)(ak:List Nat)(v fr:Bool)(x:Expr)(f:a7->bp D):Prop where
 dx:aQ X x (bf xp X ak (j3 v) f)
 fresh:fr=true->aQ X x (bf xp X ak .fresh f)
 pt:dM X x (gK xp X ak f)
 di:(∃op ah p,x=.BoolOp op ah p)->h8 X x (gK xp X ak f)
section
variable{xp:b5}{X:aR}{ak:List Nat}{v fr:Bool}{x:Expr}{f:a7->bp D}
theorem Res.view(h:Res xp X ak v fr x f):aQ X x (bf xp X ak .view f):=aQ.view h.dx
theorem Res.val(h:Res xp X ak false fr x f):aQ X x (bf xp X ak .val f):=h.dx
def Er(h:aQ X x (bf xp X ak .val f)):aQ X x (bf xp X ak (j3 v) f):=by
 cases v with
 |true=>exact aQ.view h
 |false=>exact h
def Res.n3(h:aQ X x (bf xp X ak .val f))(aW:∀whole,isTrue x X.env whole=(do let v <- whole;standAt x.pos;holding [v] (truthy v)))(ae:∀op ah p,x≠.BoolOp op ah p)(hf:fr=false):Res xp X ak v fr x f :=
 ⟨Er h,λz=>(by rw[hf]at z;cases z),mK (aQ.view h) aW,λ⟨op,ah,p,e⟩=>absurd e (ae op ah p)⟩
def Res.n2(h:aQ X x (bf xp X ak .fresh f))(aW:∀whole,isTrue x X.env whole=(do let v <- whole;standAt x.pos;holding [v] (truthy v)))(ae:∀op ah p,x≠.BoolOp op ah p):Res xp X ak v fr x f :=
 ⟨Er (aQ.val h),λ_=>h,mK (aQ.view h) aW,λ⟨op,ah,p,e⟩=>absurd e (ae op ah p)⟩
def Res.mC(h:∀m,aQ X x (bf xp X ak m f))(aW:dM X x (gK xp X ak f))(ae:∀op ah p,x≠.BoolOp op ah p):Res xp X ak v fr x f :=
 ⟨h _,λ_=>h _,aW,λ⟨op,ah,p,e⟩=>absurd e (ae op ah p)⟩
end
end bD
end
section
namespace bD
open PySem PySem.Spec PyProof.Rows bx
def rn(N xs:List Str):(Den.mask N xs).length=N.length:=by unfold Den.mask;rw[List.length_map]
structure p9(ct:Den.bR)(scope:Scope)(xs:List Str):Prop where
 kind:scope.kind=.function
 mz:∀y∈scope.names,y.2≠.cell
 names:∀y∈scope.names,y.2=.local->scope.names.lookup y.1=some .local
 eN:∀y∈xs,scope.names.lookup y=some .local
 loc:∀y∈scope.names,y.2=.local->y.1∈xs\/y.1=(".0":Str)
 fr:∀y∈scope.names,y.2=.free->ct.sc.names.lookup y.1=some .cell\/ct.sc.names.lookup y.1=some .free
 same:∀p∈(Den.mask ct.N xs).zip ct.N,p.1=p.2\/scope.names.lookup p.1=none
 dB:(Den.mask ct.N xs++xs).Nodup
 dot:(".0":Str)∉Den.mask ct.N xs++xs
section
variable{xp:b5}{k:Nat}{g:Den.Gt}{pg:Den.cI}{Φ:Den.cV}{X:aR}{ct:Den.bR}{scope:Scope}{xs:List Str}
def p9.block(aJ:dk xp k g pg Φ X ct)(b:p9 ct scope xs):oC X scope xs (Den.mask ct.N xs++xs) where
 kind:=b.kind
 mz:=b.mz
 names:=b.names
 loc:=λy h=>b.loc (y,.local) (Xa h) rfl
 eN:=b.eN
 fr:=λy aA e=>aJ.ni y.1 (b.fr y aA e)
 len:=by rw[Wu,rn,aJ.nm]
 old:=λi y hi e ag=>by
  rw[aJ.nm]at hi ⊢;rw[WC (by rw[rn];exact hi)]at e
  have hz:((Den.mask ct.N xs).zip ct.N)[i]?=some (y,ct.N[i]):=by
   rw[List.getElem?_zip_eq_some];exact⟨e,Wr hi⟩
  have hm:=b.same _ (XF hz);have aA:y∈Den.mask ct.N xs:=XF e;rcases hm with hm|hm
  .refine⟨by have hm:y=ct.N[i]:=hm;rw[Wr hi,<- hm],λaf=>?_,λz=>b.dot (WZ _ (z▸aA))⟩
   exact(List.nodup_append.mp b.dB).2.2 y aA y af rfl
  .simp only at hm;rw[hm]at ag;cases ag
 new:=λj=>by
  rw[aJ.nm,Xh (by rw[rn];omega),rn];congr 1;omega
 dB:=b.dB
def p9.ok(aJ:dk xp k g pg Φ X ct)(b:p9 ct scope xs)(s3:Shared)(bw:az)(bk:List Addr)(pins:List (Addr×Obj)):dk xp k g pg Φ (gw X scope (Den.mask ct.N xs++xs) s3 bw bk pins) ⟨Den.mask ct.N xs++xs,scope,ct.ak⟩ where
 cq:=aJ.cq
 room:=aJ.room
 units:=aJ.units
 calm:=aJ.calm
 nm:=rfl
 dB:=b.dB
 ak:=λi hi=>by
  have:=aJ.ak i hi;show i<(Den.mask ct.N xs++xs).length;rw[Wu,rn];omega
 lc:=λx h=>t9 h (by decide)
 ni:=λx h=>by
  rcases h with h|h
  .exact absurd rfl (b.mz _ (Xa h))
  .exact y5 h
 gl:=λx h=>t9 h (by decide)
end
def Il {ct : Den.bR} {sc : Scope} {xs : List Str} (h : Den.qv ct sc xs = true) : p9 ct sc xs := by
  unfold Den.qv at h
  rw [Wi, Wi, Wi, Wi, Wi, Wi, Wi, Wi, Wi] at h
  obtain ⟨⟨⟨⟨⟨⟨⟨⟨⟨aa, h2⟩, h3⟩, h4⟩, _⟩, h5⟩, d0⟩, hs⟩, ea⟩, ht⟩ := h
  exact {
    kind := Yg aa
    mz := fun y aA => by simpa using Wt.mp h2 y aA
    names := fun y aA e => by
      have := Wt.mp h3 y aA
      rw [e] at this
      simpa using this
    eN := fun y aA => by
      have := Wt.mp h4 y aA
      simp only [Wi, Xi] at this
      exact this.1
    loc := fun y aA e => by
      have := Wt.mp h5 y aA
      rw [e] at this
      simpa using this
    fr := fun y aA e => by
      have := Wt.mp d0 y aA
      rw [e] at this
      simpa using this
    same := fun p ax => by
      have := Wt.mp hs p ax
      simpa using this
    dB := Yg ea
    dot := by simpa using ht }
section
variable{xp:b5}{k:Nat}{g:Den.Gt}{pg:Den.cI}{Φ:Den.cV}{X:aR}{ct:Den.bR}{v:Bool}
def Qt{ah:List Expr}:eT X ah (λ_ _ _=>False):=λ_ _ _ _ _ _ _ h=>h.elim
def Sa{ak:List Nat}{m:en}{f:a7->bp D}{up:Den.fG}{c:Nat}{e:Expr}{x t:Str}{p e6 pos:Pos}(nH:dv X x)(hm:X.aB x=none)(aL:bootBuiltins x=some (.builtin "isinstance"))(aC:aQ X e (bf xp X ak .view f))(aw:x≠"__name__")(hu:(x==("__debug__":Str))=false)(bX:starEach [e,.Name t e6] X.env=(false,eval e X.env)::starEach [.Name t e6] X.env):
  aQ X (.Call (.Name x p) [e,.Name t e6] [] pos) (bf xp X ak m λJ=>f J>>=λd=>Den.hU up d (.cls c)>>=λb=>.ok (.av b)):=by
 intro pins s σ H Q I ⟨G,J,ag,hw⟩;refine rD (r:=λ_ _ _=>False) (λ_ _ _ _ _ _ _ _ _ z=>z.elim) nH hm aL (iS aC Qt bX) aw hu bX rfl pins s σ H Q I ?_
 refine⟨G,J,ag,bT (bo.mp hw) (λba k v aI H1 aM aE=>?_) λ_ q=>q⟩
 cases ba<;>first|exact k.elim|exact aE.elim
def RY{ak:List Nat}{fs:a7->bp (List D)}{gL:List D->bp D}{fn:Addr}{fd:FuncData}{br:List Str}{x:Str}{e:Expr}{ah:List Expr}{p pos:Pos}(F:jG X.prog X.w X.K X.aB X.base (iZ X.prog X.w xp) k fn fd br (oe X.K gL br.length))(aZ:fE k X.A)(aT:dv X x)(hm:X.aB x=some (.ref fn))(aq:W.keepIn X.K (.ref fn)=true)(ae:Binds X.K fd br [])(aC:eT X (e::ah) (mO xp X ak fs))(au:∀ds,ds.length≠br.length->gL ds=.bad)(hu:(x==("__debug__":Str))=false)(he:starEach (e::ah) X.env=(false,eval e X.env)::starEach ah X.env)(ej:(backTo pos (starEach ah X.env)).any (·.1)=false):
  aQ X (.Call (.Name x p) (e::ah) [] pos) (bf xp X ak .val λJ=>fs J>>=λds=>gL ds):=by
 intro pins s σ H Q I ⟨G,J,ag,hw⟩;refine Qx (dvs:=[]) (ds:=[]) (E:=A7 xp X) F aZ aT hm aq ae .nil Qw aC hu he ej pins s σ H Q I ?_;have hw:=bo.mp hw;refine⟨G,J,ag,?_⟩;cases q:fs J with
 |ok ds =>
  rw[q]at hw;intro ai aI H1 aM aE;rw[XO]
  by_cases hlen:ds.length=br.length
  .refine⟨by rw[<- aE.length];exact hlen,aI,ds,aM.sub,aE,?_⟩
   refine bT hw (λd k v bV aV bt aX=>k v bV aV (aM.trans bt) aX) λc z aV h2 cQ l8=>?_
   injection l8 with l8 _;have:c=cQ:=by omega
   subst this;exact(z.mono aM.h).mono h2
  .have hw:cY (gL ds) _ _:=hw;rw[au ds hlen]at hw;exact hw.elim
 |exc c=>rw[q]at hw;exact hw
 |bad=>rw[q]at hw;exact hw
end
end bD
end
section
namespace bD
open PySem PySem.Spec PyProof.Rows bx
section
variable{xp:b5}{k:Nat}{g:Den.Gt}{pg:Den.cI}{Φ:Den.cV}
def Ie(o:Den.Op)(x y:D)(c:Nat):Den.eK o x y≠.exc c:=by
 refine DX ?_ c;cases o<;>cases x<;>cases y<;>first|rfl|exact pE rfl rfl
def O0(d:D)(c:Nat):Den.lb d≠.exc c:=by
 intro h;cases d<;>simp only[Den.lb]at h<;>first|(cases h;done)|(split at h<;>cases h)
def Hy(d:D)(c:Nat):(Den.dt d>>=λxs=>Den.kA xs>>=λb=>Den.R.ok (Den.D.av b))≠.exc c:=by
 intro h;have key:∀xs:List D,(Den.kA xs>>=λb=>Den.R.ok (Den.D.av b))≠.exc c:=λxs h=>by
  unfold Den.kA at h;cases q:Den.hK xs<;>rw[q]at h<;>cases h
 cases d with
 |tup xs=>exact key xs h
 |lst xs=>exact key xs h
 |_=>cases h
def HE(d:D)(c:Nat):(Den.dt d>>=λxs=>Den.lT xs>>=λb=>Den.R.ok (Den.D.av b))≠.exc c:=by
 intro h;have key:∀xs:List D,(Den.lT xs>>=λb=>Den.R.ok (Den.D.av b))≠.exc c:=λxs h=>by
  unfold Den.lT at h;cases q:Den.hK xs<;>rw[q]at h<;>cases h
 cases d with
 |tup xs=>exact key xs h
 |lst xs=>exact key xs h
 |_=>cases h
def Tc(d:D)(c:Nat):(Den.dt d>>=λxs=>Den.sorted xs)≠.exc c:=by
 intro h;have key:∀xs:List D,Den.sorted xs≠.exc c:=λxs h=>by
  unfold Den.sorted at h
  split at h<;>cases h
 cases d with
 |tup xs=>exact key xs h
 |lst xs=>exact key xs h
 |_=>cases h
def SH(d:D)(c:Nat):(Den.dt d>>=λxs=>Den.R.ok (Den.D.lst xs))≠.exc c:=by
 intro h;cases d<;>cases h
def SK(d:D)(c:Nat):(Den.dt d>>=λxs=>Den.R.ok (Den.D.tup xs))≠.exc c:=by
 intro h;cases d<;>cases h
def Tt(d:D)(c:Nat):(match d with|.int i=>Den.jy i|_=>Den.R.bad)≠.exc c:=by
 intro h;cases d with
 |int i=>simp only[Den.jy]at h;split at h<;>cases h
 |_=>cases h
def gz{x y:Str}(h:(x==y)=true):x=y:=by simpa using h
def Sm{X:aR}{ct:Den.bR}{ak:List Nat}{m:en}{p:Den.ez}{f:a7->bp D}{e:Expr}{x:Str}{q pos:Pos}(aJ:dk xp k g pg Φ X ct)(ax:Den.rG p=true)(af:x=Den.rF p)(ae:Den.dY g ct.sc x=true)(aC:aQ X e (bf xp X ak .view f))(aw:nice e=true):
  aQ X (.Call (.Name x q) [e] [] pos) (bf xp X ak .fresh λJ=>f J>>=λd=>Den.jw pg.up p d):=by
 cases p with
 |len =>
  subst af;obtain⟨aa,h2⟩:=aJ.blt ae (by decide)
  exact uj (m:=.fresh) O0 f_len aa h2 (by kernel_rfl) aC (by decide) (by decide) (gJ aw)
 |all =>
  subst af;obtain⟨aa,h2⟩:=aJ.blt ae (by decide)
  exact uj (m:=.fresh) Hy (Le aJ.calm) aa h2 (by kernel_rfl) aC (by decide) (by decide) (gJ aw)
 |any =>
  subst af;obtain⟨aa,h2⟩:=aJ.blt ae (by decide)
  exact uj (m:=.fresh) HE (Lf aJ.calm) aa h2 (by kernel_rfl) aC (by decide) (by decide) (gJ aw)
 |sorted =>
  subst af;obtain⟨aa,h2⟩:=aJ.blt ae (by decide)
  exact uj (m:=.fresh) Tc (Ln aJ.calm) aa h2 (by kernel_rfl) aC (by decide) (by decide) (gJ aw)
 |str =>
  subst af;obtain⟨aa,h2⟩:=aJ.blt ae (by decide)
  have e1:(λJ=>f J>>=λd=>Den.jw pg.up .str d)=λJ=>f J>>=λd=>(match d with|.int i=>Den.jy i|_=>Den.R.bad):=by
   funext J;congr 1;funext d;cases d<;>rfl
  rw[e1];exact y9 (m:=.fresh) Tt Lo aa h2 (by kernel_rfl) aC (by decide) (by decide) (gJ aw)
 |inst t=>cases ax
 |ff=>cases ax
def pP{X:aR}{ct:Den.bR}(aJ:dk xp k g pg Φ X ct){o:Den.gM}{op:CmpOp}(h:Den.sA o op=true):c1 X (compareOp op) (gq X.K (Den.df o)):=by
 cases o<;>cases op<;>first|(cases h;done)|skip
 .exact IE aJ.units
 .exact IK aJ.units
 .exact IJ aJ.units
 .exact II
 .exact IG
 .exact IF
 .exact IH aJ.units
 .exact IL aJ.units
def RX{X:aR}{o:Den.Op}{op:Operator}(h:Den.D9 o op=true):c1 X (binaryOp op) (n8 X.K (Den.eK o)):=by
 cases o<;>cases op<;>first|(cases h;done)|skip
 .exact JY
 .exact J2
 .exact J1
 .exact JZ
 .exact J0
def ON{op op':CmpOp}{b c:Expr}(h:nice c=true):lastMarks [op,op'] [b,c]=false:=DI h
def boot_isinstance:bootBuiltins "isinstance"=some (.builtin "isinstance"):=by kernel_rfl
def Ip(t:Den.Ty)(aW:∀c,t≠.cls c):bootBuiltins (Den.tyName t)=some (.type (pX t))/\Den.tyName t≠"__name__"/\(Den.tyName t==("__debug__":Str))=false/\Den.tyName t∈oB:=by
 cases t with
 |cls c=>exact absurd rfl (aW c)
 |int=>exact⟨by kernel_rfl,by decide,by decide,by decide⟩
 |bool=>exact⟨by kernel_rfl,by decide,by decide,by decide⟩
 |str=>exact⟨by kernel_rfl,by decide,by decide,by decide⟩
 |tuple=>exact⟨by kernel_rfl,by decide,by decide,by decide⟩
end
end bD
end
section
namespace bD
open PySem PySem.Spec PyProof.Rows bx
section
variable{xp:b5}{k:Nat}{g:Den.Gt}{pg:Den.cI}{Φ:Den.cV}
variable(xp k g pg Φ) in
structure iw (n:Nat):Prop where
 e:∀(e:Den.E)(x:Expr)(ct:Den.bR)(v:Bool)(X:aR),sizeOf e<n->dk xp k g pg Φ X ct->Den.bI g ct v e x=true->Res xp X ct.ak v (Den.ib e) x (λJ=>Den.ev pg Φ J e)
 a:∀(a:Den.A)(ah:List Expr)(ct:Den.bR)(X:aR),sizeOf a<n->dk xp k g pg Φ X ct->Den.lX g ct a ah=true->eT X ah (mO xp X ct.ak λJ=>Den.hl pg Φ J a)/\(∀e∈ah,nice e=true)/\∀J ds,Den.hl pg Φ J a=.ok ds->ds.length=ah.length
 o:∀(o:Den.O)(x:Option Expr)(ct:Den.bR)(X:aR),sizeOf o<n->dk xp k g pg Φ X ct->Den.qA g ct o x=true->hH X x (pU xp X ct.ak λJ=>Den.ma pg Φ J o)
 i:∀(s:Den.I)(x:Expr)(ct:Den.bR)(v:Bool)(X:aR)(c3:Expr),sizeOf s<n->dk xp k g pg Φ X ct->Den.gg g ct v s x=true->(Den.mE s=true->∃elts j p,c3=.Tuple elts j p)->fB X c3 x (jA xp X ct.ak (j3 v) λJ=>Den.gA pg Φ J s)/\nice x=true
def DK(v:Bool):j3 v=.view\/j3 v=.val:=by cases v<;>simp[j3]
variable{n:Nat}
def HU{ct:Den.bR}{v:Bool}{X:aR}(aJ:dk xp k g pg Φ X ct){i:Nat}{x:Str}{p:Pos}(h:(ct.N[i]?==some x&&Den.ov ct.sc x&&Den.okN x&&(v||!ct.ak.contains i))=true):Res xp X ct.ak v (Den.ib (.var i)) (.Name x p) (λJ=>Den.ev pg Φ J (.var i)):=by
 simp only[Wi,Xi,X7,Xd]at h;obtain⟨⟨⟨aa,h2⟩,h3⟩,h4⟩:=h;obtain⟨dg,fj,kF⟩:=iR h3;have bq:X.N[i]?=some x:=by rw[aJ.nm];exact aa
 have aL:=aJ.uO h2;refine⟨?_,λz=>(by cases z),mK (Fi bq aL dg fj) λ_=>rfl,λ⟨_,_,_,z⟩=>(by cases z)⟩
 cases v with
 |true=>exact Fi bq aL dg fj
 |false =>
  rcases h4 with h4|h4
  .cases h4
  .exact Fj (λz=>by rw[Yt.mpr z]at h4;cases h4) bq aL dg fj
def HM{ct:Den.bR}{v:Bool}{X:aR}(aJ:dk xp k g pg Φ X ct){j:Nat}{x:Str}{p:Pos}(h:(g.md[j]?==some x&&Den.iF ct.sc x&&Den.okN x)=true):Res xp X ct.ak v (Den.ib (.glob j)) (.Name x p) (λJ=>Den.ev pg Φ J (.glob j)):=by
 simp only[Wi,Xi]at h;obtain⟨⟨aa,h2⟩,h3⟩:=h;obtain⟨dg,fj,kF⟩:=iR h3;cases q:pg.cs[j]? with
 |none =>
  have e:∀J,Den.ev pg Φ J (.glob j)=.bad:=λJ=>XQ Den.xg q
  exact Res.mC (λm=>E9 e) (mK (E9 e) λ_=>rfl) λ_ _ _ z=>by cases z
 |some d =>
  obtain⟨w,u,e1,e2,e3⟩:=aJ.cq.md j x d aa q;have e:(λJ=>Den.ev pg Φ J (.glob j))=λ_=>.ok d:=funext λJ=>Den.wI j q
  rw[e];exact Res.n3 (R6 (aJ.nz h2) e1 e2 e3 dg) (λ_=>rfl) (λ_ _ _ z=>by cases z) rfl
def HL(aN:iw xp k g pg Φ n){ct:Den.bR}{v:Bool}{X:aR}(aJ:dk xp k g pg Φ X ct){f:Nat}{a:Den.A}(ag:sizeOf a<n){x:Str}{ah:List Expr}{p pos:Pos}(h:(g.fns[f]?==some x&&Den.iF ct.sc x&&Den.okN x&&!ah.isEmpty&&Den.lX g ct a ah)=true):
  Res xp X ct.ak v (Den.ib (.call f a)) (.Call (.Name x p) ah [] pos) (λJ=>Den.ev pg Φ J (.call f a)):=by
 simp only[Wi,Xi,Xd]at h;obtain⟨⟨⟨⟨aa,h2⟩,h3⟩,h4⟩,h5⟩:=h;obtain⟨dg,fj,kF⟩:=iR h3;obtain⟨p1,p2,p3⟩:=aN.a a ah ct X ag aJ h5;obtain⟨bc,fd,br,e1,e2,e3,e4,e5⟩:=aJ.cq.fn f x aa;cases ah with
 |nil=>cases h4
 |cons e ah =>
  exact Res.n3 (RY e4 aJ.room (aJ.nz h2) e1 e2 e3 p1 e5 dg (mM (p2 e List.mem_cons_self)) (QY λz hz=>p2 z (List.mem_cons_of_mem _ hz))) (λ_=>rfl) (λ_ _ _ z=>by cases z) rfl
def HN(aN:iw xp k g pg Φ n){ct:Den.bR}{v:Bool}{X:aR}(aJ:dk xp k g pg Φ X ct){t:Den.Ty}(aW:∀c,t=.cls c->False){a:Den.E}(ag:sizeOf a<n){x y:Str}{e:Expr}{p e6 pos:Pos}(h:(x==("isinstance":Str)&&Den.dY g ct.sc x&&y==Den.tyName t&&Den.dY g ct.sc y&&Den.bI g ct true a e)=true):
  Res xp X ct.ak v (Den.ib (.prim (.inst t) a)) (.Call (.Name x p) [e,.Name y e6] [] pos) (λJ=>Den.ev pg Φ J (.prim (.inst t) a)):=by
 simp only[Wi]at h;obtain⟨⟨⟨⟨aa,h2⟩,h3⟩,h4⟩,h5⟩:=h;have aa:=gz aa;have h3:=gz h3;subst aa h3;have CQ:∀c,t≠.cls c:=λc z=>aW c z
 obtain⟨cf,dQ,d9,fI⟩:=Ip t CQ;obtain⟨g1,g2⟩:=aJ.blt h2 (by decide)
 obtain⟨g3,fZ⟩:=aJ.blt h4 fI;have r:=aN.e a e ct true X ag aJ h5;have dx:∀m,aQ X (.Call (.Name "isinstance" p) [e,.Name (Den.tyName t) e6] [] pos) (bf xp X ct.ak m λJ=>Den.ev pg Φ J (.prim (.inst t) a)):=λm =>
  R9 (up:=pg.up) CQ g1 g2 boot_isinstance g3 fZ cf r.view (by decide) (by decide) dQ d9 (mM (eu h5))
 exact Res.mC dx (mK (dx _) λ_=>rfl) λ_ _ _ z=>by cases z
def HO(aN:iw xp k g pg Φ n){ct:Den.bR}{v:Bool}{X:aR}(aJ:dk xp k g pg Φ X ct){c:Nat}{a:Den.E}(ag:sizeOf a<n){x t:Str}{e:Expr}{p e6 pos:Pos}(aa:(x==("isinstance":Str))=true)(h2:Den.dY g ct.sc x=true)(h5:Den.bI g ct true a e=true):
  Res xp X ct.ak v (Den.ib (.prim (.inst (.cls c)) a)) (.Call (.Name x p) [e,.Name t e6] [] pos) (λJ=>Den.ev pg Φ J (.prim (.inst (.cls c)) a)):=by
 have aa:=gz aa;subst aa;obtain⟨g1,g2⟩:=aJ.blt h2 (by decide)
 have r:=aN.e a e ct true X ag aJ h5;have dx:∀m,aQ X (.Call (.Name "isinstance" p) [e,.Name t e6] [] pos) (bf xp X ct.ak m λJ=>Den.ev pg Φ J (.prim (.inst (.cls c)) a)):=λm =>
  Sa (up:=pg.up) (c:=c) g1 g2 boot_isinstance r.view (by decide) (by decide) (mM (eu h5))
 exact Res.mC dx (mK (dx _) λ_=>rfl) λ_ _ _ z=>by cases z
def AN{ct:Den.bR}{v:Bool}{a:Den.E}{x:Expr}(h:Den.gg g ct v (.eD a) x=true):∃m p y pos,x=.Call (.Name m p) [y] [] pos/\m="range"/\Den.dY g ct.sc m=true/\Den.bI g ct true a y=true:=by
 rw[Den.gg]at h
 split at h
 .rename_i m y e1;obtain⟨p,pos,rfl⟩:=iW e1;simp only[Wi]at h;exact⟨m,p,y,pos,rfl,gz h.1.1,h.1.2,h.2⟩
 .cases h
def HQ(aN:iw xp k g pg Φ n){ct:Den.bR}{v:Bool}{X:aR}(aJ:dk xp k g pg Φ X ct){s:Den.I}(ag:sizeOf s<=n){x:Str}{e:Expr}{p pos:Pos}(h:(x==("tuple":Str)&&Den.dY g ct.sc x&&Den.uq s&&Den.gg g ct true s e)=true):
  aQ X (.Call (.Name x p) [e] [] pos) (bf xp X ct.ak .val λJ=>Den.ev pg Φ J (.tupI s)):=by
 simp only[Wi]at h;obtain⟨⟨⟨aa,h2⟩,h3⟩,h4⟩:=h;have aa:=gz aa;subst aa;obtain⟨g1,g2⟩:=aJ.blt h2 (by decide)
 cases s with
 |seq a =>
  rw[Den.gg]at h4;have r:=aN.e a e ct true X (by simp at ag;omega) aJ h4
  have e1:(λJ=>Den.ev pg Φ J (.tupI (.seq a)))=λJ=>Den.ev pg Φ J a>>=λd=>Den.dt d>>=λds=>.ok (.tup ds):=funext λJ=>by
   rw[Den.Bl,Den.wH];cases Den.ev pg Φ J a<;>rfl
  rw[e1];exact y9 (m:=.val) SK Lp g1 g2 (by kernel_rfl) r.view (by decide) (by decide) (gJ (eu h4))
 |eD a =>
  obtain⟨m,aD,y,aO,rfl,k1,k2,k3⟩:=AN h4;obtain⟨g3,fZ⟩:=aJ.blt k2 (by rw[k1];decide)
  have r:=aN.e a y ct true X (by simp at ag;omega) aJ k3
  exact Sy aJ.calm k1 rfl g3 fZ g1 g2 r.view (gJ (eu k3))
 |_=>cases h3
def HP(aN:iw xp k g pg Φ n){ct:Den.bR}{v:Bool}{X:aR}(aJ:dk xp k g pg Φ X ct){s:Den.I}(ag:sizeOf s<=n){x:Str}{e:Expr}{p pos:Pos}(h:(x==("list":Str)&&Den.dY g ct.sc x&&Den.uq s&&Den.gg g ct true s e)=true):
  aQ X (.Call (.Name x p) [e] [] pos) (bf xp X ct.ak .fresh λJ=>Den.ev pg Φ J (.iO s)):=by
 simp only[Wi]at h;obtain⟨⟨⟨aa,h2⟩,h3⟩,h4⟩:=h;have aa:=gz aa;subst aa;obtain⟨g1,g2⟩:=aJ.blt h2 (by decide)
 cases s with
 |seq a =>
  rw[Den.gg]at h4;have r:=aN.e a e ct true X (by simp at ag;omega) aJ h4
  have e1:(λJ=>Den.ev pg Φ J (.iO (.seq a)))=λJ=>Den.ev pg Φ J a>>=λd=>Den.dt d>>=λds=>.ok (.lst ds):=funext λJ=>by
   rw[Den.Bk,Den.wH];cases Den.ev pg Φ J a<;>rfl
  rw[e1];exact y9 (m:=.fresh) SH f_list g1 g2 (by kernel_rfl) r.view (by decide) (by decide) (gJ (eu h4))
 |eD a =>
  obtain⟨m,aD,y,aO,rfl,k1,k2,k3⟩:=AN h4;obtain⟨g3,fZ⟩:=aJ.blt k2 (by rw[k1];decide)
  have r:=aN.e a y ct true X (by simp at ag;omega) aJ k3
  exact Sg aJ.calm k1 rfl g3 fZ g1 g2 r.view (gJ (eu k3))
 |_=>cases h3
def Al(aN:iw xp k g pg Φ n){ct:Den.bR}{X:aR}(aJ:dk xp k g pg Φ X ct){e:Den.E}{j:Nat}{s:Den.I}{c:Den.O}(ag:sizeOf e<n/\sizeOf s<n/\sizeOf c<n){x t it:Expr}{ifs:List Expr}{sc:Scope}{pos:Pos}{xs:List Str}(aq:Den.eN j t=some xs)(h:((!Den.mE s||j==2)&&Den.qv ct sc xs&&Den.gg g ct true s it&&Den.bI g ⟨Den.mask ct.N xs++xs,sc,ct.ak⟩ false e x&&Den.nj g ⟨Den.mask ct.N xs++xs,sc,ct.ak⟩ c ifs)=true):
  oC X sc xs (Den.mask ct.N xs++xs)/\(∀z,foldedSetIterable it X.env z=pure z)/\fB X t it (jA xp X ct.ak .view λJ=>Den.gA pg Φ J s)/\(∀s3 bw bk pins,aQ (gw X sc (Den.mask ct.N xs++xs) s3 bw bk pins) x (bf xp (gw X sc (Den.mask ct.N xs++xs) s3 bw bk pins) ct.ak .val λJ=>Den.ev pg Φ J e)) /\
   qn xp X ct.ak sc (Den.mask ct.N xs++xs) ifs (λJ=>Den.kN pg Φ J c)/\(λJ=>Den.ev pg Φ J (.comp e j s c))=λJ=>Den.gA pg Φ J s>>=λds=>Den.lj (Den.cJ (iC j (λJ=>Den.kN pg Φ J c) (λJ=>Den.ev pg Φ J e) J) ds)>>=λys=>.ok (.lst ys):=by
 simp only[Wi]at h;obtain⟨⟨⟨⟨h0,aa⟩,o5⟩,sX⟩,hq⟩:=h;have B:=Il aa;have x4:Den.mE s=true->∃elts j p,t=.Tuple elts j p:=λax=>by
  rw[ax]at h0;have aG:j=2:=by simpa using h0
  subst aG;cases t with
  |Tuple elts j p=>exact⟨elts,j,p,rfl⟩
  |_=>simp only[Den.eN]at aq;cases aq
 obtain⟨dI,es⟩:=aN.i s it ct true X t ag.2.1 aJ o5 x4;refine⟨B.block aJ,set_plain es,dI,λs3 bw bk pins=>(aN.e e x _ false _ ag.1 (B.ok aJ s3 bw bk pins) sX).dx,?_,rfl⟩
 cases c with
 |none =>
  cases ifs with
  |nil=>exact .inl ⟨rfl,rfl⟩
  |cons _ _=>unfold Den.nj at hq;cases hq
 |some e2 =>
  match ifs,hq with
  |[],hq=>unfold Den.nj at hq;cases hq
  |[bt],hq =>
   refine .inr ⟨bt,λJ=>Den.ev pg Φ J e2,rfl,rfl,λs3 bw bk pins=>?_⟩
   have hq:Den.bI g ⟨Den.mask ct.N xs++xs,sc,ct.ak⟩ true e2 bt=true:=by unfold Den.nj at hq;exact hq
   exact(aN.e e2 bt _ true _ (by have:=ag.2.2;simp at this;omega) (B.ok aJ s3 bw bk pins) hq).pt
  |_::_::_,hq=>unfold Den.nj at hq;cases hq
end
end bD
end
section
namespace bD
open PySem PySem.Spec PyProof.Rows bx
theorem FV:∀{ss:List Str}{us:List Value},Vals (ss.map V.str) us->∃l:List (Str×Tok),us=strValues l/\l.map (·.1)=ss
 |[],us,h=>by cases h;exact⟨[],rfl,rfl⟩
 |x::ss,us,h=>by
  cases h with
  |cons r h =>
   obtain⟨t,rfl⟩:=r;obtain⟨l,rfl,e⟩:=FV h;exact⟨(x,t)::l,rfl,by rw[WA,e]⟩
theorem EX{K:W.Frag}{G:az}:∀{ds:List D}{ss:List Str}{xs:List V},Den.strsOf ds=some ss->bu K G ds xs->xs=ss.map V.str
 |[],ss,xs,h,r=>by cases h;exact r
 |d::ds,ss,xs,h,⟨v,r,e,aa,h2⟩=>by
  cases d with
  |str x =>
   cases q:Den.strsOf ds with
   |none=>simp[Den.strsOf,q]at h
   |some V8 =>
    simp only[Den.strsOf,q,Option.map_some,Xu]at h;subst h e;rw[WA,<- EX q h2];exact XQ (·::r) aa
  |_=>cases h
section
variable{X:aR}{xp:b5}{ak:List Nat}{f:a7->bp D}{e:Expr}{p4 ap dU:Pos}{x n:Str}{j:Option Str}
noncomputable def rJoin(K:W.Frag):V->List V->az->cG->Prop:=λx ai H Q=>∃sep b ss,x=.str sep/\ai=[.ref b]/\dF K H b (ss.map V.str)/\Den.oi ss+ss.length*sep.length<=Den.SZ/\Q (.str (Str.join sep ss)) H
def Pu:zY X "str.join" (rJoin X.K):=by
 intro pins s σ H x ai v us Q I bb bL h;obtain⟨sep,b,ss,rfl,rfl,gh,hz,q⟩:=h;obtain⟨t,rfl⟩:=bb;obtain⟨u,rfl,c5⟩:=bL.one;cases c5;obtain⟨its,r,au,q7⟩:=I.list gh;obtain⟨l,rfl,iL⟩:=FV r;obtain⟨o,n,e1,e2,_,e3⟩:=au;refine SC.join ⟨o,e1,e2,n,e3⟩ iL ?_ λt' k=>⟨.str (Str.join sep ss),H,I.tok _,⟨t',XQ (Value.str · t') (StrLaws.glued_eq_join sep ss)⟩,q⟩
 unfold JoinOk;rw[StrLaws.joinTotal,Xd];unfold Builtin.Str.tooLong sizeLine;have e:(2:Nat) ^ 24=16777216:=by decide
 unfold Den.oi Den.SZ at hz;exact decide_eq_false (by omega)
def Se{AJ:Nat}(aw:n="join")(nI:(ap.endLine==dU.line)=true)(he:aQ X e (bf xp X ak .view f))(bX:starEach [e] X.env=[(false,eval e X.env)]):
  aQ X (.Call (.Attribute (.Constant (.str x) AJ p4) n ap) [e] [] dU) (bf xp X ak .val λJ=>.ok (.str x)>>=λy=>f J>>=λz=>Den.tL .join y z):=by
 subst aw;intro pins s σ H Q I ⟨G,J,cU,hw⟩;refine yO PySem.F.plainAttrs_str PySem.F.slot_str_join PySem.F.type_str_join Pu yR (j9 he bX) rfl (xO bX) nI bX rfl pins s σ H Q I ?_;refine⟨rfl,G,J,cU,bT (bo.mp hw) (λd k v aI H1 aM aE=>?_) λ_ z=>z⟩
 cases d with
 |lst ah =>
  have k:cY (Den.rf x ah) _ _:=k;unfold Den.rf at k;cases q:Den.strsOf ah with
  |none=>rw[q]at k;exact k.elim
  |some ss =>
   rw[q]at k;dsimp only at k
   by_cases hz:Den.oi ss+ss.length*x.length<=Den.SZ
   .rw[if_pos hz]at k;obtain⟨a,xs,rfl,aS,hR⟩:=aE;have:=EX q hR;subst this;exact⟨x,a,ss,rfl,rfl,aS,hz,k _ aI H1 aM rfl⟩
   .rw[if_neg hz]at k;exact k.elim
 |_=>exact k.elim
end
end bD
end
section
namespace bD
open PySem PySem.Spec PyProof.Rows bx
section
variable{xp:b5}{k:Nat}{g:Den.Gt}{pg:Den.cI}{Φ:Den.cV}{n:Nat}
def Dn{ah:List Expr}(h:ah.length<=1000):ah.length<=sizeLine:=by rw[W6];omega
def UT{ct:Den.bR}{x:Str}{t:Den.Ty}{a y e:Expr}(h:Den.uP g ct x t a y=some e):a=e/\∃m p,y=.Name m p/\(x==("isinstance":Str))=true/\Den.dY g ct.sc x=true/\((∀c,t≠.cls c)->(m==Den.tyName t&&Den.dY g ct.sc m)=true):=by
 unfold Den.uP at h
 split at h
 .rename_i m e2;obtain⟨p,rfl⟩:=jC e2
  split at h
  .rename_i aj;cases h;rw[Wi,Wi]at aj;exact⟨rfl,m,p,rfl,aj.1.1,aj.1.2,λaW=>by cases t<;>first|exact aj.2|exact(aW _ rfl).elim⟩
  .cases h
 .cases h
def UU{ct:Den.bR}{x:Str}{a e:Expr}(h:Den.uQ g ct x a=some e):∃y p q,a=.Call (.Name y p) [e] [] q/\(x==("sorted":Str))=true/\Den.dY g ct.sc x=true/\(y==("set":Str))=true/\Den.dY g ct.sc y=true:=by
 unfold Den.uQ at h
 split at h
 .rename_i y b e2;obtain⟨py,p1,rfl⟩:=iW e2
  split at h
  .rename_i aj;cases h;simp only[Wi]at aj;exact⟨y,py,p1,rfl,aj.1.1.1,aj.1.1.2,aj.1.2,aj.2⟩
  .cases h
 .cases h
def rZ{ct:Den.bR}{x:Str}{q:Den.ez}{ah:List Expr}{e:Expr}(h:(match ah with|[e]=>if Den.rG q&&x==Den.rF q&&Den.dY g ct.sc x then some e else none|_=>none)=some e):ah=[e]/\Den.rG q=true/\(x==Den.rF q)=true/\Den.dY g ct.sc x=true:=by
 match ah,h with
 |[a],h =>
  simp only at h
  split at h
  .rename_i aj;cases h;simp only[Wi]at aj;exact⟨rfl,aj.1.1,aj.1.2,aj.2⟩
  .cases h
def HR (aN : iw xp k g pg Φ n) {ct : Den.bR} {v : Bool} {X : aR} (aJ : dk xp k g pg Φ X ct) {pr : Den.ez} {a : Den.E} (ag : sizeOf a < n) {x : Str} {ah : List Expr} {e : Expr} {p pos : Pos} (aL : Den.GH g ct x pr ah = some e) (h : Den.bI g ct true a e = true) :
    Res xp X ct.ak v (Den.ib (.prim pr a)) (.Call (.Name x p) ah [] pos) (fun J => Den.ev pg Φ J (.prim pr a)) := by
  have one : ∀ {q : Den.ez}, ah = [e] /\ Den.rG q = true /\ (x == Den.rF q) = true /\ Den.dY g ct.sc x = true -> Res xp X ct.ak v (Den.ib (.prim q a)) (.Call (.Name x p) ah [] pos) (fun J => Den.ev pg Φ J (.prim q a)) := fun {q} ⟨h0, aa, h2, h3⟩ => by
    subst h0
    have bK := aN.e a e ct true X ag aJ h
    exact Res.n2 (Sm (m := .fresh) aJ aa (gz h2) h3 bK.view (eu h)) (fun _ => rfl) (fun _ _ _ z => by cases z)
  cases pr with
  | inst t =>
    match ah, aL with
    | [bj, y], aL =>
      have aL : Den.uP g ct x t bj y = some e := aL
      obtain ⟨rfl, m, e6, rfl, aa, h2, h3⟩ := UT aL
      by_cases aW : ∃ c, t = .cls c
      · obtain ⟨c, rfl⟩ := aW
        exact HO aN aJ ag aa h2 h
      · refine HN aN aJ (fun c aj => aW ⟨c, aj⟩) ag ?_
        have h3 := h3 fun c aj => aW ⟨c, aj⟩
        rw [Wi] at h3
        simp only [Wi]
        exact ⟨⟨⟨⟨aa, h2⟩, h3.1⟩, h3.2⟩, h⟩
  | ff =>
    match ah, aL with
    | [bj], aL =>
      have aL : Den.uQ g ct x bj = some e := aL
      obtain ⟨y, p1, p2, rfl, aa, h2, h3, h4⟩ := UU aL
      obtain ⟨g1, g2⟩ := aJ.blt h2 (by rw [gz aa]; decide)
      obtain ⟨g3, fZ⟩ := aJ.blt h4 (by rw [gz h3]; decide)
      have bK := aN.e a e ct true X ag aJ h
      exact Res.n2 (Sw aJ.calm aJ.units (gz aa) (gz h3) g1 g2 g3 fZ bK.view (gJ (eu h))) (fun _ => rfl) (fun _ _ _ z => by cases z)
  | len => exact one (rZ aL)
  | all => exact one (rZ aL)
  | any => exact one (rZ aL)
  | sorted => exact one (rZ aL)
  | str => exact one (rZ aL)
def Gw{x o:Expr}{n:Str}{p:Pos}(h:Den.zG x=some (o,n,p)):x=.Attribute o n p:=by
 cases x with
 |Attribute o n p=>cases h;rfl
 |_=>exact nn h
def UQ{z y:Expr}{x n:Str}{ap:Pos}(h:Den.zK z=some (x,n,ap,y)):∃j p dU,z=.Call (.Attribute (.Constant (.str x) j p) n ap) [y] [] dU:=by
 unfold Den.zK at h
 split at h
 .rename_i f uW e1;obtain⟨dU,rfl⟩:=zH e1
  split at h
  .rename_i o cL HF e2;obtain rfl:=Gw e2
   split at h
   .rename_i mT e3;obtain⟨j,p,rfl⟩:=rX e3;cases h;exact⟨j,p,dU,rfl⟩
   .cases h
  .cases h
 .cases h
def O9{o:Den.E}{x:Str}(h:Den.litS o=some x):o=.lit (.str x):=by
 unfold Den.litS at h
 split at h
 .cases h;rfl
 .cases h
def To (aN : iw xp k g pg Φ n) (e : Den.E) (x : Expr) (ct : Den.bR) (v : Bool) (X : aR) (ag : sizeOf e < n + 1) (aJ : dk xp k g pg Φ X ct) (h : Den.bI g ct v e x = true) : Res xp X ct.ak v (Den.ib e) x (fun J => Den.ev pg Φ J e) := by
  cases e with
  | var i =>
    rw [Den.bI] at h
    split at h
    · rename_i y e1
      obtain ⟨p, rfl⟩ := jC e1
      exact HU aJ h
    · cases h
  | lit d =>
    rw [Den.bI] at h
    split at h
    · rename_i c e1
      obtain ⟨j1, p, rfl⟩ := rX e1
      exact Res.mC (fun m => Fc h) (mK (Fc h) fun _ => rfl) fun _ _ _ z => by cases z
    · cases h
  | glob j =>
    rw [Den.bI] at h
    split at h
    · rename_i y e1
      obtain ⟨p, rfl⟩ := jC e1
      exact HM aJ h
    · cases h
  | tup a =>
    rw [Den.bI] at h
    split at h
    · rename_i ah e1
      obtain ⟨j, p, rfl⟩ := UR e1
      simp only [Wi, WH] at h
      obtain ⟨p1, p2, p3⟩ := aN.a a ah ct X (by simp at ag; omega) aJ h.1
      exact Res.n3 (Sx p1 fun J ds q => by rw [p3 J ds q]; exact Dn h.2) (fun _ => rfl) (fun _ _ _ z => by cases z) rfl
    · cases h
  | lst a =>
    rw [Den.bI] at h
    split at h
    · rename_i ah e1
      obtain ⟨p, rfl⟩ := GB e1
      simp only [Wi, WH] at h
      obtain ⟨p1, p2, p3⟩ := aN.a a ah ct X (by simp at ag; omega) aJ h.1
      exact Res.n2 (Sf p1 fun J ds q => by rw [p3 J ds q]; exact Dn h.2) (fun _ => rfl) (fun _ _ _ z => by cases z)
    · cases h
  | bin op a b =>
    rw [Den.bI] at h
    split at h
    · rename_i x o y e1
      obtain ⟨p, rfl⟩ := UO e1
      simp only [Wi] at h
      have bK := aN.e a x ct true X (by simp at ag; omega) aJ h.1.2
      have cT := aN.e b y ct true X (by simp at ag; omega) aJ h.2
      exact Res.n2 (RW (Ie op) (RX h.1.1) bK.view cT.view) (fun _ => rfl) (fun _ _ _ z => by cases z)
    · cases h
  | neg a =>
    rw [Den.bI] at h
    split at h
    · rename_i x e1
      obtain ⟨p, rfl⟩ := uM e1
      have bK := aN.e a x ct true X (by simp at ag; omega) aJ h
      exact Res.mC (fun m => Fd bK.view) (mK (Fd bK.view) fun _ => rfl) fun _ _ _ z => by cases z
    · cases h
  | not a =>
    rw [Den.bI] at h
    split at h
    · rename_i x e1
      obtain ⟨p, rfl⟩ := uM e1
      have bK := aN.e a x ct true X (by simp at ag; omega) aJ h
      exact Res.mC (fun m => Sj bK.view) (Sk bK.pt) fun _ _ _ z => by cases z
    · cases h
  | cmp op a b =>
    rw [Den.bI] at h
    split at h
    · rename_i x o y e1
      obtain ⟨p, rfl⟩ := Gy e1
      simp only [Wi] at h
      have bK := aN.e a x ct true X (by simp at ag; omega) aJ h.1.2
      have cT := aN.e b y ct true X (by simp at ag; omega) aJ h.2
      have hm := DI (op := o) (eu h.2)
      exact Res.mC (fun m => RZ (pP aJ h.1.1) bK.view cT.view hm) (R2 (pP aJ h.1.1) bK.view cT.view hm) fun _ _ _ z => by cases z
    · cases h
  | oS op op' a b c =>
    rw [Den.bI] at h
    split at h
    · rename_i x o bO y z e1
      obtain ⟨p, rfl⟩ := Gy e1
      simp only [Wi] at h
      obtain ⟨⟨⟨⟨aa, h2⟩, h3⟩, h4⟩, h5⟩ := h
      have bK := aN.e a x ct true X (by simp at ag; omega) aJ h3
      have cT := aN.e b y ct true X (by simp at ag; omega) aJ h4
      have rc := aN.e c z ct true X (by simp at ag; omega) aJ h5
      have hm := ON (op := o) (op' := bO) (b := y) (eu h5)
      exact Res.mC (fun m => R0 (pP aJ aa) (pP aJ h2) bK.view cT.view rc.view hm) (R1 (pP aJ aa) (pP aJ h2) bK.view cT.view rc.view hm) fun _ _ _ z => by cases z
    · cases h
  | and a b =>
    rw [Den.bI] at h
    split at h
    · rename_i x y p e1
      obtain rfl := rW e1
      simp only [Wi] at h
      have bK := aN.e a x ct true X (by simp at ag; omega) aJ h.1
      have cT := aN.e b y ct v X (by simp at ag; omega) aJ h.2
      have di := E6 (pos := p) bK.pt (Ri cT.pt)
      exact ⟨E5 bK.view (yQ cT.dx), fun z => (by cases z), di.pt, fun _ => di⟩
    · rename_i x y z r p e1
      obtain rfl := rW e1
      simp only [Wi] at h
      have bK := aN.e a x ct true X (by simp at ag; omega) aJ h.1
      have cT := aN.e b _ ct v X (by simp at ag; omega) aJ h.2
      have di := E6 (pos := p) bK.pt (cT.di ⟨_, _, _, rfl⟩)
      exact ⟨E5 bK.view cT.dx, fun z => (by cases z), di.pt, fun _ => di⟩
    · cases h
  | or a b =>
    rw [Den.bI] at h
    split at h
    · rename_i x y p e1
      obtain rfl := rW e1
      simp only [Wi] at h
      have bK := aN.e a x ct true X (by simp at ag; omega) aJ h.1
      have cT := aN.e b y ct v X (by simp at ag; omega) aJ h.2
      have di := Ff (pos := p) bK.pt (Rk cT.pt)
      exact ⟨Fe bK.view (yQ cT.dx), fun z => (by cases z), di.pt, fun _ => di⟩
    · rename_i x y z r p e1
      obtain rfl := rW e1
      simp only [Wi] at h
      have bK := aN.e a x ct true X (by simp at ag; omega) aJ h.1
      have cT := aN.e b _ ct v X (by simp at ag; omega) aJ h.2
      have di := Ff (pos := p) bK.pt (cT.di ⟨_, _, _, rfl⟩)
      exact ⟨Fe bK.view cT.dx, fun z => (by cases z), di.pt, fun _ => di⟩
    · cases h
  | idx a b =>
    rw [Den.bI] at h
    split at h
    · rename_i x y e1
      obtain ⟨p, rfl⟩ := zM e1
      simp only [Wi] at h
      have bK := aN.e a x ct true X (by simp at ag; omega) aJ h.1
      have cT := aN.e b y ct true X (by simp at ag; omega) aJ h.2
      exact Res.n3 (R7 bK.view cT.view (Oj (eu h.2))) (fun _ => rfl) (fun _ _ _ z => by cases z) rfl
    · cases h
  | slice a lo hi =>
    rw [Den.bI] at h
    split at h
    · rename_i x y e1
      obtain ⟨p, rfl⟩ := zM e1
      split at h
      · rename_i l u e2
        obtain ⟨e6, rfl⟩ := GC e2
        simp only [Wi] at h
        have bK := aN.e a x ct true X (by simp at ag; omega) aJ h.1.1
        have RJ := aN.o lo l ct X (by simp at ag; omega) aJ h.1.2
        have RI := aN.o hi u ct X (by simp at ag; omega) aJ h.2
        exact Res.n2 (Su bK.view RJ RI) (fun _ => rfl) (fun _ _ _ z => by cases z)
      · cases h
    · cases h
  | rev a =>
    rw [Den.bI] at h
    split at h
    · rename_i x y e1
      obtain ⟨p, rfl⟩ := zM e1
      split at h
      · rename_i t e2
        obtain ⟨e6, rfl⟩ := GC e2
        rw [Wi] at h
        obtain ⟨j1, p3, p4, rfl⟩ := N3 h.1
        have bK := aN.e a x ct true X (by simp at ag; omega) aJ h.2
        exact Res.n3 (Sp bK.view) (fun _ => rfl) (fun _ _ _ z => by cases z) rfl
      · cases h
    · cases h
  | call f a =>
    rw [Den.bI] at h
    split at h
    · rename_i x ah e1
      obtain ⟨p, q, rfl⟩ := iW e1
      exact HL aN aJ (by simp at ag; omega) h
    · cases h
  | prim pr a =>
    rw [Den.bI] at h
    split at h
    · rename_i x ah e1
      obtain ⟨p, q, rfl⟩ := iW e1
      split at h
      · rename_i e e2
        exact HR aN aJ (by simp at ag; omega) e2 h
      · cases h
    · cases h
  | rq m o a =>
    rw [Den.bI] at h
    split at h
    · rename_i y nm ap z e1
      obtain ⟨Oq, p1, dU, rfl⟩ := UQ e1
      simp only [Wi, Xi] at h
      cases m; obtain ⟨⟨⟨h2, h3⟩, h4⟩, h5⟩ := h
      obtain rfl := O9 h3
      have bK := aN.e a z ct true X (by simp at ag; omega) aJ h5
      have h4 : ap.endLine = dU.line := h4
      exact Res.n3 (Se h2 (by simpa using h4) bK.view (gJ (eu h5))) (fun _ => rfl) (fun _ _ _ z => by cases z) rfl
    · cases h
  | tupI s =>
    rw [Den.bI] at h
    split at h
    · rename_i x e e1
      obtain ⟨p, q, rfl⟩ := iW e1
      exact Res.n3 (HQ (v := v) aN aJ (by simp at ag; omega) h) (fun _ => rfl) (fun _ _ _ z => by cases z) rfl
    · cases h
  | iO s =>
    rw [Den.bI] at h
    split at h
    · rename_i x e e1
      obtain ⟨p, q, rfl⟩ := iW e1
      exact Res.n2 (HP (v := v) aN aJ (by simp at ag; omega) h) (fun _ => rfl) (fun _ _ _ z => by cases z)
    · cases h
  | comp e j s c =>
    rw [Den.bI] at h
    split at h
    · rename_i x t it ifs sc e1
      obtain ⟨p, rfl⟩ := GA e1
      split at h
      · rename_i xs aq
        obtain ⟨B, dI, es, mn, q8, q9⟩ := Al (pos := p) aN aJ (by simp at ag; omega) aq h
        rw [q9]
        exact Res.n2 (za aJ.calm (by rw [aJ.nm]; exact aJ.ak) B aq dI es mn q8) (fun _ => rfl) (fun _ _ _ z => by cases z)
      · cases h
    · cases h
def Tj (aN : iw xp k g pg Φ n) (a : Den.A) (ah : List Expr) (ct : Den.bR) (X : aR) (ag : sizeOf a < n + 1) (aJ : dk xp k g pg Φ X ct) (h : Den.lX g ct a ah = true) : eT X ah (mO xp X ct.ak fun J => Den.hl pg Φ J a) /\ (∀ e ∈ ah, nice e = true) /\ ∀ J ds, Den.hl pg Φ J a = .ok ds -> ds.length = ah.length := by
  unfold Den.lX at h
  split at h
  · exact ⟨Sh, by simp, fun J ds q => by rw [Den.Bi] at q; cases q; rfl⟩
  · rename_i e a x xs
    simp only [Wi] at h
    have re := aN.e e x ct false X (by simp at ag; omega) aJ h.1
    obtain ⟨p1, p2, p3⟩ := aN.a a xs ct X (by simp at ag; omega) aJ h.2
    refine ⟨R3 re.val p1 (mM (eu h.1)), fun z hz => ?_, fun J ds q => ?_⟩
    · rcases Wo.mp hz with rfl | hz
      · exact eu h.1
      · exact p2 z hz
    · rw [Den.Bh] at q
      cases aD : Den.ev pg Φ J e with
      | ok d =>
        rw [aD] at q
        simp only [Den.R.ip] at q
        cases aO : Den.hl pg Φ J a with
        | ok J6 => rw [aO] at q; cases q; simp [p3 J J6 aO]
        | exc c => rw [aO] at q; cases q
        | bad => rw [aO] at q; cases q
      | exc c => rw [aD] at q; cases q
      | bad => rw [aD] at q; cases q
  · cases h
def Tp(aN:iw xp k g pg Φ n)(o:Den.O)(x:Option Expr)(ct:Den.bR)(X:aR)(ag:sizeOf o<n+1)(aJ:dk xp k g pg Φ X ct)(h:Den.qA g ct o x=true):hH X x (pU xp X ct.ak λJ=>Den.ma pg Φ J o):=by
 unfold Den.qA at h
 split at h
 .exact Si
 .rename_i e x;exact Sl (aN.e e x ct true X (by simp at ag;omega) aJ h).view
 .cases h
def stepI(aN:iw xp k g pg Φ n)(s:Den.I)(x:Expr)(ct:Den.bR)(v:Bool)(X:aR)(c3:Expr)(ag:sizeOf s<n+1)(aJ:dk xp k g pg Φ X ct)(h:Den.gg g ct v s x=true)(ax:Den.mE s=true->∃elts j p,c3=.Tuple elts j p):
  fB X c3 x (jA xp X ct.ak (j3 v) λJ=>Den.gA pg Φ J s)/\nice x=true:=by
 cases s with
 |seq e =>
  rw[Den.gg]at h;exact⟨Sb (DK v) (aN.e e x ct v X (by simp at ag;omega) aJ h).dx,eu h⟩
 |eD a =>
  rw[Den.gg]at h
  split at h
  .rename_i x y e1;obtain⟨EI,p,rfl⟩:=iW e1;simp only[Wi]at h;obtain⟨⟨aa,h2⟩,h3⟩:=h;obtain⟨g1,g2⟩:=aJ.blt h2 (by rw[gz aa];decide)
   have bK:=aN.e a y ct true X (by simp at ag;omega) aJ h3
   exact⟨Sq (gz aa) g1 g2 bK.view (gJ (eu h3)),rfl⟩
  .cases h
 |pO a b =>
  rw[Den.gg]at h
  split at h
  .rename_i x y z e1;obtain⟨EI,p,rfl⟩:=iW e1;simp only[Wi]at h;obtain⟨⟨⟨aa,h2⟩,h3⟩,h4⟩:=h;obtain⟨g1,g2⟩:=aJ.blt h2 (by rw[gz aa];decide)
   have bK:=aN.e a y ct true X (by simp at ag;omega) aJ h3
   have cT:=aN.e b z ct true X (by simp at ag;omega) aJ h4
   exact⟨Sr (gz aa) g1 g2 bK.view cT.view (FT (eu h3) (eu h4)) (gJ (eu h4)),rfl⟩
  .cases h
 |zip a b =>
  rw[Den.gg]at h
  split at h
  .rename_i x y z e1;obtain⟨EI,p,rfl⟩:=iW e1;simp only[Wi]at h;obtain⟨⟨⟨aa,h2⟩,h3⟩,h4⟩:=h;obtain⟨g1,g2⟩:=aJ.blt h2 (by rw[gz aa];decide)
   obtain⟨elts,j,e6,rfl⟩:=ax rfl;have bK:=aN.e a y ct v X (by simp at ag;omega) aJ h3
   have cT:=aN.e b z ct v X (by simp at ag;omega) aJ h4
   exact⟨Sd (DK v) (gz aa) g1 g2 bK.dx cT.dx (FT (eu h3) (eu h4)) (gJ (eu h4)),rfl⟩
  .cases h
theorem nd:∀n,iw xp k g pg Φ n
 |0=>⟨λ_ _ _ _ _ h=>by omega,λ_ _ _ _ h=>by omega,λ_ _ _ _ h=>by omega,λ_ _ _ _ _ _ h=>by omega⟩
 |n+1=>⟨To (nd n),Tj (nd n),Tp (nd n),stepI (nd n)⟩
def n5{e:Den.E}{x:Expr}{ct:Den.bR}{v:Bool}{X:aR}(aJ:dk xp k g pg Φ X ct)(h:Den.bI g ct v e x=true):Res xp X ct.ak v (Den.ib e) x (λJ=>Den.ev pg Φ J e):=(nd (sizeOf e+1)).e e x ct v X (YB _) aJ h
end
end bD
end
section
namespace bD
open PySem PySem.Spec PyProof.Rows bx
def P8{P:Program}{w:World}{H:az}{h:Heap}{a:Addr}{o:e8}(x:fi P w H h a o):∃u,h.get? a=some u:=by
 cases o with
 |lst xs=>obtain⟨_,_,_,_,e⟩:=x;exact⟨_,e⟩
 |tup xs=>obtain⟨_,_,_,o,e,_⟩:=x;exact⟨_,e⟩
 |jL et=>obtain⟨_,_,_,_,o,_,_,e,_⟩:=x;exact⟨_,e⟩
 |jM et=>obtain⟨_,_,_,_,o,_,_,e,_⟩:=x;exact⟨_,e⟩
 |set S n=>obtain⟨o,_,_,_,e,_⟩:=x;exact⟨_,e⟩
 |ins C ba fs=>obtain⟨_,_,_,e,_⟩:=x;exact⟨_,e⟩
 |own y=>exact x
 |uV fs=>obtain⟨_,⟨_,_,_,e,_⟩,_⟩:=x;exact⟨_,e⟩
 |eD lo hi=>obtain⟨_,_,_,e⟩:=x;exact⟨_,e⟩
 |hp bB u=>obtain⟨e,_⟩:=x;exact⟨_,e⟩
 |mQ br=>exact⟨_,x⟩
 |met f y=>exact⟨_,x⟩
 |ext gL=>exact x.2.1
def yJ{P:Program}{w:World}{H:az}{h:Heap}{a:Addr}(x:el P w H h)(e:h.get? a=none):H a=none:=by
 cases q:H a with
 |none=>rfl
 |some o=>obtain⟨u,z⟩:=P8 (x a o q);rw[e]at z;cases z
section
variable{X:aR}{pins:List (Addr×Obj)}{σ:bQ}{H:az}{s:Shared}{h':Heap}{l:List Addr}
def tS{t':Nat}(I:Inv X pins σ H s)(nw:∀a∈l,gy X pins H a)(keep:∀b o,s.heap.get? b=some o->b∉l->b∉fL X.stack->h'.get? b=some o)(slot:∀b o,s.heap.get? b=some o->b∈fL X.stack->∃bl,h'.get? b=some { o with slots:=bl }):Inv X pins σ H { s with heap:=h',toks:=t' }:=by
 have any:∀b o,s.heap.get? b=some o->b∉l->∃bl,h'.get? b=some { o with slots:=bl }:=λb o e n=>by
  by_cases ae:b∈fL X.stack
  .exact slot b o e ae
  .exact⟨o.slots,keep b o e n ae⟩
 have old:∀b o,X.ef.heap.get? b=some o->b∉X.ex->b∉l:=λb o e af ae=>by
  rcases(nw b ae).2.1 with z|z
  .exact af z
  .rw[e]at z;cases z
 have PR:∀b o,X.ef.heap.get? b=some o->b∉X.fs->b∉fL X.stack:=λb o e ae q=>by
  rcases Wo.mp (I.oh b q) with z|z
  .exact absurd (WI (Wl e) I.ok.above) (by rw[z];exact Xz _)
  .exact ae z
 have cellK:∀x c,X.env.cells.lookup x=some c->∀v,s.heap.IsCell c v->h'.IsCell c v:=λx c e v ⟨o,ay,hd⟩=>by
  obtain⟨bl,q⟩:=any c o ay λz=>(nw c z).2.2.2.1 x c e rfl
  exact⟨_,q,hd⟩
 refine⟨I.ok,I.os,I.bare,⟨λb o e n ae af=>?_,λb o e n ae af=>?_,I.base.free,λb o e af=>?_,I.base.iV,I.base.ic,I.base.iU⟩,?_,λx c e=>?_,I.free,I.g5,λp ax=>?_,λa o e=>?_,I.len⟩
 .exact keep b o (I.base.keep b o e n ae af) (old b o e af) (PR b o e ae)
 .obtain⟨bl,e1⟩:=I.base.slot b o e n ae af;obtain⟨zf,e2⟩:=any b _ e1 (old b o e af);exact⟨zf,e2⟩
 .obtain⟨bO,e1⟩:=I.base.there b o e af;obtain⟨bl,e2⟩:=any b bO e1 (old b o e af);exact⟨_,e2⟩
 .obtain⟨m,⟨o,ah,aY,ay,hd,r⟩,au⟩:=I.loc;obtain⟨bl,e⟩:=any _ o ay λz=>(nw _ z).2.2.1 rfl
  refine⟨m,⟨_,ah,aY,e,hd,r⟩,λi x v e1 e2 e3=>?_⟩
  obtain⟨u,r,q⟩:=au i x v e1 e2 e3;refine⟨u,r,?_⟩;rcases q with q|⟨k,c,e,z⟩
  .exact .inl q
  .exact .inr ⟨k,c,e,cellK x c e _ z⟩
 .obtain⟨v,z⟩:=I.cell x c e;exact⟨v,cellK x c e v z⟩
 .obtain⟨e,n,ne,ik,d⟩:=I.pin p ax;exact⟨keep p.1 p.2 e (λz=>(nw _ z).2.2.2.2 p ax rfl) (λz=>(Wo.mp (I.oh _ z)).elim ne ik),n,ne,ik,d⟩
 .refine(I.bU a o e).kd (λb u ae q=>?_) (λ_ q=>q) λ_ _ q=>q
  have er:H b≠none:=by
   rcases ae with z|z
   .rw[z,e];exact λy=>nomatch y
   .rw[z];exact λy=>nomatch y
  exact keep b u q (λz=>er (nw b z).1) λz=>er (I.zp b z)
def O6{l b:Addr}{items ha:Array Value}{n fN:Nat}{il:Obj}(aj:il.cls=.type "list")(hd:il.data=.seq ha fN)(VH:¬(!items.isEmpty&&Builtin.List.listTooLong (items.size+ha.size))=true)(hz:items.size<=sizeLine)(q7:items.size+ha.size<=sizeLine+1):
  Meets (Builtin.«list.extend» ⟨[.ref l,.ref b],[]⟩) λ_ R s=>s.heap.get? l=some { cls:=.type "list",dict:=none,data:=.seq items n,slots:=#[] }/\s.heap.get? b=some il /\
   R (.ok (.ret Value.none)) { s with heap:=s.heap.update l (Obj.mapSeq λx=>x++ha),toks:=s.toks }:=by
 refine .of_wp λprog w A R s h=>?_
 obtain⟨ax,g,d,tk,os⟩:=s;obtain⟨bg,fj,Vl,jx⟩:=il;cases aj;cases hd;obtain⟨e1,e2,h⟩:=h;have f1:=AutoSeq1.idx_int;have f2:=AutoSeq1.sub_list_list;have dm:=AutoSeq1.sub_list_tuple;have f4:=ZM;have eW:=AutoSeq1.sub_tuple_list;have NK:(items++ha).size<=sizeLine+1:=by rw[XY];exact q7
 wp_walk using (Z0 e1 rfl (hz:=hz) (_hz':=NK)),Yh e1,Yh e2
 exact⟨_,rfl,h⟩
noncomputable def Rq(K:W.Frag):V->List V->az->cG->Prop:=λx ai H Q=>∃l b xs zs,x=.ref l/\ai=[.ref b]/\H l=some (.lst xs)/\dF K H b zs/\xs.length+zs.length<=sizeLine/\Q .cM (upd H l (.lst (xs++zs)))
def Pt:zX X "list.extend" (Rq X.K):=by
 intro pins s σ H x ai v us Q I bb bL h;obtain⟨l,b,xs,zs,rfl,rfl,er,gh,hz,q⟩:=h;cases bb;obtain⟨u,rfl,c5⟩:=bL.one;cases c5;obtain⟨z,its,n,r,au,e⟩:=I.DB er;obtain⟨gF,aX,⟨il,fN,e2,bg,_,fj⟩,q7⟩:=I.list gh;have iL:=aX.length;have ft:its.toArray.size+gF.toArray.size<=sizeLine:=by rw[Wv,Wv];omega
 refine call_meets F.slot_list_extend ⟨_,e,rfl⟩ F.entry_list_extend (F.args_list_extend_2 _ _) (O6 bg fj (by rw[PO ft,Xc];exact W5) (by rw[Wv];omega) (by omega)) ⟨e,e2,?_⟩
 refine⟨.cM,_,I.DA (its':=its++gF) er e (by simp) (r.append aX) ?_,rfl,q⟩
 rw[Wu];omega
variable{xp:b5}{ak:List Nat}{f:a7->bp D}{e:Expr}{p1 p4 ap dU:Pos}{i:Nat}{x n:Str}
def R4 (hm : i ∈ ak) (aw : n = "extend") (bq : X.N[i]? = some x) (aL : h9 X.env.scope x) (aa : (x == ("__debug__" : Str)) = false) (h2 : (x == ("__classdict__" : Str)) = false) (nI : (ap.endLine == dU.line) = true) (he : aQ X e (bf xp X ak .val f)) (bX : starEach [e] X.env = [(false, eval e X.env)]) :
    eg X (.Expr (.Call (.Attribute (.Name x p1) n ap) [e] [] dU) p4) (dW xp X ak fun J => Den.lW J[i]? >>= fun _ => f J >>= fun d => Den.sJ J[i]? d >>= fun y => .ok (.b6 (J.set i (some y)))) := by
  subst aw
  intro pins s σ H T I ⟨b1, bG, G, J, ae, hw⟩
  refine yZ (yO ZW PySem.F.slot_list_extend PySem.F.type_list_extend Pt (mF bq aL aa h2) (j9 he bX) rfl (xO bX) nI bX rfl) rfl pins s σ H T I ?_
  obtain ⟨ds, q, hw⟩ := AH (bo.mp hw)
  obtain ⟨a, xs, k1, k2, k3, bY⟩ := ae.cU.lst i ds q hm
  refine ⟨_, k1, .inl ⟨rfl, xs, dF.of k2⟩, ?_⟩
  refine ⟨G, J, ae.cU, bT (bo.mp hw) (fun d k v aI H1 aM aE => ?_) fun _ z => z.mono ae.ext.h⟩
  have jf := ae.step aM
  rw [q] at k
  cases d with
  | lst ah =>
    rw [Den.Bu] at k
    have k := bo.mp k
    by_cases hz : ds.length + ah.length <= Den.SZ
    · rw [if_pos hz] at k
      obtain ⟨b, zs, rfl, aS, hR⟩ := aE
      have qP : H1 a = some (.lst xs) := aM.h _ _ k2
      have xr : aI a = none := aM.new a k3 (by rw [k2]; exact fun z => nomatch z)
      refine ⟨a, b, xs, zs, rfl, rfl, qP, kc aM.sub aS, by rw [<- bY.length, <- hR.length, <- kx]; exact hz, ?_⟩
      exact k σ aI _ (jf.write hm q k1 qP xr ((bY.mono aM.g).append hR))
    · rw [if_neg hz] at k; exact k.elim
  | _ => exact k.elim
end
end bD
end
section
namespace bD
open PySem PySem.Spec PyProof.Rows bx
noncomputable def su:List Value:=[.type "ValueError",.type "Exception",.type "BaseException",.type "object"]
structure oG(aB:Str->Option Value)(base:Heap)(cl:Nat->Option Addr)(c:Nat)(x:Str)(C:Addr):Prop where
 at_:cl c=some C
 aB:aB x=some (.ref C)
 bB:∃(newId:String)(bm:List Value)(N:Addr)(nm q:Str)(bs:List Value)(hdct:Bool)(sn:List Str)(sub:List Value)(ab:Bool)(col:Option Bool)(dd:Option Addr)(k0 k1 k2 k3 k5:Option Value),
  base.get? C=some (excClassObj nm q C N bs bm hdct sn sub ab col dd k0 k1 k2 k3 k5 newId)/\bm.contains (.type "BaseException")=true
structure m7(K:W.Frag)(base:Heap)(cl:Nat->Option Addr)(up:Nat->List Nat)(C:Addr):Prop where
 at_:cl 1=some C
 ou:(up 1).contains 1000=true
 bB:∃(newId oD ra:String)(qw bm:List Value)(N:Addr)(nm q:Str)(bs:List Value)(hdct:Bool)(sn:List Str)(sub:List Value)(ab:Bool)(col:Option Bool)(dd:Option Addr)(k0 k1 k2 k3 k5:Option Value)(mN:Str->Option Value),
  ExcBaseFacts oD newId ra qw/\su.contains (.type oD)=true/\base.get? C=some (excClassObj nm q C N bs bm hdct sn sub ab col dd k0 k1 k2 k3 k5 newId)/\base.Ns N mN/\mN "__init__"=none/\OwnTail base su bm/\dN.Plain K C bm /\
  ∀k D,cl k=some D->(Value.ref C::bm).contains (.ref D)=(up 1).contains k
section
variable{X:aR}{pins:List (Addr×Obj)}{σ:bQ}{H:az}{s:Shared}{h':Heap}{l:List Addr}{cl:Nat->Option Addr}{up:Nat->List Nat}{x n:Str}{C:Addr}{ak:List Nat}{np p jc pos:Pos}
def Sn{t:Str}{j:Nat}(sd:oG X.aB X.base cl 1 x C)(O:m7 X.K X.base cl up C)(aj:X.calm=true)(aT:dv X x)(hd:(x==("__debug__":Str))=false):
  eg X (.Raise (some (.Call (.Name x np) [.Constant (.str t) j p] [] jc)) none pos) (dW (dN.fH cl) X ak λ_=>.exc 1):=by
 intro pins s σ H T I ⟨b1,bG,G,J,ae,hw⟩;obtain⟨newId,oD,ra,qw,bm,N,nm,q,bs,hdct,sn,sub,ab,col,dd,k0,k1,k2,k3,k5,mN,cV,sZ,dr,bq,jU,Tl,_⟩:=O.bB;refine wpAny_Raise_call_subU (C:=C) (nm:=nm) (q:=q) (N:=N) (bs:=bs) (bm:=bm) (hdct:=hdct) (sn:=sn) (sub:=sub) (ab:=ab) (col:=col) (dd:=dd) (k0:=k0) (k1:=k1) (k2:=k2) (k3:=k3) (k5:=k5)
  cV sZ F.excBase_ValueError (mN:=mN) (Tl.hasType rfl) (I.ok.hd aj) rfl jU (rj I aT sd.aB ⟨rfl,?_⟩ hd)
 have aC:=(iS yR n6:eT X [.Constant (.str t) j p] _) jc pins s σ H (λai H1=>ai.length=1/\H1=H) I ⟨rfl,rfl⟩
 refine Calls.evalArgs_plain (bM aC λus s2 ⟨ai,H1,a9,r,e⟩=>⟨rfl,by show us.length<=sizeLine;rw[<- r.length,e.1];decide,a9.gX _ _ dr,bq.keeps a9.gX,Tl.keeps a9.gX,λh' a8 hm=>?_⟩)
 .obtain⟨_,rfl⟩:=e;exact hw pins σ H1 { s2 with heap:=h' } (.ref a8) [a8] (a9.kept (t':=s2.toks) hm.keeps) ae.ext.h (λa aC=>by
   obtain rfl:a=a8:=by simpa using aC
   exact .of a9 hm.new (yJ a9.bU hm.new)) (dN.made O.at_ hm)
noncomputable def TC(j:Nat)(a8:Addr)(v:V):TE:=λσ H Q=>σ[j]?=some (some (.ref a8))/\∀bw,bz H bw->Q v bw
noncomputable def TF(j:Nat)(a8:Addr)(ai:List V):e9:=λσ H Q=>σ[j]?=some (some (.ref a8))/\∀bw,bz H bw->Q ai bw
noncomputable def F3(j:Nat)(a8:Addr)(v:V):gV:=λT σ H=>σ[j]?=some (some (.ref a8))/\∀bw,bz H bw->T.dC v bw
noncomputable def zW(aB:Str->Option Value)(base:Heap)(cl:Nat->Option Addr)(up:Nat->List Nat)(v:V)(b:Bool):Prop:=(v=.ty "ValueError"/\b=true)\/∃k y D,v=.ref D/\oG aB base cl k y D/\b=(up 1).contains k
def IM{a8:Addr}{cn:Obj}(O:m7 X.K X.base cl up C)(ax:(a8,cn)∈X.bS)(c0:cn.cls=.ref C):
  fS X (.builtin "isinstance") (λxs H Q=>∃v b,xs=[.ref a8,v]/\zW X.aB X.base cl up v b/\Q (.av b) H):=by
 intro pins s σ H xs us Q I r ⟨v,b,ex,aL,q⟩;subst ex;obtain⟨u,rU,rfl,c5,uc⟩:=vals2 r;cases c5;have he:=(I.pin (a8,cn) (WZ _ ax)).1;obtain⟨newId,oD,ra,qw,bm,N,nm,cB,bs,hdct,sn,sub,ab,col,dd,k0,k1,k2,k3,k5,mN,cV,sZ,dr,bq,jU,Tl,P,ae⟩:=O.bB;have dr:=I.gX _ _ dr;rcases aL with⟨rfl,rfl⟩|⟨k,y,D,rfl,gT,rfl⟩
 .cases uc;exact dN.Ob he c0 dr (by kernel_rfl) (Tl.hasType rfl) ⟨.av true,H,I,rfl,q⟩
 .cases uc;obtain⟨_,_,_,_,_,_,_,_,_,_,_,_,_,_,_,_,_,d1,_⟩:=gT.bB;have d1:=I.gX _ _ d1;have hm:=ae k D gT.at_;cases e:(up 1).contains k with
  |true =>
   rw[e]at hm q;exact dN.Oa he c0 dr d1 rfl ⟨_,rfl⟩ hm ⟨.av true,H,I,rfl,q⟩
  |false =>
   rw[e]at hm q;exact dN.N9 I.fM P he c0 dr d1 rfl ⟨_,rfl⟩ hm ⟨.av false,H,I.tok _,rfl,q⟩
def Ut{P:Program}{w:World}{A:Around}{bs:List Bool}:TruthOf P w A (λi v=>(bs.map Value.bool).toArray[i]?=some v) λi=>bs.getD i false:=by
 intro i v s Q E aL dh;have aL:(bs.map Value.bool)[i]?=some v:=by simpa using aL
 rw[WJ]at aL;cases q:bs[i]? with
 |none=>rw[q]at aL;cases aL
 |some b =>
  rw[q]at aL;cases aL;refine Xj ?_;have:bs.getD i false=b:=by simp[List.getD,q]
  have dh:Q (bs.getD i false) s:=dh;rw[this]at dh;exact dh
def HD{a8:Addr}{cn:Obj}{ai:Array Value}(ax:(a8,cn)∈X.bS)(kR:X.A.handled=some (.ref a8))(hd:cn.data=.fields ai)(h2:ai[2]?=some .none):
  fS X (.builtin "any") (λxs H Q=>∃(a:Addr)(bs:List Bool),xs=[.ref a]/\dF X.K H a (bs.map V.av)/\Q (.av (bs.any id)) H):=by
 intro pins s σ H xs us Q I r ⟨a,bs,ex,h,q⟩;subst ex;obtain⟨u,rfl,bb⟩:=vals1 r;cases bb;have he:=(I.pin (a8,cn) (WZ _ ax)).1;obtain⟨its,bL,bW,hz⟩:=I.list h;obtain rfl:=uN bL;have au:(bs.map Value.bool).toArray.size=bs.length:=by rw[Wv,List.length_map]
 have ne:a≠s.heap.objs.size:=by obtain⟨o,n,ay,_⟩:=bW;exact WB (Wl ay)
 have b6:a8≠s.heap.objs.size:=WB (Wl he);refine call_any_walk (YV bW.isList ⟨s.heap.objs.size,_,_,_,_,_,λi=>bs.getD i false,rfl,dN.U3 (A:=X.A.in1) kR hd h2 _ a ne b6 (bs.map Value.bool).toArray,⟨⟨⟨_,Wq _ rfl,rfl,rfl⟩,(let ⟨o,ay,r⟩:=bW.isList;⟨o,Wj _ ay,r⟩)⟩,Wj _ he⟩,Ut,λh' tk aq=>?_⟩)
 rw[au,any_range];exact⟨.av _,H,I.kept λb o e=>aq b o (by simp;exact WB (Wl e)) (Wj _ e),rfl,q⟩
variable{g:Den.Gt}{ct:Den.bR}
structure u6(X:aR)(g:Den.Gt)(ct:Den.bR)(cl:Nat->Option Addr):Prop where
 gl:∀x,Den.iF ct.sc x=true->dv X x
 av:∀x,Den.dY g ct.sc x=true->x∈oB->dv X x/\X.aB x=none
 ou:X.aB "ValueError"=none
 own:∀(c:Nat)(x:Str),g.cls[c]?=some x->∃C,oG X.aB X.base cl c x C
def yP{a8:Addr}{cn:Obj}{j k:Nat}{z:Expr}(O:m7 X.K X.base cl up C)(d2:u6 X g ct cl)(ax:(a8,cn)∈X.bS)(c0:cn.cls=.ref C)(aG:X.N[j]?=some n)(aL:h9 X.env.scope n)(mi:Den.okN n=true)(h:Den.qz g ct n k z=true):aQ X z (TC j a8 (.av ((up 1).contains k)))/\nice z=true:=by
 unfold Den.qz at h
 split at h
 .rename_i f e d e1;obtain⟨bk,dU,rfl⟩:=iW e1
  split at h
  .rename_i y t e2 e3;obtain⟨p1,rfl⟩:=jC e2;obtain⟨p2,rfl⟩:=jC e3;simp only[Wi,Xi]at h;obtain⟨⟨⟨⟨rfl,h2⟩,rfl⟩,h4⟩,h5⟩:=h;obtain⟨cf,dQ⟩:=d2.av _ h2 (by decide)
   obtain⟨dg,fj,kF⟩:=iR mi;have k4:∃v,aQ X (.Name t p2) (mP v)/\zW X.aB X.base cl up v ((up 1).contains k):=by
    simp only[Den.tyB,Wi]at h4;obtain⟨⟨g1,g2⟩,g3⟩:=h4;obtain⟨t1,ek,t3⟩:=iR g2
    by_cases eZ:k=1000
    .rw[if_pos eZ]at g3;simp only[Wi,Xi]at g3;obtain⟨rfl,_⟩:=g3;subst eZ;exact⟨.ty "ValueError",Em (d2.gl _ g1) d2.ou (by kernel_rfl) rfl,.inl ⟨rfl,O.ou⟩⟩
    .rw[if_neg eZ]at g3;obtain⟨D,gT⟩:=d2.own k t (by simpa using g3)
     exact⟨.ref D,En (d2.gl _ g1) gT.aB rfl t1,.inr ⟨k,t,D,rfl,gT,rfl⟩⟩
   obtain⟨v,Ng,af⟩:=k4;refine⟨λpins s σ H Q I ⟨aD,aO⟩=>?_,rfl⟩
   refine rD (IM O ax c0) cf dQ boot_isinstance (iS (mF aG aL dg fj) (iS Ng n6)) (by decide) (by decide) rfl rfl pins s σ H Q I ?_
   exact⟨_,aD,v,_,rfl,af,aO H (bz.refl H)⟩
  .cases h
 .cases h
theorem Ei{a8:Addr}{cn:Obj}{j:Nat}(O:m7 X.K X.base cl up C)(d2:u6 X g ct cl)(ax:(a8,cn)∈X.bS)(c0:cn.cls=.ref C)(aG:X.N[j]?=some n)(aL:h9 X.env.scope n)(mi:Den.okN n=true):
  ∀{ar:List Nat}{zs:List Expr},Den.sx g ct n ar zs=true->eT X zs (TF j a8 (ar.map λk=>V.av ((up 1).contains k)))
 |[],[],_=>λpos pins s σ H Q I ⟨aD,aO⟩=>n6 pos pins s σ H Q I (aO H (bz.refl H))
 |[],_::_,h=>by cases h
 |_::_,[],h=>by cases h
 |k::ar,z::zs,h=>by
  simp only[Den.sx,Wi]at h;obtain⟨r,aw⟩:=yP O d2 ax c0 aG aL mi h.1;have aX:=Ei O d2 ax c0 aG aL mi h.2;intro pos pins s σ H Q I ⟨aD,aO⟩;exact iS r aX (mM aw) pos pins s σ H Q I ⟨aD,λbw s3=>⟨aD,λi2 s4=>aO i2 (s3.trans s4)⟩⟩
end
end bD
end
section
namespace bD
open PySem PySem.Spec PyProof.Rows bx
section
variable{X:aR}{pins:List (Addr×Obj)}{σ:bQ}{H:az}{s:Shared}{h':Heap}{l:List Addr}{cl:Nat->Option Addr}{up:Nat->List Nat}{c:Nat}{x n:Str}{C:Addr}{ak:List Nat}{np p jc pos:Pos}
def LD{t':Nat}{m:Str->Option Value}(I:Inv X pins σ H s)(aw:h'.Ns X.env.locals m)(ag:Heap.SameBut X.env.locals s.heap h'):Inv X pins (List.replicate X.N.length none) H { s with heap:=h',toks:=t' }:=by
 have old:∀b o,X.ef.heap.get? b=some o->b≠X.env.locals:=λb o e=>WB (WI (Wl e) I.ok.above)
 have f7:∀b o,b≠X.env.locals->s.heap.get? b=some o->h'.get? b=some o:=λb o nb e=>by rw[ag.2 b nb];exact e
 refine⟨I.ok,I.os,I.bare,⟨λb o e n ae af=>?_,λb o e n ae af=>?_,I.base.free,λb o e af=>?_,I.base.iV,I.base.ic,I.base.iU⟩,⟨m,aw,λi x v e1 e2 e3=>?_⟩,λx c e=>?_,I.free,I.g5,λp ax=>?_,λa o e=>?_,by simp⟩
 .exact f7 b o (old b o e) (I.base.keep b o e n ae af)
 .obtain⟨bl,e1⟩:=I.base.slot b o e n ae af;exact⟨bl,f7 b _ (old b o e) e1⟩
 .obtain⟨bO,e1⟩:=I.base.there b o e af;exact⟨bO,f7 b bO (old b o e) e1⟩
 .rw[Yi]at e2
  split at e2<;>cases e2
 .obtain⟨v,o,ay,hd⟩:=I.cell x c e;exact⟨v,o,f7 c o (I.lZ x c e) ay,hd⟩
 .obtain⟨e,n,ne,ik,d⟩:=I.pin p ax;exact⟨f7 _ _ ne e,n,ne,ik,d⟩
 .refine(I.bU a o e).kd (λb u ae q=>f7 b u (λz=>?_) q) (λ_ q=>q) λ_ _ q=>q
  have hf:=I.free;rw[<- z]at hf;rcases ae with w|w
  .rw[w,e]at hf;cases hf
  .rw[w]at hf;cases hf
noncomputable abbrev k6(X:aR)(e:Value)(bS:List (Addr×Obj)):aR:={ X with A:=X.A.mark (some e),calm:=false,bS:=bS,b8:=λ_ _=>False }
noncomputable abbrev mq(X:aR)(bS:List (Addr×Obj))(E:Value->Shared->Prop):aR:={ X with bS:=bS,b8:=E }
def Uq{e:Value}{bS:List (Addr×Obj)}(I:Inv X pins σ H s)(ax:∀p∈bS,s.heap.get? p.1=some p.2/\H p.1=none/\p.1≠X.env.locals/\p.1∉X.fs/\∀v,p.2.data≠.cell v):Inv (k6 X e bS) [] σ H s :=
 ⟨⟨I.ok.mod,I.ok.kind,I.ok.glob,I.ok.blt,I.ok.above,I.ok.inj,I.ok.has,I.ok.qy,(λz=>nomatch z),I.ok.frames,I.ok.og,I.ok.sI,I.ok.bs,I.ok.ng,I.ok.mA,I.ok.nv,I.ok.iE,I.ok.o3⟩,I.os,I.bare,I.base,I.loc,I.cell,I.free,I.g5,λp q=>ax p (by simpa using q),I.bU,I.len⟩
def D5{e:Value}{bS:List (Addr×Obj)}{br:List (Addr×Obj)}(aJ:X.Ok)(I:Inv (k6 X e bS) br σ H s)(ax:∀p∈X.bS++pins,p∈bS):Inv X pins σ H s :=
 ⟨aJ,I.os,I.bare,I.base,I.loc,I.cell,I.free,I.g5,λp q=>I.pin p (WZ _ (ax p q)),I.bU,I.len⟩
def Ur{bS:List (Addr×Obj)}{E:Value->Shared->Prop}(I:Inv X pins σ H s)(ax:∀p∈bS,p∈X.bS++pins):Inv (mq X bS E) [] σ H s :=
 ⟨⟨I.ok.mod,I.ok.kind,I.ok.glob,I.ok.blt,I.ok.above,I.ok.inj,I.ok.has,I.ok.qy,I.ok.hd,I.ok.frames,I.ok.og,I.ok.sI,I.ok.bs,I.ok.ng,I.ok.mA,I.ok.nv,I.ok.iE,I.ok.o3⟩,I.os,I.bare,I.base,I.loc,I.cell,I.free,I.g5,λp q=>I.pin p (ax p (by simpa using q)),I.bU,I.len⟩
def rB{bS br:List (Addr×Obj)}{E:Value->Shared->Prop}(aJ:X.Ok)(I:Inv (mq X bS E) br σ H s)(ax:∀p∈X.bS++pins,p∈bS):Inv X pins σ H s :=
 ⟨aJ,I.os,I.bare,I.base,I.loc,I.cell,I.free,I.g5,λp q=>I.pin p (WZ _ (ax p q)),I.bU,I.len⟩
def gy.tR{a:Addr}(I:Inv X pins σ H s)(h:gy X pins H a):a∉X.fs:=λae=>by
 rcases h.2.1 with z|z
 .exact I.ok.nv a z ae
 .obtain⟨_,o,ay,_⟩:=I.ok.iE.mem ae;rw[z]at ay;cases ay
def gy.D0{a:Addr}(I:Inv X pins σ H s)(h:gy X pins H a):a∉fL X.stack:=λae=>by
 rcases Wo.mp (I.oh a ae) with z|z
 .exact h.2.2.1 z
 .exact gy.tR I h z
noncomputable def u7(X:aR)(cl:Nat->Option Addr)(ag:List ExceptHandler)(bv:Bool):Prop:=∀(pins:List (Addr×Obj))(s:Shared)(σ:bQ)(H:az)(T:Ends)(ev:Value)(l:List Addr),Inv X pins σ H s->(∀a∈l,gy X pins H a)->dN.fH cl 1 ev l s.heap->(∀bw,bz H bw->T.dC (.av bv) bw) ->
 wpAny (model X.prog X.w) X.A (handleBy ev X.env ag) (oI X pins T) X.b8 s
def t4{a8:Addr}{cn:Obj}{ai:Array Value}(I:Inv X pins σ H s)(yD:gy X pins H a8)(hd:cn.data=.fields ai)(he:s.heap.get? a8=some cn):Inv (k6 X (.ref a8) (X.bS++pins++[(a8,cn)])) [] σ H s:=Uq I λp ax=>by
 rcases WT.mp ax with ax|ax
 .exact I.pin p ax
 .obtain rfl:p=(a8,cn):=by simpa using ax
  exact⟨he,yD.1,yD.2.2.1,gy.tR I yD,λv=>by show cn.data≠_;rw[hd];exact λz=>nomatch z⟩
section
variable{k:Nat}{D:Addr}{i9:Stmt}{st:List Stmt}{ax:Pos}{bv:Bool}(O:m7 X.K X.base cl up C)(gT:oG X.aB X.base cl k x D)(aq:(up 1).contains k=true)(iK:dv X x)(xK:(x==("__debug__":Str))=false)
include O gT aq iK xK
def Mk(nB:∀(a8:Addr)(bS:List (Addr×Obj)),fC (k6 X (.ref a8) bS) (i9::st) λT σ H=>∀bw,bz H bw->T.dC (.av bv) bw):u7 X cl [.ExceptHandler (some (.Name x np)) none (i9::st) ax] bv:=by
 intro pins s σ H T ev l I nw af fin;have tm:=af;obtain⟨a8,qa,cn,ai,rfl,aj,he,c0,hd,h2,aZ⟩:=af;have iJ:a8∈l:=by rcases aZ with⟨rfl,_⟩|⟨T,_,_,rfl,_⟩<;>simp
 obtain rfl:qa=C:=WU (aj.symm.trans O.at_);obtain⟨newId,oD,ra,qw,bm,N,nm,q,bs,hdct,sn,sub,ab,col,dd,k0,k1,k2,k3,k5,mN,cV,sZ,dr,Md,jU,Tl,_,ae⟩:=O.bB;obtain⟨_,_,_,_,_,_,_,_,_,_,_,_,_,_,_,_,_,d1,gh⟩:=gT.bB;refine wpAny_handleBy_cons (codeAny_handlers_test (rj (X:=k6 X (.ref a8) (X.bS++pins++[(a8,cn)])) (t4 I (nw a8 iJ) hd he) iK gT.aB ?_ xK)) (by intro q;cases q)
 obtain⟨bJ,xi,wx,tk,os⟩:=s;refine dN.DJ (I.gX _ _ dr) (I.gX _ _ d1) he c0 gh ((ae k D gT.at_).trans aq) (codeAny_handlers_suite (dN.BE tm λaa l1 kW g9=>?_))
 have eG:Inv X pins σ H { heap:=aa,gens:=xi,drawn:=wx,toks:=tk,os:=os }:=tS (t':=tk) I (l:=l1) (λa aC=>nw a (kW a aC).1) (λb o q ae _=>g9 b o q ae) λb o q ae=>⟨o.slots,g9 b o q λz=>gy.D0 I (nw b (kW b z).1) ae⟩
 refine Xy (nB a8 _ [] _ σ H { b6:=λ_ _=>False,dC:=λv bw=>v=.av bv/\bz H bw } (t4 eG (nw a8 iJ) hd (g9 a8 cn he λz=>(kW a8 z).2 rfl)) λbw z=>⟨rfl,z⟩) (λf mJ q=>?_) λ_ _ z=>z.elim
 cases f with
 |ret u =>
  obtain⟨v,oz,gN,lK,n7,rfl,zh⟩:=q;exact⟨.av bv,oz,gN,D5 I.ok lK (λp ax=>WZ _ ax),n7,fin gN zh⟩
 |next=>obtain⟨_,_,_,z⟩:=q;exact z.elim
 |brk=>obtain⟨_,_,_,z⟩:=q;exact z.elim
 |cont=>obtain⟨_,_,_,z⟩:=q;exact z.elim
def Mj{j:Nat}(bq:X.N.Nodup)(aG:X.N[j]?=some n)(aw:X.env.scope.names.lookup n=some .local)(nB:∀(a8:Addr)(cn:Obj)(ai:Array Value)(bS:List (Addr×Obj)),cn.cls=.ref C->cn.data=.fields ai->ai[2]?=some .none->(a8,cn)∈bS->fC (k6 X (.ref a8) bS) (i9::st) (F3 j a8 (.av bv))):u7 X cl [.ExceptHandler (some (.Name x np)) (some n) (i9::st) ax] bv:=by
 intro pins s σ H T ev l I nw af fin;have tm:=af;obtain⟨a8,qa,cn,ai,rfl,aj,he,c0,hd,h2,aZ⟩:=af;have iJ:a8∈l:=by rcases aZ with⟨rfl,_⟩|⟨T,_,_,rfl,_⟩<;>simp
 obtain rfl:qa=C:=WU (aj.symm.trans O.at_);obtain⟨newId,oD,ra,qw,bm,N,nm,q,bs,hdct,sn,sub,ab,col,dd,k0,k1,k2,k3,k5,mN,cV,sZ,dr,Md,jU,Tl,_,ae⟩:=O.bB;obtain⟨_,_,_,_,_,_,_,_,_,_,_,_,_,_,_,_,_,d1,gh⟩:=gT.bB;refine wpAny_handleBy_cons (codeAny_handlers_test (rj (X:=k6 X (.ref a8) (X.bS++pins++[(a8,cn)])) (t4 I (nw a8 iJ) hd he) iK gT.aB ?_ xK)) (by intro q;cases q)
 obtain⟨bJ,xi,wx,tk,os⟩:=s;refine dN.DJ (I.gX _ _ dr) (I.gX _ _ d1) he c0 gh ((ae k D gT.at_).trans aq) (codeAny_handlers_suite_as (dN.BE tm λaa l1 kW g9=>?_))
 have eG:Inv X pins σ H { heap:=aa,gens:=xi,drawn:=wx,toks:=tk,os:=os }:=tS (t':=tk) I (l:=l1) (λa aC=>nw a (kW a aC).1) (λb o q ae _=>g9 b o q ae) λb o q ae=>⟨o.slots,g9 b o q λz=>gy.D0 I (nw b (kW b z).1) ae⟩
 refine uv (X:=k6 X (.ref a8) (X.bS++pins++[(a8,cn)])) (t4 eG (nw a8 iJ) hd (g9 a8 cn he λz=>(kW a8 z).2 rfl)) bq aG (.inl aw) (v:=.ref a8) rfl (λs5 hg=>?_) (.inr aw)
 refine Xy (nB a8 cn ai _ c0 hd h2 (by simp) [] s5 _ H { b6:=λ_ _=>False,dC:=λv bw=>v=.av bv/\bz H bw } hg ⟨?_,λbw z=>⟨rfl,z⟩⟩) (λf mJ q=>?_) λ_ _ z=>z.elim
 .have MR:j<σ.length:=by rw[I.len];exact(WE.mp aG).1
  exact pQ MR
 .cases f with
  |ret u =>
   obtain⟨v,oz,gN,lK,n7,rfl,zh⟩:=q;obtain⟨m,M5,_⟩:=id lK.loc;refine wpAny_nameGoes (env:=X.env) (m:=m) aw M5 (by rw[I.ok.kind];rfl) λhs VZ M6 Nq=>?_
   exact⟨.av bv,_,gN,LD (D5 I.ok lK λp ax=>WZ _ ax) M6 Nq,n7,fin gN zh⟩
  |next=>obtain⟨_,_,_,z⟩:=q;exact z.elim
  |brk=>obtain⟨_,_,_,z⟩:=q;exact z.elim
  |cont=>obtain⟨_,_,_,z⟩:=q;exact z.elim
end
def Fh {pg : Den.cI} {Φ : Den.cV} {e : Den.E} {k0 : Nat} {bJ : Option Den.aV} {a : Stmt} {h0 : ExceptHandler} {bv : Bool} (bX : X.stack = X.env :: X.outer /\ X.env.frame = some X.env.locals)
    (xD : ∀ (bS : List (Addr × Obj)) (E : Value -> Shared -> Prop), eg (mq X bS E) a (dW (dN.fH cl) (mq X bS E) ak fun J => Den.ex pg Φ J (.expr e)))
    (yb : Den.jd pg 1 k0 bJ = .ok (.dC (.av bv))) (jn : ∀ c, c ≠ 1 -> Den.jd pg c k0 bJ = .bad) (er : u7 X cl [h0] bv) :
    eg X (.Try [a] [h0] [] [] pos) (dW (dN.fH cl) X ak fun J => Den.ex pg Φ J (.mR e k0 bJ)) := by
  intro pins s σ H T I ⟨b1, bG, G, J, ae, hw⟩
  refine wpAny_Try_except ?_
  have go : ∀ (aI H1 : az) (r3 : Value -> Shared -> Prop), dP X.K ak aI H1 G H J σ -> cY (Den.ex pg Φ J (.expr e)) (sP X.K ak aI H1 T) (fun c => gU (dN.fH cl) (mq X (X.bS ++ pins) r3) c H1) ->
      wpAny (model X.prog X.w) X.A (execs [a] X.env) (fun f s1 => match f with | .next => wpAny (model X.prog X.w) X.A (execs [] X.env) (oI X pins T) X.b8 s1 | f => oI X pins T f s1) r3 s := fun aI H1 r3 jf ND => by
    refine Xy (y1 (xD (X.bS ++ pins) r3) [] s σ H T (Ur I fun _ z => z) ⟨aI, H1, G, J, jf, ND⟩) (fun f s1 q => ?_) fun _ _ q => q
    cases f with
    | next => obtain ⟨cF, ao, dX, q⟩ := q; exact Zf ⟨cF, ao, rB I.ok dX fun _ z => z, q⟩
    | ret u => obtain ⟨v, cF, ao, dX, r, q⟩ := q; exact ⟨v, cF, ao, rB I.ok dX fun _ z => z, r, q⟩
    | brk => obtain ⟨cF, ao, dX, q⟩ := q; exact ⟨cF, ao, rB I.ok dX fun _ z => z, q⟩
    | cont => obtain ⟨cF, ao, dX, q⟩ := q; exact ⟨cF, ao, rB I.ok dX fun _ z => z, q⟩
  dsimp only at hw
  rw [Den.Br] at hw
  cases q : Den.ex pg Φ J (.expr e) with
  | ok r =>
    rw [q, Den.Gj] at hw
    exact go b1 bG _ ae (by rw [q]; exact hw)
  | bad => rw [q] at hw; exact hw.elim
  | exc c =>
    rw [q, Den.Gi] at hw
    by_cases Cx : c = 1
    · subst Cx
      rw [yb] at hw
      have me : bz b1 (hb b1 bG) := fun b o e => px e
      have Mc : bz bG (hb b1 bG) := fun b o e => by
        cases z : b1 b with
        | none => rw [jZ z]; exact e
        | some bO =>
          have e1 := ae.ext.sub b bO (ae.ext.g b bO z)
          rw [ae.ext.h b o e] at e1
          cases e1
          exact px z
      have iH : dP X.K ak b1 (hb b1 bG) G H J σ := by
        refine ⟨ae.cU, ⟨ae.ext.g, fun b o e => ?_, ae.ext.sub, fun b c6 cO => ?_⟩, fun ck ds b c6 cO dK => ?_⟩
        · cases z : b1 b with
          | none => rw [jZ z] at e; exact ae.ext.h b o e
          | some bO => rw [px z] at e; cases e; exact ae.ext.sub b _ (ae.ext.g b _ z)
        · rw [jZ c6] at cO; exact ae.ext.new b c6 cO
        · obtain ⟨i8, xs, k1, k2, k3, bY⟩ := ae.cU.lst ck ds c6 cO
          rw [k1] at dK
          cases dK
          rw [jZ (ae.ext.g.free k3)]
          exact ae.own ck ds _ c6 cO k1
      refine go b1 (hb b1 bG) _ iH ?_
      rw [q]
      intro yT cF ao s' ev l a9 cU nw af
      have dX : Inv X pins cF ao s' := rB I.ok a9 fun _ z => z
      have D4 : ∀ a ∈ l, gy X pins ao a := fun a aC => ⟨(nw a aC).1, (nw a aC).2.1, (nw a aC).2.2.1, (nw a aC).2.2.2.1, fun p ax => (nw a aC).2.2.2.2 p (WZ _ ax)⟩
      have e1 : dN.fr (X.env :: X.outer) = fL X.stack := by rw [bX.1]; rfl
      refine dN.note (base := X.base) (outer := X.outer) (by rw [dX.ok.frames, bX.1]) (by rw [<- bX.1]; exact dX.stack) bX.2 af fun aa l1 tn jl aq pj => ?_
      rw [e1] at aq pj
      have cy : Inv X pins cF ao { s' with heap := aa } := tS (t' := s'.toks) dX D4 aq pj
      have PU : ∀ a ∈ l1, gy X pins ao a := fun a aC => (jl a aC).elim (D4 a) fun z => .of dX z (yJ dX.bU z)
      exact er pins _ cF ao T ev l1 cy PU tn fun bw s3 => hw (.av bv) b1 bw ⟨bz.refl b1, (Mc.trans cU).trans s3, (me.trans cU).trans s3, fun _ z _ => z⟩ rfl
    · rw [jn c Cx] at hw
      exact hw.elim
end
end bD
end
section
namespace bD
open PySem PySem.Spec PyProof.Rows bx
def F0{x:Stmt}{ts:List Expr}{y:Expr}(h:Den.rQ x=some (ts,y)):∃p,x=.Assign ts y p:=by
 cases x with
 |Assign a b p=>cases h;exact⟨p,rfl⟩
 |_=>exact nn h
def zu{x:Stmt}{y:Expr}(h:Den.uz x=some y):∃p,x=.Expr y p:=by
 cases x with
 |Expr a p=>cases h;exact⟨p,rfl⟩
 |_=>exact nn h
def zy{x:Stmt}{y:Option Expr}(h:Den.pV x=some y):∃p,x=.Return y p:=by
 cases x with
 |Return a p=>cases h;exact⟨p,rfl⟩
 |_=>exact nn h
def TH{x:Stmt}{t:Expr}{a b:List Stmt}(h:Den.zv x=some (t,a,b)):∃p,x=.If t a b p:=by
 cases x with
 |If t a b p=>cases h;exact⟨p,rfl⟩
 |_=>exact nn h
def TB{x:Stmt}{t it:Expr}{a b:List Stmt}(h:Den.uA x=some (t,it,a,b)):∃p,x=.For t it a b p:=by
 cases x with
 |For t it a b p=>cases h;exact⟨p,rfl⟩
 |_=>exact nn h
def UN{z y:Expr}{x n:Str}{ap:Pos}(h:Den.zF z=some (x,n,ap,y)):∃p dU,z=.Call (.Attribute (.Name x p) n ap) [y] [] dU:=by
 unfold Den.zF at h
 split at h
 .rename_i f uW e1;obtain⟨dU,rfl⟩:=zH e1
  split at h
  .rename_i o cL HF e2;obtain rfl:=Gw e2
   split at h
   .rename_i mT e3;obtain⟨p,rfl⟩:=jC e3;cases h;exact⟨p,dU,rfl⟩
   .cases h
  .cases h
 .cases h
structure lH(xp:b5)(g:Den.Gt)(pg:Den.cI)(K:W.Frag)(aB:Str->Option Value)(base:Heap):Prop where
 ex:∃cl C,xp=dN.fH cl/\(∀(c:Nat)(x:Str),g.cls[c]?=some x->∃C,oG aB base cl c x C)/\m7 K base cl pg.up C
 lo:∀k,k<2->(pg.up 1).contains k=true
 ou:aB "ValueError"=none
structure m8(xp:b5)(g:Den.Gt)(pg:Den.cI)(X:aR)(ct:Den.bR):Prop where
 cls:lH xp g pg X.K X.aB X.base
 og:X.stack=X.env::X.outer/\X.env.frame=some X.env.locals
 loc:∀x,Den.j2 ct.sc x=true->Loc X.env.scope x
 fn:∀x,X.fn x=true
 pass:PassesOwn (model X.prog X.w) X.A X.env X.b8
section
variable{xp:b5}{k:Nat}{g:Den.Gt}{pg:Den.cI}{Φ:Den.cV}
def I0 {ct : Den.bR} {v : Bool} {e : Den.E} {x : Expr} {g7 : List Comprehension} {sc : Scope} {pos : Pos} (h : Den.bI g ct v e (.ListComp x g7 sc pos) = true) : ∃ bj j s c t it ifs xs, e = .comp bj j s c /\ g7 = [⟨t, it, ifs, 0⟩] /\ Den.eN j t = some xs /\
    ((!Den.mE s || j == 2) && Den.qv ct sc xs && Den.gg g ct true s it && Den.bI g ⟨Den.mask ct.N xs ++ xs, sc, ct.ak⟩ false bj x && Den.nj g ⟨Den.mask ct.N xs ++ xs, sc, ct.ak⟩ c ifs) = true := by
  cases e with
  | comp bj j s c =>
    rw [Den.bI] at h
    split at h
    · rename_i mT t it ifs V7 e1
      obtain ⟨p, e2⟩ := GA e1
      cases e2
      split at h
      · rename_i xs aq
        exact ⟨bj, j, s, c, t, it, ifs, xs, rfl, rfl, aq, h⟩
      · cases h
    · cases h
  | _ => exact (W5 h).elim
def Jp(x:Expr):(∃y g7 sc pos,x=.ListComp y g7 sc pos)\/Den.tQ x=true:=by
 cases x<;>first|exact .inr rfl|exact .inl ⟨_,_,_,_,rfl⟩
def HJ {ct : Den.bR} {X : aR} (aJ : dk xp k g pg Φ X ct) (pd : ∀ x, Den.j2 ct.sc x = true -> Loc X.env.scope x) (nG : ∀ x, X.fn x = true) {i : Nat} {e : Den.E} {x : Str} {y : Expr} {p pos : Pos} (h : (ct.N[i]? == some x && Den.j2 ct.sc x && Den.okN x && (!ct.ak.contains i || Den.ib e) && Den.bI g ct false e y) = true) :
    eg X (.Assign [.Name x p] y pos) (dW xp X ct.ak fun J => Den.ex pg Φ J (.asg i e)) := by
  simp only [Wi, Xi, X7, Xd] at h
  obtain ⟨⟨⟨⟨aa, h2⟩, h3⟩, h4⟩, h5⟩ := h
  have bq : X.N.Nodup := by rw [aJ.nm]; exact aJ.dB
  have hi : X.N[i]? = some x := by rw [aJ.nm]; exact aa
  have af := pd x h2
  have hf : X.fn x = true \/ X.env.scope.names.lookup x = some .local := .inl (nG x)
  rcases Jp y with ⟨z, g7, sc, pos', rfl⟩ | aj
  · obtain ⟨bj, j, s, c, t, it, ifs, xs, rfl, rfl, aq, bJ⟩ := I0 h5
    obtain ⟨B, dI, es, mn, q8, q9⟩ := Al (pos := pos') (nd (xp := xp) (k := k) (pg := pg) (Φ := Φ) (sizeOf (Den.E.comp bj j s c))) aJ (by simp only [Den.E.comp.sizeOf_spec]; omega) aq bJ
    have e1 : (fun J => Den.ex pg Φ J (.asg i (.comp bj j s c))) = fun J => (Den.gA pg Φ J s >>= fun ds => Den.lj (Den.cJ (iC j (fun J => Den.kN pg Φ J c) (fun J => Den.ev pg Φ J bj) J) ds) >>= fun ys => .ok (.lst ys)) >>= fun d => .ok (.b6 (J.set i (some d))) := by
      funext J
      have := congrFun q9 J
      rw [Den.Bp]
      rw [this]
    rw [e1]
    exact RV aJ.calm (by rw [aJ.nm]; exact aJ.ak) B aq dI es mn q8 bq hi af hf
  · have r := n5 aJ h5
    have mm := zq (t := some (.Name x p)) (n := pos.line) (env := X.env) (eu h5) aj
    by_cases hm : i ∈ ct.ak
    · have mf : Den.ib e = true := by
        rcases h4 with h4 | h4
        · rw [Yt.mpr hm] at h4; cases h4
        · exact h4
      exact E8 hm bq hi af (r.fresh mf) mm hf
    · exact E7 hm bq hi af r.val mm hf
def HK{ct:Den.bR}{X:aR}(aJ:dk xp k g pg Φ X ct)(pd:∀x,Den.j2 ct.sc x=true->Loc X.env.scope x)(nG:∀x,X.fn x=true){i:Nat}{e:Den.E}{st:Stmt}(h:Den.v5 g ct i e st=true):
  eg X st (dW xp X ct.ak λJ=>Den.ex pg Φ J (.asg i e)):=by
 unfold Den.v5 at h
 split at h
 .rename_i t y e1;obtain⟨pos,rfl⟩:=F0 e1
  split at h
  .rename_i x e2;obtain⟨p,rfl⟩:=jC e2;exact HJ aJ pd nG h
  .cases h
 .cases h
def Am{ct:Den.bR}{i:Nat}{e:Den.E}{nm:Str}{st:Stmt}(h:Den.sy g ct i e nm st=true):∃x n ap y p1 dU p4,st=.Expr (.Call (.Attribute (.Name x p1) n ap) [y] [] dU) p4/\(ap.endLine==dU.line)=true/\ct.N[i]?=some x/\Den.ov ct.sc x=true/\Den.okN x=true/\i∈ct.ak/\n=nm/\Den.bI g ct false e y=true:=by
 unfold Den.sy at h
 split at h
 .rename_i c e1;obtain⟨pos,rfl⟩:=zu e1
  split at h
  .rename_i x n ap y e2;obtain⟨p1,dU,rfl⟩:=UN e2;simp only[Wi,Xi]at h;obtain⟨⟨⟨⟨⟨⟨h0,aa⟩,h2⟩,h3⟩,h4⟩,h5⟩,d0⟩:=h;have h0:ap.endLine=dU.line:=h0;exact⟨x,n,ap,y,p1,dU,pos,rfl,by simpa using h0,aa,h2,h3,Yt.mp h4,h5,d0⟩
  .cases h
 .cases h
def TR{x:Stmt}{y:Expr}(h:Den.zx x=some y):∃p,x=.Raise (some y) none p:=by
 unfold Den.zx at h
 split at h
 .cases h;exact⟨_,rfl⟩
 .cases h
def TV{x:Stmt}{a:List Stmt}{h:List ExceptHandler}{e f:List Stmt}(q:Den.F5 x=some (a,h,e,f)):∃p,x=.Try a h e f p:=by
 cases x with
 |Try a h e f p=>cases q;exact⟨p,rfl⟩
 |_=>exact nn q
def HS{ct:Den.bR}{X:aR}(aJ:dk xp k g pg Φ X ct)(aS:m8 xp g pg X ct){c:Nat}{st:Stmt}(h:Den.wb g ct c st=true):eg X st (dW xp X ct.ak λJ=>Den.ex pg Φ J (.raise c)):=by
 unfold Den.wb at h
 split at h
 .rename_i y e1;obtain⟨pos,rfl⟩:=TR e1
  split at h
  .rename_i x a e2;obtain⟨np,dU,rfl⟩:=iW e2
   split at h
   .rename_i t e3;obtain⟨j,p,rfl⟩:=rX e3;simp only[Wi,Xi]at h;obtain⟨⟨⟨rfl,aa⟩,h2⟩,h3⟩:=h;obtain⟨cl,C,rfl,c0,O⟩:=aS.cls.ex;obtain⟨qa,sd⟩:=c0 1 x aa;obtain rfl:qa=C:=WU (sd.at_.symm.trans O.at_);exact Sn sd O aJ.calm (aJ.nz h2) (iR h3).1
   .cases h
  .cases h
 .cases h
def L5{st:List Stmt}(h:Den.v8 st=true):∃y ua,st=[.Return (some y) ua]/\∃j p,y=.Constant (.bool true) j p:=by
 unfold Den.v8 at h
 split at h
 .rename_i r
  split at h
  .rename_i y e2;obtain⟨ua,rfl⟩:=zy e2;refine⟨y,ua,rfl,?_⟩;unfold Den.C5 at h
   split at h
   .rename_i b e3;subst h;exact rX e3
   .cases h
  .cases h
 .cases h
def Ra {ct : Den.bR} {X : aR} {cl : Nat -> Option Addr} {up : Nat -> List Nat} {C a8 : Addr} {cn : Obj} {ai : Array Value} {j i k5 j0 : Nat} {n : Str} {ar : List Nat} {t1 ek : Stmt} (O : m7 X.K X.base cl up C) (d2 : u6 X g ct cl) (ax : (a8, cn) ∈ X.bS) (c0 : cn.cls = .ref C) (hd : cn.data = .fields ai) (h2 : ai[2]? = some .none)
    (kR : X.A.handled = some (.ref a8)) (nm : X.N = ct.N) (dB : X.N.Nodup) (lc : ∀ x, ct.sc.names.lookup x = some .local -> X.env.scope.names.lookup x = some .local) (aG : X.N[j]? = some n) (aw : X.env.scope.names.lookup n = some .local) (mi : Den.okN n = true) (h : Den.v9 g ct j i n ar k5 j0 t1 ek = true) :
    i ≠ j /\ i < X.N.length /\ fC X [t1, ek] (F3 j a8 (.av (Den.tj up ar k5 j0))) := by
  unfold Den.v9 at h
  split at h
  · rename_i c3 l e1
    obtain ⟨p1, rfl⟩ := F0 e1
    split at h
    · rename_i x e2
      obtain ⟨p2, rfl⟩ := jC e2
      split at h
      · rename_i zs e3
        obtain ⟨p3, rfl⟩ := GB e3
        split at h
        · rename_i y e4
          obtain ⟨p4, rfl⟩ := zy e4
          split at h
          · rename_i du eO jB sv e5
            obtain rfl := rW e5
            split at h
            · rename_i w ia
              obtain ⟨p5, rfl⟩ := uM ia
              split at h
              · rename_i f c kI
                obtain ⟨Qq, Qr, rfl⟩ := iW kI
                simp only [Wi, Xi, bne_iff_ne, WH] at h
                obtain ⟨⟨⟨⟨⟨⟨⟨⟨⟨⟨aa, nA⟩, h3⟩, h4⟩, h5⟩, d0⟩, hs⟩, rfl⟩, ht⟩, o5⟩, sX⟩ := h
                obtain ⟨Qs, rfl⟩ := jC o5
                have aL : h9 X.env.scope n := .inl aw
                have ye := lc x nA
                rw [<- nm] at aa
                have qW : i < X.N.length := (WE.mp aa).1
                obtain ⟨dg, fj, kF⟩ := iR h3
                obtain ⟨cf, dQ⟩ := d2.av _ ht (by decide)
                have h6 := Ei O d2 ax c0 aG aL mi h5
                obtain ⟨fP, m5⟩ := yP O d2 ax c0 aG aL mi d0
                obtain ⟨n7, VY⟩ := yP O d2 ax c0 aG aL mi hs
                have bK := rD (pos := Qr) (p := Qq) (HD ax kR hd h2) cf dQ (show bootBuiltins "any" = some (.builtin "any") by kernel_rfl) (iS (mF (pos := Qs) aa (.inl ye) dg fj) n6) (by decide) (by decide) rfl rfl
                refine ⟨h4, qW, fun pins s σ H T I ⟨aD, aO⟩ => ?_⟩
                refine EG (y0 dB aa (.inl ye) (Ep h6) rfl (.inr ye)) (y1 (t6 (yN fP (yN n7 (yQ (Es bK)))))) pins s σ H T I ?_
                refine ⟨aD, fun bw s3 => ⟨by rw [List.length_map]; exact Xt sX (by decide), fun p np => ?_⟩⟩
                have NL : i < σ.length := by rw [I.len]; exact qW
                have g2 : (σ.set i (some (V.ref p)))[j]? = some (some (V.ref a8)) := by rw [dZ h4]; exact aD
                have g3 : (σ.set i (some (V.ref p)))[i]? = some (some (V.ref p)) := pQ NL
                have s4 := s3.trans (gs (o := .lst (ar.map fun k => V.av ((up 1).contains k))) np)
                refine ⟨g2, fun i3 s5 => ⟨_, rfl, ?_⟩⟩
                have aS : dF X.K i3 p ((ar.map fun k => (up 1).contains k).map V.av) := dF.of (by rw [List.map_map]; exact s5 _ _ eE)
                unfold Den.tj at aO
                cases jb : (up 1).contains k5 with
                | false =>
                  rw [jb] at aO
                  rw [if_neg (by decide)]
                  exact aO i3 (s4.trans s5)
                | true =>
                  rw [jb] at aO
                  rw [if_pos rfl]
                  refine ⟨g2, fun gN mJ => ⟨_, rfl, ?_⟩⟩
                  cases nh : (up 1).contains j0 with
                  | false =>
                    rw [nh] at aO
                    rw [if_neg (by decide)]
                    exact aO gN ((s4.trans s5).trans mJ)
                  | true =>
                    rw [nh] at aO
                    rw [if_pos rfl]
                    exact ⟨_, g3, p, _, rfl, kc mJ aS, _, rfl, aO gN ((s4.trans s5).trans mJ)⟩
              · cases h
            · cases h
          · cases h
        · cases h
      · cases h
    · cases h
  · cases h
def IY{ct:Den.bR}{cS:Nat}{t:Expr}(h:Den.v7 g ct cS t=true):∃x np,t=.Name x np/\g.cls[cS]?=some x/\Den.iF ct.sc x=true/\Den.okN x=true:=by
 unfold Den.v7 at h
 split at h
 .rename_i x e1;obtain⟨np,rfl⟩:=jC e1;simp only[Wi,Xi]at h;exact⟨x,np,rfl,h.1.1,h.1.2,h.2⟩
 .cases h
def HT {ct : Den.bR} {X : aR} (aJ : dk xp k g pg Φ X ct) (aS : m8 xp g pg X ct) {e : Den.E} {cS : Nat} {bJ : Option Den.aV} {st : Stmt} (h : Den.wc g ct e cS bJ st = true) : eg X st (dW xp X ct.ak fun J => Den.ex pg Φ J (.mR e cS bJ)) := by
  unfold Den.wc at h
  split at h
  · rename_i a hd e3
    obtain ⟨pos, rfl⟩ := TV e3
    split at h
    · rename_i y e4
      obtain ⟨p, rfl⟩ := zu e4
      simp only [Wi, WH] at h
      obtain ⟨⟨⟨aa, h2⟩, h3⟩, h4⟩ := h
      obtain ⟨cl, C, rfl, c0, O⟩ := aS.cls.ex
      have aq := aS.cls.lo cS h3
      have B : ∀ (bS : List (Addr × Obj)) (E : Value -> Shared -> Prop), eg (mq X bS E) (.Expr y p) (dW (dN.fH cl) (mq X bS E) ct.ak fun J => Den.ex pg Φ J (.expr e)) := fun bS E => Fb (n5 (X := mq X bS E) ⟨aJ.cq, aJ.room, aJ.units, aJ.calm, aJ.nm, aJ.dB, aJ.ak, aJ.lc, aJ.ni, aJ.gl⟩ h2).view (zq (eu h2) aa)
      have dB : X.N.Nodup := by rw [aJ.nm]; exact aJ.dB
      have aL : Den.jd pg 1 cS bJ = .ok (.dC (.av (Den.ya pg.up bJ))) := by unfold Den.jd; rw [aq]; rfl
      have jn : ∀ c, c ≠ 1 -> Den.jd pg c cS bJ = .bad := fun c aj => by unfold Den.jd; rw [beq_false_of_ne aj]; rfl
      obtain ⟨t, nm, body, ax⟩ := hd
      unfold Den.AL at h4
      split at h4
      · rename_i t' e5
        have e5 : t = some t' := e5
        subst e5
        simp only [Wi] at h4
        obtain ⟨h5, d0⟩ := h4
        obtain ⟨x, np, rfl, hs, ea, ht⟩ := IY h5
        obtain ⟨D, gT⟩ := c0 cS x hs
        replace d0 : Den.wa g ct bJ nm body = true := d0
        unfold Den.wa at d0
        split at d0
        · simp only [Wi] at d0
          obtain rfl : nm = none := Option.isNone_iff_eq_none.mp d0.1
          obtain ⟨uW, ua, rfl, Oq, pp, rfl⟩ := L5 d0.2
          exact Fh aS.og B aL jn (Mk O gT aq (aJ.nz ea) (iR ht).1 fun a8 bS pins s σ H T I q => y1 (t6 El) pins s σ H T I (q H (bz.refl H)))
        · rename_i h
          split at d0
          · rename_i n
            simp only [Wi, Xi] at d0
            obtain ⟨⟨⟨j7, fN⟩, Py⟩, yC⟩ := d0
            split at yC
            · rename_i t1 ek
              have aw := aJ.lc n fN
              rw [<- aJ.nm] at j7
              exact Fh aS.og B aL jn (Mj O gT aq (aJ.nz ea) (iR ht).1 dB j7 aw fun a8 cn ai bS aD aO bE cb => (Ra (X := k6 X (.ref a8) bS) (g := g) (ct := ct) O ⟨fun x q => aJ.nz q, fun x q hm => aJ.blt q hm, aS.cls.ou, c0⟩ cb aD aO bE rfl aJ.nm dB aJ.lc j7 aw Py yC).2.2)
            · cases yC
          · cases d0
      · cases h4
    · cases h
  · cases h
theorem AM{ct:Den.bR}:∀{ts:List Nat}{xs:List Str},Den.oR ct ts xs=true->ts.length=xs.length/\(∀t∈ts,t∉ct.ak)/\∀(j i:Nat) y,ts[j]?=some i->xs[j]?=some y->ct.N[i]?=some y/\Den.j2 ct.sc y=true
 |[],[],_=>⟨rfl,by simp,λj i y e=>by simp at e⟩
 |[],_::_,h=>by unfold Den.oR at h;cases h
 |_::_,[],h=>by unfold Den.oR at h;cases h
 |t::ts,x::xs,h=>by
  unfold Den.oR at h;simp only[Wi,Xi,Xd]at h;obtain⟨⟨⟨⟨aa,h2⟩,h3⟩,h4⟩,h5⟩:=h;obtain⟨aE,aX,dR⟩:=AM h5;refine⟨by simp[aE],λz hz=>?_,λj i y e1 e2=>?_⟩
  .rcases Wo.mp hz with rfl|hz
   .intro w;rw[Yt.mpr w]at h4;cases h4
   .exact aX z hz
  .cases j with
   |zero=>simp at e1 e2;subst e1 e2;exact⟨aa,h2⟩
   |succ j=>exact dR j i y (by simpa using e1) (by simpa using e2)
variable(xp k g pg Φ) in
structure fg (n:Nat):Prop where
 s:∀(s:Den.S)(st:Stmt)(ct:Den.bR)(X:aR),sizeOf s<n->dk xp k g pg Φ X ct->m8 xp g pg X ct->Den.nk g ct s st=true->eg X st (dW xp X ct.ak λJ=>Den.ex pg Φ J s)
 b:∀(b:Den.B)(st:List Stmt)(ct:Den.bR)(X:aR),sizeOf b<n->dk xp k g pg Φ X ct->m8 xp g pg X ct->Den.jJ g ct b st=true->fC X st (dW xp X ct.ak λJ=>Den.ei pg Φ J b)
variable{n:Nat}
def Tq (aN : fg xp k g pg Φ n) (s : Den.S) (st : Stmt) (ct : Den.bR) (X : aR) (ag : sizeOf s < n + 1) (aJ : dk xp k g pg Φ X ct) (aS : m8 xp g pg X ct) (h : Den.nk g ct s st = true) : eg X st (dW xp X ct.ak fun J => Den.ex pg Φ J s) := by
  cases s with
  | asg i e => exact HK aJ aS.loc aS.fn h
  | app i e =>
    obtain ⟨x, n, ap, y, p1, dU, p4, rfl, aa, h2, h3, h4, h5, d0, hs⟩ := Am (nm := "append") h
    obtain ⟨dg, fj, kF⟩ := iR h4
    exact RU h5 d0 (by rw [aJ.nm]; exact h2) (aJ.uO h3) dg fj aa (n5 aJ hs).val (gJ (eu hs))
  | ext i e =>
    obtain ⟨x, n, ap, y, p1, dU, p4, rfl, aa, h2, h3, h4, h5, d0, hs⟩ := Am (nm := "extend") h
    obtain ⟨dg, fj, kF⟩ := iR h4
    exact R4 h5 d0 (by rw [aJ.nm]; exact h2) (aJ.uO h3) dg fj aa (n5 aJ hs).val (gJ (eu hs))
  | raise c => exact HS aJ aS h
  | mR e cS bJ => exact HT aJ aS h
  | ret e =>
    rw [Den.nk] at h
    split at h
    · rename_i y e1
      obtain ⟨pos, rfl⟩ := zy e1
      rw [X7] at h
      rcases h with h | h
      · exact Fg (n5 aJ h).val
      · split at h
        · rename_i i x p1
          simp only [Wi, Xi] at h
          obtain ⟨dg, fj, kF⟩ := iR h.2
          exact So (by rw [aJ.nm]; exact h.1.1) (aJ.uO h.1.2) dg fj
        · cases h
    · cases h
  | iff c a b =>
    rw [Den.nk] at h
    split at h
    · rename_i t x y e1
      obtain ⟨pos, rfl⟩ := TH e1
      simp only [Wi] at h
      have bK := aN.b a x ct X (by simp at ag; omega) aJ aS h.1.2
      have cT := aN.b b y ct X (by simp at ag; omega) aJ aS h.2
      exact R8 (n5 aJ h.1.1).pt bK cT
    · cases h
  | hM j ts s b =>
    rw [Den.nk] at h
    split at h
    · rename_i t it x e1
      obtain ⟨pos, rfl⟩ := TB e1
      split at h
      · rename_i xs aq
        simp only [Wi] at h
        obtain ⟨⟨⟨⟨h0, aa⟩, _⟩, h3⟩, h4⟩ := h
        obtain ⟨cu, bg, b2⟩ := AM aa
        have bq : X.N.Nodup := by rw [aJ.nm]; exact aJ.dB
        have x4 : Den.mE s = true -> ∃ elts j p, t = .Tuple elts j p := fun ax => by
          rw [ax] at h0
          have aG : j = 2 := by simpa using h0
          subst aG
          cases t with
          | Tuple elts j p => exact ⟨elts, j, p, rfl⟩
          | _ => simp only [Den.eN] at aq; cases aq
        obtain ⟨dI, es⟩ := (nd (xp := xp) (k := k) (g := g) (pg := pg) (Φ := Φ) (sizeOf s + 1)).i s it ct false X t (YB _) aJ h3 x4
        have aT := Ez aJ.calm bq aq cu fun j i y e1 e2 => by
          obtain ⟨c6, cO⟩ := b2 j i y e1 e2
          exact ⟨by rw [aJ.nm]; exact c6, aS.loc y cO, .inl (aS.fn y)⟩
        have cT := aN.b b x ct X (by simp at ag; omega) aJ aS h4
        exact R5 aS.pass aJ.calm bg dI aT cT (set_plain es)
      · cases h
    · cases h
  | expr e =>
    rw [Den.nk] at h
    split at h
    · rename_i y e1
      obtain ⟨pos, rfl⟩ := zu e1
      simp only [Wi] at h
      exact Fb (n5 aJ h.2).view (zq (eu h.2) h.1)
    · cases h
def Tn(aN:fg xp k g pg Φ n)(b:Den.B)(st:List Stmt)(ct:Den.bR)(X:aR)(ag:sizeOf b<n+1)(aJ:dk xp k g pg Φ X ct)(aS:m8 xp g pg X ct)(h:Den.jJ g ct b st=true):fC X st (dW xp X ct.ak λJ=>Den.ei pg Φ J b):=by
 unfold Den.jJ at h
 split at h
 .exact Sv
 .rename_i s b x xs;simp only[Wi]at h;have aE:=aN.s s x ct X (by simp at ag;omega) aJ aS h.1
  have aX:=aN.b b xs ct X (by simp at ag;omega) aJ aS h.2
  exact Ss aE aX
 .cases h
theorem vq:∀n,fg xp k g pg Φ n
 |0=>⟨λ_ _ _ _ h=>by omega,λ_ _ _ _ h=>by omega⟩
 |n+1=>⟨Tq (vq n),Tn (vq n)⟩
def P6{b:Den.B}{st:List Stmt}{ct:Den.bR}{X:aR}(aJ:dk xp k g pg Φ X ct)(aS:m8 xp g pg X ct)(h:Den.jJ g ct b st=true):fC X st (dW xp X ct.ak λJ=>Den.ei pg Φ J b):=(vq (sizeOf b+1)).b b st ct X (YB _) aJ aS h
end
end bD
end
section
namespace bD
open PySem PySem.Spec PyProof.Rows bx
def FR{fd:Den.fz}{ds:List D}{i:Nat}{d:D}(h:(Den.start fd ds)[i]?=some (some d)):ds[i]?=some d/\i<ds.length:=by
 unfold Den.start at h
 by_cases hi:i<ds.length
 .rw[WC (by simpa using hi),WJ]at h
  refine⟨?_,hi⟩;cases e:ds[i]? with
  |none=>rw[e]at h;cases h
  |some a=>rw[e]at h;cases h;rfl
 .rw[Xh (by simpa using hi),Yi]at h
  split at h<;>cases h
def Ti{N:List Str}{ai:List V}{i:Nat}{v:V}(h:ai[i]?=some v):(bx.start N ai)[i]?=some (some v):=by
 have hi:=(WE.mp h).1;unfold bx.start;rw[WC (by simpa using hi),WJ,h];rfl
def S7{K:W.Frag}{ak:List Nat}{G H:az}{fd:Den.fz}{N:List Str}{ds:List D}{ai:List V}(ag:bz G H)(r:bu K G ds ai)(aw:N.length=fd.np+fd.nl)(au:ds.length=fd.np)(hm:∀i∈ak,fd.np<=i):
  dP K ak G H G H (Den.start fd ds) (bx.start N ai):=by
 have no:∀{i:Nat}{d:D},(Den.start fd ds)[i]?=some (some d)->i∈ak->False:=λh q=>by
  have:=(FR h).2;have:=hm _ q;omega
 refine⟨⟨?_,ag,λi d h _=>?_,λi d h q=>(no h q).elim,λi d h q=>(no h q).elim,λi j d e a b h _ q=>(no h q).elim⟩,Ext.refl ag,λi d a h q=>(no h q).elim⟩
 .unfold Den.start bx.start;rw[Wu,Wu,List.length_map,List.length_map,Yp,Yp,<- r.length];omega
 .obtain⟨v,aa,h2⟩:=r.get (FR h).1;exact⟨v,Ti aa,h2⟩
noncomputable def r1(K:W.Frag)(aB:Str->Option Value)(g:Den.Gt)(fds:List Den.fz)(f:Nat)(x:Str):Prop :=
 ∃fd N st bc kO,fds[f]?=some fd/\Den.lY g N fd st=true/\aB x=some (.ref bc)/\bx.qb K x x st bc kO/\Binds K kO ((gY st).args.map (·.arg)) []
section
variable{P:Program}{w:World}{K:W.Frag}{aB:Str->Option Value}{base:Heap}{xp:b5}{g:Den.Gt}{pg:Den.cI}{fds:List Den.fz}
def AK{N:List Str}{fd:Den.fz}{st:Stmt}(h:Den.lY g N fd st=true):((gY st).args.map (·.arg)).length=fd.np/\u5 N ((gY st).args.map (·.arg)) (gZ st)/\N.length=fd.np+fd.nl/\(∀i∈Den.j6 fd.body,fd.np<=i/\i<N.length) /\
  Den.jJ g ⟨N,gZ st,Den.j6 fd.body⟩ fd.body (kH st)=true:=by
 unfold Den.lY at h
 split at h
 .rename_i name args body sc bind pos;simp only[Wi,Xi,Xd,Wt,bne_iff_ne,ne_eq,WH]at h;obtain⟨⟨⟨⟨⟨⟨⟨⟨⟨⟨⟨⟨⟨⟨⟨aa,h2⟩,h3⟩,h4⟩,h5⟩,d0⟩,_⟩,_⟩,_⟩,_⟩,_⟩,_⟩,hs⟩,ea⟩,ht⟩,o5⟩:=h;have au:(args.args.map (·.arg)).length=fd.np:=by rw[d0,W2];omega
  refine⟨au,⟨aa,h2,h3,h4,?_,λx af=>?_,ea⟩,h5,ht,o5⟩
  .show N.take (args.args.map (·.arg)).length=args.args.map (·.arg)
   rw[au,d0]
  .have af:x∈args.args.map (·.arg):=af
   rw[d0]at af;have:=hs x af;unfold Den.j2 at this;have this:sc.names.lookup x=some .local\/sc.names.lookup x=some .cell:=by simpa using this
   exact this
 .cases h
def BJ (c0 : lH xp g pg K aB base) {n f : Nat} (T : fp P w K aB base xp n g pg (Den.run pg fds n)) {x : Str} {fd : Den.fz} {N : List Str} {st : Stmt} {bc : Addr} {kO : FuncData} (e : fds[f]? = some fd) (cW : Den.lY g N fd st = true) (F : bx.qb K x x st bc kO) :
    jG P w K aB base (iZ P w xp) (n + 1) bc kO ((gY st).args.map (·.arg)) (oe K (Den.run pg fds (n + 1) f) ((gY st).args.map (·.arg)).length) := by
  obtain ⟨au, S, bq, hy, gh⟩ := AK cW
  have Nn : ∀ ds, Den.run pg fds (n + 1) f ds = Den.dc pg (Den.run pg fds n) fd ds := fun ds => by rw [Den.ob, e]
  obtain ⟨fe, c9, eb, doc, pm, an, dq, ct, eM, rfl, lk, hO⟩ := F.ex
  refine Ly lk hO S (fun ai H Q E h => h.1) fun A outer s H ai Q E aZ ⟨aL, G, ds, ag, r, hw⟩ => ?_
  have hv : ds.length = fd.np := by rw [r.length, aL, au]
  rw [Nn] at hw
  unfold Den.dc at hw
  rw [if_pos hv] at hw
  refine ⟨dW xp (l7 (iZ P w xp) P w K aB base N x (gZ st) bc dq A outer s H E) (Den.j6 fd.body) fun J => Den.ei pg (Den.run pg fds n) J fd.body, ?_, ?_⟩
  · refine P6 (ct := ⟨N, gZ st, Den.j6 fd.body⟩) (k := n) (g := g) (Φ := Den.run pg fds n) ⟨T, aZ, aZ.units, rfl, rfl, S.dB, fun i hi => (hy i hi).2, fun x h => h, fun x h => h, fun x h => h⟩ ⟨c0, ⟨rfl, rfl⟩, fun x h => ?_, fun _ => rfl, PassesOwn.leaving⟩ gh
    unfold Den.j2 at h
    have h : (gZ st).names.lookup x = some .local \/ (gZ st).names.lookup x = some .cell := by simpa using h
    exact h
  · refine ⟨G, H, G, Den.start fd ds, S7 ag r bq hv fun i hi => (hy i hi).1, ?_⟩
    show cY (Den.ei pg (Den.run pg fds n) (Den.start fd ds) fd.body) _ _
    generalize Den.ei pg (Den.run pg fds n) (Den.start fd ds) fd.body = gr at hw ⊢
    have hR : ∀ c : Nat, (∀ ao, bz H ao -> E (.int c 0) none ao) -> gU xp (l7 (iZ P w xp) P w K aB base N x (gZ st) bc dq A outer s H E) c H := fun c nB pins σ ao s' e l I cU nw af => by
      obtain ⟨cl, _, rfl, _⟩ := c0.ex
      refine dN.leave (base := base) (outer := outer) I.ok.frames I.stack rfl af fun aa l1 tn jl aq pj => ?_
      have cy : Inv _ pins σ ao { s' with heap := aa } := tS (t' := s'.toks) I nw aq pj
      refine ⟨c, ao, l1, I.os, I.bare, cy.base, cy.bU, cU, fun a aC => ?_, tn, nB ao cU⟩
      have fN : gy (l7 (iZ P w (dN.fH cl)) P w K aB base N x (gZ st) bc dq A outer s H E) pins ao a := (jl a aC).elim (nw a) fun z => .of I z (yJ I.bU z)
      exact ⟨fN.2.1.elim (fun z => nomatch z) id, fN.1⟩
    cases gr with
    | bad => exact hw.elim
    | exc c => exact hR c hw
    | ok ho =>
      cases ho with
      | b6 J => exact fun σ aP ao cC => hw .cM aP ao cC.ext rfl
      | dC d => exact fun v aP ao ext rep => hw v aP ao ext rep
def Ul(c0:lH xp g pg K aB base){n:Nat}(T:fp P w K aB base xp n g pg (Den.run pg fds n))(hd:∀f x,g.fns[f]?=some x->r1 K aB g fds f x):fp P w K aB base xp (n+1) g pg (Den.run pg fds (n+1)):=by
 refine⟨λf x af=>?_,T.blt,T.md⟩
 obtain⟨fd,N,st,bc,kO,e,cW,hm,F,ae⟩:=hd f x af;obtain⟨au,_⟩:=AK cW;exact⟨bc,kO,_,hm,F.f7,ae,BJ c0 T e cW F,λds hv=>by rw[Den.ob,e];unfold Den.dc;exact if_neg (by rw[<- au];exact hv)⟩
theorem Gf(c0:lH xp g pg K aB base)(hd:∀f x,g.fns[f]?=some x->r1 K aB g fds f x)(ae:∀x:Str,x∈oB->aB x=none)(aT:∀(j:Nat)(x:Str)(d:D),g.md[j]?=some x->pg.cs[j]?=some d->∃v u,aB x=some u/\RelV v u/\∀G,Rep K G d v):
  ∀n,fp P w K aB base xp n g pg (Den.run pg fds n)
 |0=>⟨λf x af=>by
   obtain⟨fd,N,st,bc,kO,e,cW,hm,F,ae⟩:=hd f x af;exact⟨bc,kO,_,hm,F.f7,ae,⟨λai H Q E h=>h.1,λA outer s H args us ai Q E _ _ _ _ ⟨_,_,_,_,_,h⟩=>h.elim⟩,λ_ _=>rfl⟩,ae,aT⟩
 |n+1=>Ul c0 (Gf c0 hd ae aT n) hd
end
noncomputable def oA(Q:Nat->Str->Prop):Nat->List Str->Prop
 |_,[]=>True
 |n,x::xs=>Q n x/\oA Q (n+1) xs
theorem oA.get{Q:Nat->Str->Prop}:∀{xs:List Str}{n f:Nat}{x:Str},oA Q n xs->xs[f]?=some x->Q (n+f) x
 |[],_,_,_,_,h=>by simp at h
 |y::xs,n,0,x,q,h=>by simp at h;subst h;exact q.1
 |y::xs,n,f+1,x,q,h=>by
  have:=oA.get (n:=n+1) (f:=f) q.2 (by simpa using h)
  rwa[Nat.add_right_comm,Nat.add_assoc]at this
def K2{us:List Value}(h:us.length=1):∃a,us=[a]:=List.length_eq_one_iff.mp h
def K3{us:List Value}(h:us.length=2):∃a b,us=[a,b]:=by
 match us,h with
 |[a,b],_=>exact⟨a,b,rfl⟩
def K4{us:List Value}(h:us.length=3):∃a b c,us=[a,b,c]:=by
 match us,h with
 |[a,b,c],_=>exact⟨a,b,c,rfl⟩
noncomputable def AllB(K:W.Frag):List Str->Prop
 |[]=>True
 |x::xs=>W.nsIn K mainGlobals x=some none/\AllB K xs
theorem AllB.get{K:W.Frag}{h:Heap}{aB:Str->Option Value}(X:K.In h)(G:h.Ns mainGlobals aB):∀{xs:List Str},AllB K xs->∀x∈xs,aB x=none
 |[],_,x,af=>by simp at af
 |y::ys,q,x,af=>by
  rcases Wo.mp af with rfl|af
  .exact PySem.W.mg_none_of X G q.1
  .exact AllB.get X G q.2 x af
noncomputable def r2(K:W.Frag)(x:Str)(st:Stmt):Prop :=
 ∃(f:Addr)(fe:Value)(c9:Option Addr)(eb doc pm:Value)(an:Option Addr)(dq ct:Value)(eM:Array (Option Value)),W.nsIn K mainGlobals x=some (some (.ref f)) /\
  K.lookup f=some ⟨fe,c9,.func (W.fnOf x x (gY st) (kH st) (gZ st) .none eb doc pm an dq ct),eM⟩/\W.codeIn K dq x=true/\W.keepIn K (.ref f)=true
def J4{K:W.Frag}{x:Str}{st:Stmt}{f:Addr}{fe:Value}{c9:Option Addr}{eb doc pm:Value}{an:Option Addr}{dq ct:Value}{eM:Array (Option Value)}(a:W.nsIn K mainGlobals x=some (some (.ref f)))(l:K.lookup f=some ⟨fe,c9,.func (W.fnOf x x (gY st) (kH st) (gZ st) .none eb doc pm an dq ct),eM⟩)(c:W.codeIn K dq x=true)(k:W.keepIn K (.ref f)=true):r2 K x st:=⟨f,fe,c9,eb,doc,pm,an,dq,ct,eM,a,l,c,k⟩
def eh{K:W.Frag}{h:Heap}{aB:Str->Option Value}{g:Den.Gt}{fds:List Den.fz}{j:Nat}{x:Str}{st:Stmt}{fd:Den.fz}{N:List Str}(X:K.In h)(G:h.Ns mainGlobals aB)(d:r2 K x st)(hf:fds[j]?=some fd)(cW:Den.lY g N fd st=true)(ae:∀(eb doc pm:Value)(an:Option Addr)(dq ct:Value)(us:List Value),us.length=((gY st).args.map (·.arg)).length->bindArgs (W.fnOf x x (gY st) (kH st) (gZ st) .none eb doc pm an dq ct) ⟨us,[]⟩=pure (((gY st).args.map (·.arg)).zip us)):r1 K aB g fds j x:=by
 obtain⟨f,fe,c9,eb,doc,pm,an,dq,ct,eM,a,l,c,k⟩:=d;have F:=BS l c k;exact⟨fd,N,st,f,_,hf,cW,ZP X G a,F,F.binds ae⟩
def L3{K:W.Frag}{x:Str}{u:Value}{i:Int}{t:Tok}(g:W.nsIn K mainGlobals x=some (some u))(e:u=.int i t):∃u,W.nsIn K mainGlobals x=some (some u)/\∃t,u=.int i t:=⟨u,g,t,e⟩
theorem ET{K:W.Frag}{G:az}:∀ns:List Int,bu K G (ns.map Den.D.int) (ns.map V.int)
 |[]=>rfl
 |n::ns=>⟨.int n,ns.map V.int,rfl,rfl,ET ns⟩
def Td{K:W.Frag}{H:az}{a:Addr}{ns:List Int}{gL:List D->bp D}(aS:dF K H a (ns.map V.int))(aW:gL [.lst (ns.map .int)]=.ok (.av true)):oe K gL 1 [.ref a] H (λv _=>v=.av true) λ_ _ _=>False:=by
 refine⟨rfl,H,[.lst (ns.map .int)],bz.refl H,⟨.ref a,[],rfl,⟨a,_,rfl,aS,ET ns⟩,rfl⟩,?_⟩;rw[aW];exact λv aP ao _ r=>r
def JB{P:Program}{w:World}{xp:b5}{outer:List Env}{H:az}{s:Shared}{e:Value}{s':Shared}:iZ P w xp outer H s (λ_ _ _=>False) e s'->False:=λ⟨_,_,_,_,_,_,_,_,_,_,h⟩=>h
noncomputable def jK(K:W.Frag)(g:Den.Gt)(c:Nat):Option Addr:=match g.cls[c]? with
 |some x=>(match W.nsIn K mainGlobals x with|some (some (.ref C))=>some C|_=>none)
 |none=>none
def I2{K:W.Frag}{g:Den.Gt}{c:Nat}{x:Str}{C:Addr}(h:g.cls[c]?=some x)(e:W.nsIn K mainGlobals x=some (some (.ref C))):jK K g c=some C:=by
 unfold jK;rw[h];dsimp only;rw[e]
noncomputable def lL(o:Obj)(C N:Addr)(bm:List Value)(newId:String):Prop:=∃(nm q:Str)(bs:List Value)(hdct:Bool)(sn:List Str)(sub:List Value)(ab:Bool)(col:Option Bool)(dd:Option Addr)(k0 k1 k2 k3 k5:Option Value),o=excClassObj nm q C N bs bm hdct sn sub ab col dd k0 k1 k2 k3 k5 newId
noncomputable def mV(K:W.Frag)(x:Str)(C:Addr)(bm:List Value):Prop:=∃o N i,W.nsIn K mainGlobals x=some (some (.ref C))/\K.lookup C=some o/\lL o C N bm i/\bm.contains (.type "BaseException")=true
noncomputable def u3(K:W.Frag)(x:Str)(C:Addr)(bm:List Value):Prop:=∃o N,W.nsIn K mainGlobals x=some (some (.ref C))/\K.lookup C=some o/\lL o C N bm "ValueError.__new__"/\PySem.W.nsOkIn K N=true/\W.nsIn K N "__init__"=some none/\PySem.W.tailIn K su bm=true/\dN.Plain K C bm
noncomputable def r0(K:W.Frag)(x0 aM bt fQ lF iv:Str):Prop:=∃kl fm km kn ko kp i9 cf dQ d9 fI fJ,(mV K x0 kl i9/\u3 K aM fm cf/\mV K bt km dQ/\mV K fQ kn d9/\mV K lF ko fI/\mV K iv kp fJ) /\
 (Value.ref fm::cf).contains (.ref kl)=true/\(Value.ref fm::cf).contains (.ref km)=false/\(Value.ref fm::cf).contains (.ref kn)=false/\(Value.ref fm::cf).contains (.ref ko)=false/\(Value.ref fm::cf).contains (.ref kp)=false
def I1{K:W.Frag}{x0 aM bt fQ lF iv:Str}{kl fm km kn ko kp Hb vh Hc Hd He Hf:Addr}{o0 iQ il rz n0 n1:Obj}{i9 cf dQ d9 fI fJ:List Value}{iN es mn q8 q9:String}(a0:W.nsIn K mainGlobals x0=some (some (.ref kl)))(l0:K.lookup kl=some o0)(e0:lL o0 kl Hb i9 iN)(h0:i9.contains (.type "BaseException")=true)(a1:W.nsIn K mainGlobals aM=some (some (.ref fm)))(l1:K.lookup fm=some iQ)(e1:lL iQ fm vh cf "ValueError.__new__")(a2:W.nsIn K mainGlobals bt=some (some (.ref km)))(l2:K.lookup km=some il)(e2:lL il km Hc dQ es)(h2:dQ.contains (.type "BaseException")=true)(a3:W.nsIn K mainGlobals fQ=some (some (.ref kn)))(l3:K.lookup kn=some rz)(e3:lL rz kn Hd d9 mn)(h3:d9.contains (.type "BaseException")=true)(a4:W.nsIn K mainGlobals lF=some (some (.ref ko)))(l4:K.lookup ko=some n0)(e4:lL n0 ko He fI q8)(h4:fI.contains (.type "BaseException")=true)(a5:W.nsIn K mainGlobals iv=some (some (.ref kp)))(l5:K.lookup kp=some n1)(e5:lL n1 kp Hf fJ q9)(h5:fJ.contains (.type "BaseException")=true)(n:PySem.W.nsOkIn K vh=true)(i:W.nsIn K vh "__init__"=some none)(t:PySem.W.tailIn K su cf=true)(p1:PySem.W.findIn K (.ref fm) "__class__"=some (some (.builtin "object.__class__")))(p2:PySem.W.findIn K (.ref fm) "__getattribute__"=some (some (.builtin "BaseException.__getattribute__")))(p3:PySem.W.findIn K (.ref fm) "__getattr__"=some none)(p4:cf.contains (.type "object")=true)(p5:cf.contains (.type "BaseException")=true)(m0:(Value.ref fm::cf).contains (.ref kl)=true)(m2:(Value.ref fm::cf).contains (.ref km)=false)(m3:(Value.ref fm::cf).contains (.ref kn)=false)(m4:(Value.ref fm::cf).contains (.ref ko)=false)(m5:(Value.ref fm::cf).contains (.ref kp)=false):r0 K x0 aM bt fQ lF iv :=
 ⟨kl,fm,km,kn,ko,kp,i9,cf,dQ,d9,fI,fJ,⟨⟨_,_,_,a0,l0,e0,h0⟩,⟨_,_,a1,l1,e1,n,i,t,⟨p1,p2,p3,p4,p5⟩⟩,⟨_,_,_,a2,l2,e2,h2⟩,⟨_,_,_,a3,l3,e3,h3⟩,⟨_,_,_,a4,l4,e4,h4⟩,⟨_,_,_,a5,l5,e5,h5⟩⟩,m0,m2,m3,m4,m5⟩
section
variable{K:W.Frag}{h:Heap}{aB:Str->Option Value}{g:Den.Gt}{pg:Den.cI}{c:Nat}{x:Str}{C:Addr}{bm:List Value}
def pI(X:K.In h)(G:h.Ns mainGlobals aB)(aT:g.cls[c]?=some x)(q:mV K x C bm):oG aB h (jK K g) c x C:=by
 obtain⟨o,N,i,a,l,⟨nm,q,bs,hdct,sn,sub,ab,col,dd,k0,k1,k2,k3,k5,rfl⟩,ae⟩:=q;exact⟨I2 aT a,ZP X G a,_,_,_,_,_,_,_,_,_,_,_,_,_,_,_,_,_,X _ _ l,ae⟩
def u3.s(q:u3 K x C bm):mV K x C bm:=by
 obtain⟨o,N,a,l,e,n,i,t,P⟩:=q;exact⟨o,N,_,a,l,e,P.gh⟩
def I7{x0 aM bt fQ lF iv:Str}(X:K.In h)(G:h.Ns mainGlobals aB)(aT:g.cls=[x0,aM,bt,fQ,lF,iv])(aL:W.nsIn K mainGlobals "ValueError"=some none)(q:r0 K x0 aM bt fQ lF iv)(b3:pg.up 1=[1,0,1000]):lH (dN.fH (jK K g)) g pg K aB h:=by
 obtain⟨kl,fm,km,kn,ko,kp,i9,cf,dQ,d9,fI,fJ,⟨iq,aD,aO,bE,cb,gp⟩,m0,m2,m3,m4,m5⟩:=q;have o0:=pI (c:=0) X G (by rw[aT];rfl) iq
 have iQ:=pI (c:=1) X G (by rw[aT];rfl) aD.s
 have il:=pI (c:=2) X G (by rw[aT];rfl) aO
 have rz:=pI (c:=3) X G (by rw[aT];rfl) bE
 have n0:=pI (c:=4) X G (by rw[aT];rfl) cb
 have n1:=pI (c:=5) X G (by rw[aT];rfl) gp
 refine⟨⟨_,fm,rfl,λc z e=>?_,iQ.at_,by rw[b3];rfl,?_⟩,λk aq=>?_,PySem.W.mg_none_of X G aL⟩
 .rw[aT]at e
  match c,e with
  |0,e=>cases e;exact⟨_,o0⟩
  |1,e=>cases e;exact⟨_,iQ⟩
  |2,e=>cases e;exact⟨_,il⟩
  |3,e=>cases e;exact⟨_,rz⟩
  |4,e=>cases e;exact⟨_,n0⟩
  |5,e=>cases e;exact⟨_,n1⟩
  |n+6,e=>cases e
 .obtain⟨o,N,a,l,⟨nm,q,bs,hdct,sn,sub,ab,col,dd,k0,k1,k2,k3,k5,rfl⟩,n,i,t,P⟩:=aD;refine⟨_,_,_,_,cf,N,nm,q,bs,hdct,sn,sub,ab,col,dd,k0,k1,k2,k3,k5,_,F.excBase_ValueError,rfl,X _ _ l,.of_isNs (PySem.W.isNs_of_in X n),PySem.W.nsMap_none_of_in X n i,PySem.W.tail_of_in X t,P,λk D e=>?_⟩
  rw[b3]
  match k,e with
  |0,e=>cases o0.at_.symm.trans e;exact m0
  |1,e=>cases iQ.at_.symm.trans e;simp
  |2,e=>cases il.at_.symm.trans e;exact m2
  |3,e=>cases rz.at_.symm.trans e;exact m3
  |4,e=>cases n0.at_.symm.trans e;exact m4
  |5,e=>cases n1.at_.symm.trans e;exact m5
  |n+6,e=>unfold jK at e;rw[aT]at e;cases e
 .rw[b3]
  match k,aq with
  |0,_=>rfl
  |1,_=>rfl
end
def OU{l:PySem.W.OpenLaw}{w:World}{K:W.Frag}{h:Heap}{aB:Str->Option Value}{bc:Addr}{g:Den.Gt}{pg:Den.cI}{fds:List Den.fz}{xp:b5}{n f:Nat}{st:Stmt}{fd:Den.fz}{N:List Str}{x:Str}(X:K.In h)(G:h.Ns mainGlobals aB)(Mz:aB "law"=some (.ref bc))(dl:r2 K "law" st)(hf:fds[f]?=some fd)(cW:Den.lY g N fd st=true)(af:(gY st).args.map (·.arg)=[x])(xC:∀(eb doc pm:Value)(an:Option Addr)(dq ct:Value)(s:Shared)(u:Value),BindsTo s (W.fnOf "law" "law" (gY st) (kH st) (gZ st) .none eb doc pm an dq ct) ⟨[u],[]⟩ [(x,u)])(T:∀base:Heap,K.In base->base.Ns mainGlobals aB->lH xp g pg K aB base/\fp l.prog w K aB base xp n g pg (Den.run pg fds n)):
  ∃fd:FuncData,(∀(s:Shared)(u:Value),BindsTo s fd ⟨[u],[]⟩ [(x,u)])/\∀base:Heap,K.In base->base.Ns mainGlobals aB->jG l.prog w K aB base (iZ l.prog w xp) (n+1) bc fd [x] (oe K (Den.run pg fds (n+1) f) 1):=by
 obtain⟨Vq,fe,c9,eb,doc,pm,an,dq,ct,eM,a,fu,c,k⟩:=dl;have e:=Mz.symm.trans (ZP X G a);cases e;refine⟨_,xC eb doc pm an dq ct,λbase nS nb=>?_⟩
 have F:=BS fu c k;have:=BJ (T base nS nb).1 (T base nS nb).2 (f:=f) hf cW F;rw[af]at this;exact this
def walk{g:Den.Gt}{l:PySem.W.OpenLaw}{q:Program}{loose:List Str}{b5:(Str->Option Value)->Heap->Prop}{lR:World->Heap->Prop}{d:DefRec}{K:Params->W.Frag}{pg:Den.cI}{fds:List Den.fz}{n f:Nat}{x:Str}(aw:l.most=some 63)(qT:d.params.defaults=[])(aZ:n<=40)(aW:∀ns:List Int,Den.run pg fds n f [.lst (ns.map .int)]=.ok (.av true))(f3:∀(w:World)(h:Heap),lR w h->(K w.params).In h)(F:∀(w:World)(aB:Str->Option Value)(bc:Addr)(h:Heap),(K w.params).In h->h.Ns mainGlobals aB->aB d.name=some (.ref bc) ->
   ∃fd:FuncData,(∀(s:Shared)(u:Value),BindsTo s fd ⟨[u],[]⟩ [(x,u)])/\∀base:Heap,(K w.params).In base->base.Ns mainGlobals aB->jG l.prog w (K w.params) aB base (iZ l.prog w (dN.fH (jK (K w.params) g))) n bc fd [x] (oe (K w.params) (Den.run pg fds n f) 1)):
  PySem.W.WalkO q loose b5 lR l.row.toRowW d [] (λf ai=>PySem.call f ai) :=
 bx.U1 (n:=63) (k:=n) (x:=x) (CX:=λw=>iZ l.prog w (dN.fH (jK (K w.params) g))) (sp:=λw=>oe (K w.params) (Den.run pg fds n f) 1) aw (by decide) qT (fE.mono (⟨rfl,by decide,by decide⟩:fE 40 callerA) aZ) f3 F (λw H a ns _ _ aS=>Td aS (aW ns)) λ_ _ _ _ _ z=>JB z
end bD
end
section
set_option Elab.async false
namespace r6
open PySem PySem.Spec PyProof.Rows bx bD
noncomputable def tB:List Nat:=[9,10,11,12,13,14,15,16,17,18,20,22,23,24,25,26,27,28,29,30,31,32,33,34,35,36,37,38]
noncomputable def st(j:Nat):Stmt:=PySem.Challenge.pw_holeyard_k02_written.main.body.getD (tB.getD j 0) (.Pass ⟨0,0,0,0⟩)
def IZ:((List.range 28).all λj=>Den.lY ep.gt (ep.DW.getD j []) (ep.fds.getD j ⟨0,0,.nil⟩) (st j))=true:=by decide +kernel
def cW(j:Nat)(h:j<28):Den.lY ep.gt (ep.DW.getD j []) (ep.fds.getD j ⟨0,0,.nil⟩) (st j)=true:=Wt.mp IZ j (WN.mpr h)
structure Txt(K:W.Frag):Prop where
 ds:oA (λj x=>r2 K x (st j)) 0 ep.gt.fns
 av:AllB K oB
 kP:∃u,W.nsIn K mainGlobals "MOST_CORNERS"=some (some u)/\∃t,u=.int 8 t
 ou:W.nsIn K mainGlobals "ValueError"=some none
 cl:r0 K "HoleError" "NoNet" "NoText" "NoRound" "NotFree" "NoRoom"
section
variable{K:W.Frag}{h:Heap}{aB:Str->Option Value}
theorem fns(X:K.In h)(G:h.Ns mainGlobals aB)(t:Txt K):oA (r1 K aB ep.gt ep.fds) 0 ep.gt.fns:=by
 obtain⟨nq,dg,fj,kF,wt,wu,JU,JV,JW,JX,JC,JD,JE,JF,JG,JH,JI,JJ,JK,JL,JM,JN,JO,JP,JQ,JR,JS,JT,-⟩:=t.ds;refine⟨eh X G nq rfl (cW 0 (by decide)) ?_,eh X G dg rfl (cW 1 (by decide)) ?_,eh X G fj rfl (cW 2 (by decide)) ?_,eh X G kF rfl (cW 3 (by decide)) ?_,eh X G wt rfl (cW 4 (by decide)) ?_,eh X G wu rfl (cW 5 (by decide)) ?_,eh X G JU rfl (cW 6 (by decide)) ?_,eh X G JV rfl (cW 7 (by decide)) ?_,eh X G JW rfl (cW 8 (by decide)) ?_,eh X G JX rfl (cW 9 (by decide)) ?_,eh X G JC rfl (cW 10 (by decide)) ?_,eh X G JD rfl (cW 11 (by decide)) ?_,eh X G JE rfl (cW 12 (by decide)) ?_,eh X G JF rfl (cW 13 (by decide)) ?_,eh X G JG rfl (cW 14 (by decide)) ?_,eh X G JH rfl (cW 15 (by decide)) ?_,eh X G JI rfl (cW 16 (by decide)) ?_,eh X G JJ rfl (cW 17 (by decide)) ?_,eh X G JK rfl (cW 18 (by decide)) ?_,eh X G JL rfl (cW 19 (by decide)) ?_,eh X G JM rfl (cW 20 (by decide)) ?_,eh X G JN rfl (cW 21 (by decide)) ?_,eh X G JO rfl (cW 22 (by decide)) ?_,eh X G JP rfl (cW 23 (by decide)) ?_,eh X G JQ rfl (cW 24 (by decide)) ?_,eh X G JR rfl (cW 25 (by decide)) ?_,eh X G JS rfl (cW 26 (by decide)) ?_,eh X G JT rfl (cW 27 (by decide)) ?_,trivial⟩<;>intro _ _ _ _ _ _ us au<;>first|(obtain⟨_,rfl⟩:=K2 au;rfl)|(obtain⟨_,_,rfl⟩:=K3 au;rfl)|(obtain⟨_,_,_,rfl⟩:=K4 au;rfl)
def cq{P:Program}{w:World}(X:K.In h)(G:h.Ns mainGlobals aB)(t:Txt K)(base:Heap)(nS:K.In base)(nb:base.Ns mainGlobals aB):lH (dN.fH (jK K ep.gt)) ep.gt ep.pg K aB base/\fp P w K aB base (dN.fH (jK K ep.gt)) 20 ep.gt ep.pg (Den.run ep.pg ep.fds 20):=by
 have aj:lH (dN.fH (jK K ep.gt)) ep.gt ep.pg K aB base:=by
  exact I7 nS nb rfl t.ou t.cl rfl
 refine⟨aj,?_⟩;refine Gf aj (λf x e=>by have:=(fns X G t).get e;rwa[YR]at this) (AllB.get X G t.av) (λj x d e1 e2=>?_) _
 match j,e1,e2 with
 |0,e1,e2 =>
  cases e1;cases e2;obtain⟨_,q,tk,rfl⟩:=t.kP;exact⟨.int 8,.int 8 tk,ZP X G q,⟨tk,rfl⟩,λ_=>rfl⟩
 |j+1,e1,e2=>cases e1
end
end r6
noncomputable def PySem.W.Fast.tw10880731479503048060:=PySem.Challenge.pw_holeyard_k02_written
theorem PySem.W.Fast.te10880731479503048060:PySem.Challenge.pw_holeyard_k02_written=PySem.W.Fast.tw10880731479503048060:=rfl
noncomputable def PySem.W.Fast.tw15457000434923237584:=()
noncomputable def PySem.W.Fast.tw8811139133654134978:=()
noncomputable def PySem.W.Fast.tw8327699089739591820:=()
noncomputable def PySem.W.Fast.tw16131233938886055783:=()
noncomputable def PySem.W.Fast.tw4405485686955759437:=()
noncomputable def PySem.W.Fast.tw3528352682296294351:=()
noncomputable def PySem.W.Fast.tw1944225742351781837:=()
noncomputable def PySem.W.Fast.tw11309944565944969033:=()
noncomputable def PySem.W.Fast.tw13482891770808522238:=()
noncomputable def PySem.W.Fast.tw3572217970594395288:=()
noncomputable def PySem.W.Fast.tw18313494047414371209:=()
noncomputable def PySem.W.Fast.tw295182998694449495:=()
noncomputable def PySem.W.Fast.tw13269028128099430218:=()
noncomputable def PySem.W.Fast.tw2235989539825384942:=()
noncomputable def PySem.W.Fast.tw11307545187567333252:=()
noncomputable def PySem.W.Fast.tw16858601727781290846:=()
noncomputable def PySem.W.Fast.tw2529680635756480529:=()
noncomputable def PySem.W.Fast.tw18025903354276875456:=()
noncomputable def PySem.W.Fast.tw9142543894115043208:=()
noncomputable def PySem.W.Fast.tw18216107297912651759:=()
noncomputable def PySem.W.Fast.tw9751486864617508139:=()
noncomputable def PySem.W.Fast.tw7580310486095936055:=()
noncomputable def PySem.W.Fast.tw6517158056590083277:=()
noncomputable def PySem.W.Fast.tw12433495740208952671:=()
noncomputable def PySem.W.Fast.tw3226750920823153994:=()
noncomputable def PySem.W.Fast.tw3050704848679425269:=()
noncomputable def PySem.W.Fast.tw17582052161746680957:=()
noncomputable def PySem.W.Fast.tw10128193459297480929:=()
noncomputable def PySem.W.Fast.tw17500417266114381824:=()
noncomputable def PySem.W.Fast.tw18326509215452078175:=()
noncomputable def PySem.W.Fast.tw11168409852788285437:=()
noncomputable def PySem.W.Fast.tw6634962891623849894:=()
noncomputable def PySem.W.Fast.tw5136630292912307179:=()
noncomputable def PySem.W.Fast.tw17125937046798752480:=()
noncomputable def PySem.W.Fast.tw6251928628487456698:=()
noncomputable def PySem.W.Fast.tw4499005510733204449:=()
noncomputable def PySem.W.Fast.tw575481549621763344:=()
noncomputable def PySem.W.Fast.tw12632892757661017414:=()
noncomputable def PySem.W.Fast.tw2020535425267706362:=()
noncomputable def PySem.W.Fast.tw10172525532847957842:=()
noncomputable def PySem.W.Fast.tw2243387387361916251:=()
noncomputable def PySem.W.Fast.tw5328025057524448034:=()
noncomputable def PySem.W.Fast.tw13678183300992506649:=()
noncomputable def PySem.W.Fast.tw9957113637460290101:=()
noncomputable def PySem.W.Fast.tw1207167334012625105:=()
noncomputable def PySem.W.Fast.tw17151227961174933295:=()
noncomputable def PySem.W.Fast.tw15788483665844692904:=()
noncomputable def PySem.W.Fast.tw4847608611733331883:=()
noncomputable def PySem.W.Fast.tw12771877281770606945:=()
noncomputable def PySem.W.Fast.tw1687776702576167793:=()
noncomputable def PySem.W.Fast.tw10897316595616757585:=()
noncomputable def PySem.W.Fast.tw17165759322942142189:=()
noncomputable def PySem.W.Fast.tw18374795671394240241:=()
noncomputable def PySem.W.Fast.tw8638542293585650411:=()
noncomputable def PySem.W.Fast.tw3489848313582352198:=()
noncomputable def PySem.W.Fast.tw4820178536448145155:=()
noncomputable def PySem.W.Fast.tw16842512666245301515:=()
noncomputable def PySem.W.Fast.tw16405642582832722284:=()
noncomputable def PySem.W.Fast.tw4459133504683163986:=()
noncomputable def PySem.W.Fast.tw9513827736647722894:=()
noncomputable def PySem.W.Fast.tw10116290735508586052:=()
noncomputable def PySem.W.Fast.tw12761756853475830650:=()
noncomputable def PySem.W.Fast.tw12316760140708253858:=()
noncomputable def PySem.W.Fast.tw14423123699421580032:=()
noncomputable def PySem.W.Fast.tw7419182383098636957:=()
noncomputable def PySem.W.Fast.tw15711531535664512800:=()
noncomputable def PySem.W.Fast.tw7113802917784334712:=()
noncomputable def PySem.W.Fast.tw14685535426509621477:=()
noncomputable def PySem.W.Fast.tw1490417373909783378:=()
noncomputable def PySem.W.Fast.tw12194635746194370159:=()
noncomputable def PySem.W.Fast.tw6869805903467518711:=()
noncomputable def PySem.W.Fast.tw1938248510898446287:=()
noncomputable def PySem.W.Fast.tw15341246428101899005:=()
noncomputable def PySem.W.Fast.tw17071177938709295865:=()
noncomputable def PySem.W.Fast.tw11051094719287608693:=()
noncomputable def PySem.W.Fast.tw9824604001441932170:=()
noncomputable def PySem.W.Fast.tw6634881592166503667:=()
noncomputable def PySem.W.Fast.tw8493001822414107383:=()
noncomputable def PySem.W.Fast.tw3398494391241895940:=()
noncomputable def PySem.W.Fast.tw736374022360175156:=()
noncomputable def PySem.W.Fast.tw236635824789408814:=()
noncomputable def PySem.W.Fast.tw15689247223795225015:=()
noncomputable def PySem.W.Fast.tw5175639797710184539:=()
noncomputable def PySem.W.Fast.tw16189153373719576818:=()
noncomputable def PySem.W.Fast.tw9528895231518865911:=()
noncomputable def PySem.W.Fast.tw16438568084151214601:=()
noncomputable def PySem.W.Fast.tw6516100536916533542:=()
noncomputable def PySem.W.Fast.tw9211148045148718810:=()
noncomputable def PySem.W.Fast.tw1406954028344885910:=()
noncomputable def PySem.W.Fast.tw1397297781858778386:=()
noncomputable def PySem.W.Fast.tw15920318946505329580:=()
noncomputable def PySem.W.Fast.tw3629708308885373474:=()
noncomputable def PySem.W.Fast.tw10902864558267375570:=()
noncomputable def PySem.W.Fast.tw5166996638936002823:=()
noncomputable def PySem.W.Fast.tw15773795219277151169:=()
noncomputable def PySem.W.Fast.tw435004899457394033:=()
noncomputable def PySem.W.Fast.tw218807732619361740:=()
noncomputable def PySem.W.Fast.tw4130757341353089667:=()
noncomputable def PySem.W.Fast.tw17334138648330266737:=()
noncomputable def PySem.W.Fast.tw15915574001183645617:=()
noncomputable def PySem.W.Fast.tw13341033407615628014:=()
noncomputable def PySem.W.Fast.tw3084113697078783534:=()
noncomputable def PySem.W.Fast.tw6688545276203330597:=()
noncomputable def PySem.W.Fast.tw12670970976631991076:=()
noncomputable def PySem.W.Fast.tw8352756119599728037:=()
noncomputable def PySem.W.Fast.tw13241387704597542165:=()
open PySem PySem.W PyProof.Rows
set_option maxRecDepth 100000 in
set_option maxHeartbeats 0 in
theorem PySem.Challenge.cw_holeyard_k02_written_holds : PySem.Challenge.rw_holeyard_k02_written.Holds := by
 w_on;o_law;k_head;(case hw=>w_witness2)
 k_fill
 refine bD.walk (g:=ep.gt) (l:=PySem.Challenge.rw_holeyard_k02_written) (pg:=ep.pg) (fds:=ep.fds) (n:=21) (f:=27) (x:="_law_script") rfl rfl (by decide) se.T4 (λw h Y=>PySem.W.kIn_of Y) ?F
 case F =>
  intro w aB bc h hG G nJ;have kP:∃u,W.nsIn (bx.oF hG) mainGlobals "MOST_CORNERS"=some (some u)/\∃t,u=.int 8 t:=by
   dsimp only[bx.oF];refine' bD.L3 ?g ?e
   (case g=>k_is);(case e=>rfl)
  have cl:bD.r0 (bx.oF hG) "HoleError" "NoNet" "NoText" "NoRound" "NotFree" "NoRoom":=by
   dsimp only[bx.oF];refine' bD.I1 ?a0 ?l0 ?e0 ?h0 ?a1 ?l1 ?e1 ?a2 ?l2 ?e2 ?h2 ?a3 ?l3 ?e3 ?h3 ?a4 ?l4 ?e4 ?h4 ?a5 ?l5 ?e5 ?h5 ?n ?i ?t ?p1 ?p2 ?p3 ?p4 ?p5 ?m0 ?m2 ?m3 ?m4 ?m5
   (case a0=>k_is);(case l0=>k_is);(case e0=>exact⟨_,_,_,_,_,_,_,_,_,_,_,_,_,_,rfl⟩);(case h0=>rfl);(case a1=>k_is);(case l1=>k_is);(case e1=>exact⟨_,_,_,_,_,_,_,_,_,_,_,_,_,_,rfl⟩);(case a2=>k_is);(case l2=>k_is);(case e2=>exact⟨_,_,_,_,_,_,_,_,_,_,_,_,_,_,rfl⟩);(case h2=>rfl);(case a3=>k_is);(case l3=>k_is);(case e3=>exact⟨_,_,_,_,_,_,_,_,_,_,_,_,_,_,rfl⟩);(case h3=>rfl);(case a4=>k_is);(case l4=>k_is);(case e4=>exact⟨_,_,_,_,_,_,_,_,_,_,_,_,_,_,rfl⟩);(case h4=>rfl);(case a5=>k_is);(case l5=>k_is);(case e5=>exact⟨_,_,_,_,_,_,_,_,_,_,_,_,_,_,rfl⟩);(case h5=>rfl);(case n=>kernel_rfl);(case i=>k_is);(case t=>kernel_rfl);(case p1=>k_is);(case p2=>k_is);(case p3=>k_is);(case p4=>rfl);(case p5=>rfl);(case m0=>rfl);(case m2=>rfl);(case m3=>rfl);(case m4=>rfl);(case m5=>rfl)
  have t:r6.Txt (bx.oF hG):=by
   refine⟨⟨?_,?_,?_,?_,?_,?_,?_,?_,?_,?_,?_,?_,?_,?_,?_,?_,?_,?_,?_,?_,?_,?_,?_,?_,?_,?_,?_,?_,trivial⟩,⟨?_,?_,?_,?_,?_,?_,?_,?_,?_,?_,?_,?_,?_,trivial⟩,kP,?_,cl⟩<;>dsimp only[bx.oF]<;>first|(refine' bD.J4 ?a ?l ?c ?k;(case a=>k_is);(case l=>k_is);(case c=>k_is);(case k=>k_is))|k_is
  exact bD.OU hG G nJ (t.ds.get (f:=27) rfl) rfl (r6.cW 27 (by decide)) rfl (λ_ _ _ _ _ _ s u=>.of_eq rfl) (r6.cq hG G t)
end
